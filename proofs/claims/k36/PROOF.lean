import PyProof.Rows.All
import Wide.All
import OpenK.AllK
import Wide.FinOn
import Lean
import PyProof.TupleKey
import PyProof.IsRules
import PyProof.DictKeyH
import PyProof.EqAt
import PyProof.EqKinds
import PyProof.TupleCall
import PyProof.Cells
import PyProof.NeKinds
import KE.IntBitsLaws
import KE.KDictList
import KE.KRevIter
import KE.KSortTup
import KE.KDictSum
import PyProof.EnumMake
import PyProof.EnumFor
import PyProof.LayNew
import PyProof.Rows.EnumRows
import PyProof.SumAny
import PyProof.ListRange
import PyProof.FString5
import PyProof.CollectIter
import PyProof.TupleOfSeq
import PyProof.Rows.Tup
import OpenK.KRaise
import PyProof.StationsW
import KE.KTryMore
import PyProof.NsDelKeeps
import KE.KEqDict
import PyProof.ExcArgs
import PyProof.Draws
import PyProof.ZipIter
import PyProof.Rows.ZipGen
import PyProof.DictWalks
import PyProof.Conv_int_bool
import PyProof.Rows.SeqMore
import PyProof.Rows.SetFrom
import PyProof.SetRoads
import PyProof.MeetsSeq2
import PyProof.FactsAll.NoneType_1
import PyProof.DictFindH
import PyProof.DictRoadsH
import PyProof.AttrMissHeap
import KE.KDictOf
import PyProof.Rows.StrJoin2
import PyProof.FactsAll.object_1
import PySem.Challenge.RW_endwise_k36_no_ranks
open Array renaming getElem?_eq_getElem -> m8, length_toList -> lC, getElem?_toList -> oj, getD_eq_getD_getElem? -> xz, mem_toList_iff -> Bi, forIn_toList -> DJ, eq_empty_of_size_eq_zero -> O0, getD -> Bw, toList_push -> HS, toList_inj -> Hz
open Bool renaming and_eq_true -> eX, false_ne_true -> h8, false_eq_true -> nY, or_eq_true -> wh, not_true -> sQ, eq_iff_iff -> Bb, or_false -> D5
open Classical renaming propDecidable -> sC, byContradiction -> E2
open False renaming elim -> l7
open ForInStep renaming yield -> El
open Function renaming comp_def -> HC
open Int renaming toNat_natCast -> Bn, fdiv_eq_ediv_of_nonneg -> F4, emod_nonneg -> C8, emod_lt_of_pos -> EW
open List renaming getElem?_eq_getElem -> cH, length_map -> cg, mem_cons_of_mem -> dZ, size_toArray -> dq, mem_cons_self -> ez, mem_cons -> dk, length_cons -> fb, getElem?_append_right -> lF, mem_map -> c4, mem_singleton -> g8, getElem?_eq_some_iff -> m9, length_append -> iE, map_cons -> fF, getElem?_append_left -> nz, getElem?_map -> jF, mem_range -> ic, mem_append -> i3, all_eq_true -> lI, getElem?_eq_none -> oO, range -> fK, append_assoc -> nH, mem_append_right -> pf, getElem?_cons_succ -> rY, map_map -> lG, lookup -> i4, mem_of_getElem? -> sI, getElem?_replicate -> va, getElem_mem -> qd, append_nil -> o8, mem_flatMap -> rc, lookup_cons -> rN, mem_append_left -> ut, getElem?_set_self -> y4, length_nil -> sG, getD_eq_getElem?_getD -> CQ, take_of_length_le -> BC, pairwise_map -> wr, pairwise_iff_getElem -> CO, nodup_cons -> ti, map_append -> tL, zip_cons_cons -> AI, length_range -> AX, length_take -> Ab, pairwise_cons -> By, find?_cons -> Al, all_cons -> vO, map_congr_left -> CM, length_eq_zero_iff -> E7, mem_filterMap -> BQ, mem_iff_getElem? -> E1, ext_getElem? -> BK, getElem?_set_ne -> DQ, mem_iff_getElem -> Ep, mem_of_mem_take -> EY, mem_of_mem_drop -> EZ, drop_eq_getElem_cons -> GR, length_drop -> B7, any_eq_true -> Dg, filterMap_cons -> DP, length_erase_of_mem -> GA, toArray -> AK, any_cons -> Br, contains_cons -> ER, nil_append -> Dj, append_cancel_left -> IR, getElem?_cons_zero -> L4, set_cons_succ -> Fj, length_pos_of_mem -> GB, drop_eq_nil_of_le -> GV, drop_of_length_le -> HV, getElem_cons_drop -> Mc, length_filterMap_eq_countP -> OK, replicate -> B4, nodup_nil -> Cf, length_singleton -> Gr, take_append_drop -> Iq, set_append_right -> L6, nodup_range -> Ev, not_mem_nil -> E6, range'_succ -> Fk, mem_erase_of_ne -> Gz, range_eq_range' -> L8, mem_filter -> DN, foldl_cons -> E3, mem_map_of_mem -> Me, map -> tM, find?_eq_none -> Iu, findIdx?_cons -> IQ, length_zipIdx -> L9, any_eq_false -> F8, take_sublist -> Gi, nodup_append -> HD, flatMap_cons -> HE, contains_nil -> LU, length -> B5, map_drop -> Fp, map_take -> Fs, getElem_inj -> FC, cons_append -> IL
open List.Nodup renaming length_le_of_subset -> P6
open List.Pairwise renaming imp -> Mf
open List.Perm renaming refl -> tN, swap -> HA
open List.cons renaming injEq -> rZ, inj -> DK
open Nat renaming le_refl -> bf, le_trans -> dw, lt_of_lt_of_le -> gT, ne_of_lt -> dH, zero_le -> i5, lt_irrefl -> rj, le_add_right -> AU, le_succ -> rF, zero_add -> wp, not_lt_zero -> BE, lt_succ_of_lt -> EQ, add_zero -> BD, lt_succ_self -> D2, le_of_not_lt -> Ec, mul_le_mul_right -> IV, le_of_lt -> BM, lt_of_le_of_lt -> Gy, le_of_lt_succ -> Im, lt_trans -> Eb, succ_mul -> EE, succ_pos -> EV
open Ne renaming symm -> lD
open Option renaming map_eq_some_iff -> vN, isSome_iff_exists -> Bl, isSome_map -> Gu, getD_none -> Go
open Option.some renaming inj -> ie, injEq -> BG
open Or renaming inr -> rg
open Prod renaming ext -> vl
open PyProof.Rows renaming boot_tuple -> sx, slot_tuple_getitem -> Af, callWith_type1 -> DY, boot_all -> Fg, envOfC -> lE, boot_isinstance -> CD, seqObj -> mh, get?_update_seq -> Ew, AllBare -> sE
open PyProof.Rows.F renaming plain_set_update_loop -> Ix, entry_set_update_loop -> OO
open PySem renaming wpAny_bind -> ay, wpAny_pure -> aR, starEach -> bB, sizeLine -> aV, Shared -> aH, mainGlobals -> bt, Program -> bQ, Around -> cf, attributeBase -> mz, tupleKeyHash -> mj, boot_len -> og, wpAny_holding -> nA, backTo -> gz, compareOp -> iD, wpAny_truthy_bool -> rB, wpAny_newObj_type -> rE, bootBuiltins -> n4, IsTupleKey -> mR, keywordEach -> n8, swapsWith -> lK, wpAny_callSpecial?_slot -> Bo, wpAny_mono -> nq, wpAny_call_entry -> tq, foldedSetIterable -> u1, mem_of_lookup -> Ac, sysModules -> om, sizeLine_eq -> pi, wpAny_typeNameOfWhole_keyiter -> Ex, SetTable -> mi, intKind -> iZ, binaryOp -> my, assignEach -> pe, wpAny_execs_nil -> y6, wpAny_passesOwn -> zt, wpAny_typeNameOf_keyiter -> Ez, codeAny_builtin -> AR, wpAny_setState_of -> BA, codeAny_mono -> tf, behindInMarks -> u2, backToKw -> n6, Keyword -> l9, Builtin -> ms, wpAny_Call_Name_kw -> B2, tupleKind -> qk, wpAny_pyIter_list -> Cn, ofAClassStatement -> Dc, wpAny_seqItems -> Bc, carriedByValue -> BF, wpAny_forIn_list -> BL, wpAny_execs_cons -> BN, FuncData -> pk, wpAny_rule -> sT, wpAny_loadPart' -> Cq, codeAny -> oR, wpAny_field -> Ae, sliceBounds -> Ai, wpAny_pyIter_enum -> EG, wpAny_typeOf -> Bp, wpAny_isOneOf_keyiter -> Hx, wpAny_isInstance -> DL, wpAny_askSetting -> E5, wpAny_loadName_local -> FG, codeAny_call_builtin -> HN, strLen_append -> CA, wpAny_call -> zP, Paired -> nZ, wpAny_loadName_cell -> FH, storedH -> qJ, scanBound -> xg, getItem -> rG, wpAny_fieldsOf -> Ey, wpAny_setField -> EA, wpAny_Name -> Bg, getMethod -> zD, call_meets -> Bq, holding -> sF, standAt -> sS
open PySem.Around renaming under_plainId -> C4
open PySem.Builtin.Dict renaming updateFrom -> Ou, pairItems -> Oq, showsAll -> NE
open PySem.Builtin.Dict_items renaming ownsTuple -> NH
open PySem.Builtin.Frozenset renaming isAnySet -> ES, difference -> IC, addrOf -> ID, unchanged -> O1, slot1 -> O2
open PySem.Builtin.Int renaming intBits -> AG
open PySem.Builtin.List renaming listTooLong -> D7
open PySem.Builtin.Slice renaming slicePlaces -> D4, sliceAdjust -> MI
open PySem.Builtin.SmallTypes renaming nextOf -> EN
open PySem.Builtin.Str renaming strSliceIndices -> qZ, occurrences -> F5
open PySem.Builtin.Tuple renaming tupleItemsOf -> MJ, tupleHashOf -> Mo
open PySem.F renaming slot_dict_keyiterator_next -> CP, plainAttrs_list -> Cr, slot_tuple_iterator_next -> EO, called_set -> xI, args_dict_keyiterator_next_1 -> NG, entry_dict_keyiterator_next -> NF, slot_list_getattribute -> HW, slot_list_append -> Gq, slot_list_extend -> Gs, excBase_ValueError -> Ps
open PySem.Heap renaming get?_push_of_some -> dc, get?_push_size -> gp, lt_size -> cL, SameBut -> rA, get?_update_other -> D6, size_push -> Bk, get?_update_self -> Hy
open PySem.Heap.SameBut renaming update -> Bx
open PySem.Heap.TracedAtW renaming there -> Od
open PySem.MeetsSeq2 renaming wpAny_forIn_array -> Op
open PySem.NameKind renaming free -> Ay, cell -> Az
open PySem.Obj renaming data_mapFields -> EB, mapSeq -> vu, putSet -> Dd
open PySem.Paired renaming length -> Bd
open PySem.PassesOwn renaming never -> mr, leaving -> Kh
open PySem.SetTable renaming below -> nk, turns -> sO, sizeAbove -> Db, insertAt_perm -> Ir, grown -> E4
open PySem.SetTable.below renaming go -> EX
open PySem.SetTable.layClean renaming free -> C9
open PySem.SetTable.probe renaming go -> xD
open PySem.Value renaming ref -> cK, none -> oP, bool -> t7, type -> yS, isInt_shape -> Fy
open PySem.W renaming Frag -> aG, nsIn -> bL, mg_of -> gS, kitOne -> gX, findIn -> iP, mg_none_of -> oM, keepIn -> l8, kia_one -> qv, emptyDict -> u5, makesIn -> sY, fnOf -> qI, instObj -> t9, plainGet -> zC, kitAny -> xc, hasDictIn -> Bj, callWith_K -> B3, plainOver -> BX, excIn -> AN, codeIn -> Ad, methodCall_KW -> Gg, plainGet_of -> F9, lookIn -> DZ, looks_findIn -> D1, exmOne -> EJ, specialIn -> BZ, isFn -> D0, takerIn -> Ga, OpenLaw -> Cg
open PySem.W.Looks renaming ld -> wP
open PySem.pickOrder renaming go -> BB
open Sum renaming inl -> ri, inr -> sD
open True renaming intro -> qu
noncomputable section
set_option compiler.extract_closed false
set_option bootstrap.genMatcherCode false
set_option genSizeOfSpec false
set_option Elab.async false
set_option linter.all false
set_option maxRecDepth 100000
set_option maxHeartbeats 4000000
namespace M
open PySem PyProof.Rows
open PySem.SeqAt (EqAt RcAt)
inductive NK where
 |int (i:Int)|str (x:Str)|ap (l:List NK)
noncomputable instance Mn:DecidableEq NK:=λ_ _=>sC _
mutual
def NK.at (h:Heap):NK->Value->Prop
 | .int i,v=> ∃t,v= .int i t
 | .str x,v=> ∃t,v= .str x t
 | .ap l,v=> ∃a c,v= .ref a/\IsTup h a c/\NK.oi h l c.toList
def NK.oi (h:Heap):List NK->List Value->Prop
 | [],a=>a=[]
 |k::l,a=> ∃u c,a=u::c/\NK.at h k u/\NK.oi h l c
end
mutual
def NK.cp:NK->Nat
 | .ap l=>NK.du l+1
 |_=>0
def NK.du:List NK->Nat
 | []=>0
 |k::l=>max (NK.cp k) (NK.du l)
end
mutual
def NK.draws:NK->Nat
 | .ap l=>NK.fN l+1
 |_=>1
def NK.fN:List NK->Nat
 | []=>0
 |k::l=>NK.draws k+NK.fN l
end
mutual
def NK.hash (w:World):NK->Int
 | .int i=>hashInt i
 | .str x=>hashStr w x
 | .ap l=>reduceHash (Mo (NK.iC w l))
def NK.iC (w:World):List NK->List Int
 | []=>[]
 |k::l=>NK.hash w k::NK.iC w l
end
def NK.ind {P:NK->Prop} (h1: ∀i,P (.int i)) (h2: ∀x,P (.str x)) (h3: ∀l,(∀k∈l,P k)->P (.ap l)) (k:NK):P k:=
 NK.rec (motive_1:=P) (motive_2:=λl=> ∀k∈l,P k) h1 h2 h3 (λ_ h=>by cases h) (λk l hk hl q a=>by
  rcases dk.mp a with e|e
  . rw [e];exact hk
  . exact hl q e) k
def cW {h:Heap} {i:Int} {v:Value}:NK.at h (.int i) v↔ ∃t,v= .int i t:=by simp only [NK.at]
def cX {h:Heap} {x:Str} {v:Value}:NK.at h (.str x) v↔ ∃t,v= .str x t:=by simp only [NK.at]
def cY {h:Heap} {l:List NK} {v:Value}:NK.at h (.ap l) v↔ ∃a c,v= .ref a/\IsTup h a c/\NK.oi h l c.toList:=by simp only [NK.at]
def gm {h:Heap} {a:List Value}:NK.oi h [] a↔a=[]:=by simp only [NK.oi]
def df {h:Heap} {k:NK} {l:List NK} {a:List Value}:NK.oi h (k::l) a↔ ∃u c,a=u::c/\NK.at h k u/\NK.oi h l c:=by simp only [NK.oi]
theorem Z1 {h:Heap}: ∀ {l:List NK} {a:List Value},NK.oi h l a->a.length=l.length
 | [],a,x=>by rw [gm.mp x];rfl
 |k::l,a,x=>by
  obtain ⟨u,c,rfl,_,y⟩:=df.mp x;rw [fb,fb,Z1 y]
theorem Z2 {h:Heap}: ∀ {l:List NK} {a:List Value} {j:Nat} {k:NK} {u:Value},NK.oi h l a->l[j]?=some k->a[j]?=some u->NK.at h k u
 | [],a,j,k,u,x,c,e=>by cases c
 |k'::l,a,j,k,u,x,c,e=>by
  obtain ⟨i,m,rfl,g,y⟩:=df.mp x
  cases j with
  |zero=>cases c;cases e;exact g
  |succ j=>exact Z2 y c e
theorem XC {k:NK}: ∀ {l:List NK},k∈l->NK.cp k<=NK.du l
 | [],h=>by cases h
 |k'::l,h=>by
  simp only [NK.du];rcases dk.mp h with e|e
  . rw [e];omega
  . have:=XC e;omega
def Mp {h:Heap} (x:NK): ∀(y:NK) (v:Value),NK.at h x v->NK.at h y v->x=y:=by
 induction x using NK.ind with
 |h1 i=>
  intro y v p c;obtain ⟨t,rfl⟩:=cW.mp p
  cases y with
  |int j=>obtain ⟨q,e⟩:=cW.mp c;cases e;rfl
  |str z=>obtain ⟨q,e⟩:=cX.mp c;cases e
  |ap l=>obtain ⟨a,g,e,_⟩:=cY.mp c;cases e
 |h2 z=>
  intro y v p c;obtain ⟨t,rfl⟩:=cX.mp p
  cases y with
  |int j=>obtain ⟨q,e⟩:=cW.mp c;cases e
  |str z=>obtain ⟨q,e⟩:=cX.mp c;cases e;rfl
  |ap l=>obtain ⟨a,g,e,_⟩:=cY.mp c;cases e
 |h3 l L=>
  intro y v p c;obtain ⟨a,g,rfl,⟨o,N,_,n,hd⟩,H⟩:=cY.mp p
  cases y with
  |int j=>obtain ⟨q,e⟩:=cW.mp c;cases e
  |str z=>obtain ⟨q,e⟩:=cX.mp c;cases e
  |ap m=>
   obtain ⟨O,I,e,⟨Q,r,_,U,u⟩,J⟩:=cY.mp c;cases e;rw [N] at r;cases r;rw [hd] at u;cases u;congr 1;apply BK;intro j;have e1:=Z1 H;have e2:=Z1 J
   by_cases E:j<l.length
   . have w:j<m.length:=by omega
     have B:j<g.toList.length:=by omega
     rw [cH E,cH w];congr 1;exact L _ (qd E) _ _ (Z2 H (cH E) (cH B)) (Z2 J (cH w) (cH B))
   . rw [oO (by omega),oO (by omega)]
theorem Mq {h c:Heap}: ∀ {l:List NK} {a:List Value},(∀k∈l,∀v,NK.at h k v->NK.at c k v)->NK.oi h l a->NK.oi c l a
 | [],a,_,x=>gm.mpr (gm.mp x)
 |k::l,a,f,x=>by
  obtain ⟨u,g,e,i,y⟩:=df.mp x;exact df.mpr ⟨u,g,e,f k ez u i,Mq (λq j=>f q (dZ _ j)) y⟩
def Ry {h g:Heap} (j: ∀a c,IsTup h a c->IsTup g a c) (k:NK): ∀v,NK.at h k v->NK.at g k v:=by
 induction k using NK.ind with
 |h1 i=>exact λv x=>cW.mpr (cW.mp x)
 |h2 z=>exact λv x=>cX.mpr (cX.mp x)
 |h3 l m=>
  intro v x;obtain ⟨a,c,e,t,y⟩:=cY.mp x;exact cY.mpr ⟨a,c,e,j a c t,Mq m y⟩
def WK {s:aH} {a:Addr} {c:Array Value} (h:IsTup s.heap a c):s.TypeIs (.ref a) "tuple" :=let ⟨o,e,g,_⟩:=h;⟨o,e,g⟩
section
variable {prog:bQ} {w:World}
def Rz (k:NK): ∀(A:cf) (E:Value->aH->Prop) (s:aH) (v:Value) (Q:Int->aH->Prop),NK.at s.heap k v->A.units+k.cp<cLine->Q (k.hash w) {s with toks:=s.toks+k.draws}->wpAny (model prog w) A (pyHash v) Q E s:=by
 induction k using NK.ind with
 |h1 i=>
  intro A E s v Q x p q;obtain ⟨t,rfl⟩:=cW.mp x;simp only [NK.hash,NK.draws] at q;exact wpAny_pyHash_int q
 |h2 z=>
  intro A E s v Q x p q;obtain ⟨t,rfl⟩:=cX.mp x;simp only [NK.hash,NK.draws] at q;exact wpAny_pyHash_str q
 |h3 l L=>
  intro A E s v Q x p q;obtain ⟨a,N,rfl,t,y⟩:=cY.mp x;simp only [NK.cp] at p;simp only [NK.hash,NK.draws] at q;obtain ⟨o,O,Z,n,hd⟩:=id t;show wpAny _ _ (pyHashByItsType (.ref a)) _ _ s;refine PySem.W.pyHash_slot (WK t) F.slot_tuple_hash F.entry_tuple_hash (F.args_tuple_hash_1 _) (by decide) (.inr (by omega)) ?_;unfold ms.«tuple.__hash__»;refine ay (aR (ay (wpAny_tupleItemsOf O hd (ay ?_))));rw [<-DJ];refine BL _ (λrest r h=> ∃done rl,done++rl=l/\NK.oi s.heap rl rest/\r=(NK.iC w done).toArray/\h={s with toks:=s.toks+NK.fN done}) _ ?_ ?_ _ _ ⟨[],l,rfl,y,rfl,rfl⟩
  . rintro u rest r h ⟨done,rl,j,m,rfl,rfl⟩
    cases rl with
    |nil=>have:=gm.mp m;cases this
    |cons c rl=>
     obtain ⟨u',us,e,B,H⟩:=df.mp m;obtain ⟨rfl,rfl⟩:=DK e;have I:c∈l:=by rw [<-j];simp
     have J:=XC I;refine ay (L c I A.in1 E {s with toks:=s.toks+NK.fN done} u _ B (by show A.units+1+c.cp<cLine;omega) ?_);refine aR ⟨done++[c],rl,by simp [j],H,?_,?_⟩
     . have: ∀d:List NK,NK.iC w (d++[c])=NK.iC w d++[c.hash w]:=λd=>by
        induction d with
        |nil=>simp [NK.iC]
        |cons b d g=>simp [NK.iC,g]
       rw [this];simp
     . have: ∀d:List NK,NK.fN (d++[c])=NK.fN d+c.draws:=λd=>by
        induction d with
        |nil=>simp [NK.fN]
        |cons b d g=>simp [NK.fN,g];omega
       rw [this,Nat.add_assoc]
  . rintro r h ⟨done,rl,j,m,rfl,rfl⟩
    have U:rl=[]:=by
     cases rl with
     |nil=>rfl
     |cons c rl=>obtain ⟨_,_,e,_⟩:=df.mp m;cases e
    subst U;rw [o8] at j;subst j;show wpAny _ _ (do ret (<-mkInt (Mo (NK.iC w done).toArray.toList))) _ _ _;refine nq (wpAny_ret_mkInt (Q:=λv h=> ∃n t,v= .int n t/\Q (reduceHash n) h) ?_) (λY h ⟨v,e,n,t,e2,q⟩=>⟨n,t,by rw [e,e2],q⟩) (λ_ _ x=>x);refine ⟨_,_,rfl,?_⟩;simpa [Nat.add_assoc] using q
end
def Mr {c:Type} [BEq c] [LawfulBEq c] {g:Type} {f:c->g} (i: ∀a b,f a=f b->a=b) (a b:c) [Decidable (f a=f b)]:(a==b)=decide (f a=f b):=by
 by_cases h:a=b
 . subst h;simp
 . rw [decide_eq_false (λe=>h (i _ _ e))];simpa using h
def RA {s:aH} (x:NK): ∀(A:cf) (y:NK) (u v:Value),NK.at s.heap x u->NK.at s.heap y v->A.units+x.cp<cLine->EqAt A s u v (decide (x=y)):=by
 induction x using NK.ind with
 |h1 i=>
  intro A y u v o n r;obtain ⟨t,rfl⟩:=cW.mp o;simp only [NK.cp] at r
  cases y with
  |int j=>
   obtain ⟨w,rfl⟩:=cW.mp n;rw [<-Mr (f:=NK.int) (λa b e=>by cases e;rfl)];exact EqAt.int_int _ _ _ _
  |str z=>obtain ⟨w,rfl⟩:=cX.mp n;rw [decide_eq_false (by intro e;cases e)];exact EqAt.int_str _ _ _ _
  |ap l=>obtain ⟨a,g,rfl,p,_⟩:=cY.mp n;rw [decide_eq_false (by intro e;cases e)];exact EqAt.int_tuple _ _ p (by omega)
 |h2 z=>
  intro A y u v o n r;obtain ⟨t,rfl⟩:=cX.mp o;simp only [NK.cp] at r
  cases y with
  |int j=>obtain ⟨w,rfl⟩:=cW.mp n;rw [decide_eq_false (by intro e;cases e)];exact EqAt.str_int _ _ _ _
  |str O=>
   obtain ⟨w,rfl⟩:=cX.mp n;rw [<-Mr (f:=NK.str) (λa b e=>by cases e;rfl)];exact EqAt.str_str _ _ _ _
  |ap l=>obtain ⟨a,g,rfl,p,_⟩:=cY.mp n;rw [decide_eq_false (by intro e;cases e)];exact EqAt.str_tuple _ _ p (by omega)
 |h3 l Q=>
  intro A y u v o n r;obtain ⟨a,g,rfl,p,E⟩:=cY.mp o;simp only [NK.cp] at r
  cases y with
  |int j=>obtain ⟨w,rfl⟩:=cW.mp n;rw [decide_eq_false (by intro e;cases e)];exact EqAt.tuple_int _ _ p (by omega)
  |str O=>obtain ⟨w,rfl⟩:=cX.mp n;rw [decide_eq_false (by intro e;cases e)];exact EqAt.tuple_str _ _ p (by omega)
  |ap m=>
   obtain ⟨U,c,rfl,Y,H⟩:=cY.mp n
   by_cases z:a=U
   . subst z;rw [decide_eq_true (Mp _ _ _ o n)];exact EqAt.same _
   . have I:=Z1 E;have J:=Z1 H
     have q:=RcAt.tuples (A:=A) (e:=λj=>decide (l[j]?=m[j]?)) p Y (by omega) (λj h1 h2=>by
      have B:j<l.length:=by rw [<-I,lC];exact h1
      have L:j<m.length:=by rw [<-J,lC];exact h2
      have Z:g.toList[j]?=some g[j]:=by rw [oj];exact m8 h1
      have g2:c.toList[j]?=some c[j]:=by rw [oj];exact m8 h2
      have hd:=XC (qd B);have:=Q l[j] (qd B) A.in1 m[j] g[j] c[j] (Z2 E (cH B) Z) (Z2 H (cH L) g2) (by show A.units+1+l[j].cp<cLine;omega);rw [cH B,cH L]
      simpa using this)
     have e:((fK (min g.size c.size)).all (λj=>decide (l[j]?=m[j]?))&&g.size==c.size)=decide (NK.ap l=NK.ap m):=by
      rw [<-lC,<-lC,I,J];rw [Bb,eX,lI,decide_eq_true_iff]
      constructor
      . rintro ⟨h1,h2⟩;have N:l.length=m.length:=by simpa using h2
        congr 1;apply BK;intro j
        by_cases hj:j<l.length
        . simpa using h1 j (ic.mpr (by omega))
        . rw [oO (by omega),oO (by omega)]
      . intro h;cases h;exact ⟨λj _=>by simp,by simp⟩
     rw [<-e];exact EqAt.of_refs z q
section
variable {prog:bQ} {w:World} {A:cf} {E:Value->aH->Prop} {s:aH}
def RB (k:NK): ∀(n:Nat) (v:Value) (Q:Bool->aH->Prop),NK.at s.heap k v->k.cp<=n->Q true s->wpAny (model prog w) A (eqIsQuiet n v) Q E s:=by
 induction k using NK.ind with
 |h1 i=>intro n v Q x _ q;obtain ⟨t,rfl⟩:=cW.mp x;cases n<;>exact aR q
 |h2 z=>intro n v Q x _ q;obtain ⟨t,rfl⟩:=cX.mp x;cases n<;>exact aR q
 |h3 l J=>
  intro n v Q x L q;obtain ⟨a,N,rfl,p,O⟩:=cY.mp x;simp only [NK.cp] at L;obtain ⟨n,rfl⟩: ∃m,n=m+1:=⟨n-1,by omega⟩
  obtain ⟨o,U,hc,nn,hd⟩:=id p;rw [eqIsQuiet.eq_def];refine ay (wpAny_specialOf (WK p) F.slot_tuple_eq.lookup ?_);dsimp only;refine ay (DL (b:=true) (WK p) (by first|rfl|decide|exact isSubtype_type "tuple" _) ?_);simp only [sQ,nY,if_false];refine ay (Bc U hd (ay ?_));simp only [Option.getD_some];rw [<-DJ];refine BL _ (λrest r c=>r=(none,())/\c=s/\ ∃rl,NK.oi s.heap rl rest/\ ∀k∈rl,k∈l) _ ?_ ?_ _ _ ⟨rfl,rfl,l,O,λ_ h=>h⟩
  . rintro u rest r c ⟨rfl,rfl,rl,y,B⟩
    cases rl with
    |nil=>have:=gm.mp y;cases this
    |cons H rl=>
     obtain ⟨u',us,e,g,j⟩:=df.mp y;obtain ⟨rfl,rfl⟩:=DK e;have I:=B H ez;have Y:=XC I;refine ay (J H I n u _ g (by omega) ?_);simp only [sQ,nY,if_false];exact aR ⟨rfl,rfl,rl,j,λq Z=>B q (dZ _ Z)⟩
  . rintro r c ⟨rfl,rfl,_⟩;exact aR q
end
noncomputable def i8 (e:bQ) (w:World):HeapKind e w NK where
 is:=λh k a=>NK.at h k (.ref a)/\k.cp<=8
 hash:=NK.hash w
 draws:=NK.draws
 room:=λA=>A.units+8<cLine
 inj:=λx y=>Mp _ _ _ x.1 y.1
 keeps:=λ{h v k a d o B H} x j hd l=>⟨Ry (λb m ⟨ob,g,p,n,c⟩=>⟨ob,l.extBut b ob (λz=>by
  subst z;rw [j] at g;cases g
  rw [hd] at c;cases c) g,p,n,c⟩) k _ x.1,x.2⟩
 pyHash:=λ{A E s k a Q} r x q=>Rz k A E s _ Q x.1 (by have:=x.2;omega) q
 eqBool:=λ{A E s x y a b Q} r i u q=>RA x A y _ _ i.1 u.1 (by have:=i.2;omega) _ _ _ _ q
 quiet:=λ{A E s k a Q} x q=>RB k 8 _ Q x.1 x.2 q
end M
section
open PySem
abbrev Z8 (x:Str):Prop:=(x==("__debug__" :Str))=false
abbrev X8 (x:Str):Prop:=(x==("__classdict__" :Str))=false
abbrev X7:=Str->Option Value
abbrev VC:=Addr->Prop
abbrev T9:=Value->aH->Prop
theorem T5 {l:List Str} (h:l.Nodup:=by decide+kernel):l.Nodup:=h
end
namespace L2
open PySem PySem.Spec PyProof.Rows
abbrev aS:=Sum Int Str
def vn:aS->Value->Bool
 | .inl k,v=>Value.isInt k v
 | .inr x,v=>Value.isStrOf x v
noncomputable def Fx (w:World):aS->Int
 | .inl k=>hashInt k
 | .inr x=>hashStr w x
theorem qt: ∀ {k:aS} {v:Value},vn k v=true->(∃i t,k=ri i/\v=Value.int i t)\/(∃x t,k=sD x/\v=Value.str x t)
 | .inl i,v,h=>by
  obtain ⟨t,e⟩:=Fy h;exact .inl ⟨i,t,rfl,e⟩
 | .inr x,v,h=>by
  obtain ⟨t,e⟩:=Value.isStrOf_shape h;exact .inr ⟨x,t,rfl,e⟩
def RC (i:Int) (t:Tok):vn (.inl i) (.int i t)=true:=by simp [vn,Value.isInt]
def RD (x:Str) (t:Tok):vn (.inr x) (.str x t)=true:=by simp [vn,Value.isStrOf]
def RE (a b:Int):decide ((ri a:aS)=ri b)=(a==b):=by
 by_cases e:a=b
 . subst e;simp
 . have h: ¬(ri a:aS)=ri b:=λq=>e (Sum.inl.inj q)
   rw [decide_eq_false h];exact (beq_eq_false_iff_ne.mpr e).symm
def RF (a b:Str):decide ((sD a:aS)=sD b)=decide (a=b):=by
 by_cases e:a=b
 . subst e;simp
 . have h: ¬(sD a:aS)=sD b:=λq=>e (Sum.inr.inj q)
   rw [decide_eq_false h,decide_eq_false e]
def RG (a:Int) (b:Str):decide ((ri a:aS)=sD b)=false:=decide_eq_false (λq=>nomatch q)
def RH (a:Str) (b:Int):decide ((sD a:aS)=ri b)=false:=decide_eq_false (λq=>nomatch q)
def j4 (c:bQ) (w:World):PySem.KeyKind c w aS where
 is:=vn
 hash:=Fx w
 inj:=λv a b m l=>by
  rcases qt m with ⟨i,t,rfl,rfl⟩| ⟨x,t,rfl,rfl⟩
  . rcases qt l with ⟨j,u,rfl,e⟩| ⟨y,u,rfl,e⟩
    . injection e with e1 _;rw [e1]
    . exact nomatch e
  . rcases qt l with ⟨j,u,rfl,e⟩| ⟨y,u,rfl,e⟩
    . exact nomatch e
    . injection e with e1 _;rw [e1]
 byValue:=λk v h=>by
  rcases qt h with ⟨i,t,rfl,rfl⟩| ⟨x,t,rfl,rfl⟩<;>rfl
 pyHash:=λg h=>by
  rcases qt g with ⟨i,t,rfl,rfl⟩| ⟨x,t,rfl,rfl⟩
  . exact wpAny_pyHash_int h
  . exact wpAny_pyHash_str h
 eqBool:=λn g h=>by
  rcases qt n with ⟨i,t,rfl,rfl⟩| ⟨x,t,rfl,rfl⟩
  . rcases qt g with ⟨j,u,rfl,rfl⟩| ⟨y,u,rfl,rfl⟩
    . rw [RE] at h;exact wpAny_eqBool_int h
    . rw [RG] at h;exact SeqAt.EqAt.int_str i t y u _ _ _ _ h
  . rcases qt g with ⟨j,u,rfl,rfl⟩| ⟨y,u,rfl,rfl⟩
    . rw [RH] at h;exact SeqAt.EqAt.str_int x t j u _ _ _ _ h
    . rw [RF] at h;exact wpAny_eqBool_str h
 «strs» :=λk x t v h=>by
  rcases qt h with ⟨i,u,rfl,e⟩| ⟨y,u,rfl,e⟩
  . exact nomatch e
  . injection e with e1 _;subst e1;cases v<;>rfl
def KS (a:bQ) (w:World) (i:Int) (t:Tok):(j4 a w).is (.inl i) (.int i t)=true:=RC i t
def KR (a:bQ) (w:World) (x:Str) (t:Tok):(j4 a w).is (.inr x) (.str x t)=true:=RD x t
inductive V where
 |aW|bl (b:Bool)|int (i:Int)|str (x:Str)|qh (b:Array UInt8)|yE (b:UInt64)|ref (a:Addr)|ty (n:String)
 deriving DecidableEq
def aK:V->Value->Prop
 | .aW,u=>u=oP
 | .bl b,u=>u=t7 b
 | .int i,u=> ∃t,u=Value.int i t
 | .str x,u=> ∃t,u=Value.str x t
 | .qh b,u=> ∃t,u=Value.bytes b t
 | .yE b,u=> ∃t,u=Value.float b t
 | .ref a,u=>u=cK a
 | .ty n,u=>u=yS n
abbrev aI:List V->List Value->Prop:=nZ aK
def aI.length {xs:List V} {us:List Value} (r:aI xs us):xs.length=us.length:=Bd r
theorem aI.get: ∀ {xs:List V} {us:List Value} {i:Nat} {x:V},aI xs us->xs[i]?=some x-> ∃u,us[i]?=some u/\aK x u
 |_,_,_,_,.nil,e=>by simp at e
 |_,_,0,_,.cons r _,e=>by simp at e;subst e;exact ⟨_,rfl,r⟩
 |_,_,i+1,x,.cons _ t,e=>by
  obtain ⟨u,a,c⟩:=aI.get t (by simpa using e);exact ⟨u,by simpa using a,c⟩
theorem aI.append: ∀ {a c:List V} {e g:List Value},aI a e->aI c g->aI (a++c) (e++g)
 |_,_,_,_,.nil,s=>s
 |_,_,_,_,.cons r t,s=> .cons r (aI.append t s)
theorem aI.take: ∀ {a:List V} {c:List Value} (n:Nat),aI a c->aI (a.take n) (c.take n)
 |_,_,0,_=> .nil
 |_,_,_+1,.nil=> .nil
 |_,_,n+1,.cons r t=> .cons r (aI.take n t)
theorem aI.drop: ∀ {a:List V} {c:List Value} (n:Nat),aI a c->aI (a.drop n) (c.drop n)
 |_,_,0,r=>r
 |_,_,_+1,.nil=> .nil
 |_,_,n+1,.cons _ t=>aI.drop n t
def fO:Option V->Option Value->Prop
 |some v,some u=>aK v u
 |none,none=>True
 |_,_=>False
def KV {a:Type}:List (a×V)->List (a×Value)->Prop:=nZ λ(p:a×V) (q:a×Value)=>p.1=q.1/\aK p.2 q.2
noncomputable def kV:aS->V
 | .inl i=> .int i
 | .inr x=> .str x
inductive HO where
 |ah (xs:List V)
 |ap (xs:List V)
 |dK (kvs:List (aS×V))|dT (kvs:List (List aS×V))
 |set (S:Int->Bool) (n:Nat)
 |ins (C dx:Addr) (fs:List (Str×V))
 |aw (x:Addr)
 |xd (fs:List (Str×V))
 |met (f x:Addr)
 |DM (lo hi:Int)
 |dn (o:Obj) (u:HO)
 |t8 (ps:Array Value)
 |ext (φ:Heap->Prop)
 |memo (B:List M.NK) (Φ:M.NK->Option M.NK->Prop)
 |fE (rs:List (Addr×List V))
abbrev Hp:=Addr->Option HO
noncomputable def aU (H:Hp) (a:Addr) (o:HO):Hp:=λb=>if b=a then some o else H b
def jy {H:Hp} {a:Addr} {o:HO}:aU H a o a=some o:=by unfold aU;rw [if_pos rfl]
def jR {H:Hp} {a b:Addr} {o:HO} (h:b≠a):aU H a o b=H b:=by unfold aU;rw [if_neg h]
def RI {H:Hp} {a b:Addr} {o u:HO} (h:H a=some o) (c:H b=some u) (d:o≠u):a≠b:=by
 intro e;subst e;rw [h] at c;exact d (ie c)
def jZ {H:Hp} {a b:Addr} {o:HO} (h:H a=some o) (c:H b=none):a≠b:=by
 intro e;subst e;rw [h] at c;cases c
mutual
def ff (H:Hp):M.NK->V->Prop
 | .int i,v=>v= .int i
 | .str x,v=>v= .str x
 | .ap l,v=> ∃b a,v= .ref b/\H b=some (.ap a)/\fP H l a
def fP (H:Hp):List M.NK->List V->Prop
 | [],a=>a=[]
 |k::l,a=> ∃u c,a=u::c/\ff H k u/\fP H l c
end
def n3 (H:Hp):Option M.NK->V->Prop
 |none,v=>v= .aW
 |some k,v=>ff H k v
theorem fP.mono {H c:Hp}: ∀ {l:List M.NK} {a:List V},(∀k∈l,∀v,ff H k v->ff c k v)->fP H l a->fP c l a
 | [],a,_,x=>by simp only [fP] at x ⊢;exact x
 |k::l,a,f,x=>by
  obtain ⟨u,g,e,h,y⟩:=x;exact ⟨u,g,e,f k ez u h,fP.mono (λq i=>f q (dZ _ i)) y⟩
def ff.mono {H a:Hp} (h: ∀b c,H b=some (.ap c)->a b=some (.ap c)) (k:M.NK): ∀v,ff H k v->ff a k v:=by
 induction k using M.NK.ind with
 |h1 i=>intro v x;simp only [ff] at x ⊢;exact x
 |h2 z=>intro v x;simp only [ff] at x ⊢;exact x
 |h3 l j=>
  intro v x;obtain ⟨b,g,e,m,y⟩:=x;exact ⟨b,g,e,h b g m,fP.mono j y⟩
def n3.mono {H a:Hp} (e: ∀b c,H b=some (.ap c)->a b=some (.ap c)) {k:Option M.NK} {v:V} (x:n3 H k v):n3 a k v:=by
 cases k with
 |none=>exact x
 |some k=>exact ff.mono e k v x
section
variable (P:bQ) (w:World)
def a9 (H:Hp) (h:Heap) (a:Addr):HO->Prop
 | .ah e=>e.length<=aV/\ ∃(c:List Value) (n:Nat),aI e c/\h.get? a=some {cls:= .type "list",data:= .seq c.toArray n}
 | .ap e=>e.length<=aV/\ ∃c:List Value,aI e c/\IsTup h a c.toArray
 | .dK g=>g.length<=aV/\(a==om)=false/\ ∃z,KV g z/\h.DictOf (j4 P w) a z
 | .dT g=>g.length<=aV/\(a==om)=false/\ ∃e:List (List aS×Addr×Value),
  nZ (λ(p:List aS×V) (q:List aS×Addr×Value)=>p.1=q.1/\H q.2.1=some (.ap (p.1.map kV))/\aK p.2 q.2.2) g e/\
  ∃o j m,h.get? a=some o/\o.ExactDict/\o.data= .dict j m/\j.toList=e.map (entryOfKey (qk (j4 P w)))/\(e.map (·.1)).Nodup
 | .set S n=>h.SetOf (iZ P w) a S n
 | .ins C dx fs=>H dx=some (.aw a)/\fs.length<=1000/\dx≠a/\h.get? a=some (t9 C dx)/\
  ∃i,h.Ns1 dx i/\(∀f,fO (fs.lookup f) (i f))/\PySem.Within i (fs.map (·.1))
 | .aw _=> ∃o,h.get? a=some o
 | .xd fs=> ∃i,h.Ns1 a i/\ ∀f,fO (fs.lookup f) (i f)
 | .DM lo L=> ∃t u v,h.get? a=some {cls:= .type "range",data:= .fields #[.int lo t,.int L u,.int 1 v]}
 | .dn o u=>h.get? a=some o/\a9 H h a u
 | .t8 ps=>h.get? a=some {cls:= .none,data:= .fields ps}
 | .met f x=>h.get? a=some (PySem.W.methodObj (.ref f) (.ref x))
 | .ext y=>y h/\(∃o,h.get? a=some o)/\ ∀E I:Heap,y E->(∀o,E.get? a=some o->I.get? a=some o)->y I
 | .memo B N=>B.length<aV/\(a==om)=false/\ ∃e:List (M.NK×Addr×Value),(∀x∈e,x.1∈B/\ff H x.1 (.ref x.2.1)/\x.1.cp<=8/\ ∃v J,aK v x.2.2/\n3 H J v/\N x.1 J)/\
  ∃o j m,h.get? a=some o/\o.ExactDict/\o.data= .dict j m/\j.toList=e.map (entryOfKey (M.i8 P w))/\(e.map (·.1)).Nodup
 | .fE l=>l.length<=aV/\(l.map (·.1)).Nodup/\(∃n,h.get? a=some {cls:= .type "list",data:= .seq (l.map λr=>cK r.1).toArray n})/\
  ∀r∈l,r.1≠a/\H r.1=some (.aw a)/\r.2.length<=aV/\ ∃(c:List Value) (n:Nat),aI r.2 c/\h.get? r.1=some {cls:= .type "list",data:= .seq c.toArray n}
def eY (H:Hp) (h:Heap):Prop:= ∀a o,H a=some o->a9 P w H h a o
end
section
variable {P:bQ} {w:World} {H j:Hp} {h I:Heap} {a:Addr} {o:HO}
def a9.lt (x:a9 P w H h a o):a<h.objs.size:=by
 cases o with
 |ah g=>obtain ⟨_,_,_,_,e⟩:=x;exact cL e
 |ap g=>obtain ⟨_,_,_,p⟩:=x;exact p.lt
 |dK c=>obtain ⟨_,_,_,_,o,_,_,e,_⟩:=x;exact cL e
 |dT c=>obtain ⟨_,_,_,_,o,_,_,e,_⟩:=x;exact cL e
 |set S n=>obtain ⟨o,_,_,_,e,_⟩:=x;exact cL e
 |ins C dx fs=>obtain ⟨_,_,_,e,_⟩:=x;exact cL e
 |aw y=>obtain ⟨_,e⟩:=x;exact cL e
 |xd fs=>obtain ⟨_,⟨_,_,_,e,_⟩,_⟩:=x;exact cL e
 |DM lo i=>obtain ⟨_,_,_,e⟩:=x;exact cL e
 |dn ob u=>obtain ⟨e,_⟩:=x;exact cL e
 |t8 ps=>exact cL (x)
 |met f y=>exact cL (x)
 |ext l=>obtain ⟨_,⟨_,e⟩,_⟩:=x;exact cL e
 |memo B m=>obtain ⟨_,_,_,_,o,_,_,e,_⟩:=x;exact cL e
 |fE q=>obtain ⟨_,_,⟨_,e⟩,_⟩:=x;exact cL e
theorem nZ.y0 {g i:Type} {F G:g->i->Prop}: ∀ {c:List g} {e:List i},nZ F c e->(∀a b,F a b->G a b)->nZ G c e
 |_,_,.nil,_=> .nil
 |_,_,.cons r t,f=> .cons (f _ _ r) (nZ.y0 t f)
def a9.bq (x:a9 P w H h a o) (k: ∀b u,(b=a\/H b=some (.aw a))->h.get? b=some u->I.get? b=some u)
  (U: ∀b,H b=some (.aw a)->j b=some (.aw a)) (J: ∀b E,H b=some (.ap E)->j b=some (.ap E)):a9 P w j I a o:=by
 induction o with
 |ah E=>obtain ⟨z,g,n,r,e⟩:=x;exact ⟨z,g,n,r,k _ _ (.inl rfl) e⟩
 |ap E=>obtain ⟨z,g,r,ob,e,c⟩:=x;exact ⟨z,g,r,ob,k _ _ (.inl rfl) e,c⟩
 |dK L=>obtain ⟨z,y,Z,r,ob,i,l,e,c⟩:=x;exact ⟨z,y,Z,r,ob,i,l,k _ _ (.inl rfl) e,c⟩
 |fE rs=>
  obtain ⟨z,nd,⟨n,e⟩,pr⟩:=x;exact ⟨z,nd,⟨n,k _ _ (.inl rfl) e⟩,λq N=>let ⟨h1,Y,h3,g,m,r,e2⟩:=pr q N;⟨h1,U _ Y,h3,g,m,r,k _ _ (.inr Y) e2⟩⟩
 |dT L=>
  obtain ⟨z,y,E,r,ob,i,l,e,c⟩:=x;exact ⟨z,y,E,nZ.y0 r λp q z=>⟨z.1,J _ _ z.2.1,z.2.2⟩,ob,i,l,k _ _ (.inl rfl) e,c⟩
 |set S n=>obtain ⟨ob,i,l,t,e,c⟩:=x;exact ⟨ob,i,l,t,k _ _ (.inl rfl) e,c⟩
 |ins C dx fs=>
  obtain ⟨d,z,ne,e,O,⟨Q,i,l,e2,c⟩,r⟩:=x;exact ⟨U _ d,z,ne,k _ _ (.inl rfl) e,O,⟨Q,i,l,k _ _ (.inr d) e2,c⟩,r⟩
 |aw y=>obtain ⟨ob,e⟩:=x;exact ⟨ob,k _ _ (.inl rfl) e⟩
 |xd fs=>obtain ⟨O,⟨Q,i,l,e,c⟩,r⟩:=x;exact ⟨O,⟨Q,i,l,k _ _ (.inl rfl) e,c⟩,r⟩
 |DM lo hi=>obtain ⟨t,u,v,e⟩:=x;exact ⟨t,u,v,k _ _ (.inl rfl) e⟩
 |dn ob u ih=>obtain ⟨e,q⟩:=x;exact ⟨k _ _ (.inl rfl) e,ih q⟩
 |t8 ps=>
  have e:=x;exact k a _ (.inl rfl) e
 |met f y=>
  have e:=x;exact k a _ (.inl rfl) e
 |ext φ=>obtain ⟨p,⟨o,e⟩,st⟩:=x;exact ⟨st _ _ p λo q=>k _ _ (.inl rfl) q,⟨o,k _ _ (.inl rfl) e⟩,st⟩
 |memo B Φ=>
  obtain ⟨z,y,E,r,ob,i,l,e,c⟩:=x;exact ⟨z,y,E,λq N=>let ⟨b1,b2,b3,v,nv,b4,b5,b6⟩:=r q N;⟨b1,ff.mono J _ _ b2,b3,v,nv,b4,n3.mono J b5,b6⟩,ob,i,l,k _ _ (.inl rfl) e,c⟩
def eY.lt (x:eY P w H h) (e:H a=some o):a<h.objs.size:=(x a o e).lt
def eY.fresh (x:eY P w H h) (e:h.objs.size<=a):H a=none:=by
 cases q:H a with
 |none=>rfl
 |some u=>exact absurd (gT (x.lt q) e) (rj _)
def eY.kept (x:eY P w H h) (k: ∀b u,h.get? b=some u->I.get? b=some u):eY P w H I:=λa o e=>
 (x a o e).bq (λb u _ q=>k b u q) (λ_ q=>q) λ_ _ q=>q
def eY.laid (x:eY P w H h) (k: ∀b u,h.get? b=some u->I.get? b=some u) (l:h.objs.size<=a) (new:a9 P w (aU H a o) I a o):eY P w (aU H a o) I:=λb u e=>by
 have g:=x.fresh l
 by_cases i:b=a
 . subst i;rw [jy] at e;cases e;exact new
 . rw [jR i] at e;exact (x b u e).bq (λc v _ q=>k c v q) (λc q=>by rw [jR (jZ q g)];exact q) λc m q=>by rw [jR (jZ q g)];exact q
end
def Rd (H:Hp) (a:Addr) (u:HO):Prop:=H a=some u\/ ∃o,H a=some (.dn o u)
def Rd.of {H:Hp} {a:Addr} {u:HO} (h:H a=some u):Rd H a u:= .inl h
def Rd.ok {P:bQ} {w:World} {H:Hp} {h:Heap} {a:Addr} {u:HO} (r:Rd H a u) (x:eY P w H h):a9 P w H h a u:=by
 rcases r with r| ⟨o,r⟩
 . exact x a u r
 . obtain ⟨_,q⟩:=x a _ r;exact q
def qp:Option HO->Prop
 |some (.ah _)=>True
 |some (.dK _)=>True
 |some (.dT _)=>True
 |some (.set _ _)=>True
 |some (.ins _ _ _)=>True
 |some (.ext _)=>True
 |some (.memo _ _)=>True
 |some (.fE _)=>True
 |_=>False
section
variable {P:bQ} {w:World} {H:Hp} {h h':Heap} {x e:Addr} {o':HO}
def eY.write (ok:eY P w H h) (j:qp (H x)) (o:e=x\/H e=some (.aw x)) (k: ∀b u,b≠e->h.get? b=some u->h'.get? b=some u) (n: ∃u,h'.get? e=some u)
   (new:a9 P w (aU H x o') h' x o'):eY P w (aU H x o') h':=λb u q=>by
 have g: ∀c y,H c=some (.aw y)->c≠x:=λc y r z=>by subst z;rw [r] at j;exact j
 have i: ∀c l,H c=some (.ap l)->c≠x:=λc l r z=>by subst z;rw [r] at j;exact j
 by_cases m:b=x
 . subst m;rw [jy] at q;cases q;exact new
 . rw [jR m] at q
   by_cases a:b=e
   . have p:H b=some (.aw x):=by
       rcases o with z|z
       . exact absurd (a.trans z) m
       . rw [a];exact z
     rw [q] at p;cases p;obtain ⟨v,B⟩:=n;exact ⟨v,by rw [a];exact B⟩
   . refine (ok b u q).bq (λc v hc r=>k c v ?_ r) (λc r=>by rw [jR (g c b r)];exact r) λc l r=>by rw [jR (i c l r)];exact r
     rcases hc with rfl|hc
     . exact a
     . rintro rfl;rcases o with z|z
       . exact g c b hc z
       . rw [hc] at z;cases z;exact m rfl
end
structure Un (fs ex:List Addr) (H H':Hp) (h h':Heap):Prop where
 keep: ∀b o,h.get? b=some o->H b=none->b∉fs->b∉ex->h'.get? b=some o
 slot: ∀b o,h.get? b=some o->H b=none->b∈fs->b∉ex-> ∃sl,h'.get? b=some {o with slots:=sl}
 free: ∀b o,h.get? b=some o->H b=none->b∉ex->H' b=none
 there: ∀b o,h.get? b=some o->b∉ex-> ∃o',h'.get? b=some o'
 gy: ∀b xs,H b=some (.ap xs)->H' b=some (.ap xs)
 gU: ∀b o u,H b=some (.dn o u)->H' b=some (.dn o u)
 ig: ∀b ps,H b=some (.t8 ps)-> ∃more,H' b=some (.t8 (ps++more))
section
variable {fs RJ ex ex':List Addr} {H H1 H2:Hp} {h h1 h2 h':Heap} {a x e:Addr} {o:HO}
def Un.any (u:Un fs ex H H1 h h1) {b:Addr} {ob:Obj} (q:h.get? b=some ob) (n:H b=none) (c:b∉ex): ∃i,h1.get? b=some {ob with slots:=i}:=by
 by_cases g:b∈fs
 . exact u.slot b ob q n g c
 . exact ⟨ob.slots,u.keep b ob q n g c⟩
def Un.kept (k: ∀b u,h.get? b=some u->h'.get? b=some u):Un fs ex H H h h':=
 ⟨λb ob q _ _ _=>k b ob q,λb ob q _ _ _=>⟨ob.slots,k b ob q⟩,λ_ _ _ n _=>n,λb ob q _=>⟨ob,k b ob q⟩,λ_ _ q=>q,λ_ _ _ q=>q,λ_ ps q=>⟨#[],by rw [q];simp⟩⟩
def Un.refl:Un fs ex H H h h:=Un.kept λ_ _ q=>q
def Un.laid (k: ∀b u,h.get? b=some u->h'.get? b=some u) (g:h.objs.size<=a) (c:H a=none):Un fs ex H (aU H a o) h h' where
 keep:=λb u q _ _ _=>k b u q
 slot:=λb u q _ _ _=>⟨u.slots,k b u q⟩
 free:=λb u q n _=>by rw [jR (dH (gT (cL q) g))];exact n
 there:=λb u q _=>⟨u,k b u q⟩
 gy:=λb i q=>by rw [jR (jZ q c)];exact q
 gU:=λb u i q=>by rw [jR (jZ q c)];exact q
 ig:=λb ps q=>⟨#[],by rw [jR (jZ q c),q];simp⟩
def Un.write (g:qp (H x)) (p:e=x\/H e=some (.aw x)) (k: ∀b u,b≠e->h.get? b=some u->h'.get? b=some u) (i: ∃u,h'.get? e=some u):Un fs ex H (aU H x o) h h':=by
 have l: ∀b,H b=none->b≠x:=λb n z=>by subst z;rw [n] at g;exact g
 have m: ∀b,H b=none->b≠e:=λb n z=>by
   subst z;rcases p with r|r
   . exact l b n r
   . rw [n] at r;cases r
 have j: ∀b u,H b=some u-> ¬qp (some u)->b≠x:=λb u q nm z=>by subst z;rw [q] at g;exact nm g
 refine ⟨λb u q n _ _=>k b u (m b n) q,λb u q n _ _=>⟨u.slots,k b u (m b n) q⟩,λb u q n _=>by rw [jR (l b n)];exact n,λb u q _=>?_,
   λb v q=>by rw [jR (j b _ q λz=>z)];exact q,λb u v q=>by rw [jR (j b _ q λz=>z)];exact q,λb ps q=>⟨#[],by rw [jR (j b _ q λz=>z),q];simp⟩⟩
 by_cases c:b=e
 . subst c;exact i
 . exact ⟨u,k b u c q⟩
end
def Be (h:Heap) (H:Hp):List Addr:=(fK h.objs.size).filter λa=>(H a).isSome
def nw (h:Heap) (H:Hp):Heap:=PySem.W.hideAll h (Be h H)
def RK (h:Heap) (H:Hp):(nw h H).objs.size=h.objs.size:=PySem.W.hideAll_size _ _
def RL {h:Heap} {H:Hp} {b:Addr} {o:Obj} (e:h.get? b=some o) (n:H b=none):(nw h H).get? b=some o:=
 PySem.W.hideAll_get _ e λa=>by
  have q:=(DN.mp a).2;rw [n] at q;simp at q
def RM {h:Heap} {H:Hp} {b:Addr} {o:Obj} (e:(nw h H).get? b=some o):h.get? b=some o/\H b=none:=by
 have a:=PySem.W.of_hideAll (Be h H) e;refine ⟨a,?_⟩
 cases q:H b with
 |none=>rfl
 |some x=>
  have z:(nw h H).get? b=none:=PySem.W.hideAll_none (Be h H) (DN.mpr ⟨ic.mpr (cL a),by simp [q]⟩);rw [z] at e;cases e
def RN (g h:Heap) (L:Addr):List (Addr×Obj):=(fK h.objs.size).filterMap λa=>if a=L\/(g.get? a).isSome=true then none else (h.get? a).map λo=>(a,o)
def rest (g h:Heap) (L d:Addr):List (Addr×Obj):=(RN g h L).filter λp=>decide (p.1≠d)
structure Mod (K:aG) (mg:X7) (ae:Heap):Prop where
 ua:K.In ae
 glob:ae.Ns bt mg
 blt: ∃mb,ae.Ns builtinsNs mb/\ ∀x:Str,x≠ "__name__" ->mb x=n4 x
 nolimit:ae.NoLimit
structure Cx where
 prog:bQ
 w:World
 K:aG
 mg:Str->Option Value
 ae:Heap
 A:cf
 N:List Str
 fJ:aH
 rm:Hp
 env:Env
 outer:List Env
 stack:List Env
 ex:List Addr
 fn:Str->Bool
 cF:Bool
 pn:List (Addr×Obj)
 xe:Value->aH->Prop
abbrev T8 (X:Cx) (e:Expr) (a:List Expr):Prop:=bB (e::a) X.env=(false,eval e X.env)::bB a X.env
abbrev T7 (X:Cx) (p:Pos) (a:List Expr):Prop:=(gz p (bB a X.env)).any (·.1)=false
abbrev T6 (X:Cx) (x:Str):Prop:=X.fn x=true\/X.env.scope.names.lookup x=some .local
def fg (l:List Env):List Addr:=l.filterMap (·.frame)
abbrev Cx.fs (X:Cx):List Addr:=fg X.outer
def iM (a:Scope) (x:Str):Prop:=a.names.lookup x=some .local\/a.names.lookup x=some .cell\/a.names.lookup x=some .free
def Loc (a:Scope) (x:Str):Prop:=a.names.lookup x=some .local\/a.names.lookup x=some .cell
def Look (a:Env) (h:Heap) (m:X7) (x:Str) (u:Value):Prop:=
 (a.kindOf x=some .local/\m x=some u)\/((a.kindOf x=some .cell\/a.kindOf x=some .free)/\ ∃c,a.cells.lookup x=some c/\h.IsCell c (some u))
structure Cx.Ok (X:Cx):Prop where
 mod:Mod X.K X.mg X.ae
 kind:X.env.scope.kind= .function
 glob:X.env.globals=bt
 blt:X.env.builtins=builtinsNs
 above:X.fJ.heap.objs.size<=X.env.locals
 inj: ∀x y c,X.env.cells.lookup x=some c->X.env.cells.lookup y=some c->x=y
 has: ∀x,(X.env.kindOf x=some .cell\/X.env.kindOf x=some .free)-> ∃c,X.env.cells.lookup x=some c
 sR: ∀x c,X.fn x=true->X.env.cells.lookup x=some c->X.fJ.heap.objs.size<=c
 hd:X.cF=true->X.A.handled=none
 frames:X.A.frames=some X.stack
 ub:X.stack=X.outer\/(X.stack=X.env::X.outer/\X.env.frame=some X.env.locals)
 ur: ∀b∈X.ex,b≠X.env.locals/\ ∀x c,X.env.cells.lookup x=some c->c≠b
 bs: ∀b o,X.ae.get? b=some o->X.fJ.heap.get? b=some o/\X.rm b=none
 o9:X.ae.objs.size<=X.fJ.heap.objs.size
 mu: ∀b o,X.ae.get? b=some o->b∉X.ex
 mw: ∀b∈X.ex,b∉X.fs
 gA:X.fJ.heap.FunFrames X.ae X.outer
 ro: ∀b∈X.fs,X.rm b=none
structure aD (X:Cx) (pins:List (Addr×Obj)) (σ:List (Option V)) (H:Hp) (s:aH):Prop where
 ok:X.Ok
 os:s.os=X.fJ.os
 bare:sE s.gens
 ae:Un X.fs X.ex X.rm H X.fJ.heap s.heap
 loc: ∃m,s.heap.Ns X.env.locals m/\ ∀(i:Nat) (x:Str) (v:V),X.N[i]?=some x->σ[i]?=some (some v)->iM X.env.scope x-> ∃u,aK v u/\Look X.env s.heap m x u
 cell: ∀x c,X.env.cells.lookup x=some c-> ∃v,s.heap.IsCell c v
 free:H X.env.locals=none
 dI: ∀x c,X.env.cells.lookup x=some c->H c=none
 pin: ∀p∈X.pn++pins,s.heap.get? p.1=some p.2/\H p.1=none/\p.1≠X.env.locals/\p.1∉X.fs/\ ∀v,p.2.data≠ .cell v
 a7:eY X.prog X.w H s.heap
 len:σ.length=X.N.length
section
variable {X:Cx} {g:List (Addr×Obj)} {σ:List (Option V)} {H H':Hp} {s:aH} {h':Heap}
def Cx.Ok.Fz (ok:X.Ok) {b:Addr} {o:Obj} (e:X.ae.get? b=some o):b∉X.fs:=λa=>by
 have:=(ok.gA.mem a).1;rw [e] at this;cases this
def aD.bs (I:aD X g σ H s): ∀b o,X.ae.get? b=some o->s.heap.get? b=some o/\H b=none:=λb o e=>
 ⟨I.ae.keep b o (I.ok.bs b o e).1 (I.ok.bs b o e).2 (I.ok.Fz e) (I.ok.mu b o e),I.ae.free b o (I.ok.bs b o e).1 (I.ok.bs b o e).2 (I.ok.mu b o e)⟩
def aD.bk (I:aD X g σ H s): ∀b o,X.ae.get? b=some o->s.heap.get? b=some o:=λb o e=>(I.bs b o e).1
def aD.mod (I:aD X g σ H s):Mod X.K X.mg X.ae:=I.ok.mod
def aD.fQ (I:aD X g σ H s):X.K.In s.heap:=I.ok.mod.ua.keeps I.bk
def aD.lt (I:aD X g σ H s):X.env.locals<s.heap.objs.size:=let ⟨_,a,_⟩:=I.loc;a.lt
def aD.sz (I:aD X g σ H s):X.fJ.heap.objs.size<=s.heap.objs.size:=dw I.ok.above (BM I.lt)
def aD.FA (I:aD X g σ H s) {a:Addr} (h:s.heap.objs.size<=a):a∉X.fs:=λc=>by
 obtain ⟨_,o,e,_⟩:=I.ok.gA.mem c;exact absurd (gT (cL e) (dw I.sz h)) (rj _)
def aD.rz (I:aD X g σ H s): ∀x c,X.env.cells.lookup x=some c->c≠X.env.locals:=λx c e z=>by
 obtain ⟨v,o,i,hd⟩:=I.cell x c e;obtain ⟨m,⟨j,l,n,a,h,_⟩,_⟩:=I.loc;rw [z,a] at i;cases i;rw [h] at hd;cases hd
def aD.gA (I:aD X g σ H s):s.heap.FunFrames X.ae X.outer:=by
 have all: ∀(l:List Env),(∀b∈fg l,b∈X.fs)->X.fJ.heap.FunFrames X.ae l->s.heap.FunFrames X.ae l:=by
  intro l
  induction l with
  |nil=>intro _ _;trivial
  |cons env r i=>
   intro h hl;obtain ⟨hk,⟨L,o,a,j,m,hd⟩,hr⟩:=hl;have hL:=h L (by unfold fg;rw [DP,a];exact ez);obtain ⟨n,e⟩:=I.ae.slot L o m (I.ok.ro L hL) hL λz=>I.ok.mw L z hL
   exact ⟨hk,⟨L,_,a,j,e,hd⟩,i (λb c=>h b (by unfold fg;rw [DP,a];exact dZ _ c)) hr⟩
 exact all X.outer (λ_ c=>c) I.ok.gA
def aD.stack (I:aD X g σ H s):s.heap.FunFrames X.ae X.stack:=by
 rcases I.ok.ub with e| ⟨e,a⟩
 . rw [e];exact I.gA
 . rw [e];obtain ⟨m,c,_⟩:=I.loc;refine .cons (by rw [I.ok.kind];decide) a c ?_ I.gA;exact Heap.get?_none_of_le (dw I.ok.o9 I.ok.above)
def aD.mx (I:aD X g σ H s): ∀b∈fg X.stack,b∈X.env.locals::X.fs:=λb a=>by
 rcases I.ok.ub with e| ⟨e,c⟩
 . rw [e] at a;exact dZ _ a
 . rw [e] at a;unfold fg at a;rw [DP,c] at a;exact a
def aD.gV (I:aD X g σ H s): ∀b∈fg X.stack,H b=none:=λb hb=>by
 rcases dk.mp (I.mx b hb) with e|hb
 . rw [e];exact I.free
 . obtain ⟨_,o,a,_⟩:=I.ok.gA.mem hb;exact I.ae.free b o a (I.ok.ro b hb) λz=>I.ok.mw b z hb
def aD.step {U:Array GenState} {t':Nat} {d':Drawn} {ch:List Addr} (I:aD X g σ H s)
   (h: ∀b∈ch,(b∈X.ex\/X.fJ.heap.objs.size<=b)/\b≠X.env.locals/\(∀x c,X.env.cells.lookup x=some c->c≠b)/\ ∀p∈X.pn++g,p.1≠b)
   (keep: ∀b o,b≠X.env.locals->b∉X.fs->b∉ch->s.heap.get? b=some o->H b=none->h'.get? b=some o)
   (slot: ∀b o,b≠X.env.locals->b∈X.fs->b∉ch->s.heap.get? b=some o->H b=none-> ∃O,h'.get? b=some {o with slots:=O}) (free: ∀b o,b∉ch->s.heap.get? b=some o->H b=none->H' b=none)
   (there: ∀b o,b∉ch->s.heap.get? b=some o-> ∃L,h'.get? b=some L)
   (gy: ∀b B,H b=some (.ap B)->H' b=some (.ap B)) (gU: ∀b o u,H b=some (.dn o u)->H' b=some (.dn o u)) (ig: ∀b ps,H b=some (.t8 ps)-> ∃more,H' b=some (.t8 (ps++more)))
   (ns: ∀m,s.heap.Ns X.env.locals m->h'.Ns X.env.locals m) (a7:eY X.prog X.w H' h') (hg:sE U):
   aD X g σ H' {s with heap:=h',gens:=U,drawn:=d',toks:=t'}:=by
 have N: ∀b o,X.fJ.heap.get? b=some o->b≠X.env.locals:=λb o e=>dH (gT (cL e) I.ok.above)
 have y: ∀b o,X.fJ.heap.get? b=some o->b∉X.ex->b∉ch:=λb o e a E=>by
   rcases (h b E).1 with z|z
   . exact a z
   . exact absurd (gT (cL e) z) (rj _)
 have j: ∀x c,X.env.cells.lookup x=some c-> ∀v,s.heap.IsCell c v->h'.IsCell c v:=λx c e v ⟨o,J,hd⟩=>by
   have w:c∉ch:=λz=>(h c z).2.2.1 x c e rfl
   by_cases Y:c∈X.fs
   . obtain ⟨O,q⟩:=slot c o (I.rz x c e) Y w J (I.dI x c e);exact ⟨_,q,hd⟩
   . exact ⟨o,keep c o (I.rz x c e) Y w J (I.dI x c e),hd⟩
 refine ⟨I.ok,I.os,hg,⟨λb o e n E a=>?_,λb o e n E a=>?_,λb o e n a=>?_,λb o e a=>?_,λb B e=>gy b B (I.ae.gy b B e),λb o B e=>gU b o B (I.ae.gU b o B e),λb ps e=>?_⟩,?_,λx c e=>?_,?_,λx c e=>?_,λp Z=>?_,a7,I.len⟩
 . exact keep b o (N b o e) E (y b o e a) (I.ae.keep b o e n E a) (I.ae.free b o e n a)
 . obtain ⟨O,e1⟩:=I.ae.slot b o e n E a;obtain ⟨Q,e2⟩:=slot b _ (N b o e) E (y b o e a) e1 (I.ae.free b o e n a);exact ⟨Q,e2⟩
 . obtain ⟨L,e1⟩:=I.ae.there b o e a;exact free b L (y b o e a) e1 (I.ae.free b o e n a)
 . obtain ⟨L,e1⟩:=I.ae.there b o e a;exact there b L (y b o e a) e1
 . obtain ⟨m1,e1⟩:=I.ae.ig b ps e;obtain ⟨m2,e2⟩:=ig b _ e1;exact ⟨m1++m2,by rw [e2,Array.append_assoc]⟩
 . obtain ⟨m,hn,hl⟩:=I.loc;refine ⟨m,ns m hn,λi x v e1 e2 e3=>?_⟩;obtain ⟨u,r,l⟩:=hl i x v e1 e2 e3;refine ⟨u,r,?_⟩;rcases l with l| ⟨k,c,e,z⟩
   . exact .inl l
   . exact .inr ⟨k,c,e,j x c e _ z⟩
 . obtain ⟨v,z⟩:=I.cell x c e;exact ⟨v,j x c e v z⟩
 . obtain ⟨m,⟨o,_,_,J,_⟩,_⟩:=I.loc;exact free _ o (λz=>(h _ z).2.1 rfl) J I.free
 . obtain ⟨v,o,J,hd⟩:=I.cell x c e;exact free c o (λz=>(h c z).2.2.1 x c e rfl) J (I.dI x c e)
 . obtain ⟨e,n,ne,nf,d⟩:=I.pin p Z;have w:p.1∉ch:=λz=>(h p.1 z).2.2.2 p Z rfl
   exact ⟨keep p.1 p.2 ne nf w e n,free p.1 p.2 w e n,ne,nf,d⟩
def aD.un {l:Nat} (I:aD X g σ H s) (u:Un X.fs [] H H' s.heap h') (a7:eY X.prog X.w H' h'):aD X g σ H' {s with heap:=h',toks:=l}:=by
 obtain ⟨m,⟨o,v,w,j,r⟩,_⟩:=id I.loc;obtain ⟨y,hL⟩:=u.any j I.free (by simp)
 exact I.step (ch:=[]) (λ_ z=>nomatch z) (λb o _ c _ e n=>u.keep b o e n c (by simp)) (λb o _ c _ e n=>u.slot b o e n c (by simp)) (λb o _ e n=>u.free b o e n (by simp)) (λb o _ e=>u.there b o e (by simp)) u.gy u.gU u.ig (λB p=>by
  obtain ⟨E,h,i,a,q⟩:=p;rw [j] at a;cases a
  exact ⟨_,h,i,hL,q⟩) a7 I.bare
def aD.call {q:Array GenState} {y:Nat} {B:Drawn} {v:List Addr} (I:aD X g σ H s) (u:Un (fg X.stack) v H H' s.heap h') (a7:eY X.prog X.w H' h') (hg:sE q)
  (h: ∀b∈v,(b∈X.ex\/X.fJ.heap.objs.size<=b)/\b≠X.env.locals/\(∀x c,X.env.cells.lookup x=some c->c≠b)/\ ∀p∈X.pn++g,p.1≠b):
  aD X g σ H' {s with heap:=h',gens:=q,drawn:=B,toks:=y}:=by
 obtain ⟨m,⟨o,N,O,w,r⟩,_⟩:=id I.loc;obtain ⟨Q,hL⟩:=u.any w I.free λz=>(h _ z).2.1 rfl
 exact I.step h (λb o hL E a e n=>u.keep b o e n (λz=>(dk.mp (I.mx b z)).elim hL E) a) (λb o _ _ a e n=>u.any e n a) (λb o a e n=>u.free b o e n a) (λb o a e=>u.there b o e a) u.gy u.gU u.ig (λU J=>by
  obtain ⟨Y,j,l,i,L⟩:=J;rw [w] at i;cases i
  exact ⟨_,j,l,hL,L⟩) a7 hg
def aD.turned {t':Nat} {a:Addr} (I:aD X g σ H s) (k: ∀b o,b≠a->s.heap.get? b=some o->h'.get? b=some o) (j:H a=none) (hL:a≠X.env.locals)
   (l:a∈X.ex\/X.fJ.heap.objs.size<=a) (w: ∀x c,X.env.cells.lookup x=some c->c≠a) (h3: ∀p∈X.pn++g,p.1≠a):aD X g σ H {s with heap:=h',toks:=t'}:=by
 have i: ∀b u,H b=some u->b≠a:=λb u e z=>by rw [z,j] at e;cases e
 refine I.step (ch:=[a]) (λb y=>?_) (λb o _ _ h e _=>k b o (λz=>h (by simp [z])) e) (λb o _ _ h e _=>⟨o.slots,k b o (λz=>h (by simp [z])) e⟩) (λ_ _ _ _ n=>n)
   (λb o h e=>⟨o,k b o (λz=>h (by simp [z])) e⟩) (λ_ _ e=>e) (λ_ _ _ e=>e) (λb ps e=>⟨#[],by rw [e];simp⟩) (λm B=>?_) (λb u e=>?_) I.bare
 . have e:b=a:=by simpa using y
   subst e;exact ⟨l,hL,w,h3⟩
 . obtain ⟨o,E,J,L,r⟩:=B;exact ⟨o,E,J,k _ o (lD hL) L,r⟩
 . refine (I.a7 b u e).bq (λc v h q=>k c v ?_ q) (λ_ q=>q) λ_ _ q=>q
   rcases h with z|z
   . rw [z];exact i b u e
   . exact i c _ z
def aD.tok (I:aD X g σ H s) (t:Nat):aD X g σ H {s with toks:=t}:=I.un Un.refl I.a7
def aD.kept {t':Nat} (I:aD X g σ H s) (k: ∀b u,s.heap.get? b=some u->h'.get? b=some u):aD X g σ H {s with heap:=h',toks:=t'}:=I.un (Un.kept k) (I.a7.kept k)
def aD.laid {a:Addr} {o:HO} {t':Nat} (I:aD X g σ H s) (k: ∀b u,s.heap.get? b=some u->h'.get? b=some u) (c:s.heap.objs.size<=a) (new:a9 X.prog X.w (aU H a o) h' a o):
 aD X g σ (aU H a o) {s with heap:=h',toks:=t'}:=I.un (Un.laid k c (I.a7.fresh c)) (I.a7.laid k c new)
def aD.write {x e:Addr} {o:HO} {i:Nat} (I:aD X g σ H s) (c:qp (H x)) (h:e=x\/H e=some (.aw x)) (k: ∀b u,b≠e->s.heap.get? b=some u->h'.get? b=some u) (a: ∃u,h'.get? e=some u)
 (new:a9 X.prog X.w (aU H x o) h' x o):aD X g σ (aU H x o) {s with heap:=h',toks:=i}:=I.un (Un.write c h k a) (I.a7.write c h k a new)
def aD.oQ {a:List (Addr×Obj)} (I:aD X g σ H s) (h: ∀p∈a,s.heap.get? p.1=some p.2/\H p.1=none/\p.1≠X.env.locals/\p.1∉X.fs/\ ∀v,p.2.data≠ .cell v):aD X a σ H s:=
 ⟨I.ok,I.os,I.bare,I.ae,I.loc,I.cell,I.free,I.dI,λp c=>(i3.mp c).elim (λz=>I.pin p (ut _ z)) (h p),I.a7,I.len⟩
def Xd {N:List Str} (hN:N.Nodup) {i j:Nat} {x:Str} (a:N[i]?=some x) (b:N[j]?=some x):i=j:=by
 obtain ⟨c,e1⟩:=m9.mp a;obtain ⟨e,e2⟩:=m9.mp b;exact (FC hN).mp (e1.trans e2.symm)
def X2 {M:Model} {A:cf} {E:T9} {i:Nat} {x:Str} {v:V} {u:Value} {Q:Unit->aH->Prop} (I:aD X g σ H s) (hN:X.N.Nodup) (Y:X.N[i]?=some x) (B:Loc X.env.scope x) (r:aK v u)
   (h: ∀s',aD X g (σ.set i (some v)) H s'->(∃a,rA a s.heap s'.heap/\(a=X.env.locals\/X.env.cells.lookup x=some a))->Q () s') (hf:T6 X x:=by first|exact .inl rfl|exact .inr rfl|assumption):wpAny M A (storeName X.env x u) Q E s:=by
 obtain ⟨m,hn,hl⟩:=id I.loc;have Z:(X.env.scope.kind== .class|| (X.env.scope.kind== .module&&X.env.locals !=X.env.globals))=false:=by rw [I.ok.kind];rfl
 have L:i<σ.length:=by rw [I.len];exact (m9.mp Y).1
 have rz:=I.rz
 have w: ∀ {a:Addr} {h':Heap},(∃o,s.heap.get? a=some o/\H a=none)->rA a s.heap h'->eY X.prog X.w H h':=λ{a h'} ha l b ob e=>by
   obtain ⟨_,_,J⟩:=ha;refine (I.a7 b ob e).bq (λc w' hc q=>(l.2 c ?_).trans q) (λ_ q=>q) λ_ _ q=>q
   rintro rfl;rcases hc with rfl|hc
   . rw [J] at e;cases e
   . rw [J] at hc;cases hc
 rcases B with hk|hk
 . refine wpAny_storeName_local hk hn (λh' RO l=>?_) Z;obtain ⟨oL,_,_,RP,_⟩:=id hn;refine h _ ⟨I.ok,I.os,I.bare,⟨λb o e n N B=>?_,λb o e n N B=>?_,I.ae.free,λb o e B=>?_,I.ae.gy,I.ae.gU,I.ae.ig⟩,⟨_,RO,λj y v' e1 e2 e3=>?_⟩,λy c e=>?_,I.free,I.dI,λp hp=>?_,w ⟨oL,RP,I.free⟩ l,by simpa using I.len⟩ ⟨_,l,.inl rfl⟩
   . exact (l.2 b (dH (gT (cL e) I.ok.above))).trans (I.ae.keep b o e n N B)
   . obtain ⟨sl,e1⟩:=I.ae.slot b o e n N B;exact ⟨sl,(l.2 b (dH (gT (cL e) I.ok.above))).trans e1⟩
   . obtain ⟨o',e1⟩:=I.ae.there b o e B;exact ⟨o',(l.2 b (dH (gT (cL e) I.ok.above))).trans e1⟩
   . by_cases O:j=i
     . subst O;rw [Y] at e1;cases e1;rw [y4 L] at e2;cases e2;exact ⟨u,r,.inl ⟨hk,by simp⟩⟩
     . rw [DQ (lD O)] at e2;obtain ⟨u',r',q⟩:=hl j y v' e1 e2 e3;refine ⟨u',r',?_⟩;rcases q with ⟨k,e⟩| ⟨k,c,e,z⟩
       . refine .inl ⟨k,?_⟩;have:y≠x:=λe=>O (Xd hN e1 (e▸Y))
         simp [this,e]
       . exact .inr ⟨k,c,e,z.sameBut l (rz y c e)⟩
   . obtain ⟨w',z⟩:=I.cell y c e;exact ⟨w',z.sameBut l (rz y c e)⟩
   . obtain ⟨e,n,ne,nf,d⟩:=I.pin p hp;exact ⟨(l.2 p.1 ne).trans e,n,ne,nf,d⟩
 . have U:X.fn x=true:=by
     rcases hf with z|z
     . exact z
     . rw [z] at hk;cases hk
   obtain ⟨c,hc⟩:=I.ok.has x (.inl hk);obtain ⟨w',z⟩:=I.cell x c hc;refine wpAny_storeName_cell I.ok.kind hk hc z (λh' Bf l=>?_);obtain ⟨oc,Ms,FD⟩:=id z;refine h {s with heap:=h'} ⟨I.ok,I.os,I.bare,⟨λb o e n N B=>?_,λb o e n N B=>?_,I.ae.free,λb o e B=>?_,I.ae.gy,I.ae.gU,I.ae.ig⟩,⟨m,hn.sameBut l (lD (rz x c hc)),λj y v' e1 e2 e3=>?_⟩,λy c' e=>?_,I.free,I.dI,λp hp=>?_,w ⟨oc,Ms,I.dI x c hc⟩ l,by simpa using I.len⟩ ⟨c,l,.inr hc⟩
   . exact (l.2 b (dH (gT (cL e) (I.ok.sR x c U hc)))).trans (I.ae.keep b o e n N B)
   . obtain ⟨sl,e1⟩:=I.ae.slot b o e n N B;exact ⟨sl,(l.2 b (dH (gT (cL e) (I.ok.sR x c U hc)))).trans e1⟩
   . obtain ⟨o',e1⟩:=I.ae.there b o e B;exact ⟨o',(l.2 b (dH (gT (cL e) (I.ok.sR x c U hc)))).trans e1⟩
   . by_cases O:j=i
     . subst O;rw [Y] at e1;cases e1;rw [y4 L] at e2;cases e2;exact ⟨u,r,.inr ⟨.inl hk,c,hc,Bf⟩⟩
     . rw [DQ (lD O)] at e2;obtain ⟨u',r',q⟩:=hl j y v' e1 e2 e3;refine ⟨u',r',?_⟩;rcases q with q| ⟨k,c',e,z'⟩
       . exact .inl q
       . refine .inr ⟨k,c',e,z'.sameBut l ?_⟩;rintro rfl;exact O (Xd hN e1 (I.ok.inj _ _ _ e hc▸Y))
   . by_cases Mt:c'=c
     . subst Mt;exact ⟨_,Bf⟩
     . obtain ⟨w2,z2⟩:=I.cell y c' e;exact ⟨w2,z2.sameBut l Mt⟩
   . obtain ⟨e,n,ne,nf,d⟩:=I.pin p hp;refine ⟨(l.2 p.1 ?_).trans e,n,ne,nf,d⟩;intro q;rw [q,Ms] at e;have q':=ie e;exact d w' (by rw [<-q'];exact FD)
def yF {M:Model} {A:cf} {E:T9} {i:Nat} {x:Str} {v:V} {u:Value} {Q:Unit->aH->Prop} (I:aD X g σ H s) (hN:X.N.Nodup) (c:X.N[i]?=some x) (e:Loc X.env.scope x) (r:aK v u)
  (h: ∀a,aD X g (σ.set i (some v)) H a->Q () a) (j:T6 X x:=by first|exact .inl rfl|exact .inr rfl|assumption):wpAny M A (storeName X.env x u) Q E s:=
 X2 I hN c e r (λa l _=>h a l) j
def aD.ny {s':aH} {h:List Addr} (I:aD X g σ H s) (i:s'.os=s.os) (u:Un (fg X.stack) h H H' s.heap s'.heap) (a7:eY X.prog X.w H' s'.heap) (hg:sE s'.gens)
  (a: ∀b∈h,(b∈X.ex\/X.fJ.heap.objs.size<=b)/\b≠X.env.locals/\(∀x c,X.env.cells.lookup x=some c->c≠b)/\ ∀p∈X.pn++g,p.1≠b):aD X g σ H' s':=by
 obtain ⟨h',j,l,m,n⟩:=s';have e:=i;subst e;exact I.call u a7 hg a
end
abbrev XK:=Value->Option Addr->Hp->Prop
abbrev St:=List (Option V)
abbrev VK:=V->Hp->Prop
abbrev TE:=St->Hp->VK->Prop
abbrev TT:=St->Hp->(Bool->Hp->Prop)->Prop
abbrev TA:=St->Hp->(List V->Hp->Prop)->Prop
structure Ends where
 nx:St->Hp->Prop
 rt:VK
 bk:St->Hp->Prop:=λ_ _=>False
 ct:St->Hp->Prop:=λ_ _=>False
abbrev TS:=Ends->St->Hp->Prop
def EP (X:Cx) (a:List (Addr×Obj)) (e:St) (Q:VK) (u:Value) (g:aH):Prop:= ∃v c,aD X a e c g/\aK v u/\Q v c
def TP (X:Cx) (a:List (Addr×Obj)) (e:St) (Q:Bool->Hp->Prop) (b:Bool) (g:aH):Prop:= ∃c,aD X a e c g/\Q b c
def AP (X:Cx) (a:List (Addr×Obj)) (g:St) (Q:List V->Hp->Prop) (h:List Value) (i:aH):Prop:= ∃c e,aD X a g e i/\aI c h/\Q c e
def SP (X:Cx) (c:List (Addr×Obj)) (D:Ends) (f:Flow) (g:aH):Prop:=
 match f with
 | .next=> ∃a e,aD X c a e g/\D.nx a e
 | .brk=> ∃a e,aD X c a e g/\D.bk a e
 | .cont=> ∃a e,aD X c a e g/\D.ct a e
 | .ret u=> ∃v a e,aD X c a e g/\aK v u/\D.rt v e
def PE (X:Cx) (e:Expr) (t:TE):Prop:=
 ∀(a:List (Addr×Obj)) (s:aH) (c:St) (H:Hp) (Q:VK),aD X a c H s->t c H Q->wpAny (model X.prog X.w) X.A (eval e X.env) (EP X a c Q) X.xe s
def PT (X:Cx) (e:Expr) (t:TT):Prop:=
 ∀(a:List (Addr×Obj)) (s:aH) (c:St) (H:Hp) (Q:Bool->Hp->Prop),aD X a c H s->t c H Q->wpAny (model X.prog X.w) X.A (isTrue e X.env (eval e X.env)) (TP X a c Q) X.xe s
def PW (X:Cx) (e:Expr) (t:TT):Prop:=
 ∀(whole:Sem Value) (a:List (Addr×Obj)) (s:aH) (c:St) (H:Hp) (Q:Bool->Hp->Prop),aD X a c H s->t c H Q->wpAny (model X.prog X.w) X.A (isTrue e X.env whole) (TP X a c Q) X.xe s
def PW.pt {X:Cx} {e:Expr} {t:TT} (h:PW X e t):PT X e t:=h _
def PA (X:Cx) (g:List Expr) (t:TA):Prop:=
 ∀(c:Pos) (a:List (Addr×Obj)) (s:aH) (e:St) (H:Hp) (Q:List V->Hp->Prop),aD X a e H s->t e H Q->wpAny (model X.prog X.w) X.A (spliced (gz c (bB g X.env))) (AP X a e Q) X.xe s
def PS (X:Cx) (st:Stmt) (t:TS):Prop:=
 ∀(a:List (Addr×Obj)) (s:aH) (c:St) (H:Hp) (D:Ends),aD X a c H s->t D c H->wpAny (model X.prog X.w) X.A (exec st X.env) (SP X a D) X.xe s
def gn (X:Cx) (st:List Stmt) (t:TS):Prop:=
 ∀(a:List (Addr×Obj)) (s:aH) (c:St) (H:Hp) (D:Ends),aD X a c H s->t D c H->wpAny (model X.prog X.w) X.A (execs st X.env) (SP X a D) X.xe s
def bv {c:Type} {t:Sem c} {Q e:c->aH->Prop} {M:Model} {A:cf} {E:T9} {s:aH} (h:wpAny M A t Q E s) (g: ∀a s,Q a s->e a s):wpAny M A t e E s:=nq h g λ_ _ x=>x
section
variable {X:Cx}
def FE (i:Nat):TE:=λa H Q=> ∃v,a[i]?=some (some v)/\Q v H
def tC (v:V):TE:=λ_ H Q=>Q v H
def xZ {i:Nat} {x:Str} {Z:Pos} (hN:X.N[i]?=some x) (p:iM X.env.scope x) (hd:Z8 x:=by decide) (n:X8 x:=by decide):PE X (.Name x Z) (FE i):=by
 intro j s q H Q I h;obtain ⟨v,e,h⟩:=h;obtain ⟨m,w,y⟩:=I.loc;obtain ⟨u,r,l⟩:=y i x v hN e p;have g:EP X j q Q u s:=⟨v,H,I,r,h⟩
 rcases l with ⟨hk,z⟩| ⟨hk,c,o,a⟩
 . exact Bg (FG I.ok.kind hk w z g) hd
 . rcases hk with hk|hk
   . exact Bg (FH I.ok.kind hk o a g) hd
   . exact Bg (wpAny_loadName_free I.ok.kind hk o a g n) hd
def Mu {i j Z}:PE X (.Constant (.int i) j Z) (tC (.int i)):=λ_ _ _ H _ I h=>wpAny_Constant_int ⟨.int i,H,I.tok _,⟨_,rfl⟩,h⟩
def RQ {b j Z}:PE X (.Constant (.bool b) j Z) (tC (.bl b)):=λ_ _ _ H _ I h=>Constant_bool ⟨.bl b,H,I,rfl,h⟩
def RR {j Z}:PE X (.Constant .none j Z) (tC .aW):=λ_ _ _ H _ I h=>Constant_none ⟨.aW,H,I,rfl,h⟩
def RS {x j Z}:PE X (.Constant (.str x) j Z) (tC (.str x)):=λ_ _ _ H _ I h=>Calls.Constant_str ⟨.str x,H,I.tok _,⟨_,rfl⟩,h⟩
def Gl (X:Cx) (x:Str):Prop:=X.env.kindOf x=some .globalImplicit
def Qf {E:T9} {a:List (Addr×Obj)} {s:aH} {c:St} {H:Hp} {x:Str} {u:Value} {Z:Pos} {Q:T9} (I:aD X a c H s) (e:Gl X x) (g:X.mg x=some u) (h:Q u s)
  (hd:Z8 x:=by decide):wpAny (model X.prog X.w) X.A (eval (.Name x Z) X.env) Q E s:=
 Calls.Name_function_global I.ok.kind e (Calls.loadGlobal_global (by rw [I.ok.glob];exact I.mod.glob.keeps I.bk) g h) hd
def Wu {E:T9} {a:List (Addr×Obj)} {s:aH} {c:St} {H:Hp} {x:Str} {u:Value} {Z:Pos} {Q:T9} (I:aD X a c H s) (e:Gl X x) (g:X.mg x=none) (i:n4 x=some u) (h:Q u s)
  (j:x≠ "__name__" :=by decide) (hd:Z8 x:=by decide):wpAny (model X.prog X.w) X.A (eval (.Name x Z) X.env) Q E s:=by
 obtain ⟨n,l,m⟩:=I.mod.blt;exact Calls.Name_function_global I.ok.kind e (Calls.loadGlobal_builtin (by rw [I.ok.glob];exact I.mod.glob.keeps I.bk) g (by rw [I.ok.blt];exact l.keeps I.bk) ((m x j).trans i) h) hd
def Zg {x:Str} {v:V} {u:Value} {Z:Pos} (a:Gl X x) (c:X.mg x=some u) (r:aK v u) (hd:Z8 x:=by decide):PE X (.Name x Z) (tC v):=
 λ_ _ _ H _ I h=>Qf I a c ⟨v,H,I,r,h⟩ hd
def uW {x:Str} {v:V} {u:Value} {Z:Pos} (a:Gl X x) (c:X.mg x=none) (e:n4 x=some u) (r:aK v u) (g:x≠ "__name__" :=by decide) (hd:Z8 x:=by decide):PE X (.Name x Z) (tC v):=
 λ_ _ _ H _ I h=>Wu I a c e ⟨v,H,I,r,h⟩ g hd
variable {a b:Expr} {Y U:TE} {Z:Pos}
def tB (t:TE):TT:=λe H Q=>t e H λx g=> ∃c,x= .bl c/\Q c g
def RT {e:Expr} {t:TE} (h:PE X e t) (i: ∀whole,isTrue e X.env whole=(do let v<-whole;sS e.pos;sF [v] (truthy v)):=by intro _;rfl):PT X e (tB t):=by
 intro c s j H Q I hw;refine isTrue_plain (bv (h c s j H _ I hw) λv p g=>?_) (i _);obtain ⟨x,l,m,n,o⟩:=g;obtain ⟨d,rfl,q⟩:=o;cases n;exact rB ⟨l,m,q⟩
variable {tA O:TT} {rest:List Expr}
def FK (t u:TT):TT:=λe H Q=>t e H λc g=>if c=true then u e g Q else Q false g
def RU (t u:TT):TT:=λe H Q=>t e H λc g=>if c=true then Q true g else u e g Q
def FL (t:TT):TT:=λe H Q=>t e H λc g=>Q (!c) g
def RV (i:PT X a tA):PW X (.BoolOp .And [a] Z) tA:=by
 intro l g s j H Q I h;refine isTrue_and (bv (i g s j H Q I h) λc m e=>?_)
 cases c with
 |true=>exact isTrue_and_nil e
 |false=>exact e
def RW (i:PT X a tA):PW X (.BoolOp .Or [a] Z) tA:=by
 intro l g s j H Q I h;refine isTrue_or (bv (i g s j H Q I h) λc m e=>?_)
 cases c with
 |false=>exact isTrue_or_nil e
 |true=>exact e
def RX (n:PT X a tA) (o:PW X (.BoolOp .And (b::rest) Z) O):PW X (.BoolOp .And (a::b::rest) Z) (FK tA O):=by
 intro p e s i H Q I h;refine isTrue_and (bv (n e s i H _ I h) λc q g=>?_);obtain ⟨j,l,m⟩:=g
 cases c with
 |true=>exact o p e q i j Q l m
 |false=>exact ⟨j,l,m⟩
def RY (n:PT X a tA) (o:PW X (.BoolOp .Or (b::rest) Z) O):PW X (.BoolOp .Or (a::b::rest) Z) (RU tA O):=by
 intro p e s i H Q I h;refine isTrue_or (bv (n e s i H _ I h) λc q g=>?_);obtain ⟨j,l,m⟩:=g
 cases c with
 |true=>exact ⟨j,l,m⟩
 |false=>exact o p e q i j Q l m
def RZ (g:PT X a tA):PT X (.UnaryOp .Not a Z) (FL tA):=by
 intro e s i H Q I h;exact isTrue_not (g e s i H (λc j=>Q (!c) j) I h)
def R0 (Y U:TE):TE:=λe H Q=>Y e H λx g=> ∃c,x= .bl c/\if c=true then U e g Q else Q (.bl false) g
def FM (Y U:TE):TE:=λe H Q=>Y e H λx g=> ∃c,x= .bl c/\if c=true then Q (.bl true) g else U e g Q
def R1 (Y:TE):TE:=λe H Q=>Y e H λx g=> ∃c,x= .bl c/\Q (.bl (!c)) g
def R3 {e} {t:TE} (h:PE X a t):PE X (.BoolOp e [a] Z) t:=λc s g H Q I hw=>BoolOp_one (h c s g H Q I hw)
def R4 (n:PE X a Y) (o:PE X (.BoolOp .And (b::rest) Z) U):PE X (.BoolOp .And (a::b::rest) Z) (R0 Y U):=by
 intro e s j H Q I h;refine BoolOp_and (bv (n e s j H _ I h) λv p i=>?_);obtain ⟨x,l,m,q,g⟩:=i;obtain ⟨c,rfl,g⟩:=g;cases q;refine rB ?_
 cases c with
 |true=>exact o e p j l Q m g
 |false=>exact ⟨.bl false,l,m,rfl,g⟩
def R5 (n:PE X a Y) (o:PE X (.BoolOp .Or (b::rest) Z) U):PE X (.BoolOp .Or (a::b::rest) Z) (FM Y U):=by
 intro e s j H Q I h;refine BoolOp_or (bv (n e s j H _ I h) λv p i=>?_);obtain ⟨x,l,m,q,g⟩:=i;obtain ⟨c,rfl,g⟩:=g;cases q;refine rB ?_
 cases c with
 |false=>exact o e p j l Q m g
 |true=>exact ⟨.bl true,l,m,rfl,g⟩
def R6 (j:PE X a Y):PE X (.UnaryOp .Not a Z) (R1 Y):=by
 intro e s l H Q I h;refine UnaryOp_ (bv (j e s l H _ I h) λv p g=>?_);obtain ⟨x,m,n,o,i⟩:=g;obtain ⟨c,rfl,i⟩:=i;cases o;exact not_of (rB ⟨.bl (!c),m,n,rfl,i⟩)
def R7 (t:TT) (Y U:TE):TE:=λe H Q=>t e H λc g=>if c=true then Y e g Q else U e g Q
def R8 {c:Expr} (o:PT X c tA) (p:PE X a Y) (q:PE X b U):PE X (.IfExp c a b Z) (R7 tA Y U):=by
 intro e s g H Q I h;refine wpAny_IfExp (bv (o e s g H _ I h) λd j i=>?_);obtain ⟨l,m,n⟩:=i
 cases d with
 |true=>exact p e j g l Q m n
 |false=>exact q e j g l Q m n
end
def gR (K:aG) (H:Hp) (a:Addr) (e:List V):Prop:=
 Rd H a (.ah e)\/
  ∃(o:Obj) (c:Array Value) (n:Nat),K.lookup a=some o/\o.cls= .type "list" /\o.dict=none/\o.data= .seq c n/\c.size<=aV/\aI e c.toList
def i9 (K:aG) (H:Hp) (a:Addr) (e:List V):Prop:=
 Rd H a (.ap e)\/
  ∃(o:Obj) (c:Array Value) (n:Nat),K.lookup a=some o/\o.cls= .type "tuple" /\o.data= .seq c n/\c.size<=aV/\aI e c.toList
def FN:Value->Option V
 | .none=>some .aW
 | .bool b=>some (.bl b)
 | .int i _=>some (.int i)
 | .str x _=>some (.str x)
 | .bytes b _=>some (.qh b)
 | .float b _=>some (.yE b)
 | .ref a=>some (.ref a)
 | .type n=>some (.ty n)
 |_=>none
def aK.abs {x:V} {u:Value} (r:aK x u):FN u=some x:=by
 cases x with
 |aW=>cases r;rfl
 |bl _=>cases r;rfl
 |int _=>obtain ⟨t,rfl⟩:=r;rfl
 |str _=>obtain ⟨t,rfl⟩:=r;rfl
 |qh _=>obtain ⟨t,rfl⟩:=r;rfl
 |yE _=>obtain ⟨t,rfl⟩:=r;rfl
 |ref _=>cases r;rfl
 |ty _=>cases r;rfl
def aK.inj {x y:V} {u:Value} (r:aK x u) (q:aK y u):x=y:=ie (r.abs.symm.trans q.abs)
theorem aI.inj: ∀ {a c:List V} {e:List Value},aI a e->aI c e->a=c
 |_,_,_,.nil,.nil=>rfl
 |_,_,_,.cons r t,.cons g h=>by rw [r.inj g,aI.inj t h]
section
variable {X:Cx} {pins:List (Addr×Obj)} {σ:St} {H:Hp} {s:aH} {a:Addr} {q ys:List V}
def gR.of {K:aG} (h:H a=some (.ah q)):gR K H a q:= .inl (.inl h)
def i9.of {K:aG} (h:H a=some (.ap q)):i9 K H a q:= .inl (.inl h)
def aD.list (I:aD X pins σ H s) (h:gR X.K H a q): ∃c:List Value,aI q c/\PlainL s.heap a c.toArray/\q.length<=aV:=by
 rcases h with h| ⟨o,c,n,hk,g,hd,i,j,r⟩
 . obtain ⟨z,c,n,r,e⟩:=h.ok I.a7;exact ⟨c,r,⟨_,n,e,rfl,rfl,rfl⟩,z⟩
 . refine ⟨c.toList,r,⟨o,n,I.fQ a o hk,g,hd,by simpa using i⟩,?_⟩;have e:=r.length;simp only [lC] at e;omega
def aD.tuple (I:aD X pins σ H s) (h:i9 X.K H a q): ∃c:List Value,aI q c/\IsTup s.heap a c.toArray/\q.length<=aV:=by
 rcases h with h| ⟨o,c,n,hk,g,i,j,r⟩
 . obtain ⟨z,c,r,p⟩:=h.ok I.a7;exact ⟨c,r,p,z⟩
 . refine ⟨c.toList,r,⟨o,I.fQ a o hk,g,n,by simpa using i⟩,?_⟩;have e:=r.length;simp only [lC] at e;omega
def aD.rC (I:aD X pins σ H s) (h:gR X.K H a q) (l:gR X.K H a ys):q=ys:=by
 obtain ⟨g,r,⟨o,n,e,_,_,d⟩,_⟩:=I.list h;obtain ⟨c,m,⟨u,v,i,_,_,j⟩,_⟩:=I.list l;rw [e] at i;cases i;rw [d] at j;injection j with p _;have:g=c:=by simpa using congrArg Array.toList p
 subst this;exact r.inj m
def aD.pb (I:aD X pins σ H s) (h:i9 X.K H a q) (l:i9 X.K H a ys):q=ys:=by
 obtain ⟨g,r,⟨o,e,_,n,d⟩,_⟩:=I.tuple h;obtain ⟨c,m,⟨u,i,_,v,j⟩,_⟩:=I.tuple l;rw [e] at i;cases i;rw [d] at j;injection j with p _;have:g=c:=by simpa using congrArg Array.toList p
 subst this;exact r.inj m
end
abbrev Cx.lJ (X:Cx) (E:T9):Cx:={X with xe:=E}
abbrev Cx.pc (X:Cx):Cx:=X.lJ λ_ _=>False
def Cx.Ok.lJ {X:Cx} (ok:X.Ok) (E:T9):(X.lJ E).Ok:=
 ⟨ok.mod,ok.kind,ok.glob,ok.blt,ok.above,ok.inj,ok.has,ok.sR,ok.hd,ok.frames,ok.ub,ok.ur,ok.bs,ok.o9,ok.mu,ok.mw,ok.gA,ok.ro⟩
def Cx.Ok.fR {X:Cx} {E:T9} (ok:(X.lJ E).Ok):X.Ok:=
 ⟨ok.mod,ok.kind,ok.glob,ok.blt,ok.above,ok.inj,ok.has,ok.sR,ok.hd,ok.frames,ok.ub,ok.ur,ok.bs,ok.o9,ok.mu,ok.mw,ok.gA,ok.ro⟩
section
variable {X:Cx} {pins:List (Addr×Obj)} {σ:St} {H:Hp} {s:aH} {E:T9}
def aD.lJ (I:aD X pins σ H s) (E:T9):aD (X.lJ E) pins σ H s:=⟨I.ok.lJ E,I.os,I.bare,I.ae,I.loc,I.cell,I.free,I.dI,I.pin,I.a7,I.len⟩
def aD.fR (I:aD (X.lJ E) pins σ H s):aD X pins σ H s:=⟨I.ok.fR,I.os,I.bare,I.ae,I.loc,I.cell,I.free,I.dI,I.pin,I.a7,I.len⟩
def SP.fR {D:Ends} {f:Flow} {e:aH} (h:SP (X.lJ E) pins D f e):SP X pins D f e:=by
 cases f with
 |next=>obtain ⟨a,c,I,q⟩:=h;exact ⟨a,c,I.fR,q⟩
 |brk=>obtain ⟨a,c,I,q⟩:=h;exact ⟨a,c,I.fR,q⟩
 |cont=>obtain ⟨a,c,I,q⟩:=h;exact ⟨a,c,I.fR,q⟩
 |ret u=>obtain ⟨v,a,c,I,r,q⟩:=h;exact ⟨v,a,c,I.fR,r,q⟩
def gn.pc {st:List Stmt} {t:TS} (h:gn X.pc st t):gn X st t:=λpins s σ H D I hw=>
 nq (h pins s σ H D (I.lJ _) hw) (λ_ _ q=>q.fR) λ_ _ z=>l7 z
end
section
variable {X:Cx} {st:Stmt} {rest:List Stmt} {t u:TS} {e:Expr} {y:TE} {z:Pos}
def R9:TS:=λD a H=>D.nx a H
def FP (t u:TS):TS:=λD a H=>t {D with nx:=u D} a H
def WZ:gn X [] R9:=λ_ _ a H _ I h=>y6 ⟨a,H,I,h⟩
def QK (g:PS X st t) (i:gn X rest u):gn X (st::rest) (FP t u):=by
 intro a s j H D I h;refine BN (bv (g a s j H {D with nx:=u D} I h) λf l q=>?_)
 cases f with
 |next=>
  obtain ⟨c,m,n,q⟩:=q;exact i a l c m D n q
 |ret v=>exact q
 |brk=>exact q
 |cont=>exact q
def WY (c:PS X st t):gn X [st] t:=by
 intro a s g H D I h;refine BN (bv (c a s g H D I h) λf i q=>?_)
 cases f with
 |next=>exact y6 q
 |ret v=>exact q
 |brk=>exact q
 |cont=>exact q
def aD.quiet {a:List (Addr×Obj)} {c:St} {H:Hp} {s:aH} (I:aD X a c H s):interactive X.env=false:=by simp [interactive,I.ok.kind]
def Sa (y:TE):TS:=λD a H=>y a H λ_ c=>D.nx a c
def Qb (g:PE X e y) (i:lK e none z.line X.env=pure false:=by rfl):PS X (.Expr e z) (Sa y):=by
 intro a s c H D I h;exact wpAny_Expr_any (bv (g a s c H _ I h) λv n ⟨x,j,l,o,m⟩=>⟨c,j,l,m⟩) I.quiet i
def FQ (y:TE):TS:=λD a H=>y a H D.rt
def uJ (g:PE X e y):PS X (.Return (some e) z) (FQ y):=by
 intro a s c H D I h;exact wpAny_Return_some (bv (g a s c H _ I h) λv n ⟨x,i,j,l,m⟩=>⟨x,c,i,j,l,m⟩)
def FR (c:TT) (t u:TS):TS:=λD a H=>c a H λb g=>if b=true then t D a g else u D a g
def uK {c:Expr} {a b:List Stmt} {l:TT} (q:PT X c l) (r:gn X a t) (v:gn X b u):PS X (.If c a b z) (FR l t u):=by
 intro g s i H D I h;refine wpAny_If (bv (q g s i H _ I h) λd m j=>?_);obtain ⟨n,o,p⟩:=j
 cases d with
 |true=>exact r g m i n D o p
 |false=>exact v g m i n D o p
end
abbrev TG:=V->St->Hp->(St->Hp->Prop)->Prop
abbrev y7:=List V->St->Hp->(St->Hp->Prop)->Prop
def PG (X:Cx) (a:Expr) (t:TG):Prop:=
 ∀(c:List (Addr×Obj)) (s:aH) (g:St) (H:Hp) (v:V) (u:Value) (Q:St->Hp->Prop),aD X c g H s->aK v u->t v g H Q->
  wpAny (model X.prog X.w) X.A (assign a X.env u) (λ_ i=> ∃e h,aD X c e h i/\Q e h) X.xe s
def DR (X:Cx) (j:List Expr) (t:y7):Prop:=
 ∀(a:List (Addr×Obj)) (s:aH) (e:St) (H:Hp) (g:List V) (h:List Value) (Q:St->Hp->Prop),aD X a e H s->aI g h->t g e H Q->
  wpAny (model X.prog X.w) X.A (assignInOrder ((pe j X.env).map (·.2)) h) (λ_ l=> ∃c i,aD X a c i l/\Q c i) X.xe s
abbrev DU:=V->V->Hp->VK->Prop
def FS (X:Cx) (e:Operator) (t:DU):Prop:=
 ∀(a:List (Addr×Obj)) (s:aH) (c:St) (H:Hp) (x y:V) (v u:Value) (Q:VK),aD X a c H s->aK x v->aK y u->t x y H Q->
  wpAny (model X.prog X.w) X.A (inplaceOp e v u) (EP X a c Q) X.xe s
section
variable {X:Cx} {pos:Pos}
def Mv (i:Nat):TG:=λv a H Q=>Q (a.set i (some v)) H
def Sb {i:Nat} {x:Str} (hN:X.N.Nodup) (c:X.N[i]?=some x) (e:Loc X.env.scope x) (g:T6 X x:=by first|exact .inl rfl|exact .inr rfl|assumption):PG X (.Name x pos) (Mv i):=by
 intro a s l H v u Q I r h;exact wpAny_assign_Name (yF I hN c e r (λm j=>⟨_,H,j,h⟩) g)
def FT:y7:=λa c H Q=>a=[]/\Q c H
def Sd (t:TG) (u:y7):y7:=λc e H Q=> ∃v r,c=v::r/\t v e H λa g=>u r a g Q
def Se:DR X [] FT:=by
 intro a s c H g i Q I r h;obtain ⟨e,h⟩:=h;subst e;cases r;exact assignInOrder_nil ⟨c,H,I,h⟩
def VQ {e:Expr} {c:List Expr} {t:TG} {u:y7} (j:PG X e t) (l:DR X c u)
  (m:(pe (e::c) X.env).map (·.2)=assign e X.env::(pe c X.env).map (·.2):=by rfl):DR X (e::c) (Sd t u):=by
 intro a s n H z B Q I r h;obtain ⟨v,E,e1,h⟩:=h;subst e1
 cases r with
 |cons r o=>
  rw [m];refine assignInOrder_cons (bv (j a s n H _ _ _ I r h) λ_ p g=>?_);obtain ⟨i,q,w,y⟩:=g;exact l a p i q _ _ Q w o y
def FU (K:aG) (n:Nat) (t:y7):TG:=λv e H Q=> ∃a c,v= .ref a/\i9 K H a c/\c.length=n/\t c e H Q
def Sg {g:List Expr} {k:Nat} {t:y7} {n:Nat} (l:X.cF=true) (h:DR X g t)
  (m:(pe g X.env).length=n:=by rfl) (i:(pe g X.env).findIdx? (·.1)=none:=by rfl):PG X (.Tuple g k pos) (FU X.K n t):=by
 intro c s p H v u Q I r hw;obtain ⟨a,q,e1,w,y,hw⟩:=hw;subst e1;cases r;obtain ⟨z,j,B,J⟩:=I.tuple w;refine assign_Tuple_tuple (I.ok.hd l) B (by simp [m,<-y,j.length]) i λL E=>?_
 exact h c _ p H q _ Q (I.kept (t':=s.toks) λb o e=>E b o (dH (cL e)) e) (by simpa using j) hw
def BO (c:TE) (g:TG):TS:=λD a H=>c a H λx e=>g x a e D.nx
def Sh {c e:Expr} {j:TE} {g:TG} (m:PE X e j) (n:PG X c g) (o:swapsWithSole [c] e pos.line X.env=pure false:=by rfl) (hw:swappedStores [c] e X.env=pure none:=by rfl)
  (p:(pe [c] X.env).map (·.2)=[assign c X.env]:=by rfl):PS X (.Assign [c] e pos) (BO j g):=by
 intro a s l H D I h;refine wpAny_Assign_stores (bv (m a s l H _ I h) λv r i=>?_) o hw;obtain ⟨x,u,w,y,z⟩:=i;rw [p];exact bv (n a r l u x v _ w y z) λ_ B q=>q
def uI {i:Nat} {x:Str} {e:Expr} {j:TE} {a:Pos} (hN:X.N.Nodup) (l:X.N[i]?=some x) (m:Loc X.env.scope x) (n:PE X e j) (o:lK e (some (.Name x a)) pos.line X.env=pure false:=by rfl) (p:T6 X x:=by first|exact .inl rfl|exact .inr rfl|assumption):
  PS X (.Assign [.Name x a] e pos) (BO j (Mv i)):=by
 intro c s q H D I h;refine wpAny_Assign_Name (bv (n c s q H _ I h) λv E g=>?_) o;obtain ⟨y,r,u,w,z⟩:=g;exact yF u hN l m w (λJ B=>⟨_,r,B,z⟩) p
def FV (i j:Nat) (c:TA):TS:=λD a H=>c a H λe g=> ∃v w,e=[v,w]/\D.nx ((a.set i (some v)).set j (some w)) g
def Si {i j:Nat} {x y:Str} {a b:Expr} {O:TA} {n r pt:Pos} {u z c} (hc:X.cF=true) (hN:X.N.Nodup) (hi:X.N[i]?=some x) (hj:X.N[j]?=some y) (B:i≠j)
  (Q:X.env.scope.names.lookup x=some .local) (U:X.env.scope.names.lookup y=some .local) (ha:PA X [a,b] O)
  (hw:swappedStores [.Tuple [.Name x n,.Name y r] u pt] (.Tuple [a,b] z c) X.env=pure (some [x,y]))
  (hs:swapsWithSole [.Tuple [.Name x n,.Name y r] u pt] (.Tuple [a,b] z c) pos.line X.env=pure false:=by rfl):
  PS X (.Assign [.Tuple [.Name x n,.Name y r] u pt] (.Tuple [a,b] z c) pos) (FV i j O):=by
 intro g s σ H D I h;refine ay (wpAny_standAt ?_);refine ay (aR ?_);refine ay (Tuple_ (bv (ha _ g s σ H _ I h) λus Y E=>?_));obtain ⟨vs,H1,I1,r1,J⟩:=E;obtain ⟨v,w,e1,J⟩:=J;subst e1
 obtain ⟨l,m,rfl,rv,L⟩: ∃l m,us=[l,m]/\aK v l/\aK w m:=by
  cases r1 with
  |cons p q=>
   cases q with
   |cons p' q'=>
    cases q';exact ⟨_,_,rfl,p,p'⟩
 refine rE ?_ (by show 2<=aV;decide);rw [hw];refine ay (aR ?_);refine ay (sT (ay (unpackItems_tuple (items:= #[l,m]) (I.ok.hd hc) (IsTup.new Y.heap _) λh' N=>?_)));have I3:=(I1.kept λb o e=>dc _ e).kept (t':=Y.toks) λb o e=>N b o (dH (cL e)) e
 refine ay (assignInOrder_cons (wpAny_bindName (yF I3 hN hj (.inl U) L (λs2 I4=>?_) (.inr U))));refine assignInOrder_cons (wpAny_bindName (yF I4 hN hi (.inl Q) rv (λs3 Z=>assignInOrder_nil (aR ?_)) (.inr Q)));rw [List.set_comm _ _ (lD B)] at Z;exact ⟨_,H1,Z,J⟩
def FW (i:Nat) (c:TE) (e:DU):TS:=λD a H=> ∃x,a[i]?=some (some x)/\c a H λy g=>e x y g λz H2=>D.nx (a.set i (some z)) H2
def Sj {i:Nat} {x:Str} {e:Expr} {J:TE} {q:Operator} {L:DU} {n:Pos} (hN:X.N.Nodup) (N:X.N[i]?=some x) (B:Loc X.env.scope x) (Q:PE X e J) (U:FS X q L) (Y:T6 X x:=by first|exact .inl rfl|exact .inr rfl|assumption):
   PS X (.AugAssign (.Name x n) q e pos) (FW i J L):=by
 intro a s O H D I h;obtain ⟨v,e1,h⟩:=h;obtain ⟨m,Z,hl⟩:=I.loc;have E:iM X.env.scope x:=by rcases B with k|k;exact .inl k;exact .inr (.inl k)
 obtain ⟨u,r,l⟩:=hl i x v N e1 E;refine wpAny_AugAssign_Name ?_
 have go:wpAny (model X.prog X.w) X.A (eval e X.env) (λw o=>wpAny (model X.prog X.w) X.A (inplaceOp q u w) (λr p=>wpAny (model X.prog X.w) X.A (storeName X.env x r) (λ_=>SP X a D .next) X.xe p) X.xe o) X.xe s:=by
   refine bv (Q a s O H _ I h) λw s1 g=>?_;obtain ⟨y,H1,I1,r1,q1⟩:=g
   refine bv (U a s1 O H1 v y u w _ I1 r r1 q1) λz s2 g=>?_;obtain ⟨zv,H2,I2,r2,q2⟩:=g
   exact yF I2 hN N B r2 (λs3 I3=>⟨_,H2,I3,q2⟩) Y
 rcases l with ⟨hk,hm⟩| ⟨hk,c,hc,j⟩
 . exact FG I.ok.kind hk Z hm go
 . rcases hk with hk|hk
   . exact FH I.ok.kind hk hc j go
   . rcases B with k|k
     . have:X.env.scope.names.lookup x=some .free:=hk;rw [k] at this;cases this
     . have:X.env.scope.names.lookup x=some .free:=hk;rw [k] at this;cases this
def Mw (f:Int->Int->Int):DU:=λx y H Q=> ∃i j,x= .int i/\y= .int j/\Q (.int (f i j)) H
def FX:FS X .Add (Mw λi j=>i+j):=by
 intro a s g H x y v u Q I c e h;obtain ⟨i,j,e1,e2,q⟩:=h;subst e1;subst e2;obtain ⟨t,rfl⟩:=c;obtain ⟨l,rfl⟩:=e;exact iadd_int ⟨.int _,H,I.tok _,⟨_,rfl⟩,q⟩
def Sk (c:TT) (j:TS):TS:=λD a H=> ∃W:Nat->St->Hp->Prop,(∃m,W m a H)/\ ∀m a H,W m a H->
 c a H λb g=>if b=true then∃N:St->Hp->Prop,(∀e h,N e h-> ∃i,i<m/\W i e h)/\j {D with nx:=N,ct:=N,bk:=D.nx} a g else D.nx a g
def Sm {c:Expr} {i:List Stmt} {B:TT} {E:TS} (J:PassesOwn (model X.prog X.w) X.A X.env X.xe) (U:PT X c B) (Y:gn X i E):PS X (.While c i [] pos) (Sk B E):=by
 intro a s Z H D I h;obtain ⟨W,⟨m0,w0⟩,j⟩:=h;refine wpAny_While (codeAny_whileLoop (λn s'=> ∃l L,aD X a l L s'/\W n l L) ?_ m0 ⟨Z,H,I,w0⟩);rintro n s1 ⟨g,O,I1,w1⟩;refine zt J (bv (U a s1 g O _ I1 (j n g O w1)) λb s2 q=>?_);obtain ⟨H2,Q,o⟩:=q
 cases b with
 |true=>
  obtain ⟨N,hN,o⟩:=o;refine zt J (bv (Y a s2 g H2 _ Q o) λf s3 p=>?_)
  cases f with
  |next=>
   obtain ⟨e,m,r,u⟩:=p;obtain ⟨w,y,z⟩:=hN e m u;exact ⟨w,y,e,m,r,z⟩
  |cont=>
   obtain ⟨e,m,r,u⟩:=p;obtain ⟨w,y,z⟩:=hN e m u;exact ⟨w,y,e,m,r,z⟩
  |brk=>exact p
  |ret v=>exact p
 |false=>
  exact y6 ⟨g,H2,Q,o⟩
end
structure It where
 go:Nat->Hp->Prop
 DV:Nat->Hp->V->Hp->Prop
 stop:Nat->Hp->Prop
def fT (X:Cx) (a:List (Addr×Obj)) (H:Hp) (b:Addr):Prop:=
 H b=none/\b≠X.env.locals/\b∉X.fs/\(b∈X.ex\/X.fJ.heap.objs.size<=b)/\(∀x c,X.env.cells.lookup x=some c->c≠b)/\ ∀p∈X.pn++a,p.1≠b
def aD.jz {X:Cx} {a:List (Addr×Obj)} {i:St} {H h:Hp} {s:aH} {b:Addr} (I:aD X a i H s) (g:s.heap.objs.size<=b) (j:h b=none):fT X a h b:=by
 refine ⟨j,Nat.ne_of_gt (gT I.lt g),I.FA g,.inr (dw I.sz g),λx c e z=>?_,λp l z=>?_⟩
 . obtain ⟨v,q⟩:=I.cell x c e;exact absurd (gT q.lt (by rw [z];exact g)) (rj _)
 . exact absurd (gT (cL (I.pin p l).1) (by rw [z];exact g)) (rj _)
structure Turn (P:bQ) (w:World) (K:aG) (tg:Expr) (J:It) (fp:List Addr) (it:Addr) (tn:Nat->Heap->Prop):Prop where
 mem:it∈fp
 obj: ∀i h,tn i h-> ∀b∈fp,∃o,h.get? b=some o/\ ∀v,o.data≠ .cell v
 keep: ∀i h h',tn i h->(∀b∈fp,∀o,h.get? b=some o->h'.get? b=some o)->tn i h'
 item: ∀(X:Cx),X.prog=P->X.w=w->X.K=K->X.cF=true-> ∀(i:Nat) (pins:List (Addr×Obj)) (s:aH) (σ:St) (H:Hp) (E:T9),aD X pins σ H s->(∀b∈fp,fT X pins H b)->tn i s.heap->J.go i H->
  wpAny (model P w) X.A (pyNext (.ref it)) (λr s1=> ∃u,r=some u/\
   wpAny (model P w) X.A (letOwnedTupleGo tg (.ref it) u) (λ_ s2=> ∃x H',aD X pins σ H' s2/\aK x u/\J.DV i H x H'/\tn (i+1) s2.heap/\ ∀b∈fp,H' b=none) E s1) E s
 done: ∀(X:Cx),X.prog=P->X.w=w->X.K=K->X.cF=true-> ∀(i:Nat) (pins:List (Addr×Obj)) (s:aH) (σ:St) (H:Hp) (E:T9),aD X pins σ H s->(∀b∈fp,fT X pins H b)->tn i s.heap->J.stop i H->
  wpAny (model P w) X.A (pyNext (.ref it)) (λr s1=>r=none/\aD X pins σ H s1) E s
 self: ∀(A:cf) (i:Nat) (s:aH) (Q:T9) (E:T9),tn i s.heap->Q (.ref it) s->wpAny (model P w) A (pyIter (.ref it)) Q E s
abbrev TI:=St->Hp->(It->Hp->Prop)->Prop
def FY (X:Cx) (a:List (Addr×Obj)) (l:St) (m:Expr) (R:It->Hp->Prop) (c:Value) (g:aH):Prop:=
 ∃(h:Addr) (i:List Addr) (j:Nat->Heap->Prop) (J:It) (e:Hp),c= .ref h/\aD X a l e g/\Turn X.prog X.w X.K m J i h j/\j 0 g.heap/\(∀b∈i,fT X a e b)/\R J e
def PI (X:Cx) (e iter:Expr) (g:TI):Prop:=
 ∀(a:List (Addr×Obj)) (s:aH) (c:St) (H:Hp) (R:It->Hp->Prop),aD X a c H s->g c H R->
  wpAny (model X.prog X.w) X.A (eval iter X.env) (λv h=>wpAny (model X.prog X.w) X.A (pyIter v) (FY X a c e R) X.xe h) X.xe s
def BP {M : Model} {A : cf} {E : Value -> aH -> Prop} {s : aH} {c : Expr} {e : Addr} {u : Value} {o : Obj} {n : String} {g : Array Value} {Q : Unit -> aH -> Prop} (i : s.heap.get? e = some o) (j : o.cls = .type n) (hd : o.data = .fields g)
    (l : ["enumerate", "zip", "dict_itemiterator", "dict_reverseitemiterator", "odict_iterator", "itertools.zip_longest", "itertools.pairwise"].contains n = false) (a : Q () s) : wpAny M A (letOwnedTupleGo c (.ref e) u) Q E s := by
  cases c <;> first
    | exact aR a
    | (cases u <;> first
        | exact aR a
        | (
          refine ay (wpAny_load i ?_)
          rw [j, hd]
          show wpAny M A (if (["enumerate", "zip", "dict_itemiterator", "dict_reverseitemiterator", "odict_iterator", "itertools.zip_longest", "itertools.pairwise"].contains n && g[0]? == some (rawInt _)) = true then _ else _) Q E s
          rw [if_neg (by intro h; rw [l, Bool.false_and] at h; cases h)]
          exact aR a))
def Sn (K:aG) (a:Addr):It:=
 ⟨λi H=> ∃c x,gR K H a c/\c[i]?=some x,λi H x e=>e=H/\ ∀c,gR K H a c->c[i]?=some x,λi H=> ∃c,gR K H a c/\c.length<=i⟩
def So (K:aG) (a:Addr):It:=
 ⟨λi H=> ∃c x,i9 K H a c/\c[i]?=some x,λi H x e=>e=H/\ ∀c,i9 K H a c->c[i]?=some x,λi H=> ∃c,i9 K H a c/\c.length<=i⟩
def DX (lo:Int) (n:Nat):It:=⟨λi _=>i<n,λi H x a=>a=H/\x= .int (lo+i),λi _=>n<=i⟩
def XZ {P:bQ} {w:World} {K:aG} {tg:Expr} (a g:Addr):Turn P w K tg (Sn K a) [g] g (λi h=>h.IsListIter g a i) where
 mem:=by simp
 obj:=λi h st b j=>by
  have e:b=g:=by simpa using j
  subst e;obtain ⟨o,e,c,d⟩:=st;exact ⟨o,e,λv z=>by rw [d] at z;cases z⟩
 keep:=λi h h' st k=>st.at λo e=>k g (by simp) o e
 item:=by
  intro X r hw y hc i l s σ H E I n st B;subst r hw y;obtain ⟨xs,x,q,J⟩:=B;obtain ⟨L,N,p,hz⟩:=I.list q;obtain ⟨u,hu,ru⟩:=N.get J;obtain ⟨O,Q,f2,U,Y,Z⟩:=n g (by simp);refine wpAny_pyNext_list_item st p.isList (by simpa using hu) λh' m sb=>?_
  obtain ⟨o,e,c,d⟩:=id m;exact ⟨u,rfl,BP e c d (by decide) ⟨x,H,(I.turned (t':=s.toks) (λb o j e=>(sb.2 b j).trans e) O Q U Y Z),ru,⟨rfl,λys hy=>by rw [I.rC hy q];exact J⟩,m,λb j=>(n b j).1⟩⟩
 done:=by
  intro X r hw y hc i l s σ H E I n st B;subst r hw y;obtain ⟨xs,q,J⟩:=B;obtain ⟨L,N,p,hz⟩:=I.list q;obtain ⟨O,Q,f2,U,Y,Z⟩:=n g (by simp);have hl:=N.length;exact wpAny_pyNext_list_end (I.ok.hd hc) st p.isList (by simp;omega) λh' eb=>⟨rfl,I.turned (λb o j e=>eb b o j e) O Q U Y Z⟩
 self:=λ_ _ _ _ _ st h=>wpAny_pyIter_listiter st h
def ki {P:bQ} {w:World} {K:aG} {tg:Expr} (a g:Addr):Turn P w K tg (So K a) [g] g (λi h=>h.IsTupleIter g a i) where
 mem:=by simp
 obj:=λi h st b j=>by
  have e:b=g:=by simpa using j
  subst e;obtain ⟨o,e,c,d⟩:=st;exact ⟨o,e,λv z=>by rw [d] at z;cases z⟩
 keep:=λi h h' st k=>st.at λo e=>k g (by simp) o e
 item:=by
  intro X r hw y hc i l s σ H E I n st B;subst r hw y;obtain ⟨xs,x,q,J⟩:=B;obtain ⟨L,N,p,hz⟩:=I.tuple q;obtain ⟨u,hu,ru⟩:=N.get J;obtain ⟨O,Q,f2,U,Y,Z⟩:=n g (by simp);refine wpAny_pyNext_tuple_item st (p) (by simpa using hu) λh' m sb=>?_
  obtain ⟨o,e,c,d⟩:=id m;exact ⟨u,rfl,BP e c d (by decide) ⟨x,H,(I.turned (t':=s.toks) (λb o j e=>(sb.2 b j).trans e) O Q U Y Z),ru,⟨rfl,λys hy=>by rw [I.pb hy q];exact J⟩,m,λb j=>(n b j).1⟩⟩
 done:=by
  intro X r hw y hc i l s σ H E I n st B;subst r hw y;obtain ⟨xs,q,J⟩:=B;obtain ⟨L,N,p,hz⟩:=I.tuple q;obtain ⟨O,Q,f2,U,Y,Z⟩:=n g (by simp);have hl:=N.length;exact wpAny_pyNext_tuple_end (I.ok.hd hc) st (p) (by simp;omega) λh' eb=>⟨rfl,I.turned (λb o j e=>eb b o j e) O Q U Y Z⟩
 self:=λ_ _ _ _ _ st h=>wpAny_pyIter_tupleiter st h
def kj {P:bQ} {w:World} {K:aG} {O:Expr} (a:Addr) (lo:Int) (n:Nat):Turn P w K O (DX lo n) [a] a (λi h=>IsRangeIter h a (lo+(i:Nat)*1) ((n:Int)-(i:Nat)) 1) where
 mem:=by simp
 obj:=λi h st b c=>by
  have e:b=a:=by simpa using c
  subst e
  exact ⟨_,st,λv z=>by
   have Q:=z
   cases Q⟩
 keep:=λi h J st k=>k a (by simp) _ st
 item:=by
  intro X L hw N m i g s U H E I l st p;subst L hw N;obtain ⟨q,r,Y,u,y,B⟩:=l a (by simp);refine (Walks.range (prog:=X.prog) (w:=X.w) (I.ok.hd m) a lo 1 n).item i s _ _ p st λv J tk Z j kk=>?_
  obtain ⟨t,rfl⟩:=Z;refine ⟨_,rfl,BP j rfl rfl (by decide) ⟨.int (lo+i),H,(I.turned (λb o c e=>kk b o (by simpa using c) e) q r u y B),⟨t,?_⟩,⟨rfl,rfl⟩,j,λb c=>(l b c).1⟩⟩;rw [Int.mul_one]
 done:=by
  intro X L hw N m i g s U H E I l st p;obtain ⟨q,r,Y,u,y,B⟩:=l a (by simp);exact wpAny_pyNext_range_end (I.ok.hd m) st (by have:n<=i:=p;omega) λJ eb=>⟨rfl,I.turned (λb o c e=>eb b o c e) q r u y B⟩
 self:=λ_ _ _ _ _ st h=>wpAny_pyIter_rangeiter st h
section
variable {X:Cx} {tg:Expr}
def Sq {c:List (Addr×Obj)} {g:St} {H:Hp} {s:aH} {R:It->Hp->Prop} {E:T9} {lo a:Int} {t u v:Tok} {tk:Nat} (I:aD X c g H s) (i: -(2^62)<=lo) (j:lo<2^62) (l: -(2^62)<=a) (m:a<2^62)
   (q:R (DX lo (a-lo).toNat) H):wpAny (model X.prog X.w) X.A (pyIter (.ref s.heap.objs.size)) (FY X c g tg R) E {s with heap:=s.heap.push {cls:= .type "range",data:= .fields #[.int lo t,.int a u,.int 1 v]},toks:=tk}:=by
 refine wpAny_pyIter_range (IsRange.new ..) (small_one i j l m) ?_;have h:aD X c g H {s with heap:=s.heap.push {cls:= .type "range",data:= .fields #[.int lo t,.int a u,.int 1 v]},toks:=tk}:=I.kept λb o e=>dc _ e
 refine ⟨(s.heap.push {cls:= .type "range",data:= .fields #[.int lo t,.int a u,.int 1 v]}).objs.size,[(s.heap.push {cls:= .type "range",data:= .fields #[.int lo t,.int a u,.int 1 v]}).objs.size],_,_,H,rfl,
   h.kept λb o e=>dc _ e,kj _ lo (a-lo).toNat,?_,λb n=>?_,q⟩
 . have e1:lo+((0):Int)*1=lo:=by simp
   have e2:(((a-lo).toNat:Nat):Int)-((0):Int)=Builtin.Range.rangeSize lo a 1:=by rw [rangeSize_one];split<;>omega
   show IsRangeIter _ _ (lo+((0):Int)*1) ((((a-lo).toNat:Nat):Int)-((0):Int)) 1;rw [e1,e2];exact gp _ rfl
 . have e:b=(s.heap.push {cls:= .type "range",data:= .fields #[.int lo t,.int a u,.int 1 v]}).objs.size:=by simpa using n
   subst e;exact h.jz (bf _) (h.a7.fresh (bf _))
def Sr (a:TA):TI:=λc H R=>a c H λe g=> ∃j:Int,e=[.int j]/\ -(2^62)<=j/\j<2^62/\R (DX 0 j.toNat) g
def uR {a:Expr} {m:TA} {p c:Pos} (n:Gl X "range") (o:X.mg "range" =none) (u:PA X [a] m) (v:bB [a] X.env=[(false,eval a X.env)]:=by rfl):PI X tg (.Call (.Name "range" p) [a] [] c) (Sr m):=by
 intro g s w H R I h;refine Call_ (Wu I n o boot_range (DY (bv (u c g s w H _ I h) λJ L i=>?_) v rfl));obtain ⟨N,O,y,z,l⟩:=i;obtain ⟨j,e,l,B,q⟩:=l;subst e
 cases z with
 |cons r E=>
  cases E;obtain ⟨t,rfl⟩:=r;exact call_range_1 (Sq y (by omega) (by omega) l B (by simpa using q))
def FZ (l:TI) (g:TG) (n:TS):TS:=λD a H=>l a H λJ o=> ∃W:Nat->Nat->St->Hp->Prop,(∃m,W 0 m a o)/\ ∀i m a H,W i m a H->
 (J.stop i H/\D.nx a H)\/(J.go i H/\ ∃N:St->Hp->Prop,(∀c e,N c e-> ∃j,j<m/\W (i+1) j c e)/\ ∀x e,J.DV i H x e->g x a e λh H2=>n {D with nx:=N,ct:=N,bk:=D.nx} h H2)
def Yl (a:List Addr) (h:Heap):List (Addr×Obj):=a.filterMap λb=>(h.get? b).map λo=>(b,o)
def yI {a:List Addr} {h:Heap} {b:Addr} {o:Obj} (c:b∈a) (e:h.get? b=some o):(b,o)∈Yl a h:=BQ.mpr ⟨b,c,by rw [e];rfl⟩
def Ss {a:List Addr} {h:Heap} {p:Addr×Obj} (c:p∈Yl a h):p.1∈a/\h.get? p.1=some p.2:=by
 obtain ⟨b,g,e⟩:=BQ.mp c
 cases q:h.get? b with
 |none=>rw [q] at e;cases e
 |some o=>
  rw [q] at e;have i:=ie e;subst i;exact ⟨g,q⟩
def aD.pinned {a:List (Addr×Obj)} {g:St} {H:Hp} {s:aH} {c:List Addr} (I:aD X a g H s) (j: ∀b∈c,fT X a H b) (l: ∀b∈c,∃o,s.heap.get? b=some o/\ ∀v,o.data≠ .cell v):aD X (a++Yl c s.heap) g H s:=
 I.oQ λp m=>(i3.mp m).elim (λz=>I.pin p (pf _ z)) λz=>by
  obtain ⟨h,e⟩:=Ss z;obtain ⟨n,q,r,_⟩:=j p.1 h;obtain ⟨o,i,d⟩:=l p.1 h;rw [e] at i;cases i;exact ⟨e,n,q,r,d⟩
def aD.gW {a e:List (Addr×Obj)} {c:St} {H:Hp} {s:aH} (I:aD X (a++e) c H s):aD X a c H s:=I.oQ λp g=>I.pin p (pf _ (ut _ g))
def Mx {iter:Expr} {E:List Stmt} {wi:TI} {g:TG} {tb:TS} {pos:Pos} (Q:PassesOwn (model X.prog X.w) X.A X.env X.xe) (hc:X.cF=true) (hi:PI X tg iter wi) (hg:PG X tg g) (l:gn X E tb)
   (hs: ∀x,u1 iter X.env x=pure x:=by intro _;rfl):PS X (.For tg iter E [] pos) (FZ wi g tb):=by
 intro a s σ H D I h;refine wpAny_For (bv (hi a s σ H _ I h) λv s1 h1=>bv h1 λSu s2 h2=>?_) hs;obtain ⟨it,U,tn,J,H2,e,I2,T,BR,f2,W,⟨m0,w0⟩,Y⟩:=h2;subst e;have p: ∀ {B:Hp},(∀b∈U,B b=none)-> ∀b∈U,fT X a B b:=λhn b l=>⟨hn b l,(f2 b l).2⟩
 refine codeAny_forLoop_any (λn s'=> ∃i q B,aD X a q B s'/\tn i s'.heap/\(∀b∈U,B b=none)/\W i n q B) ?_ m0 ⟨0,σ,H2,I2,BR,λb l=>(f2 b l).1,w0⟩;rintro n s3 ⟨i,w,H3,I3,Z,Mz,w3⟩;rcases Y i n w H3 w3 with ⟨stop,qn⟩| ⟨go,N,hN,step⟩
 . refine zt Q (bv (T.done X rfl rfl rfl hc i a s3 w H3 X.xe I3 (p Mz) Z stop) λr s4 j=>?_);obtain ⟨hr,I4⟩:=j;subst hr;exact y6 ⟨w,H3,I4,qn⟩
 . refine zt Q (bv (T.item X rfl rfl rfl hc i a s3 w H3 X.xe I3 (p Mz) Z go) λr s4 j=>?_);obtain ⟨u,hr,h4⟩:=j;subst hr;refine zt Q (bv h4 λ_ s5 j=>?_);obtain ⟨x,H5,I5,r5,y5,O,F0⟩:=j;refine zt Q (bv (hg _ s5 w H5 x u _ (I5.pinned (p F0) (T.obj _ _ O)) r5 (step x H5 y5)) λ_ s6 j=>?_);obtain ⟨zx,H6,I6,q6⟩:=j;refine zt Q (bv (l _ s6 zx H6 _ I6 q6) λf s7 L=>?_)
   have again: ∀ {c:St} {y:Hp},aD X (a++Yl U s5.heap) c y s7->N c y-> ∃m,m<n/\ ∃i q B,aD X a q B s7/\tn i s7.heap/\(∀b∈U,B b=none)/\W i m q B:=λ{c y} z n7=>by
    obtain ⟨m',hm,w7⟩:=hN c y n7;refine ⟨m',hm,i+1,c,y,z.gW,T.keep _ _ _ O λb l o e=>(z.pin (b,o) (pf _ (pf _ (yI l e)))).1,λb l=>?_,w7⟩;obtain ⟨o,e,d⟩:=T.obj _ _ O b l;exact (z.pin (b,o) (pf _ (pf _ (yI l e)))).2.1
   cases f with
   |next=>obtain ⟨c,y,z,n7⟩:=L;exact again z n7
   |cont=>obtain ⟨c,y,z,n7⟩:=L;exact again z n7
   |brk=>obtain ⟨c,y,z,L⟩:=L;exact ⟨c,y,z.gW,L⟩
   |ret v=>obtain ⟨x7,c,y,z,r7,L⟩:=L;exact ⟨x7,c,y,z.gW,r7,L⟩
end
abbrev R2:=V->V->Hp->VK->Prop
def dG (X:Cx) (f:Value->Value->Sem Value) (r:R2):Prop:=
 ∀(a:List (Addr×Obj)) (s:aH) (c:St) (H:Hp) (x y:V) (v u:Value) (Q:VK),aD X a c H s->aK x v->aK y u->r x y H Q->
  wpAny (model X.prog X.w) X.A (f v u) (EP X a c Q) X.xe s
def bF (X:Cx) (f:Value) (r:List V->Hp->VK->Prop):Prop:=
 ∀(a:List (Addr×Obj)) (s:aH) (c:St) (H:Hp) (e:List V) (g:List Value) (Q:VK),aD X a c H s->aI e g->r e H Q->
  wpAny (model X.prog X.w) X.A (call f g) (EP X a c Q) X.xe s
def F1 (X:Cx) (r:V->Hp->(Bool->Hp->Prop)->Prop):Prop:=
 ∀(a:List (Addr×Obj)) (s:aH) (c:St) (H:Hp) (x:V) (v:Value) (Q:Bool->Hp->Prop),aD X a c H s->aK x v->r x H Q->
  wpAny (model X.prog X.w) X.A (truthy v) (TP X a c Q) X.xe s
def Bh (r:R2) (c e:TE):TE:=λa H Q=>c a H λx g=>e a g λy H2=>r x y H2 Q
def rI (C:Int->Int->Prop) (g:Int->Int->V):R2:=λx y H Q=> ∃i j,x= .int i/\y= .int j/\C i j/\Q (g i j) H
def n5 (g:Int->Int->V):R2:=λx y H Q=> ∃i j,x= .int i/\y= .int j/\Q (g i j) H
section
variable {X:Cx} {a b c:Expr} {n l tc:TE} {pos:Pos}
def zz (q:PE X a n) (r:PE X b l) {e:List (Addr×Obj)} {s:aH} {i:St} {H:Hp} {R:V->V->Hp->Prop} (I:aD X e i H s)
  (h:n i H λx p=>l i p λy H2=>R x y H2) {Q:T9} {f:Value->Value->Sem Value}
  (w: ∀v u o x y H2,aD X e i H2 o->aK x v->aK y u->R x y H2->wpAny (model X.prog X.w) X.A (f v u) Q X.xe o):
  wpAny (model X.prog X.w) X.A (eval a X.env) (λv j=>wpAny (model X.prog X.w) X.A (eval b X.env) (λu m=>wpAny (model X.prog X.w) X.A (f v u) Q X.xe m) X.xe j) X.xe s:=by
 refine bv (q e s i H _ I h) λv z g=>?_;obtain ⟨x,p,B,E,J⟩:=g
 refine bv (r e z i p _ B J) λu o g=>?_;obtain ⟨y,H2,L,N,O⟩:=g
 exact w v u o x y H2 L E N O
def F3 {g:Operator} {r:R2} (i:dG X (my g) r) (j:PE X a n) (m:PE X b l):PE X (.BinOp a g b pos) (Bh r n l):=by
 intro e s o H Q I h;exact wpAny_BinOp (zz j m I h λv u p x y H2 w z B q=>i e p o H2 x y v u Q w z B q)
def BS {f:Value->Value->Sem Value} {C:Int->Int->Prop} {g:Int->Int->Int}
  (rule: ∀(i j:Int) (t u:Tok) (s:aH) (Q:T9) (E:T9),C i j->Q (.int (g i j) s.toks) {s with toks:=s.toks+1}->wpAny (model X.prog X.w) X.A (f (.int i t) (.int j u)) Q E s):
  dG X f (rI C λi j=> .int (g i j)):=by
 intro e s w H x y v u Q I m o h;obtain ⟨i,j,rfl,rfl,p,q⟩:=h;obtain ⟨t,rfl⟩:=m;obtain ⟨r,rfl⟩:=o;exact rule i j t r s _ _ p ⟨.int (g i j),H,I.tok _,⟨_,rfl⟩,q⟩
def BU {f:Value->Value->Sem Value} {g:Int->Int->Int}
  (rule: ∀(i j:Int) (t u:Tok) (s:aH) (Q:T9) (E:T9),Q (.int (g i j) s.toks) {s with toks:=s.toks+1}->wpAny (model X.prog X.w) X.A (f (.int i t) (.int j u)) Q E s):
  dG X f (n5 λi j=> .int (g i j)):=by
 intro e s r H x y v u Q I m o h;obtain ⟨i,j,rfl,rfl,q⟩:=h;obtain ⟨t,rfl⟩:=m;obtain ⟨p,rfl⟩:=o;exact rule i j t p s _ _ ⟨.int (g i j),H,I.tok _,⟨_,rfl⟩,q⟩
def sU {f:Value->Value->Sem Value} {g:Int->Int->Bool}
  (rule: ∀(i j:Int) (t u:Tok) (s:aH) (Q:T9) (E:T9),Q (.bool (g i j)) s->wpAny (model X.prog X.w) X.A (f (.int i t) (.int j u)) Q E s):
  dG X f (n5 λi j=> .bl (g i j)):=by
 intro e s r H x y v u Q I m o h;obtain ⟨i,j,rfl,rfl,q⟩:=h;obtain ⟨t,rfl⟩:=m;obtain ⟨p,rfl⟩:=o;exact rule i j t p s _ _ ⟨.bl (g i j),H,I,rfl,q⟩
def sV (i j:Int):Prop:=0<j/\j<1073741824
def BV (i j:Int):Prop:=0<=j/\j<=1000000/\i.natAbs<2^64
def zB:dG X (my .Add) (n5 λi j=> .int (i+j)):=BU λ_ _ _ _ _ _ _ q=>add_int q
def MA:dG X (my .Sub) (n5 λi j=> .int (i-j)):=BU λ_ _ _ _ _ _ _ q=>sub_int q
def wb:dG X (my .FloorDiv) (rI sV λi j=> .int (i/j)):=BS λi j _ _ _ _ _ e q=>by
 have g:=e.1;have h:=e.2;exact floordiv_int (by omega) (by rw [F4 i (by omega)];exact q) (.inl (PyProof.noPylong_small (by omega)))
def yT:dG X (my .Mod) (rI (λ_ j=>0<j) λi j=> .int (i%j)):=BS λi j _ _ _ _ _ e q=>by
 exact mod_int' (by omega) (by rw [Int.fmod_eq_emod_of_nonneg i (by omega)];exact q)
def Sv:dG X (my .Pow) (rI BV λi j=> .int (i^j.toNat)):=BS λ_ _ _ _ _ _ _ e q=>pow_int_small e.1 e.2.1 e.2.2 q
end
def BW:V->V->Bool
 | .aW,.aW=>true| .aW,.int _=>true| .int _,.aW=>true| .aW,.bl _=>true| .bl _,.aW=>true| .aW,.str _=>true| .str _,.aW=>true
 | .int _,.int _=>true| .bl _,.bl _=>true| .str _,.str _=>true| .qh _,.qh _=>true
 | .int _,.str _=>true| .str _,.int _=>true| .bl _,.str _=>true| .str _,.bl _=>true
 |_,_=>false
def Sw:R2:=λx y H Q=>BW x y=true/\Q (.bl (decide (x=y))) H
def Sx {i j:Int}:decide (V.int i=V.int j)=(i==j):=by
 rw [Bb];simp
def Sy {i j:Bool}:decide (V.bl i=V.bl j)=(i==j):=by
 rw [Bb];simp
def SA {i j:Str}:decide (V.str i=V.str j)=(i==j):=by
 rw [Bb];simp
def SD {i j:Array UInt8}:decide (V.qh i=V.qh j)=(i.toList==j.toList):=by
 rw [Bb];cases i;cases j;simp
section
variable {X:Cx} {a b c:Expr} {N L B:TE} {J:Pos}
def zG {g:List (Addr×Obj)} {h:St} {H:Hp} {s:aH} {Q:VK} {k i:Bool} (I:aD X g h H s) (q:Q (.bl k) H) (e:k=i):EP X g h Q (.bool i) s:=by
 subst e;exact ⟨.bl k,H,I,rfl,q⟩
def SE:dG X (iD .Eq) Sw:=by
 intro n s o H x y v u Q I m e h;obtain ⟨l,q⟩:=h
 cases x with
 |aW=>
  cases m
  cases y with
  |aW=>cases e;exact PySem.EqNone.eq_none_none (zG I q (by simp))
  |bl j=>cases e;exact PySem.EqNone.eq_none_bool (zG I q (by simp))
  |int j=>obtain ⟨g,rfl⟩:=e;exact PySem.EqNone.eq_none_int (zG I q (by simp))
  |str j=>obtain ⟨g,rfl⟩:=e;exact PySem.EqNone.eq_none_str (zG I q (by simp))
  |_=>exact absurd (l) h8
 |bl i=>
  cases m
  cases y with
  |aW=>cases e;exact PySem.EqNone.eq_bool_none (zG I q (by simp))
  |bl j=>cases e;exact eq_bool (zG I q Sy)
  |str j=>obtain ⟨g,rfl⟩:=e;exact PySem.EqMixed.eq_bool_str (zG I q (by simp))
  |_=>exact absurd (l) h8
 |int i=>
  obtain ⟨t,rfl⟩:=m
  cases y with
  |aW=>cases e;exact PySem.EqNone.eq_int_none (zG I q (by simp))
  |int j=>obtain ⟨g,rfl⟩:=e;exact eq_int (zG I q Sx)
  |str j=>obtain ⟨g,rfl⟩:=e;exact PySem.EqMixed.eq_int_str (zG I q (by simp))
  |_=>exact absurd (l) h8
 |str i=>
  obtain ⟨t,rfl⟩:=m
  cases y with
  |aW=>cases e;exact PySem.EqNone.eq_str_none (zG I q (by simp))
  |bl j=>cases e;exact PySem.EqMixed.eq_str_bool (zG I q (by simp))
  |int j=>obtain ⟨g,rfl⟩:=e;exact PySem.EqMixed.eq_str_int (zG I q (by simp))
  |str j=>obtain ⟨g,rfl⟩:=e;exact eq_str (zG I q SA)
  |_=>exact absurd (l) h8
 |qh i=>
  obtain ⟨t,rfl⟩:=m
  cases y with
  |qh j=>obtain ⟨g,rfl⟩:=e;exact PySem.W.eq_bytes (zG I q SD)
  |_=>exact absurd (l) h8
 |_=>cases y<;>exact absurd (l) h8
def MB:dG X (iD .Lt) (n5 λi j=> .bl (decide (i<j))):=sU λ_ _ _ _ _ _ _ q=>lt_int q
def Yr:dG X (iD .LtE) (n5 λi j=> .bl (decide (i<=j))):=sU λ_ _ _ _ _ _ _ q=>le_int q
def kQ:dG X (iD .Gt) (n5 λi j=> .bl (decide (j<i))):=sU λ_ _ _ _ _ _ _ q=>gt_int q
def SF:dG X (iD .GtE) (n5 λi j=> .bl (decide (j<=i))):=sU λ_ _ _ _ _ _ _ q=>ge_int q
def SG:dG X (iD .In) (λx y H Q=> ∃i j,x= .str i/\y= .str j/\Q (.bl (!(F5 j i 0 j.length 1).isEmpty)) H):=by
 intro e s m H x y v u Q I g l h;obtain ⟨i,j,rfl,rfl,q⟩:=h;obtain ⟨t,rfl⟩:=g;obtain ⟨n,rfl⟩:=l;exact in_str (zG I q rfl)
def Qw:dG X (iD .Is) (λx y H Q=>y= .aW/\Q (.bl (decide (x= .aW))) H):=by
 intro e s j H x y v u Q I g i h;obtain ⟨rfl,q⟩:=h;cases i;refine is_none_gen (zG I q ?_)
 cases x<;>first
  | (cases g;rfl)
  | (obtain ⟨t,rfl⟩:=g;rfl)
def MC:dG X (iD .IsNot) (λx y H Q=>y= .aW/\Q (.bl (!decide (x= .aW))) H):=by
 intro e s j H x y v u Q I g i h;obtain ⟨rfl,q⟩:=h;cases i;refine isnot_none_gen (zG I q ?_)
 cases x<;>first
  | (cases g;rfl)
  | (obtain ⟨t,rfl⟩:=g;rfl)
def dG.or {f:Value->Value->Sem Value} {r g:R2} (h:dG X f r) (m:dG X f g):dG X f (λx y H Q=>r x y H Q\/g x y H Q):=by
 intro e s i H x y v u Q I j l q;rcases q with q|q
 . exact h e s i H x y v u Q I j l q
 . exact m e s i H x y v u Q I j l q
def F6 (b:Expr) {e:CmpOp} (h:e≠ .In:=by decide) (g:e≠ .NotIn:=by decide):u2 e b=false:=by
 have e1:(e==CmpOp.In)=false:=by cases e<;>first|rfl|exact absurd rfl h
 have e2:(e==CmpOp.NotIn)=false:=by cases e<;>first|rfl|exact absurd rfl g
 cases b<;>simp [u2,e1,e2]
def uU {g:CmpOp} {r:R2} (i:dG X (iD g) r) (j:PE X a N) (l:PE X b L) (m:u2 g b=false):PE X (.Compare a [g] [b] J) (Bh r N L):=by
 intro e s n H Q I h;exact wpAny_Compare1 (zz j l I h λv u o x y H2 p w z q=>i e o n H2 x y v u Q p w z q) m
def F7 (t:TE):TT:=λe H Q=>t e H λx g=> ∃k,x= .bl k/\Q k g
def SH {i:CmpOp} {r:R2} (l:dG X (iD i) r) (m:PE X a N) (n:PE X b L) (o:u2 i b=false):PT X (.Compare a [i] [b] J) (F7 (Bh r N L)):=by
 intro g s j H Q I h
 refine wpAny_isTrue_Compare1 (bv (m g s j H _ I h) λv p ⟨x,q,w,E,O⟩=>bv (n g p j q _ w O) λu U ⟨y,H2,Y,Z,q2⟩=>
  bv (l g U j H2 x y v u _ Y E Z q2) λc s3 ⟨z,H3,I3,r3,k,e,q3⟩=>?_) o
 subst e;cases r3;exact rB ⟨H3,I3,q3⟩
def ue (r h:R2) (N L B:TE):TE:=λe H Q=>N e H λx i=>L e i λy H2=>r x y H2 λz g=> ∃k,z= .bl k/\
 (if k=true then B e g λj l=>h y j l Q else Q (.bl false) g)
def SI {l i:CmpOp} {r n:R2} (E:dG X (iD l) r) (m:dG X (iD i) n) (O:PE X a N) (U:PE X b L) (Y:PE X c B)
  (Z:lastMarks [l,i] [b,c]=false:=by with_unfolding_all rfl):PE X (.Compare a [l,i] [b,c] J) (ue r n N L B):=by
 intro g s j H Q I h
 refine Compare_chain (bv (O g s j H _ I h) λv s1 ⟨x,H1,I1,r1,q1⟩=>chain_link (bv (U g s1 j H1 _ I1 q1) λu s2 ⟨y,H2,I2,o,q2⟩=>
  bv (E g s2 j H2 x y v u _ I2 r1 o q2) λd s3 ⟨z,p,q,r3,k,e,w⟩=>?_)) Z
 subst e;cases r3;refine rB ?_
 cases k with
 |false=>exact ite_ff ⟨.bl false,p,q,rfl,w⟩
 |true=>exact ite_tt (chain_last (bv (Y g s3 j p _ q w) λw' s4 ⟨z',H4,I4,r4,q4⟩=>m g s4 j H4 y z' u w' Q I4 o r4 q4))
def SJ {l i:CmpOp} {r o:R2} (O:dG X (iD l) r) (m:dG X (iD i) o) (U:PE X a N) (Y:PE X b L) (Z:PE X c B)
  (hm:lastMarks [l,i] [b,c]=false:=by with_unfolding_all rfl):PT X (.Compare a [l,i] [b,c] J) (F7 (ue r o N L B)):=by
 intro g s j H Q I h
 refine isTrue_chain (bv (U g s j H _ I h) λv s1 ⟨x,H1,I1,r1,q1⟩=>test_link (bv (Y g s1 j H1 _ I1 q1) λu s2 ⟨y,H2,I2,p,q2⟩=>
  bv (O g s2 j H2 x y v u _ I2 r1 p q2) λd s3 ⟨z,q,w,r3,k,e,E⟩=>?_)) hm
 subst e;cases r3;refine rB ?_
 cases k with
 |false=>
  obtain ⟨k',e',q'⟩:=E;cases e';exact ite_ff ⟨q,w,q'⟩
 |true=>
  refine ite_tt (test_last (bv (Z g s3 j q _ w E) λw' s4 ⟨z',H4,I4,r4,q4⟩=>bv (m g s4 j H4 y z' u w' _ I4 p r4 q4) λd' s5 n=>?_));obtain ⟨z2,H5,I5,r5,k2,e2,q5⟩:=n;subst e2;cases r5;exact rB ⟨H5,I5,q5⟩
def sW (K:aG) (x:V) (H:Hp) (k:Bool):Prop:=
 match x with
 | .aW=>k=false
 | .bl b=>k=b
 | .int i=>k=(i !=0)
 | .str y=>y.length<=aV/\k=((y.length:Int) !=0)
 | .qh y=>y.size<=aV/\k=((y.size:Int) !=0)
 | .ref p=>(∃e,gR K H p e/\k=!e.isEmpty)\/(∃e,i9 K H p e/\k=!e.isEmpty)\/ ∃g,H p=some (.dK g)/\k=!g.isEmpty
 |_=>False
def vo {g:Type} {e:List (g×V)} {h:List (g×Value)} (r:KV e h):(!h.isEmpty)=!e.isEmpty:=by
 cases r<;>rfl
def Ww {g:List V} {e:List Value} (r:aI g e):(!e.toArray.isEmpty)=!g.isEmpty:=by
 cases r<;>simp
def YA:(aV:Nat)<2^63:=by rw [pi];decide
def MD:F1 X (λx H Q=> ∃k,sW X.K x H k/\Q k H):=by
 intro E s σ H x v Q I l h;obtain ⟨k,e,q⟩:=h;have hs:=pi
 cases x with
 |aW=>
  cases l;have g:=e;subst g;exact truthy_none ⟨H,I,q⟩
 |bl b=>
  cases l;have g:=e;subst g;exact rB ⟨H,I,q⟩
 |int i=>
  obtain ⟨t,rfl⟩:=l;have g:=e;subst g;exact PySem.P.truthy_int ⟨H,I,q⟩
 |str y=>
  obtain ⟨t,rfl⟩:=l;obtain ⟨U,g⟩:y.length<=aV/\k=((y.length:Int) !=0):=e;subst g;exact PySem.P.truthy_str (by omega) ⟨H,I.tok _,q⟩
 |qh y=>
  obtain ⟨t,rfl⟩:=l;obtain ⟨U,g⟩:y.size<=aV/\k=((y.size:Int) !=0):=e;subst g;exact PySem.W.truthy_bytes (by omega) ⟨H,I.tok _,q⟩
 |ref p=>
  cases l;have g:=e;rcases g with ⟨Y,n,g⟩| ⟨Y,n,g⟩| ⟨o,n,g⟩
  . subst g;obtain ⟨u,r,w,O⟩:=I.list n;have j:=r.length;exact wpAny_truthy_list w.isList (by simp only [dq];omega) ⟨H,I.tok _,by rw [Ww r];exact q⟩
  . subst g;obtain ⟨u,r,w,O⟩:=I.tuple n;have j:=r.length;exact truthy_tuple w (by simp only [dq];omega) ⟨H,I.tok _,by rw [Ww r];exact q⟩
  . subst g;obtain ⟨O,Z,z,r,m⟩:o.length<=aV/\(p==om)=false/\ ∃z,KV o z/\s.heap.DictOf (j4 X.prog X.w) p z:=I.a7 p _ n;have j:=Bd r;exact wpAny_truthy_dict Z m (by omega) ⟨H,I.tok _,by rw [vo r];exact q⟩
 |_=>exact (e).elim
def SK (j:PE X a N) (l: ∀whole,isTrue a X.env whole=(do let v<-whole;sS a.pos;sF [v] (truthy v))):
  PT X a (λg H Q=>N g H λx i=> ∃k,sW X.K x i k/\Q k i):=by
 intro e s g H Q I h;exact isTrue_plain (bv (j e s g H _ I h) λv m ⟨x,n,o,p,q⟩=>MD e m g n x v Q o p q) (l _)
def op:dG X (my .Add) (λx y H Q=> ∃i j,x= .str i/\y= .str j/\i.length+j.length<=aV/\Q (.str (i++j)) H):=by
 intro e s o H x y v u Q I g l h;obtain ⟨i,j,rfl,rfl,m,q⟩:=h;obtain ⟨t,rfl⟩:=g;obtain ⟨n,rfl⟩:=l;exact add_str (λn tk=>⟨.str (i++j),H,I.tok _,⟨_,rfl⟩,q⟩) m
def yY {x:V} {e:List Value} (r:aI [x] e): ∃u,e=[u]/\aK x u:=by
 cases r with
 |cons g h=>cases h;exact ⟨_,rfl,g⟩
def kg {x y:V} {e:List Value} (r:aI [x,y] e): ∃u g,e=[u,g]/\aK x u/\aK y g:=by
 cases r with
 |cons h i=>
  cases i with
  |cons j l=>cases l;exact ⟨_,_,rfl,h,j⟩
def Vi:bF X (.builtin "divmod") (λg H Q=> ∃i j,g=[.int i,.int j]/\sV i j/\ ∀p,H p=none->Q (.ref p) (aU H p (.ap [.int (i/j),.int (i%j)]))):=by
 intro l s m H g n Q I r h;obtain ⟨i,j,rfl,⟨v,w⟩,q⟩:=h;obtain ⟨u,y,rfl,⟨t,rfl⟩,⟨z,rfl⟩⟩:=kg r;refine divmod_int (by omega) ?_ (.inl (PyProof.noPylong_small (by omega)));rw [F4 i (by omega),Int.fmod_eq_emod_of_nonneg i (by omega)];refine ⟨.ref s.heap.objs.size,_,?_,rfl,q _ (I.a7.fresh (bf _))⟩;refine I.laid (λb o e=>dc _ e) (bf _) ⟨by simp only [fb,sG];rw [pi];decide,[.int (i/j) s.toks,.int (i%j) (s.toks+1)],.cons ⟨_,rfl⟩ (.cons ⟨_,rfl⟩ .nil),?_⟩;exact ⟨_,gp s.heap rfl,rfl,0,rfl⟩
end
structure oq (h:Heap) (x dx C:Addr) (mA:X7):Prop where
 obj:h.get? x=some (t9 C dx)
 ns:h.Ns1 dx mA
 ne:dx≠x
def SM {h:Heap} {dx:Addr} {g:X7} (n:h.Ns1 dx g): ∃i,h.get? dx=some i/\ ∀name,DZ name i=some (g name):=by
 obtain ⟨o,j,v,l,hd,m,_,p⟩:=n;refine ⟨o,l,λname=>?_⟩;have e:=p name;unfold nsFind findBy at e;rw [<-Array.find?_toList] at e;unfold DZ;rw [hd];dsimp only
 split
 . rename_i y q;rw [q] at e;exact congrArg some e
 . rename_i q;rw [q] at e
   have a:j.toList.any (·.refKey)=false:=by
    rw [F8];intro y r;obtain ⟨z,t,c⟩:=m y (Bi.mp r);simp [DictEntry.refKey,c]
   have u: ¬j.toList.any (·.refKey)=true:=by rw [a];exact h8
   rw [if_neg u];exact congrArg some e
def oq.look {h:Heap} {x dx C:Addr} {c:X7} (I:oq h x dx C c): ∃a,PySem.W.InstAt h x (t9 C dx) C (some a)/\ ∀name,DZ name a=some (c name):=
 let ⟨a,e,hl⟩:=SM I.ns
 ⟨a,⟨I.obj,rfl,rfl,e⟩,hl⟩
section
variable {prog:bQ} {w:World} {A:cf} {E:T9} {s:aH} {K:aG} {x dx C f:Addr} {mA:X7} {name:Str} {v:Value}
def ME {a:Bool} {Q:T9} (X:K.In s.heap) (I:oq s.heap x dx C mA) (e:zC K C name=true) (g:Bj K C=true)
  (i:iP K (.ref C) name=some none) (j:mA name=some v) (c:PySem.W.handedIn v=true) (h:Q v {s with toks:=s.toks+1}):
  wpAny (model prog w) A (getAttr (.ref x) name a) Q E s:=by
 obtain ⟨m,J,l⟩:=I.look;exact PySem.W.get_value X J (F9 e).1 (PySem.W.findObj_own g i rfl (by rw [l,j])) c h
def SN {c:Sem Bool} {Q:Value×List Value->aH->Prop} (X:K.In s.heap) (I:oq s.heap x dx C mA) (a:zC K C name=true)
  (e:iP K (.ref C) name=some (some (.ref f))) (g:D0 K (.ref f)=true) (i:mA name=none) (h:Q (.ref f,[.ref x]) s):
  wpAny (model prog w) A (zD (.ref x) name c) Q E s:=by
 obtain ⟨j,J,l⟩:=I.look;exact PySem.W.method_fn X J (F9 a).1 (F9 a).2 e (beq_iff_eq.mp g) (by show (DZ name j).map (·.isSome)=some false;rw [l,i];rfl) h
def SO {j:List Str} {Q:Unit->aH->Prop} (X:K.In s.heap) (I:oq s.heap x dx C mA)
  (l:iP K (.ref C) "__setattr__" =some (some (.builtin "object.__setattr__"))) (m:BX K C=true) (n:Ga K C name=some none) (o:Bj K C=true)
  (hw:PySem.Within mA j) (p:j.length<=aV)
  (h: ∀e,oq e x dx C (λy=>if y=name then some v else mA y)->rA dx s.heap e->Q () {s with heap:=e,toks:=s.toks+2}):
  wpAny (model prog w) A (setAttr (.ref x) name v) Q E s:=by
 obtain ⟨z,J,B⟩:=I.look;refine PySem.W.set_plain X J l (PySem.W.osa_open X J m n λb=>?_);obtain ⟨H,q,g⟩:=PySem.W.any_some o;refine ay (aR (ay (ay (wpAny_loadPart (I.obj) (ay (PySem.W.Looks.here (PySem.W.looks_clsIn X q) ?_))))));rw [g];refine aR (ay (aR (ay ?_)));refine wpAny_nsSet1 I.ns λe a c=>?_
 obtain ⟨L,r,u,sX,b7,i⟩:=a.count (PySem.Within.cons name v hw);refine ay (wpAny_lookBehind sX (by rw [b7];exact pastItsLine_dict (dw i (by rw [fb];omega))) ?_);exact aR (h _ ⟨(c.2 _ (lD I.ne)).trans I.obj,a,I.ne⟩ c)
def SQ {R:Result->aH->Prop} {a:List Value} {c:List (Str×Value)} (X:K.In s.heap) (e:sY K C=true)
  (i:iP K (.ref C) "__init__" =some (some (.ref f))) (j:PySem.W.typeIn K (.ref f)=some (.type "function"))
  (h:oR (model prog w) (A.under (.builtin "type.__call__" ⟨.ref C::a,c⟩)) (.call (.ref f) ⟨.ref (s.heap.objs.size+1)::a,c⟩) (PySem.W.InitBack (s.heap.objs.size+1) R)
   {s with heap:=(s.heap.push u5).push (t9 C s.heap.objs.size)}):
  oR (model prog w) A (.call (.ref C) ⟨a,c⟩) R s:=by
 obtain ⟨l,g,d,t,os⟩:=s;exact PySem.W.make_core (PySem.W.makes_of X e) (D1 X i) (λself=>PySem.W.bind_fn X self j) (.inl rfl) h
end
def eG (f:Str) (v:V):List (Str×V)->List (Str×V)
 | []=>[(f,v)]
 | (g,x)::r=>if g=f then (g,v)::r else (g,x)::eG f v r
theorem Zz (f g:Str) (v:V): ∀fs:List (Str×V),(eG f v fs).lookup g=if g=f then some v else fs.lookup g
 | []=>by
  show i4 g [(f,v)]=_
  by_cases h:g=f
  . have a:=beq_iff_eq.mpr h;simp only [i4,a,if_pos h]
  . have a:=beq_eq_false_iff_ne.mpr h;simp only [i4,a,if_neg h]
 | (k,x)::r=>by
  rw [show eG f v ((k,x)::r)=(if k=f then (k,v)::r else (k,x)::eG f v r) from rfl]
  by_cases c:k=f
  . rw [if_pos c]
    by_cases h:g=k
    . have a:=beq_iff_eq.mpr h;simp only [i4,a,if_pos (h.trans c)]
    . have a:=beq_eq_false_iff_ne.mpr h;simp only [i4,a,if_neg (λe:g=f=>h (e.trans c.symm))]
  . rw [if_neg c]
    by_cases h:g=k
    . have a:=beq_iff_eq.mpr h;simp only [i4,a,if_neg (λe:g=f=>c (h.symm.trans e))]
    . have a:=beq_eq_false_iff_ne.mpr h;simp only [i4,a];exact (Zz f g v r)
theorem ZD (f:Str) (v:V): ∀fs:List (Str×V),f∈(eG f v fs).map (·.1)/\ ∀g,g∈fs.map (·.1)->g∈(eG f v fs).map (·.1)
 | []=>⟨by simp [eG],λg h=>by simp at h⟩
 | (k,x)::r=>by
  obtain ⟨c,i⟩:=ZD f v r;rw [show eG f v ((k,x)::r)=(if k=f then (k,v)::r else (k,x)::eG f v r) from rfl]
  by_cases a:k=f
  . rw [if_pos a];subst a;exact ⟨by simp,λg h=>by simpa using h⟩
  . rw [if_neg a];refine ⟨?_,λg h=>?_⟩
    . rw [fF];exact dZ _ c
    . rw [fF] at h ⊢;rcases dk.mp h with e|e
      . exact dk.mpr (.inl e)
      . exact dZ _ (i g e)
theorem ZB (f:Str) (v:V): ∀fs:List (Str×V),(eG f v fs).length<=fs.length+1
 | []=>by simp [eG]
 | (k,x)::r=>by
  have c:=ZB f v r;rw [show eG f v ((k,x)::r)=(if k=f then (k,v)::r else (k,x)::eG f v r) from rfl]
  by_cases a:k=f
  . rw [if_pos a,fb,fb];omega
  . rw [if_neg a,fb,fb];omega
def fO.some_of {v:V} {o:Option Value} (r:fO (some v) o): ∃u,o=some u/\aK v u:=by
 cases o with
 |none=>exact (r).elim
 |some u=>exact ⟨u,rfl,r⟩
def fO.none_of {o:Option Value} (r:fO none o):o=none:=by
 cases o with
 |none=>rfl
 |some u=>exact (r).elim
def YM {v:V} {u:Value} (r:aK v u):PySem.W.handedIn u=true:=by
 cases v with
 |aW=>cases (r);rfl
 |bl b=>cases (r);rfl
 |int i=>obtain ⟨t,e⟩:=(r);cases e;rfl
 |str x=>obtain ⟨t,e⟩:=(r);cases e;rfl
 |qh b=>obtain ⟨t,e⟩:=(r);cases e;rfl
 |yE b=>obtain ⟨t,e⟩:=(r);cases e;rfl
 |ref a=>cases (r);rfl
 |ty n=>cases (r);rfl
section
variable {P:bQ} {w:World} {H H':Hp} {h h':Heap} {a C dx:Addr} {fs RJ:List (Str×V)}
def ZI (g:eY P w H h) (e:H a=some (.ins C dx fs)): ∃c,oq h a dx C c/\(∀f,fO (fs.lookup f) (c f))/\PySem.Within c (fs.map (·.1))/\fs.length<=1000/\H dx=some (.aw a):=by
 obtain ⟨d,z,ne,ob,c,n,r,q⟩:=(g a _ e)
 exact ⟨c,⟨ob,n,ne⟩,r,q,z,d⟩
end
structure fG (K:aG) (C:Addr):Prop where
 pg:zC K C Str.empty=true
 hd:Bj K C=true
 po:BX K C=true
 sa:iP K (.ref C) "__setattr__" =some (some (.builtin "object.__setattr__"))
def fG.get {K:aG} {C:Addr} (c:fG K C) (f:Str):zC K C f=true:=c.pg
def eH (K:aG) (C:Addr) (f:Str):Prop:=iP K (.ref C) f=some none
def eH.BY {K:aG} {C:Addr} {f:Str} (n:eH K C f):Ga K C f=some none:=by
 unfold Ga;rw [show iP K (.ref C) f=some none from n];rfl
structure Meth (K:aG) (C:Addr) (m:Str) (f:Addr):Prop where
 at_:iP K (.ref C) m=some (some (.ref f))
 fn:D0 K (.ref f)=true
 kp:l8 K (.ref f)=true
section
variable {X:Cx} {pins:List (Addr×Obj)} {σ:St} {H:Hp} {s:aH} {a C dx:Addr} {fs:List (Str×V)} {f:Str} {v:V} {A:cf} {E:T9}
def vw {b:Bool} {Q:T9} (I:aD X pins σ H s) (e:H a=some (.ins C dx fs)) (c:fG X.K C) (n:eH X.K C f) (l:fs.lookup f=some v)
  (h: ∀u g,aD X pins σ H g->aK v u->Q u g):wpAny (model X.prog X.w) A (getAttr (.ref a) f b) Q E s:=by
 obtain ⟨m,O,r,_,_,_⟩:=ZI I.a7 e;obtain ⟨u,j,i⟩:=fO.some_of (by rw [<-l];exact r f);exact ME I.fQ O (c.get f) c.hd n j (YM i) (h u _ (I.tok _) i)
def Qi {m:Str} {g:Addr} {i:Sem Bool} {Q:Value×List Value->aH->Prop} (I:aD X pins σ H s) (e:H a=some (.ins C dx fs)) (c:fG X.K C) (k:Meth X.K C m g) (l:fs.lookup m=none)
  (h:Q (.ref g,[.ref a]) s):wpAny (model X.prog X.w) A (zD (.ref a) m i) Q E s:=by
 obtain ⟨j,O,r,_,_,_⟩:=ZI I.a7 e;exact SN I.fQ O (c.get m) k.at_ k.fn (fO.none_of (by rw [<-l];exact r m)) h
def kB {y:V} {u:Value} {Q:Unit->aH->Prop} (I:aD X pins σ H s) (e:H a=some (.ins C dx fs)) (c:fG X.K C) (n:eH X.K C f) (Z:fs.length<1000) (w:aK y u)
   (h: ∀j,aD X pins σ (aU H a (.ins C dx (eG f y fs))) j->Q () j):wpAny (model X.prog X.w) A (setAttr (.ref a) f u) Q E s:=by
 obtain ⟨l,O,r,m,_,p⟩:=ZI I.a7 e;have B:(fs.map (·.1)).length<=aV:=by rw [cg,pi];omega
 refine SO I.fQ O c.sa c.po n.BY c.hd m B λJ i L=>h _ ?_
 have hd: ∃o,J.get? dx=some o:=let ⟨o,_,_,N,_⟩:=i.ns;⟨o,N⟩
 refine I.write (by rw [e];exact qu) (.inr p) (λb q U z=>(L.2 b U).trans z) hd ?_;refine ⟨by rw [jR O.ne];exact p,?_,O.ne,i.obj,_,i.ns,λg=>?_,λg Y=>?_⟩
 . have:=ZB f y fs;omega
 . show fO ((eG f y fs).lookup g) (if g=f then some u else l g);rw [Zz]
   by_cases q:g=f
   . rw [if_pos q,if_pos q];exact w
   . rw [if_neg q,if_neg q];exact r g
 . by_cases q:g=f
   . rw [q];exact (ZD f y fs).1
   . refine (ZD f y fs).2 g (m g λz=>Y ?_);show (if g=f then some u else l g)=none;rw [if_neg q];exact z
def aD.made (I:aD X pins σ H s):aD X pins σ (aU (aU H s.heap.objs.size (.aw (s.heap.objs.size+1))) (s.heap.objs.size+1) (.ins C s.heap.objs.size []))
  {s with heap:=(s.heap.push u5).push (t9 C s.heap.objs.size)}:=by
 have e1:(s.heap.push u5).get? s.heap.objs.size=some u5:=gp s.heap rfl
 have e2:((s.heap.push u5).push (t9 C s.heap.objs.size)).get? (s.heap.objs.size+1)=some (t9 C s.heap.objs.size):=by
  have:=gp (s.heap.push u5) (o:=t9 C s.heap.objs.size) rfl
  rwa [Bk] at this
 have c:(s.heap.push u5).Ns s.heap.objs.size (λ_=>none):=⟨u5, #[],_,e1,rfl,(λe g=>absurd g (by simp)),λ_=>rfl⟩
 refine (I.laid (o:= .aw (s.heap.objs.size+1)) (t':=s.toks) (λb u q=>dc _ q) (bf _) ⟨_,e1⟩).laid (λb u q=>dc _ q) (Nat.le_of_eq (Bk _ _)) ?_;have ne:s.heap.objs.size≠s.heap.objs.size+1:=dH (D2 _);refine ⟨by rw [jR ne,jy],i5 _,ne,e2,λ_=>none,(Heap.Ns1.of_empty c).at λo q=>dc _ q,λ_=>qu,λy h=>absurd rfl h⟩
def MF {c:bQ} {w:World} {g:Env} {e:Expr} {f:Str} {j:Pos} {s:aH} {Q:T9} (l:mz e f g (eval e g)=eval e g)
  (h:wpAny (model c w) A (eval e g) (λo i=>wpAny (model c w) A (getAttr o f true) Q E i) E s):wpAny (model c w) A (eval (.Attribute e f j) g) Q E s:=
 Attribute_any_ h (by rw [arm_eval_Attribute,l])
end
def Gb (K:aG) (e:TE) (f:Str):TE:=λg H Q=>e g H λx c=> ∃a C dx fs v,x= .ref a/\c a=some (.ins C dx fs)/\fG K C/\eH K C f/\fs.lookup f=some v/\Q v c
def Gd (K:aG) (e g:TE) (f:Str):TS:=λD c H=>g c H λy h=>e c h λx H2=> ∃a C dx fs,x= .ref a/\H2 a=some (.ins C dx fs)/\fG K C/\eH K C f/\fs.length<1000/\
 D.nx c (aU H2 a (.ins C dx (eG f y fs)))
section
variable {X:Cx} {o e value:Expr} {f:Str} {pos pos' Ge:Pos} {ta tv:TE}
def SR (j:PE X e ta) (m:mz e f X.env (eval e X.env)=eval e X.env):PE X (.Attribute e f pos) (Gb X.K ta f):=by
 intro g s p H Q I h;refine MF m (bv (j g s p H _ I h) λu L i=>?_);obtain ⟨x,r,w,y,a,C,dx,fs,v,z,B,c,n,l,q⟩:=i;subst z;obtain rfl:u=cK a:=y;exact vw w B c n l λN O E J=>⟨v,r,E,J,q⟩
def SS (m:PE X o ta) (p:PE X value tv) (r:lK value (some (.Attribute o f pos')) pos.line X.env=pure false):PS X (.Assign [.Attribute o f pos'] value pos) (Gd X.K ta tv f):=by
 intro g s i H D I h;refine plainObj_wpAny_Assign_Attribute (bv (p g s i H _ I h) λu v ⟨y,w,z,B,q⟩=>bv (m g v i w _ z q) λE Y j=>?_) r;obtain ⟨x,H2,J,L,a,C,dx,fs,N,O,c,n,l,Q⟩:=j;subst N;obtain rfl:E=cK a:=L;exact kB J O c n l B λZ U=>⟨i,_,U,Q⟩
end
section
variable {X:Cx} {pins:List (Addr×Obj)} {σ:St} {H:Hp} {s:aH} {A:cf} {E:T9} {Q:T9} {c:Value} {b:Bool}
inductive ii (K:aG) (H:Hp):V->Value->Prop where
 |aW:ii K H .aW (.type "NoneType")
 |bl (x:Bool):ii K H (.bl x) (.type "bool")
 |int (i:Int):ii K H (.int i) (.type "int")
 |str (x:Str):ii K H (.str x) (.type "str")
 |yE (x:UInt64):ii K H (.yE x) (.type "float")
 |ah {a:Addr} {xs:List V} (e:H a=some (.ah xs)):ii K H (.ref a) (.type "list")
 |dn {a:Addr} {o:Obj} {xs:List V} (e:H a=some (.dn o (.ah xs))):ii K H (.ref a) (.type "list")
 |ap {a:Addr} {xs:List V} (e:H a=some (.ap xs)):ii K H (.ref a) (.type "tuple")
 |dK {a:Addr} {kvs:List (aS×V)} (e:H a=some (.dK kvs)):ii K H (.ref a) (.type "dict")
 |dT {a:Addr} {kvs:List (List aS×V)} (e:H a=some (.dT kvs)):ii K H (.ref a) (.type "dict")
 |ins {a C dx:Addr} {fs:List (Str×V)} (e:H a=some (.ins C dx fs)) (cl:fG K C) (ha:iP K (.ref C) "__class__" =some (some (.builtin "object.__class__")))
  (hn:BZ K (.builtin "object.__class__") "__get__" =some (some (.builtin "getset_descriptor.__get__"))) (htk:PySem.W.takesIn K (.builtin "object.__class__")=some true)
  (hm:PySem.W.mroIn K C (.type "object")=some true):ii K H (.ref a) (.ref C)
def SU {x:V} {u t:Value} (I:aD X pins σ H s) (g:aK x u) (L:ii X.K H x t) (e:gX X.K t c=some b) (h: ∀tk,Q (.bool b) {s with toks:=tk}):
  wpAny (model X.prog X.w) A (call (.builtin "isinstance") [u,c]) Q E s:=by
 cases L with
 |aW=>cases (g);exact qv PySem.W.kitx_none I.fQ qu e (λz=>nomatch z) h
 |bl y=>cases (g);exact qv PySem.W.kitx_bool I.fQ qu e (λz=>nomatch z) h
 |int i=>obtain ⟨t,q⟩:=(g);cases q;exact qv PySem.W.kitx_int I.fQ qu e (λz=>nomatch z) h
 |str y=>obtain ⟨t,q⟩:=(g);cases q;exact qv PySem.W.kitx_str I.fQ qu e (λz=>nomatch z) h
 |yE y=>obtain ⟨t,q⟩:=(g);cases q;exact qv PySem.W.kitx_float I.fQ qu e (λz=>nomatch z) h
 | @ah a r j=>
  cases (g);obtain ⟨_,_,n,_,l⟩:=(I.a7 a _ j)
  exact qv PySem.W.kitx_list I.fQ ⟨_,l,rfl⟩ e (λz=>nomatch z) h
 | @dn a ob r j=>
  cases (g);obtain ⟨_,_,_,n,_,l⟩:=(I.a7 a _ j)
  exact qv PySem.W.kitx_list I.fQ ⟨_,l,rfl⟩ e (λz=>nomatch z) h
 | @ap a r j=>
  cases (g);obtain ⟨_,_,_,p⟩:=(I.a7 a _ j)
  obtain ⟨o,l,m,_⟩:=p;exact qv PySem.W.kitx_tuple I.fQ ⟨o,l,m⟩ e (λz=>nomatch z) h
 | @dK a v j=>
  cases (g);obtain ⟨_,_,vs,_,p⟩:=(I.a7 a _ j)
  obtain ⟨o,N,U,l,m,_⟩:=p;exact qv PySem.W.kitx_dict I.fQ ⟨o,l,m.1⟩ e (λz=>nomatch z) h
 | @dT a v j=>
  cases (g);obtain ⟨_,_,r,_,o,N,U,l,m,_⟩:=(I.a7 a _ j)
  exact qv PySem.W.kitx_dict I.fQ ⟨o,l,m.1⟩ e (λz=>nomatch z) h
 | @ins a C dx fs j B Y Z w hm=>
  cases (g);obtain ⟨mA,O,_⟩:=ZI I.a7 j;obtain ⟨od,J,_⟩:=O.look;exact qv (PySem.W.kitx_own (B.get _) B.hd Y Z w hm) I.fQ J e (λz=>nomatch z) h
end
structure aO (k:Nat) (A:cf):Prop where
 hd:A.handled=none
 dp:A.depth+3*k+5<recursionLimit
 un:A.units+16*k+200<cLine
def aO.mono {j k:Nat} {A:cf} (r:aO k A) (h:j<=k):aO j A:=⟨r.hd,by have:=r.dp;omega,by have:=r.un;omega⟩
def aO.deeper {k:Nat} {A:cf} (r:aO (k+1) A) (env:Env):aO k (A.deeper env):=
 ⟨r.hd,by have:=r.dp;show A.depth+1+3*k+5<_;omega,by have:=r.un;show A.units+3+16*k+200<_;omega⟩
def vh {A:cf} {C:Addr} {a:List Value} {c:List (Str×Value)}:(A.under (.builtin "type.__call__" ⟨.ref C::a,c⟩)).depth=A.depth+1:=by
 first|rfl|simp [Around.under,Code.weight,Code.isCreation,Code.isGuard,Code.isCaller,Code.frames,Code.isFrame,guardIds]
def vg {A:cf} {C:Addr} {a:List Value} {c:List (Str×Value)}:(A.under (.builtin "type.__call__" ⟨.ref C::a,c⟩)).units=A.units+1:=by
 first|rfl|simp [Around.under,Code.cUnits,Code.frames,Code.isFrame]
def aO.make {k:Nat} {A:cf} (r:aO (k+1) A) (C:Addr) (a:List Value) (c:List (Str×Value)):aO k (A.under (.builtin "type.__call__" ⟨.ref C::a,c⟩)):=
 ⟨r.hd,by have:=r.dp;rw [vh];omega,by have:=r.un;rw [vg];omega⟩
def aO.depth {k:Nat} {A:cf} (r:aO k A):A.depth<recursionLimit:=by have:=r.dp;omega
def aO.units {k:Nat} {A:cf} (r:aO k A):A.units+64<cLine:=by have:=r.un;omega
def B0:TA:=λ_ H Q=>Q [] H
def SV (c:TE) (e:TA):TA:=λa H Q=>c a H λx g=>e a g λh H2=>Q (x::h) H2
section
variable {X:Cx} {e:Expr} {es:List Expr} {te:TE} {t:TA} {pos:Pos}
def zo:PA X [] B0:=λ_ _ _ _ H Q I h=>Calls.spliced_nil ⟨[],H,I,.nil,h⟩
def j7 (i:PE X e te) (j:PA X es t) (l:T8 X e es:=by rfl):PA X (e::es) (SV te t):=by
 intro pos a s g H Q I h;rw [l];refine Calls.spliced_cons (bv (i a s g H _ I h) λu m c=>?_);obtain ⟨x,n,o,p,q⟩:=c;exact bv (j pos a m g n _ o q) λz B ⟨r,H2,v,w,y⟩=>⟨x::r,H2,v,.cons p w,y⟩
def B1 (t:TA):TE:=λg H Q=>t g H λa c=>a.length<=aV/\ ∀p,c p=none->Q (.ref p) (aU c p (.ap a))
def Gf (t:TA):TE:=λg H Q=>t g H λa c=>a.length<=aV/\ ∀p,c p=none->Q (.ref p) (aU c p (.ah a))
def uT {i} (h:PA X es t):PE X (.Tuple es i pos) (B1 t):=by
 intro a s j H Q I l;refine wpAny_Tuple_spliced (bv (h pos a s j H _ I l) λm c ⟨n,o,g,r,z,q⟩=>⟨by rw [<-r.length];exact z,?_⟩);refine ⟨.ref c.heap.objs.size,aU o c.heap.objs.size (.ap n),g.laid (λb u e=>dc _ e) (bf _) ?_,rfl,q _ (g.a7.fresh (bf _))⟩;exact ⟨z,m,r,⟨_,gp _ rfl,rfl,_,rfl⟩⟩
def SW (h:PA X es t):PE X (.List es pos) (Gf t):=by
 intro a s i H Q I j;refine wpAny_List_spliced (bv (h pos a s i H _ I j) λl c ⟨m,n,g,r,z,q⟩=>⟨by rw [<-r.length];exact z,?_⟩);refine ⟨.ref c.heap.objs.size,aU n c.heap.objs.size (.ah m),g.laid (λb u e=>dc _ e) (bf _) ?_,rfl,q _ (g.a7.fresh (bf _))⟩;exact ⟨z,l,0,r,gp _ rfl⟩
end
abbrev Sp:=List V->Hp->VK->XK->Prop
abbrev qE:=List Env->Hp->aH->XK->Value->aH->Prop
structure pj (P:bQ) (w:World) (K:aG) (mg:X7) (ae:Heap) (A:cf) (outer:List Env) (s:aH) (H:Hp):Prop where
 frames:A.frames=some outer
 mod:Mod K mg ae
 bs: ∀b o,ae.get? b=some o->s.heap.get? b=some o/\H b=none
 o9:ae.objs.size<=s.heap.objs.size
 gA:s.heap.FunFrames ae outer
 ro: ∀b∈fg outer,H b=none
 a7:eY P w H s.heap
 bare:sE s.gens
def CE (a:List Env) (P:bQ) (w:World) (H:Hp) (s:aH) (Q:VK) (u:Value) (c:aH):Prop:=
 ∃v e,c.os=s.os/\sE c.gens/\Un (fg a) [] H e s.heap c.heap/\eY P w e c.heap/\aK v u/\Q v e
def CR (g:qE) (a:List Env) (P:bQ) (w:World) (H:Hp) (s:aH) (Q:VK) (E:XK) (r:Result) (c:aH):Prop:=
 match r with
 | .ok (.ret u)=>CE a P w H s Q u c
 | .ok _=>False
 | .error e=>g a H s E e c
structure cZ (P:bQ) (w:World) (K:aG) (mg:X7) (ae:Heap) (CX:qE) (k:Nat) (f:Addr) (fd:pk) (ps:List Str) (sp:Sp):Prop where
 len: ∀vs H Q E,sp vs H Q E->vs.length=ps.length
 run: ∀(A:cf) (outer:List Env) (s:aH) (H:Hp) (args:Args) (us:List Value) (vs:List V) (Q:VK) (E:XK),aO k A->pj P w K mg ae A outer s H->BindsTo s fd args (ps.zip us)->aI vs us->sp vs H Q E->
  oR (model P w) A (.call (.ref f) args) (CR CX outer P w H s Q E) s
def cZ.mono {P:bQ} {w:World} {K:aG} {mg:X7} {ae:Heap} {a:qE} {j k:Nat} {f:Addr} {c:pk} {ps:List Str} {e:Sp} (F:cZ P w K mg ae a j f c ps e) (h:j<=k):
 cZ P w K mg ae a k f c ps e:=⟨F.len,λA outer s H args g i Q E hr=>F.run A outer s H args g i Q E (hr.mono h)⟩
def pj.make {P:bQ} {w:World} {K:aG} {mg:X7} {ae:Heap} {A:cf} {outer:List Env} {s:aH} {H:Hp} (e:pj P w K mg ae A outer s H) (C:Addr) (a:List Value) (c:List (Str×Value)):
 pj P w K mg ae (A.under (.builtin "type.__call__" ⟨.ref C::a,c⟩)) outer s H:=⟨by first|exact e.frames| (simpa [Around.under,Code.envs,Code.isFrame,pushEnvs] using e.frames),e.mod,e.bs,e.o9,e.gA,e.ro,e.a7,e.bare⟩
section
variable {X:Cx} {pins:List (Addr×Obj)} {σ:St} {H:Hp} {s s':aH}
def aD.sZ (I:aD X pins σ H s):pj X.prog X.w X.K X.mg X.ae X.A X.stack s H:=
 ⟨I.ok.frames,I.ok.mod,I.bs,dw I.ok.o9 I.sz,I.stack,I.gV,I.a7,I.bare⟩
def aD.after {Q:VK} {u:Value} (I:aD X pins σ H s) (h:CE X.stack X.prog X.w H s Q u s'):EP X pins σ Q u s':=by
 obtain ⟨v,c,os,bare,un,a7,r,q⟩:=h;obtain ⟨e,g,d,t,a⟩:=s';obtain rfl:a=s.os:=os;exact ⟨v,c,I.call un a7 bare (λb z=>absurd z (by simp)),r,q⟩
end
def SX (a:Sp) (h9:List V) (E:XK) (t:TA):TE:=λc H Q=>t c H λe g=>a (e++h9) g Q E
def MG (C:Addr) (m:Str) (g:Sp) (h9:List V) (E:XK) (h:TE) (t:TA):TE:=λc H Q=>h c H λx e=> ∃a dx fs,x= .ref a/\e a=some (.ins C dx fs)/\fs.lookup m=none/\
 t c e λi H2=>g (x::(i++h9)) H2 Q E
def SY (C:Addr) (c:Sp) (h9:List V) (E:XK) (t:TA):TE:=λe H Q=>t e H λg a=> ∀x dx,a x=none->a dx=none->dx≠x->
 c (.ref x::(g++h9)) (aU (aU a dx (.aw x)) x (.ins C dx [])) (λv H2=>v= .aW/\Q (.ref x) H2) E
def Binds (K:aG) (c:pk) (ps:List Str) (ds:List Value):Prop:=
 ∀(s:aH) (a:List Value),K.In s.heap->(a++ds).length=ps.length->BindsTo s c ⟨a,[]⟩ (ps.zip (a++ds))
def Binds.all {K:aG} {c:pk} {ps:List Str} (h: ∀a:List Value,a.length=ps.length->bindArgs c ⟨a,[]⟩=pure (ps.zip a)):Binds K c ps []:=λs a _ hl=>by
 rw [o8] at hl ⊢;exact .of_eq (h a hl)
def JW (g:qE) (X:Cx) (E:XK):Prop:= ∀(a:List (Addr×Obj)) (h:St) (H:Hp) (s:aH) (e:Value) (c:aH),aD X a h H s->g X.stack H s E e c->X.xe e c
section
variable {X:Cx} {CX:qE} {k:Nat} {f C:Addr} {fd:pk} {ps:List Str} {sp:Sp} {h9:List V} {ds:List Value} {E:XK} {x m:Str} {p i apos:Pos} {e o:Expr} {es:List Expr} {ta:TE} {t:TA}
def uy {a:List (Addr×Obj)} {j:St} {H:Hp} {s:aH} {Q:VK} {c:List Value} {vs:List V} (F:cZ X.prog X.w X.K X.mg X.ae CX k f fd ps sp) (n:aO k X.A) (q:Binds X.K fd ps ds) (hd:aI h9 ds) (v:JW CX X E)
  (I:aD X a j H s) (r:aI vs c) (h:sp (vs++h9) H Q E):wpAny (model X.prog X.w) X.A (call (.ref f) c) (EP X a j Q) X.xe s:=by
 have l:=r.append hd;have w:(c++ds).length=ps.length:=by rw [<-l.length];exact F.len _ _ _ _ h
 refine zP (tf (F.run X.A X.stack s H ⟨c,[]⟩ (c++ds) (vs++h9) Q E n I.sZ (q s c I.fQ w) l h) λr y g=>?_)
 cases r with
 |error e=>exact v a j H s e y I g
 |ok z=>
  cases z with
  |ret u=>exact I.after g
  |next=>exact l7 g
  |brk=>exact l7 g
  |cont=>exact l7 g
def uV (F:cZ X.prog X.w X.K X.mg X.ae CX k f fd ps sp) (l:aO k X.A) (n:Gl X x) (u:X.mg x=some (.ref f)) (v:l8 X.K (.ref f)=true) (w:Binds X.K fd ps ds) (hd:aI h9 ds) (y:JW CX X E)
  (z:PA X (e::es) t) (c:Z8 x:=by decide) (B:T8 X e es:=by rfl) (g:T7 X i es:=by rfl):
  PE X (.Call (.Name x p) (e::es) [] i) (SX sp h9 E t):=by
 intro a s J H Q I h;refine B2 (Qf I n u ?_ c);refine B3 I.ok.mod.ua v (bv (z i a s J H _ I h) λL N ⟨O,U,j,r,q⟩=>⟨j.fQ,?_⟩) B g;exact uy F l w hd y j r q
def S0 {L:Sem Bool} (N:PE X o ta) (c:fG X.K C) (w:Meth X.K C m f) (F:cZ X.prog X.w X.K X.mg X.ae CX k f fd ps sp) (O:aO k X.A) (U:Binds X.K fd ps ds) (hd:aI h9 ds) (Y:JW CX X E) (Z:PA X (e::es) t)
  (j:T8 X e es:=by rfl) (n:T7 X i es:=by rfl)
  (ht:eval (.Call (.Attribute o m apos) (e::es) [] i) X.env=(do
   let y<-eval o X.env
   sS apos.atName
   let (f,first)<-sF [y] (zD y m L)
   callWith i f first (gz i (bB (e::es) X.env)) (n6 i (n8 [] X.env))):=by rfl):
  PE X (.Call (.Attribute o m apos) (e::es) [] i) (MG C m sp h9 E ta t):=by
 intro g s z H Q I h;refine Gg (bv (N g s z H _ I h) λu s1 v=>?_) ht;obtain ⟨x,H1,B,rx,a,dx,fs,ex,ea,l,q⟩:=v;subst ex;obtain rfl:u=cK a:=rx;refine Qi B ea c w l ?_;refine B3 I.ok.mod.ua w.kp (bv (Z i g s1 z H1 _ B q) λus s2 ⟨vs,H2,J,r,q2⟩=>⟨J.fQ,?_⟩) j n;exact uy (vs:= .ref a::vs) F O U hd Y J (.cons rfl r) q2
def S4 {w:Sem Bool} (y:PE X o ta) (c:fG X.K C) (r:Meth X.K C m f) (F:cZ X.prog X.w X.K X.mg X.ae CX k f fd ps sp) (z:aO k X.A) (B:Binds X.K fd ps ds) (hd:aI h9 ds) (J:JW CX X E)
  (L:eval (.Call (.Attribute o m apos) [] [] i) X.env=(do
   let v<-eval o X.env
   sS apos.atName
   let (f,first)<-sF [v] (zD v m w)
   callWith i f first (gz i (bB [] X.env)) (n6 i (n8 [] X.env))):=by rfl):
  PE X (.Call (.Attribute o m apos) [] [] i) (MG C m sp h9 E ta B0):=by
 intro g s N H Q I h;refine Gg (bv (y g s N H _ I h) λu Z j=>?_) L;obtain ⟨x,H1,n,O,a,dx,fs,U,Y,l,q⟩:=j;subst U;obtain rfl:u=cK a:=O;refine Qi n Y c r l ?_;exact PySem.W.callWith_K0 n.fQ r.kp (uy (vs:=[.ref a]) F z B hd J n (.cons rfl .nil) q)
structure Mk (K:aG) (C f:Addr):Prop where
 makes:sY K C=true
 init:iP K (.ref C) "__init__" =some (some (.ref f))
 fn:D0 K (.ref f)=true
 kp:l8 K (.ref C)=true
def S5 {a:List (Addr×Obj)} {l:St} {H:Hp} {s:aH} {Q:VK} {g:List Value} {n:List V} (M:Mk X.K C f) (F:cZ X.prog X.w X.K X.mg X.ae CX k f fd ps sp) (y:aO (k+1) X.A) (z:Binds X.K fd ps ds) (hd:aI h9 ds)
  (B:JW CX X E) (I:aD X a l H s) (r:aI n g)
  (h: ∀x dx,H x=none->H dx=none->dx≠x->sp (.ref x::(n++h9)) (aU (aU H dx (.aw x)) x (.ins C dx [])) (λv H2=>v= .aW/\Q (.ref x) H2) E):
  wpAny (model X.prog X.w) X.A (call (.ref C) g) (EP X a l Q) X.xe s:=by
 have q:=h (s.heap.objs.size+1) s.heap.objs.size (I.a7.fresh (rF _)) (I.a7.fresh (bf _)) (dH (D2 _));have j:=aD.made (C:=C) I;have w:aI (V.ref (s.heap.objs.size+1)::(n++h9)) (cK (s.heap.objs.size+1)::(g++ds)):= .cons rfl (r.append hd)
 have J:(cK (s.heap.objs.size+1)::g++ds).length=ps.length:=by
  have e:=w.length;rw [F.len _ _ _ _ q] at e;exact e.symm
 refine zP (SQ I.fQ M.makes M.init (beq_iff_eq.mp M.fn) (tf (F.run _ X.stack _ _ ⟨cK (s.heap.objs.size+1)::g,[]⟩ (cK (s.heap.objs.size+1)::(g++ds)) _ _ E (y.make C g [])
  (j.sZ.make C g []) (z _ (cK (s.heap.objs.size+1)::g) j.fQ J) w q) λr L c=>?_))
 cases r with
 |error e=>exact B a l _ _ e L j c
 |ok N=>
  cases N with
  |ret u=>
   obtain ⟨v,O,U,Y,Z,q3⟩:=j.after c;subst Z;exact ⟨Y,⟨V.ref (s.heap.objs.size+1),O,U,rfl,q3⟩⟩
  |next=>exact l7 c
  |brk=>exact l7 c
  |cont=>exact l7 c
def S6 (M:Mk X.K C f) (F:cZ X.prog X.w X.K X.mg X.ae CX k f fd ps sp) (l:aO (k+1) X.A) (n:Gl X x) (u:X.mg x=some (.ref C)) (v:Binds X.K fd ps ds) (hd:aI h9 ds) (w:JW CX X E)
  (y:PA X (e::es) t) (c:Z8 x:=by decide) (z:T8 X e es:=by rfl) (g:T7 X i es:=by rfl):
  PE X (.Call (.Name x p) (e::es) [] i) (SY C sp h9 E t):=by
 intro a s B H Q I h;refine B2 (Qf I n u ?_ c);refine B3 I.ok.mod.ua M.kp (bv (y i a s B H _ I h) λJ L ⟨N,O,j,r,q⟩=>⟨j.fQ,?_⟩) z g;exact S5 M F l v hd w j r q
end
structure aq (N P:List Str) (sc:Scope):Prop where
 kind:sc.kind= .function
 co:sc.isCoroutine=false
 gen:sc.isGenerator=false
 nd:N.Nodup
 pre:N.take P.length=P
 par: ∀x∈P,sc.names.lookup x=some .local\/sc.names.lookup x=some .cell
 Aa: ∀y∈sc.names,y.2≠ .free
theorem Y8 {kindOf:Str->Option NameKind} {x:Str}: ∀ {binds:List (Str×Value)} {m:X7},(∀v,(x,v)∉binds)->bindL kindOf binds m x=m x
 | [],_,_=>rfl
 | (n,v)::r,m,h=>by
  unfold bindL;rw [Y8 λw hw=>h w (dZ _ hw)]
  split
  . have:x≠n:=by rintro rfl;exact h v ez
    simp [this]
  . rfl
theorem Ka {kindOf:Str->Option NameKind} {x:Str}: ∀ {binds:List (Str×Value)} {m:X7},(∀v,(x,v)∉binds)->bindC kindOf binds m x=m x
 | [],_,_=>rfl
 | (n,v)::r,m,h=>by
  unfold bindC;rw [Ka λw hw=>h w (dZ _ hw)]
  split
  . rfl
  . have:x≠n:=by rintro rfl;exact h v ez
    simp [this]
theorem Y9 {kindOf:Str->Option NameKind} {x:Str} {v:Value}: ∀ {P:List Str} {a:List Value} {i:Nat} {m:X7},P.Nodup->P[i]?=some x->a[i]?=some v->kindOf x=some .local->
  bindL kindOf (P.zip a) m x=some v
 | [],_,_,_,_,h,_,_=>by simp at h
 |_::_,[],_,_,_,_,h,_=>by simp at h
 |p::P,w::a,0,m,g,c,e,j=>by
  simp at c e;subst c;subst e;show bindL kindOf ((p,w)::P.zip a) m p=_;unfold bindL;rw [Y8 λv l=>(ti.mp g).1 (List.of_mem_zip l).1,if_pos j];simp
 |p::P,w::a,i+1,m,g,c,e,j=>by
  unfold bindL;exact Y9 (ti.mp g).2 (by simpa using c) (by simpa using e) j
theorem Kb {kindOf:Str->Option NameKind} {x:Str} {v:Value}: ∀ {P:List Str} {a:List Value} {i:Nat} {m:X7},P.Nodup->P[i]?=some x->a[i]?=some v->kindOf x≠some .local->
  bindC kindOf (P.zip a) m x=some v
 | [],_,_,_,_,h,_,_=>by simp at h
 |_::_,[],_,_,_,_,h,_=>by simp at h
 |p::P,w::a,0,m,g,c,e,j=>by
  simp at c e;subst c;subst e;show bindC kindOf ((p,w)::P.zip a) m p=_;unfold bindC;rw [Ka λv l=>(ti.mp g).1 (List.of_mem_zip l).1,if_neg j];simp
 |p::P,w::a,i+1,m,g,c,e,j=>by
  unfold bindC;exact Kb (ti.mp g).2 (by simpa using c) (by simpa using e) j
def start (N:List Str) (a:List V):St:=a.map some++B4 (N.length-a.length) none
def b8 (i:qE) (P:bQ) (w:World) (K:aG) (mg:X7) (ae:Heap) (N:List Str) (c:Str) (a:Scope) (f:Addr) (h:Value) (A:cf) (outer:List Env) (s:aH) (H:Hp) (E:XK):Cx where
 prog:=P
 w:=w
 K:=K
 mg:=mg
 ae:=ae
 A:=A.deeper (lE c a s.heap.objs.size f h)
 N:=N
 fJ:=s
 rm:=H
 env:=lE c a s.heap.objs.size f h
 outer:=outer
 stack:=lE c a s.heap.objs.size f h::outer
 ex:=[]
 cF:=true
 fn:=λ_=>true
 pn:=[]
 xe:=λe j=>wpAny (model P w) (A.deeper (lE c a s.heap.objs.size f h)) (leaving (lE c a s.heap.objs.size f h) e) (λ_ g=>i outer H s E e g) (λl g=>i outer H s E l g) j
def U1 {a:Scope} {n:Nat} {x:Str} (h:a.names.lookup x=some .cell): ∃c,(cellsFrom n a.names []).lookup x=some c:=by
 exact Bl.mp (PySem.W.cellsFrom_some a.names n [] (.inl h))
def S7 {Z:qE} {P:bQ} {w:World} {K:aG} {U:X7} {n:Heap} {N ps:List Str} {l:Str} {g:Scope} {f:Addr} {L:Value} {A:cf} {j:List Env} {s s1:aH} {H:Hp} {E:XK} {Y:List Value} {B:List V}
   (S:aq N ps g) (hd:A.handled=none) (o:pj P w K U n A j s H) (hl:B.length=ps.length) (r:aI B Y)
   (x:InCallC s s.heap.objs.size (bindL (lE l g s.heap.objs.size f L).kindOf (ps.zip Y) λ_=>none) (cellsFrom (s.heap.objs.size+1) g.names []) (bindC (lE l g s.heap.objs.size f L).kindOf (ps.zip Y) λ_=>none) s1):
   aD (b8 Z P w K U n N l g f L A j s H E) [] (start N B) H s1:=by
 have Gh:ps.length<=N.length:=by have:=congrArg B5 S.pre;rw [Ab] at this;omega
 obtain ⟨O,tk,rfl,hk⟩:=x.done;have oS: ∀b:Addr,b∉(b8 Z P w K U n N l g f L A j s H E).ex:=λb z=>absurd (show b∈([]:List Addr) from z) (by simp)
 refine ⟨⟨o.mod,S.kind,rfl,rfl,bf _,λy z c O m=>?_,λy hy=>?_,λy c _ h=>?_,λ_=>hd,Around.frames_deeper o.frames,.inr ⟨rfl,rfl⟩,λb z=>absurd z (oS b),o.bs,o.o9,λb _ _=>oS b,λb z=>absurd z (oS b),o.gA,o.ro⟩,
   rfl,o.bare,Un.kept hk,⟨_,x.toInCall.ns,λi y v O m h3=>?_⟩,λy c h=>⟨_,x.cell y c h⟩,o.a7.fresh (bf _),λy c h=>?_,λp I=>absurd (show p∈([]:List (Addr×Obj)) from I) (by simp),o.a7.kept hk,?_⟩
 . exact name_of_addr x.apart (Ac O) (Ac m)
 . have hy:=hy;rcases hy with hy|hy
   . exact U1 hy
   . exact absurd rfl (S.Aa _ (Ac hy))
 . exact BM (x.above y c (Ac h))
 . have Q:i<B.length:=by
     unfold start at m
     by_cases Q:i<B.length
     . exact Q
     . rw [lF (by simpa using Q)] at m;rw [va] at m
       split at m<;>cases m
   have ha:B[i]?=some v:=by
     unfold start at m;rw [nz (by simpa using Q),jF] at m
     cases e:B[i]? with
     |none=>rw [e] at m;cases m
     |some a=>rw [e] at m;cases m;rfl
   obtain ⟨u,hu,rv⟩:=r.get ha
   have I:ps[i]?=some y:=by
     rw [<-S.pre,List.getElem?_take_of_lt (by omega)];exact O
   have J:ps.Nodup:=by rw [<-S.pre];exact S.nd.sublist (Gi _ _)
   refine ⟨u,rv,?_⟩;rcases S.par y (sI I) with k|k
   . exact .inl ⟨k,Y9 J I hu k⟩
   . obtain ⟨c,e⟩:=U1 k;refine .inr ⟨.inl k,c,e,?_⟩;have q:=x.cell y c e;rw [Kb J I hu (by show g.names.lookup y≠_;rw [k];decide)] at q;exact q
 . exact o.a7.fresh (BM (x.above y c (Ac h)))
 . unfold start;show _=N.length;rw [iE,cg,List.length_replicate];omega
def Gj {CX:qE} {P:bQ} {w:World} {K:aG} {mg:X7} {i:Heap} {k:Nat} {f:Addr} {name g:Str} {j:Arguments} {l:List Stmt} {a:Scope} {dV kV U pm h ct oc:Value} {an od:Option Addr}
  {B6:Array (Option Value)} {N ps:List Str} {sp:Sp} (lk:K.lookup f=some ⟨oc,od,.func (qI name g j l a dV kV U pm an h ct),B6⟩) (Bm:Ad K h g=true) (S:aq N ps a)
  (len: ∀m H Q E,sp m H Q E->m.length=ps.length)
  (B: ∀(A:cf) (c:List Env) (s:aH) (H:Hp) (m:List V) (Q:VK) (E:XK),aO k (A.deeper (lE g a s.heap.objs.size f h))->sp m H Q E->
    ∃t,gn (b8 CX P w K mg i N g a f h A c s H E) l t/\t {nx:=λ_ z=>Q .aW z,rt:=Q} (start N m) H):
  cZ P w K mg i CX (k+1) f (qI name g j l a dV kV U pm an h ct) ps sp:=by
 refine ⟨len,λA c s H args us m Q E hr Y hb r Z=>?_⟩;have KX:=Y.mod.ua.keeps λb o e=>(Y.bs b o e).1
 have L: ∀y∈ps.zip us,a.names.lookup y.1=some .local\/(a.names.lookup y.1=some .cell/\((cellsFrom (s.heap.objs.size+1) a.names []).lookup y.1).isSome=true):=λ⟨n,v⟩ hy=>by
  rcases S.par n (List.of_mem_zip hy).1 with q|q
  . exact .inl q
  . exact .inr ⟨q,PySem.W.cellsFrom_some _ _ _ (.inl q)⟩
 refine codeAny_call_function hr.depth (KX _ _ lk) rfl S.co S.gen rfl (PySem.W.codeRec_of KX Bm) (hb _ _ _ _ ?_);refine wpAny_newFunctionEnv_cells S.kind L λenv he s1 x=>?_
 subst he;refine ⟨(Y.mod.nolimit.keeps λb o e=>(Y.bs b o e).1).keeps x.toInCall.keep,codeAny_func ?_⟩;obtain ⟨t,ht,hq⟩:=B A c s H m Q E (hr.deeper _) Z;have I:aD (b8 CX P w K mg i N g a f h A c s H E) [] (start N m) H s1:=S7 S hr.hd Y (len _ _ _ _ Z) r x;refine nq (ht [] s1 (start N m) H _ I hq) (λfl s' O=>?_) λe s' O=>O
 have fin: ∀ {p:St} {z:Hp} {v:V} {u:Value},aD (b8 CX P w K mg i N g a f h A c s H E) [] p z s'->aK v u->Q v z->CE c P w H s Q u s':=
  λ{p z v u} J rv q=>⟨v,z,J.os,J.bare,J.ae,J.a7,rv,q⟩
 cases fl with
 |ret u=>
  obtain ⟨v,p,z,J,rv,q⟩:=O;exact fin J rv q
 |next=>
  obtain ⟨p,z,J,q⟩:=O;exact fin (v:=V.aW) J rfl q
 |brk=>
  obtain ⟨_,_,_,q⟩:=O;exact l7 q
 |cont=>
  obtain ⟨_,_,_,q⟩:=O;exact l7 q
section
variable {X:Cx} {x:Str} {p pos:Pos} {e:Expr} {es:List Expr} {t:TA} {id T:String} {r:List V->Hp->VK->Prop}
def D3 (r:List V->Hp->VK->Prop) (t:TA):TE:=λa H Q=>t a H λc g=>r c g Q
def wl (j:bF X (.builtin id) r) (l:Gl X x) (m:X.mg x=none) (n:n4 x=some (.builtin id)) (o:PA X (e::es) t) (q:x≠ "__name__" :=by decide) (c:Z8 x:=by decide)
  (u:T8 X e es:=by rfl) (g:T7 X pos es:=by rfl):PE X (.Call (.Name x p) (e::es) [] pos) (D3 r t):=by
 intro a s i H Q I h;refine B2 (Wu I l m n ?_ q c);exact PyProof.Rows.callWith_builtin1 (bv (o pos a s i H _ I h) λv w ⟨y,z,B,E,J⟩=>j a w i z y v Q B E J) u g
def Jy (j:bF X (.type T) r) (l:Gl X x) (m:X.mg x=none) (n:n4 x=some (.type T)) (o:PA X (e::es) t) (q:x≠ "__name__" :=by decide) (c:Z8 x:=by decide)
  (u:T8 X e es:=by rfl) (g:T7 X pos es:=by rfl):PE X (.Call (.Name x p) (e::es) [] pos) (D3 r t):=by
 intro a s i H Q I h;refine B2 (Wu I l m n ?_ q c);exact DY (bv (o pos a s i H _ I h) λv w ⟨y,z,B,E,J⟩=>j a w i z y v Q B E J) u g
end
end L2
namespace HT
open PySem PyProof.Rows
section
variable {prog:bQ} {w:World} {A:cf} {E:T9} {s:aH}
def tj {t b:Addr} {g a:List Value} {Q:T9} (v:IsTup s.heap t g.toArray) (y:IsTup s.heap b a.toArray) (p:g≠[])
   (z:a=[]->Q (.ref t) s) (B:a≠[]->Q (.ref s.heap.objs.size) {s with heap:=s.heap.push {cls:= .type "tuple",data:= .seq (g++a).toArray}})
   (l:g.length+a.length<=aV):wpAny (model prog w) A (my .Add (.ref t) (.ref b)) Q E s:=by
 obtain ⟨⟨cls,dd,data,q⟩,j,H,n,hd⟩:=id v;obtain ⟨⟨r,h,data2,i⟩,c,m,u,o⟩:=id y;subst H hd m o;have e:g.toArray++a.toArray=(g++a).toArray:=by simp
 by_cases hw:a=[]
 . exact concat_meets ⟨_,j,rfl⟩ ⟨_,c,rfl⟩ noFill_tuple_add seq_tuple_add PySem.F.slot_tuple_add PySem.F.entry_tuple_add (PySem.F.args_tuple_add_2 _ _)
    (tuple_addW1 t b g.toArray a.toArray n u dd h q i (by simpa using p) (by simp [hw])) ⟨j,c,z hw⟩
 . refine concat_meets ⟨_,j,rfl⟩ ⟨_,c,rfl⟩ noFill_tuple_add seq_tuple_add PySem.F.slot_tuple_add PySem.F.entry_tuple_add (PySem.F.args_tuple_add_2 _ _)
    (tuple_addW2 t b g.toArray a.toArray n u dd h q i (by simpa using p) (by simpa using hw) (by rw [dq,dq];exact l)) ⟨j,c,?_⟩
   rw [e];exact B hw
noncomputable def ci (n d:Nat):Option Int->Nat
 |none=>d
 |some v=>if v<0 then (v+(n:Int)).toNat else min v.toNat n
def jJ (n d:Nat):ci n d none=d:=rfl
def gY (n d k:Nat):ci n d (some (k:Int))=min k n:=by
 show (if k<0 then (k+(n:Int)).toNat else min (k:Int).toNat n)=min k n;rw [if_neg (by omega),Bn]
def jj5 (n d:Nat) (hd:d<=n) (o:Option Int):ci n d o<=n:=by
 cases o with
 |none=>exact hd
 |some v=>
  show (if v<0 then (v+n).toNat else min v.toNat n)<=n
  by_cases a:v<0
  . rw [if_pos a];omega
  . rw [if_neg a];exact Nat.min_le_right _ _
def MH (v:Int) (n d:Nat):(if v<0 then max (v+(n:Int)) 0 else min v (n:Int))=((ci n d (some v):Nat):Int):=by
 show (if v<0 then max (v+n) 0 else min v n)=(((if v<0 then (v+n).toNat else min v.toNat n):Nat):Int)
 by_cases a:v<0
 . simp only [if_pos a];omega
 . simp only [if_neg a];omega
def vL (lo a:Option Int) (n:Nat):MI lo a 1 (n:Int)=(((ci n 0 lo:Nat):Int),((ci n n a:Nat):Int)):=by
 refine vl ?_ ?_
 . cases lo with
   |none=>rfl
   |some v=>exact MH v n 0
 . cases a with
   |none=>rfl
   |some v=>exact MH v n n
def kO (i j:Nat):D4 (i:Int) (j:Int) 1=j-i:=by
 unfold D4
 split<;>omega
def Wl {v:Value} {o:Option Int} {Q:Option Int->aH->Prop} (p:IsPart v o) (h:Q o s):wpAny (model prog w) A (Builtin.Slice.slicePartIndex v) Q E s:=by
 cases p with
 |none=>exact slicePart_none h
 |int i t=>exact slicePart_int h
def eO {g:Addr} {i j:Value} {lo a:Option Int} {n:Nat} {Q:Int×Int×Nat->aH->Prop} (l:s.heap.IsSliceOf g i j .none) (m:IsPart i lo) (o:IsPart j a)
  (h:Q (((ci n 0 lo:Nat):Int),1,ci n n a-ci n 0 lo) s):wpAny (model prog w) A (Builtin.Slice.sliceApplied (.ref g) (pure (n:Int))) Q E s:=by
 obtain ⟨os,c,p,e⟩:=id l;refine ay (ay (Ae c e rfl (ay (Ae c e rfl (ay (Ae c e rfl (aR ?_)))))));refine ay (slicePart_none ?_);refine ay (Wl m (ay (Wl o (ay (aR ?_)))));show wpAny _ _ (match MI lo a 1 n with| (lo,a)=>pure (lo,(1:Int),D4 lo a 1)) _ _ s;rw [vL lo a n];show wpAny _ _ (pure (((ci n 0 lo):Int),(1),D4 ((ci n 0 lo):Int) ((ci n n a):Int) 1)) _ _ s;rw [kO];exact aR h
def S8 (a:Array Value) (i k:Nat):((fK k).filterMap λ(m:Nat)=>a[((i:Int)+(m:Int)*1).toNat]?).toArray=((a.toList.drop i).take k).toArray:=by
 have e:(λ(m:Nat)=>a[(i+(m:Int)*1).toNat]?)=λm=>a[i+m]?:=by
  funext m;have:(i+(m:Int)*1).toNat=i+m:=by omega
  rw [this]
 rw [e];have:=pick_run a i k;rw [List.filterMap_map] at this;have e2:((λx=>a[x]?) ∘ λx=>i+x)=λm=>a[i+m]?:=rfl
 rw [e2] at this;rw [this]
def gZ {t m:Addr} {a:Array Value} {n o:Value} {lo e:Option Int} {Q:T9} (g:IsTup s.heap t a) (p:s.heap.IsSliceOf m n o .none) (r:IsPart n lo) (u:IsPart o e)
  (hw: ¬(ci a.size 0 lo=0/\ci a.size a.size e=a.size))
  (h:Q (.ref s.heap.objs.size) {s with heap:=s.heap.push {cls:= .type "tuple",data:= .seq ((a.toList.drop (ci a.size 0 lo)).take (ci a.size a.size e-ci a.size 0 lo)).toArray}})
  (v:a.size<=aV):wpAny (model prog w) A (rG (.ref t) (.ref m)) Q E s:=by
 have c:sizeOk (.seq ((a.toList.drop (ci a.size 0 lo)).take (ci a.size a.size e-ci a.size 0 lo)).toArray):=by
  show ((a.toList.drop (ci a.size 0 lo)).take (ci a.size a.size e-ci a.size 0 lo)).toArray.size<=aV;rw [dq,Ab,B7,lC];omega
 obtain ⟨os,i,j,y⟩:=id p;unfold rG
 try with_reducible refine nA ?_
 first|refine ay (aR ?_)|skip
 refine ay (wpAny_sequenceKey g.typeIs (by decide) ?_)
 refine ay (Bo g.typeIs Af
  (tq Af g.typeIs entry_tuple_getitem ?_ (args_tuple_getitem _ _)))
 show wpAny _ _ (MJ (.ref t)>>=_) _ _ s;refine ay (tupleItemsOf_ g ?_);refine ay (Bp (⟨os,i,j⟩) ?_);refine ay (eO p r u ?_)
 have l: ¬((((ci a.size 0 lo):Int)==0&&(1:Int)==1&&(ci a.size a.size e-ci a.size 0 lo)==a.size)=true):=by
  intro q;rw [eX,eX] at q;have z:=eq_of_beq q.1.1;have B:=eq_of_beq q.2;exact hw ⟨by omega,by omega⟩
 show wpAny _ _ (if (((ci a.size 0 lo):Int)==0&&(1)==1&&(ci a.size a.size e-ci a.size 0 lo)==a.size)=true then _ else _) _ _ s;rw [if_neg l,S8]
 first
  |exact ay (rE (aR ⟨_,rfl,aR h⟩) c)
  |exact ay (rE (ay (aR (aR ⟨_,rfl,aR h⟩))) c)
  |exact ay (ay (rE (aR (aR ⟨_,rfl,aR h⟩)) c))
  |exact ay (ay (rE (aR ⟨_,rfl,aR h⟩) c))
end
end HT
namespace L2
open PySem PySem.Spec PyProof.Rows
abbrev TO:=St->Hp->(Option Int->Hp->Prop)->Prop
def PO (X:Cx) (e:Option Expr) (t:TO):Prop:=
 ∀(a:List (Addr×Obj)) (s:aH) (c:St) (H:Hp) (Q:Option Int->Hp->Prop),aD X a c H s->t c H Q->
  wpAny (model X.prog X.w) X.A (evalPart e X.env) (λu h=> ∃o g,aD X a c g h/\IsPart u o/\Q o g) X.xe s
def S9:TO:=λ_ H Q=>Q none H
def Ta (t:TE):TO:=λa H Q=>t a H λx c=> ∃i,x= .int i/\Q (some i) c
section
variable {X:Cx} {e:Expr} {n:TE} {lo B:Option Expr} {tl m:TO} {g j:Pos}
def Tc:PO X none S9:=by
 intro a s c H Q I h;exact aR ⟨none,H,I,.none,h⟩
def Td (h:PE X e n):PO X (some e) (Ta n):=by
 intro a s l H Q I hw;refine bv (h a s l H _ I hw) λu w c=>?_;obtain ⟨x,o,p,r,v⟩:=c
 obtain ⟨i,rfl,q⟩:=v;obtain ⟨t,rfl⟩:=r;exact ⟨some i,o,p,.int i t,q⟩
def tt (X:Cx) (r:V->Option Int->Option Int->Hp->VK->Prop):Prop:=
 ∀(a:List (Addr×Obj)) (s:aH) (c:St) (H:Hp) (x:V) (v h i:Value) (lo B:Option Int) (l:Addr) (Q:VK),aD X a c H s->aK x v->s.heap.IsSliceOf l h i .none->IsPart h lo->IsPart i B->r x lo B H Q->
  ∃T id,typeLookup (.type T) "__getitem__" =pure (some (.builtin id))/\s.TypeIs v T/\wpAny (model X.prog X.w) X.A (rG v (.ref l)) (EP X a c Q) X.xe s
def tt.or {r c:V->Option Int->Option Int->Hp->VK->Prop} (h:tt X r) (E:tt X c):tt X (λx lo B H Q=>r x lo B H Q\/c x lo B H Q):=by
 intro a s i H x v l o lo B p Q I u w y z q;rcases q with q|q
 . exact h a s i H x v l o lo B p Q I u w y z q
 . exact E a s i H x v l o lo B p Q I u w y z q
def Te (r:V->Option Int->Option Int->Hp->VK->Prop) (n:TE) (tl m:TO):TE:=λa H Q=>n a H λx c=>tl a c λl H2=>m a H2 λu h=>r x l u h Q
def VS {r:V->Option Int->Option Int->Hp->VK->Prop} (z:tt X r) (E:PE X e n) (J:PO X lo tl) (L:PO X B m):PE X (.Subscript e (.Slice lo B none j) g) (Te r n tl m):=by
 intro a s i H Q I h;refine Subscript_ (bv (E a s i H _ I h) λv N c=>?_);obtain ⟨x,O,U,Y,Z⟩:=c;refine wpAny_Slice (bv (J a N i O _ U Z) λp s2 ⟨l,H2,I2,pl,q2⟩=>bv (L a s2 i H2 _ I2 q2) λw o c=>?_);obtain ⟨u,y,I3,pu,q3⟩:=c;refine aR ?_;have I4:aD X a i y {o with heap:=o.heap.push {cls:= .type "slice",data:= .fields #[p,w,.none]}}:=I3.kept λb ob q=>dc _ q
 obtain ⟨T,id,hT,ht,hg⟩:=z a {o with heap:=o.heap.push {cls:= .type "slice",data:= .fields #[p,w,.none]}} i y x v p w l u o.heap.objs.size Q I4 Y (Heap.IsSliceOf.new ..) pl pu q3;exact tail_any ht hT hg (by with_unfolding_all rfl)
def pv (a:List V) (lo B:Option Int):List V:=(a.drop (HT.ci a.length 0 lo)).take (HT.ci a.length a.length B-HT.ci a.length 0 lo)
def ZU (a:List V) (lo B:Option Int):(pv a lo B).length<=a.length:=by
 unfold pv;rw [Ab,B7];omega
def B8 (K:aG):V->Option Int->Option Int->Hp->VK->Prop:=λx lo B H Q=> ∃a c,x= .ref a/\i9 K H a c/\
 ¬(HT.ci c.length 0 lo=0/\HT.ci c.length c.length B=c.length)/\ ∀p,H p=none->Q (.ref p) (aU H p (.ap (pv c lo B)))
def Ag:tt X (B8 X.K):=by
 intro o s L H x v N O lo B U Q I w y z E h;obtain ⟨a,i,rfl,J,hw,q⟩:=h;cases w;obtain ⟨l,r,p,u⟩:=I.tuple J;have c:l.toArray.size=i.length:=by rw [dq];exact r.length.symm
 refine ⟨"tuple",_,Af.lookup,p.typeIs,?_⟩;refine HT.gZ p y z E (by rw [c];exact hw) ?_ (by rw [c];exact u);rw [c];refine ⟨.ref s.heap.objs.size,_,I.laid (λb ob q=>dc _ q) (bf _) ?_,rfl,q _ (I.a7.fresh (bf _))⟩;exact ⟨dw (ZU i lo B) u,_,(r.drop (HT.ci i.length 0 lo)).take (HT.ci i.length i.length B-HT.ci i.length 0 lo),IsTup.new _ _⟩
def Gk (K:aG):R2:=λx y H Q=> ∃a b h c,x= .ref a/\y= .ref b/\i9 K H a h/\i9 K H b c/\h≠[]/\h.length+c.length<=aV/\
 (c=[]->Q (.ref a) H)/\(c≠[]-> ∀p,H p=none->Q (.ref p) (aU H p (.ap (h++c))))
def aI.mB {a:List V} {c:List Value} (r:aI a c):c=[]↔a=[]:=by
 cases r with
 |nil=>simp
 |cons _ _=>simp
def Tf:dG X (my .Add) (Gk X.K):=by
 intro l s σ H x y v u Q I r E h;obtain ⟨a,b,xs,ys,rfl,rfl,J,L,N,o,O,U⟩:=h;cases r;cases E;obtain ⟨Y,i,Z,_⟩:=I.tuple J;obtain ⟨p,c,j,_⟩:=I.tuple L;refine HT.tj Z j (λz=>N (i.mB.mp z)) (λz=>⟨.ref a,H,I,rfl,O (c.mB.mp z)⟩) (λz=>?_) (by rw [<-i.length,<-c.length];exact o);refine ⟨.ref s.heap.objs.size,_,I.laid (λb ob q=>dc _ q) (bf _) ?_,rfl,U (λw=>z (c.mB.mpr w)) _ (I.a7.fresh (bf _))⟩;exact ⟨by rw [iE];exact o,_,i.append c,IsTup.new _ _⟩
end
noncomputable def vr (n:Nat) (i:Int):Option Nat:=if 0<=i then (if i<n then some i.toNat else none) else if-(n:Int)<=i then some (i+n).toNat else none
def nc {a:Type} (c:List a) (i:Int):Option a:=(vr c.length i).bind λj=>c[j]?
def Tg {n:Nat} {i:Int} {j:Nat} (h:vr n i=some j):seqIndex? i n=some j/\j<n/\ -(n:Int)<=i/\i<n:=by
 unfold vr at h
 by_cases c:0<=i
 . rw [if_pos c] at h
   by_cases a:i<n
   . rw [if_pos a] at h;have e:=ie h;exact ⟨by rw [seqIndex_of c a,e],by omega,by omega,a⟩
   . rw [if_neg a] at h;cases h
 . rw [if_neg c] at h
   by_cases a: -(n)<=i
   . rw [if_pos a] at h;have e:=ie h;exact ⟨by rw [seqIndex_neg (by omega) a,e],by omega,a,by omega⟩
   . rw [if_neg a] at h;cases h
def Vo {c:Type} {a:List c} {i:Int} {v:c} (h:nc a i=some v): ∃j,seqIndex? i a.length=some j/\a[j]?=some v/\j<a.length/\ -(a.length:Int)<=i/\i<a.length:=by
 unfold nc at h
 cases e:vr a.length i with
 |none=>rw [e] at h;cases h
 |some j=>
  rw [e] at h;obtain ⟨g,l,m,n⟩:=Tg e;exact ⟨j,g,h,l,m,n⟩
def eA {a:Type} {xs:List a} {j:Nat} {v:a} (h:xs[j]?=some v):nc xs (j:Int)=some v:=by
 have c:j<xs.length:=(m9.mp h).1
 have e:vr xs.length (j:Int)=some j:=by
  unfold vr;rw [if_pos (by omega),if_pos (by omega)];simp
 unfold nc;rw [e];exact h
def Vs (b:Expr):Prop:= ∀o i,subscripted b false o i=operate [o,i] (rG o i)
def sJ (X:Cx) (r:R2):Prop:=
 ∀(value a:Expr) (c:List (Addr×Obj)) (s:aH) (e:St) (H:Hp) (x y:V) (v u:Value) (Q:VK),aD X c e H s->aK x v->aK y u->r x y H Q->
  subscripted a false v u=operate [v,u] (rG v u)->wpAny (model X.prog X.w) X.A (subscriptTail value a v u) (EP X c e Q) X.xe s
def tu (X:Cx) (id:String) (r:V->List V->Hp->VK->Prop):Prop:=
 ∀(a:List (Addr×Obj)) (s:aH) (c:St) (H:Hp) (x:V) (e:List V) (v:Value) (g:List Value) (Q:VK),aD X a c H s->aK x v->aI e g->r x e H Q->
  wpAny (model X.prog X.w) X.A (call (.builtin id) (v::g)) (EP X a c Q) X.xe s
section
variable {X:Cx} {a b:Expr} {L J:TE} {N:Pos}
def sJ.or {r g:R2} (h:sJ X r) (n:sJ X g):sJ X (λx y H Q=>r x y H Q\/g x y H Q):=by
 intro value c e s i H x y v u Q I j l q m;rcases q with q|q
 . exact h value c e s i H x y v u Q I j l q m
 . exact n value c e s i H x y v u Q I j l q m
def tu.or {id:String} {r g:V->List V->Hp->VK->Prop} (h:tu X id r) (n:tu X id g):tu X id (λx e H Q=>r x e H Q\/g x e H Q):=by
 intro c s i H x e v j Q I l m q;rcases q with q|q
 . exact h c s i H x e v j Q I l m q
 . exact n c s i H x e v j Q I l m q
def MK {r:R2} (e:sJ X r) (g:PE X a L) (i:PE X b J) (j:Vs b):PE X (.Subscript a b N) (Bh r L J):=by
 intro c s l H Q I h;exact Subscript_ (zz g i I h λv u m x y H2 n o p q=>e a b c m l H2 x y v u Q n o p q (j _ _))
def B9 (K:aG):R2:=λx y H Q=> ∃p c i v,x= .ref p/\y= .int i/\gR K H p c/\nc c i=some v/\Q v H
def Ca (K:aG):R2:=λx y H Q=> ∃p c i v,x= .ref p/\y= .int i/\i9 K H p c/\nc c i=some v/\Q v H
def Cb:R2:=λx y H Q=> ∃z i c,x= .str z/\y= .int i/\z.length<=aV/\nc z.cps.toList i=some c/\Q (.str ⟨#[c]⟩) H
def tw:sJ X (B9 X.K):=by
 intro value l c s Y H x y v u Q I Z ry h E;obtain ⟨p,xs,i,z,rfl,rfl,hq,he,q⟩:=h;cases Z;obtain ⟨t,rfl⟩:=ry;obtain ⟨m,r,n,hz⟩:=I.list hq;obtain ⟨j,g,h2,h3,h4,h5⟩:=Vo he;obtain ⟨w,O,o⟩:=r.get h2;have hl:=r.length;have hn:=YA;have e:EP X c Y Q w s:=⟨z,H,I,o,q⟩
 by_cases U:0<=i
 . have B:i.toNat=j:=by
    rw [seqIndex_of U h5] at g;exact ie g
   exact item_listR n.isList U (by omega) (by rw [B];simpa using O) e E
 . have B:(i+(m.toArray.size)).toNat=j:=by
    rw [seqIndex_neg (by omega) h4] at g;rw [dq,<-hl];exact ie g
   exact subscriptTail_builtinR n.isList.typeIs slot_list_getitem.lookup
    (wpAny_getItem_list_neg n.isList (by omega) (by rw [dq]<;>omega) (by omega) (by rw [B];simpa using O) ⟨rfl,e⟩) E
def Ah:sJ X (Ca X.K):=by
 intro value e c s n H x y v u Q I o B h E;obtain ⟨p,xs,i,z,rfl,rfl,O,U,q⟩:=h;cases o;obtain ⟨t,rfl⟩:=B;obtain ⟨Y,r,m,hz⟩:=I.tuple O;obtain ⟨j,Z,h2,h3,h4,h5⟩:=Vo U;obtain ⟨w,ew,g⟩:=r.get h2;have hl:=r.length;have hn:=YA;have l:EP X c n Q w s:=⟨z,H,I,g,q⟩
 exact subscriptTail_builtinR m.typeIs Af.lookup
  (getItem_tuple m (by omega) (by omega) (by rw [dq,<-hl];exact Z) (by simpa using ew) ⟨rfl,l⟩) E
def Th:sJ X Cb:=by
 intro value e g s O H x y v u Q I m n h o;obtain ⟨z,i,c,rfl,rfl,U,p,q⟩:=h;obtain ⟨t,rfl⟩:=m;obtain ⟨Y,rfl⟩:=n;obtain ⟨j,l,r,Z,w,B⟩:=Vo p;have E:z.cps.toList.length=z.length:=by simp [Str.length]
 rw [E] at l w B;have hn:=YA
 exact tail_any (typeIs_str s z t) slot_str_getitem.lookup (getItem_str (by
  have e1:decide (i< -(2^63))=false:=decide_eq_false (by omega);have e2:decide (i>=2^63)=false:=decide_eq_false (by omega)
  rw [e1,e2,D5]) (by rw [l];simpa using r) ⟨.str ⟨#[c]⟩,H,I.tok _,⟨_,rfl⟩,q⟩) o
def ML (K:aG):R2:=λx y H Q=>B9 K x y H Q\/Ca K x y H Q\/Cb x y H Q
def Ti:sJ X (ML X.K):=tw.or (Ah.or Th)
def X6 (lo c:Option Int) (n:Nat):(Ai lo c none n).1=((HT.ci n 0 lo:Nat):Int)/\(Ai lo c none n).2.1=((HT.ci n n c:Nat):Int)/\(Ai lo c none n).2.2=1:=by
 refine ⟨?_,?_,rfl⟩
 . cases lo with
   |none=>simp [Ai,HT.ci]
   |some i=>
    simp only [Ai,HT.ci,Go,show (1)>0 by decide,if_true]
    by_cases h:i<0
    . simp only [h,if_true]<;>omega
    . simp only [h,if_false]<;>omega
 . cases c with
   |none=>simp [Ai,HT.ci]
   |some i=>
    simp only [Ai,HT.ci,Go,show (1)>0 by decide,if_true]
    by_cases h:i<0
    . simp only [h,if_true]<;>omega
    . simp only [h,if_false]<;>omega
def WN (c:List Value) (lo e:Option Int):slicePick c.toArray lo e none=((c.drop (HT.ci c.length 0 lo)).take (HT.ci c.length c.length e-HT.ci c.length 0 lo)).toArray:=by
 obtain ⟨g,h,i⟩:=X6 lo e c.toArray.size;unfold slicePick;rw [g,h,i];simp only [sliceRange_one,pick_run,dq]<;>rfl
def Cc (K:aG):V->Option Int->Option Int->Hp->VK->Prop:=λx lo e H Q=> ∃a c,x= .ref a/\gR K H a c/\ ∀p,H p=none->Q (.ref p) (aU H p (.ah (pv c lo e)))
def oT:tt X (Cc X.K):=by
 intro g s y H x v z B lo i E Q I l m n o h;obtain ⟨a,c,rfl,p,q⟩:=h;cases l;obtain ⟨u,r,j,w⟩:=I.list p;have e:=r.length;refine ⟨"list",_,slot_list_getitem.lookup,j.isList.typeIs,?_⟩;refine wpAny_getItem_list_slice j.isList m n o .none (by simp) ?_ (by rw [dq]<;>omega);rw [WN,<-e];refine ⟨.ref s.heap.objs.size,_,I.laid (λb ob q=>dc _ q) (bf _) ?_,rfl,q _ (I.a7.fresh (bf _))⟩;exact ⟨dw (ZU c lo i) w,_,0,(r.drop (HT.ci c.length 0 lo)).take (HT.ci c.length c.length i-HT.ci c.length 0 lo),gp _ rfl⟩
def mC:bF X (.builtin "len") (λl H Q=> ∃p e,l=[.ref p]/\(gR X.K H p e\/i9 X.K H p e)/\Q (.int e.length) H):=by
 intro m s v H l w Q I r h;obtain ⟨p,e,rfl,hq,q⟩:=h;obtain ⟨u,rfl,n⟩:=yY r;cases n;have y:=YA;rcases hq with hq|hq
 . obtain ⟨g,i,j,o⟩:=I.list hq;have c:=i.length;exact Calls.call_len_list j.isList (by simp only [dq]<;>omega) ⟨.int e.length,H,I.tok _,⟨s.toks+1,by rw [dq,c]⟩,q⟩
 . obtain ⟨g,i,j,o⟩:=I.tuple hq;have c:=i.length;exact len_tuple j (by simp only [dq]<;>omega) ⟨.int e.length,H,I.tok _,⟨s.toks+1,by rw [dq,c]⟩,q⟩
def Y3:bF X (.builtin "len") (λc H Q=> ∃z,c=[.str z]/\z.length<=aV/\Q (.int z.length) H):=by
 intro e s g H c i Q I r h;obtain ⟨z,rfl,j,q⟩:=h;obtain ⟨u,rfl,t,rfl⟩:=yY r;have l:=YA;exact len_str (by omega) ⟨.int z.length,H,I.tok _,⟨_,rfl⟩,q⟩
def bF.or {f:Value} {r g:List V->Hp->VK->Prop} (h:bF X f r) (m:bF X f g):bF X f (λe H Q=>r e H Q\/g e H Q):=by
 intro c s i H e j Q I l q;rcases q with q|q
 . exact h c s i H e j Q I l q
 . exact m c s i H e j Q I l q
def wV:bF X (.type "list") (λY H Q=> ∃p i,Y=[.ref p]/\(gR X.K H p i\/i9 X.K H p i)/\ ∀l,H l=none->Q (.ref l) (aU H l (.ah i))):=by
 intro v s σ H Y us Q I r h;obtain ⟨p,i,rfl,hq,q⟩:=h;obtain ⟨u,rfl,rx⟩:=yY r;cases rx
 have w: ∀(c:List Value),aI i c->i.length<=aV-> ∀(g:Heap) j,(∀b Z,s.heap.get? b=some Z->g.get? b=some Z)->
    g.get? s.heap.objs.size=some {cls:= .type "list",dict:=none,data:= .seq c.toArray j,slots:= #[]}->EP X v σ Q (.ref s.heap.objs.size) {s with heap:=g}:=λc m y g j z e=>
   ⟨.ref s.heap.objs.size,_,I.laid z (bf _) (show a9 X.prog X.w _ g _ (.ah i) from ⟨y,c,j,m,e⟩),rfl,q _ (I.a7.fresh (bf _))⟩
 rcases hq with hq|hq
 . obtain ⟨c,m,E,y⟩:=I.list hq;have B:=m.length;obtain ⟨o,O,U,n,hd⟩:=E.isList;exact call_list_seq p (.inl rfl) O U hd (λg j z e=>w c m y g j z e) (by simp only [dq]<;>omega)
 . obtain ⟨c,m,E,y⟩:=I.tuple hq;have B:=m.length;obtain ⟨o,O,U,n,hd⟩:=E;exact call_list_seq p (.inr rfl) O U hd (λg j z e=>w c m y g j z e) (by simp only [dq]<;>omega)
def Gp (K:aG) (T:String) (x:V) (H:Hp):Prop:=match x with
 | .str _=>T= "str"
 | .int _=>T= "int"
 | .ref p=>(T= "list" /\ ∃e,gR K H p e)\/(T= "tuple" /\ ∃o,K.lookup p=some o/\o.cls= .type "tuple" /\o.dict=none)\/
  (T= "dict" /\((∃c,H p=some (.dK c))\/ ∃c,H p=some (.dT c)))\/(T= "set" /\ ∃S n,H p=some (.set S n))
 |_=>False
def Tj {j:List (Addr×Obj)} {u:St} {H:Hp} {s:aH} {T:String} {x:V} {v:Value} (I:aD X j u H s) (r:aK x v) (l:Gp X.K T x H):
  s.TypeIs v T/\ ∀a,v= .ref a-> ∃ob,s.heap.get? a=some ob/\ob.dict=none:=by
 cases x with
 |str z=>
  obtain ⟨t,rfl⟩:=r;cases (l);exact ⟨typeIs_str s z t,λ_ e=>nomatch e⟩
 |int i=>
  obtain ⟨t,rfl⟩:=r;cases (l);exact ⟨typeIs_int s i t,λ_ e=>nomatch e⟩
 |ref p=>
  cases r;rcases l with ⟨rfl,E,w⟩| ⟨rfl,o,g,y,hd⟩| ⟨rfl,g⟩| ⟨rfl,S,n,g⟩
  . obtain ⟨B,_,q,_⟩:=I.list w;refine ⟨q.isList.typeIs,λa e=>?_⟩;cases e;obtain ⟨o,n,e,c,hd,_⟩:=q;exact ⟨o,e,hd⟩
  . refine ⟨⟨o,I.fQ p o g,y⟩,λa e=>?_⟩;cases e;exact ⟨o,I.fQ _ o g,hd⟩
  . have z: ∃o,s.heap.get? p=some o/\o.ExactDict:=by
     rcases g with ⟨m,g⟩| ⟨m,g⟩
     . obtain ⟨_,_,_,_,o,_,_,e,h,_⟩:=I.a7 p _ g;exact ⟨o,e,h⟩
     . obtain ⟨_,_,_,_,o,_,_,e,h,_⟩:=I.a7 p _ g;exact ⟨o,e,h⟩
    obtain ⟨o,e,h⟩:=z;refine ⟨⟨o,e,h.1⟩,λa e2=>?_⟩;cases e2;exact ⟨o,e,h.2.1⟩
  . obtain ⟨o,_,_,_,e,h,_⟩:=I.a7 p _ g;refine ⟨⟨o,e,h.1⟩,λa e2=>?_⟩;cases e2;exact ⟨o,e,h.2.1⟩
 |_=>exact l7 l
def Tl (K:aG) (T:String) (r:V->List V->Hp->VK->Prop) (O:TE) (t:TA):TE:=λc H Q=>O c H λx e=>Gp K T x e/\t c e λg H2=>r x g H2 Q
variable {o e:Expr} {U:List Expr} {O:TE} {t:TA} {name:Str} {Y Z:Pos} {T id:String} {r:V->List V->Hp->VK->Prop}
def kP (B:PlainAttrs T) (slot:Slot T name id) (n:typeOf (.builtin id)=pure (.type "method_descriptor")) (E:tu X id r) (ho:PE X o O) (ha:PA X (e::U) t)
  (i:mz o name X.env (eval o X.env)=eval o X.env:=by rfl)
  (m:((gz Z (bB (e::U) X.env)).all (λx=>!x.1)&&(n6 Z (n8 [] X.env)).all (λx=>x.1.isSome)
   &&decide ((e::U).length+([]:List l9).length+(if ([]:List l9).isEmpty then 0 else 1)<30))=true:=by rfl)
  (j:(Y.endLine==Z.line)=true:=by rfl) (hs:T8 X e U:=by rfl) (g:T7 X Z U:=by rfl):
  PE X (.Call (.Attribute o name Y) (e::U) [] Z) (Tl X.K T r O t):=by
 intro c s p H Q I h;refine wpAny_Call_method_late i m j rfl (bv (ho c s p H _ I h) λv s1 q=>?_);obtain ⟨x,H1,w,y,ty,q1⟩:=q;obtain ⟨h1,h2⟩:=Tj w y ty;refine ⟨T,id,B,slot,n,h1,h2,?_⟩;have z:=ha Z c s1 p H1 _ w q1;rw [hs] at z ⊢;refine Calls.callWith_builtin (by show (false|| (gz Z (bB U X.env)).any (·.1))=false;rw [g]<;>rfl) (Calls.evalArgs_plain ?_);exact bv z λus s2 ⟨vs,H2,I2,r2,q2⟩=>E c s2 p H2 x vs v us Q I2 y r2 q2
/-xs.append(e),list.index on a l tuple .. are tu u of 06m-/
end
def Cd (X:Cx) (id:String) (r:V->List V->Hp->VK->Prop):Prop:=
 ∀(a:List (Addr×Obj)) (s:aH) (c:St) (H:Hp) (x:V) (e:List V) (v:Value) (g:List Value) (Q:VK),aD X a c H s->aK x v->aI e g->r x e H Q->
  wpAny (model X.prog X.w) X.A (call (.builtin id) (v::g)) (EP X a c Q) X.xe s
theorem aI.one: ∀ {x:V} {a:List Value},aI [x] a-> ∃u,a=[u]/\aK x u
 |_,_,.cons r .nil=>⟨_,rfl,r⟩
theorem aI.eraseIdx: ∀ {a:List V} {c:List Value} (i:Nat),aI a c->aI (a.eraseIdx i) (c.eraseIdx i)
 |_,_,_,.nil=> .nil
 |_,_,0,.cons _ t=>t
 |_,_,i+1,.cons r t=> .cons r (aI.eraseIdx i t)
theorem YD {a:Type}: ∀(l:List a) (i:Nat),(l.eraseIdx i).length<=l.length
 | [],_=>bf _
 |_::_,0=>rF _
 |_::r,i+1=>Nat.succ_le_succ (YD r i)
section
variable {X:Cx} {p:List (Addr×Obj)} {σ:St} {H:Hp} {s:aH} {l b:Addr} {xs c zs:List V}
def aD.rH {g a:List Value} {n:Nat} {f:Array Value->Array Value} {h:Nat} (I:aD X p σ H s) (i:H l=some (.ah xs))
  (e:s.heap.get? l=some {cls:= .type "list",data:= .seq g.toArray n}) (j:f g.toArray=a.toArray) (m:aI c a) (o:c.length<=aV):
  aD X p σ (aU H l (.ah c)) {s with heap:=s.heap.update l (vu f),toks:=h}:=by
 have q:=PySem.IsL.update e f;rw [j] at q;refine I.write (by rw [i];exact trivial) (.inl rfl) (λw u r v=>(D6 s.heap (vu f) (lD r)).trans v) ⟨_,q⟩ ?_;exact ⟨o,a,_,m,q⟩
def aD.Ce {a:List Value} {t':Nat} (I:aD X p σ H s) (e:aI c a) (g:c.length<=aV):
  aD X p σ (aU H s.heap.objs.size (.ah c)) {s with heap:=s.heap.push {cls:= .type "list",data:= .seq a.toArray},toks:=t'}:=
 I.laid (λ_ _ q=>dc _ q) (bf _) ⟨g,a,0,e,gp _ rfl⟩
def aD.fresh (I:aD X p σ H s):H s.heap.objs.size=none:=I.a7.fresh (bf _)
def aD.nB (I:aD X p σ H s) (g:H l=some (.ah xs)):xs.length<=aV/\ ∃(a:List Value) (n:Nat),aI xs a/\xs.length=a.length/\s.heap.get? l=some {cls:= .type "list",data:= .seq a.toArray n}:=by
 obtain ⟨z,a,n,r,e⟩:=I.a7 l _ g;exact ⟨z,a,n,r,r.length,e⟩
def VY {n:Nat} (h:n<=aV):D7 n=false:=by
 exact decide_eq_false (by omega)
end
section
variable {X:Cx}
def To:V->List V->Hp->VK->Prop:=λx c H Q=> ∃l a y,x= .ref l/\c=[y]/\H l=some (.ah a)/\a.length<aV/\Q .aW (aU H l (.ah (a++[y])))
def Zv:Cd X "list.append" To:=by
 intro c s o H x p v w Q I i j h;obtain ⟨l,B,y,rfl,rfl,g,E,q⟩:=h;cases i;obtain ⟨u,rfl,m⟩:=j.one;obtain ⟨z,a,n,r,J,e⟩:=I.nB g;refine Bq Gq ⟨_,e,rfl⟩ F.entry_list_append (F.args_list_append_2 _ _) (PySem.list_append l a.toArray n u (by rw [dq];omega)) ⟨e,?_⟩;refine ⟨.aW,_,I.rH g e (by simp) (r.append (.cons m .nil)) ?_,rfl,q⟩;rw [iE,Gr];omega
def Tp:V->List V->Hp->VK->Prop:=λx e H Q=> ∃l b a c,x= .ref l/\e=[.ref b]/\H l=some (.ah a)/\H b=some (.ah c)/\a.length+c.length<=aV/\Q .aW (aU H l (.ah (a++c)))
def Tq:Cd X "list.extend" Tp:=by
 intro j s L H x N v O Q I o p h;obtain ⟨l,b,U,Y,rfl,rfl,m,w,Z,q⟩:=h;cases o;obtain ⟨u,rfl,y⟩:=p.one;cases y;obtain ⟨z,c,n,r,hl,e⟩:=I.nB m;obtain ⟨z2,a,B,E,J,e2⟩:=I.nB w;have i:c.toArray.size+a.toArray.size<=aV:=by rw [dq,dq];omega
 have g: ¬(!c.toArray.isEmpty&&D7 (c.toArray.size+a.toArray.size))=true:=by
  rw [VY i,Bool.and_false];exact h8
 refine Bq Gs ⟨_,e,rfl⟩ F.entry_list_extend (F.args_list_extend_2 _ _)
  (AutoSeq1.list_extend_list_list_0 l c.toArray n b a.toArray B g (by rw [dq];omega) (by omega)) ⟨e,e2,?_⟩
 refine ⟨.aW,_,I.rH m e (by simp) (r.append E) ?_,rfl,q⟩;rw [iE];omega
def Ts:V->List V->Hp->VK->Prop:=λx c H Q=> ∃l a i k y,x= .ref l/\c=[.int i]/\H l=some (.ah a)/\ -(2^63)<=i/\i<2^63/\seqIndex? i a.length=some k/\a[k]?=some y/\Q y (aU H l (.ah (a.eraseIdx k)))
def Tt:Cd X "list.pop" Ts:=by
 intro g s U H x Y v Z Q I m o h;obtain ⟨l,p,i,k,y,rfl,rfl,j,B,E,J,L,q⟩:=h;cases m;obtain ⟨u,rfl,N⟩:=o.one;obtain ⟨t,rfl⟩:=N;obtain ⟨z,a,n,r,O,e⟩:=I.nB j;obtain ⟨w,hw,c⟩:=r.get L
 refine Bq F.slot_list_pop ⟨_,e,rfl⟩ F.entry_list_pop (F.args_list_pop_2 _ _)
   (MeetsSeq.list_pop_at l a.toArray n i t k w (fitsIndex_both B E) (by rw [dq,<-O];exact J) (by rw [<-oj];exact hw) (by rw [dq];omega)) ⟨e,?_⟩
 refine ⟨y,_,I.rH j e ?_ (r.eraseIdx k) ?_,c,q⟩
 . show a.toArray.eraseIdxIfInBounds k=(a.eraseIdx k).toArray;rw [List.eraseIdxIfInBounds_toArray]
 . have:=YD p k;omega
def Aj:R2:=λx y H Q=> ∃l b a c,x= .ref l/\y= .ref b/\H l=some (.ah a)/\H b=some (.ah c)/\a.length+c.length<=aV/\ ∀p,H p=none->Q (.ref p) (aU H p (.ah (a++c)))
def Ak:dG X (my .Add) Aj:=by
 intro g s E H x y v u Q I i j h;obtain ⟨l,b,J,L,rfl,rfl,m,o,N,q⟩:=h;cases i;cases j;obtain ⟨z,c,n,r,O,e⟩:=I.nB m;obtain ⟨U,a,Y,p,w,e2⟩:=I.nB o;refine PySem.P.add_list e e2 ?_ (by rw [dq,dq];omega);have B:c.toArray++a.toArray=(c++a).toArray:=by simp
 rw [B];exact ⟨.ref _,_,I.Ce (r.append p) (by rw [iE];omega),rfl,q _ I.fresh⟩
end
section
variable {Q:Type} [DecidableEq Q]
noncomputable def gB (a:List (Q×V)) (k:Q):Option V:=(a.find? λc=>decide (c.1=k)).map (·.2)
noncomputable def putK (a:List (Q×V)) (k:Q) (v:V):List (Q×V):=
 if (a.any λc=>decide (c.1=k))=true then a.map (λc=>if c.1=k then (c.1,v) else c) else a++[(k,v)]
def WH {p:Q×V} {r:List (Q×V)} {k:Q} (e:p.1=k):gB (p::r) k=some p.2:=by simp [gB,Al,e]
def WI {p:Q×V} {r:List (Q×V)} {k:Q} (e: ¬p.1=k):gB (p::r) k=gB r k:=by simp [gB,Al,e]
theorem WJ (k:Q): ∀a:List (Q×V),(a.any λc=>decide (c.1=k))=(gB a k).isSome
 | []=>rfl
 |p::r=>by
  rw [Br]
  by_cases e:p.1=k
  . simp only [WH e,decide_eq_true e,Bool.true_or,Option.isSome_some]
  . rw [WI e,decide_eq_false e,Bool.false_or];exact WJ k r
def ZA (a:List (Q×V)) (k:Q) (v:V):(putK a k v).length<=a.length+1:=by
 unfold putK
 split
 . rw [cg];omega
 . rw [iE,fb,sG];omega
def fO.ij {o:Option V} {u:Option Value} (r:fO o u):o.isSome=u.isSome:=by
 cases o with
 |none=>cases u with
  |none=>rfl
  |some _=>exact (r).elim
 |some _=>cases u with
  |none=>exact (r).elim
  |some _=>rfl
def KV.val {a:List (Q×V)} {i:List (Q×Value)} (r:KV a i) (k:Q):fO (gB a k) (valueAt i k):=by
 induction r with
 |nil=>exact qu
 | @cons p q ps c h t l=>
  obtain ⟨j,m⟩:=h
  by_cases e:p.1=k
  . have g:=j.symm.trans e;have b:valueAt (q::c) k=some q.2:=by simp [valueAt,Al,g]
    rw [WH e,b];exact m
  . have g: ¬q.1=k:=λz=>e (j.trans z)
    have b:valueAt (q::c) k=valueAt c k:=by simp [valueAt,Al,g]
    rw [WI e,b];exact l
def KV.any {a:List (Q×V)} {e:List (Q×Value)} (r:KV a e) (k:Q):(a.any λc=>decide (c.1=k))=e.any λc=>decide (c.1=k):=by
 induction r with
 |nil=>rfl
 |cons h t g=>rw [Br,Br,g,h.1]
def KV.Am {c:List (Q×V)} {i:List (Q×Value)} (r:KV c i) (k:Q) {y:V} {u:Value} (j:aK y u):
  KV (c.map λa=>if a.1=k then (a.1,y) else a) (i.map λa=>if a.1=k then (a.1,u) else a):=by
 induction r with
 |nil=>exact .nil
 | @cons p q ps n h t l=>
  rw [fF,fF];refine .cons ?_ l;obtain ⟨g,m⟩:=h
  by_cases e:p.1=k
  . rw [if_pos e,if_pos (g.symm.trans e)];exact ⟨g,j⟩
  . rw [if_neg e,if_neg (λz=>e (g.trans z))];exact ⟨g,m⟩
def KV.put {a:List (Q×V)} {c:List (Q×Value)} (r:KV a c) (k:Q) {y:V} {u:Value} (g:aK y u):KV (putK a k y) (stored c k u):=by
 unfold putK stored;rw [r.any k]
 by_cases e:(c.any λh=>decide (h.1=k))=true
 . rw [if_pos e,if_pos e];exact r.Am k g
 . rw [if_neg e,if_neg e];exact Paired.snoc r ⟨rfl,g⟩
def KV.keys {a:List (Q×V)} {c:List (Q×Value)} (r:KV a c):a.map (·.1)=c.map (·.1):=by
 induction r with
 |nil=>rfl
 |cons h t e=>rw [fF,fF,e,h.1]
def KV.length {kvs:List (Q×V)} {vs:List (Q×Value)} (r:KV kvs vs):kvs.length=vs.length:=Bd r
end
def D8 {P:bQ} {w:World} {k:aS} {u:Value} (r:aK (kV k) u):(j4 P w).is k u=true:=by
 cases k with
 |inl i=>obtain ⟨t,e⟩:=(r);subst e;exact KS P w i t
 |inr x=>obtain ⟨t,e⟩:=(r);subst e;exact KR P w x t
theorem YF {P:bQ} {w:World}: ∀ {ks:List aS} {us:List Value},aI (ks.map kV) us->ItemsAre (j4 P w) ks us
 | [],_,r=>by rw [List.map_nil] at r;cases r;exact .nil
 |k::ks,_,r=>by
  cases r with
  |cons h t=>exact .cons (D8 h) (YF t)
abbrev KT (H:Hp):List (List aS×V)->List (List aS×Addr×Value)->Prop:=nZ λp q=>p.1=q.1/\H q.2.1=some (.ap (p.1.map kV))/\aK p.2 q.2.2
def KT.val {H:Hp} {a:List (List aS×V)} {i:List (List aS×Addr×Value)} (r:KT H a i) (k:List aS):fO (gB a k) ((atKey i k).map (·.2)):=by
 induction r with
 |nil=>exact qu
 | @cons p q ps c h t l=>
  obtain ⟨j,_,m⟩:=h
  by_cases e:p.1=k
  . have g:=j.symm.trans e;have b:atKey (q::c) k=some q.2:=by simp [atKey,Al,g]
    rw [WH e,b];exact m
  . have g: ¬q.1=k:=λz=>e (j.trans z)
    have b:atKey (q::c) k=atKey c k:=by simp [atKey,Al,g]
    rw [WI e,b];exact l
def KT.Am {H:Hp} {a:List (List aS×V)} {i:List (List aS×Addr×Value)} (r:KT H a i) (k:List aS) {y:V} {u:Value} (l:aK y u):
  KT H (a.map λg=>if g.1=k then (g.1,y) else g) (i.map (putAt k u)):=by
 induction r with
 |nil=>exact .nil
 | @cons p q ps n h t m=>
  rw [fF,fF];refine .cons ?_ m;obtain ⟨c,j,h3⟩:=h;unfold putAt
  by_cases e:p.1=k
  . rw [if_pos e,if_pos (c.symm.trans e)];exact ⟨c,j,l⟩
  . rw [if_neg e,if_neg (λz=>e (c.trans z))];exact ⟨c,j,h3⟩
def KT.put {H:Hp} {a:List (List aS×V)} {c:List (List aS×Addr×Value)} (r:KT H a c) (k:List aS) {b:Addr} {y:V} {u:Value} (h:H b=some (.ap (k.map kV))) (g:aK y u):
   KT H (putK a k y) (qJ c k b u):=by
 have e:(a.any λi=>decide (i.1=k))=(atKey c k).isSome:=by
   rw [WJ,(r.val k).ij,Gu]
 unfold putK qJ;rw [e]
 by_cases q:(atKey c k).isSome=true
 . rw [if_pos q,if_pos q];exact r.Am k g
 . rw [if_neg q,if_neg q];exact Paired.snoc r ⟨rfl,h,g⟩
def KT.keeps {H c:Hp} {a:List (List aS×V)} {e:List (List aS×Addr×Value)} (r:KT H a e) (h: ∀b g,H b=some (.ap g)->c b=some (.ap g)):KT c a e:=
 nZ.y0 r λ_ _ z=>⟨z.1,h _ _ z.2.1,z.2.2⟩
section
variable {P:bQ} {w:World} {H:Hp} {h:Heap} {a:Addr}
def MM {u:HO} (ok:eY P w H h) (e:Rd H a u):a9 P w H h a u:=e.ok ok
def D9 {c:List (aS×V)} (ok:eY P w H h) (e:Rd H a (.dK c)):c.length<=aV/\(a==om)=false/\ ∃g,KV c g/\h.DictOf (j4 P w) a g:=
 show a9 P w H h a (.dK c) from MM ok e
def MN {c:List (aS×V)} (ok:eY P w H h) (e:H a=some (.dK c)):c.length<=aV/\(a==om)=false/\ ∃g,KV c g/\h.DictOf (j4 P w) a g:=D9 ok (.inl e)
def Wv {ks:List aS} (ok:eY P w H h) (e:H a=some (.ap (ks.map kV))):(qk (j4 P w)).is h ks a:=by
 obtain ⟨_,c,r,o,g,i,n,j⟩:=(ok a _ e)
 exact ⟨o,c.toArray,n,g,i,j,by simpa using YF r⟩
def Ea {c:List (List aS×V)} (ok:eY P w H h) (e:Rd H a (.dT c)):c.length<=aV/\(a==om)=false/\
  ∃g,KT H c g/\h.DictOfH (qk (j4 P w)) a g:=by
 obtain ⟨z,y,g,r,o,j,n,u,v,B,E,I⟩:=(MM ok e)
 refine ⟨z,y,g,r,o,j,n,u,v,B,E,λx hx=>?_,I⟩
 have all: ∀ {l:List (List aS×V)} {m:List (List aS×Addr×Value)},KT H l m-> ∀x∈m,(qk (j4 P w)).is h x.1 x.2.1:=by
  intro l m q
  induction q with
  |nil=>intro x hx;exact nomatch hx
  | @cons p q ps L i t J=>
   intro x hx;rcases dk.mp hx with e|hx
   . subst e;exact Wv ok (by rw [<-i.1];exact i.2.1)
   . exact J x hx
 exact all r x hx
def Tu {c:List (List aS×V)} (ok:eY P w H h) (e:H a=some (.dT c)):c.length<=aV/\(a==om)=false/\
 ∃g,KT H c g/\h.DictOfH (qk (j4 P w)) a g:=Ea ok (.inl e)
end
def nD (H:Hp) (a:Addr) (y:V) (r:Option V):Prop:=
 (∃c k,Rd H a (.dK c)/\y=kV k/\r=gB c k)\/ ∃c k b,Rd H a (.dT c)/\y= .ref b/\H b=some (.ap (k.map kV))/\r=gB c k
def nE (H:Hp) (a:Addr) (y v:V) (e:Hp):Prop:=
 (∃c k,H a=some (.dK c)/\y=kV k/\c.length<aV/\e=aU H a (.dK (putK c k v)))\/
 ∃c k b,H a=some (.dT c)/\y= .ref b/\H b=some (.ap (k.map kV))/\c.length<aV/\e=aU H a (.dT (putK c k v))
def nD.t {H:Hp} {a b:Addr} {c:List (List aS×V)} {k:List aS} (e:H a=some (.dT c)) (g:H b=some (.ap (k.map kV))):nD H a (.ref b) (gB c k):= .inr ⟨c,k,b,.inl e,rfl,g,rfl⟩
def nE.k {H:Hp} {a:Addr} {c:List (aS×V)} {k:aS} {v:V} (e:H a=some (.dK c)) (hl:c.length<aV):nE H a (kV k) v (aU H a (.dK (putK c k v))):= .inl ⟨c,k,e,rfl,hl,rfl⟩
def nE.t {H:Hp} {a b:Addr} {c:List (List aS×V)} {k:List aS} {v:V} (e:H a=some (.dT c)) (g:H b=some (.ap (k.map kV))) (hl:c.length<aV):
 nE H a (.ref b) v (aU H a (.dT (putK c k v))):= .inr ⟨c,k,b,e,rfl,g,hl,rfl⟩
section
variable {X:Cx} {pins:List (Addr×Obj)} {σ:St} {H:Hp} {s:aH} {a:Addr} {y v:V} {u r:Value} {o:Option V} {A:cf} {E:T9}
def aD.big (I:aD X pins σ H s):om<s.heap.objs.size:=by
 exact Eb (by decide) ((I.mod.glob.keeps I.bk).lt)
def Tv {Q:T9} (J:A.units+1<cLine) (I:aD X pins σ H s) (g:nD H a y (some v)) (w:aK y u) (h: ∀j B,aD X pins σ H B->aK v j->Q j B):
   wpAny (model X.prog X.w) A (rG (.ref a) u) Q E s:=by
 rcases g with ⟨m,k,e,n,l⟩| ⟨m,k,b,e,n,L,l⟩
 . subst n;obtain ⟨z,hd,O,c,dd⟩:=D9 I.a7 e;obtain ⟨j,hw,i⟩:=fO.some_of (by rw [l];exact c.val k);exact wpAny_getItem_of (D8 w) dd.mapOf hw (h j _ (I.tok _) i)
 . subst n;cases (w);obtain ⟨z,hd,U,c,dd⟩:=Ea I.a7 e;obtain ⟨j,hw,i⟩:=fO.some_of (by rw [l];exact c.val k);obtain ⟨p,N,q⟩:=vN.mp hw;refine wpAny_getItem_heap (tupleKind_room_in1 J) (Wv I.a7 L) dd N ?_;rw [q];exact h j _ (I.tok _) i
def Tw {Q:T9} (p:A.units+1<cLine) (I:aD X pins σ H s) (g:nD H a y o) (m:aK y u) (h: ∀n,aD X pins σ H n->Q (.bool (!o.isSome)) n):
   wpAny (model X.prog X.w) A (iD .NotIn u (.ref a)) Q E s:=by
 rcases g with ⟨i,k,e,j,l⟩| ⟨i,k,b,e,j,w,l⟩
 . subst j;obtain ⟨z,hd,B,c,dd⟩:=D9 I.a7 e;refine wpAny_notIn_of (D8 m) hd dd.mapOf ?_;rw [<-(c.val k).ij,<-l];exact h _ (I.tok _)
 . subst j;cases (m);obtain ⟨z,hd,J,c,dd⟩:=Ea I.a7 e;refine wpAny_notIn_heap (tupleKind_room_in1 p) (Wv I.a7 w) hd dd ?_;have q:=(c.val k).ij;rw [Gu] at q;rw [<-q,<-l];exact h _ (I.tok _)
def Vf {c:Heap} {e:Nat} {ob:HO} (I:aD X pins σ H s) (g:qp (H a)) (h:rA a s.heap c) (i: ∃q,c.get? a=some q) (new:a9 X.prog X.w (aU H a ob) c a ob):
  aD X pins σ (aU H a ob) {s with heap:=c,toks:=e}:=
 I.write g (.inl rfl) (λb q j z=>(h.2 b j).trans z) i new
def T1 {P:bQ} {w:World} {i:Hp} {h:Heap} {c:List (aS×V)} {e:List (aS×Value)} (z:c.length<=aV) (hd:(a==om)=false) (g:KV c e) (dd:h.DictOf (j4 P w) a e):
 a9 P w i h a (.dK c):=⟨z,hd,e,g,dd⟩
def Vt {L:Hp} {Q:Unit->aH->Prop} (hu:A.units+1<cLine) (I:aD X pins σ H s) (g:nE H a y v L) (N:aK y u) (O:aK v r) (h: ∀U,aD X pins σ L U->Q () U):
   wpAny (model X.prog X.w) A (setItem (.ref a) u r) Q E s:=by
 rcases g with ⟨i,k,e,p,l,w⟩| ⟨i,k,b,e,p,Y,l,w⟩
 . subst p w;obtain ⟨z,hd,vs,j,dd⟩:=MN I.a7 e;have hz:vs.length<=aV:=by rw [<-j.length];exact z
   have B:(putK i k v).length<=aV:=by have:=ZA i k v;omega
   refine wpAny_setItem_pairs (D8 N) dd λZ m J=>h _ ?_
   have he: ∃q,Z.get? a=some q:=let ⟨q,_,_,n,_⟩:=m;⟨q,n⟩
   exact Vf I (by rw [e];exact qu) J he (T1 B hd (j.put k O) m)
 . subst p w;cases (N);obtain ⟨z,hd,xs,j,dd⟩:=Tu I.a7 e;have hz:xs.length<=aV:=by rw [<-Bd j];exact z
   have B:(putK i k v).length<=aV:=by have:=ZA i k v;omega
   refine wpAny_setItem_heap (tupleKind_room_in1 hu) (Wv I.a7 Y) dd λZ m J=>h _ ?_
   obtain ⟨q,es,ep,n,h2,h3,h4,_,h5⟩:=m;refine Vf I (by rw [e];exact qu) J ⟨q,n⟩ ⟨B,hd,_,(j.put k Y O).keeps λc ys ec=>?_,q,es,ep,n,h2,h3,h4,h5⟩;rw [jR (RI ec e (λz=>nomatch z))];exact ec
end
def Gv (i:Expr):Prop:= ∀a c,subscripted i false a c=operate [a,c] (rG a c)
def Vu {a:bQ} {w:World} {A:cf} {E:T9} {s:aH} {m:Env} {value c:Expr} {u:Pos} {T id:String} {Q:T9}
  (v:typeLookup (.type T) "__getitem__" =pure (some (.builtin id))) (y:Gv c)
  (h:wpAny (model a w) A (eval value m) (λo j=>wpAny (model a w) A (eval c m) (λi e=>e.TypeIs o T/\wpAny (model a w) A (rG o i) Q E e) E j) E s):
  wpAny (model a w) A (eval (.Subscript value c u) m) Q E s:=by
 refine Subscript_ (nq h (λo j p=>nq p (λi e g=>?_) λ_ _ x=>x) λ_ _ x=>x);obtain ⟨z,g⟩:=g;refine ay ?_;refine ay (wpAny_specialOf z v ?_)
 have n:wpAny (model a w) A (subscripted c false o i) (λr l=>wpAny (model a w) A (letTemporaryGo value o r>>=λ_=>pure r) Q E l) E e:=by
  rw [y o i];exact wpAny_operating (nq g (λr l q=>ay (wpAny_letTemporaryGo (aR q))) λ_ _ x=>x)
 first
  |exact aR (ay n)
  |exact ay (aR (ay n))
  |exact ay n
def Ve {X:Cx} {c:List (Addr×Obj)} {i:St} {H:Hp} {s:aH} {a:Addr} {y:V} {o:Option V} (I:aD X c i H s) (g:nD H a y o):s.TypeIs (.ref a) "dict" :=by
 rcases g with ⟨h,k,e,_,_⟩| ⟨h,k,b,e,_,_,_⟩
 . obtain ⟨_,_,j,_,dd⟩:=D9 I.a7 e;exact dd.typeIs
 . obtain ⟨_,_,l,_,dd⟩:=Ea I.a7 e;exact dd.typeIs
def Wf (g h i:TE):TS:=λD c H=>i c H λv j=>g c j λx H2=>h c H2 λy l=> ∃a e,x= .ref a/\nE l a y v e/\D.nx c e
section
variable {X:Cx} {o i e value:Expr} {pos q Ge:Pos} {td ty tv:TE}
def uL (m:X.A.units+1<cLine) (n:PE X o td) (p:PE X i ty) (w:PE X value tv) (z:lK value (some (.Subscript o i q)) pos.line X.env=pure false):
  PS X (.Assign [.Subscript o i q] value pos) (Wf td ty tv):=by
 intro c s j H D I h;refine wpAny_Assign_Subscript (bv (w c s j H _ I h) λr B ⟨v,E,J,L,N⟩=>bv (n c B j E _ J N) λu O ⟨x,H2,Q,U,Y⟩=>bv (p c O j H2 _ Q Y) λiv s3 l=>?_) z;obtain ⟨y,H3,Z,ry,a,H4,ex,g,q3⟩:=l;subst ex;obtain rfl:u=cK a:=U;exact Vt m Z g ry L λs4 I4=>⟨j,H4,I4,q3⟩
end
def Wh {P:bQ} {w:World} {H:Hp} (h:Heap) (a:om<h.objs.size):a9 P w H (h.push {cls:= .type "dict",data:= .dict #[]}) h.objs.size (.dK []):=
 ⟨i5 _,beq_eq_false_iff_ne.mpr (lD (dH a)),[],.nil,Heap.DictOf.new h⟩
def XS {P:bQ} {w:World} {H:Hp} (h:Heap) (a:om<h.objs.size):a9 P w H (h.push {cls:= .type "dict",data:= .dict #[]}) h.objs.size (.dT []):=
 ⟨i5 _,beq_eq_false_iff_ne.mpr (lD (dH a)),[],.nil,_, #[],0,gp _ rfl,⟨rfl,rfl,rfl⟩,rfl,rfl,Cf⟩
def XT:TE:=λ_ H Q=> ∀p,H p=none->Q (.ref p) (aU H p (.dK []))
def ZM:TE:=λ_ H Q=> ∀p,H p=none->Q (.ref p) (aU H p (.dT []))
section
variable {X:Cx} {z:Pos}
def ZN:PE X (.Dict [] [] z) XT:=λa s c H Q I h=>
 wpAny_Dict_empty ⟨.ref s.heap.objs.size,_,I.laid (λ_ _ q=>dc _ q) (bf _) (Wh s.heap I.big),rfl,h _ (I.a7.fresh (bf _))⟩
def Z6:PE X (.Dict [] [] z) ZM:=λa s c H Q I h=>
 wpAny_Dict_empty ⟨.ref s.heap.objs.size,_,I.laid (λ_ _ q=>dc _ q) (bf _) (XS s.heap I.big),rfl,h _ (I.a7.fresh (bf _))⟩
end
structure M1 (X:Cx) (o:Expr) (m:Str) (apos:Pos) (e:Expr) (jL:Pos):Prop where
 ae:mz o m X.env (eval o X.env)=eval o X.env
 sK:((gz jL (bB [e] X.env)).all (λx=>!x.1)&&(n6 jL (n8 [] X.env)).all (λx=>x.1.isSome)
  &&decide (([e]:List Expr).length+([]:List l9).length+(if ([]:List l9).isEmpty then 0 else 1)<30))=true
 line:(apos.endLine==jL.line)=true
 trees:gz jL (bB [e] X.env)=[(false,eval e X.env)]
structure M2 (X:Cx) (o:Expr) (m:Str) (apos:Pos) (e f:Expr) (jL:Pos):Prop where
 ae:mz o m X.env (eval o X.env)=eval o X.env
 sK:((gz jL (bB [e,f] X.env)).all (λx=>!x.1)&&(n6 jL (n8 [] X.env)).all (λx=>x.1.isSome)
  &&decide (([e,f]:List Expr).length+([]:List l9).length+(if ([]:List l9).isEmpty then 0 else 1)<30))=true
 line:(apos.endLine==jL.line)=true
 trees:gz jL (bB [e,f] X.env)=[(false,eval e X.env),(false,eval f X.env)]
end L2
namespace Att
open PySem PySem.W PySem.Calls PyProof.Rows
def ZF {P:Params} {h:Heap}: ∀(c:List Int) (e:List Value),WellAll P h e (c.map WData.int)->IntsAre e c:=by
 intro c
 induction c with
 |nil=>
  intro e w;cases w;exact .nil
 |cons n c g=>
  intro e w
  cases w with
  |cons a b=>
   cases a;exact .cons _ _ (g _ b)
def uq {l:Cg} {n:Nat} (w:l.most=some n) {P:Params} {h:Heap} {args:List WData} {c:List Value}
  (e:l.row.toRowW.claim.pre args=true) (o:WellAll P h c args):
  ∃a v g,c=[cK a]/\args=[WData.list (g.map WData.int)]/\h.get? a=some {cls:= .type "list",data:= .seq v.toArray}/\IntsAre v g/\g.length<=n:=by
 have p:=(pre_splitW e).1;have y:l.pre.holds [] {args:=args}=true:=(pre_splitW e).2;obtain ⟨d,r,rfl,z,B⟩:=hasAllW_cons p;obtain rfl:=hasAllW_nil B;obtain ⟨L,rfl,E⟩:=hasW_list z;obtain ⟨g,rfl⟩:=items_int E
 have i:g.length<=n:=by
  have m:(WTm.not (.lt (.lit (.int n)) (.len (.arg 0)))).holds [] {args:=[.list (g.map .int)]}=true:=by
   have m:=(holds_andW y).1;rw [w] at m;exact m
  have u:=condW_of m (w_not (w_lt w_lit (w_len_list (w_arg rfl))));refine Ec λq=>?_
  first
   | (rw [decide_eq_true N] at u;exact absurd u (by decide))
   | (simp at u;omega)
 cases o with
 |cons H I=>
  cases I
  cases H with
  |list J j=>exact ⟨_,_,g,rfl,rfl,J,ZF g _ j,i⟩
def uQ (l:Cg) (args:List WData):l.row.toRowW.claim.post args (.bool true) args=true:=
 postW_of
  (by first|rfl|decide|simp [WShape.has,WShape.arms,WShape.armsAll])
  (w_eq_bool (w_res rfl) w_lit) rfl
end Att
namespace L2
open PySem PySem.Spec PyProof.Rows
theorem XV: ∀ {a:List Value} {c:List Int},IntsAre a c->aI (c.map V.int) a
 |_,_,.nil=> .nil
 |_,_,.cons n t h=> .cons ⟨t,rfl⟩ (XV h)
def An (H:Hp):Prop:= ∀b,H b=none\/ ∃o a,H b=some (.dn o (.ah a))
def Z7 {P:bQ} {w:World} {K:aG} {Z mb:X7} {CX:qE} {k:Nat} {fa a:Addr} {fd:pk} {x:Str} {sp:Sp} {c:aH} {E:List Value} {I:List Int}
  (KX:K.In c.heap) (J:c.heap.Ns bt Z) (i:c.heap.Ns builtinsNs mb) (Gw: ∀x:Str,x≠ "__name__" ->mb x=n4 x) (L:c.heap.NoLimit) (hg:c.gens= #[])
  (ha:c.heap.get? a=some {cls:= .type "list",data:= .seq E.toArray}) (hi:IntsAre E I) (hl:I.length<=aV) (hr:aO k callerA)
  (F: ∀j:Heap,K.In j->j.Ns bt Z->cZ P w K Z j CX k fa fd [x] sp) (B: ∀(s:aH) (u:Value),BindsTo s fd ⟨[u],[]⟩ [(x,u)])
  (hsp: ∀H:Hp,An H->gR K H a (I.map V.int)->sp [.ref a] H (λv _=>v= .bl true) λ_ _ _=>False)
  (hCX: ∀H e l,CX [] H c (λ_ _ _=>False) e l->False):
  oR (model P w) callerA (.call (.ref fa) ⟨[.ref a],[]⟩) (λr l=>r= .ok (.ret (.bool true))/\OldK c.heap l.heap/\l.os=c.os/\sE l.gens) c:=by
 have rv:=XV hi;have N:=hi.length
 have y: ∀H:Hp,An H->gR K H a (I.map V.int)->eY P w H c.heap->(∀b,H b≠none->b=a)->(H a≠none->K.lookup a=none)->
    oR (model P w) callerA (.call (.ref fa) ⟨[.ref a],[]⟩) (λr l=>r= .ok (.ret (.bool true))/\OldK c.heap l.heap/\l.os=c.os/\sE l.gens) c:=by
  intro H hO hS O hA hK;have g: ∀ {b:Addr} {o:Obj},c.heap.get? b=some o->H b=none->(nw c.heap H).get? b=some o:=λe n=>RL e n
  have oS: ∀ {b:Addr} {o:Obj} {es:Array DictEntry} {ep:Nat},c.heap.get? b=some o->o.data= .dict es ep->H b=none:=λ{b o es ep} e d=>by
    cases q:H b with
    |none=>rfl
    |some u=>
      have e':=hA b (by rw [q];simp);subst e';rw [ha] at e;cases e;have d':=d;cases d'
  have p: ∀ {b:Addr} {m:X7},c.heap.Ns b m->(nw c.heap H).Ns b m:=λ{b m} ⟨o,es,ep,e,d,r⟩=>⟨o,es,ep,g e (oS e d),d,r⟩
  have Q:K.In (nw c.heap H):=λb o e=>g (KX b o e) (by
    cases q:H b with
    |none=>rfl
    |some u=>
      have e':=hA b (by rw [q];simp);subst e'
      rw [hK (by rw [q];simp)] at e;cases e)
  have hM:Mod K Z (nw c.heap H):=⟨Q,p J,⟨mb,p i,Gw⟩,let ⟨mc,h1,h2⟩:=L;⟨mc,p h1,h2⟩⟩
  refine tf ((F _ Q (p J)).run callerA [] c H ⟨[.ref a],[]⟩ [.ref a] [.ref a] _ _ hr (⟨rfl,hM,λb o e=>RM e,Nat.le_of_eq (RK _ _),trivial,λb i=>absurd (show b∈([]:List Addr) from i) (by simp),O,.of_eq hg⟩) (B c (.ref a)) (.cons rfl .nil) (hsp H hO hS)) λr l h=>?_
  cases r with
  |error e=>exact (hCX H e l h).elim
  |ok fl=>
    cases fl with
    |next=>exact l7 h
    |brk=>exact l7 h
    |cont=>exact l7 h
    |ret u=>
      obtain ⟨v,H',os,bare,un,U,r',q⟩:=h;have q':=q;subst q';obtain rfl:u=t7 true:=r';refine ⟨rfl,OldK.of_keep λb o e=>?_,os,bare⟩
      cases q:H b with
      |none=>exact un.keep b o e q (by intro z;exact absurd (show b∈([]:List Addr) from z) (by simp)) (by simp)
      |some u=>
       rcases hO b with z| ⟨ob,xs,z⟩
       . rw [q] at z;cases z
       . have z2:=un.gU b ob _ z;obtain ⟨e1,_⟩:=O b _ z;obtain ⟨e2,_⟩:=U b _ z2;rw [e] at e1;cases e1;exact e2
 cases hk:K.lookup a with
 |some o=>
  have e:=KX a o hk;rw [ha] at e;cases e;refine y (λ_=>none) (λ_=> .inl rfl) (.inr ⟨_,E.toArray,_,hk,rfl,rfl,rfl,by rw [dq,N];exact hl,by simpa using rv⟩) (λb u z=>by have Y:none=some u:=z;cases Y) (λb z=>absurd rfl z) λz=>absurd rfl z
 |none=>
  refine y (λb=>if b=a then some (.dn {cls:= .type "list",data:= .seq E.toArray} (.ah (I.map V.int))) else none) (λb=>?_) (.inl (.inr ⟨{cls:= .type "list",data:= .seq E.toArray},if_pos rfl⟩)) (λb u z=>?_) (λb z=>?_) λ_=>hk
  . by_cases i:b=a
    . exact .inr ⟨_,_,if_pos i⟩
    . exact .inl (if_neg i)
  . by_cases i:b=a
    . have Y:=(if_pos i).symm.trans z;cases Y;subst i;exact ⟨ha,by rw [cg];exact hl,E,_,rv,ha⟩
    . have Y:=(if_neg i).symm.trans z;cases Y
  . by_cases i:b=a
    . exact i
    . exact absurd (if_neg i) z
end L2
/-THE afL Ed (shape;LID,My.*are MO):
 My.Adr:a structure of the addresses afM afN MQ names (classes,Bs);My.Txt K t:a structure (Prop) of the equations over K;
 My.Ao:{K} {implicit addresses ..} (e1:nsIn K bt "law" =some (some (.ref f))) (e2:K.lookup f=some ⟨oc,od,.func (fnOf "law" "law" params body scope dV kV doc pm an pw ct),sl⟩) (e3:Ad K pw "law" =true) .. : ∃t,My.Txt K t
set_option maxRecDepth 100000 in
set_option maxHeartbeats 0 in
theorem PySem.Challenge.tx:PySem.Challenge.Ap.Holds:=by
 w_on;o_law;k_head;(case hw=>w_witness2)
 k_fill
 refine L2.Ee (l:=PySem.Challenge.Ap) (n:=63) (k:=40) (x:= "script") (CX:=λw=> ..) (sp:=λ_=>i.Gx) rfl (by decide) rfl ⟨rfl,by decide,by decide⟩ (λw h Y=>PySem.W.kIn_of Y) ?F ?S ?C
 case F=>
  intro w mg B h z G m
  have T: ∃t,i.Txt (L2.KOf z) t:=by
   dsimp only [L2.KOf]                          --K a4 o J «<heap const>w.params» for k_is;refine' i.Ao ?e1 ?e2 ?e3 ..
   (case e1=>PySem.W.k_is)                    --in e order:a name->g c->g j->g p
   (case e2=>PySem.W.k_is)
   ..
  obtain ⟨t,T⟩:=T;have E:=m.symm.trans (gS z G T.law);cases E                                       --B L e q aw c;exact ⟨_,λs u=> .of_eq rfl,λae r nb=>i.Aq T r nb⟩     --if «.of_eq rfl» v I y:refine' ⟨_,?b,λae r nb=>i.Aq T r nb⟩;exact λs u=> .of_eq rfl
 case S=>exact λw H a ns hl N O=> ..
 case C=>exact ..
(e tactic k_is has no namespace:write k_is)-/
namespace L2
open PySem PySem.Spec PyProof.Rows
def zr (s:Stmt) (j:Nat):Stmt:=match s with
 | .ClassDef _ _ _ a _ _ _ _ _ _ _=>a.getD j (.Pass ⟨0,0,0,0⟩)
 |_=> .Pass ⟨0,0,0,0⟩
def xj (s:Stmt):Arguments:=match s with
 | .FunctionDef _ a _ _ _ _ _ _ _ _=>a
 |_=> {posonlyargs:=[],args:=[],vararg:=none,kwonlyargs:=[],kw_defaults:=[],kwarg:=none,defaults:=[]}
def qe (s:Stmt):List Stmt:=match s with
 | .FunctionDef _ _ b _ _ _ _ _ _ _=>b
 |_=>[]
def jg (s:Stmt):Scope:=match s with
 | .FunctionDef _ _ _ _ _ _ a _ _ _=>a
 |_=> {kind:= .function,names:=[],isGenerator:=false,isCoroutine:=false}
abbrev lM:qE:=λ_ _ _ _ _ _=>False
abbrev E0:XK:=λ_ _ _=>False
def uX {X:Cx}:JW lM X E0:=λ_ _ _ _ _ _ _ h=>h.elim
structure nF (K:aG) (x qual:Str) (st:Stmt) (f:Addr) (fd:pk):Prop where
 ex: ∃(oc:Value) (od:Option Addr) (kV doc pm:Value) (an:Option Addr) (pw ct:Value) (B6:Array (Option Value)),
  fd=qI x qual (xj st) (qe st) (jg st) .none kV doc pm an pw ct/\K.lookup f=some ⟨oc,od,.func fd,B6⟩/\Ad K pw qual=true
 kp:l8 K (.ref f)=true
section
variable {P:bQ} {w:World} {K:aG} {mg:X7} {ae:Heap}
def nF.ok {x a:Str} {st:Stmt} {f:Addr} {m:pk} {N ps:List Str} {k:Nat} {i:Sp} (F:nF K x a st f m) (S:aq N ps (jg st)) (len: ∀e H Q E,i e H Q E->e.length=ps.length)
  (g: ∀(c:Value) (A:cf) (outer:List Env) (s:aH) (H:Hp) (e:List V) (Q:VK) (E:XK),aO k (A.deeper (lE a (jg st) s.heap.objs.size f c))->i e H Q E->
   ∃t,gn (b8 lM P w K mg ae N a (jg st) f c A outer s H E).pc (qe st) t/\t {nx:=λ_ n=>Q .aW n,rt:=Q} (start N e) H):cZ P w K mg ae lM (k+1) f m ps i:=by
 obtain ⟨r,u,kV,o,v,y,c,ct,p,rfl,lk,j⟩:=F.ex;refine Gj lk j S len λA outer s H e Q E hr l=>?_
 obtain ⟨t,h,q⟩:=g c A outer s H e Q E hr l;exact ⟨t,h.pc,q⟩
def nF.binds {x a:Str} {st:Stmt} {f:Addr} {l:pk} {ps:List Str} (F:nF K x a st f l)
  (h: ∀(kV c g:Value) (i:Option Addr) (e ct:Value) (j:List Value),j.length=ps.length->bindArgs (qI x a (xj st) (qe st) (jg st) .none kV c g i e ct) ⟨j,[]⟩=pure (ps.zip j)):Binds K l ps []:=by
 obtain ⟨o,p,kV,c,g,i,e,ct,m,rfl,lk,n⟩:=F.ex;exact .all (h kV c g i e ct)
def MR {x a:Str} {st:Stmt} {f:Addr} {n:Value} {o i:Option Addr} {h:Array (Option Value)} {kV g j e m:Value} (l:K.lookup f=some ⟨n,o,.func (qI x a (xj st) (qe st) (jg st) .none kV g j i e m),h⟩)
 (c:Ad K e a=true) (k:l8 K (.ref f)=true):nF K x a st f (qI x a (xj st) (qe st) (jg st) .none kV g j i e m):=⟨⟨n,o,kV,g,j,i,e,m,h,rfl,l,c⟩,k⟩
end
def Ch {A:cf} {k:Nat} (a:aO k A):A.units+1<cLine:=Gy (Nat.add_le_add_left (by decide) _) a.units
def al (H a:Hp):Prop:= ∀b o,H b=some o->a b=some o
def al.refl (H:Hp):al H H:=λ_ _ h=>h
def al.trans {H e H2:Hp} (a:al H e) (b:al e H2):al H H2:=λc o h=>b c o (a c o h)
def al.free {H a:Hp} (e:al H a) {l:Addr} (h:a l=Option.none):H l=Option.none:=by
 cases q:H l with
 |none=>rfl
 |some o=>
  rw [e l o q] at h;cases h
end L2
set_option autoImplicit true
set_option relaxedAutoImplicit true
namespace L2
open PySem PySem.Spec PyProof.Rows
section
variable {X:Cx} {Z:List (Addr×Obj)} {Y:St} {H:Hp} {s:aH} {E:T9}
def QH {i:Nat} {g:Pos} (I:aD X Z Y H s) (hN:X.N[i]?=some x) (o:iM X.env.scope x) (e:Y[i]?=some (some v)) (h: ∀u,aK v u->Q u s)
   (hd:Z8 x:=by decide) (j:X8 x:=by decide):wpAny (model X.prog X.w) X.A (eval (.Name x g) X.env) Q E s:=by
 obtain ⟨m,p,q⟩:=I.loc;obtain ⟨u,r,l⟩:=q i x v hN e o;rcases l with ⟨hk,w⟩| ⟨hk,c,n,a⟩
 . exact Bg (FG I.ok.kind hk p w (h u r)) hd
 . rcases hk with hk|hk
   . exact Bg (FH I.ok.kind hk n a (h u r)) hd
   . exact Bg (wpAny_loadName_free I.ok.kind hk n a (h u r) j) hd
def Xt {i:Nat} {j:Pos} (I:aD X Z Y H s) (hN:X.N[i]?=some x) (q:iM X.env.scope x) (e:Y[i]?=some (some (.ref a)))
  (w:H a=some (.ins C dx fs)) (c:fG X.K C) (n:eH X.K C f) (l:fs.lookup f=some v) (y:mz (.Name x p) f X.env (eval (.Name x p) X.env)=eval (.Name x p) X.env) (h: ∀u,aK v u->Q u {s with toks:=s.toks+1})
  (hd:Z8 x:=by decide) (m:X8 x:=by decide):wpAny (model X.prog X.w) X.A (eval (.Attribute (.Name x p) f j) X.env) Q E s:=by
 refine MF y (QH I hN q e (λu g=>?_) hd m);cases g;obtain ⟨z,O,r,_,_,_⟩:=ZI I.a7 w;obtain ⟨u,B,g⟩:=fO.some_of (v:=v) (o:=z f) (by rw [<-l];exact r f);exact ME I.fQ O (c.get f) c.hd n B (YM g) (h u g)
def jjI (ok:eY X.prog X.w H s.heap) (k:M.NK): ∀v u,ff H k v->aK v u->M.NK.at s.heap k u:=by
 induction k using M.NK.ind with
 |h1 i=>intro v u x r;simp only [ff] at x;subst x;exact M.cW.mpr r
 |h2 z=>intro v u x r;simp only [ff] at x;subst x;exact M.cX.mpr r
 |h3 l g=>
  intro v u x r;simp only [ff] at x;obtain ⟨b,c,rfl,j,y⟩:=x;cases r;obtain ⟨_,a,m,p⟩:=(show a9 X.prog X.w H s.heap b (.ap c) from ok b _ j)
  refine M.cY.mpr ⟨b,a.toArray,rfl,p,?_⟩
  have go: ∀(l:List M.NK) (c:List V) (a:List Value),(∀k∈l,∀v u,ff H k v->aK v u->M.NK.at s.heap k u)->fP H l c->aI c a->M.NK.oi s.heap l a:=by
   intro l
   induction l with
   |nil=>
    intro c a _ h r;simp only [fP] at h;subst h;cases r;exact M.gm.mpr rfl
   |cons k l e=>
    intro c a f h r;simp only [fP] at h;obtain ⟨u,B,rfl,h1,h2⟩:=h
    cases r with
    |cons n o=>exact M.df.mpr ⟨_,_,rfl,f k ez _ _ h1 n,e _ _ (λq w=>f q (dZ _ w)) h2 o⟩
  simpa using go l c a g y m
def Ui (ok:eY X.prog X.w H s.heap) (x:ff H k (.ref c)) (hd:k.cp<=8):(M.i8 X.prog X.w).is s.heap k c:=⟨jjI ok k _ _ x rfl,hd⟩
structure oU (X:Cx) (H:Hp) (h:Heap) (b:Addr) (B:List M.NK) (Φ:M.NK->Option M.NK->Prop) (xs:List (M.NK×Addr×Value)):Prop where
 len:B.length<aV
 sys:(b==om)=false
 all: ∀x∈xs,x.1∈B/\ff H x.1 (.ref x.2.1)/\x.1.cp<=8/\ ∃v nv,aK v x.2.2/\n3 H nv v/\Φ x.1 nv
 dict:h.DictOfH (M.i8 X.prog X.w) b xs
def MS (ok:eY X.prog X.w H s.heap) (g:H b=some (.memo B c)): ∃a,oU X H s.heap b B c a:=by
 obtain ⟨z,y,a,r,o,h,i,j,l,m,n,p⟩:=(show a9 X.prog X.w H s.heap b (.memo B c) from ok b _ g)
 exact ⟨a,z,y,r,o,h,i,j,l,m,n,λx e=>Ui ok (r x e).2.1 (r x e).2.2.1,p⟩
def oU.sK (m:oU X H h b B p c):c.length<=B.length:=by
 obtain ⟨o,r,u,v,w,h3,y,z,nd⟩:=m.dict
 have go: ∀(l B:List M.NK),l.Nodup->(∀k∈l,k∈B)->l.length<=B.length:=by
  intro l
  induction l with
  |nil=>intro B _ _;exact i5 _
  |cons k l j=>
   intro B nd g;have a:=ti.mp nd;have hk:=g k ez;have:=j (B.erase k) a.2 λq i=>(Gz λe=>a.1 (by rw [<-e];exact i)).mpr (g q (dZ _ i))
   rw [GA hk] at this;have I:0<B.length:=GB hk;rw [fb];omega
 have:=go (c.map (·.1)) B nd λk hk=>by
  obtain ⟨x,n,rfl⟩:=c4.mp hk;exact (m.all x n).1
 rwa [cg] at this
def Ef (X:Cx) (H:Hp) (h:Heap) (b:Addr) (B:List M.NK) (c:M.NK->Option M.NK->Prop) (k:M.NK):Prop:= ∃a p,oU X H h b B c a/\atKey a k=some p
def MT {K:Type} [DecidableEq K] {a:List (K×Addr×Value)} {k:K} {p:Addr×Value} (h:atKey a k=some p):(k,p)∈a:=by
 unfold atKey at h;rw [vN] at h;obtain ⟨q,c,rfl⟩:=h;have e:=List.mem_of_find?_eq_some c;have g:=List.find?_some c;have:q.1=k:=by simpa using g
 rw [<-this];exact e
def jcb {K:Type} [DecidableEq K] {xs:List (K×Addr×Value)} {k:K} {a:Addr} {v:Value}: ∃p,atKey (qJ xs k a v) k=some p:=by
 have:((qJ xs k a v).find? λx=>decide (x.1=k)).isSome=true:=by
  rw [List.find?_isSome];unfold qJ
  split
  . rename_i h;obtain ⟨p,c⟩:=Bl.mp h;exact ⟨_,c4.mpr ⟨_,MT c,rfl⟩,by simp [putAt]⟩
  . exact ⟨(k,a,v),by simp,by simp⟩
 obtain ⟨p,c⟩:=Bl.mp this;exact ⟨p.2,by unfold atKey;rw [c];rfl⟩
def kr {K:Type} [DecidableEq K] {c:List (K×Addr×Value)} {k:K} {a:Addr} {v:Value} {x:K×Addr×Value} (h:x∈qJ c k a v):x∈c\/x=(k,a,v)\/ ∃y∈c,y.1=k/\x=(k,y.2.1,v):=by
 unfold qJ at h
 split at h
 . obtain ⟨y,g,rfl⟩:=c4.mp h;unfold putAt
   split
   . rename_i e;exact .inr (.inr ⟨y,g,e,by rw [e]⟩)
   . exact .inl g
 . rcases i3.mp h with h|h
   . exact .inl h
   . exact .inr (.inl (by simpa using h))
variable {A:cf} {b c:Addr} {B:List M.NK} {Φ:M.NK->Option M.NK->Prop} {k:M.NK}
def Ku (a:A.units+9<cLine):(M.i8 X.prog X.w).room A.in1:=by
 show A.in1.units+8<cLine;have:A.in1.units=A.units+1:=rfl;omega
def Vw (h:H b=some o):aU H b o=H:=by
 funext x
 by_cases e:x=b
 . subst e;rw [jy];exact h.symm
 . rw [jR e]
def jfX {Q:Unit->aH->Prop} {v:V} {g:Option M.NK} (hu:A.units+9<cLine) (I:aD X Z Y H s) (l:H b=some (.memo B Φ)) (o:ff H k (.ref c)) (hd:k.cp<=8) (u:k∈B) (w:n3 H g v) (i:Φ k g) (J:aK v r)
  (h: ∀n,aD X Z Y H n->Ef X H n.heap b B Φ k->Q () n):wpAny (model X.prog X.w) A (setItem (.ref b) (.ref c) r) Q E s:=by
 obtain ⟨L,m⟩:=MS I.a7 l;refine wpAny_setItem_heap (hsz:=dw m.sK (BM m.len)) (Ku hu) (Ui I.a7 o hd) m.dict λh' j hs=>?_
 have all: ∀x∈qJ L k c r,x.1∈B/\ff H x.1 (.ref x.2.1)/\x.1.cp<=8/\ ∃v g,aK v x.2.2/\n3 H g v/\Φ x.1 g:=by
  intro x hx;rcases kr hx with z|rfl| ⟨y,hy,e,rfl⟩
  . exact m.all x z
  . exact ⟨u,o,hd,v,g,J,w,i⟩
  . obtain ⟨_,N,_⟩:=m.all y hy;rw [e] at N;exact ⟨u,N,hd,v,g,J,w,i⟩
 obtain ⟨p,hp⟩:=jcb (xs:=L) (k:=k) (a:=c) (v:=r);have dd:=j;obtain ⟨q,es,ep,O,h2,h3,h4,_,h5⟩:=j
 have U:aD X Z Y (aU H b (.memo B Φ)) {s with heap:=h',toks:=s.toks+(M.i8 X.prog X.w).draws k}:=by
  refine Vf I (by rw [l];exact qu) hs ⟨q,O⟩ ⟨m.len,m.sys,_,?_,q,es,ep,O,h2,h3,h4,h5⟩;rw [Vw l];exact all
 rw [Vw l] at U;exact h _ U ⟨_,p,⟨m.len,m.sys,all,dd⟩,hp⟩
def jfY {Q:T9} (j:A.units+9<cLine) (I:aD X Z Y H s) (l:ff H k (.ref c)) (hd:k.cp<=8) (n:Ef X H s.heap b B Φ k)
  (h: ∀a e,aD X Z Y H e->(∃v g,aK v a/\n3 H g v/\Φ k g)->Q a e):wpAny (model X.prog X.w) A (rG (.ref b) (.ref c)) Q E s:=by
 obtain ⟨o,p,m,i⟩:=n;exact wpAny_getItem_heap (Ku j) (Ui I.a7 l hd) m.dict i (h _ _ (I.tok _) (m.all _ (MT i)).2.2.2)
def jay (i:A.units+9<cLine) (I:aD X Z Y H s) (j:H b=some (.memo B Φ)) (l:ff H k (.ref c)) (hd:k.cp<=8)
  (h: ∀a y,aD X Z Y H a->(y=false->Ef X H a.heap b B Φ k)->Q (.bool y) a):wpAny (model X.prog X.w) A (iD .NotIn (.ref c) (.ref b)) Q E s:=by
 obtain ⟨g,m⟩:=MS I.a7 j;refine wpAny_notIn_heap (Ku i) (Ui I.a7 l hd) m.sys m.dict (h _ _ (I.tok _) λe=>?_);obtain ⟨p,n⟩:=Bl.mp (by simpa using e:(atKey g k).isSome=true);exact ⟨g,p,m,n⟩
def jjn (K:aG) (i j:Nat) (f:Str) (l:TE):TS:=λD Y H=> ∃(a C dx b c:Addr) (fs:List (Str×V)) (k:M.NK) (B:List M.NK) (Φ:M.NK->Option M.NK->Prop),Y[i]?=some (some (.ref a))/\H a=some (.ins C dx fs)/\fG K C/\eH K C f/\fs.lookup f=some (.ref b)/\
 H b=some (.memo B Φ)/\Y[j]?=some (some (.ref c))/\ff H k (.ref c)/\k.cp<=8/\k∈B/\(∀e v,Φ k e->n3 H e v->D.rt v H)/\l Y H λv g=>al H g/\(∃e,n3 g e v/\Φ k e)/\ ∀e h,Φ k e->n3 g e h->D.rt h g
def jcB (hu:X.A.units+9<cLine) (he:PE X e te) (o:X.N[i]?=some x) (q:iM X.env.scope x) (w:X.N[j]?=some y) (J:iM X.env.scope y)
  (GC:mz (.Name x p2) f X.env (eval (.Name x p2) X.env)=eval (.Name x p2) X.env) (Ci:mz (.Name x p6) f X.env (eval (.Name x p6) X.env)=eval (.Name x p6) X.env) (GD:mz (.Name x q1) f X.env (eval (.Name x q1) X.env)=eval (.Name x q1) X.env)
  (hm:u2 .NotIn (.Attribute (.Name x p2) f p3)=false) (hs:lK e (some (.Subscript (.Attribute (.Name x p6) f p7) (.Name y p8) p9)) p5.line X.env=pure false)
  (hd:Z8 x) (L:X8 x) (N:Z8 y) (g:X8 y):
  gn X [.If (.Compare (.Name y p1) [.NotIn] [.Attribute (.Name x p2) f p3] p4) [.Assign [.Subscript (.Attribute (.Name x p6) f p7) (.Name y p8) p9] e p5] [] q6,.Return (some (.Subscript (.Attribute (.Name x q1) f q2) (.Name y q3) q4)) q5] (jjn X.K i j f te):=by
 rintro Z s Y H D I ⟨a,C,dx,b,c,fs,k,B,Φ,ei,ha,hC,hn,hl,hb,ej,hk,O,hB,hit,h⟩
 have fin: ∀(n:Hp) (Q:aH),al H n->aD X Z Y n Q->Ef X n Q.heap b B Φ k->(∀nv v',Φ k nv->n3 n nv v'->D.rt v' n)->wpAny (model X.prog X.w) X.A (execs [.Return (some (.Subscript (.Attribute (.Name x q1) f q2) (.Name y q3) q4)) q5] X.env) (SP X Z D) X.xe Q:=by
  intro n Q U I1 hh rt;refine BN (wpAny_Return_some (Vu (T:= "dict") PySem.F.slot_dict_getitem.lookup (λ_ _=>rfl) (Xt I1 o q ei (U _ _ ha) hC hn hl GD (λu l=>?_) hd L)));cases l;refine QH (I1.tok _) w J ej (λu l=>?_) N g;cases l;have hk1:=ff.mono (λc ys=>U c _) k _ hk;obtain ⟨xs,p,m,hp⟩:=hh;refine ⟨m.dict.typeIs,jfY hu (I1.tok _) hk1 O (b:=b) (B:=B) (Φ:=Φ) ⟨xs,p,m,hp⟩ λw' s' I' ⟨v,nv,r1,r2,r3⟩=>⟨v,Y,n,I',r1,rt nv v r3 r2⟩⟩
 refine BN (wpAny_If (wpAny_isTrue_Compare1 (QH I w J ej (λu l=>?_) N g) hm));cases l;refine Xt I o q ei ha hC hn hl GC (λu l=>?_) hd L;cases l;refine jay hu (I.tok _) hb hk O λQ z I1 hz=>rB ?_
 cases z with
 |false=>exact y6 (fin H Q (λ_ _ e=>e) I1 (hz rfl) hit)
 |true=>
  refine BN (wpAny_Assign_Subscript (bv (he Z Q Y H _ I1 h) λr s2 ⟨v,n,I2,rv,U,⟨nv,hv,hΦ⟩,rt⟩=>Xt I2 o q ei (U _ _ ha) hC hn hl Ci (λu l=>?_) hd L) hs);cases l;refine QH (I2.tok _) w J ej (λu l=>?_) N g;cases l;exact jfX hu (I2.tok _) (U _ _ hb) (ff.mono (λc ys=>U c _) k _ hk) O hB hv hΦ rv λs3 I3 hh=>y6 (fin n s3 U I3 hh rt)
end
end L2
namespace M
open PySem PySem.Spec L2
open PyProof.Rows hiding St
def jT {a:Scope} {x:Str} (h:(match a.names.lookup x with|some .local=>true|some .cell=>true|some .free=>true|_=>false)=true):iM a x:=by
 unfold iM
 cases e:a.names.lookup x with
 |none=>rw [e] at h;cases h
 |some k=>rw [e] at h;cases k<;>simp at h ⊢
def ot {a:Scope} {x:Str} (h:(match a.names.lookup x with|some .local=>true|some .cell=>true|_=>false)=true):L2.Loc a x:=by
 unfold L2.Loc
 cases e:a.names.lookup x with
 |none=>rw [e] at h;cases h
 |some k=>rw [e] at h;cases k<;>simp at h ⊢
inductive D where
 |aW|bl (b:Bool)|int (i:Int)|str (x:Str)
 |ap (ds:List D)|ah (ds:List D)|eN (ds:List D)|dr (ks:List aS) (vs:List D)|cJ (ks:List (List aS)) (vs:List D)|fL (c:Str)|ng (ks:List aS) (vs:List D)|ni (ks:List aS) (vs:List D)|obj (c:Str) (ns:List Str) (vs:List D)|mem (B:List NK) (Φ:NK->Option NK->Prop)|fE (ds:List D)
mutual
noncomputable def D.oV:D->Bool
 | .aW=>true
 | .bl _=>true
 | .int _=>true
 | .str _=>true
 | .ap ds=>D.iQ ds
 | .ah _=>false
 | .eN _=>false
 | .dr _ _=>false
 | .cJ _ _=>false
 | .fL _=>true
 | .ng _ _=>false
 | .ni _ _=>false
 | .obj _ _ _=>false
 | .mem _ _=>false
 | .fE _=>false
noncomputable def D.iQ:List D->Bool
 | []=>true
 |d::ds=>D.oV d&&D.iQ ds
end
inductive aj (α:Type) where
 |ok (a:α)
 |exc (c:Str)
 |ai
noncomputable def aj.bind {e g:Type} (r:aj e) (f:e->aj g):aj g:=
 match r with
 | .ok a=>f a
 | .exc c=> .exc c
 | .ai=> .ai
instance:Monad aj where
 pure:=aj.ok
 bind:=aj.bind
def Qo {c e:Type} {a:c} {f:c->aj e}:(aj.ok a>>=f)=f a:=rfl
def jd {e g:Type} {r:aj e} {f:e->aj g} {b:g} (h:(r>>=f)= .ok b): ∃a,r= .ok a/\f a= .ok b:=by
 cases r with
 |ok a=>exact ⟨a,rfl,h⟩
 |exc c=>cases h
 |ai=>cases h
noncomputable def a4 {a:Type} (c:Prop) [Decidable c] (r:aj a):aj a:=if c then r else .ai
def jv {g:Type} {c:Prop} [Decidable c] {r:aj g} {a:g} (h:a4 c r= .ok a):c/\r= .ok a:=by
 unfold a4 at h
 by_cases e:c
 . rw [if_pos e] at h;exact ⟨e,h⟩
 . rw [if_neg e] at h;cases h
def jl {a:Type} {c:Prop} [Decidable c] {r:aj a} (h:c):a4 c r=r:=if_pos h
def rJ (K:aG) (H:Hp) (a:Addr) (e:List V):Prop:=
 (∃o,H a=some (.dn o (.ah e)))\/
  ∃(o:Obj) (c:Array Value) (n:Nat),K.lookup a=some o/\o.cls= .type "list" /\o.dict=none/\o.data= .seq c n/\c.size<=aV/\aI e c.toList
def rJ.sL {K:aG} (h:rJ K H a c):gR K H a c:=by
 rcases h with h|h
 . exact .inl (.inr h)
 . exact .inr h
def py:D->List D
 | .ap ds=>ds
 |_=>[]
mutual
inductive aL (K:aG):(Addr->Prop)->Hp->V->D->Prop where
 |aW {A H}:aL K A H .aW .aW
 |bl {A H} (b:Bool):aL K A H (.bl b) (.bl b)
 |int {A H} (i:Int):aL K A H (.int i) (.int i)
 |str {A H} (x:Str):x.length<=aV->aL K A H (.str x) (.str x)
 |ap {A H} {a:Addr} {xs:List V} {ds:List D}:H a=some (.ap xs)->am K A H xs ds->aL K A H (.ref a) (.ap ds)
 |ah {A H} {a:Addr} {xs:List V} {ds:List D}:H a=some (.ah xs)->A a->am K (λc=>A c/\c≠a) H xs ds->aL K A H (.ref a) (.ah ds)
 |GF {A H} {a:Addr} {xs:List V} {ds:List D}:rJ K H a xs->am K A H xs ds->aL K A H (.ref a) (.eN ds)
 |dr {A H} {a:Addr} {kvs:List (aS×V)} {vs:List V} {ks:List aS} {ds:List D}:H a=some (.dK kvs)->A a->kvs.map (·.1)=ks->kvs.map (·.2)=vs->am K (λc=>A c/\c≠a) H vs ds->aL K A H (.ref a) (.dr ks ds)
 |cJ {A H} {a:Addr} {kvs:List ((List aS)×V)} {vs:List V} {ks:List (List aS)} {ds:List D}:H a=some (.dT kvs)->A a->kvs.map (·.1)=ks->kvs.map (·.2)=vs->am K (λc=>A c/\c≠a) H vs ds->aL K A H (.ref a) (.cJ ks ds)
 |fL {A H} {a b C:Addr} {o:Obj} {c:Str}:H a=some (.dn o (.aw b))->o.cls= .ref C->bL K bt c=some (some (.ref C))->aL K A H (.ref a) (.fL c)
 |ng {A H} {a:Addr} {kvs:List (aS×V)} {vs:List V} {ks:List aS} {ds:List D}:((H a=some (.dK kvs)/\A a)\/ ∃o,H a=some (.dn o (.dK kvs)))->kvs.map (·.1)=ks->kvs.map (·.2)=vs->am K (λc=>A c/\c≠a) H vs ds->aL K A H (.ref a) (.ng ks ds)
 |ni {A H} {a:Addr} {kvs:List (aS×V)} {vs:List V} {ks:List aS} {ds:List D}:(∃o,H a=some (.dn o (.dK kvs)))->kvs.map (·.1)=ks->kvs.map (·.2)=vs->am K (λc=>A c/\c≠a) H vs ds->aL K A H (.ref a) (.ni ks ds)
 |obj {A H} {a C dx:Addr} {fs:List (Str×V)} {vs:List V} {c:Str} {ns:List Str} {ds:List D}:H a=some (.ins C dx fs)->A a->(bL K bt c=some (some (.ref C))/\fs.map (·.1)=ns)->fs.map (·.2)=vs->am K (λc=>A c/\c≠a) H vs ds->aL K A H (.ref a) (.obj c ns ds)
 |mem {A H} {a:Addr} {B:List NK} {Φ:NK->Option NK->Prop}:H a=some (.memo B Φ)->A a->aL K A H (.ref a) (.mem B Φ)
 |fE {A H} {a:Addr} {rs:List (Addr×List V)} {ds es:List D}:H a=some (.fE rs)->A a->rs.map (λr=>r.2.length)=ds.map (λd=>(py d).length)->ds.flatMap py=es->am K (λc=>A c/\c≠a) H (rs.flatMap (·.2)) es->aL K A H (.ref a) (.fE ds)
inductive am (K:aG):(Addr->Prop)->Hp->List V->List D->Prop where
 |nil {A H}:am K A H [] []
 |cons {A H} {v:V} {d:D} {vs:List V} {ds:List D}:aL K A H v d->am K A H vs ds->am K A H (v::vs) (d::ds)
end
def iS (A:VC) (H c:Hp):Prop:= ∀a o,H a=some o->(qp (some o)->A a)->c a=some o
def iS.mono (h:iS A H c) (w: ∀a,B a->A a):iS B H c:=λa o e m=>h a o e λz=>w a (m z)
section
variable {K:aG}
def rJ.bq (h:rJ K H a c) (st:iS A H Q):rJ K Q a c:=by
 rcases h with ⟨o,e⟩|h
 . exact .inl ⟨o,st a _ e (λz=>z.elim)⟩
 . exact .inr h
def am.bq (r:am K A H c ds):iS A H Q->(∀a,A a->I a)->am K I Q c ds:=by
 refine am.rec (motive_1:=λA H v d _=> ∀B:Addr->Prop,iS A H Q->(∀a,A a->B a)->aL K B Q v d) (λ_ _ _=> .aW) (λb _ _ _=> .bl b) (λi _ _ _=> .int i) (λx h _ _ _=> .str x h) (λe _ r _ s w=> .ap (s _ _ e λz=>z.elim) (r _ s w)) (λe a _ r _ s w=> .ah (s _ _ e λ_=>a) (w _ a) (r _ ?_ ?_)) (λe _ r _ s w=> .GF (e.bq s) (r _ s w)) (λe a k l _ r _ s w=> .dr (s _ _ e λ_=>a) (w _ a) k l (r _ ?_ ?_)) (λe a k l _ r _ s w=> .cJ (s _ _ e λ_=>a) (w _ a) k l (r _ ?_ ?_)) (λe k l _ s w=> .fL (s _ _ e λz=>z.elim) k l) (λe k l _ r _ s w=> .ng (e.elim (λz=> .inl ⟨s _ _ z.1 λ_=>z.2,w _ z.2⟩) (λz=>z.elim λ_ z=> .inr ⟨_,s _ _ z λz=>z.elim⟩)) k l (r _ ?_ ?_)) (λe k l _ r _ s w=> .ni (e.elim λ_ z=>⟨_,s _ _ z λz=>z.elim⟩) k l (r _ ?_ ?_)) (λe a k l _ r _ s w=> .obj (s _ _ e λ_=>a) (w _ a) k l (r _ ?_ ?_)) (λe a _ s w=> .mem (s _ _ e λ_=>a) (w _ a)) (λe a k l _ r _ s w=> .fE (s _ _ e λ_=>a) (w _ a) k l (r _ ?_ ?_)) (λ_ _ _=> .nil) (λ_ _ h t _ s w=> .cons (h _ s w) (t _ s w)) r I
 any_goals exact s.mono λ_ z=>z.1
 all_goals exact λ_ z=>⟨w _ z.1,z.2⟩
def aL.bq (r:aL K A H v d) (s:iS A H Q) (w: ∀a,A a->I a):aL K I Q v d:=by
 cases am.bq (.cons r .nil) s w;assumption
def al.bq (h:al H Q):iS A H Q:=λa o e _=>h a o e
variable {A I:VC} {H Q:Hp}
def aL.ao (r:aL K A H v d) (h:al H Q):aL K A Q v d:=r.bq (al.bq h) λ_ z=>z
def am.ao (r:am K A H v d) (h:al H Q):am K A Q v d:=r.bq (al.bq h) λ_ z=>z
def aL.aQ (r:aL K A H v d) (w: ∀a,A a->I a):aL K I H v d:=r.bq (λ_ _ e _=>e) w
def am.aQ (r:am K A H v d) (w: ∀a,A a->I a):am K I H v d:=r.bq (λ_ _ e _=>e) w
def am.oV (r:am K A H a ds):D.iQ ds=true->am K I H a ds:=by
 refine am.rec (motive_1:=λ_ H v d _=>d.oV=true->aL K I H v d) (λ_=> .aW) (λb _=> .bl b) (λi _=> .int i) (λx h _=> .str x h) (λe _ r i=> .ap e (r i)) ?_ ?_ ?_ ?_ (λe k l _=> .fL e k l) ?_ ?_ ?_ ?_ ?_ (λ_=> .nil) (λ_ _ h t i=>?_) r
 case refine_10=>simp only [D.iQ,eX] at i;exact .cons (h i.1) (t i.2)
 all_goals intros;rename_i i;cases i
def aL.oV (r:aL K A H v d) (i:d.oV=true):aL K I H v d:=by
 cases am.oV (.cons r .nil) (by simp [D.iQ,i]);assumption
def am.dJ (r:am K A H (v::c) ds): ∃d a,ds=d::a/\aL K A H v d/\am K A H c a:=by
 cases r with
 |cons r t=>exact ⟨_,_,rfl,r,t⟩
def am.jU (r:am K A H c (d::ds)): ∃v a,c=v::a/\aL K A H v d/\am K A H a ds:=by
 cases r with
 |cons r t=>exact ⟨_,_,rfl,r,t⟩
def am.Ar (r:am K A H a []):a=[]:=by cases r;rfl
def am.g7 (r:am K A H [] ds):ds=[]:=by cases r;rfl
def am.length (r:am K A H vs ds):vs.length=ds.length:=by
 induction vs generalizing ds with
 |nil=>cases r.g7;rfl
 |cons v vs a=>
  obtain ⟨_,_,rfl,_,t⟩:=r.dJ;simp [a t]
def am.get {i:Nat} (r:am K A H vs ds) (e:ds[i]?=some d): ∃v,vs[i]?=some v/\aL K A H v d:=by
 induction vs generalizing ds i with
 |nil=>cases r.g7;simp at e
 |cons v vs a=>
  obtain ⟨_,_,rfl,r,t⟩:=r.dJ
  cases i with
  |zero=>simp at e;subst e;exact ⟨_,rfl,r⟩
  |succ i=>simpa using a t (by simpa using e)
def am.get' {i:Nat} (r:am K A H a ds) (e:a[i]?=some v): ∃d,ds[i]?=some d/\aL K A H v d:=by
 induction a generalizing ds i with
 |nil=>simp at e
 |cons v a c=>
  obtain ⟨_,_,rfl,r,t⟩:=r.dJ
  cases i with
  |zero=>simp at e;subst e;exact ⟨_,rfl,r⟩
  |succ i=>simpa using c t (by simpa using e)
def am.append (r:am K A H a ds) (s:am K A H c e):am K A H (a++c) (ds++e):=by
 induction a generalizing ds with
 |nil=>cases r.g7;exact s
 |cons v a g=>
  obtain ⟨_,_,rfl,r,t⟩:=r.dJ;exact .cons r (g t)
def am.take (n:Nat) (r:am K A H a ds):am K A H (a.take n) (ds.take n):=by
 induction a generalizing ds n with
 |nil=>cases r.g7;simpa using .nil
 |cons v a c=>
  obtain ⟨_,_,rfl,r,t⟩:=r.dJ
  cases n with
  |zero=>exact .nil
  |succ n=>exact .cons r (c n t)
def am.drop (n:Nat) (r:am K A H a ds):am K A H (a.drop n) (ds.drop n):=by
 induction a generalizing ds n with
 |nil=>cases r.g7;simpa using .nil
 |cons v a c=>
  cases n with
  |zero=>exact r
  |succ n=>
   obtain ⟨_,_,rfl,r,t⟩:=r.dJ;exact c n t
def am.isEmpty (r:am K A H a ds):ds.isEmpty=a.isEmpty:=by cases r<;>rfl
def lN (K:aG) (A:VC) (H:Hp) (v:V):D->Prop
 | .aW=>v= .aW
 | .bl b=>v= .bl b
 | .int i=>v= .int i
 | .str x=>v= .str x/\x.length<=aV
 | .ap ds=> ∃a g,v= .ref a/\H a=some (.ap g)/\am K A H g ds
 | .ah ds=> ∃a g,v= .ref a/\H a=some (.ah g)/\A a/\am K (λc=>A c/\c≠a) H g ds
 | .eN ds=> ∃a g,v= .ref a/\rJ K H a g/\am K A H g ds
 | .dr ks ds=> ∃a e,v= .ref a/\H a=some (.dK e)/\A a/\e.map (·.1)=ks/\am K (λc=>A c/\c≠a) H (e.map (·.2)) ds
 | .cJ ks ds=> ∃a e,v= .ref a/\H a=some (.dT e)/\A a/\e.map (·.1)=ks/\am K (λc=>A c/\c≠a) H (e.map (·.2)) ds
 | .fL c=> ∃a b C o,v= .ref a/\H a=some (.dn o (.aw b))/\o.cls= .ref C/\bL K bt c=some (some (.ref C))
 | .ng ks ds=> ∃a e,v= .ref a/\((H a=some (.dK e)/\A a)\/ ∃o,H a=some (.dn o (.dK e)))/\e.map (·.1)=ks/\am K (λc=>A c/\c≠a) H (e.map (·.2)) ds
 | .ni ks ds=> ∃a e,v= .ref a/\(∃o,H a=some (.dn o (.dK e)))/\e.map (·.1)=ks/\am K (λc=>A c/\c≠a) H (e.map (·.2)) ds
 | .obj c j ds=> ∃a C dx fs,v= .ref a/\H a=some (.ins C dx fs)/\A a/\bL K bt c=some (some (.ref C))/\fs.map (·.1)=j/\am K (λc=>A c/\c≠a) H (fs.map (·.2)) ds
 | .mem B l=> ∃a,v= .ref a/\H a=some (.memo B l)/\A a
 | .fE ds=> ∃a h,v= .ref a/\H a=some (.fE h)/\A a/\h.map (λr=>r.2.length)=ds.map (λd=>(py d).length)/\am K (λc=>A c/\c≠a) H (h.flatMap (·.2)) (ds.flatMap py)
def aL.f (r:aL K A H v d):lN K A H v d:=by
 refine aL.casesOn (motive_1:=λA H v d _=>lN K A H v d) r rfl (λ_=>rfl) (λ_=>rfl) (λ_ h=>⟨rfl,h⟩) (λe r=>⟨_,_,rfl,e,r⟩) (λe h r=>⟨_,_,rfl,e,h,r⟩) (λe r=>⟨_,_,rfl,e,r⟩) (λe h k l r=>⟨_,_,rfl,e,h,k,l▸r⟩) (λe h k l r=>⟨_,_,rfl,e,h,k,l▸r⟩) (λe k l=>⟨_,_,_,_,rfl,e,k,l⟩) (λe k l r=>⟨_,_,rfl,e,k,l▸r⟩) (λe k l r=>⟨_,_,rfl,e,k,l▸r⟩) (λe h k l r=>⟨_,_,_,_,rfl,e,h,k.1,k.2,l▸r⟩) (λe h=>⟨_,rfl,e,h⟩) λe h k l r=>⟨_,_,rfl,e,h,k,l▸r⟩
def aL.fU (r:aL K A H v (.ah ds)): ∃a e,v= .ref a/\H a=some (.ah e)/\A a/\am K (λc=>A c/\c≠a) H e ds:=r.f
def aL.rK (r:aL K A H v (.eN ds)): ∃a c,v= .ref a/\rJ K H a c/\am K A H c ds:=r.f
def aL.ik (r:aL K A H v (.ap ds)): ∃a c,v= .ref a/\H a=some (.ap c)/\am K A H c ds:=r.f
def aL.eP (r:aL K A H v (.int i)):v= .int i:=r.f
def aL.tz (r:aL K A H v (.bl b)):v= .bl b:=r.f
def aL.iT (r:aL K A H v (.str x)):v= .str x/\x.length<=aV:=r.f
def aL.tD (r:aL K A H v .aW):v= .aW:=r.f
def am.low (r:am K (λc=>A c/\c≠a) H e ds):am K A H e ds:=r.aQ λ_ z=>z.1
def am.dL (r:am K A H g ds):am K (λc=>A c/\H c≠none) H g ds:=by
 refine am.rec .aW (λb=> .bl b) (λi=> .int i) (λx h=> .str x h) (λe _ r=> .ap e r) (λe a _ r=> .ah e ⟨a,?_⟩ ?_) (λe _ r=> .GF e r) (λe a k l _ r=> .dr e ⟨a,?_⟩ k l ?_) (λe a k l _ r=> .cJ e ⟨a,?_⟩ k l ?_) (λe k l=> .fL e k l) (λe k l _ r=> .ng (e.elim (λz=> .inl ⟨z.1,z.2,by simp [z.1]⟩) .inr) k l ?_) (λe k l _ r=> .ni e k l ?_) (λe a k l _ r=> .obj e ⟨a,?_⟩ k l ?_) (λe a=> .mem e ⟨a,by simp [e]⟩) (λe a k l _ r=> .fE e ⟨a,?_⟩ k l ?_) .nil (λ_ _ h t=> .cons h t) r
 any_goals exact r.aQ λ_ z=>⟨⟨z.1.1,z.2⟩,z.1.2⟩
 all_goals simp [e]
def aL.dL (r:aL K A H v d):aL K (λc=>A c/\H c≠none) H v d:=by
 cases am.dL (.cons r .nil);assumption
def al.aU (h:H p=none):al H (L2.aU H p o):=λb u e=>by rw [jR (jZ e h)];exact e
def am.laid (r:am K A H g ds) (a:H p=none):am K (λc=>A c/\c≠p) (L2.aU H p o) g ds:=
 (r.dL.ao (al.aU a)).aQ λc z=>⟨z.1,λe=>z.2 (by rw [e];exact a)⟩
end
inductive Slot where
 |un
 |aw (d:D)
 |aa (d:D)
abbrev Sl:=List Slot
def qr (c:Sl) (e:St) (a:Addr):Prop:= ∃(i:Nat) (d:D),c[i]?=some (.aw d)/\e[i]?=some (some (.ref a))
abbrev GH (c:Sl) (e:St):Addr->Prop:=λa=> ¬qr c e a
abbrev Sf (G:VC) (c:Sl) (e:St):Addr->Prop:=λa=> ¬qr c e a/\G a
inductive Top (K:aG) (A:VC) (H:Hp) (a:Addr):D->Prop where
 |ah {xs:List V} {ds:List D}:H a=some (.ah xs)->am K A H xs ds->Top K A H a (.ah ds)
 |dr {kvs:List (aS×V)} {vs:List V} {ks:List aS} {ds:List D}:H a=some (.dK kvs)->kvs.map (·.1)=ks->kvs.map (·.2)=vs->am K A H vs ds->Top K A H a (.dr ks ds)
 |cJ {kvs:List ((List aS)×V)} {vs:List V} {ks:List (List aS)} {ds:List D}:H a=some (.dT kvs)->kvs.map (·.1)=ks->kvs.map (·.2)=vs->am K A H vs ds->Top K A H a (.cJ ks ds)
 |obj {C dx:Addr} {fs:List (Str×V)} {vs:List V} {c:Str} {ns:List Str} {ds:List D}:H a=some (.ins C dx fs)->(bL K bt c=some (some (.ref C))/\fs.map (·.1)=ns)->fs.map (·.2)=vs->am K A H vs ds->Top K A H a (.obj c ns ds)
 |fE {rs:List (Addr×List V)} {ds es:List D}:H a=some (.fE rs)->rs.map (λr=>r.2.length)=ds.map (λd=>(py d).length)->ds.flatMap py=es->am K A H (rs.flatMap (·.2)) es->Top K A H a (.fE ds)
def Top.rep {K:aG} (t:Top K A H a d) (w: ∀b,A b->i b/\b≠a) (h:i a):aL K i H (.ref a) d:=by
 cases t with
 |ah e r=>exact .ah e h (r.aQ w)
 |dr e c g r=>exact .dr e h c g (r.aQ w)
 |cJ e c g r=>exact .cJ e h c g (r.aQ w)
 |obj e c g r=>exact .obj e h c g (r.aQ w)
 |fE e c g r=>exact .fE e h c g (r.aQ w)
def Top.bq {K:aG} (t:Top K A H a d) (st:iS A H i) (w: ∀b,A b->j b) (h: ∀o,H a=some o->i a=some o):Top K j i a d:=by
 cases t with
 |ah e r=>exact .ah (h _ e) (r.bq st w)
 |dr e c g r=>exact .dr (h _ e) c g (r.bq st w)
 |cJ e c g r=>exact .cJ (h _ e) c g (r.bq st w)
 |obj e c g r=>exact .obj (h _ e) c g (r.bq st w)
 |fE e c g r=>exact .fE (h _ e) c g (r.bq st w)
def Top.there {K:aG} (t:Top K A H a d): ∃o,H a=some o/\qp (some o):=by
 cases t with
 |ah e r=>exact ⟨_,e,trivial⟩
 |dr e _ _ r=>exact ⟨_,e,trivial⟩
 |cJ e _ _ r=>exact ⟨_,e,trivial⟩
 |obj e _ _ r=>exact ⟨_,e,trivial⟩
 |fE e _ _ r=>exact ⟨_,e,trivial⟩
structure aB (K:aG) (G:VC) (H0:Hp) (env:Sl) (σ:St) (H:Hp):Prop where
 len:σ.length=env.length
 ae:al H0 H
 g0: ∀a,H0 a=none->G a
 aa: ∀(i:Nat) (d:D),env[i]?=some (.aa d)-> ∃v,σ[i]?=some (some v)/\aL K (Sf G env σ) H v d
 aw: ∀(i:Nat) (d:D),env[i]?=some (.aw d)-> ∃a,σ[i]?=some (some (.ref a))/\H0 a=none/\Top K (Sf G env σ) H a d
 sM: ∀(i j:Nat) (d e:D) (a:Addr),env[i]?=some (.aw d)->env[j]?=some (.aw e)->σ[i]?=some (some (.ref a))->σ[j]?=some (some (.ref a))->i=j
section
variable {K:aG} {G:VC} {H0 H H':Hp} {env:Sl} {w:St}
def aB.ao (e:aB K G H0 env w H) (h:al H H'):aB K G H0 env w H' where
 len:=e.len
 ae:=e.ae.trans h
 g0:=e.g0
 aa:=λi d z=>let ⟨v,c,g⟩:=e.aa i d z;⟨v,c,g.ao h⟩
 aw:=λi d z=>let ⟨a,c,g,h3⟩:=e.aw i d z;⟨a,c,g,h3.bq (al.bq h) (λ_ z=>z) (λo q=>h _ o q)⟩
 sM:=e.sM
def aB.there (e:aB K G H0 env w H) (o:qr env w a): ∃u,H a=some u:=by
 obtain ⟨i,d,c,g⟩:=o;obtain ⟨b,h3,_,h⟩:=e.aw i d c;rw [g] at h3;cases h3;obtain ⟨u,j,_⟩:=h.there;exact ⟨u,j⟩
def aB.rL (k:aB K G H0 env w H) {a:Addr} (o:qr env w a) {u:HO} (e:H a=some u):qp (some u):=by
 obtain ⟨i,d,g,h⟩:=o;obtain ⟨b,h3,_,j⟩:=k.aw i d g;rw [h] at h3;cases h3;obtain ⟨l,c,m⟩:=j.there;rw [e] at c;cases c;exact m
def aB.new (k:aB K G H0 env w H): ∀a,H a=none->Sf G env w a:=λa z=>⟨λo=>(by
 obtain ⟨u,q⟩:=k.there o
 rw [z] at q;cases q),k.g0 a (al.free k.ae z)⟩
end
inductive Lv where
 |b|s|t
abbrev Any:Addr->Prop:=λ_=>True
def Lv.A (l:Lv) (G:VC) (env:Sl) (a:St):Addr->Prop:=
 match l with
 | .b=>Any
 | .s=>Sf G env a
 | .t=>Sf G env a
def br (H:Hp) (v:V):Prop:= ∀a,v= .ref a-> ∀o,H a=some o-> ¬qp (some o)
def Lv.T (l:Lv) (H:Hp) (v:V):Prop:=
 match l with
 | .t=>br H v
 |_=>True
def br.ao (h:al H c) (n:br c v):br H v:=λa e o q=>n a e o (h a o q)
def Lv.nG {l:Lv} (h:al H a) (n:l.T a v):l.T H v:=by
 cases l with
 |t=>exact br.ao h n
 |b=>trivial
 |s=>trivial
def tE (K:aG) (l:Lv) (f:Sl->aj D):TE:=λe H Q=> ∃G g a d,aB K G g a e H/\f a= .ok d/\ ∀v c,al H c->aL K (l.A G a e) c v d->l.T H v->Q v c
def tT (K:aG) (f:Sl->aj Bool):TT:=λe H Q=> ∃G g a b,aB K G g a e H/\f a= .ok b/\ ∀c,al H c->Q b c
def tA (K:aG) (l:Lv) (f:Sl->aj (List D)):TA:=λe H Q=> ∃G h a ds,aB K G h a e H/\f a= .ok ds/\ ∀g c,al H c->am K (l.A G a e) c g ds->Q g c
@[irreducible] def DE (X:Cx) (l:Lv) (e:Expr) (f:Sl->aj D):Prop:=PE X e (tE X.K l f)
@[irreducible] def DT (X:Cx) (e:Expr) (f:Sl->aj Bool):Prop:=PT X e (tT X.K f)
@[irreducible] def DA (X:Cx) (l:Lv) (a:List Expr) (f:Sl->aj (List D)):Prop:=PA X a (tA X.K l f)
inductive ba where
 |nx (env:Sl)|rt (fr:Bool) (d:D)|bk (env:Sl)|ct (env:Sl)
abbrev TF:=Sl->aj D
abbrev TD:=Sl->aj Bool
abbrev TC:=Sl->aj ba
abbrev TB:=Sl->aj (List D)
abbrev Tz:=List D->aj D
abbrev Tx:=D->Sl->aj Sl
structure bK (env:Sl) (σ:St) (H:Hp) (env':Sl) (pz:St) (H':Hp):Prop where
 keep: ∀b o,H b=some o-> ¬qr env σ b->H' b=some o
 more: ∀b,qr env' pz b->qr env σ b\/H b=none
 size: ∀b,H' b=none->H b=none
def pA (K:aG) (G:VC) (h:Hp) (g:Sl) (i:St) (H:Hp) (E:Ends) (o:ba):Prop:=
 match o with
 | .nx a=> ∀c e,aB K G h a c e->bK g i H a c e->E.nx c e
 | .bk a=> ∀c e,aB K G h a c e->bK g i H a c e->E.bk c e
 | .ct a=> ∀c e,aB K G h a c e->bK g i H a c e->E.ct c e
 | .rt j d=> ∀v e,al h e->aL K G e v d->(j=true->br h v)->E.rt v e
def tS (K:aG) (g:TC):TS:=λE c H=> ∃G e a o,aB K G e a c H/\g a= .ok o/\pA K G e a c H E o
@[irreducible] def DS (X:Cx) (st:Stmt) (g:TC):Prop:=PS X st (tS X.K g)
@[irreducible] def ma (X:Cx) (st:List Stmt) (g:TC):Prop:=gn X st (tS X.K g)
section
variable {X:Cx} {e:Expr} {es:List Expr} {st:Stmt} {m:List Stmt}
def PE.imp (h:PE X e t) (w: ∀a H Q,g a H Q->t a H Q):PE X e g:=λc s a H Q I q=>h c s a H Q I (w a H Q q)
def PT.imp (h:PT X e t) (w: ∀a H Q,g a H Q->t a H Q):PT X e g:=λc s a H Q I q=>h c s a H Q I (w a H Q q)
def PA.imp (h:PA X es t) (w: ∀a H Q,i a H Q->t a H Q):PA X es i:=λg c s a H Q I q=>h g c s a H Q I (w a H Q q)
def PS.imp (h:PS X st t) (w: ∀E a H,g E a H->t E a H):PS X st g:=λc s a H E I q=>h c s a H E I (w E a H q)
def gn.imp (h:gn X m t) (w: ∀E a H,g E a H->t E a H):gn X m g:=λc s a H E I q=>h c s a H E I (w E a H q)
end
def bK.refl (h:al H a):bK env c H env c a:=⟨λb o e _=>h b o e,λb o=> .inl o,λb e=>al.free h e⟩
def bK.trans (a:bK env l H g i m) (b:bK g i m h j H2):bK env l H h j H2 where
 keep:=λc o e n=>b.keep c o (a.keep c o e n) λz=>by
  rcases a.more c z with z|z
  . exact n z
  . rw [e] at z;cases z
 more:=λc o=>by
  rcases b.more c o with z|z
  . exact a.more c z
  . exact .inr (a.size c z)
 size:=λc e=>a.size c (b.size c e)
def bK.ao (h:al H e) (b:bK env g e a c i):bK env g H a c i:=(bK.refl h).trans b
section
variable {X:Cx} {e:Expr} {f:TF}
def Lv.bo {l:Lv}: ∀a,l.A G env c a->Any a:=λ_ _=>trivial
def DE.b (h:DE X l e f):DE X .b e f:=by
 with_unfolding_all exact (PE.imp h λi H Q ⟨G,a,env,d,k,c,q⟩=>⟨G,a,env,d,k,c,λv g s r _=>q v g s (r.aQ Lv.bo) trivial⟩)
def DE.s (h:DE X .t e f):DE X .s e f:=by
 with_unfolding_all exact (PE.imp h λi H Q ⟨G,a,env,d,k,c,q⟩=>⟨G,a,env,d,k,c,λv g s r _=>q v g s r trivial⟩)
def MU {K:aG} (s:al H c) (r:aL K A c v d) (i:d.oV=true):br H v:=λa e o q m=>by
 subst e;have r:=r.f;cases d<;>try cases i
 . cases r
 . cases r
 . cases r
 . cases r.1
 . obtain ⟨_,_,e1,e,_⟩:=r;cases e1;rw [s _ _ q] at e;cases e;exact m
 . obtain ⟨_,_,_,_,e1,e,_⟩:=r;cases e1;rw [s _ _ q] at e;cases e;exact m
end
def Xc:Expr->Bool
 | .Starred _ _=>false
 |_=>true
def jm (h:Xc e=true):bB (e::c) a=(false,eval e a)::bB c a:=by
 cases e<;>first|rfl|cases h
def Vy (h:a.all Xc=true):(bB a env).all (λx=>!x.1)=true:=by
 induction a with
 |nil=>rfl
 |cons e r c=>
  rw [vO,eX] at h;rw [jm h.1,vO,c h.2];rfl
def U7 (h:l.all (λx=>!x.1)=true):(gz pos l).all (λx=>!x.1)=true:=by
 induction l with
 |nil=>rfl
 |cons p r a=>
  obtain ⟨s,t⟩:=p;rw [vO,eX] at h;show ((!s)&&(gz pos r).all (λx=>!x.1))=true;rw [a h.2,Bool.and_true];exact h.1
def jH (h:e.all Xc=true):(gz a (bB e c)).any (·.1)=false:=by
 have:=U7 (pos:=a) (Vy (env:=c) h);rw [lI] at this;rw [F8];intro x g z;have q:=this x g;rw [z] at q;cases q
def xy (h:(e::g).all Xc=true) (i:decide ((e::g).length<30)=true):
  ((
   gz a (bB (e::g) c)).all (λx=>!x.1)&&(n6 a (n8 [] c)).all (λx=>x.1.isSome)
   &&decide ((e::g).length+([]:List l9).length+(if ([]:List l9).isEmpty then 0 else 1)<30))=true:=by
 have j:(n6 a (n8 [] c)).all (λx=>x.1.isSome)=true:=rfl;rw [U7 (Vy h),j];simpa using i
section
variable {X:Cx} {e a b c o:Expr} {O:List Expr} {Z:Pos} {l N L l':Lv} {f Y U J:TF}
def cI (i:Int):Sl->aj D:=λ_=> .ok (.int i)
def cB (b:Bool):Sl->aj D:=λ_=> .ok (.bl b)
def cN:Sl->aj D:=λ_=> .ok .aW
def cS (x:Str):Sl->aj D:=λ_=> .ok (.str x)
def ag (i:Nat):Sl->aj D:=λg=>match g[i]? with
 |some (.aa d)=> .ok d
 |_=> .ai
def i6 (i:Nat):Sl->aj D:=λg=>match g[i]? with
 |some (.aa d)=> .ok d
 |some (.aw d)=> .ok d
 |_=> .ai
def WX (h:ag i g= .ok d):g[i]?=some (.aa d):=by
 unfold ag at h
 split at h
 . cases h;assumption
 . cases h
def uD (h:i6 i g= .ok d):g[i]?=some (.aa d)\/g[i]?=some (.aw d):=by
 unfold i6 at h
 split at h
 . cases h;left;assumption
 . cases h;right;assumption
 . cases h
def Yq {K:aG} {i:Nat} {a:Addr} (k:aB K G n g h H) (j:g[i]?=some (.aw d)) (m:h[i]?=some (some (.ref a))): ∀c,Sf G g h c->c≠a:=λc z e=>z.1 (by rw [e];exact ⟨i,d,j,m⟩)
def dv (i:Nat) (hN:X.N[i]?=some x:=by rfl) (h:iM X.env.scope x:=by exact jT rfl) (hd:Z8 x:=by decide)
   (g:X8 x:=by decide):DE X .s (.Name x Z) (ag i):=by
 with_unfolding_all exact (
  PE.imp (xZ hN h hd g) λr H Q=>by
   rintro ⟨G,u,j,d,k,m,q⟩;obtain ⟨v,n,p⟩:=k.aa i d (WX m)
   exact ⟨v,n,q v H (al.refl H) p trivial⟩)
def db (i:Nat) {x:Str} (hN:X.N[i]?=some x:=by rfl) (m:iM X.env.scope x:=by exact jT rfl) (hd:Z8 x:=by decide)
   (h:X8 x:=by decide):DE X .b (.Name x Z) (i6 i):=by
 with_unfolding_all exact (
  PE.imp (xZ hN m hd h) λr H Q=>by
   rintro ⟨G,u,n,d,k,p,q⟩;rcases uD p with z|z
   . obtain ⟨v,g,j⟩:=k.aa i d z;exact ⟨v,g,q v H (al.refl H) (j.aQ λ_ _=>trivial) trivial⟩
   . obtain ⟨v,g,_,j⟩:=k.aw i d z
     exact ⟨_,g,q _ H (al.refl H) (j.rep (λc y=>⟨trivial,Yq k z g c y⟩) trivial) trivial⟩)
def Sc (K:aG) (v:V) (d:D):Prop:=(∀A H,aL K A H v d)/\ ∀a,v≠ .ref a
def Sc.T {K:aG} (h:Sc K v d):l.T H v:=by
 cases l with
 |t=>exact λa e=>absurd e (h.2 a)
 |b=>trivial
 |s=>trivial
def oW {K:aG} (i:Int):Sc K (.int i) (.int i):=⟨λ_ _=> .int i,λa e=>by cases e⟩
def jV {K:aG} (i:Bool):Sc K (.bl i) (.bl i):=⟨λ_ _=> .bl i,λa e=>by cases e⟩
def jkN {K:aG}:Sc K .aW .aW:=⟨λ_ _=> .aW,λa e=>by cases e⟩
def Eg {K:aG} (x:Str) (h:x.length<=aV):Sc K (.str x) (.str x):=⟨λ_ _=> .str x h,λa e=>by cases e⟩
def pC {v:V} {d:D} (h:PE X e (tC v)) (r:Sc X.K v d):DE X l e (λ_=> .ok d):=by
 with_unfolding_all exact (
  PE.imp h λj H Q=>by
   rintro ⟨G,m,g,n,k,i,q⟩;cases i
   exact q v H (al.refl H) (r.1 _ H) r.T)
def GI {j}:DE X l (.Constant (.int i) j Z) (cI i):=pC Mu (oW i)
def ya {j}:DE X l (.Constant (.bool i) j Z) (cB i):=pC RQ (jV i)
def qL {j}:DE X l (.Constant .none j Z) cN:=pC RR jkN
def yW {j} (h:x.length<=aV:=by decide):DE X l (.Constant (.str x) j Z) (cS x):=pC RS (Eg x h)
def MV (g:Gl X x) (h:X.mg x=some (.int i t)) (hd:Z8 x:=by decide):DE X l (.Name x Z) (cI i):=
 pC (Zg (v:= .int i) g h ⟨t,rfl⟩ hd) (oW i)
def jgM (g:Gl X x) (h:X.mg x=some (.str y t)) (i:y.length<=aV:=by decide) (hd:Z8 x:=by decide):DE X l (.Name x Z) (cS y):=
 pC (Zg (v:= .str y) g h ⟨t,rfl⟩ hd) (Eg y i)
def gJ (K:aG) (r:R2) (g:D->D->aj D):Prop:= ∀(x y:V) (H:Hp) (a b d:D) (Q:VK),aL K Any H x a->aL K Any H y b->g a b= .ok d->(∀v,Sc K v d->Q v H)->r x y H Q
def GJ (K:aG) (r:R2) (g:D->D->aj D):Prop:= ∀(A:VC) (x y:V) (H:Hp) (a b d:D) (Q:VK),aL K A H x a->aL K A H y b->g a b= .ok d->(∀v h,al H h->aL K (λc=>H c=none\/A c) h v d->br H v->Q v h)->r x y H Q
def ak (Y U:TF) (g:D->D->aj D):Sl->aj D:=λh=>Y h>>=λx=>U h>>=λy=>g x y
def GK {K:aG} (w:gJ K r g) (h:tE K l (ak Y U g) z H Q):Bh r (tE K N Y) (tE K L U) z H Q:=by
 obtain ⟨G,m,i,d,k,j,q⟩:=h;obtain ⟨a,e1,j⟩:=jd j;obtain ⟨b,e2,B⟩:=jd j;refine ⟨G,m,i,a,k,e1,λx H1 n E _=>⟨G,m,i,b,k.ao n,e2,λy H2 p I _=>?_⟩⟩;exact w x y H2 a b d Q ((E.ao p).aQ Lv.bo) (I.aQ Lv.bo) B λv u=>q v H2 (n.trans p) (u.1 _ _) u.T
def jjk {K:aG} (w:GJ K r g) (h:tE K .t (ak Y U g) B H Q):Bh r (tE K .s Y) (tE K .s U) B H Q:=by
 obtain ⟨G,n,i,d,k,j,q⟩:=h;obtain ⟨a,e1,j⟩:=jd j;obtain ⟨b,e2,E⟩:=jd j;refine ⟨G,n,i,a,k,e1,λx H1 p I _=>⟨G,n,i,b,k.ao p,e2,λy H2 u r2 _=>?_⟩⟩;have m:=p.trans u;exact w _ x y H2 a b d Q (I.ao u) r2 E λv H3 s3 r3 nt=>q v H3 (m.trans s3) (r3.aQ λc z=>z.elim (λz=>k.new c (al.free m z)) λz=>z) (nt.ao m)
def vB (i:dG X (my j) r) (m:gJ X.K r g) (n:DE X N a Y) (p:DE X L b U):DE X l (.BinOp a j b Z) (ak Y U g):=by
 with_unfolding_all exact (
  PE.imp (F3 i n p) λ_ _ _ h=>GK m h)
def wf (i:dG X (my j) r) (m:GJ X.K r g) (n:DE X .s a Y) (p:DE X .s b U):DE X .t (.BinOp a j b Z) (ak Y U g):=by
 with_unfolding_all exact (
  PE.imp (F3 i n p) λ_ _ _ h=>jjk m h)
def Qy (j:dG X (iD i) r) (m:gJ X.K r g) (n:DE X N a Y) (p:DE X L b U) (q:u2 i b=false:=by first|exact F6 _| (with_unfolding_all rfl)):DE X l (.Compare a [i] [b] Z) (ak Y U g):=by
 with_unfolding_all exact (
  PE.imp (uU j n p q) λ_ _ _ h=>GK m h)
def a5 (f:TF):Sl->aj Bool:=λg=>f g>>=λd=>match d with
 | .bl b=> .ok b
 |_=> .ai
def jg2 {b:Bool} (h:a5 f g= .ok b):f g= .ok (.bl b):=by
 obtain ⟨d,e1,e2⟩:=jd h
 cases d with
 |bl c=>cases e2;exact e1
 |_=>cases e2
def Ki {K:aG} (j: ∀g H Q,tE K l f g H Q->t g H Q) (h:tT K (a5 f) g H Q):F7 t g H Q:=by
 obtain ⟨G,m,i,b,k,n,q⟩:=h;refine j g H _ ⟨G,m,i,.bl b,k,jg2 n,λv p s r _=>⟨b,r.tz,q p s⟩⟩
def jW (j:dG X (iD i) r) (m:gJ X.K r g) (n:DE X N a Y) (p:DE X L b U) (q:u2 i b=false:=by first|exact F6 _| (with_unfolding_all rfl)):DT X (.Compare a [i] [b] Z) (a5 (ak Y U g)):=by
 with_unfolding_all exact (
  PT.imp (SH j n p q) λ_ _ _ h=>Ki (l:= .b) (λ_ _ _ h=>GK m h) h)
def ZW (Y U J:TF) (g i:D->D->aj D):Sl->aj D:=λh=>Y h>>=λx=>U h>>=λy=>g x y>>=λz=>match z with
 | .bl true=>J h>>=λw=>i y w
 | .bl false=> .ok (.bl false)
 |_=> .ai
def Vx {K:aG} (hr:gJ K r g) (u:gJ K r' g') (h:tE K l (ZW Y U J g g') σ H Q):ue r r' (tE K N Y) (tE K L U) (tE K l3 J) σ H Q:=by
 obtain ⟨G,B,i,d,k,j,q⟩:=h;obtain ⟨a,e1,j⟩:=jd j;obtain ⟨b,e2,j⟩:=jd j;obtain ⟨z,e3,E⟩:=jd j;refine ⟨G,B,i,a,k,e1,λx H1 m r1 _=>⟨G,B,i,b,k.ao m,e2,λy H2 n I _=>?_⟩⟩;refine hr x y H2 a b z _ ((r1.ao n).aQ Lv.bo) (I.aQ Lv.bo) e3 λv p=>?_
 cases z with
 |bl t=>
  refine ⟨t,(p.1 Any H2).tz,?_⟩
  cases t with
  |false=>
   cases E;rw [if_neg h8];exact q _ H2 (m.trans n) (.bl false) (jV (K:=K) false).T
  |true=>
   obtain ⟨w,e5,e6⟩:=jd E;rw [if_pos rfl];refine ⟨G,B,i,w,(k.ao m).ao n,e5,λy' H4 s4 r4 _=>?_⟩;refine u y y' H4 b w d Q ((I.ao s4).aQ Lv.bo) (r4.aQ Lv.bo) e6 λv p=>q v H4 (m.trans (n.trans s4)) (p.1 _ _) p.T
 |_=>cases E
def XD (p:dG X (iD n) r) (q:gJ X.K r g) (j:dG X (iD i) u) (m:gJ X.K u v) (w:DE X N a Y) (y:DE X L b U) (z:DE X E c J)
   (B:lastMarks [n,i] [b,c]=false:=by with_unfolding_all rfl):DE X l (.Compare a [n,i] [b,c] Z) (ZW Y U J g v):=by
 with_unfolding_all exact (
  PE.imp (SI p j w y z B) λ_ _ _ h=>Vx q m h)
def jdF (p:dG X (iD n) r) (q:gJ X.K r g) (j:dG X (iD i) u) (m:gJ X.K u v) (w:DE X N a Y) (y:DE X L b U) (z:DE X E c J)
   (B:lastMarks [n,i] [b,c]=false:=by with_unfolding_all rfl):DT X (.Compare a [n,i] [b,c] Z) (a5 (ZW Y U J g v)):=by
 with_unfolding_all exact (
  PT.imp (SJ p j w y z B) λ_ _ _ h=>Ki (l:= .b) (λ_ _ _ h=>Vx q m h) h)
def qx (h:DE X l e f) (g: ∀whole,isTrue e X.env whole=(do let v<-whole;sS e.pos;sF [v] (truthy v)):=by intro _;rfl):DT X e (a5 f):=by
 with_unfolding_all exact (
  PT.imp (RT h g) λ_ _ _ h=>Ki (λ_ _ _ h=>h) h)
def Eh:D->aj Bool
 | .aW=> .ok false
 | .bl b=> .ok b
 | .int i=> .ok (i !=0)
 | .str x=> .ok ((x.length:Int) !=0)
 | .ap ds=> .ok (!ds.isEmpty)
 | .ah ds=> .ok (!ds.isEmpty)
 | .eN ds=> .ok (!ds.isEmpty)
 | .dr _ _=> .ai
 | .cJ _ _=> .ai
 | .fL _=> .ai
 | .ng _ _=> .ai
 | .ni _ _=> .ai
 | .obj _ _ _=> .ai
 | .mem _ _=> .ai
 | .fE _=> .ai
def MW {K:aG} {b:Bool} (r:aL K A H v d) (h:Eh d= .ok b):sW K v H b:=by
 have r:=r.f;cases d<;>cases h
 . cases r;rfl
 . cases r;rfl
 . cases r;rfl
 . cases r.1;exact ⟨r.2,rfl⟩
 . obtain ⟨_,_,rfl,e,r⟩:=r;exact .inr (.inl ⟨_,.of e,by rw [r.isEmpty]⟩)
 . obtain ⟨_,_,rfl,e,_,r⟩:=r;exact .inl ⟨_,.of e,by rw [r.isEmpty]⟩
 . obtain ⟨_,_,rfl,e,r⟩:=r;exact .inl ⟨_,e.sL,by rw [r.isEmpty]⟩
def rM (f:TF):Sl->aj Bool:=λg=>f g>>=Eh
def jiS (h:DE X l e f) (i: ∀whole,isTrue e X.env whole=(do let v<-whole;sS e.pos;sF [v] (truthy v)):=by intro _;rfl):DT X e (rM f):=by
 with_unfolding_all exact (
  PT.imp (SK h i) λp H Q=>by
   rintro ⟨G,j,g,b,k,m,q⟩;obtain ⟨d,e1,e2⟩:=jd m
   exact ⟨G,j,g,d,k,e1,λv n s r _=>⟨b,MW r e2,q n s⟩⟩)
section
variable {g z g2:TD} {rest:List Expr}
def cj (g:TD):Sl->aj Bool:=λh=>g h>>=λb=> .ok (!b)
def zI (h:DT X a g):DT X (.UnaryOp .Not a Z) (cj g):=by
 with_unfolding_all exact (
  PT.imp (RZ h) λn H Q=>by
   rintro ⟨G,j,i,b,k,m,q⟩;obtain ⟨d,e1,e2⟩:=jd m;cases e2
   exact ⟨G,j,i,d,k,e1,q⟩)
@[irreducible] def DW (X:Cx) (e:Expr) (f:TD):Prop:=PW X e (tT X.K f)
theorem PW.imp (h:PW X e t) (w: ∀i H Q,m i H Q->t i H Q):PW X e m:=λn j s i H Q I q=>h n j s i H Q I (w i H Q q)
def DW.dt (h:DW X e g):DT X e g:=by
 with_unfolding_all exact (PW.pt h)
def jgB (h:DT X a g):DW X (.BoolOp .And [a] Z) g:=by
 with_unfolding_all exact (RV h)
def x3 (h:DT X a g):DW X (.BoolOp .Or [a] Z) g:=by
 with_unfolding_all exact (RW h)
def As (z g2:TD):Sl->aj Bool:=λh=>z h>>=λb=>if b=true then g2 h else .ok false
def iU (z g2:TD):Sl->aj Bool:=λh=>z h>>=λb=>if b=true then .ok true else g2 h
def MX (j:DT X a z) (m:DW X (.BoolOp .And (b::rest) Z) g2):DW X (.BoolOp .And (a::b::rest) Z) (As z g2):=by
 with_unfolding_all exact (
  PW.imp (RX j m) λv H Q=>by
   rintro ⟨G,i,h,r,k,n,q⟩;obtain ⟨d,e1,e2⟩:=jd n;refine ⟨G,i,h,d,k,e1,λp s=>?_⟩
   cases d with
   |true=>rw [if_pos rfl] at e2 ⊢;exact ⟨G,i,h,r,k.ao s,e2,λH2 u=>q H2 (s.trans u)⟩
   |false=>rw [if_neg h8] at e2 ⊢;cases e2;exact q p s)
def JK (j:DT X a z) (m:DW X (.BoolOp .Or (b::rest) Z) g2):DW X (.BoolOp .Or (a::b::rest) Z) (iU z g2):=by
 with_unfolding_all exact (
  PW.imp (RY j m) λv H Q=>by
   rintro ⟨G,i,h,r,k,n,q⟩;obtain ⟨d,e1,e2⟩:=jd n;refine ⟨G,i,h,d,k,e1,λp s=>?_⟩
   cases d with
   |false=>rw [if_neg h8] at e2 ⊢;exact ⟨G,i,h,r,k.ao s,e2,λH2 u=>q H2 (s.trans u)⟩
   |true=>rw [if_pos rfl] at e2 ⊢;cases e2;exact q p s)
def n9 (f:TF) (g:TF) (w:Bool):Sl->aj D:=λh=>f h>>=λd=>match d with
 | .bl b=>if b=w then g h else .ok (.bl b)
 |_=> .ai
def yw {i} (h:DE X l a f):DE X l (.BoolOp i [a] Z) f:=by
 with_unfolding_all exact (R3 h)
def yx (j:DE X N a Y) (m:DE X l (.BoolOp .And (b::rest) Z) U):DE X l (.BoolOp .And (a::b::rest) Z) (n9 Y U true):=by
 with_unfolding_all exact (
  PE.imp (R4 j m) λE H Q=>by
   rintro ⟨G,i,h,r,k,n,q⟩;obtain ⟨d,e1,e2⟩:=jd n;refine ⟨G,i,h,d,k,e1,λv p s u _=>?_⟩
   cases d with
   |bl t=>
    refine ⟨t,u.tz,?_⟩
    cases t with
    |true=>exact ⟨G,i,h,r,k.ao s,e2,λv H2 w y B=>q v H2 (s.trans w) y (Lv.nG s B)⟩
    |false=>cases e2;exact q _ p s (.bl false) (jV (K:=X.K) false).T
   |_=>cases e2)
def jj1 (j:DE X N a Y) (m:DE X l (.BoolOp .Or (b::rest) Z) U):DE X l (.BoolOp .Or (a::b::rest) Z) (n9 Y U false):=by
 with_unfolding_all exact (
  PE.imp (R5 j m) λE H Q=>by
   rintro ⟨G,i,h,r,k,n,q⟩;obtain ⟨d,e1,e2⟩:=jd n;refine ⟨G,i,h,d,k,e1,λv p s u _=>?_⟩
   cases d with
   |bl t=>
    refine ⟨t,u.tz,?_⟩
    cases t with
    |false=>exact ⟨G,i,h,r,k.ao s,e2,λv H2 w y B=>q v H2 (s.trans w) y (Lv.nG s B)⟩
    |true=>cases e2;exact q _ p s (.bl true) (jV (K:=X.K) true).T
   |_=>cases e2)
def Cj:D->aj D
 | .bl b=> .ok (.bl (!b))
 |_=> .ai
def tF (f:TF):Sl->aj D:=λh=>f h>>=Cj
def GL (h:DE X N a f):DE X l (.UnaryOp .Not a Z) (tF f):=by
 with_unfolding_all exact (
  PE.imp (R6 h) λu H Q=>by
   rintro ⟨G,j,i,r,k,m,q⟩;obtain ⟨d,e1,e2⟩:=jd m;refine ⟨G,j,i,d,k,e1,λv n s p _=>?_⟩
   cases d with
   |bl t=>cases e2;exact ⟨t,p.tz,q _ n s (.bl _) (jV (K:=X.K) _).T⟩
   |_=>cases e2)
def GN (g:TD) (Y U:TF):Sl->aj D:=λh=>g h>>=λb=>if b=true then Y h else U h
def MY (p:DT X c g) (u:DE X l a Y) (w:DE X l b U):DE X l (.IfExp c a b Z) (GN g Y U):=by
 with_unfolding_all exact (
  PE.imp (R8 p u w) λB H Q=>by
   rintro ⟨G,i,h,r,k,y,q⟩;obtain ⟨d,e1,e2⟩:=jd y;refine ⟨G,i,h,d,k,e1,λE s=>?_⟩
   cases d with
   |true=>rw [if_pos rfl] at e2 ⊢;exact ⟨G,i,h,r,k.ao s,e2,λv H2 j m n=>q v H2 (s.trans j) m (Lv.nG s n)⟩
   |false=>rw [if_neg h8] at e2 ⊢;exact ⟨G,i,h,r,k.ao s,e2,λv H2 j m n=>q v H2 (s.trans j) m (Lv.nG s n)⟩)
end
def jb (f:TF) (g:TB):Sl->aj (List D):=λh=>f h>>=λd=>g h>>=λds=> .ok (d::ds)
def af:Sl->aj (List D):=λ_=> .ok []
def je:DA X l [] af:=by
 with_unfolding_all exact (PA.imp zo λi H Q=>by rintro ⟨G,j,g,d,k,h,q⟩;cases h;exact q [] H (al.refl H) .nil)
def ja (p:DE X l e f) (r:DA X l O g) (u:T8 X e O:=by exact jm rfl):DA X l (e::O) (jb f g):=by
 with_unfolding_all exact (
  PA.imp (j7 p r u) λI H Q=>by
   rintro ⟨G,j,h,ds,k,w,q⟩;obtain ⟨d,e1,e2⟩:=jd w;obtain ⟨i,y,z⟩:=jd e2;cases z
   exact ⟨G,j,h,d,k,e1,λv H1 m B _=>⟨G,j,h,i,k.ao m,y,λvs H2 n E=>q _ H2 (m.trans n) (.cons (B.ao n) E)⟩⟩)
def qA (s:al H h) (g:h p=none):br H (.ref p):=λa e o q=>by
 cases e;rw [s _ _ q] at g;cases g
def aT (g:TB):Sl->aj D:=λh=>g h>>=λds=>a4 (ds.length<=aV) (.ok (.ap ds))
def b9 (g:TB):Sl->aj D:=λh=>g h>>=λds=>a4 (ds.length<=aV) (.ok (.ah ds))
def jO {r} (h:DA X .s O g):DE X .t (.Tuple O r Z) (aT g):=by
 with_unfolding_all exact (
  PE.imp (uT h) λz H Q=>by
   rintro ⟨G,u,i,d,k,v,q⟩;obtain ⟨ds,e1,e2⟩:=jd v;obtain ⟨w,y⟩:=jv e2;cases y;refine ⟨G,u,i,ds,k,e1,λB E m n=>⟨by rw [n.length];exact w,λp j=>?_⟩⟩
   exact q _ _ (m.trans (al.aU j)) (.ap jy (n.ao (al.aU j))) (qA m j))
def zc (h:DA X .s O g):DE X .t (.List O Z) (b9 g):=by
 with_unfolding_all exact (
  PE.imp (SW h) λy H Q=>by
   rintro ⟨G,r,j,d,k,u,q⟩;obtain ⟨ds,e1,e2⟩:=jd u;obtain ⟨v,w⟩:=jv e2;cases w;refine ⟨G,r,j,ds,k,e1,λz B m n=>⟨by rw [n.length];exact v,λp i=>?_⟩⟩
   exact q _ _ (m.trans (al.aU i)) (.ah jy (k.new p (al.free m i)) (n.laid i)) (qA m i))
def Ei (K:aG) (r:List V->Hp->VK->Prop) (g:Tz):Prop:= ∀(h:List V) (H:Hp) (ds:List D) (d:D) (Q:VK),am K Any H h ds->g ds= .ok d->(∀v,Sc K v d->Q v H)->r h H Q
def XR (K:aG) (r:List V->Hp->VK->Prop) (g:Tz):Prop:= ∀(A:VC) (i:List V) (H:Hp) (ds:List D) (d:D) (Q:VK),am K A H i ds->g ds= .ok d->(∀v h,al H h->aL K (λc=>H c=none\/A c) h v d->br H v->Q v h)->r i H Q
def app (f:TB) (g:Tz):Sl->aj D:=λh=>f h>>=g
def jjt {K:aG} (n:Ei K r g) (h:tE K l' (app p g) u H Q):D3 r (tA K l p) u H Q:=by
 obtain ⟨G,w,i,d,k,y,q⟩:=h;obtain ⟨ds,e1,e2⟩:=jd y;refine ⟨G,w,i,ds,k,e1,λz j B E=>?_⟩;exact n z j ds d Q (E.aQ Lv.bo) e2 λv m=>q v j B (m.1 _ _) m.T
def MZ {K:aG} (m:XR K r g) (h:tE K .t (app n g) p H Q):D3 r (tA K .s n) p H Q:=by
 obtain ⟨G,u,i,d,k,w,q⟩:=h;obtain ⟨ds,e1,e2⟩:=jd w;refine ⟨G,u,i,ds,k,e1,λy B j E=>?_⟩;exact m _ y B ds d Q E e2 λv H2 I r2 nt=>q v H2 (j.trans I) (r2.aQ λc z=>z.elim (λz=>k.new c (al.free j z)) λz=>z) (nt.ao j)
section
variable {x:Str} {id T:String} {p:Pos} {r:List V->Hp->VK->Prop} {g:Tz} {q:TB}
def j5 (m:bF X (.builtin id) r) (n:Ei X.K r g) (u:Gl X x) (v:X.mg x=none) (w:n4 x=some (.builtin id))
   (y:DA X l (e::O) q) (z:x≠ "__name__" :=by decide) (i:Z8 x:=by decide)
   (B:T8 X e O:=by exact jm rfl) (j:T7 X Z O:=by exact jH rfl):DE X l' (.Call (.Name x p) (e::O) [] Z) (app q g):=by
 with_unfolding_all exact (
  PE.imp (wl m u v w y z i B j) λ_ _ _ h=>jjt n h)
def wG (m:bF X (.type T) r) (n:XR X.K r g) (u:Gl X x) (v:X.mg x=none) (w:n4 x=some (.type T))
   (y:DA X .s (e::O) q) (z:x≠ "__name__" :=by decide) (i:Z8 x:=by decide)
   (B:T8 X e O:=by exact jm rfl) (j:T7 X Z O:=by exact jH rfl):DE X .t (.Call (.Name x p) (e::O) [] Z) (app q g):=by
 with_unfolding_all exact (
  PE.imp (Jy m u v w y z i B j) λ_ _ _ h=>MZ n h)
end
def qU (K:aG) (i:Bool) (n:Nat) (F:Tz):Sp:=λh H Q _=> ∃B ds d,h.length=n/\am K B H h ds/\F ds= .ok d/\ ∀v g,al H g->aL K (λa=>H a=none\/B a) g v d->(i=true->br H v)->Q v g
def jn (n:Nat) (F:Tz) (g:TB):Sl->aj D:=λh=>g h>>=λds=>a4 (ds.length=n) (F ds)
section
variable {CX:qE} {k:Nat} {x:Str} {h:Addr} {fd:pk} {ps:List Str} {p:Pos} {n:Nat} {F:Tz} {E:XK} {g:TB} {fr:Bool}
def jgN (G:cZ X.prog X.w X.K X.mg X.ae CX k h fd ps (qU X.K fr n F)) (w:aO k X.A) (y:Gl X x) (B:X.mg x=some (.ref h)) (I:l8 X.K (.ref h)=true) (hb:Binds X.K fd ps []) (hx:JW CX X E)
   (ha:DA X .s (e::O) g) (i:Z8 x:=by decide) (he:T8 X e O:=by exact jm rfl) (j:T7 X Z O:=by exact jH rfl):
   DE X .s (.Call (.Name x p) (e::O) [] Z) (jn n F g):=by
 with_unfolding_all exact (
  PE.imp (uV G w y B I hb .nil hx ha i he j) λσ H Q=>by
   rintro ⟨GG,H0,m,d,k,ef,q⟩;obtain ⟨ds,e1,e2⟩:=jd ef;obtain ⟨hn,e3⟩:=jv e2;refine ⟨GG,H0,m,ds,k,e1,λvs H1 r u=>?_⟩;show qU X.K fr n F (vs++[]) H1 Q E;rw [o8]
   exact ⟨_,ds,d,by rw [u.length];exact hn,u,e3,λv H2 s2 r2 _=>q v H2 (r.trans s2) (r2.aQ λc z=>z.elim (λz=>k.new c (al.free r z)) λz=>z) trivial⟩)
def jdU (G:cZ X.prog X.w X.K X.mg X.ae CX k h fd ps (qU X.K true n F)) (w:aO k X.A) (y:Gl X x) (B:X.mg x=some (.ref h)) (I:l8 X.K (.ref h)=true) (hb:Binds X.K fd ps []) (hx:JW CX X E)
   (ha:DA X .s (e::O) g) (i:Z8 x:=by decide) (he:T8 X e O:=by exact jm rfl) (j:T7 X Z O:=by exact jH rfl):
   DE X .t (.Call (.Name x p) (e::O) [] Z) (jn n F g):=by
 with_unfolding_all exact (
  PE.imp (uV G w y B I hb .nil hx ha i he j) λσ H Q=>by
   rintro ⟨GG,H0,m,d,k,ef,q⟩;obtain ⟨ds,e1,e2⟩:=jd ef;obtain ⟨hn,e3⟩:=jv e2;refine ⟨GG,H0,m,ds,k,e1,λvs H1 r u=>?_⟩;show qU X.K true n F (vs++[]) H1 Q E;rw [o8]
   exact ⟨_,ds,d,by rw [u.length];exact hn,u,e3,λv H2 s2 r2 nt=>q v H2 (r.trans s2) (r2.aQ λc z=>z.elim (λz=>k.new c (al.free r z)) λz=>z) ((nt rfl).ao r)⟩)
end
def aX:D->D->aj D
 | .ah ds,.int i=>match nc ds i with
  |some d=> .ok d
  |none=> .ai
 | .eN ds,.int i=>match nc ds i with
  |some d=> .ok d
  |none=> .ai
 | .ap ds,.int i=>match nc ds i with
  |some d=> .ok d
  |none=> .ai
 | .str z,.int i=>match nc z.cps.toList i with
  |some c=> .ok (.str ⟨#[c]⟩)
  |none=> .ai
 |_,_=> .ai
def Vn {K:aG} (r:am K A H g ds) (h:nc ds i=some d): ∃v,nc g i=some v/\aL K A H v d:=by
 unfold nc at h ⊢;rw [r.length]
 cases e:vr ds.length i with
 |none=>rw [e] at h;cases h
 |some j=>rw [e] at h;exact r.get h
def jfM (c:Nat):(⟨#[c]⟩:Str).length<=aV:=by show 1<=aV;decide
def jjG {a b:D} (m:aL X.K A H x a) (n:aL X.K Any H y b) (h:aX a b= .ok d) (q: ∀v,aL X.K A H v d->Q v H):ML X.K x y H Q:=by
 unfold aX at h
 split at h
 . split at h
   . cases h;cases n.eP;obtain ⟨p,g,rfl,i,_,r⟩:=m.fU;obtain ⟨v,e2,j⟩:=Vn r.low ‹_›;exact .inl ⟨p,g,_,v,rfl,rfl,.of i,e2,q v j⟩
   . cases h
 . split at h
   . cases h;cases n.eP;obtain ⟨p,g,rfl,i,r⟩:=m.rK;obtain ⟨v,e2,j⟩:=Vn r ‹_›;exact .inl ⟨p,g,_,v,rfl,rfl,i.sL,e2,q v j⟩
   . cases h
 . split at h
   . cases h;cases n.eP;obtain ⟨p,g,rfl,i,r⟩:=m.ik;obtain ⟨v,e2,j⟩:=Vn r ‹_›;exact .inr (.inl ⟨p,g,_,v,rfl,rfl,.of i,e2,q v j⟩)
   . cases h
 . split at h
   . cases h;cases n.eP;obtain ⟨rfl,u⟩:=m.iT;exact .inr (.inr ⟨_,_,_,rfl,rfl,u,‹_›,q _ (.str _ (by show 1<=aV;decide))⟩)
   . cases h
 . cases h
def jP (n:DE X .s a Y) (p:DE X L b U) (r:Vs b:=by intro _ _;rfl):DE X .s (.Subscript a b Z) (ak Y U aX):=by
 with_unfolding_all exact (
  PE.imp (MK Ti n p r) λσ H Q=>by
   rintro ⟨G,i,g,d,k,h,q⟩;obtain ⟨u,e1,h⟩:=jd h;obtain ⟨w,e2,z⟩:=jd h;refine ⟨G,i,g,u,k,e1,λx H1 j B _=>⟨G,i,g,w,k.ao j,e2,λy H2 m E _=>?_⟩⟩
   exact jjG (B.ao m) (E.aQ Lv.bo) z λv I=>q v H2 (j.trans m) I trivial)
@[irreducible] def DO (X:Cx) (e:Option Expr) (f:Sl->aj (Option Int)):Prop:=PO X e (λj H Q=> ∃G m g i,aB X.K G m g j H/\f g= .ok i/\ ∀h,al H h->Q i h)
theorem PO.imp {e:Option Expr} (h:PO X e t) (w: ∀g H Q,j g H Q->t g H Q):PO X e j:=λi s g H Q I q=>h i s g H Q I (w g H Q q)
def JA:Sl->aj (Option Int):=λ_=> .ok none
def Jl:DO X none JA:=by
 with_unfolding_all exact (PO.imp Tc λj H Q=>by rintro ⟨G,m,g,i,k,h,q⟩;cases h;exact q H (al.refl H))
def M0:D->aj (Option Int)
 | .int i=> .ok (some i)
 |_=> .ai
def xt (f:TF):Sl->aj (Option Int):=λg=>f g>>=M0
def wE (h:DE X l e f):DO X (some e) (xt f):=by
 with_unfolding_all exact (PO.imp (Td h) λu H Q=>by
  rintro ⟨G,m,g,i,k,n,q⟩;obtain ⟨d,e1,e2⟩:=jd n
  cases d with
  |int j=>cases e2;exact ⟨G,m,g,.int j,k,e1,λv p s r _=>⟨j,r.eP,q p s⟩⟩
  |_=>cases e2)
def cutD (ds:List D) (lo g:Option Int):List D:=(ds.drop (HT.ci ds.length 0 lo)).take (HT.ci ds.length ds.length g-HT.ci ds.length 0 lo)
def Vh {K:aG} {lo:Option Int} (r:am K A H g ds):am K A H (pv g lo h) (cutD ds lo h):=by
 unfold pv cutD;rw [r.length];exact (r.drop _).take _
def zf (f:TF) (i j:Sl->aj (Option Int)) (g:D->Option Int->Option Int->aj D):Sl->aj D:=λh=>f h>>=λa=>i h>>=λlo=>j h>>=λm=>g a lo m
end
section
variable {K:aG} {G:VC} {H0 H H1 H':Hp} {env env':Sl} {σ pz:L2.St} {i:Nat} {d:D} {v:V}
def jr {a:Type} {l:List a} {x:a} (h:i≠j):(l.set i x)[j]?=l[j]?:=DQ h
def jE {a:Type} {l:List a} {x y:a} (h:(l.set i x)[i]?=some y):y=x/\i<l.length:=by
 have c:i<l.length:=by
  have:=(m9.mp h).1;simpa using this
 rw [y4 c] at h;exact ⟨(ie h).symm,c⟩
def Zk {s:Slot} {a:Addr} (h:qr (env.set i s) (σ.set i (some v)) a):qr env σ a\/(∃d,s= .aw d/\v= .ref a):=by
 obtain ⟨j,d,c,g⟩:=h
 by_cases e:i=j
 . subst e;obtain ⟨l,_⟩:=jE c;obtain ⟨m,_⟩:=jE g;exact .inr ⟨d,l.symm,(ie m).symm⟩
 . rw [jr e] at c g;exact .inl ⟨j,d,c,g⟩
def aB.mD (k:aB K G H0 env σ H) (r:aL K (Sf G env σ) H v d):aB K G H0 (env.set i (.aa d)) (σ.set i (some v)) H:=by
 have w: ∀a,Sf G env σ a->Sf G (env.set i (.aa d)) (σ.set i (some v)) a:=λa n=>⟨λo=>(by
   rcases Zk o with z| ⟨I,z,_⟩
   . exact n.1 z
   . cases z),n.2⟩
 refine ⟨by simp [k.len],k.ae,k.g0,λj e h=>?_,λj e h=>?_,λj m e u a c g h3 p=>?_⟩
 . by_cases z:i=j
   . subst z;obtain ⟨q,hl⟩:=jE h;cases q;exact ⟨v,y4 (by rw [k.len];exact hl),r.aQ w⟩
   . rw [jr z] at h ⊢;obtain ⟨l,c,g⟩:=k.aa j e h;exact ⟨l,c,g.aQ w⟩
 . by_cases z:i=j
   . subst z;obtain ⟨q,hl⟩:=jE h;cases q
   . rw [jr z] at h ⊢;obtain ⟨l,c,y,g⟩:=k.aw j e h;exact ⟨l,c,y,g.bq (λ_ _ e _=>e) w λ_ e=>e⟩
 . have B:i≠j:=λz=>by subst z;obtain ⟨q,_⟩:=jE c;cases q
   have E:i≠m:=λz=>by subst z;obtain ⟨q,_⟩:=jE g;cases q
   rw [jr B] at c h3;rw [jr E] at g p;exact k.sM j m e u a c g h3 p
def W4:D->Bool
 | .ah _=>true
 | .dr _ _=>true
 | .cJ _ _=>true
 | .obj _ _ _=>true
 | .fE _=>true
 |_=>false
def KA (r:aL K A H v d) (h:W4 d=true): ∃a,v= .ref a/\A a/\(∃o,H a=some o/\qp (some o))/\Top K (λc=>A c/\c≠a) H a d:=by
 have r:=r.f;cases d<;>cases h
 . obtain ⟨_,_,rfl,e,a,r⟩:=r;exact ⟨_,rfl,a,⟨_,e,trivial⟩,.ah e r⟩
 . obtain ⟨_,_,rfl,e,a,k,r⟩:=r;exact ⟨_,rfl,a,⟨_,e,trivial⟩,.dr e k rfl r⟩
 . obtain ⟨_,_,rfl,e,a,k,r⟩:=r;exact ⟨_,rfl,a,⟨_,e,trivial⟩,.cJ e k rfl r⟩
 . obtain ⟨_,_,_,_,rfl,e,a,k,l,r⟩:=r;exact ⟨_,rfl,a,⟨_,e,trivial⟩,.obj e ⟨k,l⟩ rfl r⟩
 . obtain ⟨_,_,rfl,e,a,k,r⟩:=r;exact ⟨_,rfl,a,⟨_,e,trivial⟩,.fE e k rfl r⟩
def jim (s:al H H1) (g:br H (.ref a)) (h: ∃o,H1 a=some o/\qp (some o)):H a=none:=by
 cases e:H a with
 |none=>rfl
 |some o=>
  obtain ⟨l,c,j⟩:=h;rw [s a o e] at c;cases c;exact (g a rfl o e j).elim
def aB.GO (k:aB K G H0 env σ H) (s:al H H1) (r:aL K (Sf G env σ) H1 v d) (U:br H v) (hd:W4 d=true):aB K G H0 (env.set i (.aw d)) (σ.set i (some v)) H1/\ ∃a,v= .ref a/\H a=none:=by
 obtain ⟨a,rfl,ga,mt,top⟩:=KA r hd;have J:=jim s U mt;refine ⟨?_,a,rfl,J⟩
 have w: ∀c,(Sf G env σ c/\c≠a)->Sf G (env.set i (.aw d)) (σ.set i (some (V.ref a))) c:=λc n=>⟨λo=>(by
   rcases Zk o with z| ⟨d',z,m⟩
   . exact n.1.1 z
   . cases m;exact n.2 rfl),n.1.2⟩
 have E: ∀c,(Sf G env σ c/\H c≠none)->Sf G (env.set i (.aw d)) (σ.set i (some (V.ref a))) c:=λc n=>w c ⟨n.1,λe=>n.2 (by rw [e];exact J)⟩
 have Y:=k.ao s;refine ⟨by simp [k.len],Y.ae,k.g0,λj e h=>?_,λj e h=>?_,λj L e O b p l h3 I=>?_⟩
 . by_cases z:i=j
   . subst z;obtain ⟨q,hl⟩:=jE h;cases q
   . rw [jr z] at h ⊢;obtain ⟨N,p,l⟩:=k.aa j e h;exact ⟨N,p,(l.dL.ao s).aQ E⟩
 . by_cases z:i=j
   . subst z;obtain ⟨q,hl⟩:=jE h;cases q;exact ⟨a,y4 (by rw [k.len];exact hl),al.free k.ae J,top.bq (λ_ _ e _=>e) w λ_ e=>e⟩
   . rw [jr z] at h ⊢;obtain ⟨N,p,Z,l⟩:=k.aw j e h;refine ⟨N,p,Z,?_⟩
     cases l with
     |ah e2 g=>exact .ah (s _ _ e2) ((g.dL.ao s).aQ E)
     |dr e2 y B g=>exact .dr (s _ _ e2) y B ((g.dL.ao s).aQ E)
     |cJ e2 y B g=>exact .cJ (s _ _ e2) y B ((g.dL.ao s).aQ E)
     |obj e2 y B g=>exact .obj (s _ _ e2) y B ((g.dL.ao s).aQ E)
     |fE e2 y B g=>exact .fE (s _ _ e2) y B ((g.dL.ao s).aQ E)
 . have new: ∀(j:Nat) (e:D),env[j]?=some (.aw e)->σ[j]?=some (some (.ref a))->False:=λj e q1 q2=>by
     obtain ⟨u,q⟩:=k.there ⟨j,e,q1,q2⟩;rw [J] at q;cases q
   by_cases Q:i=j
   . subst Q
     by_cases m:i=L
     . exact m
     . rw [jr m] at l I;obtain ⟨q,_⟩:=jE h3;cases q;exact (new L O l I).elim
   . rw [jr Q] at p h3
     by_cases m:i=L
     . subst m;obtain ⟨q,_⟩:=jE I;cases q;exact (new j e p h3).elim
     . rw [jr m] at l I;exact k.sM j L e O b p l h3 I
def bK.set (c:al H H1) (fresh: ∀a d,s= .aw d->v= .ref a->H a=none):bK env σ H (env.set i s) (σ.set i (some v)) H1:=
 ⟨λb o e _=>c b o e,λb o=>by
  rcases Zk o with z| ⟨g,z,h⟩
  . exact .inl z
  . exact .inr (fresh b g z h),λb e=>al.free c e⟩
def bK.sf (f:bK env σ H env' pz H'): ∀a,(Sf G env σ a/\H a≠none)->Sf G env' pz a:=λa z=>⟨λo=>(f.more a o).elim z.1.1 z.2,z.1.2⟩
def bK.st (k:aB K G H0 env σ H) (f:bK env σ H env' pz H'):iS (λa=>Sf G env σ a/\H a≠none) H H':=λa o e m=>f.keep a o e λc=>(m (k.rL c e)).1.1 c
def bK.rep (k:aB K G H0 env σ H) (f:bK env σ H env' pz H') (r:aL K (Sf G env σ) H v d):aL K (Sf G env' pz) H' v d:=r.dL.bq (f.st k) f.sf
def bK.Ck (k:aB K G H0 env σ H) (f:bK env σ H env' pz H') (r:am K (Sf G env σ) H a ds):am K (Sf G env' pz) H' a ds:=r.dL.bq (f.st k) f.sf
end
def Kn (d:D):Slot:=if W4 d=true then .aw d else .aa d
def aB.ou {K:aG} (k:aB K G l env c H) (s:al H g) (r:aL K (Sf G env c) g v d) (m:br H v):
   aB K G l (env.set i (Kn d)) (c.set i (some v)) g/\bK env c H (env.set i (Kn d)) (c.set i (some v)) g:=by
 unfold Kn
 by_cases h:W4 d=true
 . rw [if_pos h];obtain ⟨z,o,j,n⟩:=k.GO s r m h;refine ⟨z,.set s λa p _ e=>?_⟩;rw [e] at j;cases j;exact n
 . rw [if_neg h];exact ⟨(k.ao s).mD r,.set s λ_ _ z _=>by cases z⟩
def cz:Sl->aj ba:=λa=> .ok (.nx a)
def x9 (f:TF):Sl->aj ba:=λa=>f a>>=λ_=> .ok (.nx a)
def ox (h:Int->Int->Int) (a b:D):aj D:=match a,b with
 | .int m,.int n=> .ok (.int (h m n))
 |_,_=> .ai
def ax (e g2:TC):Sl->aj ba:=λc=>e c>>=λo=>match o with
 | .nx a=>g2 a
 | .rt g d=> .ok (.rt g d)
 | .bk a=> .ok (.bk a)
 | .ct a=> .ok (.ct a)
section
variable {X:Cx} {e c tg:Expr} {st:Stmt} {rest body u:List Stmt} {y:Pos} {l:Lv} {f:TF} {g j g2:TC}
def jI:ma X [] cz:=by
 with_unfolding_all exact (gn.imp WZ λE a H=>by
  rintro ⟨G,m,h,o,k,i,q⟩;cases i
  exact q a H k (bK.refl (al.refl H)))
def wR {K:aG} (f:bK n r H h p v) (q:pA K G w n r H E o):pA K G w h p v E o:=by
 cases o with
 |nx e=>exact λa H2 i m=>q a H2 i (f.trans m)
 |bk e=>exact λa H2 i m=>q a H2 i (f.trans m)
 |ct e=>exact λa H2 i m=>q a H2 i (f.trans m)
 |rt z d=>exact q
def jf (n:DS X st j) (p:ma X rest g2):ma X (st::rest) (ax j g2):=by
 with_unfolding_all exact (gn.imp (QK n p) λE I H=>by
  rintro ⟨G,i,h,o,k,r,q⟩;obtain ⟨m,e1,e2⟩:=jd r;refine ⟨G,i,h,m,k,e1,?_⟩
  cases m with
  |nx a=>exact λv J w z=>⟨G,i,a,o,w,e2,wR z q⟩
  |rt L d=>cases e2;exact q
  |bk B=>cases e2;exact q
  |ct B=>cases e2;exact q)
def jj (a:DS X st j):ma X [st] j:=by
 with_unfolding_all exact (gn.imp (WY a) λE h H q=>q)
def aM (f:TF):Sl->aj ba:=λa=>f a>>=λd=> .ok (.rt true d)
def jw (h:DE X .t e f):DS X (.Return (some e) y) (aM f):=by
 with_unfolding_all exact (PS.imp (uJ h) λE B H=>by
  rintro ⟨G,m,i,o,k,n,q⟩;obtain ⟨d,e1,e2⟩:=jd n;cases e2
  exact ⟨G,m,i,d,k,e1,λv p s r w=>q v p (k.ae.trans s) (r.aQ λa z=>z.2) λ_=>br.ao k.ae w⟩)
def retS (f:TF):Sl->aj ba:=λa=>f a>>=λd=> .ok (.rt false d)
def XB (h:DE X .s e f):DS X (.Return (some e) y) (retS f):=by
 with_unfolding_all exact (PS.imp (uJ h) λE w H=>by
  rintro ⟨G,m,i,o,k,n,q⟩;obtain ⟨d,e1,e2⟩:=jd n;cases e2
  exact ⟨G,m,i,d,k,e1,λv p s r B=>q v p (k.ae.trans s) (r.aQ λa z=>z.2) λz=>by cases z⟩)
def vP (i:Nat):Sl->aj D:=λa=>match a[i]? with
 |some (.aw d)=> .ok d
 |some (.aa d)=>a4 (d.oV=true) (.ok d)
 |_=> .ai
def ZQ (i:Nat) {p:Pos} (hN:X.N[i]?=some x:=by rfl) (J:iM X.env.scope x:=by exact jT rfl) (hd:Z8 x:=by decide)
    (r:X8 x:=by decide):DS X (.Return (some (.Name x p)) y) (aM (vP i)):=by
 with_unfolding_all exact (PS.imp (uJ (xZ hN J hd r)) λE U H=>by
  rintro ⟨G,Y,L,o,k,N,q⟩;obtain ⟨d,e1,e2⟩:=jd N;cases e2;unfold vP at e1
  split at e1
  . rename_i O h;cases e1;obtain ⟨a,m,w,n⟩:=k.aw i d h;refine ⟨.ref a,m,q _ H k.ae (n.rep (λc z=>⟨z.2,Yq k h m c z⟩) (k.g0 a w)) λ_ b e Z B=>?_⟩;cases e;rw [w] at B;cases B
  . rename_i O h;obtain ⟨I,Q⟩:=jv e1;cases Q;obtain ⟨v,m,n⟩:=k.aa i d h;exact ⟨v,m,q v H k.ae (n.oV I) λ_=>MU k.ae n I⟩
  . cases e1)
def cT (t:TD) (j g2:TC):Sl->aj ba:=λa=>t a>>=λb=>if b=true then j a else g2 a
def qK (i:DT X c t) (m:ma X body j) (n:ma X u g2):DS X (.If c body u y) (cT t j g2):=by
 with_unfolding_all exact (PS.imp (uK i m n) λE r H=>by
  rintro ⟨G,h,a,o,k,p,q⟩;obtain ⟨b,e1,e2⟩:=jd p;refine ⟨G,h,a,b,k,e1,λv s=>?_⟩
  cases b with
  |true=>rw [if_pos rfl] at e2 ⊢;exact ⟨G,h,a,o,k.ao s,e2,wR (bK.refl s) q⟩
  |false=>rw [if_neg h8] at e2 ⊢;exact ⟨G,h,a,o,k.ao s,e2,wR (bK.refl s) q⟩)
def fV (i:Nat) (f:TF):Sl->aj ba:=λa=>f a>>=λd=> .ok (.nx (a.set i (Kn d)))
def yu (i:Nat) {x:Str} {a:Pos} (hN:X.N.Nodup) (h:DE X .t e f) (p:X.N[i]?=some x:=by rfl) (w:Loc X.env.scope x:=by exact ot rfl) (z:lK e (some (.Name x a)) y.line X.env=pure false:=by rfl)
   (B:T6 X x:=by first|exact .inl rfl|exact .inr rfl|assumption):DS X (.Assign [.Name x a] e y) (fV i f):=by
 with_unfolding_all exact (
  PS.imp (uI hN p w h z B) λE N H=>by
   rintro ⟨G,I,m,o,k,J,q⟩;obtain ⟨d,e1,e2⟩:=jd J;cases e2
   exact ⟨G,I,m,d,k,e1,λv L s r n=>q _ L (k.ou s r n).1 (k.ou s r n).2⟩)
def jB (i:Nat) (f:TF):Sl->aj ba:=λa=>f a>>=λd=> .ok (.nx (a.set i (.aa d)))
def jt (i:Nat) {a:Pos} (hN:X.N.Nodup) (h:DE X .s e f) (n:X.N[i]?=some x:=by rfl) (p:Loc X.env.scope x:=by exact ot rfl) (w:lK e (some (.Name x a)) y.line X.env=pure false:=by rfl)
   (B:T6 X x:=by first|exact .inl rfl|exact .inr rfl|assumption):DS X (.Assign [.Name x a] e y) (jB i f):=by
 with_unfolding_all exact (
  PS.imp (uI hN n p h w B) λE N H=>by
   rintro ⟨G,I,m,o,k,J,q⟩;obtain ⟨d,e1,e2⟩:=jd J;cases e2
   exact ⟨G,I,m,d,k,e1,λv L s r _=>q _ L ((k.ao s).mD r) (.set s λ_ _ z _=>by cases z)⟩)
def GP (i:Nat) {p:Pos} (hN:X.N.Nodup) (J:DE X l e f) (L:FS X N (Mw h)) (O:X.N[i]?=some x:=by rfl) (Q:Loc X.env.scope x:=by exact ot rfl)
   (U:T6 X x:=by first|exact .inl rfl|exact .inr rfl|assumption):
   DS X (.AugAssign (.Name x p) N e y) (jB i (ak (ag i) f (ox h))):=by
 with_unfolding_all exact (
  PS.imp (Sj hN O Q J L U) λE σ H=>by
   rintro ⟨G,Y,B,o,k,Z,q⟩;obtain ⟨d,e1,e2⟩:=jd Z;obtain ⟨a,e3,e4⟩:=jd e1;obtain ⟨b,e5,I⟩:=jd e4;cases e2;obtain ⟨v,h1,h2⟩:=k.aa i a (WX e3);refine ⟨v,h1,G,Y,B,b,k,e5,λw H' s r _=>?_⟩
   cases a with
   |int m=>
    cases b with
    |int n=>
     cases I;cases h2.eP;cases r.eP;exact ⟨m,n,rfl,rfl,q _ H' ((k.ao s).mD (.int _)) (.set s λ_ _ z _=>by cases z)⟩
    |_=>cases I
   |_=>cases I)
end
def Ej (x:Str):It:=⟨λi _=>i<x.cps.size,λi H v a=>a=H/\ ∃c,x.cps[i]?=some c/\v= .str ⟨#[c]⟩,λi _=>x.cps.size<=i⟩
def kn {K:aG} (g:Addr) (x:Str) (t:Tok):Turn P w K tg (Ej x) [g] g (λi h=>h.IsStrIter g "str_ascii_iterator" x t i) where
 mem:=by simp
 obj:=λi h st b j=>by
  have e:b=g:=by simpa using j
  subst e;obtain ⟨o,e,c,d⟩:=st;exact ⟨o,e,λv z=>by rw [d] at z;cases z⟩
 keep:=λi h p st k=>let ⟨o,Y,r⟩:=st;⟨o,k g (by simp) o Y,r⟩
 item:=by
  intro X q hw u Q i a s U H E I m st y;subst q hw u;have n:i<x.cps.size:=y;obtain ⟨B,J,Z,L,N,O⟩:=m g (by simp);refine wpAny_pyNext_ascii_item st (c:=x.cps[i]) (by simp [n]) λp l sb=>?_
  have I1:aD X a U H {s with heap:=p,toks:=s.toks+1}:=I.turned (λb o j e=>(sb.2 b j).trans e) B J L N O;obtain ⟨o,e,c,d⟩:=id l;exact ⟨_,rfl,BP e c d (by decide) ⟨.str ⟨#[x.cps[i]]⟩,H,I1,⟨_,rfl⟩,⟨rfl,_,by simp [n],rfl⟩,l,λb j=>(m b j).1⟩⟩
 done:=by
  intro X q hw u Q i a s U H E I m st y;subst q hw u;have n:=y;obtain ⟨B,J,Z,L,N,O⟩:=m g (by simp);exact wpAny_pyNext_ascii_end (I.ok.hd Q) st (by simp;exact n) λp eb=>⟨rfl,I.turned (λb o j e=>eb b o j e) B J L N O⟩
 self:=λ_ _ _ _ _ st h=>wpAny_pyIter_striter_ascii st h
def v0 {K:aG} (g:Addr) (x:Str) (t:Tok):Turn P w K tg (Ej x) [g] g (λi h=>h.IsStrIter g "str_iterator" x t i) where
 mem:=by simp
 obj:=λi h st b j=>by
  have e:b=g:=by simpa using j
  subst e;obtain ⟨o,e,c,d⟩:=st;exact ⟨o,e,λv z=>by rw [d] at z;cases z⟩
 keep:=λi h p st k=>let ⟨o,Y,r⟩:=st;⟨o,k g (by simp) o Y,r⟩
 item:=by
  intro X q hw u Q i a s U H E I m st y;subst q hw u;have n:i<x.cps.size:=y;obtain ⟨B,J,Z,L,N,O⟩:=m g (by simp);refine wpAny_pyNext_wide_item st (c:=x.cps[i]) (by simp [n]) λp l sb=>?_
  have I1:aD X a U H {s with heap:=p,toks:=s.toks+1}:=I.turned (λb o j e=>(sb.2 b j).trans e) B J L N O;obtain ⟨o,e,c,d⟩:=id l;exact ⟨_,rfl,BP e c d (by decide) ⟨.str ⟨#[x.cps[i]]⟩,H,I1,⟨_,rfl⟩,⟨rfl,_,by simp [n],rfl⟩,l,λb j=>(m b j).1⟩⟩
 done:=by
  intro X q hw u Q i a s U H E I m st y;subst q hw u;have n:=y;obtain ⟨B,J,Z,L,N,O⟩:=m g (by simp);exact wpAny_pyNext_wide_end (I.ok.hd Q) st (by simp;exact n) λp eb=>⟨rfl,I.turned (λb o j e=>eb b o j e) B J L N O⟩
 self:=λ_ _ _ _ _ st h=>wpAny_pyIter_striter_wide st h
def Walk (J:It) (a:List V) (P:Hp->Prop):Prop:= ∀i H,P H->(i<a.length->J.go i H)/\(i<a.length-> ∀x c,J.DV i H x c->c=H/\a[i]?=some x)/\(a.length<=i->J.stop i H)
def Yd (K:aG) (A:VC) (a H c:Hp) (x:V) (d:D):Prop:=
 (c=H/\aL K A a x d)\/ ∃p e g,H p=none/\x= .ref p/\c=L2.aU H p (.ap e)/\d= .ap g/\am K A a e g
def GQ (K:aG) (A:VC) (c:Hp) (J:It) (ds:List D) (P:Hp->Prop):Prop:= ∀i H,P H->(i<ds.length->J.go i H)/\(∀d,ds[i]?=some d-> ∀x a,J.DV i H x a->Yd K A c H a x d)/\(ds.length<=i->J.stop i H)
def Walk.toD {K:aG} (c:am K A g j ds) (w:Walk J j P):GQ K A g J ds P:=λi H p=>by
 have hl:=c.length;obtain ⟨l,m,n⟩:=w i H p;refine ⟨λh=>l (by omega),λd hd x o y=>?_,λh=>n (by omega)⟩;have u:=(m9.mp hd).1;obtain ⟨e,q⟩:=m (by omega) x o y;obtain ⟨v,a,r⟩:=c.get' q;rw [hd] at a;cases a;exact .inl ⟨e,r⟩
def tI (K:aG) (f:TB):TI:=λg H R=> ∃G j a ds,aB K G j a g H/\f a= .ok ds/\
 ∀J c P,al H c->GQ K (Sf G a g) c J ds P->P c->(∀e h i,bK a g c e h i->P i)->R J c
@[irreducible] def DI (X:Cx) (a e:Expr) (f:TB):Prop:=PI X a e (tI X.K f)
def WO (z:Str):List D:=z.cps.toList.map λc=> .str ⟨#[c]⟩
def Ek:D->aj (List D)
 | .ah ds=> .ok ds
 | .eN ds=> .ok ds
 | .ap ds=> .ok ds
 | .str z=> .ok (WO z)
 |_=> .ai
def kA (z:Str):List V:=z.cps.toList.map λc=> .str ⟨#[c]⟩
def uh {K:aG} (z:Str):am K A H (kA z) (WO z):=by
 unfold kA WO;generalize z.cps.toList=l
 induction l with
 |nil=>exact .nil
 |cons c r a=>exact .cons (.str _ (jfM c)) a
section
variable {X:Cx} {B e:Expr} {f:TF} {l:Lv}
def fh (f:TF):Sl->aj (List D):=λa=>f a>>=Ek
def qQ (h:DE X .s e f):DI X B e (fh f):=by
 with_unfolding_all exact (by
  rintro pins s σ H R I ⟨G,H0,N,ds,k,ef,q⟩;obtain ⟨d,e1,e2⟩:=jd ef;refine bv (h pins s σ H (λv n=>al H n/\aL X.K (Sf G N σ) n v d) I ⟨G,H0,N,d,k,e1,λv E s r _=>⟨s,r⟩⟩) λv u oy=>?_;obtain ⟨x,n,j,r1,Z,rep⟩:=oy
  have k1:=k.ao Z
  cases d with
  |ah ds'=>
   cases e2;obtain ⟨a,g,rfl,L,na,rs⟩:=rep.fU;cases r1;obtain ⟨Y,rv,p,hz⟩:=j.list (.of L);refine Cn p.isList ?_;refine ⟨u.heap.objs.size,[u.heap.objs.size],_,_,n,rfl,j.kept λb o e=>dc _ e,XZ a _,⟨_,gp _ rfl,rfl,rfl⟩,λb O=>?_,?_⟩
   . have e:b=u.heap.objs.size:=by simpa using O
     subst e;exact j.jz (bf _) (j.a7.fresh (bf _))
   . refine q _ n (λH=>H a=some (.ah g)) Z (Walk.toD rs.low λi E p=>?_) L (λw Q E fr=>fr.keep a _ L na.1);exact ⟨λm=>⟨g,g[i],.of p,by simp [m]⟩,λ_ x E y=>⟨y.1,y.2 g (.of p)⟩,λm=>⟨g,.of p,m⟩⟩
  |eN ds'=>
   cases e2;obtain ⟨a,g,rfl,L,rs⟩:=rep.rK;cases r1;obtain ⟨Y,rv,p,hz⟩:=j.list L.sL;refine Cn p.isList ?_;refine ⟨u.heap.objs.size,[u.heap.objs.size],_,_,n,rfl,j.kept λb o e=>dc _ e,XZ a _,⟨_,gp _ rfl,rfl,rfl⟩,λb O=>?_,?_⟩
   . have e:b=u.heap.objs.size:=by simpa using O
     subst e;exact j.jz (bf _) (j.a7.fresh (bf _))
   . refine q _ n (λH=>rJ X.K H a g) Z (Walk.toD rs λi E p=>?_) L (λw Q E fr=>?_)
     . exact ⟨λm=>⟨g,g[i],p.sL,by simp [m]⟩,λ_ x E y=>⟨y.1,y.2 g p.sL⟩,λm=>⟨g,p.sL,m⟩⟩
     . rcases L with ⟨o,eo⟩|z
       . exact .inl ⟨o,fr.keep a _ eo λow=>(k1.rL ow eo).elim⟩
       . exact .inr z
  |ap ds'=>
   cases e2;obtain ⟨a,g,rfl,L,rs⟩:=rep.ik;cases r1;obtain ⟨Y,rv,p,hz⟩:=j.tuple (.of L);refine wpAny_pyIter_tuple (show u.heap.IsTuple a Y.toArray from p) ?_;refine ⟨u.heap.objs.size,[u.heap.objs.size],_,_,n,rfl,j.kept λb o e=>dc _ e,ki a _,⟨_,gp _ rfl,rfl,rfl⟩,λb O=>?_,?_⟩
   . have e:b=u.heap.objs.size:=by simpa using O
     subst e;exact j.jz (bf _) (j.a7.fresh (bf _))
   . refine q _ n (λH=>H a=some (.ap g)) Z (Walk.toD rs λi E p=>?_) L (λw Q E fr=>fr.keep a _ L λow=>(k1.rL ow L).elim);exact ⟨λm=>⟨g,g[i],.of p,by simp [m]⟩,λ_ x E y=>⟨y.1,y.2 g (.of p)⟩,λm=>⟨g,.of p,m⟩⟩
  |str z=>
   cases e2;obtain ⟨rfl,hz⟩:=rep.iT;obtain ⟨t,rfl⟩:=r1
   have fin: ∀(J:It),J=Ej z-> ∃(g:List V) (P:Hp->Prop),am X.K (Sf G N σ) n g (WO z)/\Walk J g P/\P n/\ ∀w Q E,bK N σ n w Q E->P E:=by
     rintro J rfl;refine ⟨kA z,λ_=>True,uh z,λi E _=>?_,trivial,λ_ _ _ _=>trivial⟩;have hl:(kA z).length=z.cps.size:=by simp [kA]
     refine ⟨λm=>by rw [hl] at m;exact m,λm x H2 y=>?_,λm=>by rw [hl] at m;exact m⟩;obtain ⟨y1,c,y2,y3⟩:=y;refine ⟨y1,?_⟩;subst y3;simp [kA,y2]
   obtain ⟨g,P,h1,h2,h3,h4⟩:=fin (Ej z) rfl
   cases U:z.cps.all (· <128) with
   |true=>
     refine wpAny_pyIter_ascii U ?_;refine ⟨u.heap.objs.size,[u.heap.objs.size],_,_,n,rfl,j.kept λb o e=>dc _ e,kn _ z t,⟨_,gp _ rfl,rfl,rfl⟩,λb O=>?_,q _ n P Z (Walk.toD h1 h2) h3 h4⟩;have e:b=u.heap.objs.size:=by simpa using O
     subst e;exact j.jz (bf _) (j.a7.fresh (bf _))
   |false=>
     refine wpAny_pyIter_wide U ?_;refine ⟨u.heap.objs.size,[u.heap.objs.size],_,_,n,rfl,j.kept λb o e=>dc _ e,v0 _ z t,⟨_,gp _ rfl,rfl,rfl⟩,λb O=>?_,q _ n P Z (Walk.toD h1 h2) h3 h4⟩;have e:b=u.heap.objs.size:=by simpa using O
     subst e;exact j.jz (bf _) (j.a7.fresh (bf _))
  |_=>cases e2)
def wN (lo:Int) (n:Nat):List D:=(fK n).map λ(i:Nat)=> .int (lo+(i:Int))
def vp (lo:Int) (n:Nat):List V:=(fK n).map λ(i:Nat)=> .int (lo+(i:Int))
def jaW {K:aG} (lo:Int) (n:Nat):am K A H (vp lo n) (wN lo n):=by
 unfold vp wN;generalize fK n=l
 induction l with
 |nil=>exact .nil
 |cons c r a=>exact .cons (.int _) a
def kf (lo:Int) (n:Nat):Walk (DX lo n) (vp lo n) (λ_=>True):=λi H _=>by
 have c:(vp lo n).length=n:=by simp [vp]
 refine ⟨λa=>by rw [c] at a;exact a,λa x H2 y=>?_,λa=>by rw [c] at a;exact a⟩;obtain ⟨g,h⟩:=y;refine ⟨g,?_⟩;subst h;rw [c] at a;simp [vp,a]
def Au:List D->aj (List D)
 | [.int j]=>a4 (-(2^62)<=j/\j<2^62) (.ok (wN 0 j.toNat))
 |_=> .ai
def am.one {K:aG} (r:am K A H a [d]): ∃v,a=[v]/\aL K A H v d:=by
 cases r with
 |cons h t=>cases t;exact ⟨_,rfl,h⟩
def am.ak {K:aG} (r:am K A H c [d,g]): ∃v a,c=[v,a]/\aL K A H v d/\aL K A H a g:=by
 cases r with
 |cons h t=>
  obtain ⟨a,rfl,i⟩:=t.one;exact ⟨_,_,rfl,h,i⟩
def PI.imp (h:PI X B e t) (w: ∀a H Q,g a H Q->t a H Q):PI X B e g:=λc s a H Q I q=>h c s a H Q I (w a H Q q)
def mE (c:TB):Sl->aj (List D):=λa=>c a>>=Au
def xA {a:Expr} (g:Gl X "range") (h:X.mg "range" =none) (i:DA X l [a] j) (m:bB [a] X.env=[(false,eval a X.env)]:=by rfl):DI X B (.Call (.Name "range" p) [a] [] n) (mE j):=by
 with_unfolding_all exact (
  PI.imp (uR g h i m) λN H R=>by
   rintro ⟨G,o,c,ds,k,u,q⟩;obtain ⟨w,e1,e2⟩:=jd u;refine ⟨G,o,c,w,k,e1,λO y z E=>?_⟩;unfold Au at e2
   split at e2
   . obtain ⟨⟨I,J⟩,L⟩:=jv e2;cases L;obtain ⟨v,rfl,r⟩:=E.one;cases r.eP;exact ⟨_,rfl,I,J,q _ y _ z (Walk.toD (jaW 0 _) (kf 0 _)) trivial λ_ _ _ _=>trivial⟩
   . cases e2)
def tG (K:aG) (t:Tx):TG:=λv h H Q=> ∃G i c d a,aB K G i c h H/\aL K (Sf G c h) H v d/\t d c= .ok a/\ ∀g,aB K G i a g H->bK c h H a g H->Q g H
@[irreducible] def DG (X:Cx) (B:Expr) (t:Tx):Prop:=PG X B (tG X.K t)
theorem PG.imp (h:PG X B t) (w: ∀v a H Q,g v a H Q->t v a H Q):PG X B g:=λc s a H v u Q I r q=>h c s a H v u Q I r (w v a H Q q)
def gN (i:Nat):D->Sl->aj Sl:=λd a=> .ok (a.set i (.aa d))
def jG (i:Nat) {a:Pos} (hN:X.N.Nodup) (g:X.N[i]?=some x:=by rfl) (h:Loc X.env.scope x:=by exact ot rfl)
   (j:T6 X x:=by first|exact .inl rfl|exact .inr rfl|assumption):DG X (.Name x a) (gN i):=by
 with_unfolding_all exact (
  PG.imp (Sb hN g h j) λv n H Q=>by
   rintro ⟨G,o,m,d,c,k,r,e,q⟩;cases e
   exact q _ (k.mD r) (.set (al.refl H) λ_ _ z _=>by cases z))
def g2 (t u:Tx):D->Sl->aj Sl:=λd c=>match d with
 | .ap [x,y]=>t x c>>=λa=>u y a
 |_=> .ai
def ZT {a:Expr} {k:Nat} {h:Pos} (y:X.cF=true) (z:DG X a t) (E:DG X b u)
   (I:(pe [a,b] X.env).map (·.2)=assign a X.env::(pe [b] X.env).map (·.2):=by rfl) (i:(pe [b] X.env).map (·.2)=assign b X.env::(pe [] X.env).map (·.2):=by rfl)
   (J:(pe [a,b] X.env).length=2:=by rfl) (j:(pe [a,b] X.env).findIdx? (·.1)=none:=by rfl):DG X (.Tuple [a,b] k h) (g2 t u):=by
 with_unfolding_all exact (
  PG.imp (Sg y (VQ z (VQ E Se i) I) J j) λv σ H Q=>by
   rintro ⟨G,o,m,d,g,k,r,e,q⟩;unfold g2 at e
   split at e
   . obtain ⟨c,e1,e2⟩:=jd e;obtain ⟨a,xs,rfl,L,N⟩:=r.ik;obtain ⟨O,p,rfl,U,Y⟩:=N.ak;refine ⟨a,_,rfl,.of L,rfl,O,[p],rfl,G,o,m,_,c,k,U,e1,λZ k1 w=>⟨p,[],rfl,G,o,c,_,g,k1,w.rep k Y,e2,λn k2 f2=>⟨rfl,q n k2 (w.trans f2)⟩⟩⟩
   . cases e)
def tH (f:TF) (t:Tx):Sl->aj ba:=λa=>f a>>=λd=>t d a>>=λc=> .ok (.nx c)
def jiV {a:Pos} (j:DE X .s e f) (m:DG X B t) (n:swapsWithSole [B] e a.line X.env=pure false:=by rfl) (hw:swappedStores [B] e X.env=pure none:=by rfl)
   (p:(pe [B] X.env).map (·.2)=[assign B X.env]:=by rfl):DS X (.Assign [B] e a) (tH f t):=by
 with_unfolding_all exact (
  PS.imp (Sh j m n hw p) λE L H=>by
   rintro ⟨G,i,c,o,k,u,q⟩;obtain ⟨d,e1,e2⟩:=jd u;obtain ⟨g,w,y⟩:=jd e2;cases y
   exact ⟨G,i,c,d,k,e1,λv z s r _=>⟨G,i,c,d,g,k.ao s,r,w,λh I J=>q h z I (J.ao s)⟩⟩)
def bn (c:D->Sl->aj ba):List D->Sl->aj ba
 | [],g=> .ok (.nx g)
 |d::ds,g=>c d g>>=λo=>match o with
  | .nx a=>bn c ds a
  | .ct a=>bn c ds a
  | .bk a=> .ok (.nx a)
  | .rt h d=> .ok (.rt h d)
def qm (t:Tx) (g:TC):D->Sl->aj ba:=λd a=>t d a>>=g
def dz (f:TB) (t:Tx) (g:TC):Sl->aj ba:=λa=>f a>>=λds=>bn (qm t g) ds a
def zu (U:PassesOwn (model X.prog X.w) X.A X.env X.xe) (hc:X.cF=true) (hi:DI X B e fi) (hg:DG X B t) (hb:ma X L g)
   (hs: ∀x,u1 e X.env x=pure x:=by intro _;rfl):DS X (.For B e L [] pos) (dz fi t g):=by
 with_unfolding_all exact (
  PS.imp (Mx U hc hi hg hb hs) λE σ H=>by
   rintro ⟨G,N,u,o,k,ef,q⟩;obtain ⟨ds,e1,e2⟩:=jd ef;refine ⟨G,N,u,ds,k,e1,λJ H1 P sm wk p0 Aw=>?_⟩;have k1:=k.ao sm;have q1:=wR (bK.refl sm) q;refine ⟨λi m j w=>m=ds.length-i/\i<=ds.length/\ ∃c,aB X.K G N c j w/\bK u σ H1 c j w/\bn (qm t g) (ds.drop i) c= .ok o,⟨ds.length,by simp,i5 _,u,k1,bK.refl (al.refl H1),by simpa using e2⟩,?_⟩;rintro i m j w ⟨rfl,hi,c,k',O,Y⟩;obtain ⟨w1,w2,w3⟩:=wk i w (Aw c j w O)
   by_cases hd:i<ds.length
   . refine .inr ⟨w1 hd,?_⟩;rw [GR hd] at Y;obtain ⟨o1,e3,Z⟩:=jd Y;obtain ⟨v,e5,e6⟩:=jd e3;refine ⟨λh H2=>ds.length-(i+1)=ds.length-(i+1)/\i+1<=ds.length/\ ∃a,aB X.K G N a h H2/\bK u σ H1 a h H2/\bn (qm t g) (ds.drop (i+1)) a= .ok o,λh H2 z=>⟨ds.length-(i+1),by omega,z⟩,λx H2 y=>?_⟩
     obtain ⟨Q,rd⟩:al w H2/\aL X.K (Sf G c j) H2 x ds[i]:=by
      rcases w2 _ (cH hd) x H2 y with ⟨rfl,rd⟩| ⟨p,vs,es,U,rfl,rfl,ed,Co⟩
      . exact ⟨al.refl _,O.rep k1 rd⟩
      . refine ⟨al.aU U,?_⟩;rw [ed];exact .ap jy ((O.Ck k1 Co).ao (al.aU U))
     refine ⟨G,N,c,ds[i],v,k'.ao Q,rd,e5,λCp GS GU=>⟨G,N,v,o1,GS,e6,?_⟩⟩;have I:=(O.trans (bK.refl Q)).trans GU
     cases o1 with
     |nx a=>exact λh H3 n r=>⟨rfl,hd,a,n,I.trans r,Z⟩
     |ct a=>exact λh H3 n r=>⟨rfl,hd,a,n,I.trans r,Z⟩
     |bk a=>cases Z;exact λh H3 n r=>q1 h H3 n (I.trans r)
     |rt fr dd=>cases Z;exact q1
   . have he:i=ds.length:=by omega
     refine .inl ⟨w3 (by omega),?_⟩;rw [GV (by omega)] at Y;cases Y
     exact q1 j w k' O)
def za (n:Nat) (t:TD) (g:TC):Sl->aj ba:=λc=>match n with
 |0=> .ai
 |n+1=>t c>>=λb=>if b=true then g c>>=λo=>match o with
   | .nx a=>za n t g a
   | .ct a=>za n t g a
   | .bk a=> .ok (.nx a)
   | .rt h d=> .ok (.rt h d)
  else .ok (.nx c)
def XA (n:Nat) (hp:PassesOwn (model X.prog X.w) X.A X.env X.xe) (hc:DT X c t) (hb:ma X w g):DS X (.While c w [] pos) (za n t g):=by
 with_unfolding_all exact (
  PS.imp (Sm hp hc hb) λE Q H=>by
   rintro ⟨G,y,u,o,k,ef,q⟩;refine ⟨λm r L=> ∃h,aB X.K G y h r L/\bK u Q H h r L/\za m t g h= .ok o,⟨n,u,k,bK.refl (al.refl H),ef⟩,?_⟩;rintro m r L ⟨h,N,U,Y⟩
   cases m with
   |zero=>cases Y
   |succ m=>
    obtain ⟨b,e1,e2⟩:=jd Y;refine ⟨G,y,h,b,N,e1,λH1 I=>?_⟩
    cases b with
    |false=>
     rw [if_neg h8] at e2 ⊢;cases e2;exact q r H1 (N.ao I) (U.trans (bK.refl I))
    |true=>
     rw [if_pos rfl] at e2 ⊢;obtain ⟨Z,e3,J⟩:=jd e2;refine ⟨λi H2=> ∃a,aB X.K G y a i H2/\bK u Q H a i H2/\za m t g a= .ok o,λi H2 z=>⟨m,D2 m,z⟩,G,y,h,Z,N.ao I,e3,?_⟩;have v:=U.trans (bK.refl I)
     cases Z with
     |nx a=>exact λi O j p=>⟨a,j,v.trans p,J⟩
     |ct a=>exact λi O j p=>⟨a,j,v.trans p,J⟩
     |bk a=>cases J;exact λi O j p=>q i O j (v.trans p)
     |rt fr dd=>cases J;exact q)
end
def dn (i:Nat) (a:Sl):Sl:=match a[i]? with
 |some (.aw d)=>a.set i (.aa d)
 |_=>a
def Yp (h:qr (dn i c) l a):qr c l a:=by
 unfold dn at h
 split at h
 . rename_i d hd;obtain ⟨j,e,g,m⟩:=h
   by_cases z:i=j
   . subst z;obtain ⟨q,_⟩:=jE g;cases q
   . rw [jr z] at g;exact ⟨j,e,g,m⟩
 . exact h
def aB.dn {K:aG} (i:Nat) (k:aB K G I env r H):aB K G I (dn i env) r H:=by
 have w: ∀a,Sf G env r a->Sf G (M.dn i env) r a:=λa n=>⟨λo=>n.1 (Yp o),n.2⟩
 cases l:env[i]? with
 |none=>
  have e:M.dn i env=env:=by unfold M.dn;rw [l]
  rw [e];exact k
 |some s=>
  cases s with
  |un=>
   have e:M.dn i env=env:=by unfold M.dn;rw [l]
   rw [e];exact k
  |aa d=>
   have e:M.dn i env=env:=by unfold M.dn;rw [l]
   rw [e];exact k
  |aw d=>
   have e:M.dn i env=env.set i (.aa d):=by unfold M.dn;rw [l]
   obtain ⟨a,u,J,L⟩:=k.aw i d l
   have B:GH (M.dn i env) r a:=by
     rintro ⟨j,m,g,p⟩;rw [e] at g
     by_cases z:i=j
     . subst z;obtain ⟨q,_⟩:=jE g;cases q
     . rw [jr z] at g;exact z (k.sM i j d m a l g u p)
   rw [e] at w B ⊢;refine ⟨by simp [k.len],k.ae,k.g0,λj m h=>?_,λj m h=>?_,λj E N O b g p Q U=>?_⟩
   . by_cases z:i=j
     . subst z;obtain ⟨q,hl⟩:=jE h;cases q;exact ⟨_,u,L.rep (λc z=>⟨w c z,Yq k l u c z⟩) ⟨B,k.g0 a J⟩⟩
     . rw [jr z] at h;obtain ⟨v,y,g2⟩:=k.aa j m h;exact ⟨v,y,g2.aQ w⟩
   . by_cases z:i=j
     . subst z;obtain ⟨q,hl⟩:=jE h;cases q
     . rw [jr z] at h;obtain ⟨v,y,g0,g2⟩:=k.aw j m h;exact ⟨v,y,g0,g2.bq (λ_ _ e _=>e) w λ_ e=>e⟩
   . have Y:i≠j:=λz=>by subst z;obtain ⟨q,_⟩:=jE g;cases q
     have Z:i≠E:=λz=>by subst z;obtain ⟨q,_⟩:=jE p;cases q
     rw [jr Y] at g;rw [jr Z] at p;exact k.sM j E N O b g p Q U
def lP (i:Nat) (g:TC):Sl->aj ba:=λa=>g (dn i a)
def WC (i:Nat) {st:Stmt} (h:DS X st g):DS X st (lP i g):=by
 with_unfolding_all exact (PS.imp h λE c H=>by
  rintro ⟨G,j,a,o,k,l,q⟩;refine ⟨G,j,dn i a,o,k.dn i,l,?_⟩;have f:bK a c H (dn i a) c H:=⟨λ_ _ e _=>e,λb o=> .inl (Yp o),λ_ e=>e⟩
  exact wR f q)
end M
namespace PySem.AutoSeq1
open PySem Builtin
def gK (l:Addr) (c:Array Value) (n:Nat) (b:Addr) (a:Array Value) (m:Nat) (dd:Option Addr) (o:Array (Option Value)) (p: ¬(!c.isEmpty&&D7 (c.size+a.size))=true) (q:c.size<=aV) (e:c.size+a.size<=aV+1):
  Meets (ms.«list.extend» ⟨[.ref l,.ref b],[]⟩) (λ_ R s=>s.heap.get? l=some {cls:= .type "list",dict:=none,data:= .seq c n,slots:= #[]}/\s.heap.get? b=some {cls:= .type "tuple",dict:=dd,data:= .seq a m,slots:=o}/\R (.ok (.ret oP)) {s with heap:=s.heap.update l (vu λx=>x++a),toks:=s.toks}):=
 .of_wp λi w A R s h=>by
  obtain ⟨v,g,d,tk,os⟩:=s;obtain ⟨j,r,h⟩:=h;have y:=idx_int;have z:=sub_tuple_tuple;have B:=sub_list_list;have E:=sub_tuple_list;have H:=sub_list_tuple;
  have u:(c++a).size<=aV+1:=by rw [Array.size_append];exact e
  wp_walk using (wpAny_updateSeq j rfl),Cq j,Cq r;exact ⟨_,rfl,h⟩
end PySem.AutoSeq1
namespace M
open PySem PySem.Spec L2
open PyProof.Rows hiding St
section
variable {X:Cx}
def jcy:V->List V->Hp->VK->Prop:=λx e H Q=> ∃l b a c,x= .ref l/\e=[.ref b]/\H l=some (.ah a)/\H b=some (.ap c)/\a.length+c.length<=aV/\Q .aW (aU H l (.ah (a++c)))
def ve:Cd X "list.extend" jcy:=by
 intro w s σ H x vs v us Q I E J h;obtain ⟨l,b,xs,zs,rfl,rfl,y,L,hz,q⟩:=h;cases E;obtain ⟨u,rfl,N⟩:=J.one;cases N;obtain ⟨z,c,n,r,hl,e⟩:=I.nB y;obtain ⟨a,B,⟨ob,e2,O,U,hd⟩,z2⟩:=I.tuple (.of L);have Y:=B.length;obtain ⟨c2,i,Z,j⟩:=ob;have m:=O;have o:=hd;subst m o;have p:c.toArray.size+a.toArray.size<=aV:=by rw [dq,dq];omega
 have g: ¬(!c.toArray.isEmpty&&D7 (c.toArray.size+a.toArray.size))=true:=by
  rw [VY p,Bool.and_false];exact h8
 refine Bq Gs ⟨_,e,rfl⟩ F.entry_list_extend (F.args_list_extend_2 _ _)
  (AutoSeq1.gK l c.toArray n b a.toArray U i j g (by rw [dq];omega) (by omega)) ⟨e,e2,?_⟩
 refine ⟨.aW,_,I.rH y e (by simp) (r.append B) ?_,rfl,q⟩;rw [iE];omega
def Qe (l:c[i]?=some (.aw d)):qr (c.set i (.aw m)) n a↔qr c n a:=by
 have o:=(m9.mp l).1
 constructor
 . rintro ⟨j,e,h,g⟩
   by_cases z:i=j
   . subst z;exact ⟨i,d,l,g⟩
   . rw [jr z] at h;exact ⟨j,e,h,g⟩
 . rintro ⟨j,e,h,g⟩
   by_cases z:i=j
   . subst z;exact ⟨i,m,y4 o,g⟩
   . exact ⟨j,e,by rw [jr z];exact h,g⟩
def aB.mF {K:aG} (k:aB K G U env g H) (p:env[i]?=some (.aw d0)) (B:g[i]?=some (some (.ref a))) (Y:H a=some Z) (hm:qp (some Z))
   (top: ∀(N:VC) (J:Hp),iS (Sf G env g) H J->J a=some o'->(∀b,Sf G env g b->N b)->Top K N J a I):aB K G U (env.set i (.aw I)) g (aU H a o')/\bK env g H (env.set i (.aw I)) g (aU H a o'):=by
 have hl:=(m9.mp p).1;have O:qr env g a:=⟨i,_,p,B⟩
 have st:iS (Sf G env g) H (aU H a o'):=λc o e m=>by
   rw [jR ?_]
   . exact e
   . rintro rfl;rw [Y] at e;cases e;exact (m hm).1 O
 have w: ∀c,Sf G env g c->Sf G (env.set i (.aw I)) g c:=λc n=>⟨λo=>n.1 ((Qe p).mp o),n.2⟩
 refine ⟨⟨by simp [k.len],λc o e=>?_,k.g0,λj r h=>?_,λj r h=>?_,λj Q r d2 b q1 q2 q3 q4=>?_⟩,⟨λc o e n=>?_,λc o=> .inl ((Qe p).mp o),λc e=>?_⟩⟩
 . have y:c≠a:=by
     rintro rfl;obtain ⟨b,l,E,_⟩:=k.aw i _ p;rw [B] at l;cases l;rw [E] at e;cases e
   rw [jR y];exact k.ae c o e
 . by_cases z:i=j
   . subst z;obtain ⟨q,_⟩:=jE h;cases q
   . rw [jr z] at h;obtain ⟨v,l,L⟩:=k.aa j r h;exact ⟨v,l,L.bq st w⟩
 . by_cases z:i=j
   . subst z;obtain ⟨q,_⟩:=jE h;cases q;obtain ⟨b,l,E,_⟩:=k.aw i _ p;rw [B] at l;cases l;exact ⟨a,B,E,top _ _ st jy w⟩
   . rw [jr z] at h;obtain ⟨b,l,E,L⟩:=k.aw j r h
     have hb:b≠a:=by
       rintro rfl;exact z (k.sM i j _ _ b p h B l)
     exact ⟨b,l,E,L.bq st w λo e=>by rw [jR hb];exact e⟩
 . have u: ∀(j:Nat) (r:D),(env.set i (.aw I))[j]?=some (.aw r)-> ∃d0:D,env[j]?=some (.aw d0):=λj r q=>by
     by_cases z:i=j
     . subst z;exact ⟨_,p⟩
     . rw [jr z] at q;exact ⟨_,q⟩
   obtain ⟨e1,z1⟩:=u j r q1;obtain ⟨e2,z2⟩:=u Q d2 q2;exact k.sM j Q e1 e2 b z1 z2 q3 q4
 . have y:c≠a:=by
     rintro rfl;exact n O
   rw [jR y];exact e
 . by_cases y:c=a
   . subst y;rw [jy] at e;cases e
   . rw [jR y] at e;exact e
def aB.write {K:aG} (k:aB K G h env c H) (j:env[i]?=some (.aw (.ah ds))) (l:c[i]?=some (some (.ref a))) (m:H a=some (.ah n))
  (r:am K (Sf G env c) H g ds'):aB K G h (env.set i (.aw (.ah ds'))) c (aU H a (.ah g))/\bK env c H (env.set i (.aw (.ah ds'))) c (aU H a (.ah g)):=
 k.mF j l m trivial λo p st e w=> .ah e (r.bq st w)
def wQ {K:aG} {i:Nat} (k:aB K G n c g H) (j:c[i]?=some (.aw (.ah ds))): ∃a h,g[i]?=some (some (.ref a))/\H a=some (.ah h)/\am K (Sf G c g) H h ds:=by
 obtain ⟨a,l,o,m⟩:=k.aw i _ j
 cases m with
 |ah e r=>exact ⟨a,_,l,e,r⟩
variable {e:Expr} {f:TF} {l:Lv} {U Z Y p:Pos} {x:Str}
noncomputable def cq (i:Nat) (a:Sl):aj (List D):=match a[i]? with
 |some (.aw (.ah ds))=> .ok ds
 |_=> .ai
def xM (h:cq i a= .ok ds):a[i]?=some (.aw (.ah ds)):=by
 unfold cq at h
 split at h
 . cases h;assumption
 . cases h
def yy (i:Nat) (f:TF):Sl->aj ba:=λa=>cq i a>>=λds=>f a>>=λd=>a4 (ds.length<aV) (.ok (.nx (a.set i (.aw (.ah (ds++[d]))))))
def YU (i:Nat) (N:DE X .s e f) (hN:X.N[i]?=some x:=by rfl) (O:iM X.env.scope x:=by exact jT rfl)
   (hd:Z8 x:=by decide) (r:X8 x:=by decide)
   (g:mz (.Name x p) "append" X.env (eval (.Name x p) X.env)=eval (.Name x p) X.env:=by rfl)
   (j:((gz Z (bB [e] X.env)).all (λx=>!x.1)&&(n6 Z (n8 [] X.env)).all (λx=>x.1.isSome)
    &&decide ([e].length+([]:List l9).length+(if ([]:List l9).isEmpty then 0 else 1)<30))=true:=by exact xy rfl rfl)
   (h:(Y.endLine==Z.line)=true:=by rfl) (y:bB [e] X.env=(false,eval e X.env)::bB [] X.env:=by exact jm rfl) (c:(gz Z (bB [] X.env)).any (·.1)=false:=by exact jH rfl)
   (u:lK (.Call (.Attribute (.Name x p) "append" Y) [e] [] Z) none U.line X.env=pure false:=by rfl):
   DS X (.Expr (.Call (.Attribute (.Name x p) "append" Y) [e] [] Z) U) (yy i f):=by
 with_unfolding_all exact (
  PS.imp (Qb (kP Cr Gq PySem.F.type_list_append Zv (xZ hN O hd r) (j7 N zo y) g j h y c) u) λE Q H=>by
   rintro ⟨G,H0,w,o,k,ef,q⟩;obtain ⟨ds,e1,e2⟩:=jd ef;obtain ⟨d,e3,e4⟩:=jd e2;obtain ⟨hz,e5⟩:=jv e4;cases e5;have z:=xM e1;obtain ⟨a,B,I,J,L⟩:=wQ k z;refine ⟨.ref a,I,.inl ⟨rfl,B,.of J⟩,G,H0,w,d,k,e3,λv H1 n r1 _=>?_⟩;have m:=n _ _ J;refine ⟨a,B,v,rfl,rfl,m,by rw [L.length];exact hz,?_⟩;have W:=(k.ao n).write z I m ((L.ao n).append (.cons r1 .nil))
   exact q Q _ W.1 (W.2.ao n))
def zQ (i:Nat) (f:TF):Sl->aj ba:=λa=>cq i a>>=λds=>f a>>=λd=>match d with
 | .ah c=>a4 (ds.length+c.length<=aV) (.ok (.nx (a.set i (.aw (.ah (ds++c))))))
 | .ap c=>a4 (ds.length+c.length<=aV) (.ok (.nx (a.set i (.aw (.ah (ds++c))))))
 |_=> .ai
def ZR (i:Nat) (he:DE X .s e f) (hN:X.N[i]?=some x:=by rfl) (hv:iM X.env.scope x:=by exact jT rfl)
   (hd:Z8 x:=by decide) (y:X8 x:=by decide)
   (h:mz (.Name x p) "extend" X.env (eval (.Name x p) X.env)=eval (.Name x p) X.env:=by rfl)
   (r:((gz Z (bB [e] X.env)).all (λx=>!x.1)&&(n6 Z (n8 [] X.env)).all (λx=>x.1.isSome)
    &&decide ([e].length+([]:List l9).length+(if ([]:List l9).isEmpty then 0 else 1)<30))=true:=by exact xy rfl rfl)
   (j:(Y.endLine==Z.line)=true:=by rfl) (hs:bB [e] X.env=(false,eval e X.env)::bB [] X.env:=by exact jm rfl) (c:(gz Z (bB [] X.env)).any (·.1)=false:=by exact jH rfl)
   (z:lK (.Call (.Attribute (.Name x p) "extend" Y) [e] [] Z) none U.line X.env=pure false:=by rfl):
   DS X (.Expr (.Call (.Attribute (.Name x p) "extend" Y) [e] [] Z) U) (zQ i f):=by
 with_unfolding_all exact (
  PS.imp (Qb (kP Cr Gs PySem.F.type_list_extend (tu.or Tq ve) (xZ hN hv hd y) (j7 he zo hs) h r j hs c) z) λE σ H=>by
   rintro ⟨G,H0,B,o,k,ef,q⟩;obtain ⟨ds,e1,e2⟩:=jd ef;obtain ⟨d,e3,I⟩:=jd e2;have J:=xM e1;obtain ⟨a,L,N,hx,w⟩:=wQ k J;refine ⟨.ref a,N,.inl ⟨rfl,L,.of hx⟩,G,H0,B,d,k,e3,λv H1 m r1 _=>?_⟩;have g:=m _ _ hx
   cases d with
   |ah es=>
    obtain ⟨O,Q⟩:=jv I;cases Q;obtain ⟨b,ys,rfl,hb,_,u⟩:=r1.fU;have n:=u.low;refine .inl ⟨a,b,L,ys,rfl,rfl,g,hb,by rw [w.length,u.length];exact O,?_⟩;have W:=(k.ao m).write J N g ((w.ao m).append n);exact q σ _ W.1 (W.2.ao m)
   |ap es=>
    obtain ⟨O,Q⟩:=jv I;cases Q;obtain ⟨b,ys,rfl,hb,u⟩:=r1.ik;have n:=u;refine .inr ⟨a,b,L,ys,rfl,rfl,g,hb,by rw [w.length,u.length];exact O,?_⟩;have W:=(k.ao m).write J N g ((w.ao m).append n);exact q σ _ W.1 (W.2.ao m)
   |_=>cases I)
end
def YY (I:Nat->aH->Prop)
  (E: ∀n s,I n s->wpAny (model a w) A (pyNext Y) (λr g=>match r with
   |none=>R (.ok .next) g
   |some v=>wpAny (model a w) A (letOwnedTupleGo e Y v) (λ_ i=>wpAny (model a w) A (assign e o v) (λ_ p=>
    wpAny (model a w) A (forIn N true λc r=>if r=true then do let ok<-isTrue c o (eval c o);pure (El ok) else pure (El r)) (λok j=>
     if ok=true then wpAny (model a w) A (eval O o) (λx q=>
      wpAny (model a w) A (call (.builtin "list.append") [Q,x]) (λ_ u=> ∃m,m<n/\I m u) (λ_ _=>False) q) (λ_ _=>False) j
     else∃m,m<n/\I m j) (λ_ _=>False) p) (λ_ _=>False) i) (λ_ _=>False) g) (λ_ _=>False) s)
  (n:Nat) (h:I n s):oR (model a w) A (.compLoop (.ListComp O [⟨e,iter,N,0⟩] U Z) 0 Y Q o) R s:=by
 refine codeAny_loop rfl I (λn s hI=>?_) n h;refine wpAny_noted ?_;rw [compTurn_list];refine ay (wpAny_standAt (ay (nq (E n s hI) (λr g y=>?_) λ_ _ l=>l.elim)))
 cases r with
 |none=>exact aR y
 |some v=>
  refine ay (nq y (λ_ i B=>?_) λ_ _ l=>l.elim);refine ay (nq B (λ_ p H=>ay (nq H (λok j z=>?_) λ_ _ l=>l.elim)) λ_ _ l=>l.elim)
  cases ok with
  |false=>exact aR ⟨rfl,z⟩
  |true=>
   exact ay (ay (nq z (λx q J=>ay (nq J (λ_ u L=>aR (aR ⟨rfl,L⟩)) λ_ _ l=>l.elim)) λ_ _ l=>l.elim))
def GW (X:Cx) (N:List Str) (a:Scope) (c:List (Str×Addr)) (C:Addr) (s:aH) (H:Hp) (e:List Addr):Cx where
 prog:=X.prog
 w:=X.w
 K:=X.K
 mg:=X.mg
 ae:=X.ae
 A:=X.A
 N:=N
 fJ:=s
 rm:=H
 env:=compEnvC a c C X.env
 outer:=X.stack
 stack:=X.stack
 ex:=e
 fn:=λ_=>false
 cF:=true
 pn:=[]
 xe:=λ_ _=>False
@[irreducible] def Ax (X:Cx) (e:List Expr) (c:TD):Prop:=
 ∀(a:List (Addr×Obj)) (s:aH) (g:L2.St) (H:Hp) (Q:Bool->Hp->Prop),aD X a g H s->tT X.K c g H Q->
  wpAny (model X.prog X.w) X.A (forIn e true λc r=>if r=true then do let ok<-isTrue c X.env (eval c X.env);pure (El ok) else pure (El r)) (TP X a g Q) X.xe s
def qF:Sl->aj Bool:=λ_=> .ok true
def xi:Ax X [] qF:=by
 with_unfolding_all exact (λa s g H Q I ⟨G,h,c,b,k,e,q⟩=>by
  cases e
  exact wpAny_tests_nil ⟨H,I,q H (al.refl H)⟩)
def jgC (h:DT X c g):Ax X [c] g:=by
 with_unfolding_all exact (λa s e H Q I q=>wpAny_tests_one (h a s e H Q I q))
def q8 (n:Nat) (t:Tx) (c:TD) (h:TF):List D->Sl->aj Sl
 | [],e=> .ok e
 |d::ds,e=>t d e>>=λa=>c a>>=λb=>if b=true
  then h a>>=λv=>cq n a>>=λg=>a4 (g.length<aV) (q8 n t c h ds (a.set n (.aw (.ah (g++[v])))))
  else q8 n t c h ds a
noncomputable def oz (c:Bool) (a:Sl) (j:Nat):Slot:=match a[j]? with
 |some (.aa d)=> .aa d
 |some (.aw d)=>if c=true then .aa d else .un
 |_=> .un
def wI (c:Bool) (m:Nat) (e:List Nat) (a:Sl):Sl:=B4 m .un++e.map (oz c a)++[.aw (.ah [])]
def zE (i:Bool) (m:Nat) (h:List Nat) (j:TB) (t:Tx) (c:TD) (l:TF):Sl->aj D:=λa=>
 j a>>=λds=>q8 (m+h.length) t c l ds (wI i m h a)>>=λe=>cq (m+h.length) e>>=λg=>a4 (i=true->D.iQ g=true) (.ok (.ah g))
def xB (m:Nat) (c:List Nat) (e:L2.St) (a:Addr):L2.St:=B4 m none++c.map (λj=>(e[j]?).join)++[some (.ref a)]
theorem wu {a:Env}: ∀ {names:List (Str×NameKind)} {x:Str} {k:NameKind},
  (names.map λ(n,k)=>if (k==Ay&&a.scope.kind== .function&&a.kindOf n==some .cell) then (n,Az) else (n,k)).lookup x=some k-> ∃g,(x,g)∈names/\(k=g\/g= .free)
 | [],_,_,h=>by simp at h
 | (n,g)::r,x,k,h=>by
  have c:i4 x ((if (g==Ay&&a.scope.kind== .function&&a.kindOf n==some .cell)=true then (n,Az) else (n,g))::(r.map λ(n,k)=>if (k==Ay&&a.scope.kind== .function&&a.kindOf n==some .cell) then (n,Az) else (n,k)))=some k:=h
  by_cases j:(g==Ay&&a.scope.kind== .function&&a.kindOf n==some .cell)=true
  . rw [if_pos j] at c;simp only [rN] at c
    cases i:x==n with
    |true=>
     rw [i] at c;have e:x=n:=by simpa using i
     subst e;refine ⟨g,ez,.inr ?_⟩;simp at j;exact j.1.1
    |false=>
     rw [i] at c;obtain ⟨l,m,o⟩:=wu c;exact ⟨l,dZ _ m,o⟩
  . rw [if_neg j] at c;simp only [rN] at c
    cases i:x==n with
    |true=>
     rw [i] at c;have e:x=n:=by simpa using i
     subst e;cases c;exact ⟨_,ez,.inl rfl⟩
    |false=>
     rw [i] at c;obtain ⟨l,m,o⟩:=wu c;exact ⟨l,dZ _ m,o⟩
noncomputable def vQ (z:Option Str) (a:List (Str×Addr)) (C:Addr):List (Str×Addr):=match z with
 |none=>a
 |some y=>(y,C+1)::a
def GX (z:Option Str) (h:Heap):Heap:=match z with
 |none=>h
 |some _=>h.push {cls:= .type "cell",data:= .cell none}
abbrev qa (z:Option Str) (X:Cx) (N:List Str) (a:Scope) (c:List (Str×Addr)) (C:Addr) (s:aH) (H:Hp) (e:List Addr):Cx:={GW X N a (vQ z c C) C s H e with fn:=λx=>some x==z}
def tJ (h:i4 x (vQ z a C)=some c):(z=some x/\c=C+1)\/(z≠some x/\a.lookup x=some c):=by
 cases z with
 |none=>exact .inr ⟨nofun,h⟩
 |some z=>
  have h:i4 x ((z,C+1)::a)=some c:=h;rw [rN] at h
  cases e:x==z with
  |true=>rw [e] at h;cases h;exact .inl ⟨by rw [show x=z by simpa using e],rfl⟩
  |false=>rw [e] at h;exact .inr ⟨λq=>by simp at e;exact e (ie q).symm,h⟩
def Bt (e:z≠some x) (h:a.lookup x=some c):i4 x (vQ z a C)=some c:=by
 cases z with
 |none=>exact h
 |some z=>
  show i4 x ((z,C+1)::a)=some c;rw [rN,show (x==z)=false by simpa using λq=>e (by rw [q])];exact h
def vc {code:Value}
  (made: ∀n,cellsFrom (n+1) a.names q=vQ z q n) (g: ∀h,pushCells h a.names=GX z h)
  (v: ∀p,p.Ns s.heap.objs.size (λ_=>none)->(∀b o,s.heap.get? b=some o->p.get? b=some o)->(∀y,z=some y->p.IsCell (s.heap.objs.size+1) none)->Q (newEnv a s.heap.objs.size globals (vQ z q s.heap.objs.size) j l code (some i) c) {s with heap:=p}):
  wpAny M A (newFunctionEnv a globals q [] j l code (some i) c) Q E s:=by
 simp only [newFunctionEnv,Option.isSome_some,if_true];refine ay (wpAny_alloc ?_);refine ay (wpAny_layCells _ (λname m r=>by cases u:m==Az<;>simp [u]) _ _ _ _ ?_);have w:(s.heap.push {cls:= .type "dict",data:= .dict #[]}).objs.size=s.heap.objs.size+1:=Bk ..;have B:=made s.heap.objs.size;rw [<-w] at B;rw [B,g];simp;refine aR ?_;have H:=Heap.Ns.new s.heap (.type "dict")
 cases z with
 |none=>exact v _ H (λb o e=>dc _ e) nofun
 |some z=>
  refine v ((s.heap.push {cls:= .type "dict",data:= .dict #[]}).push {cls:= .type "cell",data:= .cell none}) (H.keeps λb o e=>dc _ e) (λb o e=>dc _ (dc _ e)) λ_ _=>⟨_,by rw [<-w];exact gp _ rfl,rfl⟩
structure gL (z:Option Str) (X:Cx) (scope:Scope) (cl:List (Str×Addr)) (N:List Str) (m:Nat) (js:List Nat):Prop where
 GY:closureFor scope X.env=pure cl
 kind:scope.kind= .function
 names: ∀x∈scope.names,x.2= .local->scope.names.lookup x.1=some .local
 AA: ∀y∈scope.names,y.2= .cell->z=some y.1
 made: ∀n,cellsFrom (n+1) scope.names cl=vQ z cl n
 AB: ∀h,pushCells h scope.names=GX z h
 zk: ∀y,z=some y->scope.names.lookup y=some .cell
 cls: ∀x c,cl.lookup x=some c->X.env.cells.lookup x=some c
 free: ∀y∈scope.names,y.2= .free-> ∃c,cl.lookup y.1=some c
 nd:N.Nodup
 len:N.length=m+js.length+1
 cap: ∀(k j:Nat),js[k]?=some j-> ∃y,N[m+k]?=some y/\X.N[j]?=some y/\(X.env.scope.names.lookup y=some .cell\/X.env.scope.names.lookup y=some .free)/\scope.names.lookup y=some .free
 last: ∀y,N[m+js.length]?=some y-> ∀p∈scope.names,p.1≠y
section
variable {X:Cx} {tg iter elt:Expr} {ifs:List Expr} {O:Scope} {cl:List (Str×Addr)} {N:List Str} {m:Nat} {L:List Nat} {pos:Pos} {g:Bool} {z:Option Str}
 {fi:TB} {t:Tx} {c:TD} {fe:TF}
def jgR {σ:L2.St} {C:Addr} {J:List Addr} (S:gL z X O cl N m L) (Q:X.cF=true) (I:aD X r σ H s) (w:s.heap.objs.size<=C) (E: ∀b∈J,fT X r H b) (B: ∀b∈J,b<s.heap.objs.size):
  (qa z X N O cl C s H J).Ok where
 mod:=I.ok.mod
 kind:=S.kind
 glob:=I.ok.glob
 blt:=I.ok.blt
 above:=w
 inj:=λx y c i a=>by
  have no: ∀u,X.env.cells.lookup u=some (C+1)->False:=λu e=>by
    obtain ⟨v,o,ho,_⟩:=I.cell u _ e;exact absurd (cL ho) (Nat.not_lt_of_le (dw w (rF _)))
  rcases tJ i with ⟨ex,U⟩| ⟨_,Y⟩
  . rcases tJ a with ⟨Z,_⟩| ⟨_,g2⟩
    . rw [ex] at Z;exact ie Z
    . rw [U] at g2;exact (no _ (S.cls _ _ g2)).elim
  . rcases tJ a with ⟨Z,U⟩| ⟨_,g2⟩
    . rw [U] at Y;exact (no _ (S.cls _ _ Y)).elim
    . exact I.ok.inj x y c (S.cls x c Y) (S.cls y c g2)
 has:=λx h=>by
  have mem:z=some x\/ ∃l,(x,l)∈O.names/\l= .free:=by
    rcases h with h|h<;>obtain ⟨l,i,a⟩:=wu h
    . rcases a with z|z
      . exact .inl (S.AA _ i z.symm)
      . exact .inr ⟨l,i,z⟩
    . rcases a with z|z
      . exact .inr ⟨l,i,z.symm⟩
      . exact .inr ⟨l,i,z⟩
  by_cases p:z=some x
  . subst p;exact ⟨C+1,by show i4 x ((x,C+1)::cl)=_;simp [rN]⟩
  . obtain ⟨l,i,a⟩:=mem.resolve_left p;obtain ⟨c,Q⟩:=S.free _ i a;exact ⟨c,Bt p Q⟩
 sR:=λx c h a=>by
  have e:some x=z:=by simpa using h
  rcases tJ a with ⟨_,rfl⟩| ⟨n,_⟩
  . exact dw w (rF _)
  . exact (n e.symm).elim
 hd:=λ_=>I.ok.hd Q
 frames:=I.ok.frames
 ub:= .inl rfl
 ur:=λb j=>⟨λz=>absurd (gT (B b j) (by rw [z];exact w)) (rj _),λx c h=>by
  rcases tJ h with ⟨_,rfl⟩| ⟨_,h⟩
  . exact λe=>absurd (B b j) (Nat.not_lt_of_le (by rw [<-e];exact dw w (rF _)))
  . exact (E b j).2.2.2.2.1 x c (S.cls x c h)⟩
 bs:=I.bs
 o9:=dw I.ok.o9 I.sz
 mu:=λb o e j=>by
  rcases (E b j).2.2.2.1 with z|z
  . exact I.ok.mu b o e z
  . exact absurd (gT (cL e) (dw I.ok.o9 z)) (rj _)
 mw:=λb j z=>by
  rcases dk.mp (I.mx b z) with q|q
  . exact (E b j).2.1 q
  . exact (E b j).2.2.1 q
 gA:=I.stack
 ro:=I.gV
def M3 (h:oz g a j= .aw d):False:=by
 unfold oz at h
 split at h
 . cases h
 . split at h<;>cases h
 . cases h
def vC (h:qr (wI g m L p) (xB m L q a) b):b=a:=by
 obtain ⟨i,d,h,l⟩:=h
 have r:i=m+L.length:=by
  unfold wI at h
  by_cases o:i<m
  . rw [nH,nz (by simpa using o),va] at h
    split at h<;>cases h
  . rw [nH,lF (by simpa using o)] at h;simp at h
    by_cases l:i-m<L.length
    . rw [nz (by simpa using l),jF] at h
      cases e:L[i-m]? with
      |none=>rw [e] at h;cases h
      |some j=>
        rw [e] at h;have u:=ie h;exact (M3 u).elim
    . rw [lF (by simpa using l)] at h;simp at h
      by_cases v:i-m-L.length=0
      . omega
      . rw [oO (by simp;omega)] at h;cases h
 subst r
 have n:(xB m L q a)[m+L.length]?=some (some (.ref a)):=by
  unfold xB;rw [nH,lF (by simp),lF (by simp)];simp
 rw [n] at l;cases l;rfl
abbrev Gc (g:Bool) (G:VC) (a:Sl) (e:L2.St):Addr->Prop:=λc=>G c/\(g=false-> ¬qr a e c)
def jdB {K:aG} (k:aB K G H0 l p H) (Q:H a=none):
   aB K (Gc g G l p) H (wI g m L l) (xB m L p a) (aU H a (.ah [])):=by
 have n: ∀(i:Nat) (d:D),(wI g m L l)[i]?=some (.aw d)->i=m+L.length/\d= .ah []:=λi d h=>by
   unfold wI at h
   by_cases u:i<m
   . rw [nH,nz (by simpa using u),va] at h
     split at h<;>cases h
   . rw [nH,lF (by simpa using u)] at h;simp at h
     by_cases q:i-m<L.length
     . rw [nz (by simpa using q),jF] at h
       cases e:L[i-m]? with
       |none=>rw [e] at h;cases h
       |some j=>
         rw [e] at h;have w:=ie h;exact (M3 w).elim
     . rw [lF (by simpa using q)] at h;simp at h
       by_cases y:i-m-L.length=0
       . rw [y] at h;cases h;exact ⟨by omega,rfl⟩
       . rw [oO (by simp;omega)] at h;cases h
 have B:(xB m L p a)[m+L.length]?=some (some (.ref a)):=by
   unfold xB;rw [nH,lF (by simp),lF (by simp)];simp
 have E: ∀b,qr (wI g m L l) (xB m L p a) b->b=a:=λb ⟨i,d,u,q⟩=>by
   obtain ⟨rfl,rfl⟩:=n i d u;rw [B] at q;cases q;rfl
 have Z:al H (aU H a (.ah [])):=al.aU Q;refine ⟨by simp [wI,xB],Z,λc z=>⟨(k.new c z).2,λ_=>(k.new c z).1⟩,λi d h=>?_,λi d h=>?_,λi j d e b u q y J=>(n i d u).1.trans (n j e q).1.symm⟩
 . unfold wI at h
   by_cases u:i<m
   . rw [nH,nz (by simpa using u),va] at h
     split at h<;>cases h
   . rw [nH,lF (by simpa using u)] at h;simp at h
     by_cases q:i-m<L.length
     . rw [nz (by simpa using q),jF] at h
       cases e:L[i-m]? with
       |none=>rw [e] at h;cases h
       |some j=>
         rw [e] at h;have w:=ie h
         have U:(xB m L p a)[i]?=some ((p[j]?).join):=by
           unfold xB;rw [nH,lF (by simpa using u)];simp;rw [nz (by simpa using q),jF,e];rfl
         have I: ∀v,p[j]?=some (some v)->aL K (Gc g G l p) H v d-> ∃v,(xB m L p a)[i]?=some (some v)/\aL K (Sf (Gc g G l p) (wI g m L l) (xB m L p a)) (aU H a (.ah [])) v d:=λv e1 r=>by
           refine ⟨v,by rw [U,e1];rfl,(r.dL.ao Z).aQ λb z=>⟨λo=>?_,z.1⟩⟩;rw [E b o] at z;exact z.2 Q
         unfold oz at w
         split at w
         . rename_i d' hd;cases w;obtain ⟨v,y,J⟩:=k.aa j d hd;exact I v y (J.aQ λc z=>⟨z.2,λ_=>z.1⟩)
         . rename_i d' hd
           split at w
           . rename_i Y;cases w;obtain ⟨v,y,h0,J⟩:=k.aw j d hd;exact I _ y (J.rep (λc z=>⟨⟨z.2,λ_=>z.1⟩,Yq k hd y c z⟩) ⟨k.g0 _ h0,λz=>by rw [Y] at z;cases z⟩)
           . cases w
         . cases w
     . rw [lF (by simpa using q)] at h;simp at h
       by_cases y:i-m-L.length=0
       . rw [y] at h;cases h
       . rw [oO (by simp;omega)] at h;cases h
 . obtain ⟨rfl,rfl⟩:=n i d h;exact ⟨a,B,Q,.ah jy .nil⟩
def YX (use:Option (Value->Sem Unit)) (Q':T9) (g:Bool) (N:List Str) (m:Nat) (L:List Nat) (S:gL z X O cl N m L) (hc:X.cF=true) (hi:PI X tg iter (tI X.K fi))
   (hb: ∀(C:Addr) (s:aH) (H:Hp) (fp:List Addr),PG (qa z X N O cl C s H fp) tg (tG X.K t)/\Ax (qa z X N O cl C s H fp) ifs c/\PE (qa z X N O cl C s H fp) elt (tE X.K .s fe))
   (hs: ∀x,u1 iter X.env x=pure x) {pins:List (Addr×Obj)} {Z:L2.St} {H:Hp} (I:aD X pins Z H s) (k:aB X.K G H0 E Z H) (ef:zE g m L fi t c fe E= .ok d)
   (GZ: ∀(a C:Addr) (s':aH) (Y:Hp) (mm:X7) (r:Flow),s'.heap.Ns C mm->(∀h',rA C s'.heap h'->aD X pins Z Y {s' with heap:=h'})->fT X pins Y C->al H Y->aL X.K (Sf G E Z) Y (.ref a) d->br H (.ref a)->compPost (model X.prog X.w) X.A X.xe use Q' (.ref a) C (.ok r) s'):
   wpAny (model X.prog X.w) X.A (comprehension (.ListComp elt [⟨tg,iter,ifs,0⟩] O pos) O X.env (firstIterPos [⟨tg,iter,ifs,0⟩] pos) (newList []) (firstAsync [⟨tg,iter,ifs,0⟩]) (firstIter [⟨tg,iter,ifs,0⟩] X.env) use) Q' X.xe s:=by
 with_unfolding_all exact (by
  obtain ⟨ds,e1,ef⟩:=jd ef;obtain ⟨AC,e2,ef⟩:=jd ef;obtain ⟨afO,e3,e4⟩:=jd ef;obtain ⟨G0,e4⟩:=jv e4;cases e4;refine wpAny_comprehension_free rfl hs S.GY S.kind S.names ?_;refine bv (hi pins s Z H (λJ H1=> ∃P,al H H1/\GQ X.K (Sf G E Z) H1 J ds P/\P H1/\ ∀w Q Y,bK E Z H1 w Q Y->P Y) I ⟨G,H0,E,ds,k,e1,λJ H1 P a b c' d'=>⟨P,a,b,c',d'⟩⟩) λv s1 h1=>bv h1 λSu s2 h2=>?_
  obtain ⟨it,fp,tn,J,H2,rfl,I2,T,BR,f2,P,sm,wk,p0,Aw⟩:=h2;have k2:=k.ao sm;refine rE (vc S.made S.AB (λAD rO rP rQ=>?_));dsimp only at rO rP rQ ⊢;have AE:=I2.a7.fresh (bf _)
  let a:=s2.heap.objs.size
  have ha:=AE;have I3:=I2.Ce (t':=s2.toks) .nil (i5 _)
  let s3:aH:={s2 with heap:=s2.heap.push {cls:= .type "list",dict:=none,data:= .seq ([]:List Value).toArray}}
  let C:=s3.heap.objs.size
  have f3: ∀b∈fp,fT X pins (aU H2 a (.ah [])) b:=λb l=>by
   obtain ⟨z0,z⟩:=f2 b l;refine ⟨?_,z⟩
   have Ci:b≠a:=by
     obtain ⟨o,ho,_⟩:=T.obj 0 _ BR b l;exact dH (cL ho)
   rw [jR Ci];exact z0
  have G1: ∀b∈fp,b<s3.heap.objs.size:=λb l=>by
   obtain ⟨o,ho,_⟩:=T.obj 0 _ BR b l;refine gT (cL ho) ?_;rw [Bk];exact rF _
  have XO:=jgR S hc I3 (bf _) f3 G1;obtain ⟨DGt,DTc,DEe⟩:=hb C s3 (aU H2 a (.ah [])) fp;have old: ∀b o,s3.heap.get? b=some o->AD.get? b=some o:=λb o e=>rP b o e
  have I4:aD (qa z X N O cl C s3 (aU H2 a (.ah [])) fp) [] (xB m L Z a) (aU H2 a (.ah [])) {s2 with heap:=AD,toks:=s2.toks+([]:List (Str×Value)).length}:=by
   refine ⟨XO,rfl,I3.bare,Un.kept old,⟨_,rO,λi y v' h1 h2 h3=>?_⟩,λy c' h=>?_,I3.a7.fresh (bf _),λy c' h=>(by
     rcases tJ h with ⟨_,rfl⟩| ⟨_,h⟩
     . exact I3.a7.fresh (rF _)
     . exact I3.dI y c' (S.cls y c' h)),λp hp=>absurd hp (by simp [GW]),I3.a7.kept old,?_⟩
   . --a Cs name
     have G2:N[i]?=some y:=h1;unfold xB at h2
     by_cases q1:i<m
     . rw [nH,nz (by simpa using q1),va] at h2
       split at h2<;>cases h2
     . rw [nH,lF (by simpa using q1)] at h2;simp at h2
       by_cases q2:i-m<L.length
       . rw [nz (by simpa using q2),jF] at h2
         cases e:L[i-m]? with
         |none=>rw [e] at h2;cases h2
         |some j=>
           rw [e] at h2;have Ct:(Z[j]?).join=some v':=ie h2
           have hj:Z[j]?=some (some v'):=by
             cases z:Z[j]? with
             |none=>rw [z] at Ct;cases Ct
             |some w'=>rw [z] at Ct;simp at Ct;rw [Ct]
           obtain ⟨y',g1,g2,g3,g4⟩:=S.cap (i-m) j e
           have ey:y'=y:=by
             rw [show m+(i-m)=i by omega,G2] at g1;exact (ie g1).symm
           subst ey;obtain ⟨mm,hn,hl⟩:=I3.loc
           have vis:iM X.env.scope y':=by
             rcases g3 with z|z
             . exact .inr (.inl z)
             . exact .inr (.inr z)
           obtain ⟨u,ru,lk⟩:=hl j y' v' g2 hj vis;refine ⟨u,ru,.inr ⟨?_,?_⟩⟩
           . rcases h3 with z|z
             . exfalso;obtain ⟨k',m1,m2⟩:=wu z;have Bt:=S.names _ m1;rcases m2 with w'|w'
               . subst w';have:=Bt rfl;rw [g4] at this;cases this
               . subst w'
                 have: ∀ {names:List (Str×NameKind)},names.lookup y'=some .free->(names.map λ(n,k)=>if (k==Ay&&X.env.scope.kind== .function&&X.env.kindOf n==some .cell) then (n,Az) else (n,k)).lookup y'≠some .local:=by
                  intro names
                  induction names with
                  |nil=>intro h;cases h
                  |cons p r ih=>
                   obtain ⟨n,kk⟩:=p;intro h h';have AF:i4 y' ((if (kk==Ay&&X.env.scope.kind== .function&&X.env.kindOf n==some .cell)=true then (n,Az) else (n,kk))::(r.map λ(n,k)=>if (k==Ay&&X.env.scope.kind== .function&&X.env.kindOf n==some .cell) then (n,Az) else (n,k)))=some .local:=h';simp only [rN] at h
                   cases hx:y'==n with
                   |true=>
                    rw [hx] at h;cases h
                    split at AF<;>simp [rN,hx] at AF
                   |false=>
                    rw [hx] at h
                    split at AF<;>(simp only [rN,hx] at AF;exact ih h AF)
                 exact this g4 z
             . exact z
           . rcases lk with ⟨kk,_⟩| ⟨kk,c',Bf,Cu⟩
             . exfalso;have M4:X.env.scope.names.lookup y'=some .local:=kk;rcases g3 with z|z<;>(rw [z] at M4;cases M4)
             . obtain ⟨c2,Em⟩:=S.free (y',.free) (Ac g4) rfl
               have:c2=c':=by
                 have:=S.cls _ _ Em;rw [Bf] at this;exact (ie this).symm
               subst this;obtain ⟨o,ho,hd⟩:=Cu;exact ⟨c2,Bt (λq=>by rw [S.zk _ q] at g4;cases g4) Em,o,old _ _ ho,hd⟩
       . exfalso
         have Cv:i=m+L.length:=by
           have hl:=(m9.mp G2).1;rw [S.len] at hl;omega
         subst Cv;have no:=S.last y G2;rcases h3 with z|z|z<;>
         . obtain ⟨k',m1,_⟩:=wu z;exact no _ m1 rfl
   . rcases tJ h with ⟨q,rfl⟩| ⟨_,h⟩
     . exact ⟨none,rQ _ q⟩
     . obtain ⟨v',o,ho,hd⟩:=I3.cell y c' (S.cls y c' h);exact ⟨v',o,old _ _ ho,hd⟩
   . show (xB m L Z a).length=N.length;rw [S.len];simp [xB];omega
  have kC:aB X.K (Gc g G E Z) H2 (wI g m L E) (xB m L Z a) (aU H2 a (.ah [])):=jdB k2 ha
  have fC: ∀b∈fp,fT (qa z X N O cl C s3 (aU H2 a (.ah [])) fp) [] (aU H2 a (.ah [])) b:=λb l=>by
   obtain ⟨z0,z1,z2,z3,z4,z5⟩:=f3 b l;exact ⟨z0,(XO.ur b l).1,XO.mw b l,.inl l,(XO.ur b l).2,λp hp=>absurd hp (by simp [GW])⟩
  have stC:=T.keep 0 _ _ BR λb l o e=>old b o (dc _ e)
  have loop:oR (model X.prog X.w) X.A (.compLoop (.ListComp elt [⟨tg,iter,ifs,0⟩] O pos) 0 (.ref it) (.ref a) (compEnvC O (vQ z cl C) C X.env))
     (compPost (model X.prog X.w) X.A X.xe use Q' (.ref a) C) {s2 with heap:=AD,toks:=s2.toks+([]:List (Str×Value)).length}:=by
   refine YY (λn s'=> ∃i Q Y w,n=ds.length+1-i/\i<=ds.length/\aD (qa z X N O cl C s3 (aU H2 a (.ah [])) fp) [] Q Y s'/\tn i s'.heap/\(∀b∈fp,Y b=none)/\(∀b,qr w Q b->b=a)/\
       aB X.K (Gc g G E Z) H2 w Q Y/\bK (wI g m L E) (xB m L Z a) (aU H2 a (.ah [])) w Q Y/\q8 (m+L.length) t c fe (ds.drop i) w= .ok AC) ?_ (ds.length+1)
     ⟨0,_,_,_,rfl,i5 _,I4,stC,λb l=>(fC b l).1,?_,kC,bK.refl (al.refl _),by simpa using e2⟩
   . rintro n s' ⟨i,Q,Y,w,rfl,Cv,Ic,st,fr,Cw,kc,fc,ec⟩;have hP:=Aw E Z Y (bK.refl kc.ae);obtain ⟨w1,w2,w3⟩:=wk i Y hP;have G3: ∀ {Y:Hp},(∀b∈fp,Y b=none)-> ∀b∈fp,fT (qa z X N O cl C s3 (aU H2 a (.ah [])) fp) [] Y b:=λhn b l=>⟨hn b l,(fC b l).2⟩
     by_cases de:i<ds.length
     . have hd:i<ds.length:=by omega
       rw [GR hd] at ec;obtain ⟨lQ,e5,ec⟩:=jd ec;obtain ⟨b,e6,ec⟩:=jd ec;refine bv (T.item (qa z X N O cl C s3 (aU H2 a (.ah [])) fp) rfl rfl rfl rfl i [] s' Q Y (λ_ _=>False) Ic (G3 fr) st (w1 de)) λr s4 oy=>?_;obtain ⟨u,hr,h4⟩:=oy
       subst hr;refine bv h4 λ_ s5 oy=>?_;obtain ⟨x,H5,I5,r5,y5,G4,F0⟩:=oy
       have M5: ∀b,(Sf G E Z b/\H2 b≠none)->Sf (Gc g G E Z) w Q b:=λb z=>⟨λo=>(by
         rw [Cw b o] at z
         exact z.2 ha),z.1.2,λ_=>z.1.1⟩
       obtain ⟨Cy,rd'⟩:al Y H5/\aL X.K (Sf (Gc g G E Z) w Q) H5 x ds[i]:=by
         rcases w2 _ (cH hd) x H5 y5 with ⟨rfl,rd⟩| ⟨p,vs,es,hp,rfl,rfl,ed,Co⟩
         . exact ⟨al.refl _,(rd.dL.ao kc.ae).aQ M5⟩
         . refine ⟨al.aU hp,?_⟩;rw [ed];exact .ap jy (((Co.dL.ao kc.ae).aQ M5).ao (al.aU hp))
       have kc5:=kc.ao Cy;have I5':=I5.pinned (G3 F0) (T.obj _ _ G4);refine bv (DGt _ s5 Q H5 x u (λCp Hn=>Hn=H5/\aB X.K (Gc g G E Z) H2 lQ Cp H5/\bK w Q H5 lQ Cp H5) I5' r5 ⟨_,H2,w,ds[i],lQ,kc5,rd',e5,λCp k1 f1=>⟨rfl,k1,f1⟩⟩) λ_ s6 oy=>?_;obtain ⟨zx,H6,I6,z6,k6,M6⟩:=oy
       subst z6
       have G5: ∀b,qr lQ zx b->b=a:=λb o=>by
         rcases M6.more b o with z|z
         . exact Cw b z
         . obtain ⟨uu,hu⟩:=k6.there o;rw [z] at hu;cases hu
       refine bv (DTc _ s6 zx H6 (λb' Hn=>b'=b/\al H6 Hn) I6 ⟨_,H2,lQ,b,k6,e6,λHn sn=>⟨rfl,sn⟩⟩) λok s7 oy=>?_;obtain ⟨H7,I7,z7,M7⟩:=oy
       subst z7;have k7:=k6.ao M7;have M8:=((fc.trans (bK.refl Cy)).trans M6).trans (bK.refl M7)
       have out: ∀ {s8:aH} {Bu:L2.St} {H8:Hp} {pD:Sl},aD (qa z X N O cl C s3 (aU H2 a (.ah [])) fp) ([]++Yl fp s5.heap) Bu H8 s8->(∀b,qr pD Bu b->b=a)->aB X.K (Gc g G E Z) H2 pD Bu H8->
           bK (wI g m L E) (xB m L Z a) (aU H2 a (.ah [])) pD Bu H8->q8 (m+L.length) t c fe (ds.drop (i+1)) pD= .ok AC->
           ∃mm,mm<ds.length+1-i/\ ∃i Q Y w,mm=ds.length+1-i/\i<=ds.length/\aD (qa z X N O cl C s3 (aU H2 a (.ah [])) fp) [] Q Y s8/\tn i s8.heap/\(∀b∈fp,Y b=none)/\(∀b,qr w Q b->b=a)/\
             aB X.K (Gc g G E Z) H2 w Q Y/\bK (wI g m L E) (xB m L Z a) (aU H2 a (.ah [])) w Q Y/\q8 (m+L.length) t c fe (ds.drop i) w= .ok AC:=by
         intro s8 Bu H8 pD I8 ow8 k8 f8 e8;refine ⟨ds.length+1-(i+1),by omega,i+1,Bu,H8,pD,rfl,de,I8.gW,T.keep _ _ _ G4 λb l o e=>(I8.pin (b,o) (pf _ (pf _ (yI l e)))).1,λb l=>?_,ow8,k8,f8,e8⟩;obtain ⟨o,e,_⟩:=T.obj _ _ G4 b l;exact (I8.pin (b,o) (pf _ (pf _ (yI l e)))).2.1
       cases ok with
       |false=>
         rw [if_neg h8] at ec ⊢;exact out I7 G5 k7 M8 ec
       |true=>
         rw [if_pos rfl] at ec ⊢;obtain ⟨vd,e7,ec⟩:=jd ec;obtain ⟨acc,e8,ec⟩:=jd ec;obtain ⟨hz,ec⟩:=jv ec;refine bv (DEe _ s7 zx H7 (λy Hn=>al H7 Hn/\aL X.K (Sf (Gc g G E Z) lQ zx) Hn y vd) I7 ⟨_,H2,lQ,vd,k7,e7,λy Hn sn rn _=>⟨sn,rn⟩⟩) λyv s8 oy=>?_;obtain ⟨y,H8,I8,ry,M9,G6⟩:=oy
         have k8:=k7.ao M9;have En:=xM e8;obtain ⟨a8,Na,Nb,Nc,Nd⟩:=wQ k8 En;have ea:=G5 a8 ⟨_,_,En,Nb⟩;subst ea;have W:=k8.write En Nb Nc (Nd.append (.cons G6 .nil))
         refine bv (Zv _ s8 zx H8 (.ref a) [y] (.ref a) [yv] (λ_ Hn=>Hn=aU H8 a (.ah (Na++[y]))) I8 rfl (.cons ry .nil)
           ⟨a,Na,y,rfl,rfl,Nc,by rw [Nd.length];exact hz,rfl⟩) λ_ s9 ⟨_,H9,I9,_,z9⟩=>?_
         subst z9;exact out I9 (λb o=>G5 b ((Qe En).mp o)) W.1 ((M8.trans (bK.refl M9)).trans W.2) ec
     . have he:i=ds.length:=by omega
       rw [GV (by omega)] at ec;cases ec;refine bv (T.done (qa z X N O cl C s3 (aU H2 a (.ah [])) fp) rfl rfl rfl rfl i [] s' Q Y (λ_ _=>False) Ic (G3 fr) st (w3 (by omega))) λr s4 ⟨hr,I5⟩=>?_
       subst hr;have G7:=xM e3;obtain ⟨aF,xsF,Nf,hxF,Ng⟩:=wQ kc G7;have ea:=Cw aF ⟨_,_,G7,Nf⟩;subst ea;obtain ⟨mm,hn,_⟩:=I5.loc;refine GZ a C s4 Y mm _ hn (λh' Bv=>?_) (I3.jz (bf _) I5.free) (sm.trans kc.ae) (.ah hxF (k.new a (al.free sm ha)) ?_) (qA sm ha)
       rotate_left
       . cases Nh:g with
         |true=>exact Ng.oV (G0 Nh)
         |false=>exact Ng.aQ λc z=>⟨⟨z.2.2 Nh,z.2.1⟩,Yq kc G7 Nf c z⟩
       have nC: ∀b o,Y b=some o->b≠C:=λb o e z=>by
         have:=I5.free;rw [z] at e;have e':Y C=none:=this;rw [e] at e';cases e'
       have B:=I5.ae;have G8: ∀b o,s3.heap.get? b=some o->b≠C:=λb o e=>dH (cL e)
       have U:Un (fg X.stack) fp (aU H2 a (.ah [])) Y s3.heap h':=⟨λb o e n l qY=>(Bv.2 b (G8 b o e)).trans (B.keep b o e n l qY),
         λb o e n l qY=>let ⟨sl,z⟩:=B.slot b o e n l qY;⟨sl,(Bv.2 b (G8 b o e)).trans z⟩,B.free,
         λb o e qY=>let ⟨o',z⟩:=B.there b o e qY;⟨o',(Bv.2 b (G8 b o e)).trans z⟩,B.gy,B.gU,B.ig⟩
       refine aD.ny I3 I5.os U (λb o e=>(I5.a7 b o e).bq (λc' u Bf qq=>(Bv.2 c' ?_).trans qq) (λ_ z=>z) λ_ _ z=>z) I5.bare (λb l=>?_)
       . rcases Bf with z|z
         . rw [z];exact nC b o e
         . exact nC c' _ z
       . obtain ⟨z0,z1,z2,z3,z4,z5⟩:=f3 b l;exact ⟨z3,z1,z4,z5⟩
   . exact λb o=>vC o
  exact codeAny_compStart_list loop (T.self _ 0 _ _ _ stC loop))
def xU (g:Bool) (N:List Str) (m:Nat) (L:List Nat) (S:gL z X O cl N m L) (n:X.cF=true) (o:DI X tg iter fi)
   (p: ∀(C:Addr) (s:aH) (H:Hp) (e:List Addr),N.Nodup->DG (qa z X N O cl C s H e) tg t/\Ax (qa z X N O cl C s H e) ifs c/\DE (qa z X N O cl C s H e) .s elt fe)
   (u: ∀x,u1 iter X.env x=pure x:=by intro _;rfl):
   DE X .t (.ListComp elt [⟨tg,iter,ifs,0⟩] O pos) (zE g m L fi t c fe):=by
 with_unfolding_all exact (by
  rintro h s v H Q I ⟨G,H0,w,d,k,y,q⟩;rw [eval_ListComp]
  exact YX none (EP X h v Q) g N m L S n o (λC s H e=>p C s H e S.nd) u I k y λa C s' l B r E i J U rep Y=>⟨B,E,λZ j=>⟨.ref a,l,i Z j,rfl,q _ l U rep Y⟩⟩)
def UR (J:D->Slot) (i:Nat) (hW: ∀ {G:VC} {Q H y:Hp} {h:Sl} {l:L2.St} {v:V} {d:D},aB X.K G Q h l H->al H y->aL X.K (Sf G h l) y v d->br H v->aB X.K G Q (h.set i (J d)) (l.set i (some v)) y/\bK h l H (h.set i (J d)) (l.set i (some v)) y) (hN:X.N.Nodup) (g:Bool) (N:List Str) (m:Nat) (L:List Nat) (S:gL z X O cl N m L) (hc:X.cF=true) (hi:DI X tg iter fi)
   (U: ∀(C:Addr) (s:aH) (H:Hp) (n:List Addr),N.Nodup->DG (qa z X N O cl C s H n) tg t/\Ax (qa z X N O cl C s H n) ifs c/\DE (qa z X N O cl C s H n) .s elt fe)
   (Y:X.N[i]?=some x) (hx:Loc X.env.scope x) (hf:T6 X x)
   (Z:lK (.ListComp elt [⟨tg,iter,ifs,0⟩] O pos) (some (.Name x p)) ps.line X.env=pure true) (hs: ∀x,u1 iter X.env x=pure x):
   DS X (.Assign [.Name x p] (.ListComp elt [⟨tg,iter,ifs,0⟩] O pos) ps) (λh=>zE g m L fi t c fe h>>=λd=> .ok (.nx (h.set i (J d)))):=by
 with_unfolding_all exact (by
  rintro u s l H E I ⟨G,Q,h,o,k,ef,q⟩;obtain ⟨d,e1,e2⟩:=jd ef;cases e2;rw [exec_Assign_Name_used _ _ _ _ Z];refine ay (wpAny_standAt (ay ?_));refine ay (bv (YX (some (assign (.Name x p) X.env)) (λ_ B=>SP X u E .next B) g N m L S hc hi (λC s H n=>U C s H n S.nd) hs I k e1 λa C B H' mm r hn w G1 sm rep nt=>?_) λ_ B hq=>aR (aR hq));have I':=w B.heap ⟨rfl,λ_ _=>rfl⟩;obtain ⟨W1,W2⟩:=hW k sm rep nt;obtain ⟨f0,f1,f2,f3,f4,f5⟩:=G1;refine wpAny_assign_Name (X2 I' hN Y hx (show aK (.ref a) (.ref a) from rfl) (λs2 I2 j=>?_) hf);obtain ⟨b,j,Gw⟩:=j
  have hCb:C≠b:=by
   rcases Gw with z|z
   . rw [z];exact f1
   . exact λe=>f4 _ _ z e.symm
  refine ⟨mm,hn.sameBut j hCb,λh' Cw=>⟨_,H',?_,q _ _ W1 W2⟩⟩
  exact I2.turned (λb o U e=>(Cw.2 b U).trans e) f0 f1 f3 f4 f5)
def jgF (i:Nat) {p ps:Pos} (hN:X.N.Nodup) (g:Bool) (N:List Str) (m:Nat) (L:List Nat) (S:gL z X O cl N m L) (j:X.cF=true) (l:DI X tg iter fi)
  (n: ∀(C:Addr) (s:aH) (H:Hp) (a:List Addr),N.Nodup->DG (qa z X N O cl C s H a) tg t/\Ax (qa z X N O cl C s H a) ifs c/\DE (qa z X N O cl C s H a) .s elt fe)
  (e:X.N[i]?=some x:=by rfl) (o:Loc X.env.scope x:=by exact ot rfl) (q:T6 X x:=by first|exact .inl rfl|exact .inr rfl|assumption)
  (h:lK (.ListComp elt [⟨tg,iter,ifs,0⟩] O pos) (some (.Name x p)) ps.line X.env=pure true:=by rfl) (u: ∀x,u1 iter X.env x=pure x:=by intro _;rfl):
  DS X (.Assign [.Name x p] (.ListComp elt [⟨tg,iter,ifs,0⟩] O pos) ps) (fV i (zE g m L fi t c fe)):=
 UR Kn i (λk s r v=>k.ou s r v) hN g N m L S j l n e o q h u
def jdL (i:Nat) {p ps:Pos} (hN:X.N.Nodup) (g:Bool) (N:List Str) (m:Nat) (L:List Nat) (S:gL z X O cl N m L) (j:X.cF=true) (l:DI X tg iter fi)
  (n: ∀(C:Addr) (s:aH) (H:Hp) (a:List Addr),N.Nodup->DG (qa z X N O cl C s H a) tg t/\Ax (qa z X N O cl C s H a) ifs c/\DE (qa z X N O cl C s H a) .s elt fe)
  (e:X.N[i]?=some x:=by rfl) (o:Loc X.env.scope x:=by exact ot rfl) (q:T6 X x:=by first|exact .inl rfl|exact .inr rfl|assumption)
  (h:lK (.ListComp elt [⟨tg,iter,ifs,0⟩] O pos) (some (.Name x p)) ps.line X.env=pure true:=by rfl) (u: ∀x,u1 iter X.env x=pure x:=by intro _;rfl):
  DS X (.Assign [.Name x p] (.ListComp elt [⟨tg,iter,ifs,0⟩] O pos) ps) (jB i (zE g m L fi t c fe)):=
 UR .aa i (λk s r v=>⟨(k.ao s).mD r,.set s λ_ _ z _=>by cases z⟩) hN g N m L S j l n e o q h u
end
def j8 (n:Nat) (ds:List D):Sl:=ds.map .aa++B4 (n-ds.length) .un
def ZP {K:aG} (r:am K B H c ds):aB K (λa=>H a=none\/B a) H (j8 N.length ds) (start N c) H:=by
 have g:=r.length
 have no: ∀(i:Nat) (d:D),(j8 N.length ds)[i]?≠some (.aw d):=λi d h=>by
   unfold j8 at h
   by_cases q:i<ds.length
   . rw [nz (by simpa using q),jF] at h
     cases e:ds[i]? with
     |none=>rw [e] at h;cases h
     |some x=>rw [e] at h;cases h
   . rw [lF (by simpa using q),va] at h
     split at h<;>cases h
 refine ⟨by simp [L2.start,j8,g],al.refl H,λ_ z=> .inl z,λi d h=>?_,λi d h=>(no i d h).elim,λi j d e a h=>(no i d h).elim⟩;unfold j8 at h
 by_cases q:i<ds.length
 . rw [nz (by simpa using q),jF] at h
   cases e:ds[i]? with
   |none=>rw [e] at h;cases h
   |some x=>
     rw [e] at h;cases h;obtain ⟨v,l,m⟩:=r.get e;refine ⟨v,?_,m.aQ λa z=>⟨λo=>?_,.inr z⟩⟩
     . unfold L2.start;rw [nz (by simp;omega),jF,l];rfl
     . obtain ⟨n,p,z,_⟩:=o;exact no n p z
 . rw [lF (by simpa using q),va] at h
   split at h<;>cases h
section
variable {P:bQ} {w:World} {K:aG} {mg:X7} {ae:Heap}
def Meets (e:Bool) (n:Nat) (g:TC) (ds:List D) (d:D):Prop:=(∃a,g (j8 n ds)= .ok (.rt a d)/\(e=true->a=true))\/(d= .aW/\ ∃c,g (j8 n ds)= .ok (.nx c))
def G9 {st:Stmt} (p:nF K x j st f u) (S:aq N ps (jg st))
    (y: ∀(i:Value) (A:cf) (c:List Env) (s:aH) (H:Hp) (E:XK),aO k (A.deeper (lE j (jg st) s.heap.objs.size f i))->ma (b8 lM P w K mg ae N j (jg st) f i A c s H E).pc (qe st) g)
    (I: ∀ds d,ds.length=ps.length->F ds= .ok d->Meets J N.length g ds d):
    cZ P w K mg ae lM (k+1) f u ps (qU K J ps.length F):=by
 with_unfolding_all exact (by
  refine p.ok S (λL H Q E ⟨B,ds,d,l,_⟩=>l) (λi A c s H L Q E O h=>?_);obtain ⟨B,ds,d,l,r,e,q⟩:=h;refine ⟨_,y i A c s H E O,?_⟩;have n:=ZP (N:=N) r;rcases I ds d (by rw [<-r.length];exact l) e with ⟨U,z,Y⟩| ⟨rfl,o,z⟩
  . exact ⟨_,H,_,_,n,z,λv m s r Z=>q v m s r λhh=>Z (Y hh)⟩
  . exact ⟨_,H,_,_,n,z,λpz m k' f'=>q .aW m k'.ae .aW λ_ a e=>by cases e⟩)
end
open PySem.W in
theorem jgW {a:List Int} (h:WData.layableAll [WData.list (a.map WData.int)]=true): ∀n∈a,AG n<=2^20:=λn c=>by
 have e:=layableW_arg h _ ez;have g:=layableW_item e (.int n) (c4.mpr ⟨n,c,rfl⟩);have i:=(layableW_iff.mp g).2.2;simpa only [WData.weight,AG] using i
open PySem.W PySem.Calls Att in
theorem Vm {l:Cg}
  (hn:l.most=some n) (I:d.params.defaults=[])
  (call: ∀(w:World) (e c:aH) (B J:X7) (m:Addr) (o:Obj) (L E g:Value) (a:Addr) (j:List Value) (p:List Int),
   Ground q h [] XP w e B J c.heap->YP w c.heap->
   c.heap.get? m=some o->o.data= .func (docDef d.name d.params d.body d.scope L E g)->c.heap.CodeRec E d.name->B d.name=some (.ref m)->
   c.heap.get? a=some {cls:= .type "list",data:= .seq j.toArray}->IntsAre j p->p.length<=n->(∀n∈p,AG n<=2^20)->c.gens= #[]->
   oR (model l.prog w) callerA (.call (.ref m) ⟨[.ref a],[]⟩) (λr H=>r= .ok (.ret (.bool true))/\OldK c.heap H.heap/\H.os=c.os/\sE H.gens) c):
  WalkO q h XP YP l.row.toRowW d [] (λf j=>PySem.call f j):=by
 intro w e c B J G Y m o L E g dV kV ho hd N U O hg args Z as u v hrd Q hlo;obtain rfl:dV= .none:=Dflts.none U I;obtain rfl:kV= .none:=Dflts.noKw U;obtain ⟨a,j,p,rfl,rfl,y,i,z⟩:=uq hn u Q;refine enter_call (tf (call w e c B J m o L E g a j p G Y ho (fd_plain hd) N O y i z (jgW v) hg) λr H hq=>?_);obtain ⟨rfl,h2,h3,h4⟩:=hq;exact ⟨.inl ⟨.bool true,.bool true,[],rfl,λ_=>rfl,.bool true,uQ l _,λ_=>⟨List.Pairwise.nil,λ_ hm=>(nomatch hm)⟩⟩,h2,h3,h4⟩
def jcS {K:aG} (c:An H) (h:gR K H a e):rJ K H a e:=by
 rcases h with (h|h)|h
 . rcases c a with z| ⟨o,g,z⟩
   . rw [z] at h;cases h
   . rw [z] at h;cases h
 . exact .inl h
 . exact .inr h
theorem Ut {K:aG}: ∀a:List Int,am K A H (a.map V.int) (a.map D.int)
 | []=> .nil
 |n::r=> .cons (.int n) (Ut r)
def rR {l:Cg} {K:Params->aG}
  (hn:l.most=some n) (E:n<=aV) (I:d.params.defaults=[]) (hr:aO k callerA)
  (hY: ∀(w:World) (h:Heap),YP w h->(K w.params).In h)
  (hF: ∀(w:World) (p:X7) (B:Addr) (h:Heap),(K w.params).In h->h.Ns bt p->p d.name=some (.ref B)->
   ∃J:pk,(∀(s:aH) (u:Value),BindsTo s J ⟨[u],[]⟩ [(x,u)])/\
    ∀c:Heap,(K w.params).In c->c.Ns bt p->cZ l.prog w (K w.params) p c lM k B J [x] (qU (K w.params) true 1 F))
  (ht: ∀y:List Int,y.length<=n->(∀i∈y,AG i<=2^20)->F [.eN (y.map D.int)]= .ok (.bl true)):
  PySem.W.WalkO q L XP YP l.row.toRowW d [] (λf Q=>PySem.call f Q):=by
 refine Vm hn I λw U Z p mb B o pm cd doc a Q y G Y ho hd Bm N z j g m hg=>?_
 have KX:=hY w _ Y;obtain ⟨J,hb,O⟩:=hF w p B _ KX G.T.g N;refine Z7 KX G.T.g G.T.b G.T.builtins G.T.nolimit hg z j (dw g E) hr O hb (λH hO hS=>?_) λH e s' h=>h
 exact ⟨Any,_,_,rfl,.cons (.GF (jcS hO hS) (Ut y)) .nil,ht y g m,λv H' _ r _=>r.tz⟩
section
variable {X:Cx} {K:aG}
noncomputable def iG (C:Int->Int->Prop) [∀i j,Decidable (C i j)] (g:Int->Int->D):D->D->aj D
 | .int i,.int j=>a4 (C i j) (.ok (g i j))
 |_,_=> .ai
def Ni {C:Int->Int->Prop} [∀i j,Decidable (C i j)] {g:Int->Int->D} {a b d:D} (h:iG C g a b= .ok d): ∃i j,a= .int i/\b= .int j/\C i j/\d=g i j:=by
 unfold iG at h
 split at h
 . obtain ⟨c,e⟩:=jv h;cases e;exact ⟨_,_,rfl,rfl,c,rfl⟩
 . cases h
def rS {C c:Int->Int->Prop} [∀i j,Decidable (C i j)] {h:Int->Int->V} {g:Int->Int->D} (w: ∀i j,C i j->c i j) (r: ∀i j,Sc K (h i j) (g i j)):gJ K (rI c h) (iG C g):=by
 intro x y H a b d Q l m e q;obtain ⟨i,j,rfl,rfl,n,rfl⟩:=Ni e;exact ⟨i,j,l.eP,m.eP,w i j n,q _ (r i j)⟩
abbrev QG:Int->Int->Prop:=λ_ _=>True
instance: ∀i j,Decidable (QG i j):=λ_ _=>inferInstanceAs (Decidable True)
def Cz (r: ∀i j,Sc K (h i j) (g i j)):gJ K (n5 h) (iG QG g):=by
 intro x y H a b d Q c l e q;obtain ⟨i,j,rfl,rfl,m,rfl⟩:=Ni e;exact ⟨i,j,c.eP,l.eP,q _ (r i j)⟩
def Ha (h:Sc K v d):br H v:=λa e=>absurd e (h.2 a)
noncomputable def cb:D->D->aj D
 | .int i,.int j=> .ok (.int (i+j))
 | .str i,.str j=>a4 (i.length+j.length<=aV) (.ok (.str (i++j)))
 | .ah a,.ah b=>a4 (a.length+b.length<=aV) (.ok (.ah (a++b)))
 | .ap a,.ap b=>a4 (a.isEmpty=false/\a.length+b.length<=aV) (.ok (.ap (a++b)))
 |_,_=> .ai
def qS:dG X (my .Add) (λx y H Q=>n5 (λi j=> .int (i+j)) x y H Q\/(∃i j,x= .str i/\y= .str j/\i.length+j.length<=aV/\Q (.str (i++j)) H)\/Aj x y H Q\/Gk X.K x y H Q):=
 zB.or (op.or (Ak.or Tf))
def am.len_app (r:am K A H c a) (s:am K A H e b) (h:a.length+b.length<=aV):c.length+e.length<=aV:=by rw [r.length,s.length];exact h
def Eo {A:VC} {H:Hp}: ∀c,A c->(H c=none\/A c):=λ_ z=> .inr z
def wd:GJ K (λx y H Q=>n5 (λi j=> .int (i+j)) x y H Q\/(∃i j,x= .str i/\y= .str j/\i.length+j.length<=aV/\Q (.str (i++j)) H)\/Aj x y H Q\/Gk K x y H Q) cb:=by
 intro A x y H a b d Q w B e q;unfold cb at e
 split at e
 . cases e;exact .inl ⟨_,_,w.eP,B.eP,q _ H (al.refl H) (.int _) (Ha (oW (K:=K) _))⟩
 . obtain ⟨E,Y⟩:=jv e;cases Y;have g: ∀i j:Str,i.length+j.length<=aV->(i++j).length<=aV:=λi j h=>by rw [CA];exact h
   exact .inr (.inl ⟨_,_,w.iT.1,B.iT.1,E,q _ H (al.refl H) (.str _ (g _ _ E)) (Ha (Eg (K:=K) _ (g _ _ E)))⟩)
 . obtain ⟨I,J⟩:=jv e;cases J;obtain ⟨l,L,rfl,g,_,r⟩:=w.fU;obtain ⟨N,O,rfl,u,_,v⟩:=B.fU;refine .inr (.inr (.inl ⟨l,N,L,O,rfl,rfl,g,u,r.low.len_app v.low I,λp n=>q _ _ (al.aU n) ?_ (qA (al.refl H) n)⟩));exact .ah jy (.inl n) (((r.low.append v.low).laid n).aQ λc z=>⟨.inr z.1,z.2⟩)
 . obtain ⟨⟨I,J⟩,Z⟩:=jv e;cases Z;obtain ⟨l,L,rfl,g,r⟩:=w.ik;obtain ⟨N,O,rfl,u,v⟩:=B.ik;refine .inr (.inr (.inr ⟨l,N,L,O,rfl,rfl,.of g,.of u,λz=>?_,r.len_app v J,λz=>?_,λz p n=>q _ _ (al.aU n) ?_ (qA (al.refl H) n)⟩))
   . subst z;cases r;cases I
   . subst z;cases v;rw [o8] at q;refine q _ H (al.refl H) (.ap g (r.aQ Eo)) λa e o U m=>?_
     cases e;rw [g] at U;cases U;exact m
   . exact .ap jy (((r.append v).aQ Eo).ao (al.aU n))
 . cases e
def Nj:gJ K (n5 λi j=> .int (i-j)) (iG QG λi j=> .int (i-j)):=Cz λi j=>oW _
abbrev pE:Int->Int->Prop:=λi j=>AG i+AG j<=134217728
def KI:dG X (my .Mult) (rI pE λi j=> .int (i*j)):=BS λ_ _ _ _ _ _ _ a q=>mul_int q (IntMulOk.of_le (bf _) (bf _) a)
def Hb:gJ K (rI pE λi j=> .int (i*j)) (iG pE λi j=> .int (i*j)):=rS (λ_ _ h=>h) λi j=>oW _
abbrev CB:Int->Int->Prop:=λ_ j=>0<j/\j<1073741824
def wc:gJ K (rI sV λi j=> .int (i/j)) (iG CB λi j=> .int (i/j)):=rS (λ_ _ h=>h) λi j=>oW _
abbrev CC:Int->Int->Prop:=λ_ j=>0<j
def yU:gJ K (rI (λ_ j=>0<j) λi j=> .int (i%j)) (iG CC λi j=> .int (i%j)):=rS (λ_ _ h=>h) λi j=>oW _
abbrev AH:Int->Int->Prop:=λi j=>0<=j/\j<=1000000/\i.natAbs<2^64
def jic:gJ K (rI BV λi j=> .int (i^j.toNat)) (iG AH λi j=> .int (i^j.toNat)):=rS (λ_ _ h=>h) λi j=>oW _
def Nk:gJ K (n5 λi j=> .bl (decide (i<j))) (iG QG λi j=> .bl (decide (i<j))):=Cz λi j=>jV _
def Yv:gJ K (n5 λi j=> .bl (decide (i<=j))) (iG QG λi j=> .bl (decide (i<=j))):=Cz λi j=>jV _
def kY:gJ K (n5 λi j=> .bl (decide (j<i))) (iG QG λi j=> .bl (decide (j<i))):=Cz λi j=>jV _
def jjH:gJ K (n5 λi j=> .bl (decide (j<=i))) (iG QG λi j=> .bl (decide (j<=i))):=Cz λi j=>jV _
noncomputable def v3 (i j:Str):Bool:=!(F5 j i 0 j.length 1).isEmpty
def inD:D->D->aj D
 | .str i,.str j=> .ok (.bl (v3 i j))
 |_,_=> .ai
def jif:gJ K (λx y H Q=> ∃i j,x= .str i/\y= .str j/\Q (.bl (!(F5 j i 0 j.length 1).isEmpty)) H) inD:=by
 intro x y H a b d Q c g e q;unfold inD at e
 split at e
 . cases e;exact ⟨_,_,c.iT.1,g.iT.1,q _ (jV _)⟩
 . cases e
noncomputable def D.md:D->Bool
 | .aW=>true
 |_=>false
def nj:D->D->aj D
 |a,.aW=> .ok (.bl a.md)
 |_,_=> .ai
def Yb (r:aL K A H x a):decide (x=V.aW)=a.md:=by
 have r:=r.f
 cases a with
 |aW=>cases r;rfl
 |bl b=>cases r;rfl
 |int i=>cases r;rfl
 |str z=>cases r.1;rfl
 |mem B e=>obtain ⟨_,rfl,_⟩:=r;rfl
 |fL c=>obtain ⟨_,_,_,_,rfl,_⟩:=r;rfl
 |obj c g ds=>obtain ⟨_,_,_,_,rfl,_⟩:=r;rfl
 |_=>obtain ⟨_,_,rfl,_⟩:=r;rfl
def Qx:gJ K (λx y H Q=>y= .aW/\Q (.bl (decide (x= .aW))) H) nj:=by
 intro x y H a b d Q c g e q;unfold nj at e
 split at e
 . cases e;refine ⟨g.tD,?_⟩;rw [Yb c];exact q _ (jV _)
 . cases e
noncomputable def ce:List D->aj D
 | [.ah ds]=> .ok (.int ds.length)
 | [.eN ds]=> .ok (.int ds.length)
 | [.ap ds]=> .ok (.int ds.length)
 | [.str z]=> .ok (.int z.length)
 |_=> .ai
def j9:bF X (.builtin "len") (λc H Q=>(∃p a,c=[.ref p]/\(gR X.K H p a\/i9 X.K H p a)/\Q (.int a.length) H)\/(∃z,c=[.str z]/\z.length<=aV/\Q (.int z.length) H)):=mC.or Y3
def wj:Ei K (λi H Q=>(∃p a,i=[.ref p]/\(gR K H p a\/i9 K H p a)/\Q (.int a.length) H)\/(∃z,i=[.str z]/\z.length<=aV/\Q (.int z.length) H)) ce:=by
 intro i H ds d Q r e q;unfold ce at e
 split at e
 . cases e;obtain ⟨v,rfl,c⟩:=r.one;obtain ⟨p,a,rfl,g,_,h⟩:=c.fU;exact .inl ⟨p,a,rfl,.inl (.of g),by rw [h.length];exact q _ (oW _)⟩
 . cases e;obtain ⟨v,rfl,c⟩:=r.one;obtain ⟨p,a,rfl,g,h⟩:=c.rK;exact .inl ⟨p,a,rfl,.inl g.sL,by rw [h.length];exact q _ (oW _)⟩
 . cases e;obtain ⟨v,rfl,c⟩:=r.one;obtain ⟨p,a,rfl,g,h⟩:=c.ik;exact .inl ⟨p,a,rfl,.inr (.of g),by rw [h.length];exact q _ (oW _)⟩
 . cases e;obtain ⟨v,rfl,c⟩:=r.one;obtain ⟨rfl,j⟩:=c.iT;exact .inr ⟨_,rfl,j,q _ (oW _)⟩
 . cases e
def jfb (h:H p=some (.ap c)):br H (.ref p):=λa e o q m=>by
 cases e;rw [h] at q;cases q;exact m
def vj:List D->aj D
 | [.ah ds]=>(.ok (.ah ds))
 | [.ap ds]=>(.ok (.ah ds))
 |_=> .ai
def XI:XR K (λm H Q=> ∃p g,m=[.ref p]/\(gR K H p g\/i9 K H p g)/\ ∀l,H l=none->Q (.ref l) (aU H l (.ah g))) vj:=by
 intro A m H ds d Q r e q;unfold vj at e
 split at e
 . cases e;obtain ⟨v,rfl,h⟩:=r.one;obtain ⟨p,g,rfl,i,_,j⟩:=h.fU;exact ⟨p,g,rfl,.inl (.of i),λl a=>q _ _ (al.aU a) (.ah jy (.inl a) ((j.low.laid a).aQ λc z=>⟨.inr z.1,z.2⟩)) (qA (al.refl H) a)⟩
 . cases e;obtain ⟨v,rfl,h⟩:=r.one;obtain ⟨p,g,rfl,i,j⟩:=h.ik;exact ⟨p,g,rfl,.inr (.of i),λl a=>q _ _ (al.aU a) (.ah jy (.inl a) ((j.laid a).aQ λc z=>⟨.inr z.1,z.2⟩)) (qA (al.refl H) a)⟩
 . cases e
noncomputable def Hc:D->Option String
 | .aW=>some "NoneType"
 | .bl _=>some "bool"
 | .int _=>some "int"
 | .str _=>some "str"
 | .ap _=>some "tuple"
 | .ah _=>some "list"
 | .eN _=>none
 | .dr _ _=>some "dict"
 | .cJ _ _=>some "dict"
 | .fL _=>none
 | .ng _ _=>none
 | .ni _ _=>none
 | .obj _ _ _=>none
 | .mem _ _=>none
 | .fE _=>none
def jjf (r:aL K A H v d) (h:Hc d=some n):ii K H v (.type n):=by
 have r:=r.f;cases d<;>cases h
 . cases r;exact .aW
 . cases r;exact .bl _
 . cases r;exact .int _
 . cases r.1;exact .str _
 . obtain ⟨_,_,rfl,e,_⟩:=r;exact .ap e
 . obtain ⟨_,_,rfl,e,_⟩:=r;exact .ah e
 . obtain ⟨_,_,rfl,e,_⟩:=r;exact .dK e
 . obtain ⟨_,_,rfl,e,_⟩:=r;exact .dT e
noncomputable def mG (T n:String):Bool:=n==T|| (T== "int" &&n== "bool")
def nI (T:String):Prop:= ∀(K:aG) (n:String),n∈["NoneType", "bool", "int", "str", "tuple", "list", "dict"]->gX K (.type n) (.type T)=some (mG T n)
def jhe (h:Hc d=some n):n∈["NoneType", "bool", "int", "str", "tuple", "list", "dict"]:=by
 cases d<;>first| (cases h;done)| (cases h;decide)
def ZE (h: ∀(K:aG),gX K (.type "NoneType") (.type T)=some (mG T "NoneType")/\gX K (.type "bool") (.type T)=some (mG T "bool")/\gX K (.type "int") (.type T)=some (mG T "int")/\
  gX K (.type "str") (.type T)=some (mG T "str")/\gX K (.type "tuple") (.type T)=some (mG T "tuple")/\gX K (.type "list") (.type T)=some (mG T "list")/\gX K (.type "dict") (.type T)=some (mG T "dict")):nI T:=by
 intro K n a;obtain ⟨c,e,g,i,j,l,m⟩:=h K;simp at a;rcases a with rfl|rfl|rfl|rfl|rfl|rfl|rfl<;>assumption
def jdi:nI "int" :=ZE λK=>⟨rfl,rfl,rfl,rfl,rfl,rfl,rfl⟩
def jaS:nI "bool" :=ZE λK=>⟨rfl,rfl,rfl,rfl,rfl,rfl,rfl⟩
def jdh:nI "str" :=ZE λK=>⟨rfl,rfl,rfl,rfl,rfl,rfl,rfl⟩
def qo:nI "tuple" :=ZE λK=>⟨rfl,rfl,rfl,rfl,rfl,rfl,rfl⟩
def YH:nI "list" :=ZE λK=>⟨rfl,rfl,rfl,rfl,rfl,rfl,rfl⟩
def j1 (T:String) (d:D):aj D:=match Hc d with
 |some n=> .ok (.bl (mG T n))
 |none=> .ai
def jd6 (T:String) (h:nI T):bF X (.builtin "isinstance") (λa H Q=> ∃x d,a=[x,.ty T]/\aL X.K Any H x d/\ ∃b,j1 T d= .ok (.bl b)/\Q (.bl b) H):=by
 rintro c s p H a v Q I r ⟨x,d,i,j,b,e,q⟩;subst i;obtain ⟨u,l,rfl,m,o⟩:=kg r;cases (show l=yS T from o);unfold j1 at e
 split at e
 . rename_i n g;cases e;refine SU I m (jjf j g) (h X.K n (jhe g)) λtk=>⟨.bl _,H,I.tok tk,rfl,q⟩
 . cases e
def cr (T:String) (f:TF):Sl->aj D:=λa=>f a>>=j1 T
def wg (T:String) (Ty:Str) {l':Lv} {p c g:Pos} (u:nI T) (w:DE X l e f) (y:Gl X "isinstance") (z:X.mg "isinstance" =none) (h:Gl X Ty) (i:X.mg Ty=none) (B:n4 Ty=some (.type T))
   (E:Ty≠ "__name__" :=by decide) (hd:Z8 Ty:=by decide) (o:bB [e,.Name Ty c] X.env=(false,eval e X.env)::bB [.Name Ty c] X.env:=by exact jm rfl)
   (j:bB [.Name Ty c] X.env=(false,eval (.Name Ty c) X.env)::bB [] X.env:=by exact jm rfl) (m:(gz g (bB [.Name Ty c] X.env)).any (·.1)=false:=by exact jH rfl):
   DE X l' (.Call (.Name "isinstance" p) [e,.Name Ty c] [] g) (cr T f):=by
 with_unfolding_all exact (
  PE.imp (wl (jd6 T u) y z CD (j7 w (j7 (uW (v:= .ty T) h i B rfl E hd) zo j) o) (by decide) (by decide) o m) λO H Q=>by
   rintro ⟨G,I,n,d,k,J,q⟩;obtain ⟨a,e1,e2⟩:=jd J;refine ⟨G,I,n,a,k,e1,λv L s r _=>?_⟩
   have N: ∃b,d= .bl b:=by
    unfold j1 at e2
    split at e2
    . cases e2;exact ⟨_,rfl⟩
    . cases e2
   obtain ⟨b,rfl⟩:=N
   exact ⟨v,a,rfl,r.aQ Lv.bo,b,e2,q _ L s (.bl b) (jV (K:=X.K) b).T⟩)
def Vj:List D->Option (List Bool)
 | []=>some []
 | .bl b::r=>(Vj r).map (b:: ·)
 |_=>none
theorem Y7: ∀ {ds:List D} {bs:List Bool},Vj ds=some bs->ds=bs.map D.bl
 | [],bs,h=>by cases h;rfl
 |d::r,bs,h=>by
  cases d with
  |bl b=>
   simp only [Vj,vN] at h;obtain ⟨a,c,rfl⟩:=h;rw [Y7 c];rfl
  |_=>cases h
def jd9 (bs:List Bool):Vj (bs.map D.bl)=some bs:=by
 induction bs with
 |nil=>rfl
 |cons b r a=>simp [Vj,a]
noncomputable def mH:List D->aj D
 | [.ah ds]=>match Vj ds with
  |some bs=> .ok (.bl (bs.all id))
  |none=> .ai
 |_=> .ai
theorem Wo: ∀ {bs:List Bool} {a:List V},am K A H a (bs.map D.bl)->a=bs.map V.bl
 | [],_,.nil=>rfl
 |b::bs,_,.cons h t=>by rw [h.tz,Wo t];rfl
theorem Wj: ∀ {bs:List Bool} {a:List Value},aI (bs.map V.bl) a->a=bs.map t7
 | [],_,.nil=>rfl
 |b::bs,_,.cons h t=>by
  rw [Wj t];have:_=t7 b:=h;rw [this];rfl
def JT (J:X.cF=true):bF X (.builtin "all") (λB H Q=> ∃(p:Addr) (bs:List Bool),B=[.ref p]/\gR X.K H p (bs.map V.bl)/\Q (.bl (bs.all id)) H):=by
 rintro E s σ H B us Q I r ⟨p,bs,L,N,q⟩;subst L;obtain ⟨u,rfl,O⟩:=yY r;cases O;obtain ⟨U,Y,j,hz⟩:=I.list N;have c:=Wj Y;subst c;refine call_all_walk (Cn j.isList ?_)
 have l:p≠s.heap.objs.size:=by
   obtain ⟨o,n,e,_⟩:=j;exact dH (cL e)
 refine ⟨s.heap.objs.size,_,_,_,_,_,λi=>(bs[i]?).getD true,rfl,Walks.list (show X.A.in1.handled=none from I.ok.hd J) s.heap.objs.size p l (bs.map t7).toArray,⟨⟨_,gp _ rfl,rfl,rfl⟩,j.isList.at λo e=>dc _ e⟩,?_,λh' tk Z=>?_⟩
 . intro i v s' Q' E' hP m;have a:(bs.map t7)[i]?=some v:=by simpa using hP
   rw [jF] at a
   cases e:bs[i]? with
   |none=>rw [e] at a;cases a
   |some b=>
    rw [e] at a;cases a;dsimp only at m;rw [e] at m;exact rB m
 . have hn:(bs.map t7).toArray.size=bs.length:=by simp
   have e:((fK (bs.map t7).toArray.size).all λi=>(bs[i]?).getD true)=bs.all id:=by
    rw [hn,Bb,lI,lI]
    constructor
    . intro w b y;obtain ⟨i,h,rfl⟩:=Ep.mp y;have:=w i (ic.mpr h);rw [cH h] at this;exact this
    . intro w i h;have g:=ic.mp h;rw [cH g];exact w _ (qd g)
   rw [e];refine ⟨.bl _,H,?_,rfl,q⟩
   exact I.kept λb o e=>Z b o (by
    intro z;have y:b=s.heap.objs.size:=by simpa using z
    exact absurd (cL e) (by rw [y];exact rj _)) (dc _ e)
def U2:Ei K (λc H Q=> ∃(p:Addr) (bs:List Bool),c=[.ref p]/\gR K H p (bs.map V.bl)/\Q (.bl (bs.all id)) H) mH:=by
 intro c H ds d Q r e q;unfold mH at e
 split at e
 . split at e
   . rename_i bs a;cases e;obtain ⟨v,rfl,h⟩:=r.one;obtain ⟨p,j,rfl,i,_,g⟩:=h.fU;rw [Y7 a] at g;have:=Wo g;subst this;exact ⟨p,bs,rfl,.of i,q _ (jV _)⟩
   . cases e
 . cases e
end
end M
namespace M
open PySem PySem.Spec L2
open PyProof.Rows hiding St
open PySem.SeqAt (EqAt RcAt RcNeAt)
mutual
theorem D.ind {P:D->Prop} (h0:P .aW) (h1: ∀b,P (.bl b)) (h2: ∀i,P (.int i)) (h3: ∀x,P (.str x)) (h4: ∀ds,(∀d∈ds,P d)->P (.ap ds)) (h5: ∀ds,(∀d∈ds,P d)->P (.ah ds))
  (h6: ∀ds,(∀d∈ds,P d)->P (.eN ds)) (h7:(∀ks ds,(∀d∈ds,P d)->P (.dr ks ds))/\(∀ks ds,(∀d∈ds,P d)->P (.cJ ks ds))/\(∀c,P (.fL c))/\(∀ks ds,(∀d∈ds,P d)->P (.ng ks ds))/\(∀ks ds,(∀d∈ds,P d)->P (.ni ks ds))/\(∀c ns ds,(∀d∈ds,P d)->P (.obj c ns ds))/\(∀B Φ,P (.mem B Φ))/\ ∀ds,P (.fE ds)): ∀d,P d
 | .aW=>h0
 | .bl b=>h1 b
 | .int i=>h2 i
 | .str x=>h3 x
 | .ap ds=>h4 ds (D.mI h0 h1 h2 h3 h4 h5 h6 h7 ds)
 | .ah ds=>h5 ds (D.mI h0 h1 h2 h3 h4 h5 h6 h7 ds)
 | .eN ds=>h6 ds (D.mI h0 h1 h2 h3 h4 h5 h6 h7 ds)
 | .dr ks ds=>h7.1 ks ds (D.mI h0 h1 h2 h3 h4 h5 h6 h7 ds)
 | .cJ ks ds=>h7.2.1 ks ds (D.mI h0 h1 h2 h3 h4 h5 h6 h7 ds)
 | .fL c=>h7.2.2.1 c
 | .ng ks ds=>h7.2.2.2.1 ks ds (D.mI h0 h1 h2 h3 h4 h5 h6 h7 ds)
 | .ni ks ds=>h7.2.2.2.2.1 ks ds (D.mI h0 h1 h2 h3 h4 h5 h6 h7 ds)
 | .obj c ns ds=>h7.2.2.2.2.2.1 c ns ds (D.mI h0 h1 h2 h3 h4 h5 h6 h7 ds)
 | .mem B Φ=>h7.2.2.2.2.2.2.1 B Φ
 | .fE ds=>h7.2.2.2.2.2.2.2 ds
theorem D.mI {P:D->Prop} (a:P .aW) (e: ∀b,P (.bl b)) (g: ∀i,P (.int i)) (h3: ∀x,P (.str x)) (j: ∀ds,(∀d∈ds,P d)->P (.ap ds)) (l: ∀ds,(∀d∈ds,P d)->P (.ah ds))
  (m: ∀ds,(∀d∈ds,P d)->P (.eN ds)) (n:(∀ks ds,(∀d∈ds,P d)->P (.dr ks ds))/\(∀ks ds,(∀d∈ds,P d)->P (.cJ ks ds))/\(∀c,P (.fL c))/\(∀ks ds,(∀d∈ds,P d)->P (.ng ks ds))/\(∀ks ds,(∀d∈ds,P d)->P (.ni ks ds))/\(∀c ns ds,(∀d∈ds,P d)->P (.obj c ns ds))/\(∀B o,P (.mem B o))/\ ∀ds,P (.fE ds)): ∀ds:List D,∀d∈ds,P d
 | [],_,h=>by cases h
 |x::r,d,h=>by
  have p:=D.ind a e g h3 j l m n x;have q:=D.mI a e g h3 j l m n r;rcases dk.mp h with z|z
  . rw [z];exact p
  . exact q d z
end
mutual
def D.cp:D->Nat
 | .ap ds=>D.du ds+1
 | .ah ds=>D.du ds+1
 |_=>0
def D.du:List D->Nat
 | []=>0
 |d::ds=>max (D.cp d) (D.du ds)
end
mutual
def D.eZ:D->Bool
 | .eN _=>false
 | .dr _ _=>false
 | .cJ _ _=>false
 | .fL _=>false
 | .ng _ _=>false
 | .ni _ _=>false
 | .obj _ _ _=>false
 | .mem _ _=>false
 | .fE _=>false
 | .ap ds=>D.fj ds
 | .ah ds=>D.fj ds
 |_=>true
def D.fj:List D->Bool
 | []=>true
 |d::ds=>D.eZ d&&D.fj ds
end
mutual
def gq:D->D->Bool
 | .aW,.aW=>true
 | .bl a,.bl b=>a==b
 | .bl a,.int j=>(if a then 1 else 0)==j
 | .int i,.bl b=>i==(if b then 1 else 0)
 | .int i,.int j=>i==j
 | .str x,.str y=>x==y
 | .ap a,.ap b=>c6 a b
 | .ah a,.ah b=>c6 a b
 |_,_=>false
def c6:List D->List D->Bool
 | [],[]=>true
 |a::c,b::bs=>gq a b&&c6 c bs
 |_,_=>false
end
def Nl:(∀i,D.eZ (.int i)=true)/\(∀x,D.eZ (.str x)=true)/\(∀ds,D.eZ (.ap ds)=D.fj ds)/\(∀ds,D.eZ (.ah ds)=D.fj ds):=by and_intros<;>intros<;>rfl
def Wd:(∀i c,gq (.int i) (.int c)=(i==c))/\(∀i e,gq (.int i) (.str e)=false)/\(∀i a,gq (.int i) (.ap a)=false)/\(∀x c,gq (.str x) (.int c)=false)/\(∀x e,gq (.str x) (.str e)=(x==e))/\(∀x a,gq (.str x) (.ap a)=false)/\(∀ds c,gq (.ap ds) (.int c)=false)/\(∀ds e,gq (.ap ds) (.str e)=false)/\(∀ds a,gq (.ap ds) (.ap a)=c6 ds a)/\(∀ds a,gq (.ah ds) (.ah a)=c6 ds a):=by and_intros<;>intros<;>rfl
theorem JP: ∀ {ds:List D} {d:D},d∈ds->D.cp d<=D.du ds
 |x::r,d,h=>by
  simp only [D.du];rcases dk.mp h with rfl|h
  . omega
  . have:=JP h;omega
theorem Xv: ∀ {ds:List D} {d:D},D.fj ds=true->d∈ds->D.eZ d=true
 |x::r,d,a,h=>by
  simp only [D.fj,eX] at a;rcases dk.mp h with rfl|h
  . exact a.1
  . exact Xv a.2 h
theorem yt: ∀ {ds:List D},(∀d∈ds,D.eZ d=true->gq d d=true)->D.fj ds=true->c6 ds ds=true
 | [],_,_=>by simp [c6]
 |d::ds,h,a=>by
  simp only [D.fj,eX] at a;simp only [c6,eX];exact ⟨h d ez a.1,yt (λx c=>h x (dZ _ c)) a.2⟩
def UN (d:D):D.eZ d=true->gq d d=true:=by
 refine D.ind (P:=λd=>D.eZ d=true->gq d d=true) ?_ ?_ ?_ ?_ ?_ ?_ ?_ ?_ d
 . intro _;rfl
 . intro b _;exact beq_self_eq_true b
 . intro i _;exact beq_self_eq_true i
 . intro x _;exact beq_self_eq_true x
 . intro ds e a;exact yt e a
 . intro ds e a;exact yt e a
 . intro ds e a;cases a
 . exact ⟨(by intro ks ds e a;cases a),(by intro ks ds e a;cases a),(by intro c a;cases a),(by intro ks ds e a;cases a),(by intro ks ds e a;cases a),(by intro c g ds e a;cases a),(by intro B h a;cases a),(by intro ds a;cases a)⟩
section
variable {K:aG} {H:Hp}
def am.oB (h: ∀d∈ds,∀(A l:VC) v g,D.eZ d=true->D.eZ g=true->aL K A H v d->aL K l H v g->d=g) (i:D.fj ds=true) (a:D.fj c=true) (r:am K A H j ds) (e:am K l H j c):ds=c:=by
 induction j generalizing ds c with
 |nil=>cases r.g7;cases e.g7;rfl
 |cons v j m=>
  obtain ⟨_,_,rfl,r,t⟩:=r.dJ;obtain ⟨_,_,rfl,e,n⟩:=e.dJ;simp only [D.fj,eX] at i a;rw [h _ ez _ _ _ _ i.1 a.1 r e,m (λd hd=>h d (dZ _ hd)) i.2 a.2 t n]
def WB (h:lN K A H v d/\D.eZ d=true):(v= .aW/\d= .aW)\/(∃b,v= .bl b/\d= .bl b)\/(∃b,v= .int b/\d= .int b)\/(∃b,v= .str b/\d= .str b)\/(∃a g ds,v= .ref a/\d= .ap ds/\H a=some (.ap g)/\am K A H g ds)\/(∃a g ds,v= .ref a/\d= .ah ds/\H a=some (.ah g)/\am K (λc=>A c/\c≠a) H g ds):=by
 obtain ⟨r,h⟩:=h
 cases d with
 |aW=>exact .inl ⟨r,rfl⟩
 |bl b=>exact .inr (.inl ⟨_,r,rfl⟩)
 |int b=>exact .inr (.inr (.inl ⟨_,r,rfl⟩))
 |str b=>exact .inr (.inr (.inr (.inl ⟨_,r.1,rfl⟩)))
 |ap ds=>
  obtain ⟨a,g,r,e,i⟩:=r;exact .inr (.inr (.inr (.inr (.inl ⟨_,_,_,r,rfl,e,i⟩))))
 |ah ds=>
  obtain ⟨a,g,r,e,_,i⟩:=r;exact .inr (.inr (.inr (.inr (.inr ⟨_,_,_,r,rfl,e,i⟩))))
 |_=>cases h
def jgv (h:lN K A H .aW d/\D.eZ d=true): .aW=d:=by
 rcases WB h with ⟨_,e⟩| ⟨_,z,_⟩| ⟨_,z,_⟩| ⟨_,z,_⟩| ⟨_,_,_,z,_⟩| ⟨_,_,_,z,_⟩
 . exact e.symm
 all_goals cases z
def jiP (h:lN K A H (.bl b) d/\D.eZ d=true): .bl b=d:=by
 rcases WB h with ⟨z,_⟩| ⟨_,z,e⟩| ⟨_,z,_⟩| ⟨_,z,_⟩| ⟨_,_,_,z,_⟩| ⟨_,_,_,z,_⟩<;>cases z;exact e.symm
def jgx (h:lN K A H (.int b) d/\D.eZ d=true): .int b=d:=by
 rcases WB h with ⟨z,_⟩| ⟨_,z,_⟩| ⟨_,z,e⟩| ⟨_,z,_⟩| ⟨_,_,_,z,_⟩| ⟨_,_,_,z,_⟩<;>cases z;exact e.symm
def jgu (h:lN K A H (.str b) d/\D.eZ d=true): .str b=d:=by
 rcases WB h with ⟨z,_⟩| ⟨_,z,_⟩| ⟨_,z,_⟩| ⟨_,z,e⟩| ⟨_,_,_,z,_⟩| ⟨_,_,_,z,_⟩<;>cases z;exact e.symm
def jgt (h:lN K A H (.ref a) d/\D.eZ d=true) (c:H a=some (.ap g)): ∃ds,d= .ap ds/\am K A H g ds:=by
 rcases WB h with ⟨z,_⟩| ⟨_,z,_⟩| ⟨_,z,_⟩| ⟨_,z,_⟩| ⟨_,_,_,z,e,q,r⟩| ⟨_,_,_,z,e,q,r⟩<;>cases z<;>rw [c] at q<;>cases q;exact ⟨_,e,r⟩
def jgw (h:lN K A H (.ref a) d/\D.eZ d=true) (g:H a=some (.ah i)): ∃ds,d= .ah ds/\am K (λc=>A c/\c≠a) H i ds:=by
 rcases WB h with ⟨z,_⟩| ⟨_,z,_⟩| ⟨_,z,_⟩| ⟨_,z,_⟩| ⟨_,_,_,z,e,q,r⟩| ⟨_,_,_,z,e,q,r⟩<;>cases z<;>rw [g] at q<;>cases q;exact ⟨_,e,r⟩
def aL.inj (d:D): ∀(A j:VC) v g,D.eZ d=true->D.eZ g=true->aL K A H v d->aL K j H v g->d=g:=by
 have no: ∀ {v A g w},aL K A H v g->D.eZ g=true->v=w->lN K A H w g/\D.eZ g=true:=λr h e=>⟨e▸r.f,h⟩
 refine D.ind (P:=λd=> ∀(A j:VC) v g,D.eZ d=true->D.eZ g=true->aL K A H v d->aL K j H v g->d=g) ?_ ?_ ?_ ?_ ?_ ?_ ?_ ?_ d
 . intro A j v g _ h r l;exact jgv (no l h r.f)
 . intro b A j v g _ h r l;exact jiP (no l h r.f)
 . intro b A j v g _ h r l;exact jgx (no l h r.f)
 . intro b A j v g _ h r l;exact jgu (no l h r.f.1)
 . intro ds n A j v g i m r l;obtain ⟨a,y,rfl,q,u⟩:=r.ik;have o:D.fj ds=true:=i;obtain ⟨z,rfl,p⟩:=jgt (no l m rfl) q;rw [am.oB n o m u p]
 . intro ds n A j v g i m r l;obtain ⟨a,y,rfl,q,_,u⟩:=r.fU;have o:D.fj ds=true:=i;obtain ⟨z,rfl,p⟩:=jgw (no l m rfl) q;rw [am.oB n o m u p]
 . intro ds n A j v g i;cases i
 . exact ⟨(by intro ks ds n A j v g i;cases i),(by intro ks ds n A j v g i;cases i),(by intro c A j v g i;cases i),(by intro ks ds n A j v g i;cases i),(by intro ks ds n A j v g i;cases i),(by intro c ns ds n A j v g i;cases i),(by intro B E A j v g i;cases i),(by intro ds A j v g i;cases i)⟩
end
def CF (a b:List D) (j:Nat):Bool:=match a[j]?,b[j]? with
 |some x,some y=>gq x y
 |_,_=>true
theorem yM: ∀(a b:List D),a.length=b.length->c6 a b=(fK a.length).all (CF a b)
 | [],[],_=>by simp [c6]
 |x::a,y::b,h=>by
  have c:a.length=b.length:=by simpa using h
  rw [fb,List.range_succ_eq_map,vO,List.all_map];simp only [c6];rw [yM a b c];congr 1
theorem JJ: ∀(a b:List D),a.length≠b.length->c6 a b=false
 | [],[],h=>absurd rfl h
 | [],y::b,_=>by simp [c6]
 |x::a,[],_=>by simp [c6]
 |x::a,y::b,h=>by
  simp only [c6];rw [JJ a b (by simpa using h),Bool.and_false]
def UL (a b:List D):c6 a b=((fK (min a.length b.length)).all (CF a b)&&a.length==b.length):=by
 by_cases h:a.length=b.length
 . rw [yM a b h,h];simp
 . rw [JJ a b h];simp [h]
section
variable {X:Cx} {Z:List (Addr×Obj)} {Y:L2.St} {H:Hp} {s:aH}
inductive Cm (X:Cx) (H:Hp) (s:aH):Value->D->Prop where
 |aW:Cm X H s .none .aW
 |bl (b:Bool):Cm X H s (.bool b) (.bl b)
 |int (i:Int) (t:Tok):Cm X H s (.int i t) (.int i)
 |str (x:Str) (t:Tok):Cm X H s (.str x t) (.str x)
 |ap {a:Addr} {xs:List V} {v4:List Value} {ds:List D}:H a=some (.ap xs)->s.heap.IsTuple a v4.toArray->aI xs v4->am X.K Any H xs ds->Cm X H s (.ref a) (.ap ds)
 |ah {a:Addr} {xs:List V} {v4:List Value} {ds:List D}:H a=some (.ah xs)->s.heap.IsList a v4.toArray->aI xs v4->am X.K Any H xs ds->Cm X H s (.ref a) (.ah ds)
def JQ (I:aD X Z Y H s) (r:aL X.K Any H v d) (a:aK v u) (j:D.eZ d=true):Cm X H s u d:=by
 have r:=r.f
 cases d with
 |aW=>cases r;cases a;exact .aW
 |bl b=>cases r;cases a;exact .bl b
 |int i=>cases r;obtain ⟨t,rfl⟩:=a;exact .int i t
 |str x=>cases r.1;obtain ⟨t,rfl⟩:=a;exact .str x t
 |ap ds=>
  obtain ⟨_,_,rfl,e,c⟩:=r;cases a;obtain ⟨g,h,p,l⟩:=I.tuple (.of e);exact .ap e p h c
 |ah ds=>
  obtain ⟨_,_,rfl,e,_,c⟩:=r;cases a;obtain ⟨g,h,p,l⟩:=I.list (.of e);exact .ah e p.isList h c.low
 |_=>cases j
def Er {A:cf} (o:am X.K Any H z a) (p:am X.K Any H B b) (r:aI z g) (vb:aI B c)
  (E: ∀d∈a,∀(v i:V) (u h:Value) (m:D),aL X.K Any H v d->aK v u->aL X.K Any H i m->aK i h->D.eZ d=true->D.eZ m=true->EqAt A.in1 s u h (gq d m)) (I:D.fj a=true) (J:D.fj b=true):
  ∀j (w:j<g.toArray.size) (y:j<c.toArray.size),EqAt A.in1 s g.toArray[j] c.toArray[j] (CF a b j):=by
 intro j w y;have l1:=r.length;have l2:=vb.length;have l3:=o.length;have l4:=p.length;have l:j<a.length:=by simp at w;omega
 have n:j<b.length:=by simp at y;omega
 obtain ⟨v,e1,L⟩:=o.get (cH l);obtain ⟨i,e2,N⟩:=p.get (cH n);obtain ⟨u,O,Q⟩:=r.get e1;obtain ⟨h,U,r4⟩:=vb.get e2
 have g1:g.toArray[j]=u:=by
  have:=m9.mp O;obtain ⟨_,q⟩:=this;simpa using q
 have g2:c.toArray[j]=h:=by
  have:=m9.mp U;obtain ⟨_,q⟩:=this;simpa using q
 rw [g1,g2];have e:CF a b j=gq a[j] b[j]:=by unfold CF;rw [cH l,cH n]
 rw [e];exact E _ (qd l) v i u h _ L Q N r4 (Xv I (qd l)) (Xv J (qd n))
def UO (I:aD X Z Y H s) (d:D): ∀(A:cf) (v m:V) (u n:Value) (l:D),A.units+d.cp<cLine->aL X.K Any H v d->aK v u->aL X.K Any H m l->aK m n->D.eZ d=true->D.eZ l=true->EqAt A s u n (gq d l):=by
 refine D.ind (P:=λd=> ∀(A:cf) (v m:V) (u n:Value) (l:D),A.units+d.cp<cLine->aL X.K Any H v d->aK v u->aL X.K Any H m l->aK m n->D.eZ d=true->D.eZ l=true->EqAt A s u n (gq d l)) ?_ ?_ ?_ ?_ ?_ ?_ ?_ ?_ d
 . intro A v m u n l o r w y g h j;cases JQ I r w h;have a:A.units<cLine:=by simp only [D.cp] at o;omega
   cases JQ I y g j
   . exact EqAt.same _
   . exact EqAt.none_bool _
   . exact EqAt.none_int _ _
   . exact EqAt.none_str _ _
   . exact EqAt.none_tuple (by assumption) a
   . exact EqAt.none_list (by assumption) a
 . intro b A v m u n l o r w y g h j;cases JQ I r w h;have a:A.units<cLine:=by simp only [D.cp] at o;omega
   cases JQ I y g j
   . exact EqAt.bool_none _
   . exact EqAt.bool_bool _ _
   . exact EqAt.bool_int _ _ _
   . exact EqAt.bool_str _ _ _
   . exact EqAt.bool_tuple _ (by assumption) a
   . exact EqAt.bool_list _ (by assumption) a
 . intro i A v m u n l o r w y g h j;cases JQ I r w h;have a:A.units<cLine:=by simp only [D.cp] at o;omega
   cases JQ I y g j
   . exact EqAt.int_none _ _
   . exact EqAt.int_bool _ _ _
   . exact EqAt.int_int _ _ _ _
   . exact EqAt.int_str _ _ _ _
   . exact EqAt.int_tuple _ _ (by assumption) a
   . exact EqAt.int_list _ _ (by assumption) a
 . intro x A v m u n l o r w y g h j;cases JQ I r w h;have a:A.units<cLine:=by simp only [D.cp] at o;omega
   cases JQ I y g j
   . exact EqAt.str_none _ _
   . exact EqAt.str_bool _ _ _
   . exact EqAt.str_int _ _ _ _
   . exact EqAt.str_str _ _ _ _
   . exact EqAt.str_tuple _ _ (by assumption) a
   . exact EqAt.str_list _ _ (by assumption) a
 . intro ds Q A v m u n l o r w y g h j;have a:A.units<cLine:=by simp only [D.cp] at o;omega
   have c1:=JQ I r w h;have c2:=JQ I y g j
   cases c1 with
   |ap e p rv rs=>
     cases c2 with
     |aW=>exact EqAt.tuple_none p a
     |bl b=>exact EqAt.tuple_bool _ p a
     |int i t=>exact EqAt.tuple_int _ _ p a
     |str x t=>exact EqAt.tuple_str _ _ p a
     |ah e2 U J E=>exact EqAt.tuple_list p U a
     | @ap a2 He N L e2 U J E=>
      rename_i a1 Hf O
      by_cases z:a1=a2
      . subst z;have ed:=aL.inj _ Any Any _ _ h j (aL.ap e rs) (aL.ap e2 E);rw [<-ed,UN _ h];exact EqAt.same _
      . have q:=RcAt.tuples p U a (Er rs E rv J (λd hd v m u n l g1 g2 g3 g4 g5 g6=>Q d hd A.in1 v m u n l (by
          have:=JP hd;simp only [D.cp] at o;show A.units+1+d.cp<cLine
          omega) g1 g2 g3 g4 g5 g6) h j)
        have n1:O.toArray.size=ds.length:=by rw [dq,<-rv.length,rs.length]
        have n2:N.toArray.size=L.length:=by rw [dq,<-J.length,E.length]
        rw [n1,n2,<-UL] at q;exact EqAt.of_refs z q
 . intro ds Q A v m u n l o r w y g h j;have a:A.units<cLine:=by simp only [D.cp] at o;omega
   have c1:=JQ I r w h;have c2:=JQ I y g j
   cases c1 with
   |ah e p rv rs=>
     cases c2 with
     |aW=>exact EqAt.list_none p a
     |bl b=>exact EqAt.list_bool _ p a
     |int i t=>exact EqAt.list_int _ _ p a
     |str x t=>exact EqAt.list_str _ _ p a
     |ap e2 U J E=>exact EqAt.list_tuple p U a
     | @ah a2 He N L e2 U J E=>
      rename_i a1 Hf O;have n1:O.toArray.size=ds.length:=by rw [dq,<-rv.length,rs.length]
      have n2:N.toArray.size=L.length:=by rw [dq,<-J.length,E.length]
      by_cases z:a1=a2
      . subst z
        have ed:D.ah ds=D.ah L:=by
          rw [e] at e2;cases e2;rw [am.oB (λd _ A A' v l=>aL.inj d A A' v l) h j rs E]
        rw [<-ed,UN _ h];exact EqAt.same _
      . simp only [Wd]
        by_cases hl:ds.length=L.length
        . have q:=RcAt.lists p U (by rw [n1,n2];exact hl) a (Er rs E rv J (λd hd v m u n l g1 g2 g3 g4 g5 g6=>Q d hd A.in1 v m u n l (by
           have:=JP hd;simp only [D.cp] at o;show A.units+1+d.cp<cLine
           omega) g1 g2 g3 g4 g5 g6) h j)
          rw [n1,<-yM ds L hl] at q;exact EqAt.of_refs z q
        . rw [JJ ds L hl];exact EqAt.of_refs z (RcAt.lists_lengths p U (by rw [n1,n2];simp [hl]) a)
 . intro ds Q A v m u n l o r w y g h;cases h
 . exact ⟨(by intro ks ds Q A v m u n l o r w y g h;cases h),(by intro ks ds Q A v m u n l o r w y g h;cases h),(by intro c A v m u n l o r w y g h;cases h),(by intro ks ds Q A v m u n l o r w y g h;cases h),(by intro ks ds Q A v m u n l o r w y g h;cases h),(by intro c ns ds Q A v m u n l o r w y g h;cases h),(by intro B Φ A v m u n l o r w y g h;cases h),(by intro ds A v m u n l o r w y g h;cases h)⟩
def VI (I:aD X Z Y H s) {A:cf} (hu:A.units+d.cp<cLine) (r:aL X.K Any H v d) (ru:aK v u) (r':aL X.K Any H J n) (Q:aK J y) (U:D.eZ d=true) (o:D.eZ n=true):
  RcAt A s u y (gq d n)/\RcNeAt A s u y (!gq d n):=by
 have a:A.units<cLine:=by omega
 have c1:=JQ I r ru U;have z:=JQ I r' Q o
 cases c1 with
 |aW=>
  cases z
  . exact ⟨RcAt.none_none,RcNeAt.none_none⟩
  . exact ⟨RcAt.none_bool _,RcNeAt.none_bool _⟩
  . exact ⟨RcAt.none_int _ _,RcNeAt.none_int _ _⟩
  . exact ⟨RcAt.none_str _ _,RcNeAt.none_str _ _⟩
  . exact ⟨RcAt.none_tuple (by assumption) a,RcNeAt.none_tuple (by assumption) a⟩
  . exact ⟨RcAt.none_list (by assumption) a,RcNeAt.none_list (by assumption) a⟩
 |bl b=>
  cases z
  . exact ⟨RcAt.bool_none _,RcNeAt.bool_none _⟩
  . exact ⟨RcAt.bool_bool _ _,RcNeAt.bool_bool _ _⟩
  . exact ⟨RcAt.bool_int _ _ _,RcNeAt.bool_int _ _ _⟩
  . exact ⟨RcAt.bool_str _ _ _,RcNeAt.bool_str _ _ _⟩
  . exact ⟨RcAt.bool_tuple _ (by assumption) a,RcNeAt.bool_tuple _ (by assumption) a⟩
  . exact ⟨RcAt.bool_list _ (by assumption) a,RcNeAt.bool_list _ (by assumption) a⟩
 |int i t=>
  cases z
  . exact ⟨RcAt.int_none _ _,RcNeAt.int_none _ _⟩
  . exact ⟨RcAt.int_bool _ _ _,RcNeAt.int_bool _ _ _⟩
  . exact ⟨RcAt.int_int _ _ _ _,RcNeAt.int_int _ _ _ _⟩
  . exact ⟨RcAt.int_str _ _ _ _,RcNeAt.int_str _ _ _ _⟩
  . exact ⟨RcAt.int_tuple _ _ (by assumption) a,RcNeAt.int_tuple _ _ (by assumption) a⟩
  . exact ⟨RcAt.int_list _ _ (by assumption) a,RcNeAt.int_list _ _ (by assumption) a⟩
 |str x t=>
  cases z
  . exact ⟨RcAt.str_none _ _,RcNeAt.str_none _ _⟩
  . exact ⟨RcAt.str_bool _ _ _,RcNeAt.str_bool _ _ _⟩
  . exact ⟨RcAt.str_int _ _ _ _,RcNeAt.str_int _ _ _ _⟩
  . exact ⟨RcAt.str_str _ _ _ _,RcNeAt.str_str _ _ _ _⟩
  . exact ⟨RcAt.str_tuple _ _ (by assumption) a,RcNeAt.str_tuple _ _ (by assumption) a⟩
  . exact ⟨RcAt.str_list _ _ (by assumption) a,RcNeAt.str_list _ _ (by assumption) a⟩
 | @ap a1 Hf l ds e p L N=>
  cases z with
  |aW=>exact ⟨RcAt.tuple_none p a,RcNeAt.tuple_none p a⟩
  |bl b=>exact ⟨RcAt.tuple_bool _ p a,RcNeAt.tuple_bool _ p a⟩
  |int i t=>exact ⟨RcAt.tuple_int _ _ p a,RcNeAt.tuple_int _ _ p a⟩
  |str x t=>exact ⟨RcAt.tuple_str _ _ p a,RcNeAt.tuple_str _ _ p a⟩
  |ah e2 h c g=>exact ⟨RcAt.tuple_list p h a,RcNeAt.tuple_list p h a⟩
  | @ap a2 He m j e2 h c g=>
    have w:l.toArray.size=ds.length:=by rw [dq,<-L.length,N.length]
    have B:m.toArray.size=j.length:=by rw [dq,<-c.length,g.length]
    have el:=Er N g L c (λd hd v J u y n g1 g2 g3 g4 g5 g6=>UO I d A.in1 v J u y n (by
      have:=JP hd;simp only [D.cp] at hu;show A.units+1+d.cp<cLine
      omega) g1 g2 g3 g4 g5 g6) U o
    have q:=RcAt.tuples p h a el;have O:=RcNeAt.tuples p h a el;rw [w,B,<-UL] at q O;exact ⟨q,O⟩
 | @ah a1 Hf l ds e p L N=>
  cases z with
  |aW=>exact ⟨RcAt.list_none p a,RcNeAt.list_none p a⟩
  |bl b=>exact ⟨RcAt.list_bool _ p a,RcNeAt.list_bool _ p a⟩
  |int i t=>exact ⟨RcAt.list_int _ _ p a,RcNeAt.list_int _ _ p a⟩
  |str x t=>exact ⟨RcAt.list_str _ _ p a,RcNeAt.list_str _ _ p a⟩
  |ap e2 h c g=>exact ⟨RcAt.list_tuple p h a,RcNeAt.list_tuple p h a⟩
  | @ah a2 He m j e2 h c g=>
    have w:l.toArray.size=ds.length:=by rw [dq,<-L.length,N.length]
    have B:m.toArray.size=j.length:=by rw [dq,<-c.length,g.length]
    simp only [Wd]
    by_cases E:ds.length=j.length
    . have el:=Er N g L c (λd hd v J u y n g1 g2 g3 g4 g5 g6=>UO I d A.in1 v J u y n (by
       have:=JP hd;simp only [D.cp] at hu;show A.units+1+d.cp<cLine
       omega) g1 g2 g3 g4 g5 g6) U o
      have q:=RcAt.lists p h (by rw [w,B];exact E) a el;have O:=RcNeAt.lists p h (by rw [w,B];exact E) a el;rw [w,<-yM ds j E] at q O;exact ⟨q,O⟩
    . rw [JJ ds j E];exact ⟨RcAt.lists_lengths p h (by rw [w,B];simp [E]) a,RcNeAt.lists_lengths p h (by rw [w,B];simp [E]) a⟩
end
section
variable {X:Cx}
def Q3:D->D->Bool
 | .ah a,.ah b=>a.length !=b.length
 |_,_=>false
def XX (h:Q3 a b=true):gq a b=false:=by
 unfold Q3 at h
 split at h
 . exact JJ _ _ (by simpa using h)
 . cases h
def CG (a b:D):Prop:=(D.eZ a=true/\D.eZ b=true/\a.cp<=190)\/Q3 a b=true
instance (a b:D):Decidable (CG a b):=inferInstanceAs (Decidable (_\/_))
def tK (K:aG) (neg:Bool):R2:=λx y H Q=> ∃a b,aL K Any H x a/\aL K Any H y b/\CG a b/\Q (.bl (if neg then !gq a b else gq a b)) H
def XY {y:L2.St} (I:aD X n y H s) (o:A.units<cLine) (r:aL X.K Any H v d) (z:aK v u) (B:aL X.K Any H E J) (g:aK E q) (h:Q3 d J=true):
   RcAt A s u q false/\RcNeAt A s u q true:=by
 unfold Q3 at h
 split at h
 . obtain ⟨a,U,rfl,L,_,N⟩:=r.fU;obtain ⟨Y,O,rfl,i,_,j⟩:=B.fU;cases z;cases g;obtain ⟨l,Q,p,_⟩:=I.list (.of L);obtain ⟨c,m,w,_⟩:=I.list (.of i)
   have e:(l.toArray.size !=c.toArray.size)=true:=by
    rw [dq,dq,<-Q.length,<-m.length,N.length,j.length];exact h
   exact ⟨RcAt.lists_lengths p.isList w.isList e o,RcNeAt.lists_lengths p.isList w.isList e o⟩
 . cases h
def zU (n:X.A.units+200<cLine):dG X (iD .Eq) (tK X.K false):=by
 rintro c s o H x y v u Q I e g ⟨a,b,h,i,hc,q⟩;rcases hc with ⟨j,l,hd⟩|hc
 . exact (VI I (by omega) h e i g j l).1 X.prog X.w X.xe _ ⟨.bl _,H,I,rfl,q⟩
 . have m:Q (.bl false) H:=by have:=XX hc;simpa [this] using q
   exact (XY I (by omega) h e i g hc).1 X.prog X.w X.xe _ ⟨.bl _,H,I,rfl,m⟩
def Wq (n:X.A.units+200<cLine):dG X (iD .NotEq) (tK X.K true):=by
 rintro c s o H x y v u Q I e g ⟨a,b,h,i,hc,q⟩;rcases hc with ⟨j,l,hd⟩|hc
 . exact (VI I (by omega) h e i g j l).2 X.prog X.w X.xe _ ⟨.bl _,H,I,rfl,q⟩
 . have m:Q (.bl true) H:=by have:=XX hc;simpa [this] using q
   exact (XY I (by omega) h e i g hc).2 X.prog X.w X.xe _ ⟨.bl _,H,I,rfl,m⟩
def eB (a b:D):aj D:=a4 (CG a b) (.ok (.bl (gq a b)))
def mJ (a b:D):aj D:=a4 (CG a b) (.ok (.bl (!gq a b)))
def yh {K:aG}:gJ K (tK K false) eB:=λx y H a b d Q c g e q=>by
 obtain ⟨h,e2⟩:=jv e;cases e2;exact ⟨a,b,c,g,h,q _ (jV _)⟩
def kX {K:aG}:gJ K (tK K true) mJ:=λx y H a b d Q c g e q=>by
 obtain ⟨h,e2⟩:=jv e;cases e2;exact ⟨a,b,c,g,h,q _ (jV _)⟩
def aO.dA (r:aO k A):A.units+200<cLine:=by have:=r.un;omega
end
end M
namespace M
open PySem PySem.Spec L2
open PyProof.Rows hiding St
section
variable {X:Cx} {K:aG}
def Xq {lo:Option Int} (c:IsTup s.heap t a) (m:s.heap.IsSliceOf n p q .none) (r:IsPart p lo) (u:IsPart q g)
  (hw:HT.ci a.size 0 lo=0/\HT.ci a.size a.size g=a.size) (h:Q (.ref t) s):wpAny (model o w) A (rG (.ref t) (.ref n)) Q E s:=by
 obtain ⟨os,i,j,v⟩:=id m;have l:s.TypeIs (.ref n) "slice" :=⟨os,i,j⟩
 unfold rG
 try with_reducible refine nA ?_
 first|refine ay (aR ?_)|skip
 refine ay (wpAny_sequenceKey c.typeIs (by decide) ?_)
 refine ay (Bo c.typeIs Af
  (tq Af c.typeIs entry_tuple_getitem ?_ (args_tuple_getitem _ _)))
 show wpAny _ _ (MJ (.ref t)>>=_) _ _ s;refine ay (tupleItemsOf_ c ?_);refine ay (Bp l ?_);rw [if_pos (by decide)];refine ay (HT.eO m r u ?_)
 have e:(((HT.ci a.size 0 lo:Nat):Int)==0&&(1:Int)==1&&(HT.ci a.size a.size g-HT.ci a.size 0 lo)==a.size)=true:=by
  rw [hw.1,hw.2];simp
 show wpAny _ _ (if (((HT.ci a.size 0 lo:Nat):Int)==0&&(1:Int)==1&&(HT.ci a.size a.size g-HT.ci a.size 0 lo)==a.size)=true then _ else _) _ _ s;rw [if_pos e];unfold Builtin.Tuple.tupleIsExact;refine ay (ay (Bp c.typeIs (aR ?_)));rw [if_pos (by decide)]
 first
  |exact ay (sT (ay (aR (aR ⟨_,rfl,aR h⟩))))
  |exact ay (sT (aR ⟨_,rfl,aR h⟩))
  |exact ay (sT (ay (aR ⟨_,rfl,aR h⟩)))
def CH (K:aG):V->Option Int->Option Int->Hp->VK->Prop:=λx lo e H Q=> ∃a c,x= .ref a/\i9 K H a c/\(HT.ci c.length 0 lo=0/\HT.ci c.length c.length e=c.length)/\Q (.ref a) H
def rU:tt X (CH X.K):=by
 rintro g s u H x v w y lo z B Q I i j l m ⟨a,n,o,p,hw,q⟩;subst o;cases i;obtain ⟨e,r,h,E⟩:=I.tuple p;have c:e.toArray.size=n.length:=by rw [dq];exact r.length.symm
 exact ⟨"tuple",_,Af.lookup,h.typeIs,Xq h j l m (by rw [c];exact hw) ⟨.ref a,H,I,rfl,q⟩⟩
noncomputable def dg (z:Str) (lo a:Option Int):Str:=
 if ((qZ lo a 1 z.length).length==z.length)=true then z else ⟨((qZ lo a 1 z.length).filterMap (z.cps[·]?)).toArray⟩
def UW (z:Str) (lo a:Option Int):(dg z lo a).length<=z.length:=by
 unfold dg
 split
 . exact bf _
 . show ((qZ lo a 1 z.length).filterMap (z.cps[·]?)).toArray.size<=z.length;rw [dq];exact dw (List.length_filterMap_le _ _) (PyProof.Rows.indices_len_le lo a z.length)
def CI:V->Option Int->Option Int->Hp->VK->Prop:=λx lo a H Q=> ∃z,x= .str z/\z.length<=aV/\Q (.str (dg z lo a)) H
def uZ (h:IsPart v o): ∃p:Option (Int×Tok),v=partValue p/\p.map (·.1)=o:=by
 cases h with
 |none=>exact ⟨none,rfl,rfl⟩
 |int i t=>exact ⟨some (i,t),rfl,rfl⟩
def jht:tt X CI:=by
 rintro g s y H x v B E lo a J Q I i j m n ⟨z,o,p,q⟩;subst o;obtain ⟨t,rfl⟩:=i;obtain ⟨l,rfl,el⟩:=uZ m;obtain ⟨u,rfl,r⟩:=uZ n;refine ⟨"str",_,F.slot_str_getitem.lookup,typeIs_str s z t,wpAny_getItem_str_slice (st:=none) j rfl ?_⟩;have w:slicePicked z l u none=qZ lo a 1 z.length:=by unfold slicePicked;rw [el,r];rfl
 unfold sliceMade;rw [w]
 by_cases c:((qZ lo a 1 z.length).length==z.length)=true
 . have e:dg z lo a=z:=by unfold dg;rw [if_pos c]
   rw [e] at q;rw [if_pos (by simpa using c)];exact ⟨.str z,H,I,⟨t,rfl⟩,q⟩
 . have e:dg z lo a=⟨((qZ lo a 1 z.length).filterMap (z.cps[·]?)).toArray⟩:=by unfold dg;rw [if_neg c]
   have h:=UW z lo a;rw [e] at q h;rw [if_neg (by simpa using c)];exact ⟨dw h p,.str _,H,I.tok _,⟨_,rfl⟩,q⟩
def oC:D->Option Int->Option Int->aj D
 | .ap ds,lo,a=>(.ok (.ap (cutD ds lo a)))
 | .ah ds,lo,a=>(.ok (.ah (cutD ds lo a)))
 | .str z,lo,a=> .ok (.str (dg z lo a))
 |_,_,_=> .ai
def jbT {lo:Option Int} (a:HT.ci ds.length 0 lo=0) (c:HT.ci ds.length ds.length e=ds.length):cutD ds lo e=ds:=by
 unfold cutD;rw [a,c];simp
def jfi {lo:Option Int} (n:aL X.K A H x a) (l:oC a lo h= .ok d) (q: ∀v o,al H o->aL X.K (λc=>H c=none\/A c) o v d->br H v->Q v o):
  B8 X.K x lo h H Q\/CH X.K x lo h H Q\/Cc X.K x lo h H Q\/CI x lo h H Q:=by
 cases a with
 |ap ds=>
  cases l;obtain ⟨b,e,rfl,i,j⟩:=n.ik;have m:=j.length
  by_cases hw:HT.ci e.length 0 lo=0/\HT.ci e.length e.length h=e.length
  . refine .inr (.inl ⟨b,e,rfl,.of i,hw,?_⟩);rw [m] at hw;rw [jbT hw.1 hw.2] at q;exact q _ H (al.refl H) (.ap i (j.aQ Eo)) (jfb i)
  . exact .inl ⟨b,e,rfl,.of i,hw,λp g=>q _ _ (al.aU g) (.ap jy (((Vh j).aQ Eo).ao (al.aU g))) (qA (al.refl H) g)⟩
 |ah ds=>
  cases l;obtain ⟨b,e,rfl,i,_,j⟩:=n.fU;exact .inr (.inr (.inl ⟨b,e,rfl,.of i,λp g=>q _ _ (al.aU g) (.ah jy (.inl g) (((Vh j.low).laid g).aQ λc z=>⟨.inr z.1,z.2⟩)) (qA (al.refl H) g)⟩))
 |str z=>
  cases l;obtain ⟨rfl,r⟩:=n.iT;have m:=dw (UW z lo h) r;exact .inr (.inr (.inr ⟨z,rfl,r,q _ H (al.refl H) (.str _ m) (Ha (Eg (K:=X.K) _ m))⟩))
 |_=>cases l
def xT {lo:Option Expr} (r:DE X .s e f) (u:DO X lo w) (y:DO X B E):
   DE X .t (.Subscript e (.Slice lo B none p2) I) (zf f w E oC):=by
 with_unfolding_all exact (
  PE.imp (VS (Ag.or (rU.or (oT.or jht))) r u y) λσ H Q=>by
   rintro ⟨G,i,g,d,k,h,q⟩;obtain ⟨a,e1,h⟩:=jd h;obtain ⟨j,e2,h⟩:=jd h;obtain ⟨l,J,L⟩:=jd h;refine ⟨G,i,g,a,k,e1,λx H1 m N _=>⟨G,i,g,j,k.ao m,e2,λH2 n=>⟨G,i,g,l,(k.ao m).ao n,J,λH3 p=>?_⟩⟩⟩;have o:=m.trans (n.trans p)
   exact jfi ((N.ao n).ao p) L λv O U Y Z=>q v O (o.trans U) (Y.aQ λc z=>z.elim (λz=>k.new c (al.free o z)) λz=>z) (Z.ao o))
def Nm (K:aG) (r:V->List V->Hp->VK->Prop) (g:D->List D->aj D):Prop:= ∀(x:V) (c:List V) (H:Hp) (a:D) (ds:List D) (d:D) (Q:VK),aL K Any H x a->am K Any H c ds->g a ds= .ok d->(∀v,Sc K v d->Q v H)->r x c H Q
def jhr (r:aL K A H v (.str z)):Gp K "str" v H:=by rw [r.iT.1];exact rfl
noncomputable def Es (f:TF) (e:TB) (g:Str->List D->aj D):Sl->aj D:=λc=>f c>>=λa=>match a with
 | .str z=>e c>>=λds=>g z ds
 |_=> .ai
def jj0 {J:Lv} {i c:Pos} {id:String}
   (slot:PySem.Slot "str" name id) (u:typeOf (.builtin id)=pure (.type "method_descriptor")) (L:tu X id r) (N:Nm X.K r (λa ds=>match a with| .str z=>g z ds|_=> .ai)) (O:DE X l1 o f) (U:DA X l2 (e::m) Y)
   (j:mz o name X.env (eval o X.env)=eval o X.env:=by rfl)
   (n:((gz c (bB (e::m) X.env)).all (λx=>!x.1)&&(n6 c (n8 [] X.env)).all (λx=>x.1.isSome)
    &&decide ((e::m).length+([]:List l9).length+(if ([]:List l9).isEmpty then 0 else 1)<30))=true:=by exact xy rfl rfl)
   (l:(i.endLine==c.line)=true:=by rfl) (Z:T8 X e m:=by exact jm rfl) (h:T7 X c m:=by exact jH rfl):
   DE X J (.Call (.Attribute o name i) (e::m) [] c) (Es f Y g):=by
 with_unfolding_all exact (
  PE.imp (kP PySem.F.plainAttrs_str slot u L O U j n l Z h) λσ H Q=>by
   rintro ⟨G,w,p,d,k,ef,q⟩;obtain ⟨a,e1,e2⟩:=jd ef
   cases a with
   |str z=>
    obtain ⟨ds,e3,e4⟩:=jd e2;refine ⟨G,w,p,_,k,e1,λx H1 y B _=>⟨jhr B,G,w,p,ds,k.ao y,e3,λxs H2 E r2=>?_⟩⟩;exact N x xs H2 (.str z) ds d Q ((B.ao E).aQ Lv.bo) (r2.aQ Lv.bo) e4 λv I=>q v H2 (y.trans E) (I.1 _ _) I.T
   |_=>cases e2)
def jfW:tu X "str.find" (λx c H Q=> ∃z y,x= .str z/\c=[.str y]/\Q (.int (Txt.find z y)) H):=by
 rintro e s l H x c v m Q I g h ⟨z,y,i,a,q⟩;subst i a;obtain ⟨t,rfl⟩:=g;obtain ⟨u,rfl,j⟩:=yY h;obtain ⟨n,rfl⟩:=j;exact SC.find ⟨.int _,H,I.tok _,⟨_,rfl⟩,q⟩
def Et (z:Str):List D->aj D
 | [.str y]=> .ok (.int (Txt.find z y))
 |_=> .ai
def jfZ:Nm K (λx c H Q=> ∃z y,x= .str z/\c=[.str y]/\Q (.int (Txt.find z y)) H) (λa ds=>match a with| .str z=>Et z ds|_=> .ai):=by
 intro x c H a ds d Q g h e q
 cases a with
 |str z=>
  dsimp only at e;unfold Et at e
  split at e
  . cases e;obtain ⟨v,rfl,i⟩:=h.one;exact ⟨z,_,g.iT.1,by rw [i.iT.1],q _ (oW _)⟩
  . cases e
 |_=>cases e
def cD:Sl->aj D:=λ_=> .ok (.dr [] [])
def jdT:DE X .t (.Dict [] [] c) cD:=by
 with_unfolding_all exact (PE.imp ZN λh H Q=>by
  rintro ⟨G,i,e,d,k,g,q⟩;cases g
  exact λp a=>q _ _ (al.aU a) (.dr jy (k.new p a) rfl rfl .nil) (qA (al.refl H) a))
end
abbrev CJ:D->D->aj D:=iG QG λi j=> .int (i-j)
abbrev pF:D->D->aj D:=iG pE λi j=> .int (i*j)
abbrev dh:D->D->aj D:=iG CB λi j=> .int (i/j)
abbrev bG:D->D->aj D:=iG CC λi j=> .int (i%j)
abbrev il:D->D->aj D:=iG AH λi j=> .int (i^j.toNat)
abbrev ltI:D->D->aj D:=iG QG λi j=> .bl (decide (i<j))
abbrev pG:D->D->aj D:=iG QG λi j=> .bl (decide (i<=j))
abbrev pH:D->D->aj D:=iG QG λi j=> .bl (decide (j<i))
abbrev Nn:D->D->aj D:=iG QG λi j=> .bl (decide (j<=i))
structure Av (P:bQ) (w:World) (K:aG) (mg:X7) (ae:Heap) (k:Nat) (x:Str) (ps:List Str) (fr:Bool) (F:Tz):Prop where
 ex: ∃f fd,cZ P w K mg ae lM k f fd ps (qU K fr ps.length F)/\mg x=some (.ref f)/\l8 K (.ref f)=true/\Binds K fd ps []
def Av.mono {K:aG} (h:Av P w K mg ae j x ps c F) (e:j<=k):Av P w K mg ae k x ps c F:=
 let ⟨f,g,a,b⟩:=h.ex
 ⟨f,g,a.mono e,b⟩
section
variable {X:Cx} {k:Nat} {x:Str} {ps:List Str} {U:Bool} {F:Tz} {e:Expr} {Y:List Expr} {p Z:Pos} {g:TB}
def Av.call (A:Av X.prog X.w X.K X.mg X.ae k x ps U F) (hr:aO k X.A) (h:DA X .s (e::Y) g) (i:ps.length=n:=by rfl) (hg:Gl X x:=by rfl) (a:Z8 x:=by decide)
  (j:T8 X e Y:=by exact jm rfl) (c:T7 X Z Y:=by exact jH rfl):DE X .s (.Call (.Name x p) (e::Y) [] Z) (jn n F g):=by
 subst i;obtain ⟨f,q,l,m,h3,o⟩:=A.ex;exact jgN l hr hg m h3 o uX h a j c
def Av.aC (A:Av X.prog X.w X.K X.mg X.ae k x ps true F) (hr:aO k X.A) (h:DA X .s (e::Y) g) (i:ps.length=n:=by rfl) (hg:Gl X x:=by rfl) (a:Z8 x:=by decide)
  (j:T8 X e Y:=by exact jm rfl) (c:T7 X Z Y:=by exact jH rfl):DE X .t (.Call (.Name x p) (e::Y) [] Z) (jn n F g):=by
 subst i;obtain ⟨f,q,l,m,h3,o⟩:=A.ex;exact jdU l hr hg m h3 o uX h a j c
end
noncomputable def aJ (c:Bool) (n:Nat) (g:TC) (ds:List D):aj D:=match g (j8 n ds) with
 | .ok (.rt a d)=>if c=true/\a=false then .ai else .ok d
 | .ok (.nx _)=> .ok .aW
 |_=> .ai
def J7 (h:aJ i n g ds= .ok d):Meets i n g ds d:=by
 unfold aJ at h
 split at h
 . rename_i a m e
   split at h
   . cases h
   . rename_i j;cases h;refine .inl ⟨a,e,λl=>?_⟩
     cases a with
     |true=>rfl
     |false=>exact absurd ⟨l,rfl⟩ j
 . rename_i c e;cases h;exact .inr ⟨rfl,c,e⟩
 . cases h
section
variable {P:bQ} {w:World} {K:aG} {mg:X7} {ae:Heap}
def jj4 {st:Stmt} (j:Bool) (l:nF K x x st f m) (e:mg x=some (.ref f)) (S:aq N ps (jg st)) (i:Binds K m ps [])
  (n: ∀(c:Value) (A:cf) (a:List Env) (s:aH) (H:Hp) (E:XK),aO k (A.deeper (lE x (jg st) s.heap.objs.size f c))->ma (b8 lM P w K mg ae N x (jg st) f c A a s H E).pc (qe st) g):
  Av P w K mg ae (k+1) x ps j (aJ j N.length g):=
 ⟨f,m,G9 l S n λds d _ h=>J7 h,e,l.kp,i⟩
def jgY {st:Stmt} (i:Bool) (j:nF K x x st f h) (a:mg x=some (.ref f)) (c:Binds K h ps []):Av P w K mg ae k x ps i (λ_=> .ai):=
 ⟨f,h,⟨λl H Q E ⟨B,ds,d,m,_⟩=>m,λA g s H args n l Q E _ _ _ _ ⟨B,ds,d,_,_,e,_⟩=>by cases e⟩,a,j.kp,c⟩
end
def vx {K:aG} {st:Stmt} (i:Bool) (j:nF K x x st f l) (S:aq N ps (jg st))
 (m: ∀(c:Value) (A:cf) (a:List Env) (s:aH) (H:Hp) (E:XK),aO k (A.deeper (lE x (jg st) s.heap.objs.size f c))->ma (b8 lM P w K n e N x (jg st) f c A a s H E).pc (qe st) g):
 cZ P w K n e lM (k+1) f l ps (qU K i ps.length (aJ i N.length g)):=G9 j S m λds d _ h=>J7 h
def zd:n4 "list" =some (.type "list"):=by decide+kernel
def jj3 (e:List Str) (No a:Scope) (N:List Str) (m:Nat) (c:List Nat):Bool:=(fK c.length).all λk=>match N[m+k]?,(c[k]?).bind (e[·]?) with
 |some y,some g=>y==g&&(No.names.lookup y==some .cell||No.names.lookup y==some .free)&&a.names.lookup y==some .free
 |_,_=>false
noncomputable def CK (z:Option Str) (e:List Str) (a scope:Scope) (cl:List (Str×Addr)) (N:List Str) (m:Nat) (c:List Nat):Bool:=
 (scope.names.all λx=>x.2 != .local||scope.names.lookup x.1==some .local)&&(scope.names.all λx=>x.2 != .cell||z==some x.1)&&(match z with
   |some y=>scope.names.lookup y==some .cell
   |none=>true)&&(scope.names.all λy=>y.2 != .free||cl.any λp=>p.1==y.1)&&
  jj3 e a scope N m c&&(match N[m+c.length]? with
   |some y=>scope.names.all λp=>p.1 !=y
   |none=>true)&&N.length==m+c.length+1
def vK {a:List (Str×Addr)} (h:(a.any λp=>p.1==y)=true): ∃c,a.lookup y=some c:=by
 induction a with
 |nil=>cases h
 |cons p r g=>
  obtain ⟨n,c⟩:=p;rw [Br,wh] at h;simp only [rN]
  cases e:y==n with
  |true=>exact ⟨c,rfl⟩
  |false=>
   rcases h with h|h
   . have:n=y:=by simpa using h
     subst this;simp at e
   . exact g h
def rV (a:List (Str×Addr)):List (Str×Addr)->Prop
 | []=>True
 |p::r=>a.lookup p.1=some p.2/\rV a r
theorem rV.mem: ∀ {c:List (Str×Addr)},rV a c-> ∀p∈c,a.lookup p.1=some p.2
 |_::_,h,p,g=>(dk.mp g).elim (λe=>e▸h.1) (rV.mem h.2 p)
def wH (z:Option Str) {X:Cx} (i:closureFor a X.env=pure l) (o:a.kind= .function) (w:N.Nodup) (q:rV X.env.cells l)
   (h:CK z X.N X.env.scope a l N m B=true) (made: ∀n,cellsFrom (n+1) a.names l=vQ z l n:=by intro _;rfl) (g: ∀h,pushCells h a.names=GX z h:=by intro _;rfl):gL z X a l N m B:=by
 simp only [CK,eX,lI,beq_iff_eq] at h;obtain ⟨⟨⟨⟨⟨⟨E,H⟩,u⟩,I⟩,J⟩,v⟩,L⟩:=h;refine ⟨i,o,λx O e=>?_,λy r e=>?_,made,g,λy e=>by rw [e] at u;exact beq_iff_eq.mp u,λx c e=>q.mem (x,c) (Ac e),λy r e=>?_,w,L,λk j e=>?_,λy e p Q=>?_⟩
 . have:=E x O;rw [e] at this;simpa using this
 . have:=H y r;rw [e] at this;simpa using this
 . have:=I y r;rw [e] at this;exact vK (by simpa using this)
 . have U:=(m9.mp e).1;have:=lI.mp J k (ic.mpr U);rw [e] at this;simp at this
   cases e1:N[m+k]? with
   |none=>rw [e1] at this;cases this
   |some y=>
    cases e2:X.N[j]? with
    |none=>rw [e1,e2] at this;cases this
    |some y'=>
     rw [e1,e2] at this;simp at this;obtain ⟨⟨Y,g2⟩,Z⟩:=this;subst Y;exact ⟨y,rfl,rfl,g2,Z⟩
 . rw [e] at v;have:=lI.mp v p Q;simpa using this
end M
namespace M
open PySem PySem.Spec L2
def qj (h:a d c= .ok (.nx U)):bn a (d::ds) c=bn a ds U:=by
 show (a d c>>=_)=_;rw [h];rfl
def Xs (h:a d c= .ok (.rt e v)):bn a (d::ds) c= .ok (.rt e v):=by
 show (a d c>>=_)=_;rw [h];rfl
theorem ZL {c:Type} (E:c->Sl) (step:c->D->c) (P:List D->c->Prop)
  (e: ∀d ds a,P (d::ds) a->body d (E a)= .ok (.nx (E (step a d)))/\P ds (step a d)): ∀(ds:List D) (a:c),P ds a->bn body ds (E a)= .ok (.nx (E (ds.foldl step a)))
 | [],a,_=>rfl
 |d::ds,a,h=>by
  obtain ⟨g,i⟩:=e d ds a h;rw [qj g,ZL E step P e ds _ i];rfl
theorem YZ {E:D->List D->Sl} (h:D->D) (P:D->Prop)
  (i: ∀x a,cq n (E x a)= .ok a) (j: ∀x a c,(E x a).set n (.aw (.ah c))=E x c)
  (l: ∀x d a,t d (E x a)= .ok (E d a)) (m: ∀d a,P d->g (E d a)= .ok (h d)):
  ∀(ds:List D) (x:D) (a:List D),(∀d∈ds,P d)->a.length+ds.length<=aV-> ∃y,q8 n t qF g ds (E x a)= .ok (E y (a++ds.map h))
 | [],x,a,_,_=>⟨x,by simp [q8]⟩
 |d::ds,x,a,o,p=>by
  simp at p;obtain ⟨y,q⟩:=YZ h P i j l m ds d (a++[h d]) (λe r=>o e (by simp [r])) (by simp;omega);refine ⟨y,?_⟩
  have u:q8 n t qF g (d::ds) (E x a)=q8 n t qF g ds (E d (a++[h d])):=by
   show (t d (E x a)>>=_)=_;rw [l];show (g (E d a)>>=_)=_;rw [m d a (o d (by simp))];rw [i];show a4 _ _=_;rw [jl (by omega),j]
  rw [u,q];simp
def Hg {ds:List D} (h:D->D) (P:D->Prop) (o:j a= .ok ds) (l: ∀d∈ds,P d) (p:ds.length<=aV)
  (m: ∀d i,P d->g [.aa d,.aw (.ah i)]= .ok (h d)):zE false 1 [] j (gN 0) qF g a= .ok (.ah (ds.map h)):=by
 show (j a>>=_)=_;rw [o];show (q8 1 (gN 0) qF g ds [.un,.aw (.ah [])]>>=_)=_
 cases ds with
 |nil=>rfl
 |cons d ds=>
  simp at p;obtain ⟨y,q⟩:=YZ (n:=1) (t:=gN 0) h P (λ_ _=>rfl) (λ_ _ _=>rfl) (λ_ _ _=>rfl) m ds d [h d] (λe r=>l e (by simp [r])) (by simp;omega)
  have u:q8 1 (gN 0) qF g (d::ds) [.un,.aw (.ah [])]=q8 1 (gN 0) qF g ds [.aa d,.aw (.ah [h d])]:=by
   show (g [.aa d,.aw (.ah [])]>>=_)=_;rw [m d [] (l d (by simp))];exact jl (c:=([]:List D).length<aV) (by simp;omega)
  rw [u,q];rfl
variable {env U:Sl} {f Y Q L:TF} {g O g2:TC} {t J N:TD} {Z:TB} {i:Nat} {d:D} {b:Bool}
@[simp] theorem xS {c e:Type} {a:c} {f:c->aj e}:(aj.ok a>>=f)=f a:=rfl
@[simp] theorem Hh {e h:Type} {c:Prop} [Decidable c] {a b:aj e} {f:e->aj h}:((if c then a else b)>>=f)=if c then a>>=f else b>>=f:=by split<;>rfl
def pI (g:TC):ba->aj ba
 | .nx e=>g e
 |o=> .ok o
@[simp] theorem u9:pI g (.nx env)=g env:=rfl
@[simp] theorem KH {a:Bool}:pI g (.rt a d)= .ok (.rt a d):=rfl
@[simp] theorem yq:ax O g2 env=(O env>>=pI g2):=by
 show (O env>>=_)=_;congr 1;funext o;cases o<;>rfl
@[simp] theorem jgo:fV i f env=(f env>>=λd=> .ok (.nx (env.set i (Kn d)))):=rfl
@[simp] theorem UH:jB i f env=(f env>>=λd=> .ok (.nx (env.set i (.aa d)))):=rfl
@[simp] theorem ZO:aM f env=(f env>>=λd=> .ok (.rt true d)):=rfl
@[simp] theorem jgp:retS f env=(f env>>=λd=> .ok (.rt false d)):=rfl
@[simp] theorem Np:cz env= .ok (.nx env):=rfl
@[simp] theorem YN:cT t O g2 env=(t env>>=λb=>if b=true then O env else g2 env):=rfl
@[simp] theorem UI:iU J N env=(J env>>=λb=>if b=true then .ok true else N env):=rfl
@[simp] theorem K8:cj t env=(t env>>=λb=> .ok (!b)):=rfl
def CL:D->aj Bool
 | .bl b=> .ok b
 |_=> .ai
@[simp] theorem Vp:CL (.bl b)= .ok b:=rfl
@[simp] theorem UK:a5 f env=(f env>>=CL):=rfl
@[simp] theorem UG {h:D->D->aj D}:ak Y Q h env=(Y env>>=λx=>Q env>>=λy=>h x y):=rfl
@[simp] theorem Hi {j:Int}:cI j env= .ok (.int j):=rfl
@[simp] theorem Nq:cB b env= .ok (.bl b):=rfl
@[simp] theorem JI:jb f Z env=(f env>>=λd=>Z env>>=λds=> .ok (d::ds)):=rfl
@[simp] theorem K9:af env= .ok []:=rfl
@[simp] theorem YO {h:Tz}:app Z h env=(Z env>>=h):=rfl
@[simp] theorem UJ {n:Nat} {F:Tz}:jn n F Z env=(Z env>>=λds=>a4 (ds.length=n) (F ds)):=rfl
@[simp] theorem jgn:aT Z env=(Z env>>=λds=>a4 (ds.length<=aV) (.ok (.ap ds))):=rfl
@[simp] theorem jgr:b9 Z env=(Z env>>=λds=>a4 (ds.length<=aV) (.ok (.ah ds))):=rfl
@[simp] theorem Jk {T:String}:cr T f env=(f env>>=j1 T):=rfl
@[simp] theorem Hj:fh f env=(f env>>=Ek):=rfl
@[simp] theorem Va {a:Tx} {c:TB}:dz c a g env=(c env>>=λds=>bn (qm a g) ds env):=rfl
@[simp] theorem jdy {c e:Sl->aj (Option Int)} {h:D->Option Int->Option Int->aj D}:zf f c e h env=(f env>>=λa=>c env>>=λlo=>e env>>=λj=>h a lo j):=rfl
@[simp] theorem jdx:xt f env=(f env>>=M0):=rfl
@[simp] theorem Hk:ag i env=match env[i]? with|some (.aa d)=> .ok d|_=> .ai:=rfl
noncomputable def toK (g:aj D) (w:Bool):D->aj D
 | .bl b=>if b=w then g else .ok (.bl b)
 |_=> .ai
@[simp] theorem jhj {r:aj D} {w:Bool}:toK r w (.bl b)=if b=w then r else .ok (.bl b):=rfl
@[simp] theorem Nr {w:Bool}:n9 Y Q w env=(Y env>>=toK (Q env) w):=by
 show (Y env>>=_)=_;congr 1
noncomputable def Hl (f:aj D) (a:D->D->aj D) (y:D):D->aj D
 | .bl true=>f>>=λw=>a y w
 | .bl false=> .ok (.bl false)
 |_=> .ai
@[simp] theorem U0 {r:aj D} {h:D->D->aj D} {y:D}:Hl r h y (.bl b)=if b=true then r>>=λw=>h y w else .ok (.bl false):=by cases b<;>rfl
@[simp] theorem QX {h a:D->D->aj D}:ZW Y Q L h a env=(Y env>>=λx=>Q env>>=λy=>h x y>>=Hl (L env) a y):=by
 show (Y env>>=_)=_;congr 1
@[simp] theorem jgq {a:Type} {c:Prop} [Decidable c] {r:aj a}:a4 c r=if c then r else .ai:=rfl
@[simp] theorem Hm {C:Int->Int->Prop} [∀i j,Decidable (C i j)] {h:Int->Int->D} {m n:Int}:iG C h (.int m) (.int n)=if C m n then .ok (h m n) else .ai:=rfl
noncomputable def runK (c:Bool):ba->aj D
 | .rt a d=>if c=true/\a=false then .ai else .ok d
 | .nx _=> .ok .aW
 |_=> .ai
def yr (h:g (j8 n ds)= .ok o):aJ a n g ds=runK a o:=by
 unfold aJ;rw [h];cases o<;>rfl
end M
namespace M
def Q1 (e:t a= .ok true) (h:g a= .ok (.nx c)):za (n+1) t g a=za n t g c:=by
 rw [za,e,xS,if_pos rfl,h];rfl
def vW (c:t a= .ok true) (h:g a= .ok (.rt e d)):za (n+1) t g a= .ok (.rt e d):=by
 rw [za,c,xS,if_pos rfl,h];rfl
def JZ (c:t a= .ok false):za (n+1) t g a= .ok (.nx a):=by
 rw [za,c,xS,if_neg (by simp)]
end M
namespace M
open PySem PySem.Spec L2
noncomputable def au:D->List D
 | .ap (_::r)=>r
 |_=>[]
mutual
noncomputable def num:D->Nat
 | .ap (_::r)=>1+nums r
 |_=>1
noncomputable def nums:List D->Nat
 | []=>0
 |d::r=>num d+nums r
end
mutual
def gE:D->Nat
 | .ap (_::r)=>1+cG r
 |_=>1
def cG:List D->Nat
 | []=>0
 |d::r=>max (gE d) (cG r)
end
mutual
def bh:D->List D
 | .ap (x::r)=> .ap (x::r)::eh r
 |d=>[d]
def eh:List D->List D
 | []=>[]
 |d::r=>bh d++eh r
end
def Ho:D->Bool| .eN _=>false| .fL _=>false| .ng _ _=>false| .ni _ _=>false| .obj _ _ _=>false| .mem _ _=>false| .fE _=>false|_=>true
mutual
def dE:D->Bool
 | .eN _=>false
 | .fL _=>false
 | .ng _ _=>false
 | .ni _ _=>false
 | .obj _ _ _=>false
 | .mem _ _=>false
 | .fE _=>false
 | .ap ds=>decide (ds.length<=11)&&bI ds
 |_=>true
def bI:List D->Bool
 | []=>true
 |d::r=>dE d&&bI r
end
def Nt (d:D):num d=1+nums (au d):=by
 cases d with
 |ap ds=>cases ds<;>simp [num,au,nums]
 |_=>simp [num,au,nums]
def Hq (d:D):gE d=1+cG (au d):=by
 cases d with
 |ap ds=>cases ds<;>simp [gE,au,cG]
 |_=>simp [gE,au,cG]
def jhN (d:D):bh d=d::eh (au d):=by
 cases d with
 |ap ds=>cases ds<;>simp [bh,au,eh]
 |_=>simp [bh,au,eh]
def jcX (a b:List D):nums (a++b)=nums a+nums b:=by
 induction a with
 |nil=>simp [nums]
 |cons d r c=>simp [nums,c];omega
def jdo (a b:List D):cG (a++b)=max (cG a) (cG b):=by
 induction a with
 |nil=>simp [cG]
 |cons d r c=>simp [cG,c]
def Xu (h:dE d=true):Ho d=true:=by
 cases d<;>first|rfl| (simp [dE] at h)
theorem xx: ∀ {ds:List D} {d:D},bI ds=true->d∈ds->dE d=true
 |x::r,d,h,hm=>by
  simp only [bI,eX] at h;rcases dk.mp hm with rfl|hm
  . exact h.1
  . exact xx h.2 hm
theorem QV: ∀ {ds:List D},(∀d∈ds,dE d=true)->bI ds=true
 | [],_=>rfl
 |x::r,h=>by simp only [bI,eX];exact ⟨h x (by simp),QV λd hd=>h d (by simp [hd])⟩
def JG (h:dE d=true):bI (au d)=true/\(au d).length<=10:=by
 cases d with
 |ap ds=>
  cases ds with
  |nil=>exact ⟨rfl,by simp [au]⟩
  |cons x r=>
   simp only [dE,bI,eX,decide_eq_true_eq,fb] at h;exact ⟨h.2.2,by simp only [au];omega⟩
 |_=>exact ⟨rfl,by simp [au]⟩
def below (a:List D):List D:=a.flatMap au
def k9 (a:List D):nums a=a.length+nums (below a):=by
 induction a with
 |nil=>rfl
 |cons d r c=>
  have:below (d::r)=au d++below r:=rfl;rw [this,jcX];simp only [nums,fb,c,Nt d];omega
def vt (a:List D) (h:a≠[]):cG a=1+cG (below a):=by
 induction a with
 |nil=>exact absurd rfl h
 |cons d r c=>
  have e:below (d::r)=au d++below r:=rfl;rw [e,jdo];simp only [cG,Hq d]
  cases r with
  |nil=>simp [cG,below]
  |cons x r=>rw [c (by simp)];omega
def K6 (h:bI a=true):bI (below a)=true:=
 QV λd hd=>by
  obtain ⟨x,c,e⟩:=rc.mp hd;exact xx (JG (xx h c)).1 e
def jb8 (h:bI a=true):(below a).length<=10*a.length:=by
 induction a with
 |nil=>simp [below]
 |cons d r c=>
  simp only [bI,eX] at h;have e:below (d::r)=au d++below r:=rfl;have:=c h.2;have:=(JG h.1).2;rw [e,iE,fb];omega
def Nu (d:D):1<=gE d:=by rw [Hq];omega
mutual
theorem J9: ∀d:D,(bh d).length=num d
 | .ap (x::r)=>by simp [bh,num,nJ r];omega
 | .ap []=>by simp [bh,num]
 | .aW=>by simp [bh,num]
 | .bl _=>by simp [bh,num]
 | .int _=>by simp [bh,num]
 | .str _=>by simp [bh,num]
 | .ah _=>by simp [bh,num]
 | .eN _=>by simp [bh,num]
 | .dr _ _=>by simp [bh,num]
 | .cJ _ _=>by simp [bh,num]
 | .fL _=>by simp [bh,num]
 | .ng _ _=>by simp [bh,num]
 | .ni _ _=>by simp [bh,num]
 | .obj _ _ _=>by simp [bh,num]
 | .mem _ _=>by simp [bh,num]
 | .fE _=>by simp [bh,num]
theorem nJ: ∀ds:List D,(eh ds).length=nums ds
 | []=>rfl
 |d::r=>by simp [eh,nums,J9 d,nJ r]
end
mutual
theorem VM: ∀d:D,dE d=true->bI (bh d)=true
 | .ap (x::r),h=>by
  have a:=(JG h).1;simp only [au] at a;simp only [bh,bI,eX];exact ⟨h,mf r a⟩
 | .ap [],h=>rfl
 | .aW,h=>rfl
 | .bl _,h=>rfl
 | .int _,h=>rfl
 | .str _,h=>rfl
 | .ah _,h=>rfl
 | .eN _,h=>by simp [dE] at h
 | .dr _ _,h=>rfl
 | .cJ _ _,h=>rfl
 | .fL _,h=>by simp [dE] at h
 | .ng _ _,h=>by simp [dE] at h
 | .ni _ _,h=>by simp [dE] at h
 | .obj _ _ _,h=>by simp [dE] at h
 | .mem _ _,h=>by simp [dE] at h
 | .fE _,h=>by simp [dE] at h
theorem mf: ∀ds:List D,bI ds=true->bI (eh ds)=true
 | [],_=>rfl
 |d::r,h=>by
  simp only [bI,eX] at h;refine QV λe he=>?_
  rcases i3.mp (show e∈bh d++eh r from he) with he|he
  . exact xx (VM d h.1) he
  . exact xx (mf r h.2) he
end
def eA {a:Type} {xs:List a} {k:Nat}:nc xs (k:Int)=xs[k]?:=by
 unfold nc vr
 by_cases h:k<xs.length
 . rw [if_pos (by omega),if_pos (by omega)];simp
 . rw [if_pos (by omega),if_neg (by omega)];simp;omega
def Hr {x:D} {r:List D}:aX (.ap (x::r)) (.int 0)= .ok x:=by
 have:=eA (xs:=x::r) (k:=0);simp only [aX];rw [show ((0:Int))=((0:Nat):Int) from rfl,this];rfl
section
variable {env env':Sl} {f O N f3:TF} {g Y g2:TC} {t U Q:TD} {Z:TB} {i:Nat} {d x y z:D} {b:Bool} {ds:List D}
def jh (a:O env= .ok x) (c:N env= .ok y) (e:h x y= .ok z):ak O N h env= .ok z:=by rw [UG,a,xS,c,xS,e]
def jq (h:f env= .ok d):jB i f env= .ok (.nx (env.set i (.aa d))):=by rw [UH,h];rfl
def yZ (h:f env= .ok d):fV i f env= .ok (.nx (env.set i (Kn d))):=by rw [jgo,h];rfl
def jM (h:f env= .ok d):aM f env= .ok (.rt true d):=by rw [ZO,h];rfl
def Kv (h:f env= .ok d):retS f env= .ok (.rt false d):=by rw [jgp,h];rfl
def jk (h:Y env= .ok (.nx env')):ax Y g2 env=g2 env':=by rw [yq,h];rfl
def zg (h:Y env= .ok (.rt a d)):ax Y g2 env= .ok (.rt a d):=by rw [yq,h];rfl
def en (h:t env= .ok true):cT t Y g2 env=Y env:=by rw [YN,h];rfl
def ck (h:t env= .ok false):cT t Y g2 env=g2 env:=by rw [YN,h];rfl
def jc (a:f env= .ok d) (c:Z env= .ok ds):jb f Z env= .ok (d::ds):=by rw [JI,a,xS,c];rfl
def qW (a:Z env= .ok ds) (c:h ds= .ok d):app Z h env= .ok d:=by rw [YO,a,xS,c]
def jA (a:Z env= .ok ds) (c:ds.length=n) (e:F ds= .ok d):jn n F Z env= .ok d:=by rw [UJ,a,xS,jl c,e]
def xr (a:Z env= .ok ds) (c:ds.length<=aV):aT Z env= .ok (.ap ds):=by rw [jgn,a,xS,jl c]
def xu (a:Z env= .ok ds) (c:ds.length<=aV):b9 Z env= .ok (.ah ds):=by rw [jgr,a,xS,jl c]
def jD (h:f env= .ok (.bl b)):a5 f env= .ok b:=by rw [UK,h];rfl
def Zl (a:U env= .ok b) (c:Q env= .ok b2):iU U Q env= .ok (b||b2):=by rw [UI,a,xS,c];cases b<;>rfl
def zp (a:U env= .ok b):cj U env= .ok (!b):=by rw [K8,a];rfl
def jce (a:cq i env= .ok ds) (c:f env= .ok d) (e:ds.length<aV):yy i f env= .ok (.nx (env.set i (.aw (.ah (ds++[d]))))):=by
 show (cq i env>>=_)=_;rw [a];rw [c];exact jl e
def wO (a:f env= .ok x) (c:e env= .ok lo) (j:l env= .ok hi) (m:h x lo hi= .ok z):zf f e l h env= .ok z:=by
 rw [jdy,a,xS,c,xS,j,xS,m]
def yH (h:f env= .ok (.int j)):xt f env= .ok (some j):=by rw [jdx,h];rfl
def x0 (h:a env= .ok ds):dz a c g env=bn (qm c g) ds env:=by rw [Va,h];rfl
def we (h:f env= .ok d) (a:Ek d= .ok ds):fh f env= .ok ds:=by rw [Hj,h,xS,a]
def jjw (a:f env= .ok (.str c)) (e:Z env= .ok ds) (j:h c ds= .ok d):Es f Z h env= .ok d:=by
 show (f env>>=_)=_;rw [a];rw [e];exact j
end
def YI {C:Int->Int->Prop} [∀i j,Decidable (C i j)] {g:Int->Int->D} {i j:Int} (h:C i j):iG C g (.int i) (.int j)= .ok (g i j):=if_pos h
def VP (h:AH i j):il (.int i) (.int j)= .ok (.int (i^j.toNat)):=YI h
def Nv (h:pE i j):pF (.int i) (.int j)= .ok (.int (i*j)):=YI h
def Nw (h:0<j):bG (.int i) (.int j)= .ok (.int (i%j)):=YI h
def yV (h:0<j/\j<1073741824):dh (.int i) (.int j)= .ok (.int (i/j)):=YI h
def Q4 (h:t d a= .ok env'):qm t g d a=g env':=by
 show (t d a>>=g)=_;rw [h];rfl
def zM (h:g (j8 n ds)= .ok (.rt true d)):aJ a n g ds= .ok d:=by rw [yr h];simp [runK]
def Hs (h:g (j8 n ds)= .ok (.rt false d)):aJ false n g ds= .ok d:=by rw [yr h];simp [runK]
def WW (h:fa env= .ok [.int j]) (a: -(2^62)<=j/\j<2^62):mE fa env= .ok (wN 0 j.toNat):=by
 show (fa env>>=Au)=_;rw [h];exact jl a
def Vq (c:a.length+b.length<=aV):cb (.ah a) (.ah b)= .ok (.ah (a++b)):=jl c
def jgz:eB (.int a) (.int b)= .ok (.bl (a==b)):=by
 unfold eB;rw [jl (by left;simp [Nl,D.cp])];simp [Wd]
theorem QU (I:List D->Sl->Prop)
  (e: ∀d ds a,I (d::ds) a-> ∃c,body d a= .ok (.nx c)/\I ds c): ∀(ds:List D) (a:Sl),I ds a-> ∃c,bn body ds a= .ok (.nx c)/\I [] c
 | [],a,h=>⟨a,rfl,h⟩
 |d::ds,a,h=>by
  obtain ⟨e1,g,i⟩:=e d ds a h;obtain ⟨e2,j,l⟩:=QU I e ds e1 i;exact ⟨e2,by rw [qj g,j],l⟩
def jaX (lo:Int) (n:Nat):(wN lo n).length=n:=by simp [wN]
def Nx {c:Type} {xs:List c} {i:Int} (e:0<=i) (g:i<xs.length): ∃x,nc xs i=some x/\x∈xs:=by
 obtain ⟨k,rfl⟩:=Int.eq_ofNat_of_zero_le e;have a:k<xs.length:=by omega
 exact ⟨xs[k],by rw [M.eA];exact cH a,qd a⟩
def ixS {z:Str} {i:Int} (a:0<=i) (e:i<z.length): ∃c,aX (.str z) (.int i)= .ok (.str ⟨#[c]⟩):=by
 obtain ⟨c,g,_⟩:=Nx (xs:=z.cps.toList) a (by simpa [Str.length] using e);exact ⟨c,by simp only [aX];rw [g]⟩
open Builtin.Int (intBits)
theorem K2: ∀ {ds:List D},(∀d∈ds,gE d<=k)->cG ds<=k
 | [],_=>by simp [cG]
 |d::ds,h=>by
  simp only [cG];have:=h d (by simp);have:=K2 (ds:=ds) λe a=>h e (by simp [a])
  omega
end M
namespace M
open PySem PySem.Spec L2
open PyProof.Rows hiding St
noncomputable def rW:D->Option aS
 | .int i=>some (.inl i)
 | .str x=>some (.inr x)
 |_=>none
noncomputable def oD (ks:List aS) (k:aS):Bool:=ks.any λx=>decide (x=k)
def Yg (ks:List aS) (k:aS):List aS:=if oD ks k=true then ks else ks++[k]
def Yh (ks:List aS) (ds:List D) (k:aS) (d:D):List D:=if oD ks k=true then (ks.zip ds).map (λp=>if p.1=k then d else p.2) else ds++[d]
section
variable {K:aG} {A:VC} {H:Hp}
def Ny (r:aL K A H y d) (h:rW d=some k):y=kV k:=by
 cases d<;>cases h
 . exact r.f
 . exact r.f.1
def jg4 (a:List (aS×V)) (k:aS):(a.any λc=>decide (c.1=k))=oD (a.map (·.1)) k:=by
 unfold oD;rw [List.any_map];rfl
theorem VG (k:aS) (g:aL K A H v d): ∀ {a:List (aS×V)} {ds:List D},am K A H (a.map (·.2)) ds->am K A H ((a.map (λc=>if c.1=k then (c.1,v) else c)).map (·.2)) (((a.map (·.1)).zip ds).map (λp=>if p.1=k then d else p.2))
 | [],_,r=>by cases r.g7;exact .nil
 | (i,m)::a,_,r=>by
  obtain ⟨_,_,rfl,j,l⟩:=r.dJ;have h:=VG k g l
  by_cases e:i=k
  . simp only [fF,AI,e,if_true];exact .cons g (by simpa [e] using h)
  . simp only [fF,AI,e,if_false];exact .cons j h
def jfr (k:aS) (r:am K A H (a.map (·.2)) ds) (c:aL K A H v d):
   (putK a k v).map (·.1)=Yg (a.map (·.1)) k/\am K A H ((putK a k v).map (·.2)) (Yh (a.map (·.1)) ds k d):=by
 unfold putK Yg Yh;rw [jg4]
 by_cases h:oD (a.map (·.1)) k=true
 . rw [if_pos h,if_pos h,if_pos h];refine ⟨?_,VG k c r⟩;rw [lG];apply CM;intro p _;simp
   split<;>rfl
 . rw [if_neg h,if_neg h,if_neg h];refine ⟨by simp,?_⟩;rw [tL];exact r.append (.cons c .nil)
def aL.Ht (r:aL K A H v (.dr ks ds)): ∃a e,v= .ref a/\H a=some (.dK e)/\A a/\e.map (·.1)=ks/\am K (λc=>A c/\c≠a) H (e.map (·.2)) ds:=r.f
end
def jcL {K:aG} {i:Nat} (k:aB K G p g h H) (j:g[i]?=some (.aw (.dr ks ds))): ∃a c,h[i]?=some (some (.ref a))/\H a=some (.dK c)/\c.map (·.1)=ks/\am K (Sf G g h) H (c.map (·.2)) ds:=by
 obtain ⟨a,l,q,m⟩:=k.aw i _ j
 cases m with
 |dr e n o r=>subst o;exact ⟨a,_,l,e,n,r⟩
noncomputable def AJ (i:Nat) (a:Sl):aj (List aS×List D):=match a[i]? with
 |some (.aw (.dr ks ds))=> .ok (ks,ds)
 |_=> .ai
def jcN (h:AJ i a= .ok p):a[i]?=some (.aw (.dr p.1 p.2)):=by
 unfold AJ at h
 split at h
 . cases h;assumption
 . cases h
def aB.putD {K:aG} (k:aB K G h env g H) (j:env[i]?=some (.aw (.dr ks ds))) (l:g[i]?=some (some (.ref a))) (m:H a=some (.dK c)) (hk:c.map (·.1)=ks)
  (r:am K (Sf G env g) H (c.map (·.2)) ds) (n:aL K (Sf G env g) H v d):aB K G h (env.set i (.aw (.dr (Yg ks kk) (Yh ks ds kk d)))) g (aU H a (.dK (putK c kk v)))/\bK env g H (env.set i (.aw (.dr (Yg ks kk) (Yh ks ds kk d)))) g (aU H a (.dK (putK c kk v))):=by
 subst hk;obtain ⟨o,p⟩:=jfr kk r n;exact k.mF j l m trivial λq u st e w=> .dr e o rfl (p.bq st w)
section
variable {X:Cx} {K:aG} {O l2:Lv} {e1 e2:Expr} {U fv:TF} {Y jL Z p:Pos} {x:Str}
def CN (i:Nat) (U fv:TF):Sl->aj ba:=λa=>AJ i a>>=λq=>fv a>>=λd=>U a>>=λc=>match rW c with
 |some k=>a4 (q.1.length<aV) (.ok (.nx (a.set i (.aw (.dr (Yg q.1 k) (Yh q.1 q.2 k d))))))
 |none=> .ai
def jgE (i:Nat) (N:X.A.units+1<cLine) (Q:DE X O e1 U) (hv:DE X .s e2 fv) (hN:X.N[i]?=some x:=by rfl) (r:iM X.env.scope x:=by exact jT rfl)
   (hd:Z8 x:=by decide) (u:X8 x:=by decide)
   (hs:lK e2 (some (.Subscript (.Name x p) e1 Z)) Y.line X.env=pure false:=by rfl):
   DS X (.Assign [.Subscript (.Name x p) e1 Z] e2 Y) (CN i U fv):=by
 with_unfolding_all exact (
  PS.imp (uL N (xZ hN r hd u) Q hv hs) λE σ H=>by
   rintro ⟨G,z,e,o,k,g,q⟩;obtain ⟨ks,c1,g⟩:=jd g;obtain ⟨d,c2,g⟩:=jd g;obtain ⟨B,c3,n⟩:=jd g;have I:=jcN c1;obtain ⟨a,w,J,hx,h,rs⟩:=jcL k I
   cases c:rW B with
   |none=>rw [c] at n;cases n
   |some kk=>
    rw [c] at n;obtain ⟨L,c5⟩:=jv n;cases c5;refine ⟨G,z,e,d,k,c2,λv H1 j r1 _=>⟨.ref a,J,G,z,e,B,k.ao j,c3,λy H2 l r2 _=>?_⟩⟩;have m:=l _ _ (j _ _ hx);have hy:=Ny (r2.aQ Lv.bo) c;subst hy;have hl:w.length<aV:=by rw [<-h,cg] at L;exact L
    refine ⟨a,_,rfl,nE.k m hl,?_⟩;have W:=((k.ao j).ao l).putD (kk:=kk) I J m h ((rs.ao j).ao l) (r1.ao l)
    exact q σ _ W.1 ((W.2.ao l).ao j))
noncomputable def kD:aS->D
 | .inl i=> .int i
 | .inr x=> .str x
theorem Nz: ∀ {ks:List (aS×Value)} {a:List Value},a.length=ks.length->(∀(j:Nat) (v:Value),a[j]?=some v-> ∃k x,ks[j]?=some (k,x)/\(j4 P w).is k v=true)->aI (ks.map λq=>kV q.1) a
 | [],[],_,_=> .nil
 | [],_::_,h,_=>by simp at h
 |_::_,[],h,_=>by simp at h
 | (k,x)::ks,v::a,h,c=>by
  obtain ⟨m,n,e,g⟩:=c 0 v rfl;simp at e;obtain ⟨rfl,rfl⟩:=e;refine .cons ?_ (Nz (by simpa using h) λj u l=>c (j+1) u (by simpa using l))
  cases k with
  |inl i=>
   obtain ⟨t,rfl⟩:=Fy g;exact ⟨t,rfl⟩
  |inr z=>
   obtain ⟨t,rfl⟩:=Value.isStrOf_shape g;exact ⟨t,rfl⟩
def vF (N:X.cF=true):bF X (.type "list") (λy H Q=> ∃a c,y=[.ref a]/\H a=some (.dK c)/\ ∀l,H l=none->Q (.ref l) (aU H l (.ah (c.map λq=>kV q.1)))):=by
 intro z s σ H y us Q I r h;obtain ⟨a,c,rfl,ha,q⟩:=h;obtain ⟨u,rfl,rx⟩:=yY r;cases rx;obtain ⟨B,hd,E,m,dd⟩:=MN I.a7 ha;have o:E.length<=aV:=by rw [<-m.length];exact B
 obtain ⟨ep,w⟩:=dd.dictAt;refine PySem.W.kdl_call (PySem.W.kdl_dict hd) (I.ok.hd N) w o λh' tk n c' hk hS g=>?_
 have J:=Nz (by rw [lC];exact g.1) λj v e=>g.2 j v (by rw [<-oj];exact e)
 have i:(E.map λq=>kV q.1)=(c.map λq=>kV q.1):=by
  have:=m.keys;have L:=congrArg (tM kV) this;simp at L;exact L.symm
 rw [i] at J;refine ⟨.ref s.heap.objs.size,_,I.laid hk (bf _) (show a9 X.prog X.w _ h' _ (.ah (c.map λq=>kV q.1)) from ⟨by rw [cg];exact B,n.toList,c',J,by rw [Array.toArray_toList];exact hS⟩),rfl,q _ (I.a7.fresh (bf _))⟩
def Eu:List D->aj D
 | [.dr ks _]=>a4 ((ks.all λk=>match k with| .inl _=>true| .inr _=>false)=true) (.ok (.ah (ks.map kD)))
 |_=> .ai
def jd1:XR K (λu H Q=> ∃a c,u=[.ref a]/\H a=some (.dK c)/\ ∀l,H l=none->Q (.ref l) (aU H l (.ah (c.map λq=>kV q.1)))) Eu:=by
 intro A u H ds d Q r e q;unfold Eu at e
 split at e
 . rename_i ks E;obtain ⟨g,e2⟩:=jv e;cases e2;obtain ⟨v,rfl,w⟩:=r.one;obtain ⟨p,c,rfl,y,_,rfl,_⟩:=w.Ht;refine ⟨p,c,rfl,y,λl n=>q _ _ (al.aU n) (.ah jy (.inl n) ?_) (qA (al.refl H) n)⟩
   have o: ∀(c:List (aS×V)),((c.map (·.1)).all λk=>match k with| .inl _=>true| .inr _=>false)=true-> ∀(j:VC) (m:Hp),am K j m (c.map λq=>kV q.1) ((c.map (·.1)).map kD):=by
    intro c
    induction c with
    |nil=>intro _ j m;exact .nil
    |cons q r B=>
     intro h j m;simp only [fF,vO,eX] at h;obtain ⟨k,v⟩:=q
     cases k with
     |inl i=>exact .cons (.int i) (B h.2 j m)
     |inr z=>cases h.1
   exact o c g _ _
 . cases e
end
end M
namespace M
open PySem PySem.W PyProof.Rows
def Wk {c:Type} (lt:Nat->Nat->Bool) (n:Nat) (R:c->Prop):KasT c->Prop
 | .ret a=>R a
 | .ask i j k=>i<n/\j<n/\Wk lt n R (k (lt i j))
theorem Wk.bind {c e:Type} {R:c->Prop} {g:e->Prop} {f:c->KasT e} (l: ∀a,R a->Wk lt n g (f a)): ∀ {t:KasT c},Wk lt n R t->Wk lt n g (t.bind f)
 | .ret a,h=>l a h
 | .ask i j k,h=>⟨h.1,h.2.1,Wk.bind l h.2.2⟩
theorem Wk.imp {c:Type} {R e:c->Prop} (hr: ∀a,R a->e a): ∀ {t:KasT c},Wk lt n R t->Wk lt n e t
 | .ret a,h=>hr a h
 | .ask i j k,h=>⟨h.1,h.2.1,Wk.imp hr h.2.2⟩
theorem NA {e:Type} {R:e->Prop} {Q:e->aH->Prop} {P:aH->Prop}
  (o: ∀i j C s,i<n->j<n->P s->(∀c,P c->C (lt i j) c)->g i j C s) (p: ∀a s,R a->P s->Q a s): ∀(t:KasT e) (s:aH),Wk lt n R t->P s->t.kasWp g Q s
 | .ret a,s,h,l=>p a s h l
 | .ask i j k,s,h,l=>o i j _ s h.1 h.2.1 l λc m=>NA o p _ c h.2.2 m
structure Ord (lt:Nat->Nat->Bool) (n:Nat):Prop where
 Hu: ∀i j,lt i j=true->lt j i=false
 trans: ∀i j k,i<n->j<n->k<n->lt i j=true->lt j k=true->lt i k=true
 total: ∀i j,i<n->j<n->i≠j->lt i j=true\/lt j i=true
abbrev ee (p:Array Nat) (i:Nat):Nat:=p.getD i 0
structure Pm (p:Array Nat) (n:Nat):Prop where
 size:p.size=n
 perm:p.toList.Perm (fK n)
def Jo (h:i<p.size):p[i]?=some (ee p i):=by
 rw [m8 h];simp [ee,Bw,h]
def Pm.lt (h:Pm p n) (c:i<n):ee p i<n:=by
 have a:i<p.size:=by rw [h.size];exact c
 have:ee p i∈p.toList:=by simp [ee,Bw,a]
 exact ic.mp (h.perm.mem_iff.mp this)
def Pm.ne (h:Pm p n) (l:i<n) (m:j<n) (g:i≠j):ee p i≠ee p j:=by
 have nd:=h.perm.nodup_iff.mpr Ev;have a:i<p.toList.length:=by simp [h.size,l]
 have c:j<p.toList.length:=by simp [h.size,m]
 intro e;have e1:ee p i=p.toList[i]:=by simp [ee,Bw,h.size,l]
 have e2:ee p j=p.toList[j]:=by simp [ee,Bw,h.size,m]
 rw [e1,e2] at e;have o:=CO.mp nd;rcases Nat.lt_or_gt_of_ne g with z|z
 . exact o i j a c z e
 . exact o j i c a z e.symm
def Pm.of (h:Pm p n) (a:q.size=p.size) (c:q.Perm p):Pm q n:=⟨by rw [a,h.size],(Array.perm_iff_toList_perm.mp c).trans h.perm⟩
def Pm.rev (h:Pm p n) (i j:Nat):Pm (kas_rev p i j) n:=h.of (mirror_size _ _ _ _) (mirror_perm _ _ _ _)
def NB (h:Pm p n) (g:j<=n) (c:k<n):ee (kas_rev p 0 j) k=if k<j then ee p (j-1-k) else ee p k:=by
 have hR:=h.rev 0 j;have e:=getElem?_mirror_all (i:=0) (by rw [h.size];exact g) k;have e1:=Jo (by rw [hR.size];exact c);unfold kas_rev at e1;rw [e] at e1;simp only [i5,true_and,wp] at e1
 split at e1
 . rename_i a;rw [if_pos a];rw [Jo (by rw [h.size];omega)] at e1;exact (ie e1).symm
 . rename_i a;rw [if_neg a];rw [Jo (by rw [h.size];exact c)] at e1;exact (ie e1).symm
section
variable {lt:Nat->Nat->Bool} {n:Nat} (O:Ord lt n)
def Up (lt:Nat->Nat->Bool) (p:Array Nat) (k:Nat):Prop:= ∀i j,i<j->j<k->lt (ee p i) (ee p j)=true
def Down (lt:Nat->Nat->Bool) (p:Array Nat) (k:Nat):Prop:= ∀i j,i<j->j<k->lt (ee p j) (ee p i)=true
include O
theorem Up.snoc (a:Pm p n) (hk:k+1<n) (h:Up lt p (k+1)) (hl:lt (ee p k) (ee p (k+1))=true):Up lt p (k+2):=λi j c g=>by
 by_cases e:j=k+1
 . subst e
   by_cases e2:i=k
   . subst e2;exact hl
   . exact O.trans _ _ _ (a.lt (by omega)) (a.lt (by omega)) (a.lt hk) (h i k (by omega) (by omega)) hl
 . exact h i j c (by omega)
theorem Down.snoc (a:Pm p n) (hk:k+1<n) (h:Down lt p (k+1)) (hl:lt (ee p (k+1)) (ee p k)=true):Down lt p (k+2):=λi j c g=>by
 by_cases e:j=k+1
 . subst e
   by_cases e2:i=k
   . subst e2;exact hl
   . exact O.trans _ _ _ (a.lt hk) (a.lt (by omega)) (a.lt (by omega)) hl (h i k (by omega) (by omega))
 . exact h i j c (by omega)
theorem Hv (a:Pm p n) (e:i<n) (g:j<n) (c:i≠j) (h:lt (ee p i) (ee p j)=false):lt (ee p j) (ee p i)=true:=by
 rcases O.total _ _ (a.lt e) (a.lt g) (a.ne e g c) with z|z
 . rw [h] at z;cases z
 . exact z
theorem Hw {p:Array Nat} (g:Pm p n): ∀(f m:Nat),1<=m->m+f=n->Up lt p m->Wk lt n (λr=>m<=r/\r<=n/\Up lt p r/\(r<n->lt (ee p r) (ee p (r-1))=true)) (kas_asc p f m)
 |0,m,l,o,h=>⟨bf _,by omega,h,λz=>by omega⟩
 |f+1,m,l,o,h=>by
  refine ⟨g.lt (by omega),g.lt (by omega),?_⟩
  cases j:lt (p.getD m 0) (p.getD (m-1) 0) with
  |true=>
   exact ⟨bf _,by omega,h,λ_=>j⟩
  |false=>
   have i:Up lt p (m+1):=by
    have e:m=(m-1)+1:=by omega
    have q:=Hv O g (by omega) (by omega) (by omega) j;rw [e] at h ⊢;exact Up.snoc O g (by omega) h (by rw [<-e];exact q)
   have u:=Hw g f (m+1) (by omega) (by omega) i;exact Wk.imp (λr ⟨a,b,c,d⟩=>⟨by omega,b,c,d⟩) u
theorem NC {p:Array Nat} (g:Pm p n): ∀(f m:Nat),1<=m->m+f=n->Down lt p m->Wk lt n (λr=>r.1=p/\m<=r.2.1/\r.2.1<=n/\Down lt p r.2.1/\r.2.2=0) (kas_desc f p m 0)
 |0,m,o,q,h=>⟨rfl,bf _,(show m<=n by omega),h,rfl⟩
 |f+1,m,o,q,h=>by
  refine ⟨g.lt (by omega),g.lt (by omega),?_⟩
  cases l:lt (p.getD m 0) (p.getD (m-1) 0) with
  |true=>
   have i:Down lt p (m+1):=by
    have e:m=(m-1)+1:=by omega
    have j:=l;rw [e] at h ⊢;exact Down.snoc O g (by omega) h (by rw [<-e];exact j)
   have u:=NC g f (m+1) (by omega) (by omega) i;exact Wk.imp (λr ⟨a,b,c,d,e⟩=>⟨a,by omega,c,d,e⟩) u
  |false=>
   have j:=Hv O g (by omega) (by omega) (by omega) l;refine ⟨g.lt (by omega),g.lt (by omega),?_⟩;show Wk lt n _ (if lt (ee p (m-1)) (ee p m)=true then _ else _);rw [if_pos j];exact ⟨rfl,bf _,(show m<=n by omega),h,rfl⟩
theorem Down.rev (a:Pm p n) (hk:k<=n) (h:Down lt p k):Up lt (kas_rev p 0 k) k:=λi j c e=>by
 rw [NB a hk (by omega),NB a hk (by omega),if_pos (by omega),if_pos e];exact h _ _ (by omega) (by omega)
theorem jhk {k:Nat} (e:Pm p n) (g:1<=k) (i:k<=n) (h:Down lt p k):Wk lt n (λr=>1<=r.1/\r.1<=n/\Pm r.2 n/\Up lt r.2 r.1) (kas_tail3 k n p):=by
 unfold kas_tail3;refine Wk.bind (λr ⟨a,b,c,_⟩=>?_) (Hw O (e.rev 0 k) (n-k) k g (by omega) (Down.rev O e i h));exact ⟨by omega,b,e.rev 0 k,c⟩
theorem jgQ {p:Array Nat} (g:Pm p n) (y:1<=n):Wk lt n (λr=>1<=r.1/\r.1<=n/\Pm r.2 n/\Up lt r.2 r.1) (kas_count n p):=by
 unfold kas_count;refine Wk.bind (λr ⟨a,b,c,d⟩=>?_) (Hw O g (n-1) 1 (bf _) (by omega) (λi j h m=>by omega))
 by_cases e:r=n
 . subst e;rw [if_pos (by simp)];exact ⟨a,b,g,c⟩
 . rw [if_neg (by simpa using e)]
   by_cases l:r>1
   . rw [if_pos l];refine ⟨g.lt (by omega),g.lt (by omega),?_⟩;have:lt (p.getD 0 0) (p.getD (r-1) 0)=true:=c 0 (r-1) (by omega) (by omega);show Wk lt n _ (if lt (p.getD 0 0) (p.getD (r-1) 0)=true then _ else _);rw [if_pos this];exact ⟨a,b,g,c⟩
   . rw [if_neg l];have o:r=1:=by omega
     subst o;unfold kas_descPart
     have hd:Down lt p 2:=λi j h m=>by
      have:i=0/\j=1:=by omega
      obtain ⟨rfl,rfl⟩:=this;exact d (by omega)
     refine Wk.bind (λq ⟨u,z,v,w,B⟩=>?_) (NC O g (n-2) 2 (by omega) (by omega) hd);rw [if_neg (by omega),u];exact jhk O g (by omega) v w
theorem Ky (c:Pm p n) (g:k<n) (j:Up lt p k): ∀(f l r:Nat),l<=r->r<=k->r-l<=f->(∀i,i<l->lt (ee p i) (ee p k)=true)->(∀i,r<=i->i<k->lt (ee p k) (ee p i)=true)->
  Wk lt n (λm=>m<=k/\(∀i,i<m->lt (ee p i) (ee p k)=true)/\ ∀i,m<=i->i<k->lt (ee p k) (ee p i)=true) (kas_place p k f l r)
 |0,l,r,w,v,y,o,q=>⟨by omega,o,λi a b=>q i (by omega) b⟩
 |f+1,l,r,w,v,y,o,q=>by
  unfold kas_place
  by_cases e:l>=r
  . rw [if_pos e];exact ⟨by omega,o,λi a b=>q i (by omega) b⟩
  . rw [if_neg e];have z:(l+r)/2<r:=by omega
    refine ⟨c.lt g,c.lt (by omega),?_⟩
    cases u:lt (p.getD k 0) (p.getD ((l+r)/2) 0) with
    |true=>
     refine Ky c g j f l ((l+r)/2) (by omega) (by omega) (by omega) o λi a b=>?_
     by_cases e2:i=(l+r)/2
     . rw [e2];exact u
     . exact O.trans _ _ _ (c.lt g) (c.lt (show (l+r)/2<n by omega)) (c.lt (by omega)) u (j _ _ (by omega) b)
    |false=>
     have h:=Hv O c g (by omega) (by omega) u;refine Ky c g j f ((l+r)/2+1) r (by omega) v (by omega) (λi a=>?_) q
     by_cases e2:i=(l+r)/2
     . rw [e2];exact h
     . exact O.trans _ _ _ (c.lt (by omega)) (c.lt (show (l+r)/2<n by omega)) (c.lt g) (j _ _ (by omega) (by omega)) h
theorem WF (a:Pm p n) (h:k<n) (o:l<=k) (j:i<n):ee (bubble p k (k-l)) i=if i=l then ee p k else if l<i/\i<=k then ee p (i-1) else ee p i:=by
 have m:Pm (bubble p k (k-l)) n:=a.of (bubble_size _ _ _) (bubble_perm _ _ _);have e:=getElem?_bubble (by rw [a.size];exact h) (k-l) (by omega) i;rw [Jo (by rw [m.size];exact j)] at e;have c:k-(k-l)=l:=by omega
 rw [c] at e
 split at e
 . rename_i z;rw [if_pos z];rw [Jo (by rw [a.size];exact h)] at e;exact ie e
 . rename_i z;rw [if_neg z]
   split at e
   . rename_i g;rw [if_pos g];rw [Jo (by rw [a.size];omega)] at e;exact ie e
   . rename_i g;rw [if_neg g];rw [Jo (by rw [a.size];exact j)] at e;exact ie e
theorem ND: ∀(f:Nat) (p:Array Nat) (k:Nat),Pm p n->k+f=n->Up lt p k->Wk lt n (λq=>Pm q n/\Up lt q n) (kas_bin f p k)
 |0,p,k,e,r,h=>⟨e,by
  have:k=n:=by omega
  rw [this] at h;exact h⟩
 |f+1,p,k,e,r,h=>by
  unfold kas_bin;refine Wk.bind (λl ⟨a,b,c⟩=>?_) (Ky O e (by omega) h k 0 k (by omega) (bf _) (by omega) (λi z=>by omega) (λi z w=>by omega));refine ND f _ (k+1) (e.of (bubble_size _ _ _) (bubble_perm _ _ _)) (by omega) λi j g u=>?_
  rw [WF O e (by omega) a (by omega),WF O e (by omega) a (by omega)]
  by_cases e1:i=l
  . rw [if_pos e1,if_neg (by omega),if_pos (by omega)];exact c _ (by omega) (by omega)
  . rw [if_neg e1]
    by_cases e2:l<i/\i<=k
    . rw [if_pos e2,if_neg (by omega),if_pos (by omega)];exact h _ _ (by omega) (by omega)
    . rw [if_neg e2]
      by_cases m:j=l
      . rw [if_pos m];exact b _ (by omega)
      . rw [if_neg m]
        by_cases o:l<j/\j<=k
        . rw [if_pos o]
          by_cases v:i=j-1
          . omega
          . exact h _ _ (by omega) (by omega)
        . rw [if_neg o];exact h _ _ g (by omega)
theorem jhs (h:1<=n):Wk lt n (λq=>Pm q n/\Up lt q n) (kas_sort n):=by
 have i:Pm (AK (fK n)) n:=⟨by simp,by simp⟩
 unfold kas_sort;refine Wk.bind (λr g=>?_) (jgQ O i h);obtain ⟨a,b,c,d⟩:=g
 by_cases e:r.1<n
 . rw [if_pos e];have:max r.1 1=r.1:=by omega
   rw [this];exact ND O _ _ _ c (by omega) d
 . rw [if_neg e];have:r.1=n:=by omega
   rw [this] at d;exact ⟨c,d⟩
end
section
variable {prog:bQ} {w:World} {A:cf} {E:T9} {s:aH} {a:Addr} {U:List Value} {n:Nat}
def wo (h:Heap) (a:Addr) (U:List Value):Heap:=((h.update a (vu λ_=>(#[]:Array Value))).push (mh "tuple" U.toArray 0)).push (mh "list" #[] 0)
def KC (U:List Value) (p:Array Nat):List Value:=p.toList.map λi=>U.getD i oP
def J0 (c:b≠a) (e:h.get? b=some o):(wo h a U).get? b=some o:=
 dc _ (dc _ ((D6 _ _ (lD c)).trans e))
def Xg (O:Ord lt U.length) (m:SortKind) (q:s.heap.get? a=some (mh "list" U.toArray n)) (h2:2<=U.length) (r:U.length<64)
  (hk: ∀Q:SortKind->aH->Prop,Q m {s with heap:=wo s.heap a U}->wpAny (model prog w) A (keyKind' U.toArray) Q (λ_ _=>False) {s with heap:=wo s.heap a U})
  (hc: ∀i j C,i<U.length->j<U.length->C (lt i j) {s with heap:=wo s.heap a U}->kas_ask prog w A m U i j C {s with heap:=wo s.heap a U})
  (h: ∀p u c,Pm p U.length->Up lt p U.length->(∀b o,b≠a->s.heap.get? b=some o->u.get? b=some o)->u.get? a=some (mh "list" (AK (KC U p)) c)->P (.done (.ret .none)) {s with heap:=u}):
  wpAny (model prog w) A (ms.«list.sort» ⟨[.ref a],[]⟩) P E s:=by
 obtain ⟨v,b1⟩: ∃v,(s.heap.update a (vu λ_=>(#[]:Array Value))).get? a=some (mh "list" #[] v):=⟨_,Ew q λ_=> #[]⟩
 have y:(wo s.heap a U).get? a=some (mh "list" #[] v):=dc _ (dc _ b1);have big:U.length<=aV:=by rw [pi];omega
 have walk:(kas_sort U.length).kasWp (kas_ask prog w A m U) (λp t=>t={s with heap:=wo s.heap a U}/\Pm p U.length/\Up lt p U.length) {s with heap:=wo s.heap a U}:=
  NA (P:=λt=>t={s with heap:=wo s.heap a U}) (λi j C t hi hj B hC=>by subst B;exact hc i j C hi hj (hC _ rfl)) (λp t H B=>⟨B,H⟩) _ _ (jhs O (by omega)) rfl
 rw [list_sort_plain];refine ay (listItems_at q rfl (ay (listUpdate_at q rfl (ay (seqEpoch_at b1 rfl (ay (wpAny_newTuple (ay (wpAny_newList (nA ?_) (i5 _))) (by show U.length<=aV;exact big))))) (by rw [dq];exact big) (i5 _))));dsimp only;have g: ¬U.toArray.size<2:=by rw [dq];omega
 rw [if_neg g,if_neg g];refine ay (nq (hk (λl t=>l=m/\t={s with heap:=wo s.heap a U}) ⟨rfl,rfl⟩) (λl t I=>?_) λ_ _ z=>z.elim);obtain ⟨rfl,rfl⟩:=I;refine ay (nq (kat_run (Q:=λst t=> ∃p:Array Nat,p.size=U.length/\arrOf st=p.map (kas_item (U.toArray.zip U.toArray))/\failedOf st=none/\t={s with heap:=wo s.heap a U}/\Pm p U.length/\Up lt p U.length) rfl h2 r (λp st t z1 z2 z3 z4=>⟨p,z1,z2,z3,z4⟩) walk) ?_ λ_ _ z=>z);rintro ⟨⟨⟩,st⟩ t ⟨p,H,J,hf,rfl,L,N⟩;dsimp only;have Y:(AK (KC U p)).size<=aV:=by rw [dq];unfold KC;rw [cg,lC,H];exact big
 rw [kat_snds rfl J];obtain ⟨Z,Em⟩: ∃Z,((wo s.heap a U).update a (vu λ_=>AK (KC U p))).get? a=some (mh "list" (AK (KC U p)) Z):=⟨_,Ew y λ_=>AK (KC U p)⟩
 refine ay (seqEpoch_at y rfl (ay (listUpdate_at y rfl ?_ (i5 _) (Nat.le_succ_of_le Y))));rw [hf];simp;exact aR (h p _ Z L N (λb o hb e=>(D6 _ _ (lD hb)).trans (J0 hb e)) Em)
end
def oX (h:Heap) (d:Addr) (ks:List Value) (c:Nat):Prop:= ∃o a,h.get? d=some o/\o.ExactDict/\o.data= .dict a c/\a.toList.map (·.key)=ks
section
variable {prog:bQ} {w:World} {A:cf} {E:T9} {s:aH} {d Y:Addr} {ks:List Value} {Z i:Nat}
def oX.typeIs (x:oX s.heap d ks Z):s.TypeIs (.ref d) "dict" :=let ⟨o,e,a,c,_⟩:=x;⟨o,a,c.1⟩
def oX.at (x:oX h d ks Z) (e: ∀o,h.get? d=some o->a.get? d=some o):oX a d ks Z:=let ⟨o,c,g,r⟩:=x;⟨o,c,e _ g,r⟩
def oX.lt (x:oX h d ks Z):d<h.objs.size:=let ⟨_,_,a,_⟩:=x;cL a
def jdV (hd:(d==om)=false) (g:oX s.heap d ks Z)
  (j:Q (.ref s.heap.objs.size) {s with heap:=s.heap.push {cls:= .type "dict_keyiterator",data:= .fields #[.ref d,.int 0 0,.int ks.length 0,.int Z 0]}}):wpAny (model prog w) A (pyIter (.ref d)) Q E s:=by
 obtain ⟨o,l,h,m,a,c⟩:=id g;have T:=g.typeIs;have e:l.size=ks.length:=by rw [<-c];simp
 refine wpAny_pyIter_slot T PySem.F.slot_dict_iter (tq PySem.F.slot_dict_iter T PySem.F.entry_dict_iter ?_ (PySem.F.args_dict_iter_1 _));unfold ms.«dict.__iter__» Builtin.Dict.dictSlotNone;refine ay (ay (wpAny_notOrdered_dict T (show wpAny _ _ (pure (cK d)) _ _ s from aR ?_)));show wpAny _ _ (NE d>>=_) _ _ s;unfold NE;rw [if_neg (by rw [hd];exact h8)];refine ay (aR (ay (wpAny_dictEntries h a (ay (wpAny_dictEpoch h a (ay (rE (aR ⟨_,rfl, "dict_keyiterator",_,⟨_,gp _ rfl,rfl⟩,CP.lookup,?_⟩))))))));simpa [rawInt,e] using j
def jdW (a:s.heap.IsKeyIter Y d i ks.length Z) (r:oX s.heap d ks Z) (p:ks[i]?=some k)
  (u: ∀q,q.IsKeyIter Y d (i+1) ks.length Z->rA Y s.heap q->Q (some k) {s with heap:=q}):wpAny (model prog w) A (pyNext (.ref Y)) Q E s:=by
 obtain ⟨o,m,v,g⟩:=id a;obtain ⟨H,n,h,y,j,c⟩:=id r;have l:n.size=ks.length:=by rw [<-c];simp
 have de:i<n.size:=by
  rw [l];rcases Nat.lt_or_ge i ks.length with z|z
  . exact z
  . rw [oO z] at p;cases p
 have B:n[i].key=k:=by
  have:(n.toList.map (·.key))[i]?=some k:=by rw [c];exact p
  rw [jF] at this;simpa [de] using this
 unfold pyNext;refine ay (wpAny_attempt (Bo a.typeIs CP (tq CP a.typeIs NF ?_ (NG _))));refine ay (aR (ay (ay ?_)))
 first|refine ay (Ex a.typeIs (aR (ay (Ey m g ?_))))|refine ay (Ez a.typeIs (aR (ay (Ey m g ?_))))
 simp only [show NH "dict_keyiterator" =false by decide,nY,if_false];show wpAny _ _ (if (cK d==oP)=true then _ else _) _ _ s;rw [if_neg (show¬((cK d==oP)=true) by exact h8)];refine ay (aR (ay (wpAny_dictEntries h j ?_)));rw [if_neg (by rw [l];simp)];refine ay (aR (ay (wpAny_dictEpoch h j ?_)));rw [if_neg (by simp)];refine aR ?_;simp only [show¬((i:Int)<0) by omega,if_false,Bn,m8 de];refine ay ?_
 first|refine ay (Ex a.typeIs (aR (ay (Hx a.typeIs ?_))))|refine ay (Ez a.typeIs (aR (ay (Hx a.typeIs ?_))))
 show wpAny _ _ (setField (.ref Y) 1 (rawInt ((i:Int)+1))>>=_) _ _ s;refine ay (EA m g (by simp) (ay (nA ?_)))
 have e:(s.heap.update Y (Obj.mapFields (·.setIfInBounds 1 (rawInt ((i:Int)+1))))).IsKeyIter Y d (i+1) ks.length Z:=
  ⟨_,Hy _ m (Obj.isFreed_of_fields (EB g _)),(Obj.cls_mapFields ..).trans v,by rw [EB g];simp [rawInt]⟩
 refine ay (Hx e.typeIs ?_);rw [B];exact aR (aR ⟨_,rfl,aR (u _ e (Bx ..))⟩)
def jgO (p:A.handled=none) (a:s.heap.IsKeyIter Y d ks.length ks.length Z) (q:oX s.heap d ks Z)
  (r: ∀m,Heap.ExtBut Y s.heap m->Q none {s with heap:=m}):wpAny (model prog w) A (pyNext (.ref Y)) Q E s:=by
 obtain ⟨o,h,v,j⟩:=id a;obtain ⟨y,n,e,u,g,c⟩:=id q;have l:n.size=ks.length:=by rw [<-c];simp
 unfold pyNext;refine ay (wpAny_attempt (Bo a.typeIs CP (tq CP a.typeIs NF ?_ (NG _))));refine ay (aR (ay (ay ?_)))
 first|refine ay (Ex a.typeIs (aR (ay (Ey h j ?_))))|refine ay (Ez a.typeIs (aR (ay (Ey h j ?_))))
 simp only [show NH "dict_keyiterator" =false by decide,nY,if_false];show wpAny _ _ (if (cK d==oP)=true then _ else _) _ _ s;rw [if_neg (show¬((cK d==oP)=true) by exact h8)];refine ay (aR (ay (wpAny_dictEntries e g ?_)));rw [if_neg (by rw [l];simp)];refine ay (aR (ay (wpAny_dictEpoch e g ?_)));rw [if_neg (by simp)];refine aR ?_;simp only [show¬(((ks.length:Nat):Int)<0) by omega,if_false,Bn,Array.getElem?_eq_none (show n.size<=ks.length by omega)];refine ay ?_
 first|refine ay (Ex a.typeIs (aR ?_))|refine ay (Ez a.typeIs (aR ?_))
 show wpAny _ _ (setField (.ref Y) 0 .none>>=_) _ _ s;refine ay (EA h j (by simp) ?_);refine ay ?_;simp only [newExc,newTuple];refine ay (rE (ay (wpAny_of_eq (by first|rfl| (simp;rfl)) (rE ?_ (by size_fits)))) (by size_fits));simp only [raiseNew];refine ay (wpAny_handled ?_);rw [show A.in1.handled=none from p];refine ay (aR (wpAny_throw ?_));refine ay (DL ⟨_,gp _ rfl,rfl⟩ isSubtype_stop ?_);exact aR (r _ (((Bx ..).extBut.push _).push _))
def NI (lo:(d==om)=false):KdlSrc prog w "dict" d d ks.length (λi v=>ks[i]?=some v) (λh=>oX h d ks Z) where
 type:=λ_ a=>a.typeIs
 there:=λ_ a=>⟨a.lt,a.lt⟩
 keep:=λ_ _ a m=>a.at λo e=>m d (.inl rfl) o e
 notList:=by decide
 notTuple:=by decide
 hint:=λ_ _ _ _ a n=>kdl_hint_dict a.typeIs n
 iter:=λA s y a=>⟨_,(λi h=>h.IsKeyIter s.heap.objs.size d i ks.length Z/\oX h d ks Z),(λ_ _ n=>jdV lo a n),{
  sub:=λb c=>by simp at c;simp [c]
  frame:=λ_ _ _ st m=>⟨let ⟨o,B,r⟩:=st.1;⟨o,m _ (by simp) o B,r⟩,st.2.at λo e=>m d (by simp) o e⟩
  item:=λi t Q E H st g=>by
   have u:ks[i]?=some ks[i]:=by simp [H]
   exact jdW st.1 st.2 u λp j l=>g _ p t.toks u ⟨j,st.2.at λo e=>l.extBut d o (dH a.lt) e⟩ λb o c e=>l.extBut b o (λz=>c (by simp [z])) e
  done:=λt Q E st g=>jgO y st.1 st.2 λp q=>g p t.toks λb o c e=>q b o (λz=>c (by simp [z])) e
  self:=λ_ _ _ _ st g=>wpAny_pyIter_keyiter st.1 g},⟨⟨_,gp _ rfl,rfl,rfl⟩,a.at λo e=>dc _ e⟩⟩
end
abbrev Hd:=Str×Int
noncomputable def de (a b:Hd):Bool:=if a.1=b.1 then decide (a.2<b.2) else decide (a.1.cps.toList<b.1.cps.toList)
def jfh {b:Str} (h:a.cps.toList=b.cps.toList):a=b:=by
 cases a;cases b;simp;exact Hz.mp h
def Ux (h:de a b=true):de b a=false:=by
 unfold de at h ⊢
 by_cases e:a.1=b.1
 . rw [if_pos e] at h;rw [if_pos e.symm];simp at h;simp;omega
 . rw [if_neg e] at h;rw [if_neg λz=>e z.symm];simp at h;simp;exact List.lt_asymm h
def YJ (h:de a b=true) (g:de b c=true):de a c=true:=by
 unfold de at h g ⊢
 by_cases e:a.1=b.1
 . rw [if_pos e] at h
   by_cases e2:b.1=c.1
   . rw [if_pos e2] at g;rw [if_pos (e.trans e2)];simp at h g ⊢;omega
   . rw [if_neg e2] at g;rw [if_neg (by rw [e];exact e2),e];exact g
 . rw [if_neg e] at h;simp at h
   by_cases e2:b.1=c.1
   . rw [if_pos e2] at g;rw [if_neg (by rw [<-e2];exact e),<-e2];simpa using h
   . rw [if_neg e2] at g;simp at g;have i:=List.lt_trans h g;have j:a.1≠c.1:=λz=>List.lt_irrefl _ (by rw [z] at i;exact i)
     rw [if_neg j];simpa using i
def YK {b:Hd} (h:a≠b):de a b=true\/de b a=true:=by
 unfold de
 by_cases e:a.1=b.1
 . have e2:a.2≠b.2:=λz=>h (vl e z)
   rw [if_pos e,if_pos e.symm];simp;omega
 . rw [if_neg e,if_neg λz=>e z.symm];simp only [decide_eq_true_eq];have:a.1.cps.toList≠b.1.cps.toList:=λz=>e (jfh z)
   by_cases z:a.1.cps.toList<b.1.cps.toList
   . exact .inl z
   . exact .inr (Std.lt_of_le_of_ne z (lD this))
def mK (c:List Hd) (i j:Nat):Bool:=match c[i]?,c[j]? with
 |some a,some b=>de a b
 |_,_=>false
def jab (r:l.Nodup):Ord (mK l) l.length where
 Hu:=λi j h=>by
  unfold mK at h ⊢
  cases c:l[i]? with
  |none=>rw [c] at h;cases h
  |some a=>
    cases g:l[j]? with
    |none=>rfl
    |some b=>rw [c,g] at h;exact Ux h
 trans:=λi j k c g p m n=>by
  unfold mK at m n ⊢;rw [cH c,cH g] at m;rw [cH g,cH p] at n;rw [cH c,cH p];exact YJ m n
 total:=λi j c g o=>by
  unfold mK;rw [cH c,cH g];refine YK λe=>?_
  have q:=CO.mp r;rcases Nat.lt_or_gt_of_ne o with z|z
  . exact q i j c g z e
  . exact q j i g c z e.symm
def rX (h:Heap) (v:Value) (a:Hd):Prop:= ∃b o n t u,v= .ref b/\h.get? b=some o/\o.cls= .type "tuple" /\o.data= .seq #[.str a.1 t,.int a.2 u] n
section
variable {prog:bQ} {w:World} {A:cf} {E:T9} {s:aH}
def jiG (g:s.heap.get? x=some i) (dx:i.data= .seq #[.str a.1 t,.int a.2 u] n) (j:s.heap.get? y=some l) (o:l.data= .seq #[.str b.1 q,.int b.2 r] m) (h:Q (de a b) s):
   wpAny (model prog w) A (keyLt' (tuples' true) (.ref x) (.ref y)) Q E s:=by
 refine kat_lt g dx j o ?_;refine kat_cons (eqBool_str (kat_go (λe=>kat_yes (kat_cons (wpAny_eqBool_int (kat_go (λe2=>kat_yes (kat_nil ?_)) λe2=>kat_no (kat_one _ _ (wpAny_lt_int ?_)))))) λe=>kat_no (oneLt_str ?_)))
 . have c:a.1=b.1:=by simpa using e
   have p:a.2=b.2:=by simpa using e2
   have:de a b=false:=by unfold de;rw [if_pos c];simp [p]
   rw [this] at h;exact h
 . have c:a.1=b.1:=by simpa using e
   have:de a b=decide (a.2<b.2):=by unfold de;rw [if_pos c]
   rw [this] at h;exact (show Q (decide (a.2<b.2)) s from h)
 . have c:a.1≠b.1:=by simpa using e
   have:de a b=decide (a.1.cps.toList<b.1.cps.toList):=by unfold de;rw [if_neg c]
   rw [this] at h;exact h
def rX.keep (x:rX h v a) (k: ∀b o,h.get? b=some o->o.cls= .type "tuple" ->g.get? b=some o):rX g v a:=
 let ⟨b,o,n,t,u,e,i,c,hd⟩:=x;⟨b,o,n,t,u,e,k b o i c,c,hd⟩
inductive dC (h:Heap):List Value->List Hd->Prop where
 |nil:dC h [] []
 |cons {v:Value} {a:Hd} {vs:List Value} {hs:List Hd}:rX h v a->dC h vs hs->dC h (v::vs) (a::hs)
theorem dC.length: ∀ {vs:List Value} {hs:List Hd},dC h vs hs->vs.length=hs.length
 |_,_,.nil=>rfl
 |_,_,.cons _ t=>by simp [t.length]
theorem dC.keep (k: ∀b o,h.get? b=some o->o.cls= .type "tuple" ->e.get? b=some o): ∀ {a:List Value} {c:List Hd},dC h a c->dC e a c
 |_,_,.nil=> .nil
 |_,_,.cons x t=> .cons (x.keep k) (t.keep k)
theorem dC.get: ∀ {vs:List Value} {hs:List Hd} {i:Nat} {a:Hd},dC h vs hs->hs[i]?=some a->rX h (vs.getD i oP) a
 |_,_,0,a,.cons x t,e=>by simp at e;subst e;simpa using x
 |_,_,i+1,a,.cons x t,e=>by simpa using t.get (by simpa using e)
theorem dC.gy: ∀ {a:List Value} {c:List Hd},dC h a c-> ∃fs,KatTups h a fs/\fs.length=a.length/\ ∀f∈fs,∃z t,f= .str z t
 |_,_,.nil=>⟨[],KatTups.nil,rfl,λ_ z=>nomatch z⟩
 |_,_,.cons x r=>by
  obtain ⟨fs,e,g,i⟩:=r.gy;obtain ⟨b,o,n,t,u,rfl,j,l,hd⟩:=x
  exact ⟨_::fs,KatTups.cons j l hd rfl e,by simp [g],λf hf=>by
   rcases dk.mp hf with rfl|hf
   . exact ⟨_,_,rfl⟩
   . exact i f hf⟩
def jaB:Looks M h (typeOf (.str z t)) (.type "str"):=Looks.of_pure rfl
def ky (O:s.heap.get? a=some (mh "list" g.toArray n)) (U:dC s.heap g l) (Y:l.Nodup) (Z:2<=g.length) (B:g.length<64)
   (h: ∀p H c,Pm p g.length->Up (mK l) p g.length->(∀b o,b≠a->s.heap.get? b=some o->H.get? b=some o)->H.get? a=some (mh "list" (AK (KC g p)) c)->P (.done (.ret .none)) {s with heap:=H}):
   wpAny (model prog w) A (ms.«list.sort» ⟨[.ref a],[]⟩) P E s:=by
 have hl:=U.length
 have keep: ∀b o,s.heap.get? b=some o->o.cls= .type "tuple" ->(wo s.heap a g).get? b=some o:=λb o e hc=>J0 (λz=>by
   subst z;rw [O] at e;cases e;simp [mh] at hc) e
 have r:=U.keep keep;obtain ⟨fs,k1,k2,k3⟩:=r.gy;refine Xg (by rw [hl];exact jab Y) (tuples' (yS "str" !=yS "tuple")) O Z B (λQ q=>?_) (λi j C hi hj hC=>?_) h
 . exact kat_kind k1 (by omega) (λf hf=>by obtain ⟨z,t,rfl⟩:=k3 f hf;exact jaB) rfl q
 . have v:i<l.length:=by omega
   have y:j<l.length:=by omega
   obtain ⟨b,o,m,t,u,e1,I,_,J⟩:=r.get (cH v);obtain ⟨b',o',m',t',u',e2,L,_,N⟩:=r.get (cH y);show wpAny _ _ (keyLt' _ (g.getD i oP) (g.getD j oP)) C _ _;rw [e1,e2];refine jiG I J L N ?_;have:mK l i j=de l[i] l[j]:=by unfold mK;rw [cH v,cH y]
   rw [<-this];exact hC
end
section
variable {prog:bQ} {w:World} {A:cf} {E:T9} {s:aH} {a:Addr} {Q:List Value} {n:Nat}
def jcs (j:s.heap.get? a=some (mh "list" Q.toArray n)) (y:Q.length<2)
  (h: ∀l c,(∀b o,b≠a->s.heap.get? b=some o->l.get? b=some o)->l.get? a=some (mh "list" Q.toArray c)->P (.done (.ret .none)) {s with heap:=l}):
  wpAny (model prog w) A (ms.«list.sort» ⟨[.ref a],[]⟩) P E s:=by
 obtain ⟨m,u⟩: ∃m,(s.heap.update a (vu λ_=>(#[]:Array Value))).get? a=some (mh "list" #[] m):=⟨_,Ew j λ_=> #[]⟩
 have p:(wo s.heap a Q).get? a=some (mh "list" #[] m):=dc _ (dc _ u);have big:Q.length<=aV:=by rw [pi];omega
 rw [list_sort_plain];refine ay (listItems_at j rfl (ay (listUpdate_at j rfl (ay (seqEpoch_at u rfl (ay (wpAny_newTuple (ay (wpAny_newList (nA ?_) (i5 _))) (by show Q.length<=aV;exact big))))) (by rw [dq];exact big) (i5 _))));dsimp only;have g:Q.toArray.size<2:=by rw [dq];omega
 rw [if_pos g,if_pos g];refine ay (aR (ay (aR ?_)));dsimp only
 have i:(arrOf (SortSt.mk' general' (Q.toArray.zip Q.toArray) #[] 7 none)).map (·.2)=Q.toArray:=by
  apply Hz.mp;simp [List.map_snd_zip]
 rw [i];obtain ⟨q,r⟩: ∃q,((wo s.heap a Q).update a (vu λ_=>Q.toArray)).get? a=some (mh "list" Q.toArray q):=⟨_,Ew p λ_=>Q.toArray⟩
 refine ay (seqEpoch_at p rfl (ay (listUpdate_at p rfl ?_ (i5 _) (by rw [dq];exact Nat.le_succ_of_le big))));simp;exact aR (h _ q (λb o v e=>(D6 _ _ (lD v)).trans (J0 v e)) r)
end
noncomputable def oE (a:Hd):List Hd->List Hd
 | []=>[a]
 |b::r=>if de a b=true then a::b::r else b::oE a r
def x5 (a:List Hd):List Hd:=a.foldr oE []
theorem ZJ (a:Hd): ∀l,(oE a l).Perm (a::l)
 | []=>tN _
 |b::r=>by
  unfold oE
  split
  . exact tN _
  . exact ((ZJ a r).cons b).trans (HA a b r)
theorem zK: ∀c,(x5 c).Perm c
 | []=>tN _
 |a::r=>(ZJ a (x5 r)).trans ((zK r).cons a)
theorem NJ: ∀ {l:List Hd},l.Pairwise (λx y=>de x y=true)->a∉l->(oE a l).Pairwise (λx y=>de x y=true)
 | [],_,_=>by simp [oE]
 |b::r,h,n=>by
  have g:=By.mp h;unfold oE
  by_cases e:de a b=true
  . rw [if_pos e];refine By.mpr ⟨λc i=>?_,h⟩;rcases dk.mp i with z|z
    . rw [z];exact e
    . exact YJ e (g.1 c z)
  . rw [if_neg e];have j:a≠b:=λz=>n (by simp [z])
    have m:=(YK j).resolve_left e;refine By.mpr ⟨λc i=>?_,NJ g.2 λz=>n (by simp [z])⟩;rcases dk.mp ((ZJ a r).mem_iff.mp i) with z|z
    . rw [z];exact m
    . exact g.1 c z
theorem Vz: ∀ {c:List Hd},c.Nodup->(x5 c).Pairwise (λx y=>de x y=true)
 | [],_=>List.Pairwise.nil
 |a::r,h=>by
  have e:=ti.mp h;exact NJ (Vz e.2) λz=>e.1 ((zK r).mem_iff.mp z)
theorem XW: ∀ {l m:List Hd},l.Pairwise (λx y=>de x y=true)->m.Pairwise (λx y=>de x y=true)->l.Perm m->l=m
 | [],m,_,_,p=>(List.nil_perm.mp p).symm
 |a::l,[],_,_,p=>by have:=p.length_eq;simp at this
 |a::l,b::m,n,o,p=>by
  have c:=By.mp n;have g:=By.mp o
  have e:a=b:=by
   by_cases z:a=b
   . exact z
   . have q:a∈b::m:=p.mem_iff.mp (by simp);have r:b∈a::l:=p.mem_iff.mpr (by simp);have h:=(dk.mp q).resolve_left z;have i:=(dk.mp r).resolve_left λy=>z y.symm
     have u:=c.1 b i;have j:=g.1 a h;rw [Ux u] at j;cases j
  subst e;rw [XW c.2 g.2 (List.perm_cons a|>.mp p)]
inductive F2 {α β:Type} (R:α->β->Prop):List α->List β->Prop where
 |nil:F2 R [] []
 |cons {a b as bs}:R a b->F2 R as bs->F2 R (a::as) (b::bs)
theorem F2.length {α β:Type} {R:α->β->Prop}: ∀ {as:List α} {bs:List β},F2 R as bs->as.length=bs.length
 |_,_,.nil=>rfl
 |_,_,.cons _ t=>by simp [t.length]
theorem F2.get {α β:Type} {R:α->β->Prop} {a0:α} {b0:β}: ∀ {as:List α} {bs:List β} {i:Nat},F2 R as bs->i<bs.length->R (as.getD i a0) (bs.getD i b0)
 |_,_,0,.cons x t,_=>by simpa using x
 |_,_,i+1,.cons x t,h=>by simpa using t.get (by simpa using h)
theorem F2.map {c e a:Type} {R:c->e->Prop} {f:a->c} {g:a->e}: ∀ {l:List a},(∀x∈l,R (f x) (g x))->F2 R (l.map f) (l.map g)
 | [],_=> .nil
 |x::l,h=> .cons (h x (by simp)) (F2.map λy i=>h y (by simp [i]))
def u8 (o:a.Nodup) (e:Pm p a.length) (q:Up (mK a) p a.length):p.toList.map (λi=>a.getD i ("",0))=x5 a:=by
 have c: ∀i∈p.toList,i<a.length:=λi g=>ic.mp (e.perm.mem_iff.mp g)
 refine XW ?_ (Vz o) ?_
 . rw [wr,CO];intro i j g r h;have v:p.toList.length=a.length:=by rw [lC,e.size]
   have:=q i j h (by omega);have e1:ee p i=p.toList[i]:=by simp [ee,Bw,e.size,show i<a.length by omega]
   have e2:ee p j=p.toList[j]:=by simp [ee,Bw,e.size,show j<a.length by omega]
   rw [e1,e2] at this;have l:=c _ (qd g);have m:=c _ (qd r);unfold mK at this;rw [cH l,cH m] at this;rw [CQ,CQ,cH l,cH m];exact this
 . have n:=e.perm.map (λi=>a.getD i (("" :Str),(0:Int)))
   have u:(fK a.length).map (λi=>a.getD i ("",0))=a:=by
    apply BK;intro i
    by_cases g:i<a.length
    . simp [g]
    . rw [oO (by simp;omega),oO (by omega)]
   rw [u] at n;exact n.trans (zK a).symm
def uf (h:c.length<2):x5 c=c:=by
 match c,h with
 | [],_=>rfl
 | [a],_=>rfl
section
variable {prog:bQ} {w:World} {A:cf} {E:T9} {s:aH} {a:Addr} {N:List Value} {n:Nat}
def jct {P:PySem.Fin->aH->Prop} {j:List Hd} (q:s.heap.get? a=some (mh "list" N.toArray n)) (u:dC s.heap N j) (v:j.Nodup) (l:N.length<64)
   (h: ∀(y:List Value) g c,(∀R:Value->Hd->Prop,F2 R N j->F2 R y (x5 j))->(∀b o,b≠a->s.heap.get? b=some o->g.get? b=some o)->g.get? a=some (mh "list" y.toArray c)->P (.done (.ret .none)) {s with heap:=g}):
   wpAny (model prog w) A (ms.«list.sort» ⟨[.ref a],[]⟩) P E s:=by
 have B:=u.length
 by_cases H:N.length<2
 . exact jcs q H λg c k e=>h N g c (λR r=>by rw [uf (by omega)];exact r) k e
 . refine ky q u v (by omega) l λp g c m z k e=>h _ g c (λR r=>?_) k e
   rw [B] at m z;rw [<-u8 v m z];exact F2.map λi I=>r.get (ic.mp (m.perm.mem_iff.mp I))
end
section
variable {prog:bQ} {w:World} {A:cf} {E:T9} {t:aH} {L:List Value} {J:List Hd}
def Km {Q:T9} (n:dC t.heap L J) (p:J.Nodup) (j:L.length<64)
  (h: ∀(i:List Value) a c,(∀R:Value->Hd->Prop,F2 R L J->F2 R i (x5 J))->(∀b o,t.heap.get? b=some o->a.get? b=some o)->a.get? t.heap.objs.size=some (mh "list" i.toArray c)->Q (.ref t.heap.objs.size) {t with heap:=a}):
  wpAny (model prog w) A (newList L>>=λl=>sF [l] (call (.builtin "list.sort") [l] [])>>=λ_=>ret l) (λm q=> ∃v,m= .done (.ret v)/\Q v q) E t:=by
 have g:(t.heap.push (mh "list" L.toArray 0)).get? t.heap.objs.size=some (mh "list" L.toArray 0):=gp _ rfl;refine ay (wpAny_newList (ay (nA ?_)) (by rw [pi];omega));refine tq slot_list_sort ⟨_,g,rfl⟩ entry_list_sort ?_ (args_list_sort _);refine jct g (n.keep λb o e _=>dc _ e) p j λi a c r k e=>⟨_,rfl,aR ⟨_,rfl,h i a c r (λb o e2=>k b o (λz=>?_) (dc _ e2)) e⟩⟩
 exact rj _ (by have:=cL e2;rw [z] at this;exact this)
end
end M
namespace M
open PySem PySem.Spec L2
open PyProof.Rows hiding St
section
variable {X:Cx}
section
variable {Q N:Type} {R:Q->N->Prop} {a:Q} {b:N} {l:List Q} {n:List N}
def F2.dJ (r:F2 R (a::l) n): ∃b m,n=b::m/\R a b/\F2 R l m:=by cases r;exact ⟨_,_,rfl,by assumption,by assumption⟩
def F2.jU (r:F2 R l (b::n)): ∃a m,l=a::m/\R a b/\F2 R m n:=by cases r;exact ⟨_,_,rfl,by assumption,by assumption⟩
def F2.g7 (r:F2 R l []):l=[]:=by cases r;rfl
def F2.Ar (r:F2 R [] n):n=[]:=by cases r;rfl
def EC (r:nZ R (a::l) n): ∃b m,n=b::m/\R a b/\nZ R l m:=by cases r;exact ⟨_,_,rfl,by assumption,by assumption⟩
def HB (r:nZ R [] n):n=[]:=by cases r;rfl
end
def wt (H:Hp) (x:V) (a:Hd):Prop:= ∃b,x= .ref b/\H b=some (.ap [.str a.1,.int a.2])
theorem NL {j:L2.St} (I:aD X h j H s): ∀ {e:List V} {c:List Value} {g:List Hd},aI e c->F2 (wt H) e g->dC s.heap c g/\F2 (λv a=> ∃b,v=cK b/\H b=some (.ap [.str a.1,.int a.2])) c g
 | [],_,_,r,f=>by cases HB r;cases f.Ar;exact ⟨.nil,.nil⟩
 |y::e,_,_,r,f=>by
  obtain ⟨_,_,rfl,r,l⟩:=EC r;obtain ⟨_,_,rfl,⟨b,rfl,i⟩,m⟩:=f.dJ;obtain ⟨p,q⟩:=NL I l m;cases r;obtain ⟨_,c,w,o,z,B,n,hd⟩:=(show a9 X.prog X.w H s.heap b (.ap _) from I.a7 b _ i)
  obtain ⟨_,_,rfl,⟨t,rfl⟩,E⟩:=EC w;obtain ⟨_,_,rfl,⟨u,rfl⟩,J⟩:=EC E;cases HB J;exact ⟨.cons ⟨b,o,n,t,u,rfl,z,B,hd⟩ p,.cons ⟨b,rfl,i⟩ q⟩
theorem NM: ∀ {g:List Value} {e:List Hd},F2 (λv a=> ∃b,v=cK b/\H b=some (.ap [.str a.1,.int a.2])) g e-> ∃c,aI c g/\F2 (wt H) c e
 |_,[],f=>by cases f.g7;exact ⟨[],.nil,.nil⟩
 |_,a::e,f=>by
  obtain ⟨_,_,rfl,⟨b,rfl,h⟩,t⟩:=f.jU;obtain ⟨c,i,j⟩:=NM t;exact ⟨.ref b::c,.cons rfl i,.cons ⟨b,rfl,h⟩ j⟩
end
def CS:List D->Option (List aS)
 | []=>some []
 |d::r=>match rW d,CS r with
  |some k,some ks=>some (k::ks)
  |_,_=>none
def j2:D->Option (List aS)
 | .ap ds=>CS ds
 |_=>none
noncomputable def ka (ks:List (List aS)) (k:List aS):Bool:=ks.any λx=>decide (x=k)
def Ye (ks:List (List aS)) (k:List aS):List (List aS):=if ka ks k=true then ks else ks++[k]
def Yf (ks:List (List aS)) (ds:List D) (k:List aS) (d:D):List D:=if ka ks k=true then (ks.zip ds).map (λp=>if p.1=k then d else p.2) else ds++[d]
section
variable {K:aG} {A:VC} {H:Hp}
theorem Uh: ∀ {a:List V} {ds:List D} {ks:List aS},am K A H a ds->CS ds=some ks->a=ks.map kV
 | [],_,ks,r,h=>by cases r.g7;cases h;rfl
 |v::a,_,ks,r,h=>by
  obtain ⟨d,ds,rfl,r,t⟩:=r.dJ;unfold CS at h
  cases e1:rW d with
  |none=>rw [e1] at h;cases h
  |some k=>
   cases e2:CS ds with
   |none=>rw [e1,e2] at h;cases h
   |some c=>
    rw [e1,e2] at h;cases h;rw [Ny r e1,Uh t e2];rfl
def JD (r:aL K A H y d) (h:j2 d=some k): ∃b,y= .ref b/\H b=some (.ap (k.map kV)):=by
 cases d<;>try cases h
 obtain ⟨_,_,rfl,e,a⟩:=r.f;exact ⟨_,rfl,by rw [e,Uh a h]⟩
def U8 (a:List (List aS×V)) (k:List aS):(a.any λc=>decide (c.1=k))=ka (a.map (·.1)) k:=by
 unfold ka;rw [List.any_map];rfl
theorem Ya (k:List aS) (g:aL K A H v d): ∀ {a:List (List aS×V)} {ds:List D},am K A H (a.map (·.2)) ds->am K A H ((a.map (λc=>if c.1=k then (c.1,v) else c)).map (·.2)) (((a.map (·.1)).zip ds).map (λp=>if p.1=k then d else p.2))
 | [],_,r=>by cases r.g7;exact .nil
 | (i,m)::a,_,r=>by
  obtain ⟨_,_,rfl,j,l⟩:=r.dJ;have h:=Ya k g l
  by_cases e:i=k
  . simp only [fF,AI,e,if_true];exact .cons g (by simpa [e] using h)
  . simp only [fF,AI,e,if_false];exact .cons j h
def VH (k:List aS) (r:am K A H (a.map (·.2)) ds) (c:aL K A H v d):
   (putK a k v).map (·.1)=Ye (a.map (·.1)) k/\am K A H ((putK a k v).map (·.2)) (Yf (a.map (·.1)) ds k d):=by
 unfold putK Ye Yf;rw [U8]
 by_cases h:ka (a.map (·.1)) k=true
 . rw [if_pos h,if_pos h,if_pos h];refine ⟨?_,Ya k c r⟩;rw [lG];apply CM;intro p _;simp
   split<;>rfl
 . rw [if_neg h,if_neg h,if_neg h];refine ⟨by simp,?_⟩;rw [tL];exact r.append (.cons c .nil)
def aL.tP (r:aL K A H v (.cJ ks ds)): ∃a e,v= .ref a/\H a=some (.dT e)/\A a/\e.map (·.1)=ks/\am K (λc=>A c/\c≠a) H (e.map (·.2)) ds:=r.f
end
def jfI {K:aG} {i:Nat} (k:aB K G p g h H) (j:g[i]?=some (.aw (.cJ ks ds))): ∃a c,h[i]?=some (some (.ref a))/\H a=some (.dT c)/\c.map (·.1)=ks/\am K (Sf G g h) H (c.map (·.2)) ds:=by
 obtain ⟨a,l,q,m⟩:=k.aw i _ j
 cases m with
 |cJ e n o r=>subst o;exact ⟨a,_,l,e,n,r⟩
noncomputable def AL (i:Nat) (a:Sl):aj (List (List aS)×List D):=match a[i]? with
 |some (.aw (.cJ ks ds))=> .ok (ks,ds)
 |_=> .ai
def jcM (h:AL i a= .ok p):a[i]?=some (.aw (.cJ p.1 p.2)):=by
 unfold AL at h
 split at h
 . cases h;assumption
 . cases h
section
variable {X:Cx} {K:aG} {O l2:Lv} {e1 e2:Expr} {U fv:TF} {Y jL Z p:Pos} {x:Str}
noncomputable def NO:Sl->aj D:=λ_=> .ok (.cJ [] [])
def jbO:DE X .t (.Dict [] [] Y) NO:=by
 with_unfolding_all exact (PE.imp Z6 λg H Q=>by
  rintro ⟨G,h,c,d,k,e,q⟩;cases e
  exact λp a=>q _ _ (al.aU a) (.cJ jy (k.new p a) rfl rfl .nil) (qA (al.refl H) a))
def vA (i:Nat) (U fv:TF):Sl->aj ba:=λa=>AL i a>>=λq=>fv a>>=λd=>U a>>=λc=>match j2 c with
 |some k=>a4 (q.1.length<aV) (.ok (.nx (a.set i (.aw (.cJ (Ye q.1 k) (Yf q.1 q.2 k d))))))
 |none=> .ai
def jdK (i:Nat) (hu:X.A.units+1<cLine) (hk:DE X O e1 U) (hv:DE X .s e2 fv) (hN:X.N[i]?=some x:=by rfl) (u:iM X.env.scope x:=by exact jT rfl)
   (hd:Z8 x:=by decide) (z:X8 x:=by decide)
   (hs:lK e2 (some (.Subscript (.Name x p) e1 Z)) Y.line X.env=pure false:=by rfl):
   DS X (.Assign [.Subscript (.Name x p) e1 Z] e2 Y) (vA i U fv):=by
 with_unfolding_all exact (
  PS.imp (uL hu (xZ hN u hd z) hk hv hs) λE σ H=>by
   rintro ⟨G,I,g,o,k,h,q⟩;obtain ⟨ks,c1,h⟩:=jd h;obtain ⟨d,c2,h⟩:=jd h;obtain ⟨J,c3,r⟩:=jd h;have L:=jcM c1;obtain ⟨a,B,N,hx,j,rs⟩:=jfI k L
   cases c:j2 J with
   |none=>rw [c] at r;cases r
   |some kk=>
    rw [c] at r;obtain ⟨Q,c5⟩:=jv r;cases c5;refine ⟨G,I,g,d,k,c2,λv H1 l r1 _=>⟨.ref a,N,G,I,g,J,k.ao l,c3,λy H2 m r2 _=>?_⟩⟩;have n:=m _ _ (l _ _ hx);obtain ⟨b,rfl,hb⟩:=JD (r2.aQ Lv.bo) c;have hl:B.length<aV:=by rw [<-j,cg] at Q;exact Q
    refine ⟨a,_,rfl,nE.t n hb hl,?_⟩;obtain ⟨p1,p2⟩:=VH kk ((rs.ao l).ao m) (r1.ao m);rw [j] at p1 p2;have W:=((k.ao l).ao m).mF L N n trivial λA' H' st e w=> .cJ e p1 rfl (p2.bq st w)
    exact q σ _ W.1 ((W.2.ao m).ao l))
noncomputable def b7 (a:Hd):D:= .ap [.str a.1,.int a.2]
def VA (c:List Hd):Bool:=c.all λa=>decide (a.1.length<=aV)
theorem K3: ∀ {e:List V} {c:List Hd},F2 (wt H) e c->(∀a∈c,a.1.length<=aV)->am K A H e (c.map b7)
 |_,[],f,_=>by cases f.g7;exact .nil
 |_,a::c,f,h=>by
  obtain ⟨_,_,rfl,⟨b,rfl,g⟩,t⟩:=f.jU;exact .cons (.ap g (.cons (.str _ (h _ (by simp))) (.cons (.int _) .nil))) (K3 t λa i=>h a (by simp [i]))
end
noncomputable def e9 (a:Hd):List aS:=[.inr a.1,.inl a.2]
section
variable {X:Cx} {K:aG}
theorem Qd: ∀ {g:List (List aS×V)} {i:List (List aS×Addr×Value)} {c:List Hd},KT H g i->g.map (·.1)=c.map e9->F2 (wt H) (i.map λq=>V.ref q.2.1) c
 |_,_,c,.nil,e=>by
  cases c with
  |nil=>exact .nil
  |cons a r=>cases e
 |_,_,c,.cons h t,e=>by
  cases c with
  |nil=>cases e
  |cons a r=>
   simp at e;refine .cons ⟨_,rfl,?_⟩ (Qd t e.2);rw [h.2.1,e.1];rfl
theorem Zd: ∀(l:List Addr),aI (l.map V.ref) (l.map cK)
 | []=> .nil
 |a::l=> .cons rfl (Zd l)
def Y1 (hc:X.cF=true):bF X (.builtin "sorted") (λL H Q=> ∃a g m,L=[.ref a]/\H a=some (.dT g)/\g.map (·.1)=m.map e9/\m.Nodup/\m.length<64/\ ∀l w,H l=none->F2 (wt H) w (x5 m)->Q (.ref l) (aU H l (.ah w))):=by
 intro y s σ H L w Q I r h;obtain ⟨a,g,m,rfl,ha,hk,nd,h64,q⟩:=h;obtain ⟨u,rfl,rx⟩:=yY r;cases rx;obtain ⟨hz,lo,n,hp,o,es,ep,ho,hx,hd,he,_⟩:=(show a9 X.prog X.w H s.heap a (.dT g) from I.a7 a _ ha)
 have N:=Qd hp hk
 have hV:aI (n.map λq=>V.ref q.2.1) (n.map λq=>cK q.2.1):=by
  have:=Zd (n.map λq=>q.2.1);simpa [lG,HC] using this
 obtain ⟨hA,hR⟩:=NL I hV N;have O:n.length=m.length:=by simpa using N.length
 have hD:oX s.heap a (n.map λq=>cK q.2.1) ep:=⟨o,es,ho,hx,hd,by rw [he,lG];rfl⟩
 refine Calls.call_function_entry kind_sorted plain_sorted entry_sorted (args_sorted1 _) ?_;unfold ms.«sorted»;refine ay (aR (ay (PySem.W.kdu_collect (NI lo) (show X.A.in1.handled=none from I.ok.hd hc) hD (by rw [cg,pi];omega) λh' tk p z j=>?_)))
 have v:p.toList=n.map λq=>cK q.2.1:=by
  apply BK;intro i;have hl:p.toList.length=(n.map λq=>cK q.2.1).length:=by rw [lC];exact j.1
  by_cases U:i<p.toList.length
  . rw [cH U];exact (j.2 i _ (by rw [<-oj];exact cH U)).symm
  . rw [oO (by omega),oO (by omega)]
 rw [v];refine Km (hA.keep λb o e _=>z b o e) nd (by rw [cg];omega) λw h2 c B k e=>?_
 obtain ⟨E,v1,Y⟩:=NM (B _ hR);have Z:aD X y σ H {s with heap:=h',toks:=tk}:=I.kept z
 have J:E.length<=aV:=by
  have a1:=Y.length;have a2:=(zK m).length_eq;rw [pi];omega
 exact ⟨.ref _,_,Z.laid k (bf _) (show a9 X.prog X.w _ h2 _ (.ah E) from ⟨J,w,c,v1,e⟩),rfl,q _ E (Z.a7.fresh (bf _)) Y⟩
def ED:List aS->Option Hd
 | [.inr z,.inl k]=>some (z,k)
 |_=>none
def wS:List (List aS)->Option (List Hd)
 | []=>some []
 |d::r=>match ED d,wS r with
  |some a,some c=>some (a::c)
  |_,_=>none
theorem ZK: ∀ {ks:List (List aS)} {c:List Hd},wS ks=some c->ks=c.map e9
 | [],c,h=>by cases h;rfl
 |d::r,c,h=>by
  unfold wS at h
  cases e1:ED d with
  |none=>rw [e1] at h;cases h
  |some a=>
   cases e2:wS r with
   |none=>rw [e1,e2] at h;cases h
   |some e=>
    rw [e1,e2] at h;cases h;rw [ZK e2];unfold ED at e1
    split at e1
    . cases e1;rfl
    . cases e1
def WM:List D->aj D
 | [.cJ ks _]=>match wS ks with
  |some a=>a4 (a.Nodup/\a.length<64/\VA a=true) (.ok (.ah ((x5 a).map b7)))
  |none=> .ai
 |_=> .ai
def vD:XR K (λy H Q=> ∃a g h,y=[.ref a]/\H a=some (.dT g)/\g.map (·.1)=h.map e9/\h.Nodup/\h.length<64/\ ∀l j,H l=none->F2 (wt H) j (x5 h)->Q (.ref l) (aU H l (.ah j))) WM:=by
 intro A y H ds d Q r e q;unfold WM at e
 split at e
 . rename_i ks N
   cases m:wS ks with
   |none=>rw [m] at e;cases e
   |some h=>
    rw [m] at e;obtain ⟨⟨B,n,o⟩,e2⟩:=jv e;cases e2;obtain ⟨v,rfl,E⟩:=r.one;obtain ⟨p,g,rfl,I,_,u,_⟩:=E.tP;refine ⟨p,g,h,rfl,I,by rw [u];exact ZK m,B,n,λl j i J=>q _ _ (al.aU i) (.ah jy (.inl i) ?_) (qA (al.refl H) i)⟩
    have w: ∀a∈x5 h,a.1.length<=aV:=λa L=>by
     have:=lI.mp o a ((zK h).mem_iff.mp L);simpa using this
    exact ((K3 (A:=λ_=>False) J w).ao (al.aU i)).aQ λc z=>z.elim
 . cases e
end
section
variable {prog:bQ} {w:World} {A:cf} {E:T9} {s:aH}
theorem Vv: ∀ {c:List Int} {l:List Value},aI (c.map V.int) l->l.length=c.length/\ ∀i v,l[i]?=some v-> ∃t,v=Value.int (c.getD i 0) t
 | [],_,.nil=>⟨rfl,λi v h=>by cases h⟩
 |i::c,_,.cons h t=>by
  obtain ⟨a,b⟩:=Vv t;refine ⟨by simp [a],λj v g=>?_⟩
  cases j with
  |zero=>
   simp at g;subst g;obtain ⟨t,e⟩:=h;exact ⟨t,by rw [e];rfl⟩
  |succ j=>simp at g;simpa using b j v g
end
def ZG:List D->Option (List Int)
 | []=>some []
 | .int b::r=>(ZG r).map (b:: ·)
 |_=>none
theorem Qg: ∀ {ds:List D} {bs:List Int},ZG ds=some bs->ds=bs.map D.int
 | [],bs,h=>by cases h;rfl
 |d::r,bs,h=>by
  cases d with
  |int b=>
   simp only [ZG,vN] at h;obtain ⟨a,c,rfl⟩:=h;rw [Qg c];rfl
  |_=>cases h
def jaV (bs:List Int):ZG (bs.map D.int)=some bs:=by
 induction bs with
 |nil=>rfl
 |cons b r a=>simp [ZG,a]
section
variable {X:Cx} {K:aG} {l l' l2:Lv}
theorem Zc {A:VC} {H:Hp}: ∀ {bs:List Int} {a:List V},am K A H a (bs.map D.int)->a=bs.map V.int
 | [],_,.nil=>rfl
 |b::bs,_,.cons h t=>by rw [h.eP,Zc t];rfl
variable {x:Str} {p pos afP:Pos} {e e2:Expr} {fa f2:TF}
end
def Y5:n4 "sorted" =some (.builtin "sorted"):=by decide+kernel
section
variable {X:Cx} {id:String} {r:List V->Hp->VK->Prop} {g:Tz} {x:Str} {p L:Pos} {e:Expr} {J:List Expr} {I:TB}
def UT (i:bF X (.builtin id) r) (j:XR X.K r g) (l:Gl X x) (m:X.mg x=none) (n:n4 x=some (.builtin id))
   (o:DA X .s (e::J) I) (q:x≠ "__name__" :=by decide) (a:Z8 x:=by decide)
   (u:T8 X e J:=by exact jm rfl) (c:T7 X L J:=by exact jH rfl):DE X .t (.Call (.Name x p) (e::J) [] L) (app I g):=by
 with_unfolding_all exact (
  PE.imp (wl i l m n o q a u c) λ_ _ _ h=>MZ j h)
variable {ex:Expr} {t:TD}
end
end M
namespace M
open PySem PySem.Spec L2
mutual
noncomputable def eD:D->List Int
 | .int i=>[i]
 | .ap (_::a)=>mL a
 |_=>[]
noncomputable def mL:List D->List Int
 | []=>[]
 |d::r=>eD d++mL r
end
mutual
def bare:D->D
 | .ap (x::a)=> .ap (x::wB a)
 |_=> .int 0
def wB:List D->List D
 | []=>[]
 |d::r=>bare d::wB r
end
theorem ZZ: ∀a,mL a=a.flatMap eD
 | []=>rfl
 |d::r=>by simp [mL,ZZ r]
def NP (h: ∀t∈a,num t<=k):nums a<=a.length*k:=by
 induction a with
 |nil=>simp [nums]
 |cons d r c=>
  have g:=h d (by simp);have i:=c λt e=>h t (by simp [e])
  simp only [nums,fb,EE];omega
theorem Vb: ∀ {a:List D},(∀t∈a,D.eZ t=true)->D.fj a=true
 | [],_=>rfl
 |x::r,h=>by simp only [D.fj,eX];exact ⟨h x (by simp),Vb λd hd=>h d (by simp [hd])⟩
theorem gr: ∀ {ts:List D},(∀t∈ts,D.cp t<=k)->D.du ts<=k
 | [],_=>by simp [D.du]
 |x::r,h=>by
  simp only [D.du];have:=h x (by simp);have:=gr (ts:=r) λd hd=>h d (by simp [hd])
  omega
theorem YQ: ∀ {a:List D},(∀t∈a,gq t t=true)->c6 a a=true
 | [],_=>by simp [c6]
 |x::r,h=>by simp only [c6,eX];exact ⟨h x (by simp),YQ λd hd=>h d (by simp [hd])⟩
def ins (l:List Int) (x:Int):List Int:=if x∈l then l else l++[x]
def met (l a:List Int):List Int:=a.foldl ins l
def Ua (l:List Int) (x:Int) (a:List Int):met l (x::a)=met (ins l x) a:=rfl
def jgc:y∈ins l x↔y∈l\/y=x:=by
 unfold ins
 split
 . rename_i h;exact ⟨.inl,λz=>z.elim id λe=>by rw [e];exact h⟩
 . simp
theorem NQ: ∀ {a l:List Int} {y:Int},y∈met l a↔y∈l\/y∈a
 | [],l,y=>by simp [met]
 |x::a,l,y=>by
  rw [Ua,NQ,jgc];simp only [dk,or_assoc]
def h9 (n:Nat):List Int->List D
 | []=>[]
 |_::r=> .int n::h9 (n+1) r
def kb (l:List Int):List aS:=l.map ri
def jds (l:List Int) (x:Int):oD (kb l) (.inl x)=decide (x∈l):=by
 induction l with
 |nil=>rfl
 |cons a l c=>
  unfold oD kb at c ⊢;rw [fF,Br,c]
  by_cases h:a=x
  . subst h;simp
  . have:x≠a:=λe=>h e.symm
    simp [h,this]
def jf5 (l:List Int):(kb l).length=l.length:=by simp [kb]
mutual
def tk (a:List Str):D->Bool
 | .int _=>true
 | .ap (.str z::c)=>decide (z∈a)&&(decide (c.length<=9)&&wL a c)
 |_=>false
def wL (a:List Str):List D->Bool
 | []=>true
 |d::r=>tk a d&&wL a r
end
section
variable {ns:List Str}
mutual
theorem WL {P:D->Prop} (c: ∀i,P (.int i)) (e: ∀z a,z∈ns->a.length<=9->(∀t∈a,tk ns t=true/\P t)->P (.ap (.str z::a))): ∀t,tk ns t=true->P t
 | .int i,_=>c i
 | .ap (x::a),h=>by
  cases x with
  |str z=>
   simp only [tk,eX,decide_eq_true_eq] at h;exact e z a h.1 h.2.1 (oY c e a h.2.2)
  |_=>simp [tk] at h
 | .ap [],h=>by simp [tk] at h
 | .aW,h=>by simp [tk] at h
 | .bl _,h=>by simp [tk] at h
 | .str _,h=>by simp [tk] at h
 | .ah _,h=>by simp [tk] at h
 | .eN _,h=>by simp [tk] at h
 | .dr _ _,h=>by simp [tk] at h
 | .cJ _ _,h=>by simp [tk] at h
 | .fL _,h=>by simp [tk] at h
 | .ng _ _,h=>by simp [tk] at h
 | .ni _ _,h=>by simp [tk] at h
 | .obj _ _ _,h=>by simp [tk] at h
 | .mem _ _,h=>by simp [tk] at h
 | .fE _,h=>by simp [tk] at h
theorem oY {P:D->Prop} (j: ∀i,P (.int i)) (l: ∀z c,z∈ns->c.length<=9->(∀t∈c,tk ns t=true/\P t)->P (.ap (.str z::c))): ∀c,wL ns c=true-> ∀t∈c,tk ns t=true/\P t
 | [],_,t,g=>by cases g
 |d::r,h,t,g=>by
  simp only [wL,eX] at h;have a:=WL j l d h.1;have b:=oY j l r h.2;rcases dk.mp g with e|e
  . rw [e];exact ⟨h.1,a⟩
  . exact b t e
end
theorem NR: ∀ {a:List D},(∀t∈a,tk ns t=true)->wL ns a=true
 | [],_=>rfl
 |x::r,h=>by simp only [wL,eX];exact ⟨h x (by simp),NR λd hd=>h d (by simp [hd])⟩
theorem uc: ∀ {a:List D} {t:D},wL ns a=true->t∈a->tk ns t=true
 |x::r,t,h,ht=>by
  simp only [wL,eX] at h;rcases dk.mp ht with rfl|ht
  . exact h.1
  . exact uc h.2 ht
def EF (c:z∈ns) (h:a.length<=9) (e: ∀t∈a,tk ns t=true):tk ns (.ap (.str z::a))=true:=by
 simp only [tk,eX,decide_eq_true_eq];exact ⟨c,h,NR e⟩
def Js (h:tk ns t=true):(∃i,t= .int i)\/ ∃z a,t= .ap (.str z::a)/\z∈ns/\a.length<=9/\ ∀u∈a,tk ns u=true:=by
 cases t with
 |int i=>exact .inl ⟨i,rfl⟩
 |ap ds=>
  cases ds with
  |nil=>simp [tk] at h
  |cons x a=>
   cases x with
   |str z=>
    simp only [tk,eX,decide_eq_true_eq] at h;exact .inr ⟨z,a,rfl,h.1,h.2.1,λu c=>uc h.2.2 c⟩
   |_=>simp [tk] at h
 |_=>simp [tk] at h
def K7: ∀t,tk ns t=true->dE t=true:=WL (λi=>rfl) λz c _ e h=>by
 simp only [dE,bI,eX,decide_eq_true_eq,fb,true_and];exact ⟨by omega,QV λt a=>(h t a).2⟩
def VL: ∀t,tk ns t=true-> ∀p∈bh t,tk ns p=true:=WL (λi=>by simp [bh,tk]) λz q l m h=>by
 simp only [bh];intro p n;rcases dk.mp n with e|e
 . rw [e];exact EF l m λt g=>(h t g).1
 . have a: ∀c:List D,eh c=c.flatMap bh:=λc=>by
    induction c with
    |nil=>rfl
    |cons d r o=>simp [eh,o]
   rw [a] at e;obtain ⟨t,g,j⟩:=rc.mp e;exact (h t g).2 p j
def eI:List D->List Int
 | []=>[]
 | .int i::r=>i::eI r
 |_::r=>eI r
theorem Xl: ∀a b,eI (a++b)=eI a++eI b
 | [],b=>rfl
 |d::r,b=>by
  have c:=Xl r b;cases d<;>simp [eI,c]
def cy:List D->List Hd
 | []=>[]
 | .ap (.str z::a)::r=>(z,(a.length:Int))::cy r
 |_::r=>cy r
def NS (z:Str) (a r:List D):cy (.ap (.str z::a)::r)=(z,(a.length:Int))::cy r:=rfl
theorem NT: ∀ {a:List D},(∀t∈a,tk ns t=true)-> ∀x∈cy a,x.1∈ns/\0<=x.2/\x.2<=9
 | [],_,x,c=>by cases c
 |d::r,h,x,c=>by
  have g:=NT (a:=r) λt j=>h t (by simp [j])
  rcases Js (h d (by simp)) with ⟨i,rfl⟩| ⟨z,m,rfl,l,n,_⟩
  . exact g x c
  . rw [NS] at c;rcases dk.mp c with e|e
    . rw [e];exact ⟨l,by simp,by simp;omega⟩
    . exact g x e
def fW (l:List Hd) (a:Hd):List Hd:=if a∈l then l else l++[a]
def oF (l a:List Hd):List Hd:=a.foldl fW l
def jge (h:l.Nodup):(fW l a).Nodup:=by
 unfold fW
 split
 . exact h
 . rename_i i;refine HD.mpr ⟨h,by simp,λx c y g=>?_⟩;simp at g;rw [g];intro e;rw [e] at c;exact i c
theorem NU: ∀ {xs l:List Hd},l.Nodup->(oF l xs).Nodup
 | [],l,h=>h
 |x::xs,l,h=>NU (xs:=xs) (jge h)
def jdl (h:x∈fW l a):x∈l\/x=a:=by
 unfold fW at h
 split at h
 . exact .inl h
 . simpa using h
theorem Xm: ∀ {a l:List Hd} {x:Hd},x∈oF l a->x∈l\/x∈a
 | [],l,x,h=> .inl h
 |y::a,l,x,h=>by
  rcases Xm (l:=fW l y) h with z|z
  . rcases jdl z with z|z
    . exact .inl z
    . exact .inr (by simp [z])
  . exact .inr (by simp [z])
theorem Zu: ∀ {l m:List Hd},l.Nodup->(∀x∈l,x∈m)->l.length<=m.length
 | [],m,_,_=>by simp
 |a::l,m,h,g=>by
  have i:=ti.mp h;have j:=g a (by simp)
  have:=Zu (m:=m.erase a) i.2 λx c=>by
   refine (Gz λe=>?_).mpr (g x (by simp [c]));rw [e] at c;exact i.1 c
  rw [GA j] at this;have n:=GB j;simp;omega
def jbc {l:List Hd} (h:l.Nodup) (a: ∀x∈l,x.1∈ns/\0<=x.2/\x.2<=9):l.length<=ns.length*10:=by
 have:=Zu (m:=ns.flatMap λz=>(fK 10).map λk=>(z,((k:Nat):Int))) h λx c=>by
  obtain ⟨g,i,n⟩:=a x c;refine rc.mpr ⟨x.1,g,c4.mpr ⟨x.2.toNat,ic.mpr (by omega),?_⟩⟩;rw [Int.toNat_of_nonneg i]
 have e:(ns.flatMap λz=>(fK 10).map λk=>(z,((k:Nat):Int))).length=ns.length*10:=by
  clear this a h
  induction ns with
  |nil=>rfl
  |cons z r j=>rw [HE,iE,j];simp;omega
 omega
def jgf:e9 a=e9 b↔a=b:=by
 constructor
 . intro h;cases a;cases b;simp [e9] at h;simp [h]
 . intro h;rw [h]
def NV (l:List Hd) (a:Hd):ka (l.map e9) (e9 a)=decide (a∈l):=by
 unfold ka;rw [List.any_map]
 induction l with
 |nil=>rfl
 |cons b l c=>
  rw [Br,c];simp only [Function.comp_apply,jgf]
  by_cases h:b=a
  . subst h;simp
  . have:a≠b:=λe=>h e.symm
    simp [h,this]
def fX (l:List Hd):List D:=l.map λ_=> .bl true
def jhM (l:List Hd) (a:Hd):Ye (l.map e9) (e9 a)=(fW l a).map e9/\Yf (l.map e9) (fX l) (e9 a) (.bl true)=fX (fW l a):=by
 unfold Ye Yf fW;rw [NV]
 by_cases h:a∈l
 . simp only [h,decide_true,if_true,true_and];clear h
   induction l with
   |nil=>rfl
   |cons b l c=>
    simp only [fX,fF,AI] at c ⊢;rw [c];simp
 . simp [h,fX]
theorem Wx: ∀l:List Hd,wS (l.map e9)=some l
 | []=>rfl
 |a::l=>by
  simp only [fF,wS,Wx l];rfl
def ku (c:l.Nodup) (e:l.length<64) (g: ∀a∈l,a.1.length<=aV):WM [.cJ (l.map e9) i]= .ok (.ah ((x5 l).map b7)):=by
 show (match wS (l.map e9) with|some j=>_|none=>_)=_;rw [Wx];exact jl ⟨c,e,lI.mpr λa h=>by simpa using g a h⟩
def jdz {c:Type} {f:c->D} (h: ∀a,D.eZ (f a)=true) (l:List c):D.fj (l.map f)=true:=Vb λt e=>by
 obtain ⟨a,_,rfl⟩:=c4.mp e;exact h a
def jdS {c:Type} {f:c->D} (h: ∀a,D.cp (f a)<=k) (l:List c):D.du (l.map f)<=k:=gr λt e=>by
 obtain ⟨a,_,rfl⟩:=c4.mp e;exact h a
end
end M
namespace M
open PySem PySem.Spec L2
open PyProof.Rows hiding St
def Y6:n4 "divmod" =some (.builtin "divmod"):=by decide+kernel
def ZS:List D->aj D
 | [.int i,.int j]=>a4 (0<j/\j<1073741824) (.ok (.ap [.int (i/j),.int (i%j)]))
 |_=> .ai
def jb0 {K:aG}:XR K (λa H Q=> ∃i j,a=[.int i,.int j]/\sV i j/\ ∀p,H p=none->Q (.ref p) (aU H p (.ap [.int (i/j),.int (i%j)]))) ZS:=by
 intro A a H ds d Q r e q;unfold ZS at e
 split at e
 . obtain ⟨g,e2⟩:=jv e;cases e2;obtain ⟨v,m,rfl,h,l⟩:=r.ak;cases h.eP;cases l.eP;exact ⟨_,_,rfl,g,λp c=>q _ _ (al.aU c) (.ap jy (.cons (.int _) (.cons (.int _) .nil))) (qA (al.refl H) c)⟩
 . cases e
section
variable {X:Cx} {Q:List (Addr×Obj)} {O:L2.St} {H:Hp} {s:aH}
def xP (I:aD X Q O H s) (k: ∀b o,b≠g->b≠h->s.heap.get? b=some o->j.get? b=some o) (E:fT X Q H g) (J:fT X Q H h):aD X Q O H {s with heap:=j,toks:=t'}:=by
 obtain ⟨L,l,_,N,U,Y⟩:=E;obtain ⟨Z,p,_,b3,b4,b5⟩:=J;have w: ∀b u,H b=some u->b≠g:=λb u e z=>by rw [z,L] at e;cases e
 have y: ∀b u,H b=some u->b≠h:=λb u e z=>by rw [z,Z] at e;cases e
 have i: ∀b o,b∉[g,h]->s.heap.get? b=some o->j.get? b=some o:=λb o a e=>k b o (λz=>a (by simp [z])) (λz=>a (by simp [z])) e
 refine I.step (λb B=>?_) (λb o _ _ a e _=>i b o a e) (λb o _ _ a e _=>⟨o.slots,i b o a e⟩) (λ_ _ _ _ n=>n)
   (λb o a e=>⟨o,i b o a e⟩) (λ_ _ e=>e) (λ_ _ _ e=>e) (λb ps e=>⟨#[],by rw [e];simp⟩) (λm hm=>?_) (λb u e=>?_) I.bare
 . simp at B;rcases B with rfl|rfl
   . exact ⟨N,l,U,Y⟩
   . exact ⟨b3,p,b4,b5⟩
 . obtain ⟨o,es,ep,ho,r⟩:=hm;exact ⟨o,es,ep,k _ o (lD l) (lD p) ho,r⟩
 . refine (I.a7 b u e).bq (λc v a q=>k c v ?_ ?_ q) (λ_ q=>q) λ_ _ q=>q
   . rcases a with z|z
     . rw [z];exact w b u e
     . exact w c _ z
   . rcases a with z|z
     . rw [z];exact y b u e
     . exact y c _ z
end
def ItE (K:aG) (a:Addr) (c:List V):It:=⟨λi H=>gR K H a c/\i<c.length,λi H v e=> ∃p x,H p=none/\c[i]?=some x/\v= .ref p/\e=aU H p (.ap [.int (i:Int),x]),λi H=>gR K H a c/\c.length<=i⟩
def v5 {K:aG} (a l e:Addr) (xs:List V) (J:e≠l):Turn P w K (.Tuple elts n pos) (ItE K a xs) [e,l] e (λi h=>(∃g,IsEnum h e l (i:Int) g)/\h.IsListIter l a i) where
 mem:=by simp
 obj:=λi h st b q=>by
  obtain ⟨⟨g,m⟩,o,ho,hc,hd⟩:=st;simp at q;rcases q with rfl|rfl
  . exact ⟨_,m,λv z=>by cases z⟩
  . exact ⟨o,ho,λv z=>by rw [hd] at z;cases z⟩
 keep:=λi h h' st k=>by
  obtain ⟨⟨g,m⟩,j⟩:=st;exact ⟨⟨g,k e (by simp) _ m⟩,j.at λo x=>k l (by simp) o x⟩
 item:=by
  intro X hP hw hK hc i c s σ H E I L st hg;subst hP hw hK;obtain ⟨hq,hi⟩:=hg;obtain ⟨v4,rv,p,hz⟩:=I.list hq;have hx:=cH hi;obtain ⟨u,hu,ru⟩:=rv.get hx;obtain ⟨⟨g,m⟩,j⟩:=st;have fe:=L e (by simp);have fi:=L l (by simp);refine wpAny_pyNext_enum_item m j p.isList (by simpa using hu) J λh' ho N hT hsz hk=>?_
  refine ⟨_,rfl,wpAny_letOwnedTupleGo_enum ho λAF HF O=>?_⟩;have Q:=cL m;have U:l<s.heap.objs.size:=by obtain ⟨_,x,_⟩:=j;exact cL x
  have AE:=I.a7.fresh (bf _)
  have I1:aD X c σ (aU H s.heap.objs.size (.ap [.int (i:Int),xs[i]])) {s with heap:=s.heap.push {cls:= .type "tuple",data:= .seq #[.int i s.toks,u]}}:=
    I.laid (λb o e=>dc _ e) (bf _) ⟨dw (show 2<=20 by decide) (by decide),[.int i s.toks,u],.cons ⟨_,rfl⟩ (.cons ru .nil),⟨_,gp _ rfl,rfl,_,rfl⟩⟩
  have Y:fT X c (aU H s.heap.objs.size (.ap [.int (i:Int),xs[i]])) e:=⟨by rw [jR (dH Q)];exact fe.1,fe.2⟩
  have Z:fT X c (aU H s.heap.objs.size (.ap [.int (i:Int),xs[i]])) l:=⟨by rw [jR (dH U)];exact fi.1,fi.2⟩
  have I2:=xP (t':=s.toks+1) I1 (λb o r B eo=>by
    refine (O.2 b r).trans ?_
    by_cases q:b=s.heap.objs.size
    . subst q;rw [gp _ rfl] at eo;rw [<-eo];exact hT
    . have HG:s.heap.get? b=some o:=by
       rcases Heap.get?_push_cases eo with ⟨z,_⟩|z
       . exact absurd z q
       . exact z
      exact hk b o r B HG) Y Z
  refine ⟨.ref s.heap.objs.size,_,I2,rfl,⟨_,_,AE,hx,rfl,rfl⟩,⟨⟨_,by simpa using HF⟩,N.at λo y=>(O.2 l J.symm).trans y⟩,λb q=>?_⟩;simp at q;rcases q with rfl|rfl
  . exact Y.1
  . exact Z.1
 done:=by
  intro X hP hw hK hc i c s σ H E I L st hg;subst hP hw hK;obtain ⟨hq,hi⟩:=hg;obtain ⟨v4,rv,p,hz⟩:=I.list hq;obtain ⟨⟨g,m⟩,j⟩:=st;have hl:=rv.length;refine wpAny_pyNext_enum_end (I.ok.hd hc) m j p.isList (by simp;omega) λh' eb=>⟨rfl,xP I (λb o r B eo=>eb b o B eo) (L e (by simp)) (L l (by simp))⟩
 self:=λ_ _ _ _ _ st h=>let ⟨⟨_,m⟩,_⟩:=st;EG m h
section
variable {X:Cx} {Z:List Expr} {n:Nat} {Y p U:Pos} {e:Expr} {f:TF}
def jN:Nat->List D->List D
 |_,[]=>[]
 |k,d::r=> .ap [.int (k:Int),d]::jN (k+1) r
theorem Zh: ∀(k:Nat) (ds:List D),(jN k ds).length=ds.length
 |_,[]=>rfl
 |k,d::r=>by simp [jN,Zh (k+1) r]
theorem Zi: ∀(k i:Nat) (ds:List D),(jN k ds)[i]?=(ds[i]?).map λd=> .ap [.int ((k+i:Nat):Int),d]
 |k,i,[]=>by simp [jN]
 |k,0,d::r=>by simp [jN]
 |k,i+1,d::r=>by
  simp only [jN,rY];rw [Zi (k+1) i r];congr 1;funext d;congr 3;omega
def YR (f:TF):Sl->aj (List D):=λa=>f a>>=λd=>match d with
 | .ah ds=> .ok (jN 0 ds)
 | .eN ds=> .ok (jN 0 ds)
 |_=> .ai
def NW (hg:Gl X "enumerate") (hm:X.mg "enumerate" =none) (h:DE X .s e f) (hs:bB [e] X.env=[(false,eval e X.env)]:=by rfl):DI X (.Tuple Z n Y) (.Call (.Name "enumerate" p) [e] [] U) (YR f):=by
 have hE:PE X e (tE X.K .s f):=by with_unfolding_all exact h
 with_unfolding_all exact (show PI X (.Tuple Z n Y) (.Call (.Name "enumerate" p) [e] [] U) (tI X.K (YR f)) from by
  rintro g s J H R I ⟨G,H0,c,ds,k,ef,q⟩;obtain ⟨d,e1,e2⟩:=jd ef
  have hA:PA X [e] (tA X.K .s λc=>f c>>=λd=> .ok [d]):=by
   have:=j7 hE zo hs;rintro ps g s J H Q I ⟨G,H0,c,ds,k,ef,q⟩;obtain ⟨d,c1,c2⟩:=jd ef;cases c2;exact this ps g s J H Q I ⟨G,H0,c,d,k,c1,λv l j r1 _=>q [v] l j (.cons r1 .nil)⟩
  refine Call_ (Wu I hg hm boot_enumerate (DY (bv (hA U g s J H (λvs l=> ∃v,vs=[v]/\al H l/\aL X.K (Sf G c J) l v d) I ⟨G,H0,c,[d],k,by show (f c>>=_)=_;rw [e1];rfl,λvs l j r1=>by obtain ⟨v,rfl,r⟩:=r1.one;exact ⟨v,rfl,j,r⟩⟩) λus j ⟨vs,l,I1,r1,v,ev,sm,rep⟩=>?_) hs rfl));subst ev;obtain ⟨u,rfl,ru⟩:=yY r1;have k1:=k.ao sm
  have E: ∀(a:Addr) (w:List V) (L:List D) (P:Hp->Prop),u= .ref a->gR X.K l a w->am X.K (Sf G c J) l w L->ds=jN 0 L->P l->(∀m,P m->gR X.K m a w)->(∀B N m,bK c J l B N m->P m)->wpAny (model X.prog X.w) X.A (call (.type "enumerate") [u]) (λv j=>wpAny (model X.prog X.w) X.A (pyIter v) (FY X g J (.Tuple Z n Y) R) X.xe j) X.xe j:=by
   intro a w L P eu hq rs eds p0 pq Aw;subst eu;obtain ⟨v4,rv,pl,hz⟩:=I1.list hq;refine call_enumerate_list pl.isList λh' he hit hsz hk=>EG he ?_
   have I2:=I1.kept (t':=j.toks) hk;refine ⟨j.heap.objs.size+1,[j.heap.objs.size+1,j.heap.objs.size],_,_,l,rfl,I2,v5 a j.heap.objs.size (j.heap.objs.size+1) w (Nat.succ_ne_self _),⟨⟨_,he⟩,hit⟩,λb hb=>?_,?_⟩
   . simp at hb;rcases hb with rfl|rfl
     . exact I1.jz (rF _) (I1.a7.fresh (rF _))
     . exact I1.jz (bf _) (I1.a7.fresh (bf _))
   . refine q _ l P sm (λi m pp=>?_) p0 Aw;have hl:=rs.length;subst eds;rw [Zh];refine ⟨λhi=>⟨pq m pp,by omega⟩,λd hd x H2 y=>?_,λhi=>⟨pq m pp,by omega⟩⟩;obtain ⟨p,x',hp,qY,rfl,rfl⟩:=y;obtain ⟨d',CU,rd⟩:=rs.get' qY;rw [Zi,CU] at hd;cases hd;exact .inr ⟨p,_,_,hp,rfl,rfl,rfl,.cons (by rw [wp];exact .int _) (.cons rd .nil)⟩
  cases d with
  |ah L=>
   cases e2;obtain ⟨a,w,rfl,O,na,rs⟩:=rep.fU;exact E a w L (λH=>H a=some (.ah w)) ru (.of O) rs.low rfl O (λm z=> .of z) λB N m fr=>fr.keep a _ O na.1
  |eN L=>
   cases e2;obtain ⟨a,w,rfl,O,rs⟩:=rep.rK;refine E a w L (λH=>rJ X.K H a w) ru O.sL rs rfl O (λm z=>z.sL) λB N m fr=>?_
   rcases O with ⟨o,eo⟩|z
   . exact .inl ⟨o,fr.keep a _ eo λow=>(k1.rL ow eo).elim⟩
   . exact .inr z
  |_=>cases e2)
end
end M
namespace M
open PySem PySem.Spec L2
open Classical in
noncomputable instance afQ:DecidableEq D:=λa b=>sC (a=b)
mutual
noncomputable def nb:D->Bool
 | .int _=>true
 | .str _=>true
 | .ap ds=>re ds
 |_=>false
noncomputable def re:List D->Bool
 | []=>true
 |d::r=>nb d&&re r
end
theorem NX: ∀ {ds:List D} {d:D},re ds=true->d∈ds->nb d=true
 |x::r,d,h,ht=>by
  simp only [re,eX] at h;rcases dk.mp ht with rfl|ht
  . exact h.1
  . exact NX h.2 ht
theorem VZ: ∀ {ds:List D},(∀d∈ds,nb d=true)->re ds=true
 | [],_=>rfl
 |x::r,h=>by simp only [re,eX];exact ⟨h x (by simp),VZ λd hd=>h d (by simp [hd])⟩
def NY (a:D):Prop:=nb a=true-> ∀b,nb b=true->(gq a b=true↔a=b)
theorem UM: ∀ {c:List D},(∀a∈c,NY a)->re c=true-> ∀bs,re bs=true->(c6 c bs=true↔c=bs)
 | [],_,_,[],_=>by simp [c6]
 | [],_,_,b::bs,_=>by simp [c6]
 |a::c,_,_,[],_=>by simp [c6]
 |a::c,h,e,b::bs,g=>by
  simp only [re,eX] at e g;simp only [c6,eX,rZ];rw [h a (by simp) e.1 b g.1,UM (λx i=>h x (by simp [i])) e.2 bs g.2]
def jgA (a:D):NY a:=by
 refine D.ind ?_ ?_ ?_ ?_ ?_ ?_ ?_ ?_ a
 . intro h;simp [nb] at h
 . intro b h;simp [nb] at h
 . intro i _ b e;cases b<;>first| (simp [nb] at e;done)|simp [Wd]
 . intro x _ b e;cases b<;>first| (simp [nb] at e;done)|simp [Wd]
 . intro ds g j b e
   cases b with
   |ap l=>
    simp;exact UM g (by simpa only [nb] using j) l (by simpa only [nb] using e)
   |int i=>simp [Wd]
   |str x=>simp [Wd]
   |_=>simp [nb] at e
 . intro ds _ h;simp [nb] at h
 . intro ds _ h;simp [nb] at h
 . exact ⟨λks ds _ h=>by simp [nb] at h,λks ds _ h=>by simp [nb] at h,λc h=>by simp [nb] at h,λks ds _ h=>by simp [nb] at h,λks ds _ h=>by simp [nb] at h,λc m ds _ h=>by simp [nb] at h,λB n h=>by simp [nb] at h,λds h=>by simp [nb] at h⟩
def NZ (c:nb a=true) (g:nb b=true):gq a b=decide (a=b):=by
 have:=jgA a c b g
 by_cases h:a=b
 . rw [decide_eq_true h];exact this.mpr h
 . rw [decide_eq_false h]
   cases e:gq a b with
   |false=>rfl
   |true=>exact absurd (this.mp e) h
def N0 (d:D):nb d=true->D.eZ d=true:=by
 refine D.ind (P:=λd=>nb d=true->D.eZ d=true) ?_ ?_ ?_ ?_ ?_ ?_ ?_ ?_ d
 . intro h;simp [nb] at h
 . intro b h;simp [nb] at h
 . intro i _;rfl
 . intro x _;rfl
 . intro ds e h;simp only [Nl];exact Vb λt a=>e t a (NX (by simpa only [nb] using h) a)
 . intro ds _ h;simp [nb] at h
 . intro ds _ h;simp [nb] at h
 . exact ⟨λks ds _ h=>by simp [nb] at h,λks ds _ h=>by simp [nb] at h,λc h=>by simp [nb] at h,λks ds _ h=>by simp [nb] at h,λks ds _ h=>by simp [nb] at h,λc g ds _ h=>by simp [nb] at h,λB j h=>by simp [nb] at h,λds h=>by simp [nb] at h⟩
end M
namespace M
open PySem PySem.Spec L2
open PyProof.Rows hiding St
def Zs (x:a9 P w H h a o): ∃ob,h.get? a=some ob:=by
 cases o with
 |ah g=>obtain ⟨_,_,_,_,e⟩:=x;exact ⟨_,e⟩
 |ap g=>obtain ⟨_,_,_,ob,e,_⟩:=x;exact ⟨_,e⟩
 |dK c=>obtain ⟨_,_,_,_,o,_,_,e,_⟩:=x;exact ⟨_,e⟩
 |dT c=>obtain ⟨_,_,_,_,o,_,_,e,_⟩:=x;exact ⟨_,e⟩
 |set S n=>obtain ⟨o,_,_,_,e,_⟩:=x;exact ⟨_,e⟩
 |ins C dx fs=>obtain ⟨_,_,_,e,_⟩:=x;exact ⟨_,e⟩
 |aw y=>exact x
 |xd fs=>obtain ⟨_,⟨_,_,_,e,_⟩,_⟩:=x;exact ⟨_,e⟩
 |DM lo i=>obtain ⟨_,_,_,e⟩:=x;exact ⟨_,e⟩
 |dn ob u=>obtain ⟨e,_⟩:=x;exact ⟨_,e⟩
 |t8 ps=>exact ⟨_,(show h.get? a=some _ from x)⟩
 |met f y=>exact ⟨_,(show h.get? a=some _ from x)⟩
 |ext j=>obtain ⟨_,z,_⟩:=x;exact z
 |memo B l=>obtain ⟨_,_,_,_,o,_,_,e,_⟩:=x;exact ⟨_,e⟩
 |fE m=>obtain ⟨_,_,⟨_,e⟩,_⟩:=x;exact ⟨_,e⟩
def kt (P:bQ) (w:World):qE:=λc H s E e g=> ∃(a C:Addr) (h:Hp) (B:Heap) (i:Value),e= .ref a/\g.os=s.os/\sE g.gens/\Un (fg c) [] H h s.heap g.heap/\eY P w h g.heap/\h a=none/\
 Heap.FlyingW B c a (.ref C) i g.heap/\(∀b,b∉fg c->((∃o,s.heap.get? b=some o)\/ ∃u,h b=some u)->B.get? b=g.heap.get? b)/\E (.ref C) none h
section
variable {P:bQ} {w:World} {K:aG} {mg:X7} {ae:Heap} {N:List Str} {i:Str} {m:Scope} {f:Addr} {cd:Value} {A:cf} {outer:List Env} {s0:aH} {H0:Hp} {E:XK}
 {pins:List (Addr×Obj)} {σ:L2.St} {H:Hp} {s:aH}
def N1 (I:aD (b8 (kt P w) P w K mg ae N i m f cd A outer s0 H0 E) pins σ H {s with heap:=h})
   (fl:Heap.FlyingW B outer a cls a0 L) (wM: ∀b o,h.get? b=some o->b∉fg (b8 (kt P w) P w K mg ae N i m f cd A outer s0 H0 E).stack->((∃o,s0.heap.get? b=some o)\/ ∃u,H b=some u)->B.get? b=some o)
   (up: ∀b o,b∈fg (b8 (kt P w) P w K mg ae N i m f cd A outer s0 H0 E).stack->h.get? b=some o->(∀vs,o.data≠ .fields vs)-> ∃O,L.get? b=some {o with slots:=O}):
   Un (fg outer) [] H0 H s0.heap L/\eY P w H L/\ ∀b,b∉fg outer->((∃o,s0.heap.get? b=some o)\/ ∃u,H b=some u)->B.get? b=L.get? b:=by
 have Q: ∀b o,s0.heap.get? b=some o->b∉fg outer->b∉fg (b8 (kt P w) P w K mg ae N i m f cd A outer s0 H0 E).stack:=λb o q g J=>by
   rcases dk.mp (I.mx b J) with e|e
   . have j:s0.heap.objs.size<=b:=by rw [e];exact I.ok.above
     exact rj _ (gT (cL q) j)
   . exact g e
 have Be: ∀b u,H b=some u->b∉fg (b8 (kt P w) P w K mg ae N i m f cd A outer s0 H0 E).stack:=λb u q J=>by
   have:=I.gV b J;rw [q] at this;cases this
 have p:Un (fg outer) [] H0 H s0.heap h:=I.ae;have FF:=I.stack
 have sub: ∀b∈fg outer,b∈fg (b8 (kt P w) P w K mg ae N i m f cd A outer s0 H0 E).stack:=λb g=>by
   show b∈fg (lE i m s0.heap.objs.size f cd::outer);unfold fg at g ⊢;rw [DP]
   split
   . exact g
   . exact dZ _ g
 have l: ∀b o,b∈fg (b8 (kt P w) P w K mg ae N i m f cd A outer s0 H0 E).stack->h.get? b=some o-> ∃O,L.get? b=some {o with slots:=O}:=λb o g q=>by
   obtain ⟨_,y,U,hd⟩:=FF.mem g;rw [q] at U;cases U;exact up b o g q hd
 refine ⟨⟨λb o q n g _=>?_,λb o q n g _=>?_,λb o q n _=>p.free b o q n (by simp),λb o q _=>?_,p.gy,p.gU,p.ig⟩,λb u q=>?_,λb g hc=>?_⟩
 . have j:=p.keep b o q n g (by simp);exact fl.1 b o (wM b o j (Q b o q g) (.inl ⟨o,q⟩))
 . obtain ⟨O,j⟩:=p.slot b o q n g (by simp);obtain ⟨sl',Y⟩:=l b _ (sub b g) j;exact ⟨sl',Y⟩
 . obtain ⟨y,j⟩:=p.there b o q (by simp)
   by_cases J:b∈fg (b8 (kt P w) P w K mg ae N i m f cd A outer s0 H0 E).stack
   . obtain ⟨O,Y⟩:=l b y J j;exact ⟨_,Y⟩
   . exact ⟨y,fl.1 b y (wM b y j J (.inl ⟨o,q⟩))⟩
 . have h0:=I.a7 b u q;refine h0.bq (λc v hc r=>?_) (λ_ z=>z) λ_ _ z=>z
   have ht: ∃u,H c=some u:=by
     rcases hc with z|z
     . rw [z];exact ⟨u,q⟩
     . exact ⟨_,z⟩
   obtain ⟨u',Z⟩:=ht;exact fl.1 c v (wM c v r (Be c u' Z) (.inr ⟨u',Z⟩))
 . have ht: ∃o,h.get? b=some o/\b∉fg (b8 (kt P w) P w K mg ae N i m f cd A outer s0 H0 E).stack:=by
     rcases hc with ⟨o,q⟩| ⟨u,q⟩
     . obtain ⟨y,j⟩:=p.there b o q (by simp);exact ⟨y,j,Q b o q g⟩
     . obtain ⟨ob,j⟩:=Zs (show a9 P w H h b u from I.a7 b u q);exact ⟨ob,j,Be b u q⟩
   obtain ⟨o,j,Y⟩:=ht;have h3:=wM b o j Y hc;rw [h3,fl.1 b o h3]
def Ws (I:aD (b8 (kt P w) P w K mg ae N i m f cd A outer s0 H0 E) pins σ H {s with heap:=h}) (c:Heap.MadeExcOf h s.heap e (.ref C) Q) (r:E (.ref C) none H):
  (b8 (kt P w) P w K mg ae N i m f cd A outer s0 H0 E).xe (.ref e) s:=by
 have v:=I.stack
 have g:h.FunFrames (PySem.W.hideAll h (fg (b8 (kt P w) P w K mg ae N i m f cd A outer s0 H0 E).stack)) (b8 (kt P w) P w K mg ae N i m f cd A outer s0 H0 E).stack:=
  PySem.W.funFrames_hide v λj y b a=>BQ.mpr ⟨j,y,a⟩
 have l:H e=none:=by
  cases q:H e with
  |none=>rfl
  |some u=>
   obtain ⟨ob,z⟩:=Zs (show a9 P w H h e u from I.a7 e u q);rw [c.new] at z;cases z
 refine wpAny_leaves_madeW I.ok.frames rfl (λb o q=>PySem.W.of_hideAll _ q) g c λU t p B Y n=>?_
 obtain ⟨J,L,O⟩:=N1 I p (λb o q a _=>PySem.W.hideAll_get _ q a) λb o a q hd=>n b o (c.keeps b o q) hd
 exact ⟨e,C,H,_,_,rfl,I.os,I.bare,J,L,l,p,O,r⟩
def Uf (I:aD (b8 (kt P w) P w K mg ae N i m f cd A outer s0 H0 E) pins σ H s) (c:kt P w (b8 (kt P w) P w K mg ae N i m f cd A outer s0 H0 E).stack H s u e v)
  (y: ∀C g,u (.ref C) none g->E (.ref C) none g):(b8 (kt P w) P w K mg ae N i m f cd A outer s0 H0 E).xe e v:=by
 obtain ⟨a,C,g,B,L,rfl,os,bare,un,l,O,Q,n,p⟩:=c;have J:=I.ny os un l bare λb j=>absurd j (by simp)
 refine wpAny_leaves_onW J.ok.frames rfl Q λh' h r=>?_
 have U:Un (fg outer) [] H0 H s0.heap s.heap:=I.ae
 obtain ⟨Y,Z,u3⟩:=N1 J h (λb o q j hc=>by
  rw [n b j ?_,q];rcases hc with ⟨o',z⟩|z
  . obtain ⟨o2,z2⟩:=U.there b o' z (by simp);exact .inl ⟨o2,z2⟩
  . exact .inr z) λb o j q hd=>r b o q hd
 exact ⟨a,C,g,B,L,rfl,J.os,J.bare,Y,Z,O,h,u3,y C g p⟩
end
abbrev i7 (K:aG) (c:Str) (C:Addr):Prop:=bL K bt c=some (some (.ref C))
def XE (K:aG) (c:Str) (H:Hp):XK:=λcls _ a=> ∃C,cls= .ref C/\i7 K c C/\al H a
def pJ (X:Cx) (c:Str) (i:L2.St) (H:Hp):Prop:= ∀a g s e h,al H g->aD X a i g s->kt X.prog X.w X.stack g s (XE X.K c g) e h->X.xe e h
def CV (X:Cx) (c:Str) (g:Hp):Prop:= ∀a i H (s:aH) h e C j,al g H->i7 X.K c C->aD X a i H {s with heap:=h}->Heap.MadeExcOf h s.heap e (.ref C) j->X.xe (.ref e) s
structure N2 (X:Cx) (c:Str) (H0:Hp):Prop where
 a:CV X c H0
 b: ∀σ H,al H0 H->pJ X c σ H
def tEX (X:Cx) (l:Lv) (f:TF):TE:=λe H Q=> ∃G h a,aB X.K G h a e H/\
 ((∃d,f a= .ok d/\ ∀v g,al H g->aL X.K (l.A G a e) g v d->l.T H v->Q v g)\/ ∃c,f a= .exc c/\pJ X c e H)
def N3 (X:Cx) (g:TC):TS:=λE h H=> ∃G e a,aB X.K G e a h H/\((∃o,g a= .ok o/\pA X.K G e a h H E o)\/ ∃c,g a= .exc c/\N2 X c e)
@[irreducible] def r0 (X:Cx) (l:Lv) (e:Expr) (f:TF):Prop:=PE X e (tEX X l f)
@[irreducible] def AM (X:Cx) (st:Stmt) (g:TC):Prop:=PS X st (N3 X g)
@[irreducible] def kv (X:Cx) (st:List Stmt) (g:TC):Prop:=gn X st (N3 X g)
noncomputable def oZ {c:Type} (r:aj c):aj c:=match r with
 | .ok a=> .ok a
 |_=> .ai
def VX {e:Type} {r:aj e} {a:e} (h:oZ r= .ok a):r= .ok a:=by
 cases r with
 |ok b=>exact h
 |exc c=>cases h
 |ai=>cases h
def KP {a:Type} {r:aj a} (h:oZ r= .exc c):False:=by
 cases r<;>cases h
def JV {e g:Type} {r:aj e} {f:e->aj g} (h:(r>>=f)= .exc c):r= .exc c\/ ∃a,r= .ok a/\f a= .exc c:=by
 cases r with
 |ok a=>exact .inr ⟨a,rfl,h⟩
 |exc d=>cases h;exact .inl rfl
 |ai=>cases h
def yR (g:TC):Sl->aj ba:=λa=>oZ (g a)
section
variable {X:Cx} {e c tg:Expr} {st:Stmt} {rest O U:List Stmt} {L:Pos} {l:Lv} {f:TF} {g Q g2:TC}
def DS.x (h:DS X st g):AM X st (yR g):=by
 with_unfolding_all exact (PS.imp h λE i H=>by
  rintro ⟨G,a,env,k,q⟩;rcases q with ⟨o,e1,q⟩| ⟨c,e1,_⟩
  . exact ⟨G,a,env,o,k,VX e1,q⟩
  . exact (KP e1).elim)
def ma.x {EH:List Stmt} (h:ma X EH g):kv X EH (yR g):=by
 with_unfolding_all exact (gn.imp h λE i H=>by
  rintro ⟨G,a,env,k,q⟩;rcases q with ⟨o,e1,q⟩| ⟨c,e1,_⟩
  . exact ⟨G,a,env,o,k,VX e1,q⟩
  . exact (KP e1).elim)
def wC (w:AM X st Q) (y:kv X rest g2):kv X (st::rest) (ax Q g2):=by
 with_unfolding_all exact (gn.imp (QK w y) λE I H=>by
  rintro ⟨G,i,h,k,q⟩;rcases q with ⟨o,m,q⟩| ⟨c,m,u⟩
  . obtain ⟨j,e1,e2⟩:=jd m;refine ⟨G,i,h,k,.inl ⟨j,e1,?_⟩⟩
    cases j with
    |nx a=>exact λn z p v=>⟨G,i,a,p,.inl ⟨o,e2,wR v q⟩⟩
    |rt B d=>cases e2;exact q
    |bk r=>cases e2;exact q
    |ct r=>cases e2;exact q
  . rcases JV m with e1| ⟨j,e1,e2⟩
    . exact ⟨G,i,h,k,.inr ⟨c,e1,u⟩⟩
    . cases j with
      |nx a=>exact ⟨G,i,h,k,.inl ⟨_,e1,λn z p v=>⟨G,i,a,p,.inr ⟨c,e2,u⟩⟩⟩⟩
      |rt B d=>cases e2
      |bk r=>cases e2
      |ct r=>cases e2)
def wU (a:AM X st Q):kv X [st] Q:=by
 with_unfolding_all exact (gn.imp (WY a) λE h H q=>q)
noncomputable def lH (t:TD) (Q g2:TC):Sl->aj ba:=λa=>match t a with
 | .ok b=>if b=true then Q a else g2 a
 |_=> .ai
def N4 (n:DT X c t) (p:kv X O Q) (r:kv X U g2):AM X (.If c O U L) (lH t Q g2):=by
 with_unfolding_all exact (PS.imp (uK n p r) λE u H=>by
  rintro ⟨G,i,a,k,q⟩;have j: ∃b,t a= .ok b/\lH t Q g2 a=if b=true then Q a else g2 a:=by
   cases e1:t a with
   |ok b=>exact ⟨b,rfl,by unfold lH;rw [e1]⟩
   |_=>
     have z:lH t Q g2 a= .ai:=by unfold lH;rw [e1]
     rcases q with ⟨o,h,_⟩| ⟨c,h,_⟩<;>(rw [z] at h;cases h)
  obtain ⟨b,e1,e2⟩:=j;rw [e2] at q;refine ⟨G,i,a,b,k,e1,λv s=>?_⟩
  cases b with
  |true=>
   rw [if_pos rfl] at q ⊢;rcases q with ⟨o,h,q⟩| ⟨c,h,m⟩
   . exact ⟨G,i,a,k.ao s,.inl ⟨o,h,wR (bK.refl s) q⟩⟩
   . exact ⟨G,i,a,k.ao s,.inr ⟨c,h,m⟩⟩
  |false=>
   rw [if_neg h8] at q ⊢;rcases q with ⟨o,h,q⟩| ⟨c,h,m⟩
   . exact ⟨G,i,a,k.ao s,.inl ⟨o,h,wR (bK.refl s) q⟩⟩
   . exact ⟨G,i,a,k.ao s,.inr ⟨c,h,m⟩⟩)
def Xz (h:r0 X l e f) (n:lK e none L.line X.env=pure false:=by rfl):AM X (.Expr e L) (x9 f):=by
 with_unfolding_all exact (PS.imp (Qb h n) λE j H=>by
  rintro ⟨G,m,a,k,q⟩;rcases q with ⟨o,i,q⟩| ⟨c,i,p⟩
  . obtain ⟨d,e1,e2⟩:=jd i;cases e2;exact ⟨G,m,a,k,.inl ⟨d,e1,λv u s r _=>q j u (k.ao s) (bK.refl s)⟩⟩
  . rcases JV i with e1| ⟨d,e1,e2⟩
    . exact ⟨G,m,a,k,.inr ⟨c,e1,p.b j H k.ae⟩⟩
    . cases e2)
end
def N5 (K:aG) (h:Bool) (n:Nat) (F:Tz):Sp:=λg H Q E=> ∃B ds,g.length=n/\am K B H g ds/\
 ((
  ∃d,F ds= .ok d/\ ∀v e,al H e->aL K (λa=>H a=none\/B a) e v d->(h=true->br H v)->Q v e)\/
  ∃c,F ds= .exc c/\ ∀C e,i7 K c C->al H e->E (.ref C) none e)
structure mM (P:bQ) (w:World) (K:aG) (mg:X7) (ae:Heap) (k:Nat) (x:Str) (ps:List Str) (fr:Bool) (F:Tz):Prop where
 ex: ∃f fd,cZ P w K mg ae (kt P w) k f fd ps (N5 K fr ps.length F)/\mg x=some (.ref f)/\l8 K (.ref f)=true/\Binds K fd ps []
def mM.mono {K:aG} (h:mM P w K mg ae j x ps c F) (e:j<=k):mM P w K mg ae k x ps c F:=
 let ⟨f,g,a,b⟩:=h.ex
 ⟨f,g,a.mono e,b⟩
def xk (n:Nat) (F:Tz) (g:TB):Sl->aj D:=λa=>match g a with
 | .ok ds=>a4 (ds.length=n) (F ds)
 |_=> .ai
section
variable {X:Cx} {k:Nat} {x:Str} {ps:List Str} {fr:Bool} {F:Tz} {e:Expr} {es:List Expr} {p pos:Pos} {g:TB}
def uw {m:L2.St} (F:cZ X.prog X.w X.K X.mg X.ae o k f q ps v) (w:aO k X.A) (y:Binds X.K q ps [])
  (I:aD X a m H s) (r:aI n c) (h:v n H Q E) (z: ∀e l,o X.stack H s E e l->X.xe e l):wpAny (model X.prog X.w) X.A (call (.ref f) c) (EP X a m Q) X.xe s:=by
 have B:c.length=ps.length:=by rw [<-r.length];exact F.len _ _ _ _ h
 have i:=y s c I.fQ (by rw [o8];exact B);rw [o8] at i;refine zP (tf (F.run X.A X.stack s H ⟨c,[]⟩ c n Q E w I.sZ i r h) λr l j=>?_)
 cases r with
 |error e=>exact z e l j
 |ok J=>
  cases J with
  |ret u=>exact I.after j
  |next=>exact l7 j
  |brk=>exact l7 j
  |cont=>exact l7 j
def mM.call (A:mM X.prog X.w X.K X.mg X.ae k x ps fr F) (hr:aO k X.A) (ha:DA X .s (e::es) g) (w:ps.length=n:=by rfl) (hg:Gl X x:=by rfl) (y:Z8 x:=by decide)
   (he:T8 X e es:=by exact jm rfl) (B:T7 X pos es:=by exact jH rfl):r0 X (if fr=true then .t else .s) (.Call (.Name x p) (e::es) [] pos) (xk n F g):=by
 subst w;obtain ⟨f,fd,U,h2,h3,Y⟩:=A.ex
 with_unfolding_all exact (by
 rintro h s Z H Q I ⟨G,H0,env,kk,q⟩
 have J: ∃ds,g env= .ok ds/\xk ps.length F g env=a4 (ds.length=ps.length) (F ds):=by
   cases e1:g env with
   |ok ds=>exact ⟨ds,rfl,by unfold xk;rw [e1]⟩
   |_=>
     have z:xk ps.length F g env= .ai:=by unfold xk;rw [e1]
     rcases q with ⟨o,a,_⟩| ⟨c,a,_⟩<;>(rw [z] at a;cases a)
 obtain ⟨ds,e1,e2⟩:=J;rw [e2] at q;refine B2 (Qf I hg h2 ?_ y);refine B3 I.ok.mod.ua h3 (bv ((show PA X (e::es) (tA X.K .s g) from ha) pos h s Z H (λL j=>al H j/\am X.K (Sf G env Z) j L ds) I ⟨G,H0,env,ds,kk,e1,λL H' i r'=>⟨i,r'⟩⟩) λus s1 ⟨L,j,m,r,l,u⟩=>⟨m.fQ,?_⟩) he B;rcases q with ⟨d,a,q⟩| ⟨c,a,th⟩
 . obtain ⟨w,e3⟩:=jv a;refine uw (E:=λ_ _ _=>False) U hr Y m r ⟨_,ds,by rw [u.length];exact w,u,.inl ⟨d,e3,λv H2 s2 r2 nt=>?_⟩⟩ λe i N=>?_
   . have r3:=r2.aQ λc z=>z.elim (λz=>kk.new c (al.free l z)) λz=>z
     cases fr with
     |true=>exact q v H2 (l.trans s2) r3 ((nt rfl).ao l)
     |false=>exact q v H2 (l.trans s2) r3 trivial
   . obtain ⟨_,_,_,_,_,_,_,_,_,_,_,_,_,z⟩:=N;exact z.elim
 . have hm:ds.length=ps.length/\F ds= .exc c:=by
     unfold a4 at a
     by_cases O:ds.length=ps.length
     . rw [if_pos O] at a;exact ⟨O,a⟩
     . rw [if_neg O] at a;cases a
   refine uw (E:=XE X.K c j) U hr Y m r ⟨_,ds,by rw [u.length];exact hm.1,u,.inr ⟨c,hm.2,λC H' hC i=>⟨C,rfl,hC,i⟩⟩⟩ λe i N=>?_
   exact th h j s1 e i l m N)
end
noncomputable def dB (e:Bool) (n:Nat) (g:TC) (ds:List D):aj D:=match g (j8 n ds) with
 | .ok (.rt a d)=>if e=true/\a=false then .ai else .ok d
 | .ok (.nx _)=> .ok .aW
 | .exc c=> .exc c
 |_=> .ai
def VE (h:dB a n g ds= .exc c):g (j8 n ds)= .exc c:=by
 unfold dB at h
 split at h
 . split at h<;>cases h
 . cases h
 . cases h;assumption
 . cases h
def Wm (h:dB i n g ds= .ok d):Meets i n g ds d:=by
 unfold dB at h
 split at h
 . rename_i a m e
   split at h
   . cases h
   . rename_i j;cases h;refine .inl ⟨a,e,λl=>?_⟩
     cases a with
     |true=>rfl
     |false=>exact absurd ⟨l,rfl⟩ j
 . rename_i c e;cases h;exact .inr ⟨rfl,c,e⟩
 . cases h
 . cases h
section
variable {P:bQ} {w:World} {K:aG} {mg:X7} {ae:Heap}
def ji6 {st:Stmt} (O:Bool) (U:nF K x x st f Y) (n:mg x=some (.ref f)) (S:aq N ps (jg st)) (o:Binds K Y ps [])
   (hb: ∀(j:Value) (A:cf) (i:List Env) (s:aH) (H:Hp) (E:XK),aO k (A.deeper (lE x (jg st) s.heap.objs.size f j))->kv (b8 (kt P w) P w K mg ae N x (jg st) f j A i s H E) (qe st) g):
   mM P w K mg ae (k+1) x ps O (dB O N.length g):=by
 refine ⟨f,Y,?_,n,U.kp,o⟩
 with_unfolding_all exact (by
 obtain ⟨oc,od,kV,doc,pm,an,j,ct,B6,rfl,lk,p⟩:=U.ex;refine Gj lk p S (λZ H Q E ⟨B,ds,hl,_⟩=>hl) λA i s H Z Q E hr h=>?_
 obtain ⟨B,ds,hl,r,q⟩:=h;refine ⟨_,hb j A i s H E hr,?_⟩;have u:=ZP (N:=N) r;rcases q with ⟨d,e,q⟩| ⟨c,e,q⟩
 . rcases Wm e with ⟨fr',z,hf⟩| ⟨rfl,env',z⟩
   . exact ⟨_,H,_,u,.inl ⟨_,z,λv l s r nt=>q v l s r λhh=>nt (hf hh)⟩⟩
   . exact ⟨_,H,_,u,.inl ⟨_,z,λpz l k' f'=>q .aW l k'.ae .aW λ_ a e=>by cases e⟩⟩
 . refine ⟨_,H,_,u,.inr ⟨c,VE e,λm σ H1 s1 h e C Z y J I hx=>Ws I hx (q C H1 J y),λσ H1 y m H2 s1 e s' L I cx=>Uf I cx λC l z=>?_⟩⟩;obtain ⟨C',e',J,s3⟩:=z;cases e'
   exact q C l J (y.trans (L.trans s3)))
end
def Yc (c:Str):Sl->aj ba:=λ_=> .exc c
def jiw {c:Array DictEntry} (h:StrKeys c): ∃l:List Str,∀x,x∉l->nsFind c x=none:=by
 have go: ∀r:List DictEntry,(∀e∈r,∃n t,e.key= .str n t)-> ∃l:List Str,∀e∈r,∀x,e.key.isStr x=true->x∈l:=by
   intro r
   induction r with
   |nil=>exact λ_=>⟨[],λ_ h=>by cases h⟩
   |cons e r i=>
    intro h;obtain ⟨l,g⟩:=i λe he=>h e (dZ _ he)
    obtain ⟨n,t,j⟩:=h e ez;refine ⟨n::l,λm he x a=>?_⟩;rcases dk.mp he with rfl|he
    . rw [j] at a;exact dk.mpr (.inl (Value.isStr_inj (.str n t) x n a (beq_self_eq_true n)))
    . exact dZ _ (g m he x a)
 obtain ⟨l,g⟩:=go c.toList λe he=>h e (Bi.mp he)
 refine ⟨l,λx a=>?_⟩;unfold nsFind findBy;rw [Array.find?_eq_none.mpr λe he=>?_]
 . rfl
 . exact λz=>a (g e (Bi.mpr he) x z)
def jgm {K:aG} (p:bQ) (M:Mod K Z h) (r:i7 K c C) (q:AN K C i a=true):
  ∃m N u v bs e w sub y j dd z B E H I n,h.get? C=some (excClassObj u v C N bs m e w sub y j dd z B E H I a)/\h.Ns N n/\n "__init__" =none/\OwnTail h i m:=by
 have g:=M.glob;obtain ⟨o,es,ep,h1,h2,J,L⟩:=g;obtain ⟨mb,O,Q⟩:=M.blt;obtain ⟨l,U⟩:=jiw J;exact (PySem.W.own_of_in (p:=p) M.ua ⟨M.glob,O,M.nolimit,Q,λx _ Y _ _ _=>(L x).symm.trans (U x Y)⟩ r q).obj
def kK (U:i7 X.K c C) (hm:X.mg c=some (.ref C)) (hq:AN X.K C bm i=true) (FB:ExcBaseFacts B i n bm)
   (ha:DE X l a f) (w: ∀h,∃d,f h= .ok d) (j:X.cF=true) (hg:Gl X c) (y:Z8 c)
   (Y:bB [a] X.env=(false,eval a X.env)::bB [] X.env)
   {o:L2.St} (I:aD X g o H s) (k:aB X.K G H0 h o H) (th:CV X c H):
   wpAny (model X.prog X.w) X.A (exec (.Raise (some (.Call (.Name c np) [a] [] Z)) none pos) X.env) (λfl z=>SP X g E fl z) X.xe s:=by
 with_unfolding_all exact (by
  obtain ⟨d,hd⟩:=w h;obtain ⟨tl,N,nm,qn,bs,m,sn,sub,ab,J,dd,k0,k1,k2,k3,k5,mN,L,hN,O,T⟩:=jgm X.prog I.ok.mod U hq
  refine wpAny_Raise_call_subT (nm:=nm) (q:=qn) (N:=N) (bs:=bs) (hdct:=m) (sn:=sn) (sub:=sub) (ab:=ab) (col:=J) (dd:=dd) (k0:=k0) (k1:=k1) (k2:=k2) (k3:=k3) (k5:=k5)
   FB (T.hasType FB.hasBase) (I.ok.hd j) (by rw [Y];rfl) O (Qf I hg hm ⟨rfl,?_⟩ y)
  rw [Y];refine Calls.evalArgs_plain (Calls.spliced_cons (bv ((show PE X a (tE X.K l f) from ha) g s o H (λv Q=>al H Q) I ⟨G,H0,h,d,k,hd,λv H' z _ _=>z⟩) λu s1 ⟨v,Q,p,r,sm⟩=>Calls.spliced_nil ?_))
  exact ⟨rfl,(by decide:1<=aV),p.bk _ _ L,hN.keeps p.bk,T.keeps p.bk,λh' e hx=>th g o Q {s1 with heap:=h'} s1.heap e C _ sm U p hx⟩)
def YS {z m r:Pos} (J:i7 X.K c C) (L:X.mg c=some (.ref C)) (N:AN X.K C O i=true) (FB:ExcBaseFacts B i p O)
    (Q:DE X l a f) (u: ∀n,∃d,f n= .ok d) (j:X.cF=true:=by rfl) (U:Gl X c:=by rfl) (v:Z8 c:=by decide)
    (Y:bB [a] X.env=(false,eval a X.env)::bB [] X.env:=by exact jm rfl):
    AM X (.Raise (some (.Call (.Name c z) [a] [] m)) none r) (Yc c):=by
 with_unfolding_all exact (by
  rintro g s y H E I ⟨G,H0,n,k,q⟩;rcases q with ⟨o,w,_⟩| ⟨c',w,Z⟩
  . cases w
  cases w
  exact kK J L N FB Q u j U v Y I k λg y H1 s1 h e C vs sm=>Z.a g y H1 s1 h e C vs (k.ae.trans sm))
def N6 (X:Cx) (g:TC):TS:=λE e H=> ∃G h a,aB X.K G h a e H/\((∃o,g a= .ok o/\pA X.K G h a e H E o)\/ ∃c,g a= .exc c/\pJ X c e H)
@[irreducible] def EI (X:Cx) (st:Stmt) (g:TC):Prop:=PS X st (N6 X g)
@[irreducible] def nK (X:Cx) (st:List Stmt) (g:TC):Prop:=gn X st (N6 X g)
section
variable {X:Cx} {e c tg:Expr} {st:Stmt} {rest B J:List Stmt} {I:Pos} {l:Lv} {f:TF} {g y g2:TC}
def pJ.ao {c:Str} (h:pJ X c i H) (s:al H j):pJ X c i j:=λa m n e o p=>h a m n e o (s.trans p)
def JL (a:EI X st y):nK X [st] y:=by
 with_unfolding_all exact (gn.imp (WY a) λE h H q=>q)
def jdG (i:Nat) {a:Pos} (hN:X.N.Nodup) (h:r0 X .s e f) (p:X.N[i]?=some x:=by rfl) (u:Loc X.env.scope x:=by exact ot rfl) (w:lK e (some (.Name x a)) I.line X.env=pure false:=by rfl)
   (L:T6 X x:=by first|exact .inl rfl|exact .inr rfl|assumption):EI X (.Assign [.Name x a] e I) (jB i f):=by
 with_unfolding_all exact (
  PS.imp (uI hN p u h w L) λE Q H=>by
   rintro ⟨G,n,j,k,q⟩;rcases q with ⟨o,m,q⟩| ⟨c,m,N⟩
   . obtain ⟨d,e1,e2⟩:=jd m;cases e2;exact ⟨G,n,j,k,.inl ⟨d,e1,λv O s r _=>q _ O ((k.ao s).mD r) (.set s λ_ _ z _=>by cases z)⟩⟩
   . rcases JV m with e1| ⟨d,e1,e2⟩
     . exact ⟨G,n,j,k,.inr ⟨c,e1,N⟩⟩
     . cases e2)
def Xy (h:r0 X l e f) (m:lK e none I.line X.env=pure false:=by rfl):EI X (.Expr e I) (x9 f):=by
 with_unfolding_all exact (PS.imp (Qb h m) λE n H=>by
  rintro ⟨G,j,a,k,q⟩;rcases q with ⟨o,i,q⟩| ⟨c,i,p⟩
  . obtain ⟨d,e1,e2⟩:=jd i;cases e2;exact ⟨G,j,a,k,.inl ⟨d,e1,λv u s r _=>q n u (k.ao s) (bK.refl s)⟩⟩
  . rcases JV i with e1| ⟨d,e1,e2⟩
    . exact ⟨G,j,a,k,.inr ⟨c,e1,p⟩⟩
    . cases e2)
def jiT (n:DT X c t) (p:nK X B y) (r:nK X J g2):EI X (.If c B J I) (lH t y g2):=by
 with_unfolding_all exact (PS.imp (uK n p r) λE u H=>by
  rintro ⟨G,i,a,k,q⟩;have j: ∃b,t a= .ok b/\lH t y g2 a=if b=true then y a else g2 a:=by
   cases e1:t a with
   |ok b=>exact ⟨b,rfl,by unfold lH;rw [e1]⟩
   |_=>
     have z:lH t y g2 a= .ai:=by unfold lH;rw [e1]
     rcases q with ⟨o,h,_⟩| ⟨c,h,_⟩<;>(rw [z] at h;cases h)
  obtain ⟨b,e1,e2⟩:=j;rw [e2] at q;refine ⟨G,i,a,b,k,e1,λv s=>?_⟩
  cases b with
  |true=>
   rw [if_pos rfl] at q ⊢;rcases q with ⟨o,h,q⟩| ⟨c,h,m⟩
   . exact ⟨G,i,a,k.ao s,.inl ⟨o,h,wR (bK.refl s) q⟩⟩
   . exact ⟨G,i,a,k.ao s,.inr ⟨c,h,m.ao s⟩⟩
  |false=>
   rw [if_neg h8] at q ⊢;rcases q with ⟨o,h,q⟩| ⟨c,h,m⟩
   . exact ⟨G,i,a,k.ao s,.inl ⟨o,h,wR (bK.refl s) q⟩⟩
   . exact ⟨G,i,a,k.ao s,.inr ⟨c,h,m.ao s⟩⟩)
end
noncomputable abbrev Cx.pK (X:Cx) (E:T9) (ps:List (Addr×Obj)):Cx:={X with xe:=E,pn:=X.pn++ps}
noncomputable abbrev Cx.held (X:Cx) (e:Addr):Cx:={X with xe:=λ_ _=>False,A:=X.A.mark (some (.ref e)),cF:=false}
section
variable {X:Cx} {Z ps:List (Addr×Obj)} {Y:L2.St} {H:Hp} {s:aH} {E:T9} {e:Addr}
def jia (ok:X.Ok):(Cx.pK X E ps).Ok:=⟨ok.mod,ok.kind,ok.glob,ok.blt,ok.above,ok.inj,ok.has,ok.sR,ok.hd,ok.frames,ok.ub,ok.ur,ok.bs,ok.o9,ok.mu,ok.mw,ok.gA,ok.ro⟩
def jcT (ok:(Cx.pK X E ps).Ok):X.Ok:=⟨ok.mod,ok.kind,ok.glob,ok.blt,ok.above,ok.inj,ok.has,ok.sR,ok.hd,ok.frames,ok.ub,ok.ur,ok.bs,ok.o9,ok.mu,ok.mw,ok.gA,ok.ro⟩
def jgb (I:aD X Z Y H s):aD (Cx.pK X E Z) [] Y H s:=⟨jia I.ok,I.os,I.bare,I.ae,I.loc,I.cell,I.free,I.dI,λp a=>I.pin p (by simpa using a),I.a7,I.len⟩
def yk (I:aD (Cx.pK X E Z) ps Y H s):aD X Z Y H s:=⟨jcT I.ok,I.os,I.bare,I.ae,I.loc,I.cell,I.free,I.dI,λp a=>I.pin p (ut _ a),I.a7,I.len⟩
def QI {D:Ends} (h:SP (Cx.pK X E Z) [] D f g):SP X Z D f g:=by
 cases f with
 |next=>obtain ⟨a,c,I,q⟩:=h;exact ⟨a,c,yk I,q⟩
 |brk=>obtain ⟨a,c,I,q⟩:=h;exact ⟨a,c,yk I,q⟩
 |cont=>obtain ⟨a,c,I,q⟩:=h;exact ⟨a,c,yk I,q⟩
 |ret u=>obtain ⟨v,a,c,I,r,q⟩:=h;exact ⟨v,a,c,yk I,r,q⟩
def jfN (ok:X.Ok):(Cx.held X e).Ok:=⟨ok.mod,ok.kind,ok.glob,ok.blt,ok.above,ok.inj,ok.has,ok.sR,(λz=>nomatch z),ok.frames,ok.ub,ok.ur,ok.bs,ok.o9,ok.mu,ok.mw,ok.gA,ok.ro⟩
def Us (I:aD X Z Y H s):aD (Cx.held X e) Z Y H s:=⟨jfN I.ok,I.os,I.bare,I.ae,I.loc,I.cell,I.free,I.dI,I.pin,I.a7,I.len⟩
def yJ (ok:X.Ok) (I:aD (Cx.held X e) Z Y H s):aD X Z Y H s:=⟨ok,I.os,I.bare,I.ae,I.loc,I.cell,I.free,I.dI,I.pin,I.a7,I.len⟩
def Xp (I:aD X Z Y H s) (hN:X.N.Nodup) (hi:X.N[i]?=some x) (hk:X.env.scope.names.lookup x=some .local)
   (h: ∀s',aD X Z (Y.set i none) H s'->Q () s'):wpAny M A (do bindName X.env x .none;unbindBehindTheSuite X.env x pos) Q E s:=by
 obtain ⟨m,hn,hl⟩:=id I.loc;have u:(X.env.scope.kind== .class|| (X.env.scope.kind== .module&&X.env.locals !=X.env.globals))=false:=by rw [I.ok.kind];rfl
 have w:i<Y.length:=by rw [I.len];exact (m9.mp hi).1
 have rz:=I.rz
 have g: ∀ {a:Addr} {J:Heap},(∃o,s.heap.get? a=some o/\H a=none)->rA a s.heap J->eY X.prog X.w H J:=λ{a J} ha r b ob e=>by
   obtain ⟨_,_,l⟩:=ha;refine (I.a7 b ob e).bq (λc w' hc q=>(r.2 c ?_).trans q) (λ_ q=>q) λ_ _ q=>q
   rintro rfl;rcases hc with rfl|hc
   . rw [l] at e;cases e
   . rw [l] at hc;cases hc
 refine wpAny_nameGoes_keeps hk hn u λJ v L r=>?_
 obtain ⟨oL,_,_,N,_⟩:=id hn;refine h _ ⟨I.ok,I.os,I.bare,⟨λb o e n O B=>?_,λb o e n O B=>?_,I.ae.free,λb o e B=>?_,I.ae.gy,I.ae.gU,I.ae.ig⟩,⟨_,L,λj y v' e1 e2 e3=>?_⟩,λy c e=>?_,I.free,I.dI,λp hp=>?_,g ⟨oL,N,I.free⟩ r,by simpa using I.len⟩
 . exact (r.2 b (dH (gT (cL e) I.ok.above))).trans (I.ae.keep b o e n O B)
 . obtain ⟨sl,e1⟩:=I.ae.slot b o e n O B;exact ⟨sl,(r.2 b (dH (gT (cL e) I.ok.above))).trans e1⟩
 . obtain ⟨o',e1⟩:=I.ae.there b o e B;exact ⟨o',(r.2 b (dH (gT (cL e) I.ok.above))).trans e1⟩
 . by_cases U:j=i
   . subst U;rw [y4 w] at e2;cases e2
   . rw [DQ (lD U)] at e2;obtain ⟨u',r',q⟩:=hl j y v' e1 e2 e3;refine ⟨u',r',?_⟩;rcases q with ⟨k,e⟩| ⟨k,c,e,z⟩
     . refine .inl ⟨k,?_⟩;have:y≠x:=λe=>U (Xd hN e1 (e▸hi))
       simp [this,e]
     . exact .inr ⟨k,c,e,z.sameBut r (rz y c e)⟩
 . obtain ⟨w',z⟩:=I.cell y c e;exact ⟨w',z.sameBut r (rz y c e)⟩
 . obtain ⟨e,n,ne,nf,d⟩:=I.pin p hp;exact ⟨(r.2 p.1 ne).trans e,n,ne,nf,d⟩
end
def N7 {B:Heap} (un:Un (fg a) [] H l h p) (J:eY P w l p) (Y: ∀b∈fg a,l b=none)
   (g: ∀b,b∉fg a->((∃o,h.get? b=some o)\/ ∃u,l b=some u)->B.get? b=p.get? b) (Z:p.FunFrames Q a) (st:B.StaysIn E) (up:p.UpToSlots E):
   Un (fg a) [] H l h E/\eY P w l E:=by
 have e: ∀b o,b∈fg a->p.get? b=some o-> ∃L,E.get? b=some {o with slots:=L}:=λb o i q=>by
   obtain ⟨_,I,y,hd⟩:=Z.mem i;rw [q] at y;cases y;exact up b o q hd
 refine ⟨⟨λb o q n i _=>?_,λb o q n i _=>?_,un.free,λb o q _=>?_,un.gy,un.gU,un.ig⟩,λb u q=>?_⟩
 . have m:=un.keep b o q n i (by simp);exact st b o ((g b i (.inl ⟨o,q⟩)).trans m)
 . obtain ⟨L,m⟩:=un.slot b o q n i (by simp);obtain ⟨N,O⟩:=e b _ i m;exact ⟨N,O⟩
 . obtain ⟨I,m⟩:=un.there b o q (by simp)
   by_cases U:b∈fg a
   . obtain ⟨L,O⟩:=e b I U m;exact ⟨_,O⟩
   . exact ⟨I,st b I ((g b U (.inl ⟨o,q⟩)).trans m)⟩
 . refine (J b u q).bq (λc v hc r=>?_) (λ_ z=>z) λ_ _ z=>z
   have ht: ∃u,l c=some u:=by
     rcases hc with z|z
     . rw [z];exact ⟨u,q⟩
     . exact ⟨_,z⟩
   obtain ⟨u',j⟩:=ht;have nm:c∉fg a:=λz=>by rw [Y c z] at j;cases j
   exact st c v ((g c nm (.inr ⟨u',j⟩)).trans r)
section
variable {K:aG} {G:VC} {u H:Hp} {env:Sl} {v:L2.St} {j:Nat}
def Zj (o:qr (env.set j .un) (v.set j g) a):qr env v a:=by
 obtain ⟨i,d,c,e⟩:=o
 by_cases z:j=i
 . subst z;obtain ⟨q,_⟩:=jE c;cases q
 . rw [jr z] at c e;exact ⟨i,d,c,e⟩
def aB.unset (k:aB K G u env v H):aB K G u (env.set j .un) (v.set j p) H:=by
 have w: ∀a,Sf G env v a->Sf G (env.set j .un) (v.set j p) a:=λa n=>⟨λo=>n.1 (Zj o),n.2⟩
 refine ⟨by simp [k.len],k.ae,k.g0,λi e h=>?_,λi e h=>?_,λi l e r a c g h3 m=>?_⟩
 . by_cases z:j=i
   . subst z;obtain ⟨q,_⟩:=jE h;cases q
   . rw [jr z] at h ⊢;obtain ⟨y,c,g⟩:=k.aa i e h;exact ⟨y,c,g.aQ w⟩
 . by_cases z:j=i
   . subst z;obtain ⟨q,_⟩:=jE h;cases q
   . rw [jr z] at h ⊢;obtain ⟨a,c,g,h3⟩:=k.aw i e h;exact ⟨a,c,g,h3.bq (λ_ _ e _=>e) w λ_ q=>q⟩
 . have B:j≠i:=by rintro rfl;obtain ⟨q,_⟩:=jE c;cases q
   have E:j≠l:=by rintro rfl;obtain ⟨q,_⟩:=jE g;cases q
   rw [jr B] at c h3;rw [jr E] at g m;exact k.sM i l e r a c g h3 m
def bK.unset:bK env v H (env.set j .un) (v.set j a) H:=⟨λ_ _ e _=>e,λb o=> .inl (Zj o),λ_ e=>e⟩
end
noncomputable def HH (j:Nat):ba->ba
 | .nx a=> .nx (a.set j .un)
 | .bk a=> .bk (a.set j .un)
 | .ct a=> .ct (a.set j .un)
 | .rt c d=> .rt c d
def lR (cs:List Str) (g:TC) (j:Nat) (e:TC):Sl->aj ba:=λa=>match g a with
 | .ok o=> .ok o
 | .exc c=>if cs.contains c=true then e (a.set j (.aa (.fL c)))>>=λo=> .ok (HH j o) else .ai
 | .ai=> .ai
def jhd (un:Un fs [] H i h j) (l:eY P w i j) (B:h.get? a=none) (g:i a=none) (r:j.get? a=some p):
   Un fs [] H (aU i a (.dn p (.aw a))) h j/\eY P w (aU i a (.dn p (.aw a))) j:=by
 refine ⟨⟨un.keep,un.slot,λb o q n E=>?_,un.there,λb y q=>?_,λb o u q=>?_,λb ps q=>?_⟩,λb u e=>?_⟩
 . rw [jR (by rintro rfl;rw [B] at q;cases q)];exact un.free b o q n E
 . have:=un.gy b y q;rw [jR (jZ this g)];exact this
 . have:=un.gU b o u q;rw [jR (jZ this g)];exact this
 . obtain ⟨m,e⟩:=un.ig b ps q;exact ⟨m,by rw [jR (jZ e g)];exact e⟩
 . by_cases z:b=a
   . subst z;rw [jy] at e;cases e;exact ⟨r,p,r⟩
   . rw [jR z] at e;exact (l b u e).bq (λc v _ q=>q) (λc q=>by rw [jR (jZ q g)];exact q) λc y q=>by rw [jR (jZ q g)];exact q
def HI (X:Cx) (a:List (Addr×Obj)) (E:Ends) (i:List ExceptHandler) (e:Value) (c:aH):Prop:=wpAny (model X.prog X.w) X.A (noteFrame e X.env) (λ_ g=>wpAny (model X.prog X.w) X.A (setFlight e none) (λ_ h=>
 wpAny (model X.prog X.w) X.A (handleBy e X.env i) (SP X a E) X.xe h) X.xe g) X.xe c
def N8 {np N pos:Pos} (cs:List Str) (j:Nat) (hN:X.N.Nodup) (U: ∀E' ps,nK (Cx.pK X E' ps) body g) (hs: ∀e,ma (Cx.held X e) (O::p) gs)
    (hT:X.mg T=some (.ref CT)) (hx: ∀c,cs.contains c=true-> ∀C,i7 X.K c C->EJ X.K (.ref C) (.ref CT)=some true)
    (hj:X.N[j]?=some n:=by rfl) (hl:X.env.scope.names.lookup n=some .local:=by rfl) (EK:X.stack=X.env::X.outer:=by rfl) (AE:X.env.frame=some X.env.locals:=by rfl) (hg:Gl X T:=by rfl) (hdb:Z8 T:=by decide):
    DS X (.Try body [.ExceptHandler (some (.Name T np)) (some n) (O::p) N] [] [] pos) (lR cs g j gs):=by
 with_unfolding_all exact (by
  rintro r s σ H E I ⟨G,H0,w,o,k,y,q⟩;refine wpAny_Try_except (nq ((U (HI X r E [.ExceptHandler (some (.Name T np)) (some n) (O::p) N]) r) [] s σ H E (jgb I) ⟨G,H0,w,k,?_⟩) (λf s1 hq=>?_) λe s1 h=>h)
  . unfold lR at y
    cases eg:g w with
    |ok o'=>rw [eg] at y;cases y;exact .inl ⟨_,rfl,q⟩
    |ai=>rw [eg] at y;cases y
    |exc c=>
     rw [eg] at y;dsimp only at y
     by_cases hc:cs.contains c=true
     . rw [if_pos hc] at y;obtain ⟨o1,e1,e2⟩:=jd y;cases e2;refine .inr ⟨c,rfl,λN9 H1 s2 e s' sm I' cx=>?_⟩;have I1:=yk I';obtain ⟨a,C,L,B,a0,rfl,os,bare,un,Y,ha,fl,Z,C',eC,hC,EL⟩:=cx;cases eC;have J:=I1.ny os un Y bare λb U=>absurd U (by simp)
       have nb:a∉fg X.stack:=λhm=>by
         obtain ⟨_,o',Oa,hd⟩:=J.stack.mem hm;obtain ⟨oe,vs,he,_,hv,_⟩:=fl.first
         rw [he] at Oa;cases Oa;exact hd _ hv
       have hn:s2.heap.get? a=none:=by
         cases z:s2.heap.get? a with
         |none=>rfl
         |some o'=>
          obtain ⟨ob,hob,_⟩:=fl.there;have:=Z a nb (.inl ⟨o',z⟩);rw [fl.2.1,hob] at this;cases this
       refine wpAny_looks_onW (by rw [<-EK];exact I.ok.frames) AE (by rw [<-EK];exact fl) λh2 held Ob=>?_
       refine wpAny_landsW held λh3 HJ Oc=>?_
       obtain ⟨f1,f2,f3,f4⟩:=HJ;obtain ⟨U3,O3⟩:=N7 un Y J.gV Z J.stack f1 (Ob.trans Oc);have I3:=I1.ny (s':={s' with heap:=h3}) os U3 O3 bare λb U=>absurd U (by simp)
       refine wpAny_handleBy_cons (codeAny_handlers_test ?_) (by intro q;cases q);refine Qf (Us I3) hg hT ?_ hdb;obtain ⟨ob3,HK,hc3⟩:=Od (Heap.TracedW.at f4);refine (PySem.W.exm_one I3.fQ (by rw [<-hc3];exact (wP HK).andThen .now) (hx c hc C hC)).here ?_;refine codeAny_handlers_suite_as ?_;refine wpAny_setFlight_noneW f1 f3 (Heap.TracedW.at f4) λh4 st4 FF4 tr4 CW=>?_
       have up4:=Ob.trans (Oc.trans λb o e n=>⟨o.slots,CW b o e n⟩);obtain ⟨U4,O4⟩:=N7 un Y J.gV Z J.stack st4 up4;obtain ⟨oe,hoe,hce⟩:=Od (Heap.TracedW.at tr4);obtain ⟨U5,O5⟩:=jhd U4 O4 hn ha hoe;have I5:=I1.ny (s':={s' with heap:=h4}) os U5 O5 bare λb U=>absurd U (by simp)
       have Cy:al H (aU L a (.dn oe (.aw a))):=(sm.trans EL).trans (al.aU ha);have rp:aL X.K (Sf G w σ) (aU L a (.dn oe (.aw a))) (.ref a) (.fL c):= .fL jy hce hC;refine yF (X:=Cx.held X a) (Us I5) hN hj (.inl hl) (v:= .ref a) rfl (λs6 I6=>?_) (.inr hl);have kS:=(k.ao Cy).mD (i:=j) rp;have fS:bK w σ H (w.set j (.aa (.fL c))) (σ.set j (some (.ref a))) (aU L a (.dn oe (.aw a))):= .set Cy λ_ _ z _=>by cases z
       refine nq ((hs a) r s6 (σ.set j (some (.ref a))) _ ⟨λl L=>E.nx (l.set j none) L,E.rt,λl L=>E.bk (l.set j none) L,λl L=>E.ct (l.set j none) L⟩ I6 ⟨G,H0,_,o1,kS,e1,?_⟩) (λf s7 h7=>?_) λ_ _ z=>l7 z
       . cases o1 with
         |nx Q=>exact λl m k3 f3=>q _ m k3.unset ((fS.trans f3).trans .unset)
         |bk Q=>exact λl m k3 f3=>q _ m k3.unset ((fS.trans f3).trans .unset)
         |ct Q=>exact λl m k3 f3=>q _ m k3.unset ((fS.trans f3).trans .unset)
         |rt fr d=>exact q
       . cases f with
         |next=>
          obtain ⟨l,m,I7,q7⟩:=h7;exact Xp (yJ I.ok I7) hN hj hl λs8 I8=>⟨_,m,I8,q7⟩
         |brk=>
          obtain ⟨l,m,I7,q7⟩:=h7;exact Xp (yJ I.ok I7) hN hj hl λs8 I8=>⟨_,m,I8,q7⟩
         |cont=>
          obtain ⟨l,m,I7,q7⟩:=h7;exact Xp (yJ I.ok I7) hN hj hl λs8 I8=>⟨_,m,I8,q7⟩
         |ret u=>
          obtain ⟨v,l,m,I7,r7,q7⟩:=h7;exact Xp (yJ I.ok I7) hN hj hl λs8 I8=>⟨v,_,m,I8,r7,q7⟩
     . rw [if_neg hc] at y;cases y
  . cases f with
    |next=>exact y6 (QI hq)
    |brk=>exact QI hq
    |cont=>exact QI hq
    |ret u=>exact QI hq)
section
open PySem.W PySem.Calls
def jf9 {K:Frag} {H:Heap->Prop} (r: ∀(M:Model) (h:Heap),K.In h->H h->Looks M h (typeOf x) t) (e:gX K t c=some true):Answers (λs=>K.In s.heap/\H s.heap) x c true:=by
 intro cp tk a w A R s u;obtain ⟨o,g,d,i,os⟩:=s;obtain ⟨⟨X,p⟩,j⟩:=u;have LT:=r (model a w) o X p;unfold gX at e;unfold ms.«isinstance.nested»;refine ay (LT.at ?_)
 by_cases q:(t==c)=true
 . rw [if_pos q]
   first
    | ((repeat lk);exact j i)
    |exact ay (sT (j i))
    |exact ay (sT (aR (j i)))
 . rw [if_neg q] at e;rw [if_neg q];obtain ⟨m,n,l⟩:=kit_cls X e;have v:Looks (model a w) o (isInstance x c) true:=LT.andThen l;refine ay (m.at ?_);rw [if_pos (by decide)]
   k_delta "plainIsInstance"
   refine ay (ay (n.at ?_));simp;refine ay (v.at ?_)
   first
    |exact aR (aR (j i))
    | (simp;first|exact aR (aR (j i))|exact aR (j i)|exact ay (aR (aR (j i))))
def Oe {K:Frag} {H:Heap->Prop} (g: ∀(M:Model) (h:Heap),K.In h->H h->Looks M h (typeOf x) t)
  (X:K.In s.heap) (p:H s.heap) (e:gX K t c=some true) (i:x≠ .builtin "__main__.__loader__#opaque") (h: ∀tk,Q (.bool true) {s with toks:=tk}):
  wpAny (model a w) A (call (.builtin "isinstance") [x,c]) Q E s:=
 call_isinstance
  (λa w A R s j=>isinstance_outer (jf9 g e 0 _ a w A R s j) i) ⟨⟨X,p⟩,h⟩
end
section
variable {X:Cx}
def jd4 (cs:List Str) {e:Value} (j: ∀u,aK cV u->u=e) (l: ∀c,cs.contains c=true-> ∀C,i7 X.K c C->gX X.K (.ref C) e=some true):
  bF X (.builtin "isinstance") (λg H Q=> ∃x c,g=[x,cV]/\aL X.K Any H x (.fL c)/\cs.contains c=true/\Q (.bl true) H):=by
 rintro i s O H g U Q I r ⟨x,c,m,n,v,q⟩;subst m;obtain ⟨u,w,rfl,y,B⟩:=kg r;cases j w B
 cases n with
 | @fL _ _ a b C o _ E J L=>
  cases (show u=cK a from y);obtain ⟨N,_⟩:=(show a9 X.prog X.w H s.heap a (.dn o (.aw b)) from I.a7 a _ E)
  exact Oe (λM h _ p=>by rw [<-J];exact (wP p).andThen .now) I.fQ N (l c v C L) (λz=>nomatch z) λtk=>⟨.bl true,H,I.tok tk,rfl,q⟩
noncomputable def AO (cs:List Str):D->aj D
 | .fL c=>if cs.contains c=true then .ok (.bl true) else .ai
 |_=> .ai
def AQ (cs:List Str) (f:TF):Sl->aj D:=λa=>f a>>=AO cs
def jde (h:AO cs a= .ok d): ∃c,a= .fL c/\cs.contains c=true/\d= .bl true:=by
 unfold AO at h
 split at h
 . split at h
   . rename_i e;cases h;exact ⟨_,rfl,e,rfl⟩
   . cases h
 . cases h
def Of (cs:List Str) (T:String) (Ty:Str) {l':Lv} {p g h:Pos} (y: ∀c,cs.contains c=true-> ∀C,i7 X.K c C->gX X.K (.ref C) (.type T)=some true) (z:DE X l e f)
   (B:Gl X "isinstance") (E:X.mg "isinstance" =none) (i:Gl X Ty) (j:X.mg Ty=none) (I:n4 Ty=some (.type T)) (J:Ty≠ "__name__" :=by decide)
   (hd:Z8 Ty:=by decide) (w:bB [e,.Name Ty g] X.env=(false,eval e X.env)::bB [.Name Ty g] X.env:=by exact jm rfl)
   (m:bB [.Name Ty g] X.env=(false,eval (.Name Ty g) X.env)::bB [] X.env:=by exact jm rfl) (n:(gz h (bB [.Name Ty g] X.env)).any (·.1)=false:=by exact jH rfl):
   DE X l' (.Call (.Name "isinstance" p) [e,.Name Ty g] [] h) (AQ cs f):=by
 with_unfolding_all exact (
  PE.imp (wl (jd4 cs (cV:= .ty T) (λu r=>r) y) B E CD (j7 z (j7 (uW (v:= .ty T) i j I rfl J hd) zo m) w) (by decide) (by decide) w n) λY H Q=>by
   rintro ⟨G,L,o,d,k,N,q⟩;obtain ⟨a,e1,e2⟩:=jd N;refine ⟨G,L,o,a,k,e1,λv O s r _=>?_⟩;obtain ⟨c,rfl,U,rfl⟩:=jde e2
   exact ⟨v,c,rfl,r.aQ Lv.bo,U,q _ O s (.bl true) (jV (K:=X.K) true).T⟩)
def vI:n4 "dict" =some (.type "dict"):=by decide+kernel
end
abbrev KF:=Int×(Sl->aj D)
section
variable {X:Cx}
def UP:kv X [] (yR cz):=ma.x jI
def x4:n4 "ValueError" =some (.type "ValueError"):=by decide+kernel
end
section
variable {X:Cx} {k:Nat} {x:Str} {ps:List Str} {fr:Bool} {F:Tz} {e:Expr} {a:List Expr} {p o:Pos} {g:TB}
def r0.s (h:r0 X .t e f):r0 X .s e f:=by
 with_unfolding_all exact (PE.imp h λj H Q=>by
  rintro ⟨G,c,env,k,q⟩;rcases q with ⟨d,e1,q⟩|z
  . exact ⟨G,c,env,k,.inl ⟨d,e1,λv i s r _=>q v i s r trivial⟩⟩
  . exact ⟨G,c,env,k,.inr z⟩)
def mM.CY (A:mM X.prog X.w X.K X.mg X.ae k x ps fr F) (hr:aO k X.A) (j:DA X .s (e::a) g) (l:ps.length=n:=by rfl) (hg:Gl X x:=by rfl) (c:Z8 x:=by decide)
  (m:T8 X e a:=by exact jm rfl) (i:T7 X o a:=by exact jH rfl):r0 X .s (.Call (.Name x p) (e::a) [] o) (xk n F g):=by
 have h:=mM.call (p:=p) A hr j l hg c m i
 cases fr with
 |true=>exact r0.s h
 |false=>exact h
def mM.aC (A:mM X.prog X.w X.K X.mg X.ae k x ps true F) (hr:aO k X.A) (i:DA X .s (e::a) g) (j:ps.length=n:=by rfl) (hg:Gl X x:=by rfl) (c:Z8 x:=by decide)
  (l:T8 X e a:=by exact jm rfl) (h:T7 X o a:=by exact jH rfl):r0 X .t (.Call (.Name x p) (e::a) [] o) (xk n F g):=
 mM.call A hr i j hg c l h
end
def xF (t:Tx) (g:TC):D->Sl->aj ba:=λd c=>match t d c with
 | .ok a=>g a
 |_=> .ai
noncomputable def nL (f:TB) (t:Tx) (g:TC):Sl->aj ba:=λa=>match f a with
 | .ok ds=>bn (xF t g) ds a
 |_=> .ai
def jgD (hp:PassesOwn (model X.prog X.w) X.A X.env X.xe) (hc:X.cF=true) (hi:DI X tg e Y) (hg:DG X tg t) (hb:kv X Z g)
   (hs: ∀x,u1 e X.env x=pure x:=by intro _;rfl):AM X (.For tg e Z [] pos) (nL Y t g):=by
 with_unfolding_all exact (
  PS.imp (Mx hp hc hi hg hb hs) λE σ H=>by
   rintro ⟨G,O,n,k,q⟩;have key: ∃ds,Y n= .ok ds/\nL Y t g n=bn (xF t g) ds n:=by
     cases e1:Y n with
     |ok ds=>exact ⟨ds,rfl,by unfold nL;rw [e1]⟩
     |_=>
       have z:nL Y t g n= .ai:=by unfold nL;rw [e1]
       rcases q with ⟨o,h,_⟩| ⟨c,h,_⟩<;>(rw [z] at h;cases h)
   obtain ⟨ds,e1,e2⟩:=key;rw [e2] at q;generalize HL:bn (xF t g) ds n=I at q;refine ⟨G,O,n,ds,k,e1,λJ H1 P sm wk p0 Aw=>?_⟩;have k1:=k.ao sm
   have w:(∃o,I= .ok o/\pA X.K G O n σ H1 E o)\/ ∃c,I= .exc c/\N2 X c O:=by
     rcases q with ⟨o,h,q⟩|z
     . exact .inl ⟨o,h,wR (bK.refl sm) q⟩
     . exact .inr z
   refine ⟨λi m v Q=>m=ds.length-i/\i<=ds.length/\ ∃a,aB X.K G O a v Q/\bK n σ H1 a v Q/\bn (xF t g) (ds.drop i) a=I,⟨ds.length,by simp,i5 _,n,k1,bK.refl (al.refl H1),by simpa using HL⟩,?_⟩;rintro i m v Q ⟨rfl,hi,a,k',f',e'⟩;obtain ⟨w1,w2,w3⟩:=wk i Q (Aw a v Q f')
   by_cases hd:i<ds.length
   . refine .inr ⟨w1 hd,?_⟩;rw [GR hd] at e'
     have B:(xF t g ds[i] a>>=λo=>match o with
       | .nx a=>bn (xF t g) (ds.drop (i+1)) a
       | .ct a=>bn (xF t g) (ds.drop (i+1)) a
       | .bk a=> .ok (.nx a)
       | .rt fr d=> .ok (.rt fr d))=I:=e'
     have HM: ∃j,t ds[i] a= .ok j/\xF t g ds[i] a=g j:=by
       cases e5:t ds[i] a with
       |ok j=>exact ⟨j,rfl,by unfold xF;rw [e5]⟩
       |_=>
         have z:xF t g ds[i] a= .ai:=by unfold xF;rw [e5]
         rw [z] at B;have r:=B.symm;rcases w with ⟨o,h,_⟩| ⟨c,h,_⟩<;>(rw [r] at h;cases h)
     obtain ⟨j,e5,e6⟩:=HM;rw [e6] at B;refine ⟨λu H2=>ds.length-(i+1)=ds.length-(i+1)/\i+1<=ds.length/\ ∃l,aB X.K G O l u H2/\bK n σ H1 l u H2/\bn (xF t g) (ds.drop (i+1)) l=I,λu H2 z=>⟨ds.length-(i+1),by omega,z⟩,λx H2 y=>?_⟩
     obtain ⟨EL,rd⟩:al Q H2/\aL X.K (Sf G a v) H2 x ds[i]:=by
       rcases w2 _ (cH hd) x H2 y with ⟨rfl,rd⟩| ⟨p,vs,es,hp,rfl,rfl,ed,Co⟩
       . exact ⟨al.refl _,f'.rep k1 rd⟩
       . refine ⟨al.aU hp,?_⟩;rw [ed];exact .ap jy ((f'.Ck k1 Co).ao (al.aU hp))
     refine ⟨G,O,a,ds[i],j,k'.ao EL,rd,e5,λCp GS GU=>⟨G,O,j,GS,?_⟩⟩;have U:=(f'.trans (bK.refl EL)).trans GU
     cases eg:g j with
     |ai=>
       rw [eg] at B;have r:=B.symm;rcases w with ⟨o,h,_⟩| ⟨c,h,_⟩<;>(rw [r] at h;cases h)
     |exc c1=>
       rw [eg] at B;have r:=B.symm;rcases w with ⟨o,h,_⟩| ⟨c,h,th⟩
       . rw [r] at h;cases h
       . rw [r] at h;cases h;exact .inr ⟨c1,rfl,th⟩
     |ok o1=>
       rw [eg] at B;refine .inl ⟨o1,rfl,?_⟩
       cases o1 with
       |nx l=>exact λu H3 L N=>⟨rfl,hd,l,L,U.trans N,B⟩
       |ct l=>exact λu H3 L N=>⟨rfl,hd,l,L,U.trans N,B⟩
       |bk l=>
         have r:=B.symm;rcases w with ⟨o,h,w⟩| ⟨c,h,_⟩
         . rw [r] at h;cases h;exact λu H3 L N=>w u H3 L (U.trans N)
         . rw [r] at h;cases h
       |rt fr dd=>
         have r:=B.symm;rcases w with ⟨o,h,w⟩| ⟨c,h,_⟩
         . rw [r] at h;cases h;exact w
         . rw [r] at h;cases h
   . have he:i=ds.length:=by omega
     refine .inl ⟨w3 (by omega),?_⟩;rw [GV (by omega)] at e';have r:=e'.symm;rcases w with ⟨o,h,w⟩| ⟨c,h,_⟩
     . rw [r] at h;cases h;exact w v Q k' f'
     . rw [r] at h;cases h)
end M
namespace M
open PySem PySem.Spec PySem.W PySem.Calls
open PyProof.Rows hiding St
open Builtin Builtin.ObjectAttr Builtin.Getset_descriptor
section
variable {prog:bQ} {w:World} {A:cf} {E:T9} {h:Heap} {g:Array GenState} {d:Drawn} {t:Nat} {os:OsState} {a C:Addr} {o:Obj} {K:Frag}
def jck (X:K.In h) (c:h.get? a=some o) (e:o.cls= .ref C) (i:mroIn K C (.type "object")=some true) (j:R (.ok (.ret (.ref C))) ⟨h,g,d,t,os⟩):
  oR (model prog w) A (.call (.builtin "getset_descriptor.__get__") ⟨[.builtin "object.__class__",.ref a,l],[]⟩) R ⟨h,g,d,t,os⟩:=by
 have m:Looks (model prog w) h (typeOf (.ref a)) (.ref C):=e▸(wP c).andThen .now;have n:=looks_mroIn (M:=model prog w) X i;refine HN KF.slot_gs.plain KF.entry_gs (KF.slot_gs.check _ _ _ _ _ _ _ _ KF.type_class (KF.args_gs _ _ _) ?_);unfold ms.«getset_descriptor.__get__» descrGet;rw [dga_obj];refine ay (aR ?_);unfold descrGetter descrCheckInstance descrNameAndClass isInstance;simp only [KF.owner_class]
 repeat lk
 refine ⟨Code.quiet_builtin _ (by decide+kernel),AR KF.entry_class ?_⟩;unfold ms.«object.__class__» shownTypeOf
 repeat lk
 exact j
def vR (X:K.In h) (e:iP K (.ref C) "__class__" =some (some (.builtin "object.__class__"))) (i:BZ K (.builtin "object.__class__") "__get__" =some (some (.builtin "getset_descriptor.__get__"))) (c:takesIn K (.builtin "object.__class__")=some true):
  Looks (model prog w) h (find (.ref a) (.ref C) "__class__") (.bind (.builtin "getset_descriptor.__get__") (.builtin "object.__class__")):=
 (D1 X e).andThen ((show Looks (model prog w) h (getOf (some (.builtin "object.__class__"))) (some (.builtin "getset_descriptor.__get__")) from looks_specialIn X i).andThen
  ((show Looks (model prog w) h (dataDescriptor? (some (.builtin "object.__class__")) (some (.builtin "getset_descriptor.__get__"))) (some (.builtin "getset_descriptor.__get__",.builtin "object.__class__")) from (looks_takesIn X c).andThen .now).andThen (Looks.tag .now)))
def ke (X:K.In h) (e:h.get? a=some o) (i:o.cls= .ref C) (j:mroIn K C (.type "object")=some true)
  (l:iP K (.ref C) "__class__" =some (some (.builtin "object.__class__"))) (m:BZ K (.builtin "object.__class__") "__get__" =some (some (.builtin "getset_descriptor.__get__"))) (c:takesIn K (.builtin "object.__class__")=some true)
  (n:Q (.done (.ret (.ref C))) ⟨h,g,d,t,os⟩):wpAny (model prog w) A (ms.«object.__getattribute__» ⟨[.ref a,.str "__class__" r],[]⟩) Q E ⟨h,g,d,t,os⟩:=by
 have p:Looks (model prog w) h (typeOf (.ref a)) (.ref C):=i▸(wP e).andThen .now;have q:=vR (prog:=prog) (w:=w) (a:=a) X l m c;refine ay (aR ?_);refine ay (aR ?_);refine ay (p.at ?_);refine ay (q.at ?_);exact ay (nA (zP (jck X e i j (aR n))))
def vS (X:K.In h) (r:h.get? a=some o) (u:o.cls= .ref C) (y:mroIn K C (.type "object")=some true) (z:subIn K (.ref C) (.type "BaseException")=some true)
  (B:iP K (.ref C) "__class__" =some (some (.builtin "object.__class__"))) (H:BZ K (.builtin "object.__class__") "__get__" =some (some (.builtin "getset_descriptor.__get__"))) (m:takesIn K (.builtin "object.__class__")=some true)
  (I:R (.ok (.ret (.ref C))) ⟨h,g,d,t,os⟩):oR (model prog w) A (.call (.builtin "BaseException.__getattribute__") ⟨[.ref a,.str "__class__" n],[]⟩) R ⟨h,g,d,t,os⟩:=by
 have J:Looks (model prog w) h (typeOf (.ref a)) (.ref C):=u▸(wP r).andThen .now;have L:Looks (model prog w) h (isSubtype (.ref C) (.type "BaseException")) true:=looks_subIn X z;refine HN F.excAttr_ValueError.ga.plain F.entry_bexc_ga ?_;have N:builtinKind "BaseException.__getattribute__" =some .slot:=by kernel_rfl
 have p:splitId "BaseException.__getattribute__" =some ("BaseException", "__getattribute__"):=by kernel_rfl
 have O:Looks (model prog w) h (isInstance (.ref a) (.type "BaseException")) true:=J.andThen L;have i:=F.args_bexc_ga (.ref a) (.str "__class__" n);simp only [checkBuiltinCall,N,p];refine ay (O.at ?_);simp
 have c:wpAny (model prog w) A.in1 (ms.«object.__getattribute__» ⟨[.ref a,.str "__class__" n],[]⟩) (λc l=>match c with| .done f=>R (.ok f) l| .again v=>v.quiet=true/\oR (model prog w) A v R l) (λe l=>R (.error e) l) ⟨h,g,d,t,os⟩:=
  ke X r u y B H m I
 cases j:Manifest.signature? "BaseException.__getattribute__" with
 |none=>exact aR c
 |some q=>
  simp only [argsOk,j] at i;have Q:=i;show wpAny _ _ (Bind.checkArgs "BaseException.__getattribute__" q ⟨[.ref a,.str "__class__" n],[]⟩) _ _ _;rw [Q];exact aR c
structure iV (K:Frag) (C:Addr):Prop where
 cls:(clsIn K C).isSome=true
 obj:mroIn K C (.type "object")=some true
 ae:subIn K (.ref C) (.type "BaseException")=some true
 aw:iP K (.ref C) "__class__" =some (some (.builtin "object.__class__"))
 get:BZ K (.builtin "object.__class__") "__get__" =some (some (.builtin "getset_descriptor.__get__"))
 tak:takesIn K (.builtin "object.__class__")=some true
 ga:iP K (.ref C) "__getattribute__" =some (some (.builtin "BaseException.__getattribute__"))
 hk:iP K (.ref C) "__getattr__" =some none
def vT (X:K.In h) (c:iV K C) (e:h.get? a=some o) (i:o.cls= .ref C) (j:Q (some (.ref C)) ⟨h,g,d,t+1,os⟩):wpAny (model prog w) A (getAttr? (.ref a) "__class__") Q E ⟨h,g,d,t,os⟩:=by
 have l:Looks (model prog w) h (typeOf (.ref a)) (.ref C):=i▸(wP e).andThen .now;have m:=D1 (M:=model prog w) X c.ga;have L2:=D1 (M:=model prog w) X c.hk;unfold getAttr? getAttrBy? getAttrBy;refine ay (wpAny_mkText (ay (wpAny_attempt (nA (ay (l.at (ay (m.at ?_))))))));unfold getAttrByItsOwn hookBefore;refine ay (L2.at ?_);refine ay (wpAny_attempt (nA ?_));show wpAny _ _ (boundAndCalled _ _ _) _ _ _;unfold boundAndCalled;rw [F.excAttr_ValueError.ga.bind (.ref a)];refine ay (aR ?_);exact zP (vS X e i c.obj c.ae c.aw c.get c.tak (aR (aR j)))
def Ug (c:iV K C):KitX K (.ref a) (.ref C) (λh=> ∃o,h.get? a=some o/\o.cls= .ref C) where
 ty:=λ_ _ _ ⟨o,j,l⟩=>l▸(wP j).andThen .now
 it:=λ_ _ X _=>by
  obtain ⟨m,i⟩:=Bl.mp c.cls;unfold clsIn at i
  split at i
  . rename_i v y p r j;intro H J L N k q;unfold isType loadHead;exact ay (wpAny_loadPart (k _ _ (X _ _ j)) (aR q))
  . cases i
 ne:=λh O dd B n U X u=>by
  obtain ⟨m,i⟩:=Bl.mp c.cls;refine Bool.eq_false_iff.mpr λq=>?_
  have e:=Value.ref.inj (beq_iff_eq.mp q);subst e;unfold clsIn at i
  split at i
  . rename_i v y p r j;have z:=(X _ _ j).symm.trans u;cases z
  . cases i
 ca:=λ{prog w A E Q s} X I k=>by
  obtain ⟨o,j,l⟩:=I;obtain ⟨h,g,d,t,os⟩:=s;exact vT X c j l k
end
section
open L2
variable {X:Cx}
def jd3 (e:List (Str×Bool)) (i: ∀u,aK cV u->u=j) (l: ∀c b,e.lookup c=some b-> ∀C,i7 X.K c C->iV X.K C/\gX X.K (.ref C) j=some b):
  bF X (.builtin "isinstance") (λg H Q=> ∃x c b,g=[x,cV]/\aL X.K Any H x (.fL c)/\e.lookup c=some b/\Q (.bl b) H):=by
 rintro h s Z H g us Q I r ⟨x,c,b,m,n,p,q⟩;subst m;obtain ⟨u,v,rfl,w,y⟩:=kg r;cases i v y
 cases n with
 | @fL _ _ a B C o _ E J L=>
  cases (show u=cK a from w);obtain ⟨N,_⟩:=(show a9 X.prog X.w H s.heap a (.dn o (.aw B)) from I.a7 a _ E)
  obtain ⟨O,U⟩:=l c b p C L;exact qv (Ug O) I.fQ ⟨o,N,J⟩ U (λz=>nomatch z) λY=>⟨.bl b,H,I.tok Y,rfl,q⟩
noncomputable def AS (a:List (Str×Bool)):D->aj D
 | .fL c=>match a.lookup c with
  |some b=> .ok (.bl b)
  |none=> .ai
 |_=> .ai
def nM (a:List (Str×Bool)) (f:TF):Sl->aj D:=λc=>f c>>=AS a
def Um (h:AS e a= .ok d): ∃c b,a= .fL c/\e.lookup c=some b/\d= .bl b:=by
 unfold AS at h
 split at h
 . split at h
   . rename_i b g;cases h;exact ⟨_,b,rfl,g,rfl⟩
   . cases h
 . cases h
def US (g:List (Str×Bool)) (Ty:Str) {l':Lv} {p h i:Pos} (B: ∀c b,g.lookup c=some b-> ∀C,i7 X.K c C->iV X.K C/\gX X.K (.ref C) (.ref j)=some b) (E:DE X l e f)
   (I:Gl X "isinstance") (J:X.mg "isinstance" =none) (m:Gl X Ty) (n:X.mg Ty=some (.ref j))
   (hd:Z8 Ty:=by decide) (z:bB [e,.Name Ty h] X.env=(false,eval e X.env)::bB [.Name Ty h] X.env:=by exact jm rfl)
   (o:bB [.Name Ty h] X.env=(false,eval (.Name Ty h) X.env)::bB [] X.env:=by exact jm rfl) (w:(gz i (bB [.Name Ty h] X.env)).any (·.1)=false:=by exact jH rfl):
   DE X l' (.Call (.Name "isinstance" p) [e,.Name Ty h] [] i) (nM g f):=by
 with_unfolding_all exact (
  PE.imp (wl (jd3 g (cV:= .ref j) (λu r=>r) B) I J CD (j7 E (j7 (Zg (v:= .ref j) m n rfl hd) zo o) z) (by decide) (by decide) z w) λY H Q=>by
   rintro ⟨G,L,y,d,k,N,q⟩;obtain ⟨a,e1,e2⟩:=jd N;refine ⟨G,L,y,a,k,e1,λv O s r _=>?_⟩;obtain ⟨c,b,rfl,U,rfl⟩:=Um e2
   exact ⟨v,c,b,rfl,r.aQ Lv.bo,U,q _ O s (.bl b) (jV (K:=X.K) b).T⟩)
end
end M
namespace M
open PySem PySem.Spec L2
open PyProof.Rows hiding St
section
variable {X:Cx}
def EM (a:List V):TA:=λ_ H Q=>Q a H
def uY:PA X [] (EM []):=zo
def zn {p:Pos} (c:Gl X T) (e:X.mg T=some (.ref C)) (g:PA X a (EM h)) (hd:Z8 T:=by decide)
  (i:bB (.Name T p::a) X.env=(false,eval (.Name T p) X.env)::bB a X.env:=by exact jm rfl):PA X (.Name T p::a) (EM (.ref C::h)):=
 j7 (Zg (v:= .ref C) c e rfl hd) g i
theorem Og: ∀ {a:List Addr} {c:List Value},aI (a.map V.ref) c->c=a.map cK
 | [],_,r=>by cases r;rfl
 |C::a,_,r=>by
  cases r with
  |cons h t=>
   cases (show _=cK C from h);rw [Og t];rfl
def jb5 (g:List (Str×Bool)) (m:List Addr) (y: ∀c b,g.lookup c=some b-> ∀C,i7 X.K c C->iV X.K C/\xc X.K (.ref C) (m.map cK)=some b):
  bF X (.builtin "isinstance") (λv H Q=> ∃x p c b,v=[x,.ref p]/\H p=some (.ap (m.map V.ref))/\aL X.K Any H x (.fL c)/\g.lookup c=some b/\Q (.bl b) H):=by
 rintro w s σ H v us Q I r ⟨x,p,c,b,B,E,J,L,q⟩;subst B;obtain ⟨u,w',rfl,N,O⟩:=kg r;cases O;obtain ⟨U,Y,⟨ob,e,i,n,hd⟩,_⟩:=I.tuple (.of E);obtain ⟨c2,Z,dt2,sl2⟩:=ob;have j:=i;have l:=hd;subst j l;have h:=Og Y;subst h
 cases J with
 | @fL _ _ a b' C o _ ha hC hn=>
  cases (show u=cK a from N);obtain ⟨ho,_⟩:=(show a9 X.prog X.w H s.heap a (.dn o (.aw b')) from I.a7 a _ ha)
  obtain ⟨ec,hx⟩:=y c b L C hn;exact PySem.W.kia_tup (Ug ec) I.fQ ⟨o,ho,hC⟩ e hx (λz=>nomatch z) λtk=>⟨.bl b,H,I.tok tk,rfl,q⟩
def Oh (h:List (Str×Bool)) (n:List Addr) {l':Lv} {p j:Pos} (B: ∀c b,h.lookup c=some b-> ∀C,i7 X.K c C->iV X.K C/\xc X.K (.ref C) (n.map cK)=some b) (E:DE X l e f)
   (I:Gl X "isinstance") (J:X.mg "isinstance" =none) (o:PE X (.Tuple i k g) (B1 (EM (n.map V.ref)))) (hsz:n.length<=aV:=by decide)
   (z:bB [e,.Tuple i k g] X.env=(false,eval e X.env)::bB [.Tuple i k g] X.env:=by exact jm rfl)
   (u:bB [.Tuple i k g] X.env=(false,eval (.Tuple i k g) X.env)::bB [] X.env:=by exact jm rfl) (w:(gz j (bB [.Tuple i k g] X.env)).any (·.1)=false:=by exact jH rfl):
   DE X l' (.Call (.Name "isinstance" p) [e,.Tuple i k g] [] j) (nM h f):=by
 with_unfolding_all exact (
  PE.imp (wl (jb5 h n B) I J CD (j7 E (j7 o zo u) z) (by decide) (by decide) z w) λZ H Q=>by
   rintro ⟨G,L,y,d,N,O,q⟩;obtain ⟨a,e1,e2⟩:=jd O;refine ⟨G,L,y,a,N,e1,λv H' s r _=>?_⟩;obtain ⟨c,b,rfl,U,rfl⟩:=Um e2;refine ⟨by simpa using hsz,λY m=>?_⟩
   exact ⟨v,Y,c,b,rfl,jy,(r.ao (al.aU m)).aQ Lv.bo,U,q _ _ (s.trans (al.aU m)) (.bl b) (jV (K:=X.K) b).T⟩)
end
section
variable {prog:bQ} {w:World} {A:cf} {E:T9} {s:aH} {J t:Addr} {i:Nat} {L:Array Value} {Q:T9}
def jc0 (a:s.heap.IsTupleIter J t i) (j:s.heap.IsTuple t L) (l:L[i]?=some x) (m: ∀e,e.IsTupleIter J t (i+1)->rA J s.heap e->Q x {s with heap:=e}):
  wpAny (model prog w) A (EN (.ref J)) Q E s:=by
 obtain ⟨o,c,n,hd⟩:=id a;obtain ⟨p,g,_,q,h⟩:=j;unfold EN
 refine ay (Bo a.typeIs EO (tq EO a.typeIs F.entry_tuple_iterator_next
  (show wpAny _ _ (field (.ref J) 0>>=_) _ _ s from ay (Ae c hd rfl (show wpAny _ _ (if (cK t==oP)=true then _ else _) _ _ s from ?_))) (F.args_tuple_iterator_next_1 _)))
 rw [if_neg (show¬((cK t==oP)=true) from h8)];refine (show wpAny _ _ (field (.ref J) 1>>=_) _ _ s from ay (Ae c hd rfl (show wpAny _ _ (seqItems? (.ref t)>>=_) _ _ s from ay (Bc g h ?_))));simp only [Bn,l];exact ay (EA c hd (by simp) (aR ⟨x,rfl,aR (m _ ⟨_,Hy _ c (Obj.isFreed_of_fields (EB hd _)),(Obj.cls_mapFields ..).trans n,by rw [EB hd];simp [rawInt]⟩ (Bx ..))⟩))
def Oi (l:A.handled=none) (a:s.heap.IsTupleIter J t i) (m:s.heap.IsTuple t L) (n:L[i]?=none)
  (p: ∀c e,Heap.ExtBut J s.heap c->(∃o,c.get? e=some o/\o.cls= .type "StopIteration")->E (.ref e) {s with heap:=c}):
  wpAny (model prog w) A (EN (.ref J)) Q E s:=by
 obtain ⟨o,g,q,hd⟩:=id a;obtain ⟨r,h,_,u,j⟩:=m;unfold EN
 refine ay (Bo a.typeIs EO (tq EO a.typeIs F.entry_tuple_iterator_next
  (show wpAny _ _ (field (.ref J) 0>>=_) _ _ s from ay (Ae g hd rfl (show wpAny _ _ (if (cK t==oP)=true then _ else _) _ _ s from ?_))) (F.args_tuple_iterator_next_1 _)))
 rw [if_neg (show¬((cK t==oP)=true) from h8)];refine (show wpAny _ _ (field (.ref J) 1>>=_) _ _ s from ay (Ae g hd rfl (show wpAny _ _ (seqItems? (.ref t)>>=_) _ _ s from ay (Bc h j ?_))));simp only [Bn,n];refine ay (sT (ay (EA g hd (by simp) (show wpAny _ _ (newExc (.type "StopIteration") []>>=_) _ _ _ from ay ?_))));simp only [newExc,newTuple];refine ay (rE (ay (wpAny_of_eq (by first|rfl| (simp;rfl)) (rE ?_ (by size_fits)))) (by size_fits));simp only [raiseNew];refine ay (wpAny_handled ?_);rw [show A.in1.handled=none from l];exact ay (aR (wpAny_throw (p _ _ (((Bx ..).extBut.push _).push _) ⟨_,gp _ rfl,rfl⟩)))
def jbD (p:A.handled=none) (J l:Addr) (g:l≠J) (L:Array Value):Draws prog w A J [J,l] L.size (λi v=>L[i]?=some v) (λi h=>h.IsTupleIter J l i/\h.IsTuple l L) where
 live:=λ_ _ st=>let ⟨o,j,_⟩:=st.1;⟨o,j⟩
 frame:=λ_ _ _ st m=>⟨st.1.at λo e=>m J (by simp) o e,let ⟨o,j,r⟩:=st.2;⟨o,m l (by simp) o j,r⟩⟩
 item:=λi s Q E n st q=>jc0 st.1 st.2 (x:=L[i]) (by simp [n]) λu a c=>q _ u s.toks (by simp [n]) ⟨a,st.2.extBut c.extBut g⟩ c
 done:=λs Q E st y=>Oi p st.1 st.2 (by simp) y
def jdN (g:A.handled=none) (J l:Addr) (L:Array Value) (i:Nat) (p:L.size<=i):Draws prog w A J [J,l] i (λ_ _=>True) (λj h=>j=i/\h.IsTupleIter J l j/\h.IsTuple l L) where
 live:=λ_ _ st=>let ⟨o,a,_⟩:=st.2.1;⟨o,a⟩
 frame:=λ_ _ _ st c=>⟨st.1,st.2.1.at λo e=>c J (by simp) o e,let ⟨o,a,r⟩:=st.2.2;⟨o,c l (by simp) o a,r⟩⟩
 item:=λj s Q E m st q=>absurd st.1 (dH m)
 done:=λs Q E st n=>Oi g st.2.1 st.2.2 (by simp;omega) n
end
open AutoSeq1 (wpAny_loadPart') in
theorem jbw (l:Addr) (a:Array Value) (n:Nat) (i:Option Addr) (p:Array (Option Value)):
  PySem.Meets (ms.«enumerate.__new__» ⟨[.type "enumerate",.ref l],[]⟩) (λ_ R s=>s.heap.get? l=some {cls:= .type "tuple",dict:=i,data:= .seq a n,slots:=p}/\
    R (.ok (.ret (.ref (s.heap.push {cls:= .type "tuple_iterator",data:= .fields #[.ref l,.int 0 0]}).objs.size)))
     {s with heap:=(s.heap.push {cls:= .type "tuple_iterator",data:= .fields #[.ref l,.int 0 0]}).push {cls:= .type "enumerate",data:= .fields #[.none,.bool false,.ref s.heap.objs.size,rawInt 0,.none,.none]}}):=
 .of_wp λj w A R s h=>by
  obtain ⟨q,g,d,tk,os⟩:=s;obtain ⟨e,h⟩:=h;have m:=sub_enumerate;have o:Heap.IsTuple (Shared.heap ⟨q,g,d,tk,os⟩) l a:=⟨_,e,rfl,n,rfl⟩
  wp_walk using Cq e
  refine wpAny_stack_any λst=>aR ?_
  split
  . rename_i c _ _ _ _ _;cases (c==yS "enumerate")<;>(wp_walk using Cq e,wpAny_pyIter_tuple o;exact ⟨_,rfl,h⟩)
  . wp_walk using Cq e,wpAny_pyIter_tuple o
    exact ⟨_,rfl,h⟩
section
variable {prog:bQ} {w:World} {A:cf} {E:T9} {s:aH}
def vG (r:s.heap.IsTuple l a)
  (h: ∀e,IsEnum e (s.heap.objs.size+1) s.heap.objs.size 0 .none->e.IsTupleIter s.heap.objs.size l 0->(∀b o,s.heap.get? b=some o->e.get? b=some o)->Q (.ref (s.heap.objs.size+1)) {s with heap:=e}):
  wpAny (model prog w) A (call (.type "enumerate") [.ref l]) Q E s:=by
 obtain ⟨⟨c,i,dt,u⟩,v,y,n,hd⟩:=r;cases (show c= .type "tuple" from y);cases (show dt= .seq a n from hd);refine callType_new F.called_enumerate (by decide) (F.typeCall_enumerate_1 _) (F.newCall_enumerate_1 _) (λobj=>F.args_object_init_2 obj _) F.entry_enumerate_new (jbw l a n i u) ⟨v,?_⟩;generalize j:s.heap.push {cls:= .type "tuple_iterator",data:= .fields #[.ref l,.int 0 0]}=g;have q:g.objs.size=s.heap.objs.size+1:=by rw [<-j];exact Bk ..
 have m:g.get? s.heap.objs.size=some {cls:= .type "tuple_iterator",data:= .fields #[.ref l,.int 0 0]}:=by rw [<-j];exact gp _ rfl
 have z: ∀b o,s.heap.get? b=some o->g.get? b=some o:=λb o x=>by rw [<-j];exact dc _ x
 have p:=gp g (o:={cls:= .type "enumerate",data:= .fields #[.none,.bool false,.ref s.heap.objs.size,rawInt 0,.none,.none]}) rfl;rw [q] at p;rw [q];exact ⟨⟨_,p,rfl⟩,h _ p ⟨_,dc _ m,rfl,rfl⟩ λb o x=>dc _ (z b o x)⟩
end
def HP (K:aG) (a:Addr) (c:List V):It:=⟨λi H=>i9 K H a c/\i<c.length,λi H v e=> ∃p x,H p=none/\c[i]?=some x/\v= .ref p/\e=aU H p (.ap [.int (i:Int),x]),λi H=>i9 K H a c/\c.length<=i⟩
def km {K:aG} (a g e:Addr) (xs:List V) (B:e≠g) (hai:a≠g) (hae:a≠e):Turn P w K (.Tuple elts n pos) (HP K a xs) [e,g] e (λi h=>(∃j,IsEnum h e g (i:Int) j)/\h.IsTupleIter g a i) where
 mem:=by simp
 obj:=λi h st b r=>by
  obtain ⟨⟨j,q⟩,o,ho,hc,hd⟩:=st;simp at r;rcases r with rfl|rfl
  . exact ⟨_,q,λv z=>by cases z⟩
  . exact ⟨o,ho,λv z=>by rw [hd] at z;cases z⟩
 keep:=λi h h' st k=>by
  obtain ⟨⟨j,q⟩,l⟩:=st;exact ⟨⟨j,k e (by simp) _ q⟩,l.at λo x=>k g (by simp) o x⟩
 item:=by
  intro X hP hw hK hc i c s σ H E I N st hg;subst hP hw hK;obtain ⟨hq,hi⟩:=hg;obtain ⟨m,rv,p,hz⟩:=I.tuple hq;have hx:=cH hi;obtain ⟨u,hu,ru⟩:=rv.get hx;obtain ⟨⟨j,q⟩,l⟩:=st;have fe:=N e (by simp);have fi:=N g (by simp);have hl:=rv.length;refine wpAny_pyNext_enum_itemD (jbD (A:=X.A.in1) (I.ok.hd hc) g a hai m.toArray) q ⟨l,show s.heap.IsTuple a m.toArray from p⟩ (by simp;omega) B (by simp [B,lD hae]) λx h' tk px ho st' hT hsz hk=>?_
  have hxu:x=u:=by
    have:m.toArray[i]?=some u:=by simpa using hu
    rw [this] at px;exact (ie px).symm
  subst hxu;refine ⟨_,rfl,wpAny_letOwnedTupleGo_enum ho λAF HF O=>?_⟩;have Q:=cL q;have U:g<s.heap.objs.size:=by obtain ⟨_,x,_⟩:=l;exact cL x
  have AE:=I.a7.fresh (bf _)
  have I1:aD X c σ (aU H s.heap.objs.size (.ap [.int (i:Int),xs[i]])) {s with heap:=s.heap.push {cls:= .type "tuple",data:= .seq #[.int i tk,x]}}:=
    I.laid (λb o e=>dc _ e) (bf _) ⟨dw (show 2<=20 by decide) (by decide),[.int i tk,x],.cons ⟨_,rfl⟩ (.cons ru .nil),⟨_,gp _ rfl,rfl,_,rfl⟩⟩
  have Y:fT X c (aU H s.heap.objs.size (.ap [.int (i:Int),xs[i]])) e:=⟨by rw [jR (dH Q)];exact fe.1,fe.2⟩
  have Z:fT X c (aU H s.heap.objs.size (.ap [.int (i:Int),xs[i]])) g:=⟨by rw [jR (dH U)];exact fi.1,fi.2⟩
  have I2:=xP (t':=tk+1) I1 (λb o J L eo=>by
    refine (O.2 b J).trans ?_
    by_cases r:b=s.heap.objs.size
    . subst r;rw [gp _ rfl] at eo;rw [<-eo];exact hT
    . have HG:s.heap.get? b=some o:=by
       rcases Heap.get?_push_cases eo with ⟨z,_⟩|z
       . exact absurd z r
       . exact z
      exact hk b o J L HG) Y Z
  refine ⟨.ref s.heap.objs.size,_,I2,rfl,⟨_,_,AE,hx,rfl,rfl⟩,⟨⟨_,by simpa using HF⟩,st'.1.at λo y=>(O.2 g B.symm).trans y⟩,λb r=>?_⟩;simp at r;rcases r with rfl|rfl
  . exact Y.1
  . exact Z.1
 done:=by
  intro X hP hw hK hc i c s σ H E I N st hg;subst hP hw hK;obtain ⟨hq,hi⟩:=hg;obtain ⟨m,rv,p,hz⟩:=I.tuple hq;obtain ⟨⟨j,q⟩,l⟩:=st;have hl:=rv.length;refine wpAny_pyNext_enum_endD (jdN (A:=X.A.in1) (I.ok.hd hc) g a m.toArray i (by simp;omega)) q ⟨rfl,l,show s.heap.IsTuple a m.toArray from p⟩ λh' eb=>⟨rfl,xP I (λb o J L eo=>eb b o L eo) (N e (by simp)) (N g (by simp))⟩
 self:=λ_ _ _ _ _ st h=>let ⟨⟨_,q⟩,_⟩:=st;EG q h
section
variable {X:Cx} {z:List Expr} {n:Nat} {j p pos:Pos} {e:Expr} {f:TF}
def CZ (f:TF):Sl->aj (List D):=λa=>f a>>=λd=>match d with
 | .ap ds=> .ok (jN 0 ds)
 |_=> .ai
def jdR (hg:Gl X "enumerate") (hm:X.mg "enumerate" =none) (h:DE X .s e f) (hs:bB [e] X.env=[(false,eval e X.env)]:=by rfl):DI X (.Tuple z n j) (.Call (.Name "enumerate" p) [e] [] pos) (CZ f):=by
 have hE:PE X e (tE X.K .s f):=by with_unfolding_all exact h
 with_unfolding_all exact (show PI X (.Tuple z n j) (.Call (.Name "enumerate" p) [e] [] pos) (tI X.K (CZ f)) from by
  rintro l s E H R I ⟨G,L,c,ds,k,N,q⟩;obtain ⟨d,e1,e2⟩:=jd N
  have hA:PA X [e] (tA X.K .s λc=>f c>>=λd=> .ok [d]):=by
   have:=j7 hE zo hs;rintro ps l s E H Q I ⟨G,L,c,ds,k,N,q⟩;obtain ⟨d,c1,c2⟩:=jd N;cases c2;exact this ps l s E H Q I ⟨G,L,c,d,k,c1,λv m g B _=>q [v] m g (.cons B .nil)⟩
  refine Call_ (Wu I hg hm boot_enumerate (DY (bv (hA pos l s E H (λO m=> ∃v,O=[v]/\al H m/\aL X.K (Sf G c E) m v d) I ⟨G,L,c,[d],k,by show (f c>>=_)=_;rw [e1];rfl,λO m g B=>by obtain ⟨v,rfl,r⟩:=B.one;exact ⟨v,rfl,g,r⟩⟩) λus g ⟨O,m,w,B,v,ev,sm,rep⟩=>?_) hs rfl));subst ev;obtain ⟨u,rfl,ru⟩:=yY B;have k1:=k.ao sm
  cases d with
  |ap es=>
   cases e2;obtain ⟨a,U,rfl,J,rs⟩:=rep.ik;cases ru;have hq:i9 X.K m a U:= .inl (.of J);obtain ⟨Y,rv,pl,hz⟩:=w.tuple hq;have de:a<g.heap.objs.size:=by obtain ⟨o,ho,_⟩:=pl;exact cL ho
   refine vG (show g.heap.IsTuple a Y.toArray from pl) λh' he Z hk=>EG he ?_
   have I2:=w.kept (t':=g.toks) hk;refine ⟨g.heap.objs.size+1,[g.heap.objs.size+1,g.heap.objs.size],_,_,m,rfl,I2,km a g.heap.objs.size (g.heap.objs.size+1) U (Nat.succ_ne_self _) (dH de) (dH (EQ de)),⟨⟨_,he⟩,Z⟩,λb hb=>?_,?_⟩
   . simp at hb;rcases hb with rfl|rfl
     . exact w.jz (rF _) (w.a7.fresh (rF _))
     . exact w.jz (bf _) (w.a7.fresh (bf _))
   . refine q _ m (λH=>H a=some (.ap U)) sm (λi H' pp=>?_) J λenv' pz H' fr=>fr.keep a _ J λow=>(k1.rL ow J).elim
     have hl:=rs.length;rw [Zh];refine ⟨λhi=>⟨.inl (.of pp),by omega⟩,λd hd x H2 y=>?_,λhi=>⟨.inl (.of pp),by omega⟩⟩;obtain ⟨p,x',hp,qY,rfl,rfl⟩:=y;obtain ⟨d',CU,rd⟩:=rs.get' qY;rw [Zi,CU] at hd;cases hd;exact .inr ⟨p,_,_,hp,rfl,rfl,rfl,.cons (by rw [wp];exact .int _) (.cons rd .nil)⟩
  |_=>cases e2)
end
section
variable {X:Cx} {K:aG}
def oG:D->D->aj D
 |a,.aW=> .ok (.bl (!a.md))
 |_,_=> .ai
def Oj:gJ K (λx y H Q=>y= .aW/\Q (.bl (!decide (x= .aW))) H) oG:=by
 intro x y H a b d Q c g e q;unfold oG at e
 split at e
 . cases e;refine ⟨g.tD,?_⟩;rw [Yb c];exact q _ (jV _)
 . cases e
def jh9:dG X (iD .Is) (λx y H Q=> ∃a b,x= .bl a/\y= .bl b/\Q (.bl (a==b)) H):=by
 rintro c s j H x y v u Q I e g ⟨a,b,h,i,q⟩;subst h i;cases e;cases g;exact wpAny_is_plain (by cases a<;>cases b<;>rfl) ⟨.bl _,H,I,by cases a<;>cases b<;>rfl,q⟩
noncomputable def HQ:D->D->aj D
 | .bl a,.bl b=> .ok (.bl (a==b))
 |_,_=> .ai
def jie:gJ K (λx y H Q=> ∃a b,x= .bl a/\y= .bl b/\Q (.bl (a==b)) H) HQ:=by
 intro x y H a b d Q c g e q;unfold HQ at e
 split at e
 . cases e;cases c.tz;cases g.tz;exact ⟨_,_,rfl,rfl,q _ (jV _)⟩
 . cases e
end
def zW {a:Type} {v:a} {l:List (Str×a)}:i4 c ((c,v)::l)=some v:=by simp [i4]
def zV {a:Type} {v:a} {l:List (Str×a)} (h:c≠d):i4 c ((d,v)::l)=i4 c l:=by
 have:(c==d)=false:=by simpa using h
 simp [i4,this]
inductive afR where
 |nx (env:Sl)|rt (b:Bool) (env:Sl)
abbrev At (c:L2.St) (i:Nat) (a:Addr):Prop:=c[i]?=some (some (V.ref a))
abbrev FI:=List D->List aS->List D->aj (Bool×List aS×List D)
section
variable {X:Cx}
def C0:D->Option Int->Option Int->aj D
 | .eN ds,lo,a=> .ok (.ah (cutD ds lo a))
 |_,_,_=> .ai
def YW {lo:Option Expr} (w:DE X .s e f) (y:DO X lo B) (E:DO X I J):
   DE X .t (.Subscript e (.Slice lo I none p2) L) (zf f B J C0):=by
 with_unfolding_all exact (
  PE.imp (VS oT w y E) λσ H Q=>by
   rintro ⟨G,j,g,d,k,h,q⟩;obtain ⟨a,e1,h⟩:=jd h;obtain ⟨l,e2,h⟩:=jd h;obtain ⟨m,N,u⟩:=jd h;refine ⟨G,j,g,a,k,e1,λx H1 n O _=>⟨G,j,g,l,k.ao n,e2,λH2 o=>⟨G,j,g,m,(k.ao n).ao o,N,λU v=>?_⟩⟩⟩;have r:=n.trans (o.trans v)
   cases a with
   |eN ds=>
    cases u;obtain ⟨b,Y,rfl,Z,rs⟩:=((O.ao o).ao v).rK;refine ⟨b,Y,rfl,Z.sL,λp i=>q _ _ (r.trans (al.aU i)) (.ah jy (k.new p (al.free r i)) (((Vh rs).laid i).aQ λc z=>⟨z.1,z.2⟩)) ((qA (al.refl U) i).ao r)⟩
   |_=>cases u)
def Ol (i j:Int):Prop:=0<j/\j<2^200
def jcQ:dG X (my .FloorDiv) (rI Ol λi j=> .int (i/j)):=BS λi j _ _ _ _ _ a q=>by
 have e:=a.1;have g:=a.2;refine floordiv_int (by omega) (by rw [F4 i (by omega)];exact q) (.inl (PyProof.noPylong_of_log2 ?_));have c:j.natAbs<2^200:=by omega
 exact gT ((Nat.log2_lt (by omega)).mpr c) (by omega)
abbrev AT:Int->Int->Prop:=λ_ j=>0<j/\j<2^200
def jcW {K:aG}:gJ K (rI Ol λi j=> .int (i/j)) (iG AT λi j=> .int (i/j)):=rS (λ_ _ h=>h) λi j=>oW _
abbrev pL:=iG AT λi j=> .int (i/j)
end
section
variable {X:Cx} {e:Expr}
def BW:D->Bool
 | .aW=>true
 | .bl _=>true
 | .int _=>true
 |_=>false
end
noncomputable def nO (f:Str):List Str->List D->Option D
 |n::a,d::ds=>if n=f then some d else nO f a ds
 |_,_=>none
def kM (f:Str):List Str->List Str
 | []=>[f]
 |n::a=>if n=f then n::a else n::kM f a
def kN (f:Str) (d:D):List Str->List D->List D
 | [],_=>[d]
 |n::c,e::a=>if n=f then d::a else e::kN f d c a
 |_::_,[]=>[]
theorem QT {K:aG}: ∀ {fs:List (Str×V)} {ds:List D} {d:D},am K A H (fs.map (·.2)) ds->nO f (fs.map (·.1)) ds=some d-> ∃v,fs.lookup f=some v/\aL K A H v d
 | [],_,_,_,h=>by simp [nO] at h
 | (n,v)::r,_,d,.cons q t,h=>by
  by_cases e:n=f
  . subst e;simp only [fF,nO,if_pos] at h;cases h;exact ⟨v,by simp [i4],q⟩
  . simp only [fF,nO,if_neg e] at h;obtain ⟨a,c,g⟩:=QT t h;exact ⟨a,by rw [rN];simp [show (f==n)=false from by simpa using λz=>e z.symm,c],g⟩
theorem VJ {K:aG} (a:aL K A H v d): ∀ {fs:List (Str×V)} {ds:List D},am K A H (fs.map (·.2)) ds->(eG f v fs).map (·.1)=kM f (fs.map (·.1))/\am K A H ((eG f v fs).map (·.2)) (kN f d (fs.map (·.1)) ds)
 | [],_,.nil=>⟨rfl,.cons a .nil⟩
 | (n,u)::r,_,.cons q t=>by
  by_cases e:n=f
  . simp only [eG,fF,kM,kN,if_pos e];exact ⟨trivial,.cons a t⟩
  . simp only [eG,fF,kM,kN,if_neg e];obtain ⟨c,g⟩:=VJ a t;exact ⟨by rw [c],.cons q g⟩
theorem JC: ∀ {fs:List (Str×V)},(fs.map (·.1)).contains f=false->fs.lookup f=none
 | [],_=>rfl
 | (n,u)::r,h=>by
  simp only [fF,ER,Bool.or_eq_false_iff] at h;rw [rN];simp [h.1,JC h.2]
def aL.objE {K:aG} (r:aL K A H v (.obj c ns ds)): ∃a C dx fs,v= .ref a/\H a=some (.ins C dx fs)/\A a/\bL K bt c=some (some (.ref C))/\fs.map (·.1)=ns/\am K (λc=>A c/\c≠a) H (fs.map (·.2)) ds:=by
 cases r with
 |obj e a g h r=>subst h;exact ⟨_,_,_,_,rfl,e,a,g.1,g.2,r⟩
def u7 {K:aG} {i:Nat} (k:aB K G q g h H) (l:g[i]?=some (.aw (.obj c m ds))):
  ∃a C dx fs,h[i]?=some (some (.ref a))/\H a=some (.ins C dx fs)/\bL K bt c=some (some (.ref C))/\fs.map (·.1)=m/\am K (Sf G g h) H (fs.map (·.2)) ds:=by
 obtain ⟨a,n,_,o⟩:=k.aw i _ l
 cases o with
 |obj e j p r=>subst p;exact ⟨a,_,_,_,n,e,j.1,j.2,r⟩
structure lS (K:aG) (c f:Str):Prop where
 ex: ∃C,bL K bt c=some (some (.ref C))/\fG K C/\eH K C f
def lS.at {K:aG} (h:lS K c f) (e:bL K bt c=some (some (.ref C))):fG K C/\eH K C f:=by
 obtain ⟨i,a,g⟩:=h.ex;rw [e] at a;cases a;exact g
def r6 (c f:Str):D->aj D
 | .obj a e ds=>a4 (a=c) (match nO f e ds with
  |some d=> .ok d
  |none=> .ai)
 |_=> .ai
def UE (h:r6 c f o= .ok d): ∃a ds,o= .obj c a ds/\nO f a ds=some d:=by
 unfold r6 at h
 split at h
 . rename_i j a ds;obtain ⟨i,g⟩:=jv h;subst i
   cases e:nO f a ds with
   |none=>rw [e] at g;cases g
   |some l=>rw [e] at g;cases g;exact ⟨a,ds,rfl,e⟩
 . cases h
def fY (c f:Str) (e:TF):Sl->aj D:=λa=>e a>>=r6 c f
section
variable {X:Cx} {e:Expr} {fo:TF} {h p:Pos} {c f:Str}
def wF (i:Nat) {x:Str} (l:lS X.K c f) (hN:X.N[i]?=some x:=by rfl) (E:iM X.env.scope x:=by exact jT rfl)
   (hd:Z8 x:=by decide) (m:X8 x:=by decide)
   (I:mz (.Name x p) f X.env (eval (.Name x p) X.env)=eval (.Name x p) X.env:=by rfl):DE X .s (.Attribute (.Name x p) f h) (fY c f (i6 i)):=by
 with_unfolding_all exact (
  PE.imp (SR (xZ hN E hd m) I) λO H Q=>by
   rintro ⟨G,U,J,d,k,L,q⟩;obtain ⟨o,e1,e2⟩:=jd L;obtain ⟨Y,ds,rfl,B⟩:=UE e2;rcases uD e1 with z|z
   . obtain ⟨v,n,N⟩:=k.aa i _ z;obtain ⟨a,C,dx,fs,rfl,r,_,g,u,w⟩:=N.objE;subst u;obtain ⟨j,y,g2⟩:=QT w B;exact ⟨_,n,a,C,dx,fs,j,rfl,r,(l.at g).1,(l.at g).2,y,q j H (al.refl H) (g2.aQ λ_ z=>z.1) trivial⟩
   . obtain ⟨a,C,dx,fs,n,r,g,u,w⟩:=u7 k z;subst u;obtain ⟨j,y,g2⟩:=QT w B
     exact ⟨_,n,a,C,dx,fs,j,rfl,r,(l.at g).1,(l.at g).2,y,q j H (al.refl H) g2 trivial⟩)
end
inductive eR where
 |nx (env:Sl)|rt (d:D) (env:Sl)
def HR (K:aG) (G:VC) (j:Hp) (i:Nat) (a:Addr) (h:Sl) (l:L2.St) (H:Hp) (E:Ends):eR->Prop
 | .nx c=> ∀e g,aB K G j c e g->At e i a->bK h l H c e g->E.nx e g
 | .rt d c=> ∀v e g,aB K G j c e g->At e i a->bK h l H c e g->aL K (Sf G c e) g v d->E.rt v g
def Om (K:aG) (i:Nat) (g:Sl->aj eR):TS:=λE e H=> ∃G h c o a,aB K G h c e H/\At e i a/\g c= .ok o/\HR K G h i a c e H E o
@[irreducible] def C1 (X:Cx) (i:Nat) (st:Stmt) (g:Sl->aj eR):Prop:=PS X st (Om X.K i g)
@[irreducible] def mP (X:Cx) (i:Nat) (st:List Stmt) (g:Sl->aj eR):Prop:=gn X st (Om X.K i g)
theorem KG {K:aG} (f:bK h p H g j r) (q:HR K G u i a h p H E o):HR K G u i a g j r E o:=by
 cases o with
 |nx e=>exact λc H2 l m n=>q c H2 l m (f.trans n)
 |rt b e=>exact λv c H2 l m n w=>q v c H2 l m (f.trans n) w
section
variable {X:Cx} {i:Nat} {e c0 tg:Expr} {st:Stmt} {rest U Z:List Stmt} {N p O:Pos} {l:Lv} {f:TF} {g Y g2:Sl->aj eR} {c n x:Str}
noncomputable def pM (Y g2:Sl->aj eR):Sl->aj eR:=λh=>Y h>>=λo=>match o with
 | .nx a=>g2 a
 | .rt b e=> .ok (.rt b e)
def JN (u:C1 X i st Y) (v:mP X i rest g2):mP X i (st::rest) (pM Y g2):=by
 with_unfolding_all exact (gn.imp (QK u v) λE L H=>by
  rintro ⟨G,m,j,o,a,k,w,y,q⟩;obtain ⟨r,e1,e2⟩:=jd y;refine ⟨G,m,j,r,a,k,w,e1,?_⟩
  cases r with
  |nx h=>exact λz Q B I J=>⟨G,m,h,o,a,B,I,e2,KG J q⟩
  |rt b h=>cases e2;exact q)
def JM (a:C1 X i st Y):mP X i [st] Y:=by
 with_unfolding_all exact (gn.imp (WY a) λE h H q=>q)
def C2:Sl->aj eR:=λa=> .ok (.nx a)
def UQ:mP X i [] C2:=by
 with_unfolding_all exact (gn.imp WZ λE h H=>by
  rintro ⟨G,u,j,o,a,k,m,r,q⟩;cases r
  exact q h H k m (bK.refl (al.refl H)))
noncomputable def Bz (t:TD) (Y g2:Sl->aj eR):Sl->aj eR:=λa=>t a>>=λb=>if b=true then Y a else g2 a
def On (r:DT X c0 t) (u:mP X i U Y) (v:mP X i Z g2):C1 X i (.If c0 U Z N) (Bz t Y g2):=by
 with_unfolding_all exact (PS.imp (uK r u v) λE y H=>by
  rintro ⟨G,j,h,o,a,k,m,w,q⟩;obtain ⟨b,e1,e2⟩:=jd w;refine ⟨G,j,h,b,k,e1,λz s=>?_⟩
  cases b with
  |true=>
   rw [if_pos rfl] at e2 ⊢;exact ⟨G,j,h,o,a,k.ao s,m,e2,KG (bK.refl s) q⟩
  |false=>
   rw [if_neg h8] at e2 ⊢
   exact ⟨G,j,h,o,a,k.ao s,m,e2,KG (bK.refl s) q⟩)
def X0:Sl->aj eR:=λ_=> .ai
def YT:C1 X i st X0:=by
 with_unfolding_all exact (λh s r H E I ⟨G,u,j,o,a,k,v,m,q⟩=>by cases m)
noncomputable def pN (i:Nat) (c:Str):Sl->aj (List Str×List D):=λa=>match a[i]? with
 |some (.aw (.obj h j ds))=>a4 (h=c) (.ok (j,ds))
 |_=> .ai
def jcO (h:pN i c a= .ok q):a[i]?=some (.aw (.obj c q.1 q.2)):=by
 unfold pN at h
 split at h
 . rename_i o r ds e;obtain ⟨j,m⟩:=jv h;subst j;cases m;exact e
 . cases h
def WP (i:Nat) (c n:Str) (f:TF):Sl->aj eR:=λa=>f a>>=λd=>pN i c a>>=λq=>a4 (q.1.length<1000) (.ok (.nx (a.set i (.aw (.obj c (kM n q.1) (kN n d q.1 q.2))))))
def JO (B:lS X.K c n) (h:DE X .s e f) (hN:X.N[i]?=some x:=by rfl) (hv:iM X.env.scope x:=by exact jT rfl)
   (hd:Z8 x:=by decide) (r:X8 x:=by decide)
   (hs:lK e (some (.Attribute (.Name x p) n O)) N.line X.env=pure false:=by rfl):C1 X i (.Assign [.Attribute (.Name x p) n O] e N) (WP i c n f):=by
 with_unfolding_all exact (
  PS.imp (SS (xZ hN hv hd r) h hs) λE σ H=>by
   rintro ⟨G,H0,u,o,a,k,m,j,q⟩;obtain ⟨d,e1,j⟩:=jd j;obtain ⟨ns,e2,j⟩:=jd j;obtain ⟨I,e3⟩:=jv j;cases e3;have J:=jcO e2;refine ⟨G,H0,u,d,k,e1,λy H1 v r1 _=>?_⟩;obtain ⟨a',C,dx,fs,L,Q,z,hn,rs⟩:=u7 (k.ao v) J;rw [m] at L;cases L;refine ⟨_,m,a,C,dx,fs,rfl,Q,(B.at z).1,(B.at z).2,by rw [<-hn,cg] at I;exact I,?_⟩;obtain ⟨p1,p2⟩:=VJ r1 rs;rw [hn] at p1 p2;have W:=(k.ao v).mF (o':= .ins C dx (eG n y fs)) J m Q trivial λA' H' st e w=> .obj e ⟨z,p1⟩ rfl (p2.bq st w)
   exact q σ _ W.1 m (W.2.ao v))
end
structure fH (P:bQ) (w:World) (K:aG) (mg:X7) (ae:Heap) (k:Nat) (c m:Str) (ps:List Str) (fr:Bool) (F:Tz):Prop where
 ex: ∃C f fd,cZ P w K mg ae lM k f fd ps (qU K fr ps.length F)/\bL K bt c=some (some (.ref C))/\fG K C/\Meth K C m f/\Binds K fd ps []
def fH.mono {K:aG} (h:fH P w K mg ae j c m ps e F) (g:j<=k):fH P w K mg ae k c m ps e F:=
 let ⟨C,f,i,a,b⟩:=h.ex
 ⟨C,f,i,a.mono g,b⟩
def qi (c m:Str) (n:Nat) (F:Tz) (i:TF) (g:TB):Sl->aj D:=λa=>i a>>=λo=>match o with
 | .obj e h j=>a4 (e=c/\h.contains m=false) (g a>>=λds=>a4 (ds.length+1=n) (F (.obj e h j::ds)))
 |_=> .ai
def Yw (h:qi c m n F l g a= .ok d): ∃e i ds,l a= .ok (.obj c e i)/\e.contains m=false/\g a= .ok ds/\ds.length+1=n/\F (.obj c e i::ds)= .ok d:=by
 obtain ⟨o,p,h⟩:=jd h
 cases o with
 |obj z e i=>
  obtain ⟨⟨q,r⟩,u⟩:=jv h;subst q;obtain ⟨ds,v,j⟩:=jd u;obtain ⟨w,y⟩:=jv j;exact ⟨e,i,ds,p,r,v,w,y⟩
 |_=>cases h
section
variable {X:Cx} {k n:Nat} {c m:Str} {ps:List Str} {fr:Bool} {F:Tz} {o e:Expr} {y:List Expr} {I B:Pos} {u:TF} {g:TB} {r:Sem Bool}
def fH.aC (A:fH X.prog X.w X.K X.mg X.ae k c m ps true F) (hr:aO k X.A) (U:DE X .s o u) (Y:DA X .s (e::y) g) (j:ps.length=n:=by rfl)
  (l:T8 X e y:=by exact jm rfl) (p:T7 X I y:=by exact jH rfl)
  (Z:eval (.Call (.Attribute o m B) (e::y) [] I) X.env=(do
   let w<-eval o X.env
   sS B.atName
   let (f,first)<-sF [w] (zD w m r)
   callWith I f first (gz I (bB (e::y) X.env)) (n6 I (n8 [] X.env))):=by rfl):DE X .t (.Call (.Attribute o m B) (e::y) [] I) (qi c m n F u g):=by
 subst j;obtain ⟨C,f,fd,h1,h2,h3,h4,h5⟩:=A.ex
 with_unfolding_all exact (
 PE.imp (S0 U h3 h4 h1 hr h5 .nil uX Y l p Z) λσ H Q=>by
  rintro ⟨E,J,env,d,k,ef,q⟩;obtain ⟨ns,vs,ds,e1,e2,e3,e4,e5⟩:=Yw ef;refine ⟨E,J,env,_,k,e1,λv H1 h L _=>?_⟩;obtain ⟨a,C',dx,fs,rfl,hx,_,N,j,rs⟩:=L.objE;rw [h2] at N;cases N;refine ⟨a,dx,fs,rfl,hx,JC (by rw [j];exact e2),E,J,env,ds,k.ao h,e3,λws H2 i O=>?_⟩;show qU X.K true ps.length F (.ref a::(ws++[])) H2 Q (λ_ _ _=>False);rw [o8]
  exact ⟨_,_::ds,d,by simp [O.length,e4],.cons (L.ao i) O,e5,λv H3 s3 r3 nt=>q v H3 (h.trans (i.trans s3)) (r3.aQ λc z=>z.elim (λz=>k.new c (al.free h (al.free i z))) λz=>z) (((nt rfl).ao i).ao h)⟩)
def oS:Sl->aj (List D):=λ_=> .ok []
def fH.mQ (A:fH X.prog X.w X.K X.mg X.ae k c m ps true F) (hr:aO k X.A) (w:DE X .s o u) (h:ps.length=n:=by rfl)
  (E:eval (.Call (.Attribute o m B) [] [] I) X.env=(do
   let j<-eval o X.env
   sS B.atName
   let (f,first)<-sF [j] (zD j m r)
   callWith I f first (gz I (bB [] X.env)) (n6 I (n8 [] X.env))):=by rfl):DE X .t (.Call (.Attribute o m B) [] [] I) (qi c m n F u oS):=by
 subst h;obtain ⟨C,f,fd,J,L,h3,N,O⟩:=A.ex
 with_unfolding_all exact (
 PE.imp (S4 w h3 N J hr O .nil uX E) λσ H Q=>by
  rintro ⟨U,Y,env,d,k,Z,q⟩;obtain ⟨ns,vs,ds,e1,e2,e3,e4,e5⟩:=Yw Z;cases e3;refine ⟨U,Y,env,_,k,e1,λv H1 i l _=>?_⟩;obtain ⟨a,C',dx,fs,rfl,hx,_,p,h,rs⟩:=l.objE;rw [L] at p;cases p;refine ⟨a,dx,fs,rfl,hx,JC (by rw [h];exact e2),?_⟩
  exact ⟨_,[_],d,by simp [<-e4],.cons l .nil,e5,λv H3 s3 r3 nt=>q v H3 (i.trans s3) (r3.aQ λc z=>z.elim (λz=>k.new c (al.free i z)) λz=>z) ((nt rfl).ao i)⟩)
end
section
variable {P:bQ} {w:World} {K:aG} {mg:X7} {ae:Heap}
def ji7 {st:Stmt} (l:Bool) (o:nF K m a st f n) (p:bL K bt c=some (some (.ref C))) (q:fG K C) (r:Meth K C m f) (S:aq N ps (jg st)) (j:Binds K n ps [])
  (u: ∀(i:Value) (A:cf) (e:List Env) (s:aH) (H:Hp) (E:XK),aO k (A.deeper (lE a (jg st) s.heap.objs.size f i))->ma (b8 lM P w K mg ae N a (jg st) f i A e s H E).pc (qe st) g):
  fH P w K mg ae (k+1) c m ps l (aJ l N.length g):=
 ⟨C,f,n,G9 o S u λds d _ h=>J7 h,p,q,r,j⟩
end
abbrev FO:=D->List D->aj (D×D)
def Oo (K:aG) (n:Nat) (F:FO):Sp:=λi H Q _=> ∃(B:VC) (ds:List D) (g:List V) (a:Addr) (d0 r h:D),i=V.ref a::g/\g.length=n/\am K (λc=>B c/\c≠a) H g ds/\Top K (λc=>B c/\c≠a) H a d0/\F d0 ds= .ok (r,h)/\
 ∀v e,(∀c o,c≠a->H c=some o->e c=some o)->Top K (λc=>(H c=none\/B c)/\c≠a) e a h->aL K (λc=>(H c=none\/B c)/\c≠a) e v r->Q v e
def Jt (n:Nat) (d0:D) (ds:List D):Sl:= .aw d0::(ds.map .aa++B4 (n-ds.length-1) .un)
def yG (h:(Jt n d0 ds)[j]?=some s):(j=0/\s= .aw d0)\/(∃a d,j=a+1/\ds[a]?=some d/\s= .aa d)\/s= .un:=by
 unfold Jt at h
 cases j with
 |zero=>simp at h;exact .inl ⟨rfl,h.symm⟩
 |succ j=>
  rw [rY] at h
  by_cases q:j<ds.length
  . rw [nz (by simpa using q),jF] at h
    cases e:ds[j]? with
    |none=>rw [e] at h;cases h
    |some x=>rw [e] at h;cases h;exact .inr (.inl ⟨j,x,rfl,e,rfl⟩)
  . rw [lF (by simpa using q),va] at h
    split at h
    . cases h;exact .inr (.inr rfl)
    . cases h
def vz {K:aG} {B:VC} (r:am K (λc=>B c/\c≠a) H g ds) (t:Top K (λc=>B c/\c≠a) H a d0) (hN:ds.length+1<=N.length):
   aB K (λc=>H c=none\/c=a\/B c) (λc=>if c=a then none else H c) (Jt N.length d0 ds) (start N (V.ref a::g)) H/\At (start N (V.ref a::g)) 0 a:=by
 have y:=r.length
 have l:At (start N (V.ref a::g)) 0 a:=by
   show (L2.start N (V.ref a::g))[0]?=_;unfold L2.start;simp
 have n: ∀(j:Nat) (v:V),g[j]?=some v->(start N (V.ref a::g))[j+1]?=some (some v):=λj v h=>by
   have I:=(m9.mp h).1;unfold L2.start;rw [nz (by simp;omega),jF,rY,h];rfl
 have p: ∀c,qr (Jt N.length d0 ds) (start N (V.ref a::g)) c->c=a:=λc ⟨j,d,q,m⟩=>by
   rcases yG q with ⟨rfl,_⟩| ⟨_,_,_,_,z⟩|z
   . rw [l] at m;cases m;rfl
   . cases z
   . cases z
 have w: ∀c,B c/\c≠a->Sf (λc=>H c=none\/c=a\/B c) (Jt N.length d0 ds) (start N (V.ref a::g)) c:=λc z=>⟨λo=>z.2 (p c o),.inr (.inr z.1)⟩
 refine ⟨⟨?_,λc o e=>?_,λc e=>?_,λj d h=>?_,λj d h=>?_,λj u d e b q m J L=>?_⟩,l⟩
 . simp [L2.start,Jt,y];omega
 . split at e
   . cases e
   . exact e
 . split at e
   . rename_i z;exact .inr (.inl z)
   . exact .inl e
 . rcases yG h with ⟨_,z⟩| ⟨u,E,rfl,e,z⟩|z
   . cases z
   . cases z;obtain ⟨v,q,m⟩:=r.get e;exact ⟨v,n u v q,m.aQ w⟩
   . cases z
 . rcases yG h with ⟨rfl,z⟩| ⟨u,E,_,e,z⟩|z
   . cases z;exact ⟨a,l,if_pos rfl,t.bq (λ_ _ e _=>e) w λ_ e=>e⟩
   . cases z
   . cases z
 . have i: ∀(j:Nat) (d:D),(Jt N.length d0 ds)[j]?=some (.aw d)->j=0:=λj d h=>by
     rcases yG h with ⟨z,_⟩| ⟨_,_,_,_,z⟩|z
     . exact z
     . cases z
     . cases z
   rw [i j d q,i u e m]
def um:Sl->aj D
 | .aw d::_=> .ok d
 |_=> .ai
def ul (h:um a= .ok d):a[0]?=some (.aw d):=by
 unfold um at h
 split at h
 . cases h;rfl
 . cases h
noncomputable def kw (N n:Nat) (g:Sl->aj eR):FO:=λd0 ds=>a4 (ds.length=n) (g (Jt N d0 ds)>>=λo=>match o with
 | .nx a=>um a>>=λd=> .ok (.aW,d)
 | .rt r a=>um a>>=λd=> .ok (r,d))
section
variable {P:bQ} {w:World} {K:aG} {mg:X7} {ae:Heap}
def jiL {m p:Str} {st:Stmt} (Fu:nF K m p st f fd) (S:aq N ps (jg st)) (hn:ps.length=n+1) (hN:n+1<=N.length)
  (hb: ∀(u:Value) (A:cf) (l:List Env) (s:aH) (H:Hp) (E:XK),aO k (A.deeper (lE p (jg st) s.heap.objs.size f u))->mP (b8 lM P w K mg ae N p (jg st) f u A l s H E).pc 0 (qe st) g):
  cZ P w K mg ae lM (k+1) f fd ps (Oo K n (kw N.length n g)):=by
 with_unfolding_all exact (by
 refine Fu.ok S (λvs H Q E ⟨B,ds,us,a,d0,r,d1,Y,hl,_⟩=>by rw [Y,fb,hl,hn]) (λu A l s H vs Q E hr h=>?_);obtain ⟨B,ds,us,a,d0,r,d1,Y,hl,rs,t,I,q⟩:=h;refine ⟨_,hb u A l s H E hr,?_⟩;obtain ⟨e0,I⟩:=jv I;obtain ⟨o,e1,I⟩:=jd I;subst Y;obtain ⟨kk,Z⟩:=vz (N:=N) rs t (by omega)
 have O: ∀(i:Sl) (j:L2.St) (y:Hp) (v:V),aB K (λc=>H c=none\/c=a\/B c) (λc=>if c=a then none else H c) i j y->At j 0 a->um i= .ok d1->aL K (Sf (λc=>H c=none\/c=a\/B c) i j) y v r->Q v y:=λi j y v J L e2 rv=>by
  have hi:=ul e2;obtain ⟨a2,h1,_,t2⟩:=J.aw 0 _ hi;rw [L] at h1;cases h1
  have ww: ∀c,Sf (λc=>H c=none\/c=a\/B c) i j c->(H c=none\/B c)/\c≠a:=λc z=>by
   have U:c≠a:=by
     rintro rfl;exact z.1 ⟨0,_,hi,L⟩
   refine ⟨?_,U⟩;rcases z.2 with z|z|z
   . exact .inl z
   . exact absurd z U
   . exact .inr z
  exact q v y (λc o hc e=>J.ae c o (by rw [if_neg hc];exact e)) (t2.bq (λ_ _ e _=>e) ww λ_ e=>e) (rv.aQ ww)
 refine ⟨_,_,_,o,a,kk,Z,e1,?_⟩
 cases o with
 |nx i=>
  obtain ⟨d,e2,e3⟩:=jd I;cases e3;exact λj y J L f'=>O i j y .aW J L e2 .aW
 |rt r' i=>
  obtain ⟨d,e2,e3⟩:=jd I;cases e3
  exact λv j y J L f' rv=>O i j y v J L e2 rv)
end
structure oa (P:bQ) (w:World) (K:aG) (mg:X7) (ae:Heap) (k:Nat) (c:Str) (n:Nat) (F:FO):Prop where
 ex: ∃C f fd ps,cZ P w K mg ae lM k f fd ps (Oo K n F)/\bL K bt c=some (some (.ref C))/\mg c=some (.ref C)/\Mk K C f/\Binds K fd ps []
def wx (c:Str) (n:Nat) (F:FO) (g:TB):Sl->aj D:=λa=>g a>>=λds=>a4 (ds.length=n) (F (.obj c [] []) ds>>=λq=>match q with
 | (.aW,d)=> .ok d
 |_=> .ai)
section
variable {X:Cx} {k n:Nat} {c:Str} {F:FO} {e:Expr} {es:List Expr} {a p:Pos} {g:TB}
def oa.make (A:oa X.prog X.w X.K X.mg X.ae k c n F) (hr:aO (k+1) X.A) (J:DA X .s (e::es) g) (hg:Gl X c:=by rfl) (u:Z8 c:=by decide)
  (L:T8 X e es:=by exact jm rfl) (w:T7 X a es:=by exact jH rfl):
  DE X .t (.Call (.Name c p) (e::es) [] a) (wx c n F g):=by
 obtain ⟨C,f,fd,ps,N,O,h3,U,Y⟩:=A.ex
 with_unfolding_all exact (
 PE.imp (S6 U N hr hg h3 Y .nil uX J u L w) λZ H Q=>by
  rintro ⟨G,H0,env,d,k,h,q⟩;obtain ⟨ds,e1,h⟩:=jd h;obtain ⟨hn,h⟩:=jv h;obtain ⟨⟨r,d1⟩,e2,h⟩:=jd h
  cases r with
  |aW=>
   cases h;refine ⟨G,H0,env,ds,k,e1,λvs B l E x dx j y ne=>?_⟩
   have S:al B (aU (aU B dx (.aw x)) x (.ins C dx [])):=λb o i=>by
    rw [jR (jZ i j),jR (jZ i y)];exact i
   have kx:=k.new x (al.free l j);have rr:=E.dL.ao S;rw [o8];refine ⟨Sf G env Z,ds,vs,x,_,.aW,d,rfl,by rw [E.length];exact hn,rr.aQ λb z=>⟨z.1,by rintro rfl;exact z.2 j⟩,.obj jy ⟨O,rfl⟩ rfl .nil,e2,λv I hs t rv=>⟨rv.tD,?_⟩⟩;have sH:al H I:=λb o i=>hs b o (jZ (l b o i) j) (S b o (l b o i))
   refine q _ I sH (t.rep (λb z=>⟨z.1.elim (λz=>k.new b (al.free l (al.free S z))) λz=>z,z.2⟩) kx) λb i o qb m=>?_
   cases i;rw [l _ _ qb] at j;cases j
  |_=>cases h)
end
section
variable {P:bQ} {w:World} {K:aG} {mg:X7} {ae:Heap}
def ji9 {st:Stmt} (o:nF K m a st f l) (p:bL K bt c=some (some (.ref C))) (i:mg c=some (.ref C)) (mk:Mk K C f) (S:aq N ps (jg st)) (j:Binds K l ps []) (q:ps.length=n+1) (hN:n+1<=N.length)
  (r: ∀(h:Value) (A:cf) (e:List Env) (s:aH) (H:Hp) (E:XK),aO k (A.deeper (lE a (jg st) s.heap.objs.size f h))->mP (b8 lM P w K mg ae N a (jg st) f h A e s H E).pc 0 (qe st) g):
  oa P w K mg ae (k+1) c n (kw N.length n g):=
 ⟨C,f,l,ps,jiL o S q hN r,p,i,mk,j⟩
end
section
variable {prog:bQ} {w:World} {A:cf} {E:T9} {s:aH}
structure eJ (h:Heap) (a:Addr) (es:Array (Int×Value)) (ep:Nat) (t:mi):Prop where
 ex: ∃o,h.get? a=some o/\o.ExactSet/\o.data= .set es ep t
 el: ∀e∈es.toList,∃k tk,e.2= .int k tk/\e.1=hashInt k
 bd:es.size<xg
 ft:t.fits es.size=true
def eJ.of (j:h.SetOf (iZ prog w) a S n): ∃c g t,eJ h a c g t/\c.size=n/\(∀k,S k=true↔ ∃e∈c.toList,(iZ prog w).is k e.2=true):=by
 obtain ⟨o,c,g,t,l,m,hd,i,p,q,r,u⟩:=j;refine ⟨c,g,t,⟨⟨o,l,m,hd⟩,λe v=>?_,q,r⟩,u,p⟩;obtain ⟨⟨k,y,z⟩,_⟩:=i e v;obtain ⟨tk,h3⟩:=Fy y;exact ⟨k,tk,h3,z⟩
def eJ.state (h:eJ s.heap a c e t) (g:Q (c,e,t) s):wpAny (model prog w) A (setState a) Q E s:=by
 obtain ⟨o,i,_,hd⟩:=h.ex;exact BA i hd h.ft g
def Ze {c:Array (Int×Value)} (i: ∀e∈c.toList,∃k tk,e.2= .int k tk/\e.1=hashInt k) {g:Type} {a:g} {f:Int×Value->g->Sem (ForInStep g)} {Q:g->aH->Prop}
   (m: ∀h k tk,f (h,.int k tk) a=pure (.yield a)) (n:Q a s):wpAny (model prog w) A (forIn c a f) Q E s:=by
 refine Op f (λrest b j=>b=a/\j=s/\ ∀e∈rest,e∈c.toList) Q ?_ ?_ c a ⟨rfl,rfl,λ_ h=>h⟩
 . rintro ⟨h,x⟩ rest b j ⟨rfl,rfl,l⟩;obtain ⟨k,tk,e1,e2⟩:=i _ (l _ ez);dsimp only at e1;subst e1;rw [m];exact aR ⟨rfl,rfl,λe o=>l e (dZ _ o)⟩
 . rintro b j ⟨rfl,rfl,_⟩;exact n
def kL {a b c:Addr} {e1 e2 i:Array (Int×Value)} {j l m:Nat} {n o p:mi} (e:eJ s.heap a e1 j n) (g:eJ s.heap b e2 l o) (h:eJ s.heap c i m p) {Q:Bool->aH->Prop} (q:Q true s):
  wpAny (model prog w) A (setsQuiet [a,b,c]) Q E s:=by
 unfold setsQuiet setEntries;simp;refine ay (e.state ?_);refine ay (Ze e.el (λ_ _ _=>rfl) ?_);dsimp only;simp;refine ay (g.state ?_);refine ay (Ze g.el (λ_ _ _=>rfl) ?_);dsimp only;simp;refine ay (h.state ?_);refine ay (Ze h.el (λ_ _ _=>rfl) ?_);dsimp only;simp;exact aR q
theorem W0 {c:Type} (next:Nat->Nat): ∀(fuel k:Nat) (left:List c) (a:Array c) (x:c),x∈(BB next fuel k left a).toList->x∈left\/x∈a.toList
 |0,_,_,a,x,h=> .inr h
 |fuel+1,k,left,a,x,h=>by
  unfold BB at h
  split at h
  . rename_i y e;rcases W0 next fuel (k+1) _ _ x h with z|z
    . exact .inl (List.mem_of_mem_eraseIdx z)
    . rw [HS,i3] at z;rcases z with z|z
      . exact .inr z
      . rw [g8] at z;subst z;exact .inl (sI e)
  . exact .inr h
def eJ.keep (x:eJ h a c e t) (k: ∀o,h.get? a=some o->g.get? a=some o):eJ g a c e t:=
 let ⟨o,i,j⟩:=x.ex
 ⟨⟨o,k o i,j⟩,x.el,x.bd,x.ft⟩
def xv (k:Int) (tk:Tok):(iZ prog w).is k (.int k tk)=true:=by
 with_unfolding_all exact (beq_self_eq_true k)
def HU (c:s.TypeIs (.ref a) "set") (h:Q true s):wpAny (model prog w) A (ES (.ref a)) Q E s:=by
 unfold ES;unfold orM;refine ay (DL c F.sub_set_set ?_);exact aR h
def Xx:entryFor table "set.__sub__" =some ms.«frozenset.__sub__» :=
 entryFor_alias (id':= "frozenset.__sub__") (by kernel_rfl) rfl (by decide+kernel) (by kernel_rfl)
end
def eJ.setOf (x:eJ h a #[] c g):h.SetOf (iZ prog w) a (λ_=>false) 0:=by
 obtain ⟨o,i,j,h3⟩:=x.ex;exact ⟨o, #[],c,g,i,j,h3,λe l=>by simp at l,λk=>by simp,by decide,x.ft,rfl⟩
noncomputable def dd (a:List Int):List Int:=firstMet (λi=>a.getD i 0) a.length
def ji1 (a:List Int) (k:Int):(dd a).any (· ==k)=a.any (· ==k):=by
 unfold dd;rw [firstMet_any];congr 1;apply List.ext_getElem
 . simp
 . intro i e c;simp [cH c]
section
variable {X:Cx}
theorem Uu: ∀ {is:List Int} {us:List Value},aI (is.map V.int) us->IntsAre us is
 | [],_,.nil=> .nil
 |i::is,_,.cons h t=>by
  obtain ⟨k,rfl⟩:=h;exact .cons i k (Uu t)
def Y2 (n:X.cF=true):bF X (.type "set") (λh H Q=> ∃(p:Addr) (a:List Int),h=[.ref p]/\gR X.K H p (a.map V.int)/\a.length+1<xg/\ ∀l,H l=none->Q (.ref l) (aU H l (.set (λk=>a.any (· ==k)) (dd a).length))):=by
 rintro i s O H h U Q I r ⟨p,a,v,w,y,q⟩;subst v;obtain ⟨u,rfl,z⟩:=yY r;cases z;obtain ⟨B,j,E,_⟩:=I.list w;obtain ⟨c,Y⟩:=Vv j;refine call_set_list (I.ok.hd n) E.isList (by simpa using Uu j) (by simp;rw [c];exact y) λm tk J L=>?_
 have N:=I.a7.fresh (bf _)
 have g:m.SetOf (iZ X.prog X.w) s.heap.objs.size (λk=>a.any (· ==k)) (dd a).length:=by
  refine SetOf_congr J (λk=>?_) ?_
  . simp only [dq,c];exact ji1 a k
  . simp only [dq,c];rfl
 exact ⟨.ref s.heap.objs.size,_,I.laid (λb o e=>L b o (cL e) e) (bf _) (show a9 X.prog X.w _ m _ (.set _ _) from g),rfl,q _ N⟩
def jb3:bF X (.builtin "len") (λc H Q=> ∃a S n,c=[.ref a]/\H a=some (.set S n)/\Q (.int n) H):=by
 rintro e s E H c J Q I r ⟨a,S,n,g,h,q⟩;subst g;obtain ⟨u,rfl,i⟩:=yY r;cases i;have j:=I.a7 a _ h;obtain ⟨o,l,L,t,m,p,hd,v,N,w,y,z⟩:=j;subst z;have B:xg=4096:=rfl;exact call_len_set m p hd y (by rw [B] at w;omega) ⟨.int l.size,H,I.tok _,⟨_,rfl⟩,q⟩
variable {l1 l2:Lv} {e1 e2:Expr} {f1 f2:TF} {p1 p2 p3 q1 q2 q3 pos:Pos}
end
end M
namespace M
open PySem PySem.Spec L2
open PyProof.Rows hiding St
open PySem.SeqAt (EqAt RcAt RcNeAt)
section
variable {X:Cx} {K:aG}
def jar:Cd X "list.insert" (λx g H Q=> ∃l c i y,x= .ref l/\g=[.int i,y]/\H l=some (.ah c)/\0<=i/\i<2^63/\c.length<aV/\Q .aW (aU H l (.ah (c.take i.toNat++y::c.drop i.toNat)))):=by
 rintro h s L H x g v N Q I m o ⟨l,c,i,y,p,u,j,O,w,U,q⟩;subst p u;cases m
 cases o with
 |cons B t=>
  cases t with
  |cons E t=>
   cases t;obtain ⟨t,rfl⟩:=B;obtain ⟨z,a,n,r,Y,e⟩:=I.nB j;refine Bq F.slot_list_insert ⟨_,e,rfl⟩ F.entry_list_insert (F.args_list_insert_3 _ _ _) (AutoSeq1.list_insert_list_int_val_1 l a.toArray n i t _ (by rw [fitsIndex_both (by omega) w];simp) (by rw [dq];omega)) ⟨e,?_⟩;refine ⟨.aW,_,I.rH j e ?_ ((r.take _).append (.cons E (r.drop _))) ?_,rfl,q⟩
   . show (((a.toArray.extract 0 (if i<0 then (i+(a.toArray.size:Int)).toNat else min i.toNat a.toArray.size)).push _++a.toArray.extract (if i<0 then (i+(a.toArray.size:Int)).toNat else min i.toNat a.toArray.size)))=_;rw [if_neg (by omega)];apply Hz.mp;simp
     by_cases J:i.toNat<=a.length
     . rw [Nat.min_eq_left J];simp [BC]
     . rw [Nat.min_eq_right (by omega)];simp [BC,HV,show a.length<=i.toNat by omega]
   . simp;omega
variable {e1 e2:Expr} {O N:TF} {L:Lv} {x:Str} {p Y Z U:Pos}
def ZH (i:Nat) (O N:TF):Sl->aj ba:=λa=>cq i a>>=λds=>O a>>=λj=>N a>>=λd=>match j with
 | .int k=>a4 (0<=k/\k<2^63/\ds.length<aV) (.ok (.nx (a.set i (.aw (.ah (ds.take k.toNat++d::ds.drop k.toNat))))))
 |_=> .ai
def jbB (i:Nat) (h1:DE X L e1 O) (h2:DE X .s e2 N) (hN:X.N[i]?=some x:=by rfl) (hv:iM X.env.scope x:=by exact jT rfl)
   (hd:Z8 x:=by decide) (w:X8 x:=by decide)
   (e:mz (.Name x p) "insert" X.env (eval (.Name x p) X.env)=eval (.Name x p) X.env:=by rfl)
   (h:((gz Z (bB [e1,e2] X.env)).all (λx=>!x.1)&&(n6 Z (n8 [] X.env)).all (λx=>x.1.isSome)
    &&decide ([e1,e2].length+([]:List l9).length+(if ([]:List l9).isEmpty then 0 else 1)<30))=true:=by exact xy rfl rfl)
   (g:(Y.endLine==Z.line)=true:=by rfl) (I:bB [e1,e2] X.env=(false,eval e1 X.env)::bB [e2] X.env:=by exact jm rfl) (c:(gz Z (bB [e2] X.env)).any (·.1)=false:=by exact jH rfl)
   (y:bB [e2] X.env=(false,eval e2 X.env)::bB [] X.env:=by exact jm rfl)
   (z:lK (.Call (.Attribute (.Name x p) "insert" Y) [e1,e2] [] Z) none U.line X.env=pure false:=by rfl):
   DS X (.Expr (.Call (.Attribute (.Name x p) "insert" Y) [e1,e2] [] Z) U) (ZH i O N):=by
 with_unfolding_all exact (
  PS.imp (Qb (kP Cr PySem.F.slot_list_insert PySem.F.type_list_insert jar (xZ hN hv hd w) (j7 h1 (j7 h2 zo y) I) e h g I c) z) λE σ H=>by
   rintro ⟨G,J,l,o,k,m,q⟩;obtain ⟨ds,c1,m⟩:=jd m;obtain ⟨j,c2,m⟩:=jd m;obtain ⟨d,c3,Q⟩:=jd m
   cases j with
   |int B=>
    obtain ⟨⟨z1,z2,z3⟩,c5⟩:=jv Q;cases c5;have hi:=xM c1;obtain ⟨a,xs,ha,hx,rs⟩:=wQ k hi;refine ⟨.ref a,ha,.inl ⟨rfl,xs,.of hx⟩,G,J,l,_,k,c2,λv1 H1 n r1 _=>⟨G,J,l,d,k.ao n,c3,λv2 H2 v r2 _=>?_⟩⟩;have r:=v _ _ (n _ _ hx);cases (r1.aQ Lv.bo).eP;refine ⟨a,xs,B,v2,rfl,rfl,r,z1,z2,by rw [rs.length];exact z3,?_⟩;have u:=(rs.ao n).ao v;have W:=((k.ao n).ao v).write hi ha r (ds':=ds.take B.toNat++d::ds.drop B.toNat) ((u.take _).append (.cons r2 (u.drop _)));exact q σ _ W.1 ((W.2.ao v).ao n)
   |_=>cases Q)
end
end M
namespace M
open PySem PySem.Spec L2
open PyProof.Rows hiding St
section
variable {prog:bQ} {w:World} {A:cf} {E:T9} {s:aH}
def Yz:typeLookup (.type "list") "keys" =pure none:=by rw [typeLookup_type,builtinLookup_eq_fast];kernel_rfl
def jaI (j:s.heap.get? a=some o) (p:o.cls= .type "list") (c:o.dict=none) (hd:o.data= .seq u k) (v:A.handled=none)
  (h: ∀i tk,(∀b ob,s.heap.get? b=some ob->i.get? b=some ob)->Q none {s with heap:=i,toks:=tk}):wpAny (model prog w) A (getAttr? (.ref a) "keys") Q E s:=by
 obtain ⟨q,g,d,tk,os⟩:=s;obtain ⟨z,B,l,m⟩:=o;simp only at p c hd;subst p c hd;have H:(⟨q,g,d,tk,os⟩:aH).TypeIs (.ref a) "list" :=⟨_,j,rfl⟩
 have n:(⟨q,g,d,tk+1,os⟩:aH).TypeIs (.ref a) "list" :=⟨_,j,rfl⟩
 have I:=sub_AttributeError;have J:=HW.lookup;have L:=HW.bind (.ref a);have N:=am_list_getattr_none;unfold getAttr? getAttrBy? getAttrBy
 repeat (any_goals (first | assumption | ((with_reducible show wpAny _ _ (call (Value.builtin "list.__getattribute__") _ _) _ _ _); refine Bq HW n am_entry_list_getattribute (F.args_list_getattribute_2 _ _) (meets_getattribute_miss_list a u k m "keys" _ Yz (by decide)) ⟨j, v, λi y e r => ?_⟩) | wp_step))
 obtain ⟨O,U,Y⟩:=r.there;unfold getattributeRaised
 repeat (any_goals (first|assumption|wp_step))
 exact h i _ r.keeps
def zH:entryFor table "dict.update.loop" =some ms.«dict.update.loop» :=entryFor_of_tree (by kernel_rfl)
def qf:plainId "dict.update.loop" =true:=by decide+kernel
def W3 (c:s.heap.get? t=some o) (e:o.cls= .type "tuple") (hd:o.data= .seq a n) (h:Q a.toList s):wpAny (model prog w) A (Oq (.ref t)) Q E s:=by
 unfold Oq;refine ay (Bp (show s.TypeIs (.ref t) "tuple" from ⟨o,c,e⟩) ?_);rw [if_pos (by decide)];refine ay (Bc c hd ?_);exact aR h
def Y4 (a:Nat->List aS×Addr×Value):Nat->List (List aS×Addr×Value)
 |0=>[]
 |i+1=>qJ (Y4 a i) (a i).1 (a i).2.1 (a i).2.2
def Kk (c:List (List aS×Addr×Value)) (k:List aS) (a:Addr) (v:Value):(qJ c k a v).length<=c.length+1:=by
 cases h:atKey c k with
 |none=>rw [storedH_new h];simp
 |some p=>rw [storedH_old h];simp
theorem ZY (a:Nat->List aS×Addr×Value): ∀i,(Y4 a i).length<=i
 |0=>bf _
 |i+1=>dw (Kk _ _ _ _) (Nat.succ_le_succ (ZY a i))
def X1 {k:List aS} {a:Addr} {N:Nat} (h: ∀x∈e,x.2.1<N) (i:a<N): ∀x∈qJ e k a v,x.2.1<N:=by
 intro x c
 cases q:atKey e k with
 |none=>
  rw [storedH_new q] at c;rcases i3.mp c with z|z
  . exact h x z
  . rw [g8] at z;subst z;exact i
 |some p=>
  rw [storedH_old q] at c;obtain ⟨y,g,rfl⟩:=c4.mp c;unfold putAt
  split
  . exact h y g
  . exact h y g
theorem Qn {c:Nat->List aS×Addr×Value} {N:Nat} (h: ∀i,i<n->(c i).2.1<N): ∀i,i<=n-> ∀x∈Y4 c i,x.2.1<N
 |0,_,x,a=>by cases a
 |i+1,e,x,a=>X1 (Qn h i (by omega)) (h i (by omega)) x a
variable {R:Result->aH->Prop} {I:Addr} {Y Z:List Addr} {G:Array GenState->Array GenState->Prop} {n:Nat} {P:Nat->Value->Prop} {St:Nat->aH->Prop}
def vi (W:WalksS prog w A.in1 I Y Z G n P St) (d:Addr) (L:d∉Y) (j:Nat->List aS×Addr×Value) (q:Heap) (u: ∀i,i<n->mR (j4 prog w) q (j i).1 (j i).2.1)
  (N: ∀i v,P i v-> ∃t o m,v= .ref t/\q.get? t=some o/\o.cls= .type "tuple" /\o.data= .seq #[.ref (j i).2.1,(j i).2.2] m)
  (hdw:q.objs.size<=d) (O: ∀b∈Z,q.objs.size<=b) (hu:A.in1.units<cLine) (hn:n<=aV):
  ∀(k i:Nat) (s:aH),n-i=k->i<=n->St i s->s.heap.DictOfH (qk (j4 prog w)) d (Y4 j i)->(∀b o,b<q.objs.size->q.get? b=some o->s.heap.get? b=some o)->
    (∀g,Moved (d::Z) G s g->g.heap.DictOfH (qk (j4 prog w)) d (Y4 j n)->R (.ok (.ret .none)) g)->
    oR (model prog w) A (.builtin "dict.update.loop" ⟨[.ref d,.ref I,rawInt i,.none],[]⟩) R s:=by
 have hSw:d∉Z:=λh=>L (W.sub _ h)
 have y: ∀b∈Z,b∈d::Z:=λb l=>dZ _ l
 have Q: ∀i,i<n->(j i).2.1<q.objs.size:=λi U=>by
  obtain ⟨o',a,n',J,g2⟩:=u i U;exact cL J
 have p: ∀ {s g:aH} {xs:List (List aS×Addr×Value)},s.heap.DictOfH (qk (j4 prog w)) d xs->(∀x∈xs,x.2.1<q.objs.size)->Moved Z G s g->g.heap.DictOfH (qk (j4 prog w)) d xs:=λhS hx r=>by
  obtain ⟨o,es,ep,ho,hc,hd,he,his,HX⟩:=hS;refine ⟨o,es,ep,r.heap d _ hSw ho,hc,hd,he,λx Ot=>?_,HX⟩;obtain ⟨o',a,n',J,g2⟩:=(show mR (j4 prog w) _ x.1 x.2.1 from his x Ot)
  exact ⟨o',a,n',r.heap _ _ (λz=>absurd (O _ z) (Nat.not_le_of_lt (hx x Ot))) J,g2⟩
 intro k
 induction k with
 |zero=>
  intro i s hk U H hS B hR;have C3:i=n:=by omega
  subst C3;refine AR zH ?_;rw [C4 qf _];refine ay (W.done s _ _ H λg r=>?_);refine ay (aR ?_);exact aR (hR g (r.mono y) (p hS (Qn Q _ (bf _)) r))
 |succ k ih=>
  intro i s hk U H hS B hR;have de:i<n:=by omega
  refine AR zH ?_;rw [C4 qf _];refine ay (W.item i s _ _ de H λv g hP HY r=>?_);obtain ⟨t,o,m,rfl,ht,hc,hd⟩:=N i v hP;have c: ∀b o,b<q.objs.size->q.get? b=some o->g.heap.get? b=some o:=λb o l e=>r.heap b o (λz=>absurd (O _ z) (Nat.not_le_of_lt l)) (B b o l e)
  have HZ:=p hS (Qn Q _ U) r;have ht':=c _ _ (cL ht) ht;refine ay (nA ?_);refine ay (wpAny_tryCatch (W3 ht' hc hd ?_));refine nA ?_
  have Ia:(qk (j4 prog w)).is g.heap (j i).1 (j i).2.1:=by
    obtain ⟨o',a,n',J,g2⟩:=u i de;exact ⟨o',a,n',c _ _ (cL J) J,g2⟩
  refine wpAny_dictSet_heap hu Ia HZ (λh' dd' hs=>?_) (dw (ZY j i) (dw U hn));refine aR ⟨plainId_quiet qf _,?_⟩;have Ib:=ih (i+1) {g with heap:=h',toks:=g.toks+(qk (j4 prog w)).draws (j i).1} (by omega) de (W.frame _ g _ _ HY (AU _ _) λb l o e=>?_) dd' (λb o l e=>?_) λIe Ig Ih=>?_
  . exact Ib
  . rw [hs.2 b (λh:b=d=>L (by rw [<-h];exact l))];exact e
  . rw [hs.2 b (λh:b=d=>absurd hdw (by rw [<-h];exact Nat.not_le_of_lt l))];exact c b o l e
  . refine hR Ie (Moved.trans W.gtrans ((r.mono y).then_heap (AU _ _) λb o l e=>?_) Ig) Ih;rw [hs.2 b (λh:b=d=>l (by rw [h];exact ez))];exact e
def ZX (j:Nat->List aS×Addr×Value) (hh:A.handled=none) (L:s.heap.get? l=some O) (U:O.cls= .type "list") (hdd:O.dict=none) (hd:O.data= .seq a m)
  (q: ∀i,i<a.size->mR (j4 prog w) s.heap (j i).1 (j i).2.1)
  (r: ∀i v,a[i]?=some v-> ∃t o m,v= .ref t/\s.heap.get? t=some o/\o.cls= .type "tuple" /\o.data= .seq #[.ref (j i).2.1,(j i).2.2] m) (hu:A.units+2<cLine) (hn:a.size<=aV)
  (h: ∀u tk,(∀b o,s.heap.get? b=some o->u.get? b=some o)->u.DictOfH (qk (j4 prog w)) s.heap.objs.size (Y4 j a.size)->Q (.ref s.heap.objs.size) {s with heap:=u,toks:=tk}):
  wpAny (model prog w) A (call (.type "dict") [.ref l]) Q E s:=by
 refine callType_codes (Q₁:=λobj g=>obj= .ref s.heap.objs.size/\g={s with heap:=s.heap.push {cls:= .type "dict",data:= .dict #[]}}) F.kt_called_dict (F.kt_typeCall_dict_1 _) F.entry_dict_init (kt_code_dict_new _ ⟨rfl,rfl⟩) ?_;rintro obj g ⟨rfl,rfl⟩;have y: ∀b o,s.heap.get? b=some o->(s.heap.push {cls:= .type "dict",data:= .dict #[]}).get? b=some o:=λb o e=>dc _ e
 have hT:Shared.TypeIs {s with heap:=s.heap.push {cls:= .type "dict",data:= .dict #[]}} (.ref s.heap.objs.size) "dict" :=⟨_,gp _ rfl,rfl⟩
 have hTl:Shared.TypeIs {s with heap:=s.heap.push {cls:= .type "dict",data:= .dict #[]}} (.ref l) "list" :=⟨_,y _ _ L,U⟩
 refine ⟨hT,F.args_dict_init_2 _ _,?_⟩;unfold ms.«dict.__init__»;refine ay ?_;unfold Builtin.Dict.selfAndRest;refine ay (wpAny_notOrdered_dict hT ?_);refine aR ?_;show wpAny _ _ (Ou "dict.__init__" s.heap.objs.size (.ref l) [] .none) _ _ _;unfold Ou;refine ay (Bp hTl ?_);rw [if_pos (by decide)];refine ay (jaI (y _ _ L) U hdd hd (by simp [hh]) λh1 ia z=>?_);simp;refine ay (sT ?_);have B:h1.IsList l a:=⟨_,z _ _ (y _ _ L),U,m,hd⟩
 refine ay (Cn B ?_);have c:=cL (z _ _ (gp _ rfl));have H:=cL L;have J:=dH (Eb H c);refine aR ⟨plainId_quiet qf _,?_⟩;have Ii:A.in1.in1.handled=none:=by simp [hh]
 refine vi ((Walks.list Ii h1.objs.size l J a).toS) s.heap.objs.size (by simp;exact ⟨dH c,Nat.ne_of_gt H⟩) j s.heap q (λi v hv=>r i v hv) (bf _) (λb p=>by simp at p;subst p;exact BM c) (by simpa [Around.in1] using hu) hn (a.size-0) 0 _ (by omega) (i5 _)
  ⟨⟨_,gp _ rfl,rfl,rfl⟩,B.push _⟩ ?hd0 (λb o p e=>dc _ (z _ _ (y _ _ e))) ?hR
 case hd0=>
  exact ⟨_, #[],0,dc _ (z _ _ (gp _ rfl)),⟨rfl,rfl,rfl⟩,rfl,rfl,(λx hx=>by cases hx),Cf⟩
 case hR=>
  intro s' N HZ;obtain ⟨u,g',d',Ij,os'⟩:=s';have eg:=N.gens;have ed:=N.drawn;have eo:=N.os;subst eg;subst ed;subst eo;refine ⟨rfl,h u Ij (λb o e=>?_) HZ⟩;have p:=cL e;exact N.heap b o (by simp;exact ⟨dH p,dH (Eb p c)⟩) (dc _ (z _ _ (y _ _ e)))
end
def jiE (a:aO k A):A.units+2<cLine:=Gy (Nat.add_le_add_left (by decide:2<=64) _) a.units
section
variable {X:Cx} {K:aG}
inductive AV (H:Hp):List V->List (List aS×V)->Prop where
 |nil:AV H [] []
 |cons {t b:Addr} {k:List aS} {v:V} {r:List V} {ps:List (List aS×V)}:H t=some (.ap [.ref b,v])->H b=some (.ap (k.map kV))->AV H r ps->AV H (.ref t::r) ((k,v)::ps)
def Zf (ps:List (List aS×V)):List (List aS×V):=ps.foldl (λa p=>putK a p.1 p.2) []
theorem uM {r:L2.St} (I:aD X j r H s): ∀ {l:List V} {ps:List (List aS×V)} {a:List Value},AV H l ps->aI l a->
  ∃c:List (List aS×Addr×Value),c.length=a.length/\nZ (λ(p:List aS×V) (q:List aS×Addr×Value)=>p.1=q.1/\H q.2.1=some (.ap (p.1.map kV))/\aK p.2 q.2.2) ps c/\
   ∀(i:Nat) (v:Value),a[i]?=some v-> ∃q,c[i]?=some q/\ ∃t o m,v= .ref t/\s.heap.get? t=some o/\o.cls= .type "tuple" /\o.data= .seq #[.ref q.2.1,q.2.2] m
 |_,_,_,.nil,.nil=>⟨[],rfl,.nil,λi v h=>by simp at h⟩
 |_,_,_,.cons (t:=t) (b:=b) (k:=k) u w y,.cons z B=>by
  obtain ⟨c,E,J,L⟩:=uM I y B;obtain ⟨n,e,⟨o,e1,e2,m,N⟩,_⟩:=I.tuple (.inl (.of u))
  cases e with
  |cons O e=>
   cases e with
   |cons Q e=>
    cases e;rename_i U Y;cases (show U=cK b from O);cases z;refine ⟨(k,b,Y)::c,by simp [E],.cons ⟨rfl,w,Q⟩ J,λi v g=>?_⟩
    cases i with
    |zero=>
     simp at g;subst g;exact ⟨_,rfl,t,o,m,rfl,e1,e2,N⟩
    |succ i=>
     simp at g;obtain ⟨q,Z,g2⟩:=L i v g;exact ⟨q,by simpa using Z,g2⟩
theorem Qc {g e:Type} {F:g->e->Prop}: ∀ {a:List g} {c:List e},nZ F a c-> ∀(i:Nat) (y:e),c[i]?=some y-> ∃x,a[i]?=some x/\F x y
 |_,_,.nil,i,y,h=>by simp at h
 |_,_,.cons r t,0,y,h=>by simp at h;subst h;exact ⟨_,rfl,r⟩
 |_,_,.cons r t,i+1,y,h=>by
  obtain ⟨x,j,l⟩:=Qc t i y (by simpa using h);exact ⟨x,by simpa using j,l⟩
theorem U6 (r:nZ (λ(p:List aS×V) (q:List aS×Addr×Value)=>p.1=q.1/\H q.2.1=some (.ap (p.1.map kV))/\aK p.2 q.2.2) ps a):
  ∀i,i<=a.length->KT H (Zf (ps.take i)) (Y4 (λj=>a.getD j ([],0,.none)) i)
 |0,_=> .nil
 |i+1,o=>by
  have g:=U6 r i (by omega);obtain ⟨q,e⟩: ∃q,a[i]?=some q:=⟨a[i]'(by omega),cH _⟩
  obtain ⟨p,h,⟨e1,e2,l⟩⟩:=Qc r i q e;have m:a.getD i ([],0,.none)=q:=by simp [List.getD,e]
  have n:ps.take (i+1)=ps.take i++[p]:=by rw [List.take_add_one,h];rfl
  have c:Zf (ps.take (i+1))=putK (Zf (ps.take i)) p.1 p.2:=by unfold Zf;rw [n,List.foldl_append];rfl
  rw [c];show KT H _ (qJ (Y4 (λj=>a.getD j ([],0,.none)) i) (a.getD i ([],0,.none)).1 (a.getD i ([],0,.none)).2.1 (a.getD i ([],0,.none)).2.2);rw [m,<-e1];exact g.put p.1 e2 l
def vH (hc:X.cF=true) (hu:X.A.units+2<cLine):bF X (.type "dict") (λU H Q=> ∃p w ps,U=[.ref p]/\H p=some (.ah w)/\AV H w ps/\ ∀l,H l=none->Q (.ref l) (aU H l (.dT (Zf ps)))):=by
 rintro Y s σ H U us Q I r ⟨p,w,ps,ex,hp,y,q⟩;subst ex;obtain ⟨u,rfl,ru⟩:=yY r;cases ru;obtain ⟨z,Z,⟨o,n,ho,B,E,hd⟩,hz⟩:=I.list (gR.of hp);obtain ⟨a,h1,J,h3⟩:=uM I y Z;have e:z.toArray.size=a.length:=by rw [dq,h1]
 have L:a.length<=aV:=by rw [h1,<-Z.length];exact hz
 refine ZX (λj=>a.getD j ([],0,.none)) (I.ok.hd hc) ho B E hd (λi hi=>?_) (λi v hv=>?_) hu (by rw [e];exact L) λh' tk hk dd=>?_
 . obtain ⟨h,m⟩: ∃q,a[i]?=some q:=⟨a[i]'(by rw [e] at hi;exact hi),cH _⟩
   obtain ⟨pp,Ov,⟨e1,e2,e3⟩⟩:=Qc J i h m;have N:a.getD i ([],0,.none)=h:=by simp [List.getD,m]
   rw [N,<-e1];exact Wv I.a7 e2
 . obtain ⟨h,m,g⟩:=h3 i v (by rw [<-hv];simp);have N:a.getD i ([],0,.none)=h:=by simp [List.getD,m]
   rw [N];exact g
 . have hl:=I.a7.fresh (bf _);rw [e] at dd;have O:=U6 J a.length (bf _);have Gh:=Bd J;rw [BC (by omega)] at O;have kl:=Bd O;have hbl:=ZY (λj=>a.getD j ([],0,.none)) a.length;obtain ⟨h,es,ep,m,g2,g3,g4,_,g5⟩:=dd;refine ⟨.ref s.heap.objs.size,_,I.laid hk (bf _) (show a9 X.prog X.w _ h' _ (.dT (Zf ps)) from ⟨by omega,beq_eq_false_iff_ne.mpr (lD (dH I.big)),_,O.keeps λc w ec=>?_,h,es,ep,m,g2,g3,g4,g5⟩),rfl,q _ hl⟩;rw [jR (jZ ec hl)];exact ec
noncomputable def nP:List D->Option (List (List aS×D))
 | []=>some []
 | .ap [a,d]::r=>match j2 a,nP r with
  |some k,some q=>some ((k,d)::q)
  |_,_=>none
 |_=>none
theorem VN: ∀ {g:List V} {ds:List D} {ps:List (List aS×D)},am K A H g ds->nP ds=some ps-> ∃a:List (List aS×V),AV H g a/\a.map (·.1)=ps.map (·.1)/\am K A H (a.map (·.2)) (ps.map (·.2))
 |_,[],ps,r,h=>by cases r.Ar;cases h;exact ⟨[],.nil,rfl,.nil⟩
 |_,d::ds,ps,r,h=>by
  obtain ⟨v,g,rfl,r,n⟩:=r.jU
  have ⟨i,m,e⟩: ∃i m,d= .ap [i,m]:=by
    rcases d with _|_|_|_|l|_|_|_|_|_|_|_|_|_|_<;>try cases h
    rcases l with _| ⟨x,_| ⟨y,_|_⟩⟩<;>try cases h
    exact ⟨_,_,rfl⟩
  subst e
  . unfold nP at h
    cases c:j2 i with
    |none=>rw [c] at h;cases h
    |some k=>
     cases j:nP ds with
     |none=>rw [c,j] at h;cases h
     |some q=>
      rw [c,j] at h;cases h;obtain ⟨a,o,g2,p⟩:=VN n j;obtain ⟨t,J,rfl,u,w⟩:=r.ik;obtain ⟨L,z,rfl,B,E⟩:=w.ak;obtain ⟨b,rfl,I⟩:=JD B c;exact ⟨(k,z)::a,.cons u I o,by simp [g2],.cons E p⟩
def Z9 (q:List (List aS)×List D) (p:List aS×D):List (List aS)×List D:=(Ye q.1 p.1,Yf q.1 q.2 p.1 p.2)
def WD:List D->aj D
 | [.ah ds]=>match nP ds with
  |some ps=> .ok (.cJ (ps.foldl Z9 ([],[])).1 (ps.foldl Z9 ([],[])).2)
  |none=> .ai
 |_=> .ai
theorem Wp: ∀ {a:List (List aS×V)} {ps:List (List aS×D)} {kvs:List (List aS×V)} {q:List (List aS)×List D},a.map (·.1)=ps.map (·.1)->am K A H (a.map (·.2)) (ps.map (·.2))->kvs.map (·.1)=q.1->am K A H (kvs.map (·.2)) q.2->
  (a.foldl (λkvs p=>putK kvs p.1 p.2) kvs).map (·.1)=(ps.foldl Z9 q).1/\am K A H ((a.foldl (λkvs p=>putK kvs p.1 p.2) kvs).map (·.2)) (ps.foldl Z9 q).2
 | [],[],kvs,q,_,_,c,e=>⟨c,e⟩
 | [],_::_,_,_,h,_,_,_=>by cases h
 |_::_,[],_,_,h,_,_,_=>by cases h
 | (k,v)::a,(l,d)::ps,kvs,q,h,.cons r j,c,e=>by
  simp at h;obtain ⟨rfl,h⟩:=h;obtain ⟨g,i⟩:=VH k e r;rw [c] at g i;exact Wp (kvs:=putK kvs k v) (q:=Z9 q (k,d)) h j g i
def jd2:XR K (λi H Q=> ∃p a ps,i=[.ref p]/\H p=some (.ah a)/\AV H a ps/\ ∀l,H l=none->Q (.ref l) (aU H l (.dT (Zf ps)))) WD:=by
 intro A i H ds d Q r e q;unfold WD at e
 split at e
 . split at e
   . rename_i ps h;cases e;obtain ⟨v,rfl,j⟩:=r.one;obtain ⟨p,a,rfl,m,_,n⟩:=j.fU;obtain ⟨o,u,g2,w⟩:=VN n.low h;obtain ⟨y,B⟩:=Wp (kvs:=[]) (q:=([],[])) g2 w rfl .nil;exact ⟨p,a,o,rfl,m,u,λl g=>q _ _ (al.aU g) (.cJ jy (.inl g) y rfl ((B.laid g).aQ λc z=>⟨.inr z.1,z.2⟩)) (qA (al.refl H) g)⟩
   . cases e
 . cases e
end
def et {N P:List Str} {a:Scope} (c:a.kind= .function:=by rfl) (e:a.isCoroutine=false:=by rfl) (g:a.isGenerator=false:=by rfl) (h:N.Nodup:=by decide+kernel) (i:N.take P.length=P:=by rfl) (j: ∀x∈P,a.names.lookup x=some .local\/a.names.lookup x=some .cell:=by decide+kernel) (l: ∀y∈a.names,y.2≠ .free:=by decide+kernel):aq N P a:=⟨c,e,g,h,i,j,l⟩
def Dx (K:aG) (c:X7) (x:Str) (st:Stmt) (ps:List Str):Prop:= ∃f a,nF K x x st f a/\c x=some (.ref f)/\Binds K a ps []
def ET (K:aG) (p:Addr) (x q:Str) (st:Stmt):Prop:= ∃(g:Value) (h i:Option Addr) (c:Array (Option Value)) (kV e j a l:Value),
 K.lookup p=some ⟨g,h,.func (qI x q (xj st) (qe st) (jg st) .none kV e j i a l),c⟩/\Ad K a q=true
def cu (K:aG) (x:Str) (st:Stmt):Prop:= ∃p:Addr,bL K bt x=some (some (.ref p))/\ET K p x x st/\l8 K (.ref p)=true
def Dm (K:aG) (C:Addr) (m q:Str) (st:Stmt) (ps:List Str):Prop:= ∃f a,nF K m q st f a/\Meth K C m f/\Binds K a ps []
def gC (K:aG) (C:Addr) (m q:Str) (st:Stmt):Prop:= ∃p:Addr,iP K (.ref C) m=some (some (.ref p))/\D0 K (.ref p)=true/\ET K p m q st/\l8 K (.ref p)=true
abbrev Tk (x q:Str) (st:Stmt) (e:List Value) (ps:List Str):Prop:= ∀(kV a g:Value) (h:Option Addr) (c i:Value),bindArgs (qI x q (xj st) (qe st) (jg st) .none kV a g h c i) ⟨e,[]⟩=pure (ps.zip e)
section
variable {K:aG} {mg:X7} {x q m:Str} {st:Stmt} {ps:List Str} {h:Heap} {C:Addr}
def ET.fn (l:ET K p x q st) (k:l8 K (.ref p)=true) (j: ∀g,g.length=ps.length->Tk x q st g ps): ∃i,nF K x q st p i/\Binds K i ps []:=by
 obtain ⟨u,v,w,n,kV,o,y,r,ct,l,c⟩:=l;have F:=MR l c k;exact ⟨_,F,F.binds λa b c d e f g hl=>j g hl a b c d e f⟩
def cu.dx (d:cu K x st) (e:K.In h) (G:h.Ns bt mg) (g: ∀c,c.length=ps.length->Tk x x st c ps):Dx K mg x st ps:=by
 obtain ⟨p,a,l,k⟩:=d;obtain ⟨i,F,B⟩:=l.fn k g;exact ⟨p,i,F,gS e G a,B⟩
def gC.dm (d:gC K C m q st) (e: ∀c,c.length=ps.length->Tk m q st c ps):Dm K C m q st ps:=by
 obtain ⟨p,a,i,l,k⟩:=d;obtain ⟨g,F,B⟩:=l.fn k e;exact ⟨p,g,F,⟨a,i,k⟩,B⟩
def ZC {P:List Value->Prop} {n:Nat} (h: ∀a c,c.length=n->P (a::c)): ∀c,c.length=n+1->P c:=by
 intro c e
 cases c with
 |nil=>cases e
 |cons a r=>exact h a r (Nat.succ.inj e)
def EU {P:List Value->Prop} (h:P []): ∀c,c.length=0->P c:=by
 intro c e
 cases c with
 |nil=>exact h
 |cons a r=>cases e
def ia (h: ∀a,Tk x q st [a] [p]:=by intro _ _ _ _ _ _ _;rfl): ∀c:List Value,c.length=[p].length->Tk x q st c [p]:=ZC λa=>EU (h a)
def r8 (h: ∀a b,Tk x q st [a,b] [p,c]:=by intro _ _ _ _ _ _ _ _;rfl): ∀e:List Value,e.length=[p,c].length->Tk x q st e [p,c]:=ZC λa=>ZC λb=>EU (h a b)
def xq (h: ∀a b c,Tk x q st [a,b,c] [p,e,g]:=by intro _ _ _ _ _ _ _ _ _;rfl): ∀i:List Value,i.length=[p,e,g].length->Tk x q st i [p,e,g]:=ZC λa=>ZC λb=>ZC λc=>EU (h a b c)
def tk5 (h: ∀a b c d e,Tk x q st [a,b,c,d,e] [p,g,i,j,l]:=by intro _ _ _ _ _ _ _ _ _ _ _;rfl): ∀n:List Value,n.length=[p,g,i,j,l].length->Tk x q st n [p,g,i,j,l]:=ZC λa=>ZC λb=>ZC λc=>ZC λd=>ZC λe=>EU (h a b c d e)
end
section
variable {P:bQ} {w:World} {K:aG} {mg:X7} {ae:Heap}
def zF {st:Stmt} (e:Bool) (d:Dx K mg x st ps) (S:aq N ps (jg st))
  (h: ∀(f:Addr) (c:Value) (A:cf) (a:List Env) (s:aH) (H:Hp) (E:XK),aO k (A.deeper (lE x (jg st) s.heap.objs.size f c))->ma (b8 lM P w K mg ae N x (jg st) f c A a s H E).pc (qe st) g):
  Av P w K mg ae (k+1) x ps e (aJ e N.length g):=by
 obtain ⟨f,i,F,m,B⟩:=d;exact jj4 e F m S B (h f)
def Ox {st:Stmt} (e:Bool) (d:Dx K mg x st ps) (S:aq N ps (jg st))
  (h: ∀(f:Addr) (c:Value) (A:cf) (a:List Env) (s:aH) (H:Hp) (E:XK),aO k (A.deeper (lE x (jg st) s.heap.objs.size f c))->kv (b8 (kt P w) P w K mg ae N x (jg st) f c A a s H E) (qe st) g):
  mM P w K mg ae (k+1) x ps e (dB e N.length g):=by
 obtain ⟨f,i,F,m,B⟩:=d;exact ji6 e F m S B (h f)
def QA {st:Stmt} (h:Bool) (d:Dm K C m q st ps) (i:bL K bt c=some (some (.ref C))/\fG K C) (S:aq N ps (jg st))
  (j: ∀(f:Addr) (e:Value) (A:cf) (a:List Env) (s:aH) (H:Hp) (E:XK),aO k (A.deeper (lE q (jg st) s.heap.objs.size f e))->ma (b8 lM P w K mg ae N q (jg st) f e A a s H E).pc (qe st) g):
  fH P w K mg ae (k+1) c m ps h (aJ h N.length g):=by
 obtain ⟨f,l,F,m,B⟩:=d;exact ji7 h F i.1 i.2 m S B (j f)
def Ik {st:Stmt} (d:Dm K C "__init__" q st ps) (i:bL K bt c=some (some (.ref C))/\fG K C) (h:mg c=some (.ref C)) (mk:sY K C=true/\l8 K (.ref C)=true) (S:aq N ps (jg st)) (j:ps.length=n+1) (hN:n+1<=N.length)
  (l: ∀(f:Addr) (e:Value) (A:cf) (a:List Env) (s:aH) (H:Hp) (E:XK),aO k (A.deeper (lE q (jg st) s.heap.objs.size f e))->mP (b8 lM P w K mg ae N q (jg st) f e A a s H E).pc 0 (qe st) g):
  oa P w K mg ae (k+1) c n (kw N.length n g):=by
 obtain ⟨f,o,F,m,B⟩:=d;exact ji9 F i.1 h ⟨mk.1,m.at_,m.fn,mk.2⟩ S B j hN (l f)
def Oy {st:Stmt} (a:Bool) (d:Dx K mg x st ps):Av P w K mg ae k x ps a (λ_=> .ai):=by
 obtain ⟨f,c,F,m,B⟩:=d;exact jgY a F m B
end
section
variable {X:Cx} {a b e:Expr} {f Q O:TF} {U:Pos} {x:Str}
def vb (i:Nat) (hN:X.N[i]?=some x:=by rfl) (g:iM X.env.scope x:=by exact jT rfl) (hd:Z8 x:=by decide) (c:X8 x:=by decide):DE X .b (.Name x U) (ag i):=DE.b (dv i hN g hd c)
def ib {j}:DE X .b (.Constant (.int i) j U) (cI i):=GI
def fM {j}:DE X .s (.Constant (.int i) j U) (cI i):=GI
def ob (c:dG X (my h) r) (i:gJ X.K r g) (j:DE X .b a Q) (l:DE X .b b O):DE X .b (.BinOp a h b U) (ak Q O g):=vB c i j l
def o0 (c:dG X (my h) r) (i:gJ X.K r g) (j:DE X .b a Q) (l:DE X .b b O):DE X .s (.BinOp a h b U) (ak Q O g):=vB c i j l
def Zt (c:DE X .b a Q) (g:DE X .b b O):DE X .b (.BinOp a .Mod b U) (ak Q O bG):=vB yT yU c g
def kZ (c:DE X .b a Q) (g:DE X .b b O):DE X .b (.BinOp a .Pow b U) (ak Q O il):=vB Sv jic c g
def Oz (c:DE X .b a Q) (g:DE X .b b O):DE X .b (.BinOp a .FloorDiv b U) (ak Q O pL):=vB jcQ jcW c g
def gi (c:Gl X x) (g: ∃t,X.mg x=some (.int i t)) (hd:Z8 x:=by decide):DE X .b (.Name x U) (cI i):=g.elim λ_ h=>MV c h hd
def gis (c:Gl X x) (g: ∃t,X.mg x=some (.int i t)) (hd:Z8 x:=by decide):DE X .s (.Name x U) (cI i):=g.elim λ_ h=>MV c h hd
def gst (c:Gl X x) (g: ∃t,X.mg x=some (.str y t)) (i:y.length<=aV:=by decide) (hd:Z8 x:=by decide):DE X .b (.Name x U) (cS y):=g.elim λ_ h=>jgM c h i hd
end
structure eK (P:bQ) (w:World) (K:aG) (mg:X7) (ae:Heap) (k:Nat) (c m:Str) (ps:List Str) (dfs:List D) (fr:Bool) (F:Tz):Prop where
 ex: ∃C f fd C5 Il,cZ P w K mg ae (kt P w) k f fd ps (N5 K fr ps.length F)/\bL K bt c=some (some (.ref C))/\fG K C/\Meth K C m f/\Binds K fd ps Il/\aI C5 Il/\ ∀A H,am K A H C5 dfs
def eK.mono {K:aG} (h:eK P w K mg ae j c m ps e l F) (n:j<=k):eK P w K mg ae k c m ps e l F:=
 let ⟨C,f,o,g,i,a,b⟩:=h.ex
 ⟨C,f,o,g,i,a.mono n,b⟩
def JB (c m:Str) (n:Nat) (a:List D) (F:Tz) (j:TF) (g:TB):Sl->aj D:=λe=>match j e with
 | .ok (.obj h i l)=>if h=c/\i.contains m=false then match g e with
   | .ok ds=>a4 (ds.length+a.length+1=n) (F (.obj h i l::(ds++a)))
   |_=> .ai
  else .ai
 |_=> .ai
def jat (h:JB c m n a F l g e≠ .ai): ∃i j ds,l e= .ok (.obj c i j)/\i.contains m=false/\g e= .ok ds/\ds.length+a.length+1=n/\JB c m n a F l g e=F (.obj c i j::(ds++a)):=by
 unfold JB at h ⊢
 split at h
 . rename_i r i j e1
   split at h
   . rename_i q;obtain ⟨rfl,o⟩:=q
     split at h
     . rename_i ds e2;unfold a4 at h
       split at h
       . rename_i p;refine ⟨i,j,ds,e1,o,e2,p,?_⟩;rw [if_pos ⟨rfl,o⟩];exact jl p
       . exact (h rfl).elim
     . exact (h rfl).elim
   . exact (h rfl).elim
 . exact (h rfl).elim
section
variable {X:Cx} {k n:Nat} {c m:Str} {ps:List Str} {J:List D} {p:Bool} {F:Tz} {o e:Expr} {B:List Expr} {N L:Pos} {y:TF} {g:TB} {j:Sem Bool}
def ux {O:L2.St} (F:cZ X.prog X.w X.K X.mg X.ae U k f Y ps Z) (hr:aO k X.A) (hb:Binds X.K Y ps a) (hd:aI i a)
  (I:aD X l O H s) (r:aI vs q) (h:Z (vs++i) H Q E) (hx: ∀e w,U X.stack H s E e w->X.xe e w):wpAny (model X.prog X.w) X.A (call (.ref f) q) (EP X l O Q) X.xe s:=by
 have hl:(q++a).length=ps.length:=by rw [<-F.len _ _ _ _ h,iE,iE,r.length,hd.length]
 have z:=hb s q I.fQ hl;refine zP (tf (F.run X.A X.stack s H ⟨q,[]⟩ (q++a) (vs++i) Q E hr I.sZ z (r.append hd) h) λr w v=>?_)
 cases r with
 |error e=>exact hx e w v
 |ok fl=>
  cases fl with
  |ret u=>exact I.after v
  |next=>exact l7 v
  |brk=>exact l7 v
  |cont=>exact l7 v
def eK.r9 {l:Lv} (hl: ∀ {H:Hp} {v:V},(p=true->br H v)->l.T H v) (A:eK X.prog X.w X.K X.mg X.ae k c m ps J p F) (hr:aO k X.A) (ho:DE X .s o y) (ha:DA X .s (e::B) g) (hA: ∀ {G:VC} {env:Sl} {U:L2.St} {c:Addr},Sf G env U c->l.A G env U c:=by exact λz=>z) (hn:ps.length=n:=by rfl)
   (EK:T8 X e B:=by exact jm rfl) (Gh:T7 X N B:=by exact jH rfl)
   (ht:eval (.Call (.Attribute o m L) (e::B) [] N) X.env=(do
     let ov<-eval o X.env
     sS L.atName
     let (f,first)<-sF [ov] (zD ov m j)
     callWith N f first (gz N (bB (e::B) X.env)) (n6 N (n8 [] X.env))):=by rfl):r0 X l (.Call (.Attribute o m L) (e::B) [] N) (JB c m n J F y g):=by
 subst hn;obtain ⟨C,f,fd,C5,Il,h1,h2,h3,h4,h5,h6,h7⟩:=A.ex
 with_unfolding_all exact (by
 rintro h s U H Q I ⟨GG,H0,env,kk,q⟩
 have ns:JB c m ps.length J F y g env≠ .ai:=by
   intro z;rcases q with ⟨o,ef,_⟩| ⟨c,ef,_⟩<;>(rw [z] at ef;cases ef)
 obtain ⟨AW,vs,ds,e1,e2,e3,e4,e5⟩:=jat ns;rw [e5] at q;refine Gg (bv ((show PE X o (tE X.K .s y) from ho) h s U H (λv H1=>al H H1/\aL X.K (Sf GG env U) H1 v (.obj c AW vs)) I ⟨GG,H0,env,_,kk,e1,λv H' Y r' _=>⟨Y,r'⟩⟩) λu s1 oy=>?_) ht;obtain ⟨x,H1,I1,rx,i,r1⟩:=oy;obtain ⟨a,C',dx,fs,rfl,hx,_,hc,hn,rs⟩:=r1.objE;rw [h2] at hc;cases hc;obtain rfl:u=cK a:=rx;refine Qi I1 hx h3 h4 (JC (by rw [hn];exact e2)) ?_;refine B3 I.ok.mod.ua h4.kp (bv ((show PA X (e::B) (tA X.K .s g) from ha) N h s1 U H1 (λvs H2=>al H1 H2/\am X.K (Sf GG env U) H2 vs ds) I1 ⟨GG,H0,env,ds,kk.ao i,e3,λvs H' Y r'=>⟨Y,r'⟩⟩) λus s2 ⟨ws,H2,I2,r,w,rws⟩=>⟨I2.fQ,?_⟩) EK Gh;have O:am X.K (Sf GG env U) H2 (.ref a::(ws++C5)) (.obj c AW vs::(ds++J)):= .cons (r1.ao w) (rws.append (h7 _ _));have Z:(V.ref a::(ws++C5)).length=ps.length:=by rw [O.length,fb,iE];omega
 rcases q with ⟨d,ef,q⟩| ⟨c',ef,th⟩
 . refine ux (vs:= .ref a::ws) (E:=λ_ _ _=>False) h1 hr h5 h6 I2 (.cons rfl r) ⟨_,_,Z,O,.inl ⟨d,ef,λv H3 s3 r3 nt=>?_⟩⟩ λe Y cx=>?_
   . exact q v H3 (i.trans (w.trans s3)) (r3.aQ λc z=>hA (z.elim (λz=>kk.new c (al.free i (al.free w z))) λz=>z)) (hl λz=>((nt z).ao w).ao i)
   . obtain ⟨_,_,_,_,_,_,_,_,_,_,_,_,_,z⟩:=cx;exact z.elim
 . refine ux (vs:= .ref a::ws) (E:=XE X.K c' H2) h1 hr h5 h6 I2 (.cons rfl r) ⟨_,_,Z,O,.inr ⟨c',ef,λC H' hC Y=>⟨C,rfl,hC,Y⟩⟩⟩ λe Y cx=>?_
   exact th h H2 s2 e Y (i.trans w) I2 cx)
end
def C6 (K:aG) (C:Addr) (m q:Str) (st:Stmt) (ps:List Str) (g:List D):Prop:= ∃(f:Addr) (o:Value) (p i:Option Addr) (h:Array (Option Value)) (j kV c l a n:Value) (h9:List V) (e:List Value),
 K.lookup f=some ⟨o,p,.func (qI m q (xj st) (qe st) (jg st) j kV c l i a n),h⟩/\Ad K a q=true/\Meth K C m f/\Binds K (qI m q (xj st) (qe st) (jg st) j kV c l i a n) ps e/\aI h9 e/\ ∀A H,am K A H h9 g
def Dm.x {K:aG} {st:Stmt} (d:Dm K C m q st ps):C6 K C m q st ps []:=by
 obtain ⟨f,o,F,h,B⟩:=d;obtain ⟨i,j,kV,a,l,n,c,ct,e,rfl,lk,g⟩:=F.ex;exact ⟨f,i,j,n,e,_,kV,a,l,c,ct,[],[],lk,g,h,B,.nil,λ_ _=> .nil⟩
section
variable {P:bQ} {w:World} {K:aG} {mg:X7} {ae:Heap}
def Vl {st:Stmt} (U:Bool) (d:C6 K C m q st ps p) (l:bL K bt c=some (some (.ref C))/\fG K C) (S:aq N ps (jg st))
   (hb: ∀(f:Addr) (j:Value) (A:cf) (i:List Env) (s:aH) (H:Hp) (E:XK),aO k (A.deeper (lE q (jg st) s.heap.objs.size f j))->kv (b8 (kt P w) P w K mg ae N q (jg st) f j A i s H E) (qe st) g):
   eK P w K mg ae (k+1) c m ps p U (dB U N.length g):=by
 obtain ⟨f,oc,od,an,B6,dV,kV,doc,pm,j,ct,h9,u,lk,y,me,B,r1,r2⟩:=d;refine ⟨C,f,_,h9,u,?_,l.1,l.2,me,B,r1,r2⟩
 with_unfolding_all exact (by
 refine Gj lk y S (λY H Q E ⟨B,ds,Z,_⟩=>Z) λA i s H Y Q E hr h=>?_
 obtain ⟨B,ds,Z,r,q⟩:=h;refine ⟨_,hb f j A i s H E hr,?_⟩;have J:=ZP (N:=N) r;rcases q with ⟨d,e,q⟩| ⟨c,e,q⟩
 . rcases Wm e with ⟨fr',z,hf⟩| ⟨rfl,env',z⟩
   . exact ⟨_,H,_,J,.inl ⟨_,z,λv n s r nt=>q v n s r λhh=>nt (hf hh)⟩⟩
   . exact ⟨_,H,_,J,.inl ⟨_,z,λpz n k' f'=>q .aW n k'.ae .aW λ_ a e=>by cases e⟩⟩
 . refine ⟨_,H,_,J,.inr ⟨c,VE e,λo σ H1 s1 h e C Y L l I hx=>Ws I hx (q C H1 l L),λσ H1 L o H2 s1 e s' O I cx=>Uf I cx λC n z=>?_⟩⟩;obtain ⟨C',e',l,s3⟩:=z;cases e'
   exact q C n l (L.trans (O.trans s3)))
end
def eK.av {K:aG} (h:eK P w K mg ae k c m ps [] i F):fH P w K mg ae k c m ps i (λds=>oZ (F ds)):=by
 obtain ⟨C,f,j,h9,l,G,n,h3,o,p,u,v⟩:=h.ex;have z:=List.eq_nil_of_length_eq_zero (v (λ_=>True) (λ_=>none)).length;subst z;cases u;refine ⟨C,f,j,⟨λa H Q E ⟨B,ds,d,hl,_⟩=>hl,λA outer s H args y a Q E hr I J L N=>?_⟩,n,h3,o,p⟩;obtain ⟨B,ds,d,hl,r,e,q⟩:=N;refine tf (G.run A outer s H args y a Q (λ_ _ _=>False) hr I J L ⟨B,ds,hl,r,.inl ⟨d,VX e,q⟩⟩) λr U g=>?_
 cases r with
 |error e=>
  obtain ⟨_,_,_,_,_,_,_,_,_,_,_,_,_,z⟩:=g;exact z.elim
 |ok O=>cases O<;>exact g
abbrev FJ:=Sl->aj (D×Sl)
end M
namespace M
open PySem
namespace Tab
open SetTable (Probe runEnd leap bits)
noncomputable def rf (m:Nat) (p:Probe):Probe:=
 if p.more>0 then {p with j:=p.j+1,more:=p.more-1} else
 {p with j:=(leap m p.i p.perturb).1,more:=runEnd m (leap m p.i p.perturb).1-(leap m p.i p.perturb).1,i:=(leap m p.i p.perturb).1,perturb:=(leap m p.i p.perturb).2}
def C7 (m:Nat) (i q:Nat):Probe:={j:=i,more:=runEnd m i-i,i:=i,perturb:=q,dummy:=none}
noncomputable def im (m:Nat) (h:Int):Nat->Probe
 |0=>C7 m (bits h%(m+1)) (bits h)
 |n+1=>rf m (im m h n)
def at' (m:Nat) (h:Int) (n:Nat):Nat:=(im m h n).j
noncomputable def lp (m:Nat) (h:Int):Nat->Nat×Nat
 |0=>(bits h%(m+1),bits h)
 |c+1=>leap m (lp m h c).1 (lp m h c).2
noncomputable def off (m:Nat) (h:Int):Nat->Nat
 |0=>0
 |c+1=>off m h c+(runEnd m (lp m h c).1-(lp m h c).1)+1
theorem Kw (e:im m h n=C7 m i q): ∀k,k<=runEnd m i-i->im m h (n+k)={j:=i+k,more:=runEnd m i-i-k,i:=i,perturb:=q,dummy:=none}
 |0,_=>by rw [BD,e];rfl
 |k+1,a=>by
  have:=Kw e k (by omega);rw [<-Nat.add_assoc];show rf m (im m h (n+k))=_;rw [this];unfold rf;rw [if_pos (show runEnd m i-i-k>0 by omega)];simp;omega
theorem uG (m:Nat) (h:Int): ∀c,im m h (off m h c)=C7 m (lp m h c).1 (lp m h c).2
 |0=>rfl
 |c+1=>by
  have e:=Kw (uG m h c) _ (bf _);show rf m (im m h (off m h c+(runEnd m (lp m h c).1-(lp m h c).1)))=_;rw [e];unfold rf;rw [if_neg (by simp)];rfl
def Kc (a:k<=runEnd m (lp m h c).1-(lp m h c).1):at' m h (off m h c+k)=(lp m h c).1+k:=by
 unfold at';rw [Kw (uG m h c) k a]
def jhw (m i:Nat):runEnd m i-i<=9:=by unfold runEnd;split<;>omega
theorem OA (m:Nat) (h:Int): ∀c,off m h c<=10*c
 |0=>bf _
 |c+1=>by
  have:=OA m h c;have:=jhw m (lp m h c).1;show off m h c+(runEnd m (lp m h c).1-(lp m h c).1)+1<=_;omega
theorem OB (m:Nat) (h:Int): ∀c,(lp m h c).1<=m
 |0=>Im (Nat.mod_lt _ (EV _))
 |c+1=>Im (Nat.mod_lt _ (EV _))
def jgX (h:Int):bits h<2^64:=by
 unfold bits;have a:(0:Int)<=h%(2^64:Int):=C8 _ (by decide);have c:h%(2^64:Int)< (2^64:Int):=EW _ (by decide);omega
theorem Wr (m:Nat) (h:Int): ∀c,(lp m h c).2=bits h/32^c
 |0=>by simp [lp]
 |c+1=>by
  show (lp m h c).2/32=_;rw [Wr m h c,Nat.div_div_eq_div_mul,Nat.pow_succ]
def jf0 (m:Nat) (h:Int) (a:13<=c):(lp m h c).2=0:=by
 rw [Wr];refine Nat.div_eq_of_lt (gT (jgX h) ?_);exact dw (by decide:2^64<=32^13) (Nat.pow_le_pow_right (by decide) a)
noncomputable def fv (m:Nat):Nat->Nat->Nat
 |0,i=>i
 |d+1,i=>(fv m d i*5+1)%(m+1)
theorem OC (m:Nat) (h:Int): ∀d,(lp m h (13+d)).1=fv m d (lp m h 13).1
 |0=>rfl
 |d+1=>by
  show (leap m (lp m h (13+d)).1 (lp m h (13+d)).2).1=_;rw [jf0 m h (by omega)];rw [OC m h d];rfl
def o3 (m:Nat):Prop:= ∀i j,i<=m->j<=m-> ∃d,d<=m/\fv m d i=j
theorem UD (m:Nat) (a i:Nat): ∀b,fv m (a+b) i=fv m b (fv m a i)
 |0=>rfl
 |b+1=>by show (fv m (a+b) i*5+1)%(m+1)=_;rw [UD m a i b];rfl
def ji2 (g:fv m (m+1) 0=0) (h: ∀j,j<=m-> ∃d,d<=m/\fv m d 0=j):o3 m:=λi j l n=>by
 obtain ⟨a,p,c⟩:=h i l;obtain ⟨b,q,e⟩:=h j n
 by_cases o:a<=b
 . exact ⟨b-a,by omega,by rw [<-c,<-UD,show a+(b-a)=b by omega,e]⟩
 . refine ⟨m+1-a+b,by omega,?_⟩;rw [<-c,<-UD,show a+(m+1-a+b)=m+1+b by omega,UD,g,e]
noncomputable def Io (m:Nat):Nat->Nat->List Nat
 |0,_=>[]
 |n+1,i=>i::Io m n ((i*5+1)%(m+1))
theorem OD (m:Nat) (i:Nat): ∀d,fv m (d+1) i=fv m d ((i*5+1)%(m+1))
 |0=>rfl
 |d+1=>by show (fv m (d+1) i*5+1)%(m+1)=_;rw [OD m i d];rfl
theorem OE (m:Nat): ∀n i j,j∈Io m n i-> ∃d,d<n/\fv m d i=j
 |0,_,_,h=>by cases h
 |n+1,i,j,h=>by
  rcases dk.mp h with rfl|h
  . exact ⟨0,EV _,rfl⟩
  . obtain ⟨d,c,a⟩:=OE m n _ j h;exact ⟨d+1,by omega,by rw [OD];exact a⟩
def Vg (a:fv m (m+1) 0=0) (h:(fK (m+1)).all (λj=>(Io m (m+1) 0).contains j)=true):o3 m:=
 ji2 a λj g=>by
  have c:=lI.mp h j (ic.mpr (by omega));obtain ⟨d,i,e⟩:=OE m _ _ _ (List.contains_iff_mem.mp c);exact ⟨d,by omega,e⟩
def Ip:o3 7:=Vg (by decide+kernel) (by decide+kernel)
def jj2:o3 31:=Vg (by decide+kernel) (by decide+kernel)
def ji3:o3 127:=Vg (by decide+kernel) (by decide+kernel)
def Wt (C:o3 m) (h:Int) (a:j<=m): ∃c,c<=m+13/\(lp m h c).1=j:=by
 obtain ⟨d,g,e⟩:=C _ j (OB m h 13) a;exact ⟨13+d,by omega,by rw [OC,e]⟩
def kI (C:o3 m) (h:Int) (a:j<=m): ∃n,n<=10*(m+13)/\at' m h n=j:=by
 obtain ⟨c,g,e⟩:=Wt C h a;refine ⟨off m h c,dw (OA m h c) (by omega),?_⟩;have:=Kc (m:=m) (h:=h) (c:=c) (i5 _);rw [BD] at this;rw [this,e,BD]
def OF (h:Int) (n:Nat):at' m h n<=m:=by
 suffices c: ∀n,(im m h n).j+(im m h n).more<=m by exact dw (AU _ _) (c n)
 have a: ∀i q,i<=m->(C7 m i q).j+(C7 m i q).more<=m:=λi q e=>by
  show i+(runEnd m i-i)<=m;unfold runEnd;split<;>omega
 intro n
 induction n with
 |zero=>exact a _ _ (OB m h 0)
 |succ n g=>
  show (rf m (im m h n)).j+(rf m (im m h n)).more<=m;unfold rf
  split
  . show (im m h n).j+1+((im m h n).more-1)<=m;omega
  . exact a _ 0 (Im (Nat.mod_lt _ (EV _)))
def Wz {m:Nat} (C:o3 m) (h:Int) (c:Nat->Prop) [DecidablePred c] {j:Nat} (l:j<=m) (o: ¬c j): ∃n,n<=10*(m+13)/\ ¬c (at' m h n)/\ ∀k,k<n->c (at' m h k):=by
 obtain ⟨n,u,p⟩:=kI C h l
 suffices q: ∀N,¬c (at' m h N)-> ∃n,n<=N/\ ¬c (at' m h n)/\ ∀k,k<n->c (at' m h k) by
  obtain ⟨g,a,b⟩:=q n (by rw [p];exact o);exact ⟨g,by omega,b⟩
 intro N
 induction N using Nat.strongRecOn with
 |ind N r=>
  intro hN
  by_cases e: ∀k,k<N->c (at' m h k)
  . exact ⟨N,bf _,hN,e⟩
  . simp at e;obtain ⟨k,i,e⟩:=e;obtain ⟨g,a,b⟩:=r k i e;exact ⟨g,by omega,b⟩
end Tab
end M
namespace M
open PySem
namespace Tac
variable {L:Bool}
open Tab
open SetTable (Probe runEnd leap bits below insertAt)
theorem XL (g:Array Nat) (j:Nat) (up:g.toList.Pairwise (· < ·)): ∀(fuel lo c:Nat),c-lo<=fuel->lo<=c->c<=g.size->(∀k v,k<lo->g[k]?=some v->v<j)->(∀k v,c<=k->g[k]?=some v->j<=v)->
  (∀k v,k<EX g j fuel lo c->g[k]?=some v->v<j)/\(∀k v,EX g j fuel lo c<=k->g[k]?=some v->j<=v)/\EX g j fuel lo c<=g.size
 |0,lo,c,H,I,l,m,n=>by
  obtain rfl:lo=c:=by omega
  exact ⟨m,n,l⟩
 |fuel+1,lo,c,H,I,l,m,n=>by
  unfold EX
  by_cases z:lo<c
  . rw [if_pos z];have i:(lo+c)/2<g.size:=by omega
    have J:g.getD ((lo+c)/2) j=g[(lo+c)/2]:=by rw [xz,m8 i];rfl
    have mono: ∀a b p vb,a<b->g[a]?=some p->g[b]?=some vb->p<vb:=λa b p vb q B E=>by
      rw [<-oj] at B E;obtain ⟨r,u⟩:=m9.mp B;obtain ⟨w,y⟩:=m9.mp E;rw [<-u,<-y];exact CO.mp up a b r w q
    dsimp only;rw [J]
    by_cases o:g[(lo+c)/2]<j
    . rw [if_pos o];refine XL g j up fuel _ c (by omega) (by omega) l (λk v N e=>?_) n
      by_cases h:k=(lo+c)/2
      . subst h;rw [m8 i] at e;cases e;exact o
      . exact Eb (mono k _ v _ (by omega) e (m8 i)) o
    . rw [if_neg o];refine XL g j up fuel lo _ (by omega) (by omega) (by omega) m (λk v N e=>?_)
      by_cases h:k=(lo+c)/2
      . subst h;rw [m8 i] at e;cases e;omega
      . have:=mono _ k _ v (by omega) (m8 i) e;omega
  . rw [if_neg z];obtain rfl:lo=c:=by omega
    exact ⟨m,n,l⟩
def WE (up:a.toList.Pairwise (· < ·)) (j:Nat):(∀k v,k<nk a j->a[k]?=some v->v<j)/\(∀k v,nk a j<=k->a[k]?=some v->j<=v)/\nk a j<=a.size:=
 XL a j up a.size 0 a.size (by omega) (i5 _) (bf _) (λk v h _=>absurd h (BE _)) λk v h e=>by
  rw [Array.getElem?_eq_none h] at e;cases e
def jea (up:a.toList.Pairwise (· < ·)) (e:a[i]?=some j):nk a j=i:=by
 obtain ⟨l,m,o⟩:=WE up j
 have n:nk a j<=i:=by
  refine Ec λh=>?_
  exact absurd (l i j h e) (rj _)
 have c:=(Array.getElem?_eq_some_iff.mp e).1;refine Nat.le_antisymm n (Ec λh=>?_);have g:nk a j<a.size:=by omega
 have:=m _ _ (bf _) (m8 g)
 have p:a[nk a j]<a[i]:=by
  have:=CO.mp up (nk a j) i (by simpa using g) (by simpa using c) h;simpa using this
 rw [m8 c] at e;cases e;omega
theorem ug {t:mi} (up:t.place.toList.Pairwise (· < ·)) (dm:t.dummies= #[]) (j:Nat):t.slot j=match t.place[nk t.place j]? with
  |some v=>if v=j then .live (nk t.place j) else .empty
  |none=> .empty:=by
 unfold SetTable.slot;have hd:SetTable.has t.dummies j=false:=by rw [dm];rfl
 dsimp only;rw [hd]
 cases h:t.place[nk t.place j]? with
 |none=>simp
 |some v=>simp
def X5 {t:mi} (up:t.place.toList.Pairwise (· < ·)) (dm:t.dummies= #[]) (e:t.place[i]?=some j):t.slot j= .live i:=by
 rw [ug up dm,jea up e,e];simp
def kz {t:mi} (up:t.place.toList.Pairwise (· < ·)) (dm:t.dummies= #[]) (e:j∉t.place.toList):t.slot j= .empty:=by
 rw [ug up dm]
 split
 . rename_i v h;rw [if_neg];rintro rfl;rw [<-oj] at h;exact e (sI h)
 . rfl
structure Tb (L:Bool) (m:Nat) (t:mi) (es:Array (Int×Value)):Prop where
 ld:t.led=L
 mask:t.mask=m
 dm:t.dummies= #[]
 sz:t.place.size=es.size
 up:t.place.toList.Pairwise (· < ·)
 le: ∀j∈t.place.toList,j<=m
def Tb.fresh (led:Bool):Tb led 7 (.fresh 0 0 led) #[]:=⟨rfl,rfl,rfl,rfl,.nil,(λ_ h=>by cases h)⟩
section
variable {m:Nat} {t:mi} {Z:Array (Int×Value)}
def Tb.el (T:Tb L m t Z) {i:Nat} (h:t.place[i]?=some j): ∃e,Z[i]?=some e:=by
 have:=(Array.getElem?_eq_some_iff.mp h).1;exact ⟨_,m8 (by rw [<-T.sz];exact this)⟩
def Tb.put (T:Tb L m t Z) (n:j<=m) (o:j∉t.place.toList):Tb L m (t.put j).1 (insertAt Z (t.put j).2 (h,x)):=by
 obtain ⟨p,i,u⟩:=WE T.up j
 have c: ∀k,k∈(insertAt t.place (nk t.place j) j).toList↔k=j\/k∈t.place.toList:=λk=>by
   rw [SetTable.toList_insertAt];have:t.place.toList=t.place.toList.take (nk t.place j)++t.place.toList.drop (nk t.place j):=(Iq _ _).symm
   constructor
   . intro z;rcases i3.mp z with z|z
     . exact .inr (EY z)
     . rcases dk.mp z with z|z
       . exact .inl z
       . exact .inr (EZ z)
   . rintro (rfl|z)
     . exact pf _ ez
     . rw [this] at z;rcases i3.mp z with z|z
       . exact ut _ z
       . exact pf _ (dZ _ z)
 have hd:(t.put j).1.dummies= #[]:=by
   show (if SetTable.has t.dummies j then _ else t.dummies)= #[];rw [T.dm];rfl
 refine ⟨T.ld,T.mask,hd,?_,?_,?_⟩
 . show (insertAt t.place (nk t.place j) j).size=(insertAt Z (nk t.place j) (h,x)).size;have:=T.sz;rw [<-lC,<-lC,(Ir _ _ _).length_eq,(Ir _ _ _).length_eq];simp [this]
 . show (insertAt t.place (nk t.place j) j).toList.Pairwise (· < ·);rw [SetTable.toList_insertAt,List.pairwise_append,By];refine ⟨T.up.sublist (Gi _ _),⟨λv g=>?_,T.up.sublist (List.drop_sublist _ _)⟩,λv g w hw=>?_⟩
   . obtain ⟨q,a⟩:=E1.mp g;rw [List.getElem?_drop,oj] at a;have:=i _ _ (AU _ _) a;refine Nat.lt_of_le_of_ne this ?_;rintro rfl;exact o (by rw [<-oj] at a;exact sI a)
   . have e:v<j:=by
       obtain ⟨q,a⟩:=E1.mp g;obtain ⟨r,y⟩:=m9.mp a;have l:q<nk t.place j:=by simp at r;omega
       rw [List.getElem?_take_of_lt l,oj] at a;exact p q v l a
     rcases dk.mp hw with rfl|hw
     . exact e
     . obtain ⟨q,a⟩:=E1.mp hw;rw [List.getElem?_drop,oj] at a;exact gT e (i _ _ (AU _ _) a)
 . intro k hk;rcases (c k).mp hk with rfl|hk
   . exact n
   . exact T.le k hk
theorem OG: ∀ {l c:List Nat},l.Nodup->(∀x∈l,x∈c)->l.length<=c.length
 | [],_,_,_=>i5 _
 |a::l,c,g,h=>by
  obtain ⟨i,j⟩:=ti.mp g;have n:=OG j λx e=>(Gz (by rintro rfl;exact i e)).mpr (h x (dZ _ e))
  have o:=GA (h a ez);have p:=GB (h a ez);rw [fb];omega
def Tb.free (T:Tb L m t Z) (g:Z.size<=m): ∃j,j<=m/\j∉t.place.toList:=by
 refine E2 λh=>?_
 have a: ∀j,j∈fK (m+1)->j∈t.place.toList:=λj c=>E2 λz=>h ⟨j,by have:=ic.mp c;omega,z⟩
 have e:=OG (Ev) a;rw [AX,lC,T.sz] at e;omega
end
end Tac
end M
namespace M
open PySem
namespace Tac
open Tab
variable {L:Bool}
open SetTable (Probe runEnd leap bits below insertAt)
def qr (a:Array (Option Nat)) (j:Nat):Prop:=(a.getD j (some 0)).isNone=false
instance (ow:Array (Option Nat)):DecidablePred (qr ow):=λj=>inferInstanceAs (Decidable (_=false))
def jhx (m i:Nat):i<=runEnd m i:=by unfold runEnd;split<;>omega
def Xa (m:Nat) (h:Int) (c:Nat):off m h (c+1)=off m h c+(runEnd m (lp m h c).1-(lp m h c).1)+1:=rfl
def jcV (m:Nat) (h:Int) (c:a<b):off m h a<off m h b:=by
 induction b with
 |zero=>omega
 |succ b g=>
  rw [Xa]
  by_cases e:a=b
  . subst e;omega
  . have:=g (by omega);omega
theorem OH (hN: ¬qr g (at' m h N)) (i: ∀k,k<N->qr g (at' m h k)): ∀(fuel c:Nat),off m h c<=N->N<off m h (c+fuel)->
  C9 m g fuel (lp m h c).1 (lp m h c).2=some (at' m h N)
 |0,c,p,j=>by rw [BD] at j;omega
 |fuel+1,c,p,j=>by
  have q:=jhx m (lp m h c).1;unfold C9
  by_cases o:N<off m h (c+1)
  . rw [Xa] at o
    have e:at' m h N=(lp m h c).1+(N-off m h c):=by
     rw [<-Kc (by omega)];congr 1;omega
    have l:(fK (runEnd m (lp m h c).1+1-(lp m h c).1)).find? (λk=>(g.getD ((lp m h c).1+k) (some 0)).isNone)=some (N-off m h c):=by
     rw [List.find?_range_eq_some];refine ⟨?_,by rw [ic];omega,λk n=>?_⟩
     . rw [<-e];unfold qr at hN;simpa using hN
     . have a:=i (off m h c+k) (by omega);rw [Kc (by omega)] at a;unfold qr at a;simpa using a
    rw [l,e]
  . have l:(fK (runEnd m (lp m h c).1+1-(lp m h c).1)).find? (λk=>(g.getD ((lp m h c).1+k) (some 0)).isNone)=none:=by
     rw [Iu];intro k n;have n:=ic.mp n;rw [Xa] at o;have a:=i (off m h c+k) (by omega);rw [Kc (by omega)] at a;unfold qr at a;rw [Bool.not_eq_true];exact a
    rw [l];exact OH hN i fuel (c+1) (by omega) (by rw [show c+1+fuel=c+(fuel+1) by omega];exact j)
def jgj (C:o3 m) (h:Int) (i:j<=m) (l: ¬qr a j): ∃N,C9 m a (sO m) (bits h%(m+1)) (bits h)=some (at' m h N)/\ ¬qr a (at' m h N)/\ ∀k,k<N->qr a (at' m h k):=by
 obtain ⟨c,p,o⟩:=Wt C h i;obtain ⟨N,_,n,g⟩:=Wz C h (qr a) i l;refine ⟨N,?_,n,g⟩
 have q:N<=off m h c:=by
  refine Ec λz=>?_
  have:=g _ z;have e:=Kc (m:=m) (h:=h) (c:=c) (i5 _);rw [BD,BD,o] at e;rw [e] at this;exact l this
 have:=jcV m h (show c<0+sO m by unfold sO;omega);exact OH n g (sO m) 0 (i5 _) (by omega)
structure Ow (m:Nat) (ow:Array (Option Nat)) (k:Nat):Prop where
 sz:ow.size=m+1
 aw: ∀(j q:Nat),ow[j]?=some (some q)->q<k
 cnt:(fK (m+1)).countP (λj=>(ow.getD j none).isSome)=k
def Yo (c:j<a.size):qr a j↔ ∃q,a[j]?=some (some q):=by
 unfold qr;rw [xz,m8 c];cases h:a[j]<;>simp [h]
def Ow.room (O:Ow m a k) (hk:k<=m): ∃j,j<=m/\ ¬qr a j:=by
 refine E2 λh=>?_
 have:=(List.countP_eq_length (p:=λj=>(a.getD j none).isSome) (l:=fK (m+1))).mpr λj c=>by
  have c:=ic.mp c;have:qr a j:=E2 λz=>h ⟨j,by omega,z⟩
  obtain ⟨q,e⟩:=(Yo (by rw [O.sz];omega)).mp this;simp [xz,e]
 rw [O.cnt,AX] at this;omega
theorem OI {f g:Nat->Bool} (h: ∀j,j≠p->f j=g j) (c:f p=false) (i:g p=true): ∀ {l:List Nat},l.Nodup->p∈l->l.countP g=l.countP f+1
 |a::l,m,n=>by
  obtain ⟨o,r⟩:=ti.mp m
  by_cases e:a=p
  . subst e;rw [List.countP_cons_of_pos i,List.countP_cons_of_neg (by simp [c]),List.countP_congr (p:=g) (q:=f) λx u=>by rw [h x (by rintro rfl;exact o u)]]
  . have:=OI h c i r ((dk.mp n).resolve_left λz=>e z.symm);simp only [List.countP_cons,this,h a e];omega
def Ow.step (O:Ow m a k) (hN: ¬qr a (at' m h N)):Ow m (a.setIfInBounds (at' m h N) (some k)) (k+1):=by
 have c:=OF (m:=m) h N;have de:at' m h N<a.size:=by rw [O.sz];omega
 have get: ∀j:Nat,(a.setIfInBounds (at' m h N) (some k))[j]?=if at' m h N=j then some (some k) else a[j]?:=λj=>by
   rw [Array.getElem?_setIfInBounds]
   split
   . rename_i e;subst e;simp [de]
   . rfl
 refine ⟨by rw [Array.size_setIfInBounds];exact O.sz,λj q e=>?_,?_⟩
 . rw [get] at e
   split at e
   . cases e;omega
   . have:=O.aw j q e;omega
 . refine (OI (p:=at' m h N) (f:=λj=>(a.getD j none).isSome) (λj g=>?_) ?_ ?_ Ev (ic.mpr (by omega))).trans (by rw [O.cnt])
   . simp only [xz,get,if_neg (lD g)]
   . cases e:a.getD (at' m h N) none with
     |none=>rfl
     |some q=>exact absurd ((Yo de).mpr ⟨q,by rw [xz,m8 de] at e;rw [m8 de];simpa using e⟩) hN
   . simp [xz,get]
theorem OJ (C:o3 m) (p:n.length<=m): ∀(l done:List Int) (i:Array (Option Nat)),done++l=n->Ow m i done.length->
  ∃g,l.foldl (λ(o:Option (Array (Option Nat)×Nat)) h=>do
   let (c,k)<-o
   let j<-C9 m c (sO m) (bits h%(m+1)) (bits h)
   pure (c.setIfInBounds j (some k),k+1)) (some (i,done.length))=some (g,n.length)/\Ow m g n.length
 | [],done,i,e,O=>by
  rw [o8] at e;subst e;exact ⟨i,rfl,O⟩
 |h::l,done,i,e,O=>by
  have y:done.length<n.length:=by rw [<-e];simp
  obtain ⟨j,q,r⟩:=O.room (by omega);obtain ⟨N,u,v,z⟩:=jgj C h q r;have w:=O.step v;obtain ⟨g,a,b⟩:=OJ C p l (done++[h]) _ (by rw [<-e];simp) (by rw [iE];exact w);refine ⟨g,?_,b⟩;rw [<-a,E3];congr 1;show (C9 m i (sO m) (bits h%(m+1)) (bits h)>>=λj=>_)=_;rw [u,iE];rfl
def KY (C : o3 m) (h : hs.size <= m) : ∃ c, SetTable.layClean m hs = some c /\ Ow m c hs.size := by
  have i : Ow m (Array.replicate (m + 1) none) 0 := ⟨by simp, λj q e => by rw [Array.getElem?_replicate] at e; split at e <;> simp at e, by
    rw [List.countP_eq_zero]
    intro j l
    simp [xz, Array.getElem?_replicate, ic.mp l]⟩
  obtain ⟨c, a, b⟩ := OJ C (by simpa using h) hs.toList [] _ rfl i
  refine ⟨c, ?_, by simpa using b⟩
  unfold SetTable.layClean
  rw [<- Array.foldl_toList]
  have g := a
  simp only [sG] at g
  rw [g]; rfl
def uC {m:Nat} (T:Tb L m t g) (hw:Db h-1=n) (C:o3 n) (I:g.size<=n):
   ∃w order,t.relaid (g.map (·.1)) h=some (w,order)/\Tb L n w (order.filterMap (g[·]?))/\(∀e∈(order.filterMap (g[·]?)).toList,e∈g.toList)/\(order.filterMap (g[·]?)).size=g.size:=by
 obtain ⟨z,J,O⟩:=KY C (hs:=g.map (·.1)) (by simpa using I);rw [Array.size_map] at O;unfold SetTable.relaid SetTable.laid;rw [hw,J];generalize i:(fK (n+1)).filterMap (λj=>(z.getD j none).map (j, ·))=c
 have mem: ∀p∈c,p.1<=n/\p.2<g.size:=λp o=>by
   rw [<-i,BQ] at o;obtain ⟨a,u,e⟩:=o;rw [vN] at e;obtain ⟨b,e1,rfl⟩:=e;have u:=ic.mp u;rw [xz,m8 (by rw [O.sz];exact u)] at e1;exact ⟨by omega,O.aw a b (by rw [m8 (by rw [O.sz];exact u)];simpa using e1)⟩
 have l:c.length=g.size:=by
   rw [<-i,OK,<-O.cnt];exact List.countP_congr λj _=>by cases z.getD j none<;>simp
 have up:c.Pairwise (λa b=>a.1<b.1):=by
   rw [<-i];refine List.pairwise_filterMap.mpr ((List.pairwise_lt_range).imp λ{a b} v x B y E=>?_);rw [vN] at B E;obtain ⟨_,_,rfl⟩:=B;obtain ⟨_,_,rfl⟩:=E;exact v
 have r:((c.map (·.2)).toArray.filterMap (g[·]?)).size=g.size:=by
   rw [<-lC];simp only [Array.toList_filterMap,OK];rw [<-l,<-cg (f:=(·.2)) (as:=c),List.countP_eq_length];intro q N;obtain ⟨p,o,rfl⟩:=c4.mp N;rw [m8 (mem p o).2];rfl
 refine ⟨{mask:=n,place:=(c.map (·.1)).toArray,dummies:= #[],finger:=t.finger,led:=t.led,moves:=t.movedTo n,plain:=t.plain},(c.map (·.2)).toArray,by rw [<-i];rfl,⟨T.ld,rfl,rfl,by rw [r];simp [l],wr.mpr up,λj Q=>?_⟩,λe H=>?_,r⟩
 . obtain ⟨p,o,rfl⟩:=c4.mp (show j∈c.map (·.1) from Q);exact (mem p o).1
 . simp only [Array.toList_filterMap,BQ] at H;obtain ⟨q,_,e⟩:=H;exact Bi.mpr (Array.mem_of_getElem? e)
end Tac
end M
namespace M
open PySem
namespace Tac
open Tab
variable {L:Bool}
open SetTable (Probe runEnd leap bits below insertAt)
theorem Yj (m:Nat) (h:Int): ∀n,(im m h n).dummy=none
 |0=>rfl
 |n+1=>by
  show (rf m (im m h n)).dummy=none;unfold rf;split<;>exact Yj m h n
def jjc (t:mi) (p:Probe):t.advance p=rf t.mask p:=by unfold SetTable.advance rf;split<;>rfl
def jcr (t:mi) (h:Int):t.probeStart h=im t.mask h 0:=rfl
section
variable {m:Nat} {t:mi} {Y:Array (Int×Value)}
theorem VO (T:Tb L m t Y) {hashAt:Nat->Int} (h:Int) (hN:at' m h N∉t.place.toList) (j: ∀k,k<N->at' m h k∈t.place.toList):
  ∀(F n:Nat),N-n<F->n<=N->
    xD t hashAt h F (im m h n)=some (.empty (at' m h N) none)\/
    ∃(q i:Nat) (e:Int×Value),n<=q/\q<N/\t.place[i]?=some (at' m h q)/\Y[i]?=some e/\xD t hashAt h F (im m h n)=some (.candidate (at' m h q) i (im m h (q+1)))
 |0,n,l,_=>absurd l (BE _)
 |F+1,n,l,v=>by
  by_cases o:n=N
  . subst o;refine .inl ?_;unfold xD;rw [show (im m h n).j=at' m h n from rfl,kz T.up T.dm hN];rw [Yj]
  . obtain ⟨i,c⟩:=E1.mp (j n (by omega));rw [oj] at c;obtain ⟨e,p⟩:=T.el c
    have g:xD t hashAt h (F+1) (im m h n)=if hashAt i==h then some (.candidate (at' m h n) i (im m h (n+1))) else xD t hashAt h F (im m h (n+1)):=by
      rw [xD];rw [show (im m h n).j=at' m h n from rfl,X5 T.up T.dm c];simp only [jjc,T.mask];rfl
    rw [g]
    split
    . exact .inr ⟨n,i,e,bf _,by omega,c,p,rfl⟩
    . rcases VO T h hN j F (n+1) (by omega) (by omega) with a| ⟨q,r,u,a,b⟩
      . exact .inl a
      . exact .inr ⟨q,r,u,by omega,b⟩
end
section
variable {prog:bQ} {w:World} {K:Type} [DecidableEq K] {Z:KeyKind prog w K} {A:cf} {E:T9} {s:aH}
def XG (n:Nat) (h:BF v=true):Dc n v=pure false:=by
 cases v with
 |ref a=>simp [BF] at h
 |_=>first|rfl|simp [Dc]| (unfold Dc;rfl)
def JR (l:mR Z s.heap ks a) (h:Q false s):wpAny (model prog w) A (Dc 8 (.ref a)) Q E s:=by
 have m:=l.typeIs;obtain ⟨o,e,n,p,_,hd,q⟩:=l;unfold Dc;refine ay (Bp m ?_);refine ay (aR ?_);simp;refine ay (Bc p hd ?_);dsimp only;refine ay ?_;rw [<-DJ];refine BL _ (λrest r g=>r.1=none/\g=s/\ ∀v∈rest,BF v=true) _ ?_ ?_ _ _ ⟨rfl,rfl,q.byValue⟩
 . rintro v rest r g ⟨i,rfl,c⟩;rw [XG _ (c v ez)];refine ay (aR ?_);simp;exact aR ⟨rfl,rfl,λu j=>c u (dZ _ j)⟩
 . rintro ⟨y,z⟩ g ⟨i,rfl,_⟩;simp only at i;subst i;exact aR h
def K4 (n:Nat) (h:BF v=true): ∃b,hashByValue n v=pure b:=by
 cases v with
 |ref a=>simp [BF] at h
 |_=>cases n<;>first|exact ⟨_,rfl⟩| (unfold hashByValue;exact ⟨_,rfl⟩)
def K5 (j:mR Z s.heap ks a) (h: ∀b,Q b s):wpAny (model prog w) A (hashByValue 8 (.ref a)) Q E s:=by
 have l:=j.typeIs;obtain ⟨o,e,n,m,_,hd,p⟩:=j;unfold hashByValue;refine ay (wpAny_specialOf l F.slot_tuple_hash.lookup ?_);refine ay (Bc m hd ?_);refine ay ?_;rw [<-DJ];refine BL _ (λrest r g=>g=s/\ ∀v∈rest,BF v=true) _ ?_ ?_ _ _ ⟨rfl,p.byValue⟩
 . rintro v rest r g ⟨rfl,c⟩;obtain ⟨b,q⟩:=K4 7 (c v ez);rw [q];refine ay (aR ?_)
   cases b with
   |true=>
    simp;exact aR ⟨rfl,λu i=>c u (dZ _ i)⟩
   |false=>
    simp;exact aR (aR (h _))
 . rintro ⟨y,z⟩ g ⟨rfl,_⟩
   cases y with
   |none=>exact aR (h _)
   |some b=>exact aR (h _)
def kh (j:mR Z s.heap ks a) (l:List Value) (n: ∀y∈l,∃b k,y= .ref b/\mR Z s.heap k b) (h:Q false s):wpAny (model prog w) A (searchCouldBeSeen (.ref a) l) Q E s:=by
 unfold searchCouldBeSeen;refine ay ?_;refine BL _ (λrest r g=>r.1=none/\g=s/\ ∀y∈rest,∃b k,y= .ref b/\mR Z s.heap k b) _ ?_ ?_ _ _ ⟨rfl,rfl,n⟩
 . rintro y rest r g ⟨i,rfl,c⟩;obtain ⟨b,k,rfl,m⟩:=c y ez;have go: ∀u e,_:=λu (e:u∈rest)=>c u (dZ _ e)
   dsimp only
   split
   . exact aR ⟨rfl,rfl,go⟩
   . refine ay (wpAny_eqIsQuiet_tuple j ?_);simp only [sQ,nY,if_false];refine ay (wpAny_eqIsQuiet_tuple m ?_);simp only [sQ,nY,if_false];refine ay (JR j ?_);simp only [nY,if_false];refine ay (JR m ?_);simp only [nY,if_false];exact aR ⟨rfl,rfl,go⟩
 . rintro ⟨o,p⟩ g ⟨i,rfl,_⟩;simp only at i;subst i;exact aR h
end
end Tac
end M
namespace M
open PySem
namespace Tac
open Tab
variable {L:Bool}
open SetTable (Probe runEnd leap bits below insertAt)
def Sz (m n:Nat):Prop:=(m=7/\n<=4)\/(m=31/\n<=18)\/(m=127/\n<=76)
def Sz.OL (S:Sz m n):o3 m:=by
 rcases S with ⟨rfl,_⟩| ⟨rfl,_⟩| ⟨rfl,_⟩
 . exact Ip
 . exact jj2
 . exact ji3
def Sz.le (S:Sz m n):n<=m/\m<=127/\m%2=1/\n<=76:=by rcases S with ⟨rfl,h⟩| ⟨rfl,h⟩| ⟨rfl,h⟩<;>omega
def Tb.fits (T:Tb L m t a) (h:a.size<=m):t.fits a.size=true:=by
 unfold SetTable.fits SetTable.fill;rw [T.dm,T.sz,T.mask];simpa using h
section
variable {prog:bQ} {w:World} {K:Type} [DecidableEq K] {Z:KeyKind prog w K} {A:cf} {E:T9} {s:aH}
def uo (hu:A.units<cLine) (J:s.heap.get? a=some o) (hd:o.data= .set j ep t) (T:Tb L m t j) (S:Sz m j.size)
  (O: ∀e∈j.toList,∃k b,e=(mj Z k,cK b)/\k≠g/\mR Z s.heap k b) (U:mR Z s.heap g xa)
  (hN:at' m (mj Z g) N∉t.place.toList) (hb: ∀k,k<N->at' m (mj Z g) k∈t.place.toList) (OM:N<=10*(m+13)) (h2:Q (.free (at' m (mj Z g) N) false) s):
  ∀(F n:Nat) (c:Option Probe),N-n<F->n<=N->c.getD (t.probeStart (mj Z g))=im m (mj Z g) n->
    wpAny (model prog w) A (setSearchFrom a (.ref xa) (mj Z g) true F c) Q E s:=by
 have Y:=T.fits S.le.1;intro F
 induction F with
 |zero=>intro n _ z;exact absurd z (BE _)
 |succ F ih=>
  intro n c hF hn p;unfold setSearchFrom;refine ay (BA J hd Y ?_);dsimp only;have r:t.gaveWay=false:=by unfold SetTable.gaveWay;rw [T.mask];have:=S.le.2.2.1;simp [this]
  rw [r];simp;rw [p];unfold SetTable.probe;generalize l:xD t _ (mj Z g) (10*sO t.mask) (im m (mj Z g) n)=R;have l:xD t (λi=>(j[i]?.map (·.1)).getD 0) (mj Z g) (10*sO t.mask) (im m (mj Z g) n)=R:=l;rcases VO T (hashAt:=λi=>(j[i]?.map (·.1)).getD 0) _ hN hb (10*sO t.mask) n (by rw [T.mask];unfold sO;omega) hn with e1| ⟨q,i,e,a1,a2,a3,u,a6⟩
  . rw [l] at e1;subst e1;exact aR h2
  . rw [l] at a6;subst a6;dsimp only;obtain ⟨k,b,rfl,v,B⟩:=O e (Bi.mpr (Array.mem_of_getElem? u));have H:t.sameMemory t.moves t.mask=some true:=by unfold SetTable.sameMemory;simp
    split
    case' isTrue=>
     refine ay (kh U _ (λy hy=>?_) ?_)
     . obtain ⟨I,h,rfl⟩:=c4.mp hy;have h:I∈j/\I.1=mj Z g:=by simpa using h
       obtain ⟨k',b',rfl,_,h'⟩:=O I (Bi.mpr h.1);exact ⟨_,_,rfl,h'⟩
     simp
    all_goals
     rw [u];dsimp only;refine ay (nA (wpAny_eqBool_tuple hu B U ?_));refine ay (BA J hd Y ?_);rw [decide_eq_false v];simp;rw [H];simp;rw [X5 T.up T.dm a3];dsimp only;rw [u];dsimp only;refine ay (wpAny_isSame_ref_self ?_);simp;exact ih (q+1) _ (by omega) (by omega) rfl
end
end Tac
end M
namespace M
open PySem
namespace Tac
open Tab
variable {L:Bool}
open SetTable (Probe runEnd leap bits below insertAt)
def Tb.led (T:Tb L m t a) (b:Bool):Tb L m {t with plain:=b} a:=⟨T.ld,T.mask,T.dm,T.sz,T.up,T.le⟩
section
variable {prog:bQ} {w:World} {K:Type} [DecidableEq K] (Z:KeyKind prog w K)
def g9 (G:VC) (h:Heap) (a:Addr) (ks:List (List K)):Prop:= ∃(o:Obj) (c:Array (Int×Value)) (g:Nat) (t:mi) (m:Nat) (L:Bool),h.get? a=some o/\o.ExactSet/\o.data= .set c g t/\Tb L m t c/\Sz m c.size/\c.size=ks.length/\ ∀e∈c.toList,∃k b,e=(mj Z k,cK b)/\k∈ks/\mR Z h k b/\G b
variable {Z} {G:VC} {A:cf} {E:T9} {s:aH}
def YE (x:mR Z h ks a) (l:h.get? d=some o) (hd:o.data= .set u v t) (m:rA d h p):mR Z p ks a:=by
 obtain ⟨j,c,n,g,q,e,r⟩:=x
 have i:a≠d:=by
  rintro rfl;obtain rfl:j=o:=ie (g.symm.trans l);rw [hd] at e;exact nomatch e
 exact ⟨j,c,n,(m.2 a i).trans g,q,e,r⟩
def X3 {h:Heap} (g:h.get? a=some o) (hd:o.data= .set j i t) (c:Array (Int×Value)) (e:mi):
  (h.update a (Dd c e)).get? a=some {o with data:= .set c (i+1) e}:=by
 have:=Hy (Dd c e) g (by rw [putSet_of c e hd];rfl);rw [putSet_of c e hd] at this;exact this
def jcw (q:s.heap.get? a=some o) (hd:o.data= .set i B t) (T:Tb L m t i) (r:i.size<=m) (hw:Db c-1=l) (u:Db c<=aV) (C:o3 l) (n:i.size<=l) (v:i.size<=aV)
  (h: ∀g p,Tb L l p g->(∀e∈g.toList,e∈i.toList)->g.size=i.size->Q () {s with heap:=s.heap.update a (Dd g p)}):wpAny (model prog w) A (setRelay a c) Q E s:=by
 obtain ⟨p,order,e1,y,z,j⟩:=uC T hw C n;unfold setRelay;refine ay (BA q hd (T.fits r) ?_);dsimp only;rw [if_neg (Nat.not_lt.mpr u)];rw [e1];refine ay ?_;show wpAny _ _ (if (order.filterMap (i[·]?)).size !=i.size then _ else _) _ _ _;rw [j];simp;refine aR ?_;exact wpAny_storeSet_of q hd (h _ _ y z j) (by rw [j];exact v)
def jg6 (hu:A.units<cLine) {a:Addr} {ks:List (List K)} (hS:g9 Z G s.heap a ks) (hx:mR Z s.heap y H) (hg:G H) (hn:ks.length<76) (Iv:y∉ks)
   (h: ∀B b,rA a s.heap B->g9 Z G B a (ks++[y])->Q b {s with heap:=B}):wpAny (model prog w) A (setAddHashed a (.ref H) (mj Z y)) Q E s:=by
 obtain ⟨o,r,ep,t,m,L,O,hex,hd,T,S,hlen,hk⟩:=hS;have hf:=T.fits S.le.1;unfold setAddHashed setAddHashedIn;refine nA (ay (BA O hd hf ?_));dsimp only;have hbs:byScan (.ref H) r=false:=rfl;rw [hbs];simp only [nY,if_false];obtain ⟨j0,hj0,hf0⟩:=T.free S.le.1;obtain ⟨N,OM,hN,hb⟩:=Wz S.OL (mj Z y) (λj=>j∈t.place.toList) hj0 hf0;unfold setSearch;refine ay (uo hu O hd T S (λe he=>let ⟨k,b,z,k1,k2,_⟩:=hk e he;⟨k,b,z,λq=>Iv (by rw [<-q];exact k1),k2⟩) hx hN hb OM ?_ 100000 0 none (by have:=S.le;omega) (i5 _) (by rw [Go,jcr,T.mask]));dsimp only;refine ay (BA O hd hf ?_);dsimp only;have I:=T.put (h:=mj Z y) (x:= .ref H) (OF _ N) hN;generalize htp:t.put (at' m (mj Z y) N)=tp at I ⊢;obtain ⟨J,p1⟩:=tp;dsimp only at I ⊢;generalize Iw:insertAt r p1 (mj Z y,cK H)=c at I ⊢
 have n:c.toList.Perm (r.toList++[(mj Z y,cK H)]):=by
   rw [<-Iw];have:=Ir r p1 (mj Z y,cK H)
   rwa [HS] at this
 have p:c.size=r.size+1:=by rw [<-lC,n.length_eq,iE,lC];rfl
 have hle:c.size<=m:=by
   have:=S.le;rcases S with ⟨rfl,h⟩| ⟨rfl,h⟩| ⟨rfl,h⟩<;>omega
 have u:c.size<=aV:=by rw [pi];have:=S.le;omega
 have fin: ∀(B:Heap) (l:Array (Int×Value)) (U:mi) (m2 Y:Nat),rA a s.heap B->B.get? a=some {o with data:= .set l Y U}->Tb L m2 U l->Sz m2 l.size->(∀e∈l.toList,e∈c.toList)->l.size=c.size->Q true {s with heap:=B}:=λB l U m2 Y sb g T2 S2 p2 z2=>by
   refine h B true sb ⟨_,l,Y,U,m2,L,g,hex,rfl,T2,S2,by rw [z2,p,hlen,iE];rfl,λe he=>?_⟩;rcases i3.mp (n.mem_iff.mp (p2 e he)) with z|z
   . obtain ⟨k,b,q,k1,k2,k3⟩:=hk e z;exact ⟨k,b,q,ut _ k1,YE k2 O hd sb,k3⟩
   . rw [g8] at z;exact ⟨y,H,z,by simp,YE hx O hd sb,hg⟩
 have hq: ∀b:Bool,({J with plain:=b}:mi).tooFull=decide (m*3<=(r.size+1)*5):=λb=>by
   unfold SetTable.tooFull SetTable.fill;have h1:=(I.led b).dm;have h2:=(I.led b).sz;have h3:=(I.led b).mask;rw [h1,h2,h3,p];simp
 have tail: ∀b:Bool,wpAny (model prog w) A (do
     storeSet a c {J with plain:=b}
     if (
       !false&&({J with plain:=b}:mi).tooFull)=true then do
       setRelay a (E4 (r.size+1))
       pure true
       else pure true) Q E s:=λb=>by
   refine ay (wpAny_storeSet_of O hd ?_ u);have g1:=X3 O hd c {J with plain:=b};have ON:=Bx s.heap a (Dd c {J with plain:=b});rw [hq b]
   by_cases v:m*3<=(r.size+1)*5
   . rw [decide_eq_true v];simp
     have i: ∀m',Db (E4 (r.size+1))-1=m'->Db (E4 (r.size+1))<=128->Sz m' c.size->wpAny (model prog w) A (do
        setRelay a (E4 (r.size+1))
        pure true) Q E {s with heap:=s.heap.update a (Dd c {J with plain:=b})}:=λm' hw hz S'=>by
       refine ay (jcw g1 rfl (I.led b) hle hw (by rw [pi];omega) S'.OL S'.le.1 u λl U T2 p2 z2=>?_);exact aR (fin _ l U m' _ (ON.trans (Bx _ a _)) (X3 g1 rfl l U) T2 (by rw [z2];exact S') p2 z2)
     rw [p] at i;rcases S with ⟨rfl,h4⟩| ⟨rfl,h4⟩| ⟨rfl,h4⟩
     . have h5:r.size=4:=by omega
       rw [h5] at i ⊢;exact i 31 (by decide+kernel) (by decide+kernel) (.inr (.inl ⟨rfl,by omega⟩))
     . have h5:r.size=18:=by omega
       rw [h5] at i ⊢;exact i 127 (by decide+kernel) (by decide+kernel) (.inr (.inr ⟨rfl,by omega⟩))
     . omega
   . rw [decide_eq_false v];simp;refine aR (fin _ c _ m _ ON g1 (I.led b) ?_ (λ_ z=>z) rfl);rw [p];unfold Sz at S ⊢;omega
 split
 . refine ay (K5 hx λb=>?_)
   cases b with
   |true=>exact tail J.plain
   |false=>exact tail false
 . exact ay (aR (tail J.plain))
end
end Tac
end M
namespace M
open PySem
open PyProof.Rows
namespace Tac
open Tab
variable {L:Bool}
section
variable {prog:bQ} {w:World} {K:Type} [DecidableEq K] {Z:KeyKind prog w K} {Y:VC}
def QQ (x:mR Z h k b) (e: ∀o,h.get? b=some o->a.get? b=some o):mR Z a k b:=
 let ⟨o,i,n,c,g⟩:=x
 ⟨o,i,n,e o c,g⟩
def g9.same (x:g9 Z Y h a ks) (e: ∀b o,(b=a\/Y b)->h.get? b=some o->g.get? b=some o):g9 Z Y g a ks:=by
 obtain ⟨o,i,j,t,m,L,l,hex,hd,T,S,n,hk⟩:=x;exact ⟨o,i,j,t,m,L,e a o (.inl rfl) l,hex,hd,T,S,n,λq p=>let ⟨k,b,z,r,u,c⟩:=hk q p;⟨k,b,z,r,QQ u λo=>e b o (.inr c),c⟩⟩
variable {A:cf} {R:Result->aH->Prop} {I:Addr} {Q U:List Addr} {G:Array GenState->Array GenState->Prop} {n:Nat} {P:Nat->Value->Prop} {St:Nat->aH->Prop}
def jjN (W:WalksS prog w A.in1 I Q U G n P St) (S:Addr) (q:S∉Q) (hu:A.in1.units<cLine) (val:Nat->List K) (H: ∀b,Y b->b≠S/\b∉U) (hb:n<=76) (J: ∀i j,j<i->i<n->val j≠val i):
  ∀(k i:Nat) (s:aH),n-i=k->i<=n->St i s->g9 Z Y s.heap S ((fK i).map val)->(∀i v,P i v-> ∃b,v= .ref b/\Y b/\mR Z s.heap (val i) b)->
    (∀a,Moved (S::U) G s a->g9 Z Y a.heap S ((fK n).map val)->R (.ok (.ret .none)) a)->
    oR (model prog w) A (.builtin "set.update.loop" ⟨[.ref S,.ref I],[]⟩) R s:=by
 have N:S∉U:=λh=>q (W.sub _ h)
 have up: ∀b∈U,b∈S::U:=λb z=>dZ _ z
 have walk: ∀ {s a:aH} {ks:List (List K)},Moved U G s a->g9 Z Y s.heap S ks->g9 Z Y a.heap S ks:=λl x=>x.same λb o hb e=>l.heap b o (by rcases hb with rfl|hb;exact N;exact (H b hb).2) e
 intro k
 induction k with
 |zero=>
  intro i s hk hi p O hK hR;obtain rfl:i=n:=by omega
  refine AR OO ?_;rw [C4 Ix _];refine ay (W.done s _ _ p λa l=>?_);exact aR (hR a (l.mono up) (walk l O))
 |succ k ih=>
  intro i s hk hi p O hK hR;have de:i<n:=by omega
  refine AR OO ?_;rw [C4 Ix _];refine ay (W.item i s _ _ de p λv a hP r l=>?_);obtain ⟨b,rfl,u,hkb⟩:=hK i v hP;have m:=QQ hkb λo e=>l.heap b o (H b u).2 e
  refine ay (nA ?_);unfold setAdd;refine nA (ay (wpAny_pyHash_tuple hu m ?_));have hS1:=walk l O
  refine jg6 (s:={a with toks:=a.toks+((val i).length+1)}) hu hS1 m u (by simp;omega) (λz=>by
    obtain ⟨j,hj,e⟩:=c4.mp z
    exact J i j (ic.mp hj) de e) λh' bb Bv hS2=>?_
  have mv: ∀c o,c≠S->a.heap.get? c=some o->h'.get? c=some o:=λc o y e=>by rw [Bv.2 c y];exact e
  have Iy:g9 Z Y h' S ((fK (i+1)).map val):=by rw [List.range_succ,tL];exact hS2
  refine aR ⟨plainId_quiet Ix _,ih (i+1) _ (by omega) de (W.frame _ a _ _ r (AU _ _) λc y o e=>?_) Iy (λi' v' hP'=>?_) λIe B E=>?_⟩
  . exact mv c o (λz=>q (by rw [<-z];exact y)) e
  . obtain ⟨c,e,g,x⟩:=hK i' v' hP';exact ⟨c,e,g,QQ x λo z=>mv c o (H c g).1 (l.heap c o (H c g).2 z)⟩
  . refine hR Ie (Moved.trans W.gtrans ((l.mono up).then_heap (AU _ _) λc o y e=>?_) B) E;exact mv c o (λz=>y (by rw [z];exact ez)) e
end
section
variable {prog:bQ} {w:World} {K:Type} [DecidableEq K] {O:KeyKind prog w K} {A:cf} {E:T9} {s:aH}
def Ko (a:Value)
  (h:Q₁ (.ref s.heap.objs.size) {s with heap:=s.heap.push {cls:= .type "set",dict:=none,data:= .set #[] 0 (.fresh 0 0 (!w.params.followText "set-order"))}}):
  oR (model prog w) A (.call (.builtin "set.__new__") ⟨[.type "set",a],[]⟩) (wants Q₁ E) s:=by
 refine codeAny_of_tree ?_;show wpAny _ A.in1 (checkBuiltinCall "set.__new__" ⟨[.type "set",a],[]⟩>>=λ_=>again (.builtin "set.__new__" ⟨[.type "set",a],[]⟩)) _ _ s;refine ay (wpAny_of_eq (PySem.F.newCall_set_1 a) (aR ⟨plainId_quiet PySem.F.plain_set_new _,AR PySem.F.entry_set_new ?_⟩));rw [C4 PySem.F.plain_set_new _];unfold ms.«set.__new__» Builtin.Frozenset.newClass;have c:=PySem.sub_set_self;obtain ⟨e,g,d,tk,os⟩:=s;dsimp only
 wp_walk
 refine E5 (aR ?_);dsimp only;simp only [newObj];exact ay (wpAny_alloc (aR (aR h)))
def jiQ (c:h.get? a=some o) (e:o.ExactSet) (hd:o.data= .set #[] 0 (.fresh 0 0 led)):g9 O G h a []:=
 ⟨o, #[],0,_,7,led,c,e,hd,Tb.fresh led,.inl ⟨rfl,by decide⟩,rfl,λ_ z=>by cases z⟩
def pO (hu:A.units+6<cLine) (hh:A.handled=none) (hl:s.heap.IsList l a)
  (hi: ∀(i:Nat) v,a[i]?=some v-> ∃b,v= .ref b/\mR O s.heap (val i) b) (B:a.size<=76) (HX: ∀i j,j<i->i<a.size->val j≠val i)
  (h: ∀(n:Heap) (tk:Nat),g9 O (λb=>b<s.heap.objs.size/\cK b∈a.toList) n s.heap.objs.size ((fK a.size).map val)->(∀b o,b<s.heap.objs.size->s.heap.get? b=some o->n.get? b=some o)->Q (.ref s.heap.objs.size) {s with heap:=n,toks:=tk}):
  wpAny (model prog w) A (call (.type "set") [.ref l]) Q E s:=by
 obtain ⟨c,tl,afS⟩:=xI.mro;have OP:=xI.made;have afT:=xI.sub;refine zP (codeAny_of_tree ?_);refine aR ⟨Code.quiet_builtin _ (by decide+kernel),AR F.entry_type_call ?_⟩;rw [Around.under_plain (weight_type_call_type "set" [.ref l] []) rfl];have h1:=xI.notType;have h2:=xI.canCreate;have hct:=F.typeCall_set_1 (.ref l)
 repeat (any_goals (first|assumption|wp_step))
 refine tf (Ko (.ref l) (E:=E) (Q₁:=λobj u=> ∃led:Bool,obj= .ref s.heap.objs.size/\u={s with heap:=s.heap.push {cls:= .type "set",dict:=none,data:= .set #[] 0 (.fresh 0 0 led)}}) ⟨_,rfl,rfl⟩) λr u hr=>?_
 cases r with
 |error e=>exact hr
 |ok fl=>
  cases fl with
  |ret obj=>
   obtain ⟨led,rfl,rfl⟩:=hr;generalize m:({cls:= .type "set",dict:=none,data:= .set #[] 0 (.fresh 0 0 led)}:Obj)=H;have hS:(s.heap.push H).get? s.heap.objs.size=some H:=gp _ (by rw [<-m];rfl);have hT:Shared.TypeIs {s with heap:=s.heap.push H} (.ref s.heap.objs.size) "set" :=⟨_,hS,by rw [<-m]⟩
   have hli:=xI.init.lookup;have hbi:=xI.init.bind (.ref s.heap.objs.size)
   repeat (any_goals (first|assumption|wp_step))
   refine tf (HN (R:=wants (λr y=>r= .none/\ ∃n tk,y={s with heap:=n,toks:=tk}/\
       g9 O (λb=>b<s.heap.objs.size/\cK b∈a.toList) n s.heap.objs.size ((fK a.size).map val)/\(∀b o,b<s.heap.objs.size->s.heap.get? b=some o->n.get? b=some o)) E) xI.init.plain F.entry_set_init (check_set_init_1 hT ?_)) λU y g=>?_
   . obtain ⟨ol,Y,Z,nl,OQ⟩:=hl;obtain ⟨afU,I,OR,p⟩:=ol;simp only at Z OQ;subst Z;subst OQ;have Iz:(s.heap.push H).get? l=some {cls:= .type "list",dict:=I,data:= .seq a nl,slots:=p}:=dc _ Y;have afV:=F.sub_list_set;have afW:=F.sub_list_frozenset;have De:(yS "list" ==yS "dict")=false:=by decide
     have OS:(s.heap.push H).IsList l a:=⟨_,Iz,rfl,nl,rfl⟩
     have de:=cL Y;have q:(s.heap.push H).objs.size=s.heap.objs.size+1:=Bk _ _
     have IA:g9 O (λb=>b<s.heap.objs.size/\cK b∈a.toList) ((s.heap.push H).push {cls:= .type "list_iterator",data:= .fields #[.ref l,.int 0 0]}) s.heap.objs.size []:=
       jiQ (dc _ hS) (by rw [<-m];exact ⟨rfl,rfl,rfl⟩) (by rw [<-m])
     subst m;unfold ms.«set.__init__» noKeywords Builtin.Frozenset.updateFrom;generalize hPI:pyIter=PI
     wp_walk
     subst hPI;refine Cn OS ?_;refine ay (wpAny_runValue ?_)
     refine jjN ((Walks.list (show A.in1.in1.in1.handled=none by simp [hh]) _ l (by rw [q];exact dH (EQ de)) a).toS) s.heap.objs.size (by rw [q];simp only [dk,E6,or_false,not_or];exact ⟨dH (D2 _),Nat.ne_of_gt de⟩) (by simp;omega) val
       (λb B=>by rw [q];simp;exact ⟨dH B.1,dH (EQ B.1)⟩) B HX (a.size-0) 0 _ rfl (i5 _) ⟨⟨_,gp _ rfl,rfl,rfl⟩,OS.push _⟩ IA (λi v hv=>?_) λs' hm J=>?_
     . obtain ⟨b,e,x⟩:=hi i v hv;refine ⟨b,e,?_,QQ x λo z=>dc _ (dc _ z)⟩;obtain ⟨o,_,_,ho,_⟩:=x;refine ⟨cL ho,?_⟩;rw [<-e];exact sI (by rw [oj];exact hv)
     . obtain ⟨n,g',d',Ij,os'⟩:=s';have eg:=hm.gens;have ed:=hm.drawn;have eo:=hm.os;subst eg;subst ed;subst eo;refine aR (aR ⟨rfl,n,Ij,rfl,J,λb o B e=>?_⟩);refine hm.heap b o ?_ (dc _ (dc _ e));rw [q];simp;exact ⟨dH B,dH (EQ B)⟩
   . cases U with
     |error e=>exact g
     |ok N=>
       cases N with
       |ret r=>
        obtain ⟨rfl,n,tk,rfl,J,Ia⟩:=g
        repeat (any_goals (first|assumption|wp_step))
        exact h _ _ J Ia
       |_=>exact g.elim
  |_=>exact hr.elim
end
end Tac
end M
namespace M
open PySem PySem.W PyProof.Rows
namespace Tab
section
variable {prog:bQ} {w:World} {A:cf} {E:T9} {s:aH}
theorem OT {c:Type}: ∀ {l:List c} {i:Nat} {x:c},l[i]?=some x->(x::l.eraseIdx i).Perm l
 | [],i,x,h=>by simp at h
 |a::l,0,x,h=>by simp at h;subst h;exact tN _
 |a::l,i+1,x,h=>by
  have e:=OT (l:=l) (i:=i) (x:=x) (by simpa using h);rw [List.eraseIdx_cons_succ];exact (HA a x _).trans (e.cons a)
theorem W0 {c:Type} (next:Nat->Nat): ∀(fuel k:Nat) (left:List c) (a:Array c),left.length<=fuel->(BB next fuel k left a).toList.Perm (a.toList++left)
 |0,k,left,a,h=>by
  cases E7.mp (Nat.le_zero.mp h);simp [BB]
 |fuel+1,k,[],a,h=>by simp [BB]
 |fuel+1,k,x::left,a,h=>by
  have e:next k%(x::left).length< (x::left).length:=Nat.mod_lt _ (by simp);obtain ⟨y,g⟩: ∃y,(x::left)[next k%(x::left).length]?=some y:=⟨_,cH e⟩
  rw [BB,g];dsimp only;refine (W0 next fuel (k+1) _ _ (by rw [List.length_eraseIdx_of_lt e];simp at h ⊢;omega)).trans ?_;rw [HS,nH];exact List.Perm.append_left _ (OT g)
def pP {c:Type} (next:Nat->Nat) (a:Array c):(pickOrder next a).toList.Perm a.toList:=by
 have:=W0 next a.size 0 a.toList #[] (by simp);simpa [pickOrder] using this
variable {a:Addr} {es:Array (Int×Value)} {ep:Nat} {t:mi}
end
end Tab
end M
namespace M
open PySem PySem.Spec L2
open PyProof.Rows hiding St
noncomputable def mS:List D->Option (List (List aS))
 | []=>some []
 |d::r=>match j2 d,mS r with
  |some k,some ks=>some (k::ks)
  |_,_=>none
def IB (H:Hp) (x:V) (k:List aS):Prop:= ∃b,x= .ref b/\H b=some (.ap (k.map kV))
theorem OU {K:aG}: ∀ {a:List V} {ds:List D} {ks:List (List aS)},am K A H a ds->mS ds=some ks->F2 (IB H) a ks
 | [],_,ks,r,h=>by cases r.g7;cases h;exact .nil
 |v::a,_,ks,r,h=>by
  obtain ⟨d,ds,rfl,r,t⟩:=r.dJ;unfold mS at h
  cases e1:j2 d with
  |none=>rw [e1] at h;cases h
  |some k=>
   cases e2:mS ds with
   |none=>rw [e1,e2] at h;cases h
   |some c=>
    rw [e1,e2] at h;cases h;exact .cons (JD r e1) (OU t e2)
def Df (o:Obj) (n:Nat):Prop:=o.ExactSet/\ ∃(a:Array (Int×Value)) (c:Nat) (t:mi),o.data= .set a c t/\t.fits a.size=true/\a.size=n/\n<=76
section
variable {X:Cx}
theorem OV {g:L2.St} (I:aD X e g H s): ∀ {c:List V} {a:List Value} {ks:List (List aS)},aI c a->F2 (IB H) c ks-> ∀(i:Nat) v,a[i]?=some v-> ∃b,v= .ref b/\mR (j4 X.prog X.w) s.heap (ks.getD i []) b
 | [],_,_,r,_,i,v,h=>by cases HB r;cases h
 |y::c,_,_,r,f,i,v,h=>by
  obtain ⟨_,_,rfl,r,j⟩:=EC r;obtain ⟨_,_,rfl,⟨b,rfl,l⟩,m⟩:=f.dJ
  cases i with
  |zero=>cases h;cases r;exact ⟨b,rfl,Wv I.a7 l⟩
  |succ i=>exact OV I j m i v h
def jb2 (U:X.cF=true) (hu:X.A.units+200<cLine):bF X (.type "set") (λw H Q=> ∃p c ks,w=[.ref p]/\gR X.K H p c/\F2 (IB H) c ks/\ks.length<=76/\ks.Nodup/\ ∀l o,H l=none->Df o ks.length->Q (.ref l) (aU H l (.dn o (.aw l)))):=by
 rintro y s σ H w c Q I r ⟨p,vs,ks,Y,Z,z,hz,nd,q⟩;subst Y;obtain ⟨u,rfl,ru⟩:=yY r;cases ru;obtain ⟨g,B,pl,_⟩:=I.list Z;have a:g.toArray.size=ks.length:=by rw [dq,<-B.length,z.length]
 refine Tac.pO (by omega) (I.ok.hd U) pl.isList (λi v h=>OV I B z i v (by simpa using h)) (by omega) (λi j hj E e=>?_) λh' tk J n=>?_
 . rw [a] at E;rw [CQ,CQ,cH (by omega),cH E] at e;have:=(FC nd).mp e;omega
 have hl:=I.a7.fresh (bf _);rw [a] at J;obtain ⟨o,es,ep,t,m,L,N,hex,hd,T,S,O,_⟩:=J;rw [cg,AX] at O;exact ⟨.ref s.heap.objs.size,_,I.laid (λb o e=>n b o (cL e) e) (bf _) (show a9 X.prog X.w _ h' _ (.dn o (.aw _)) from ⟨N,o,N⟩),rfl,q _ o hl ⟨hex,es,ep,t,hd,T.fits S.le.1,O,hz⟩⟩
def jb4:bF X (.builtin "len") (λc H Q=> ∃a b o n,c=[.ref a]/\H a=some (.dn o (.aw b))/\Df o n/\Q (.int n) H):=by
 rintro e s y H c z Q I r ⟨a,b,o,n,g,h,⟨i,j,B,t,hd,l,m,p⟩,q⟩;subst g;obtain ⟨u,rfl,v⟩:=yY r;cases v;obtain ⟨w,_⟩:=(show a9 X.prog X.w H s.heap a (.dn o (.aw b)) from I.a7 a _ h)
 subst m;exact call_len_set w i hd l (by omega) ⟨.int j.size,H,I.tok _,⟨_,rfl⟩,q⟩
noncomputable def mT:D->aj D
 | .ah ds=>match mS ds with
  |some ks=>a4 (ks.length<=76/\ks.Nodup) (.ok (.int ks.length))
  |none=> .ai
 |_=> .ai
def vk (h:mT a= .ok d): ∃ds ks,a= .ah ds/\mS ds=some ks/\(ks.length<=76/\ks.Nodup)/\d= .int ks.length:=by
 unfold mT at h
 split at h
 . rename_i ds
   split at h
   . rename_i ks e;obtain ⟨c,g⟩:=jv h;cases g;exact ⟨ds,ks,rfl,e,c,rfl⟩
   . cases h
 . cases h
noncomputable def xQ (f:TF):Sl->aj D:=λa=>f a>>=mT
variable {l1:Lv} {e1:Expr} {f1:TF} {p1 p3 z q3:Pos}
def jbI (r:X.cF=true) (u:X.A.units+200<cLine) (v:DE X l1 e1 f1) (g:Gl X "len") (h:X.mg "len" =none) (i:Gl X "set") (j:X.mg "set" =none)
   (c:bB [.Call (.Name "set" p1) [e1] [] z] X.env=(false,eval (.Call (.Name "set" p1) [e1] [] z) X.env)::bB [] X.env:=by exact jm rfl)
   (e:bB [e1] X.env=(false,eval e1 X.env)::bB [] X.env:=by exact jm rfl):
   DE X .b (.Call (.Name "len" p3) [.Call (.Name "set" p1) [e1] [] z] [] q3) (xQ f1):=by
 with_unfolding_all exact (
  PE.imp (wl jb4 g h rfl (j7 (Jy (jb2 r u) i j rfl (j7 v zo e) (by decide) (by decide) e rfl) zo c) (by decide) (by decide) c rfl) λY H Q=>by
   rintro ⟨G,w,m,d,k,n,q⟩;obtain ⟨a,y,n⟩:=jd n;obtain ⟨ds,ks,rfl,e1,⟨e2,B⟩,rfl⟩:=vk n;refine ⟨G,w,m,_,k,y,λZ H1 E I _=>?_⟩;obtain ⟨p,J,rfl,L,_,N⟩:=(I.aQ Lv.bo).fU;refine ⟨p,J,ks,rfl,.inl (.inl L),OU N e1,e2,B,λl o O U=>?_⟩
   exact ⟨l,l,o,_,rfl,jy,U,q _ _ (E.trans (al.aU O)) (.int _) trivial⟩)
end
section
variable {X:Cx} {K:aG}
def OW:R2:=λx y H Q=> ∃a c b k,y= .ref a/\H a=some (.dT c)/\x= .ref b/\H b=some (.ap (k.map kV))/\Q (.bl (!(gB c k).isSome)) H
def jfK (e:X.A.units+1<cLine):dG X (iD .NotIn) OW:=by
 rintro c s p H x y v u Q I g h ⟨a,i,b,k,j,l,m,n,q⟩;subst j;subst m;obtain rfl:u=cK a:=h;exact Tw e I (nD.t l n) g λr o=>⟨.bl _,H,o,rfl,q⟩
def pQ:D->D->aj D
 |kd,.cJ ks _=>match j2 kd with
  |some k=> .ok (.bl (!ka ks k))
  |none=> .ai
 |_,_=> .ai
def jfR:gJ K OW pQ:=by
 intro x y H a b d Q g h e q;unfold pQ at e
 split at e
 . obtain ⟨p,c,rfl,i,_,rfl,r⟩:=h.tP
   split at e
   . rename_i k j;cases e;obtain ⟨l,rfl,m⟩:=JD g j;refine ⟨p,c,l,k,rfl,i,rfl,m,?_⟩;rw [<-WJ,U8];exact q _ (jV _)
   . cases e
 . cases e
noncomputable def mU (ks:List (List aS)) (ds:List D) (k:List aS):Option D:=((ks.zip ds).find? λp=>decide (p.1=k)).map (·.2)
theorem VF: ∀ {a:List (List aS×V)} {ds:List D} (k:List aS) {d:D},am K A H (a.map (·.2)) ds->mU (a.map (·.1)) ds k=some d-> ∃v,gB a k=some v/\aL K A H v d
 | [],ds,k,d,r,h=>by simp [mU] at h
 | (e,v)::a,ds,k,d,r,h=>by
  cases r with
  |cons g i=>
   by_cases c:e=k
   . subst c;simp [mU] at h;subst h;exact ⟨v,by simp [gB],g⟩
   . obtain ⟨w,j,l⟩:=VF k i (by simpa [mU,c] using h);exact ⟨w,by simpa [gB,c] using j,l⟩
def OX:R2:=λx y H Q=> ∃a c b k v,x= .ref a/\H a=some (.dT c)/\y= .ref b/\H b=some (.ap (k.map kV))/\gB c k=some v/\Q v H
def jdc (j:X.A.units+1<cLine):sJ X OX:=by
 intro value c i s E H x y v u Q I l m h n;obtain ⟨a,o,b,k,z,rfl,p,rfl,r,w,q⟩:=h;obtain rfl:v=cK a:=l;have g:nD H a (.ref b) (some z):=by rw [<-w];exact nD.t p r
 exact tail_any (Ve I g) PySem.F.slot_dict_getitem.lookup (Tv j I g m λJ L B e=>⟨z,H,B,e,q⟩) n
def nQ:D->D->aj D
 | .cJ ks ds,a=>match j2 a with
  |some k=>match mU ks ds k with
   |some d=> .ok d
   |none=> .ai
  |none=> .ai
 |_,_=> .ai
def jfP (e:aL K A H x a) (g:aL K Any H y b) (h:nQ a b= .ok d) (q: ∀v,aL K A H v d->Q v H):OX x y H Q:=by
 unfold nQ at h
 split at h
 . split at h
   . rename_i k i
     split at h
     . rename_i p hd;cases h;obtain ⟨a,c,rfl,j,_,rfl,r⟩:=e.tP;obtain ⟨v,l,m⟩:=VF k r.low hd;obtain ⟨n,rfl,o⟩:=JD g i;exact ⟨a,c,n,k,v,rfl,j,rfl,o,l,q v m⟩
     . cases h
   . cases h
 . cases h
variable {a b:Expr} {Y U:TF} {O:Lv} {Z p:Pos}
def OY (j:X.A.units+1<cLine) (l:DE X .s a Y) (m:DE X O b U) (n:Vs b:=by intro _ _;rfl):DE X .s (.Subscript a b Z) (ak Y U nQ):=by
 with_unfolding_all exact (
  PE.imp (MK (jdc j) l m n) λE H Q=>by
   rintro ⟨G,g,c,d,k,e,q⟩;obtain ⟨o,e1,e⟩:=jd e;obtain ⟨r,e2,u⟩:=jd e;refine ⟨G,g,c,o,k,e1,λx I h w _=>⟨G,g,c,r,k.ao h,e2,λy H2 i z _=>?_⟩⟩
   exact jfP (w.ao i) (z.aQ Lv.bo) u λv B=>q v H2 (h.trans i) B trivial)
end
def ji8 {K:aG} {st:Stmt} (i:Bool) (d:Dm K C m q st ps) (e:bL K bt c=some (some (.ref C))/\fG K C):fH P w K p g k c m ps i (λ_=> .ai):=by
 obtain ⟨f,j,F,l,B⟩:=d;exact ⟨C,f,j,⟨λn H Q E ⟨B,ds,d,h,_⟩=>h,λA a s H args r n Q E _ _ _ _ ⟨B,ds,d,h,u,o,_⟩=>by cases o⟩,e.1,e.2,l,B⟩
section
variable {X:Cx} {c:Expr} {rest Q:List Stmt} {y:Pos} {I g2:TC} {t:TD}
def jdH:nK X [] cz:=by
 with_unfolding_all exact (gn.imp WZ λE e H=>by
  rintro ⟨G,h,g,k,q⟩;rcases q with ⟨o,a,q⟩| ⟨c,a,i⟩
  . cases a;exact q e H k (bK.refl (al.refl H))
  . cases a)
def io (t:TD) (I g2:TC):Sl->aj ba:=λa=>match t a with
 | .ok true=>I a>>=λo=>match o with
  | .nx e=>oZ (g2 e)
  |o=> .ok o
 | .ok false=>g2 a
 |_=> .ai
def OZ (v:DT X c t) (w:nK X Q I) (B:nK X rest g2):nK X (.If c Q [] y::rest) (io t I g2):=by
 with_unfolding_all exact (gn.imp (QK (uK v w WZ) B) λE Y H=>by
  rintro ⟨G,i,a,k,q⟩;have p: ∃b,t a= .ok b/\io t I g2 a=if b=true then (I a>>=λo=>match o with
   | .nx j=>oZ (g2 j)
   |o=> .ok o) else g2 a:=by
   cases e1:t a with
   |ok b=>exact ⟨b,rfl,by unfold io;rw [e1];cases b<;>rfl⟩
   |_=>
     have z:io t I g2 a= .ai:=by unfold io;rw [e1]
     rcases q with ⟨o,e,_⟩| ⟨c,e,_⟩<;>(rw [z] at e;cases e)
  obtain ⟨b,e1,e2⟩:=p;rw [e2] at q;refine ⟨G,i,a,b,k,e1,λZ s=>?_⟩
  cases b with
  |true=>
   rw [if_pos rfl] at q ⊢;rcases q with ⟨o,e,q⟩| ⟨c,e,r⟩
   . obtain ⟨l,m,g⟩:=jd e;have n:=wR (bK.refl s) q;refine ⟨G,i,a,k.ao s,.inl ⟨l,m,?_⟩⟩
     cases l with
     |nx h=>exact λJ L N O=>⟨G,i,h,N,.inl ⟨o,VX g,wR O n⟩⟩
     |rt U d=>cases g;exact n
     |bk u=>cases g;exact n
     |ct u=>cases g;exact n
   . rcases JV e with m| ⟨l,m,g⟩
     . exact ⟨G,i,a,k.ao s,.inr ⟨c,m,r.ao s⟩⟩
     . cases l with
       |nx h=>exact (KP g).elim
       |rt U d=>cases g
       |bk u=>cases g
       |ct u=>cases g
  |false=>
   rw [if_neg h8] at q ⊢;rcases q with ⟨o,e,q⟩| ⟨c,e,r⟩
   . exact ⟨G,i,a,k.ao s,.inl ⟨o,e,wR (bK.refl s) q⟩⟩
   . exact ⟨G,i,a,k.ao s,.inr ⟨c,e,r.ao s⟩⟩)
end
section
variable {prog:bQ} {w:World} {A:cf} {E:T9} {s:aH}
def uj {a:Addr} {c:Array (Int×Value)} {l:Nat} {e:mi} (m:eJ s.heap a c l e) (g:w.params.followText "set-order" =true\/((!e.plain&&decide (c.size>1))=false/\(!e.led&&decide (c.size>1))=false)) {Q:Array (Int×Value)->aH->Prop}
  (h: ∀i:Array (Int×Value),i.toList.Perm c.toList->Q i s):wpAny (model prog w) A (setWalk a) Q E s:=by
 unfold setWalk setsByText;refine ay (m.state ?_);dsimp only;simp;refine ay (E5 ?_);dsimp only
 cases j:(model prog w).w.params.followText "set-order" with
 |true=>
  simp;refine ay (E5 (aR (h _ (Tab.pP _ _))))
 |false=>
  simp;rcases g with g| ⟨n,o⟩
  . rw [show (model prog w).w.params.followText "set-order" =w.params.followText "set-order" from rfl,g] at j;cases j
  . show wpAny _ _ (if (!e.plain&&decide (c.size>1))=true then _ else _) _ _ _;rw [n];simp;show wpAny _ _ ((if (!e.led&&decide (c.size>1))=true then unsupported "set:maker-not-led" else pure ())>>=λ_=>pure c) _ _ _;rw [o];simp;exact aR (h _ (tN _))
def XU {a o f:Addr} {g H:Array (Int×Value)} {I J L:Nat} {ta n i:mi} (p:eJ s.heap a g I ta) (N:eJ s.heap o H J n) (j:eJ s.heap f #[] L i) {Q:Array (Int×Value)->aH->Prop}
   (h: ∀(c:Array (Int×Value)) (q:Heap),c.toList.Perm g.toList->(∀b ob,b≠f->s.heap.get? b=some ob->q.get? b=some ob)->(∃r u,eJ q f #[] r u)->Q c {s with heap:=q}):
   wpAny (model prog w) A (setWalkUnseen a [o,f] (some f)) Q E s:=by
 unfold setWalkUnseen setsByText;refine ay (p.state ?_);dsimp only;simp only [bind_assoc,pure_bind];refine ay (E5 ?_);dsimp only;have l: ∀c:Array (Int×Value),c.toList.Perm g.toList->Q c s:=λc z=>h c s.heap z (λ_ _ _ e=>e) ⟨_,_,j⟩
 by_cases hc:((model prog w).w.params.followText "set-order" ||ta.led&&ta.plain||decide (g.size<=1))=true
 . rw [if_pos hc];refine uj p ?_ λc hw=>l c hw
   simp at hc;rcases hc with (hc| ⟨O,U⟩)|hc
   . exact .inl hc
   . exact .inr ⟨by simp [U],by simp [O]⟩
   . have: ¬(g.size>1):=by omega
     exact .inr ⟨by simp [this],by simp [this]⟩
 . rw [if_neg hc];refine ay (kL p N j ?_);simp;refine ay (sT ?_);refine ay (j.state ?_);dsimp only
   split
   . obtain ⟨ob,y,B,hd⟩:=j.ex;refine ay (wpAny_storeSet_of y hd ?_ (by simp));refine aR (h g _ (tN _) (λb ob Y e=>Heap.get?_update_of_ne _ (lD Y) e) ?_)
     have m:({i with led:=i.led&&ta.led,plain:=i.plain&&ta.plain}:mi).fits (#[]:Array (Int×Value)).size=true:=by
      have:=j.ft;cases i;exact this
     obtain ⟨Z,_⟩:=SetOf_store (knd:=iZ prog w) (S':=λ_=>false) y B hd (λe v=>by simp at v) (λk=>by simp) (by decide) m;exact ⟨_,_,⟨⟨_,Z,B,rfl⟩,λe v=>by simp at v,by decide,m⟩⟩
   . exact aR (l _ (tN _))
def DfI (prog:bQ) (w:World) (s:aH) (j:Heap) (c g:Int->Bool) (h:Array (Int×Value)) (rest:List (Int×Value)) (l:aH):Prop:= ∃(a:Heap) (S:Int->Bool) (i:Nat),l={s with heap:=a}/\(∀b ob,b≠s.heap.objs.size->j.get? b=some ob->a.get? b=some ob)/\a.SetOf (iZ prog w) s.heap.objs.size S i/\i+rest.length<=h.size/\(∀e∈rest,e∈h.toList)/\
 (∀k,S k=true->c k=true/\g k=false)/\(∀k,c k=true->g k=false->S k=true\/ ∃e∈rest,(iZ prog w).is k e.2=true)
def YV {id:String} {a o:Addr} {v j:Int->Bool} {na no:Nat} (hA:s.heap.SetOf (iZ prog w) a v na) (hO:s.heap.SetOf (iZ prog w) o j no) (hn: ¬na/4>no) {Q:T9}
   (h: ∀(l:Heap),(∀b ob,b<s.heap.objs.size->s.heap.get? b=some ob->l.get? b=some ob)->(∃y,l.SetOf (iZ prog w) s.heap.objs.size (λk=>v k&&!j k) y)->Q (.ref s.heap.objs.size) {s with heap:=l}):
   wpAny (model prog w) A (IC id a (.ref o)) Q E s:=by
 have tA:=hA.typeIs;have tO:=hO.typeIs;obtain ⟨ea,pa,ta,B,rfl,mA⟩:=eJ.of hA;obtain ⟨eo,po,to_,iO,rfl,mO⟩:=eJ.of hO;unfold IC Builtin.Frozenset.sizeOf ID setEntries Builtin.Frozenset.baseOf setEpoch;dsimp only;refine ay (HU tO ?_);simp only [sQ,nY,if_false,pure_bind,bind_assoc,Bool.false_and,if_true];refine ay (iO.state ?_);refine ay (B.state ?_);dsimp only;rw [if_neg hn];refine ay (DL tA F.sub_set_set ?_);simp only [if_true];refine ay (wpAny_newSet_of (knd:=iZ prog w) λled hS=>?_);simp only [pure_bind];obtain ⟨er,pr,tr,iR,hz,_⟩:=eJ.of hS;have her:=O0 hz;subst her;have U: ∀b ob,s.heap.get? b=some ob->(s.heap.push {cls:= .type "set",dict:=none,data:= .set #[] 0 (.fresh 0 0 led)}).get? b=some ob:=λb ob e=>dc _ e
 have m:=B.keep (U a);have iO1:=iO.keep (U o);have lA:=let ⟨_,e,_⟩:=B.ex;cL e;have lO:=let ⟨_,e,_⟩:=iO.ex;cL e;refine ay (m.state ?_);refine ay (nA ?_);refine ay (XU m iO1 iR λws l hw hk oy=>?_);obtain ⟨pf',tf',iF⟩:=oy;have iA2:=m.keep λob e=>hk _ _ (dH lA) e
 have hO2:l.SetOf (iZ prog w) o j eo.size:=by
   obtain ⟨ob,es,ep,t,ho,hx,hd,rest⟩:=hO;exact ⟨ob,es,ep,t,hk _ _ (dH lO) (U _ _ ho),hx,hd,rest⟩
 have hwm: ∀e∈ws.toList,e∈ea.toList:=λe c=>hw.mem_iff.mp c
 have C3: ∀k,v k=true->j k=false->(λ_=>false:Int->Bool) k=true\/ ∃e∈ws.toList,(iZ prog w).is k e.2=true:=λk z _=>by
   obtain ⟨e,c,n⟩:=(mA k).mp z;exact .inr ⟨e,hw.mem_iff.mpr c,n⟩
 refine ay (Op _ (λrest _=>DfI prog w s l v j ea rest) _ ?_ ?_ ws _ ⟨l,λ_=>false,0,rfl,λ_ _ _ e=>e,eJ.setOf iF,by have:=hw.length_eq;rw [lC,lC] at this;rw [lC];omega,hwm,(λk z=>nomatch z),C3⟩)
 . rintro ⟨hh,x⟩ rest b s' ⟨H,S,y,rfl,g,i,hle,hm,Y,Z⟩;have I:=hm _ ez;obtain ⟨k,tk,e1,e2⟩:=B.el _ I;dsimp only at e1 e2;subst e1;subst e2;simp only [fb] at hle;have hSA:v k=true:=(mA k).mpr ⟨_,I,xv k tk⟩
   have hO3:H.SetOf (iZ prog w) o j eo.size:=by
    obtain ⟨ob,es,ep,t,ho,hx,hd,rest⟩:=hO2;exact ⟨ob,es,ep,t,g _ _ (dH lO) ho,hx,hd,rest⟩
   have un: ∀ {J:Heap} {Q:Unit->aH->Prop},(∀ob,H.get? a=some ob->J.get? a=some ob)->Q () {s with heap:=J}->wpAny (model prog w) A (O1 id a pa) Q E {s with heap:=J}:=λIi q=>by
    unfold O1 setEpoch;simp only [bind_assoc,pure_bind];refine ay ((iA2.keep λob e=>Ii ob (g _ _ (dH lA) e)).state ?_);dsimp only;simp only [bne_self_eq_false,nY,if_false];exact aR q
   refine ay (nA ?_);refine ay (wpAny_setFind_of (knd:=iZ prog w) (xv k tk) rfl hO3 λr hr=>?_);rw [hr]
   cases L:j k with
   |true=>
    simp only [pure_bind,sQ,nY,if_false];refine aR ?_;refine ay (un (λ_ e=>e) ?_);refine aR ⟨H,S,y,rfl,g,i,by omega,λe c=>hm e (dZ _ c),Y,λp N u=>?_⟩;rcases Z p N u with z| ⟨e,c,n⟩
    . exact .inl z
    . rcases dk.mp c with z|z
      . subst z;have:p=k:=(iZ prog w).inj _ _ _ n (xv k tk);subst this;rw [L] at u;cases u
      . exact .inr ⟨e,z,n⟩
   |false=>
    simp only [pure_bind,Bool.not_false,if_true];refine ay (wpAny_setAddHashed_of (knd:=iZ prog w) (xv k tk) rfl i (by have:=B.bd;omega) λJ sb Iy=>?_);refine aR ?_;refine ay (un (λob e=>by rw [sb.2 _ (dH lA)];exact e) ?_);refine aR ⟨J,_,_,rfl,λb ob O e=>by rw [sb.2 _ O];exact g b ob O e,Iy,by split<;>omega,λe c=>hm e (dZ _ c),λp z=>?_,λp N u=>?_⟩
    . rw [wh,decide_eq_true_eq] at z;rcases z with z|z
      . exact Y p z
      . subst z;exact ⟨hSA,L⟩
    . rcases Z p N u with z| ⟨e,c,n⟩
      . exact .inl (by rw [z];rfl)
      . rcases dk.mp c with z|z
        . subst z;have:p=k:=(iZ prog w).inj _ _ _ n (xv k tk);subst this;exact .inl (by simp)
        . exact .inr ⟨e,z,n⟩
 . rintro b s' ⟨H,S,y,rfl,g,i,_,_,Y,Z⟩;refine aR (aR (h H (λb ob O e=>g b ob (dH O) (hk b ob (dH O) (U b ob e))) ⟨y,SetOf_congr i (λk=>?_) rfl⟩))
   cases e:S k with
   |true=>
    obtain ⟨N,u⟩:=Y k e;rw [N,u];rfl
   |false=>
    cases e1:v k with
    |false=>rfl
    |true=>
      cases e2:j k with
      |true=>rfl
      |false=>
        rcases Z k e1 e2 with z| ⟨_,c,_⟩
        . rw [e] at z;cases z
        . cases c
def jjv {a o:Addr} {j m:Int->Bool} {n no:Nat} (g:s.heap.SetOf (iZ prog w) a j n) (i:s.heap.SetOf (iZ prog w) o m no) (p: ¬n/4>no) {Q:T9}
  (h: ∀(e:Heap),(∀b ob,b<s.heap.objs.size->s.heap.get? b=some ob->e.get? b=some ob)->(∃q,e.SetOf (iZ prog w) s.heap.objs.size (λk=>j k&&!m k) q)->Q (.ref s.heap.objs.size) {s with heap:=e}):
  wpAny (model prog w) A (my .Sub (.ref a) (.ref o)) Q E s:=by
 refine wpAny_binaryOp_same g.typeIs i.typeIs F.fills_set_sub F.slot_set_sub (tq F.slot_set_sub g.typeIs Xx ?_ (F.args_set_sub_2 _ _))
 show wpAny _ _ (do
  let (self,c)<-O2 "__sub__" ⟨[.ref a,.ref o],[]⟩
  let (l,r):=(self,c)
  if !(<-ES l<&&>ES r) then rule s!"frozenset.{"__sub__"}.declined";return<-ret .notImplemented
  ret (<-IC s!"frozenset.{"__sub__"}" (<-ID l) r)) _ _ _
 unfold O2 slotArgs;simp only [List.isEmpty_nil,sQ,nY,if_false,bind_assoc,fb,sG,bne_self_eq_false,pure_bind];unfold andM;simp only [bind_assoc];refine ay (HU g.typeIs ?_);dsimp;refine ay (HU i.typeIs ?_);simp;unfold ID;simp;refine ay (YV g i p λe u v=>?_);exact aR ⟨_,rfl,by simp,h e u v⟩
end
def vM {i:bQ} {w:World} {h:Heap} {a:Addr} {S:Int->Bool} {n:Nat} (x:h.SetOf (iZ i w) a S n):n=0↔ ∀k,S k=false:=by
 obtain ⟨o,j,u,t,v,y,hd,l,p,B,E,q⟩:=x
 constructor
 . intro z k;have r:=O0 (q.trans z);subst r
   cases e:S k with
   |false=>rfl
   |true=>
     obtain ⟨_,m,_⟩:=(p k).mp e;simp at m
 . intro z;rw [<-q];rcases Nat.eq_zero_or_pos j.size with c|c
   . exact c
   . have g:j[0]∈j.toList:=by simp
     obtain ⟨⟨k,m,_⟩,_⟩:=l _ g;have:=(p k).mpr ⟨_,g,m⟩;rw [z k] at this;cases this
section
variable {X:Cx}
def jfJ:dG X (my .Sub) (λx y H Q=> ∃a b S n c g,x= .ref a/\y= .ref b/\H a=some (.set S n)/\H b=some (.set c g)/\ ¬n/4>g/\ ∀l m,H l=none->(m=0↔ ∀k,(S k&&!c k)=false)->Q (.ref l) (aU H l (.set (λk=>S k&&!c k) m))):=by
 rintro i s Z H x y v u Q I p r ⟨a,b,S,n,c,g,w,z,B,E,J,q⟩;subst w;subst z;cases p;cases r;have L:=I.a7 a _ B;have N:=I.a7 b _ E;refine jjv L N J λO U h=>?_;obtain ⟨m,j⟩:=h
 have Y:=I.a7.fresh (bf _);exact ⟨.ref s.heap.objs.size,_,I.laid (λb o e=>U b o (cL e) e) (bf _) (show a9 X.prog X.w _ O _ (.set _ _) from j),rfl,q _ m Y (vM j)⟩
def pR (a b:D):aj D:=match a,b with
 | .ah x,.ah y=>match ZG x,ZG y with
  |some u,some v=>a4 (u.length+1<xg/\v.length+1<xg/\ ¬(dd u).length/4>(dd v).length) (.ok (.bl (decide (∀i∈u,i∈v))))
  |_,_=> .ai
 |_,_=> .ai
def jcq {a b d:D} (h:pR a b= .ok d): ∃u v:List Int,a= .ah (u.map D.int)/\b= .ah (v.map D.int)/\(u.length+1<xg/\v.length+1<xg/\ ¬(dd u).length/4>(dd v).length)/\d= .bl (decide (∀i∈u,i∈v)):=by
 unfold pR at h
 split at h
 . rename_i x y
   split at h
   . rename_i u v e1 e2;obtain ⟨c,e⟩:=jv h;cases e;exact ⟨u,v,by rw [Qg e1],by rw [Qg e2],c,rfl⟩
   . cases h
 . cases h
variable {l l1 B:Lv} {e1 e2:Expr} {f1 f2:TF} {p1 L p3 q1 g q3 N J p4:Pos} {j:Nat}
def jgK (hc:X.cF=true) (h1:DE X l1 e1 f1) (h2:DE X B e2 f2) (O:Gl X "len") (U:X.mg "len" =none) (c:Gl X "set") (h:X.mg "set" =none)
   (n:bB [.BinOp (.Call (.Name "set" p1) [e1] [] q1) .Sub (.Call (.Name "set" L) [e2] [] g) N] X.env=(false,eval (.BinOp (.Call (.Name "set" p1) [e1] [] q1) .Sub (.Call (.Name "set" L) [e2] [] g) N) X.env)::bB [] X.env:=by exact jm rfl)
   (r:bB [e1] X.env=(false,eval e1 X.env)::bB [] X.env:=by exact jm rfl) (w:bB [e2] X.env=(false,eval e2 X.env)::bB [] X.env:=by exact jm rfl):
   DE X l (.Compare (.Call (.Name "len" p3) [.BinOp (.Call (.Name "set" p1) [e1] [] q1) .Sub (.Call (.Name "set" L) [e2] [] g) N] [] q3) [.Eq] [.Constant (.int 0) j p4] J) (ak f1 f2 pR):=by
 with_unfolding_all exact (
  PE.imp (uU SE (wl jb3 O U rfl (j7 (F3 jfJ (Jy (Y2 hc) c h rfl (j7 h1 zo r) (by decide) (by decide) r rfl) (Jy (Y2 hc) c h rfl (j7 h2 zo w) (by decide) (by decide) w rfl)) zo n) (by decide) (by decide) n rfl) Mu (F6 _)) λσ H Q=>by
   rintro ⟨G,H0,E,d,k,Y,q⟩;obtain ⟨a,c1,Y⟩:=jd Y;obtain ⟨b,c2,c3⟩:=jd Y;obtain ⟨u,v,rfl,rfl,⟨z1,z2,z4⟩,rfl⟩:=jcq c3;refine ⟨G,H0,E,_,k,c1,λx1 H1 s1 r1 _=>?_⟩;obtain ⟨p,xs,rfl,hp,_,rs⟩:=(r1.aQ Lv.bo).fU;have Z:=Zc rs;subst Z;refine ⟨p,u,rfl,.inl (.inl hp),z1,λl hl=>?_⟩;have S1:=al.aU (o:=HO.set (λk=>u.any (· ==k)) (dd u).length) hl;refine ⟨G,H0,E,_,(k.ao s1).ao S1,c2,λx2 H2 s2 r2 _=>?_⟩;obtain ⟨p',xs,rfl,Ov,_,E8⟩:=(r2.aQ Lv.bo).fU;have Z:=Zc E8;subst Z;refine ⟨p',v,rfl,.inl (.inl Ov),z2,λl' hl'=>?_⟩;have S2:=al.aU (o:=HO.set (λk=>v.any (· ==k)) (dd v).length) hl';refine ⟨l,l',_,_,_,_,rfl,rfl,S2 _ _ (s2 _ _ jy),jy,z4,λB m hl2 hm=>?_⟩;have S3:=al.aU (o:=HO.set (λk=>u.any (· ==k)&&!v.any (· ==k)) m) hl2;refine ⟨B,_,m,rfl,jy,?_⟩
   have key:decide (V.int (m:Int)=V.int 0)=decide (∀i∈u,i∈v):=by
    refine decide_eq_decide.mpr ⟨λz i hi=>?_,λz=>?_⟩
    . have E9:m=0:=by injection z with z;omega
      have:=hm.mp E9 i;have hu:(u.any λx=>x==i)=true:=Dg.mpr ⟨i,hi,by simp⟩;rw [hu] at this;simp only [Bool.true_and,Bool.not_eq_false'] at this;obtain ⟨y,I,e⟩:=Dg.mp this;rw [<-eq_of_beq e];exact I
    . have:m=0:=hm.mpr λk=>by
       cases e:(u.any λx=>x==k) with
       |false=>rfl
       |true=>
        obtain ⟨y,I,e2⟩:=Dg.mp e;rw [eq_of_beq e2] at I;have:(v.any λx=>x==k)=true:=Dg.mpr ⟨k,z k I,by simp⟩;rw [this];rfl
      rw [this];rfl
   refine ⟨rfl,?_⟩;have qq:=q (.bl (decide (V.int (m:Int)=V.int 0))) _ (s1.trans (S1.trans (s2.trans (S2.trans S3)))) (by rw [key];exact .bl _) (jV (K:=X.K) _).T
   exact qq)
def jd5 (cs:List Str) (n: ∀u,aK cV u->u=o) (v: ∀c,cs.contains c=true-> ∀C,i7 X.K c C->gX X.K (.ref C) o=some true):
  bF X (.builtin "isinstance") (λe H Q=> ∃x c i ds,e=[x,cV]/\aL X.K Any H x (.obj c i ds)/\cs.contains c=true/\Q (.bl true) H):=by
 rintro m s σ H e us Q I r ⟨x,c,i,ds,w,y,E,q⟩;subst w;obtain ⟨u,O,rfl,U,Y⟩:=kg r;cases n O Y
 cases y with
 | @obj _ _ a C dx fs vs _ _ _ Z _ hC _ _=>
  cases (show u=cK a from U);obtain ⟨_,_,_,ho,_⟩:=(show a9 X.prog X.w H s.heap a (.ins C dx fs) from I.a7 a _ Z)
  exact Oe (λM h _ p=>(wP p).andThen .now) I.fQ ho (v c E C hC.1) (λz=>nomatch z) λtk=>⟨.bl true,H,I.tok tk,rfl,q⟩
noncomputable def AY (cs:List Str):D->aj D
 | .obj c _ _=>if cs.contains c=true then .ok (.bl true) else .ai
 |_=> .ai
def Dh (cs:List Str) (f:TF):Sl->aj D:=λa=>f a>>=AY cs
def jdf (h:AY cs a= .ok d): ∃c e ds,a= .obj c e ds/\cs.contains c=true/\d= .bl true:=by
 unfold AY at h
 split at h
 . split at h
   . rename_i i;cases h;exact ⟨_,_,_,rfl,i,rfl⟩
   . cases h
 . cases h
def jiZ (cs:List Str) (Ty:Str) {l':Lv} {p L N:Pos} (z: ∀c,cs.contains c=true-> ∀C,i7 X.K c C->gX X.K (.ref C) (.ref h)=some true) (E:DE X l e f)
   (I:Gl X "isinstance") (O:X.mg "isinstance" =none) (i:Gl X Ty) (m:X.mg Ty=some (.ref h))
   (hd:Z8 Ty:=by decide) (y:bB [e,.Name Ty L] X.env=(false,eval e X.env)::bB [.Name Ty L] X.env:=by exact jm rfl)
   (n:bB [.Name Ty L] X.env=(false,eval (.Name Ty L) X.env)::bB [] X.env:=by exact jm rfl) (o:(gz N (bB [.Name Ty L] X.env)).any (·.1)=false:=by exact jH rfl):
   DE X l' (.Call (.Name "isinstance" p) [e,.Name Ty L] [] N) (Dh cs f):=by
 with_unfolding_all exact (
  PE.imp (wl (jd5 cs (cV:= .ref h) (λu r=>r) z) I O CD (j7 E (j7 (Zg (v:= .ref h) i m rfl hd) zo n) y) (by decide) (by decide) y o) λσ H Q=>by
   rintro ⟨G,U,w,d,k,Y,q⟩;obtain ⟨a,e1,e2⟩:=jd Y;refine ⟨G,U,w,a,k,e1,λv Z s r _=>?_⟩;obtain ⟨c,ns,ds,rfl,hc,rfl⟩:=jdf e2
   exact ⟨v,c,ns,ds,rfl,r.aQ Lv.bo,hc,q _ Z s (.bl true) (jV (K:=X.K) true).T⟩)
variable {l:Lv} {e:Expr} {f f1 f2:TF} {st:Stmt} {EH:List Stmt}
def jdJ:ma X EH (λ_=> .ai):=by
 with_unfolding_all exact (by
  rintro a s i H E I ⟨G,m,c,o,k,h,q⟩
  cases h)
end
section
variable {X:Cx} {K:aG}
def vE (J:X.cF=true):bF X (.type "list") (λw H Q=> ∃a c n,w=[.ref a]/\H a=some (.dT c)/\c.map (·.1)=n.map e9/\n.length<=1000/\ ∀l p,H l=none->F2 (wt H) p n->Q (.ref l) (aU H l (.ah p))):=by
 intro y s σ H w p Q I r h;obtain ⟨a,c,n,rfl,L,N,O,q⟩:=h;obtain ⟨u,rfl,U⟩:=yY r;cases U;obtain ⟨hz,lo,g,Y,o,Z,ep,ho,hx,hd,he,_⟩:=(show a9 X.prog X.w H s.heap a (.dT c) from I.a7 a _ L)
 have z:=Qd Y N
 have hV:aI (g.map λq=>V.ref q.2.1) (g.map λq=>cK q.2.1):=by
  have:=Zd (g.map λq=>q.2.1);simpa [lG,HC] using this
 have B:g.length=n.length:=by simpa using z.length
 have hD:oX s.heap a (g.map λq=>cK q.2.1) ep:=⟨o,Z,ho,hx,hd,by rw [he,lG];rfl⟩
 refine PySem.W.kdl_call (NI lo) (I.ok.hd J) hD (by rw [cg,pi];omega) λh' tk e c' v hS j=>?_
 have m:e.toList=g.map λq=>cK q.2.1:=by
  apply BK;intro i;have hl:e.toList.length=(g.map λq=>cK q.2.1).length:=by rw [lC];exact j.1
  by_cases E:i<e.toList.length
  . rw [cH E];exact (j.2 i _ (by rw [<-oj];exact cH E)).symm
  . rw [oO (by omega),oO (by omega)]
 refine ⟨.ref s.heap.objs.size,_,I.laid v (bf _) (show a9 X.prog X.w _ h' _ (.ah (g.map λq=>V.ref q.2.1)) from ⟨by rw [cg,pi];omega,e.toList,c',by rw [m];exact hV,by rw [Array.toArray_toList];exact hS⟩),rfl,q _ _ (I.a7.fresh (bf _)) z⟩
def IE:List D->aj D
 | [.cJ ks _]=>match wS ks with
  |some a=>a4 (a.length<=1000/\VA a=true) (.ok (.ah (a.map b7)))
  |none=> .ai
 |_=> .ai
def jd0:XR K (λy H Q=> ∃a g h,y=[.ref a]/\H a=some (.dT g)/\g.map (·.1)=h.map e9/\h.length<=1000/\ ∀l j,H l=none->F2 (wt H) j h->Q (.ref l) (aU H l (.ah j))) IE:=by
 intro A y H ds d Q r e q;unfold IE at e
 split at e
 . rename_i ks L
   cases m:wS ks with
   |none=>rw [m] at e;cases e
   |some h=>
    rw [m] at e;obtain ⟨⟨n,o⟩,e2⟩:=jv e;cases e2;obtain ⟨v,rfl,B⟩:=r.one;obtain ⟨p,g,rfl,E,_,u,_⟩:=B.tP;refine ⟨p,g,h,rfl,E,by rw [u];exact ZK m,n,λl j i I=>q _ _ (al.aU i) (.ah jy (.inl i) ?_) (qA (al.refl H) i)⟩
    have w: ∀a∈h,a.1.length<=aV:=λa J=>by
     have:=lI.mp o a J;simpa using this
    exact ((K3 (A:=λ_=>False) I w).ao (al.aU i)).aQ λc z=>z.elim
 . cases e
end
end M
namespace L2
open PySem PySem.Spec PyProof.Rows
section
variable {X:Cx} {a b:Expr} {rest:List Expr} {Y U:TE} {Z:Pos}
def IF (K:aG) (Y U:TE):TE:=λg H Q=>Y g H λx e=> ∃c,sW K x e c/\if c=true then Q x e else U g e Q
def jhX (o:PE X a Y) (p:PE X (.BoolOp .Or (b::rest) Z) U):PE X (.BoolOp .Or (a::b::rest) Z) (IF X.K Y U):=by
 intro e s i H Q I h;refine BoolOp_or (bv (o e s i H _ I h) λv q g=>?_);obtain ⟨x,j,r,l,c,u,m⟩:=g;refine bv (MD e q i j x v (λd H2=>d=c/\H2=j) r l ⟨c,u,rfl,rfl⟩) λd w g=>?_;obtain ⟨H2,n,e1,e2⟩:=g
 subst e1 e2
 cases d with
 |true=>exact ⟨x,H2,n,l,m⟩
 |false=>exact p e w i H2 Q n m
def jjp (B:List M.NK) (c:M.NK->Option M.NK->Prop):TE:=λ_ H Q=>B.length<aV/\ ∀p,H p=none->Q (.ref p) (aU H p (.memo B c))
def jfF:PE X (.Dict [] [] Z) (jjp B Φ):=λc s g H Q I ⟨e,h⟩=>
 wpAny_Dict_empty ⟨.ref s.heap.objs.size,_,I.laid (a:=s.heap.objs.size) (o:= .memo B Φ) (t':=s.toks) (λ_ _ q=>dc _ q) (bf _)
  ⟨e,beq_eq_false_iff_ne.mpr (lD (dH I.big)),[],(λ_ z=>by cases z),_, #[],0,gp _ rfl,⟨rfl,rfl,rfl⟩,rfl,rfl,Cf⟩,rfl,h _ (I.a7.fresh (bf _))⟩
end
end L2
namespace M
open PySem PySem.Spec L2
open PyProof.Rows hiding St
mutual
noncomputable def eS:D->Option NK
 | .int i=>some (.int i)
 | .str x=>some (.str x)
 | .ap ds=>match fZ ds with
  |some l=>some (.ap l)
  |none=>none
 | .aW=>none
 | .bl _=>none
 | .ah _=>none
 | .eN _=>none
 | .dr _ _=>none
 | .cJ _ _=>none
 | .fL _=>none
 | .ng _ _=>none
 | .ni _ _=>none
 | .obj _ _ _=>none
 | .mem _ _=>none
 | .fE _=>none
noncomputable def fZ:List D->Option (List NK)
 | []=>some []
 |d::ds=>match eS d,fZ ds with
  |some k,some l=>some (k::l)
  |_,_=>none
end
mutual
def NK.short:NK->Bool
 | .int _=>true
 | .str x=>decide (x.length<=aV)
 | .ap l=>NK.kE l
def NK.kE:List NK->Bool
 | []=>true
 |k::l=>NK.short k&&NK.kE l
end
def vm (h:fZ (d::ds)=some l): ∃k r,l=k::r/\eS d=some k/\fZ ds=some r:=by
 simp only [fZ] at h
 split at h
 . rename_i k r e1 e2;cases h;exact ⟨k,r,rfl,e1,e2⟩
 . cases h
section
variable {K:aG} {H:Hp}
def Uk (d:D): ∀k,eS d=some k->d.oV=true/\(∀A v,aL K A H v d->ff H k v)/\(k.short=true-> ∀A v,ff H k v->aL K A H v d):=by
 refine D.ind (P:=λd=> ∀k,eS d=some k->d.oV=true/\(∀A v,aL K A H v d->ff H k v)/\(k.short=true-> ∀A v,ff H k v->aL K A H v d)) ?_ ?_ ?_ ?_ ?_ ?_ ?_ ⟨?_,?_,?_,?_,?_,?_,?_,?_⟩ d
 case refine_3=>
  intro i k h;simp only [eS,BG] at h;subst h;exact ⟨rfl,λA v r=>by simp only [ff];exact r.eP,λ_ A v x=>by simp only [ff] at x;subst x;exact .int i⟩
 case refine_4=>
  intro z k h;simp only [eS,BG] at h;subst h;exact ⟨rfl,λA v r=>by simp only [ff];exact r.iT.1,λs A v x=>by simp only [ff] at x;subst x;exact .str z (by simpa [NK.short] using s)⟩
 case refine_5=>
  intro ds w k h
  have go: ∀(ds:List D) (l:List NK),(∀d∈ds,∀k,eS d=some k->d.oV=true/\(∀A v,aL K A H v d->ff H k v)/\(k.short=true-> ∀A v,ff H k v->aL K A H v d))->fZ ds=some l->
      D.iQ ds=true/\(∀A c,am K A H c ds->fP H l c)/\(NK.kE l=true-> ∀A c,fP H l c->am K A H c ds):=by
    intro ds
    induction ds with
    |nil=>
      intro l _ h;simp only [fZ,BG] at h;subst h;exact ⟨rfl,λA c r=>by cases r;simp only [fP],λ_ A c x=>by simp only [fP] at x;subst x;exact .nil⟩
    |cons d ds g=>
      intro l f h;obtain ⟨k,r,rfl,e1,e2⟩:=vm h;obtain ⟨B,E,I⟩:=f d ez k e1;obtain ⟨j,m,n⟩:=g r (λq J=>f q (dZ _ J)) e2;refine ⟨by simp [D.iQ,B,j],λA c r=>?_,λs A c x=>?_⟩
      . cases r with
        |cons L N=>simp only [fP];exact ⟨_,_,rfl,E _ _ L,m _ _ N⟩
      . simp only [fP] at x;simp only [NK.kE,eX] at s;obtain ⟨u,O,rfl,Q,U⟩:=x;exact .cons (I s.1 A u Q) (n s.2 A O U)
  simp only [eS] at h
  split at h
  . rename_i l e;cases h;obtain ⟨j,m,n⟩:=go ds l w e;refine ⟨j,λA v r=>?_,λs A v x=>?_⟩
    . obtain ⟨a,o,rfl,p,Y⟩:=r.ik;simp only [ff];exact ⟨a,o,rfl,p,m _ _ Y⟩
    . simp only [ff] at x;obtain ⟨a,o,rfl,p,y⟩:=x;exact .ap p (n (by simpa only [NK.short] using s) A o y)
  . cases h
 all_goals
  intros
  rename_i h;simp [eS] at h
def BH:D->Option (Option NK)
 | .aW=>some none
 |d=>(eS d).map some
def BI:Option NK->Bool
 |none=>true
 |some k=>k.short
def O6 (h:BH d=some a):d.oV=true/\(∀A v,aL K A H v d->n3 H a v)/\(BI a=true-> ∀A v,n3 H a v->aL K A H v d):=by
 by_cases e:d= .aW
 . subst e;simp only [BH,BG] at h;subst h;exact ⟨rfl,λA v r=>r.tD,λ_ A v x=>by cases (show v= .aW from x);exact .aW⟩
 . have c:(eS d).map some=some a:=by
    cases d<;>first|exact h|exact (e rfl).elim
   obtain ⟨k,e1,rfl⟩:=vN.mp c;exact Uk d k e1
noncomputable def ml (m c d:D):aj ba:=match m with
 | .mem B e=>match eS c,BH d with
  |some (.ap l),some a=> @a4 _ (NK.ap l∈B/\(NK.ap l).cp<=8/\BI a=true/\ ∀z,e (.ap l) z↔z=a) (sC _) (.ok (.rt true d))
  |_,_=> .ai
 |_=> .ai
def jax (h:ml m e d= .ok o): ∃B c l a,m= .mem B c/\eS e=some (.ap l)/\BH d=some a/\NK.ap l∈B/\(NK.ap l).cp<=8/\BI a=true/\(∀z,c (.ap l) z↔z=a)/\o= .rt true d:=by
 unfold ml at h
 split at h
 . split at h
   . rename_i B c _ _ l a e1 e2;obtain ⟨⟨g,i,j,n⟩,p⟩:= @jv _ _ (sC _) _ _ h;cases p;exact ⟨B,c,l,a,rfl,e1,e2,g,i,j,n,rfl⟩
   . cases h
 . cases h
def jc5 (c:eS e=some (.ap l)) (g:BH d=some a) (h:NK.ap l∈B) (i:(NK.ap l).cp<=8) (j:BI a=true) (m: ∀z,n (.ap l) z↔z=a):ml (.mem B n) e d= .ok (.rt true d):=by
 unfold ml;rw [c,g];exact @jl _ _ (sC _) _ ⟨h,i,j,m⟩
noncomputable def o4 (c f:Str) (i j:Nat) (e:TF):Sl->aj ba:=λa=>ag i a>>=λo=>r6 c f o>>=λm=>ag j a>>=λg=>e a>>=λd=>ml m g d
variable {X:Cx} {e a b:Expr} {l:Lv} {Z:Pos}
def jdI {j:Nat} {y:Str} {p1 u p3 p4 p5 z p7 p8 p9 N q2 q3 q4 q5 q6:Pos} (hu:X.A.units+200<cLine) (hf:lS X.K c f) (he:DE X l e fe) (O:X.N[i]?=some x:=by rfl) (Q:X.N[j]?=some y:=by rfl) (U:iM X.env.scope x:=by first|exact Or.inl rfl|exact rg (Or.inl rfl)|exact rg (rg rfl)) (Y:iM X.env.scope y:=by first|exact Or.inl rfl|exact rg (Or.inl rfl)|exact rg (rg rfl))
   (GC:mz (.Name x u) f X.env (eval (.Name x u) X.env)=eval (.Name x u) X.env:=by rfl) (Ci:mz (.Name x z) f X.env (eval (.Name x z) X.env)=eval (.Name x z) X.env:=by rfl) (GD:mz (.Name x N) f X.env (eval (.Name x N) X.env)=eval (.Name x N) X.env:=by rfl)
   (hm:u2 .NotIn (.Attribute (.Name x u) f p3)=false:=by rfl) (hs:lK e (some (.Subscript (.Attribute (.Name x z) f p7) (.Name y p8) p9)) p5.line X.env=pure false:=by rfl)
   (hd:Z8 x:=by decide) (Bm:X8 x:=by decide) (hdy:Z8 y:=by decide) (I:X8 y:=by decide):
   ma X [.If (.Compare (.Name y p1) [.NotIn] [.Attribute (.Name x u) f p3] p4) [.Assign [.Subscript (.Attribute (.Name x z) f p7) (.Name y p8) p9] e p5] [] q6,.Return (some (.Subscript (.Attribute (.Name x N) f q2) (.Name y q3) q4)) q5] (o4 c f i j fe):=by
 with_unfolding_all exact (gn.imp (jcB (by omega) he O U Q Y GC Ci GD hm hs hd Bm hdy I) λE σ H=>by
  rintro ⟨G,H0,env,o,k,ef,q⟩;obtain ⟨ob,e1,IG⟩:=jd ef;obtain ⟨m,e2,IH⟩:=jd IG;obtain ⟨kd,e3,ef3⟩:=jd IH;obtain ⟨d,e4,ef4⟩:=jd ef3;obtain ⟨ns,ds,rfl,e5⟩:=UE e2;obtain ⟨B,Φ,lk,nv,rfl,h1,h2,h3,h4,h5,h6,rfl⟩:=jax ef4;obtain ⟨v,s1,r1⟩:=k.aa i _ (WX e1);obtain ⟨ad,C,dx,fs,rfl,ha,_,hc,hn,rs⟩:=r1.objE;subst hn;obtain ⟨p,g1,g2⟩:=QT rs e5
  cases g2 with
  |mem hb _=>
   obtain ⟨w,s2,r2⟩:=k.aa j _ (WX e3);have hk:=(Uk (K:=X.K) (H:=H) kd _ h1).2.1 _ _ r2
   have hw: ∃cc,w= .ref cc:=by
    simp only [ff] at hk;obtain ⟨bb,vs,rfl,_⟩:=hk;exact ⟨bb,rfl⟩
   obtain ⟨cc,rfl⟩:=hw
   have J: ∀g,al H g-> ∀h p,Φ (.ap lk) h->n3 g h p->E.rt p g:=λg L h p hp hv=>by
    have:=(h6 h).mp hp;subst this;have n:=O6 (K:=X.K) (H:=g) h2;have r:=n.2.2 h5 G p hv;exact q p g (k.ae.trans L) r λ_=>MU (k.ae.trans L) r n.1
   refine ⟨ad,C,dx,_,cc,fs,.ap lk,B,Φ,s1,ha,(hf.at hc).1,(hf.at hc).2,g1,hb,s2,hk,h4,h3,J H (al.refl H),G,H0,env,d,k,e4,λv1 g L r3 _=>⟨L,⟨nv,(O6 (K:=X.K) (H:=g) h2).2.1 _ _ r3,(h6 nv).mpr rfl⟩,J g L⟩⟩)
def Ym {h:Type} (c:Sl->h) (f:h->Sl->aj D):Sl->aj D:=λg=>f (c g) g
def DE.pick {i:Type} {f:i->Sl->aj D} (c:Sl->i) (h: ∀p,DE X l e (f p)):DE X l e (Ym c f):=by
 with_unfolding_all exact (λg s j H Q I ⟨G,m,env,d,k,n,q⟩=>by
  exact (show PE X e (tE X.K l (f (c env))) from h (c env)) g s j H Q I ⟨G,m,env,d,k,n,q⟩)
def Di (f g:TF):Sl->aj D:=λc=>f c>>=λd=>Eh d>>=λb=>if b=true then .ok d else g c
def O7 {rest:List Expr} (o:DE X l a f) (p:DE X l (.BoolOp .Or (b::rest) Z) g):DE X l (.BoolOp .Or (a::b::rest) Z) (Di f g):=by
 with_unfolding_all exact (PE.imp (jhX o p) λB H Q=>by
  rintro ⟨G,m,c,r,k,u,q⟩;obtain ⟨d,e1,i⟩:=jd u;obtain ⟨t,e2,h⟩:=jd i;refine ⟨G,m,c,d,k,e1,λv w s n j=>⟨t,MW n e2,?_⟩⟩
  cases t with
  |true=>cases h;exact q v w s n j
  |false=>exact ⟨G,m,c,r,k.ao s,h,λv H2 y z j=>q v H2 (s.trans y) z (Lv.nG s j)⟩)
def cM (p:List NK×(NK->Option NK->Prop)):Sl->aj D:=λ_=>a4 (p.1.length<aV) (.ok (.mem p.1 p.2))
def jgL (p:List NK×(NK->Option NK->Prop)):DE X .t (.Dict [] [] Z) (cM p):=by
 with_unfolding_all exact (PE.imp (jfF (B:=p.1) (Φ:=p.2)) λj H Q=>by
  rintro ⟨G,m,g,d,k,h,q⟩;obtain ⟨i,e⟩:=jv h;cases e
  exact ⟨i,λp c=>q _ _ (al.aU c) (.mem jy (k.new p c)) (qA (al.refl H) c)⟩)
def am.eraseIdx (n:Nat) (r:am K A H c ds):am K A H (c.eraseIdx n) (ds.eraseIdx n):=by
 induction c generalizing ds n with
 |nil=>cases r;exact .nil
 |cons v c g=>
  cases r with
  |cons r t=>
   cases n with
   |zero=>exact t
   |succ n=>exact .cons r (g n t)
def tQ (i j:Nat) (c:Sl) (ds g:List D):D->aj ba
 | .int z=>match g[z.toNat]? with
  |some y=>a4 ((0<=z/\z<2^63)/\i≠j/\ds.length<aV) (.ok (.nx ((c.set j (.aw (.ah (g.eraseIdx z.toNat)))).set i (.aw (.ah (ds++[y]))))))
  |none=> .ai
 |_=> .ai
def II (i j:Nat) (f:TF):Sl->aj ba:=λc=>cq i c>>=λds=>cq j c>>=λg=>f c>>=λd=>tQ i j c ds g d
def jdM (i j:Nat) {y:Str} {p B n g h c:Pos} (he:DE X l e f) (hN:X.N[i]?=some x:=by rfl) (hv:iM X.env.scope x:=by first|exact Or.inl rfl|exact rg (Or.inl rfl)|exact rg (rg rfl))
   (hN':X.N[j]?=some y:=by rfl) (hv':iM X.env.scope y:=by first|exact Or.inl rfl|exact rg (Or.inl rfl)|exact rg (rg rfl))
   (hd:Z8 x:=by decide) (Bm:X8 x:=by decide) (CU:Z8 y:=by decide) (IJ:X8 y:=by decide)
   (O:mz (.Name x p) "append" X.env (eval (.Name x p) X.env)=eval (.Name x p) X.env:=by rfl) (I:mz (.Name y B) "pop" X.env (eval (.Name y B) X.env)=eval (.Name y B) X.env:=by rfl)
   (Q:(n.endLine==h.line)=true:=by rfl) (J:(g.endLine==c.line)=true:=by rfl)
   (IK:((gz c (bB [e] X.env)).all (λx=>!x.1)&&(n6 c (n8 [] X.env)).all (λx=>x.1.isSome)
    &&decide ([e].length+([]:List l9).length+(if ([]:List l9).isEmpty then 0 else 1)<30))=true:=by exact xy rfl rfl)
   (hs:bB [e] X.env=(false,eval e X.env)::bB [] X.env:=by exact jm rfl) (L:(gz c (bB [] X.env)).any (·.1)=false:=by exact jH rfl)
   (U:((gz h (bB [.Call (.Attribute (.Name y B) "pop" g) [e] [] c] X.env)).all (λx=>!x.1)&&(n6 h (n8 [] X.env)).all (λx=>x.1.isSome)
    &&decide ([Expr.Call (.Attribute (.Name y B) "pop" g) [e] [] c].length+([]:List l9).length+(if ([]:List l9).isEmpty then 0 else 1)<30))=true:=by exact xy rfl rfl)
   (O8:bB [.Call (.Attribute (.Name y B) "pop" g) [e] [] c] X.env=(false,eval (.Call (.Attribute (.Name y B) "pop" g) [e] [] c) X.env)::bB [] X.env:=by exact jm rfl) (r:(gz h (bB [] X.env)).any (·.1)=false:=by exact jH rfl)
   (hsw:lK (.Call (.Attribute (.Name x p) "append" n) [.Call (.Attribute (.Name y B) "pop" g) [e] [] c] [] h) none Z.line X.env=pure false:=by rfl):
   DS X (.Expr (.Call (.Attribute (.Name x p) "append" n) [.Call (.Attribute (.Name y B) "pop" g) [e] [] c] [] h) Z) (II i j f):=by
 with_unfolding_all exact (
  PS.imp (Qb (kP Cr Gq PySem.F.type_list_append Zv (xZ hN hv hd Bm) (j7 (kP Cr PySem.F.slot_list_pop PySem.F.type_list_pop Tt (xZ hN' hv' CU IJ) (j7 he zo hs) I IK J hs L) zo O8) O U Q O8 r) hsw) λE σ H=>by
   rintro ⟨G,H0,env,o,k,ef,q⟩;obtain ⟨ds,e1,IG⟩:=jd ef;obtain ⟨es,e2,IH⟩:=jd IG;obtain ⟨d,e3,m⟩:=jd IH;have hi:=xM e1;have hj:=xM e2;obtain ⟨a,xs,ha,hx,rs⟩:=wQ k hi;obtain ⟨b,ys,hb,hy,E8⟩:=wQ k hj
   cases d with
   |int z=>
    simp only [tQ] at m
    cases hg:es[z.toNat]? with
    |none=>rw [hg] at m;cases m
    |some w=>
     rw [hg] at m;obtain ⟨⟨⟨hz0,hz1⟩,De,hz⟩,e5⟩:=jv m;cases e5;refine ⟨.ref a,ha,.inl ⟨rfl,xs,.of hx⟩,.ref b,hb,.inl ⟨rfl,ys,.of hy⟩,G,H0,env,.int z,k,e3,λv H1 N r1 _=>?_⟩;cases r1.eP;obtain ⟨u,hu,ru⟩:=E8.get hg;have de:z.toNat<ys.length:=(m9.mp hu).1;have W:=(k.ao N).write hj hb (N _ _ hy) ((E8.ao N).eraseIdx z.toNat);have hab:a≠b:=λz=>De (k.sM i j _ _ a hi hj ha (by rw [hb,z]))
     have Cv:(env.set j (.aw (.ah (es.eraseIdx z.toNat))))[i]?=some (.aw (.ah ds)):=by rw [jr (lD De)];exact hi
     obtain ⟨a',xs',O9,qY,rs2⟩:=wQ W.1 Cv;rw [ha] at O9;cases O9;have Y:aU H1 b (.ah (ys.eraseIdx z.toNat)) a=some (.ah xs):=by rw [jR hab];exact N _ _ hx
     rw [Y] at qY;cases qY;refine ⟨b,ys,z,z.toNat,u,rfl,rfl,N _ _ hy,by omega,hz1,PySem.StrLaws.seqIndex_nonneg hz0 (by omega),hu,a,xs,u,rfl,rfl,Y,by rw [rs.length];exact hz,?_⟩;have W2:=W.1.write Cv ha Y (rs2.append (.cons (W.2.rep (k.ao N) (ru.ao N)) .nil));exact q σ _ W2.1 ((W.2.trans W2.2).ao N)
   |_=>cases m)
end
end M
namespace M
open PySem
inductive Tr where
 |bk (i:Nat)
 |nd (x:Str) (l:List Tr)
noncomputable instance:DecidableEq Tr:=λ_ _=>sC _
namespace Tr
def ind {P:Tr->Prop} (b: ∀i,P (.bk i)) (h: ∀x l,(∀t∈l,P t)->P (.nd x l)) (t:Tr):P t:=
 Tr.rec (motive_1:=P) (motive_2:=λl=> ∀t∈l,P t) b h (λ_ z=>by cases z) (λt l a b u c=>by
  rcases dk.mp c with e|e
  . rw [e];exact a
  . exact b u e) t
def au:Tr->List Tr
 |bk _=>[]
 |nd _ l=>l
noncomputable def hd:Tr->Option (Str×Nat)
 |bk _=>none
 |nd x l=>some (x,l.length)
def AZ {t:Tr} (h:t.hd=some a):a.2=t.au.length:=by
 cases t with
 |bk i=>cases h
 |nd x l=>cases h;rfl
def len_eq {s t:Tr} (h:s.hd=t.hd):s.au.length=t.au.length:=by
 cases s with
 |bk i=>cases t with
  |bk j=>rfl
  |nd y m=>cases h
 |nd x l=>cases t with
  |bk j=>cases h
  |nd y m=>simp only [hd,BG,Prod.mk.injEq] at h;exact h.2
def ext {t:Tr} (g:s.hd=some a) (c:s.hd=t.hd) (e:s.au=t.au):s=t:=by
 cases s with
 |bk i=>cases g
 |nd x l=>cases t with
  |bk j=>cases c
  |nd y m=>
   simp only [hd,au,BG,Prod.mk.injEq] at c e;rw [c.1,e]
mutual
noncomputable def sz:Tr->Nat
 |bk _=>1
 |nd _ l=>1+sP l
noncomputable def sP:List Tr->Nat
 | []=>0
 |t::l=>sz t+sP l
end
theorem Pa: ∀ {l:List Tr} {p:Tr},p∈l->sz p<=sP l
 |t::l,p,h=>by
  simp only [sP];rcases dk.mp h with e|e
  . rw [e];omega
  . have:=Pa e;omega
def bR (h:p∈t.au):sz p<sz t:=by
 cases t with
 |bk i=>cases h
 |nd x l=>
  simp only [sz];have:=Pa (show p∈l from h);omega
def oH (t:Tr):0<sz t:=by cases t<;>simp only [sz]<;>omega
end Tr
noncomputable def fu:List Tr->List Tr->Nat
 |a::l,b::m=>if a=b then fu l m+1 else 0
 |_,_=>0
theorem Xr: ∀ {l m:List Tr},l.length=m.length->l≠m-> ∃pre a b u v,l=pre++a::u/\m=pre++b::v/\a≠b/\fu l m=pre.length
 | [],[],_,h=>(h rfl).elim
 |a::l,b::m,c,h=>by
  by_cases e:a=b
  . subst e;obtain ⟨pre,x,y,u,v,g,i,j,n⟩:=Xr (l:=l) (m:=m) (by simpa using c) (λz=>h (by rw [z]));exact ⟨a::pre,x,y,u,v,by rw [g];rfl,by rw [i];rfl,j,by simp only [fu,if_true,fb,n]⟩
  . exact ⟨[],a,b,l,m,rfl,rfl,e,by simp only [fu,if_neg e,sG]⟩
def jjX (h:a≠b):fu (pre++a::u) (pre++b::v)=pre.length:=by
 induction pre with
 |nil=>simp only [Dj,fu,if_neg h,sG]
 |cons c pre e=>simp only [IL,fu,if_true,e,fb]
inductive WR where
 |part (n:Nat)|head|row (n:Nat)
section
variable (Z:Str×Nat->Nat)
def rl (s t:Tr):Bool:=match s.hd,t.hd with
 |some a,some b=>decide (Z a<Z b)
 |_,_=>false
def Qv (h:rl Z s t=true): ∃a b,s.hd=some a/\t.hd=some b/\Z a<Z b:=by
 unfold rl at h
 split at h
 . exact ⟨_,_,by assumption,by assumption,of_decide_eq_true h⟩
 . cases h
def IM (c:s.hd=some a) (e:t.hd=some b) (h:Z a<Z b):rl Z s t=true:=by
 unfold rl;rw [c,e];exact decide_eq_true h
def jjy (g:rl Z s t=true) (i:rl Z t u=true):rl Z s u=true:=by
 obtain ⟨a,b,e1,e2,h⟩:=Qv Z g;obtain ⟨c,d,e,j,l⟩:=Qv Z i;rw [e2] at e;cases e;exact IM Z e1 j (by omega)
def IN (c:s.hd=t.hd) (a:rl Z t u=true):rl Z s u=true:=by
 unfold rl at a ⊢;rw [c];exact a
def IP (a:rl Z s t=true) (c:t.hd=u.hd):rl Z s u=true:=by
 unfold rl at a ⊢;rw [<-c];exact a
noncomputable def lU (f:Tr->Tr->Bool) (s t:Tr):Option WR:=
 if s.hd=t.hd/\s≠t then
  match s.au[fu s.au t.au]?,t.au[fu s.au t.au]? with
  |some a,some b=>if (f a b&&(t.au.drop (fu s.au t.au+1)).all (f s))=true then some (.row (fu s.au t.au)) else none
  |_,_=>none
 else none
noncomputable def iH (f:Tr->Tr->Bool) (s t:Tr):Option WR:=if rl Z s t=true/\t.au.all (f s)=true then some .head else none
noncomputable def iI (f:Tr->Tr->Bool) (s t:Tr):Option WR:=(s.au.findIdx? λp=>decide (p=t)||f p t).map .part
noncomputable def hG (f:Tr->Tr->Bool) (s t:Tr):Option WR:=(iI f s t).or ((iH Z f s t).or (lU f s t))
noncomputable def wy:Nat->Tr->Tr->Option WR
 |0,_,_=>none
 |n+1,s,t=>hG Z (λa b=>(wy n a b).isSome) s t
def Q2 (j: ∀p∈s.au,f p t=g p t) (m: ∀p∈t.au,f s p=g s p) (n: ∀p∈s.au,∀q∈t.au,f p q=g p q):hG Z f s t=hG Z g s t:=by
 have e1:iI f s t=iI g s t:=by
  unfold iI;congr 1
  have: ∀l:List Tr,(∀p∈l,f p t=g p t)->(l.findIdx? λp=>decide (p=t)||f p t)=l.findIdx? λp=>decide (p=t)||g p t:=by
    intro l
    induction l with
    |nil=>intro _;rfl
    |cons a l e=>intro h;rw [IQ,IQ,h a ez,e λp c=>h p (dZ _ c)]
  exact this _ j
 have i: ∀l:List Tr,(∀p∈l,p∈t.au)->l.all (f s)=l.all (g s):=by
  intro l
  induction l with
  |nil=>intro _;rfl
  |cons a l e=>intro h;rw [vO,vO,m a (h a ez),e λp c=>h p (dZ _ c)]
 have e2:iH Z f s t=iH Z g s t:=by
  unfold iH;rw [i _ λ_ h=>h]
 have o:lU f s t=lU g s t:=by
  unfold lU
  split
  . cases r:s.au[fu s.au t.au]? with
    |none=>rfl
    |some a=>
     cases u:t.au[fu s.au t.au]? with
     |none=>rfl
     |some b=>
      simp only;rw [n a (sI r) b (sI u),i _ λp c=>EZ c]
  . rfl
 unfold hG;rw [e1,e2,o]
theorem yX: ∀(n m:Nat) (s t:Tr),s.sz+t.sz<=n->s.sz+t.sz<=m->wy Z n s t=wy Z m s t
 |0,m,s,t,h,_=>by have:=s.oH;omega
 |n+1,0,s,t,_,h=>by have:=s.oH;omega
 |n+1,m+1,s,t,e,g=>by
  show hG Z _ s t=hG Z _ s t;refine Q2 Z (λp a=>?_) (λp a=>?_) (λp a q c=>?_)
  . have:=Tr.bR a;rw [yX n m p t (by omega) (by omega)]
  . have:=Tr.bR a;rw [yX n m s p (by omega) (by omega)]
  . have:=Tr.bR a;have:=Tr.bR c;rw [yX n m p q (by omega) (by omega)]
noncomputable def way (s t:Tr):Option WR:=wy Z (s.sz+t.sz) s t
def gt (s t:Tr):Prop:=(way Z s t).isSome=true
noncomputable def gtB (s t:Tr):Bool:=(way Z s t).isSome
def vX (s t:Tr):way Z s t=hG Z (gtB Z) s t:=by
 have:way Z s t=wy Z (s.sz+t.sz+1) s t:=yX Z _ _ s t (bf _) (by omega);rw [this];show hG Z _ s t=_;refine Q2 Z (λp a=>?_) (λp a=>?_) (λp a q c=>?_)
 . have:=Tr.bR a;show (wy Z _ p t).isSome=(wy Z _ p t).isSome;rw [yX Z (s.sz+t.sz) (p.sz+t.sz) p t (by omega) (by omega)]
 . have:=Tr.bR a;show (wy Z _ s p).isSome=(wy Z _ s p).isSome;rw [yX Z (s.sz+t.sz) (s.sz+p.sz) s p (by omega) (by omega)]
 . have:=Tr.bR a;have:=Tr.bR c;show (wy Z _ p q).isSome=(wy Z _ p q).isSome;rw [yX Z (s.sz+t.sz) (p.sz+q.sz) p q (by omega) (by omega)]
def xw (s t:Tr):gt Z s t↔(∃p∈s.au,p=t\/gt Z p t)\/(rl Z s t=true/\ ∀p∈t.au,gt Z s p)\/(s.hd=t.hd/\ ∃pre a b u v,s.au=pre++a::u/\t.au=pre++b::v/\a≠b/\gt Z a b/\ ∀p∈v,gt Z s p):=by
 have e:gt Z s t↔(iI (gtB Z) s t).isSome=true\/(iH Z (gtB Z) s t).isSome=true\/(lU (gtB Z) s t).isSome=true:=by
   unfold gt;rw [vX];unfold hG;rw [Option.isSome_or,Option.isSome_or,wh,wh]
 rw [e];refine or_congr ?_ (or_congr ?_ ?_)
 . unfold iI;rw [Gu,List.findIdx?_isSome,Dg];simp only [wh,decide_eq_true_eq];rfl
 . unfold iH
   by_cases h:rl Z s t=true/\t.au.all (gtB Z s)=true
   . rw [if_pos h];exact ⟨λ_=>⟨h.1,λp c=>lI.mp h.2 p c⟩,λ_=>rfl⟩
   . rw [if_neg h];exact ⟨λz=>(by cases z),λz=>(h ⟨z.1,lI.mpr z.2⟩).elim⟩
 . unfold lU
   by_cases h:s.hd=t.hd/\s≠t
   . rw [if_pos h];have E:s.au.length=t.au.length:=Tr.len_eq h.1
     cases r:s.hd with
     |none=>
       have H:s.au=[]:=by
         cases s with
         |bk i=>rfl
         |nd x l=>cases r
       rw [H];simp only [List.getElem?_nil];refine ⟨λz=>(by cases z),?_⟩;rintro ⟨_,pre,a,b,u,v,m,_⟩;simp at m
     |some o=>
     rw [<-r];obtain ⟨pre,a,b,u,v,g,j,w,q⟩:=Xr E λz=>h.2 (Tr.ext r h.1 z)
     have I:s.au[fu s.au t.au]?=some a:=by rw [q,g];simp
     have J:t.au[fu s.au t.au]?=some b:=by rw [q,j];simp
     have L:t.au.drop (fu s.au t.au+1)=v:=by rw [q,j];simp
     rw [I,J,L];simp only
     constructor
     . intro z
       split at z
       . rename_i o;rw [eX] at o;exact ⟨h.1,pre,a,b,u,v,g,j,w,o.1,λp c=>lI.mp o.2 p c⟩
       . cases z
     . rintro ⟨_,n,Y,b',u',v',m,g2,N,O,Q⟩;have c:n.length=pre.length:=by rw [<-q,m,g2,jjX N]
       rw [g] at m;rw [j] at g2;obtain ⟨_,y⟩:=List.append_inj m c.symm;obtain ⟨_,B⟩:=List.append_inj g2 c.symm;cases y;cases B;rw [if_pos]
       . rfl
       . rw [eX];exact ⟨O,lI.mpr Q⟩
   . rw [if_neg h];refine ⟨λz=>(by cases z),λ⟨U,pre,a,b,u,v,g,j,w,_⟩=>(h ⟨U,λe=>w ?_⟩).elim⟩;rw [e,j] at g;have:=IR g;cases this;rfl
variable {Z}
def wA (h:p∈s.au) (a:p=t\/gt Z p t):gt Z s t:=(xw Z s t).mpr (.inl ⟨p,h,a⟩)
def Pb (h:gt Z (.bk i) t):False:=by
 rcases (xw Z _ t).mp h with ⟨p,g,_⟩| ⟨c,_⟩| ⟨_,pre,a,b,u,v,c,_⟩
 . cases g
 . obtain ⟨a,b,e,_⟩:=Qv Z c;cases e
 . simp [Tr.au] at c
def JF {q:Tr} (s:Tr): ∀t,gt Z s t->q∈t.au->gt Z s q:=by
 induction s using Tr.ind with
 |b i=>intro t h;exact (Pb h).elim
 |h x l n=>
  intro t h c;rcases (xw Z _ t).mp h with ⟨p,g,e|e⟩| ⟨_,j⟩| ⟨_,pre,a,b,u,v,m,j,_,o,r⟩
  . subst e;exact wA g (.inr (wA c (.inl rfl)))
  . exact wA g (.inr (n p g t e c))
  . exact j q c
  . rw [j] at c;rcases i3.mp c with z|z
    . exact wA (by rw [m];exact ut _ z) (.inl rfl)
    . rcases dk.mp z with z|z
      . subst z;exact wA (p:=a) (by rw [m];simp) (.inr o)
      . exact r q z
def IS (s:Tr): ¬gt Z s s:=by
 induction s using Tr.ind with
 |b i=>exact Pb
 |h x l m=>
  intro h;rcases (xw Z _ _).mp h with ⟨p,c,e|e⟩| ⟨g,_⟩| ⟨_,pre,a,b,u,v,g,j,n,_⟩
  . have:=Tr.bR c;rw [e] at this;omega
  . exact m p c (JF p _ e c)
  . obtain ⟨a,b,e1,e2,h⟩:=Qv Z g;rw [e1] at e2;cases e2;omega
  . rw [g] at j;have:=IR j;cases this;exact n rfl
theorem yK: ∀(n:Nat) (s t u:Tr),s.sz+t.sz+u.sz<=n->gt Z s t->gt Z t u->gt Z s u
 |0,s,t,u,h,_,_=>by have:=s.oH;omega
 |n+1,s,t,u,hn,B,E=>by
  have H: ∀q∈u.au,gt Z s q:=λq hq=>by
    have:=Tr.bR hq;exact yK n s t q (by omega) B (JF t u E hq)
  rcases (xw Z s t).mp B with ⟨p,i,e|e⟩|H1
  . subst e;exact wA i (.inr E)
  . have:=Tr.bR i;exact wA i (.inr (yK n p t u (by omega) e E))
  . rcases (xw Z t u).mp E with ⟨p,i,e|e⟩|H2
    . subst e;exact JF s t B i
    . have:=Tr.bR i;exact yK n s p u (by omega) (JF s t B i) e
    . rcases H1 with ⟨z,_⟩| ⟨z,pre,a,b,x,y,r,J,k3,L,k5⟩
      . rcases H2 with ⟨m,_⟩| ⟨m,_⟩
        . exact (xw Z s u).mpr (.inr (.inl ⟨jjy Z z m,H⟩))
        . exact (xw Z s u).mpr (.inr (.inl ⟨IP Z z m,H⟩))
      . rcases H2 with ⟨m,_⟩| ⟨m,j,a',l,x',I,m1,v,m3,N,m5⟩
        . exact (xw Z s u).mpr (.inr (.inl ⟨IN Z z m,H⟩))
        . have O: ∃pre a b x y,s.au=pre++a::x/\u.au=pre++b::y/\gt Z a b:=by
           have hh:pre++b::y=j++a'::x':=J.symm.trans m1;rcases List.append_eq_append_iff.mp hh with ⟨w,o,g⟩| ⟨w,o,g⟩
           . cases w with
             |nil=>
              simp only [o8] at o;simp only [Dj] at g;cases g;subst o;have Q:a∈s.au:=by rw [r];simp
              have U:b∈t.au:=by rw [J];simp
              have Y:l∈u.au:=by rw [v];simp
              have:=Tr.bR Q;have:=Tr.bR U;have:=Tr.bR Y;exact ⟨_,a,l,x,I,r,v,yK n a b l (by omega) L N⟩
             |cons c w=>
              simp only [IL,rZ] at g;obtain ⟨g,z3⟩:=g;subst g;refine ⟨pre,a,b,x,w++l::I,r,?_,L⟩;rw [v,o];simp
           . cases w with
             |nil=>
              simp only [o8] at o;simp only [Dj] at g;cases g;subst o;have Q:a∈s.au:=by rw [r];simp
              have U:b∈t.au:=by rw [J];simp
              have Y:l∈u.au:=by rw [v];simp
              have:=Tr.bR Q;have:=Tr.bR U;have:=Tr.bR Y;exact ⟨_,a,l,x,I,r,v,yK n a b l (by omega) L N⟩
             |cons c w=>
              simp only [IL,rZ] at g;obtain ⟨g,z3⟩:=g;subst g;refine ⟨j,a',l,w++a::x,I,?_,v,N⟩;rw [r,o];simp
          obtain ⟨pre,a,b,x,y,q1,q2,q3⟩:=O;refine (xw Z s u).mpr (.inr (.inr ⟨z.trans m,pre,a,b,x,y,q1,q2,λe=>IS a (by rw [<-e] at q3;exact q3),q3,λp i=>H p (by rw [q2];simp [i])⟩))
def jjV (a:gt Z s t) (c:gt Z t u):gt Z s u:=yK _ s t u (bf _) a c
def jgi (a:gt Z s t) (c:gt Z t s):False:=IS s (jjV a c)
end
def jf7 {t:Tr} (h:p∈t.au): ∃a,t.hd=some a:=by
 cases t with
 |bk i=>cases h
 |nd x l=>exact ⟨_,rfl⟩
section
variable {Y:Str×Nat->Nat}
def jiI (h:gt Y s t):gt Y (.nd x (pre++s::post)) (.nd x (pre++t::post)):=
 (xw Y _ _).mpr (.inr (.inr ⟨by simp [Tr.hd],pre,s,t,post,post,rfl,rfl,λe=>by rw [e] at h;exact IS _ h,h,λp a=>wA (p:=p) (by simp [Tr.au,a]) (.inl rfl)⟩))
end
end M
namespace M
open PySem PySem.Spec L2
namespace Tr
mutual
noncomputable def d:Tr->D
 |bk i=> .int i
 |nd x l=> .ap (.str x::ds l)
noncomputable def ds:List Tr->List D
 | []=>[]
 |t::l=>d t::ds l
end
mutual
def k:Tr->NK
 |bk i=> .int i
 |nd x l=> .ap (.str x::ks l)
def ks:List Tr->List NK
 | []=>[]
 |t::l=>k t::ks l
end
theorem Pc: ∀l:List Tr,ds l=l.map d
 | []=>rfl
 |t::l=>by simp only [ds,fF,Pc l]
theorem Pd: ∀l:List Tr,ks l=l.map k
 | []=>rfl
 |t::l=>by simp only [ks,fF,Pd l]
def di (x:Str) (l:List Tr):(nd x l).d= .ap (.str x::l.map d):=by simp only [d,Pc]
def pS (x:Str) (l:List Tr):(nd x l).k= .ap (.str x::l.map k):=by simp only [k,Pd]
def IT {t:Tr} (h:t.hd=some a):t.d= .ap (.str a.1::t.au.map d):=by
 cases t with
 |bk i=>cases h
 |nd x l=>cases h;rw [di];rfl
theorem map_inj {e i:Type} {f:e->i}: ∀ {l m:List e},(∀a∈l,∀b,f a=f b->a=b)->l.map f=m.map f->l=m
 | [],[],_,_=>rfl
 | [],b::m,_,h=>by simp at h
 |a::l,[],_,h=>by simp at h
 |a::l,b::m,g,h=>by
  simp only [fF,rZ] at h;rw [g a ez b h.1,map_inj (λc j=>g c (dZ _ j)) h.2]
def kF (s:Tr): ∀t,s.d=t.d->s=t:=by
 induction s using ind with
 |b i=>
  intro t h
  cases t with
  |bk j=>simp only [d,D.int.injEq] at h;rw [show i=j by omega]
  |nd y m=>rw [di] at h;simp only [d] at h;cases h
 |h x l a=>
  intro t h
  cases t with
  |bk j=>rw [di] at h;simp only [d] at h;cases h
  |nd y m=>
   rw [di,di] at h;simp only [D.ap.injEq,rZ,D.str.injEq] at h;rw [h.1,map_inj a h.2]
def xR (s:Tr): ∀t,s.k=t.k->s=t:=by
 induction s using ind with
 |b i=>
  intro t h
  cases t with
  |bk j=>simp only [k,NK.int.injEq] at h;rw [show i=j by omega]
  |nd y m=>rw [pS] at h;simp only [k] at h;cases h
 |h x l a=>
  intro t h
  cases t with
  |bk j=>rw [pS] at h;simp only [k] at h;cases h
  |nd y m=>
   rw [pS,pS] at h;simp only [NK.ap.injEq,rZ,NK.str.injEq] at h;rw [h.1,map_inj a h.2]
theorem Uj: ∀ {l:List Tr},(∀t∈l,eS t.d=some t.k)->fZ (l.map d)=some (l.map k)
 | [],_=>rfl
 |t::l,h=>by
  simp only [fF,fZ,h t ez,Uj λu a=>h u (dZ _ a)]
def A0 (t:Tr):eS t.d=some t.k:=by
 induction t using ind with
 |b i=>simp only [d,k,eS]
 |h x l a=>
  rw [di,pS];simp only [eS,fZ,Uj a]
theorem VZ: ∀ {l:List Tr},(∀t∈l,nb t.d=true)->re (l.map d)=true
 | [],_=>rfl
 |t::l,h=>by
  simp only [fF,re,h t ez,VZ λu a=>h u (dZ _ a),Bool.and_self]
def tR (t:Tr):nb t.d=true:=by
 induction t using ind with
 |b i=>simp only [d,nb]
 |h x l a=>
  rw [di];simp only [nb,re,VZ a,Bool.and_self]
def Dk (s t:Tr):gq s.d t.d=decide (s=t):=by
 rw [NZ (tR s) (tR t)]
 by_cases e:s=t
 . rw [decide_eq_true e,decide_eq_true (by rw [e])]
 . rw [decide_eq_false e,decide_eq_false λz=>e (kF s t z)]
end Tr
def Tn (a:List (Str×Nat)):Nat->Tr->Prop
 |0,t=>t.hd=none\/ ∃h∈a,t.hd=some h/\t.au=[]
 |n+1,t=>t.hd=none\/ ∃h∈a,t.hd=some h/\ ∀p∈t.au,Tn a n p
def Tn.bk:Tn a n (.bk i):=by
 cases n<;>exact .inl rfl
def Tn.hd (h:Tn i n t) (e:t.hd=some a):a∈i:=by
 cases n<;>rcases h with h| ⟨b,c,g,_⟩
 . rw [h] at e;cases e
 . rw [g] at e;cases e;exact c
 . rw [h] at e;cases e
 . rw [g] at e;cases e;exact c
theorem Tn.pU: ∀ {n:Nat} {t:Tr},Tn g (n+1) t-> ∀p∈t.au,Tn g n p
 |n,t,h,p,c=>by
  rcases h with h| ⟨b,j,l,i⟩
  . obtain ⟨a,e⟩:=jf7 c;rw [h] at e;cases e
  . exact i p c
def Tn.no (h:Tn c 0 t):t.au=[]:=by
 rcases h with h| ⟨b,e,g,a⟩
 . cases t with
   |bk i=>rfl
   |nd x l=>cases h
 . exact a
theorem Tn.up: ∀ {n:Nat} {t:Tr},Tn i n t->Tn i (n+1) t
 |0,t,h=>by
  rcases h with h| ⟨b,a,c,e⟩
  . exact .inl h
  . exact .inr ⟨b,a,c,by rw [e];intro p g;cases g⟩
 |n+1,t,h=>by
  rcases h with h| ⟨b,a,c,e⟩
  . exact .inl h
  . exact .inr ⟨b,a,c,λp g=>(e p g).up⟩
def Tn.le (h:Tn a n t) (c:n<=m):Tn a m t:=by
 induction c with
 |refl=>exact h
 |step _ e=>exact e.up
theorem Tn.Pe: ∀ {n:Nat} {t:Tr},Tn c n t-> ∀p∈t.au,Tn c n p
 |0,t,h,p,a=>by rw [h.no] at a;cases a
 |n+1,t,h,p,a=>(h.pU p a).up
def jji {l:List Tr} (h: ∀t∈l,D.cp t.d<=n):D.du (l.map Tr.d)<=n:=gr λd hd=>by
 obtain ⟨t,a,rfl⟩:=c4.mp hd;exact h t a
theorem Pf {a:List (Str×Nat)}: ∀ {n:Nat} {t:Tr},Tn a n t->D.cp t.d<=n+1
 |n,.bk i,h=>by simp [Tr.d,D.cp]
 |0,.nd x l,h=>by cases (show l=[] from h.no);simp [Tr.d,Tr.ds,D.cp,D.du]
 |n+1,.nd x l,h=>by
  rw [Tr.di];simp only [D.cp,D.du];have:=jji (l:=l) (n:=n+1) λp c=>Pf (h.pU p c)
  omega
theorem NK.gr: ∀ {l:List NK} {n:Nat},(∀k∈l,k.cp<=n)->NK.du l<=n
 | [],n,_=>by simp only [NK.du];omega
 |k::l,n,h=>by
  simp only [NK.du];have c:=h k ez;have e:=NK.gr λq a=>h q (dZ _ a)
  omega
theorem K0: ∀ {n:Nat} {t:Tr},Tn e n t->t.k.cp<=n+1
 |n,.bk i,h=>by simp [Tr.k,NK.cp]
 |0,.nd x l,h=>by cases (show l=[] from h.no);simp [Tr.k,Tr.ks,NK.cp,NK.du]
 |n+1,.nd x l,h=>by
  rw [Tr.pS];simp only [NK.cp,NK.du]
  have:=NK.gr (l:=l.map Tr.k) (n:=n+1) λq a=>by
   obtain ⟨t,c,rfl⟩:=c4.mp a;exact K0 (h.pU t c)
  omega
def Fa (a:n<=100) (h:Tn hs n s):eB s.d t.d= .ok (.bl (decide (s=t))):=by
 unfold eB;rw [Tr.Dk];exact jl (.inl ⟨N0 _ (Tr.tR s),N0 _ (Tr.tR t),by have:=Pf h;omega⟩)
def sN:Nat->Nat
 |0=>1
 |n+1=>1+3*sN n
theorem Pg: ∀ {l:List Tr} {b:Nat},(∀t∈l,t.sz<=b)->Tr.sP l<=l.length*b
 | [],b,_=>by simp [Tr.sP]
 |t::l,b,h=>by
  simp only [Tr.sP,fb];have c:=h t ez;have e:=Pg λu a=>h u (dZ _ a)
  rw [EE];omega
theorem jhv: ∀n,1<=sN n
 |0=>bf _
 |n+1=>by show 1<=1+_;omega
theorem IU (c: ∀h∈e,h.2<=3): ∀ {n:Nat} {t:Tr},Tn e n t->t.sz<=sN n
 |n,.bk i,h=>by simp only [Tr.sz];exact jhv n
 |0,.nd x l,h=>by cases (show l=[] from h.no);simp [Tr.sz,Tr.sP,sN]
 |n+1,.nd x l,h=>by
  have g:=c _ (h.hd (a:=(x,l.length)) rfl);simp only [Tr.sz,sN];have m:=Pg (l:=l) (b:=sN n) λp j=>IU c (h.pU p j)
  have o:=IV (sN n) (show l.length<=3 from g);omega
mutual
def Tr.ps:Tr->List Tr
 | .bk i=>[.bk i]
 | .nd x l=> .nd x l::Tr.tU l
def Tr.tU:List Tr->List Tr
 | []=>[]
 |t::l=>Tr.ps t++Tr.tU l
end
def Qa (t:Tr):t∈t.ps:=by cases t<;>simp only [Tr.ps]<;>exact ez
def Ph (t:Tr):t.ps.length=t.sz:=by
 refine Tr.rec (motive_1:=λt=>t.ps.length=t.sz) (motive_2:=λl=>(Tr.tU l).length=Tr.sP l) (λi=>rfl) ?_ rfl ?_ t
 . intro x l h;simp only [Tr.ps,Tr.sz,fb,h];omega
 . intro t l a c;simp only [Tr.tU,Tr.sP,iE,a,c]
theorem uH: ∀ {l:List Tr} {p:Tr},p∈l-> ∀q∈p.ps,q∈Tr.tU l
 |t::l,p,h,q,a=>by
  simp only [Tr.tU];rcases dk.mp h with e|e
  . subst e;exact ut _ a
  . exact pf _ (uH e q a)
def Yk {t:Tr} (h:p∈t.au): ∀q∈p.ps,q∈t.ps:=λq a=>by
 cases t with
 |bk i=>cases h
 |nd x l=>simp only [Tr.ps];exact dZ _ (uH h q a)
def QL (t:Tr): ∀p∈t.ps,∀q∈p.ps,q∈t.ps:=by
 induction t using Tr.ind with
 |b i=>
  intro p a q c;simp only [Tr.ps,g8] at a;rw [a] at c;exact c
 |h x l g=>
  intro p a q c;simp only [Tr.ps] at a;rcases dk.mp a with e|e
  . subst e;exact c
  . have: ∀(l:List Tr),p∈Tr.tU l-> ∃t∈l,p∈t.ps:=by
     intro l
     induction l with
     |nil=>intro h;simp only [Tr.tU] at h;cases h
     |cons t l g=>
      intro h;simp only [Tr.tU] at h;rcases i3.mp h with z|z
      . exact ⟨t,ez,z⟩
      . obtain ⟨u,n,j⟩:=g z;exact ⟨u,dZ _ n,j⟩
    obtain ⟨u,m,j⟩:=this l e;exact Yk (t:= .nd x l) m q (g u m p j q c)
def WR.d:WR->D
 | .part n=> .ap [.str "part",.int n]
 | .head=> .ap [.str "head"]
 | .row n=> .ap [.str "row",.int n]
def WR.k:WR->NK
 | .part n=> .ap [.str "part",.int n]
 | .head=> .ap [.str "head"]
 | .row n=> .ap [.str "row",.int n]
def wD:Option WR->D
 |none=> .aW
 |some w=>w.d
def jii (w:Option WR):BH (wD w)=some (w.map WR.k):=by
 cases w with
 |none=>rfl
 |some w=>cases w<;>rfl
def jih (w:Option WR):BI (w.map WR.k)=true:=by
 cases w with
 |none=>rfl
 |some w=>cases w<;>(simp only [Option.map,WR.k,BI,NK.short,NK.kE,Bool.and_true];decide)
def jhh (w:Option WR):Eh (wD w)= .ok w.isSome:=by
 cases w with
 |none=>rfl
 |some w=>cases w<;>rfl
def nR (s t:Tr):List NK:=s.ps.flatMap λp=>t.ps.map λq=> .ap [p.k,q.k]
def jcD (a:p∈s.ps) (c:q∈t.ps):NK.ap [p.k,q.k]∈nR s t:=
 rc.mpr ⟨p,a,c4.mpr ⟨q,c,rfl⟩⟩
def jcE (s t:Tr):(nR s t).length=s.sz*t.sz:=by
 unfold nR;rw [List.length_flatMap,CM (g:=λ_=>t.sz) λp _=>by rw [cg,Ph]];rw [List.map_const',List.sum_replicate_nat,Ph]
def Fb (a:Str×Nat->Nat):NK->Option NK->Prop:=λk z=> ∀s t:Tr,k= .ap [s.k,t.k]->z=(way a s t).map WR.k
def jfB (a:Str×Nat->Nat) (s t:Tr) (z:Option NK):Fb a (.ap [s.k,t.k]) z↔z=(way a s t).map WR.k:=by
 constructor
 . intro h;exact h s t rfl
 . rintro rfl c g e;simp only [NK.ap.injEq,rZ,and_true] at e;rw [Tr.xR s c e.1,Tr.xR t g e.2]
def c7 (a:List (Str×Nat)) (h:Str×Nat):Nat:=a.idxOf h
def mn (h:Str×Nat):List aS:=[sD h.1,ri (h.2:Int)]
def KZ (h:mn a=mn b):a=b:=by
 simp only [mn,rZ,Sum.inr.injEq,Sum.inl.injEq,and_true] at h;exact vl h.1 (by omega)
def eL (a:List (Str×Nat)):D:= .cJ (a.map mn) ((fK a.length).map λ(i:Nat)=>D.int i)
def jfp (h:eL a=eL b):a=b:=by
 unfold eL at h;simp only [D.cJ.injEq] at h;exact Tr.map_inj (λx _ y e=>KZ e) h.1
def bJ (a:List (Str×Nat)):D:= .obj "Ranks" ["rank"] [eL a]
noncomputable def iW (a:List (Str×Nat)) (s t:Tr):List NK×(NK->Option NK->Prop):=(nR s t,Fb (c7 a))
end M
namespace M
open PySem PySem.Spec L2
open PyProof.Rows hiding St
section
variable {X:Cx} {a b:Expr} {g:TB} {N I L pt O:Pos} {x y:Str} {B J:Nat}
noncomputable def A1 (i j:Nat) (g:TB):Sl->aj ba:=λc=>g c>>=λds=>match ds with
 | [x,y]=> .ok (.nx ((c.set i (.aa x)).set j (.aa y)))
 |_=> .ai
def jiU (i j:Nat) (r:X.cF=true) (hN:X.N.Nodup) (u:DA X .s [a,b] g) (h:i≠j:=by decide) (v:X.N[i]?=some x:=by rfl) (w:X.N[j]?=some y:=by rfl)
   (Q:X.env.scope.names.lookup x=some .local:=by rfl) (U:X.env.scope.names.lookup y=some .local:=by rfl)
   (hw:swappedStores [.Tuple [.Name x I,.Name y L] B pt] (.Tuple [a,b] J O) X.env=pure (some [x,y]):=by rfl)
   (Y:swapsWithSole [.Tuple [.Name x I,.Name y L] B pt] (.Tuple [a,b] J O) N.line X.env=pure false:=by rfl):
   DS X (.Assign [.Tuple [.Name x I,.Name y L] B pt] (.Tuple [a,b] J O) N) (A1 i j g):=by
 with_unfolding_all exact (
  PS.imp (Si r hN v w h Q U u hw Y) λE e H=>by
   rintro ⟨G,Z,c,o,k,ef,q⟩;obtain ⟨ds,e1,e2⟩:=jd ef;refine ⟨G,Z,c,ds,k,e1,λvs l m r1=>?_⟩
   split at e2
   . rename_i dx dy;cases e2;obtain ⟨n,v2,rfl,ra,rb⟩:=r1.ak;refine ⟨n,v2,rfl,?_⟩;have k1:=(k.ao m).mD (i:=i) ra;have f1:bK c e H (c.set i (.aa dx)) (e.set i (some n)) l:= .set m λ_ _ z _=>by cases z
     have f2:bK c e l (c.set i (.aa dx)) (e.set i (some n)) l:= .set (al.refl _) λ_ _ z _=>by cases z
     have p:=f2.rep (k.ao m) rb;exact q _ _ (k1.mD (i:=j) p) (f1.trans (.set (s:= .aa dy) (al.refl _) λ_ _ z _=>by cases z))
   . cases e2)
end
section
variable {f f1 f2:TF} {fa:TB} {t Y U:TD} {g ga gb:TC} {env Z:Sl} {d x y z:D} {ds:List D} {b:Bool} {i:Nat}
def YG {T:String} (h:f env= .ok x) (a:j1 T x= .ok d):cr T f env= .ok d:=by rw [Jk,h];exact a
def KB (h:env[i]?=some (.aw (.ah ds))):cq i env= .ok ds:=by unfold cq;rw [h]
def ym {a:Tx} {c:TB} {o:ba} (h:c env= .ok ds) (e:bn (qm a g) ds env= .ok o):dz c a g env= .ok o:=(x0 h).trans e
def xE {a:Tx} {o:ba} (h:a d env= .ok Z) (c:g Z= .ok o):qm a g d env= .ok o:=(Q4 h).trans c
def jgG (h:f env= .ok d):x9 f env= .ok (.nx env):=by unfold x9;rw [h];rfl
def IW (h:Y env= .ok true):iU Y U env= .ok true:=by rw [UI,h];rfl
def Pj {i j:Int} (h:0<j/\j<2^200):pL (.int i) (.int j)= .ok (.int (i/j)):=YI (C:=AT) h
def IX (x y:D) (r:List D):aX (.ap (x::y::r)) (.int 1)= .ok y:=by
 simp only [aX];rw [show ((1:Int))=((1:Nat):Int) from rfl,M.eA];rfl
def Xw {a b:Int}:eB (.int a) (.int b)= .ok (.bl (a==b)):=jgz
def jc1 {a b:Int}:mJ (.int a) (.int b)= .ok (.bl (!(a==b))):=by
 unfold mJ;rw [jl (show CG (.int a) (.int b) from .inl ⟨rfl,rfl,by simp [D.cp]⟩)];simp [gq]
def Pk (h:f env= .ok (.ah ds)):YR f env= .ok (jN 0 ds):=by unfold YR;rw [h];rfl
def jc3 {c m:Str} {n:Nat} {F:Tz} {a:TF} {g:TB} {env:Sl} {fs:List Str} {e ds:List D} {d:D} (h:a env= .ok (.obj c fs e)) (j:fs.contains m=false) (l:g env= .ok ds) (o:ds.length+1=n) (p:F (.obj c fs e::ds)= .ok d):qi c m n F a g env= .ok d:=by
 unfold qi;rw [h];refine (jl (c:=c=c/\fs.contains m=false) ⟨rfl,j⟩).trans ?_;rw [l];exact (jl (c:=ds.length+1=n) o).trans p
def Zy {c:Str} {n:Nat} {F:FO} {g:TB} (a:g env= .ok ds) (e:ds.length=n) (h:F (.obj c [] []) ds= .ok (.aW,d)):wx c n F g env= .ok d:=by
 unfold wx;rw [a];refine (jl (c:=ds.length=n) e).trans ?_;rw [h];rfl
end
section
variable {f f1 f2:TF} {Q:TB} {t t1 t2:TD} {g ga gb:TC} {env env':Sl} {d x y z:D} {ds:List D} {b:Bool} {i:Nat} {c:Str}
def zw {o:ba} (h:g env= .ok o):yR g env= .ok o:=by unfold yR;rw [h];rfl
def Pl {a:Tx} {e:TB} (h:e env= .ok ds):nL e a g env=bn (xF a g) ds env:=by unfold nL;rw [h]
def jcm {a:Tx} (h:a d env= .ok env'):xF a g d env=g env':=by unfold xF;rw [h]
def QY {n:Nat} {F:Tz} (a:Q env= .ok ds) (e:ds.length=n):xk n F Q env=F ds:=by unfold xk;rw [a];exact jl e
def VD {a:Bool} {n:Nat} {g:TC} {ds:List D} {d:D} (h:g (j8 n ds)= .ok (.rt true d)):dB a n g ds= .ok d:=by unfold dB;rw [h];simp
def jhy {n:Nat} {g:TC} {ds:List D} {d:D} (h:g (j8 n ds)= .ok (.rt false d)):dB false n g ds= .ok d:=by unfold dB;rw [h];simp
def X9 {a:Bool} {n:Nat} {g:TC} {ds:List D} (h:g (j8 n ds)= .exc c):dB a n g ds= .exc c:=by unfold dB;rw [h]
end
section
variable {f f1 f2:FJ} {g0:TF} {fa:TB} {t:Sl->aj (Bool×Sl)} {t0:TD} {g ga gb:Sl->aj eR} {env env' lQ IY:Sl} {d H d2 o:D} {ds vs:List D} {ns:List Str} {b:Bool} {i j:Nat} {c m:Str} {oo:eR}
def jfm {N n:Nat} {d0 H:D} {rest:Sl} (a:ds.length=n) (h:g (Jt N d0 ds)= .ok (.nx (.aw H::rest))):kw N n g d0 ds= .ok (.aW,H):=by
 unfold kw;refine (jl a).trans ?_;rw [h];rfl
end
end M
namespace G
open PySem PySem.Spec L2 M
open PyProof.Rows hiding St
noncomputable def top (i:Nat):Stmt:=PySem.Challenge.pw_endwise_k36_no_ranks.main.body.getD i (.Pass ⟨0,0,0,0⟩)
abbrev ye:Stmt:=top 55
abbrev yb:Stmt:=top 56
abbrev Za:Stmt:=top 27
abbrev J3:Stmt:=top 26
abbrev Zb:Stmt:=top 31
abbrev y9:Stmt:=top 44
abbrev zm:Stmt:=zr (top 42) 0
abbrev wZ:Stmt:=top 54
abbrev WS:Stmt:=top 34
abbrev Ks:Stmt:=top 36
abbrev uv:Stmt:=top 35
abbrev Ja:Stmt:=top 38
abbrev xJ:Stmt:=top 33
abbrev J5:Stmt:=top 32
abbrev J6:Stmt:=top 28
abbrev J4:Stmt:=top 29
abbrev Q8:Stmt:=top 30
abbrev WV:Stmt:=top 37
abbrev Q9:Stmt:=top 52
abbrev y8:Stmt:=top 51
abbrev zj:Stmt:=zr (top 50) 0
abbrev J2:Stmt:=top 18
abbrev qG:Stmt:=zr (top 43) 2
abbrev qH:Stmt:=zr (top 43) 3
abbrev wX:Stmt:=top 45
abbrev qR:Stmt:=zr (top 43) 4
abbrev zL:Stmt:=zr (top 43) 1
abbrev qz:Stmt:=zr (top 43) 0
abbrev wq:Stmt:=zr (top 42) 2
abbrev zl:Stmt:=zr (top 43) 5
abbrev xL:Stmt:=zr (top 42) 4
abbrev w4:Stmt:=zr (top 50) 1
abbrev zi:Stmt:=zr (top 50) 2
abbrev w6:Stmt:=zr (top 42) 3
abbrev zh:Stmt:=top 58
abbrev wY:Stmt:=top 60
abbrev yd:Stmt:=top 63
abbrev qX:Stmt:=top 57
abbrev WT:Stmt:=top 47
abbrev J1:Stmt:=top 46
abbrev xK:Stmt:=top 59
abbrev w5:Stmt:=zr (top 42) 1
abbrev yf:Stmt:=top 61
abbrev yc:Stmt:=top 62
abbrev WU:Stmt:=top 64
abbrev MP:=List NK×(NK->Option NK->Prop)
noncomputable def be (a:Sl):MP:=Classical.epsilon λp=> ∃c s t,(a=[.aa (bJ c),.aa s.d,.aa t.d]\/ ∃r,a=[.aa (bJ c),r,.aa s.d,.aa t.d])/\p=iW c s t
noncomputable abbrev dF:Sl->aj ba:=
 (ax (jB 1 (ak (ak (cI 10) (cI 60) il) (ak (cI 10) (cI 24) il) pF)) (aM (ak (ak (ak (ak (ag 0) (ak (cI 10) (cI 60) il) bG) (cI 41) cb) (ak (cI 23) (cI 64) il) pF) (ag 1) bG)))
noncomputable def bi:List D->aj D:=aJ true 2 (dF)
noncomputable abbrev fk:Sl->aj ba:=
 (ax (jB 1 (cS "abcdefghijklmnopqrstuvwxyz")) (ax (jB 2 (ak (cI 1) (ak (ag 0) (cI 8) bG) cb)) (ax (jB 0 (ak (ag 0) (cI 8) dh)) (ax (jB 3 (cS "")) (ax (dz (mE (jb (ag 2) af)) (gN 4) (ax (jB 3 (ak (ag 3) (ak (ag 1) (ak (ag 0) (cI 26) bG) aX) cb)) (jB 0 (ak (ag 0) (cI 26) dh)))) (ax (jB 5 (ak (ag 0) (ag 2) bG)) (ax (fV 6 (b9 af)) (ax (dz (mE (jb (cI 7) af)) (gN 4) (ax (jB 7 (ak (ag 1) (ak (ak (Es (ag 1) (jb (ak (ag 3) (ag 5) aX) af) Et) (ak (cI 5) (ag 4) pF) cb) (cI 26) bG) aX)) (yy 6 (ak (ak (zf (ag 3) JA (xt (ag 5)) oC) (ag 7) cb) (zf (ag 3) (xt (ak (ag 5) (cI 1) cb)) JA oC) cb)))) (aM (vP 6))))))))))
noncomputable def fm:List D->aj D:=aJ true 8 (fk)
noncomputable abbrev eT:Sl->aj ba:=
 (ax (cT (iU (cj (a5 (cr "str" (ag 0)))) (cj (a5 (ZW (cI 1) (app (jb (ag 0) af) ce) (cI 8) pG pG)))) (aM (cB false)) cz) (aM (app (jb (zE false 1 [] (fh (ag 0)) (gN 0) qF (ak (ag 0) (cS "abcdefghijklmnopqrstuvwxyz") inD)) af) mH)))
noncomputable def c8:List D->aj D:=aJ true 1 (eT)
noncomputable abbrev kG:Sl->aj ba:=
 (aM (n9 (cr "int" (ag 0)) (tF (cr "bool" (ag 0))) true))
noncomputable def dM:List D->aj D:=aJ true 1 (kG)
noncomputable abbrev mo (a:Tz) (c:Tz):Sl->aj ba:=
 (ax (cT (iU (cj (a5 (cr "tuple" (ag 0)))) (a5 (ak (app (jb (ag 0) af) ce) (cI 2) mJ))) (aM (cB false)) cz) (aM (n9 (jn 1 a (jb (ak (ag 0) (cI 0) aX) af)) (n9 (jn 1 c (jb (ak (ag 0) (cI 1) aX) af)) (ZW (cI 0) (ak (ag 0) (cI 1) aX) (cI 9) pG pG) true) true)))
noncomputable def gu:List D->aj D:=aJ true 1 (mo c8 dM)
noncomputable abbrev iJ (a:Tz):Sl->aj ba:=
 (ax (cT (iU (cj (a5 (cr "list" (ag 0)))) (a5 (ak (app (jb (ag 0) af) ce) (cI 60) pH))) (aM (cB false)) cz) (aM (n9 (app (jb (zE false 1 [] (fh (ag 0)) (gN 0) qF (jn 1 a (jb (ag 0) af))) af) mH) (ak (xQ (ag 0)) (app (jb (ag 0) af) ce) eB) true)))
noncomputable def bw:List D->aj D:=aJ true 1 (iJ gu)
noncomputable abbrev bM (a:Tz):Sl->aj eR:=
 (pM (Bz (cj (a5 (jn 1 a (jb (ag 1) af)))) X0 C2) (WP 0 "Ranks" "rank" (app (jb (zE false 2 [] (YR (ag 1)) (g2 (gN 0) (gN 1)) qF (aT (jb (ag 1) (jb (ag 0) af)))) af) WD)))
noncomputable def bc:FO:=kw 2 1 (bM bw)
noncomputable abbrev f6:Sl->aj ba:=
 (ax (cT (a5 (ak (ag 1) (app (jb (ag 0) af) ce) ltI)) (retS (ak (ag 0) (ag 1) aX)) cz) (aM (cI 0)))
noncomputable def bp:List D->aj D:=aJ false 2 (f6)
noncomputable abbrev nS:Sl->aj ba:=
 (aM (GN (a5 (cr "tuple" (ag 0))) (zf (ag 0) (xt (cI 1)) JA oC) (aT af)))
noncomputable def aP:List D->aj D:=aJ true 1 (nS)
noncomputable abbrev hH (a:Tz) (c:Tz):Sl->aj ba:=
 (ax (fV 1 (b9 (jb (ag 0) af))) (ax (dz (fh (jn 1 a (jb (ag 0) af))) (gN 2) (zQ 1 (jn 1 c (jb (ag 2) af)))) (aM (vP 1))))
noncomputable def bx:Nat->List D->aj D
 |0=>λ_=> .ai
 |n+1=>aJ true 3 (hH aP (bx n))
noncomputable abbrev sd:Sl->aj ba:=
 (aM (GN (a5 (cr "tuple" (ag 0))) (aT (jb (ak (ag 0) (cI 0) aX) (jb (ak (app (jb (ag 0) af) ce) (cI 1) CJ) af))) cN))
noncomputable def cm:List D->aj D:=aJ true 1 (sd)
noncomputable abbrev iK (a:Tz) (c:Tz):Sl->aj ba:=
 (ax (fV 1 NO) (ax (dz (fh (ag 0)) (gN 2) (dz (fh (jn 1 a (jb (ag 2) af))) (gN 3) (cT (a5 (cr "tuple" (ag 3))) (vA 1 (jn 1 c (jb (ag 3) af)) (cB true)) cz))) (lP 1 (aM (app (jb (ag 1) af) WM)))))
noncomputable def bz:List D->aj D:=aJ true 4 (iK (bx 64) cm)
noncomputable abbrev eM (a:Tz):Sl->aj ba:=
 (ax (fV 1 (b9 af)) (ax (dz (fh (ag 0)) (gN 2) (zQ 1 (jn 1 a (jb (ag 2) af)))) (aM (vP 1))))
noncomputable def bC:List D->aj D:=aJ true 3 (eM aP)
noncomputable abbrev fq (a:Tz):Sl->aj ba:=
 (ax (jB 1 (b9 (jb (ag 0) af))) (ax (jB 2 (cI 0)) (ax (jB 3 (cI 0)) (ax (za 2000 (rM (ag 1)) (ax (jB 2 (ak (ag 2) (cI 1) (ox λi j=>i+j))) (ax (jB 3 (ak (ag 3) (app (jb (ag 1) af) ce) (ox λi j=>i+j))) (ax (cT (iU (a5 (ak (ag 2) (cI 60) pH)) (a5 (ak (ag 3) (cI 1000) pH))) (aM (cB true)) cz) (jB 1 (jn 1 a (jb (ag 1) af))))))) (aM (cB false))))))
noncomputable def dN:List D->aj D:=aJ true 4 (fq bC)
noncomputable abbrev fw (a:Tz):Sl->aj ba:=
 (aM (n9 (jn 1 a (jb (ag 0) af)) (ZW (cI 0) (ag 0) (cI 999) pG pG) true))
noncomputable def c9:List D->aj D:=aJ true 1 (fw dM)
noncomputable abbrev dO (a:Tz) (c:Tz):Sl->aj ba:=
 (ax (cT (a5 (cr "tuple" (ag 0))) (aM (n9 (ZW (cI 1) (app (jb (ag 0) af) ce) (ak (cI 9) (cI 1) cb) pG pG) (jn 1 c (jb (ak (ag 0) (cI 0) aX) af)) true)) cz) (aM (jn 1 a (jb (ag 0) af))))
noncomputable def dP:List D->aj D:=aJ true 1 (dO c9 c8)
noncomputable abbrev ip (a:Tz) (c:Tz) (e:Tz):Sl->aj ba:=
 (aM (n9 (tF (jn 1 a (jb (ag 0) af))) (app (jb (zE false 1 [] (fh (jn 1 e (jb (ag 0) af))) (gN 0) qF (jn 1 c (jb (ag 0) af))) af) mH) true))
noncomputable def gv:List D->aj D:=aJ true 1 (ip dN dP (bx 64))
noncomputable abbrev kH (a:Tz):Sl->aj ba:=
 (ax (fV 1 cD) (ax (dz (fh (jn 1 a (jb (ag 0) af))) (gN 2) (cT (cj (a5 (cr "tuple" (ag 2)))) (CN 1 (ag 2) (cB true)) cz)) (lP 1 (aM (app (jb (ag 1) af) Eu)))))
noncomputable def k4:List D->aj D:=aJ true 3 (kH (bx 64))
noncomputable abbrev iq (a:Tz) (c:Tz):Sl->aj ba:=
 (ax (cT (iU (cj (a5 (cr "tuple" (ag 0)))) (a5 (ak (app (jb (ag 0) af) ce) (cI 2) mJ))) (aM (cB false)) cz) (ax (cT (iU (cj (a5 (jn 1 a (jb (ak (ag 0) (cI 0) aX) af)))) (iU (cj (a5 (jn 1 a (jb (ak (ag 0) (cI 1) aX) af)))) (cj (a5 (cr "tuple" (ak (ag 0) (cI 0) aX)))))) (aM (cB false)) cz) (aM (ak (jn 1 c (jb (ak (ag 0) (cI 1) aX) af)) (jn 1 c (jb (ak (ag 0) (cI 0) aX) af)) pR))))
noncomputable def gw:List D->aj D:=aJ true 1 (iq gv k4)
noncomputable abbrev iL (a:Tz):Sl->aj ba:=
 (ax (cT (iU (cj (a5 (cr "list" (ag 0)))) (a5 (ak (app (jb (ag 0) af) ce) (cI 40) pH))) (aM (cB false)) cz) (aM (app (jb (zE false 1 [] (fh (ag 0)) (gN 0) qF (jn 1 a (jb (ag 0) af))) af) mH)))
noncomputable def eE:List D->aj D:=aJ true 1 (iL gw)
noncomputable abbrev cA (a:Tz) (c:Tz):Sl->aj eR:=
 (pM (Bz (cj (a5 (jn 1 c (jb (ag 1) af)))) X0 C2) (pM (WP 0 "Rules" "listed" (app (jb (ag 1) af) vj)) (WP 0 "Rules" "named" (jn 1 a (jb (ak (zE false 2 [] (fh (ag 1)) (g2 (gN 0) (gN 1)) qF (ag 0)) (zE false 2 [] (fh (ag 1)) (g2 (gN 0) (gN 1)) qF (ag 1)) cb) af)))))
noncomputable def aE:FO:=kw 2 1 (cA bz eE)
noncomputable abbrev dQ:Sl->aj ba:=
 (nL (fh (ag 0)) (gN 2) (lH (a5 (ak (ag 2) (ag 1) pQ)) (Yc "NoHead") (yR cz)))
noncomputable def bN:List D->aj D:=dB true 3 (dQ)
noncomputable abbrev bS (a:Tz) (c:Tz):Sl->aj ba:=
 (ax (dz (CZ (jn 1 a (jb (ag 1) af))) (g2 (gN 3) (gN 4)) (cT (iU (a5 (ak (ag 4) (ag 2) eB)) (a5 (ak (qi "Reckoning" "way" 3 c (ag 0) (jb (ag 4) (jb (ag 2) af))) cN oG))) (aM (aT (jb (cS "part") (jb (ag 3) af)))) cz)) (aM cN))
noncomputable def bT (a:Tz):List D->aj D:=aJ true 5 (bS aP a)
noncomputable abbrev bU (c:Tz) (a:Tz) (e:Tz):Sl->aj ba:=
 (ax (cT (iU (cj (a5 (cr "tuple" (ag 1)))) (cj (a5 (cr "tuple" (ag 2))))) (aM cN) cz) (ax (cT (a5 (ak (ak (fY "Reckoning" "rank" (i6 0)) (jn 1 a (jb (ag 1) af)) nQ) (ak (fY "Reckoning" "rank" (i6 0)) (jn 1 a (jb (ag 2) af)) nQ) Nn)) (aM cN) cz) (ax (dz (fh (jn 1 c (jb (ag 2) af))) (gN 3) (cT (a5 (ak (qi "Reckoning" "way" 3 e (ag 0) (jb (ag 1) (jb (ag 3) af))) cN nj)) (aM cN) cz)) (aM (aT (jb (cS "head") af))))))
noncomputable def bV (a:Tz):List D->aj D:=aJ true 4 (bU aP cm a)
noncomputable abbrev f7 (a:Tz):Sl->aj ba:=
 (ax (jB 2 (cI 0)) (ax (za 64 (a5 (ak (ak (jn 1 a (jb (ag 0) af)) (ag 2) aX) (ak (jn 1 a (jb (ag 1) af)) (ag 2) aX) eB)) (jB 2 (ak (ag 2) (cI 1) (ox λi j=>i+j)))) (retS (ag 2))))
noncomputable def dR:List D->aj D:=aJ false 3 (f7 aP)
noncomputable abbrev dj (g:Tz) (c:Tz) (a:Tz) (e:Tz):Sl->aj ba:=
 (ax (cT (iU (cj (a5 (cr "tuple" (ag 1)))) (iU (a5 (ak (jn 1 e (jb (ag 1) af)) (jn 1 e (jb (ag 2) af)) mJ)) (a5 (ak (ag 1) (ag 2) eB)))) (aM cN) cz) (ax (jB 3 (jn 2 g (jb (ag 1) (jb (ag 2) af)))) (ax (cT (a5 (ak (qi "Reckoning" "way" 3 c (ag 0) (jb (ak (jn 1 a (jb (ag 1) af)) (ag 3) aX) (jb (ak (jn 1 a (jb (ag 2) af)) (ag 3) aX) af))) cN nj)) (aM cN) cz) (ax (dz (fh (zf (jn 1 a (jb (ag 2) af)) (xt (ak (ag 3) (cI 1) cb)) JA oC)) (gN 4) (cT (a5 (ak (qi "Reckoning" "way" 3 c (ag 0) (jb (ag 1) (jb (ag 4) af))) cN nj)) (aM cN) cz)) (aM (aT (jb (cS "row") (jb (ag 3) af))))))))
noncomputable def bY (a:Tz):List D->aj D:=aJ true 5 (dj dR a aP cm)
noncomputable abbrev eF (a:Tz) (c:Tz) (e:Tz):Sl->aj ba:=
 (ax (jB 3 (aT (jb (ag 1) (jb (ag 2) af)))) (o4 "Reckoning" "ways" 0 3 (Di (qi "Reckoning" "by_part" 3 a (ag 0) (jb (ag 1) (jb (ag 2) af))) (Di (qi "Reckoning" "by_head" 3 c (ag 0) (jb (ag 1) (jb (ag 2) af))) (qi "Reckoning" "by_row" 3 e (ag 0) (jb (ag 1) (jb (ag 2) af)))))))
noncomputable def az:Nat->List D->aj D
 |0=>λ_=> .ai
 |n+1=>aJ true 4 (eF (bT (az n)) (bV (az n)) (bY (az n)))
noncomputable abbrev bj (p:MP):Sl->aj eR:=
 (pM (WP 0 "Reckoning" "rank" (ag 1)) (WP 0 "Reckoning" "ways" (cM p)))
noncomputable def aN (p:MP):FO:=kw 2 1 (bj p)
noncomputable abbrev fI (a:Tz) (c:Tz) (e:Tz) (g:MP->FO):Sl->aj ba:=
 (ax (x9 (xk 2 a (jb (jn 1 c (jb (b9 (jb (ag 1) (jb (ag 2) af))) af)) (jb (fY "Ranks" "rank" (i6 0)) af)))) (yR (aM (ak (Ym be λp=>(qi "Reckoning" "way" 3 e (wx "Reckoning" 1 (g p) (jb (fY "Ranks" "rank" (i6 0)) af)) (jb (ag 1) (jb (ag 2) af)))) cN oG))))
noncomputable def aZ:List D->aj D:=dB true 3 (fI bN bz (az 32) aN)
noncomputable abbrev dS (a:Tz):Sl->aj ba:=
 (ax (jB 3 (qi "Reckoning" "way" 3 a (ag 0) (jb (ag 1) (jb (ag 2) af)))) (ax (cT (a5 (ak (ag 3) cN nj)) (aM cN) cz) (λ_=> .ai)))
noncomputable def cC:List D->aj D:=aJ true 6 (dS (az 32))
noncomputable abbrev gF (a:Tz) (c:Tz) (e:Tz) (g:MP->FO):Sl->aj ba:=
 (ax (x9 (xk 2 a (jb (jn 1 e (jb (b9 (jb (ag 1) (jb (ag 2) af))) af)) (jb (fY "Ranks" "rank" (i6 0)) af)))) (yR (aM (Ym be λp=>(qi "Reckoning" "tree" 3 c (wx "Reckoning" 1 (g p) (jb (fY "Ranks" "rank" (i6 0)) af)) (jb (ag 1) (jb (ag 2) af)))))))
noncomputable def bD:List D->aj D:=dB true 3 (gF bN cC bz aN)
noncomputable abbrev f9:Sl->aj ba:=
 (aM (app (jb (fY "Rules" "listed" (i6 0)) af) vj))
noncomputable def cO:List D->aj D:=aJ true 1 (f9)
noncomputable abbrev dU:Sl->aj ba:=
 (aM (app (jb (fY "Rules" "named" (i6 0)) af) vj))
noncomputable def bO:List D->aj D:=aJ true 1 (dU)
noncomputable abbrev gc (a:Tz) (c:Tz) (e:Tz) (g:Tz) (h:MP->FO):Sl->aj ba:=
 (ax (x9 (xk 2 a (jb (qi "Rules" "heads_of" 1 e (ag 1) oS) (jb (fY "Ranks" "rank" (i6 0)) af)))) (ax (yR (dz (fh (qi "Rules" "told" 1 c (ag 1) oS)) (g2 (gN 2) (gN 3)) (cT (a5 (ak (Ym be λp=>(qi "Reckoning" "way" 3 g (wx "Reckoning" 1 (h p) (jb (fY "Ranks" "rank" (i6 0)) af)) (jb (ag 2) (jb (ag 3) af)))) cN nj)) (aM (cB false)) cz))) (yR (aM (cB true)))))
noncomputable def aY:List D->aj D:=dB true 4 (gc bN cO bO (az 32) aN)
noncomputable abbrev dW:Sl->aj ba:=
 (ax (cT (a5 (nM [("NoHead",false),("TooMany",false)] (ag 0))) (aM (cB true)) cz) (aM (n9 (nM [("NoHead",false),("TooMany",false)] (ag 0)) (n9 (nM [("NoHead",true),("TooMany",false)] (ag 0)) (nM [("NoHead",false),("TooMany",true)] (ag 0)) true) false)))
noncomputable def cE:List D->aj D:=aJ true 1 (dW)
noncomputable abbrev dX (a:Tz) (c:Tz) (e:Tz) (g:Tz):Sl->aj ba:=
 (ax (jB 5 cN) (ax (lR ["NoHead", "TooMany"] (io (a5 (ak (ag 1) (cI 0) eB)) (x9 (JB "Ranks" "falls" 3 [] a (ag 0) (jb (ag 2) (jb (ag 3) af)))) (io (a5 (ak (ag 1) (cI 1) eB)) (x9 (JB "Ranks" "why" 3 [] c (ag 0) (jb (ag 2) (jb (ag 3) af)))) (lH (a5 (ak (ag 1) (cI 2) eB)) (x9 (JB "Ranks" "lets" 2 [] e (ag 0) (jb (ag 4) af))) cz))) 6 (jB 5 (ag 6))) (aM (n9 (nM [("NoHead",true),("TooMany",false)] (ag 5)) (n9 (AQ ["NoHead", "TooMany"] (ag 5)) (tF (jn 1 g (jb (ag 5) af))) true) true))))
noncomputable def bZ:List D->aj D:=aJ true 7 (dX aZ bD aY cE)
noncomputable abbrev hJ (a:Tz) (e:FO) (g:Tz) (c:FO) (h:Tz) (i:Tz) (j:Tz):Sl->aj ba:=
 (ax (jB 2 (jn 1 a (jb (jn 2 g (jb (ag 0) (jb (cI 1) af))) af))) (ax (jB 3 (wx "Ranks" 1 e (jb (b9 (jb (aT (jb (ak (ag 1) (cI 0) aX) (jb (cI 0) af))) (jb (aT (jb (ak (ag 1) (cI 1) aX) (jb (cI 1) af))) (jb (aT (jb (ak (ag 1) (cI 1) aX) (jb (cI 2) af))) af)))) af))) (ax (jB 4 (b9 (jb (aT (jb (ak (ag 1) (cI 0) aX) af)) (jb (aT (jb (ak (ag 1) (cI 1) aX) (jb (cI 3) af))) (jb (aT (jb (ak (ag 1) (cI 1) aX) (jb (aT (jb (ak (ag 1) (cI 0) aX) af)) (jb (cI 7) af)))) (jb (cI 7) (jb (aT (jb (ak (ag 1) (cI 1) aX) (jb (aT (jb (ak (ag 1) (cI 1) aX) (jb (cI 2) af))) af))) af))))))) (ax (jB 5 (b9 (jb (aT (jb (ak (ag 1) (cI 2) aX) af)) (jb (aT (jb (ak (ag 1) (cI 0) aX) (jb (cI 4) af))) (jb (aT (jb (ak (ag 1) (cI 1) aX) (jb (cI 1) (jb (cI 2) (jb (cI 3) af))))) (jb (aT (jb (ak (ag 1) (cI 1) aX) (jb (aT (jb (ak (ag 1) (cI 2) aX) (jb (cI 1) af))) af))) (jb (aT (jb (ak (ag 1) (cI 1) aX) (jb (cI 1) (jb (aT (jb (ak (ag 1) (cI 0) aX) (jb (cI 1) af))) af)))) af))))))) (ax (dz (fh (zf (ag 0) (xt (cI 2)) (xt (cI 30)) C0)) (gN 6) (ax (jB 2 (jn 1 a (jb (ag 6) af))) (ax (jB 7 (ak (ag 4) (ak (ag 2) (cI 5) bG) aX)) (ax (jB 8 (ak (ag 5) (ak (ak (ag 2) (cI 5) dh) (cI 5) bG) aX)) (ax (jB 9 (ak (ak (ag 2) (cI 25) dh) (cI 3) bG)) (ax (cT (a5 (ak (ak (ak (ag 2) (cI 75) dh) (cI 3) bG) (cI 1) eB)) (A1 7 8 (jb (ag 8) (jb (ag 7) af))) cz) (ax (cT (a5 (ak (ak (ak (ag 2) (cI 75) dh) (cI 3) bG) (cI 2) eB)) (jB 7 (ag 8)) cz) (ax (jB 10 (ak (ag 5) (ak (ak (ag 2) (cI 5) dh) (cI 5) bG) aX)) (ax (jB 11 (wx "Rules" 1 c (jb (b9 (jb (aT (jb (aT (jb (ak (ag 1) (cI 1) aX) (jb (ak (ag 4) (cI 0) aX) (jb (ag 10) af)))) (jb (aT (jb (ak (ag 1) (cI 1) aX) (jb (ag 10) (jb (ag 10) af)))) af))) af)) af))) (ax (cT (a5 (ak (ak (ak (ag 2) (cI 225) dh) (cI 2) bG) (cI 1) eB)) (jB 11 (wx "Rules" 1 c (jb (b9 (jb (aT (jb (ak (ag 4) (cI 0) aX) (jb (ak (ag 4) (cI 0) aX) af))) (jb (aT (jb (ak (ag 4) (cI 2) aX) (jb (ak (ag 4) (cI 2) aX) af))) (jb (aT (jb (ag 10) (jb (ak (ag 4) (cI 0) aX) af))) af)))) af))) cz) (cT (cj (a5 (jn 5 h (jb (ag 3) (jb (ag 9) (jb (ag 7) (jb (ag 8) (jb (ag 11) af)))))))) (aM (cB false)) cz))))))))))) (aM (n9 (ak (qi "Ranks" "falls" 3 (λds=>oZ (i ds)) (ag 3) (jb (ak (ag 4) (cI 4) aX) (jb (cI 2) af))) (cB true) HQ) (ak (qi "Ranks" "why" 3 (λds=>oZ (j ds)) (ag 3) (jb (aT (jb (ak (ag 1) (cI 0) aX) af)) (jb (cI 9) af))) cN nj) true)))))))
noncomputable def fx:List D->aj D:=aJ true 12 (hJ bi bc bp aE bZ aZ bD)
noncomputable abbrev dD:Sl->aj ba:=
 (ax (fV 2 (app (jb (ag 1) af) vj)) (ax (fV 3 (b9 af)) (ax (za 64 (a5 (ak (i6 2) (b9 af) mJ)) (ax (tH (app (jb (ag 0) (jb (app (jb (i6 2) af) ce) af)) ZS) (g2 (gN 0) (gN 4))) (II 3 2 (ag 4)))) (aM (vP 3)))))
noncomputable def bH:List D->aj D:=aJ true 5 (dD)
noncomputable abbrev nT (a:Tz):Sl->aj ba:=
 (ax (cT (a5 (ak (ag 0) (b9 af) eB)) (aM (b9 (jb (b9 af) af))) cz) (ax (fV 1 (b9 af)) (ax (dz (YR (ag 0)) (g2 (gN 2) (gN 3)) (ax (jB 4 (ak (zf (ag 0) JA (xt (ag 2)) oC) (zf (ag 0) (xt (ak (ag 2) (cI 1) cb)) JA oC) cb)) (zQ 1 (zE false 1 [3] (fh (jn 1 a (jb (ag 4) af))) (gN 0) qF (ak (b9 (jb (ag 1) af)) (ag 0) cb))))) (aM (vP 1)))))
noncomputable def cv:Nat->List D->aj D
 |0=>λ_=> .ai
 |n+1=>aJ true 5 (nT (cv n))
noncomputable abbrev la (a:Tz) (c:Tz) (e:FO) (g:Tz):Sl->aj ba:=
 (ax (yR (jB 1 (qi "Rules" "heads_of" 1 a (ag 0) oS))) (ax (lH (a5 (ak (app (jb (ag 1) af) ce) (cI 6) pH)) (Yc "TooMany") (yR cz)) (ax (yR (dz (fh (jn 1 c (jb (ag 1) af))) (gN 2) (ax (jB 3 (wx "Ranks" 1 e (jb (ag 2) af))) (cT (a5 (qi "Ranks" "lets" 2 (λds=>oZ (g ds)) (ag 3) (jb (ag 0) af))) (retS (ag 3)) cz)))) (yR (aM cN)))))
noncomputable def bg:List D->aj D:=dB false 4 (la bO (cv 8) bc aY)
noncomputable abbrev gG (a:Tz) (c:Tz):Sl->aj ba:=
 (ax (jB 1 cN) (ax (jB 2 cN) (ax (lR ["NoHead", "TooMany"] (jB 2 (xk 1 a (jb (ag 0) af))) 3 (jB 1 (ag 3))) (ax (cT (a5 (ak (ag 1) cN nj)) (retS (ag 2)) cz) (ax (cT (As (a5 (nM [("NoHead",false),("TooMany",true)] (ag 1))) (As (a5 (AQ ["NoHead", "TooMany"] (ag 1))) (cj (a5 (jn 1 c (jb (ag 1) af)))))) (aM (cS "too many")) cz) (aM (cS "other")))))))
noncomputable def bE:List D->aj D:=aJ false 4 (gG bg cE)
noncomputable abbrev gd:Sl->aj ba:=
 (aM (app (jb (fY "Ranks" "rank" (i6 0)) af) IE))
noncomputable def dY:List D->aj D:=aJ true 1 (gd)
noncomputable abbrev fy (c:Tz) (a:Tz) (e:Tz) (g:Tz) (h:FO) (i:Tz) (j:Tz):Sl->aj ba:=
 (ax (jB 2 (jn 1 c (jb (jn 2 g (jb (ag 0) (jb (cI 1) af))) af))) (ax (jB 3 (zE false 1 [] (fh (jn 2 a (jb (ag 2) (jb (ag 1) af)))) (gN 0) qF (aT (jb (ag 0) af)))) (ax (fV 4 (b9 af)) (ax (dz (mE (jb (ak (app (jb (ag 3) af) ce) (cI 1) CJ) af)) (gN 5) (yy 4 (aT (jb (ak (ag 3) (ag 5) aX) (jb (ak (ag 3) (ak (ag 5) (cI 1) cb) aX) af))))) (ax (lP 4 (fV 4 (jn 2 a (jb (ak (ag 2) (cI 5040) dh) (jb (ag 4) af))))) (ax (lP 4 (jB 6 (jn 1 e (jb (wx "Rules" 1 h (jb (ag 4) af)) af)))) (ax (cT (a5 (ak (app (jb (ag 1) af) ce) (cI 6) pH)) (aM (ak (ag 6) (cS "too many") eB)) cz) (ax (cT (iU (cj (a5 (Dh ["Ranks"] (ag 6)))) (a5 (ak (qi "Ranks" "told" 1 i (ag 6) oS) (zE false 1 [] (fh (ag 3)) (gN 0) qF (aT (jb (ak (ag 0) (cI 0) aX) (jb (cI 0) af)))) mJ))) (aM (cB false)) cz) (ax (dz (mE (jb (app (jb (ag 3) af) ce) af)) (gN 5) (dz (mE (jb (app (jb (ag 3) af) ce) af)) (gN 7) (cT (a5 (ak (qi "Ranks" "falls" 3 (λds=>oZ (j ds)) (ag 6) (jb (ak (ag 3) (ag 5) aX) (jb (ak (ag 3) (ag 7) aX) af))) (ak (ag 5) (ag 7) ltI) mJ)) (aM (cB false)) cz))) (aM (cB true)))))))))))
noncomputable def fz:List D->aj D:=aJ true 8 (fy bi bH bE bp aE dY aZ)
noncomputable abbrev hQ (a:Tz) (c:Tz) (e:Tz) (g:FO):Sl->aj ba:=
 (ax (jB 2 (jn 1 a (jb (jn 2 c (jb (ag 0) (jb (cI 1) af))) af))) (ax (jB 3 (ak (ag 2) (cI 1000) bG)) (ax (jB 4 (aT (jb (ak (ag 1) (cI 0) aX) (jb (ag 3) (jb (aT (jb (ak (ag 1) (cI 1) aX) af)) af))))) (ax (jB 5 (aT (jb (ak (ag 1) (cI 0) aX) (jb (aT (jb (ak (ag 1) (cI 2) aX) (jb (ag 3) af))) (jb (aT (jb (ak (ag 1) (cI 1) aX) af)) af))))) (ax (dz (mE (jb (ak (ak (ag 2) (cI 1000) dh) (cI 5) bG) af)) (gN 6) (jB 5 (aT (jb (ak (ag 1) (ak (cI 2) (ak (ak (ag 2) (cI 5000) dh) (cI 2) bG) cb) aX) (jb (ag 5) af))))) (ax (fV 7 (b9 (jb (aT (jb (ag 4) (jb (ag 5) af))) af))) (ax (dz (fh (zf (ag 0) (xt (cI 2)) (xt (cI 6)) C0)) (gN 8) (ax (jB 2 (jn 1 a (jb (ag 8) af))) (ZH 7 (ak (ag 2) (cI 2) bG) (aT (jb (aT (jb (ak (ag 1) (cI 2) aX) (jb (aT (jb (ak (ag 1) (ak (ak (ag 2) (cI 2) dh) (cI 3) bG) aX) (jb (cI 4) (jb (cI 5) af)))) af))) (jb (cI 4) af)))))) (ax (lP 7 (fV 7 (zE false 1 [4,1] (fh (ag 7)) (gN 0) (iU (a5 (ak (ak (ag 0) (cI 0) aX) (ag 1) eB)) (a5 (ak (ak (ak (ak (ag 0) (cI 0) aX) (cI 1) aX) (cI 0) aX) (ak (ag 2) (cI 0) aX) eB))) (ag 0)))) (lP 7 (aM (ak (jn 1 e (jb (wx "Rules" 1 g (jb (ag 7) af)) af)) cN nj)))))))))))
noncomputable def fA:List D->aj D:=aJ true 9 (hQ bi bp bE aE)
noncomputable abbrev xX (c:Tz) (e:Tz) (g:Tz) (h:Tz) (a:Tz) (i:Tz):Sl->aj ba:=
 (ax (jB 1 (jn 1 c (jb (jn 2 h (jb (ag 0) (jb (cI 0) af))) af))) (ax (jB 2 (jn 1 e (jb (ag 1) af))) (ax (jB 3 (ak (ak (ag 1) (ak (cI 10) (cI 20) il) pL) (cI 4) bG)) (ax (cT (a5 (ak (ag 3) (cI 0) eB)) (aM (jn 2 a (jb (ag 0) (jb (ag 2) af)))) cz) (ax (cT (a5 (ak (ag 3) (cI 1) eB)) (aM (jn 2 a (jb (ag 0) (jb (zf (ag 2) JA (xt (ak (cI 2) (ak (ak (ag 1) (ak (cI 10) (cI 21) il) pL) (cI 5) bG) cb)) oC) af)))) cz) (ax (cT (a5 (ak (ag 3) (cI 2) eB)) (aM (jn 2 i (jb (ag 0) (jb (ag 2) af)))) cz) (aM (jn 2 g (jb (ag 0) (jb (ag 2) af))))))))))
noncomputable def se:List D->aj D:=aJ true 4 (xX bi fm fx bp fz fA)
def oA {c:Type} {a:aj c} (b:c) (h:a= .ok b):a= .ok b:=h
structure Gm (K:aG) (TL TX TW T3 TM TV TN TZ TR TY TU TQ TK T0 TJ:Addr) (mg:X7):Prop where
 aA:mg "isinstance" =none
 A2:mg "bool" =none
 Dl:mg "int" =none
 o5:mg "all" =none
 cU:mg "len" =none
 cP:mg "tuple" =none
 ge:mg "list" =none
 sg:mg "sorted" =none
 yn:mg "set" =none
 hU:mg "ValueError" =none
 gx:mg "range" =none
 Dn:mg "str" =none
 gf:mg "enumerate" =none
 A3:mg "dict" =none
 sh:mg "divmod" =none
 pV: ∃t,mg "LETTERS" =some (.str "abcdefghijklmnopqrstuvwxyz" t)
 lb: ∃t,mg "MOST_LETTERS" =some (.int 8 t)
 gH: ∃t,mg "MOST_PLACES" =some (.int 9 t)
 mV: ∃t,mg "MOST_BLANK" =some (.int 999 t)
 lV: ∃t,mg "MOST_LEVELS" =some (.int 60 t)
 mW: ∃t,mg "MOST_PARTS" =some (.int 1000 t)
 lW: ∃t,mg "MOST_RANKED" =some (.int 60 t)
 lc: ∃t,mg "MOST_ORDERED" =some (.int 6 t)
 mX: ∃t,mg "MOST_RULES" =some (.int 40 t)
 bA:lS K "Ranks" "rank"
 gg:lS K "Rules" "listed"
 gI:lS K "Rules" "named"
 da:lS K "Reckoning" "rank"
 eU:lS K "Reckoning" "ways"
 lf:mg "NoHead" =some (.ref TL)
 ir:mg "TooMany" =some (.ref TX)
 pW:mg "TooLong" =some (.ref TW)
 oI:mg "TooGreat" =some (.ref T3)
 si:mg "NoText" =some (.ref TM)
 sj:mg "NoStep" =some (.ref TV)
 sk:mg "NoRule" =some (.ref TN)
 oJ:mg "NoReason" =some (.ref TZ)
 so:mg "NoPath" =some (.ref TR)
 pX:mg "NoPaper" =some (.ref TY)
 sq:mg "NoPair" =some (.ref TU)
 sr:mg "NoName" =some (.ref TQ)
 ss:mg "NoLine" =some (.ref TK)
 lg:mg "EndError" =some (.ref T0)
 tV:mg "Ranks" =some (.ref TJ)
 su:i7 K "NoHead" TL
 gh:AN K TL [.type "ValueError",.type "Exception",.type "BaseException",.type "object"] "ValueError.__new__" =true
 pY:i7 K "TooMany" TX
 eV:AN K TX [.type "ValueError",.type "Exception",.type "BaseException",.type "object"] "ValueError.__new__" =true
 li: ∀c,[("NoHead" :Str),("TooMany" :Str)].contains c=true-> ∀C,i7 K c C->EJ K (.ref C) (.ref T0)=some true
 hX: ∀c,[("NoHead" :Str),("TooMany" :Str)].contains c=true-> ∀C,i7 K c C->gX K (.ref C) (.type "ValueError")=some true
 sv: ∀c,[("Ranks" :Str)].contains c=true-> ∀C,i7 K c C->gX K (.ref C) (.ref TJ)=some true
 mq: ∀c b,i4 c [(("NoHead" :Str),false),(("TooMany" :Str),true)]=some b-> ∀C,i7 K c C->iV K C/\gX K (.ref C) (.ref TX)=some b
 nU: ∀c b,i4 c [(("NoHead" :Str),true),(("TooMany" :Str),false)]=some b-> ∀C,i7 K c C->iV K C/\gX K (.ref C) (.ref TL)=some b
 IZ: ∀c b,i4 c [(("NoHead" :Str),false),(("TooMany" :Str),false)]=some b-> ∀C,i7 K c C->iV K C/\xc K (.ref C) (tM cK [T3,TW])=some b
 I0: ∀c b,i4 c [(("NoHead" :Str),false),(("TooMany" :Str),false)]=some b-> ∀C,i7 K c C->iV K C/\xc K (.ref C) (tM cK [TK,TQ,TU,TY,TR,TZ,TN,TV,TM])=some b
def Pn:aq ["_law_cell", "_law_bound"] ["_law_cell"] (jg ye):=et
def rh:aq ["_law_number", "_law_letters", "_law_size", "_law_first", "_law_k", "_law_at", "_law_names_here", "_law_sign"] ["_law_number"] (jg yb):=et
def jkF:aq ["thing"] ["thing"] (jg Za):=et
def jkJ:aq ["thing"] ["thing"] (jg J3):=et
def jkE:aq ["thing"] ["thing"] (jg Zb):=et
def jkv:aq ["thing"] ["thing"] (jg y9):=et
def jj6:aq ["self", "heads"] ["self", "heads"] (jg zm):=et
def jkk:aq ["_law_script", "_law_k"] ["_law_script", "_law_k"] (jg wZ):=et
def jkQ:aq ["term"] ["term"] (jg WS):=et
def Ji:aq ["term", "found", "place"] ["term"] (jg Ks):=et
def jkA:aq ["term"] ["term"] (jg uv):=et
def Fc:aq ["terms", "met", "term", "found"] ["terms"] (jg Ja):=et
def Jj:aq ["row", "below", "thing"] ["row"] (jg xJ):=et
def A4:aq ["thing", "row", "depth", "counted"] ["thing"] (jg J5):=et
def jkC:aq ["thing"] ["thing"] (jg J6):=et
def jkG:aq ["thing"] ["thing"] (jg J4):=et
def jkI:aq ["thing"] ["thing"] (jg Q8):=et
def Jr:aq ["term", "met", "found"] ["term"] (jg WV):=et
def jkH:aq ["thing"] ["thing"] (jg Q9):=et
def jkw:aq ["thing"] ["thing"] (jg y8):=et
def jkh:aq ["self", "rules"] ["self", "rules"] (jg zj):=et
def Po:aq ["met", "known", "found"] ["met", "known"] (jg J2):=et
def JH:aq ["self", "one", "other", "number", "place"] ["self", "one", "other"] (jg qG):=et
def Pp:aq ["self", "one", "other", "place"] ["self", "one", "other"] (jg qH):=et
def JY:aq ["one", "other", "number"] ["one", "other"] (jg wX):=et
def Ke:aq ["self", "one", "other", "number", "place"] ["self", "one", "other"] (jg qR):=et
def Pq:aq ["self", "one", "other", "pair"] ["self", "one", "other"] (jg zL):=et
def jkb:aq ["self", "rank"] ["self", "rank"] (jg qz):=et
def jj7:aq ["self", "one", "other"] ["self", "one", "other"] (jg wq):=et
def Pr:aq ["self", "one", "other", "way", "number", "place"] ["self", "one", "other"] (jg zl):=et
def jka:aq ["self", "one", "other"] ["self", "one", "other"] (jg xL):=et
def jkj:aq ["self"] ["self"] (jg w4):=et
def jki:aq ["self"] ["self"] (jg zi):=et
def Kf:aq ["self", "rules", "left", "right"] ["self", "rules"] (jg w6):=et
def jkr:aq ["_law_error"] ["_law_error"] (jg zh):=et
def Fd:aq ["_law_paper", "_law_way", "_law_one", "_law_other", "_law_rules", "_law_error", "e"] ["_law_paper", "_law_way", "_law_one", "_law_other", "_law_rules"] (jg wY):=et
def oK:aq ["_law_script", "_law_names_here", "_law_number", "_law_paper", "_law_known", "_law_strange", "_law_cell", "_law_one", "_law_other", "_law_way", "_law_odd", "_law_rules"] ["_law_script", "_law_names_here"] (jg yd):=et
def Do:aq ["_law_number", "_law_some", "_law_left", "_law_found", "_law_k"] ["_law_number", "_law_some"] (jg qX):=et
def Dp:aq ["listed", "found", "number", "first", "rest"] ["listed"] (jg WT):=et
def Fe:aq ["rules", "sought", "order", "paper"] ["rules"] (jg J1):=et
def BJ:aq ["_law_rules", "_law_error", "_law_found", "e"] ["_law_rules"] (jg xK):=et
def jj9:aq ["self"] ["self"] (jg w5):=et
def tW:aq ["_law_script", "_law_names_here", "_law_number", "_law_some", "_law_rules", "_law_k", "_law_found", "_law_j"] ["_law_script", "_law_names_here"] (jg yf):=et
def sw:aq ["_law_script", "_law_names_here", "_law_number", "_law_blank", "_law_left", "_law_right", "_law_k", "_law_rules", "_law_cell"] ["_law_script", "_law_names_here"] (jg yc):=et
def Ff:aq ["_law_script", "_law_first", "_law_names_here", "_law_way"] ["_law_script"] (jg WU):=et
section
variable (P:bQ) (w:World) (K:aG) (mg:X7) (ae:Heap) (k:Nat)
abbrev ze (f:Tz):Prop:=Av P w K mg ae k "_law_great" ["_law_cell"] true f
abbrev yz (f:Tz):Prop:=Av P w K mg ae k "_law_names" ["_law_number"] true f
abbrev JX (f:Tz):Prop:=Av P w K mg ae k "is_name" ["thing"] true f
abbrev yP (f:Tz):Prop:=Av P w K mg ae k "is_whole" ["thing"] true f
abbrev Z5 (f:Tz):Prop:=Av P w K mg ae k "is_head" ["thing"] true f
abbrev Jq (f:Tz):Prop:=Av P w K mg ae k "are_ranks" ["thing"] true f
abbrev qD (f:FO):Prop:=oa P w K mg ae k "Ranks" 1 f
abbrev qy (f:Tz):Prop:=Av P w K mg ae k "_law_cell_at" ["_law_script", "_law_k"] false f
abbrev wW (f:Tz):Prop:=Av P w K mg ae k "places" ["term"] true f
abbrev Qq (f:Tz):Prop:=Av P w K mg ae k "parts" ["term"] true f
abbrev Kd (f:Tz):Prop:=Av P w K mg ae k "head" ["term"] true f
abbrev wK (f:Tz):Prop:=Av P w K mg ae k "all_heads" ["terms"] true f
abbrev xV (f:Tz):Prop:=Av P w K mg ae k "level_below" ["row"] true f
abbrev Qs (f:Tz):Prop:=Av P w K mg ae k "is_great" ["thing"] true f
abbrev Qt (f:Tz):Prop:=Av P w K mg ae k "is_blank" ["thing"] true f
abbrev Qr (f:Tz):Prop:=Av P w K mg ae k "is_piece" ["thing"] true f
abbrev Z3 (f:Tz):Prop:=Av P w K mg ae k "is_term" ["thing"] true f
abbrev XQ (f:Tz):Prop:=Av P w K mg ae k "blanks" ["term"] true f
abbrev Z4 (f:Tz):Prop:=Av P w K mg ae k "is_rule" ["thing"] true f
abbrev Jp (f:Tz):Prop:=Av P w K mg ae k "are_rules" ["thing"] true f
abbrev qg (f:FO):Prop:=oa P w K mg ae k "Rules" 1 f
abbrev xC (f:Tz):Prop:=mM P w K mg ae k "look_for" ["met", "known"] true f
abbrev qN (f:Tz):Prop:=fH P w K mg ae k "Reckoning" "by_part" ["self", "one", "other"] true f
abbrev qO (f:Tz):Prop:=fH P w K mg ae k "Reckoning" "by_head" ["self", "one", "other"] true f
abbrev xl (f:Tz):Prop:=Av P w K mg ae k "first_unlike" ["one", "other"] false f
abbrev qV (f:Tz):Prop:=fH P w K mg ae k "Reckoning" "by_row" ["self", "one", "other"] true f
abbrev jQ (f:Tz):Prop:=fH P w K mg ae k "Reckoning" "way" ["self", "one", "other"] true f
abbrev jX (f:FO):Prop:=oa P w K mg ae k "Reckoning" 1 f
abbrev zA (f:Tz):Prop:=eK P w K mg ae k "Ranks" "falls" ["self", "one", "other"] [] true f
abbrev zy (f:Tz):Prop:=fH P w K mg ae k "Reckoning" "tree" ["self", "one", "other"] true f
abbrev xW (f:Tz):Prop:=eK P w K mg ae k "Ranks" "why" ["self", "one", "other"] [] true f
abbrev xn (f:Tz):Prop:=fH P w K mg ae k "Rules" "told" ["self"] true f
abbrev qC (f:Tz):Prop:=fH P w K mg ae k "Rules" "heads_of" ["self"] true f
abbrev xp (f:Tz):Prop:=eK P w K mg ae k "Ranks" "lets" ["self", "rules"] [] true f
abbrev qB (f:Tz):Prop:=Av P w K mg ae k "_law_other_class" ["_law_error"] true f
abbrev xm (f:Tz):Prop:=Av P w K mg ae k "_law_no_head" ["_law_paper", "_law_way", "_law_one", "_law_other", "_law_rules"] true f
abbrev yB (f:Tz):Prop:=Av P w K mg ae k "_law_lacks" ["_law_script", "_law_names_here"] true f
abbrev q9 (f:Tz):Prop:=Av P w K mg ae k "_law_turned_about" ["_law_number", "_law_some"] true f
abbrev Q0 (f:Tz):Prop:=Av P w K mg ae k "orders" ["listed"] true f
abbrev Qp (f:Tz):Prop:=mM P w K mg ae k "ranks_of" ["rules"] false f
abbrev wm (f:Tz):Prop:=Av P w K mg ae k "_law_sought" ["_law_rules"] false f
abbrev xo (f:Tz):Prop:=fH P w K mg ae k "Ranks" "told" ["self"] true f
abbrev yC (f:Tz):Prop:=Av P w K mg ae k "_law_chain" ["_law_script", "_law_names_here"] true f
abbrev yA (f:Tz):Prop:=Av P w K mg ae k "_law_loops" ["_law_script", "_law_names_here"] true f
end
section
variable {P:bQ} {w:World} {K:aG} {mg:X7} {ae:Heap} {k:Nat} {C:Addr} {r v Y I O z B N U Q J Z L u y:Addr}
variable (T:Gm K r v Y I O z B N U Q J Z L u y mg)
include T
theorem W8 (d:Dx K mg "_law_great" ye ["_law_cell"]):
  ze P w K mg ae (k+1) (aJ true 2 (dF)):=
 zF true d Pn λf c A a s H E e=>
  (jf (jt 1 Pn.nd (o0 KI Hb (kZ ib ib) (kZ ib ib))) (jj (jw (vB (l:= .t) yT yU (ob KI Hb (DE.b (wf qS wd (o0 yT yU (vb 0) (kZ ib ib)) fM)) (kZ ib ib)) (vb 1)))))
theorem W5 (d:Dx K mg "_law_names" yb ["_law_number"]):
  yz P w K mg ae (k+1) (aJ true 8 (fk)):=
 zF true d rh λf c A a s H E e=>
  (jf (jt 1 rh.nd (yW)) (jf (jt 2 rh.nd (DE.s (wf qS wd fM (o0 yT yU (vb 0) ib)))) (jf (jt 0 rh.nd (o0 wb wc (vb 0) ib)) (jf (jt 3 rh.nd (yW)) (jf (zu mr rfl (xA rfl T.gx (ja (vb 2) je)) (jG 4 rh.nd) (jf (jt 3 rh.nd (DE.s (wf qS wd (dv 3) (jP (dv 1) (Zt (vb 0) ib))))) (jj (jt 0 rh.nd (o0 wb wc (vb 0) ib))))) (jf (jt 5 rh.nd (o0 yT yU (vb 0) (vb 2))) (jf (yu 6 rh.nd (zc je)) (jf (zu mr rfl (xA rfl T.gx (ja ib je)) (jG 4 rh.nd) (jf (jt 7 rh.nd (jP (dv 1) (Zt (DE.b (wf qS wd (jj0 PySem.F.slot_str_find PySem.F.type_str_find jfW jfZ (vb 1) (ja (DE.b (jP (dv 3) (vb 5))) je)) (o0 KI Hb ib (vb 4)))) ib))) (jj (YU 6 (DE.s (wf qS wd (DE.s (wf qS wd (DE.s (xT (dv 3) Jl (wE (vb 5)))) (dv 7))) (DE.s (xT (dv 3) (wE (DE.b (wf qS wd (dv 5) fM))) Jl)))))))) (jj (ZQ 6))))))))))
theorem kU (d:Dx K mg "is_name" Za ["thing"]):
  JX P w K mg ae (k+1) (aJ true 1 (eT)):=
 zF true d jkF λf h A c s H E i=>
  (jf (qK (DW.dt (JK (zI (qx (wg (l':= .b) "str" "str" jdh (vb 0) rfl T.aA rfl T.Dn PyProof.Rows.boot_str))) (x3 (zI (jdF Yr Yv Yr Yv ib (j5 (l':= .b) j9 wj rfl T.cU og (ja (vb 0) je)) (gi rfl T.lb)))))) (jj (jw (ya))) jI) (jj (jw (j5 (JT rfl) U2 rfl T.o5 Fg (ja (DE.b (xU false ["sign", "."] 1 [] (wH none rfl rfl (by decide+kernel) trivial rfl) rfl (qQ (dv 0)) (λC e g j a=>⟨(jG 0 a),xi,(Qy SG jif (vb 0) (gst rfl T.pV))⟩))) je)))))
theorem KL (d:Dx K mg "is_whole" J3 ["thing"]):
  yP P w K mg ae (k+1) (aJ true 1 (kG)):=
 zF true d jkJ λf c A a s H E e=>
  (jj (jw (yx (wg (l':= .b) "int" "int" jdi (vb 0) rfl T.aA rfl T.Dl PyProof.Rows.boot_int) (yw (GL (l:= .t) (wg (l':= .b) "bool" "bool" jaS (vb 0) rfl T.aA rfl T.A2 PyProof.Rows.boot_bool))))))
theorem kW (d:Dx K mg "is_head" Zb ["thing"]) (e:JX P w K mg ae k g) (h:yP P w K mg ae k i):
  Z5 P w K mg ae (k+1) (aJ true 1 (mo g i)):=
 zF true d jkE λf j A a s H E c=>
  (jf (qK (DW.dt (JK (zI (qx (wg (l':= .b) "tuple" "tuple" qo (vb 0) rfl T.aA rfl T.cP sx))) (x3 (jW (Wq (aO.dA c)) kX (j5 (l':= .b) j9 wj rfl T.cU og (ja (vb 0) je)) ib)))) (jj (jw (ya))) jI) (jj (jw (yx (DE.b (by exact Av.aC e c (ja (jP (dv 0) ib) je))) (yx (DE.b (by exact Av.aC h c (ja (jP (dv 0) ib) je))) (yw (XD Yr Yv Yr Yv ib (DE.b (jP (dv 0) ib)) (gi rfl T.gH))))))))
theorem Yt (d:Dx K mg "are_ranks" y9 ["thing"]) (c:Z5 P w K mg ae k j):
  Jq P w K mg ae (k+1) (aJ true 1 (iJ j)):=
 zF true d jkv λf l A e s H E g=>
  (jf (qK (DW.dt (JK (zI (qx (wg (l':= .b) "list" "list" YH (vb 0) rfl T.aA rfl T.ge zd))) (x3 (jW kQ kY (j5 (l':= .b) j9 wj rfl T.cU og (ja (vb 0) je)) (gi rfl T.lW))))) (jj (jw (ya))) jI) (jj (jw (yx (j5 (l':= .b) (JT rfl) U2 rfl T.o5 Fg (ja (DE.b (xU false ["found", "."] 1 [] (wH none rfl rfl (by decide+kernel) trivial rfl) rfl (qQ (dv 0)) (λC h i m a=>⟨(jG 0 a),xi,(DE.s (by exact Av.aC c g (ja (dv 0) je)))⟩))) je)) (yw (Qy (zU (aO.dA g)) yh (jbI rfl (aO.dA g) (vb 0) rfl T.cU rfl T.yn) (j5 (l':= .b) j9 wj rfl T.cU og (ja (vb 0) je))))))))
theorem Jg (d:Dm K C "__init__" "Ranks.__init__" zm ["self", "heads"]) (l:bL K bt "Ranks" =some (some (.ref C))/\fG K C) (c:mg "Ranks" =some (.ref C)) (mk:sY K C=true/\l8 K (.ref C)=true) (m:Jq P w K mg ae k n):
  qD P w K mg ae (k+1) (kw 2 1 (bM n)):=
 Ik d l c mk jj6 rfl (by decide) λf o A e s H E g=>
  (JN (On (zI (qx (DE.b (by exact Av.aC m g (ja (dv 1) je))))) (JM YT) UQ) (JM (JO (i:=0) T.bA (DE.s (wG (vH rfl (jiE g)) jd2 rfl T.A3 vI (ja (DE.s (xU false ["number", "found", "."] 2 [] (wH none rfl rfl (by decide+kernel) trivial rfl) rfl (NW rfl T.gf (dv 1)) (λC h j p a=>⟨(ZT rfl (jG 0 a) (jG 1 a)),xi,(DE.s (jO (ja (dv 1) (ja (dv 0) je))))⟩))) je))))))
theorem Zo (d:Dx K mg "_law_cell_at" wZ ["_law_script", "_law_k"]):
  qy P w K mg ae (k+1) (aJ false 2 (f6)):=
 zF false d jkk λf c A a s H E e=>
  (jf (qK (jW MB Nk (vb 1) (j5 (l':= .b) j9 wj rfl T.cU og (ja (vb 0) je))) (jj (XB (jP (dv 0) (vb 1)))) jI) (jj (jw (GI))))
theorem jaf (d:Dx K mg "places" WS ["term"]):
  wW P w K mg ae (k+1) (aJ true 1 (nS)):=
 zF true d jkQ λf c A a s H E e=>
  (jj (jw (MY (qx (wg (l':= .b) "tuple" "tuple" qo (vb 0) rfl T.aA rfl T.cP sx)) (xT (dv 0) (wE ib) Jl) (jO je))))
theorem jcU (d:Dx K mg "parts" Ks ["term"]) (e:wW P w K mg ae k g) (h:Qq P w K mg ae k i):
  Qq P w K mg ae (k+1) (aJ true 3 (hH g i)):=
 zF true d Ji λf j A a s H E c=>
  (jf (yu 1 Ji.nd (zc (ja (dv 0) je))) (jf (zu mr rfl (qQ (DE.s (by exact Av.aC e c (ja (dv 0) je)))) (jG 2 Ji.nd) (jj (ZR 1 (DE.s (by exact Av.aC h c (ja (dv 2) je)))))) (jj (ZQ 1))))
theorem jfO (d:Dx K mg "head" uv ["term"]):
  Kd P w K mg ae (k+1) (aJ true 1 (sd)):=
 zF true d jkA λf c A a s H E e=>
  (jj (jw (MY (qx (wg (l':= .b) "tuple" "tuple" qo (vb 0) rfl T.aA rfl T.cP sx)) (jO (ja (jP (dv 0) ib) (ja (o0 MA Nj (j5 j9 wj rfl T.cU og (ja (vb 0) je)) ib) je))) (qL))))
theorem Yu (d:Dx K mg "all_heads" Ja ["terms"]) (e:Qq P w K mg ae k g) (h:Kd P w K mg ae k i):
  wK P w K mg ae (k+1) (aJ true 4 (iK g i)):=
 zF true d Fc λf j A a s H E c=>
  (jf (yu 1 Fc.nd jbO) (jf (zu mr rfl (qQ (dv 0)) (jG 2 Fc.nd) (jj (zu mr rfl (qQ (DE.s (by exact Av.aC e c (ja (dv 2) je)))) (jG 3 Fc.nd) (jj (qK (qx (wg (l':= .b) "tuple" "tuple" qo (vb 3) rfl T.aA rfl T.cP sx)) (jj (jdK 1 (Ch c) (DE.b (by exact Av.aC h c (ja (dv 3) je))) (ya))) jI))))) (jj (WC 1 (jw (UT (Y1 rfl) vD rfl T.sg Y5 (ja (dv 1) je)))))))
theorem Wa (d:Dx K mg "level_below" xJ ["row"]) (c:wW P w K mg ae k e):
  xV P w K mg ae (k+1) (aJ true 3 (eM e)):=
 zF true d Jj λf g A a s H E h=>
  (jf (yu 1 Jj.nd (zc je)) (jf (zu mr rfl (qQ (dv 0)) (jG 2 Jj.nd) (jj (ZR 1 (DE.s (by exact Av.aC c h (ja (dv 2) je)))))) (jj (ZQ 1))))
theorem KN (d:Dx K mg "is_great" J5 ["thing"]) (c:xV P w K mg ae k e):
  Qs P w K mg ae (k+1) (aJ true 4 (fq e)):=
 zF true d A4 λf g A a s H E h=>
  (jf (jt 1 A4.nd (DE.s (zc (ja (dv 0) je)))) (jf (jt 2 A4.nd fM) (jf (jt 3 A4.nd fM) (jf (XA 2000 mr (jiS (vb 1)) (jf (GP 2 A4.nd ib FX) (jf (GP 3 A4.nd (j5 (l':= .b) j9 wj rfl T.cU og (ja (vb 1) je)) FX) (jf (qK (DW.dt (JK (jW kQ kY (vb 2) (gi rfl T.lV)) (x3 (jW kQ kY (vb 3) (gi rfl T.mW))))) (jj (jw (ya))) jI) (jj (jt 1 A4.nd (DE.s (by exact Av.aC c h (ja (dv 1) je))))))))) (jj (jw (ya)))))))
theorem KO (d:Dx K mg "is_blank" J6 ["thing"]) (c:yP P w K mg ae k e):
  Qt P w K mg ae (k+1) (aJ true 1 (fw e)):=
 zF true d jkC λf g A a s H E h=>
  (jj (jw (yx (DE.b (by exact Av.aC c h (ja (dv 0) je))) (yw (XD Yr Yv Yr Yv ib (vb 0) (gi rfl T.mV))))))
theorem KM (d:Dx K mg "is_piece" J4 ["thing"]) (e:Qt P w K mg ae k g) (h:JX P w K mg ae k i):
  Qr P w K mg ae (k+1) (aJ true 1 (dO g i)):=
 zF true d jkG λf j A a s H E c=>
  (jf (qK (qx (wg (l':= .b) "tuple" "tuple" qo (vb 0) rfl T.aA rfl T.cP sx)) (jj (jw (yx (XD (l:= .b) Yr Yv Yr Yv ib (j5 (l':= .b) j9 wj rfl T.cU og (ja (vb 0) je)) (DE.b (wf qS wd (gis rfl T.gH) fM))) (yw (by exact Av.aC h c (ja (jP (dv 0) ib) je)))))) jI) (jj (jw (by exact Av.aC e c (ja (dv 0) je)))))
theorem kR (d:Dx K mg "is_term" Q8 ["thing"]) (i:Qs P w K mg ae k j) (m:Qr P w K mg ae k n) (o:Qq P w K mg ae k p):
  Z3 P w K mg ae (k+1) (aJ true 1 (ip j n p)):=
 zF true d jkI λf q A c s H E e=>
  (jj (jw (yx (GL (l:= .b) (DE.b (by exact Av.aC i e (ja (dv 0) je)))) (yw (j5 (JT rfl) U2 rfl T.o5 Fg (ja (DE.b (xU false ["found", "."] 1 [] (wH none rfl rfl (by decide+kernel) trivial rfl) rfl (qQ (DE.s (by exact Av.aC o e (ja (dv 0) je)))) (λC g h fp a=>⟨(jG 0 a),xi,(DE.s (by exact Av.aC m e (ja (dv 0) je)))⟩))) je))))))
theorem jah (d:Dx K mg "blanks" WV ["term"]) (e:Qq P w K mg ae k g):
  XQ P w K mg ae (k+1) (aJ true 3 (kH g)):=
 zF true d Jr λf h A a s H E c=>
  (jf (yu 1 Jr.nd jdT) (jf (zu mr rfl (qQ (DE.s (by exact Av.aC e c (ja (dv 0) je)))) (jG 2 Jr.nd) (jj (qK (zI (qx (wg (l':= .b) "tuple" "tuple" qo (vb 2) rfl T.aA rfl T.cP sx))) (jj (jgE 1 (Ch c) (vb 2) (ya))) jI))) (jj (WC 1 (jw (wG (vF rfl) jd1 rfl T.ge zd (ja (dv 1) je)))))))
theorem kT (d:Dx K mg "is_rule" Q9 ["thing"]) (e:Z3 P w K mg ae k h) (g:XQ P w K mg ae k i):
  Z4 P w K mg ae (k+1) (aJ true 1 (iq h i)):=
 zF true d jkH λf j A c s H E a=>
  (jf (qK (DW.dt (JK (zI (qx (wg (l':= .b) "tuple" "tuple" qo (vb 0) rfl T.aA rfl T.cP sx))) (x3 (jW (Wq (aO.dA a)) kX (j5 (l':= .b) j9 wj rfl T.cU og (ja (vb 0) je)) ib)))) (jj (jw (ya (l:= .t)))) jI) (jf (qK (DW.dt (JK (zI (qx (DE.b (by exact Av.aC e a (ja (jP (dv 0) ib) je))))) (JK (zI (qx (DE.b (by exact Av.aC e a (ja (jP (dv 0) ib) je))))) (x3 (zI (qx (wg (l':= .b) "tuple" "tuple" qo (DE.b (jP (dv 0) ib)) rfl T.aA rfl T.cP sx))))))) (jj (jw (ya (l:= .t)))) jI) (jj (jw (jgK (l:= .t) rfl (DE.b (by exact Av.aC g a (ja (jP (dv 0) ib) je))) (DE.b (by exact Av.aC g a (ja (jP (dv 0) ib) je))) rfl T.cU rfl T.yn)))))
theorem Ys (d:Dx K mg "are_rules" y8 ["thing"]) (c:Z4 P w K mg ae k i):
  Jp P w K mg ae (k+1) (aJ true 1 (iL i)):=
 zF true d jkw λf j A e s H E l=>
  (jf (qK (DW.dt (JK (zI (qx (wg (l':= .b) "list" "list" YH (vb 0) rfl T.aA rfl T.ge zd))) (x3 (jW kQ kY (j5 (l':= .b) j9 wj rfl T.cU og (ja (vb 0) je)) (gi rfl T.mX))))) (jj (jw (ya))) jI) (jj (jw (j5 (JT rfl) U2 rfl T.o5 Fg (ja (DE.b (xU false ["rule", "."] 1 [] (wH none rfl rfl (by decide+kernel) trivial rfl) rfl (qQ (dv 0)) (λC g h m a=>⟨(jG 0 a),xi,(DE.s (by exact Av.aC c l (ja (dv 0) je)))⟩))) je)))))
theorem Je (d:Dm K C "__init__" "Rules.__init__" zj ["self", "rules"]) (j:bL K bt "Rules" =some (some (.ref C))/\fG K C) (g:mg "Rules" =some (.ref C)) (mk:sY K C=true/\l8 K (.ref C)=true) (l:wK P w K mg ae k m) (n:Jp P w K mg ae k o):
  qg P w K mg ae (k+1) (kw 2 1 (cA m o)):=
 Ik d j g mk jkh rfl (by decide) λf p A h s H E i=>
  (JN (On (zI (qx (DE.b (by exact Av.aC n i (ja (dv 1) je))))) (JM YT) UQ) (JN (JO T.gg (DE.s (wG wV XI rfl T.ge zd (ja (dv 1) je)))) (JM (JO T.gI (DE.s (by exact Av.aC l i (ja (DE.s (wf qS wd (DE.s (xU false ["left", "right", "."] 2 [] (wH none rfl rfl (by decide+kernel) trivial rfl) rfl (qQ (dv 1)) (λC c e q a=>⟨(ZT rfl (jG 0 a) (jG 1 a)),xi,(dv 0)⟩))) (DE.s (xU false ["left", "right", "."] 2 [] (wH none rfl rfl (by decide+kernel) trivial rfl) rfl (qQ (dv 1)) (λC c e q a=>⟨(ZT rfl (jG 0 a) (jG 1 a)),xi,(dv 1)⟩))))) je)))))))
theorem KK (d:Dx K mg "look_for" J2 ["met", "known"]):
  xC P w K mg ae (k+1) (dB true 3 (dQ)):=
 Ox true d Po λf c A a s H E e=>
  (wU (jgD Kh rfl (qQ (dv 0)) (jG 2 Po.nd) (wU (N4 (jW (jfK (Ch e)) jfR (vb 2) (vb 1)) (wU (YS T.su T.lf T.gh Ps (yW (l:= .b)) (λ_=>⟨_,rfl⟩))) UP))))
theorem x6 (d:Dm K C "by_part" "Reckoning.by_part" qG ["self", "one", "other"]) (e:bL K bt "Reckoning" =some (some (.ref C))/\fG K C) (g:wW P w K mg ae k h) (i:jQ P w K mg ae k j):
  qN P w K mg ae (k+1) (aJ true 5 (bS h j)):=
 QA true d e JH λf m A a s H E c=>
  (jf (zu mr rfl (jdR rfl T.gf (DE.s (by exact Av.aC g c (ja (dv 1) je)))) (ZT rfl (jG 3 JH.nd) (jG 4 JH.nd)) (jj (qK (DW.dt (JK (jW (zU (aO.dA c)) yh (vb 4) (vb 2)) (x3 (jW MC Oj (DE.b (by exact fH.aC i c (dv 0) (ja (dv 4) (ja (dv 2) je)))) (qL (l:= .b)))))) (jj (jw (jO (ja (yW) (ja (dv 3) je))))) jI))) (jj (jw (qL))))
theorem x8 (d:Dm K C "by_head" "Reckoning.by_head" qH ["self", "one", "other"]) (g:bL K bt "Reckoning" =some (some (.ref C))/\fG K C) (h:wW P w K mg ae k i) (e:Kd P w K mg ae k j) (m:jQ P w K mg ae k n):
  qO P w K mg ae (k+1) (aJ true 4 (bU i j n)):=
 QA true d g Pp λf o A c s H E a=>
  (jf (qK (DW.dt (JK (zI (qx (wg (l':= .b) "tuple" "tuple" qo (vb 1) rfl T.aA rfl T.cP sx))) (x3 (zI (qx (wg (l':= .b) "tuple" "tuple" qo (vb 2) rfl T.aA rfl T.cP sx)))))) (jj (jw (qL))) jI) (jf (qK (jW SF jjH (DE.b (OY (Ch a) (wF 0 T.da) (DE.b (by exact Av.aC e a (ja (dv 1) je))))) (DE.b (OY (Ch a) (wF 0 T.da) (DE.b (by exact Av.aC e a (ja (dv 2) je)))))) (jj (jw (qL))) jI) (jf (zu mr rfl (qQ (DE.s (by exact Av.aC h a (ja (dv 2) je)))) (jG 3 Pp.nd) (jj (qK (jW Qw Qx (DE.b (by exact fH.aC m a (dv 0) (ja (dv 1) (ja (dv 3) je)))) (qL (l:= .b))) (jj (jw (qL))) jI))) (jj (jw (jO (ja (yW) je)))))))
theorem Zm (d:Dx K mg "first_unlike" wX ["one", "other"]) (e:wW P w K mg ae k g):
  xl P w K mg ae (k+1) (aJ false 3 (f7 g)):=
 zF false d JY λf h A a s H E c=>
  (jf (jt 2 JY.nd fM) (jf (XA 64 mr (jW (zU (aO.dA c)) yh (DE.b (jP (DE.s (by exact Av.aC e c (ja (dv 0) je))) (vb 2))) (DE.b (jP (DE.s (by exact Av.aC e c (ja (dv 1) je))) (vb 2)))) (jj (GP 2 JY.nd ib FX))) (jj (XB (dv 2)))))
theorem yg (d:Dm K C "by_row" "Reckoning.by_row" qR ["self", "one", "other"]) (i:bL K bt "Reckoning" =some (some (.ref C))/\fG K C) (j:xl P w K mg ae k m) (g:jQ P w K mg ae k n) (c:wW P w K mg ae k o) (h:Kd P w K mg ae k p):
  qV P w K mg ae (k+1) (aJ true 5 (dj m n o p)):=
 QA true d i Ke λf q A e s H E a=>
  (jf (qK (DW.dt (JK (zI (qx (wg (l':= .b) "tuple" "tuple" qo (vb 1) rfl T.aA rfl T.cP sx))) (JK (jW (Wq (aO.dA a)) kX (DE.b (by exact Av.aC h a (ja (dv 1) je))) (DE.b (by exact Av.aC h a (ja (dv 2) je)))) (x3 (jW (zU (aO.dA a)) yh (vb 1) (vb 2)))))) (jj (jw (qL))) jI) (jf (jt 3 Ke.nd (by exact Av.call j a (ja (dv 1) (ja (dv 2) je)))) (jf (qK (jW Qw Qx (DE.b (by exact fH.aC g a (dv 0) (ja (jP (DE.s (by exact Av.aC c a (ja (dv 1) je))) (vb 3)) (ja (jP (DE.s (by exact Av.aC c a (ja (dv 2) je))) (vb 3)) je)))) (qL (l:= .b))) (jj (jw (qL))) jI) (jf (zu mr rfl (qQ (DE.s (xT (DE.s (by exact Av.aC c a (ja (dv 2) je))) (wE (DE.b (wf qS wd (dv 3) fM))) Jl))) (jG 4 Ke.nd) (jj (qK (jW Qw Qx (DE.b (by exact fH.aC g a (dv 0) (ja (dv 1) (ja (dv 4) je)))) (qL (l:= .b))) (jj (jw (qL))) jI))) (jj (jw (jO (ja (yW) (ja (dv 3) je)))))))))
theorem Jz (d:Dm K C "way" "Reckoning.way" zL ["self", "one", "other"]) (e:bL K bt "Reckoning" =some (some (.ref C))/\fG K C) (g:qN P w K mg ae k h) (i:qO P w K mg ae k j) (l:qV P w K mg ae k m):
  jQ P w K mg ae (k+1) (aJ true 4 (eF h j m)):=
 QA true d e Pq λf n A c s H E a=>
  (jf (jt 3 Pq.nd (DE.s (jO (ja (dv 1) (ja (dv 2) je))))) (jdI (aO.dA a) T.eU (O7 (DE.b (by exact fH.aC g a (dv 0) (ja (dv 1) (ja (dv 2) je)))) (O7 (DE.b (by exact fH.aC i a (dv 0) (ja (dv 1) (ja (dv 2) je)))) (yw (DE.b (by exact fH.aC l a (dv 0) (ja (dv 1) (ja (dv 2) je)))))))))
theorem xN (d:Dm K C "__init__" "Reckoning.__init__" qz ["self", "rank"]) (e:bL K bt "Reckoning" =some (some (.ref C))/\fG K C) (p:MP) (a:mg "Reckoning" =some (.ref C)) (mk:sY K C=true/\l8 K (.ref C)=true):
  jX P w K mg ae (k+1) (kw 2 1 (bj p)):=
 Ik d e a mk jkb rfl (by decide) λf g A c s H E h=>
  (JN (JO (i:=0) T.da (dv 1)) (JM (JO (i:=0) T.eU (DE.s (jgL p)))))
theorem QD {a:List D} (d:C6 K C "falls" "Ranks.falls" wq ["self", "one", "other"] a) (h:bL K bt "Ranks" =some (some (.ref C))/\fG K C) (i:xC P w K mg ae k j) (m:wK P w K mg ae k n) (o:jQ P w K mg ae k q) {g:Nat} (jY: ∀p:MP,jX P w K mg ae g (jo p)) (jS:g+1<=k):
  eK P w K mg ae (k+1) "Ranks" "falls" ["self", "one", "other"] a true (dB true 3 (fI j n q jo)):=
 Vl true d h jj7 λf pw A e s H E c=>
  (wC (Xz (by exact mM.aC i c (ja (DE.s (by exact Av.aC m c (ja (DE.s (zc (ja (dv 1) (ja (dv 2) je)))) je))) (ja (wF 0 T.bA) je)))) (wU (DS.x (jw (Qy MC Oj (DE.b (DE.pick be λp=>(by exact fH.aC o c (DE.s (by exact oa.make (jY p) (c.mono jS) (ja (wF 0 T.bA) je))) (ja (dv 1) (ja (dv 2) je))))) (qL (l:= .b)))))))
theorem Jf (d:Dm K C "tree" "Reckoning.tree" zl ["self", "one", "other"]) (c:bL K bt "Reckoning" =some (some (.ref C))/\fG K C) (e:jQ P w K mg ae k g):
  zy P w K mg ae (k+1) (aJ true 6 (dS g)):=
 QA true d c Pr λf h A a s H E i=>
  (jf (jt 3 Pr.nd (DE.s (by exact fH.aC e i (dv 0) (ja (dv 1) (ja (dv 2) je))))) (jf (qK (jW Qw Qx (vb 3) (qL (l:= .b))) (jj (jw (qL))) jI) (by exact jdJ)))
theorem Wc {a:List D} (d:C6 K C "why" "Ranks.why" xL ["self", "one", "other"] a) (h:bL K bt "Ranks" =some (some (.ref C))/\fG K C) (i:xC P w K mg ae k j) (l:zy P w K mg ae k m) (n:wK P w K mg ae k o) {g:Nat} (q: ∀p:MP,jX P w K mg ae g (jo p)) (jS:g+1<=k):
  eK P w K mg ae (k+1) "Ranks" "why" ["self", "one", "other"] a true (dB true 3 (gF j m o jo)):=
 Vl true d h jka λf pw A e s H E c=>
  (wC (Xz (by exact mM.aC i c (ja (DE.s (by exact Av.aC n c (ja (DE.s (zc (ja (dv 1) (ja (dv 2) je)))) je))) (ja (wF 0 T.bA) je)))) (wU (DS.x (jw (DE.pick be λp=>(by exact fH.aC l c (DE.s (by exact oa.make (q p) (c.mono jS) (ja (wF 0 T.bA) je))) (ja (dv 1) (ja (dv 2) je))))))))
theorem Zp (d:Dm K C "told" "Rules.told" w4 ["self"]) (c:bL K bt "Rules" =some (some (.ref C))/\fG K C):
  xn P w K mg ae (k+1) (aJ true 1 (f9)):=
 QA true d c jkj λf e A a s H E g=>
  (jj (jw (wG wV XI rfl T.ge zd (ja (wF 0 T.gg) je))))
theorem Jd (d:Dm K C "heads_of" "Rules.heads_of" zi ["self"]) (c:bL K bt "Rules" =some (some (.ref C))/\fG K C):
  qC P w K mg ae (k+1) (aJ true 1 (dU)):=
 QA true d c jki λf e A a s H E g=>
  (jj (jw (wG wV XI rfl T.ge zd (ja (wF 0 T.gI) je))))
theorem Zr {a:List D} (d:C6 K C "lets" "Ranks.lets" w6 ["self", "rules"] a) (h:bL K bt "Ranks" =some (some (.ref C))/\fG K C) (i:xC P w K mg ae k j) (m:xn P w K mg ae k n) (o:qC P w K mg ae k q) (jx:jQ P w K mg ae k ji) {g:Nat} (jY: ∀p:MP,jX P w K mg ae g (jo p)) (jS:g+1<=k):
  eK P w K mg ae (k+1) "Ranks" "lets" ["self", "rules"] a true (dB true 4 (gc j n q ji jo)):=
 Vl true d h Kf λf pw A e s H E c=>
  (wC (Xz (by exact mM.aC i c (ja (DE.s (by exact fH.mQ o c (dv 1))) (ja (wF 0 T.bA) je)))) (wC (DS.x (zu Kh rfl (qQ (DE.s (by exact fH.mQ m c (dv 1)))) (ZT rfl (jG 2 Kf.nd) (jG 3 Kf.nd)) (jj (qK (jW Qw Qx (DE.b (DE.pick be λp=>(by exact fH.aC jx c (DE.s (by exact oa.make (jY p) (c.mono jS) (ja (wF 0 T.bA) je))) (ja (dv 2) (ja (dv 3) je))))) (qL (l:= .b))) (jj (jw (ya (l:= .t)))) jI)))) (wU (DS.x (jw (ya (l:= .t)))))))
theorem Jc (d:Dx K mg "_law_other_class" zh ["_law_error"]):
  qB P w K mg ae (k+1) (aJ true 1 (dW)):=
 zF true d jkr λf c A a s H E e=>
  (jf (qK (qx (Oh (l':= .b) [("NoHead",false),("TooMany",false)] [L,Z,J,Q,U,N,B,z,O] T.I0 (vb 0) rfl T.aA (uT (zn rfl T.ss (zn rfl T.sr (zn rfl T.sq (zn rfl T.pX (zn rfl T.so (zn rfl T.oJ (zn rfl T.sk (zn rfl T.sj (zn rfl T.si uY)))))))))) (hsz:=dw (show 9<=20 by decide) (by decide)))) (jj (jw (ya))) jI) (jj (jw (jj1 (Oh (l':= .b) [("NoHead",false),("TooMany",false)] [I,Y] T.IZ (vb 0) rfl T.aA (uT (zn rfl T.oI (zn rfl T.pW uY))) (hsz:=dw (show 2<=20 by decide) (by decide))) (yw (yx (US (l':= .b) [("NoHead",true),("TooMany",false)] "NoHead" T.nU (vb 0) rfl T.aA rfl T.lf) (yw (US [("NoHead",false),("TooMany",true)] "TooMany" T.mq (vb 0) rfl T.aA rfl T.ir))))))))
theorem Zn (d:Dx K mg "_law_no_head" wY ["_law_paper", "_law_way", "_law_one", "_law_other", "_law_rules"]) (g:zA P w K mg ae k i) (j:xW P w K mg ae k m) (n:xp P w K mg ae k o) (p:qB P w K mg ae k q):
  xm P w K mg ae (k+1) (aJ true 7 (dX i m o q)):=
 zF true d Fd λf pw A c s H E a=>
  (jf (jt 5 Fd.nd (qL)) (jf (N8 ["NoHead", "TooMany"] 6 Fd.nd (λE' ps=>by exact (OZ (jW (zU (aO.dA a)) yh (vb 1) ib) (JL (Xy (by exact eK.r9 (l:= .t) (λh=>h rfl) g a (dv 0) (ja (dv 2) (ja (dv 3) je))))) (OZ (jW (zU (aO.dA a)) yh (vb 1) ib) (JL (Xy (by exact eK.r9 (l:= .t) (λh=>h rfl) j a (dv 0) (ja (dv 2) (ja (dv 3) je))))) (JL (jiT (jW (zU (aO.dA a)) yh (vb 1) ib) (JL (Xy (by exact eK.r9 (l:= .t) (λh=>h rfl) n a (dv 0) (ja (dv 4) je)))) jdH))))) (λe=>by exact (jj (jt 5 Fd.nd (dv 6)))) T.lg T.li) (jj (jw (yx (US (l':= .b) [("NoHead",true),("TooMany",false)] "NoHead" T.nU (vb 5) rfl T.aA rfl T.lf) (yx (Of (l':= .b) ["NoHead", "TooMany"] "ValueError" "ValueError" T.hX (vb 5) rfl T.aA rfl T.hU x4) (yw (GL (DE.b (by exact Av.aC p a (ja (dv 5) je)))))))))))
theorem W7 (d:Dx K mg "_law_lacks" yd ["_law_script", "_law_names_here"]) (e:ze P w K mg ae k m) {g:Nat} (n:qD P w K mg ae g o) (p:g+1<=k) (q:qy P w K mg ae k jC) {h:Nat} (i:qg P w K mg ae h ju) (j:h+1<=k) (Wg:xm P w K mg ae k xf) (qP:zA P w K mg ae k jK) (xY:xW P w K mg ae k qw):
  yB P w K mg ae (k+1) (aJ true 12 (hJ m o jC ju xf jK qw)):=
 zF true d oK λf pw A c s H E a=>
  (jf (jt 2 oK.nd (DE.s (by exact Av.aC e a (ja (by exact Av.call q a (ja (dv 0) (ja fM je))) je)))) (jf (jt 3 oK.nd (DE.s (by exact oa.make n (a.mono p) (ja (DE.s (zc (ja (DE.s (jO (ja (jP (dv 1) ib) (ja fM je)))) (ja (DE.s (jO (ja (jP (dv 1) ib) (ja fM je)))) (ja (DE.s (jO (ja (jP (dv 1) ib) (ja fM je)))) je))))) je)))) (jf (jt 4 oK.nd (DE.s (zc (ja (DE.s (jO (ja (jP (dv 1) ib) je))) (ja (DE.s (jO (ja (jP (dv 1) ib) (ja fM je)))) (ja (DE.s (jO (ja (jP (dv 1) ib) (ja (DE.s (jO (ja (jP (dv 1) ib) je))) (ja fM je))))) (ja fM (ja (DE.s (jO (ja (jP (dv 1) ib) (ja (DE.s (jO (ja (jP (dv 1) ib) (ja fM je)))) je)))) je)))))))) (jf (jt 5 oK.nd (DE.s (zc (ja (DE.s (jO (ja (jP (dv 1) ib) je))) (ja (DE.s (jO (ja (jP (dv 1) ib) (ja fM je)))) (ja (DE.s (jO (ja (jP (dv 1) ib) (ja fM (ja fM (ja fM je)))))) (ja (DE.s (jO (ja (jP (dv 1) ib) (ja (DE.s (jO (ja (jP (dv 1) ib) (ja fM je)))) je)))) (ja (DE.s (jO (ja (jP (dv 1) ib) (ja fM (ja (DE.s (jO (ja (jP (dv 1) ib) (ja fM je)))) je))))) je)))))))) (jf (zu mr rfl (qQ (DE.s (YW (dv 0) (wE ib) (wE ib)))) (jG 6 oK.nd) (jf (jt 2 oK.nd (DE.s (by exact Av.aC e a (ja (dv 6) je)))) (jf (jt 7 oK.nd (jP (dv 4) (Zt (vb 2) ib))) (jf (jt 8 oK.nd (jP (dv 5) (Zt (ob wb wc (vb 2) ib) ib))) (jf (jt 9 oK.nd (o0 yT yU (ob wb wc (vb 2) ib) ib)) (jf (qK (jW (zU (aO.dA a)) yh (Zt (ob wb wc (vb 2) ib) ib) ib) (jj (jiU 7 8 rfl oK.nd (ja (dv 8) (ja (dv 7) je)))) jI) (jf (qK (jW (zU (aO.dA a)) yh (Zt (ob wb wc (vb 2) ib) ib) ib) (jj (jt 7 oK.nd (dv 8))) jI) (jf (jt 10 oK.nd (jP (dv 5) (Zt (ob wb wc (vb 2) ib) ib))) (jf (jt 11 oK.nd (DE.s (by exact oa.make i (a.mono j) (ja (DE.s (zc (ja (DE.s (jO (ja (DE.s (jO (ja (jP (dv 1) ib) (ja (jP (dv 4) ib) (ja (dv 10) je))))) (ja (DE.s (jO (ja (jP (dv 1) ib) (ja (dv 10) (ja (dv 10) je))))) je)))) je))) je)))) (jf (qK (jW (zU (aO.dA a)) yh (Zt (ob wb wc (vb 2) ib) ib) ib) (jj (jt 11 oK.nd (DE.s (by exact oa.make i (a.mono j) (ja (DE.s (zc (ja (DE.s (jO (ja (jP (dv 4) ib) (ja (jP (dv 4) ib) je)))) (ja (DE.s (jO (ja (jP (dv 4) ib) (ja (jP (dv 4) ib) je)))) (ja (DE.s (jO (ja (dv 10) (ja (jP (dv 4) ib) je)))) je))))) je))))) jI) (jj (qK (zI (qx (DE.b (by exact Av.aC Wg a (ja (dv 3) (ja (dv 9) (ja (dv 7) (ja (dv 8) (ja (dv 11) je))))))))) (jj (jw (ya (l:= .t)))) jI)))))))))))) (jj (jw (yx (Qy (l:= .b) jh9 jie (DE.b (by exact fH.aC (eK.av qP) a (dv 3) (ja (jP (dv 4) ib) (ja fM je)))) (ya (l:= .b))) (yw (Qy (l:= .t) Qw Qx (DE.b (by exact fH.aC (eK.av xY) a (dv 3) (ja (DE.s (jO (ja (jP (dv 1) ib) je))) (ja fM je)))) (qL (l:= .b))))))))))))
theorem yQ (d:Dx K mg "_law_turned_about" qX ["_law_number", "_law_some"]):
  q9 P w K mg ae (k+1) (aJ true 5 (dD)):=
 zF true d Do λf c A a s H E e=>
  (jf (yu 2 Do.nd (wG wV XI rfl T.ge zd (ja (dv 1) je))) (jf (yu 3 Do.nd (zc je)) (jf (XA 64 mr (jW (Wq (aO.dA e)) kX (db 2) (DE.b (zc je))) (jf (jiV (DE.s (UT Vi jb0 rfl T.sh Y6 (ja (dv 0) (ja (j5 j9 wj rfl T.cU og (ja (db 2) je)) je)))) (ZT rfl (jG 0 Do.nd) (jG 4 Do.nd))) (jj (jdM 3 2 (vb 4))))) (jj (ZQ 3)))))
theorem jag (d:Dx K mg "orders" WT ["listed"]) (i:Q0 P w K mg ae k j):
  Q0 P w K mg ae (k+1) (aJ true 5 (nT j)):=
 zF true d Dp λf l A c s H E e=>
  (jf (qK (jW (zU (aO.dA e)) yh (vb 0) (DE.b (zc je))) (jj (jw (zc (ja (DE.s (zc je)) je)))) jI) (jf (yu 1 Dp.nd (zc je)) (jf (zu mr rfl (NW rfl T.gf (dv 0)) (ZT rfl (jG 2 Dp.nd) (jG 3 Dp.nd)) (jf (jt 4 Dp.nd (DE.s (wf qS wd (DE.s (xT (dv 0) Jl (wE (vb 2)))) (DE.s (xT (dv 0) (wE (DE.b (wf qS wd (dv 2) fM))) Jl))))) (jj (ZR 1 (DE.s (xU false ["order", "first", "."] 1 [3] (wH none rfl rfl (by decide+kernel) ⟨rfl,trivial⟩ rfl) rfl (qQ (DE.s (by exact Av.aC i e (ja (dv 4) je)))) (λC g h m a=>⟨(jG 0 a),xi,(DE.s (wf qS wd (DE.s (zc (ja (dv 1) je))) (dv 0)))⟩))))))) (jj (ZQ 1)))))
theorem KJ (d:Dx K mg "ranks_of" J1 ["rules"]) (g:qC P w K mg ae k h) (i:Q0 P w K mg ae k j) {e:Nat} (m:qD P w K mg ae e n) (o:e+1<=k) (p:xp P w K mg ae k q):
  Qp P w K mg ae (k+1) (dB false 4 (la h j n q)):=
 Ox false d Fe λf pw A c s H E a=>
  (wC (DS.x (jt 1 Fe.nd (DE.s (by exact fH.mQ g a (dv 0))))) (wC (N4 (jW kQ kY (j5 (l':= .b) j9 wj rfl T.cU og (ja (vb 1) je)) (gi rfl T.lc)) (wU (YS T.pY T.ir T.eV Ps (yW (l:= .b)) (λ_=>⟨_,rfl⟩))) UP) (wC (DS.x (zu Kh rfl (qQ (DE.s (by exact Av.aC i a (ja (dv 1) je)))) (jG 2 Fe.nd) (jf (jt 3 Fe.nd (DE.s (by exact oa.make m (a.mono o) (ja (dv 2) je)))) (jj (qK (qx (DE.b (by exact fH.aC (eK.av p) a (dv 3) (ja (dv 0) je)))) (jj (XB (dv 3))) jI))))) (wU (DS.x (jw (qL (l:= .t))))))))
theorem Wb (d:Dx K mg "_law_sought" xK ["_law_rules"]) (g:Qp P w K mg ae k h) (i:qB P w K mg ae k j):
  wm P w K mg ae (k+1) (aJ false 4 (gG h j)):=
 zF false d BJ λf m A a s H E c=>
  (jf (jt 1 BJ.nd (qL)) (jf (jt 2 BJ.nd (qL)) (jf (N8 ["NoHead", "TooMany"] 3 BJ.nd (λn ps=>by exact (JL (jdG 2 BJ.nd (by exact mM.CY g c (ja (dv 0) je))))) (λe=>by exact (jj (jt 1 BJ.nd (dv 3)))) T.lg T.li) (jf (qK (jW Qw Qx (vb 1) (qL (l:= .b))) (jj (XB (dv 2))) jI) (jf (qK (DW.dt (MX (qx (US (l':= .b) [("NoHead",false),("TooMany",true)] "TooMany" T.mq (vb 1) rfl T.aA rfl T.ir)) (MX (qx (Of (l':= .b) ["NoHead", "TooMany"] "ValueError" "ValueError" T.hX (vb 1) rfl T.aA rfl T.hU x4)) (jgB (zI (qx (DE.b (by exact Av.aC i c (ja (dv 1) je))))))))) (jj (jw (yW))) jI) (jj (jw (yW))))))))
theorem Zq (d:Dm K C "told" "Ranks.told" w5 ["self"]) (c:bL K bt "Ranks" =some (some (.ref C))/\fG K C):
  xo P w K mg ae (k+1) (aJ true 1 (gd)):=
 QA true d c jj9 λf e A a s H E g=>
  (jj (jw (wG (vE rfl) jd0 rfl T.ge zd (ja (wF 0 T.bA) je))))
theorem W9 (d:Dx K mg "_law_chain" yf ["_law_script", "_law_names_here"]) (m:ze P w K mg ae k n) (i:q9 P w K mg ae k o) (p:wm P w K mg ae k q) (ql:qy P w K mg ae k jC) {j:Nat} (j6:qg P w K mg ae j ju) (j3:j+1<=k) (Wi:xo P w K mg ae k xh) (qP:zA P w K mg ae k jK):
  yC P w K mg ae (k+1) (aJ true 8 (fy n o q jC ju xh jK)):=
 zF true d tW λf pw A h s H E c=>
  (jf (jt 2 tW.nd (DE.s (by exact Av.aC m c (ja (by exact Av.call ql c (ja (dv 0) (ja fM je))) je)))) (jf (jdL 3 tW.nd false ["_law_name", "."] 1 [] (wH none rfl rfl (by decide+kernel) trivial rfl) rfl (qQ (DE.s (by exact Av.aC i c (ja (dv 2) (ja (dv 1) je))))) (λC e g fp a=>⟨(jG 0 a),xi,(DE.s (jO (ja (dv 0) je)))⟩)) (jf (yu 4 tW.nd (zc je)) (jf (zu mr rfl (xA rfl T.gx (ja (ob MA Nj (j5 (l':= .b) j9 wj rfl T.cU og (ja (vb 3) je)) ib) je)) (jG 5 tW.nd) (jj (YU 4 (DE.s (jO (ja (jP (dv 3) (vb 5)) (ja (jP (dv 3) (DE.b (wf qS wd (dv 5) fM))) je))))))) (jf (WC 4 (yu 4 tW.nd (by exact Av.aC i c (ja (o0 wb wc (vb 2) ib) (ja (dv 4) je))))) (jf (WC 4 (jt 6 tW.nd (by exact Av.call p c (ja (DE.s (by exact oa.make j6 (c.mono j3) (ja (dv 4) je))) je)))) (jf (qK (jW kQ kY (j5 (l':= .b) j9 wj rfl T.cU og (ja (vb 1) je)) ib) (jj (jw (Qy (l:= .t) (zU (aO.dA c)) yh (vb 6) (yW (l:= .b))))) jI) (jf (qK (DW.dt (JK (zI (qx (jiZ (l':= .b) ["Ranks"] "Ranks" T.sv (vb 6) rfl T.aA rfl T.tV))) (x3 (jW (Wq (aO.dA c)) kX (DE.b (by exact fH.mQ Wi c (dv 6))) (DE.b (xU false ["_law_one", "."] 1 [] (wH none rfl rfl (by decide+kernel) trivial rfl) rfl (qQ (dv 3)) (λC e g fp a=>⟨(jG 0 a),xi,(DE.s (jO (ja (jP (dv 0) ib) (ja fM je))))⟩))))))) (jj (jw (ya (l:= .t)))) jI) (jf (zu mr rfl (xA rfl T.gx (ja (j5 (l':= .b) j9 wj rfl T.cU og (ja (vb 3) je)) je)) (jG 5 tW.nd) (jj (zu mr rfl (xA rfl T.gx (ja (j5 (l':= .b) j9 wj rfl T.cU og (ja (vb 3) je)) je)) (jG 7 tW.nd) (jj (qK (jW (Wq (aO.dA c)) kX (DE.b (by exact fH.aC (eK.av qP) c (dv 6) (ja (jP (dv 3) (vb 5)) (ja (jP (dv 3) (vb 7)) je)))) (Qy (l:= .b) MB Nk (vb 5) (vb 7))) (jj (jw (ya (l:= .t)))) jI))))) (jj (jw (ya (l:= .t)))))))))))))
theorem W6 (d:Dx K mg "_law_loops" yc ["_law_script", "_law_names_here"]) (g:ze P w K mg ae k m) (n:qy P w K mg ae k o) (p:wm P w K mg ae k q) {h:Nat} (j6:qg P w K mg ae h ju) (j3:h+1<=k):
  yA P w K mg ae (k+1) (aJ true 9 (hQ m o q ju)):=
 zF true d sw λf pw A e s H E a=>
  (jf (jt 2 sw.nd (DE.s (by exact Av.aC g a (ja (by exact Av.call n a (ja (dv 0) (ja fM je))) je)))) (jf (jt 3 sw.nd (o0 yT yU (vb 2) ib)) (jf (jt 4 sw.nd (DE.s (jO (ja (jP (dv 1) ib) (ja (dv 3) (ja (DE.s (jO (ja (jP (dv 1) ib) je))) je)))))) (jf (jt 5 sw.nd (DE.s (jO (ja (jP (dv 1) ib) (ja (DE.s (jO (ja (jP (dv 1) ib) (ja (dv 3) je)))) (ja (DE.s (jO (ja (jP (dv 1) ib) je))) je)))))) (jf (zu mr rfl (xA rfl T.gx (ja (Zt (ob wb wc (vb 2) ib) ib) je)) (jG 6 sw.nd) (jj (jt 5 sw.nd (DE.s (jO (ja (jP (dv 1) (DE.b (wf qS wd fM (o0 yT yU (ob wb wc (vb 2) ib) ib)))) (ja (dv 5) je))))))) (jf (yu 7 sw.nd (zc (ja (DE.s (jO (ja (dv 4) (ja (dv 5) je)))) je))) (jf (zu mr rfl (qQ (DE.s (YW (dv 0) (wE ib) (wE ib)))) (jG 8 sw.nd) (jf (jt 2 sw.nd (DE.s (by exact Av.aC g a (ja (dv 8) je)))) (jj (jbB 7 (Zt (vb 2) ib) (DE.s (jO (ja (DE.s (jO (ja (jP (dv 1) ib) (ja (DE.s (jO (ja (jP (dv 1) (Zt (ob wb wc (vb 2) ib) ib)) (ja fM (ja fM je))))) je)))) (ja fM je)))))))) (jf (WC 7 (jgF 7 sw.nd false ["_law_one", "_law_left", "_law_names_here", "."] 1 [4,1] (wH none rfl rfl (by decide+kernel) ⟨rfl,rfl,trivial⟩ rfl) rfl (qQ (dv 7)) (λC i j fp c=>⟨(jG 0 c),(jgC (DW.dt (JK (jW (zU (aO.dA a)) yh (DE.b (jP (dv 0) ib)) (vb 1)) (x3 (jW (zU (aO.dA a)) yh (DE.b (jP (jP (jP (dv 0) ib) ib) ib)) (DE.b (jP (dv 2) ib))))))),(dv 0)⟩))) (jj (WC 7 (jw (Qy Qw Qx (DE.b (by exact Av.call p a (ja (DE.s (by exact oa.make j6 (a.mono j3) (ja (dv 7) je))) je))) (qL (l:= .b))))))))))))))
theorem jib {f:Addr} {e:pk} (h:nF K "law" "law" WU f e) (i:ze P w K mg ae k j) (l:yz P w K mg ae k m) (n:yB P w K mg ae k o) (p:qy P w K mg ae k q) (g:yC P w K mg ae k wT) (Kg:yA P w K mg ae k yo):
  cZ P w K mg ae lM (k+1) f e ["_law_script"] (qU K true 1 (aJ true 4 (xX j m o q wT yo))):=
 vx true h Ff λpw A c s H E a=>
  (jf (jt 1 Ff.nd (DE.s (by exact Av.aC i a (ja (by exact Av.call p a (ja (dv 0) (ja fM je))) je)))) (jf (jt 2 Ff.nd (DE.s (by exact Av.aC l a (ja (dv 1) je)))) (jf (jt 3 Ff.nd (o0 yT yU (Oz (vb 1) (kZ ib ib)) ib)) (jf (qK (jW (zU (aO.dA a)) yh (vb 3) ib) (jj (jw (by exact Av.aC g a (ja (dv 0) (ja (dv 2) je))))) jI) (jf (qK (jW (zU (aO.dA a)) yh (vb 3) ib) (jj (jw (by exact Av.aC g a (ja (dv 0) (ja (DE.s (xT (dv 2) Jl (wE (DE.b (wf qS wd fM (o0 yT yU (Oz (vb 1) (kZ ib ib)) ib)))))) je))))) jI) (jf (qK (jW (zU (aO.dA a)) yh (vb 3) ib) (jj (jw (by exact Av.aC Kg a (ja (dv 0) (ja (dv 2) je))))) jI) (jj (jw (by exact Av.aC n a (ja (dv 0) (ja (dv 2) je)))))))))))
end
def all_mk {l:Cg} {w:World} {K:aG} {h:Heap} {q:X7} {fa Kp:Addr} (j:K.In h) (G:h.Ns bt q) (hfa:q "law" =some (.ref fa))
  {Kq Dq:Option Addr} {Kr:Array (Option Value)} {KD Dr Ds Dt A5 Du:Value} {TL TX TW T3 TM TV TN TZ TR TY TU TQ TK T0 TJ:Addr} {T4 TH:Addr}
  (d0:cu K "_law_great" ye)
  (d1:cu K "_law_names" yb)
  (d2:cu K "is_name" Za)
  (d3:cu K "is_whole" J3)
  (d4:cu K "is_head" Zb)
  (d5:cu K "are_ranks" y9)
  (d6:gC K TJ "__init__" "Ranks.__init__" zm)
  (d7:cu K "_law_cell_at" wZ)
  (d8:cu K "places" WS)
  (d9:cu K "parts" Ks)
  (La:cu K "head" uv)
  (Lb:cu K "all_heads" Ja)
  (Lc:cu K "level_below" xJ)
  (Ld:cu K "is_great" J5)
  (Le:cu K "is_blank" J6)
  (Lf:cu K "is_piece" J4)
  (Lg:cu K "is_term" Q8)
  (Lh:cu K "blanks" WV)
  (Li:cu K "is_rule" Q9)
  (Lj:cu K "are_rules" y8)
  (Lk:gC K TH "__init__" "Rules.__init__" zj)
  (Ll:cu K "look_for" J2)
  (Lm:gC K T4 "by_part" "Reckoning.by_part" qG)
  (Ln:gC K T4 "by_head" "Reckoning.by_head" qH)
  (Lo:cu K "first_unlike" wX)
  (Lq:gC K T4 "by_row" "Reckoning.by_row" qR)
  (Fh:gC K T4 "way" "Reckoning.way" zL)
  (Lr:gC K T4 "__init__" "Reckoning.__init__" qz)
  (Ls:gC K TJ "falls" "Ranks.falls" wq)
  (Lu:gC K T4 "tree" "Reckoning.tree" zl)
  (Lw:gC K TJ "why" "Ranks.why" xL)
  (Lx:gC K TH "told" "Rules.told" w4)
  (Ly:gC K TH "heads_of" "Rules.heads_of" zi)
  (Lz:gC K TJ "lets" "Ranks.lets" w6)
  (LA:cu K "_law_other_class" zh)
  (LB:cu K "_law_no_head" wY)
  (LC:cu K "_law_lacks" yd)
  (LD:cu K "_law_turned_about" qX)
  (Fi:cu K "orders" WT)
  (LF:cu K "ranks_of" J1)
  (LG:cu K "_law_sought" xK)
  (LH:gC K TJ "told" "Ranks.told" w5)
  (LI:cu K "_law_chain" yf)
  (LJ:cu K "_law_loops" yc)
  (LK:bL K bt "law" =some (some (.ref Kp))) (LL:K.lookup Kp=some ⟨KD,Kq,.func (qI "law" "law" (xj WU) (qe WU) (jg WU) .none Dr Ds Dt Dq A5 Du),Kr⟩) (LM:Ad K A5 "law" =true) (LN:l8 K (.ref Kp)=true)
  (z0:bL K bt "isinstance" =some none)
  (z1:bL K bt "bool" =some none)
  (z2:bL K bt "int" =some none)
  (z3:bL K bt "all" =some none)
  (z4:bL K bt "len" =some none)
  (z5:bL K bt "tuple" =some none)
  (z6:bL K bt "list" =some none)
  (z7:bL K bt "sorted" =some none)
  (z8:bL K bt "set" =some none)
  (z9:bL K bt "ValueError" =some none)
  (LO:bL K bt "range" =some none)
  (LP:bL K bt "str" =some none)
  (LQ:bL K bt "enumerate" =some none)
  (LR:bL K bt "dict" =some none)
  (LS:bL K bt "divmod" =some none)
  (iu: ∃t,bL K bt "LETTERS" =some (some (.str "abcdefghijklmnopqrstuvwxyz" t)))
  (E: ∃t,bL K bt "MOST_LETTERS" =some (some (.int 8 t)))
  (J: ∃t,bL K bt "MOST_PLACES" =some (some (.int 9 t)))
  (O: ∃t,bL K bt "MOST_BLANK" =some (some (.int 999 t)))
  (L: ∃t,bL K bt "MOST_LEVELS" =some (some (.int 60 t)))
  (Q: ∃t,bL K bt "MOST_PARTS" =some (some (.int 1000 t)))
  (N: ∃t,bL K bt "MOST_RANKED" =some (some (.int 60 t)))
  (H: ∃t,bL K bt "MOST_ORDERED" =some (some (.int 6 t)))
  (Y: ∃t,bL K bt "MOST_RULES" =some (some (.int 40 t)))
  (yO:bL K bt "Ranks" =some (some (.ref TJ))) (QO:zC K TJ Str.empty=true) (QS:Bj K TJ=true) (QN:BX K TJ=true) (QJ:iP K (.ref TJ) "__setattr__" =some (some (.builtin "object.__setattr__")))
  (zb:bL K bt "Reckoning" =some (some (.ref T4))) (zT:zC K T4 Str.empty=true) (zX:Bj K T4=true) (zS:BX K T4=true) (zR:iP K (.ref T4) "__setattr__" =some (some (.builtin "object.__setattr__")))
  (yN:bL K bt "Rules" =some (some (.ref TH))) (Jx:zC K TH Str.empty=true) (JE:Bj K TH=true) (Jw:BX K TH=true) (Ju:iP K (.ref TH) "__setattr__" =some (some (.builtin "object.__setattr__")))
  (xO:iP K (.ref TJ) "rank" =some none)
  (wv:iP K (.ref TH) "listed" =some none)
  (xb:iP K (.ref TH) "named" =some none)
  (zO:iP K (.ref T4) "rank" =some none)
  (zN:iP K (.ref T4) "ways" =some none)
  (yi:sY K T4=true) (yj:l8 K (.ref T4)=true)
  (Xe:sY K TH=true) (Xi:l8 K (.ref TH)=true)
  (Xf:sY K TJ=true) (Xj:l8 K (.ref TJ)=true)
  (o:bL K bt "NoHead" =some (some (.ref TL)))
  (m:bL K bt "TooMany" =some (some (.ref TX)))
  (iw:bL K bt "TooLong" =some (some (.ref TW)))
  (gM:bL K bt "TooGreat" =some (some (.ref T3)))
  (lj:bL K bt "NoText" =some (some (.ref TM)))
  (ll:bL K bt "NoStep" =some (some (.ref TV)))
  (lm:bL K bt "NoRule" =some (some (.ref TN)))
  (gO:bL K bt "NoReason" =some (some (.ref TZ)))
  (ls:bL K bt "NoPath" =some (some (.ref TR)))
  (ix:bL K bt "NoPaper" =some (some (.ref TY)))
  (lu:bL K bt "NoPair" =some (some (.ref TU)))
  (lv:bL K bt "NoName" =some (some (.ref TQ)))
  (lx:bL K bt "NoLine" =some (some (.ref TK)))
  (gP:bL K bt "EndError" =some (some (.ref T0)))
  (mY:bL K bt "Ranks" =some (some (.ref TJ)))
  (gh:AN K TL [.type "ValueError",.type "Exception",.type "BaseException",.type "object"] "ValueError.__new__" =true)
  (eV:AN K TX [.type "ValueError",.type "Exception",.type "BaseException",.type "object"] "ValueError.__new__" =true)
  (cQ:EJ K (.ref TL) (.ref T0)=some true)
  (B:EJ K (.ref TX) (.ref T0)=some true)
  (z:gX K (.ref TL) (.type "ValueError")=some true)
  (y:gX K (.ref TX) (.type "ValueError")=some true)
  (I:gX K (.ref TJ) (.ref TJ)=some true)
  (eW:iV K TL)
  (u:iV K TX)
  (zY:gX K (.ref TL) (.ref TX)=some false)
  (zJ:gX K (.ref TX) (.ref TX)=some true)
  (wn:gX K (.ref TL) (.ref TL)=some true)
  (zZ:gX K (.ref TX) (.ref TL)=some false)
  (gj:xc K (.ref TL) (tM cK [T3,TW])=some false)
  (Z:xc K (.ref TX) (tM cK [T3,TW])=some false)
  (gk:xc K (.ref TL) (tM cK [TK,TQ,TU,TY,TR,TZ,TN,TV,TM])=some false)
  (fB:xc K (.ref TX) (tM cK [TK,TQ,TU,TY,TR,TZ,TN,TV,TM])=some false)
  : ∃fd:pk,(∀(s:aH) (v:Value),BindsTo s fd ⟨[v],[]⟩ [("_law_script",v)])/\ ∀a:Heap,K.In a->a.Ns bt q->cZ l.prog w K q a lM 72 fa fd ["_law_script"] (qU K true 1 se):=by
 have e:=hfa.symm.trans (gS j G LK);cases e
 have T:Gm K TL TX TW T3 TM TV TN TZ TR TY TU TQ TK T0 TJ q:=⟨oM j G z0,oM j G z1,oM j G z2,oM j G z3,oM j G z4,oM j G z5,oM j G z6,oM j G z7,oM j G z8,oM j G z9,oM j G LO,oM j G LP,oM j G LQ,oM j G LR,oM j G LS,iu.imp λ_ h=>gS j G h,E.imp λ_ h=>gS j G h,J.imp λ_ h=>gS j G h,O.imp λ_ h=>gS j G h,L.imp λ_ h=>gS j G h,Q.imp λ_ h=>gS j G h,N.imp λ_ h=>gS j G h,H.imp λ_ h=>gS j G h,Y.imp λ_ h=>gS j G h,⟨TJ,yO,⟨QO,QS,QN,QJ⟩,xO⟩,⟨TH,yN,⟨Jx,JE,Jw,Ju⟩,wv⟩,⟨TH,yN,⟨Jx,JE,Jw,Ju⟩,xb⟩,⟨T4,zb,⟨zT,zX,zS,zR⟩,zO⟩,⟨T4,zb,⟨zT,zX,zS,zR⟩,zN⟩,gS j G o,gS j G m,gS j G iw,gS j G gM,gS j G lj,gS j G ll,gS j G lm,gS j G gO,gS j G ls,gS j G ix,gS j G lu,gS j G lv,gS j G lx,gS j G gP,gS j G mY,o,gh,m,eV,(λc r C hC=>by
   simp only [ER,LU,D5,beq_iff_eq,wh] at r;rcases r with rfl|rfl
   . have e:=hC.symm.trans o;cases e;exact cQ
   . have e:=hC.symm.trans m;cases e
     exact B),(λc r C hC=>by
   simp only [ER,LU,D5,beq_iff_eq,wh] at r;rcases r with rfl|rfl
   . have e:=hC.symm.trans o;cases e;exact z
   . have e:=hC.symm.trans m;cases e
     exact y),(λc r C hC=>by
   simp only [ER,LU,D5,beq_iff_eq,wh] at r;rcases r with rfl
   . have e:=hC.symm.trans yO;cases e
     exact I),(λc b r C hC=>by
   by_cases i:c= "NoHead"
   . subst i;rw [zW] at r;cases r;have e:=hC.symm.trans o;cases e;exact ⟨eW,zY⟩
   rw [zV i] at r
   by_cases g:c= "TooMany"
   . subst g;rw [zW] at r;cases r;have e:=hC.symm.trans m;cases e;exact ⟨u,zJ⟩
   rw [zV g] at r
   cases r),(λc b r C hC=>by
   by_cases i:c= "NoHead"
   . subst i;rw [zW] at r;cases r;have e:=hC.symm.trans o;cases e;exact ⟨eW,wn⟩
   rw [zV i] at r
   by_cases g:c= "TooMany"
   . subst g;rw [zW] at r;cases r;have e:=hC.symm.trans m;cases e;exact ⟨u,zZ⟩
   rw [zV g] at r
   cases r),(λc b r C hC=>by
   by_cases i:c= "NoHead"
   . subst i;rw [zW] at r;cases r;have e:=hC.symm.trans o;cases e;exact ⟨eW,gj⟩
   rw [zV i] at r
   by_cases g:c= "TooMany"
   . subst g;rw [zW] at r;cases r;have e:=hC.symm.trans m;cases e;exact ⟨u,Z⟩
   rw [zV g] at r
   cases r),(λc b r C hC=>by
   by_cases i:c= "NoHead"
   . subst i;rw [zW] at r;cases r;have e:=hC.symm.trans o;cases e;exact ⟨eW,gk⟩
   rw [zV i] at r
   by_cases g:c= "TooMany"
   . subst g;rw [zW] at r;cases r;have e:=hC.symm.trans m;cases e;exact ⟨u,fB⟩
   rw [zV g] at r
   cases r)⟩
 have U:=MR (st:=WU) LL LM LN;have JS:bL K bt "Ranks" =some (some (.ref TJ))/\fG K TJ:=⟨yO,QO,QS,QN,QJ⟩
 have qM:bL K bt "Reckoning" =some (some (.ref T4))/\fG K T4:=⟨zb,zT,zX,zS,zR⟩
 have XH:bL K bt "Rules" =some (some (.ref TH))/\fG K TH:=⟨yN,Jx,JE,Jw,Ju⟩
 refine ⟨qI "law" "law" (xj WU) (qe WU) (jg WU) .none Dr Ds Dt Dq A5 Du,λs v=> .of_eq rfl,λa _ _=>?_⟩;have V0:ze l.prog w K q a 1 bi:=W8 (k:=0) T (d0.dx j G ia);have V1:yz l.prog w K q a 1 fm:=W5 (k:=0) T (d1.dx j G ia);have V2:JX l.prog w K q a 1 c8:=kU (k:=0) T (d2.dx j G ia);have V3:yP l.prog w K q a 1 dM:=KL (k:=0) T (d3.dx j G ia);have V4:Z5 l.prog w K q a 2 gu:=kW (k:=1) T (d4.dx j G ia) (V2.mono (by decide)) (V3.mono (by decide));have V5:Jq l.prog w K q a 3 bw:=Yt (k:=2) T (d5.dx j G ia) (V4.mono (by decide));have V6:qD l.prog w K q a 4 bc:=Jg (k:=3) T (d6.dm r8) JS (gS j G yO) ⟨Xf,Xj⟩ (V5.mono (by decide));have V7:qy l.prog w K q a 1 bp:=Zo (k:=0) T (d7.dx j G r8);have V8:wW l.prog w K q a 1 aP:=jaf (k:=0) T (d8.dx j G ia)
 have V9: ∀n,Qq l.prog w K q a (1+n) (bx n):=by
  intro n
  induction n with
  |zero=>exact Oy true (d9.dx j G ia)
  |succ n ih=>exact jcU (k:=1+n) T (d9.dx j G ia) (V8.mono (by omega)) ih
 have LV:Kd l.prog w K q a 1 cm:=jfO (k:=0) T (La.dx j G ia);have LW:wK l.prog w K q a 66 bz:=Yu (k:=65) T (Lb.dx j G ia) ((V9 64).mono (by decide)) (LV.mono (by decide));have V12:xV l.prog w K q a 2 bC:=Wa (k:=1) T (Lc.dx j G ia) (V8.mono (by decide));have V13:Qs l.prog w K q a 3 dN:=KN (k:=2) T (Ld.dx j G ia) (V12.mono (by decide));have V14:Qt l.prog w K q a 2 c9:=KO (k:=1) T (Le.dx j G ia) (V3.mono (by decide));have V15:Qr l.prog w K q a 3 dP:=KM (k:=2) T (Lf.dx j G ia) (V14.mono (by decide)) (V2.mono (by decide));have V16:Z3 l.prog w K q a 66 gv:=kR (k:=65) T (Lg.dx j G ia) (V13.mono (by decide)) (V15.mono (by decide)) ((V9 64).mono (by decide));have V17:XQ l.prog w K q a 66 k4:=jah (k:=65) T (Lh.dx j G ia) ((V9 64).mono (by decide));have V18:Z4 l.prog w K q a 67 gw:=kT (k:=66) T (Li.dx j G ia) (V16.mono (by decide)) (V17.mono (by decide));have V19:Jp l.prog w K q a 68 eE:=Ys (k:=67) T (Lj.dx j G ia) (V18.mono (by decide));have LX:qg l.prog w K q a 69 aE:=Je (k:=68) T (Lk.dm r8) XH (gS j G yN) ⟨Xe,Xi⟩ (LW.mono (by decide)) (V19.mono (by decide));have LY:xC l.prog w K q a 1 bN:=KK (k:=0) T (Ll.dx j G r8);have V24:xl l.prog w K q a 2 dR:=Zm (k:=1) T (Lo.dx j G r8) (V8.mono (by decide))
 have LZ: ∀n,jQ l.prog w K q a (2+2*n) (az n):=by
  intro n
  induction n with
  |zero=>exact ji8 true (Fh.dm xq) qM
  |succ n ih=>
   have R22:qN l.prog w K q a (2+2*n+1) (bT (az n)):=x6 (k:=2+2*n) T (Lm.dm xq) qM (V8.mono (by omega)) ih;have R23:qO l.prog w K q a (2+2*n+1) (bV (az n)):=x8 (k:=2+2*n) T (Ln.dm xq) qM (V8.mono (by omega)) (LV.mono (by omega)) ih;have R25:qV l.prog w K q a (2+2*n+1) (bY (az n)):=yg (k:=2+2*n) T (Lq.dm xq) qM (V24.mono (by omega)) ih (V8.mono (by omega)) (LV.mono (by omega));exact Jz (k:=2+2*n+1) T (Fh.dm xq) qM R22 R23 R25
 have L0: ∀p:MP,jX l.prog w K q a 1 (aN p):=λp=>xN (k:=0) T (Lr.dm r8) qM p (gS j G zb) ⟨yi,yj⟩
 have L1:zA l.prog w K q a 67 aZ:=QD (k:=66) T (Ls.dm xq).x JS (LY.mono (by decide)) (LW.mono (by decide)) ((LZ 32).mono (by decide)) L0 (by decide);have V29:zy l.prog w K q a 67 cC:=Jf (k:=66) T (Lu.dm xq) qM ((LZ 32).mono (by decide));have Pt:xW l.prog w K q a 68 bD:=Wc (k:=67) T (Lw.dm xq).x JS (LY.mono (by decide)) (V29.mono (by decide)) (LW.mono (by decide)) L0 (by decide);have V31:xn l.prog w K q a 1 cO:=Zp (k:=0) T (Lx.dm ia) XH;have Pu:qC l.prog w K q a 1 bO:=Jd (k:=0) T (Ly.dm ia) XH;have Pw:xp l.prog w K q a 67 aY:=Zr (k:=66) T (Lz.dm r8).x JS (LY.mono (by decide)) (V31.mono (by decide)) (Pu.mono (by decide)) ((LZ 32).mono (by decide)) L0 (by decide);have Px:qB l.prog w K q a 1 cE:=Jc (k:=0) T (LA.dx j G ia);have V35:xm l.prog w K q a 69 bZ:=Zn (k:=68) T (LB.dx j G tk5) (L1.mono (by decide)) (Pt.mono (by decide)) (Pw.mono (by decide)) (Px.mono (by decide));have V36:yB l.prog w K q a 71 fx:=W7 (k:=70) T (LC.dx j G r8) (V0.mono (by decide)) V6 (by decide) (V7.mono (by decide)) LX (by decide) (V35.mono (by decide)) (L1.mono (by decide)) (Pt.mono (by decide));have V37:q9 l.prog w K q a 1 bH:=yQ (k:=0) T (LD.dx j G r8)
 have V38: ∀n,Q0 l.prog w K q a (0+n) (cv n):=by
  intro n
  induction n with
  |zero=>exact Oy true (Fi.dx j G ia)
  |succ n ih=>exact jag (k:=0+n) T (Fi.dx j G ia) ih
 have V39:Qp l.prog w K q a 68 bg:=KJ (k:=67) T (LF.dx j G ia) (Pu.mono (by decide)) ((V38 8).mono (by decide)) V6 (by decide) (Pw.mono (by decide));have Py:wm l.prog w K q a 69 bE:=Wb (k:=68) T (LG.dx j G ia) (V39.mono (by decide)) (Px.mono (by decide));have V41:xo l.prog w K q a 1 dY:=Zq (k:=0) T (LH.dm ia) JS;have V42:yC l.prog w K q a 71 fz:=W9 (k:=70) T (LI.dx j G r8) (V0.mono (by decide)) (V37.mono (by decide)) (Py.mono (by decide)) (V7.mono (by decide)) LX (by decide) (V41.mono (by decide)) (L1.mono (by decide));have V43:yA l.prog w K q a 71 fA:=W6 (k:=70) T (LJ.dx j G r8) (V0.mono (by decide)) (V7.mono (by decide)) (Py.mono (by decide)) LX (by decide);exact jib (k:=71) T U (V0.mono (by decide)) (V1.mono (by decide)) (V36.mono (by decide)) (V7.mono (by decide)) (V42.mono (by decide)) (V43.mono (by decide))
end G
namespace G
open PySem PySem.Spec L2 M
open Builtin.Int (intBits)
noncomputable def iy:Str:= "abcdefghijklmnopqrstuvwxyz"
def L3 (x:D) (r:List D):cutD (x::r) (some 1) none=r:=by
 have a:HT.ci (x::r).length 0 (some 1)=1:=by
  have:=HT.gY (x::r).length 0 1;simp at this ⊢;exact this.trans (by omega)
 unfold cutD;rw [a,HT.jJ];simp
def Kx {d:D} (h:Ho d=true):aP [d]= .ok (.ap (au d)):=by
 cases d with
 |ap ds=>
  cases ds with
  |nil=>rfl
  |cons x r=>
   show aj.ok (D.ap (cutD (x::r) (some 1) none))=_;rw [L3];rfl
 |_=>first|rfl|cases h
def isNm:D->Bool| .str z=>(decide (1<=(z.length:Int))&&decide ((z.length:Int)<=8))&&z.cps.toList.all (λc=>v3 ⟨#[c]⟩ iy)|_=>false
def Xk (z:Str):isNm (.str z)=((decide (1<=(z.length:Int))&&decide ((z.length:Int)<=8))&&z.cps.toList.all (λc=>v3 ⟨#[c]⟩ iy)):=rfl
def QZ {a:Type} (l:List a) (p:a->Bool):mH [.ah (l.map λc=>D.bl (p c))]= .ok (.bl (l.all p)):=by
 have:l.map (λc=>D.bl (p c))=(l.map p).map D.bl:=by simp
 rw [this];show (match Vj ((l.map p).map D.bl) with|some bs=>aj.ok (D.bl (bs.all id))|none=>aj.ai)=_;rw [jd9];simp
def ui (z:Str):(WO z).length=z.length:=by simp [WO,Str.length]
def Pz {d:D} (h:Ho d=true):c8 [d]= .ok (.bl (isNm d)):=by
 cases d with
 |str z=>
  have e1:eT (j8 1 [.str z])= .ok (.rt true (.bl (isNm (.str z)))):=by
   have o:j8 1 [.str z]=[.aa (.str z)]:=rfl;rw [o];have l:j1 "str" (.str z)= .ok (.bl true):=rfl;have m:ce [.str z]= .ok (.int z.length):=rfl;rw [Xk]
   by_cases n:(z.length:Int)<=8
   . have g:zE false 1 [] (fh (ag 0)) (gN 0) qF (ak (ag 0) (cS "abcdefghijklmnopqrstuvwxyz") inD) [.aa (.str z)]= .ok (.ah ((WO z).map λd=>D.bl (match d with| .str c=>v3 c iy|_=>false))):=by
      refine Hg _ (λd=> ∃c,d= .str c) rfl (by intro d hd;obtain ⟨c,_,e⟩:=c4.mp hd;exact ⟨_,e.symm⟩) (by rw [ui];exact dw (by omega:z.length<=8) (by decide)) ?_;rintro d p ⟨c,e⟩;subst e;rfl
     have a:(WO z).all (λd=>match d with| .str c=>v3 c iy|_=>false)=(z.cps.toList.all (λc=>v3 ⟨#[c]⟩ iy)):=by
      simp only [WO,List.all_map];rfl
     simp only [eT,l,m,g,yq,YN,UI,K8,UK,Jk,Hk,YO,JI,K9,xS,UG,Hi,Hm,ZO,Nq,Np,Va,Hj,Hh,u9,KH,L4,Vp,if_true,sQ,nY,if_false,decide_eq_true_eq,QX,U0,QZ,a]
     by_cases i:(1:Int)<=z.length<;>simp [i,n]
   . have j:decide ((z.length)<=8)=false:=by simp;omega
     simp only [eT,l,m,yq,YN,UI,K8,UK,Jk,Hk,YO,JI,K9,xS,UG,Hi,Hm,ZO,Nq,Np,Va,Hj,Hh,u9,KH,L4,Vp,if_true,sQ,nY,if_false,decide_eq_true_eq,QX,U0]
     by_cases i:(1)<=z.length<;>simp [i,n,j]
  exact yr e1
 |_=>first|rfl|cases h
def tX (z:Str):Prop:= ∀c∈z.cps.toList,v3 ⟨#[c]⟩ iy=true
def KU {a b:Str} (e:tX a) (g:tX b):tX (a++b):=λc i=>by
 have h:c∈(a.cps++b.cps).toList:=i;rw [Array.toList_append,i3] at h;exact h.elim (e c) (g c)
def PB {z:Str} (lo e:Option Int) (h:tX z):tX (dg z lo e):=λc a=>by
 unfold dg at a
 split at a
 . exact h c a
 . simp at a;obtain ⟨i,_,e⟩:=a;exact h c (by rw [<-oj] at e;exact sI e)
def jg8:tX iy:=by
 intro c a;have:iy.cps.toList.all (λc=>v3 ⟨#[c]⟩ iy)=true:=by decide+kernel
 exact lI.mp this c a
def L5 {z:Str} {i:Int} (a:0<=i) (e:i<z.length): ∃c,aX (.str z) (.int i)= .ok (.str ⟨#[c]⟩)/\c∈z.cps.toList:=by
 obtain ⟨c,g,h⟩:=Nx (xs:=z.cps.toList) a (by simpa [Str.length] using e);exact ⟨c,by simp only [aX];rw [g],h⟩
def PC {c:Nat} (h:c∈iy.cps.toList):tX ⟨#[c]⟩:=λx a=>by
 have:x=c:=by simpa using a
 rw [this];exact jg8 c h
def PD (i:Int) (n:Nat) (h:0<=i):(qZ none (some i) 1 n).length<=i.toNat:=by
 unfold qZ sliceRange
 split<;>(try split)<;>(try split)<;>(try simp)<;>omega
def PF (i:Int) (n:Nat) (h:0<=i):(qZ (some i) none 1 n).length<=n-i.toNat:=by
 unfold qZ sliceRange
 split<;>(try split)<;>(try split)<;>(try simp)<;>omega
def UU (z:Str) (lo a:Option Int):(dg z lo a).length<=(qZ lo a 1 z.length).length:=by
 unfold dg
 split
 . rename_i h;rw [beq_iff_eq] at h;omega
 . show ((qZ lo a 1 z.length).filterMap (z.cps[·]?)).toArray.size<=_;exact List.length_filterMap_le _ _
def jga {z:Str} (a:1<=z.length) (c:z.length<=8) (h:tX z):isNm (.str z)=true:=by
 rw [Xk];simp only [eX,decide_eq_true_eq,lI];exact ⟨⟨by omega,by omega⟩,h⟩
def XN:iy.length=26:=by decide
def tY:20000<=aV:=by decide
def jp {k:Nat} (h:k<=20000):k<=aV:=dw h tY
theorem UZ {cs:List Slot} {c:TF} (h:D->D) (P:D->Prop) (g: ∀d a,P d->c (.aa d::(cs++[.aw (.ah a)]))= .ok (h d)):
  ∀(ds:List D) (x:Slot) (a:List D),(∀d∈ds,P d)->a.length+ds.length<=aV->
   ∃(y:Slot),q8 (1+cs.length) (gN 0) qF c ds (x::(cs++[.aw (.ah a)]))= .ok (y::(cs++[.aw (.ah (a++ds.map h))]))
 | [],x,a,_,_=>⟨x,by simp [q8]⟩
 |d::ds,x,a,i,j=>by
  simp at j;have l:=g d a (i d (by simp));obtain ⟨y,m⟩:=UZ h P g ds (.aa d) (a++[h d]) (λe n=>i e (by simp [n])) (by simp;omega);refine ⟨y,?_⟩
  have e1:cq (1+cs.length) (.aa d::(cs++[.aw (.ah a)]))= .ok a:=by
   unfold cq;rw [show (1+cs.length)=cs.length+1 by omega,rY,lF (bf _)];simp
  have e2:(Slot.aa d::(cs++[Slot.aw (.ah a)])).set (1+cs.length) (.aw (.ah (a++[h d])))= .aa d::(cs++[.aw (.ah (a++[h d]))]):=by
   rw [show (1+cs.length)=cs.length+1 by omega,Fj,L6 _ _ (bf _)];simp
  show (c (.aa d::(cs++[.aw (.ah a)]))>>=_)=_;rw [l];show (cq (1+cs.length) (.aa d::(cs++[.aw (.ah a)]))>>=_)=_;rw [e1];show a4 _ _=_;rw [jl (by omega)];show q8 _ _ _ _ ds ((Slot.aa d::(cs++[Slot.aw (.ah a)])).set (1+cs.length) (.aw (.ah (a++[h d]))))=_;rw [e2,m];simp
def XF {js:List Nat} {fi:TB} {fe:TF} {env:Sl} {ds:List D} {cs:List Slot} (h:D->D) (P:D->Prop) (g:js.map (oz false env)=cs) (i:fi env= .ok ds) (j: ∀d∈ds,P d) (l:ds.length<=aV)
  (m: ∀d e,P d->fe (.aa d::(cs++[.aw (.ah e)]))= .ok (h d)):zE false 1 js fi (gN 0) qF fe env= .ok (.ah (ds.map h)):=by
 obtain ⟨y,n⟩:=UZ h P m ds .un [] j (by simpa using l);have a:js.length=cs.length:=by rw [<-g];simp
 show (fi env>>=_)=_;rw [i];show (q8 (1+js.length) (gN 0) qF fe ds (wI false 1 js env)>>=_)=_
 have o:wI false 1 js env= .un::(cs++[.aw (.ah [])]):=by
  unfold wI;rw [g];rfl
 rw [o,a,n];show (cq (1+cs.length) (y::(cs++[.aw (.ah ([]++ds.map h))]))>>=_)=_
 have e1:cq (1+cs.length) (y::(cs++[.aw (.ah ([]++ds.map h))]))= .ok (ds.map h):=by
  unfold cq;rw [show (1+cs.length)=cs.length+1 by omega,rY,lF (bf _)];simp
 rw [e1];exact jl (c:=false=true->D.iQ (ds.map h)=true) (λh=>by cases h)
def cs (z:Str):List Nat:=z.cps.toList
def PH (z:Str):(cs z).length=z.length:=lC
def UX (a b:Str):cs (a++b)=cs a++cs b:=PySem.W.KT.app_list a b
def jcg:iy.cps.toList.Nodup:=by decide+kernel
def Dv {z:Str} {i:Int} (e:0<=i) (h:i<z.length): ∃c,aX (.str z) (.int i)= .ok (.str ⟨#[c]⟩)/\(cs z)[i.toNat]?=some c/\c∈z.cps.toList:=by
 obtain ⟨k,rfl⟩:=Int.eq_ofNat_of_zero_le e;have a:k< (cs z).length:=by rw [PH];omega
 have g:nc z.cps.toList (k)=some (cs z)[k]:=by
  rw [M.eA];exact cH a
 exact ⟨(cs z)[k],by simp only [aX];rw [g],by rw [Bn];exact cH a,qd a⟩
def Sev (a:List Str):Prop:=a.length=7/\(∀z∈a,isNm (.str z)=true)/\a.Nodup
def lX (f:Str) (a:Int) (p:Int) (k:Int):Str:=(dg f none (some a)++(⟨#[((cs iy)[((p+5*k)%26).toNat]?).getD 0]⟩:Str))++dg f (some (a+1)) none
def jik {f:Str} {a p i j:Int} (q:0<=i/\i<7) (r:0<=j/\j<7) (h:lX f a p i=lX f a p j):i=j:=by
 have m:=congrArg cs h;unfold lX at m;rw [UX,UX,UX,UX,nH,nH] at m;have g:=IR m;have e: ∀c:Nat,cs (⟨#[c]⟩:Str)=[c]:=λ_=>rfl
 rw [e,e] at g;simp at g;have l:(cs iy).length=26:=by rw [PH];exact XN
 have n:((p+5*i)%26).toNat< (cs iy).length:=by omega
 have o:((p+5*j)%26).toNat< (cs iy).length:=by omega
 rw [cH n,cH o] at g;have u:=(FC jcg).mp (g);omega
def KQ (m:Int): ∃Z,fm [.int m]= .ok (.ah (Z.map D.str))/\Sev Z:=by
 have hs:1<=1+m%8/\1+m%8<=8:=by omega
 have e0:j8 8 [.int m]=[.aa (.int m),.un,.un,.un,.un,.un,.un,.un]:=rfl;generalize N:1+m%8=sz at hs
 obtain ⟨lQ,l1,r,h,J,rfl,O,B⟩:=QU (body:=qm (gN 4) (ax (jB 3 (ak (ag 3) (ak (ag 1) (ak (ag 0) (cI 26) bG) aX) cb)) (jB 0 (ak (ag 0) (cI 26) dh))))
   (λds o=> ∃(n:Int) (f:Str) (u:Slot),o=[.aa (.int n),.aa (.str iy),.aa (.int sz),.aa (.str f),u,.un,.un,.un]/\f.length+ds.length=sz.toNat/\tX f)
   (by
    rintro d ds o ⟨n,f,u,rfl,Q,lw⟩;obtain ⟨c,y,q⟩:=L5 (i:=n%26) (by omega) (by rw [XN];omega);simp at Q;have E:(f++(⟨#[c]⟩:Str)).length=f.length+1:=CA _ _;refine ⟨[.aa (.int (n/26)),.aa (.str iy),.aa (.int sz),.aa (.str (f++(⟨#[c]⟩:Str))),.aa d,.un,.un,.un],?_,_,_,_,rfl,by rw [E];omega,KU lw (PC q)⟩;rw [Q4 rfl];rw [jk ((jq (jh rfl (jh rfl rfl y) (jl (dw (show f.length+1<=8 by omega) (by decide))))))]
    rfl)
   (wN 0 sz.toNat) [.aa (.int (m/8)),.aa (.str iy),.aa (.int sz),.aa (.str ""),.un,.un,.un,.un] ⟨m/8, "",.un,rfl,by rw [jaX,show ("" :Str).length=0 by decide,wp],λc y=>by cases y⟩
 simp at O;have H:0<=r%sz/\r%sz<sz:=⟨C8 _ (by omega),EW _ (by omega)⟩
 generalize hq:r%sz=g at H;obtain ⟨c1,U⟩:=ixS (z:=h) H.1 (by omega);generalize hp:(Txt.find iy (⟨#[c1]⟩:Str))=p
 obtain ⟨IY,l2,l,k2,s2,rfl,_,L⟩:=QU (body:=qm (gN 4) (ax (jB 7 (ak (ag 1) (ak (ak (Es (ag 1) (jb (ak (ag 3) (ag 5) aX) af) Et) (ak (cI 5) (ag 4) pF) cb) (cI 26) bG) aX))
   (yy 6 (ak (ak (zf (ag 3) JA (xt (ag 5)) oC) (ag 7) cb) (zf (ag 3) (xt (ak (ag 5) (cI 1) cb)) JA oC) cb))))
   (λds o=> ∃(l:Nat) (k s:Slot),o=[.aa (.int r),.aa (.str iy),.aa (.int sz),.aa (.str h),k,.aa (.int g),.aw (.ah ((fK l).map λ(j:Nat)=>D.str (lX h g p j))),s]/\ds=(List.range' l (7-l)).map (λ(j:Nat)=>D.int j)/\l+ds.length=7)
   (by
    rintro d ds o ⟨l,k,s,rfl,hd,Q⟩;simp at Q;have hjs:l<7:=by omega
    have e7:7-l=(7-(l+1))+1:=by omega
    rw [e7,Fk,fF,rZ] at hd;obtain ⟨rfl,hd⟩:=hd
    have hm:pE 5 l:=by
     have:l=0\/l=1\/l=2\/l=3\/l=4\/l=5\/l=6:=by omega
     rcases this with rfl|rfl|rfl|rfl|rfl|rfl|rfl<;>decide
    obtain ⟨c,y,v,q⟩:=Dv (i:=(p+5*l)%26) (by omega) (by rw [XN];omega);have w:lX h g p l=(dg h none (some g)++(⟨#[c]⟩:Str))++dg h (some (g+1)) none:=by unfold lX;rw [v];rfl
    have hA:=dw (UU h none (some g)) (PD g h.length (by omega));have hB:=dw (UU h (some (g+1)) none) (PF (g+1) h.length (by omega));have h1:(dg h none (some g)++(⟨#[c]⟩:Str)).length=(dg h none (some g)).length+1:=CA _ _;have I:20<=aV:=by decide
    refine ⟨[.aa (.int r),.aa (.str iy),.aa (.int sz),.aa (.str h),.aa (.int l),.aa (.int g),.aw (.ah ((fK (l+1)).map λ(j:Nat)=>D.str (lX h g p j))),.aa (.str ⟨#[c]⟩)],?_,l+1,_,_,rfl,hd,by omega⟩;rw [Q4 rfl];rw [jk (jq (jh rfl (jh (jh (jjw rfl (jc (jh rfl rfl U) rfl) rfl) (jh rfl rfl (Nv hm)) rfl) rfl rfl) (by rw [hp];exact y)))];refine (jce rfl (jh (jh (wO rfl rfl (yH rfl) rfl) rfl (jl (dw (show _+1<=20 by omega) I))) (wO rfl (yH (jh rfl rfl rfl)) rfl rfl) (jl (by omega))) (by rw [cg,AX];omega)).trans ?_;rw [List.range_succ,tL,fF,List.map_nil,w]
    rfl)
   (wN 0 7) [.aa (.int r),.aa (.str iy),.aa (.int sz),.aa (.str h),J,.aa (.int g),.aw (.ah []),.un] ⟨0,J,.un,rfl,rfl,rfl⟩
 obtain rfl:l=7:=by simpa using L
 refine ⟨(fK 7).map λ(j:Nat)=>lX h g p j,?_,by simp,?_,?_⟩
 . refine zM ?_;rw [e0];unfold fk;rw [jk rfl];rw [jk (env':=[.aa (.int m),.aa (.str iy),.aa (.int sz),.un,.un,.un,.un,.un]) (by rw [<-N];rfl)];rw [jk rfl];rw [jk (env':=[.aa (.int (m/8)),.aa (.str iy),.aa (.int sz),.aa (.str ""),.un,.un,.un,.un]) rfl]
   rw [jk ((x0 (by
    exact jl (by omega))).trans l1)]
   rw [jk (env':=[.aa (.int r),.aa (.str iy),.aa (.int sz),.aa (.str h),J,.aa (.int g),.un,.un]) (by rw [<-hq];exact (jq (jh rfl rfl (Nw (by omega)))))];rw [jk (env':=[.aa (.int r),.aa (.str iy),.aa (.int sz),.aa (.str h),J,.aa (.int g),.aw (.ah []),.un]) rfl];rw [jk ((x0 rfl).trans l2)];rw [lG];rfl
 . intro z hz;obtain ⟨j,L,rfl⟩:=c4.mp hz;have L:=ic.mp L;obtain ⟨c,y,v,q⟩:=Dv (i:=(p+5*j)%26) (by omega) (by rw [XN];omega);have w:lX h g p j=(dg h none (some g)++(⟨#[c]⟩:Str))++dg h (some (g+1)) none:=by unfold lX;rw [v];rfl
   have hA:=dw (UU h none (some g)) (PD g h.length (by omega));have hB:=dw (UU h (some (g+1)) none) (PF (g+1) h.length (by omega));have h1:(dg h none (some g)++(⟨#[c]⟩:Str)).length=(dg h none (some g)).length+1:=CA _ _;have h2:((dg h none (some g)++(⟨#[c]⟩:Str))++dg h (some (g+1)) none).length=(dg h none (some g)++(⟨#[c]⟩:Str)).length+(dg h (some (g+1)) none).length:=CA _ _;rw [w];exact jga (by omega) (by omega) (KU (KU (PB _ _ B) (PC q)) (PB _ _ B))
 . refine wr.mpr ((Ev).imp_of_mem λ{a b} ha hb Y e=>?_);have:=jik (by have:=ic.mp ha;omega) (by have:=ic.mp hb;omega) e;exact Y (by omega)
def jjZ {c e:TF} {a:Sl} {i j:Int} (g:c a= .ok (.int i)) (h:e a= .ok (.int j)) (l:0<j/\j<1073741824):app (jb c (jb e af)) ZS a= .ok (.ap [.int (i/j),.int (i%j)]):=
 qW (jc g (jc h rfl)) (jl l)
def jg0 {f:TF} {c:Sl} {a b:Nat} {x y:D} (h:f c= .ok (.ap [x,y])):tH f (g2 (gN a) (gN b)) c= .ok (.nx ((c.set a (.aa x)).set b (.aa y))):=by
 show (f c>>=_)=_;rw [h];rfl
noncomputable def hZ (z:Str) (m:Nat):D:= .ap [.str z,.int m]
def Fl {c e:TF} {a:Sl} (h:c a= .ok (.bl true)):n9 c e true a=e a:=by
 show (c a>>=_)=_;rw [h];rfl
def vV (i:Int):dM [.int i]= .ok (.bl true):=rfl
def jjU {z:Str} {m:Nat} (a:isNm (.str z)=true) (i:m<=9):gu [hZ z m]= .ok (.bl true):=by
 have c:c8 [.str z]= .ok (.bl true):=by rw [Pz rfl,a]
 refine zM ?_;refine (jk rfl).trans ?_;refine jM ?_
 have g:ZW (cI 0) (ak (ag 0) (cI 1) aX) (cI 9) pG pG [.aa (hZ z m)]= .ok (.bl true):=by
  have e:ZW (cI 0) (ak (ag 0) (cI 1) aX) (cI 9) pG pG [.aa (hZ z m)]= .ok (.bl (decide ((0:Int)<=m)&&decide ((m:Int)<=9))):=by
   by_cases h:(0:Int)<=m
   . rw [decide_eq_true h];exact (by unfold ZW;simp;rfl)
   . omega
  rw [e,decide_eq_true (by omega),decide_eq_true (by omega)];rfl
 exact (Fl (jA (jc (jh rfl rfl rfl) rfl) rfl c)).trans ((Fl (jA (jc (jh rfl rfl rfl) rfl) rfl (vV _))).trans g)
theorem Y0 {g:Type} {c:g->D×D} {cs:List Slot} {j:TF} (h:g->D) (P:g->Prop) (m: ∀q a,P q->j (.aa (c q).1:: .aa (c q).2::(cs++[.aw (.ah a)]))= .ok (h q)):
  ∀(L:List g) (x i:Slot) (a:List D),(∀q∈L,P q)->a.length+L.length<=aV->
   ∃(y l:Slot),q8 (2+cs.length) (g2 (gN 0) (gN 1)) qF j (L.map λq=> .ap [(c q).1,(c q).2]) (x::i::(cs++[.aw (.ah a)]))= .ok (y::l::(cs++[.aw (.ah (a++L.map h))]))
 | [],x,i,a,_,_=>⟨x,i,by simp [q8]⟩
 |q::L,x,i,a,n,o=>by
  simp at o;have p:=m q a (n q (by simp));obtain ⟨y,l,r⟩:=Y0 h P m L (.aa (c q).1) (.aa (c q).2) (a++[h q]) (λe u=>n e (by simp [u])) (by simp;omega);refine ⟨y,l,?_⟩
  have e1:cq (2+cs.length) (.aa (c q).1:: .aa (c q).2::(cs++[.aw (.ah a)]))= .ok a:=by
   unfold cq;rw [show (2+cs.length)=cs.length+1+1 by omega,rY,rY,lF (bf _)];simp
  have e2:(Slot.aa (c q).1::Slot.aa (c q).2::(cs++[Slot.aw (.ah a)])).set (2+cs.length) (.aw (.ah (a++[h q])))= .aa (c q).1:: .aa (c q).2::(cs++[.aw (.ah (a++[h q]))]):=by
   rw [show (2+cs.length)=cs.length+1+1 by omega,Fj,Fj,L6 _ _ (bf _)];simp
  show (j (.aa (c q).1:: .aa (c q).2::(cs++[.aw (.ah a)]))>>=_)=_;rw [p];show (cq (2+cs.length) (.aa (c q).1:: .aa (c q).2::(cs++[.aw (.ah a)]))>>=_)=_;rw [e1];show a4 _ _=_;rw [jl (by omega)];show q8 _ _ _ _ (L.map λq=>D.ap [(c q).1,(c q).2]) ((Slot.aa (c q).1::Slot.aa (c q).2::(cs++[Slot.aw (.ah a)])).set (2+cs.length) (.aw (.ah (a++[h q]))))=_;rw [e2,r];simp
def jdX {j:Type} (e:j->D×D) {g:List Nat} {l:TB} {m:TF} {a:Sl} {L:List j} {cs:List Slot} (h:j->D) (P:j->Prop) (o:g.map (oz false a)=cs) (r:l a= .ok (L.map λq=> .ap [(e q).1,(e q).2])) (u: ∀q∈L,P q) (v:L.length<=aV)
  (w: ∀q n,P q->m (.aa (e q).1:: .aa (e q).2::(cs++[.aw (.ah n)]))= .ok (h q)):zE false 2 g l (g2 (gN 0) (gN 1)) qF m a= .ok (.ah (L.map h)):=by
 obtain ⟨y,p,z⟩:=Y0 h P w L .un .un [] u (by simpa using v);have i:g.length=cs.length:=by rw [<-o];simp
 show (l a>>=_)=_;rw [r];show (q8 (2+g.length) (g2 (gN 0) (gN 1)) qF m (L.map λq=>D.ap [(e q).1,(e q).2]) (wI false 2 g a)>>=_)=_
 have B:wI false 2 g a= .un:: .un::(cs++[.aw (.ah [])]):=by
  unfold wI;rw [o];rfl
 rw [B,i,z];show (cq (2+cs.length) (y::p::(cs++[.aw (.ah ([]++L.map h))]))>>=_)=_
 have e1:cq (2+cs.length) (y::p::(cs++[.aw (.ah ([]++L.map h))]))= .ok (L.map h):=by
  unfold cq;rw [show (2+cs.length)=cs.length+1+1 by omega,rY,rY,lF (bf _)];simp
 rw [e1];exact jl (c:=false=true->D.iQ (L.map h)=true) (λh=>by cases h)
theorem PJ: ∀l:List (Str×Nat),mS (l.map λh=>hZ h.1 h.2)=some (l.map λh=>[sD h.1,ri (h.2:Int)])
 | []=>rfl
 |x::r=>by
  show (match j2 (hZ x.1 x.2),mS (r.map λh=>hZ h.1 h.2) with
   |some k,some ks=>some (k::ks)
   |_,_=>none)=_
  rw [PJ r];rfl
def jaE {l:List (Str×Nat)} (h:l.Nodup) (g:l.length<=76):mT (.ah (l.map λh=>hZ h.1 h.2))= .ok (.int l.length):=by
 have i:(l.map λh=>([sD h.1,ri (h.2)]:List aS)).Nodup:=wr.mpr (h.imp λ{a b} c e=>c (by
  simp at e
  exact vl e.1 (by omega)))
 show (match mS (l.map λh=>hZ h.1 h.2) with
   |some ks=>a4 (ks.length<=76/\ks.Nodup) (aj.ok (D.int ks.length))
   |none=>aj.ai)=_
 rw [PJ];dsimp only;rw [jl ⟨by rw [cg];exact g,i⟩,cg]
def jgy (i:Int):eB (.int i) (.int i)= .ok (.bl true):=(show eB (.int i) (.int i)= .ok (.bl (i==i)) from rfl).trans (by simp)
def jgg {ks:List (List aS)} {k:List aS} (h:k∉ks):ka ks k=false:=by
 unfold ka;rw [F8];intro x a e;exact h (by rw [<-of_decide_eq_true e];exact a)
theorem Yi: ∀(ps:List (List aS×D)) (q:List (List aS)×List D),(q.1++ps.map (·.1)).Nodup->ps.foldl Z9 q=(q.1++ps.map (·.1),q.2++ps.map (·.2))
 | [],q,_=>by simp
 |p::ps,q,h=>by
  have a:p.1∉q.1:=λz=>by
   exact (HD.mp h).2.2 _ z _ ez rfl
  rw [E3]
  have e:Z9 q p=(q.1++[p.1],q.2++[p.2]):=by
   unfold Z9 Ye Yf;rw [jgg a];rfl
  rw [e,Yi ps _ (by simpa using h)];simp
def cn (a:List (Str×Nat)):D:= .ah (a.map λh=>hZ h.1 h.2)
structure Dw (hs:List (Str×Nat)):Prop where
 nm: ∀h∈hs,isNm (.str h.1)=true
 ar: ∀h∈hs,h.2<=3
 nd:hs.Nodup
 ln:hs.length<=60
def L7 {a:List (Str×Nat)} (ok:Dw a):bw [cn a]= .ok (.bl true):=by
 refine zM ?_;have c:ce [cn a]= .ok (.int a.length):=by show aj.ok (D.int ((a.map λh=>hZ h.1 h.2).length))=_;rw [cg]
 have g:a5 (ak (app (jb (ag 0) af) ce) (cI 60) pH) [.aa (cn a)]= .ok (decide ((60:Int)<a.length)):=jD (jh (qW (jc rfl rfl) c) rfl rfl);rw [decide_eq_false (by have:=ok.ln;omega)] at g;refine (jk ((ck (Zl (zp (jD (YG (x:=cn a) rfl rfl))) g)))).trans ?_
 have i:app (jb (zE false 1 [] (fh (ag 0)) (gN 0) qF (jn 1 gu (jb (ag 0) af))) af) mH [.aa (cn a)]= .ok (.bl true):=by
  refine qW (jc (XF (λ_=>D.bl true) (λd=> ∃h∈a,d=hZ h.1 h.2) rfl (we rfl rfl) (λd hd=>?_) ?_ (λd j hd=>?_)) rfl) ?_
  . obtain ⟨p,e,rfl⟩:=c4.mp hd;exact ⟨p,e,rfl⟩
  . rw [cg];have:=ok.ln;exact jp (by omega)
  . obtain ⟨p,e,rfl⟩:=hd;exact jA (jc rfl rfl) rfl (jjU (ok.nm p e) (by have:=ok.ar p e;omega))
  . have:=QZ (a.map λh=>hZ h.1 h.2) (λ_=>true);rw [this];simp
 exact jM ((Fl i).trans (jh (oA (.int a.length) (by
  exact jaE ok.nd (by have:=ok.ln;omega))) (qW (jc rfl rfl) c) (jgy _)))
theorem uN: ∀(a:List (Str×Nat)) (i:Nat),nP ((a.zipIdx i).map λq=>D.ap [hZ q.1.1 q.1.2,.int (q.2:Nat)])=some ((a.zipIdx i).map λq=>(mn q.1,D.int (q.2:Nat)))
 | [],i=>rfl
 |h::a,i=>by
  show (match j2 (hZ h.1 h.2),nP ((a.zipIdx (i+1)).map λq=>D.ap [hZ q.1.1 q.1.2,.int (q.2)]) with
   |some k,some q=>some ((k,D.int (i))::q)
   |_,_=>none)=_
  rw [uN a];rfl
theorem VU: ∀(a:List (Str×Nat)) (i:Nat),jN i (a.map λh=>hZ h.1 h.2)=(a.zipIdx i).map λq=>D.ap [.int (q.2:Nat),hZ q.1.1 q.1.2]
 | [],i=>rfl
 |h::a,i=>by
  rw [List.zipIdx_cons,fF,fF];show D.ap [.int (i),hZ h.1 h.2]::jN (i+1) (a.map λh=>hZ h.1 h.2)=_;rw [VU a]
def jdQ {c:List (Str×Nat)} (h:c.Nodup):WD [.ah ((c.zipIdx 0).map λq=>D.ap [hZ q.1.1 q.1.2,.int (q.2:Nat)])]= .ok (eL c):=by
 show (match nP ((c.zipIdx 0).map λq=>D.ap [hZ q.1.1 q.1.2,.int (q.2)]) with
  |some ps=>aj.ok (D.cJ (ps.foldl Z9 ([],[])).1 (ps.foldl Z9 ([],[])).2)
  |none=>aj.ai)=_
 rw [uN];dsimp only
 have e1:((c.zipIdx 0).map λq=>(mn q.1,D.int (q.2))).map (·.1)=c.map mn:=by
  rw [lG];have:=congrArg (tM mn) (List.zipIdx_map_fst 0 c);rw [lG] at this;exact this
 have e2:((c.zipIdx 0).map λq=>(mn q.1,D.int (q.2))).map (·.2)=(fK c.length).map λ(i:Nat)=>D.int i:=by
  rw [lG];have:=congrArg (tM λ(i:Nat)=>D.int i) (List.zipIdx_map_snd 0 c);rw [lG] at this;rw [L8];exact this
 have j:(c.map mn).Nodup:=wr.mpr (h.imp λ{a b} g e=>g (KZ e));rw [Yi _ _ (by rw [e1];simpa using j),e1,e2];simp [eL]
def jjQ {a:List (Str×Nat)} (ok:Dw a):bc (.obj "Ranks" [] []) [cn a]= .ok (.aW,bJ a):=by
 have c:a5 (jn 1 bw (jb (ag 1) af)) [.aw (.obj "Ranks" [] []),.aa (cn a)]= .ok true:=jD (jA (jc rfl rfl) rfl (L7 ok))
 have d:app (jb (zE false 2 [] (YR (ag 1)) (g2 (gN 0) (gN 1)) qF (aT (jb (ag 1) (jb (ag 0) af)))) af) WD [.aw (.obj "Ranks" [] []),.aa (cn a)]= .ok (eL a):=qW (jc (jdX (λq:(Str×Nat)×Nat=>(D.int (q.2),hZ q.1.1 q.1.2)) (λq=>D.ap [hZ q.1.1 q.1.2,.int (q.2)]) (λ_=>True) rfl (oA ((a.zipIdx 0).map λq=>D.ap [.int (q.2),hZ q.1.1 q.1.2]) (by
  rw [<-VU];exact Pk rfl)) (λ_ _=>trivial) (by rw [L9];have:=ok.ln;exact jp (by omega)) (λe g _=>xr (jc rfl (jc rfl rfl)) (jp (show 2<=20000 by decide)))) rfl) (jdQ ok.nd)
 have h:bM bw [.aw (.obj "Ranks" [] []),.aa (cn a)]= .ok (.nx [.aw (bJ a),.aa (cn a)]):=by
  have i:Bz (cj (a5 (jn 1 bw (jb (ag 1) af)))) X0 C2 [.aw (.obj "Ranks" [] []),.aa (cn a)]= .ok (.nx [.aw (.obj "Ranks" [] []),.aa (cn a)]):=by
   show (cj (a5 (jn 1 bw (jb (ag 1) af))) _>>=_)=_;rw [zp c];rfl
  show (Bz (cj (a5 (jn 1 bw (jb (ag 1) af)))) X0 C2 _>>=_)=_;rw [i];show (app (jb (zE false 2 [] (YR (ag 1)) (g2 (gN 0) (gN 1)) qF (aT (jb (ag 1) (jb (ag 0) af)))) af) WD [.aw (.obj "Ranks" [] []),.aa (cn a)]>>=_)=_;rw [d];rfl
 show a4 (([cn a]:List D).length=1) (bM bw [.aw (.obj "Ranks" [] []),.aa (cn a)]>>=_)=_;refine (jl (rfl)).trans ?_;rw [h];rfl
def PK {c:List (Str×Nat)} (ok:Dw c) {f:TB} {a:Sl} (h:f a= .ok [cn c]):wx "Ranks" 1 bc f a= .ok (bJ c):=Zy h rfl (jjQ ok)
section
variable {ns:List Str}
theorem VT: ∀(n:Nat) (d:D),dE d=true->gE d<=n->num d<=1000->bx n [d]= .ok (.ah (bh d))
 |0,d,_,h,_=>by have:=Nu d;omega
 |n+1,d,j,l,m=>by
  rw [Hq] at l;rw [Nt] at m
  have g:=ZL (body:=qm (gN 2) (zQ 1 (jn 1 (bx n) (jb (ag 2) af)))) (λa=>[.aa d,.aw (.ah a.1),a.2]) (λa e=>(a.1++bh e,.aa e)) (λds a=>bI ds=true/\cG ds<=n/\a.1.length+nums ds<=1000) (λe ds a ⟨i,o,p⟩=>by
   simp only [bI,eX] at i;simp only [cG] at o;simp only [nums] at p;have u:=J9 e;refine ⟨?_,i.2,by omega,by simp;omega⟩;show zQ 1 (jn 1 (bx n) (jb (ag 2) af)) [.aa d,.aw (.ah a.1),.aa e]=_;show (aj.ok a.1>>=λds=>bx n [e]>>=_)=_;rw [VT n e i.1 (by omega) (by omega)]
   exact jl (dw (by omega:_<=10000) (by decide))) (au d) ([d],.un) ⟨(JG j).1,by omega,by simp;omega⟩
  have c: ∀(ds:List D) (a),(ds.foldl (λa e=>(a.1++bh e,Slot.aa e)) a).1=a.1++eh ds:=by
   intro ds
   induction ds with
   |nil=>intro a;simp [eh]
   |cons d ds q=>intro a;rw [E3,q];simp [eh]
  have e1:hH aP (bx n) (j8 3 [d])= .ok (.rt true (.ah (bh d))):=by
   have r:hH aP (bx n) (j8 3 [d])=((aP [d]>>=Ek)>>=λds=>bn (qm (gN 2) (zQ 1 (jn 1 (bx n) (jb (ag 2) af)))) ds [.aa d,.aw (.ah [d]),.un])>>=pI (aM (vP 1)):=by
    unfold hH;rw [yq];show (ax _ _) _=_;rw [yq];rfl
   rw [r,Kx (Xu j)];show (bn _ (au d) _>>=_)=_;rw [g];rw [c,jhN];rfl
  exact yr e1
def Ma:D->Bool
 | .ap _=>true
 |_=>false
def PL {t:D} (h:tk ns t=true):j1 "tuple" t= .ok (.bl (Ma t)):=by
 rcases Js h with ⟨i,rfl⟩| ⟨z,a,rfl,_⟩<;>rfl
def jdm (l:List Hd) (x:Hd):(fW l x).length<=l.length+1:=by
 unfold fW;split<;>simp
def UA (z:Str) (a:List D):cm [.ap (.str z::a)]= .ok (b7 (z,(a.length:Int))):=by
 refine zM ?_;refine (jM ?_).trans rfl;refine xr (jc (jh rfl rfl Hr) (jc ?_ rfl)) (jp (show 2<=20000 by decide));refine jh (qW (jc rfl rfl) rfl) rfl ?_;simp
theorem Qh (t s:Slot): ∀(ds:List D) (l:List Hd) (u:Slot),(∀d∈ds,tk ns d=true)->l.length+ds.length<=2000-> ∃j,bn (qm (gN 3) (cT (a5 (cr "tuple" (ag 3))) (vA 1 (jn 1 cm (jb (ag 3) af)) (cB true)) cz)) ds [t,.aw (.cJ (l.map e9) (fX l)),s,u]= .ok (.nx [t,.aw (.cJ ((oF l (cy ds)).map e9) (fX (oF l (cy ds)))),s,j])
 | [],l,u,_,_=>⟨u,rfl⟩
 |d::ds,l,u,h,o=>by
  simp at o;have hd:=h d (by simp);have g:a5 (cr "tuple" (ag 3)) [t,.aw (.cJ (l.map e9) (fX l)),s,.aa d]= .ok (Ma d):=jD (by rw [Jk];exact PL hd);rcases Js hd with ⟨i,rfl⟩| ⟨z,a,rfl,_⟩
  . have c:qm (gN 3) (cT (a5 (cr "tuple" (ag 3))) (vA 1 (jn 1 cm (jb (ag 3) af)) (cB true)) cz) (.int i) [t,.aw (.cJ (l.map e9) (fX l)),s,u]= .ok (.nx [t,.aw (.cJ (l.map e9) (fX l)),s,.aa (.int i)]):=by
     rw [Q4 (env':=[t,.aw (.cJ (l.map e9) (fX l)),s,.aa (.int i)]) rfl,ck g];rfl
    obtain ⟨j,m⟩:=Qh t s ds l (.aa (.int i)) (λe n=>h e (by simp [n])) (by omega);exact ⟨j,by rw [qj c,m];rfl⟩
  . obtain ⟨p,q⟩:=jhM l (z,(a.length));have r:(l.map e9).length<aV:=by rw [cg];exact gT (by omega) tY
    have v:jn 1 cm (jb (ag 3) af) [t,.aw (.cJ (l.map e9) (fX l)),s,.aa (.ap (.str z::a))]= .ok (b7 (z,(a.length))):=jA (jc rfl rfl) rfl (UA z a)
    have c:qm (gN 3) (cT (a5 (cr "tuple" (ag 3))) (vA 1 (jn 1 cm (jb (ag 3) af)) (cB true)) cz) (.ap (.str z::a)) [t,.aw (.cJ (l.map e9) (fX l)),s,u]= .ok (.nx [t,.aw (.cJ ((fW l (z,(a.length))).map e9) (fX (fW l (z,(a.length))))),s,.aa (.ap (.str z::a))]):=by
     show (jn 1 cm (jb (ag 3) af) [t,.aw (.cJ (l.map e9) (fX l)),s,.aa (.ap (.str z::a))]>>=_)=_;rw [v];show a4 ((l.map e9).length<aV) (aj.ok (ba.nx [t,.aw (.cJ (Ye (l.map e9) (e9 (z,(a.length)))) (Yf (l.map e9) (fX l) (e9 (z,(a.length))) (.bl true))),s,.aa (.ap (.str z::a))]))=_;rw [jl r,p,q]
    have:=jdm l (z,(a.length));obtain ⟨j,m⟩:=Qh t s ds (fW l (z,(a.length))) (.aa (.ap (.str z::a))) (λe n=>h e (by simp [n])) (by omega);exact ⟨j,by rw [qj c,m];rfl⟩
end
def Uy {l:List Hd} {a x:Hd} (h:x∈l\/x=a):x∈fW l a:=by
 unfold fW
 split
 . rcases h with h|h
   . exact h
   . rw [h];assumption
 . rcases h with h|h
   . exact ut _ h
   . rw [h];simp
theorem Xn: ∀ {a l:List Hd} {x:Hd},x∈l\/x∈a->x∈oF l a
 | [],l,x,h=>h.elim id λz=>by cases z
 |y::a,l,x,h=>by
  refine Xn (l:=fW l y) ?_;rcases h with h|h
  . exact .inl (Uy (.inl h))
  . rcases dk.mp h with h|h
    . exact .inl (Uy (.inr h))
    . exact .inr h
def iz {l:List Hd} {a:Hd}:a∈x5 l↔a∈l:=(zK l).mem_iff
theorem PM: ∀a b:List D,cy (a++b)=cy a++cy b
 | [],b=>rfl
 |d::r,b=>by
  have c:=PM r b
  cases d with
  |ap e=>cases e with
   |nil=>simpa [cy] using c
   |cons x e=>cases x<;>simp [cy,c]
  |_=>simp [cy,c]
theorem UB: ∀ {c:List D} {a:Hd},a∈cy (eh c)↔ ∃t∈c,a∈cy (bh t)
 | [],a=>by simp [eh,cy]
 |d::r,a=>by
  simp only [eh,PM,i3,UB,dk,exists_eq_or_imp]
def jfx (z:Str) (a:List D):bh (.ap (.str z::a))= .ap (.str z::a)::eh a:=by simp only [bh]
def Xb (z:Str) (a:List D):num (.ap (.str z::a))=1+nums a:=by simp only [num]
def QR (z:Str) (a:List D):gE (.ap (.str z::a))=1+cG a:=by simp only [gE]
def iA {z:Str} {c:List D} {a:Hd}:a∈cy (bh (.ap (.str z::c)))↔a=(z,(c.length:Int))\/ ∃t∈c,a∈cy (bh t):=by
 rw [jfx,NS,dk,UB]
noncomputable def nN:Nat->Nat
 |0=>1
 |n+1=>1+3*nN n
theorem jjM: ∀n,1<=nN n
 |0=>bf _
 |n+1=>by show 1<=1+_;omega
structure Is (ns:List Str) (hs:List Hd) (n:Nat) (t:D):Prop where
 tk:tk ns t=true
 gE:gE t<=n+1
 num:num t<=nN n
 hd: ∀a∈cy (bh t),a∈hs
noncomputable def cw (a:List (Str×Nat)):List Hd:=a.map λh=>(h.1,(h.2:Int))
theorem Dy {q:List Str} {m:List (Str×Nat)} (r: ∀h∈m,h.1∈q/\h.2<=3): ∀(n:Nat) (t:Tr),Tn m n t->Is q (cw m) n t.d
 |n,.bk i,h=>by
  refine ⟨rfl,?_,?_,?_⟩
  . simp [Tr.d,gE]
  . simp [Tr.d,num];exact jjM n
  . intro b g;simp [Tr.d,bh,cy] at g
 |0,.nd x l,h=>by
  cases (h.no);have j:=h.hd rfl;rw [Tr.di];refine ⟨EF (r _ j).1 (by simp) (by simp),?_,?_,?_⟩
  . rw [QR];simp [cG]
  . rw [Xb];simp [nums,nN]
  . intro b g;rcases iA.mp g with e| ⟨t,c,_⟩
    . rw [e];exact c4.mpr ⟨_,j,rfl⟩
    . simp at c
 |n+1,.nd x l,h=>by
  have j:=h.hd rfl
  have o: ∀d∈l.map Tr.d,Is q (cw m) n d:=λd hd=>by
    obtain ⟨p,u,rfl⟩:=c4.mp hd;exact Dy r n p (h.pU p u)
  have a:=r _ j;have v:(l.map Tr.d).length<=3:=by rw [cg];exact a.2
  rw [Tr.di];refine ⟨EF a.1 (by omega) λt c=>(o t c).tk,?_,?_,?_⟩
  . rw [QR];have:=K2 λt c=>(o t c).gE
    omega
  . rw [Xb];have w:=NP λt c=>(o t c).num
    have y:=IV (nN n) v;show _<=1+3*nN n;omega
  . intro b g;rcases iA.mp g with e| ⟨t,c,g⟩
    . rw [e,cg];exact c4.mpr ⟨_,j,rfl⟩
    . exact (o t c).hd b g
def jhC (a:List (Str×Nat)):eL a= .cJ ((cw a).map e9) ((fK a.length).map λ(i:Nat)=>D.int i):=by
 unfold eL cw;rw [lG];rfl
def jil (c:List (Str×Nat)) (a:Hd):pQ (b7 a) (eL c)= .ok (.bl (!decide (a∈cw c))):=by
 rw [jhC];show aj.ok (D.bl (!ka ((cw c).map e9) (e9 a)))=_;rw [NV]
def UV (l:List D) (k:Nat):cutD l (some (k:Int)) none=l.drop k:=by
 unfold cutD;rw [HT.jJ,HT.gY]
 by_cases h:k<=l.length
 . rw [Nat.min_eq_left h];exact BC (by simp)
 . rw [Nat.min_eq_right (by omega),HV (bf _),HV (by omega)];simp
def Fm {l:List D} {k:Nat} {x:D} (h:l[k]?=some x):aX (.ap l) (.int (k:Int))= .ok x:=by
 simp only [aX];rw [M.eA,h]
noncomputable def fD (a:List (Str×Nat)) (S T:Tr):D:= .obj "Reckoning" ["rank", "ways"] [eL a,.mem (nR S T) (Fb (c7 a))]
def Jb (t:Tr):aP [t.d]= .ok (.ap (t.au.map Tr.d)):=by
 cases t with
 |bk i=>rfl
 |nd x l=>rw [Tr.di,Kx rfl];rfl
def sX:Option (Str×Nat)->D
 |none=> .aW
 |some a=>b7 (a.1,(a.2:Int))
def Fn (t:Tr):cm [t.d]= .ok (sX t.hd):=by
 cases t with
 |bk i=>rfl
 |nd x l=>rw [Tr.di,UA,cg];rfl
def Fo (t:Tr):j1 "tuple" t.d= .ok (.bl t.hd.isSome):=by
 cases t with
 |bk i=>rfl
 |nd x l=>rw [Tr.di];rfl
theorem PN: ∀(a:List (Str×Nat)) (i:Nat) {h:Str×Nat},h∈a->mU (a.map mn) ((List.range' i a.length).map λ(j:Nat)=>D.int j) (mn h)=some (.int ((i+a.idxOf h:Nat):Int))
 | [],i,h,c=>by cases c
 |x::a,i,h,c=>by
  by_cases e:x=h
  . subst e;simp [mU,Fk,List.idxOf_cons]
  . have g:h∈a:=by
     rcases dk.mp c with z|z
     . exact (e z.symm).elim
     . exact z
    have m:=PN a (i+1) g;have l: ¬mn x=mn h:=λz=>e (KZ z)
    have n:(x==h)=false:=by simpa using e
    simp only [mU,fF,fb,Fk,AI,Al,l,decide_false] at m ⊢;rw [m,List.idxOf_cons,n];simp only [cond_false];congr 2;omega
def PP {a:List (Str×Nat)} {h:Str×Nat} (c:h∈a):nQ (eL a) (b7 (h.1,(h.2:Int)))= .ok (.int (c7 a h)):=by
 have e:=PN a 0 c;rw [<-L8,wp] at e
 show (match mU (a.map mn) ((fK a.length).map λ(j:Nat)=>D.int j) (mn h) with
  |some d=>aj.ok d
  |none=> .ai)=_
 rw [e];rfl
def Uq (w:Option WR):(wD w).md=!w.isSome:=by
 cases w with
 |none=>rfl
 |some w=>cases w<;>rfl
def Ur (w:Option WR):nj (wD w) .aW= .ok (.bl (!w.isSome)):=by
 show aj.ok (D.bl (wD w).md)=_;rw [Uq]
def PQ (w:Option WR):oG (wD w) .aW= .ok (.bl w.isSome):=by
 show aj.ok (D.bl (!(wD w).md))=_;rw [Uq,Bool.not_not]
def zq {e:List (Str×Nat)} {S T:Tr} {f:Tz} {h:TF} {g:TB} {c:Sl} {a b d:D} {m:Str} (i:(["rank", "ways"]:List Str).contains m=false) (j:h c= .ok (fD e S T)) (l:g c= .ok [a,b]) (n:f [fD e S T,a,b]= .ok d):qi "Reckoning" m 3 f h g c= .ok d:=jc3 j i l rfl n
section
variable {Y:List (Str×Nat)} {S T:Tr} {f:Tz} {N:Nat}
abbrev pB (f:Tz):Sl->aj ba:=cT (iU (a5 (ak (ag 4) (ag 2) eB)) (a5 (ak (qi "Reckoning" "way" 3 f (ag 0) (jb (ag 4) (jb (ag 2) af))) cN oG))) (aM (aT (jb (cS "part") (jb (ag 3) af)))) cz
theorem Yn {t:Tr} {S1:Slot} (hN:N<=100): ∀(l:List Tr) (j:Nat) (g m:Slot),(∀p∈l,Tn Y N p/\f [fD Y S T,p.d,t.d]= .ok (wD (way (c7 Y) p t)))->
  (∀i,(l.findIdx? λp=>decide (p=t)||gtB (c7 Y) p t)=some i->bn (qm (g2 (gN 3) (gN 4)) (pB f)) (jN j (l.map Tr.d)) [.aa (fD Y S T),S1,.aa t.d,g,m]= .ok (.rt true (wD (some (.part (j+i))))))/\
  ((l.findIdx? λp=>decide (p=t)||gtB (c7 Y) p t)=none-> ∃r u,bn (qm (g2 (gN 3) (gN 4)) (pB f)) (jN j (l.map Tr.d)) [.aa (fD Y S T),S1,.aa t.d,g,m]= .ok (.nx [.aa (fD Y S T),S1,.aa t.d,r,u]))
 | [],j,g,m,_=>⟨λi h=>by simp at h,λ_=>⟨g,m,rfl⟩⟩
 |p::l,j,g,m,h=>by
  obtain ⟨v,hw⟩:=h p ez;have o:=Yn (S1:=S1) hN l (j+1) (.aa (.int (j))) (.aa p.d) λq w=>h q (dZ _ w)
  have a:iU (a5 (ak (ag 4) (ag 2) eB)) (a5 (ak (qi "Reckoning" "way" 3 f (ag 0) (jb (ag 4) (jb (ag 2) af))) cN oG)) [.aa (fD Y S T),S1,.aa t.d,.aa (.int (j)),.aa p.d]= .ok (decide (p=t)||gtB (c7 Y) p t):=
   Zl (jD (jh rfl rfl (Fa hN v))) (jD (jh (zq (by decide) rfl (jc rfl (jc rfl rfl)) hw) rfl (PQ _)))
  have step:bn (qm (g2 (gN 3) (gN 4)) (pB f)) (jN j ((p::l).map Tr.d)) [.aa (fD Y S T),S1,.aa t.d,g,m]=bn (qm (g2 (gN 3) (gN 4)) (pB f)) (.ap [.int (j),p.d]::jN (j+1) (l.map Tr.d)) [.aa (fD Y S T),S1,.aa t.d,g,m]:=rfl;rw [step,IQ]
  cases c:(decide (p=t)||gtB (c7 Y) p t) with
  |true=>
   rw [c] at a;refine ⟨λi e=>?_,λe=>by simp at e⟩;simp at e;subst e;refine Xs ?_;exact (en a).trans (jM (xr (jc rfl (jc rfl rfl)) (jp (show 2<=20000 by decide))))
  |false=>
   rw [c] at a
   have go:qm (g2 (gN 3) (gN 4)) (pB f) (.ap [.int (j),p.d]) [.aa (fD Y S T),S1,.aa t.d,g,m]= .ok (.nx [.aa (fD Y S T),S1,.aa t.d,.aa (.int (j)),.aa p.d]):=by
     exact (ck a).trans rfl
   rw [qj go];simp only [nY,if_false];refine ⟨λi e=>?_,λe=>?_⟩
   . rw [vN] at e;obtain ⟨n,e1,rfl⟩:=e;rw [o.1 n e1,show j+1+n=j+(n+1) by omega]
   . rw [Option.map_eq_none_iff] at e;exact o.2 e
def jd7 (hN:N<=100) {s t:Tr} (h: ∀p∈s.au,Tn Y N p/\f [fD Y S T,p.d,t.d]= .ok (wD (way (c7 Y) p t))):bT f [fD Y S T,s.d,t.d]= .ok (wD (iI (gtB (c7 Y)) s t)):=by
 have L:=Yn (S1:= .aa s.d) hN s.au 0 .un .un h
 have a:CZ (jn 1 aP (jb (ag 1) af)) [.aa (fD Y S T),.aa s.d,.aa t.d,.un,.un]= .ok (jN 0 (s.au.map Tr.d)):=by
  have e:jn 1 aP (jb (ag 1) af) [.aa (fD Y S T),.aa s.d,.aa t.d,.un,.un]= .ok (.ap (s.au.map Tr.d)):=jA (jc rfl rfl) rfl (Jb s);unfold CZ;rw [e];rfl
 refine zM ?_;unfold bS iI
 cases c:(s.au.findIdx? λp=>decide (p=t)||gtB (c7 Y) p t) with
 |some i=>
  have:=L.1 i c;rw [wp] at this;exact zg ((x0 a).trans this)
 |none=>
  obtain ⟨g,j,e⟩:=L.2 c;exact (jk ((x0 a).trans e)).trans (jM rfl)
theorem XM {body:D->Sl->aj ba} (E:Slot->Sl) (g:Tr->Bool): ∀(l:List Tr) (u:Slot),(∀p∈l,∀u,body p.d (E u)=if g p=true then .ok (.nx (E (.aa p.d))) else .ok (.rt true .aW))->
  (l.all g=true-> ∃v,bn body (l.map Tr.d) (E u)= .ok (.nx (E v)))/\(l.all g=false->bn body (l.map Tr.d) (E u)= .ok (.rt true .aW))
 | [],u,_=>⟨λ_=>⟨u,rfl⟩,λh=>by simp at h⟩
 |p::l,u,h=>by
  have a:=h p ez u;rw [vO,fF]
  cases c:g p with
  |true=>
   rw [c,if_pos rfl] at a;rw [qj a,Bool.true_and];exact (XM E g l (.aa p.d) λq e=>h q (dZ _ e))
  |false=>
   rw [c,if_neg h8] at a;exact ⟨λz=>by simp at z,λ_=>Xs a⟩
def jd8 {s t:Tr} (n: ∀a,s.hd=some a->a∈Y) (o: ∀a,t.hd=some a->a∈Y) (h: ∀p∈t.au,f [fD Y S T,s.d,p.d]= .ok (wD (way (c7 Y) s p))):bV f [fD Y S T,s.d,t.d]= .ok (wD (iH (c7 Y) (gtB (c7 Y)) s t)):=by
 refine zM ?_;unfold bU iH;have i:iU (cj (a5 (cr "tuple" (ag 1)))) (cj (a5 (cr "tuple" (ag 2)))) [.aa (fD Y S T),.aa s.d,.aa t.d,.un]= .ok (!s.hd.isSome||!t.hd.isSome):=Zl (zp (jD (YG rfl (Fo s)))) (zp (jD (YG rfl (Fo t))))
 have no:(!s.hd.isSome||!t.hd.isSome)=true->rl (c7 Y) s t=false:=λz=>by
   cases e:rl (c7 Y) s t with
   |false=>rfl
   |true=>
    obtain ⟨a,b,e1,e2,_⟩:=Qv _ e;rw [e1,e2] at z;cases z
 cases c0:(!s.hd.isSome||!t.hd.isSome) with
 |true=>
   rw [c0] at i;rw [if_neg (λz=>h8 ((no c0).symm.trans z.1))];exact zg ((en i).trans (jM rfl))
 |false=>
 rw [c0] at i
 obtain ⟨a,b,j,l⟩: ∃a b,s.hd=some a/\t.hd=some b:=by
   cases e1:s.hd with
   |none=>rw [e1] at c0;cases c0
   |some a=>
    cases e2:t.hd with
    |none=>rw [e1,e2] at c0;cases c0
    |some b=>exact ⟨a,b,rfl,rfl⟩
 refine (jk ((ck i))).trans ?_;have q:=Fn s;have r:=Fn t;rw [j] at q;rw [l] at r
 have g:a5 (ak (ak (fY "Reckoning" "rank" (i6 0)) (jn 1 cm (jb (ag 1) af)) nQ) (ak (fY "Reckoning" "rank" (i6 0)) (jn 1 cm (jb (ag 2) af)) nQ) Nn) [.aa (fD Y S T),.aa s.d,.aa t.d,.un]= .ok (decide ((c7 Y a:Int)>=c7 Y b)):=
   jD (jh (jh rfl (jA (jc rfl rfl) rfl q) (PP (n a j))) (jh rfl (jA (jc rfl rfl) rfl r) (PP (o b l))) rfl)
 by_cases c:c7 Y a<c7 Y b
 . rw [decide_eq_false (by omega)] at g;have y:=IM (c7 Y) j l c;refine (jk ((ck g))).trans ?_
   have L:=XM (body:=qm (gN 3) (cT (a5 (ak (qi "Reckoning" "way" 3 f (ag 0) (jb (ag 1) (jb (ag 3) af))) cN nj)) (aM cN) cz)) (λu=>[.aa (fD Y S T),.aa s.d,.aa t.d,u]) (gtB (c7 Y) s) t.au .un (λp B u=>by
    have m:a5 (ak (qi "Reckoning" "way" 3 f (ag 0) (jb (ag 1) (jb (ag 3) af))) cN nj) [.aa (fD Y S T),.aa s.d,.aa t.d,.aa p.d]= .ok (!gtB (c7 Y) s p):=jD (jh (zq (by decide) rfl (jc rfl (jc rfl rfl)) (h p B)) rfl (Ur _))
    cases e:gtB (c7 Y) s p with
    |true=>rw [e] at m;exact (ck m).trans rfl
    |false=>rw [e] at m;exact (en m))
   have w:fh (jn 1 aP (jb (ag 2) af)) [.aa (fD Y S T),.aa s.d,.aa t.d,.un]= .ok (t.au.map Tr.d):=we (jA (jc rfl rfl) rfl (Jb t)) rfl
   cases a:t.au.all (gtB (c7 Y) s) with
   |true=>
    obtain ⟨v,e⟩:=L.1 a;rw [if_pos ⟨y,rfl⟩];exact (jk ((x0 w).trans e)).trans (jM (xr (jc rfl rfl) (jp (by decide))))
   |false=>
    rw [if_neg (λz=>h8 z.2)];exact zg ((x0 w).trans (L.2 a))
 . rw [decide_eq_true (by omega)] at g
   rw [if_neg (λz=>by
    obtain ⟨H,I,e1,e2,E⟩:=Qv _ z.1;rw [j] at e1;rw [l] at e2;cases e1;cases e2
    exact c E)]
   exact zg ((en g).trans (jM rfl))
noncomputable abbrev PR:Sl->aj Bool:=a5 (ak (ak (jn 1 aP (jb (ag 0) af)) (ag 2) aX) (ak (jn 1 aP (jb (ag 1) af)) (ag 2) aX) eB)
noncomputable abbrev PU:Sl->aj ba:=jB 2 (ak (ag 2) (cI 1) (ox λi j=>i+j))
def PV {s t a b:Tr} {i:Nat} (hN:N<=100) (c:s.au[i]?=some a) (e:t.au[i]?=some b) (g:Tn Y N a):PR [.aa s.d,.aa t.d,.aa (.int (i:Int))]= .ok (decide (a=b)):=by
 have e1:(s.au.map Tr.d)[i]?=some a.d:=by rw [jF,c];rfl
 have e2:(t.au.map Tr.d)[i]?=some b.d:=by rw [jF,e];rfl
 exact jD (jh (jh (jA (jc rfl rfl) rfl (Jb s)) rfl (Fm e1)) (jh (jA (jc rfl rfl) rfl (Jb t)) rfl (Fm e2)) (Fa hN g))
theorem PX {s t a b:Tr} {pre u v:List Tr} (hN:N<=100) (g:s.au=pre++a::u) (m:t.au=pre++b::v) (c:a≠b) (o: ∀p∈s.au,Tn Y N p): ∀(k n i:Nat),i+k=pre.length->k<n->za n PR PU [.aa s.d,.aa t.d,.aa (.int (i:Int))]= .ok (.nx [.aa s.d,.aa t.d,.aa (.int (pre.length:Int))])
 |k,0,i,_,h=>absurd h (BE _)
 |0,n+1,i,w,_=>by
  have q:i=pre.length:=by omega
  subst q;have j:s.au[pre.length]?=some a:=by rw [g];simp
  have r:t.au[pre.length]?=some b:=by rw [m];simp
  have e:=PV hN j r (o a (by rw [g];simp));rw [decide_eq_false c] at e;exact JZ e
 |k+1,n+1,i,w,z=>by
  have l:i<pre.length:=by omega
  have j:s.au[i]?=some pre[i]:=by rw [g,nz l,cH l]
  have r:t.au[i]?=some pre[i]:=by rw [m,nz l,cH l]
  have e:=PV hN j r (o _ (sI j));rw [decide_eq_true rfl] at e;have y:PU [.aa s.d,.aa t.d,.aa (.int (i))]= .ok (.nx [.aa s.d,.aa t.d,.aa (.int ((i+1):Int))]):=rfl;rw [Q1 e y];exact PX hN g m c o k n (i+1) (by omega) (by omega)
def jiM {s t a b:Tr} {pre u v:List Tr} (hN:N<=100) (e:s.au=pre++a::u) (g:t.au=pre++b::v) (c:a≠b) (h: ∀p∈s.au,Tn Y N p) (i:pre.length<64):dR [s.d,t.d]= .ok (.int (pre.length:Int)):=by
 refine Hs ?_;refine (jk (jq rfl)).trans ?_;refine (jk (PX hN e g c h pre.length 64 0 (by omega) i)).trans ?_;exact Kv rfl
def jjL (a:Str×Nat) (b:Option (Str×Nat)):mJ (sX (some a)) (sX b)= .ok (.bl (!decide (some a=b))):=by
 have e:gq (sX (some a)) (sX b)=decide (some a=b):=by
  cases b with
  |none=>rw [decide_eq_false (λz=>by cases z)];rfl
  |some b=>
  rw [NZ (by rfl) (by rfl)]
  by_cases h:a=b
  . rw [decide_eq_true (by rw [h]),decide_eq_true (by rw [h])]
  . rw [decide_eq_false (λz=>h ?_),decide_eq_false λz=>h (by cases z;rfl)];simp only [sX,b7,D.ap.injEq,rZ,D.str.injEq,D.int.injEq,and_true] at z;exact vl z.1 (by omega)
 unfold mJ;rw [e];refine jl (.inl ⟨rfl,?_,by simp [sX,b7,D.cp,D.du]⟩);cases b<;>rfl
def je9 {f:Tr->Tr->Bool} {s t:Tr} (h:s.hd=none):lU f s t=none:=by
 cases s with
 |bk i=>
  unfold lU
  split
  . simp [Tr.au]
  . rfl
 |nd x l=>cases h
def jgU (hN:N<=100) {s t:Tr} (hT:Tn Y N s) (hK: ∀p∈s.au,Tn Y N p) (h3:s.au.length<=60) (h: ∀p∈t.au,f [fD Y S T,s.d,p.d]= .ok (wD (way (c7 Y) s p))) (hh: ∀p∈s.au,∀q∈t.au,f [fD Y S T,p.d,q.d]= .ok (wD (way (c7 Y) p q))):bY f [fD Y S T,s.d,t.d]= .ok (wD (lU (gtB (c7 Y)) s t)):=by
 refine zM ?_
 cases c0:s.hd with
 |none=>
   have J:=Fo s;rw [c0] at J;rw [je9 c0]
   exact zg ((en (oA true (by
    show (cj (a5 (cr "tuple" (ag 1))) _>>=_)=_
    rw [zp (jD (YG rfl J))];rfl))).trans (jM rfl))
 |some hq=>
 have O:=Fn s;have Q:=Fo s;rw [c0] at O Q;unfold lU
 have i:iU (cj (a5 (cr "tuple" (ag 1)))) (iU (a5 (ak (jn 1 cm (jb (ag 1) af)) (jn 1 cm (jb (ag 2) af)) mJ)) (a5 (ak (ag 1) (ag 2) eB))) [.aa (fD Y S T),.aa s.d,.aa t.d,.un,.un]= .ok (!true|| (!decide (some hq=t.hd)||decide (s=t))):=
   Zl (zp (jD (YG rfl Q))) (Zl (jD (jh (jA (jc rfl rfl) rfl O) (jA (jc rfl rfl) rfl (Fn t)) (jjL _ _))) (jD (jh rfl rfl (Fa hN hT))))
 rw [<-c0] at i
 by_cases c:s.hd=t.hd/\s≠t
 . rw [decide_eq_true c.1,decide_eq_false c.2] at i;rw [if_pos c];have hl:=Tr.len_eq c.1;obtain ⟨pre,a,b,u,v,m,j,r,l⟩:=Xr hl λz=>c.2 (Tr.ext c0 c.1 z)
   have y:s.au[fu s.au t.au]?=some a:=by rw [l,m];simp
   have B:t.au[fu s.au t.au]?=some b:=by rw [l,j];simp
   have E:t.au.drop (fu s.au t.au+1)=v:=by rw [l,j];simp
   rw [y,B,E,l];rw [l] at y B E;simp only;have H:pre.length<64:=by rw [m,iE,fb] at h3;omega
   have ha:a∈s.au:=by rw [m];simp
   have hb:b∈t.au:=by rw [j];simp
   refine (jk ((ck i))).trans ?_;refine (jk (jq (jA (jc rfl (jc rfl rfl)) rfl (jiM hN m j r hK H)))).trans ?_;have e1:(s.au.map Tr.d)[pre.length]?=some a.d:=by rw [jF,y];rfl
   have e2:(t.au.map Tr.d)[pre.length]?=some b.d:=by rw [jF,B];rfl
   have n:a5 (ak (qi "Reckoning" "way" 3 f (ag 0) (jb (ak (jn 1 aP (jb (ag 1) af)) (ag 3) aX) (jb (ak (jn 1 aP (jb (ag 2) af)) (ag 3) aX) af))) cN nj) [.aa (fD Y S T),.aa s.d,.aa t.d,.aa (.int (pre.length)),.un]= .ok (!gtB (c7 Y) a b):=
    jD (jh (zq (by decide) rfl (jc (jh (jA (jc rfl rfl) rfl (Jb s)) rfl (Fm e1)) (jc (jh (jA (jc rfl rfl) rfl (Jb t)) rfl (Fm e2)) rfl)) (hh a ha b hb)) rfl (Ur _))
   cases g:gtB (c7 Y) a b with
   |false=>
    rw [g] at n;exact zg ((en n).trans (jM rfl))
   |true=>
    rw [g] at n;refine (jk ((ck n))).trans ?_
    have L:=XM (body:=qm (gN 4) (cT (a5 (ak (qi "Reckoning" "way" 3 f (ag 0) (jb (ag 1) (jb (ag 4) af))) cN nj)) (aM cN) cz)) (λw=>[.aa (fD Y S T),.aa s.d,.aa t.d,.aa (.int (pre.length)),w]) (gtB (c7 Y) s) v .un (λp hp w=>by
      have I:p∈t.au:=by rw [j];simp [hp]
      have o:a5 (ak (qi "Reckoning" "way" 3 f (ag 0) (jb (ag 1) (jb (ag 4) af))) cN nj) [.aa (fD Y S T),.aa s.d,.aa t.d,.aa (.int (pre.length)),.aa p.d]= .ok (!gtB (c7 Y) s p):=jD (jh (zq (by decide) rfl (jc rfl (jc rfl rfl)) (h p I)) rfl (Ur _))
      cases e:gtB (c7 Y) s p with
      |true=>rw [e] at o;exact (ck o).trans rfl
      |false=>rw [e] at o;exact (en o))
    have U:fh (zf (jn 1 aP (jb (ag 2) af)) (xt (ak (ag 3) (cI 1) cb)) JA oC) [.aa (fD Y S T),.aa s.d,.aa t.d,.aa (.int (pre.length)),.un]= .ok (v.map Tr.d):=by
      refine we (wO (jA (jc rfl rfl) rfl (Jb t)) (yH (jh rfl rfl rfl)) rfl rfl) ?_;show aj.ok (cutD (t.au.map Tr.d) (some ((pre.length+1:Nat):Int)) none)=_;rw [UV,<-Fp,E]
    cases Z:v.all (gtB (c7 Y) s) with
    |true=>
      obtain ⟨w,e⟩:=L.1 Z;exact (jk ((x0 U).trans e)).trans (jM (xr (jc rfl (jc rfl rfl)) (jp (show 2<=20000 by decide))))
    |false=>
      exact zg ((x0 U).trans (L.2 Z))
 . rw [if_neg c]
   have:(!true|| (!decide (s.hd=t.hd)||decide (s=t)))=true:=by
    by_cases e:s.hd=t.hd
    . by_cases e2:s=t
      . rw [decide_eq_true e2];simp
      . exact (c ⟨e,e2⟩).elim
    . rw [decide_eq_false e];rfl
   rw [this] at i;exact zg ((en i).trans (jM rfl))
def PY {e g:TF} {a:Sl} {c h:Option WR} (i:e a= .ok (wD c)) (j:g a= .ok (wD h)):Di e g a= .ok (wD (c.or h)):=by
 unfold Di;rw [i,Qo,jhh,Qo]
 cases c with
 |none=>exact j
 |some w=>rfl
def jc4 {c n:Str} {i j:Nat} {e:TF} {a:Sl} {o m g d:D} {r:ba} (h:ag i a= .ok o) (l:r6 c n o= .ok m) (p:ag j a= .ok g) (q:e a= .ok d) (u:ml m g d= .ok r):o4 c n i j e a= .ok r:=by
 unfold o4;rw [h,Qo,l,Qo,p,Qo,q,Qo,u]
theorem tZ (hN:N<=6) (B: ∀h∈Y,h.2<=3): ∀(n x y:Nat) (s t:Tr),s∈S.ps->t∈T.ps->Tn Y x s->Tn Y y t->x<=N->y<=N->x+y<n->az n [fD Y S T,s.d,t.d]= .ok (wD (way (c7 Y) s t))
 |0,x,y,s,t,_,_,_,_,_,_,h=>absurd h (BE _)
 |n+1,x,y,s,t,g,j,m,o,H,I,hz=>by
  have r:=m.le H;have J:=o.le I
  have lo: ∀ {z:Nat} {q:Tr},Tn Y z q-> ∀p∈q.au,∃w,z=w+1/\Tn Y w p:=λ{z q} u p e=>by
   cases z with
   |zero=>rw [u.no] at e;cases e
   |succ w=>exact ⟨w,rfl,u.pU p e⟩
  have L: ∀p∈t.au,az n [fD Y S T,s.d,p.d]= .ok (wD (way (c7 Y) s p)):=λp e=>by
   obtain ⟨w,rfl,hw⟩:=lo o p e;exact tZ hN B n x w s p g (QL T t j p (Yk e p (Qa p))) m hw H (by omega) (by omega)
  have ks: ∀p∈s.au,Tn Y N p/\az n [fD Y S T,p.d,t.d]= .ok (wD (way (c7 Y) p t)):=λp e=>by
   obtain ⟨w,rfl,hw⟩:=lo m p e;exact ⟨r.Pe p e,tZ hN B n w y p t (QL S s g p (Yk e p (Qa p))) j hw o (by omega) I (by omega)⟩
  have O: ∀p∈s.au,∀q∈t.au,az n [fD Y S T,p.d,q.d]= .ok (wD (way (c7 Y) p q)):=λp e q u=>by
   obtain ⟨w,rfl,hw⟩:=lo m p e;obtain ⟨v,rfl,Q⟩:=lo o q u;exact tZ hN B n w v p q (QL S s g p (Yk e p (Qa p))) (QL T t j q (Yk u q (Qa q))) hw Q (by omega) (by omega) (by omega)
  have U:s.au.length<=60:=by
   cases c:s.hd with
   |none=>
    cases s with
    |bk i=>simp [Tr.au]
    |nd x l=>cases c
   |some a=>
    have:=B _ (r.hd c);rw [Tr.AZ c] at this;omega
  have E:eS (.ap [s.d,t.d])=some (.ap [s.k,t.k]):=by
   simp only [eS,fZ,Tr.A0]
  have Z:(NK.ap [s.k,t.k]).cp<=8:=by
   simp only [NK.cp,NK.du];have:=K0 r;have:=K0 J;omega
  refine zM ?_;have pr:aT (jb (ag 1) (jb (ag 2) af)) [.aa (fD Y S T),.aa s.d,.aa t.d,.un]= .ok (.ap [s.d,t.d]):=xr (jc rfl (jc rfl rfl)) (jp (show 2<=20000 by decide));refine (jk (jq pr)).trans ?_;rw [vX];refine jc4 rfl rfl rfl (PY (zq (by decide) rfl (jc rfl (jc rfl rfl)) (jd7 (by omega) ks)) (PY (zq (by decide) rfl (jc rfl (jc rfl rfl)) (jd8 (λ_=>r.hd) (λ_=>J.hd) L)) (zq (by decide) rfl (jc rfl (jc rfl rfl)) (jgU (by omega) r (λp e=>r.Pe p e) U L O)))) ?_;refine jc5 E (jii _) (jcD g j) Z (jih _) λz=>?_
  rw [jfB,vX];rfl
end
section
variable {ns:List Str}
def YB {c:List D} (h:bI c=true) (n:c.length<=1000):bC [.ah c]= .ok (.ah (below c)):=by
 have j:=ZL (body:=qm (gN 2) (zQ 1 (jn 1 aP (jb (ag 2) af)))) (λa=>[.aa (.ah c),.aw (.ah a.1),a.2]) (λa d=>(a.1++au d,.aa d)) (λds a=>bI ds=true/\a.1.length+(below ds).length<=10000) (λd ds a ⟨i,l⟩=>by
  simp only [bI,eX] at i;have e:below (d::ds)=au d++below ds:=rfl;rw [e,iE] at l;refine ⟨?_,i.2,by simp only [iE];omega⟩;show zQ 1 (jn 1 aP (jb (ag 2) af)) [.aa (.ah c),.aw (.ah a.1),.aa d]=_;show (aj.ok a.1>>=λds=>aP [d]>>=_)=_;rw [Kx (Xu i.1)]
  exact jl (dw (by omega:_<=10000) (by decide))) c ([],.un) ⟨h,by have:=jb8 h;simp only [sG];omega⟩
 have g: ∀(ds:List D) (a),(ds.foldl (λa d=>(a.1++au d,Slot.aa d)) a).1=a.1++below ds:=by
  intro ds
  induction ds with
  |nil=>intro a;simp [below]
  |cons d ds m=>intro a;rw [E3,m];simp [below]
 have e1:eM aP (j8 3 [.ah c])= .ok (.rt true (.ah (below c))):=by
  have i:j8 3 [.ah c]=[.aa (.ah c),.un,.un]:=rfl;show (bn (qm (gN 2) (zQ 1 (jn 1 aP (jb (ag 2) af)))) c [.aa (.ah c),.aw (.ah []),.un]>>=_)=_;rw [j];show aj.ok (ba.rt true (D.ah (c.foldl (λa d=>(a.1++au d,Slot.aa d)) ([],.un)).1))=_;rw [g];simp
 exact yr e1
noncomputable def iB:Sl->aj ba:=(ax (jB 2 (ak (ag 2) (cI 1) (ox λi j=>i+j)))
 (ax (jB 3 (ak (ag 3) (app (jb (ag 1) af) ce) (ox λi j=>i+j)))
 (ax (cT (iU (a5 (ak (ag 2) (cI 60) pH)) (a5 (ak (ag 3) (cI 1000) pH))) (aM (cB true)) cz)
 (jB 1 (jn 1 bC (jb (ag 1) af))))))
def vv {d:D} {a:List D} {dp ct:Nat} (h:bI a=true):iB [.aa d,.aa (.ah a),.aa (.int dp),.aa (.int ct)]=if 60<dp+1\/1000<ct+a.length then .ok (.rt true (.bl true)) else .ok (.nx [.aa d,.aa (.ah (below a)),.aa (.int ((dp+1:Nat):Int)),.aa (.int ((ct+a.length:Nat):Int))]):=by
 have c:iB [.aa d,.aa (.ah a),.aa (.int dp),.aa (.int ct)]=((if decide ((60)< (dp:Int)+1)=true then aj.ok true else aj.ok (decide ((1000)< (ct:Int)+a.length)))>>=λb=>(if b=true then aj.ok (ba.rt true (.bl true)) else aj.ok (.nx [.aa d,.aa (.ah a),.aa (.int ((dp)+1)),.aa (.int ((ct)+a.length))])))>>=pI (jB 1 (jn 1 bC (jb (ag 1) af))):=by
   unfold iB;rw [yq,UH];show (ax _ _) _=_;rw [yq];rfl
 rw [c]
 by_cases e:60<dp+1
 . rw [if_pos (by simp;omega),if_pos (.inl e)];rfl
 . rw [if_neg (by simp;omega)]
   by_cases g:1000<ct+a.length
   . rw [if_pos (.inr g)];have:decide ((1000)< (ct:Int)+a.length)=true:=by simp;omega
     rw [this];rfl
   . rw [if_neg (by omega)];have:decide ((1000)< (ct:Int)+a.length)=false:=by simp;omega
     rw [this];show (bC [.ah a]>>=_)=_;rw [YB h (by omega)];simp
theorem Wy (d:D): ∀(n:Nat) (a:List D) (c e:Nat),bI a=true->c<=60->e<=1000->62<=c+n->
  ((60<c+cG a\/1000<e+nums a)->za n (rM (ag 1)) iB [.aa d,.aa (.ah a),.aa (.int c),.aa (.int e)]= .ok (.rt true (.bl true)))/\
  (¬(60<c+cG a\/1000<e+nums a)-> ∃i,za n (rM (ag 1)) iB [.aa d,.aa (.ah a),.aa (.int c),.aa (.int e)]= .ok (.nx i))
 |0,_,c,e,_,o,_,p=>by omega
 |n+1,a,c,e,j,o,p,v=>by
  cases a with
  |nil=>
   simp only [cG,nums];exact ⟨λh=>by omega,λ_=>⟨_,JZ rfl⟩⟩
  |cons x r=>
   have g:=vv (d:=d) (dp:=c) (ct:=e) j;have q:=vt (x::r) (by simp);have u:=k9 (x::r)
   by_cases l:60<c+1\/1000<e+(x::r).length
   . rw [if_pos l] at g;exact ⟨λ_=>vW rfl g,λh=>absurd (by omega) h⟩
   . rw [if_neg l] at g;have m:=Wy d n (below (x::r)) (c+1) (e+(x::r).length) (K6 j) (by omega) (by omega) (by omega);rw [Q1 rfl g,q,u]
     constructor
     . intro h;exact m.1 (by omega)
     . intro h;exact m.2 (by omega)
def iX (d:D):Bool:=decide (60<gE d\/1000<num d)
def gr1 {d:D} (h:dE d=true):dN [d]= .ok (.bl (iX d)):=by
 have a:=Wy d 2000 [d] 0 0 (by simp [bI,h]) (by omega) (by omega) (by omega);have e1:cG [d]=gE d:=by simp [cG]
 have e2:nums [d]=num d:=by simp [nums]
 rw [e1,e2] at a;simp only [wp] at a
 have e:fq bC (j8 4 [d])=(za 2000 (rM (ag 1)) iB [.aa d,.aa (.ah [d]),.aa (.int ((0:Nat):Int)),.aa (.int ((0:Nat):Int))]>>=pI (aM (cB false))):=by
   unfold fq;rw [yq];show (ax _ _) _=_;rw [yq];rfl
 by_cases c:60<gE d\/1000<num d
 . have:iX d=true:=by simp [iX,c]
   rw [this];refine yr (o:= .rt true (.bl true)) ?_;rw [e,a.1 c];rfl
 . have:iX d=false:=by simp [iX];omega
   rw [this];obtain ⟨g,i⟩:=a.2 c;refine yr (o:= .rt true (.bl false)) ?_;rw [e,i];rfl
def qT {c e:TF} {a:Sl} {i j:Int} (g:c a= .ok (.int i)) (h:e a= .ok (.int j)) (l:0<j):ak c e bG a= .ok (.int (i%j)):=jh g h (Nw l)
def jfV {e g:TF} {c:Sl} {i j:Int} {a b:Nat} (h:e c= .ok (.int i)) (l:g c= .ok (.int j)) (m:i.natAbs<2^a) (n:j.natAbs<2^b) (o:a+b<=134217728):ak e g pF c= .ok (.int (i*j)):=
 jh h l (Nv (dw (Nat.add_le_add (PySem.intBits_le_iff.mpr m) (PySem.intBits_le_iff.mpr n)) o))
def jg7 {c e:TF} {a:Sl} {i j:Int} (g:c a= .ok (.int i)) (h:e a= .ok (.int j)):ak c e cb a= .ok (.int (i+j)):=jh g h rfl
def Vk (z:Str) (a:List D):eD (.ap (.str z::a))=mL a:=by simp [eD]
def jfU {a b:Int}:mJ (.int a) (.int b)= .ok (.bl (!(a==b))):=jc1
noncomputable def o6 (l:List Int):List D:=l.map λ_=> .bl true
def jhL (l:List Int) (x:Int):Yg (kb l) (.inl x)=kb (ins l x)/\Yh (kb l) (o6 l) (.inl x) (.bl true)=o6 (ins l x):=by
 unfold Yg Yh ins;rw [jds]
 by_cases h:x∈l
 . simp only [h,decide_true,if_true,true_and];clear h
   induction l with
   |nil=>rfl
   |cons a l c=>
    simp only [kb,o6,fF,AI] at c ⊢;rw [c];simp
 . simp [h,kb,o6]
def PZ (l:List Int) (x:Int):(ins l x).length<=l.length+1:=by
 unfold ins;split<;>simp
def oN (t:D):List Int:=met [] (eI (bh t))
theorem Jn (t:Slot): ∀(ds:List D) (a:List Int) (u:Slot),(∀d∈ds,tk ns d=true)->a.length+ds.length<=2000-> ∃j,bn (qm (gN 2) (cT (cj (a5 (cr "tuple" (ag 2)))) (CN 1 (ag 2) (cB true)) cz)) ds [t,.aw (.dr (kb a) (o6 a)),u]= .ok (.nx [t,.aw (.dr (kb (met a (eI ds))) (o6 (met a (eI ds)))),j])
 | [],a,u,_,_=>⟨u,rfl⟩
 |d::ds,a,u,h,o=>by
  simp only [fb] at o;have hd:=h d (by simp);have g:cj (a5 (cr "tuple" (ag 2))) [t,.aw (.dr (kb a) (o6 a)),.aa d]= .ok (!Ma d):=zp (jD (by rw [Jk];exact PL hd));rcases Js hd with ⟨i,rfl⟩| ⟨z,l,rfl,_⟩
  . obtain ⟨p,q⟩:=jhL a i;have r:(kb a).length<aV:=by rw [jf5];exact gT (by omega) tY
    have c:qm (gN 2) (cT (cj (a5 (cr "tuple" (ag 2)))) (CN 1 (ag 2) (cB true)) cz) (.int i) [t,.aw (.dr (kb a) (o6 a)),u]= .ok (.nx [t,.aw (.dr (kb (ins a i)) (o6 (ins a i))),.aa (.int i)]):=by
     show a4 ((kb a).length<aV) (aj.ok (ba.nx [t,.aw (.dr (Yg (kb a) (.inl i)) (Yh (kb a) (o6 a) (.inl i) (.bl true))),.aa (.int i)]))=_;rw [jl r,p,q]
    have:=PZ a i;obtain ⟨j,m⟩:=Jn t ds (ins a i) (.aa (.int i)) (λe n=>h e (by simp [n])) (by omega);exact ⟨j,by rw [qj c,m];rfl⟩
  . have c:qm (gN 2) (cT (cj (a5 (cr "tuple" (ag 2)))) (CN 1 (ag 2) (cB true)) cz) (.ap (.str z::l)) [t,.aw (.dr (kb a) (o6 a)),u]= .ok (.nx [t,.aw (.dr (kb a) (o6 a)),.aa (.ap (.str z::l))]):=by
     rw [Q4 (env':=[t,.aw (.dr (kb a) (o6 a)),.aa (.ap (.str z::l))]) rfl,ck g];rfl
    obtain ⟨j,m⟩:=Jn t ds a (.aa (.ap (.str z::l))) (λe n=>h e (by simp [n])) (by omega);exact ⟨j,by rw [qj c,m];rfl⟩
def P0 {t:D} (c:tk ns t=true) (g:gE t<=64) (h:num t<=1000):k4 [t]= .ok (.ah ((oN t).map .int)):=by
 have i:=VT 64 t (K7 t c) g h;have e:=J9 t;obtain ⟨u,j⟩:=Jn (.aa t) (bh t) [] .un (VL t c) (by simp only [sG];omega);have a:fh (jn 1 (bx 64) (jb (ag 0) af)) [.aa t,.aw (.dr [] []),.un]= .ok (bh t):=we (jA (jc rfl rfl) rfl i) rfl;refine zM ?_;unfold kH;rw [jk (env':=[.aa t,.aw (.dr [] []),.un]) rfl];rw [jk ((x0 a).trans j)];show aM (app (jb (ag 1) af) Eu) [.aa t,.aa (.dr (kb (oN t)) (o6 (oN t))),u]=_;refine jM (qW (jc rfl rfl) ?_);show a4 _ _=_;simp [kb,kD,HC]
def nV:D->Bool
 | .ap (x::r)=>decide (r.length+1<=10)&&isNm x
 | .int i=>decide (0<=i)&&decide (i<=999)
 |_=>false
def jhU {d:D} (h:dE d=true):dP [d]= .ok (.bl (nV d)):=by
 cases d with
 |ap ds=>
  cases ds with
  |nil=>rfl
  |cons x r=>
   have c:dE x=true:=by
    simp only [dE,bI,eX] at h;exact h.2.1
   have e:decide ((1)<=((x::r).length:Int))=true:=by simp only [fb,decide_eq_true_eq];omega
   have hd:decide (((x::r).length:Int)<=9+1)=decide (r.length+1<=10):=by simp only [fb];rw [decide_eq_decide];omega
   have g:j1 "tuple" (.ap (x::r))= .ok (.bl true):=rfl;have j:ce [.ap (x::r)]= .ok (.int ((x::r).length:Int)):=rfl;have l:cb (.int 9) (.int 1)= .ok (.int (9+1)):=rfl;have m:j8 1 [.ap (x::r)]=[.aa (.ap (x::r))]:=rfl
   have a:dO c9 c8 (j8 1 [.ap (x::r)])= .ok (.rt true (.bl (decide (r.length+1<=10)&&isNm x))):=by
    simp only [dO,m,g,j,l,yq,YN,UK,Jk,Hk,YO,JI,K9,xS,UG,Hi,Hm,ZO,Hh,KH,L4,Vp,if_true,QX,U0,Nr,jhj,e,hd,UJ,Hr,jgq,Gr,Pz (Xu c)];cases decide (r.length+1<=10)<;>rfl
   exact yr a
 |int i=>
  have a:c9 [.int i]= .ok (.bl (decide (0<=i)&&decide (i<=999))):=by
   have e1:fw dM (j8 1 [.int i])= .ok (.rt true (.bl (decide (0<=i)&&decide (i<=999)))):=by
    unfold fw;rw [ZO,Nr,QX];show ((aj.ok (D.bl (decide ((0)<=i)))>>=Hl (cI 999 (j8 1 [.int i])) pG (.int i))>>=_)=_;rw [xS,U0];cases decide (0<=i)<;>rfl
   exact yr e1
  have e2:dO c9 c8 (j8 1 [.int i])=(c9 [.int i]>>=λd=> .ok (.rt true d)):=rfl;rw [a] at e2;exact yr e2
 |_=>first|rfl|cases h
def jhg {d:D} (h:dE d=true):gv [d]= .ok (.bl (!iX d&&(bh d).all nV)):=by
 have e1:ip dN dP (bx 64) (j8 1 [d])= .ok (.rt true (.bl (!iX d&&(bh d).all nV))):=by
  show (((dN [d]>>=Cj)>>=_)>>=_)=_;rw [gr1 h];show (toK _ true (.bl (!iX d))>>=_)=_
  cases g:iX d with
  |true=>rfl
  |false=>
   simp only [iX,decide_eq_false_iff_not] at g;have i:=VT 64 d h (by omega) (by omega);have l:=J9 d
   have a:zE false 1 [] (fh (jn 1 (bx 64) (jb (ag 0) af))) (gN 0) qF (jn 1 dP (jb (ag 0) af)) (j8 1 [d])= .ok (.ah ((bh d).map λd=>D.bl (nV d))):=by
    refine Hg _ (λd=>dE d=true) ?_ (λe c=>xx (VM d h) c) (dw (by omega:_<=1000) (by decide)) ?_
    . show (bx 64 [d]>>=_)=_;rw [i];rfl
    . intro e j c;exact jhU c
   rw [YO,JI,a];show (mH [.ah ((bh d).map λd=>D.bl (nV d))]>>=_)=_;rw [QZ];rfl
 exact yr e1
def Uv: ∀t,tk ns t=true->eI (bh t)=eD t:=WL (λi=>by simp [bh,eI,eD]) λz e _ _ h=>by
 have: ∀a:List D,(∀u∈a,eI (bh u)=eD u)->eI (eh a)=mL a:=λa=>by
  induction a with
  |nil=>intro _;simp [eh,eI,mL]
  |cons d r g=>
   intro h;rw [eh,Xl,h d (by simp),g λu c=>h u (by simp [c])];simp [mL]
 rw [Vk,<-this e λu c=>(h u c).2];simp [bh,eI]
def jh5 (j: ∀z∈ns,isNm (.str z)=true) {t:D} (g:tk ns t=true) (l: ∀x∈eD t,0<=x/\x<=999):(bh t).all nV=true:=by
 rw [lI];intro p h;have c:=VL t g p h;rcases Js c with ⟨i,rfl⟩| ⟨z,n,rfl,m,o,_⟩
 . have:i∈eI (bh t):=by
    obtain ⟨a,b,e⟩:=List.append_of_mem h;rw [e,Xl];simp [eI]
   rw [Uv t g] at this;have:=l i this;simp [nV,this]
 . simp only [nV,eX,decide_eq_true_eq];exact ⟨by omega,j z m⟩
def Uo (c: ∀z∈ns,isNm (.str z)=true) {t:D} (a:tk ns t=true) (g:gE t<=60) (h:num t<=1000) (e: ∀x∈eD t,0<=x/\x<=999):gv [t]= .ok (.bl true):=by
 rw [jhg (K7 t a),jh5 c a e];have:iX t=false:=by simp only [iX,decide_eq_false_iff_not];omega
 rw [this];rfl
theorem P1: ∀(c l:List Int),l.Nodup->(met l c).Nodup
 | [],l,h=>h
 |x::c,l,h=>by
  refine P1 c _ ?_;unfold ins
  split
  . exact h
  . rename_i g;rw [HD];exact ⟨h,by simp,λa i b e=>by simp at e;subst e;rintro rfl;exact g i⟩
def ji0 (l:List Int):(dd l).length<=l.length:=by
 exact PyProof.Rows.firstMet_length_le _ _
def Z0 {t:D} (h:tk ns t=true) (x:Int):x∈oN t↔x∈eD t:=by unfold oN;rw [NQ,Uv t h];simp
def i01 (a b:D):ak (ag 0) (cI 0) aX [.aa (.ap [a,b])]= .ok a/\ak (ag 0) (cI 1) aX [.aa (.ap [a,b])]= .ok b:=⟨jh rfl rfl Hr,jh rfl rfl (IX _ _ _)⟩
def jcv (p: ∀z∈ns,isNm (.str z)=true) {l r:D} (c:tk ns l=true) (e:tk ns r=true) (lt: ∃z q,l= .ap (.str z::q)) (y:gE l<=60) (B:gE r<=60) (u:num l<=1000) (v:num r<=1000) (E: ∀x∈eD l,0<=x/\x<=999) (H: ∀x∈eD r,0<=x/\x<=999)
  (sK:(dd (oN r)).length/4<=(dd (oN l)).length) (N:(oN r).length<=1000) (O:(oN l).length<=1000):gw [.ap [l,r]]= .ok (.bl (decide (∀i∈eD r,i∈eD l))):=by
 have g:=Uo p c y u E;have j:=Uo p e B v H;obtain ⟨z,q,de⟩:=lt;have m:j1 "tuple" l= .ok (.bl true):=by rw [de];rfl
 have I:=P0 c (by omega) u;have J:=P0 e (by omega) v;obtain ⟨n,w⟩:=i01 l r;have L:xg=4096:=rfl
 have a:pR (.ah ((oN r).map .int)) (.ah ((oN l).map .int))= .ok (.bl (decide (∀i∈eD r,i∈eD l))):=by
  unfold pR;simp only [jaV];rw [jl ⟨by omega,by omega,by omega⟩];congr 2;refine decide_eq_decide.mpr ⟨λh i o=>(Z0 c i).mp (h i ((Z0 e i).mpr o)),λh i o=>(Z0 c i).mpr (h i ((Z0 e i).mp o))⟩
 refine zM ?_;unfold iq;rw [jk ((ck (Zl (zp (jD (b:=true) rfl)) (jD (jh (qW (jc rfl rfl) rfl) rfl jfU)))))];refine (jk ((ck (Zl (zp (jD (jA (jc n rfl) rfl g))) (Zl (zp (jD (jA (jc w rfl) rfl j))) (zp (oA true (jD (by rw [Jk,n];exact m))))))))).trans ?_;exact jM (jh (jA (jc w rfl) rfl J) (jA (jc n rfl) rfl I) a)
def P2 {z:Str} (h:isNm (.str z)=true):z.length<=8:=by
 rw [Xk] at h;simp only [eX,decide_eq_true_eq] at h;omega
def t3 (ns:List Str) (l:List Hd):Prop:=l.Nodup/\ ∀x∈l,x.1∈ns/\0<=x.2/\x.2<=9
def jdr {l:List Hd} {ds:List D} (h:t3 ns l) (hd: ∀d∈ds,tk ns d=true):t3 ns (oF l (cy ds)):=
 ⟨NU h.1,λx a=>(Xm a).elim (h.2 x) λz=>NT hd x z⟩
theorem YL (j:ns.length<=7) (T:Slot): ∀(g:List D) (l:List Hd) (s u:Slot),(∀t∈g,tk ns t=true/\gE t<=64/\num t<=1000)->t3 ns l-> ∃c m n,t3 ns c/\(∀x,x∈c↔x∈l\/ ∃t∈g,x∈cy (bh t))/\
  bn (qm (gN 2) (dz (fh (jn 1 (bx 64) (jb (ag 2) af))) (gN 3) (cT (a5 (cr "tuple" (ag 3))) (vA 1 (jn 1 cm (jb (ag 3) af)) (cB true)) cz))) g [T,.aw (.cJ (l.map e9) (fX l)),s,u]= .ok (.nx [T,.aw (.cJ (c.map e9) (fX c)),m,n])
 | [],l,s,u,_,i=>⟨l,s,u,i,λx=>⟨.inl,λh=>h.elim id λ⟨_,h,_⟩=>by cases h⟩,rfl⟩
 |t::g,l,s,u,h,i=>by
  obtain ⟨o,w,y⟩:=h t (by simp);have r:=jbc i.1 i.2;have v:=J9 t;have z:=VT 64 t (K7 t o) w y;obtain ⟨B,E⟩:=Qh T (.aa t) (bh t) l u (VL t o) (by omega);obtain ⟨c,m,n,H,I,J⟩:=YL j T g (oF l (cy (bh t))) (.aa t) B (λe L=>h e (by simp [L])) (jdr i (VL t o));refine ⟨c,m,n,H,λx=>?_,?_⟩
  . rw [I x]
    constructor
    . rintro (q| ⟨p,a,q⟩)
      . rcases Xm q with q|q
        . exact .inl q
        . exact .inr ⟨t,ez,q⟩
      . exact .inr ⟨p,dZ _ a,q⟩
    . rintro (q| ⟨p,a,q⟩)
      . exact .inl (Xn (.inl q))
      . rcases dk.mp a with e|e
        . subst e;exact .inl (Xn (.inr q))
        . exact .inr ⟨p,e,q⟩
  . refine (qj ?_).trans J;exact (x0 (oA (bh t) (we (jA (jc rfl rfl) rfl z) rfl))).trans E
noncomputable def rl (p:D×D):D:= .ap [p.1,p.2]
theorem P4 {c:TF} (g:D×D->D) (P:D×D->Prop) (i: ∀p a,P p->c [.aa p.1,.aa p.2,.aw (.ah a)]= .ok (g p)):
  ∀(ps:List (D×D)) (a:List D) (u v:Slot),(∀p∈ps,P p)->a.length+ps.length<=aV-> ∃j l,q8 2 (g2 (gN 0) (gN 1)) qF c (ps.map rl) [u,v,.aw (.ah a)]= .ok [j,l,.aw (.ah (a++ps.map g))]
 | [],a,u,v,_,_=>⟨u,v,by simp [q8]⟩
 |p::r,a,u,v,m,h=>by
  simp only [fb] at h;obtain ⟨j,l,e⟩:=P4 g P i r (a++[g p]) (.aa p.1) (.aa p.2) (λx n=>m x (by simp [n])) (by simp only [iE,fb,sG];omega);refine ⟨j,l,?_⟩
  have o:q8 2 (g2 (gN 0) (gN 1)) qF c ((p::r).map rl) [u,v,.aw (.ah a)]=q8 2 (g2 (gN 0) (gN 1)) qF c (r.map rl) [.aa p.1,.aa p.2,.aw (.ah (a++[g p]))]:=by
   show (c [.aa p.1,.aa p.2,.aw (.ah a)]>>=_)=_;rw [i p a (m p (by simp))];exact jl (by omega)
  rw [o,e];simp
def UY {fe:TF} {fi:TB} {env:Sl} {ps:List (D×D)} (a:D×D->D) (P:D×D->Prop) (g: ∀p h,P p->fe [.aa p.1,.aa p.2,.aw (.ah h)]= .ok (a p)) (i:fi env= .ok (ps.map rl)) (j: ∀p∈ps,P p) (l:ps.length<=aV):
  zE false 2 [] fi (g2 (gN 0) (gN 1)) qF fe env= .ok (.ah (ps.map a)):=by
 obtain ⟨u,v,e⟩:=P4 a P g ps [] .un .un j (by simpa using l);show (fi env>>=_)=_;rw [i];show (q8 2 (g2 (gN 0) (gN 1)) qF fe (ps.map rl) [.un,.un,.aw (.ah [])]>>=_)=_;rw [e];exact jl (c:=(false=true->D.iQ (ps.map a)=true)) (λz=>by cases z)
def obj (ps:List (D×D)) (a:List D):D:= .obj "Rules" ["listed", "named"] [.ah (ps.map rl),.ah a]
def uk {e g2:Sl->aj eR} {c a:Sl} (h:e c= .ok (.nx a)):pM e g2 c=g2 a:=by
 show (e c>>=_)=_;rw [h];rfl
def jjR {t:TD} {c g2:Sl->aj eR} {a:Sl} (h:t a= .ok false):Bz t c g2 a=g2 a:=by
 show (t a>>=_)=_;rw [h];rfl
def VB {f:TF} {a:Sl} {c n:Str} {i:Nat} {fs:List Str} {ds:List D} {d:D} (h:f a= .ok d) (e:a[i]?=some (.aw (.obj c fs ds))) (g:fs.length<1000):WP i c n f a= .ok (.nx (a.set i (.aw (.obj c (kM n fs) (kN n d fs ds))))):=by
 have j:pN i c a= .ok (fs,ds):=by
  unfold pN;rw [e];exact jl rfl
 show (f a>>=λd=>pN i c a>>=_)=_;rw [h];rw [j];exact jl g
def yl (ps:List (D×D)) (a:List D):bO [obj ps a]= .ok (.ah a):=by
 refine zM ?_;exact jM (qW (jc rfl rfl) rfl)
def jjh (ps:List (D×D)) (a:List D):cO [obj ps a]= .ok (.ah (ps.map rl)):=by
 refine zM ?_;exact jM (qW (jc rfl rfl) rfl)
structure Ru (ns:List Str) (l r:D):Prop where
 tl:tk ns l=true
 tr:tk ns r=true
 lt: ∃z ts,l= .ap (.str z::ts)
 hl:gE l<=20
 hr:gE r<=20
 nl:num l<=100
 nr:num r<=100
 sub: ∀x∈eD r,x∈eD l
 bk: ∀x∈eD l,0<=x/\x<=999
 sK: ∃m:List Int,m.length<=3/\ ∀x∈eD r,x∈m
theorem P5 {l:List Int}: ∀(a:List Int) (b:Nat),l.length<=b->(met l a).length<=b+a.length
 | [],b,h=>h
 |x::a,b,h=>by
  rw [Ua,fb];have:=P5 a (b+1) (dw (PZ l x) (by omega));omega
def jgV {t:D} (h:tk ns t=true) (c:num t<=100):(oN t).length<=1000:=by
 unfold oN;have a:=P5 (l:=[]) (eI (bh t)) 0 (bf _)
 have e:(eI (bh t)).length<=(bh t).length:=by
  clear a;generalize bh t=ds
  induction ds with
  |nil=>simp [eI]
  |cons d r g=>cases d<;>simp only [eI,fb]<;>omega
 have i:=J9 t;omega
def jdg (c: ∀z∈ns,isNm (.str z)=true) {l r:D} (h:Ru ns l r):gw [.ap [l,r]]= .ok (.bl true):=by
 obtain ⟨m,e,g⟩:=h.sK;have i:(oN r).length<=3:=dw (P6 (P1 _ _ Cf) λx a=>g x ((Z0 h.tr x).mp a)) e;have j:=ji0 (oN r);rw [jcv c h.tl h.tr h.lt (by have:=h.hl;omega) (by have:=h.hr;omega) (by have:=h.nl;omega) (by have:=h.nr;omega) h.bk (λx a=>h.bk x (h.sub x a)) (by omega) (by omega) (jgV h.tl h.nl),decide_eq_true h.sub]
def P7 (ns:List Str) (ps:List (D×D)):Prop:= ∀p∈ps,Ru ns p.1 p.2
def jg3 (g: ∀z∈ns,isNm (.str z)=true) {ps:List (D×D)} (h:P7 ns ps) (l:ps.length<=40):eE [.ah (ps.map rl)]= .ok (.bl true):=by
 have c:a5 (ak (app (jb (ag 0) af) ce) (cI 40) pH) [.aa (.ah (ps.map rl))]= .ok (decide ((40:Int)<ps.length)):=jD (jh (qW (jc rfl rfl) (oA (.int ps.length) (by show aj.ok (D.int ((ps.map rl).length:Int))=_;rw [cg]))) rfl rfl);rw [decide_eq_false (by omega)] at c;refine zM ?_;refine (jk ((ck (Zl (zp (b:=true) rfl) c)))).trans ?_
 refine jM (qW (jc (oA (.ah ((ps.map rl).map λe=> .bl true)) (Hg (λ_=> .bl true) (λe=>e∈ps.map rl) (we rfl rfl) (λe a=>a) (by rw [cg];exact jp (by omega)) (λe i a=>by
  obtain ⟨p,j,rfl⟩:=c4.mp a
  exact jA (jc rfl rfl) rfl (jdg g (h p j))))) rfl) ((QZ (ps.map rl) λ_=>true).trans ?_))
 simp
def WG (i:ns.length<=7) (j: ∀z∈ns,isNm (.str z)=true) {e:List D} {m:List Hd} (h: ∀t∈e,tk ns t=true/\gE t<=64/\num t<=1000) (B:m.length<=60) (n: ∀t∈e,∀x∈cy (bh t),x∈m): ∃l,bz [.ah e]= .ok (.ah ((x5 l).map b7))/\l.Nodup/\l.length<=60/\ ∀x,x∈l↔ ∃t∈e,x∈cy (bh t):=by
 obtain ⟨r,E,H,g,o,v⟩:=YL i (.aa (.ah e)) e [] .un .un h ⟨Cf,λx p=>by cases p⟩;have c: ∀x,x∈r↔ ∃t∈e,x∈cy (bh t):=λx=>(o x).trans ⟨λq=>q.elim (λz=>by cases z) id,.inr⟩
 have u:=Zu g.1 λx p=>by
  obtain ⟨t,w,z⟩:=(c x).mp p;exact n t w x z
 refine ⟨r,zM ?_,g.1,by omega,c⟩;refine (jk ((x0 rfl).trans v)).trans ?_;exact jM (qW (jc rfl rfl) (ku g.1 (by omega) λa y=>jp (dw (P2 (j _ (g.2 a y).1)) (by decide))))
noncomputable def nW (ps:List (D×D)):List Hd:=ps.flatMap λp=>cy (bh p.1)++cy (bh p.2)
def Dz {l r:D} (h:Ru ns l r):(tk ns l=true/\gE l<=64/\num l<=1000)/\(tk ns r=true/\gE r<=64/\num r<=1000):=⟨⟨h.tl,by have:=h.hl;omega,by have:=h.nl;omega⟩,⟨h.tr,by have:=h.hr;omega,by have:=h.nr;omega⟩⟩
def jhB (j:ns.length<=7) (c: ∀z∈ns,isNm (.str z)=true) {ps:List (D×D)} {m:List Hd} (h:P7 ns ps) (v:ps.length<=40) (w:m.length<=60) (e: ∀x∈nW ps,x∈m) {f:TB} {g:Sl} (y:f g= .ok [.ah (ps.map rl)]):
   ∃l:List Hd,wx "Rules" 1 aE f g= .ok (obj ps ((x5 l).map b7))/\l.Nodup/\ ∀x,x∈l↔x∈nW ps:=by
 have u:ps.length<=aV:=jp (by omega)
 have i: ∀p∈ps,∀x,x∈cy (bh p.1)\/x∈cy (bh p.2)->x∈nW ps:=λp a x hx=>by
   unfold nW;rw [rc];exact ⟨p,a,i3.mpr hx⟩
 obtain ⟨l,B,n,_,o⟩:=WG j c (λt q=>by
   rcases i3.mp q with z|z
   . obtain ⟨p,a,rfl⟩:=c4.mp z;exact (Dz (h p a)).1
   . obtain ⟨p,a,rfl⟩:=c4.mp z
     exact (Dz (h p a)).2) w (λt q x hx=>by
   rcases i3.mp q with z|z
   . obtain ⟨p,a,rfl⟩:=c4.mp z;exact e x (i p a x (.inl hx))
   . obtain ⟨p,a,rfl⟩:=c4.mp z
     exact e x (i p a x (.inr hx)))
 refine ⟨l,?_,n,λx=>?_⟩
 . have E:=jg3 c h v
   have H:cA bz eE [.aw (.obj "Rules" [] []),.aa (.ah (ps.map rl))]= .ok (.nx [.aw (obj ps ((x5 l).map b7)),.aa (.ah (ps.map rl))]):=by
     refine (uk ((jjR (oA false (zp (jD (jA (jc rfl rfl) rfl E))))))).trans ?_;refine (uk ((VB (qW (jc rfl rfl) rfl) rfl (by decide)))).trans ?_;have I:=UY (fe:=ag 0) (fi:=fh (ag 1)) (env:=[.aw (.obj "Rules" ["listed"] [.ah (ps.map rl)]),.aa (.ah (ps.map rl))]) (·.1) (λ_=>True) (λp r _=>rfl) rfl (λ_ _=>trivial) u;have J:=UY (fe:=ag 1) (fi:=fh (ag 1)) (env:=[.aw (.obj "Rules" ["listed"] [.ah (ps.map rl)]),.aa (.ah (ps.map rl))]) (·.2) (λ_=>True) (λp r _=>rfl) rfl (λ_ _=>trivial) u;refine (VB (jA (jc (jh I J (Vq (by simp only [cg];exact jp (by omega)))) rfl) rfl B) rfl (by decide)).trans ?_;rfl
   exact Zy y rfl (jfm rfl H)
 . rw [o x];unfold nW;simp only [i3,c4,rc]
   constructor
   . rintro ⟨t,(⟨p,a,rfl⟩| ⟨p,a,rfl⟩),hx⟩
     . exact ⟨p,a,.inl hx⟩
     . exact ⟨p,a,.inr hx⟩
   . rintro ⟨p,a,hx|hx⟩
     . exact ⟨p.1,.inl ⟨p,a,rfl⟩,hx⟩
     . exact ⟨p.2,.inr ⟨p,a,rfl⟩,hx⟩
end
noncomputable def lY (a:List Str):List Hd:=a.flatMap λz=>[(z,0),(z,1),(z,2),(z,3)]
def U9 {c:List Str} (h:c.length<=7):(lY c).length<=60:=by
 have: ∀l:List Str,(lY l).length=4*l.length:=λl=>by
  induction l with
  |nil=>rfl
  |cons a r e=>
   show ([(a,0),(a,1),(a,2),(a,3)]++lY r).length=_;rw [iE,e];simp;omega
 rw [this];omega
def jeb {a:List Str} {z:Str} {k:Nat} (c:z∈a) (g:k<=3):(z,(k:Int))∈lY a:=by
 unfold lY;rw [rc];refine ⟨z,c,?_⟩;have:k=0\/k=1\/k=2\/k=3:=by omega
 rcases this with e|e|e|e<;>subst e<;>simp
structure Tm (ns:List Str) (h m:Nat) (t:Tr):Prop where
 tk:tk ns t.d=true
 hg:gE t.d<=h
 nu:num t.d<=m
 bk: ∀x∈eD t.d,0<=x/\x<=999
 hd: ∀x∈cy (bh t.d),x∈lY ns
section
variable {ns:List Str}
def Tm.up {h m h' m':Nat} {t:Tr} (x:Tm ns h m t) (a:h<=h') (c:m<=m'):Tm ns h' m' t:=⟨x.tk,dw x.hg a,dw x.nu c,x.bk,x.hd⟩
def DB {i:Nat} (h:i<=999):Tm ns 1 1 (.bk i):=by
 refine ⟨rfl,?_,?_,?_,?_⟩
 . simp [Tr.d,gE]
 . simp [Tr.d,num]
 . intro x a;simp [Tr.d,eD] at a;omega
 . intro b c;simp [Tr.d,bh,cy] at c
def We {a b:Nat} {x:Str} {l:List Tr} (o:x∈ns) (q:l.length<=3) (h: ∀p∈l,Tm ns a b p):Tm ns (a+1) (l.length*b+1) (.nd x l):=by
 have j: ∀d∈l.map Tr.d,∃p∈l,d=p.d:=λd hd=>by
   obtain ⟨p,g,rfl⟩:=c4.mp hd;exact ⟨p,g,rfl⟩
 refine ⟨?_,?_,?_,?_,?_⟩
 . rw [Tr.di];exact EF o (by rw [cg];omega) λt i=>by obtain ⟨p,g,rfl⟩:=j t i;exact (h p g).tk
 . rw [Tr.di,QR];have:=K2 λt i=>by obtain ⟨p,g,rfl⟩:=j t i;exact (h p g).hg
   omega
 . rw [Tr.di,Xb];have:=NP λt i=>by obtain ⟨p,g,rfl⟩:=j t i;exact (h p g).nu
   rw [cg] at this;omega
 . intro y m;rw [Tr.di,Vk,ZZ,rc] at m;obtain ⟨t,i,m⟩:=m;obtain ⟨p,g,rfl⟩:=j t i;exact (h p g).bk y m
 . intro c n;rw [Tr.di] at n;rcases iA.mp n with e| ⟨t,i,n⟩
   . rw [e,cg];exact jeb o q
   . obtain ⟨p,g,rfl⟩:=j t i;exact (h p g).hd c n
structure oh (ns:List Str):Prop where
 ln:ns.length<=7
 nm: ∀z∈ns,isNm (.str z)=true
def Xo (hN:oh ns) {s t:Tr} (a:Tm ns 20 100 s) (c:Tm ns 20 100 t): ∃l:List Hd,bz [.ah [s.d,t.d]]= .ok (.ah ((x5 l).map b7))/\ ∀x,x∈x5 l↔x∈cy (bh s.d)\/x∈cy (bh t.d):=by
 obtain ⟨l,e,_,_,i⟩:=WG hN.ln hN.nm (λu g=>by
  rcases dk.mp g with e|e
  . subst e;exact ⟨a.tk,by have:=a.hg;omega,by have:=a.nu;omega⟩
  . rw [g8.mp e];exact ⟨c.tk,by have:=c.hg;omega,by have:=c.nu;omega⟩) (U9 hN.ln) (λu g x h=>by
  rcases dk.mp g with e|e
  . subst e;exact a.hd x h
  . rw [g8.mp e] at h;exact c.hd x h)
 refine ⟨l,e,λx=>?_⟩;rw [iz,i x];simp
end
abbrev Fq:Sl->aj ba:=lH (a5 (ak (ag 2) (ag 1) pQ)) (Yc "NoHead") (yR cz)
def KW {e:List (Str×Nat)} {L u:Slot} (a:Hd):xF (gN 2) Fq (b7 a) [L,.aa (eL e),u]=if a∈cw e then .ok (.nx [L,.aa (eL e),.aa (b7 a)]) else .exc "NoHead" :=by
 have t:a5 (ak (ag 2) (ag 1) pQ) [L,.aa (eL e),.aa (b7 a)]= .ok (!decide (a∈cw e)):=jD (jh rfl rfl (jil e a));rw [jcm (env':=[L,.aa (eL e),.aa (b7 a)]) rfl];show lH _ _ _ _=_;unfold lH;rw [t]
 by_cases c:a∈cw e
 . rw [if_pos c,decide_eq_true c];rfl
 . rw [if_neg c,decide_eq_false c];rfl
theorem Uc {c:List (Str×Nat)} {L:Slot}: ∀(l:List Hd) (u:Slot),(∀a∈l,a∈cw c)-> ∃v,bn (xF (gN 2) Fq) (l.map b7) [L,.aa (eL c),u]= .ok (.nx [L,.aa (eL c),v])
 | [],u,_=>⟨u,rfl⟩
 |a::l,u,h=>by
  obtain ⟨v,e⟩:=Uc l (.aa (b7 a)) λb g=>h b (dZ _ g)
  exact ⟨v,(qj ((KW a).trans (if_pos (h a ez)))).trans e⟩
theorem Ub {g:List (Str×Nat)} {L:Slot}: ∀(l:List Hd) (u:Slot),(∃a∈l,a∉cw g)->bn (xF (gN 2) Fq) (l.map b7) [L,.aa (eL g),u]= .exc "NoHead"
 | [],u,h=>by obtain ⟨a,j,_⟩:=h;cases j
 |a::l,u,h=>by
  by_cases c:a∈cw g
  . refine (qj ((KW a).trans (if_pos c))).trans (Ub l _ ?_);obtain ⟨b,m,i⟩:=h;rcases dk.mp m with e|e
    . subst e;exact (i c).elim
    . exact ⟨b,e,i⟩
  . have:=(KW (L:=L) (u:=u) a).trans (if_neg c);show (xF (gN 2) Fq (b7 a) [L,.aa (eL g),u]>>=_)=_;rw [this];rfl
def jf1 {c:List (Str×Nat)} {l:List Hd} (h: ∀a∈l,a∈cw c):bN [.ah (l.map b7),eL c]= .ok .aW:=by
 obtain ⟨v,e⟩:=Uc l .un h;have:dQ (j8 3 [.ah (l.map b7),eL c])= .ok (.nx [.aa (.ah (l.map b7)),.aa (eL c),v]):=(Pl (we rfl rfl)).trans e;show dB true 3 dQ _=_;unfold dB;rw [this]
def jf2 {c:List (Str×Nat)} {l:List Hd} (h: ∃a∈l,a∉cw c):bN [.ah (l.map b7),eL c]= .exc "NoHead" :=by
 have:dQ (j8 3 [.ah (l.map b7),eL c])= .exc "NoHead" :=(Pl (we rfl rfl)).trans (Ub (L:= .aa (.ah (l.map b7))) l .un h);exact X9 this
def uE {a b:List (Str×Nat)} (h:bJ a=bJ b):a=b:=by
 unfold bJ at h;simp at h;exact jfp h
def P8 (c:List (Str×Nat)) (s t:Tr):be [.aa (bJ c),.aa s.d,.aa t.d]=iW c s t:=by
 obtain ⟨a,g,i,e,h⟩:=Classical.epsilon_spec (p:=λp=> ∃a g i,(([.aa (bJ c),.aa s.d,.aa t.d]:Sl)=[.aa (bJ a),.aa g.d,.aa i.d]\/ ∃r,([.aa (bJ c),.aa s.d,.aa t.d]:Sl)=[.aa (bJ a),r,.aa g.d,.aa i.d])/\p=iW a g i) ⟨iW c s t,c,s,t,.inl rfl,rfl⟩;rcases e with e| ⟨r,e⟩
 . simp at e;obtain ⟨e1,e2,j⟩:=e;cases uE e1;cases Tr.kF _ _ e2;cases Tr.kF _ _ j;exact h
 . have:=congrArg B5 e;cases this
def pk4 (c:List (Str×Nat)) (r:Slot) (s t:Tr):be [.aa (bJ c),r,.aa s.d,.aa t.d]=iW c s t:=by
 obtain ⟨a,g,i,e,h⟩:=Classical.epsilon_spec (p:=λp=> ∃a g i,(([.aa (bJ c),r,.aa s.d,.aa t.d]:Sl)=[.aa (bJ a),.aa g.d,.aa i.d]\/ ∃j,([.aa (bJ c),r,.aa s.d,.aa t.d]:Sl)=[.aa (bJ a),j,.aa g.d,.aa i.d])/\p=iW a g i) ⟨iW c s t,c,s,t,.inr ⟨r,rfl⟩,rfl⟩;rcases e with e| ⟨j,e⟩
 . have:=congrArg B5 e;cases this
 . simp at e;obtain ⟨e1,_,e2,l⟩:=e;cases uE e1;cases Tr.kF _ _ e2;cases Tr.kF _ _ l;exact h
def Kz {e:Type} {c:Sl->e} {f:e->Sl->aj D} {a:Sl} {d:D} {p:e} (g:c a=p) (h:f p a= .ok d):Ym c f a= .ok d:=by
 unfold Ym;rw [g];exact h
def Mb {a:List (Str×Nat)} {S T:Tr} (c:(nR S T).length<aV):aN (iW a S T) (.obj "Reckoning" [] []) [eL a]= .ok (.aW,fD a S T):=by
 have e:cM (iW a S T) [.aw (.obj "Reckoning" ["rank"] [eL a]),.aa (eL a)]= .ok (.mem (nR S T) (Fb (c7 a))):=jl c
 have g:bj (iW a S T) [.aw (.obj "Reckoning" [] []),.aa (eL a)]= .ok (.nx [.aw (fD a S T),.aa (eL a)]):=by
  have h:WP 0 "Reckoning" "rank" (ag 1) [.aw (.obj "Reckoning" [] []),.aa (eL a)]= .ok (.nx [.aw (.obj "Reckoning" ["rank"] [eL a]),.aa (eL a)]):=rfl;show (WP 0 "Reckoning" "rank" (ag 1) [.aw (.obj "Reckoning" [] []),.aa (eL a)]>>=_)=_;show (cM (iW a S T) [.aw (.obj "Reckoning" ["rank"] [eL a]),.aa (eL a)]>>=_)=_;rw [e];rfl
 show a4 (([eL a]:List D).length=1) (bj (iW a S T) [.aw (.obj "Reckoning" [] []),.aa (eL a)]>>=_)=_;refine (jl (rfl)).trans ?_;rw [g];rfl
structure sy (ns:List Str) (hs:List (Str×Nat)):Prop where
 AW:oh ns
 h3: ∀h∈hs,h.1∈ns/\h.2<=3
section
variable {ns:List Str} {Z:List (Str×Nat)}
def uP (P:sy ns Z) {s t:Tr} (e:Tn Z 6 s) (g:Tn Z 6 t):(nR s t).length<aV:=by
 have c: ∀h∈Z,h.2<=3:=λh i=>(P.h3 h i).2
 rw [jcE];have a:sN 6=1093:=rfl;exact Gy (Nat.mul_le_mul (IU c e) (IU c g)) (by rw [a];decide)
def A6 (P:sy ns Z) {s t:Tr} (a:Tn Z 6 s) (c:Tn Z 6 t):az 32 [fD Z s t,s.d,t.d]= .ok (wD (way (c7 Z) s t)):=
 tZ (by decide) (λh e=>(P.h3 h e).2) 32 6 6 s t (Qa s) (Qa t) a c (bf _) (bf _) (by decide)
def Vd {c:Sl} {e:TB} {l:List Hd} (h:e c= .ok [.ah (l.map b7),eL Z]):(∀a∈l,a∈cw Z)->x9 (xk 2 bN e) c= .ok (.nx c):=λg=>jgG ((QY h rfl).trans (jf1 g))
def Vc {c:Sl} {e:TB} {l:List Hd} (h:e c= .ok [.ah (l.map b7),eL Z]):(∃a∈l,a∉cw Z)->x9 (xk 2 bN e) c= .exc "NoHead" :=λg=>by
 unfold x9;rw [show xk 2 bN e c= .exc "NoHead" from (QY h rfl).trans (jf2 g)];rfl
def WQ {e g2:TC} {a:Sl} {c:Str} (h:e a= .exc c):ax e g2 a= .exc c:=by
 show (e a>>=_)=_;rw [h];rfl
def Ud {s t:Tr} {l:List Hd} (e:bz [.ah [s.d,t.d]]= .ok (.ah (l.map b7))):jb (jn 1 bz (jb (b9 (jb (ag 1) (jb (ag 2) af))) af)) (jb (fY "Ranks" "rank" (i6 0)) af) [.aa (bJ Z),.aa s.d,.aa t.d]= .ok [.ah (l.map b7),eL Z]:=
 jc (jA (jc (xu (jc rfl (jc rfl rfl)) (jp (show 2<=20000 by decide))) rfl) rfl e) (jc rfl rfl)
def P9 (P:sy ns Z) {s t:Tr} (g:Tm ns 20 100 s) (mt:Tm ns 20 100 t) (c:Tn Z 6 s) (e:Tn Z 6 t):aZ [bJ Z,s.d,t.d]= .ok (.bl (gtB (c7 Z) s t)):=by
 obtain ⟨l,e1,e2⟩:=Xo P.AW g mt;refine VD ?_;refine (jk (Vd (Ud e1) λa h=>((e2 a).mp h).elim ((Dy P.h3 6 s c).hd a) ((Dy P.h3 6 t e).hd a))).trans (zw (jM (jh (Kz (P8 Z s t) (zq (by decide) ?_ (jc rfl (jc rfl rfl)) (A6 P c e))) rfl (PQ _))));exact Zy (jc rfl rfl) rfl (Mb (uP P c e))
def jdw (P:sy ns Z) {s t:Tr} (c:Tm ns 20 100 s) (mt:Tm ns 20 100 t) (h: ∃a,(a∈cy (bh s.d)\/a∈cy (bh t.d))/\a∉cw Z):aZ [bJ Z,s.d,t.d]= .exc "NoHead" :=by
 obtain ⟨l,e1,e2⟩:=Xo P.AW c mt;obtain ⟨a,e,g⟩:=h;refine X9 ?_;exact WQ (Vc (Ud e1) ⟨a,(e2 a).mpr e,g⟩)
def jhc (P:sy ns Z) {s t:Tr} (c:Tm ns 20 100 s) (mt:Tm ns 20 100 t) (h: ∃a,(a∈cy (bh s.d)\/a∈cy (bh t.d))/\a∉cw Z):bD [bJ Z,s.d,t.d]= .exc "NoHead" :=by
 obtain ⟨l,e1,e2⟩:=Xo P.AW c mt;obtain ⟨a,e,g⟩:=h;refine X9 ?_;exact WQ (Vc (Ud e1) ⟨a,(e2 a).mpr e,g⟩)
def jcl (P:sy ns Z) {s t:Tr} (i:Tm ns 20 100 s) (mt:Tm ns 20 100 t) (c:Tn Z 6 s) (e:Tn Z 6 t) (h:way (c7 Z) s t=none):bD [bJ Z,s.d,t.d]= .ok .aW:=by
 obtain ⟨l,e1,e2⟩:=Xo P.AW i mt;have g:=A6 P c e;rw [h] at g
 have j:cC [fD Z s t,s.d,t.d]= .ok .aW:=by
  refine zM ?_;refine (jk (jq (zq (by decide) rfl (jc rfl (jc rfl rfl)) g))).trans ?_;exact zg ((en (jD (jh rfl rfl rfl))))
 refine VD ?_;refine (jk (Vd (Ud e1) λa m=>((e2 a).mp m).elim ((Dy P.h3 6 s c).hd a) ((Dy P.h3 6 t e).hd a))).trans (zw (jM (Kz (P8 Z s t) (zq (by decide) ?_ (jc rfl (jc rfl rfl)) j))));exact Zy (jc rfl rfl) rfl (Mb (uP P c e))
def vf {m:Str} {F:Tz} {i:Nat} {a:Sl} {ps:List (D×D)} {L:List D} {d:D} (g:ag i a= .ok (obj ps L)) (h:(["listed", "named"]:List Str).contains m=false) (j:F [obj ps L]= .ok d):qi "Rules" m 1 F (ag i) oS a= .ok d:=by
 have e:qi "Rules" m 1 F (ag i) oS a=(ag i a>>=λo=>match o with
  | .obj c ns l=>a4 (c= "Rules" /\ns.contains m=false) (a4 (([]:List D).length+1=1) (F [.obj c ns l]))
  |_=> .ai):=rfl
 rw [e,g];show a4 (("Rules" :Str)= "Rules" /\(["listed", "named"]:List Str).contains m=false) (a4 (([]:List D).length+1=1) (F [obj ps L]))=_;rw [jl ⟨rfl,h⟩];exact (jl (by rfl)).trans j
def pd (q:Tr×Tr):D×D:=(q.1.d,q.2.d)
noncomputable abbrev t5:Sl->aj ba:=cT (a5 (ak (Ym be λp=>(qi "Reckoning" "way" 3 (az 32) (wx "Reckoning" 1 (aN p) (jb (fY "Ranks" "rank" (i6 0)) af)) (jb (ag 2) (jb (ag 3) af)))) cN nj)) (aM (cB false)) cz
noncomputable def bX (Z:List (Str×Nat)) (a:List (Tr×Tr)):Bool:=a.all λq=>gtB (c7 Z) q.1 q.2
theorem YC (P:sy ns Z) {R:Slot}: ∀(a:List (Tr×Tr)) (u v:Slot),(∀q∈a,Tn Z 6 q.1/\Tn Z 6 q.2)->
  (bX Z a=true-> ∃l m,bn (qm (g2 (gN 2) (gN 3)) t5) ((a.map pd).map rl) [.aa (bJ Z),R,u,v]= .ok (.nx [.aa (bJ Z),R,l,m]))/\
  (bX Z a=false->bn (qm (g2 (gN 2) (gN 3)) t5) ((a.map pd).map rl) [.aa (bJ Z),R,u,v]= .ok (.rt true (.bl false)))
 | [],u,v,_=>⟨λ_=>⟨u,v,rfl⟩,λh=>by cases h⟩
 |q::a,u,v,h=>by
  obtain ⟨n,o⟩:=h q ez;have w:=YC P (R:=R) a (.aa q.1.d) (.aa q.2.d) λr y=>h r (dZ _ y)
  have g:a5 (ak (Ym be λp=>(qi "Reckoning" "way" 3 (az 32) (wx "Reckoning" 1 (aN p) (jb (fY "Ranks" "rank" (i6 0)) af)) (jb (ag 2) (jb (ag 3) af)))) cN nj) [.aa (bJ Z),R,.aa q.1.d,.aa q.2.d]= .ok (!gtB (c7 Z) q.1 q.2):=
   jD (jh (Kz (pk4 Z R q.1 q.2) (zq (by decide) (Zy (jc rfl rfl) rfl (Mb (uP P n o))) (jc rfl (jc rfl rfl)) (A6 P n o))) rfl (Ur _))
  have i:bX Z (q::a)=(gtB (c7 Z) q.1 q.2&&bX Z a):=rfl
  cases c:gtB (c7 Z) q.1 q.2 with
  |true=>
   rw [c] at g;have j:qm (g2 (gN 2) (gN 3)) t5 (rl (pd q)) [.aa (bJ Z),R,u,v]= .ok (.nx [.aa (bJ Z),R,.aa q.1.d,.aa q.2.d]):=xE rfl ((ck g));rw [i,c,Bool.true_and]
   exact ⟨λz=>by
    obtain ⟨l,m,e⟩:=w.1 z
    exact ⟨l,m,(qj j).trans e⟩,λz=>(qj j).trans (w.2 z)⟩
  |false=>
   rw [c] at g;have j:qm (g2 (gN 2) (gN 3)) t5 (rl (pd q)) [.aa (bJ Z),R,u,v]= .ok (.rt true (.bl false)):=xE rfl ((en g));rw [i,c,Bool.false_and];exact ⟨(λz=>by cases z),λ_=>Xs j⟩
def jjO (P:sy ns Z) {g:List (Tr×Tr)} {L:List Hd} (j: ∀a∈L,a∈cw Z) (h: ∀q∈g,Tn Z 6 q.1/\Tn Z 6 q.2):aY [bJ Z,obj (g.map pd) (L.map b7)]= .ok (.bl (bX Z g)):=by
 have i:fh (qi "Rules" "told" 1 cO (ag 1) oS) [.aa (bJ Z),.aa (obj (g.map pd) (L.map b7)),.un,.un]= .ok ((g.map pd).map rl):=we (vf rfl (by decide) (jjh _ _)) rfl;have lp:=YC P (R:= .aa (obj (g.map pd) (L.map b7))) g .un .un h;refine VD ?_;refine (jk (Vd (oA [.ah (L.map b7),eL Z] (jc (vf rfl (by decide) (yl _ _)) (jc rfl rfl))) j)).trans ?_
 cases c:bX Z g with
 |true=>
  obtain ⟨l,m,e⟩:=lp.1 c;exact (jk (zw (ym i e))).trans (zw rfl)
 |false=>exact zg (zw (ym i (lp.2 c)))
def jf4 {ps:List (D×D)} {L:List Hd} (c: ∃a∈L,a∉cw Z):aY [bJ Z,obj ps (L.map b7)]= .exc "NoHead" :=by
 refine X9 ?_;exact WQ (Vc (oA [.ah (L.map b7),eL Z] (jc (vf rfl (by decide) (yl _ _)) (jc rfl rfl))) c)
end
abbrev H2:=Str×Nat
noncomputable def iY:Nat->List H2->List (List H2)
 |0,_=>[[]]
 |_+1,[]=>[[]]
 |n+1,a::r=>((a::r).zipIdx 0).flatMap λq=>(iY n ((a::r).take q.2++(a::r).drop (q.2+1))).map (q.1:: ·)
noncomputable def bP:Nat->Nat
 |0=>1
 |n+1=>(n+1)*bP n
def Qj {l:List H2} {q:H2×Nat} (h:q∈l.zipIdx 0): ∃a:q.2<l.length,l[q.2]=q.1:=by
 have:=List.mem_zipIdx h;exact ⟨by omega,by have:=this.2.2;simp at this;exact this.symm⟩
def QP {l:List H2} {k:Nat} (h:k<l.length):(l.take k++l.drop (k+1)).length=l.length-1:=by
 rw [iE,Ab,B7];omega
theorem UF {c e:Type} {f:c->List e} {b:Nat}: ∀(l:List c),(∀a∈l,(f a).length<=b)->(l.flatMap f).length<=l.length*b
 | [],_=>by simp
 |a::l,h=>by
  rw [HE,iE,fb,EE];have:=UF l λx g=>h x (dZ _ g)
  have:=h a ez;omega
theorem Qk: ∀n,1<=bP n
 |0=>bf _
 |n+1=>by show 1<=(n+1)*bP n;exact Nat.mul_pos (by omega) (Qk n)
theorem uO: ∀(n:Nat) (l:List H2),l.length<=n->(iY n l).length<=bP n
 |0,_,_=>by simp [iY,bP]
 |n+1,[],_=>by simp only [iY,Gr];exact Qk _
 |n+1,a::r,h=>by
  have:=UF (f:=λq:H2×Nat=>(iY n ((a::r).take q.2++(a::r).drop (q.2+1))).map (q.1:: ·)) ((a::r).zipIdx 0) λq c=>by
   obtain ⟨e,_⟩:=Qj c;rw [cg];refine uO n _ ?_;rw [QP e];omega
  rw [L9] at this;exact dw this (IV _ h)
def uS {l:List H2} {k:Nat} (h:k<l.length):(l[k]::(l.take k++l.drop (k+1))).Perm l:=by
 have e:l=l.take k++l[k]::l.drop (k+1):=by rw [Mc,Iq]
 calc (l[k]::(l.take k++l.drop (k+1))).Perm (l.take k++l[k]::l.drop (k+1)):=List.perm_middle.symm
  _=l:=e.symm
theorem QM: ∀(n:Nat) (l p:List H2),l.length<=n->p∈iY n l->p.Perm l
 |0,l,p,h,c=>by
  cases E7.mp (Nat.le_zero.mp h);simp only [iY,g8] at c;rw [c]
 |n+1,[],p,h,c=>by
  simp only [iY,g8] at c;rw [c]
 |n+1,a::r,p,h,c=>by
  simp only [iY,rc] at c;obtain ⟨q,i,c⟩:=c;obtain ⟨g,j⟩:=Qj i;obtain ⟨m,e,rfl⟩:=c4.mp c;rw [<-j];exact (List.Perm.cons _ (QM n _ m (by rw [QP g];omega) e)).trans (uS g)
theorem VR: ∀(n:Nat) (l p:List H2),l.length<=n->p.Perm l->p∈iY n l
 |0,l,p,h,c=>by
  cases E7.mp (Nat.le_zero.mp h);cases c.eq_nil;simp [iY]
 |n+1,[],p,h,c=>by
  cases c.eq_nil;simp [iY]
 |n+1,a::r,p,h,c=>by
  cases p with
  |nil=>exact absurd c.length_eq (by simp)
  |cons x i=>
   have j:=c.mem_iff.mp ez;obtain ⟨k,g,e⟩:=Ep.mp j;simp only [iY,rc];refine ⟨(x,k),?_,c4.mpr ⟨i,VR n _ i (by rw [QP g];omega) ?_,rfl⟩⟩
   . rw [Ep];refine ⟨k,by rw [L9];exact g,?_⟩;rw [List.getElem_zipIdx];simp [e]
   . have:=(uS g).symm;rw [e] at this;exact (c.trans this).cons_inv
def Ql (l:List D) (k:Nat):cutD l none (some (k:Int))=l.take k:=by
 unfold cutD;rw [HT.jJ,HT.gY]
 by_cases h:k<=l.length
 . rw [Nat.min_eq_left h];simp
 . rw [Nat.min_eq_right (by omega)];simp only [Nat.sub_zero,List.drop_zero];rw [BC (bf _),BC (by omega)]
def vy {i:Nat} {f:TF} {a:Sl} {ds c:List D} (e:a[i]?=some (.aw (.ah ds))) (h:f a= .ok (.ah c)) (g:ds.length+c.length<=20000):zQ i f a= .ok (.nx (a.set i (.aw (.ah (ds++c))))):=by
 unfold zQ;rw [KB e];rw [h];exact jl (jp g)
def hN (h:H2):D:=hZ h.1 h.2
noncomputable abbrev DC (n:Nat):Sl->aj ba:=ax (jB 4 (ak (zf (ag 0) JA (xt (ag 2)) oC) (zf (ag 0) (xt (ak (ag 2) (cI 1) cb)) JA oC) cb)) (zQ 1 (zE false 1 [3] (fh (jn 1 (cv n) (jb (ag 4) af))) (gN 0) qF (ak (b9 (jb (ag 1) af)) (ag 0) cb)))
def jU (x:D):D->D
 | .ah ds=> .ah (x::ds)
 |d=>d
def jcP {l:List H2} {n k:Nat} {M:List (List H2)} {acc:List D} {u4:Slot} (o:k<l.length) (q:l.length<=60) (g: ∀p∈M,p.length<=60) (i:cv n [cn (l.take k++l.drop (k+1))]= .ok (.ah (M.map cn))) (j:acc.length+M.length<=20000):
  DC n [.aa (cn l),.aw (.ah acc),.aa (.int k),.aa (hN l[k]),u4]= .ok (.nx [.aa (cn l),.aw (.ah (acc++(M.map (l[k]:: ·)).map cn)),.aa (.int k),.aa (hN l[k]),.aa (cn (l.take k++l.drop (k+1)))]):=by
 have e:=XF (js:=[3]) (fi:=fh (jn 1 (cv n) (jb (ag 4) af))) (fe:=ak (b9 (jb (ag 1) af)) (ag 0) cb) (env:=[.aa (cn l),.aw (.ah acc),.aa (.int k),.aa (hN l[k]),.aa (cn (l.take k++l.drop (k+1)))]) (jU (hN l[k])) (λd=> ∃p:List H2,d=cn p/\p.length<=60) rfl (we (jA (jc rfl rfl) rfl i) rfl) (λd hd=>by
  obtain ⟨p,c,rfl⟩:=c4.mp hd
  exact ⟨p,rfl,g p c⟩) (by rw [cg];exact jp (by omega)) (λd a ⟨p,c,m⟩=>by
  subst c;refine jh (xu (jc rfl rfl) (jp (show 1<=20000 by decide))) rfl ((Vq ?_))
  rw [cg];exact jp (by simp;omega))
 have em:(M.map cn).map (jU (hN l[k]))=(M.map (l[k]:: ·)).map cn:=by
  rw [lG,lG];rfl
 rw [em] at e
 refine (jk (jq (jh (oA (cn (l.take k)) (by
  refine wO rfl rfl (yH rfl) ?_;show aj.ok (D.ah (cutD (l.map λh=>hZ h.1 h.2) none (some (k))))=_
  rw [Ql,<-Fs];rfl)) (oA (cn (l.drop (k+1))) (by
  refine wO rfl (yH (jh rfl rfl rfl)) rfl ?_;show aj.ok (D.ah (cutD (l.map λh=>hZ h.1 h.2) (some ((k+1:Nat):Int)) none))=_
  rw [UV,<-Fp];rfl)) (oA (cn (l.take k++l.drop (k+1))) (by
  refine (Vq ?_).trans ?_
  . rw [cg,cg,Ab,B7];exact jp (by omega)
  . rw [<-tL];rfl))))).trans ?_
 exact vy rfl e (by rw [cg,cg];exact j)
theorem VW {l:List H2} {n:Nat} (f:Nat->List (List H2)) (w:l.length<=60) {B:Nat} (y: ∀k,k<l.length->cv n [cn (l.take k++l.drop (k+1))]= .ok (.ah ((f k).map cn))/\(f k).length<=B/\ ∀p∈f k,p.length<=60):
  ∀(r:List H2) (k:Nat) (a:List D) (g h c:Slot),l.drop k=r->a.length+r.length*B<=20000-> ∃j m o,bn (qm (g2 (gN 2) (gN 3)) (DC n)) (jN k (r.map hN)) [.aa (cn l),.aw (.ah a),g,h,c]= .ok (.nx [.aa (cn l),.aw (.ah (a++((r.zipIdx k).flatMap λq=>(f q.2).map (q.1:: ·)).map cn)),j,m,o])
 | [],k,a,g,h,c,_,_=>⟨g,h,c,by simp [jN];rfl⟩
 |x::r,k,a,g,h,c,u,z=>by
  have i:k<l.length:=by
   have:=congrArg B5 u;rw [B7,fb] at this;omega
  have E:l[k]=x:=by
   have:=Mc i;rw [u] at this;exact (DK this).1
  have v:l.drop (k+1)=r:=by
   have:=Mc i;rw [u] at this;exact (DK this).2
  obtain ⟨H,J,I⟩:=y k i;rw [fb,EE] at z;have st:=jcP (u4:=c) i w I H (acc:=a) (by omega);rw [E] at st;obtain ⟨j,m,o,e⟩:=VW f w y r (k+1) (a++((f k).map (x:: ·)).map cn) (.aa (.int k)) (.aa (hN x)) (.aa (cn (l.take k++l.drop (k+1)))) v (by rw [iE,cg,cg];omega);refine ⟨j,m,o,?_⟩;refine (qj (xE rfl st)).trans (e.trans ?_);rw [List.zipIdx_cons,HE,tL,nH]
def eq_nil (l:List H2):eB (cn l) (.ah [])= .ok (.bl l.isEmpty):=by
 cases l with
 |nil=>rfl
 |cons a r=>
  unfold eB;rw [jl (.inr (by simp [Q3,cn]))];simp [Wd,c6,cn]
theorem Qm: ∀(n:Nat) (l:List H2),l.length<=n->n<=7->cv (n+1) [cn l]= .ok (.ah ((iY n l).map cn))
 |n,[],_,_=>by
  have e:iY n []=[[]]:=by cases n<;>rfl
  rw [e];refine zM ?_;exact zg ((en (jD (jh rfl rfl (eq_nil [])))))
 |0,a::r,h,_=>by simp at h
 |n+1,a::r,h,o=>by
  have g:(a::r).length<=60:=by omega
  have c: ∀k,k< (a::r).length->cv (n+1) [cn ((a::r).take k++(a::r).drop (k+1))]= .ok (.ah ((iY n ((a::r).take k++(a::r).drop (k+1))).map cn))/\(iY n ((a::r).take k++(a::r).drop (k+1))).length<=bP n/\ ∀p∈iY n ((a::r).take k++(a::r).drop (k+1)),p.length<=60:=λk i=>by
   have e:=QP i;refine ⟨Qm n _ (by omega) (by omega),uO n _ (by omega),λp j=>?_⟩;have:=(QM n _ p (by omega) j).length_eq;omega
  have m:bP n<=720:=by
   have:n=0\/n=1\/n=2\/n=3\/n=4\/n=5\/n=6:=by omega
   rcases this with e|e|e|e|e|e|e<;>subst e<;>decide
  obtain ⟨q,u,v,e⟩:=VW (λk=>iY n ((a::r).take k++(a::r).drop (k+1))) g c (a::r) 0 [] .un .un .un rfl (by
   have:=Nat.mul_le_mul h m
   simp only [sG];omega)
  refine zM ?_;refine (jk ((ck (jD (jh rfl rfl (eq_nil (a::r))))))).trans ?_;refine (jk (yZ (xu rfl (jp (by decide))))).trans ?_;refine (jk (ym (Pk rfl) e)).trans ?_;exact jM (by rw [Dj];rfl)
section
variable {ns:List Str}
def DD {m:Str} {n:Nat} {F:Tz} {e:TF} {g:TB} {a:Sl} {c:List H2} {ds:List D} {d:D} (h:(["rank"]:List Str).contains m=false) (i:e a= .ok (bJ c)) (j:g a= .ok ds) (l:ds.length+1=n) (o:F (bJ c::ds)= .ok d):qi "Ranks" m n F e g a= .ok d:=by
 unfold qi;rw [i];show a4 (("Ranks" :Str)= "Ranks" /\(["rank"]:List Str).contains m=false) (g a>>=λds=>a4 (ds.length+1=n) (F (bJ c::ds)))=_;rw [jl ⟨rfl,h⟩,j];exact (jl l).trans o
noncomputable abbrev Md:Sl->aj ba:=ax (jB 3 (wx "Ranks" 1 bc (jb (ag 2) af))) (cT (a5 (qi "Ranks" "lets" 2 (λds=>oZ (aY ds)) (ag 3) (jb (ag 0) af))) (retS (ag 3)) cz)
structure Ord (ns:List Str) (qs:List (Tr×Tr)) (L:List Hd) (p:List H2):Prop where
 pap:sy ns p
 ok:Dw p
 tn: ∀q∈qs,Tn p 6 q.1/\Tn p 6 q.2
 hL: ∀a∈L,a∈cw p
def jfo {a:List (Tr×Tr)} {L:List Hd} {p:List H2} (h:Ord ns a L p) {s u v:Slot}:qm (gN 2) Md (cn p) [.aa (obj (a.map pd) (L.map b7)),s,u,v]=if bX p a=true then .ok (.rt false (bJ p)) else .ok (.nx [.aa (obj (a.map pd) (L.map b7)),s,.aa (cn p),.aa (bJ p)]):=by
 refine (jk (jq (PK h.ok (jc rfl rfl)))).trans ?_
 have t:a5 (qi "Ranks" "lets" 2 (λds=>oZ (aY ds)) (ag 3) (jb (ag 0) af)) [.aa (obj (a.map pd) (L.map b7)),s,.aa (cn p),.aa (bJ p)]= .ok (bX p a):=jD (DD (by decide) rfl (jc rfl rfl) rfl (by
   rw [jjO h.pap h.hL h.tn];rfl))
 by_cases c:bX p a=true
 . rw [if_pos c];rw [c] at t;exact (en t).trans rfl
 . rw [if_neg c];rw [Bool.not_eq_true] at c;rw [c] at t;exact (ck t).trans rfl
theorem uB {a:List (Tr×Tr)} {L:List Hd} {s:Slot}: ∀(M:List (List H2)) (u v:Slot),(∀p∈M,Ord ns a L p)->
  (∀p,M.find? (λp=>bX p a)=some p->bn (qm (gN 2) Md) (M.map cn) [.aa (obj (a.map pd) (L.map b7)),s,u,v]= .ok (.rt false (bJ p)))/\
  (M.find? (λp=>bX p a)=none-> ∃i j,bn (qm (gN 2) Md) (M.map cn) [.aa (obj (a.map pd) (L.map b7)),s,u,v]= .ok (.nx [.aa (obj (a.map pd) (L.map b7)),s,i,j]))
 | [],u,v,_=>⟨(λp h=>by simp at h),λ_=>⟨u,v,rfl⟩⟩
 |p::M,u,v,h=>by
  have st:=jfo (h p ez) (s:=s) (u:=u) (v:=v);have l:=uB (s:=s) M (.aa (cn p)) (.aa (bJ p)) λr n=>h r (dZ _ n)
  by_cases c:bX p a=true
  . rw [if_pos c] at st;rw [List.find?_cons_of_pos (p:=λp=>bX p a) c];refine ⟨λm g=>?_,λz=>by cases z⟩;cases g;exact Xs st
  . rw [if_neg c] at st;rw [List.find?_cons_of_neg (p:=λp=>bX p a) c];refine ⟨λm g=>(qj st).trans (l.1 m g),λz=>?_⟩;obtain ⟨i,j,e⟩:=l.2 z;exact ⟨i,j,(qj st).trans e⟩
def Qu (L:List Hd) {env:Sl} (h:ag 1 env= .ok (.ah (L.map b7))):a5 (ak (app (jb (ag 1) af) ce) (cI 6) pH) env= .ok (decide ((6:Int)< (L.length:Int))):=by
 refine jD (jh (qW (jc h rfl) (d:= .int (L.length)) ?_) rfl rfl);show aj.ok (D.int ((L.map b7).length:Int))=_;rw [cg]
def kJ {ps:List (D×D)} {L:List Hd} (h:6<L.length):bg [obj ps (L.map b7)]= .exc "TooMany" :=by
 refine X9 ?_;refine (jk (zw (jq (vf rfl (by decide) (yl _ _))))).trans (WQ ?_);have t:=Qu L (env:=[.aa (obj ps (L.map b7)),.aa (.ah (L.map b7)),.un,.un]) rfl;rw [decide_eq_true (by omega)] at t;show lH _ _ _ [.aa (obj ps (L.map b7)),.aa (.ah (L.map b7)),.un,.un]=_;unfold lH;rw [t];rfl
def QB {c:List (Tr×Tr)} {a:List H2} (n:a.length<=6) (h: ∀p,p.Perm a->Ord ns c (cw a) p):
   (∀p,(iY 7 a).find? (λp=>bX p c)=some p->bg [obj (c.map pd) ((cw a).map b7)]= .ok (bJ p))/\((iY 7 a).find? (λp=>bX p c)=none->bg [obj (c.map pd) ((cw a).map b7)]= .ok .aW):=by
 have l:D.ah ((cw a).map b7)=cn a:=by
   unfold cw cn;rw [lG];rfl
 have t:=Qu (cw a) (env:=[.aa (obj (c.map pd) ((cw a).map b7)),.aa (.ah ((cw a).map b7)),.un,.un]) rfl;rw [decide_eq_false (by unfold cw;rw [cg];omega)] at t
 have j:lH (a5 (ak (app (jb (ag 1) af) ce) (cI 6) pH)) (Yc "TooMany") (yR cz) [.aa (obj (c.map pd) ((cw a).map b7)),.aa (.ah ((cw a).map b7)),.un,.un]= .ok (.nx [.aa (obj (c.map pd) ((cw a).map b7)),.aa (.ah ((cw a).map b7)),.un,.un]):=by
   unfold lH;rw [t];rfl
 have g:fh (jn 1 (cv 8) (jb (ag 1) af)) [.aa (obj (c.map pd) ((cw a).map b7)),.aa (.ah ((cw a).map b7)),.un,.un]= .ok ((iY 7 a).map cn):=we (jA (jc rfl rfl) rfl (by rw [l];exact Qm 7 a (by omega) (bf _))) rfl;have lp:=uB (s:= .aa (.ah ((cw a).map b7))) (iY 7 a) .un .un λp i=>h p (QM 7 a p (by omega) i)
 constructor
 . intro p i;refine jhy ?_;refine (jk (zw (jq (vf rfl (by decide) (yl _ _))))).trans ((jk j).trans ?_);exact zg (zw (ym g (lp.1 p i)))
 . intro m;obtain ⟨o,q,e⟩:=lp.2 m;refine VD ?_;refine (jk (zw (jq (vf rfl (by decide) (yl _ _))))).trans ((jk j).trans ?_);exact (jk (zw (ym g e))).trans (zw rfl)
def X4 {o d:D} (h:bg [o]= .ok d):bE [o]= .ok d:=by
 have c: ∀(a:TC),lR ["NoHead", "TooMany"] (jB 2 (xk 1 bg (jb (ag 0) af))) 3 a [.aa o,.aa .aW,.aa .aW,.un]= .ok (.nx [.aa o,.aa .aW,.aa d,.un]):=λa=>by
  unfold lR;rw [show jB 2 (xk 1 bg (jb (ag 0) af)) [.aa o,.aa .aW,.aa .aW,.un]= .ok (.nx [.aa o,.aa .aW,.aa d,.un]) from jq ((QY (jc rfl rfl) rfl).trans h)]
 refine Hs ?_;refine (jk (jq rfl)).trans ((jk (jq rfl)).trans ((jk (c _)).trans ?_));exact zg ((en (jD (jh rfl rfl rfl))).trans (Kv rfl))
def Kl {o:D} (h:bg [o]= .exc "TooMany"):bE [o]= .ok (.str "too many"):=by
 have a:jB 2 (xk 1 bg (jb (ag 0) af)) [.aa o,.aa .aW,.aa .aW,.un]= .exc "TooMany" :=by
  unfold jB;rw [show xk 1 bg (jb (ag 0) af) [.aa o,.aa .aW,.aa .aW,.un]= .exc "TooMany" from (QY (jc rfl rfl) rfl).trans h];rfl
 have c:lR ["NoHead", "TooMany"] (jB 2 (xk 1 bg (jb (ag 0) af))) 3 (jB 1 (ag 3)) [.aa o,.aa .aW,.aa .aW,.un]= .ok (.nx [.aa o,.aa (.fL "TooMany"),.aa .aW,.un]):=by
  unfold lR;rw [a];dsimp only;rfl
 refine zM ?_;refine (jk (jq rfl)).trans ((jk (jq rfl)).trans ((jk c).trans ?_));refine (jk ((ck (jD (jh rfl rfl rfl))))).trans ?_;exact zg ((en (by rfl)))
end
def Jh (c:Int): ∃m:Int,bi [.int c]= .ok (.int m)/\0<=m:=by
 have e: ∀u:Slot,ak (cI 10) (cI 60) il [.aa (.int c),u]= .ok (.int (10^60)):=λu=>jh rfl rfl (VP (by decide))
 have g: ∀u:Slot,ak (cI 23) (cI 64) il [.aa (.int c),u]= .ok (.int (23^64)):=λu=>jh rfl rfl (VP (by decide))
 have h:0<=c%10^60:=C8 _ (by decide);have i:c%10^60<10^60:=EW _ (by decide);generalize j:c%10^60=x at h i;refine ⟨(x+41)*23^64%(10^60*10^24),zM ?_,C8 _ (by decide)⟩;show dF [.aa (.int c),.un]=_;unfold dF;have l:ak (ag 0) (ak (cI 10) (cI 60) il) bG [.aa (.int c),.aa (.int (10^60*10^24))]= .ok (.int x):=by rw [<-j];exact qT rfl (e _) (by decide)
 exact jM (qT (jfV (a:=210) (b:=300) (jg7 l rfl) (g _) (by omega) (by decide) (by decide)) rfl (by decide))
def ji4 (ds:List Int) (k:Nat): ∃c:Int,bp [.eN (ds.map D.int),.int k]= .ok (.int c):=by
 have a:a5 (ak (ag 1) (app (jb (ag 0) af) ce) ltI) [.aa (.eN (ds.map D.int)),.aa (.int k)]= .ok (decide ((k:Int)<ds.length)):=by
   refine jD (jh rfl (qW (jc rfl rfl) (d:= .int ds.length) ?_) rfl);show aj.ok (D.int ((ds.map D.int).length:Int))=_;rw [cg]
 by_cases c:k<ds.length
 . rw [decide_eq_true (by omega)] at a;refine ⟨ds[k],Hs ?_⟩;refine zg ((en a).trans (Kv (jh rfl rfl ?_)));simp only [aX];rw [M.eA,jF,cH c];rfl
 . rw [decide_eq_false (by omega)] at a;refine ⟨0,zM ?_⟩;exact (jk ((ck a))).trans rfl
def yL (ds:List Int) (k:Nat) {env:Sl} (h:ag 0 env= .ok (.eN (ds.map D.int))): ∃m:Int,jn 1 bi (jb (jn 2 bp (jb (ag 0) (jb (cI k) af))) af) env= .ok (.int m)/\0<=m:=by
 obtain ⟨c,e⟩:=ji4 ds k;obtain ⟨m,e2,a⟩:=Jh c;exact ⟨m,jA (jc (jA (jc h (jc rfl rfl)) rfl e) rfl) rfl e2,a⟩
def A7 {l:List D} {k:Nat} {x:D} (h:l[k]?=some x):aX (.ah l) (.int (k:Int))= .ok x:=by
 simp only [aX];rw [M.eA,h]
theorem WA {c:Type}: ∀ {l:List c} {i:Nat} {x:c},l[i]?=some x->(x::l.eraseIdx i).Perm l
 | [],i,x,h=>by simp at h
 |a::l,0,x,h=>by simp at h;subst h;exact tN _
 |a::l,i+1,x,h=>by
  exact (HA a x _).trans ((WA (by simpa using h)).cons a)
theorem Yx {c e:Type} (f:c->e): ∀(l:List c) (i:Nat),(l.map f).eraseIdx i=(l.eraseIdx i).map f
 | [],i=>rfl
 |a::l,0=>rfl
 |a::l,i+1=>by simp only [fF,List.eraseIdx_cons_succ,Yx f l i]
def QC (S:List D):mJ (.ah S) (.ah [])= .ok (.bl (!S.isEmpty)):=by
 cases S with
 |nil=>rfl
 |cons x r=>
  unfold mJ;rw [jl (.inr (by simp [Q3]))];simp [Wd,c6]
noncomputable abbrev QW:Sl->aj Bool:=a5 (ak (i6 2) (b9 af) mJ)
abbrev Q5:Sl->aj ba:=ax (tH (app (jb (ag 0) (jb (app (jb (i6 2) af) ce) af)) ZS) (g2 (gN 0) (gN 4))) (II 3 2 (ag 4))
section
variable {U:Type} {e:U->D}
theorem ud {A:Slot}: ∀(k g:Nat) (left c:List U) (n:Int) (j:Slot),left.length=k->k<g->k+c.length<=1000-> ∃(i:List U) (o:Int) (p:Slot),za g QW Q5 [.aa (.int n),A,.aw (.ah (left.map e)),.aw (.ah (c.map e)),j]= .ok (.nx [.aa (.int o),A,.aw (.ah []),.aw (.ah (i.map e)),p])/\i.Perm (c++left)
 |k,0,left,c,n,j,_,h,_=>absurd h (BE _)
 |0,g+1,left,c,n,j,q,_,_=>by
  cases E7.mp q;refine ⟨c,n,j,JZ ?_,by simp⟩;have r:b9 af [.aa (.int n),A,.aw (.ah (([]:List U).map e)),.aw (.ah (c.map e)),j]= .ok (.ah []):=xu rfl (jp (by decide));exact jD (jh rfl r (QC []))
 |k+1,g+1,left,c,n,j,q,J,L=>by
  have y:(0:Int)<left.length:=by omega
  have z:QW [.aa (.int n),A,.aw (.ah (left.map e)),.aw (.ah (c.map e)),j]= .ok true:=by
   have r:b9 af [.aa (.int n),A,.aw (.ah (left.map e)),.aw (.ah (c.map e)),j]= .ok (.ah []):=xu rfl (jp (by decide));refine jD ((jh rfl r (QC _)).trans ?_)
   cases left with
   |nil=>simp at q
   |cons a l=>rfl
  have B:=C8 n (show ((left.length:Int))≠0 by omega);have N:=EW n y;have v:(n%left.length).toNat<left.length:=by omega
  obtain ⟨x,w⟩: ∃x,left[(n%left.length).toNat]?=some x:=⟨_,cH v⟩
  have m:ce [.ah (left.map e)]= .ok (.int left.length):=by show aj.ok (D.int ((left.map e).length))=_;rw [cg]
  have E:Q5 [.aa (.int n),A,.aw (.ah (left.map e)),.aw (.ah (c.map e)),j]= .ok (.nx [.aa (.int (n/left.length)),A,.aw (.ah ((left.eraseIdx (n%left.length).toNat).map e)),.aw (.ah ((c++[x]).map e)),.aa (.int (n%left.length))]):=by
   refine (jk (jg0 (jjZ rfl (qW (jc rfl rfl) m) (by omega)))).trans ?_;show tQ 3 2 _ (c.map e) (left.map e) (.int (n%left.length))=_;simp only [tQ];rw [jF,w];simp only [Option.map_some];rw [jl ⟨⟨B,by omega⟩,by decide,by rw [cg];exact gT (by omega) tY⟩,Yx,tL];rfl
  rw [Q1 z E]
  have u:(left.eraseIdx (n%left.length).toNat).length=k:=by
   rw [List.length_eraseIdx_of_lt v];omega
  obtain ⟨H,o,p,e,I⟩:=ud k g (left.eraseIdx (n%left.length).toNat) (c++[x]) (n/left.length) (.aa (.int (n%left.length))) u (by omega) (by simp;omega);refine ⟨H,o,p,e,I.trans ?_⟩;rw [nH];exact List.Perm.append_left c (WA w)
def vZ (n:Int) (a:List U) (l:a.length<=60): ∃c:List U,bH [.int n,.ah (a.map e)]= .ok (.ah (c.map e))/\c.Perm a:=by
 obtain ⟨h,m,o,e,i⟩:=ud a.length 64 a [] n .un rfl (by omega) (by simp;omega);refine ⟨h,?_,by simpa using i⟩;refine zM ?_;refine (jk (yZ (qW (jc rfl rfl) rfl))).trans ?_;have j: ∀g,b9 af g= .ok (.ah []):=λg=>xu rfl (jp (by decide))
 refine (jk (yZ (j _))).trans ?_;exact (jk e).trans (jM rfl)
end
theorem Uz: ∀ {ds:List D} {d:D},d∈ds->gE d<=cG ds
 |x::r,d,h=>by
  have e:cG (x::r)=max (gE x) (cG r):=by
    simpa [cG] using this
  rcases dk.mp h with z|z
  . rw [z];omega
  . have:=Uz z;omega
def Q6 {a:List H2} {x:Str} {k:Nat} (h:(x,(k:Int))∈cw a):(x,k)∈a:=by
 obtain ⟨⟨y,j⟩,c,e⟩:=c4.mp h;obtain ⟨e1,e2⟩:=e;exact c
def Zx {c:List H2} {a:H2} (h:a∈c):(a.1,(a.2:Int))∈cw c:=c4.mpr ⟨a,h,rfl⟩
theorem Vr {c:List H2}: ∀(n:Nat) (t:Tr),gE t.d<=n+1->(∀x∈cy (bh t.d),x∈cw c)->Tn c n t
 |n,.bk i,_,_=>Tn.bk
 |n,.nd x l,h,g=>by
  have j:(x,l.length)∈c:=by
   refine Q6 (g _ ?_);rw [Tr.di];exact iA.mpr (.inl (by rw [cg]))
  have e: ∀p∈l,gE p.d<=n/\ ∀y∈cy (bh p.d),y∈cw c:=λp a=>by
   rw [Tr.di,QR] at h;have o:=Uz (Me (f:=Tr.d) a);refine ⟨by omega,λy m=>g y ?_⟩;rw [Tr.di];exact iA.mpr (.inr ⟨p.d,Me a,m⟩)
  cases n with
  |zero=>
   refine .inr ⟨_,j,rfl,?_⟩
   cases l with
   |nil=>rfl
   |cons p r=>
    have:=(e p ez).1;have:=Nu p.d;omega
  |succ n=>exact .inr ⟨_,j,rfl,λp a=>Vr n p (e p a).1 (e p a).2⟩
section
variable {ns:List Str}
def Kt {s t:Tr} (c:Tm ns 7 100 s) (mt:Tm ns 7 100 t) {a:H2} (e:s.hd=some a) (sub: ∀x∈eD t.d,x∈eD s.d) (sK: ∃m:List Int,m.length<=3/\ ∀x∈eD t.d,x∈m):Ru ns s.d t.d:=
 ⟨c.tk,mt.tk,⟨_,_,Tr.IT e⟩,dw c.hg (by decide),dw mt.hg (by decide),c.nu,mt.nu,sub,c.bk,sK⟩
def vY {l:List Hd} (h: ∀a∈l,a∈lY ns): ∃i:List H2,cw i=l/\ ∀a∈i,a.1∈ns/\a.2<=3:=by
 have c: ∀a∈l,a.1∈ns/\0<=a.2/\a.2<=3:=λa g=>by
   have:=h a g;unfold lY at this;rw [rc] at this;obtain ⟨z,m,j⟩:=this;simp at j;rcases j with e|e|e|e<;>subst e<;>exact ⟨m,by simp,by simp⟩
 refine ⟨l.map λa=>(a.1,a.2.toNat),?_,λa g=>?_⟩
 . unfold cw;rw [lG];refine (CM λa g=>?_).trans (List.map_id _);have:=c a g;refine vl rfl ?_;show ((a.2.toNat):Int)=a.2;omega
 . obtain ⟨b,n,rfl⟩:=c4.mp g;have:=c b n;exact ⟨this.1,by show b.2.toNat<=3;omega⟩
def ja6 {c:List H2} (h:(cw c).Nodup):c.Nodup:=Mf (λa e=>a (by rw [e])) (wr.mp h)
def A8 (ns:List Str) (a:List (Tr×Tr)):Prop:= ∀q∈a,Tm ns 7 100 q.1/\Tm ns 7 100 q.2/\Ru ns q.1.d q.2.d
def J8 (hN:oh ns) {g:List (Tr×Tr)} (i:A8 ns g) (r:g.length<=40) {f:TB} {env:Sl} (u:f env= .ok [.ah ((g.map pd).map rl)]):
  ∃j:List H2,wx "Rules" 1 aE f env= .ok (obj (g.map pd) ((cw j).map b7))/\j.Nodup/\(∀a∈j,a.1∈ns/\a.2<=3)/\ ∀x:Hd,x∈cw j↔ ∃q∈g,x∈cy (bh q.1.d)\/x∈cy (bh q.2.d):=by
 have n: ∀x:Hd,x∈nW (g.map pd)↔ ∃q∈g,x∈cy (bh q.1.d)\/x∈cy (bh q.2.d):=λx=>by
  unfold nW;simp only [rc,c4,i3]
  constructor
  . rintro ⟨p,⟨q,i,rfl⟩,h⟩;exact ⟨q,i,h⟩
  . rintro ⟨q,i,h⟩;exact ⟨_,⟨q,i,rfl⟩,h⟩
 have m: ∀x∈nW (g.map pd),x∈lY ns:=λx v=>by
  obtain ⟨q,c,h⟩:=(n x).mp v;exact h.elim ((i q c).1.hd x) ((i q c).2.1.hd x)
 obtain ⟨l,e,w,o⟩:=jhB hN.ln hN.nm (λp y=>by
  obtain ⟨q,c,rfl⟩:=c4.mp y
  exact (i q c).2.2) (by rw [cg];exact r) (U9 hN.ln) m u
 obtain ⟨j,e1,z⟩:=vY λa B=>m a ((o a).mp (iz.mp B))
 refine ⟨j,by rw [e1];exact e,ja6 (by rw [e1];exact (zK l).symm.nodup w),z,λx=>?_⟩;rw [e1,iz,o x,n x]
def Q7 (hN:oh ns) {j:List (Tr×Tr)} {e:List H2} (o:A8 ns j) (u:e.Nodup) (l: ∀a∈e,a.1∈ns/\a.2<=3) (v:e.length<=6) (r: ∀x:Hd,x∈cw e↔ ∃q∈j,x∈cy (bh q.1.d)\/x∈cy (bh q.2.d)): ∀p,p.Perm e->Ord ns j (cw e) p:=λp m=>by
 have i: ∀a,a∈p↔a∈e:=λa=>m.mem_iff
 have n: ∀x:Hd,x∈cw e->x∈cw p:=λx h=>by
   obtain ⟨a,g,rfl⟩:=c4.mp h;exact Zx ((i a).mpr g)
 refine ⟨⟨hN,λa g=>l a ((i a).mp g)⟩,⟨λa g=>hN.nm _ (l a ((i a).mp g)).1,λa g=>(l a ((i a).mp g)).2,m.symm.nodup u,by rw [m.length_eq];omega⟩,λq c=>⟨?_,?_⟩,n⟩
 . exact Vr 6 _ (o q c).1.hg λx h=>n x ((r x).mpr ⟨q,c,.inl h⟩)
 . exact Vr 6 _ (o q c).2.1.hg λx h=>n x ((r x).mpr ⟨q,c,.inr h⟩)
end
noncomputable def c0 (z:Str):Tr:= .nd z []
def A9 (z:Str):(c0 z).d= .ap [.str z]:=by unfold c0;rw [Tr.di];rfl
def XJ (z:Str):cy (bh (c0 z).d)=[(z,0)]:=by
 rw [A9];simp [bh,eh,cy]
section
variable {ns:List Str}
def Jm {z:Str} (h:z∈ns):Tm ns 1 1 (c0 z):=by
 have:=We (a:=0) (b:=0) (l:=[]) h (by simp) λp c=>by cases c
 exact this.up (bf _) (by simp)
def Qz (z:Str):eD (c0 z).d=[]:=by rw [A9];simp [eD,mL]
def Mg {e:H2->Nat} (a b:Str):gtB e (c0 a) (c0 b)=decide (e (a,0)<e (b,0)):=by
 have g:gt e (c0 a) (c0 b)↔e (a,0)<e (b,0):=by
   rw [xw]
   constructor
   . rintro (⟨p,i,_⟩| ⟨h,_⟩| ⟨_,pre,x,y,u,v,h,_⟩)
     . cases i
     . obtain ⟨n,o,j,l,m⟩:=Qv e h;cases j;cases l;exact m
     . have:=congrArg B5 h;simp [c0,Tr.au] at this
   . intro h;exact .inr (.inl ⟨IM e rfl rfl h,λp i=>by cases i⟩)
 by_cases c:e (a,0)<e (b,0)
 . rw [decide_eq_true c];exact g.mpr c
 . rw [decide_eq_false c]
   cases h:gtB e (c0 a) (c0 b) with
   |true=>exact (c (g.mp h)).elim
   |false=>rfl
noncomputable def bW (a:List Str):List H2:=a.map λz=>(z,0)
def bu (a:List Str) (k:Nat):Str:=a.getD k ""
def Jv {a:List Str} {k:Nat} (h:k<a.length):a[k]?=some (bu a k):=by
 unfold bu;rw [CQ,cH h];rfl
def wa {a:List Str} {k:Nat} (h:k<a.length):bu a k∈a:=sI (Jv h)
def uA {a:List Str} {k:Nat} (h:k<a.length) (e:k< (bW a).length):(bW a)[k]=(bu a k,0):=by
 have c:(bW a)[k]?=some (bu a k,0):=by
  unfold bW;rw [jF,Jv h];rfl
 rw [cH e] at c;exact ie c
def uz {a:List Str} (h:a.Nodup):(bW a).Nodup:=wr.mpr (Mf (λc e=>c (congrArg Prod.fst e)) h)
def Wn {a:List Str} (h:a.Nodup) {k:Nat} (c:k<a.length):c7 (bW a) (bu a k,0)=k:=by
 have e:k< (bW a).length:=by unfold bW;rw [cg];exact c
 have:=(uz h).idxOf_getElem k e;rw [uA c e] at this;exact this
def yp (a:List Str):List (Tr×Tr):=(fK (a.length-1)).map λk=>(c0 (bu a k),c0 (bu a (k+1)))
def jcR {a:List Str} (n:a.Nodup) {p:List H2} (e:p.Perm (bW a)) (h: ∀k,k+1<a.length->c7 p (bu a k,0)<c7 p (bu a (k+1),0)):p=bW a:=by
 have len:p.length=a.length:=by rw [e.length_eq];unfold bW;rw [cg]
 have mem: ∀k,k<a.length->(bu a k,0)∈p:=λk c=>e.mem_iff.mpr (c4.mpr ⟨_,wa c,rfl⟩)
 have lt: ∀k,k<a.length->c7 p (bu a k,0)<a.length:=λk c=>by
  have:=List.idxOf_lt_length_of_mem (mem k c);unfold c7;omega
 have l: ∀k,k<a.length->k<=c7 p (bu a k,0):=λk=>by
  induction k with
  |zero=>intro _;omega
  |succ k g=>
   intro c;have:=h k c;omega
 have le: ∀j k,k+j+1=a.length->c7 p (bu a k,0)<=k:=λj=>by
  induction j with
  |zero=>intro k c;have:=lt k (by omega);omega
  |succ j g=>
   intro k c;have m:=g (k+1) (by omega);have i:=h k (by omega);omega
 refine List.ext_getElem e.length_eq λk m i=>?_
 have c:k<a.length:=by omega
 have:=List.getElem_idxOf (List.idxOf_lt_length_of_mem (mem k c));rw [uA c i,<-this];congr 1;exact (Nat.le_antisymm (le (a.length-1-k) k (by omega)) (l k c)).symm
def Ue {a:List Str} (j:a.Nodup) {p:List H2} {g:List (Tr×Tr)} (l:g.Perm (yp a)) (m:p.Perm (bW a)):bX p g=decide (p=bW a):=by
 have e:bX p g=true↔ ∀k,k+1<a.length->c7 p (bu a k,0)<c7 p (bu a (k+1),0):=by
   unfold bX;rw [lI]
   constructor
   . intro h k i;have:=h (c0 (bu a k),c0 (bu a (k+1))) (l.mem_iff.mpr (c4.mpr ⟨k,ic.mpr (by omega),rfl⟩));rw [Mg] at this;exact of_decide_eq_true this
   . intro h q n;obtain ⟨k,i,rfl⟩:=c4.mp (l.mem_iff.mp n);have:=ic.mp i;rw [Mg];exact decide_eq_true (h k (by omega))
 by_cases c:p=bW a
 . rw [decide_eq_true c,e];intro k i;rw [c,Wn j (by omega),Wn j i];omega
 . rw [decide_eq_false c]
   cases h:bX p g with
   |true=>exact (c (jcR j m (e.mp h))).elim
   |false=>rfl
def jdu {a:List Str} (i:a.Nodup) {c:List H2} {e:List (Tr×Tr)} (j:c.length<=7) (l:e.Perm (yp a)) (m:c.Perm (bW a)):(iY 7 c).find? (λp=>bX p e)=some (bW a):=by
 have g:bX (bW a) e=true:=by rw [Ue i l (tN _)];exact decide_eq_true rfl
 cases h:(iY 7 c).find? (λp=>bX p e) with
 |none=>
  rw [Iu] at h;exact (h _ (VR 7 c _ j m.symm) g).elim
 |some p=>
  have n:=List.find?_some h;have o:=QM 7 c p j (List.mem_of_find?_eq_some h);rw [Ue i l (o.trans m)] at n;rw [of_decide_eq_true n]
def jgT {a:List Str} (h: ∀z∈a,z∈ns) {e:List (Tr×Tr)} (l:e.Perm (yp a)):A8 ns e:=λq m=>by
 obtain ⟨k,g,rfl⟩:=c4.mp (l.mem_iff.mp m);have g:=ic.mp g;have i:=(Jm (h _ (wa (k:=k) (by omega)))).up (h':=7) (m':=100) (by decide) (by decide);have j:=(Jm (h _ (wa (k:=k+1) (by omega)))).up (h':=7) (m':=100) (by decide) (by decide);refine ⟨i,j,Kt i j rfl (λx c=>?_) ⟨[],by simp,λx c=>?_⟩⟩
 . rw [Qz] at c;cases c
 . rw [Qz] at c;cases c
def jbY {a:List Str} (o:2<=a.length) {i:List (Tr×Tr)} (h:i.Perm (yp a)) (x:Hd):(∃q∈i,x∈cy (bh q.1.d)\/x∈cy (bh q.2.d))↔ ∃z∈a,x=(z,0):=by
 constructor
 . rintro ⟨q,m,j⟩;obtain ⟨k,g,rfl⟩:=c4.mp (h.mem_iff.mp m);have g:=ic.mp g;rw [XJ,XJ,g8,g8] at j;rcases j with e|e
   . exact ⟨_,wa (by omega),e⟩
   . exact ⟨_,wa (by omega),e⟩
 . rintro ⟨z,n,rfl⟩;obtain ⟨k,g,e⟩:=Ep.mp n
   have l:z=bu a k:=by
     have:=Jv g;rw [cH g,e] at this;exact ie this
   by_cases c:k+1<a.length
   . refine ⟨(c0 (bu a k),c0 (bu a (k+1))),h.mem_iff.mpr (c4.mpr ⟨k,ic.mpr (by omega),rfl⟩),.inl ?_⟩;rw [XJ,l];exact g8.mpr rfl
   . refine ⟨(c0 (bu a (k-1)),c0 (bu a (k-1+1))),h.mem_iff.mpr (c4.mpr ⟨k-1,ic.mpr (by omega),rfl⟩),.inr ?_⟩;rw [XJ,l,show k-1+1=k by omega];exact g8.mpr rfl
def jdZ {a:List Str} (l:a.Nodup) {c:List H2} (g:c.Nodup) (j: ∀x:Hd,x∈cw c↔ ∃z∈a,x=(z,0)):c.Perm (bW a):=by
 rw [List.perm_ext_iff_of_nodup g (uz l)];rintro ⟨z,k⟩
 constructor
 . intro h;obtain ⟨y,i,e⟩:=(j _).mp (Zx h);simp at e;have e1:=e.1;have e2:k=0:=by have:=e.2;omega
   subst e1 e2;exact c4.mpr ⟨z,i,rfl⟩
 . intro h;obtain ⟨y,i,e⟩:=c4.mp h;obtain ⟨e1,e2⟩:=e;exact Q6 ((j _).mpr ⟨_,i,rfl⟩)
end
def K1 (lo:Int) (n:Nat):wN lo (n+1)= .int lo::wN (lo+1) n:=by
 unfold wN;rw [List.range_succ_eq_map,fF,lG];congr 1
 . simp
 . apply CM;intro k _;simp only [Function.comp];congr 1
   push_cast
   omega
def jjT (a:List H2):cn a= .ah ((cw a).map b7):=by
 unfold cn cw;rw [lG];rfl
def jin (l:List H2):mJ (cn l) (cn l)= .ok (.bl false):=by
 have e1:D.eZ (cn l)=true:=by
  exact jdz (λ_=>rfl) l
 have e2:gq (cn l) (cn l)=true:=by
  exact YQ λd hd=>by
   obtain ⟨a,_,rfl⟩:=c4.mp hd;simp [hZ,Wd,c6]
 have c:D.cp (cn l)<=190:=by
  exact dw (Nat.succ_le_succ (jdS (k:=10) (λa=>by simp [hZ,D.cp,D.du]) l)) (by decide)
 unfold mJ;rw [jl (.inl ⟨e1,e1,c⟩),e2];rfl
def jjg {c:List Str} {hs:List H2} (hN:oh c) (h: ∀a∈hs,a.1∈c) (g:hs.length<=60):dY [bJ hs]= .ok (cn hs):=by
 have e:wS (hs.map mn)=some (cw hs):=by
  clear h g
  induction hs with
  |nil=>rfl
  |cons a r i=>
   show (match ED (mn a),wS (r.map mn) with|some a,some j=>some (a::j)|_,_=>none)=_;rw [i];rfl
 refine zM ?_
 exact jM (qW (jc rfl rfl) (oA (cn hs) (by
  show (match wS (hs.map mn) with|some hs=>a4 (hs.length<=1000/\VA hs=true) (aj.ok (D.ah (hs.map b7)))|none=> .ai)=_;rw [e,jjT];refine jl ⟨by unfold cw;rw [cg];omega,?_⟩;unfold VA;rw [lI];intro a l;obtain ⟨b,m,rfl⟩:=c4.mp l
  exact decide_eq_true (jp (dw (P2 (hN.nm _ (h b m))) (by decide))))))
def eQ (q:Tr×Tr):D:=rl (pd q)
def Mh (a:List (Tr×Tr)):a.map eQ=(a.map pd).map rl:=by rw [lG];rfl
def rD (a:List Str):D:= .ah (a.map λz=>(c0 z).d)
def Ft {a:List Str} {k:Nat} (h:k<a.length):aX (rD a) (.int (k:Int))= .ok (c0 (bu a k)).d:=by
 refine A7 ?_;rw [jF,Jv h];rfl
def Mi (a:List Str) {c:Sl} (h:ag 3 c= .ok (rD a)):app (jb (ag 3) af) ce c= .ok (.int a.length):=by
 refine qW (jc h rfl) ?_;show aj.ok (D.int ((a.map λz=>(c0 z).d).length:Int))=_;rw [cg]
abbrev Ra:Sl->aj ba:=yy 4 (aT (jb (ak (ag 3) (ag 5) aX) (jb (ak (ag 3) (ak (ag 5) (cI 1) cb) aX) af)))
def vJ {i:Nat} {f:TF} {a:Sl} {ds:List D} {d:D} (c:a[i]?=some (.aw (.ah ds))) (h:f a= .ok d) (e:ds.length<=10000):yy i f a= .ok (.nx (a.set i (.aw (.ah (ds++[d]))))):=by
 unfold yy;rw [KB c];rw [h];exact jl (gT (by omega) (jp (k:=20000) (by omega)))
theorem Rb {row:List Str} {g i j l m:Slot} (o:row.length<=60): ∀(c k:Nat) (a:List (Tr×Tr)) (n:Slot),k+c+1<=row.length->a.length=k-> ∃u,bn (qm (gN 5) Ra) (wN k c) [g,i,j,.aa (rD row),.aw (.ah (a.map eQ)),n,l,m]= .ok (.nx [g,i,j,.aa (rD row),.aw (.ah ((a++(List.range' k c).map λk=>(c0 (bu row k),c0 (bu row (k+1)))).map eQ)),u,l,m])
 |0,k,a,n,_,_=>⟨n,by simp [wN,bn]⟩
 |c+1,k,a,n,h,p=>by
  obtain ⟨u,e⟩:=Rb o c (k+1) (a++[(c0 (bu row k),c0 (bu row (k+1)))]) (.aa (.int k)) (by omega) (by rw [iE,p];rfl);refine ⟨u,?_⟩;rw [K1]
  have b:Ra [g,i,j,.aa (rD row),.aw (.ah (a.map eQ)),.aa (.int k),l,m]= .ok (.nx [g,i,j,.aa (rD row),.aw (.ah ((a++[(c0 (bu row k),c0 (bu row (k+1)))]).map eQ)),.aa (.int k),l,m]):=by
   refine (vJ (d:=eQ (c0 (bu row k),c0 (bu row (k+1)))) rfl (xr (jc (jh rfl rfl (Ft (by omega))) (jc (jh rfl (jh rfl rfl rfl) (Ft (by omega))) rfl)) (jp (show 2<=20000 by decide))) (by rw [cg];omega)).trans ?_;rw [tL];rfl
  refine (qj (xE rfl b)).trans (e.trans ?_);rw [Fk,fF,nH];rfl
noncomputable abbrev wM:Sl->aj ba:=cT (a5 (ak (qi "Ranks" "falls" 3 (λds=>oZ (aZ ds)) (ag 6) (jb (ak (ag 3) (ag 5) aX) (jb (ak (ag 3) (ag 7) aX) af))) (ak (ag 5) (ag 7) ltI) mJ)) (aM (cB false)) cz
section
variable {ns:List Str}
def jgd (hN:oh ns) {c:List Str} (e: ∀z∈c,z∈ns) (q:c.Nodup) {l n o p:Slot} {k j:Nat} (g:k<c.length) (h:j<c.length):wM [l,n,o,.aa (rD c),p,.aa (.int k),.aa (bJ (bW c)),.aa (.int j)]= .ok (.nx [l,n,o,.aa (rD c),p,.aa (.int k),.aa (bJ (bW c)),.aa (.int j)]):=by
 have P:sy ns (bW c):=⟨hN,λa y=>by obtain ⟨z,B,rfl⟩:=c4.mp y;exact ⟨e z B,i5 _⟩⟩
 have r: ∀i,i<c.length->Tn (bW c) 6 (c0 (bu c i)):=λi u=>Vr 6 _ (by have:=(Jm (e _ (wa u))).hg;omega) λx v=>by
  rw [XJ,g8] at v;subst v;exact Zx (c4.mpr ⟨_,wa u,rfl⟩)
 have w:=P9 P ((Jm (e _ (wa g))).up (by decide) (by decide)) ((Jm (e _ (wa h))).up (by decide) (by decide)) (r k g) (r j h);rw [Mg,Wn q g,Wn q h] at w
 have m:qi "Ranks" "falls" 3 (λds=>oZ (aZ ds)) (ag 6) (jb (ak (ag 3) (ag 5) aX) (jb (ak (ag 3) (ag 7) aX) af)) [l,n,o,.aa (rD c),p,.aa (.int k),.aa (bJ (bW c)),.aa (.int j)]= .ok (.bl (decide (k<j))):=DD (by decide) rfl (jc (jh rfl rfl (Ft g)) (jc (jh rfl rfl (Ft h)) rfl)) rfl (by
  rw [w];rfl)
 refine (ck (jD (jh m (oA (.bl (decide (k<j))) (by
  refine (jh (z:= .bl (decide ((k:Int)<j))) rfl rfl rfl).trans ?_;congr 2
  exact decide_eq_decide.mpr (by omega))) ?_))).trans rfl
 cases decide (k<j)<;>rfl
theorem Rc (hN:oh ns) {a:List Str} (i: ∀z∈a,z∈ns) (l:a.Nodup) {m n o p:Slot} {k:Nat} (q:k<a.length): ∀(c j:Nat) (u:Slot),j+c<=a.length-> ∃g,bn (qm (gN 7) wM) (wN j c) [m,n,o,.aa (rD a),p,.aa (.int k),.aa (bJ (bW a)),u]= .ok (.nx [m,n,o,.aa (rD a),p,.aa (.int k),.aa (bJ (bW a)),g])
 |0,j,u,_=>⟨u,by simp [wN,bn]⟩
 |c+1,j,u,h=>by
  obtain ⟨g,e⟩:=Rc hN i l q c (j+1) (.aa (.int j)) (by omega);refine ⟨g,?_⟩;rw [K1];exact (qj (xE rfl (jgd hN i l q (by omega)))).trans e
noncomputable abbrev Mj:Sl->aj ba:=dz (mE (jb (app (jb (ag 3) af) ce) af)) (gN 7) wM
theorem VV (hN:oh ns) {a:List Str} (o: ∀z∈a,z∈ns) (p:a.Nodup) (q:a.length<=60) {g i j l:Slot}: ∀(c k:Nat) (u v:Slot),k+c<=a.length-> ∃m n,bn (qm (gN 5) Mj) (wN k c) [g,i,j,.aa (rD a),l,u,.aa (bJ (bW a)),v]= .ok (.nx [g,i,j,.aa (rD a),l,m,.aa (bJ (bW a)),n])
 |0,k,u,v,_=>⟨u,v,by simp [wN,bn]⟩
 |c+1,k,u,v,h=>by
  obtain ⟨r,e1⟩:=Rc hN o p (k:=k) (by omega) a.length 0 v (by omega);obtain ⟨m,n,e⟩:=VV hN o p q c (k+1) (.aa (.int k)) r (by omega);refine ⟨m,n,?_⟩;rw [K1];refine (qj (xE rfl ?_)).trans e;have:=WW (fa:=jb (app (jb (ag 3) af) ce) af) (env:=[g,i,j,.aa (rD a),l,.aa (.int k),.aa (bJ (bW a)),v]) (jc (Mi a rfl) rfl) (by omega);exact ym this (by rw [show ((a.length:Int)).toNat=a.length by omega];exact e1)
def Rf (hN:oh ns) (w:List Int) {g:List Str} (hm: ∀z∈g,z∈ns) (y:g.Nodup) (h2:2<=g.length) (h7:g.length<=7):fz [.eN (w.map D.int),.ah (g.map D.str)]= .ok (.bl true):=by
 generalize hS:D.eN (w.map D.int)=S;obtain ⟨m,em,E9⟩:=yL w 1 (env:=[.aa S,.aa (.ah (g.map D.str)),.un,.un,.un,.un,.un,.un]) (by rw [hS];rfl);obtain ⟨e,er,B⟩:=vZ m g (by omega);have lr:=B.length_eq;have E:=B.symm.nodup y;have H: ∀z∈e,z∈ns:=λz q=>hm z (B.mem_iff.mp q)
 obtain ⟨i,U⟩:=Rb (row:=e) (by omega) (e.length-1) 0 [] .un (by omega) rfl;rw [Dj,<-L8] at U;obtain ⟨j,eq,v⟩:=vZ (m/5040) (yp e) (by unfold yp;rw [cg,AX];omega)
 have lq:j.length<=40:=by
   rw [v.length_eq];unfold yp;rw [cg,AX];omega
 have Y:=jgT H v;obtain ⟨I,Z,r,h3,l⟩:=J8 hN Y lq (f:=jb (ag 4) af) (env:=[.aa S,.aa (.ah (g.map D.str)),.aa (.int m),.aa (rD e),.aa (.ah (j.map eQ)),i,.un,.un]) (jc (by rw [<-Mh];rfl) rfl);have o: ∀x:Hd,x∈cw I↔ ∃z∈e,x=(z,0):=λx=>(l x).trans (jbY (by omega) v x)
 have ph:=jdZ E r o;have lh:I.length=g.length:=by rw [ph.length_eq];unfold bW;rw [cg];exact lr
 have n: ∀p:Sl,ag 1 p= .ok (.ah (g.map D.str))->a5 (ak (app (jb (ag 1) af) ce) (cI 6) pH) p= .ok (decide ((6)< (g.length:Int))):=λp h=>by
   refine jD (jh (qW (jc h rfl) (d:= .int (g.length)) ?_) rfl rfl);show aj.ok (D.int ((g.map D.str).length:Int))=_;rw [cg]
 refine zM ?_;unfold fy
 refine (jk (jq em)).trans ((jk (jq (oA (rD e) (by
   refine (XF (λd=> .ap [d]) (λ_=>True) rfl (we (jA (jc rfl (jc rfl rfl)) rfl er) rfl) (λ_ _=>trivial) (by rw [cg];exact jp (by omega)) λd J _=>xr (jc rfl rfl) (jp (show 1<=20000 by decide))).trans ?_;unfold rD;rw [lG]
   congr 2)))).trans ((jk (yZ (xu rfl (jp (by decide))))).trans ?_))
 refine (jk (ym (oA (wN 0 (e.length-1)) (by
   refine (WW (jc (jh (Mi e rfl) rfl rfl) rfl) (by omega)).trans ?_;congr 2
   omega)) U)).trans ?_
 have s5:lP 4 (fV 4 (jn 2 bH (jb (ak (ag 2) (cI 5040) dh) (jb (ag 4) af)))) [.aa S,.aa (.ah (g.map D.str)),.aa (.int m),.aa (rD e),.aw (.ah ((yp e).map eQ)),i,.un,.un]= .ok (.nx [.aa S,.aa (.ah (g.map D.str)),.aa (.int m),.aa (rD e),.aw (.ah (j.map eQ)),i,.un,.un]):=
   yZ (jA (jc (jh rfl rfl (yV (by decide))) (jc rfl rfl)) rfl eq)
 refine (jk s5).trans ?_
 by_cases c:g.length<=6
 . have N:=(QB (by omega) (Q7 hN Y r h3 (by omega) l)).1 _ (jdu E (by omega) v ph)
   have O:lP 4 (jB 6 (jn 1 bE (jb (wx "Rules" 1 aE (jb (ag 4) af)) af))) [.aa S,.aa (.ah (g.map D.str)),.aa (.int m),.aa (rD e),.aw (.ah (j.map eQ)),i,.un,.un]= .ok (.nx [.aa S,.aa (.ah (g.map D.str)),.aa (.int m),.aa (rD e),.aa (.ah (j.map eQ)),i,.aa (bJ (bW e)),.un]):=
    jq (jA (jc Z rfl) rfl (X4 N))
   refine (jk O).trans ?_;have u:=n [.aa S,.aa (.ah (g.map D.str)),.aa (.int m),.aa (rD e),.aa (.ah (j.map eQ)),i,.aa (bJ (bW e)),.un] rfl;rw [decide_eq_false (by omega)] at u;refine (jk ((ck u))).trans ?_;have td:=jjg hN (hs:=bW e) (λa ha=>by obtain ⟨z,q,rfl⟩:=c4.mp ha;exact H z q) (by unfold bW;rw [cg];omega)
   refine (jk ((ck (Zl (b:=false) (by rfl) (jD (jh (oA (cn (bW e)) (DD (by decide) rfl rfl rfl td)) (oA (cn (bW e)) (by
    refine (XF (λd=>match d with| .ap (x::_)=> .ap [x,.int 0]|d=>d) (λd=> ∃z,d= .ap [.str z]) rfl (we rfl rfl) (λd hd=>by obtain ⟨z,_,rfl⟩:=c4.mp hd;exact ⟨z,A9 z⟩) (by rw [cg];exact jp (by omega)) λd J ⟨z,q⟩=>by
     subst q
     exact xr (jc (jh rfl rfl rfl) (jc rfl rfl)) (jp (show 2<=20000 by decide))).trans ?_
    unfold cn bW;rw [lG,lG]
    congr 2)) (jin _))))))).trans ?_
   obtain ⟨u',v',e8⟩:=VV hN H E (by omega) e.length 0 i .un (by omega);have Q:=WW (fa:=jb (app (jb (ag 3) af) ce) af) (env:=[.aa S,.aa (.ah (g.map D.str)),.aa (.int m),.aa (rD e),.aa (.ah (j.map eQ)),i,.aa (bJ (bW e)),.un]) (jc (Mi e rfl) rfl) (by omega);refine (jk (ym Q (by rw [show ((e.length:Int)).toNat=e.length by omega];exact e8))).trans ?_;rfl
 . have N:=kJ (ps:=j.map pd) (L:=cw I) (by unfold cw;rw [cg];omega)
   have O:lP 4 (jB 6 (jn 1 bE (jb (wx "Rules" 1 aE (jb (ag 4) af)) af))) [.aa S,.aa (.ah (g.map D.str)),.aa (.int m),.aa (rD e),.aw (.ah (j.map eQ)),i,.un,.un]= .ok (.nx [.aa S,.aa (.ah (g.map D.str)),.aa (.int m),.aa (rD e),.aa (.ah (j.map eQ)),i,.aa (.str "too many"),.un]):=
    jq (jA (jc Z rfl) rfl (Kl N))
   refine (jk O).trans ?_;have u:=n [.aa S,.aa (.ah (g.map D.str)),.aa (.int m),.aa (rD e),.aa (.ah (j.map eQ)),i,.aa (.str "too many"),.un] rfl;rw [decide_eq_true (by omega)] at u;exact zg ((en u).trans (jM (jh rfl rfl (by rfl))))
end
theorem ZV {cs:List Slot} {g:TD} {j:TF} (p:D->Bool) (h:D->D) (P:D->Prop) (l: ∀d a,P d->g (.aa d::(cs++[.aw (.ah a)]))= .ok (p d)) (m: ∀d a,P d->j (.aa d::(cs++[.aw (.ah a)]))= .ok (h d)):
  ∀(ds:List D) (x:Slot) (a:List D),(∀d∈ds,P d)->a.length+ds.length<=aV->
   ∃(y:Slot),q8 (1+cs.length) (gN 0) g j ds (x::(cs++[.aw (.ah a)]))= .ok (y::(cs++[.aw (.ah (a++(ds.filter p).map h))]))
 | [],x,a,_,_=>⟨x,by simp [q8]⟩
 |d::ds,x,a,i,r=>by
  simp at r;have u:=m d a (i d (by simp));have q:=l d a (i d (by simp))
  have e1:cq (1+cs.length) (.aa d::(cs++[.aw (.ah a)]))= .ok a:=by
   unfold cq;rw [show (1+cs.length)=cs.length+1 by omega,rY,lF (bf _)];simp
  have e2:(Slot.aa d::(cs++[Slot.aw (.ah a)])).set (1+cs.length) (.aw (.ah (a++[h d])))= .aa d::(cs++[.aw (.ah (a++[h d]))]):=by
   rw [show (1+cs.length)=cs.length+1 by omega,Fj,L6 _ _ (bf _)];simp
  cases c:p d with
  |true=>
   obtain ⟨y,n⟩:=ZV p h P l m ds (.aa d) (a++[h d]) (λe o=>i e (by simp [o])) (by simp;omega);refine ⟨y,?_⟩;show (g (.aa d::(cs++[.aw (.ah a)]))>>=_)=_;rw [q,c];show (j (.aa d::(cs++[.aw (.ah a)]))>>=_)=_;rw [u];show (cq (1+cs.length) (.aa d::(cs++[.aw (.ah a)]))>>=_)=_;rw [e1];show a4 _ _=_;rw [jl (by omega)];show q8 _ _ _ _ ds ((Slot.aa d::(cs++[Slot.aw (.ah a)])).set (1+cs.length) (.aw (.ah (a++[h d]))))=_;rw [e2,n];simp [List.filter_cons,c]
  |false=>
   obtain ⟨y,n⟩:=ZV p h P l m ds (.aa d) a (λe o=>i e (by simp [o])) (by omega);refine ⟨y,?_⟩;show (g (.aa d::(cs++[.aw (.ah a)]))>>=_)=_;rw [q,c];show q8 _ _ _ _ ds (.aa d::(cs++[.aw (.ah a)]))=_;rw [n];simp [List.filter_cons,c]
def jdY {g:List Nat} {j:TB} {l:TD} {m:TF} {a:Sl} {ds:List D} {cs:List Slot} (p:D->Bool) (h:D->D) (P:D->Prop) (n:g.map (oz false a)=cs) (o:j a= .ok ds) (q: ∀d∈ds,P d) (r:ds.length<=aV)
  (u: ∀d e,P d->l (.aa d::(cs++[.aw (.ah e)]))= .ok (p d)) (v: ∀d e,P d->m (.aa d::(cs++[.aw (.ah e)]))= .ok (h d)):zE false 1 g j (gN 0) l m a= .ok (.ah ((ds.filter p).map h)):=by
 obtain ⟨y,w⟩:=ZV p h P u v ds .un [] q (by simpa using r);have i:g.length=cs.length:=by rw [<-n];simp
 show (j a>>=_)=_;rw [o];show (q8 (1+g.length) (gN 0) l m ds (wI false 1 g a)>>=_)=_
 have z:wI false 1 g a= .un::(cs++[.aw (.ah [])]):=by
  unfold wI;rw [n];rfl
 rw [z,i,w];show (cq (1+cs.length) (y::(cs++[.aw (.ah ([]++(ds.filter p).map h))]))>>=_)=_
 have e1:cq (1+cs.length) (y::(cs++[.aw (.ah ([]++(ds.filter p).map h))]))= .ok ((ds.filter p).map h):=by
  unfold cq;rw [show (1+cs.length)=cs.length+1 by omega,rY,lF (bf _)];simp
 rw [e1];exact jl (c:=false=true->D.iQ ((ds.filter p).map h)=true) (λh=>by cases h)
def vq {i:Nat} {c e:TF} {a:Sl} {ds:List D} {d:D} {k:Int} (g:a[i]?=some (.aw (.ah ds))) (h:c a= .ok (.int k)) (j:e a= .ok d) (l:0<=k) (m:k<2^63) (n:ds.length<aV):ZH i c e a= .ok (.nx (a.set i (.aw (.ah (ds.take k.toNat++d::ds.drop k.toNat))))):=by
 unfold ZH;rw [KB g];show (c a>>=_)=_;rw [h];show (e a>>=_)=_;rw [j];exact jl ⟨l,m,n⟩
def wJ (x:Str) (l:List Tr):eD (Tr.nd x l).d=l.flatMap λp=>eD p.d:=by
 rw [Tr.di,Vk,ZZ,List.flatMap_map]
def JU (i:Nat):eD (Tr.bk i).d=[(i:Int)]:=by simp [Tr.d,eD]
section
variable {ns:List Str}
def eqT {s t:Tr} (c:Tm ns 7 100 s):eB s.d t.d= .ok (.bl (decide (s=t))):=by
 obtain ⟨g,e,_⟩:=vY (ns:=ns) (l:=lY ns) λa h=>h
 exact Fa (hs:=g) (n:=6) (by decide) (Vr 6 s c.hg λx i=>by rw [e];exact c.hd x i)
def lT (a c:Str) (b:Nat):Tr:= .nd a [.bk b,c0 c]
noncomputable def rT (a c e g:Str) (b:Nat):Nat->Tr
 |0=> .nd a [.nd e [.bk b],c0 c]
 |k+1=> .nd g [rT a c e g b k]
theorem Rg {e:H2->Nat} {a c g i:Str} {b:Nat}: ∀k,¬gt e (lT a c b) (rT a c g i b k)
 |0=>λh=>by
  have j:gt e (.nd g [.bk b]) (.bk b):=wA (p:= .bk b) (g8.mpr rfl) (.inl rfl);have l:gt e (rT a c g i b 0) (lT a c b):=jiI (x:=a) (pre:=[]) (post:=[c0 c]) j;exact jgi h l
 |k+1=>λh=>Rg k (JF _ _ h (g8.mpr rfl))
def Rh {g c:Str} {b:Nat} (i:g∈ns) (j:c∈ns) (m:b<=999):Tm ns 2 3 (lT g c b):=by
 refine We (a:=1) (b:=1) (l:=[.bk b,c0 c]) i (by simp) λp h=>?_
 . simp only [dk,E6,or_false] at h;rcases h with e|e<;>subst e
   . exact DB m
   . exact Jm j
theorem Ri {g h i j:Str} {b:Nat} (l:g∈ns) (m:h∈ns) (n:i∈ns) (o:j∈ns) (q:b<=999): ∀k,Tm ns (k+3) (k+5) (rT g h i j b k)
 |0=>(We (a:=2) (b:=2) l (by simp) λp c=>by
  simp only [dk,E6,or_false] at c;rcases c with e|e<;>subst e
  . exact (We (a:=1) (b:=1) n (by simp) λp c=>by rw [g8.mp c];exact DB q).up (by decide) (by simp)
  . exact (Jm m).up (by decide) (by decide)).up (bf _) (by simp)
 |k+1=>(We (a:=k+3) (b:=k+5) o (by simp) λp c=>by rw [g8.mp c];exact Ri l m n o q k).up (by omega) (by simp)
def jiv (a c:Str) (b:Nat):eD (lT a c b).d=[(b:Int)]:=by
 unfold lT;rw [wJ];simp [JU,Qz]
theorem uF (a c e g:Str) (b:Nat): ∀k,eD (rT a c e g b k).d=[(b:Int)]
 |0=>by
  unfold rT;rw [wJ];simp [wJ,JU,Qz]
 |k+1=>by
  unfold rT;rw [wJ];simp [uF a c e g b k]
noncomputable def pT (a y:Str):Tr×Tr:=(.nd a [.nd y [.bk 4,.bk 5]],.bk 4)
def Rj {g y:Str} (h:g∈ns) (i:y∈ns):Tm ns 3 4 (pT g y).1:=
 (We (a:=2) (b:=3) h (by simp) λp c=>by
  rw [g8.mp c]
  exact (We (a:=1) (b:=1) i (by simp) λp c=>by
   simp only [dk,E6,or_false] at c
   rcases c with e|e<;>subst e<;>exact DB (by decide)).up (by decide) (by simp)).up (by decide) (by simp)
def jjC {c y:Str} (l:c∈ns) (m:y∈ns):Tm ns 7 100 (pT c y).1/\Tm ns 7 100 (pT c y).2/\Ru ns (pT c y).1.d (pT c y).2.d:=by
 have g:=(Rj l m).up (h':=7) (m':=100) (by decide) (by decide);have h:Tm ns 7 100 (pT c y).2:=(DB (ns:=ns) (i:=4) (by decide)).up (by decide) (by decide);have j:eD (pT c y).2.d=[4]:=JU 4;refine ⟨g,h,Kt g h (a:=(c,1)) rfl (λx e=>?_) ⟨[4],by simp,λx e=>by rw [j] at e;exact e⟩⟩;rw [j,g8] at e;subst e;show (4:Int)∈eD (Tr.nd c [.nd y [.bk 4,.bk 5]]).d;rw [wJ];simp [wJ,JU]
def wz (x:Str) (l:List Tr) (a:Hd):a∈cy (bh (Tr.nd x l).d)↔a=(x,(l.length:Int))\/ ∃p∈l,a∈cy (bh p.d):=by
 rw [Tr.di,iA,cg]
 constructor
 . rintro (h| ⟨t,e,h⟩)
   . exact .inl h
   . obtain ⟨p,c,rfl⟩:=c4.mp e;exact .inr ⟨p,c,h⟩
 . rintro (h| ⟨p,c,h⟩)
   . exact .inl h
   . exact .inr ⟨p.d,Me c,h⟩
def UC (i:Nat):cy (bh (Tr.bk i).d)=[]:=by simp [Tr.d,bh,cy]
noncomputable def nX (e a c g:Str):List Hd:=[(e,2),(a,0),(c,1),(g,1),(a,2),(c,2)]
def jjP {c g i j:Str} {b:Nat} {a:Hd} (h:a∈cy (bh (lT c g b).d)):a∈nX c g i j:=by
 unfold lT at h;rw [wz] at h;simp [UC,XJ] at h;unfold nX;rcases h with e|e<;>subst e<;>simp
theorem Rk {c g i j:Str} {b:Nat} {a:Hd}: ∀k,a∈cy (bh (rT c g i j b k).d)->a∈nX c g i j
 |0,h=>by
  unfold rT at h;rw [wz] at h;simp [wz,UC,XJ] at h;unfold nX;rcases h with e|e|e<;>subst e<;>simp
 |k+1,h=>by
  unfold rT at h;rw [wz] at h;rcases h with e| ⟨p,l,h⟩
  . subst e;unfold nX;simp
  . rw [g8.mp l] at h;exact Rk k h
def jjD {g i c j y:Str} (l:y=g\/y=i\/y=c) {a:Hd} (h:a∈cy (bh (pT c y).1.d)\/a∈cy (bh (pT c y).2.d)):a∈nX g i c j:=by
 unfold pT at h;rw [wz] at h;simp [wz,UC] at h;unfold nX;rcases l with e|e|e<;>subst e<;>rcases h with e|e<;>subst e<;>simp
end
def ko {e:TF} {c:Sl} {a:D} (g:e c= .ok a):aT (jb e af) c= .ok (.ap [a]):=xr (jc g rfl) (jp (show 1<=20000 by decide))
def xG {e g:TF} {c:Sl} {a b:D} (h:e c= .ok a) (i:g c= .ok b):aT (jb e (jb g af)) c= .ok (.ap [a,b]):=xr (jc h (jc i rfl)) (jp (show 2<=20000 by decide))
def Kj {g h i:TF} {e:Sl} {a b c:D} (j:g e= .ok a) (l:h e= .ok b) (m:i e= .ok c):aT (jb g (jb h (jb i af))) e= .ok (.ap [a,b,c]):=xr (jc j (jc l (jc m rfl))) (jp (show 3<=20000 by decide))
section
variable {ns:List Str}
def lZ {k:Nat} (h:k<ns.length):aX (.ah (ns.map D.str)) (.int (k:Int))= .ok (.str (bu ns k)):=by
 refine A7 ?_;rw [jF,Jv h];rfl
abbrev Rl:Sl->aj ba:=jB 5 (aT (jb (ak (ag 1) (ak (cI 2) (ak (ak (ag 2) (cI 5000) dh) (cI 2) bG) cb) aX) (jb (ag 5) af)))
theorem vU {c g h a:Str} {b:Nat} {m:Int} {i j l n o:Slot} (q:aX (.ah (ns.map D.str)) (.int (2+m/5000%2))= .ok (.str a)): ∀(ds:List D) (k:Nat) (u:Slot),∃p,bn (qm (gN 6) Rl) ds [i,.aa (.ah (ns.map D.str)),.aa (.int m),j,l,.aa (rT c g h a b k).d,u,n,o]= .ok (.nx [i,.aa (.ah (ns.map D.str)),.aa (.int m),j,l,.aa (rT c g h a b (k+ds.length)).d,p,n,o])
 | [],k,u=>⟨u,rfl⟩
 |d::ds,k,u=>by
  obtain ⟨p,e⟩:=vU q ds (k+1) (.aa d);refine ⟨p,?_⟩
  have w:Rl [i,.aa (.ah (ns.map D.str)),.aa (.int m),j,l,.aa (rT c g h a b k).d,.aa d,n,o]= .ok (.nx [i,.aa (.ah (ns.map D.str)),.aa (.int m),j,l,.aa (rT c g h a b (k+1)).d,.aa d,n,o]):=by
   refine (jq ((xG (jh rfl (jh rfl (qT (jh rfl rfl (yV (by decide))) rfl (by decide)) rfl) q) rfl).trans ?_)).trans rfl;rw [show rT c g h a b (k+1)= .nd a [rT c g h a b k] from rfl,Tr.di];rfl
  refine (qj (xE rfl w)).trans (e.trans ?_);rw [fb,show k+1+ds.length=k+(ds.length+1) by omega]
structure Lp (z0 z1 z2:Str) (q0:Tr×Tr) (L:List (Tr×Tr)):Prop where
 main:q0∈L
 all: ∀q∈L,q=q0\/ ∃y,(y=z0\/y=z1\/y=z2)/\q=pT z2 y
noncomputable abbrev DF:Sl->aj ba:=ax (jB 2 (jn 1 bi (jb (ag 8) af))) (ZH 7 (ak (ag 2) (cI 2) bG) (aT (jb (aT (jb (ak (ag 1) (cI 2) aX) (jb (aT (jb (ak (ag 1) (ak (ak (ag 2) (cI 2) dh) (cI 3) bG) aX) (jb (cI 4) (jb (cI 5) af)))) af))) (jb (cI 4) af))))
def jdk (E:ns.length=7) {g:Tr×Tr} {L:List (Tr×Tr)} (h:Lp (bu ns 0) (bu ns 1) (bu ns 2) g L) (H:L.length<=100) (c:Int) (i l n o p u:Slot): ∃(a:List (Tr×Tr)) (v:Slot),Lp (bu ns 0) (bu ns 1) (bu ns 2) g a/\a.length=L.length+1/\DF [i,.aa (.ah (ns.map D.str)),u,l,n,o,p,.aw (.ah (L.map eQ)),.aa (.int c)]= .ok (.nx [i,.aa (.ah (ns.map D.str)),v,l,n,o,p,.aw (.ah (a.map eQ)),.aa (.int c)]):=by
 obtain ⟨m,em,I⟩:=Jh c;obtain ⟨j,J,w⟩: ∃j:Nat,j<3/\m/2%3=(j):=⟨(m/2%3).toNat,by omega,by omega⟩
 have y:bu ns j=bu ns 0\/bu ns j=bu ns 1\/bu ns j=bu ns 2:=by
   have:j=0\/j=1\/j=2:=by omega
   rcases this with e|e|e<;>subst e<;>simp
 have r:=lZ (ns:=ns) (k:=j) (by omega);rw [<-w] at r;refine ⟨L.take (m%2).toNat++pT (bu ns 2) (bu ns j)::L.drop (m%2).toNat,.aa (.int m),⟨?_,λq B=>?_⟩,?_,?_⟩
 . have:=h.main;rw [<-Iq (m%2).toNat L] at this;rcases i3.mp this with z|z
   . exact i3.mpr (.inl z)
   . exact i3.mpr (.inr (dZ _ z))
 . rcases i3.mp B with z|z
   . exact h.all q (EY z)
   . rcases dk.mp z with e|z
     . exact .inr ⟨_,y,e⟩
     . exact h.all q (EZ z)
 . simp;omega
 . refine (jk (jq (jA (jc rfl rfl) rfl em))).trans ?_
   refine (vq rfl (qT rfl rfl (by decide)) (oA (eQ (pT (bu ns 2) (bu ns j))) (by
   refine (xG (xG (jh rfl rfl (lZ (ns:=ns) (k:=2) (by omega))) (Kj (jh rfl (qT (jh rfl rfl (yV (by decide))) rfl (by decide)) r) rfl rfl)) rfl).trans ?_
   rfl)) (by omega) (by omega) (by rw [cg];exact gT (by omega) (jp (k:=1000) (by decide)))).trans ?_
   rw [<-Fs,<-Fp,<-fF,<-tL];rfl
theorem Uw (u:ns.length=7) {v:Tr×Tr} {i j l m n:Slot}: ∀(cs:List Int) (L:List (Tr×Tr)) (a g:Slot),Lp (bu ns 0) (bu ns 1) (bu ns 2) v L->L.length+cs.length<=40-> ∃(e:List (Tr×Tr)) (o w:Slot),Lp (bu ns 0) (bu ns 1) (bu ns 2) v e/\e.length<=40/\bn (qm (gN 8) DF) (cs.map D.int) [i,.aa (.ah (ns.map D.str)),a,j,l,m,n,.aw (.ah (L.map eQ)),g]= .ok (.nx [i,.aa (.ah (ns.map D.str)),o,j,l,m,n,.aw (.ah (e.map eQ)),w])
 | [],L,a,g,h,p=>⟨L,a,g,h,by simpa using p,rfl⟩
 |c::cs,L,a,g,h,p=>by
  rw [fb] at p;obtain ⟨y,o,z,H,e1⟩:=jdk u h (by omega) c i j l m n a;obtain ⟨e,q,r,B,E,e2⟩:=Uw u cs y o (.aa (.int c)) z (by omega);exact ⟨e,q,r,B,E,(qj (xE rfl e1)).trans e2⟩
noncomputable def o7 (l:Tr) (a:Str) (d:D):Bool:= @decide (∃q:Tr×Tr,d=eQ q/\(q.1=l\/ ∃y,y=a/\ ∃c,q=pT c y)) (sC _)
def jiR {a b:Tr×Tr} (h:eQ a=eQ b):a=b:=by
 unfold eQ rl pd at h;simp at h;exact vl (Tr.kF _ _ h.1) (Tr.kF _ _ h.2)
def Ul {l:Tr} {a:Str} {q:Tr×Tr} (h:q.1=l):o7 l a (eQ q)=true:= @decide_eq_true _ (sC _) ⟨q,rfl,.inl h⟩
abbrev Rm:Sl->aj Bool:=iU (a5 (ak (ak (ag 0) (cI 0) aX) (ag 1) eB)) (a5 (ak (ak (ak (ak (ag 0) (cI 0) aX) (cI 1) aX) (cI 0) aX) (ak (ag 2) (cI 0) aX) eB))
def jf6 (hN:oh ns) (w:ns.length=7) {l q:Tr×Tr} {b:Nat} (m:b<=999) (g:l.1=lT (bu ns 0) (bu ns 1) b) (n:q=l\/ ∃y,(y=bu ns 0\/y=bu ns 1\/y=bu ns 2)/\q=pT (bu ns 2) y) (u:Slot):Rm [.aa (eQ q),.aa (lT (bu ns 0) (bu ns 1) b).d,.aa (.ah (ns.map D.str)),u]= .ok (o7 (lT (bu ns 0) (bu ns 1) b) (bu ns 0) (eQ q)):=by
 have o:=lZ (ns:=ns) (k:=0) (by omega);have a: ∀k,k<7->bu ns k∈ns:=λk B=>wa (by omega)
 rcases n with e| ⟨y,p,e⟩
 . subst e;rw [Ul g];refine IW (jD ((jh (jh rfl rfl rfl) rfl (eqT (ns:=ns) ?_)).trans ?_))
   . rw [g];exact (Rh (a 0 (by decide)) (a 1 (by decide)) m).up (by decide) (by decide)
   . rw [decide_eq_true g]
 . subst e
   have i:y∈ns:=by
     rcases p with e|e|e<;>rw [e]<;>exact a _ (by decide)
   have ne: ¬(pT (bu ns 2) y).1=lT (bu ns 0) (bu ns 1) b:=λz=>by
     unfold pT lT at z;simp only [Tr.nd.injEq,rZ] at z;exact (by simpa using z.2.2)
   have r:a5 (ak (ak (ak (ak (ag 0) (cI 0) aX) (cI 1) aX) (cI 0) aX) (ak (ag 2) (cI 0) aX) eB) [.aa (eQ (pT (bu ns 2) y)),.aa (lT (bu ns 0) (bu ns 1) b).d,.aa (.ah (ns.map D.str)),u]= .ok (decide (y=bu ns 0)):=by
     refine jD ((jh (oA (.str y) (by
     have e1:(pT (bu ns 2) y).1.d= .ap [.str (bu ns 2),.ap [.str y,.int 4,.int 5]]:=by unfold pT;simp;rfl
     refine jh (jh (jh rfl rfl (z:=(pT (bu ns 2) y).1.d) rfl) rfl (z:= .ap [.str y,.int 4,.int 5]) ?_) rfl rfl
     rw [e1];rfl)) (jh rfl rfl o) rfl).trans ?_)
     congr 2
   refine (Zl (oA false (by
     refine jD ((jh (jh rfl rfl rfl) rfl (eqT ((Rj (a 2 (by decide)) i).up (by decide) (by decide)))).trans ?_)
     rw [decide_eq_false ne])) r).trans ?_
   congr 1
   by_cases c:y=bu ns 0
   . rw [decide_eq_true c];exact (@decide_eq_true _ (sC _) ⟨_,rfl,.inr ⟨y,c,_,rfl⟩⟩).symm
   . rw [decide_eq_false c];refine (@decide_eq_false _ (sC _) ?_).symm;rintro ⟨q,e,h⟩;have:=jiR e;subst this;rcases h with h| ⟨E,v,H,j⟩
     . exact ne h
     . unfold pT at j;simp at j;exact c (j.2.trans v)
def jis (hN:oh ns) (h7:ns.length=7) (E:List Int):fA [.eN (E.map D.int),.ah (ns.map D.str)]= .ok (.bl true):=by
 have Q:C0 (.eN (E.map D.int)) (some 2) (some 6)= .ok (.ah (cutD (E.map D.int) (some 2) (some 6))):=rfl;obtain ⟨m,em,E9⟩:=yL E 1 (env:=[.aa (.eN (E.map D.int)),.aa (.ah (ns.map D.str)),.un,.un,.un,.un,.un,.un,.un]) rfl
 obtain ⟨a,w,hcl⟩: ∃a:List Int,cutD (E.map D.int) (some 2) (some 6)=a.map D.int/\a.length<=4:=by
  have e: ∀ {α:Type} (l:List α) (f),cutD (l.map f) (some ((2:Nat):Int)) (some ((6:Nat):Int))=((l.drop (min 2 l.length)).take (min 6 l.length-min 2 l.length)).map f:=λl f=>by
    unfold cutD;rw [HT.gY,HT.gY,cg,Fs,Fp]
  refine ⟨_,e E D.int,?_⟩;rw [Ab];omega
 rw [w] at Q;generalize hS:D.eN (E.map D.int)=S at*;have mm: ∀k,k<7->bu ns k∈ns:=λk hk=>wa (by omega)
 have i0:=lZ (ns:=ns) (k:=0) (by omega);have i1:=lZ (ns:=ns) (k:=1) (by omega);have i2:=lZ (ns:=ns) (k:=2) (by omega);obtain ⟨b,hb,eb⟩: ∃b:Nat,b<=999/\m%1000=(b):=⟨(m%1000).toNat,by omega,by omega⟩
 obtain ⟨H,z,hxn⟩: ∃H,aX (.ah (ns.map D.str)) (.int (2+m/5000%2))= .ok (.str H)/\H∈ns:=by
  obtain ⟨j,hj,ej⟩: ∃j:Nat,j<7/\2+m/5000%2=(j):=⟨(2+m/5000%2).toNat,by omega,by omega⟩
  exact ⟨bu ns j,by rw [ej];exact lZ (by omega),mm j hj⟩
 obtain ⟨k,hk,ek⟩: ∃k:Nat,k<=4/\m/1000%5=(k):=⟨(m/1000%5).toNat,by omega,by omega⟩
 generalize o:bu ns 0=c at*;generalize r:bu ns 1=g at*;generalize N:bu ns 2=O at*;have n0:c∈ns:=by rw [<-o];exact mm 0 (by decide)
 have n1:g∈ns:=by rw [<-r];exact mm 1 (by decide)
 have n2:O∈ns:=by rw [<-N];exact mm 2 (by decide)
 have s4:aT (jb (ak (ag 1) (cI 0) aX) (jb (ag 3) (jb (aT (jb (ak (ag 1) (cI 1) aX) af)) af))) [.aa S,.aa (.ah (ns.map D.str)),.aa (.int m),.aa (.int b),.un,.un,.un,.un,.un]= .ok (lT c g b).d:=by
  refine (Kj (jh rfl rfl i0) rfl (ko (jh rfl rfl i1))).trans ?_;unfold lT;rfl
 have s5:aT (jb (ak (ag 1) (cI 0) aX) (jb (aT (jb (ak (ag 1) (cI 2) aX) (jb (ag 3) af))) (jb (aT (jb (ak (ag 1) (cI 1) aX) af)) af))) [.aa S,.aa (.ah (ns.map D.str)),.aa (.int m),.aa (.int b),.aa (lT c g b).d,.un,.un,.un,.un]= .ok (rT c g O H b 0).d:=by
  refine (Kj (jh rfl rfl i0) (xG (jh rfl rfl i2) rfl) (ko (jh rfl rfl i1))).trans ?_;rfl
 obtain ⟨u6,e6⟩:=vU z (wN 0 k) 0 .un;have hlk:(wN 0 k).length=k:=by unfold wN;rw [cg,AX]
 rw [hlk,wp] at e6;obtain ⟨u,v⟩: ∃u,u=(lT c g b,rT c g O H b k):=⟨_,rfl⟩
 obtain ⟨L,w2,w8,hL,lL,e8⟩:=Uw h7 a [u] (.aa (.int m)) .un ⟨g8.mpr rfl,λq n=> .inl (g8.mp n)⟩ (by simp;omega);have i:=hL.all;rw [o,r,N] at i;have U:u.1=lT c g b:=by rw [v]
 have Y:=(Rh n0 n1 hb).up (h':=7) (m':=100) (by decide) (by decide);have Z:=(Ri n0 n1 n2 hxn hb k).up (h':=7) (m':=100) (by omega) (by omega)
 have ru0:Tm ns 7 100 u.1/\Tm ns 7 100 u.2/\Ru ns u.1.d u.2.d:=by
  rw [v];refine ⟨Y,Z,Kt Y Z rfl (λx z=>?_) ⟨[(b)],by simp,λx z=>?_⟩⟩
  . rw [uF] at z;rw [jiv];exact z
  . rw [uF] at z;exact z
 obtain ⟨I,B⟩: ∃I,I=L.filter λq=>o7 (lT c g b) c (eQ q):=⟨_,rfl⟩
 have Rn: ∀q∈I,q∈L:=λq n=>by rw [B] at n;exact (DN.mp n).1
 have Ml:u∈I:=by rw [B];exact DN.mpr ⟨hL.main,Ul U⟩
 have lq:I.length<=40:=by rw [B];exact dw (List.length_filter_le _ _) lL
 have rq:A8 ns I:=λq n=>by
  rcases i q (Rn q n) with e| ⟨y,hy,e⟩
  . rw [e];exact ru0
  . rw [e];exact jjC n2 (by rcases hy with e|e|e<;>rw [e]<;>assumption)
 have s9:zE false 1 [4,1] (fh (ag 7)) (gN 0) Rm (ag 0) [.aa S,.aa (.ah (ns.map D.str)),w2,.aa (.int b),.aa (lT c g b).d,.aa (rT c g O H b k).d,u6,.aa (.ah (L.map eQ)),w8]= .ok (.ah (I.map eQ)):=by
  refine (jdY (o7 (lT c g b) c) id (λd=> ∃q∈L,d=eQ q) rfl (we rfl rfl) (λd hd=>by obtain ⟨q,n,rfl⟩:=c4.mp hd;exact ⟨q,n,rfl⟩) (by rw [cg];exact jp (by omega)) (λd acc ⟨q,n,e⟩=>by
    subst e;have:=jf6 hN h7 hb (by rw [o,r];exact U) (by rw [o,r,N];exact i q n) (.aw (.ah acc));rw [o,r] at this
    exact this) (λd acc _=>rfl)).trans ?_
  rw [List.map_id,List.filter_map,B];rfl
 obtain ⟨hs,eo,Ro,h3,J⟩:=J8 hN rq lq (f:=jb (ag 7) af) (env:=[.aa S,.aa (.ah (ns.map D.str)),w2,.aa (.int b),.aa (lT c g b).d,.aa (rT c g O H b k).d,u6,.aa (.ah (I.map eQ)),w8]) (jc (by rw [<-Mh];rfl) rfl)
 have lh:hs.length<=6:=by
  have h1:(cw hs).length<=(nX c g O H).length:=P6 (wr.mpr (Mf (λDe e=>De (by
    simp at e
    exact vl e.1 (by have:=e.2;omega))) Ro)) λx z=>by
    obtain ⟨q,n,h⟩:=(J x).mp z;rcases i q (Rn q n) with e| ⟨y,hy,e⟩
    . rw [e,v] at h;exact h.elim jjP (Rk k)
    . rw [e] at h;exact jjD hy h
  have:(cw hs).length=hs.length:=by unfold cw;rw [cg]
  rw [this] at h1;exact h1
 have rk:=(QB lh (Q7 hN rq Ro h3 lh J)).2 (by
  rw [Iu];intro p _ h;unfold bX at h;rw [lI] at h;have:=h u Ml;rw [v] at this
  exact Rg k this)
 refine zM ?_;have s3:ak (ag 2) (cI 1000) bG [.aa S,.aa (.ah (ns.map D.str)),.aa (.int m),.un,.un,.un,.un,.un,.un]= .ok (.int b):=by rw [<-eb];exact qT rfl rfl (by decide)
 refine (jk (jq em)).trans ((jk (jq s3)).trans ((jk (jq s4)).trans ((jk (jq s5)).trans ?_)))
 refine (jk (ym (oA (wN 0 k) (by
  refine (WW (jc (qT (jh rfl rfl (yV (by decide))) rfl (by decide)) rfl) (by omega)).trans ?_
  rw [ek];rfl)) e6)).trans ?_
 refine (jk (yZ (xu (ds:=[u].map eQ) (jc ((xG rfl rfl).trans (by rw [v];rfl)) rfl) (jp (show 1<=20000 by decide))))).trans ?_;refine (jk (ym (we (wO rfl rfl rfl Q) rfl) e8)).trans ?_;refine (jk (yZ s9)).trans ?_;exact jM (jh (jA (jc eo rfl) rfl (X4 rk)) rfl rfl)
end
def Zw {m:Str} {n:Nat} {F:Tz} {fo:TF} {g:TB} {env:Sl} {a:List H2} {ds:List D} {c:Str} (h:(["rank"]:List Str).contains m=false) (i:fo env= .ok (bJ a)) (j:g env= .ok ds) (o:ds.length+1=n) (l:F (bJ a::ds)= .exc c):x9 (JB "Ranks" m n [] F fo g) env= .exc c:=by
 have e:JB "Ranks" m n [] F fo g env= .exc c:=by
  unfold JB;rw [i]
  show (if ("Ranks" :Str)= "Ranks" /\(["rank"]:List Str).contains m=false then (match g env with
   | .ok ds=>a4 (ds.length+([]:List D).length+1=n) (F (bJ a::(ds++[])))
   |_=> .ai) else .ai)=_
  rw [if_pos ⟨rfl,h⟩,j];show a4 (ds.length+0+1=n) (F (bJ a::(ds++[])))=_;rw [jl (by omega),o8,l]
 unfold x9;rw [e];rfl
def Rp {t:TD} {e g2:TC} {a:Sl} {c:Str} (h:t a= .ok true) (g:e a= .exc c):io t e g2 a= .exc c:=by
 unfold io;rw [h];rw [g];rfl
def Mm {t:TD} {c g2:TC} {a:Sl} (h:t a= .ok false):io t c g2 a=g2 a:=by
 unfold io;rw [h]
def jcY {c:List H2} {w:Int} {one a e:D} (h:(w=0/\aZ [bJ c,one,a]= .exc "NoHead")\/(w=1/\bD [bJ c,one,a]= .exc "NoHead")\/(w=2/\aY [bJ c,e]= .exc "NoHead")):bZ [bJ c,.int w,one,a,e]= .ok (.bl true):=by
 obtain ⟨G,i⟩: ∃G,G=(io (a5 (ak (ag 1) (cI 0) eB)) (x9 (JB "Ranks" "falls" 3 [] aZ (ag 0) (jb (ag 2) (jb (ag 3) af)))) (io (a5 (ak (ag 1) (cI 1) eB)) (x9 (JB "Ranks" "why" 3 [] bD (ag 0) (jb (ag 2) (jb (ag 3) af)))) (lH (a5 (ak (ag 1) (cI 2) eB)) (x9 (JB "Ranks" "lets" 2 [] aY (ag 0) (jb (ag 4) af))) cz))):=⟨_,rfl⟩
 have j:G [.aa (bJ c),.aa (.int w),.aa one,.aa a,.aa e,.aa .aW,.un]= .exc "NoHead" :=by
  rw [i];rcases h with ⟨rfl,h⟩| ⟨rfl,h⟩| ⟨rfl,h⟩
  . exact Rp rfl (Zw (by decide) rfl (jc rfl (jc rfl rfl)) rfl h)
  . exact (Mm rfl).trans (Rp rfl (Zw (by decide) rfl (jc rfl (jc rfl rfl)) rfl h))
  . refine (Mm rfl).trans ((Mm rfl).trans ?_);have:=Zw (m:= "lets") (fo:=ag 0) (g:=jb (ag 4) af) (env:=[.aa (bJ c),.aa (.int 2),.aa one,.aa a,.aa e,.aa .aW,.un]) (by decide) rfl (jc rfl rfl) rfl h;unfold lH;exact this
 have l:lR ["NoHead", "TooMany"] G 6 (jB 5 (ag 6)) [.aa (bJ c),.aa (.int w),.aa one,.aa a,.aa e,.aa .aW,.un]= .ok (.nx [.aa (bJ c),.aa (.int w),.aa one,.aa a,.aa e,.aa (.fL "NoHead"),.un]):=by
  unfold lR;rw [j];dsimp only;rfl
 refine zM ?_;unfold dX;rw [<-i];refine (jk (jq rfl)).trans ((jk l).trans (jM ?_));rfl
section
variable {ns:List Str}
def QE (c a:Str):List Tr:=[c0 c,.nd a [.bk 3],.nd a [c0 c,.bk 7],.bk 7,.nd a [.nd a [.bk 2]]]
def xH (c a e:Str):List Tr:=[c0 e,.nd c [.bk 4],.nd a [.bk 1,.bk 2,.bk 3],.nd a [.nd e [.bk 1]],.nd a [.bk 1,.nd c [.bk 1]]]
noncomputable def cR (c a:Str):List H2:=[(c,0),(a,1),(a,2)]
def Ba {a b:Nat} {x:Str} {t:Tr} (c:x∈ns) (h:Tm ns a b t):Tm ns (a+1) (b+1) (.nd x [t]):=
 (We c (by simp) λp e=>by rw [g8.mp e];exact h).up (bf _) (by simp)
def DH {a b:Nat} {x:Str} {s t:Tr} (g:x∈ns) (h:Tm ns a b s) (i:Tm ns a b t):Tm ns (a+1) (2*b+1) (.nd x [s,t]):=
 (We g (by simp) λp c=>by
  simp at c
  rcases c with e|e<;>subst e<;>assumption).up (bf _) (by simp)
def QF {i:Nat} (h:i<=999) {a b:Nat} (c:1<=a) (e:1<=b):Tm ns a b (.bk i):=(DB h).up c e
def Xh {h i:Str} (j:h∈ns) (c:i∈ns): ∀t∈QE h i,Tm ns 3 4 t:=λt g=>by
 unfold QE at g;simp at g;rcases g with e|e|e|e|e<;>subst e
 . exact (Jm j).up (by decide) (by decide)
 . exact (Ba c (QF (a:=1) (b:=1) (by decide) (by decide) (by decide))).up (by decide) (by decide)
 . exact (DH c (Jm j) (QF (by decide) (by decide) (by decide))).up (by decide) (by decide)
 . exact QF (by decide) (by decide) (by decide)
 . exact (Ba c (Ba c (QF (a:=1) (b:=1) (by decide) (by decide) (by decide)))).up (by decide) (by decide)
structure t6 (ns:List Str) (hs:List H2) (t:Tr):Prop where
 tm:Tm ns 3 5 t
 hd: ∃a,t.hd=some a
 no: ∃a∈cy (bh t.d),a∉cw hs
 sK: ∃m:List Int,m.length<=3/\ ∀x∈eD t.d,x∈m
def kq {g i j:Str} (r:g∈ns) (m:i∈ns) (u:j∈ns) (l:g≠i) (n:g≠j) (o:i≠j): ∀t∈xH g i j,t6 ns (cR g i) t:=λt q=>by
 have no: ∀(z:Str) (k),¬(z=g/\k=0)-> ¬(z=i/\k=1)-> ¬(z=i/\k=2)->(z,k)∉cw (cR g i):=λz k a b c h=>by
   unfold cw cR at h;simp at h;rcases h with e|e|e
   . exact a e
   . exact b e
   . exact c e
 unfold xH at q;simp at q;rcases q with e|e|e|e|e<;>subst e
 . exact ⟨(Jm u).up (by decide) (by decide),⟨_,rfl⟩,⟨(j,0),by rw [XJ];simp,no _ _ (λz=>n z.1.symm) (λz=>by simp at z) (λz=>by simp at z)⟩,[],by simp,by rw [Qz];simp⟩
 . exact ⟨(Ba r (QF (a:=1) (b:=1) (by decide) (by decide) (by decide))).up (by decide) (by decide),⟨_,rfl⟩,⟨(g,1),(wz _ _ _).mpr (.inl rfl),no _ _ (λz=>by simp at z) (λz=>l z.1) (λz=>by simp at z)⟩,[4],by simp,by rw [wJ];simp [JU]⟩
 . refine ⟨(We (a:=1) (b:=1) m (by simp) λp v=>?_).up (by decide) (by simp),⟨_,rfl⟩,⟨(i,3),(wz _ _ _).mpr (.inl rfl),no _ _ (λz=>by simp at z) (λz=>by simp at z) (λz=>by simp at z)⟩,[1,2,3],by simp,by rw [wJ];simp [JU]⟩;simp at v;rcases v with e|e|e<;>subst e<;>exact QF (by decide) (by decide) (by decide)
 . exact ⟨(Ba m (Ba u (QF (a:=1) (b:=1) (by decide) (by decide) (by decide)))).up (by decide) (by decide),⟨_,rfl⟩,⟨(j,1),(wz _ _ _).mpr (.inr ⟨_,g8.mpr rfl,(wz _ _ _).mpr (.inl rfl)⟩),no _ _ (λz=>by simp at z) (λz=>o z.1.symm) (λz=>by simp at z)⟩,[1],by simp,by rw [wJ];simp [wJ,JU]⟩
 . exact ⟨(DH m (QF (by decide) (by decide) (by decide)) (Ba r (QF (a:=1) (b:=1) (by decide) (by decide) (by decide)))).up (by decide) (by decide),⟨_,rfl⟩,⟨(g,1),(wz _ _ _).mpr (.inr ⟨.nd g [.bk 1],by simp,(wz _ _ _).mpr (.inl rfl)⟩),no _ _ (λz=>by simp at z) (λz=>l z.1) (λz=>by simp at z)⟩,[1],by simp,by rw [wJ];simp [wJ,JU]⟩
def Yy (hN:oh ns) {j:List H2} {c:Tr} (l:t6 ns j c) {g:List (Tr×Tr)} (m:A8 ns g) (n:g.length<=40) (i: ∃q∈g,∀a∈cy (bh c.d),a∈cy (bh q.1.d)\/a∈cy (bh q.2.d)) {f:TB} {env:Sl} (o:f env= .ok [.ah (g.map eQ)]): ∃ob:D,wx "Rules" 1 aE f env= .ok ob/\aY [bJ j,ob]= .exc "NoHead" :=by
 obtain ⟨p,e,_,_,r⟩:=J8 hN m n (by rw [<-Mh];exact o);refine ⟨_,e,jf4 ?_⟩;obtain ⟨a,u,v⟩:=l.no;obtain ⟨q,w,h⟩:=i;exact ⟨a,(r a).mpr ⟨q,w,h a u⟩,v⟩
def Rq {t:Tr} (h: ∀x∈eD t.d,False): ∃m:List Int,m.length<=3/\ ∀x∈eD t.d,x∈m:=⟨[],by simp,λx a=>(h x a).elim⟩
def Fv (e c:Str) (a:Tr):List (Tr×Tr):=[(.nd c [c0 e,a],.nd c [a,a])]
def Fw (a e:Str) (c:Tr):List (Tr×Tr):=[(c0 a,c0 a),(.nd e [c0 a,.bk 7],.nd e [c0 a,.bk 7]),(c,c0 a)]
def jhA {g c:Str} {p:List H2} {a:Tr} (r:g∈ns) (j:c∈ns) (h:t6 ns p a):A8 ns (Fv g c a):=λq i=>by
 unfold Fv at i;rw [g8] at i;subst i;have l:Tm ns 7 100 (.nd c [c0 g,a]):=(DH j ((Jm r).up (by decide) (by decide)) h.tm).up (by decide) (by decide);have n:Tm ns 7 100 (.nd c [a,a]):=(DH j h.tm h.tm).up (by decide) (by decide);have u:eD (Tr.nd c [c0 g,a]).d=eD a.d:=by rw [wJ];simp [Qz]
 have o:eD (Tr.nd c [a,a]).d=eD a.d++eD a.d:=by rw [wJ];simp
 obtain ⟨m,v,w⟩:=h.sK;refine ⟨l,n,Kt l n rfl (λx e=>?_) ⟨m,v,λx e=>?_⟩⟩
 . rw [o] at e;rw [u];exact (i3.mp e).elim id id
 . rw [o] at e;exact w x ((i3.mp e).elim id id)
def jhz {h l:Str} {u:List H2} {i:Tr} (o:h∈ns) (v:l∈ns) (p:t6 ns u i):A8 ns (Fw h l i):=λq m=>by
 have g:Tm ns 7 100 (c0 h):=(Jm o).up (by decide) (by decide);have n: ∀x∈eD (c0 h).d,False:=λx c=>by rw [Qz] at c;cases c
 unfold Fw at m;simp at m;rcases m with e|e|e<;>subst e
 . exact ⟨g,g,Kt g g rfl (λx c=>c) (Rq n)⟩
 . have j:Tm ns 7 100 (.nd l [c0 h,.bk 7]):=(DH v (Jm o) (QF (by decide) (by decide) (by decide))).up (by decide) (by decide);exact ⟨j,j,Kt j j rfl (λx c=>c) ⟨[7],by simp,by rw [wJ];simp [JU,Qz]⟩⟩
 . obtain ⟨a,w⟩:=p.hd;have r:=p.tm.up (h':=7) (m':=100) (by decide) (by decide);exact ⟨r,g,Kt r g w (λx c=>(n x c).elim) (Rq n)⟩
end
noncomputable abbrev lk0:Sl->aj ba:=(jB 2 (jn 1 bi (jb (ag 6) af)))
noncomputable abbrev tJ:Sl->aj ba:=(jB 7 (ak (ag 4) (ak (ag 2) (cI 5) bG) aX))
noncomputable abbrev Bt:Sl->aj ba:=(jB 8 (ak (ag 5) (ak (ak (ag 2) (cI 5) dh) (cI 5) bG) aX))
noncomputable abbrev lk3:Sl->aj ba:=(jB 9 (ak (ak (ag 2) (cI 25) dh) (cI 3) bG))
noncomputable abbrev Rr:Sl->aj ba:=(cT (a5 (ak (ak (ak (ag 2) (cI 75) dh) (cI 3) bG) (cI 1) eB)) (A1 7 8 (jb (ag 8) (jb (ag 7) af))) cz)
noncomputable abbrev Rs:Sl->aj ba:=(cT (a5 (ak (ak (ak (ag 2) (cI 75) dh) (cI 3) bG) (cI 2) eB)) (jB 7 (ag 8)) cz)
noncomputable abbrev lk6:Sl->aj ba:=(jB 10 (ak (ag 5) (ak (ak (ag 2) (cI 5) dh) (cI 5) bG) aX))
noncomputable abbrev lk7:Sl->aj ba:=(jB 11 (wx "Rules" 1 aE (jb (b9 (jb (aT (jb (aT (jb (ak (ag 1) (cI 1) aX) (jb (ak (ag 4) (cI 0) aX) (jb (ag 10) af)))) (jb (aT (jb (ak (ag 1) (cI 1) aX) (jb (ag 10) (jb (ag 10) af)))) af))) af)) af)))
noncomputable abbrev Rt:Sl->aj ba:=(cT (a5 (ak (ak (ak (ag 2) (cI 225) dh) (cI 2) bG) (cI 1) eB)) (jB 11 (wx "Rules" 1 aE (jb (b9 (jb (aT (jb (ak (ag 4) (cI 0) aX) (jb (ak (ag 4) (cI 0) aX) af))) (jb (aT (jb (ak (ag 4) (cI 2) aX) (jb (ak (ag 4) (cI 2) aX) af))) (jb (aT (jb (ag 10) (jb (ak (ag 4) (cI 0) aX) af))) af)))) af))) cz)
noncomputable abbrev lk9:Sl->aj ba:=(cT (cj (a5 (jn 5 bZ (jb (ag 3) (jb (ag 9) (jb (ag 7) (jb (ag 8) (jb (ag 11) af)))))))) (aM (cB false)) cz)
noncomputable abbrev yD:Sl->aj ba:=(ax lk0 (ax tJ (ax Bt (ax lk3 (ax Rr (ax Rs (ax lk6 (ax lk7 (ax Rt lk9)))))))))
section
variable {ns:List Str}
def Rv {L:List Tr} {i:Int} (c:0<=i) (e:i<L.length): ∃t∈L,aX (.ah (L.map Tr.d)) (.int i)= .ok t.d:=by
 obtain ⟨k,rfl⟩: ∃k:Nat,i=k:=⟨i.toNat,by omega⟩
 have a:k<L.length:=by omega
 refine ⟨L[k],qd a,A7 ?_⟩;rw [jF,cH a];rfl
def u0 (hN:oh ns) {c g:Str} (j:c∈ns) (i:g∈ns):sy ns (cR c g):=⟨hN,λh a=>by
 unfold cR at a;simp at a;rcases a with e|e|e<;>subst e
 . exact ⟨j,by simp⟩
 . exact ⟨i,by simp⟩
 . exact ⟨i,by simp⟩⟩
def jaH (hN:oh ns) {h j w:Str} (N:h∈ns) (O:j∈ns) (h2:w∈ns) (n01:h≠j) (n02:h≠w) (n12:j≠w) {S:Slot} {n:D} (iN:aX n (.int 1)= .ok (.str j)) (c:Int) (v2 v7 v8 v9 q l:Slot):
  ∃w2 w7 w8 w9 Rw Rx,yD [S,.aa n,v2,.aa (bJ (cR h j)),.aa (.ah ((QE h j).map Tr.d)),.aa (.ah ((xH h j w).map Tr.d)),.aa (.int c),v7,v8,v9,q,l]= .ok (.nx [S,.aa n,w2,.aa (bJ (cR h j)),.aa (.ah ((QE h j).map Tr.d)),.aa (.ah ((xH h j w).map Tr.d)),.aa (.int c),w7,w8,w9,Rw,Rx]):=by
 obtain ⟨m,em,hm⟩:=Jh c;have P:=u0 hN N O;obtain ⟨o,ho,eo⟩:=Rv (L:=QE h j) (i:=m%5) (by omega) (by show m%5<5;omega);obtain ⟨p,hp,ep⟩:=Rv (L:=xH h j w) (i:=m/5%5) (by omega) (by show m/5%5<5;omega);have z:=kq N O h2 n01 n02 n12 p hp;generalize Q:D.ah ((QE h j).map Tr.d)=r at*;generalize hSD:D.ah ((xH h j w).map Tr.d)=u at*;have U:aX r (.int 0)= .ok (c0 h).d:=by rw [<-Q];rfl
 have k2:aX r (.int 2)= .ok (Tr.nd j [c0 h,.bk 7]).d:=by rw [<-Q];rfl
 obtain ⟨A,B,hA,hB,C3,e45⟩: ∃A B:Tr,Tm ns 20 100 A/\Tm ns 20 100 B/\(A=p\/B=p)/\ ∀g:Sl->aj ba,ax Rr (ax Rs g) [S,.aa n,.aa (.int m),.aa (bJ (cR h j)),.aa r,.aa u,.aa (.int c),.aa o.d,.aa p.d,.aa (.int (m/25%3)),q,l]=g [S,.aa n,.aa (.int m),.aa (bJ (cR h j)),.aa r,.aa u,.aa (.int c),.aa A.d,.aa B.d,.aa (.int (m/25%3)),q,l]:=by
  have Y:=z.tm.up (h':=20) (m':=100) (by decide) (by decide);have to:=(Xh N O o ho).up (h':=20) (m':=100) (by decide) (by decide);have E: ∀x y:Slot,a5 (ak (ak (ak (ag 2) (cI 75) dh) (cI 3) bG) (cI 1) eB) [S,.aa n,.aa (.int m),.aa (bJ (cR h j)),.aa r,.aa u,.aa (.int c),x,y,.aa (.int (m/25%3)),q,l]= .ok (m/75%3==1):=λx y=>jD (jh (qT (jh rfl rfl (yV (by decide))) rfl (by decide)) rfl Xw)
  have H: ∀x y:Slot,a5 (ak (ak (ak (ag 2) (cI 75) dh) (cI 3) bG) (cI 2) eB) [S,.aa n,.aa (.int m),.aa (bJ (cR h j)),.aa r,.aa u,.aa (.int c),x,y,.aa (.int (m/25%3)),q,l]= .ok (m/75%3==2):=λx y=>jD (jh (qT (jh rfl rfl (yV (by decide))) rfl (by decide)) rfl Xw)
  have I:m/75%3=0\/m/75%3=1\/m/75%3=2:=by omega
  rcases I with e|e|e
  . rw [e] at E H;exact ⟨o,p,to,Y,.inr rfl,λg=>(jk ((ck (E _ _)))).trans (jk ((ck (H _ _))))⟩
  . rw [e] at E H;exact ⟨p,o,Y,to,.inl rfl,λg=>(jk ((en (E _ _)))).trans (jk ((ck (H _ _))))⟩
  . rw [e] at E H;exact ⟨p,p,Y,Y,.inl rfl,λg=>(jk ((ck (E _ _)))).trans (jk ((en (H _ _))))⟩
 have no: ∃a,(a∈cy (bh A.d)\/a∈cy (bh B.d))/\a∉cw (cR h j):=by
  obtain ⟨a,J,hn⟩:=z.no;refine ⟨a,?_,hn⟩;rcases C3 with e|e<;>rw [e]
  . exact .inl J
  . exact .inr J
 obtain ⟨v,e7,l1⟩:=Yy hN z (jhA N O z) (by simp [Fv]) ⟨_,g8.mpr rfl,λa J=> .inl ((wz _ _ _).mpr (.inr ⟨p,by simp,J⟩))⟩ (f:=jb (b9 (jb (aT (jb (aT (jb (ak (ag 1) (cI 1) aX) (jb (ak (ag 4) (cI 0) aX) (jb (ag 10) af)))) (jb (aT (jb (ak (ag 1) (cI 1) aX) (jb (ag 10) (jb (ag 10) af)))) af))) af)) af) (env:=[S,.aa n,.aa (.int m),.aa (bJ (cR h j)),.aa r,.aa u,.aa (.int c),.aa A.d,.aa B.d,.aa (.int (m/25%3)),.aa p.d,l]) (by
  refine jc ((xu (ds:=[.ap [.ap [.str j,(c0 h).d,p.d],.ap [.str j,p.d,p.d]]]) (jc (xG (Kj (jh rfl rfl iN) (jh rfl rfl U) rfl) (Kj (jh rfl rfl iN) rfl rfl)) rfl) (jp (show 1<=20000 by decide))).trans ?_) rfl;unfold Fv
  simp only [fF,List.map_nil,eQ,pd,rl,Tr.di])
 obtain ⟨ob2,e8,l2⟩:=Yy hN z (jhz N O z) (by simp [Fw]) ⟨(p,c0 h),by simp [Fw],λa J=> .inl J⟩ (f:=jb (b9 (jb (aT (jb (ak (ag 4) (cI 0) aX) (jb (ak (ag 4) (cI 0) aX) af))) (jb (aT (jb (ak (ag 4) (cI 2) aX) (jb (ak (ag 4) (cI 2) aX) af))) (jb (aT (jb (ag 10) (jb (ak (ag 4) (cI 0) aX) af))) af)))) af) (env:=[S,.aa n,.aa (.int m),.aa (bJ (cR h j)),.aa r,.aa u,.aa (.int c),.aa A.d,.aa B.d,.aa (.int (m/25%3)),.aa p.d,.aa v]) (by
  refine jc ((xu (ds:=[.ap [(c0 h).d,(c0 h).d],.ap [(Tr.nd j [c0 h,.bk 7]).d,(Tr.nd j [c0 h,.bk 7]).d],.ap [p.d,(c0 h).d]]) (jc (xG (jh rfl rfl U) (jh rfl rfl U)) (jc (xG (jh rfl rfl k2) (jh rfl rfl k2)) (jc (xG rfl (jh rfl rfl U)) rfl))) (jp (show 3<=20000 by decide))).trans ?_) rfl
  rfl)
 obtain ⟨ob,l3,e89⟩: ∃ob:D,aY [bJ (cR h j),ob]= .exc "NoHead" /\ ∀g:Sl->aj ba,ax Rt g [S,.aa n,.aa (.int m),.aa (bJ (cR h j)),.aa r,.aa u,.aa (.int c),.aa A.d,.aa B.d,.aa (.int (m/25%3)),.aa p.d,.aa v]=g [S,.aa n,.aa (.int m),.aa (bJ (cR h j)),.aa r,.aa u,.aa (.int c),.aa A.d,.aa B.d,.aa (.int (m/25%3)),.aa p.d,.aa ob]:=by
  have Z:a5 (ak (ak (ak (ag 2) (cI 225) dh) (cI 2) bG) (cI 1) eB) [S,.aa n,.aa (.int m),.aa (bJ (cR h j)),.aa r,.aa u,.aa (.int c),.aa A.d,.aa B.d,.aa (.int (m/25%3)),.aa p.d,.aa v]= .ok (m/225%2==1):=jD (jh (qT (jh rfl rfl (yV (by decide))) rfl (by decide)) rfl Xw)
  cases I:(m/225%2==1) with
  |false=>
    rw [I] at Z;exact ⟨v,l1,λg=>jk ((ck Z))⟩
  |true=>
    rw [I] at Z;exact ⟨ob2,l2,λg=>jk ((en Z).trans (jq e8))⟩
 have nh:bZ [bJ (cR h j),.int (m/25%3),A.d,B.d,ob]= .ok (.bl true):=by
  refine jcY ?_;have I:m/25%3=0\/m/25%3=1\/m/25%3=2:=by omega
  rcases I with e|e|e
  . exact .inl ⟨e,jdw P hA hB no⟩
  . exact .inr (.inl ⟨e,jhc P hA hB no⟩)
  . exact .inr (.inr ⟨e,l3⟩)
 refine ⟨.aa (.int m),.aa A.d,.aa B.d,.aa (.int (m/25%3)),.aa p.d,.aa ob,?_⟩;refine (jk (jq (jA (jc rfl rfl) rfl em))).trans ?_;refine (jk (jq (jh rfl (qT rfl rfl (by decide)) eo))).trans ?_;refine (jk (jq (jh rfl (qT (jh rfl rfl (yV (by decide))) rfl (by decide)) ep))).trans ?_;refine (jk (jq (qT (jh rfl rfl (yV (by decide))) rfl (by decide)))).trans ?_;refine (e45 _).trans ?_;refine (jk (jq (jh rfl (qT (jh rfl rfl (yV (by decide))) rfl (by decide)) ep))).trans ?_;refine (jk (jq e7)).trans ((e89 _).trans ?_);exact (ck (zp (jD (jA (jc rfl (jc rfl (jc rfl (jc rfl (jc rfl rfl))))) rfl nh)))).trans rfl
def jiH {c:H2->Nat} (a:Str):gtB c (.nd a [.nd a [.bk 2]]) (.bk 2)=true:=by
 exact wA (g8.mpr rfl) (.inr (wA (g8.mpr rfl) (.inl rfl)))
def jfa {c:H2->Nat} (g:Str):way c (c0 g) (.bk 9)=none:=by
 have: ¬gt c (c0 g) (.bk 9):=λh=>by
  rw [xw] at h;rcases h with ⟨p,i,_⟩| ⟨h,_⟩| ⟨h,_⟩
  . cases i
  . obtain ⟨a,b,l,j,_⟩:=Qv c h;cases j
  . cases h
 cases e:way c (c0 g) (.bk 9) with
 |none=>rfl
 |some w=>exact (this (by unfold gt;rw [e];rfl)).elim
def jit (hN:oh ns) (h7:ns.length=7) (nd:ns.Nodup) (q:List Int):fx [.eN (q.map D.int),.ah (ns.map D.str)]= .ok (.bl true):=by
 have O:C0 (.eN (q.map D.int)) (some 2) (some 30)= .ok (.ah (cutD (q.map D.int) (some 2) (some 30))):=rfl
 have y: ∀x∈cutD (q.map D.int) (some 2) (some 30),∃i:Int,x= .int i:=λx l=>by
  obtain ⟨i,_,rfl⟩:=c4.mp (EZ (EY l));exact ⟨i,rfl⟩
 obtain ⟨m,em,E9⟩:=yL q 1 (env:=[.aa (.eN (q.map D.int)),.aa (.ah (ns.map D.str)),.un,.un,.un,.un,.un,.un,.un,.un,.un,.un]) rfl;generalize hS:D.eN (q.map D.int)=S at*;generalize H:cutD (q.map D.int) (some 2) (some 30)=r at*;have Q: ∀k,k<7->bu ns k∈ns:=λk hk=>wa (by omega)
 have ne: ∀j k,j<k->k<7->bu ns j≠bu ns k:=λj k hj hk e=>by
  have u:=Wn nd (k:=j) (by omega);have h2:=Wn nd (k:=k) (by omega);rw [e] at u;omega
 have v:=lZ (ns:=ns) (k:=0) (by omega);have n:=lZ (ns:=ns) (k:=1) (by omega);have i2:=lZ (ns:=ns) (k:=2) (by omega);have w:=Q 0 (by decide);have u:=Q 1 (by decide);have h2:=Q 2 (by decide);have z:=ne 0 1 (by decide) (by decide);have U:=ne 0 2 (by decide) (by decide);have Y:=ne 1 2 (by decide) (by decide);generalize bu ns 0=g at*;generalize bu ns 1=c at*;generalize bu ns 2=B at*;generalize hNN:D.ah (ns.map D.str)=NN at*;have P:=u0 hN w u
 have ok:Dw (cR g c):=by
  refine ⟨λh Z=>hN.nm _ (P.h3 h Z).1,λh Z=>(P.h3 h Z).2,?_,by simp [cR]⟩;unfold cR;simp [z]
 obtain ⟨lQ,l1,I,v6,J,L,N,o,p,rfl,_⟩:=QU (body:=qm (gN 6) yD)
  (λds E=> ∃(I v6 J L N o p:Slot),E=[.aa S,.aa NN,I,.aa (bJ (cR g c)),.aa (.ah ((QE g c).map Tr.d)),.aa (.ah ((xH g c B).map Tr.d)),v6,J,L,N,o,p]/\ ∀d∈ds,∃i:Int,d= .int i)
  (by
   rintro d ds E ⟨I,v6,J,L,N,o,p,rfl,hd⟩;obtain ⟨i,rfl⟩:=hd d (by simp);obtain ⟨w2,w7,w8,w9,Rw,Rx,h3⟩:=jaH hN w u h2 z U Y n i I J L N o p
   refine ⟨_,xE rfl h3,_,_,_,_,_,_,_,rfl,λx l=>hd x (by simp [l])⟩)
  r [.aa S,.aa NN,.aa (.int m),.aa (bJ (cR g c)),.aa (.ah ((QE g c).map Tr.d)),.aa (.ah ((xH g c B).map Tr.d)),.un,.un,.un,.un,.un,.un]
  ⟨.aa (.int m),.un,.un,.un,.un,.un,.un,rfl,y⟩
 have t4:Tn (cR g c) 6 (.nd c [.nd c [.bk 2]]):=Vr 6 _ (by have:=(Xh w u _ (show Tr.nd c [.nd c [.bk 2]]∈QE g c by simp [QE])).hg;omega) λx l=>by
  rw [wz] at l;simp [wz,UC] at l;subst l;exact Zx (a:=(c,1)) (by simp [cR])
 have t0:Tn (cR g c) 6 (c0 g):=Vr 6 _ (by have:=(Jm w).hg;omega) λx l=>by
  rw [XJ,g8] at l;subst l;exact Zx (a:=(g,0)) (by simp [cR])
 have fl:=P9 P ((Xh w u _ (by simp [QE])).up (by decide) (by decide)) (QF (i:=2) (by decide) (by decide) (by decide)) t4 Tn.bk;rw [jiH] at fl;have wy:=jcl P ((Jm w).up (by decide) (by decide)) (QF (by decide) (by decide) (by decide)) t0 Tn.bk (jfa g);refine zM ?_
 refine (jk (jq em)).trans ((jk (jq (oA (bJ (cR g c)) (PK ok (jc (xu (jc (xG (jh rfl rfl v) rfl) (jc (xG (jh rfl rfl n) rfl) (jc (xG (jh rfl rfl n) rfl) rfl))) (jp (show 3<=20000 by decide))) rfl))))).trans ((jk (jq (oA (.ah ((QE g c).map Tr.d)) (by
  refine (xu (ds:=[.ap [.str g],.ap [.str c,.int 3],.ap [.str c,.ap [.str g],.int 7],.int 7,.ap [.str c,.ap [.str c,.int 2]]]) (jc (ko (jh rfl rfl v)) (jc (xG (jh rfl rfl n) rfl) (jc (Kj (jh rfl rfl n) (ko (jh rfl rfl v)) rfl) (jc rfl (jc (xG (jh rfl rfl n) (xG (jh rfl rfl n) rfl)) rfl))))) (jp (show 5<=20000 by decide))).trans ?_
  rfl)))).trans ((jk (jq (oA (.ah ((xH g c B).map Tr.d)) (by
  refine (xu (ds:=[.ap [.str B],.ap [.str g,.int 4],.ap [.str c,.int 1,.int 2,.int 3],.ap [.str c,.ap [.str B,.int 1]],.ap [.str c,.int 1,.ap [.str g,.int 1]]]) (jc (ko (jh rfl rfl i2)) (jc (xG (jh rfl rfl v) rfl) (jc (xr (jc (jh rfl rfl n) (jc rfl (jc rfl (jc rfl rfl)))) (jp (show 4<=20000 by decide))) (jc (xG (jh rfl rfl n) (xG (jh rfl rfl i2) rfl)) (jc (Kj (jh rfl rfl n) rfl (xG (jh rfl rfl v) rfl)) rfl))))) (jp (show 5<=20000 by decide))).trans ?_
  rfl)))).trans ?_)))
 refine (jk (ym (we (wO rfl rfl rfl O) rfl) l1)).trans ?_
 exact jM ((Fl (oA (.bl true) (jh (DD (ds:=[(Tr.nd c [.nd c [.bk 2]]).d,(Tr.bk 2).d]) (by decide) rfl (jc (jh rfl rfl rfl) (jc rfl rfl)) rfl (by
   rw [fl];rfl)) rfl rfl))).trans (oA (.bl true) (jh (DD (ds:=[(c0 g).d,(Tr.bk 9).d]) (by decide) rfl (jc ((ko (jh rfl rfl v))) (jc rfl rfl)) rfl (by
   rw [wy];rfl)) rfl rfl)))
end
def jcp {a:List Str} {k:Nat}: ∀z∈a.take k,z∈a:=λz c=>EY c
def sA (a:List Int) (l:a.length<=63) (H: ∀i∈a,AG i<=2^20):se [.eN (a.map D.int)]= .ok (.bl true):=by
 obtain ⟨m,em,o⟩:=yL a 0 (env:=[.aa (.eN (a.map D.int)),.un,.un,.un]) rfl;obtain ⟨c,p,n,g,h⟩:=KQ m;have hN:oh c:=⟨by omega,g⟩
 have q:=Rf hN a (λz r=>r) h (by omega) (by omega);have lo:=jis hN n a;have u:=jit hN n h a;obtain ⟨w,hw⟩: ∃w,w=m/10^20%4:=⟨_,rfl⟩
 have j:w=0\/w=1\/w=2\/w=3:=by omega
 have v:ak (ak (ag 1) (ak (cI 10) (cI 20) il) pL) (cI 4) bG [.aa (.eN (a.map D.int)),.aa (.int m),.aa (.ah (c.map D.str)),.un]= .ok (.int w):=by rw [hw];exact qT (jh rfl (oA (.int (10^20)) (jh rfl rfl (VP (by decide)))) (Pj (by decide))) rfl (by decide)
 refine zM ?_;refine (jk (jq em)).trans ((jk (jq (jA (jc rfl rfl) rfl p))).trans ((jk (jq v)).trans ?_));rcases j with e|e|e|e<;>subst e
 . exact zg ((en (jD (jh rfl rfl rfl))).trans (jM (jA (jc rfl (jc rfl rfl)) rfl q)))
 . refine (jk ((ck (jD (jh rfl rfl rfl))))).trans ?_;obtain ⟨k,I,y⟩: ∃k:Nat,(2<=k/\k<=6)/\2+m/10^21%5=(k):=⟨(2+m/10^21%5).toNat,by omega,by omega⟩
   have lt:(c.take k).length=k:=by rw [Ab];omega
   have B:=Rf hN a jcp (List.Pairwise.sublist (Gi k c) h) (by omega) (by omega)
   have E:zf (ag 2) JA (xt (ak (cI 2) (ak (ak (ag 1) (ak (cI 10) (cI 21) il) pL) (cI 5) bG) cb)) oC [.aa (.eN (a.map D.int)),.aa (.int m),.aa (.ah (c.map D.str)),.aa (.int 1)]= .ok (.ah ((c.take k).map D.str)):=by
    refine wO (hi:=some (k)) rfl rfl (yH ?_) ?_
    . rw [<-y];exact jh rfl (qT (jh rfl (oA (.int (10^21)) (jh rfl rfl (VP (by decide)))) (Pj (by decide))) rfl (by decide)) rfl
    . show aj.ok (D.ah (cutD (c.map D.str) none (some (k))))=_;rw [Ql,<-Fs]
   exact zg ((en (jD (jh rfl rfl rfl))).trans (jM (jA (jc rfl (jc E rfl)) rfl B)))
 . refine (jk ((ck (jD (jh rfl rfl rfl))))).trans ((jk ((ck (jD (jh rfl rfl rfl))))).trans ?_);exact zg ((en (jD (jh rfl rfl rfl))).trans (jM (jA (jc rfl (jc rfl rfl)) rfl lo)))
 . refine (jk ((ck (jD (jh rfl rfl rfl))))).trans ((jk ((ck (jD (jh rfl rfl rfl))))).trans ((jk ((ck (jD (jh rfl rfl rfl))))).trans ?_));exact jM (jA (jc rfl (jc rfl rfl)) rfl u)
end G
structure PySem.W.Fast:Prop where
 (tw5493838581460447605 tw17282856159170765838 tw9613572588503268579 tw14827091081891722342 te11682439706452544024 tw16101647342641350269 tw9138867648450589218 tw4048104261339058990 tw10625283362486459581 tw10234791238714791491 tw7334208310612696146 tw6653130663659507952 tw16297393575999236755 tw9404843428968482195 tw5143617801438791229 tw4148509242562748369 tw443920331626967768 tw721971329760539228 tw1928402140489826164 tw8342548017227391246 tw8108146989458680171 tw114793316558499565 tw15247392720952703153 tw5094432975342564217 tw16061972858407496618 tw5644519440042682743 tw16215974568844981997 tw17793386688673262912 tw2406879212103779577 tw16035249593194689081 tw6625913573508371885 tw3566439645926323976 tw9366089555598426007 tw10044966199920946433 tw10138407826551530281 tw8200338599602608286 tw5005068341020126769 tw5443253065854547145 tw11652199479565385863 tw6985805121109953891 tw16889729200134725422 tw4358377334625180550 tw16060507668820719399 tw4244889842816309985 tw11845170403766694706 te9480219399852525487 te6490956717730510554 te9131430679677381050 te3149829753163942228 te5391310479773159220 te3131606825193077800 te11093038982749010296 te1403111741639610774 te5975920804486163698 te16397567693049015129 te17381901256693816274 te8878637538627010147 te4367966693689271243 te4097089162693232302 te10178949391082672055 te16980051390306045896 te9160606847005061078 te16278999578239701672 te17250341022823771898 te11263323919386025431 te16442514509662330609 te6896822014291103905 te14217774486107481603 te8865924646499791945 te13597681722948909196 te6769047110765462340 te14213048850899923562 te5693704250263876996 te6142122641681803709 te5297717340589388597 te9289000532150925106 te10440382714714887888 te16986149809253462837 te4231927533015500699 te9411736005382456144 te6034059708358109549 te4218550212731320454 te12092457549313013199 te15611139418578231624 te1762037356001997728 te10488381913882085923 te10799216998328916390 te1198851660867221980 te12328878294071447850 te15284951527300994559 te15089784528703732038 te7068122392431282688 te5866192286723227602 te1756361825154555961 te14742308933315859533 te4827724731695812144 te15510384737062252899 te3174322445325974629 te10168386883173433902 te17718979398953633791 te13602391203965184986 te13604997295736841665 te15454461802828099606 te2712858377152384300 te10281141454815781128 te844367116323314241 te2449848636443251896 te6581515621923750042 te776595417857962938 te931377257014768320 te10052398906227670877 te11605542302625217066 te8656907762377265412 te13612168945107103116 te9134819875815191717 te10234109689138894101 te10770166374983226476 te515216285171765118 te430611495171139256 te12307950122332520563 te18184768484672510975 te4950582489927876523 te10577360575993931752 te5009926861262700847 te17573756384403230397 te7908028006077013545 te9695437005835869715 te3775461412971334363 te8770671458201927666 te16661881571392489645 te16764890467771063725 te10783815637419764498 te1629512371614222232 te15809321995024297612 te4045056506447193772 te5767925785373746455 te10123231102971910362 te14180643786465980719 te5323387588837181948 te12502762236914465318 te7455592975123195128 te535837064546225846 te10114945892676287041 te12107161585666376588 te6429063239018184738 te17260071428251906000 te9657537994386942804 te15997872857912361091 te17414786657281432890 te14463539199377436901 te9956218054254149964 te18443375639133149768 te4881542208976048291 te4896842111993355194 te9987396944344058960 te4121987024065246517 te7631193438687202796 te13735880672767689938 te11833039300079170752 te2053708161343503242 te12169590183219761 te12274289543335504408 te17478971951576038250 te8030441849042650390 te11912226310968355979 te17186756377459575873 te17134316823913942861 te2227234455520050040 te14528268072301358894 te14181542358141004932 te9435191658607810317 te7339427514082542920 te8989295485677829627 te568392595753454205 te2687417704078022845 te264219792062704817 te934927390214063444 te7473780500849931378 te17297036068765741947 te791923346855704662 te1469990475077551405 te10874339149317463538 te6575204488522755538 te5924571570560747939 te6338137327646969795 te8028559870264880147 te6832592254069464582 te12409437772489343092 te9536990027968312302 te16905769509829330794 te148309116036760988 te14675230515534910277 te9068529095478424643 te4309167185950477630 te668534817760819445 te8903496565321948193 te779699868597337712 te5609902241507606147 te13845255960110045249 te7259249753263009262 te16422586672042532953 te2903655065556620208 te1804081898453839155 te15663685562988417828 te6048761218321189245 te10046102131418844583 te8258847634944616941 te12784931545422749815 te4739949507858030790 te6018669850530673459 te403248580881850938 te9473670841204106018 te5849941636720816748 te14389474866320853004 te1808303416091782983 te10010969214465587885 te9645513102351286947 te1055691578930161067 te7197634599891002580 te11064365315240667634 te16818014182907363254 te9439617053887561623 te1696535680701376542 te2054015692827157086 te15426199759145280645 te7621496478285094219 te9632278433123605542 te1358664872213760755 te2379788787412702536 te9482246301183891687 te111499175722258978 te15653038876779236169 te10583828755663515301 te38727406310077374 te16917071242710415617 te11268253552230190763 te10917403802287173188 te13336155458866024356 te16406659383654472043 te11892092305071560959 te129673514848224474 te2511905434292590169 te14270212586913293688 te7706114272501531450 te960683249853527582 te8009589135174323585 te12772002753280863579 te17878739175194663437 te12686418627564327528 te4860231385091868348 te12475944065102325418 te4922055904731824476 te5213092893748096726 te5201221064469893419 te14033488352191319313 te10058146182862806855 te3123151830362142512 te7695577553880274264 te8052914013934547684 te11973428178519378255 te9214568417755491148 te12395863651716818856 te15159098394768545563 te5795604296568229547 te2258023582755070788 te3962145592012963109 te17193556316257724312 te9765571704434077392 te10150842565588281351 te6486616019237303456 te7234310969926486104 te15007754048110602217 te12052778830895326876 te6484140066738165919 te7561771631811263427 te9195604793321021874 te16142455708533830836 te6996184017054494074 te13925808685668923400 te1768472197992322527 te11957226236289589393 te6640687376016633011 te14561862271059826828 te12316183352184253121 te19525699991598776 te12150422521714578144 te1131015035517737314 te9903208914354415294 te11622695640021901761 te17417578621142588864 te459205605703678443 te2126891014604141698 te3845285195775668786 te2669757548740372023 te2243690717835671164 te10320205836649957893 te14417413969036071356 te5507710444976983513 te1962416440776005 te4408039742413424074 te9123830800515346533 te10358810806245062413 te9919475657440056993 te7668133455775547646 te16587245466792916361 te10084899033765706965 te7142056542461054695 te13007563675143251365 te4783340142130905167 te12394634465354899640 te12939819959416944295 te10597165833520801569 te15375079058278072558 te11131949557689593258 te14534982709974414803 te14030029332372025655 te12651651071396435135 te15764340369528533660 te4130817775413683436 te8962224003891269809 te6103357544813668455 te16413696914051640342 te8687437813246640462 te9385296079046721877 te2100984649558850266 te1613027412044704175:True)
open PySem PySem.W PyProof.Rows
set_option maxRecDepth 100000 in
set_option maxHeartbeats 0 in
theorem PySem.Challenge.cw_endwise_k36_no_ranks_holds : PySem.Challenge.rw_endwise_k36_no_ranks.Holds := by
  w_on; o_law; k_head; (case hw => w_witness2)
  k_fill
  refine M.rR (l := PySem.Challenge.rw_endwise_k36_no_ranks) (n := 63) (k := 72) (x := "_law_script") (F := G.se) rfl (by decide) rfl ⟨rfl, by decide, by decide⟩ (fun w h Y => PySem.W.kIn_of Y) ?F G.sA
  case F =>
    intro w mg fa h KX Gn hmg
    refine' G.all_mk KX Gn hmg ?d0 ?d1 ?d2 ?d3 ?d4 ?d5 ?d6 ?d7 ?d8 ?d9 ?La ?Lb ?Lc ?Ld ?Le ?Lf ?Lg ?Lh ?Li ?Lj ?Lk ?Ll ?Lm ?Ln ?Lo ?Lq ?Fh ?Lr ?Ls ?Lu ?Lw ?Lx ?Ly ?Lz ?LA ?LB ?LC ?LD ?Fi ?LF ?LG ?LH ?LI ?LJ ?LK ?LL ?LM ?LN ?z0 ?z1 ?z2 ?z3 ?z4 ?z5 ?z6 ?z7 ?z8 ?z9 ?LO ?LP ?LQ ?LR ?LS ?iu ?ly ?l0 ?mZ ?l5 ?m4 ?l6 ?lz ?m6 ?yO ?QO ?QS ?QN ?QJ ?zb ?zT ?zX ?zS ?zR ?yN ?Jx ?JE ?Jw ?Ju ?xO ?wv ?xb ?zO ?zN ?yi ?yj ?Xe ?Xi ?Xf ?Xj ?sB ?pZ ?iw ?gM ?lj ?ll ?lm ?gO ?ls ?ix ?lu ?lv ?lx ?gP ?mY ?gh ?eV ?cQ ?gQ ?gD ?gl ?lB ?eW ?qc ?zY ?zJ ?wn ?zZ ?gj ?m7 ?gk ?fB
    (case yO | zb | yN => k_is)
    (case d0 | d1 | d2 | d3 | d4 | d5 => exact ⟨_, by k_is, ⟨_, _, _, _, _, _, _, _, _, by k_is, by k_is⟩, by k_is⟩)
    (case d6 => exact ⟨_, by k_is, by k_is, ⟨_, _, _, _, _, _, _, _, _, by k_is, by k_is⟩, by k_is⟩)
    (case d7 | d8 | d9 | La | Lb | Lc | Ld | Le | Lf | Lg | Lh | Li | Lj => exact ⟨_, by k_is, ⟨_, _, _, _, _, _, _, _, _, by k_is, by k_is⟩, by k_is⟩)
    (case Lk => exact ⟨_, by k_is, by k_is, ⟨_, _, _, _, _, _, _, _, _, by k_is, by k_is⟩, by k_is⟩)
    (case Ll => exact ⟨_, by k_is, ⟨_, _, _, _, _, _, _, _, _, by k_is, by k_is⟩, by k_is⟩)
    (case Lm | Ln => exact ⟨_, by k_is, by k_is, ⟨_, _, _, _, _, _, _, _, _, by k_is, by k_is⟩, by k_is⟩)
    (case Lo => exact ⟨_, by k_is, ⟨_, _, _, _, _, _, _, _, _, by k_is, by k_is⟩, by k_is⟩)
    (case Lq | Fh | Lr | Ls | Lu | Lw | Lx | Ly | Lz => exact ⟨_, by k_is, by k_is, ⟨_, _, _, _, _, _, _, _, _, by k_is, by k_is⟩, by k_is⟩)
    (case LA | LB | LC | LD | Fi | LF | LG => exact ⟨_, by k_is, ⟨_, _, _, _, _, _, _, _, _, by k_is, by k_is⟩, by k_is⟩)
    (case LH => exact ⟨_, by k_is, by k_is, ⟨_, _, _, _, _, _, _, _, _, by k_is, by k_is⟩, by k_is⟩)
    (case LI | LJ => exact ⟨_, by k_is, ⟨_, _, _, _, _, _, _, _, _, by k_is, by k_is⟩, by k_is⟩)
    (case LK | LL | LM | LN | z0 | z1 | z2 | z3 | z4 | z5 | z6 | z7 | z8 | z9 | LO | LP | LQ | LR | LS => k_is)
    (case iu | ly | l0 | mZ | l5 | m4 | l6 | lz | m6 => exact ⟨_, by k_is⟩)
    (case QO | QS | QN | QJ | zT | zX | zS | zR | Jx | JE | Jw | Ju | xO | wv | xb | zO | zN | yi | yj | Xe | Xi | Xf | Xj | sB | pZ | iw | gM | lj | ll | lm | gO | ls | ix | lu | lv | lx | gP | mY => k_is)
    (case gh | eV => k_exc)
    (case cQ | gQ | gD | gl | lB => kernel_rfl)
    (case eW | qc => exact ⟨by kernel_rfl, by k_is, by k_is, by k_is, by k_is, by k_is, by k_is, by k_is⟩)
    (case zY | zJ | wn | zZ | gj | m7 | gk | fB => kernel_rfl)

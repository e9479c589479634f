import PyProof.Rows.All
import Wide.All
import OpenK.AllK
import Wide.FinOn
import Lean
import PyProof.TupleKey
import PyProof.IsRules
import PyProof.DictKeyH
import PyProof.EqAt
import PyProof.EqKinds
import PyProof.TupleCall
import PyProof.Cells
import PyProof.NeKinds
import KE.IntBitsLaws
import KE.KDictList
import KE.KRevIter
import KE.KSortTup
import KE.KDictSum
import PyProof.EnumMake
import PyProof.EnumFor
import PyProof.LayNew
import PyProof.Rows.EnumRows
import PyProof.SumAny
import PyProof.ListRange
import PyProof.FString5
import PyProof.CollectIter
import PyProof.TupleOfSeq
import PyProof.Rows.Tup
import OpenK.KRaise
import PyProof.StationsW
import KE.KTryMore
import PyProof.NsDelKeeps
import KE.KEqDict
import PyProof.ExcArgs
import PyProof.Draws
import PyProof.ZipIter
import PyProof.Rows.ZipGen
import PyProof.DictWalks
import PyProof.Conv_int_bool
import PyProof.Rows.SeqMore
import PyProof.Rows.SetFrom
import PyProof.SetRoads
import PyProof.MeetsSeq2
import PyProof.FactsAll.NoneType_1
import PyProof.DictFindH
import PyProof.DictRoadsH
import PyProof.AttrMissHeap
import KE.KDictOf
import PyProof.Rows.StrJoin2
import PyProof.FactsAll.object_1
import PySem.Challenge.RW_endwise_k35_whole_ranks_found
open Array renaming getElem?_eq_getElem -> mG, length_toList -> jE, getElem?_toList -> oj, getD_eq_getD_getElem? -> tM, mem_toList_iff -> CU, forIn_toList -> CF, eq_empty_of_size_eq_zero -> MG, getD -> AH, toList_push -> Gz
open Bool renaming false_ne_true -> ik, and_eq_true -> gF, and_eq_true_iff -> lH, false_eq_true -> mT, eq_iff_iff -> rX, not_true -> rY, or_eq_true -> AF, and_true -> Ax, not_eq_true -> GX
open Classical renaming propDecidable -> tX, byContradiction -> DU, epsilon_spec -> Eb
open False renaming elim -> oP
open ForInStep renaming yield -> Df
open Function renaming comp_def -> Gq
open Int renaming emod_lt_of_pos -> tL, toNat_natCast -> sU, emod_nonneg -> tK, fdiv_eq_ediv_of_nonneg -> ER, toNat_of_nonneg -> Gr
open List renaming getElem?_eq_getElem -> cy, mem_cons_self -> cu, length_map -> bM, mem_cons_of_mem -> de, size_toArray -> dj, mem_cons -> cQ, mem_map -> cK, length_append -> gm, length_cons -> fR, getElem?_append_left -> md, getElem?_append_right -> mK, map_cons -> e9, mem_singleton -> iw, getElem?_eq_some_iff -> mX, getElem?_map -> iE, append_assoc -> i7, all_eq_true -> iT, mem_append -> ij, replicate -> io, mem_range -> iU, getElem?_eq_none -> nP, mem_append_right -> nU, range -> fF, mem_flatMap -> lX, getElem_mem -> mF, map_append -> mP, map_map -> ka, mem_of_getElem? -> pz, replicate_succ -> pT, mem_append_left -> rH, getD_eq_getElem?_getD -> yU, getElem?_replicate -> sS, append_nil -> oH, nodup_cons -> py, lookup_cons -> qh, any_eq_true -> rf, nodup_append -> rV, zip_cons_cons -> sx, singleton_sublist -> Aa, length_nil -> rM, lookup -> nX, find?_cons -> rR, mem_iff_getElem -> yt, getElem?_set_self -> Ai, flatten_cons -> sW, flatMap_cons -> tD, pairwise_iff_getElem -> BV, mem_iff_getElem? -> AK, eq_of_mem_replicate -> CC, getElem?_cons_succ -> BZ, pairwise_map -> yD, map_congr_left -> AG, filter_eq_self -> AS, mem_map_of_mem -> AT, length_replicate -> Bg, pairwise_cons -> AJ, length_filter_le -> Cy, nodup_nil -> sY, ext_getElem? -> Ad, mem_filter -> t5, all_cons -> ti, length_eq_zero_iff -> DZ, length_take -> Ap, length_drop -> Ar, take_of_length_le -> DM, getElem_cons_drop -> Ed, length_singleton -> C3, any_cons -> v7, filter_sublist -> Eh, length_erase_of_mem -> Fl, toArray -> yC, mem_filterMap -> CP, foldl_cons -> Bo, append_cancel_left -> Hj, getElem?_cons_zero -> HH, idxOf_cons -> Cq, length_pos_of_mem -> Fm, any_eq_false -> CT, length_range -> DV, length_filterMap_eq_countP -> Ms, take_append_drop -> GS, getElem_inj -> CJ, nodup_range -> Dp, filter_cons -> D6, getElem?_set_ne -> Et, mem_erase_of_ne -> Fk, mem_of_mem_drop -> GU, filterMap_cons -> Es, nil_append -> C4, append_inj -> D0, any_map -> BS, find?_eq_none -> GW, findIdx?_cons -> Hi, length_zipIdx -> HM, Sublist -> CA, take_sublist -> E4, map_drop -> Ea, cons_append -> Hg, range'_succ -> HJ, flatMap_map -> HV, all_map -> Dj
open List.Perm renaming refl -> tq
open List.Sublist renaming append -> HZ
open List.cons renaming injEq -> tF, inj -> AW
open Nat renaming le_refl -> bn, le_trans -> cE, lt_of_lt_of_le -> gR, ne_of_lt -> eB, zero_le -> li, not_lt_zero -> ri, lt_irrefl -> pI, le_add_right -> yZ, mul_le_mul_right -> Cd, le_succ -> rN, zero_add -> yB, add_zero -> zf, lt_succ_of_lt -> DJ, lt_succ_self -> CW, le_of_not_lt -> C7, add_le_add_left -> Fj, le_of_lt -> A0, succ_mul -> Br, lt_of_le_of_lt -> Fi, le_of_lt_succ -> GP, add_assoc -> CG, lt_trans -> C5, succ_pos -> DQ
open Ne renaming symm -> lu
open Option renaming map_eq_some_iff -> sX, isSome_iff_exists -> CZ, isSome_map -> Fc, getD_none -> E8
open Option.some renaming inj -> gG
open Prod renaming ext -> sV
open PyProof.Rows renaming boot_tuple -> oh, slot_tuple_getitem -> vu, boot_int -> zK, boot_all -> zR, callWith_type1 -> CO, seqObj -> lZ, envOfC -> mJ, get?_update_seq -> Dq, AllBare -> rZ
open PyProof.Rows.F renaming plain_set_update_loop -> G0, entry_set_update_loop -> Mv
open PySem renaming wpAny_bind -> ax, wpAny_pure -> aV, sizeLine -> aS, Shared -> aL, mainGlobals -> ce, starEach -> c0, boot_len -> ie, Program -> cp, Around -> cC, wpAny_truthy_bool -> oM, wpAny_holding -> mI, tupleKeyHash -> l6, attributeBase -> mZ, compareOp -> h9, assignEach -> lh, wpAny_newObj_type -> pL, bootBuiltins -> mV, wpAny_callSpecial?_slot -> vt, sizeLine_eq -> mY, IsTupleKey -> mw, backTo -> iW, wpAny_call_entry -> so, sysModules -> nG, mem_of_lookup -> vq, swapsWith -> mH, wpAny_mono -> nQ, binaryOp -> ly, wpAny_execs_cons -> sQ, keywordEach -> oT, wpAny_typeNameOfWhole_keyiter -> Ds, behindInMarks -> rL, SetTable -> l5, intKind -> i6, wpAny_execs_nil -> sP, wpAny_passesOwn -> t9, foldedSetIterable -> Al, wpAny_pyIter_list -> Az, wpAny_typeNameOf_keyiter -> Du, wpAny_setState_of -> AM, tupleKind -> oI, codeAny_builtin -> AO, Builtin -> mS, wpAny_seqItems -> Ae, carriedByValue -> AQ, wpAny_forIn_list -> AV, FuncData -> oR, backToKw -> oS, Keyword -> nJ, wpAny_rule -> r0, holding -> nT, wpAny_Call_Name_kw -> CY, tupleKind_room_in1 -> C6, wpAny_loadPart' -> BB, wpAny_Assign_Subscript -> Fe, wpAny_field -> vr, sliceBounds -> v0, wpAny_dictEntries -> Dr, wpAny_pyIter_enum -> DD, wpAny_isTrue_Compare1 -> EV, codeAny_mono -> Ao, wpAny_typeOf -> As, wpAny_isOneOf_keyiter -> Go, wpAny_isInstance -> CI, wpAny_askSetting -> DY, wpAny_loadName_local -> Ew, swapsWithSole -> A4, swappedStores -> A5, strLen_append -> BI, Paired -> nF, wpAny_loadName_cell -> Ex, storedH -> pA, scanBound -> tH, codeAny -> pM, getItem -> pP, wpAny_fieldsOf -> Dt, wpAny_setField -> Dv, wpAny_Name -> Ak, assign -> ot, call_meets -> Au, standAt -> rK
open PySem.Around renaming under_plainId -> B3
open PySem.Builtin.Dict renaming updateFrom -> Mg, pairItems -> Me, showsAll -> LJ
open PySem.Builtin.Dict_items renaming ownsTuple -> LM
open PySem.Builtin.Frozenset renaming isAnySet -> DK, difference -> G5, addrOf -> G6, unchanged -> MH, slot1 -> MI
open PySem.Builtin.Int renaming intBits -> yg
open PySem.Builtin.List renaming listTooLong -> Bp
open PySem.Builtin.Slice renaming slicePlaces -> C0, sliceAdjust -> IG
open PySem.Builtin.SmallTypes renaming nextOf -> DF
open PySem.Builtin.Str renaming strSliceIndices -> pC, occurrences -> ES
open PySem.Builtin.Tuple renaming tupleItemsOf -> IH, tupleHashOf -> Ij
open PySem.F renaming slot_dict_keyiterator_next -> BW, slot_tuple_iterator_next -> DH, called_set -> tP, slot_dict_getitem -> Fp, args_dict_keyiterator_next_1 -> LL, entry_dict_keyiterator_next -> LK, slot_list_getattribute -> GB, slot_dict_get -> Ff, slot_list_extend -> Fb
open PySem.Heap renaming get?_push_of_some -> cT, get?_push_size -> fS, lt_size -> c8, get?_update_other -> Bm, SameBut -> rJ, get?_update_self -> C1, size_push -> An
open PySem.Heap.SameBut renaming update -> AI
open PySem.MeetsSeq2 renaming wpAny_forIn_array -> Md
open PySem.NameKind renaming free -> w5, cell -> xk
open PySem.Obj renaming mapSeq -> pS, data_mapFields -> Dw, putSet -> B9
open PySem.Paired renaming length -> Af
open PySem.PassesOwn renaming never -> ia
open PySem.SeqAt.EqAt renaming of_refs -> CH
open PySem.SeqAt.RcAt renaming lists_lengths -> F0
open PySem.SetTable renaming below -> mQ, turns -> rW, sizeAbove -> B8, insertAt_perm -> GV, grown -> DX
open PySem.SetTable.below renaming go -> DR
open PySem.SetTable.layClean renaming free -> B7
open PySem.SetTable.probe renaming go -> tN
open PySem.Value renaming ref -> dN, none -> om, bool -> pj, type -> tZ, isInt_shape -> Em
open PySem.W renaming Frag -> aH, nsIn -> cF, mg_none_of -> nB, keepIn -> lU, findIn -> ma, mg_of -> nK, kitOne -> nI, kia_one -> pN, emptyDict -> sR, makesIn -> sg, instObj -> sM, plainGet -> va, fnOf -> rO, hasDictIn -> Am, plainOver -> Bc, codeIn -> Aq, plainGet_of -> EW, callWith_K -> E3, lookIn -> CS, isFn -> CV, takerIn -> EX, OpenLaw -> Bv
open PySem.pickOrder renaming go -> AN
open Sum renaming inl -> pH, inr -> rF
open True renaming intro -> pw
noncomputable section
set_option compiler.extract_closed false
set_option bootstrap.genMatcherCode false
set_option genSizeOfSpec false
set_option Elab.async false
set_option linter.all false
set_option maxRecDepth 100000
set_option maxHeartbeats 4000000
namespace M
open PySem PyProof.Rows
open PySem.SeqAt (EqAt RcAt)
inductive NK where
 |int (i:Int)|str (x:Str)|am (l:List NK)
inductive NV where
 |a6|key (k:NK)|bl (b:Bool)
def AU:Option NK->NV
 |none=> .a6
 |some k=> .key k
noncomputable instance Ii:DecidableEq NK:=λ_ _=>tX _
mutual
def NK.at (h:Heap):NK->Value->Prop
 | .int i,v=> ∃t,v= .int i t
 | .str x,v=> ∃t,v= .str x t
 | .am l,v=> ∃a c,v= .ref a/\IsTup h a c/\NK.nO h l c.toList
def NK.nO (h:Heap):List NK->List Value->Prop
 | [],a=>a=[]
 |k::l,a=> ∃u c,a=u::c/\NK.at h k u/\NK.nO h l c
end
mutual
def NK.bU:NK->Nat
 | .am l=>NK.bY l+1
 |_=>0
def NK.bY:List NK->Nat
 | []=>0
 |k::l=>max (NK.bU k) (NK.bY l)
end
mutual
def NK.draws:NK->Nat
 | .am l=>NK.fU l+1
 |_=>1
def NK.fU:List NK->Nat
 | []=>0
 |k::l=>NK.draws k+NK.fU l
end
mutual
def NK.hash (w:World):NK->Int
 | .int i=>hashInt i
 | .str x=>hashStr w x
 | .am l=>reduceHash (Ij (NK.iD w l))
def NK.iD (w:World):List NK->List Int
 | []=>[]
 |k::l=>NK.hash w k::NK.iD w l
end
def NK.ind {P:NK->Prop} (h1: ∀i,P (.int i)) (h2: ∀x,P (.str x)) (h3: ∀l,(∀k∈l,P k)->P (.am l)) (k:NK):P k:=
 NK.rec (motive_1:=P) (motive_2:=λl=> ∀k∈l,P k) h1 h2 h3 (λ_ h=>by cases h) (λk l a hl q c=>by
  rcases cQ.mp c with e|e
  . rw [e];exact a
  . exact hl q e) k
def c9 {h:Heap} {i:Int} {v:Value}:NK.at h (.int i) v↔ ∃t,v= .int i t:=by simp only [NK.at]
def da {h:Heap} {x:Str} {v:Value}:NK.at h (.str x) v↔ ∃t,v= .str x t:=by simp only [NK.at]
def dc {h:Heap} {l:List NK} {v:Value}:NK.at h (.am l) v↔ ∃a c,v= .ref a/\IsTup h a c/\NK.nO h l c.toList:=by simp only [NK.at]
def gk {h:Heap} {a:List Value}:NK.nO h [] a↔a=[]:=by simp only [NK.nO]
def dq {h:Heap} {k:NK} {l:List NK} {a:List Value}:NK.nO h (k::l) a↔ ∃u c,a=u::c/\NK.at h k u/\NK.nO h l c:=by simp only [NK.nO]
theorem Z1 {h:Heap}: ∀ {l:List NK} {a:List Value},NK.nO h l a->a.length=l.length
 | [],a,x=>by rw [gk.mp x];rfl
 |k::l,a,x=>by
  obtain ⟨u,c,rfl,_,y⟩:=dq.mp x;rw [fR,fR,Z1 y]
theorem Z2 {h:Heap}: ∀ {l:List NK} {a:List Value} {j:Nat} {k:NK} {u:Value},NK.nO h l a->l[j]?=some k->a[j]?=some u->NK.at h k u
 | [],a,j,k,u,x,c,e=>by cases c
 |k'::l,a,j,k,u,x,c,e=>by
  obtain ⟨i,m,rfl,g,y⟩:=dq.mp x
  cases j with
  |zero=>cases c;cases e;exact g
  |succ j=>exact Z2 y c e
theorem XL {k:NK}: ∀ {l:List NK},k∈l->NK.bU k<=NK.bY l
 | [],h=>by cases h
 |k'::l,h=>by
  simp only [NK.bY];rcases cQ.mp h with e|e
  . rw [e];omega
  . have:=XL e;omega
def Ik {h:Heap} (x:NK): ∀(y:NK) (v:Value),NK.at h x v->NK.at h y v->x=y:=by
 induction x using NK.ind with
 |h1 i=>
  intro y v p c;obtain ⟨t,rfl⟩:=c9.mp p
  cases y with
  |int j=>obtain ⟨q,e⟩:=c9.mp c;cases e;rfl
  |str z=>obtain ⟨q,e⟩:=da.mp c;cases e
  |am l=>obtain ⟨a,g,e,_⟩:=dc.mp c;cases e
 |h2 z=>
  intro y v p c;obtain ⟨t,rfl⟩:=da.mp p
  cases y with
  |int j=>obtain ⟨q,e⟩:=c9.mp c;cases e
  |str z=>obtain ⟨q,e⟩:=da.mp c;cases e;rfl
  |am l=>obtain ⟨a,g,e,_⟩:=dc.mp c;cases e
 |h3 l L=>
  intro y v p c;obtain ⟨a,g,rfl,⟨o,N,_,n,hd⟩,H⟩:=dc.mp p
  cases y with
  |int j=>obtain ⟨q,e⟩:=c9.mp c;cases e
  |str z=>obtain ⟨q,e⟩:=da.mp c;cases e
  |am m=>
   obtain ⟨O,I,e,⟨Q,r,_,U,u⟩,J⟩:=dc.mp c;cases e;rw [N] at r;cases r;rw [hd] at u;cases u;congr 1;apply Ad;intro j;have e1:=Z1 H;have e2:=Z1 J
   by_cases E:j<l.length
   . have w:j<m.length:=by omega
     have B:j<g.toList.length:=by omega
     rw [cy E,cy w];congr 1;exact L _ (mF E) _ _ (Z2 H (cy E) (cy B)) (Z2 J (cy w) (cy B))
   . rw [nP (by omega),nP (by omega)]
theorem Il {h c:Heap}: ∀ {l:List NK} {a:List Value},(∀k∈l,∀v,NK.at h k v->NK.at c k v)->NK.nO h l a->NK.nO c l a
 | [],a,_,x=>gk.mpr (gk.mp x)
 |k::l,a,f,x=>by
  obtain ⟨u,g,e,i,y⟩:=dq.mp x;exact dq.mpr ⟨u,g,e,f k cu u i,Il (λq j=>f q (de _ j)) y⟩
def Op {h g:Heap} (j: ∀a c,IsTup h a c->IsTup g a c) (k:NK): ∀v,NK.at h k v->NK.at g k v:=by
 induction k using NK.ind with
 |h1 i=>exact λv x=>c9.mpr (c9.mp x)
 |h2 z=>exact λv x=>da.mpr (da.mp x)
 |h3 l m=>
  intro v x;obtain ⟨a,c,e,t,y⟩:=dc.mp x;exact dc.mpr ⟨a,c,e,j a c t,Il m y⟩
def WP {s:aL} {a:Addr} {c:Array Value} (h:IsTup s.heap a c):s.TypeIs (.ref a) "tuple" :=let ⟨o,e,g,_⟩:=h;⟨o,e,g⟩
section
variable {prog:cp} {w:World}
def Oq (k:NK): ∀(A:cC) (E:Value->aL->Prop) (s:aL) (v:Value) (Q:Int->aL->Prop),NK.at s.heap k v->A.units+k.bU<cLine->Q (k.hash w) {s with toks:=s.toks+k.draws}->wpAny (model prog w) A (pyHash v) Q E s:=by
 induction k using NK.ind with
 |h1 i=>
  intro A E s v Q x p q;obtain ⟨t,rfl⟩:=c9.mp x;simp only [NK.hash,NK.draws] at q;exact wpAny_pyHash_int q
 |h2 z=>
  intro A E s v Q x p q;obtain ⟨t,rfl⟩:=da.mp x;simp only [NK.hash,NK.draws] at q;exact wpAny_pyHash_str q
 |h3 l L=>
  intro A E s v Q x p q;obtain ⟨a,N,rfl,t,y⟩:=dc.mp x;simp only [NK.bU] at p;simp only [NK.hash,NK.draws] at q;obtain ⟨o,O,Y,n,hd⟩:=id t;show wpAny _ _ (pyHashByItsType (.ref a)) _ _ s;refine PySem.W.pyHash_slot (WP t) F.slot_tuple_hash F.entry_tuple_hash (F.args_tuple_hash_1 _) (by decide) (.inr (by omega)) ?_;unfold mS.«tuple.__hash__»;refine ax (aV (ax (wpAny_tupleItemsOf O hd (ax ?_))));rw [<-CF];refine AV _ (λrest r h=> ∃done rl,done++rl=l/\NK.nO s.heap rl rest/\r=(NK.iD w done).toArray/\h={s with toks:=s.toks+NK.fU done}) _ ?_ ?_ _ _ ⟨[],l,rfl,y,rfl,rfl⟩
  . rintro u rest r h ⟨done,rl,j,m,rfl,rfl⟩
    cases rl with
    |nil=>have:=gk.mp m;cases this
    |cons c rl=>
     obtain ⟨Z,us,e,B,H⟩:=dq.mp m;obtain ⟨rfl,rfl⟩:=AW e;have I:c∈l:=by rw [<-j];simp
     have J:=XL I;refine ax (L c I A.in1 E {s with toks:=s.toks+NK.fU done} u _ B (by show A.units+1+c.bU<cLine;omega) ?_);refine aV ⟨done++[c],rl,by simp [j],H,?_,?_⟩
     . have: ∀d:List NK,NK.iD w (d++[c])=NK.iD w d++[c.hash w]:=λd=>by
        induction d with
        |nil=>simp [NK.iD]
        |cons b d g=>simp [NK.iD,g]
       rw [this];simp
     . have: ∀d:List NK,NK.fU (d++[c])=NK.fU d+c.draws:=λd=>by
        induction d with
        |nil=>simp [NK.fU]
        |cons b d g=>simp [NK.fU,g];omega
       rw [this,CG]
  . rintro r h ⟨done,rl,j,m,rfl,rfl⟩
    have e0:rl=[]:=by
     cases rl with
     |nil=>rfl
     |cons c rl=>obtain ⟨_,_,e,_⟩:=dq.mp m;cases e
    subst e0;rw [oH] at j;subst j;show wpAny _ _ (do ret (<-mkInt (Ij (NK.iD w done).toArray.toList))) _ _ _;refine nQ (wpAny_ret_mkInt (Q:=λv h=> ∃n t,v= .int n t/\Q (reduceHash n) h) ?_) (λU h ⟨v,e,n,t,e2,q⟩=>⟨n,t,by rw [e,e2],q⟩) (λ_ _ x=>x);refine ⟨_,_,rfl,?_⟩;simpa [CG] using q
end
def Im {c:Type} [BEq c] [LawfulBEq c] {g:Type} {f:c->g} (i: ∀a b,f a=f b->a=b) (a b:c) [Decidable (f a=f b)]:(a==b)=decide (f a=f b):=by
 by_cases h:a=b
 . subst h;simp
 . rw [decide_eq_false (λe=>h (i _ _ e))];simpa using h
def Ot {s:aL} (x:NK): ∀(A:cC) (y:NK) (u v:Value),NK.at s.heap x u->NK.at s.heap y v->A.units+x.bU<cLine->EqAt A s u v (decide (x=y)):=by
 induction x using NK.ind with
 |h1 i=>
  intro A y u v o n r;obtain ⟨t,rfl⟩:=c9.mp o;simp only [NK.bU] at r
  cases y with
  |int j=>
   obtain ⟨w,rfl⟩:=c9.mp n;rw [<-Im (f:=NK.int) (λa b e=>by cases e;rfl)];exact EqAt.int_int _ _ _ _
  |str z=>obtain ⟨w,rfl⟩:=da.mp n;rw [decide_eq_false (by intro e;cases e)];exact EqAt.int_str _ _ _ _
  |am l=>obtain ⟨a,g,rfl,p,_⟩:=dc.mp n;rw [decide_eq_false (by intro e;cases e)];exact EqAt.int_tuple _ _ p (by omega)
 |h2 z=>
  intro A y u v o n r;obtain ⟨t,rfl⟩:=da.mp o;simp only [NK.bU] at r
  cases y with
  |int j=>obtain ⟨w,rfl⟩:=c9.mp n;rw [decide_eq_false (by intro e;cases e)];exact EqAt.str_int _ _ _ _
  |str O=>
   obtain ⟨w,rfl⟩:=da.mp n;rw [<-Im (f:=NK.str) (λa b e=>by cases e;rfl)];exact EqAt.str_str _ _ _ _
  |am l=>obtain ⟨a,g,rfl,p,_⟩:=dc.mp n;rw [decide_eq_false (by intro e;cases e)];exact EqAt.str_tuple _ _ p (by omega)
 |h3 l Q=>
  intro A y u v o n r;obtain ⟨a,g,rfl,p,E⟩:=dc.mp o;simp only [NK.bU] at r
  cases y with
  |int j=>obtain ⟨w,rfl⟩:=c9.mp n;rw [decide_eq_false (by intro e;cases e)];exact EqAt.tuple_int _ _ p (by omega)
  |str O=>obtain ⟨w,rfl⟩:=da.mp n;rw [decide_eq_false (by intro e;cases e)];exact EqAt.tuple_str _ _ p (by omega)
  |am m=>
   obtain ⟨U,c,rfl,Y,H⟩:=dc.mp n
   by_cases z:a=U
   . subst z;rw [decide_eq_true (Ik _ _ _ o n)];exact EqAt.same _
   . have I:=Z1 E;have J:=Z1 H
     have q:=RcAt.tuples (A:=A) (e:=λj=>decide (l[j]?=m[j]?)) p Y (by omega) (λj h1 h2=>by
      have B:j<l.length:=by rw [<-I,jE];exact h1
      have L:j<m.length:=by rw [<-J,jE];exact h2
      have Z:g.toList[j]?=some g[j]:=by rw [oj];exact mG h1
      have g2:c.toList[j]?=some c[j]:=by rw [oj];exact mG h2
      have hd:=XL (mF B);have:=Q l[j] (mF B) A.in1 m[j] g[j] c[j] (Z2 E (cy B) Z) (Z2 H (cy L) g2) (by show A.units+1+l[j].bU<cLine;omega);rw [cy B,cy L]
      simpa using this)
     have e:((fF (min g.size c.size)).all (λj=>decide (l[j]?=m[j]?))&&g.size==c.size)=decide (NK.am l=NK.am m):=by
      rw [<-jE,<-jE,I,J];rw [rX,gF,iT,decide_eq_true_iff]
      constructor
      . rintro ⟨h1,h2⟩;have N:l.length=m.length:=by simpa using h2
        congr 1;apply Ad;intro j
        by_cases hj:j<l.length
        . simpa using h1 j (iU.mpr (by omega))
        . rw [nP (by omega),nP (by omega)]
      . intro h;cases h;exact ⟨λj _=>by simp,by simp⟩
     rw [<-e];exact CH z q
section
variable {prog:cp} {w:World} {A:cC} {E:Value->aL->Prop} {s:aL}
def Ou (k:NK): ∀(n:Nat) (v:Value) (Q:Bool->aL->Prop),NK.at s.heap k v->k.bU<=n->Q true s->wpAny (model prog w) A (eqIsQuiet n v) Q E s:=by
 induction k using NK.ind with
 |h1 i=>intro n v Q x _ q;obtain ⟨t,rfl⟩:=c9.mp x;cases n<;>exact aV q
 |h2 z=>intro n v Q x _ q;obtain ⟨t,rfl⟩:=da.mp x;cases n<;>exact aV q
 |h3 l J=>
  intro n v Q x L q;obtain ⟨a,N,rfl,p,O⟩:=dc.mp x;simp only [NK.bU] at L;obtain ⟨n,rfl⟩: ∃m,n=m+1:=⟨n-1,by omega⟩
  obtain ⟨o,U,hc,nn,hd⟩:=id p;rw [eqIsQuiet.eq_def];refine ax (wpAny_specialOf (WP p) F.slot_tuple_eq.lookup ?_);dsimp only;refine ax (CI (b:=true) (WP p) (by first|rfl|decide|exact isSubtype_type "tuple" _) ?_);simp only [rY,mT,if_false];refine ax (Ae U hd (ax ?_));simp only [Option.getD_some];rw [<-CF];refine AV _ (λrest r c=>r=(none,())/\c=s/\ ∃rl,NK.nO s.heap rl rest/\ ∀k∈rl,k∈l) _ ?_ ?_ _ _ ⟨rfl,rfl,l,O,λ_ h=>h⟩
  . rintro u rest r c ⟨rfl,rfl,rl,y,B⟩
    cases rl with
    |nil=>have:=gk.mp y;cases this
    |cons H rl=>
     obtain ⟨u',us,e,g,j⟩:=dq.mp y;obtain ⟨rfl,rfl⟩:=AW e;have I:=B H cu;have Y:=XL I;refine ax (J H I n u _ g (by omega) ?_);simp only [rY,mT,if_false];exact aV ⟨rfl,rfl,rl,j,λq Z=>B q (de _ Z)⟩
  . rintro r c ⟨rfl,rfl,_⟩;exact aV q
end
noncomputable def jH (e:cp) (w:World):HeapKind e w NK where
 is:=λh k a=>NK.at h k (.ref a)/\k.bU<=8
 hash:=NK.hash w
 draws:=NK.draws
 room:=λA=>A.units+8<cLine
 inj:=λx y=>Ik _ _ _ x.1 y.1
 keeps:=λ{h v k a d o B H} x j hd l=>⟨Op (λb m ⟨ob,g,p,n,c⟩=>⟨ob,l.extBut b ob (λz=>by
  subst z;rw [j] at g;cases g
  rw [hd] at c;cases c) g,p,n,c⟩) k _ x.1,x.2⟩
 pyHash:=λ{A E s k a Q} r x q=>Oq k A E s _ Q x.1 (by have:=x.2;omega) q
 eqBool:=λ{A E s x y a b Q} r i u q=>Ot x A y _ _ i.1 u.1 (by have:=i.2;omega) _ _ _ _ q
 quiet:=λ{A E s k a Q} x q=>Ou k 8 _ Q x.1 x.2 q
end M
section
open PySem
abbrev Yi (x:Str):Prop:=(x==("__debug__" :Str))=false
abbrev Yh (x:Str):Prop:=(x==("__classdict__" :Str))=false
abbrev WV:=Str->Option Value
abbrev VJ:=Addr->Prop
abbrev U9:=Value->aL->Prop
theorem T6 {l:List Str} (h:l.Nodup:=by decide+kernel):l.Nodup:=h
end
namespace L2
open PySem PySem.Spec PyProof.Rows
abbrev aR:=Sum Int Str
def kO:aR->Value->Bool
 | .inl k,v=>Value.isInt k v
 | .inr x,v=>Value.isStrOf x v
noncomputable def El (w:World):aR->Int
 | .inl k=>hashInt k
 | .inr x=>hashStr w x
theorem qx: ∀ {k:aR} {v:Value},kO k v=true->(∃i t,k=pH i/\v=Value.int i t)\/(∃x t,k=rF x/\v=Value.str x t)
 | .inl i,v,h=>by
  obtain ⟨t,e⟩:=Em h;exact .inl ⟨i,t,rfl,e⟩
 | .inr x,v,h=>by
  obtain ⟨t,e⟩:=Value.isStrOf_shape h;exact .inr ⟨x,t,rfl,e⟩
def Ov (i:Int) (t:Tok):kO (.inl i) (.int i t)=true:=by simp [kO,Value.isInt]
def Ox (x:Str) (t:Tok):kO (.inr x) (.str x t)=true:=by simp [kO,Value.isStrOf]
def Oy (a b:Int):decide ((pH a:aR)=pH b)=(a==b):=by
 by_cases e:a=b
 . subst e;simp
 . have h: ¬(pH a:aR)=pH b:=λq=>e (Sum.inl.inj q)
   rw [decide_eq_false h];exact (beq_eq_false_iff_ne.mpr e).symm
def Oz (a b:Str):decide ((rF a:aR)=rF b)=decide (a=b):=by
 by_cases e:a=b
 . subst e;simp
 . have h: ¬(rF a:aR)=rF b:=λq=>e (Sum.inr.inj q)
   rw [decide_eq_false h,decide_eq_false e]
def OA (a:Int) (b:Str):decide ((pH a:aR)=rF b)=false:=decide_eq_false (λq=>nomatch q)
def OB (a:Str) (b:Int):decide ((rF a:aR)=pH b)=false:=decide_eq_false (λq=>nomatch q)
def jR (c:cp) (w:World):PySem.KeyKind c w aR where
 is:=kO
 hash:=El w
 inj:=λv a b m l=>by
  rcases qx m with ⟨i,t,rfl,rfl⟩| ⟨x,t,rfl,rfl⟩
  . rcases qx l with ⟨j,u,rfl,e⟩| ⟨y,u,rfl,e⟩
    . injection e with e1 _;rw [e1]
    . exact nomatch e
  . rcases qx l with ⟨j,u,rfl,e⟩| ⟨y,u,rfl,e⟩
    . exact nomatch e
    . injection e with e1 _;rw [e1]
 byValue:=λk v h=>by
  rcases qx h with ⟨i,t,rfl,rfl⟩| ⟨x,t,rfl,rfl⟩<;>rfl
 pyHash:=λg h=>by
  rcases qx g with ⟨i,t,rfl,rfl⟩| ⟨x,t,rfl,rfl⟩
  . exact wpAny_pyHash_int h
  . exact wpAny_pyHash_str h
 eqBool:=λn g h=>by
  rcases qx n with ⟨i,t,rfl,rfl⟩| ⟨x,t,rfl,rfl⟩
  . rcases qx g with ⟨j,u,rfl,rfl⟩| ⟨y,u,rfl,rfl⟩
    . rw [Oy] at h;exact wpAny_eqBool_int h
    . rw [OA] at h;exact SeqAt.EqAt.int_str i t y u _ _ _ _ h
  . rcases qx g with ⟨j,u,rfl,rfl⟩| ⟨y,u,rfl,rfl⟩
    . rw [OB] at h;exact SeqAt.EqAt.str_int x t j u _ _ _ _ h
    . rw [Oz] at h;exact wpAny_eqBool_str h
 «strs» :=λk x t v h=>by
  rcases qx h with ⟨i,u,rfl,e⟩| ⟨y,u,rfl,e⟩
  . exact nomatch e
  . injection e with e1 _;subst e1;cases v<;>rfl
def K4 (a:cp) (w:World) (i:Int) (t:Tok):(jR a w).is (.inl i) (.int i t)=true:=Ov i t
def K3 (a:cp) (w:World) (x:Str) (t:Tok):(jR a w).is (.inr x) (.str x t)=true:=Ox x t
inductive V where
 |a6|bl (b:Bool)|int (i:Int)|str (x:Str)|pi (b:Array UInt8)|tY (b:UInt64)|ref (a:Addr)|ty (n:String)
 deriving DecidableEq
def aG:V->Value->Prop
 | .a6,u=>u=om
 | .bl b,u=>u=pj b
 | .int i,u=> ∃t,u=Value.int i t
 | .str x,u=> ∃t,u=Value.str x t
 | .pi b,u=> ∃t,u=Value.bytes b t
 | .tY b,u=> ∃t,u=Value.float b t
 | .ref a,u=>u=dN a
 | .ty n,u=>u=tZ n
abbrev aK:List V->List Value->Prop:=nF aG
def aK.length {xs:List V} {us:List Value} (r:aK xs us):xs.length=us.length:=Af r
theorem aK.get: ∀ {xs:List V} {us:List Value} {i:Nat} {x:V},aK xs us->xs[i]?=some x-> ∃u,us[i]?=some u/\aG x u
 |_,_,_,_,.nil,e=>by simp at e
 |_,_,0,_,.cons r _,e=>by simp at e;subst e;exact ⟨_,rfl,r⟩
 |_,_,i+1,x,.cons _ t,e=>by
  obtain ⟨u,a,c⟩:=aK.get t (by simpa using e);exact ⟨u,by simpa using a,c⟩
theorem aK.set {x:V} {u:Value} (r:aG x u): ∀ {a:List V} {c:List Value} (i:Nat),aK a c->aK (a.set i x) (c.set i u)
 |_,_,_,.nil=> .nil
 |_,_,0,.cons _ t=> .cons r t
 |_,_,i+1,.cons q t=> .cons q (aK.set r i t)
theorem aK.append: ∀ {a c:List V} {e g:List Value},aK a e->aK c g->aK (a++c) (e++g)
 |_,_,_,_,.nil,s=>s
 |_,_,_,_,.cons r t,s=> .cons r (aK.append t s)
theorem aK.take: ∀ {a:List V} {c:List Value} (n:Nat),aK a c->aK (a.take n) (c.take n)
 |_,_,0,_=> .nil
 |_,_,_+1,.nil=> .nil
 |_,_,n+1,.cons r t=> .cons r (aK.take n t)
theorem aK.drop: ∀ {a:List V} {c:List Value} (n:Nat),aK a c->aK (a.drop n) (c.drop n)
 |_,_,0,r=>r
 |_,_,_+1,.nil=> .nil
 |_,_,n+1,.cons _ t=>aK.drop n t
def fj:Option V->Option Value->Prop
 |some v,some u=>aG v u
 |none,none=>True
 |_,_=>False
def KV {a:Type}:List (a×V)->List (a×Value)->Prop:=nF λ(p:a×V) (q:a×Value)=>p.1=q.1/\aG p.2 q.2
def kV:aR->V
 | .inl i=> .int i
 | .inr x=> .str x
inductive HO where
 |ai (xs:List V)
 |am (xs:List V)
 |dK (kvs:List (aR×V))|dT (kvs:List (List aR×V))
 |set (S:Int->Bool) (n:Nat)
 |ins (C dx:Addr) (fs:List (Str×V))
 |ay (x:Addr)
 |xd (fs:List (Str×V))
 |met (f x:Addr)
 |En (lo hi:Int)
 |eH (o:Obj) (u:HO)
 |t3 (ps:Array Value)
 |ext (φ:Heap->Prop)
 |memo (B:List M.NK) (Φ:M.NK->M.NV->Prop)
 |fG (rs:List (Addr×List V))
abbrev Hp:=Addr->Option HO
def aU (H:Hp) (a:Addr) (o:HO):Hp:=λb=>if b=a then some o else H b
def jy {H:Hp} {a:Addr} {o:HO}:aU H a o a=some o:=by unfold aU;rw [if_pos rfl]
def jY {H:Hp} {a b:Addr} {o:HO} (h:b≠a):aU H a o b=H b:=by unfold aU;rw [if_neg h]
def OC {H:Hp} {a b:Addr} {o u:HO} (h:H a=some o) (c:H b=some u) (d:o≠u):a≠b:=by
 intro e;subst e;rw [h] at c;exact d (gG c)
def qt {H:Hp} {a b:Addr} {o:HO} (h:H a=some o) (c:H b=none):a≠b:=by
 intro e;subst e;rw [h] at c;cases c
mutual
def eC (H:Hp):M.NK->V->Prop
 | .int i,v=>v= .int i
 | .str x,v=>v= .str x
 | .am l,v=> ∃b a,v= .ref b/\H b=some (.am a)/\eI H l a
def eI (H:Hp):List M.NK->List V->Prop
 | [],a=>a=[]
 |k::l,a=> ∃u c,a=u::c/\eC H k u/\eI H l c
end
def lr (H:Hp):M.NV->V->Prop
 | .a6,v=>v= .a6
 | .key k,v=>eC H k v
 | .bl b,v=>v= .bl b
theorem eI.mono {H c:Hp}: ∀ {l:List M.NK} {a:List V},(∀k∈l,∀v,eC H k v->eC c k v)->eI H l a->eI c l a
 | [],a,_,x=>by simp only [eI] at x ⊢;exact x
 |k::l,a,f,x=>by
  obtain ⟨u,g,e,h,y⟩:=x;exact ⟨u,g,e,f k cu u h,eI.mono (λq i=>f q (de _ i)) y⟩
def eC.mono {H a:Hp} (h: ∀b c,H b=some (.am c)->a b=some (.am c)) (k:M.NK): ∀v,eC H k v->eC a k v:=by
 induction k using M.NK.ind with
 |h1 i=>intro v x;simp only [eC] at x ⊢;exact x
 |h2 z=>intro v x;simp only [eC] at x ⊢;exact x
 |h3 l j=>
  intro v x;obtain ⟨b,g,e,m,y⟩:=x;exact ⟨b,g,e,h b g m,eI.mono j y⟩
def lr.mono {H a:Hp} (e: ∀b c,H b=some (.am c)->a b=some (.am c)) {k:M.NV} {v:V} (x:lr H k v):lr a k v:=by
 cases k with
 |a6=>exact x
 |key k=>exact eC.mono e k v x
 |bl b=>exact x
section
variable (P:cp) (w:World)
def bi (H:Hp) (h:Heap) (a:Addr):HO->Prop
 | .ai e=>e.length<=aS/\ ∃(c:List Value) (n:Nat),aK e c/\h.get? a=some {cls:= .type "list",data:= .seq c.toArray n}
 | .am e=>e.length<=aS/\ ∃c:List Value,aK e c/\IsTup h a c.toArray
 | .dK g=>g.length<=aS/\(a==nG)=false/\ ∃z,KV g z/\h.DictOf (jR P w) a z
 | .dT g=>g.length<=aS/\(a==nG)=false/\ ∃e:List (List aR×Addr×Value),
  nF (λ(p:List aR×V) (q:List aR×Addr×Value)=>p.1=q.1/\H q.2.1=some (.am (p.1.map kV))/\aG p.2 q.2.2) g e/\
  ∃o j m,h.get? a=some o/\o.ExactDict/\o.data= .dict j m/\j.toList=e.map (entryOfKey (oI (jR P w)))/\(e.map (·.1)).Nodup
 | .set S n=>h.SetOf (i6 P w) a S n
 | .ins C dx fs=>H dx=some (.ay a)/\fs.length<=1000/\dx≠a/\h.get? a=some (sM C dx)/\
  ∃i,h.Ns1 dx i/\(∀f,fj (fs.lookup f) (i f))/\PySem.Within i (fs.map (·.1))
 | .ay _=> ∃o,h.get? a=some o
 | .xd fs=> ∃i,h.Ns1 a i/\ ∀f,fj (fs.lookup f) (i f)
 | .En lo L=> ∃t u v,h.get? a=some {cls:= .type "range",data:= .fields #[.int lo t,.int L u,.int 1 v]}
 | .eH o u=>h.get? a=some o/\bi H h a u
 | .t3 ps=>h.get? a=some {cls:= .none,data:= .fields ps}
 | .met f x=>h.get? a=some (PySem.W.methodObj (.ref f) (.ref x))
 | .ext y=>y h/\(∃o,h.get? a=some o)/\ ∀E I:Heap,y E->(∀o,E.get? a=some o->I.get? a=some o)->y I
 | .memo B N=>B.length<aS/\(a==nG)=false/\ ∃e:List (M.NK×Addr×Value),(∀x∈e,x.1∈B/\eC H x.1 (.ref x.2.1)/\x.1.bU<=8/\ ∃v J,aG v x.2.2/\lr H J v/\N x.1 J)/\
  ∃o j m,h.get? a=some o/\o.ExactDict/\o.data= .dict j m/\j.toList=e.map (entryOfKey (M.jH P w))/\(e.map (·.1)).Nodup
 | .fG l=>l.length<=aS/\(l.map (·.1)).Nodup/\(∃n,h.get? a=some {cls:= .type "list",data:= .seq (l.map λr=>dN r.1).toArray n})/\
  ∀r∈l,r.1≠a/\H r.1=some (.ay a)/\r.2.length<=aS/\ ∃(c:List Value) (n:Nat),aK r.2 c/\h.get? r.1=some {cls:= .type "list",data:= .seq c.toArray n}
def gr (H:Hp) (h:Heap):Prop:= ∀a o,H a=some o->bi P w H h a o
end
section
variable {P:cp} {w:World} {H j:Hp} {h I:Heap} {a:Addr} {o:HO}
def bi.lt (x:bi P w H h a o):a<h.objs.size:=by
 cases o with
 |ai g=>obtain ⟨_,_,_,_,e⟩:=x;exact c8 e
 |am g=>obtain ⟨_,_,_,p⟩:=x;exact p.lt
 |dK c=>obtain ⟨_,_,_,_,o,_,_,e,_⟩:=x;exact c8 e
 |dT c=>obtain ⟨_,_,_,_,o,_,_,e,_⟩:=x;exact c8 e
 |set S n=>obtain ⟨o,_,_,_,e,_⟩:=x;exact c8 e
 |ins C dx fs=>obtain ⟨_,_,_,e,_⟩:=x;exact c8 e
 |ay y=>obtain ⟨_,e⟩:=x;exact c8 e
 |xd fs=>obtain ⟨_,⟨_,_,_,e,_⟩,_⟩:=x;exact c8 e
 |En lo i=>obtain ⟨_,_,_,e⟩:=x;exact c8 e
 |eH ob u=>obtain ⟨e,_⟩:=x;exact c8 e
 |t3 ps=>exact c8 (x)
 |met f y=>exact c8 (x)
 |ext l=>obtain ⟨_,⟨_,e⟩,_⟩:=x;exact c8 e
 |memo B m=>obtain ⟨_,_,_,_,o,_,_,e,_⟩:=x;exact c8 e
 |fG q=>obtain ⟨_,_,⟨_,e⟩,_⟩:=x;exact c8 e
theorem nF.t4 {g i:Type} {F G:g->i->Prop}: ∀ {c:List g} {e:List i},nF F c e->(∀a b,F a b->G a b)->nF G c e
 |_,_,.nil,_=> .nil
 |_,_,.cons r t,f=> .cons (f _ _ r) (nF.t4 t f)
def bi.bL (x:bi P w H h a o) (k: ∀b u,(b=a\/H b=some (.ay a))->h.get? b=some u->I.get? b=some u)
  (U: ∀b,H b=some (.ay a)->j b=some (.ay a)) (J: ∀b E,H b=some (.am E)->j b=some (.am E)):bi P w j I a o:=by
 induction o with
 |ai E=>obtain ⟨z,g,n,r,e⟩:=x;exact ⟨z,g,n,r,k _ _ (.inl rfl) e⟩
 |am E=>obtain ⟨z,g,r,ob,e,c⟩:=x;exact ⟨z,g,r,ob,k _ _ (.inl rfl) e,c⟩
 |dK L=>obtain ⟨z,y,Z,r,ob,i,l,e,c⟩:=x;exact ⟨z,y,Z,r,ob,i,l,k _ _ (.inl rfl) e,c⟩
 |fG rs=>
  obtain ⟨z,nd,⟨n,e⟩,pr⟩:=x;exact ⟨z,nd,⟨n,k _ _ (.inl rfl) e⟩,λq N=>let ⟨h1,Y,h3,g,m,r,e2⟩:=pr q N;⟨h1,U _ Y,h3,g,m,r,k _ _ (.inr Y) e2⟩⟩
 |dT L=>
  obtain ⟨z,y,E,r,ob,i,l,e,c⟩:=x;exact ⟨z,y,E,nF.t4 r λp q z=>⟨z.1,J _ _ z.2.1,z.2.2⟩,ob,i,l,k _ _ (.inl rfl) e,c⟩
 |set S n=>obtain ⟨ob,i,l,t,e,c⟩:=x;exact ⟨ob,i,l,t,k _ _ (.inl rfl) e,c⟩
 |ins C dx fs=>
  obtain ⟨d,z,ne,e,O,⟨Q,i,l,e2,c⟩,r⟩:=x;exact ⟨U _ d,z,ne,k _ _ (.inl rfl) e,O,⟨Q,i,l,k _ _ (.inr d) e2,c⟩,r⟩
 |ay y=>obtain ⟨ob,e⟩:=x;exact ⟨ob,k _ _ (.inl rfl) e⟩
 |xd fs=>obtain ⟨O,⟨Q,i,l,e,c⟩,r⟩:=x;exact ⟨O,⟨Q,i,l,k _ _ (.inl rfl) e,c⟩,r⟩
 |En lo hi=>obtain ⟨t,u,v,e⟩:=x;exact ⟨t,u,v,k _ _ (.inl rfl) e⟩
 |eH ob u ih=>obtain ⟨e,q⟩:=x;exact ⟨k _ _ (.inl rfl) e,ih q⟩
 |t3 ps=>
  have e:=x;exact k a _ (.inl rfl) e
 |met f y=>
  have e:=x;exact k a _ (.inl rfl) e
 |ext φ=>obtain ⟨p,⟨o,e⟩,st⟩:=x;exact ⟨st _ _ p λo q=>k _ _ (.inl rfl) q,⟨o,k _ _ (.inl rfl) e⟩,st⟩
 |memo B Φ=>
  obtain ⟨z,y,E,r,ob,i,l,e,c⟩:=x;exact ⟨z,y,E,λq N=>let ⟨b1,b2,b3,v,nv,b4,b5,b6⟩:=r q N;⟨b1,eC.mono J _ _ b2,b3,v,nv,b4,lr.mono J b5,b6⟩,ob,i,l,k _ _ (.inl rfl) e,c⟩
def gr.lt (x:gr P w H h) (e:H a=some o):a<h.objs.size:=(x a o e).lt
def gr.fresh (x:gr P w H h) (e:h.objs.size<=a):H a=none:=by
 cases q:H a with
 |none=>rfl
 |some u=>exact absurd (gR (x.lt q) e) (pI _)
def gr.kept (x:gr P w H h) (k: ∀b u,h.get? b=some u->I.get? b=some u):gr P w H I:=λa o e=>
 (x a o e).bL (λb u _ q=>k b u q) (λ_ q=>q) λ_ _ q=>q
def gr.laid (x:gr P w H h) (k: ∀b u,h.get? b=some u->I.get? b=some u) (l:h.objs.size<=a) (new:bi P w (aU H a o) I a o):gr P w (aU H a o) I:=λb u e=>by
 have g:=x.fresh l
 by_cases i:b=a
 . subst i;rw [jy] at e;cases e;exact new
 . rw [jY i] at e;exact (x b u e).bL (λc v _ q=>k c v q) (λc q=>by rw [jY (qt q g)];exact q) λc m q=>by rw [jY (qt q g)];exact q
end
def Rd (H:Hp) (a:Addr) (u:HO):Prop:=H a=some u\/ ∃o,H a=some (.eH o u)
def Rd.of {H:Hp} {a:Addr} {u:HO} (h:H a=some u):Rd H a u:= .inl h
def Rd.ok {P:cp} {w:World} {H:Hp} {h:Heap} {a:Addr} {u:HO} (r:Rd H a u) (x:gr P w H h):bi P w H h a u:=by
 rcases r with r| ⟨o,r⟩
 . exact x a u r
 . obtain ⟨_,q⟩:=x a _ r;exact q
def pk:Option HO->Prop
 |some (.ai _)=>True
 |some (.dK _)=>True
 |some (.dT _)=>True
 |some (.set _ _)=>True
 |some (.ins _ _ _)=>True
 |some (.ext _)=>True
 |some (.memo _ _)=>True
 |some (.fG _)=>True
 |_=>False
section
variable {P:cp} {w:World} {H:Hp} {h h':Heap} {x e:Addr} {o':HO}
def gr.write (ok:gr P w H h) (j:pk (H x)) (o:e=x\/H e=some (.ay x)) (k: ∀b u,b≠e->h.get? b=some u->h'.get? b=some u) (n: ∃u,h'.get? e=some u)
   (new:bi P w (aU H x o') h' x o'):gr P w (aU H x o') h':=λb u q=>by
 have g: ∀c y,H c=some (.ay y)->c≠x:=λc y r z=>by subst z;rw [r] at j;exact j
 have i: ∀c l,H c=some (.am l)->c≠x:=λc l r z=>by subst z;rw [r] at j;exact j
 by_cases m:b=x
 . subst m;rw [jy] at q;cases q;exact new
 . rw [jY m] at q
   by_cases a:b=e
   . have p:H b=some (.ay x):=by
       rcases o with z|z
       . exact absurd (a.trans z) m
       . rw [a];exact z
     rw [q] at p;cases p;obtain ⟨v,B⟩:=n;exact ⟨v,by rw [a];exact B⟩
   . refine (ok b u q).bL (λc v hc r=>k c v ?_ r) (λc r=>by rw [jY (g c b r)];exact r) λc l r=>by rw [jY (i c l r)];exact r
     rcases hc with rfl|hc
     . exact a
     . rintro rfl;rcases o with z|z
       . exact g c b hc z
       . rw [hc] at z;cases z;exact m rfl
end
structure Un (fs ex:List Addr) (H H':Hp) (h h':Heap):Prop where
 keep: ∀b o,h.get? b=some o->H b=none->b∉fs->b∉ex->h'.get? b=some o
 slot: ∀b o,h.get? b=some o->H b=none->b∈fs->b∉ex-> ∃sl,h'.get? b=some {o with slots:=sl}
 free: ∀b o,h.get? b=some o->H b=none->b∉ex->H' b=none
 there: ∀b o,h.get? b=some o->b∉ex-> ∃o',h'.get? b=some o'
 iV: ∀b xs,H b=some (.am xs)->H' b=some (.am xs)
 ls: ∀b o u,H b=some (.eH o u)->H' b=some (.eH o u)
 l9: ∀b ps,H b=some (.t3 ps)-> ∃more,H' b=some (.t3 (ps++more))
section
variable {fs OD ex ex':List Addr} {H H1 H2:Hp} {h h1 h2 h':Heap} {a x e:Addr} {o:HO}
def Un.any (u:Un fs ex H H1 h h1) {b:Addr} {ob:Obj} (q:h.get? b=some ob) (n:H b=none) (c:b∉ex): ∃i,h1.get? b=some {ob with slots:=i}:=by
 by_cases g:b∈fs
 . exact u.slot b ob q n g c
 . exact ⟨ob.slots,u.keep b ob q n g c⟩
def Un.kept (k: ∀b u,h.get? b=some u->h'.get? b=some u):Un fs ex H H h h':=
 ⟨λb ob q _ _ _=>k b ob q,λb ob q _ _ _=>⟨ob.slots,k b ob q⟩,λ_ _ _ n _=>n,λb ob q _=>⟨ob,k b ob q⟩,λ_ _ q=>q,λ_ _ _ q=>q,λ_ ps q=>⟨#[],by rw [q];simp⟩⟩
def Un.refl:Un fs ex H H h h:=Un.kept λ_ _ q=>q
def Un.laid (k: ∀b u,h.get? b=some u->h'.get? b=some u) (g:h.objs.size<=a) (c:H a=none):Un fs ex H (aU H a o) h h' where
 keep:=λb u q _ _ _=>k b u q
 slot:=λb u q _ _ _=>⟨u.slots,k b u q⟩
 free:=λb u q n _=>by rw [jY (eB (gR (c8 q) g))];exact n
 there:=λb u q _=>⟨u,k b u q⟩
 iV:=λb i q=>by rw [jY (qt q c)];exact q
 ls:=λb u i q=>by rw [jY (qt q c)];exact q
 l9:=λb ps q=>⟨#[],by rw [jY (qt q c),q];simp⟩
def Un.write (g:pk (H x)) (p:e=x\/H e=some (.ay x)) (k: ∀b u,b≠e->h.get? b=some u->h'.get? b=some u) (i: ∃u,h'.get? e=some u):Un fs ex H (aU H x o) h h':=by
 have l: ∀b,H b=none->b≠x:=λb n z=>by subst z;rw [n] at g;exact g
 have m: ∀b,H b=none->b≠e:=λb n z=>by
   subst z;rcases p with r|r
   . exact l b n r
   . rw [n] at r;cases r
 have j: ∀b u,H b=some u-> ¬pk (some u)->b≠x:=λb u q nm z=>by subst z;rw [q] at g;exact nm g
 refine ⟨λb u q n _ _=>k b u (m b n) q,λb u q n _ _=>⟨u.slots,k b u (m b n) q⟩,λb u q n _=>by rw [jY (l b n)];exact n,λb u q _=>?_,
   λb v q=>by rw [jY (j b _ q λz=>z)];exact q,λb u v q=>by rw [jY (j b _ q λz=>z)];exact q,λb ps q=>⟨#[],by rw [jY (j b _ q λz=>z),q];simp⟩⟩
 by_cases c:b=e
 . subst c;exact i
 . exact ⟨u,k b u c q⟩
end
def Eo (h:Heap) (H:Hp):List Addr:=(fF h.objs.size).filter λa=>(H a).isSome
def mU (h:Heap) (H:Hp):Heap:=PySem.W.hideAll h (Eo h H)
def OE (h:Heap) (H:Hp):(mU h H).objs.size=h.objs.size:=PySem.W.hideAll_size _ _
def OF {h:Heap} {H:Hp} {b:Addr} {o:Obj} (e:h.get? b=some o) (n:H b=none):(mU h H).get? b=some o:=
 PySem.W.hideAll_get _ e λa=>by
  have q:=(t5.mp a).2;rw [n] at q;simp at q
def OG {h:Heap} {H:Hp} {b:Addr} {o:Obj} (e:(mU h H).get? b=some o):h.get? b=some o/\H b=none:=by
 have a:=PySem.W.of_hideAll (Eo h H) e;refine ⟨a,?_⟩
 cases q:H b with
 |none=>rfl
 |some x=>
  have z:(mU h H).get? b=none:=PySem.W.hideAll_none (Eo h H) (t5.mpr ⟨iU.mpr (c8 a),by simp [q]⟩);rw [z] at e;cases e
def OH (g h:Heap) (L:Addr):List (Addr×Obj):=(fF h.objs.size).filterMap λa=>if a=L\/(g.get? a).isSome=true then none else (h.get? a).map λo=>(a,o)
def rest (g h:Heap) (L d:Addr):List (Addr×Obj):=(OH g h L).filter λp=>decide (p.1≠d)
structure Mod (K:aH) (mg:WV) (af:Heap):Prop where
 AX:K.In af
 glob:af.Ns ce mg
 blt: ∃mb,af.Ns builtinsNs mb/\ ∀x:Str,x≠ "__name__" ->mb x=mV x
 nolimit:af.NoLimit
structure Cx where
 prog:cp
 w:World
 K:aH
 mg:Str->Option Value
 af:Heap
 A:cC
 N:List Str
 fL:aL
 pJ:Hp
 env:Env
 outer:List Env
 stack:List Env
 ex:List Addr
 fn:Str->Bool
 cR:Bool
 pn:List (Addr×Obj)
 xe:Value->aL->Prop
abbrev T9 (X:Cx) (e:Expr) (a:List Expr):Prop:=c0 (e::a) X.env=(false,eval e X.env)::c0 a X.env
abbrev T8 (X:Cx) (p:Pos) (a:List Expr):Prop:=(iW p (c0 a X.env)).any (·.1)=false
abbrev T7 (X:Cx) (x:Str):Prop:=X.fn x=true\/X.env.scope.names.lookup x=some .local
def pv (l:List Env):List Addr:=l.filterMap (·.frame)
abbrev Cx.fs (X:Cx):List Addr:=pv X.outer
def gs (a:Scope) (x:Str):Prop:=a.names.lookup x=some .local\/a.names.lookup x=some .cell\/a.names.lookup x=some .free
def Loc (a:Scope) (x:Str):Prop:=a.names.lookup x=some .local\/a.names.lookup x=some .cell
def Look (a:Env) (h:Heap) (m:WV) (x:Str) (u:Value):Prop:=
 (a.kindOf x=some .local/\m x=some u)\/((a.kindOf x=some .cell\/a.kindOf x=some .free)/\ ∃c,a.cells.lookup x=some c/\h.IsCell c (some u))
structure Cx.Ok (X:Cx):Prop where
 mod:Mod X.K X.mg X.af
 kind:X.env.scope.kind= .function
 glob:X.env.globals=ce
 blt:X.env.builtins=builtinsNs
 above:X.fL.heap.objs.size<=X.env.locals
 inj: ∀x y c,X.env.cells.lookup x=some c->X.env.cells.lookup y=some c->x=y
 has: ∀x,(X.env.kindOf x=some .cell\/X.env.kindOf x=some .free)-> ∃c,X.env.cells.lookup x=some c
 Ag: ∀x c,X.fn x=true->X.env.cells.lookup x=some c->X.fL.heap.objs.size<=c
 hd:X.cR=true->X.A.handled=none
 frames:X.A.frames=some X.stack
 AY:X.stack=X.outer\/(X.stack=X.env::X.outer/\X.env.frame=some X.env.locals)
 AZ: ∀b∈X.ex,b≠X.env.locals/\ ∀x c,X.env.cells.lookup x=some c->c≠b
 bs: ∀b o,X.af.get? b=some o->X.fL.heap.get? b=some o/\X.pJ b=none
 rG:X.af.objs.size<=X.fL.heap.objs.size
 oJ: ∀b o,X.af.get? b=some o->b∉X.ex
 oK: ∀b∈X.ex,b∉X.fs
 ig:X.fL.heap.FunFrames X.af X.outer
 sO: ∀b∈X.fs,X.pJ b=none
structure aC (X:Cx) (pins:List (Addr×Obj)) (σ:List (Option V)) (H:Hp) (s:aL):Prop where
 ok:X.Ok
 os:s.os=X.fL.os
 bare:rZ s.gens
 af:Un X.fs X.ex X.pJ H X.fL.heap s.heap
 loc: ∃m,s.heap.Ns X.env.locals m/\ ∀(i:Nat) (x:Str) (v:V),X.N[i]?=some x->σ[i]?=some (some v)->gs X.env.scope x-> ∃u,aG v u/\Look X.env s.heap m x u
 cell: ∀x c,X.env.cells.lookup x=some c-> ∃v,s.heap.IsCell c v
 free:H X.env.locals=none
 gy: ∀x c,X.env.cells.lookup x=some c->H c=none
 pin: ∀p∈X.pn++pins,s.heap.get? p.1=some p.2/\H p.1=none/\p.1≠X.env.locals/\p.1∉X.fs/\ ∀v,p.2.data≠ .cell v
 be:gr X.prog X.w H s.heap
 len:σ.length=X.N.length
section
variable {X:Cx} {g:List (Addr×Obj)} {σ:List (Option V)} {H H':Hp} {s:aL} {h':Heap}
def Cx.Ok.Ep (ok:X.Ok) {b:Addr} {o:Obj} (e:X.af.get? b=some o):b∉X.fs:=λa=>by
 have:=(ok.ig.mem a).1;rw [e] at this;cases this
def aC.bs (I:aC X g σ H s): ∀b o,X.af.get? b=some o->s.heap.get? b=some o/\H b=none:=λb o e=>
 ⟨I.af.keep b o (I.ok.bs b o e).1 (I.ok.bs b o e).2 (I.ok.Ep e) (I.ok.oJ b o e),I.af.free b o (I.ok.bs b o e).1 (I.ok.bs b o e).2 (I.ok.oJ b o e)⟩
def aC.bk (I:aC X g σ H s): ∀b o,X.af.get? b=some o->s.heap.get? b=some o:=λb o e=>(I.bs b o e).1
def aC.mod (I:aC X g σ H s):Mod X.K X.mg X.af:=I.ok.mod
def aC.ii (I:aC X g σ H s):X.K.In s.heap:=I.ok.mod.AX.keeps I.bk
def aC.lt (I:aC X g σ H s):X.env.locals<s.heap.objs.size:=let ⟨_,a,_⟩:=I.loc;a.lt
def aC.sz (I:aC X g σ H s):X.fL.heap.objs.size<=s.heap.objs.size:=cE I.ok.above (A0 I.lt)
def aC.Er (I:aC X g σ H s) {a:Addr} (h:s.heap.objs.size<=a):a∉X.fs:=λc=>by
 obtain ⟨_,o,e,_⟩:=I.ok.ig.mem c;exact absurd (gR (c8 e) (cE I.sz h)) (pI _)
def aC.t6 (I:aC X g σ H s): ∀x c,X.env.cells.lookup x=some c->c≠X.env.locals:=λx c e z=>by
 obtain ⟨v,o,i,hd⟩:=I.cell x c e;obtain ⟨m,⟨j,l,n,a,h,_⟩,_⟩:=I.loc;rw [z,a] at i;cases i;rw [h] at hd;cases hd
def aC.ig (I:aC X g σ H s):s.heap.FunFrames X.af X.outer:=by
 have all: ∀(l:List Env),(∀b∈pv l,b∈X.fs)->X.fL.heap.FunFrames X.af l->s.heap.FunFrames X.af l:=by
  intro l
  induction l with
  |nil=>intro _ _;trivial
  |cons env r i=>
   intro h hl;obtain ⟨j,⟨L,o,a,m,n,hd⟩,hr⟩:=hl;have hL:=h L (by unfold pv;rw [Es,a];exact cu);obtain ⟨p,e⟩:=I.af.slot L o n (I.ok.sO L hL) hL λz=>I.ok.oK L z hL
   exact ⟨j,⟨L,_,a,m,e,hd⟩,i (λb c=>h b (by unfold pv;rw [Es,a];exact de _ c)) hr⟩
 exact all X.outer (λ_ c=>c) I.ok.ig
def aC.stack (I:aC X g σ H s):s.heap.FunFrames X.af X.stack:=by
 rcases I.ok.AY with e| ⟨e,a⟩
 . rw [e];exact I.ig
 . rw [e];obtain ⟨m,c,_⟩:=I.loc;refine .cons (by rw [I.ok.kind];decide) a c ?_ I.ig;exact Heap.get?_none_of_le (cE I.ok.rG I.ok.above)
def aC.nR (I:aC X g σ H s): ∀b∈pv X.stack,b∈X.env.locals::X.fs:=λb a=>by
 rcases I.ok.AY with e| ⟨e,c⟩
 . rw [e] at a;exact de _ a
 . rw [e] at a;unfold pv at a;rw [Es,c] at a;exact a
def aC.op (I:aC X g σ H s): ∀b∈pv X.stack,H b=none:=λb hb=>by
 rcases cQ.mp (I.nR b hb) with e|hb
 . rw [e];exact I.free
 . obtain ⟨_,o,a,_⟩:=I.ok.ig.mem hb;exact I.af.free b o a (I.ok.sO b hb) λz=>I.ok.oK b z hb
def aC.step {U:Array GenState} {t':Nat} {d':Drawn} {ch:List Addr} (I:aC X g σ H s)
   (h: ∀b∈ch,(b∈X.ex\/X.fL.heap.objs.size<=b)/\b≠X.env.locals/\(∀x c,X.env.cells.lookup x=some c->c≠b)/\ ∀p∈X.pn++g,p.1≠b)
   (keep: ∀b o,b≠X.env.locals->b∉X.fs->b∉ch->s.heap.get? b=some o->H b=none->h'.get? b=some o)
   (slot: ∀b o,b≠X.env.locals->b∈X.fs->b∉ch->s.heap.get? b=some o->H b=none-> ∃O,h'.get? b=some {o with slots:=O}) (free: ∀b o,b∉ch->s.heap.get? b=some o->H b=none->H' b=none)
   (there: ∀b o,b∉ch->s.heap.get? b=some o-> ∃L,h'.get? b=some L)
   (iV: ∀b B,H b=some (.am B)->H' b=some (.am B)) (ls: ∀b o u,H b=some (.eH o u)->H' b=some (.eH o u)) (l9: ∀b ps,H b=some (.t3 ps)-> ∃more,H' b=some (.t3 (ps++more)))
   (ns: ∀m,s.heap.Ns X.env.locals m->h'.Ns X.env.locals m) (be:gr X.prog X.w H' h') (hg:rZ U):
   aC X g σ H' {s with heap:=h',gens:=U,drawn:=d',toks:=t'}:=by
 have N: ∀b o,X.fL.heap.get? b=some o->b≠X.env.locals:=λb o e=>eB (gR (c8 e) I.ok.above)
 have y: ∀b o,X.fL.heap.get? b=some o->b∉X.ex->b∉ch:=λb o e a E=>by
   rcases (h b E).1 with z|z
   . exact a z
   . exact absurd (gR (c8 e) z) (pI _)
 have j: ∀x c,X.env.cells.lookup x=some c-> ∀v,s.heap.IsCell c v->h'.IsCell c v:=λx c e v ⟨o,J,hd⟩=>by
   have w:c∉ch:=λz=>(h c z).2.2.1 x c e rfl
   by_cases Y:c∈X.fs
   . obtain ⟨O,q⟩:=slot c o (I.t6 x c e) Y w J (I.gy x c e);exact ⟨_,q,hd⟩
   . exact ⟨o,keep c o (I.t6 x c e) Y w J (I.gy x c e),hd⟩
 refine ⟨I.ok,I.os,hg,⟨λb o e n E a=>?_,λb o e n E a=>?_,λb o e n a=>?_,λb o e a=>?_,λb B e=>iV b B (I.af.iV b B e),λb o B e=>ls b o B (I.af.ls b o B e),λb ps e=>?_⟩,?_,λx c e=>?_,?_,λx c e=>?_,λp Z=>?_,be,I.len⟩
 . exact keep b o (N b o e) E (y b o e a) (I.af.keep b o e n E a) (I.af.free b o e n a)
 . obtain ⟨O,e1⟩:=I.af.slot b o e n E a;obtain ⟨Q,e2⟩:=slot b _ (N b o e) E (y b o e a) e1 (I.af.free b o e n a);exact ⟨Q,e2⟩
 . obtain ⟨L,e1⟩:=I.af.there b o e a;exact free b L (y b o e a) e1 (I.af.free b o e n a)
 . obtain ⟨L,e1⟩:=I.af.there b o e a;exact there b L (y b o e a) e1
 . obtain ⟨m1,e1⟩:=I.af.l9 b ps e;obtain ⟨m2,e2⟩:=l9 b _ e1;exact ⟨m1++m2,by rw [e2,Array.append_assoc]⟩
 . obtain ⟨m,hn,hl⟩:=I.loc;refine ⟨m,ns m hn,λi x v e1 e2 e3=>?_⟩;obtain ⟨u,r,l⟩:=hl i x v e1 e2 e3;refine ⟨u,r,?_⟩;rcases l with l| ⟨k,c,e,z⟩
   . exact .inl l
   . exact .inr ⟨k,c,e,j x c e _ z⟩
 . obtain ⟨v,z⟩:=I.cell x c e;exact ⟨v,j x c e v z⟩
 . obtain ⟨m,⟨o,_,_,J,_⟩,_⟩:=I.loc;exact free _ o (λz=>(h _ z).2.1 rfl) J I.free
 . obtain ⟨v,o,J,hd⟩:=I.cell x c e;exact free c o (λz=>(h c z).2.2.1 x c e rfl) J (I.gy x c e)
 . obtain ⟨e,n,ne,nf,d⟩:=I.pin p Z;have w:p.1∉ch:=λz=>(h p.1 z).2.2.2 p Z rfl
   exact ⟨keep p.1 p.2 ne nf w e n,free p.1 p.2 w e n,ne,nf,d⟩
def aC.un {l:Nat} (I:aC X g σ H s) (u:Un X.fs [] H H' s.heap h') (be:gr X.prog X.w H' h'):aC X g σ H' {s with heap:=h',toks:=l}:=by
 obtain ⟨m,⟨o,v,w,j,r⟩,_⟩:=id I.loc;obtain ⟨x,hL⟩:=u.any j I.free (by simp)
 exact I.step (ch:=[]) (λ_ z=>nomatch z) (λb o _ c _ e n=>u.keep b o e n c (by simp)) (λb o _ c _ e n=>u.slot b o e n c (by simp)) (λb o _ e n=>u.free b o e n (by simp)) (λb o _ e=>u.there b o e (by simp)) u.iV u.ls u.l9 (λy p=>by
  obtain ⟨B,h,i,a,q⟩:=p;rw [j] at a;cases a
  exact ⟨_,h,i,hL,q⟩) be I.bare
def aC.call {q:Array GenState} {y:Nat} {B:Drawn} {v:List Addr} (I:aC X g σ H s) (u:Un (pv X.stack) v H H' s.heap h') (be:gr X.prog X.w H' h') (hg:rZ q)
  (h: ∀b∈v,(b∈X.ex\/X.fL.heap.objs.size<=b)/\b≠X.env.locals/\(∀x c,X.env.cells.lookup x=some c->c≠b)/\ ∀p∈X.pn++g,p.1≠b):
  aC X g σ H' {s with heap:=h',gens:=q,drawn:=B,toks:=y}:=by
 obtain ⟨m,⟨o,N,O,w,r⟩,_⟩:=id I.loc;obtain ⟨Q,hL⟩:=u.any w I.free λz=>(h _ z).2.1 rfl
 exact I.step h (λb o hL E a e n=>u.keep b o e n (λz=>(cQ.mp (I.nR b z)).elim hL E) a) (λb o _ _ a e n=>u.any e n a) (λb o a e n=>u.free b o e n a) (λb o a e=>u.there b o e a) u.iV u.ls u.l9 (λU J=>by
  obtain ⟨Y,j,l,i,L⟩:=J;rw [w] at i;cases i
  exact ⟨_,j,l,hL,L⟩) be hg
def aC.turned {t':Nat} {a:Addr} (I:aC X g σ H s) (k: ∀b o,b≠a->s.heap.get? b=some o->h'.get? b=some o) (j:H a=none) (hL:a≠X.env.locals)
   (l:a∈X.ex\/X.fL.heap.objs.size<=a) (w: ∀x c,X.env.cells.lookup x=some c->c≠a) (h3: ∀p∈X.pn++g,p.1≠a):aC X g σ H {s with heap:=h',toks:=t'}:=by
 have i: ∀b u,H b=some u->b≠a:=λb u e z=>by rw [z,j] at e;cases e
 refine I.step (ch:=[a]) (λb y=>?_) (λb o _ _ h e _=>k b o (λz=>h (by simp [z])) e) (λb o _ _ h e _=>⟨o.slots,k b o (λz=>h (by simp [z])) e⟩) (λ_ _ _ _ n=>n)
   (λb o h e=>⟨o,k b o (λz=>h (by simp [z])) e⟩) (λ_ _ e=>e) (λ_ _ _ e=>e) (λb ps e=>⟨#[],by rw [e];simp⟩) (λm B=>?_) (λb u e=>?_) I.bare
 . have e:b=a:=by simpa using y
   subst e;exact ⟨l,hL,w,h3⟩
 . obtain ⟨o,E,J,L,r⟩:=B;exact ⟨o,E,J,k _ o (lu hL) L,r⟩
 . refine (I.be b u e).bL (λc v h q=>k c v ?_ q) (λ_ q=>q) λ_ _ q=>q
   rcases h with z|z
   . rw [z];exact i b u e
   . exact i c _ z
def aC.tok (I:aC X g σ H s) (t:Nat):aC X g σ H {s with toks:=t}:=I.un Un.refl I.be
def aC.kept {t':Nat} (I:aC X g σ H s) (k: ∀b u,s.heap.get? b=some u->h'.get? b=some u):aC X g σ H {s with heap:=h',toks:=t'}:=I.un (Un.kept k) (I.be.kept k)
def aC.laid {a:Addr} {o:HO} {t':Nat} (I:aC X g σ H s) (k: ∀b u,s.heap.get? b=some u->h'.get? b=some u) (c:s.heap.objs.size<=a) (new:bi X.prog X.w (aU H a o) h' a o):
 aC X g σ (aU H a o) {s with heap:=h',toks:=t'}:=I.un (Un.laid k c (I.be.fresh c)) (I.be.laid k c new)
def aC.write {x e:Addr} {o:HO} {i:Nat} (I:aC X g σ H s) (c:pk (H x)) (h:e=x\/H e=some (.ay x)) (k: ∀b u,b≠e->s.heap.get? b=some u->h'.get? b=some u) (a: ∃u,h'.get? e=some u)
 (new:bi X.prog X.w (aU H x o) h' x o):aC X g σ (aU H x o) {s with heap:=h',toks:=i}:=I.un (Un.write c h k a) (I.be.write c h k a new)
def aC.oq {a:List (Addr×Obj)} (I:aC X g σ H s) (h: ∀p∈a,s.heap.get? p.1=some p.2/\H p.1=none/\p.1≠X.env.locals/\p.1∉X.fs/\ ∀v,p.2.data≠ .cell v):aC X a σ H s:=
 ⟨I.ok,I.os,I.bare,I.af,I.loc,I.cell,I.free,I.gy,λp c=>(ij.mp c).elim (λz=>I.pin p (rH _ z)) (h p),I.be,I.len⟩
def Uf {N:List Str} (hN:N.Nodup) {i j:Nat} {x:Str} (a:N[i]?=some x) (b:N[j]?=some x):i=j:=by
 obtain ⟨c,e1⟩:=mX.mp a;obtain ⟨e,e2⟩:=mX.mp b;exact (CJ hN).mp (e1.trans e2.symm)
def Yc {M:Model} {A:cC} {E:U9} {i:Nat} {x:Str} {v:V} {u:Value} {Q:Unit->aL->Prop} (I:aC X g σ H s) (hN:X.N.Nodup) (Y:X.N[i]?=some x) (B:Loc X.env.scope x) (r:aG v u)
   (h: ∀s',aC X g (σ.set i (some v)) H s'->(∃a,rJ a s.heap s'.heap/\(a=X.env.locals\/X.env.cells.lookup x=some a))->Q () s') (hf:T7 X x:=by first|exact .inl rfl|exact .inr rfl|assumption):wpAny M A (storeName X.env x u) Q E s:=by
 obtain ⟨m,hn,hl⟩:=id I.loc;have Z:(X.env.scope.kind== .class|| (X.env.scope.kind== .module&&X.env.locals !=X.env.globals))=false:=by rw [I.ok.kind];rfl
 have L:i<σ.length:=by rw [I.len];exact (mX.mp Y).1
 have t6:=I.t6
 have w: ∀ {a:Addr} {h':Heap},(∃o,s.heap.get? a=some o/\H a=none)->rJ a s.heap h'->gr X.prog X.w H h':=λ{a h'} ha l b ob e=>by
   obtain ⟨_,_,J⟩:=ha;refine (I.be b ob e).bL (λc w' hc q=>(l.2 c ?_).trans q) (λ_ q=>q) λ_ _ q=>q
   rintro rfl;rcases hc with rfl|hc
   . rw [J] at e;cases e
   . rw [J] at hc;cases hc
 rcases B with hk|hk
 . refine wpAny_storeName_local hk hn (λh' OI l=>?_) Z;obtain ⟨oL,_,_,OJ,_⟩:=id hn;refine h _ ⟨I.ok,I.os,I.bare,⟨λb o e n N B=>?_,λb o e n N B=>?_,I.af.free,λb o e B=>?_,I.af.iV,I.af.ls,I.af.l9⟩,⟨_,OI,λj y v' e1 e2 e3=>?_⟩,λy c e=>?_,I.free,I.gy,λp hp=>?_,w ⟨oL,OJ,I.free⟩ l,by simpa using I.len⟩ ⟨_,l,.inl rfl⟩
   . exact (l.2 b (eB (gR (c8 e) I.ok.above))).trans (I.af.keep b o e n N B)
   . obtain ⟨sl,e1⟩:=I.af.slot b o e n N B;exact ⟨sl,(l.2 b (eB (gR (c8 e) I.ok.above))).trans e1⟩
   . obtain ⟨o',e1⟩:=I.af.there b o e B;exact ⟨o',(l.2 b (eB (gR (c8 e) I.ok.above))).trans e1⟩
   . by_cases O:j=i
     . subst O;rw [Y] at e1;cases e1;rw [Ai L] at e2;cases e2;exact ⟨u,r,.inl ⟨hk,by simp⟩⟩
     . rw [Et (lu O)] at e2;obtain ⟨u',r',q⟩:=hl j y v' e1 e2 e3;refine ⟨u',r',?_⟩;rcases q with ⟨k,e⟩| ⟨k,c,e,z⟩
       . refine .inl ⟨k,?_⟩;have:y≠x:=λe=>O (Uf hN e1 (e▸Y))
         simp [this,e]
       . exact .inr ⟨k,c,e,z.sameBut l (t6 y c e)⟩
   . obtain ⟨w',z⟩:=I.cell y c e;exact ⟨w',z.sameBut l (t6 y c e)⟩
   . obtain ⟨e,n,ne,nf,d⟩:=I.pin p hp;exact ⟨(l.2 p.1 ne).trans e,n,ne,nf,d⟩
 . have U:X.fn x=true:=by
     rcases hf with z|z
     . exact z
     . rw [z] at hk;cases hk
   obtain ⟨c,hc⟩:=I.ok.has x (.inl hk);obtain ⟨w',z⟩:=I.cell x c hc;refine wpAny_storeName_cell I.ok.kind hk hc z (λh' Aj l=>?_);obtain ⟨oc,Io,Eu⟩:=id z;refine h {s with heap:=h'} ⟨I.ok,I.os,I.bare,⟨λb o e n N B=>?_,λb o e n N B=>?_,I.af.free,λb o e B=>?_,I.af.iV,I.af.ls,I.af.l9⟩,⟨m,hn.sameBut l (lu (t6 x c hc)),λj y v' e1 e2 e3=>?_⟩,λy c' e=>?_,I.free,I.gy,λp hp=>?_,w ⟨oc,Io,I.gy x c hc⟩ l,by simpa using I.len⟩ ⟨c,l,.inr hc⟩
   . exact (l.2 b (eB (gR (c8 e) (I.ok.Ag x c U hc)))).trans (I.af.keep b o e n N B)
   . obtain ⟨sl,e1⟩:=I.af.slot b o e n N B;exact ⟨sl,(l.2 b (eB (gR (c8 e) (I.ok.Ag x c U hc)))).trans e1⟩
   . obtain ⟨o',e1⟩:=I.af.there b o e B;exact ⟨o',(l.2 b (eB (gR (c8 e) (I.ok.Ag x c U hc)))).trans e1⟩
   . by_cases O:j=i
     . subst O;rw [Y] at e1;cases e1;rw [Ai L] at e2;cases e2;exact ⟨u,r,.inr ⟨.inl hk,c,hc,Aj⟩⟩
     . rw [Et (lu O)] at e2;obtain ⟨u',r',q⟩:=hl j y v' e1 e2 e3;refine ⟨u',r',?_⟩;rcases q with q| ⟨k,c',e,z'⟩
       . exact .inl q
       . refine .inr ⟨k,c',e,z'.sameBut l ?_⟩;rintro rfl;exact O (Uf hN e1 (I.ok.inj _ _ _ e hc▸Y))
   . by_cases Ip:c'=c
     . subst Ip;exact ⟨_,Aj⟩
     . obtain ⟨w2,z2⟩:=I.cell y c' e;exact ⟨w2,z2.sameBut l Ip⟩
   . obtain ⟨e,n,ne,nf,d⟩:=I.pin p hp;refine ⟨(l.2 p.1 ?_).trans e,n,ne,nf,d⟩;intro q;rw [q,Io] at e;have q':=gG e;exact d w' (by rw [<-q'];exact Eu)
def Jh {M:Model} {A:cC} {E:U9} {i:Nat} {x:Str} {v:V} {u:Value} {Q:Unit->aL->Prop} (I:aC X g σ H s) (hN:X.N.Nodup) (c:X.N[i]?=some x) (e:Loc X.env.scope x) (r:aG v u)
  (h: ∀a,aC X g (σ.set i (some v)) H a->Q () a) (j:T7 X x:=by first|exact .inl rfl|exact .inr rfl|assumption):wpAny M A (storeName X.env x u) Q E s:=
 Yc I hN c e r (λa l _=>h a l) j
def aC.A1 {a:aL} {i:List Addr} (I:aC X g σ H s) (j:a.os=s.os) (u:Un (pv X.stack) i H H' s.heap a.heap) (be:gr X.prog X.w H' a.heap) (hg:rZ a.gens)
  (h: ∀b∈i,(b∈X.ex\/X.fL.heap.objs.size<=b)/\b≠X.env.locals/\(∀x c,X.env.cells.lookup x=some c->c≠b)/\ ∀p∈X.pn++g,p.1≠b):aC X g σ H' a:=by
 obtain ⟨h',l,m,n,o⟩:=a;have e:=j;subst e;exact I.call u be hg h
end
abbrev XK:=Value->Option Addr->Hp->Prop
abbrev St:=List (Option V)
abbrev VK:=V->Hp->Prop
abbrev TE:=St->Hp->VK->Prop
abbrev TT:=St->Hp->(Bool->Hp->Prop)->Prop
abbrev TA:=St->Hp->(List V->Hp->Prop)->Prop
structure Ends where
 nx:St->Hp->Prop
 rt:VK
 bk:St->Hp->Prop:=λ_ _=>False
 ct:St->Hp->Prop:=λ_ _=>False
abbrev TS:=Ends->St->Hp->Prop
def EP (X:Cx) (a:List (Addr×Obj)) (e:St) (Q:VK) (u:Value) (g:aL):Prop:= ∃v c,aC X a e c g/\aG v u/\Q v c
def TP (X:Cx) (a:List (Addr×Obj)) (e:St) (Q:Bool->Hp->Prop) (b:Bool) (g:aL):Prop:= ∃c,aC X a e c g/\Q b c
def AP (X:Cx) (a:List (Addr×Obj)) (g:St) (Q:List V->Hp->Prop) (h:List Value) (i:aL):Prop:= ∃c e,aC X a g e i/\aK c h/\Q c e
def SP (X:Cx) (c:List (Addr×Obj)) (D:Ends) (f:Flow) (g:aL):Prop:=
 match f with
 | .next=> ∃a e,aC X c a e g/\D.nx a e
 | .brk=> ∃a e,aC X c a e g/\D.bk a e
 | .cont=> ∃a e,aC X c a e g/\D.ct a e
 | .ret u=> ∃v a e,aC X c a e g/\aG v u/\D.rt v e
def PE (X:Cx) (e:Expr) (t:TE):Prop:=
 ∀(a:List (Addr×Obj)) (s:aL) (c:St) (H:Hp) (Q:VK),aC X a c H s->t c H Q->wpAny (model X.prog X.w) X.A (eval e X.env) (EP X a c Q) X.xe s
def PT (X:Cx) (e:Expr) (t:TT):Prop:=
 ∀(a:List (Addr×Obj)) (s:aL) (c:St) (H:Hp) (Q:Bool->Hp->Prop),aC X a c H s->t c H Q->wpAny (model X.prog X.w) X.A (isTrue e X.env (eval e X.env)) (TP X a c Q) X.xe s
def PW (X:Cx) (e:Expr) (t:TT):Prop:=
 ∀(whole:Sem Value) (a:List (Addr×Obj)) (s:aL) (c:St) (H:Hp) (Q:Bool->Hp->Prop),aC X a c H s->t c H Q->wpAny (model X.prog X.w) X.A (isTrue e X.env whole) (TP X a c Q) X.xe s
def PW.pt {X:Cx} {e:Expr} {t:TT} (h:PW X e t):PT X e t:=h _
def PA (X:Cx) (g:List Expr) (t:TA):Prop:=
 ∀(c:Pos) (a:List (Addr×Obj)) (s:aL) (e:St) (H:Hp) (Q:List V->Hp->Prop),aC X a e H s->t e H Q->wpAny (model X.prog X.w) X.A (spliced (iW c (c0 g X.env))) (AP X a e Q) X.xe s
def PS (X:Cx) (st:Stmt) (t:TS):Prop:=
 ∀(a:List (Addr×Obj)) (s:aL) (c:St) (H:Hp) (D:Ends),aC X a c H s->t D c H->wpAny (model X.prog X.w) X.A (exec st X.env) (SP X a D) X.xe s
def gS (X:Cx) (st:List Stmt) (t:TS):Prop:=
 ∀(a:List (Addr×Obj)) (s:aL) (c:St) (H:Hp) (D:Ends),aC X a c H s->t D c H->wpAny (model X.prog X.w) X.A (execs st X.env) (SP X a D) X.xe s
def bA {c:Type} {t:Sem c} {Q e:c->aL->Prop} {M:Model} {A:cC} {E:U9} {s:aL} (h:wpAny M A t Q E s) (g: ∀a s,Q a s->e a s):wpAny M A t e E s:=nQ h g λ_ _ x=>x
section
variable {X:Cx}
def Ev (i:Nat):TE:=λa H Q=> ∃v,a[i]?=some (some v)/\Q v H
def tC (v:V):TE:=λ_ H Q=>Q v H
def xM {i:Nat} {x:Str} {Z:Pos} (hN:X.N[i]?=some x) (p:gs X.env.scope x) (hd:Yi x:=by decide) (n:Yh x:=by decide):PE X (.Name x Z) (Ev i):=by
 intro j s q H Q I h;obtain ⟨v,e,h⟩:=h;obtain ⟨m,w,y⟩:=I.loc;obtain ⟨u,r,l⟩:=y i x v hN e p;have g:EP X j q Q u s:=⟨v,H,I,r,h⟩
 rcases l with ⟨hk,z⟩| ⟨hk,c,o,a⟩
 . exact Ak (Ew I.ok.kind hk w z g) hd
 . rcases hk with hk|hk
   . exact Ak (Ex I.ok.kind hk o a g) hd
   . exact Ak (wpAny_loadName_free I.ok.kind hk o a g n) hd
def Iq {i j Z}:PE X (.Constant (.int i) j Z) (tC (.int i)):=λ_ _ _ H _ I h=>wpAny_Constant_int ⟨.int i,H,I.tok _,⟨_,rfl⟩,h⟩
def OK {b j Z}:PE X (.Constant (.bool b) j Z) (tC (.bl b)):=λ_ _ _ H _ I h=>Constant_bool ⟨.bl b,H,I,rfl,h⟩
def OL {j Z}:PE X (.Constant .none j Z) (tC .a6):=λ_ _ _ H _ I h=>Constant_none ⟨.a6,H,I,rfl,h⟩
def OM {x j Z}:PE X (.Constant (.str x) j Z) (tC (.str x)):=λ_ _ _ H _ I h=>Calls.Constant_str ⟨.str x,H,I.tok _,⟨_,rfl⟩,h⟩
def Gl (X:Cx) (x:Str):Prop:=X.env.kindOf x=some .globalImplicit
def K7 {E:U9} {a:List (Addr×Obj)} {s:aL} {c:St} {H:Hp} {x:Str} {u:Value} {Z:Pos} {Q:U9} (I:aC X a c H s) (e:Gl X x) (g:X.mg x=some u) (h:Q u s)
  (hd:Yi x:=by decide):wpAny (model X.prog X.w) X.A (eval (.Name x Z) X.env) Q E s:=
 Calls.Name_function_global I.ok.kind e (Calls.loadGlobal_global (by rw [I.ok.glob];exact I.mod.glob.keeps I.bk) g h) hd
def Wx {E:U9} {a:List (Addr×Obj)} {s:aL} {c:St} {H:Hp} {x:Str} {u:Value} {Z:Pos} {Q:U9} (I:aC X a c H s) (e:Gl X x) (g:X.mg x=none) (i:mV x=some u) (h:Q u s)
  (j:x≠ "__name__" :=by decide) (hd:Yi x:=by decide):wpAny (model X.prog X.w) X.A (eval (.Name x Z) X.env) Q E s:=by
 obtain ⟨n,l,m⟩:=I.mod.blt;exact Calls.Name_function_global I.ok.kind e (Calls.loadGlobal_builtin (by rw [I.ok.glob];exact I.mod.glob.keeps I.bk) g (by rw [I.ok.blt];exact l.keeps I.bk) ((m x j).trans i) h) hd
def KL {x:Str} {v:V} {u:Value} {Z:Pos} (a:Gl X x) (c:X.mg x=some u) (r:aG v u) (hd:Yi x:=by decide):PE X (.Name x Z) (tC v):=
 λ_ _ _ H _ I h=>K7 I a c ⟨v,H,I,r,h⟩ hd
def ON {x:Str} {v:V} {u:Value} {Z:Pos} (a:Gl X x) (c:X.mg x=none) (e:mV x=some u) (r:aG v u) (g:x≠ "__name__" :=by decide) (hd:Yi x:=by decide):PE X (.Name x Z) (tC v):=
 λ_ _ _ H _ I h=>Wx I a c e ⟨v,H,I,r,h⟩ g hd
variable {a b:Expr} {Y U:TE} {Z:Pos}
def tB (t:TE):TT:=λe H Q=>t e H λx g=> ∃c,x= .bl c/\Q c g
def OO {e:Expr} {t:TE} (h:PE X e t) (i: ∀whole,isTrue e X.env whole=(do let v<-whole;rK e.pos;nT [v] (truthy v)):=by intro _;rfl):PT X e (tB t):=by
 intro c s j H Q I hw;refine isTrue_plain (bA (h c s j H _ I hw) λv p g=>?_) (i _);obtain ⟨x,l,m,n,o⟩:=g;obtain ⟨d,rfl,q⟩:=o;cases n;exact oM ⟨l,m,q⟩
variable {tA O:TT} {rest:List Expr}
def Ey (t u:TT):TT:=λe H Q=>t e H λc g=>if c=true then u e g Q else Q false g
def OP (t u:TT):TT:=λe H Q=>t e H λc g=>if c=true then Q true g else u e g Q
def Ez (t:TT):TT:=λe H Q=>t e H λc g=>Q (!c) g
def OQ (i:PT X a tA):PW X (.BoolOp .And [a] Z) tA:=by
 intro l g s j H Q I h;refine isTrue_and (bA (i g s j H Q I h) λc m e=>?_)
 cases c with
 |true=>exact isTrue_and_nil e
 |false=>exact e
def OR (i:PT X a tA):PW X (.BoolOp .Or [a] Z) tA:=by
 intro l g s j H Q I h;refine isTrue_or (bA (i g s j H Q I h) λc m e=>?_)
 cases c with
 |false=>exact isTrue_or_nil e
 |true=>exact e
def OS (n:PT X a tA) (o:PW X (.BoolOp .And (b::rest) Z) O):PW X (.BoolOp .And (a::b::rest) Z) (Ey tA O):=by
 intro p e s i H Q I h;refine isTrue_and (bA (n e s i H _ I h) λc q g=>?_);obtain ⟨j,l,m⟩:=g
 cases c with
 |true=>exact o p e q i j Q l m
 |false=>exact ⟨j,l,m⟩
def OT (n:PT X a tA) (o:PW X (.BoolOp .Or (b::rest) Z) O):PW X (.BoolOp .Or (a::b::rest) Z) (OP tA O):=by
 intro p e s i H Q I h;refine isTrue_or (bA (n e s i H _ I h) λc q g=>?_);obtain ⟨j,l,m⟩:=g
 cases c with
 |true=>exact ⟨j,l,m⟩
 |false=>exact o p e q i j Q l m
def OU (g:PT X a tA):PT X (.UnaryOp .Not a Z) (Ez tA):=by
 intro e s i H Q I h;exact isTrue_not (g e s i H (λc j=>Q (!c) j) I h)
def OV (Y U:TE):TE:=λe H Q=>Y e H λx g=> ∃c,x= .bl c/\if c=true then U e g Q else Q (.bl false) g
def EA (Y U:TE):TE:=λe H Q=>Y e H λx g=> ∃c,x= .bl c/\if c=true then Q (.bl true) g else U e g Q
def OW (Y:TE):TE:=λe H Q=>Y e H λx g=> ∃c,x= .bl c/\Q (.bl (!c)) g
def OX {e} {t:TE} (h:PE X a t):PE X (.BoolOp e [a] Z) t:=λc s g H Q I hw=>BoolOp_one (h c s g H Q I hw)
def OY (n:PE X a Y) (o:PE X (.BoolOp .And (b::rest) Z) U):PE X (.BoolOp .And (a::b::rest) Z) (OV Y U):=by
 intro e s j H Q I h;refine BoolOp_and (bA (n e s j H _ I h) λv p i=>?_);obtain ⟨x,l,m,q,g⟩:=i;obtain ⟨c,rfl,g⟩:=g;cases q;refine oM ?_
 cases c with
 |true=>exact o e p j l Q m g
 |false=>exact ⟨.bl false,l,m,rfl,g⟩
def OZ (n:PE X a Y) (o:PE X (.BoolOp .Or (b::rest) Z) U):PE X (.BoolOp .Or (a::b::rest) Z) (EA Y U):=by
 intro e s j H Q I h;refine BoolOp_or (bA (n e s j H _ I h) λv p i=>?_);obtain ⟨x,l,m,q,g⟩:=i;obtain ⟨c,rfl,g⟩:=g;cases q;refine oM ?_
 cases c with
 |false=>exact o e p j l Q m g
 |true=>exact ⟨.bl true,l,m,rfl,g⟩
def O0 (j:PE X a Y):PE X (.UnaryOp .Not a Z) (OW Y):=by
 intro e s l H Q I h;refine UnaryOp_ (bA (j e s l H _ I h) λv p g=>?_);obtain ⟨x,m,n,o,i⟩:=g;obtain ⟨c,rfl,i⟩:=i;cases o;exact not_of (oM ⟨.bl (!c),m,n,rfl,i⟩)
def O1 (t:TT) (Y U:TE):TE:=λe H Q=>t e H λc g=>if c=true then Y e g Q else U e g Q
def O2 {c:Expr} (o:PT X c tA) (p:PE X a Y) (q:PE X b U):PE X (.IfExp c a b Z) (O1 tA Y U):=by
 intro e s g H Q I h;refine wpAny_IfExp (bA (o e s g H _ I h) λd j i=>?_);obtain ⟨l,m,n⟩:=i
 cases d with
 |true=>exact p e j g l Q m n
 |false=>exact q e j g l Q m n
end
def fV (K:aH) (H:Hp) (a:Addr) (e:List V):Prop:=
 Rd H a (.ai e)\/
  ∃(o:Obj) (c:Array Value) (n:Nat),K.lookup a=some o/\o.cls= .type "list" /\o.dict=none/\o.data= .seq c n/\c.size<=aS/\aK e c.toList
def iX (K:aH) (H:Hp) (a:Addr) (e:List V):Prop:=
 Rd H a (.am e)\/
  ∃(o:Obj) (c:Array Value) (n:Nat),K.lookup a=some o/\o.cls= .type "tuple" /\o.data= .seq c n/\c.size<=aS/\aK e c.toList
def EB:Value->Option V
 | .none=>some .a6
 | .bool b=>some (.bl b)
 | .int i _=>some (.int i)
 | .str x _=>some (.str x)
 | .bytes b _=>some (.pi b)
 | .float b _=>some (.tY b)
 | .ref a=>some (.ref a)
 | .type n=>some (.ty n)
 |_=>none
def aG.abs {x:V} {u:Value} (r:aG x u):EB u=some x:=by
 cases x with
 |a6=>cases r;rfl
 |bl _=>cases r;rfl
 |int _=>obtain ⟨t,rfl⟩:=r;rfl
 |str _=>obtain ⟨t,rfl⟩:=r;rfl
 |pi _=>obtain ⟨t,rfl⟩:=r;rfl
 |tY _=>obtain ⟨t,rfl⟩:=r;rfl
 |ref _=>cases r;rfl
 |ty _=>cases r;rfl
def aG.inj {x y:V} {u:Value} (r:aG x u) (q:aG y u):x=y:=gG (r.abs.symm.trans q.abs)
theorem aK.inj: ∀ {a c:List V} {e:List Value},aK a e->aK c e->a=c
 |_,_,_,.nil,.nil=>rfl
 |_,_,_,.cons r t,.cons g h=>by rw [r.inj g,aK.inj t h]
section
variable {X:Cx} {pins:List (Addr×Obj)} {σ:St} {H:Hp} {s:aL} {a:Addr} {q ys:List V}
def fV.of {K:aH} (h:H a=some (.ai q)):fV K H a q:= .inl (.inl h)
def iX.of {K:aH} (h:H a=some (.am q)):iX K H a q:= .inl (.inl h)
def aC.list (I:aC X pins σ H s) (h:fV X.K H a q): ∃c:List Value,aK q c/\PlainL s.heap a c.toArray/\q.length<=aS:=by
 rcases h with h| ⟨o,c,n,g,i,hd,j,l,r⟩
 . obtain ⟨z,c,n,r,e⟩:=h.ok I.be;exact ⟨c,r,⟨_,n,e,rfl,rfl,rfl⟩,z⟩
 . refine ⟨c.toList,r,⟨o,n,I.ii a o g,i,hd,by simpa using j⟩,?_⟩;have e:=r.length;simp only [jE] at e;omega
def aC.tuple (I:aC X pins σ H s) (h:iX X.K H a q): ∃c:List Value,aK q c/\IsTup s.heap a c.toArray/\q.length<=aS:=by
 rcases h with h| ⟨o,c,n,g,i,j,l,r⟩
 . obtain ⟨z,c,r,p⟩:=h.ok I.be;exact ⟨c,r,p,z⟩
 . refine ⟨c.toList,r,⟨o,I.ii a o g,i,n,by simpa using j⟩,?_⟩;have e:=r.length;simp only [jE] at e;omega
def aC.pK (I:aC X pins σ H s) (h:fV X.K H a q) (l:fV X.K H a ys):q=ys:=by
 obtain ⟨g,r,⟨o,n,e,_,_,d⟩,_⟩:=I.list h;obtain ⟨c,m,⟨u,v,i,_,_,j⟩,_⟩:=I.list l;rw [e] at i;cases i;rw [d] at j;injection j with p _;have:g=c:=by simpa using congrArg Array.toList p
 subst this;exact r.inj m
def aC.oN (I:aC X pins σ H s) (h:iX X.K H a q) (l:iX X.K H a ys):q=ys:=by
 obtain ⟨g,r,⟨o,e,_,n,d⟩,_⟩:=I.tuple h;obtain ⟨c,m,⟨u,i,_,v,j⟩,_⟩:=I.tuple l;rw [e] at i;cases i;rw [d] at j;injection j with p _;have:g=c:=by simpa using congrArg Array.toList p
 subst this;exact r.inj m
end
abbrev Cx.lx (X:Cx) (E:U9):Cx:={X with xe:=E}
abbrev Cx.oO (X:Cx):Cx:=X.lx λ_ _=>False
def Cx.Ok.lx {X:Cx} (ok:X.Ok) (E:U9):(X.lx E).Ok:=
 ⟨ok.mod,ok.kind,ok.glob,ok.blt,ok.above,ok.inj,ok.has,ok.Ag,ok.hd,ok.frames,ok.AY,ok.AZ,ok.bs,ok.rG,ok.oJ,ok.oK,ok.ig,ok.sO⟩
def Cx.Ok.fW {X:Cx} {E:U9} (ok:(X.lx E).Ok):X.Ok:=
 ⟨ok.mod,ok.kind,ok.glob,ok.blt,ok.above,ok.inj,ok.has,ok.Ag,ok.hd,ok.frames,ok.AY,ok.AZ,ok.bs,ok.rG,ok.oJ,ok.oK,ok.ig,ok.sO⟩
section
variable {X:Cx} {pins:List (Addr×Obj)} {σ:St} {H:Hp} {s:aL} {E:U9}
def aC.lx (I:aC X pins σ H s) (E:U9):aC (X.lx E) pins σ H s:=⟨I.ok.lx E,I.os,I.bare,I.af,I.loc,I.cell,I.free,I.gy,I.pin,I.be,I.len⟩
def aC.fW (I:aC (X.lx E) pins σ H s):aC X pins σ H s:=⟨I.ok.fW,I.os,I.bare,I.af,I.loc,I.cell,I.free,I.gy,I.pin,I.be,I.len⟩
def SP.fW {D:Ends} {f:Flow} {e:aL} (h:SP (X.lx E) pins D f e):SP X pins D f e:=by
 cases f with
 |next=>obtain ⟨a,c,I,q⟩:=h;exact ⟨a,c,I.fW,q⟩
 |brk=>obtain ⟨a,c,I,q⟩:=h;exact ⟨a,c,I.fW,q⟩
 |cont=>obtain ⟨a,c,I,q⟩:=h;exact ⟨a,c,I.fW,q⟩
 |ret u=>obtain ⟨v,a,c,I,r,q⟩:=h;exact ⟨v,a,c,I.fW,r,q⟩
def gS.oO {st:List Stmt} {t:TS} (h:gS X.oO st t):gS X st t:=λpins s σ H D I hw=>
 nQ (h pins s σ H D (I.lx _) hw) (λ_ _ q=>q.fW) λ_ _ z=>oP z
end
section
variable {X:Cx} {st:Stmt} {rest:List Stmt} {t u:TS} {e:Expr} {y:TE} {z:Pos}
def O3:TS:=λD a H=>D.nx a H
def EC (t u:TS):TS:=λD a H=>t {D with nx:=u D} a H
def um:gS X [] O3:=λ_ _ a H _ I h=>sP ⟨a,H,I,h⟩
def VS (g:PS X st t) (i:gS X rest u):gS X (st::rest) (EC t u):=by
 intro a s j H D I h;refine sQ (bA (g a s j H {D with nx:=u D} I h) λf l q=>?_)
 cases f with
 |next=>
  obtain ⟨c,m,n,q⟩:=q;exact i a l c m D n q
 |ret v=>exact q
 |brk=>exact q
 |cont=>exact q
def ul (c:PS X st t):gS X [st] t:=by
 intro a s g H D I h;refine sQ (bA (c a s g H D I h) λf i q=>?_)
 cases f with
 |next=>exact sP q
 |ret v=>exact q
 |brk=>exact q
 |cont=>exact q
def aC.quiet {a:List (Addr×Obj)} {c:St} {H:Hp} {s:aL} (I:aC X a c H s):interactive X.env=false:=by simp [interactive,I.ok.kind]
def O4 (y:TE):TS:=λD a H=>y a H λ_ c=>D.nx a c
def KH (g:PE X e y) (i:mH e none z.line X.env=pure false:=by rfl):PS X (.Expr e z) (O4 y):=by
 intro a s c H D I h;exact wpAny_Expr_any (bA (g a s c H _ I h) λv n ⟨x,j,l,o,m⟩=>⟨c,j,l,m⟩) I.quiet i
def ED (y:TE):TS:=λD a H=>y a H D.rt
def ut (g:PE X e y):PS X (.Return (some e) z) (ED y):=by
 intro a s c H D I h;exact wpAny_Return_some (bA (g a s c H _ I h) λv n ⟨x,i,j,l,m⟩=>⟨x,c,i,j,l,m⟩)
def EE (c:TT) (t u:TS):TS:=λD a H=>c a H λb g=>if b=true then t D a g else u D a g
def Ir {c:Expr} {a b:List Stmt} {l:TT} (q:PT X c l) (r:gS X a t) (v:gS X b u):PS X (.If c a b z) (EE l t u):=by
 intro g s i H D I h;refine wpAny_If (bA (q g s i H _ I h) λd m j=>?_);obtain ⟨n,o,p⟩:=j
 cases d with
 |true=>exact r g m i n D o p
 |false=>exact v g m i n D o p
def O5:TS:=λ_ _ _=>False
def uo {a:List Stmt}:gS X a O5:=λ_ _ _ _ _ _ h=>h.elim
end
abbrev TG:=V->St->Hp->(St->Hp->Prop)->Prop
abbrev t7:=List V->St->Hp->(St->Hp->Prop)->Prop
def PG (X:Cx) (a:Expr) (t:TG):Prop:=
 ∀(c:List (Addr×Obj)) (s:aL) (g:St) (H:Hp) (v:V) (u:Value) (Q:St->Hp->Prop),aC X c g H s->aG v u->t v g H Q->
  wpAny (model X.prog X.w) X.A (ot a X.env u) (λ_ i=> ∃e h,aC X c e h i/\Q e h) X.xe s
def CK (X:Cx) (j:List Expr) (t:t7):Prop:=
 ∀(a:List (Addr×Obj)) (s:aL) (e:St) (H:Hp) (g:List V) (h:List Value) (Q:St->Hp->Prop),aC X a e H s->aK g h->t g e H Q->
  wpAny (model X.prog X.w) X.A (assignInOrder ((lh j X.env).map (·.2)) h) (λ_ l=> ∃c i,aC X a c i l/\Q c i) X.xe s
abbrev t8:=V->V->V->Hp->(Hp->Prop)->Prop
def A2 (X:Cx) (t:t8):Prop:=
 ∀(a:List (Addr×Obj)) (s:aL) (c:St) (H:Hp) (o i v:V) (e g u:Value) (Q:Hp->Prop),aC X a c H s->aG o e->aG i g->aG v u->t o i v H Q->
  wpAny (model X.prog X.w) X.A (setItem e g u) (λ_ j=> ∃h,aC X a c h j/\Q h) X.xe s
abbrev CL:=V->V->Hp->VK->Prop
def EF (X:Cx) (e:Operator) (t:CL):Prop:=
 ∀(a:List (Addr×Obj)) (s:aL) (c:St) (H:Hp) (x y:V) (v u:Value) (Q:VK),aC X a c H s->aG x v->aG y u->t x y H Q->
  wpAny (model X.prog X.w) X.A (inplaceOp e v u) (EP X a c Q) X.xe s
section
variable {X:Cx} {pos:Pos}
def Iu (i:Nat):TG:=λv a H Q=>Q (a.set i (some v)) H
def O6 {i:Nat} {x:Str} (hN:X.N.Nodup) (c:X.N[i]?=some x) (e:Loc X.env.scope x) (g:T7 X x:=by first|exact .inl rfl|exact .inr rfl|assumption):PG X (.Name x pos) (Iu i):=by
 intro a s l H v u Q I r h;exact wpAny_assign_Name (Jh I hN c e r (λm j=>⟨_,H,j,h⟩) g)
def EG:t7:=λa c H Q=>a=[]/\Q c H
def O7 (t:TG) (u:t7):t7:=λc e H Q=> ∃v r,c=v::r/\t v e H λa g=>u r a g Q
def uE:CK X [] EG:=by
 intro a s c H g i Q I r h;obtain ⟨e,h⟩:=h;subst e;cases r;exact assignInOrder_nil ⟨c,H,I,h⟩
def Jk {e:Expr} {c:List Expr} {t:TG} {u:t7} (j:PG X e t) (l:CK X c u)
  (m:(lh (e::c) X.env).map (·.2)=ot e X.env::(lh c X.env).map (·.2):=by rfl):CK X (e::c) (O7 t u):=by
 intro a s n H y z Q I r h;obtain ⟨v,B,e1,h⟩:=h;subst e1
 cases r with
 |cons r o=>
  rw [m];refine assignInOrder_cons (bA (j a s n H _ _ _ I r h) λ_ p g=>?_);obtain ⟨i,q,w,x⟩:=g;exact l a p i q _ _ Q w o x
def EH (K:aH) (n:Nat) (t:t7):TG:=λv e H Q=> ∃a c,v= .ref a/\iX K H a c/\c.length=n/\t c e H Q
def Iv {g:List Expr} {k:Nat} {t:t7} {n:Nat} (l:X.cR=true) (h:CK X g t)
  (m:(lh g X.env).length=n:=by rfl) (i:(lh g X.env).findIdx? (·.1)=none:=by rfl):PG X (.Tuple g k pos) (EH X.K n t):=by
 intro c s p H v u Q I r hw;obtain ⟨a,q,e1,w,x,hw⟩:=hw;subst e1;cases r;obtain ⟨y,j,z,E⟩:=I.tuple w;refine assign_Tuple_tuple (I.ok.hd l) z (by simp [m,<-x,j.length]) i λJ B=>?_
 exact h c _ p H q _ Q (I.kept (t':=s.toks) λb o e=>B b o (eB (c8 e)) e) (by simpa using j) hw
def EI (c e:TE) (t:t8):TG:=λv a H Q=>c a H λo g=>e a g λi H2=>t o i v H2 λh=>Q a h
def O8 {o i:Expr} {l m:TE} {t:t8} (n:PE X o l) (p:PE X i m) (q:A2 X t)
  (w: ∀v,ot (.Subscript o i pos) X.env v=(do
   let e<-nT [v] (eval o X.env)
   let g<-nT [v,e] (eval i X.env)
   rK pos
   nT [v,e,g] (setItem e g v)
   release [v,e,g] []):=by intro _;rfl):PG X (.Subscript o i pos) (EI l m t):=by
 intro a s j H v u Q I r h;rw [w];refine ax (mI (bA (n a s j H _ I h) λe z c=>?_));obtain ⟨x,B,E,J,L⟩:=c;refine ax (mI (bA (p a z j B _ E L) λg N c=>?_));obtain ⟨y,H2,O,U,Y⟩:=c;refine ax (wpAny_standAt (ax (mI (bA (q a N j H2 x y v e g u _ O J U r Y) λ_ s3 c=>?_))));obtain ⟨Z,I3,q3⟩:=c;exact wpAny_release ⟨j,Z,I3,q3⟩
def A3 (c:TE) (g:TG):TS:=λD a H=>c a H λx e=>g x a e D.nx
def Iw {c e:Expr} {j:TE} {g:TG} (m:PE X e j) (n:PG X c g) (o:A4 [c] e pos.line X.env=pure false:=by rfl) (hw:A5 [c] e X.env=pure none:=by rfl)
  (p:(lh [c] X.env).map (·.2)=[ot c X.env]:=by rfl):PS X (.Assign [c] e pos) (A3 j g):=by
 intro a s l H D I h;refine wpAny_Assign_stores (bA (m a s l H _ I h) λv r i=>?_) o hw;obtain ⟨x,u,w,y,z⟩:=i;rw [p];exact bA (n a r l u x v _ w y z) λ_ B q=>q
def Ix {i:Nat} {x:Str} {e:Expr} {j:TE} {a:Pos} (hN:X.N.Nodup) (l:X.N[i]?=some x) (m:Loc X.env.scope x) (n:PE X e j) (o:mH e (some (.Name x a)) pos.line X.env=pure false:=by rfl) (p:T7 X x:=by first|exact .inl rfl|exact .inr rfl|assumption):
  PS X (.Assign [.Name x a] e pos) (A3 j (Iu i)):=by
 intro c s q H D I h;refine wpAny_Assign_Name (bA (n c s q H _ I h) λv E g=>?_) o;obtain ⟨y,r,u,w,z⟩:=g;exact Jh u hN l m w (λJ B=>⟨_,r,B,z⟩) p
def EJ (i j:Nat) (c:TA):TS:=λD a H=>c a H λe g=> ∃v w,e=[v,w]/\D.nx ((a.set i (some v)).set j (some w)) g
def O9 {i j:Nat} {x y:Str} {a b:Expr} {O:TA} {n r pt:Pos} {u z c} (hc:X.cR=true) (hN:X.N.Nodup) (hi:X.N[i]?=some x) (hj:X.N[j]?=some y) (B:i≠j)
  (Q:X.env.scope.names.lookup x=some .local) (U:X.env.scope.names.lookup y=some .local) (ha:PA X [a,b] O)
  (hw:A5 [.Tuple [.Name x n,.Name y r] u pt] (.Tuple [a,b] z c) X.env=pure (some [x,y]))
  (hs:A4 [.Tuple [.Name x n,.Name y r] u pt] (.Tuple [a,b] z c) pos.line X.env=pure false:=by rfl):
  PS X (.Assign [.Tuple [.Name x n,.Name y r] u pt] (.Tuple [a,b] z c) pos) (EJ i j O):=by
 intro g s σ H D I h;refine ax (wpAny_standAt ?_);refine ax (aV ?_);refine ax (Tuple_ (bA (ha _ g s σ H _ I h) λus Y E=>?_));obtain ⟨vs,H1,I1,r1,J⟩:=E;obtain ⟨v,w,e1,J⟩:=J;subst e1
 obtain ⟨l,m,rfl,rv,L⟩: ∃l m,us=[l,m]/\aG v l/\aG w m:=by
  cases r1 with
  |cons p q=>
   cases q with
   |cons p' q'=>
    cases q';exact ⟨_,_,rfl,p,p'⟩
 refine pL ?_ (by show 2<=aS;decide);rw [hw];refine ax (aV ?_);refine ax (r0 (ax (unpackItems_tuple (items:= #[l,m]) (I.ok.hd hc) (IsTup.new Y.heap _) λh' N=>?_)));have I3:=(I1.kept λb o e=>cT _ e).kept (t':=Y.toks) λb o e=>N b o (eB (c8 e)) e
 refine ax (assignInOrder_cons (wpAny_bindName (Jh I3 hN hj (.inl U) L (λs2 I4=>?_) (.inr U))));refine assignInOrder_cons (wpAny_bindName (Jh I4 hN hi (.inl Q) rv (λs3 Z=>assignInOrder_nil (aV ?_)) (.inr Q)));rw [List.set_comm _ _ (lu B)] at Z;exact ⟨_,H1,Z,J⟩
def EK (i:Nat) (c:TE) (e:CL):TS:=λD a H=> ∃x,a[i]?=some (some x)/\c a H λy g=>e x y g λz H2=>D.nx (a.set i (some z)) H2
def Pa {i:Nat} {x:Str} {e:Expr} {J:TE} {q:Operator} {L:CL} {n:Pos} (hN:X.N.Nodup) (N:X.N[i]?=some x) (B:Loc X.env.scope x) (Q:PE X e J) (U:EF X q L) (Y:T7 X x:=by first|exact .inl rfl|exact .inr rfl|assumption):
   PS X (.AugAssign (.Name x n) q e pos) (EK i J L):=by
 intro a s O H D I h;obtain ⟨v,e1,h⟩:=h;obtain ⟨m,Z,hl⟩:=I.loc;have E:gs X.env.scope x:=by rcases B with k|k;exact .inl k;exact .inr (.inl k)
 obtain ⟨u,r,l⟩:=hl i x v N e1 E;refine wpAny_AugAssign_Name ?_
 have go:wpAny (model X.prog X.w) X.A (eval e X.env) (λw o=>wpAny (model X.prog X.w) X.A (inplaceOp q u w) (λr p=>wpAny (model X.prog X.w) X.A (storeName X.env x r) (λ_=>SP X a D .next) X.xe p) X.xe o) X.xe s:=by
   refine bA (Q a s O H _ I h) λw s1 g=>?_;obtain ⟨y,H1,I1,r1,q1⟩:=g
   refine bA (U a s1 O H1 v y u w _ I1 r r1 q1) λz s2 g=>?_;obtain ⟨zv,H2,I2,r2,q2⟩:=g
   exact Jh I2 hN N B r2 (λs3 I3=>⟨_,H2,I3,q2⟩) Y
 rcases l with ⟨hk,hm⟩| ⟨hk,c,hc,j⟩
 . exact Ew I.ok.kind hk Z hm go
 . rcases hk with hk|hk
   . exact Ex I.ok.kind hk hc j go
   . rcases B with k|k
     . have:X.env.scope.names.lookup x=some .free:=hk;rw [k] at this;cases this
     . have:X.env.scope.names.lookup x=some .free:=hk;rw [k] at this;cases this
def Iy (f:Int->Int->Int):CL:=λx y H Q=> ∃i j,x= .int i/\y= .int j/\Q (.int (f i j)) H
def EL:EF X .Add (Iy λi j=>i+j):=by
 intro a s g H x y v u Q I c e h;obtain ⟨i,j,e1,e2,q⟩:=h;subst e1;subst e2;obtain ⟨t,rfl⟩:=c;obtain ⟨l,rfl⟩:=e;exact iadd_int ⟨.int _,H,I.tok _,⟨_,rfl⟩,q⟩
def Pb (c:TT) (j:TS):TS:=λD a H=> ∃W:Nat->St->Hp->Prop,(∃m,W m a H)/\ ∀m a H,W m a H->
 c a H λb g=>if b=true then∃N:St->Hp->Prop,(∀e h,N e h-> ∃i,i<m/\W i e h)/\j {D with nx:=N,ct:=N,bk:=D.nx} a g else D.nx a g
def Pc {c:Expr} {i:List Stmt} {z:TT} {B:TS} (E:PassesOwn (model X.prog X.w) X.A X.env X.xe) (Q:PT X c z) (U:gS X i B):PS X (.While c i [] pos) (Pb z B):=by
 intro a s Y H D I h;obtain ⟨W,⟨Z,w0⟩,j⟩:=h;refine wpAny_While (codeAny_whileLoop (λn s'=> ∃l J,aC X a l J s'/\W n l J) ?_ Z ⟨Y,H,I,w0⟩);rintro n s1 ⟨g,L,I1,w1⟩;refine t9 E (bA (Q a s1 g L _ I1 (j n g L w1)) λb s2 q=>?_);obtain ⟨H2,O,o⟩:=q
 cases b with
 |true=>
  obtain ⟨N,hN,o⟩:=o;refine t9 E (bA (U a s2 g H2 _ O o) λf s3 p=>?_)
  cases f with
  |next=>
   obtain ⟨e,m,r,u⟩:=p;obtain ⟨w,x,y⟩:=hN e m u;exact ⟨w,x,e,m,r,y⟩
  |cont=>
   obtain ⟨e,m,r,u⟩:=p;obtain ⟨w,x,y⟩:=hN e m u;exact ⟨w,x,e,m,r,y⟩
  |brk=>exact p
  |ret v=>exact p
 |false=>
  exact sP ⟨g,H2,O,o⟩
end
structure It where
 go:Nat->Hp->Prop
 CM:Nat->Hp->V->Hp->Prop
 stop:Nat->Hp->Prop
def fX (X:Cx) (a:List (Addr×Obj)) (H:Hp) (b:Addr):Prop:=
 H b=none/\b≠X.env.locals/\b∉X.fs/\(b∈X.ex\/X.fL.heap.objs.size<=b)/\(∀x c,X.env.cells.lookup x=some c->c≠b)/\ ∀p∈X.pn++a,p.1≠b
def aC.jN {X:Cx} {a:List (Addr×Obj)} {i:St} {H h:Hp} {s:aL} {b:Addr} (I:aC X a i H s) (g:s.heap.objs.size<=b) (j:h b=none):fX X a h b:=by
 refine ⟨j,Nat.ne_of_gt (gR I.lt g),I.Er g,.inr (cE I.sz g),λx c e z=>?_,λp l z=>?_⟩
 . obtain ⟨v,q⟩:=I.cell x c e;exact absurd (gR q.lt (by rw [z];exact g)) (pI _)
 . exact absurd (gR (c8 (I.pin p l).1) (by rw [z];exact g)) (pI _)
structure Turn (P:cp) (w:World) (K:aH) (tg:Expr) (J:It) (fp:List Addr) (it:Addr) (tn:Nat->Heap->Prop):Prop where
 mem:it∈fp
 obj: ∀i h,tn i h-> ∀b∈fp,∃o,h.get? b=some o/\ ∀v,o.data≠ .cell v
 keep: ∀i h h',tn i h->(∀b∈fp,∀o,h.get? b=some o->h'.get? b=some o)->tn i h'
 item: ∀(X:Cx),X.prog=P->X.w=w->X.K=K->X.cR=true-> ∀(i:Nat) (pins:List (Addr×Obj)) (s:aL) (σ:St) (H:Hp) (E:U9),aC X pins σ H s->(∀b∈fp,fX X pins H b)->tn i s.heap->J.go i H->
  wpAny (model P w) X.A (pyNext (.ref it)) (λr s1=> ∃u,r=some u/\
   wpAny (model P w) X.A (letOwnedTupleGo tg (.ref it) u) (λ_ s2=> ∃x H',aC X pins σ H' s2/\aG x u/\J.CM i H x H'/\tn (i+1) s2.heap/\ ∀b∈fp,H' b=none) E s1) E s
 done: ∀(X:Cx),X.prog=P->X.w=w->X.K=K->X.cR=true-> ∀(i:Nat) (pins:List (Addr×Obj)) (s:aL) (σ:St) (H:Hp) (E:U9),aC X pins σ H s->(∀b∈fp,fX X pins H b)->tn i s.heap->J.stop i H->
  wpAny (model P w) X.A (pyNext (.ref it)) (λr s1=>r=none/\aC X pins σ H s1) E s
 self: ∀(A:cC) (i:Nat) (s:aL) (Q:U9) (E:U9),tn i s.heap->Q (.ref it) s->wpAny (model P w) A (pyIter (.ref it)) Q E s
abbrev TI:=St->Hp->(It->Hp->Prop)->Prop
def EM (X:Cx) (a:List (Addr×Obj)) (l:St) (m:Expr) (R:It->Hp->Prop) (c:Value) (g:aL):Prop:=
 ∃(h:Addr) (i:List Addr) (j:Nat->Heap->Prop) (J:It) (e:Hp),c= .ref h/\aC X a l e g/\Turn X.prog X.w X.K m J i h j/\j 0 g.heap/\(∀b∈i,fX X a e b)/\R J e
def PI (X:Cx) (e iter:Expr) (g:TI):Prop:=
 ∀(a:List (Addr×Obj)) (s:aL) (c:St) (H:Hp) (R:It->Hp->Prop),aC X a c H s->g c H R->
  wpAny (model X.prog X.w) X.A (eval iter X.env) (λv h=>wpAny (model X.prog X.w) X.A (pyIter v) (EM X a c e R) X.xe h) X.xe s
def A6 {M : Model} {A : cC} {E : Value -> aL -> Prop} {s : aL} {c : Expr} {e : Addr} {u : Value} {o : Obj} {n : String} {g : Array Value} {Q : Unit -> aL -> Prop} (i : s.heap.get? e = some o) (j : o.cls = .type n) (hd : o.data = .fields g)
    (l : ["enumerate", "zip", "dict_itemiterator", "dict_reverseitemiterator", "odict_iterator", "itertools.zip_longest", "itertools.pairwise"].contains n = false) (a : Q () s) : wpAny M A (letOwnedTupleGo c (.ref e) u) Q E s := by
  cases c <;> first
    | exact aV a
    | (cases u <;> first
        | exact aV a
        | (
          refine ax (wpAny_load i ?_)
          rw [j, hd]
          show wpAny M A (if (["enumerate", "zip", "dict_itemiterator", "dict_reverseitemiterator", "odict_iterator", "itertools.zip_longest", "itertools.pairwise"].contains n && g[0]? == some (rawInt _)) = true then _ else _) Q E s
          rw [if_neg (by intro h; rw [l, Bool.false_and] at h; cases h)]
          exact aV a))
def Pd (K:aH) (a:Addr):It:=
 ⟨λi H=> ∃c x,fV K H a c/\c[i]?=some x,λi H x e=>e=H/\ ∀c,fV K H a c->c[i]?=some x,λi H=> ∃c,fV K H a c/\c.length<=i⟩
def Pe (K:aH) (a:Addr):It:=
 ⟨λi H=> ∃c x,iX K H a c/\c[i]?=some x,λi H x e=>e=H/\ ∀c,iX K H a c->c[i]?=some x,λi H=> ∃c,iX K H a c/\c.length<=i⟩
def CN (lo:Int) (n:Nat):It:=⟨λi _=>i<n,λi H x a=>a=H/\x= .int (lo+i),λi _=>n<=i⟩
def X9 {P:cp} {w:World} {K:aH} {tg:Expr} (a g:Addr):Turn P w K tg (Pd K a) [g] g (λi h=>h.IsListIter g a i) where
 mem:=by simp
 obj:=λi h st b j=>by
  have e:b=g:=by simpa using j
  subst e;obtain ⟨o,e,c,d⟩:=st;exact ⟨o,e,λv z=>by rw [d] at z;cases z⟩
 keep:=λi h h' st k=>st.at λo e=>k g (by simp) o e
 item:=by
  intro X r hw y hc i l s σ H E I n st B;subst r hw y;obtain ⟨xs,x,q,J⟩:=B;obtain ⟨L,N,p,hz⟩:=I.list q;obtain ⟨u,hu,ru⟩:=N.get J;obtain ⟨O,Q,f2,U,Y,Z⟩:=n g (by simp);refine wpAny_pyNext_list_item st p.isList (by simpa using hu) λh' m sb=>?_
  obtain ⟨o,e,c,d⟩:=id m;exact ⟨u,rfl,A6 e c d (by decide) ⟨x,H,(I.turned (t':=s.toks) (λb o j e=>(sb.2 b j).trans e) O Q U Y Z),ru,⟨rfl,λys hy=>by rw [I.pK hy q];exact J⟩,m,λb j=>(n b j).1⟩⟩
 done:=by
  intro X r hw y hc i l s σ H E I n st B;subst r hw y;obtain ⟨xs,q,J⟩:=B;obtain ⟨L,N,p,hz⟩:=I.list q;obtain ⟨O,Q,f2,U,Y,Z⟩:=n g (by simp);have hl:=N.length;exact wpAny_pyNext_list_end (I.ok.hd hc) st p.isList (by simp;omega) λh' eb=>⟨rfl,I.turned (λb o j e=>eb b o j e) O Q U Y Z⟩
 self:=λ_ _ _ _ _ st h=>wpAny_pyIter_listiter st h
def UY {P:cp} {w:World} {K:aH} {tg:Expr} (a g:Addr):Turn P w K tg (Pe K a) [g] g (λi h=>h.IsTupleIter g a i) where
 mem:=by simp
 obj:=λi h st b j=>by
  have e:b=g:=by simpa using j
  subst e;obtain ⟨o,e,c,d⟩:=st;exact ⟨o,e,λv z=>by rw [d] at z;cases z⟩
 keep:=λi h h' st k=>st.at λo e=>k g (by simp) o e
 item:=by
  intro X r hw y hc i l s σ H E I n st B;subst r hw y;obtain ⟨xs,x,q,J⟩:=B;obtain ⟨L,N,p,hz⟩:=I.tuple q;obtain ⟨u,hu,ru⟩:=N.get J;obtain ⟨O,Q,f2,U,Y,Z⟩:=n g (by simp);refine wpAny_pyNext_tuple_item st (p) (by simpa using hu) λh' m sb=>?_
  obtain ⟨o,e,c,d⟩:=id m;exact ⟨u,rfl,A6 e c d (by decide) ⟨x,H,(I.turned (t':=s.toks) (λb o j e=>(sb.2 b j).trans e) O Q U Y Z),ru,⟨rfl,λys hy=>by rw [I.oN hy q];exact J⟩,m,λb j=>(n b j).1⟩⟩
 done:=by
  intro X r hw y hc i l s σ H E I n st B;subst r hw y;obtain ⟨xs,q,J⟩:=B;obtain ⟨L,N,p,hz⟩:=I.tuple q;obtain ⟨O,Q,f2,U,Y,Z⟩:=n g (by simp);have hl:=N.length;exact wpAny_pyNext_tuple_end (I.ok.hd hc) st (p) (by simp;omega) λh' eb=>⟨rfl,I.turned (λb o j e=>eb b o j e) O Q U Y Z⟩
 self:=λ_ _ _ _ _ st h=>wpAny_pyIter_tupleiter st h
def UZ {P:cp} {w:World} {K:aH} {N:Expr} (a:Addr) (lo:Int) (n:Nat):Turn P w K N (CN lo n) [a] a (λi h=>IsRangeIter h a (lo+(i:Nat)*1) ((n:Int)-(i:Nat)) 1) where
 mem:=by simp
 obj:=λi h st b c=>by
  have e:b=a:=by simpa using c
  subst e
  exact ⟨_,st,λv z=>by
   have O:=z
   cases O⟩
 keep:=λi h B st k=>k a (by simp) _ st
 item:=by
  intro X J hw L m i g s Q H E I l st p;subst J hw L;obtain ⟨q,r,U,u,x,y⟩:=l a (by simp);refine (Walks.range (prog:=X.prog) (w:=X.w) (I.ok.hd m) a lo 1 n).item i s _ _ p st λv B tk Y j Z=>?_
  obtain ⟨t,rfl⟩:=Y;refine ⟨_,rfl,A6 j rfl rfl (by decide) ⟨.int (lo+i),H,(I.turned (λb o c e=>Z b o (by simpa using c) e) q r u x y),⟨t,?_⟩,⟨rfl,rfl⟩,j,λb c=>(l b c).1⟩⟩;rw [Int.mul_one]
 done:=by
  intro X J hw L m i g s Q H E I l st p;obtain ⟨q,r,U,u,x,y⟩:=l a (by simp);exact wpAny_pyNext_range_end (I.ok.hd m) st (by have:n<=i:=p;omega) λB eb=>⟨rfl,I.turned (λb o c e=>eb b o c e) q r u x y⟩
 self:=λ_ _ _ _ _ st h=>wpAny_pyIter_rangeiter st h
section
variable {X:Cx} {tg:Expr}
def Pf {c:List (Addr×Obj)} {g:St} {H:Hp} {s:aL} {R:It->Hp->Prop} {E:U9} {lo a:Int} {t u v:Tok} {tk:Nat} (I:aC X c g H s) (i: -(2^62)<=lo) (j:lo<2^62) (l: -(2^62)<=a) (m:a<2^62)
   (q:R (CN lo (a-lo).toNat) H):wpAny (model X.prog X.w) X.A (pyIter (.ref s.heap.objs.size)) (EM X c g tg R) E {s with heap:=s.heap.push {cls:= .type "range",data:= .fields #[.int lo t,.int a u,.int 1 v]},toks:=tk}:=by
 refine wpAny_pyIter_range (IsRange.new ..) (small_one i j l m) ?_;have h:aC X c g H {s with heap:=s.heap.push {cls:= .type "range",data:= .fields #[.int lo t,.int a u,.int 1 v]},toks:=tk}:=I.kept λb o e=>cT _ e
 refine ⟨(s.heap.push {cls:= .type "range",data:= .fields #[.int lo t,.int a u,.int 1 v]}).objs.size,[(s.heap.push {cls:= .type "range",data:= .fields #[.int lo t,.int a u,.int 1 v]}).objs.size],_,_,H,rfl,
   h.kept λb o e=>cT _ e,UZ _ lo (a-lo).toNat,?_,λb n=>?_,q⟩
 . have e1:lo+((0):Int)*1=lo:=by simp
   have e2:(((a-lo).toNat:Nat):Int)-((0):Int)=Builtin.Range.rangeSize lo a 1:=by rw [rangeSize_one];split<;>omega
   show IsRangeIter _ _ (lo+((0):Int)*1) ((((a-lo).toNat:Nat):Int)-((0):Int)) 1;rw [e1,e2];exact fS _ rfl
 . have e:b=(s.heap.push {cls:= .type "range",data:= .fields #[.int lo t,.int a u,.int 1 v]}).objs.size:=by simpa using n
   subst e;exact h.jN (bn _) (h.be.fresh (bn _))
def Pg (a:TA):TI:=λc H R=>a c H λe g=> ∃j:Int,e=[.int j]/\ -(2^62)<=j/\j<2^62/\R (CN 0 j.toNat) g
def uD {a:Expr} {m:TA} {p c:Pos} (n:Gl X "range") (o:X.mg "range" =none) (u:PA X [a] m) (v:c0 [a] X.env=[(false,eval a X.env)]:=by rfl):PI X tg (.Call (.Name "range" p) [a] [] c) (Pg m):=by
 intro g s w H R I h;refine Call_ (Wx I n o boot_range (CO (bA (u c g s w H _ I h) λE J i=>?_) v rfl));obtain ⟨L,N,x,y,l⟩:=i;obtain ⟨j,e,l,z,q⟩:=l;subst e
 cases y with
 |cons r B=>
  cases B;obtain ⟨t,rfl⟩:=r;exact call_range_1 (Pf x (by omega) (by omega) l z (by simpa using q))
def EN (l:TI) (g:TG) (n:TS):TS:=λD a H=>l a H λJ o=> ∃W:Nat->Nat->St->Hp->Prop,(∃m,W 0 m a o)/\ ∀i m a H,W i m a H->
 (J.stop i H/\D.nx a H)\/(J.go i H/\ ∃N:St->Hp->Prop,(∀c e,N c e-> ∃j,j<m/\W (i+1) j c e)/\ ∀x e,J.CM i H x e->g x a e λh H2=>n {D with nx:=N,ct:=N,bk:=D.nx} h H2)
def Yq (a:List Addr) (h:Heap):List (Addr×Obj):=a.filterMap λb=>(h.get? b).map λo=>(b,o)
def yk {a:List Addr} {h:Heap} {b:Addr} {o:Obj} (c:b∈a) (e:h.get? b=some o):(b,o)∈Yq a h:=CP.mpr ⟨b,c,by rw [e];rfl⟩
def u6 {a:List Addr} {h:Heap} {p:Addr×Obj} (c:p∈Yq a h):p.1∈a/\h.get? p.1=some p.2:=by
 obtain ⟨b,g,e⟩:=CP.mp c
 cases q:h.get? b with
 |none=>rw [q] at e;cases e
 |some o=>
  rw [q] at e;have i:=gG e;subst i;exact ⟨g,q⟩
def aC.pinned {a:List (Addr×Obj)} {g:St} {H:Hp} {s:aL} {c:List Addr} (I:aC X a g H s) (j: ∀b∈c,fX X a H b) (l: ∀b∈c,∃o,s.heap.get? b=some o/\ ∀v,o.data≠ .cell v):aC X (a++Yq c s.heap) g H s:=
 I.oq λp m=>(ij.mp m).elim (λz=>I.pin p (nU _ z)) λz=>by
  obtain ⟨h,e⟩:=u6 z;obtain ⟨n,q,r,_⟩:=j p.1 h;obtain ⟨o,i,d⟩:=l p.1 h;rw [e] at i;cases i;exact ⟨e,n,q,r,d⟩
def aC.gU {a e:List (Addr×Obj)} {c:St} {H:Hp} {s:aL} (I:aC X (a++e) c H s):aC X a c H s:=I.oq λp g=>I.pin p (nU _ (rH _ g))
def Ph {iter:Expr} {E:List Stmt} {wi:TI} {g:TG} {tb:TS} {pos:Pos} (Q:PassesOwn (model X.prog X.w) X.A X.env X.xe) (hc:X.cR=true) (hi:PI X tg iter wi) (hg:PG X tg g) (l:gS X E tb)
   (hs: ∀x,Al iter X.env x=pure x:=by intro _;rfl):PS X (.For tg iter E [] pos) (EN wi g tb):=by
 intro a s σ H D I h;refine wpAny_For (bA (hi a s σ H _ I h) λv s1 h1=>bA h1 λPj s2 h2=>?_) hs;obtain ⟨it,U,tn,J,H2,e,I2,T,A7,f2,W,⟨m0,w0⟩,Y⟩:=h2;subst e;have p: ∀ {B:Hp},(∀b∈U,B b=none)-> ∀b∈U,fX X a B b:=λhn b l=>⟨hn b l,(f2 b l).2⟩
 refine codeAny_forLoop_any (λn s'=> ∃i q B,aC X a q B s'/\tn i s'.heap/\(∀b∈U,B b=none)/\W i n q B) ?_ m0 ⟨0,σ,H2,I2,A7,λb l=>(f2 b l).1,w0⟩;rintro n s3 ⟨i,w,H3,I3,Z,Iz,w3⟩;rcases Y i n w H3 w3 with ⟨stop,qn⟩| ⟨go,N,hN,step⟩
 . refine t9 Q (bA (T.done X rfl rfl rfl hc i a s3 w H3 X.xe I3 (p Iz) Z stop) λr s4 j=>?_);obtain ⟨hr,I4⟩:=j;subst hr;exact sP ⟨w,H3,I4,qn⟩
 . refine t9 Q (bA (T.item X rfl rfl rfl hc i a s3 w H3 X.xe I3 (p Iz) Z go) λr s4 j=>?_);obtain ⟨u,hr,h4⟩:=j;subst hr;refine t9 Q (bA h4 λ_ s5 j=>?_);obtain ⟨x,H5,I5,r5,y5,O,EO⟩:=j;refine t9 Q (bA (hg _ s5 w H5 x u _ (I5.pinned (p EO) (T.obj _ _ O)) r5 (step x H5 y5)) λ_ s6 j=>?_);obtain ⟨ua,H6,I6,q6⟩:=j;refine t9 Q (bA (l _ s6 ua H6 _ I6 q6) λf s7 L=>?_)
   have again: ∀ {c:St} {y:Hp},aC X (a++Yq U s5.heap) c y s7->N c y-> ∃m,m<n/\ ∃i q B,aC X a q B s7/\tn i s7.heap/\(∀b∈U,B b=none)/\W i m q B:=λ{c y} z n7=>by
    obtain ⟨m',hm,w7⟩:=hN c y n7;refine ⟨m',hm,i+1,c,y,z.gU,T.keep _ _ _ O λb l o e=>(z.pin (b,o) (nU _ (nU _ (yk l e)))).1,λb l=>?_,w7⟩;obtain ⟨o,e,d⟩:=T.obj _ _ O b l;exact (z.pin (b,o) (nU _ (nU _ (yk l e)))).2.1
   cases f with
   |next=>obtain ⟨c,y,z,n7⟩:=L;exact again z n7
   |cont=>obtain ⟨c,y,z,n7⟩:=L;exact again z n7
   |brk=>obtain ⟨c,y,z,L⟩:=L;exact ⟨c,y,z.gU,L⟩
   |ret v=>obtain ⟨x7,c,y,z,r7,L⟩:=L;exact ⟨x7,c,y,z.gU,r7,L⟩
end
abbrev R2:=V->V->Hp->VK->Prop
def dB (X:Cx) (f:Value->Value->Sem Value) (r:R2):Prop:=
 ∀(a:List (Addr×Obj)) (s:aL) (c:St) (H:Hp) (x y:V) (v u:Value) (Q:VK),aC X a c H s->aG x v->aG y u->r x y H Q->
  wpAny (model X.prog X.w) X.A (f v u) (EP X a c Q) X.xe s
def bt (X:Cx) (f:Value) (r:List V->Hp->VK->Prop):Prop:=
 ∀(a:List (Addr×Obj)) (s:aL) (c:St) (H:Hp) (e:List V) (g:List Value) (Q:VK),aC X a c H s->aK e g->r e H Q->
  wpAny (model X.prog X.w) X.A (call f g) (EP X a c Q) X.xe s
def EQ (X:Cx) (r:V->Hp->(Bool->Hp->Prop)->Prop):Prop:=
 ∀(a:List (Addr×Obj)) (s:aL) (c:St) (H:Hp) (x:V) (v:Value) (Q:Bool->Hp->Prop),aC X a c H s->aG x v->r x H Q->
  wpAny (model X.prog X.w) X.A (truthy v) (TP X a c Q) X.xe s
def u1 (r:R2) (c e:TE):TE:=λa H Q=>c a H λx g=>e a g λy H2=>r x y H2 Q
def rI (C:Int->Int->Prop) (g:Int->Int->V):R2:=λx y H Q=> ∃i j,x= .int i/\y= .int j/\C i j/\Q (g i j) H
def nH (g:Int->Int->V):R2:=λx y H Q=> ∃i j,x= .int i/\y= .int j/\Q (g i j) H
section
variable {X:Cx} {a b c:Expr} {l n tc:TE} {pos:Pos}
def u3 (q:PE X a l) (r:PE X b n) {e:List (Addr×Obj)} {s:aL} {i:St} {H:Hp} {R:V->V->Hp->Prop} (I:aC X e i H s)
  (h:l i H λx p=>n i p λy H2=>R x y H2) {Q:U9} {f:Value->Value->Sem Value}
  (w: ∀v u o x y H2,aC X e i H2 o->aG x v->aG y u->R x y H2->wpAny (model X.prog X.w) X.A (f v u) Q X.xe o):
  wpAny (model X.prog X.w) X.A (eval a X.env) (λv j=>wpAny (model X.prog X.w) X.A (eval b X.env) (λu m=>wpAny (model X.prog X.w) X.A (f v u) Q X.xe m) X.xe j) X.xe s:=by
 refine bA (q e s i H _ I h) λv z g=>?_;obtain ⟨x,p,B,E,J⟩:=g
 refine bA (r e z i p _ B J) λu o g=>?_;obtain ⟨y,H2,L,N,O⟩:=g
 exact w v u o x y H2 L E N O
def CQ {g:Operator} {r:R2} (i:dB X (ly g) r) (j:PE X a l) (m:PE X b n):PE X (.BinOp a g b pos) (u1 r l n):=by
 intro e s o H Q I h;exact wpAny_BinOp (u3 j m I h λv u p x y H2 w z B q=>i e p o H2 x y v u Q w z B q)
def A8 {f:Value->Value->Sem Value} {C:Int->Int->Prop} {g:Int->Int->Int}
  (rule: ∀(i j:Int) (t u:Tok) (s:aL) (Q:U9) (E:U9),C i j->Q (.int (g i j) s.toks) {s with toks:=s.toks+1}->wpAny (model X.prog X.w) X.A (f (.int i t) (.int j u)) Q E s):
  dB X f (rI C λi j=> .int (g i j)):=by
 intro e s w H x y v u Q I m o h;obtain ⟨i,j,rfl,rfl,p,q⟩:=h;obtain ⟨t,rfl⟩:=m;obtain ⟨r,rfl⟩:=o;exact rule i j t r s _ _ p ⟨.int (g i j),H,I.tok _,⟨_,rfl⟩,q⟩
def A9 {f:Value->Value->Sem Value} {g:Int->Int->Int}
  (rule: ∀(i j:Int) (t u:Tok) (s:aL) (Q:U9) (E:U9),Q (.int (g i j) s.toks) {s with toks:=s.toks+1}->wpAny (model X.prog X.w) X.A (f (.int i t) (.int j u)) Q E s):
  dB X f (nH λi j=> .int (g i j)):=by
 intro e s r H x y v u Q I m o h;obtain ⟨i,j,rfl,rfl,q⟩:=h;obtain ⟨t,rfl⟩:=m;obtain ⟨p,rfl⟩:=o;exact rule i j t p s _ _ ⟨.int (g i j),H,I.tok _,⟨_,rfl⟩,q⟩
def r8 {f:Value->Value->Sem Value} {g:Int->Int->Bool}
  (rule: ∀(i j:Int) (t u:Tok) (s:aL) (Q:U9) (E:U9),Q (.bool (g i j)) s->wpAny (model X.prog X.w) X.A (f (.int i t) (.int j u)) Q E s):
  dB X f (nH λi j=> .bl (g i j)):=by
 intro e s r H x y v u Q I m o h;obtain ⟨i,j,rfl,rfl,q⟩:=h;obtain ⟨t,rfl⟩:=m;obtain ⟨p,rfl⟩:=o;exact rule i j t p s _ _ ⟨.bl (g i j),H,I,rfl,q⟩
def r9 (i j:Int):Prop:=0<j/\j<1073741824
def Ba (i j:Int):Prop:=0<=j/\j<=1000000/\i.natAbs<2^64
def u7:dB X (ly .Add) (nH λi j=> .int (i+j)):=A9 λ_ _ _ _ _ _ _ q=>add_int q
def Wo:dB X (ly .Sub) (nH λi j=> .int (i-j)):=A9 λ_ _ _ _ _ _ _ q=>sub_int q
def Xc:dB X (ly .FloorDiv) (rI r9 λi j=> .int (i/j)):=A8 λi j _ _ _ _ _ e q=>by
 have g:=e.1;have h:=e.2;exact floordiv_int (by omega) (by rw [ER i (by omega)];exact q) (.inl (PyProof.noPylong_small (by omega)))
def zD:dB X (ly .Mod) (rI (λ_ j=>0<j) λi j=> .int (i%j)):=A8 λi j _ _ _ _ _ e q=>by
 exact mod_int' (by omega) (by rw [Int.fmod_eq_emod_of_nonneg i (by omega)];exact q)
def Pk:dB X (ly .Pow) (rI Ba λi j=> .int (i^j.toNat)):=A8 λ_ _ _ _ _ _ _ e q=>pow_int_small e.1 e.2.1 e.2.2 q
end
def Bb:V->V->Bool
 | .a6,.a6=>true| .a6,.int _=>true| .int _,.a6=>true| .a6,.bl _=>true| .bl _,.a6=>true| .a6,.str _=>true| .str _,.a6=>true
 | .int _,.int _=>true| .bl _,.bl _=>true| .str _,.str _=>true| .pi _,.pi _=>true
 | .int _,.str _=>true| .str _,.int _=>true| .bl _,.str _=>true| .str _,.bl _=>true
 |_,_=>false
def Pl:R2:=λx y H Q=>Bb x y=true/\Q (.bl (decide (x=y))) H
def Pn {i j:Int}:decide (V.int i=V.int j)=(i==j):=by
 rw [rX];simp
def Po {i j:Bool}:decide (V.bl i=V.bl j)=(i==j):=by
 rw [rX];simp
def Pp {i j:Str}:decide (V.str i=V.str j)=(i==j):=by
 rw [rX];simp
def Pq {i j:Array UInt8}:decide (V.pi i=V.pi j)=(i.toList==j.toList):=by
 rw [rX];cases i;cases j;simp
section
variable {X:Cx} {a b c:Expr} {N L B:TE} {J:Pos}
def zG {g:List (Addr×Obj)} {h:St} {H:Hp} {s:aL} {Q:VK} {k i:Bool} (I:aC X g h H s) (q:Q (.bl k) H) (e:k=i):EP X g h Q (.bool i) s:=by
 subst e;exact ⟨.bl k,H,I,rfl,q⟩
def Pr:dB X (h9 .Eq) Pl:=by
 intro n s o H x y v u Q I m e h;obtain ⟨l,q⟩:=h
 cases x with
 |a6=>
  cases m
  cases y with
  |a6=>cases e;exact PySem.EqNone.eq_none_none (zG I q (by simp))
  |bl j=>cases e;exact PySem.EqNone.eq_none_bool (zG I q (by simp))
  |int j=>obtain ⟨g,rfl⟩:=e;exact PySem.EqNone.eq_none_int (zG I q (by simp))
  |str j=>obtain ⟨g,rfl⟩:=e;exact PySem.EqNone.eq_none_str (zG I q (by simp))
  |_=>exact absurd (l) ik
 |bl i=>
  cases m
  cases y with
  |a6=>cases e;exact PySem.EqNone.eq_bool_none (zG I q (by simp))
  |bl j=>cases e;exact eq_bool (zG I q Po)
  |str j=>obtain ⟨g,rfl⟩:=e;exact PySem.EqMixed.eq_bool_str (zG I q (by simp))
  |_=>exact absurd (l) ik
 |int i=>
  obtain ⟨t,rfl⟩:=m
  cases y with
  |a6=>cases e;exact PySem.EqNone.eq_int_none (zG I q (by simp))
  |int j=>obtain ⟨g,rfl⟩:=e;exact eq_int (zG I q Pn)
  |str j=>obtain ⟨g,rfl⟩:=e;exact PySem.EqMixed.eq_int_str (zG I q (by simp))
  |_=>exact absurd (l) ik
 |str i=>
  obtain ⟨t,rfl⟩:=m
  cases y with
  |a6=>cases e;exact PySem.EqNone.eq_str_none (zG I q (by simp))
  |bl j=>cases e;exact PySem.EqMixed.eq_str_bool (zG I q (by simp))
  |int j=>obtain ⟨g,rfl⟩:=e;exact PySem.EqMixed.eq_str_int (zG I q (by simp))
  |str j=>obtain ⟨g,rfl⟩:=e;exact eq_str (zG I q Pp)
  |_=>exact absurd (l) ik
 |pi i=>
  obtain ⟨t,rfl⟩:=m
  cases y with
  |pi j=>obtain ⟨g,rfl⟩:=e;exact PySem.W.eq_bytes (zG I q Pq)
  |_=>exact absurd (l) ik
 |_=>cases y<;>exact absurd (l) ik
def uW:dB X (h9 .Lt) (nH λi j=> .bl (decide (i<j))):=r8 λ_ _ _ _ _ _ _ q=>lt_int q
def Xb:dB X (h9 .LtE) (nH λi j=> .bl (decide (i<=j))):=r8 λ_ _ _ _ _ _ _ q=>le_int q
def kr:dB X (h9 .Gt) (nH λi j=> .bl (decide (j<i))):=r8 λ_ _ _ _ _ _ _ q=>gt_int q
def Ps:dB X (h9 .GtE) (nH λi j=> .bl (decide (j<=i))):=r8 λ_ _ _ _ _ _ _ q=>ge_int q
def uX:dB X (h9 .In) (λx y H Q=> ∃i j,x= .str i/\y= .str j/\Q (.bl (!(ES j i 0 j.length 1).isEmpty)) H):=by
 intro e s m H x y v u Q I g l h;obtain ⟨i,j,rfl,rfl,q⟩:=h;obtain ⟨t,rfl⟩:=g;obtain ⟨n,rfl⟩:=l;exact in_str (zG I q rfl)
def Wq:dB X (h9 .Is) (λx y H Q=>y= .a6/\Q (.bl (decide (x= .a6))) H):=by
 intro e s j H x y v u Q I g i h;obtain ⟨rfl,q⟩:=h;cases i;refine is_none_gen (zG I q ?_)
 cases x<;>first
  | (cases g;rfl)
  | (obtain ⟨t,rfl⟩:=g;rfl)
def uU:dB X (h9 .IsNot) (λx y H Q=>y= .a6/\Q (.bl (!decide (x= .a6))) H):=by
 intro e s j H x y v u Q I g i h;obtain ⟨rfl,q⟩:=h;cases i;refine isnot_none_gen (zG I q ?_)
 cases x<;>first
  | (cases g;rfl)
  | (obtain ⟨t,rfl⟩:=g;rfl)
def dB.or {f:Value->Value->Sem Value} {r g:R2} (h:dB X f r) (m:dB X f g):dB X f (λx y H Q=>r x y H Q\/g x y H Q):=by
 intro e s i H x y v u Q I j l q;rcases q with q|q
 . exact h e s i H x y v u Q I j l q
 . exact m e s i H x y v u Q I j l q
def ET (b:Expr) {e:CmpOp} (h:e≠ .In:=by decide) (g:e≠ .NotIn:=by decide):rL e b=false:=by
 have e1:(e==CmpOp.In)=false:=by cases e<;>first|rfl|exact absurd rfl h
 have e2:(e==CmpOp.NotIn)=false:=by cases e<;>first|rfl|exact absurd rfl g
 cases b<;>simp [rL,e1,e2]
def uH {g:CmpOp} {r:R2} (i:dB X (h9 g) r) (j:PE X a N) (l:PE X b L) (m:rL g b=false):PE X (.Compare a [g] [b] J) (u1 r N L):=by
 intro e s n H Q I h;exact wpAny_Compare1 (u3 j l I h λv u o x y H2 p w z q=>i e o n H2 x y v u Q p w z q) m
def EU (t:TE):TT:=λe H Q=>t e H λx g=> ∃k,x= .bl k/\Q k g
def Pt {i:CmpOp} {r:R2} (l:dB X (h9 i) r) (m:PE X a N) (n:PE X b L) (o:rL i b=false):PT X (.Compare a [i] [b] J) (EU (u1 r N L)):=by
 intro g s j H Q I h
 refine EV (bA (m g s j H _ I h) λv p ⟨x,q,w,E,O⟩=>bA (n g p j q _ w O) λu U ⟨y,H2,Y,Z,q2⟩=>
  bA (l g U j H2 x y v u _ Y E Z q2) λc s3 ⟨z,H3,I3,r3,k,e,q3⟩=>?_) o
 subst e;cases r3;exact oM ⟨H3,I3,q3⟩
def vN (r h:R2) (N L B:TE):TE:=λe H Q=>N e H λx i=>L e i λy H2=>r x y H2 λz g=> ∃k,z= .bl k/\
 (if k=true then B e g λj l=>h y j l Q else Q (.bl false) g)
def Pu {l i:CmpOp} {r n:R2} (E:dB X (h9 l) r) (m:dB X (h9 i) n) (O:PE X a N) (U:PE X b L) (Y:PE X c B)
  (Z:lastMarks [l,i] [b,c]=false:=by with_unfolding_all rfl):PE X (.Compare a [l,i] [b,c] J) (vN r n N L B):=by
 intro g s j H Q I h
 refine Compare_chain (bA (O g s j H _ I h) λv s1 ⟨x,H1,I1,r1,q1⟩=>chain_link (bA (U g s1 j H1 _ I1 q1) λu s2 ⟨y,H2,I2,o,q2⟩=>
  bA (E g s2 j H2 x y v u _ I2 r1 o q2) λd s3 ⟨z,p,q,r3,k,e,w⟩=>?_)) Z
 subst e;cases r3;refine oM ?_
 cases k with
 |false=>exact ite_ff ⟨.bl false,p,q,rfl,w⟩
 |true=>exact ite_tt (chain_last (bA (Y g s3 j p _ q w) λw' s4 ⟨z',H4,I4,r4,q4⟩=>m g s4 j H4 y z' u w' Q I4 o r4 q4))
def Pw {l i:CmpOp} {r o:R2} (O:dB X (h9 l) r) (m:dB X (h9 i) o) (U:PE X a N) (Y:PE X b L) (Z:PE X c B)
  (hm:lastMarks [l,i] [b,c]=false:=by with_unfolding_all rfl):PT X (.Compare a [l,i] [b,c] J) (EU (vN r o N L B)):=by
 intro g s j H Q I h
 refine isTrue_chain (bA (U g s j H _ I h) λv s1 ⟨x,H1,I1,r1,q1⟩=>test_link (bA (Y g s1 j H1 _ I1 q1) λu s2 ⟨y,H2,I2,p,q2⟩=>
  bA (O g s2 j H2 x y v u _ I2 r1 p q2) λd s3 ⟨z,q,w,r3,k,e,E⟩=>?_)) hm
 subst e;cases r3;refine oM ?_
 cases k with
 |false=>
  obtain ⟨k',e',q'⟩:=E;cases e';exact ite_ff ⟨q,w,q'⟩
 |true=>
  refine ite_tt (test_last (bA (Z g s3 j q _ w E) λw' s4 ⟨z',H4,I4,r4,q4⟩=>bA (m g s4 j H4 y z' u w' _ I4 p r4 q4) λd' s5 n=>?_));obtain ⟨z2,H5,I5,r5,k2,e2,q5⟩:=n;subst e2;cases r5;exact oM ⟨H5,I5,q5⟩
def sd (K:aH) (x:V) (H:Hp) (k:Bool):Prop:=
 match x with
 | .a6=>k=false
 | .bl b=>k=b
 | .int i=>k=(i !=0)
 | .str y=>y.length<=aS/\k=((y.length:Int) !=0)
 | .pi y=>y.size<=aS/\k=((y.size:Int) !=0)
 | .ref p=>(∃e,fV K H p e/\k=!e.isEmpty)\/(∃e,iX K H p e/\k=!e.isEmpty)\/ ∃g,H p=some (.dK g)/\k=!g.isEmpty
 |_=>False
def kP {g:Type} {e:List (g×V)} {h:List (g×Value)} (r:KV e h):(!h.isEmpty)=!e.isEmpty:=by
 cases r<;>rfl
def Wy {g:List V} {e:List Value} (r:aK g e):(!e.toArray.isEmpty)=!g.isEmpty:=by
 cases r<;>simp
def Wv:(aS:Nat)<2^63:=by rw [mY];decide
def IA:EQ X (λx H Q=> ∃k,sd X.K x H k/\Q k H):=by
 intro E s σ H x v Q I l h;obtain ⟨k,e,q⟩:=h;have hs:=mY
 cases x with
 |a6=>
  cases l;have g:=e;subst g;exact truthy_none ⟨H,I,q⟩
 |bl b=>
  cases l;have g:=e;subst g;exact oM ⟨H,I,q⟩
 |int i=>
  obtain ⟨t,rfl⟩:=l;have g:=e;subst g;exact PySem.P.truthy_int ⟨H,I,q⟩
 |str y=>
  obtain ⟨t,rfl⟩:=l;obtain ⟨U,g⟩:y.length<=aS/\k=((y.length:Int) !=0):=e;subst g;exact PySem.P.truthy_str (by omega) ⟨H,I.tok _,q⟩
 |pi y=>
  obtain ⟨t,rfl⟩:=l;obtain ⟨U,g⟩:y.size<=aS/\k=((y.size:Int) !=0):=e;subst g;exact PySem.W.truthy_bytes (by omega) ⟨H,I.tok _,q⟩
 |ref p=>
  cases l;have g:=e;rcases g with ⟨Y,n,g⟩| ⟨Y,n,g⟩| ⟨o,n,g⟩
  . subst g;obtain ⟨u,r,w,O⟩:=I.list n;have j:=r.length;exact wpAny_truthy_list w.isList (by simp only [dj];omega) ⟨H,I.tok _,by rw [Wy r];exact q⟩
  . subst g;obtain ⟨u,r,w,O⟩:=I.tuple n;have j:=r.length;exact truthy_tuple w (by simp only [dj];omega) ⟨H,I.tok _,by rw [Wy r];exact q⟩
  . subst g;obtain ⟨O,Z,z,r,m⟩:o.length<=aS/\(p==nG)=false/\ ∃z,KV o z/\s.heap.DictOf (jR X.prog X.w) p z:=I.be p _ n;have j:=Af r;exact wpAny_truthy_dict Z m (by omega) ⟨H,I.tok _,by rw [kP r];exact q⟩
 |_=>exact (e).elim
def Px (j:PE X a N) (l: ∀whole,isTrue a X.env whole=(do let v<-whole;rK a.pos;nT [v] (truthy v))):
  PT X a (λg H Q=>N g H λx i=> ∃k,sd X.K x i k/\Q k i):=by
 intro e s g H Q I h;exact isTrue_plain (bA (j e s g H _ I h) λv m ⟨x,n,o,p,q⟩=>IA e m g n x v Q o p q) (l _)
def nV:dB X (ly .Add) (λx y H Q=> ∃i j,x= .str i/\y= .str j/\i.length+j.length<=aS/\Q (.str (i++j)) H):=by
 intro e s o H x y v u Q I g l h;obtain ⟨i,j,rfl,rfl,m,q⟩:=h;obtain ⟨t,rfl⟩:=g;obtain ⟨n,rfl⟩:=l;exact add_str (λn tk=>⟨.str (i++j),H,I.tok _,⟨_,rfl⟩,q⟩) m
def xO {x:V} {e:List Value} (r:aK [x] e): ∃u,e=[u]/\aG x u:=by
 cases r with
 |cons g h=>cases h;exact ⟨_,rfl,g⟩
def vF {x y:V} {e:List Value} (r:aK [x,y] e): ∃u g,e=[u,g]/\aG x u/\aG y g:=by
 cases r with
 |cons h i=>
  cases i with
  |cons j l=>cases l;exact ⟨_,_,rfl,h,j⟩
def Py (m:X.cR=true):bt X (.builtin "max") (λg H Q=> ∃i j,g=[.int i,.int j]/\Q (.int (if j>i then j else i)) H):=by
 intro l s n H g o Q I r h;obtain ⟨i,j,rfl,q⟩:=h;obtain ⟨u,p,rfl,⟨t,rfl⟩,⟨v,rfl⟩⟩:=vF r;refine max_two_ints (I.ok.hd m) λw tk k=>⟨_,H,I.kept k,?_,q⟩
 by_cases e:j>i
 . rw [if_pos e,if_pos e];exact ⟨_,rfl⟩
 . rw [if_neg e,if_neg e];exact ⟨_,rfl⟩
def Pz (m:X.cR=true):bt X (.builtin "min") (λg H Q=> ∃i j,g=[.int i,.int j]/\Q (.int (if j<i then j else i)) H):=by
 intro l s n H g o Q I r h;obtain ⟨i,j,rfl,q⟩:=h;obtain ⟨u,p,rfl,⟨t,rfl⟩,⟨v,rfl⟩⟩:=vF r;refine min_two_ints (I.ok.hd m) λw tk k=>⟨_,H,I.kept k,?_,q⟩
 by_cases e:j<i
 . rw [if_pos e,if_pos e];exact ⟨_,rfl⟩
 . rw [if_neg e,if_neg e];exact ⟨_,rfl⟩
def ZU:bt X (.builtin "divmod") (λg H Q=> ∃i j,g=[.int i,.int j]/\r9 i j/\ ∀p,H p=none->Q (.ref p) (aU H p (.am [.int (i/j),.int (i%j)]))):=by
 intro l s m H g n Q I r h;obtain ⟨i,j,rfl,⟨v,w⟩,q⟩:=h;obtain ⟨u,x,rfl,⟨t,rfl⟩,⟨y,rfl⟩⟩:=vF r;refine divmod_int (by omega) ?_ (.inl (PyProof.noPylong_small (by omega)));rw [ER i (by omega),Int.fmod_eq_emod_of_nonneg i (by omega)];refine ⟨.ref s.heap.objs.size,_,?_,rfl,q _ (I.be.fresh (bn _))⟩;refine I.laid (λb o e=>cT _ e) (bn _) ⟨by simp only [fR,rM];rw [mY];decide,[.int (i/j) s.toks,.int (i%j) (s.toks+1)],.cons ⟨_,rfl⟩ (.cons ⟨_,rfl⟩ .nil),?_⟩;exact ⟨_,fS s.heap rfl,rfl,0,rfl⟩
end
structure nW (h:Heap) (x dx C:Addr) (mA:WV):Prop where
 obj:h.get? x=some (sM C dx)
 ns:h.Ns1 dx mA
 ne:dx≠x
def PB {h:Heap} {dx:Addr} {g:WV} (n:h.Ns1 dx g): ∃i,h.get? dx=some i/\ ∀name,CS name i=some (g name):=by
 obtain ⟨o,j,v,l,hd,m,_,p⟩:=n;refine ⟨o,l,λname=>?_⟩;have e:=p name;unfold nsFind findBy at e;rw [<-Array.find?_toList] at e;unfold CS;rw [hd];dsimp only
 split
 . rename_i y q;rw [q] at e;exact congrArg some e
 . rename_i q;rw [q] at e
   have a:j.toList.any (·.refKey)=false:=by
    rw [CT];intro y r;obtain ⟨z,t,c⟩:=m y (CU.mp r);simp [DictEntry.refKey,c]
   have u: ¬j.toList.any (·.refKey)=true:=by rw [a];exact ik
   rw [if_neg u];exact congrArg some e
def nW.look {h:Heap} {x dx C:Addr} {c:WV} (I:nW h x dx C c): ∃a,PySem.W.InstAt h x (sM C dx) C (some a)/\ ∀name,CS name a=some (c name):=
 let ⟨a,e,hl⟩:=PB I.ns
 ⟨a,⟨I.obj,rfl,rfl,e⟩,hl⟩
section
variable {prog:cp} {w:World} {A:cC} {E:U9} {s:aL} {K:aH} {x dx C f:Addr} {mA:WV} {name:Str} {v:Value}
def IB {a:Bool} {Q:U9} (X:K.In s.heap) (I:nW s.heap x dx C mA) (e:va K C name=true) (g:Am K C=true)
  (i:ma K (.ref C) name=some none) (j:mA name=some v) (c:PySem.W.handedIn v=true) (h:Q v {s with toks:=s.toks+1}):
  wpAny (model prog w) A (getAttr (.ref x) name a) Q E s:=by
 obtain ⟨m,J,l⟩:=I.look;exact PySem.W.get_value X J (EW e).1 (PySem.W.findObj_own g i rfl (by rw [l,j])) c h
def PC {c:Sem Bool} {Q:Value×List Value->aL->Prop} (X:K.In s.heap) (I:nW s.heap x dx C mA) (a:va K C name=true)
  (e:ma K (.ref C) name=some (some (.ref f))) (g:CV K (.ref f)=true) (i:mA name=none) (h:Q (.ref f,[.ref x]) s):
  wpAny (model prog w) A (getMethod (.ref x) name c) Q E s:=by
 obtain ⟨j,J,l⟩:=I.look;exact PySem.W.method_fn X J (EW a).1 (EW a).2 e (beq_iff_eq.mp g) (by show (CS name j).map (·.isSome)=some false;rw [l,i];rfl) h
def PD {j:List Str} {Q:Unit->aL->Prop} (X:K.In s.heap) (I:nW s.heap x dx C mA)
  (l:ma K (.ref C) "__setattr__" =some (some (.builtin "object.__setattr__"))) (m:Bc K C=true) (n:EX K C name=some none) (o:Am K C=true)
  (hw:PySem.Within mA j) (p:j.length<=aS)
  (h: ∀e,nW e x dx C (λy=>if y=name then some v else mA y)->rJ dx s.heap e->Q () {s with heap:=e,toks:=s.toks+2}):
  wpAny (model prog w) A (setAttr (.ref x) name v) Q E s:=by
 obtain ⟨z,J,B⟩:=I.look;refine PySem.W.set_plain X J l (PySem.W.osa_open X J m n λb=>?_);obtain ⟨H,q,g⟩:=PySem.W.any_some o;refine ax (aV (ax (ax (wpAny_loadPart (I.obj) (ax (PySem.W.Looks.here (PySem.W.looks_clsIn X q) ?_))))));rw [g];refine aV (ax (aV (ax ?_)));refine wpAny_nsSet1 I.ns λe a c=>?_
 obtain ⟨L,r,u,se,cU,i⟩:=a.count (PySem.Within.cons name v hw);refine ax (wpAny_lookBehind se (by rw [cU];exact pastItsLine_dict (cE i (by rw [fR];omega))) ?_);exact aV (h _ ⟨(c.2 _ (lu I.ne)).trans I.obj,a,I.ne⟩ c)
def PF {R:Result->aL->Prop} {a:List Value} {c:List (Str×Value)} (X:K.In s.heap) (e:sg K C=true)
  (i:ma K (.ref C) "__init__" =some (some (.ref f))) (j:PySem.W.typeIn K (.ref f)=some (.type "function"))
  (h:pM (model prog w) (A.under (.builtin "type.__call__" ⟨.ref C::a,c⟩)) (.call (.ref f) ⟨.ref (s.heap.objs.size+1)::a,c⟩) (PySem.W.InitBack (s.heap.objs.size+1) R)
   {s with heap:=(s.heap.push sR).push (sM C s.heap.objs.size)}):
  pM (model prog w) A (.call (.ref C) ⟨a,c⟩) R s:=by
 obtain ⟨l,g,d,t,os⟩:=s;exact PySem.W.make_core (PySem.W.makes_of X e) (PySem.W.looks_findIn X i) (λself=>PySem.W.bind_fn X self j) (.inl rfl) h
end
def eJ (f:Str) (v:V):List (Str×V)->List (Str×V)
 | []=>[(f,v)]
 | (g,x)::r=>if g=f then (g,v)::r else (g,x)::eJ f v r
theorem Zr (f g:Str) (v:V): ∀fs:List (Str×V),(eJ f v fs).lookup g=if g=f then some v else fs.lookup g
 | []=>by
  show nX g [(f,v)]=_
  by_cases h:g=f
  . have a:=beq_iff_eq.mpr h;simp only [nX,a,if_pos h]
  . have a:=beq_eq_false_iff_ne.mpr h;simp only [nX,a,if_neg h]
 | (k,x)::r=>by
  rw [show eJ f v ((k,x)::r)=(if k=f then (k,v)::r else (k,x)::eJ f v r) from rfl]
  by_cases c:k=f
  . rw [if_pos c]
    by_cases h:g=k
    . have a:=beq_iff_eq.mpr h;simp only [nX,a,if_pos (h.trans c)]
    . have a:=beq_eq_false_iff_ne.mpr h;simp only [nX,a,if_neg (λe:g=f=>h (e.trans c.symm))]
  . rw [if_neg c]
    by_cases h:g=k
    . have a:=beq_iff_eq.mpr h;simp only [nX,a,if_neg (λe:g=f=>c (h.symm.trans e))]
    . have a:=beq_eq_false_iff_ne.mpr h;simp only [nX,a];exact (Zr f g v r)
theorem Zv (f:Str) (v:V): ∀fs:List (Str×V),f∈(eJ f v fs).map (·.1)/\ ∀g,g∈fs.map (·.1)->g∈(eJ f v fs).map (·.1)
 | []=>⟨by simp [eJ],λg h=>by simp at h⟩
 | (k,x)::r=>by
  obtain ⟨c,i⟩:=Zv f v r;rw [show eJ f v ((k,x)::r)=(if k=f then (k,v)::r else (k,x)::eJ f v r) from rfl]
  by_cases a:k=f
  . rw [if_pos a];subst a;exact ⟨by simp,λg h=>by simpa using h⟩
  . rw [if_neg a];refine ⟨?_,λg h=>?_⟩
    . rw [e9];exact de _ c
    . rw [e9] at h ⊢;rcases cQ.mp h with e|e
      . exact cQ.mpr (.inl e)
      . exact de _ (i g e)
theorem Zu (f:Str) (v:V): ∀fs:List (Str×V),(eJ f v fs).length<=fs.length+1
 | []=>by simp [eJ]
 | (k,x)::r=>by
  have c:=Zu f v r;rw [show eJ f v ((k,x)::r)=(if k=f then (k,v)::r else (k,x)::eJ f v r) from rfl]
  by_cases a:k=f
  . rw [if_pos a,fR,fR];omega
  . rw [if_neg a,fR,fR];omega
def fj.some_of {v:V} {o:Option Value} (r:fj (some v) o): ∃u,o=some u/\aG v u:=by
 cases o with
 |none=>exact (r).elim
 |some u=>exact ⟨u,rfl,r⟩
def fj.none_of {o:Option Value} (r:fj none o):o=none:=by
 cases o with
 |none=>rfl
 |some u=>exact (r).elim
def YZ {v:V} {u:Value} (r:aG v u):PySem.W.handedIn u=true:=by
 cases v with
 |a6=>cases (r);rfl
 |bl b=>cases (r);rfl
 |int i=>obtain ⟨t,e⟩:=(r);cases e;rfl
 |str x=>obtain ⟨t,e⟩:=(r);cases e;rfl
 |pi b=>obtain ⟨t,e⟩:=(r);cases e;rfl
 |tY b=>obtain ⟨t,e⟩:=(r);cases e;rfl
 |ref a=>cases (r);rfl
 |ty n=>cases (r);rfl
section
variable {P:cp} {w:World} {H H':Hp} {h h':Heap} {a C dx:Addr} {fs OD:List (Str×V)}
def ZE (g:gr P w H h) (e:H a=some (.ins C dx fs)): ∃c,nW h a dx C c/\(∀f,fj (fs.lookup f) (c f))/\PySem.Within c (fs.map (·.1))/\fs.length<=1000/\H dx=some (.ay a):=by
 obtain ⟨d,z,ne,ob,c,n,r,q⟩:=(g a _ e)
 exact ⟨c,⟨ob,n,ne⟩,r,q,z,d⟩
end
structure gl (K:aH) (C:Addr):Prop where
 pg:va K C Str.empty=true
 hd:Am K C=true
 po:Bc K C=true
 sa:ma K (.ref C) "__setattr__" =some (some (.builtin "object.__setattr__"))
def gl.get {K:aH} {C:Addr} (c:gl K C) (f:Str):va K C f=true:=c.pg
def eK (K:aH) (C:Addr) (f:Str):Prop:=ma K (.ref C) f=some none
def eK.Bd {K:aH} {C:Addr} {f:Str} (n:eK K C f):EX K C f=some none:=by
 unfold EX;rw [show ma K (.ref C) f=some none from n];rfl
structure Meth (K:aH) (C:Addr) (m:Str) (f:Addr):Prop where
 at_:ma K (.ref C) m=some (some (.ref f))
 fn:CV K (.ref f)=true
 kp:lU K (.ref f)=true
section
variable {X:Cx} {pins:List (Addr×Obj)} {σ:St} {H:Hp} {s:aL} {a C dx:Addr} {fs:List (Str×V)} {f:Str} {v:V} {A:cC} {E:U9}
def kU {b:Bool} {Q:U9} (I:aC X pins σ H s) (e:H a=some (.ins C dx fs)) (c:gl X.K C) (n:eK X.K C f) (l:fs.lookup f=some v)
  (h: ∀u g,aC X pins σ H g->aG v u->Q u g):wpAny (model X.prog X.w) A (getAttr (.ref a) f b) Q E s:=by
 obtain ⟨m,O,r,_,_,_⟩:=ZE I.be e;obtain ⟨u,j,i⟩:=fj.some_of (by rw [<-l];exact r f);exact IB I.ii O (c.get f) c.hd n j (YZ i) (h u _ (I.tok _) i)
def WC {m:Str} {g:Addr} {i:Sem Bool} {Q:Value×List Value->aL->Prop} (I:aC X pins σ H s) (e:H a=some (.ins C dx fs)) (c:gl X.K C) (k:Meth X.K C m g) (l:fs.lookup m=none)
  (h:Q (.ref g,[.ref a]) s):wpAny (model X.prog X.w) A (getMethod (.ref a) m i) Q E s:=by
 obtain ⟨j,O,r,_,_,_⟩:=ZE I.be e;exact PC I.ii O (c.get m) k.at_ k.fn (fj.none_of (by rw [<-l];exact r m)) h
def U8 {y:V} {u:Value} {Q:Unit->aL->Prop} (I:aC X pins σ H s) (e:H a=some (.ins C dx fs)) (c:gl X.K C) (n:eK X.K C f) (Y:fs.length<1000) (w:aG y u)
   (h: ∀j,aC X pins σ (aU H a (.ins C dx (eJ f y fs))) j->Q () j):wpAny (model X.prog X.w) A (setAttr (.ref a) f u) Q E s:=by
 obtain ⟨l,O,r,m,_,p⟩:=ZE I.be e;have x:(fs.map (·.1)).length<=aS:=by rw [bM,mY];omega
 refine PD I.ii O c.sa c.po n.Bd c.hd m x λB i J=>h _ ?_
 have hd: ∃o,B.get? dx=some o:=let ⟨o,_,_,L,_⟩:=i.ns;⟨o,L⟩
 refine I.write (by rw [e];exact pw) (.inr p) (λb q N z=>(J.2 b N).trans z) hd ?_;refine ⟨by rw [jY O.ne];exact p,?_,O.ne,i.obj,_,i.ns,λg=>?_,λg U=>?_⟩
 . have:=Zu f y fs;omega
 . show fj ((eJ f y fs).lookup g) (if g=f then some u else l g);rw [Zr]
   by_cases q:g=f
   . rw [if_pos q,if_pos q];exact w
   . rw [if_neg q,if_neg q];exact r g
 . by_cases q:g=f
   . rw [q];exact (Zv f y fs).1
   . refine (Zv f y fs).2 g (m g λz=>U ?_);show (if g=f then some u else l g)=none;rw [if_neg q];exact z
def aC.made (I:aC X pins σ H s):aC X pins σ (aU (aU H s.heap.objs.size (.ay (s.heap.objs.size+1))) (s.heap.objs.size+1) (.ins C s.heap.objs.size []))
  {s with heap:=(s.heap.push sR).push (sM C s.heap.objs.size)}:=by
 have e1:(s.heap.push sR).get? s.heap.objs.size=some sR:=fS s.heap rfl
 have e2:((s.heap.push sR).push (sM C s.heap.objs.size)).get? (s.heap.objs.size+1)=some (sM C s.heap.objs.size):=by
  have:=fS (s.heap.push sR) (o:=sM C s.heap.objs.size) rfl
  rwa [An] at this
 have c:(s.heap.push sR).Ns s.heap.objs.size (λ_=>none):=⟨sR, #[],_,e1,rfl,(λe g=>absurd g (by simp)),λ_=>rfl⟩
 refine (I.laid (o:= .ay (s.heap.objs.size+1)) (t':=s.toks) (λb u q=>cT _ q) (bn _) ⟨_,e1⟩).laid (λb u q=>cT _ q) (Nat.le_of_eq (An _ _)) ?_;have ne:s.heap.objs.size≠s.heap.objs.size+1:=eB (CW _);refine ⟨by rw [jY ne,jy],li _,ne,e2,λ_=>none,(Heap.Ns1.of_empty c).at λo q=>cT _ q,λ_=>pw,λy h=>absurd rfl h⟩
def IC {c:cp} {w:World} {g:Env} {e:Expr} {f:Str} {j:Pos} {s:aL} {Q:U9} (l:mZ e f g (eval e g)=eval e g)
  (h:wpAny (model c w) A (eval e g) (λo i=>wpAny (model c w) A (getAttr o f true) Q E i) E s):wpAny (model c w) A (eval (.Attribute e f j) g) Q E s:=
 Attribute_any_ h (by rw [arm_eval_Attribute,l])
end
def EY (K:aH) (e:TE) (f:Str):TE:=λg H Q=>e g H λx c=> ∃a C dx fs v,x= .ref a/\c a=some (.ins C dx fs)/\gl K C/\eK K C f/\fs.lookup f=some v/\Q v c
def EZ (K:aH) (e g:TE) (f:Str):TS:=λD c H=>g c H λy h=>e c h λx H2=> ∃a C dx fs,x= .ref a/\H2 a=some (.ins C dx fs)/\gl K C/\eK K C f/\fs.length<1000/\
 D.nx c (aU H2 a (.ins C dx (eJ f y fs)))
section
variable {X:Cx} {o e value:Expr} {f:Str} {pos pos' sh:Pos} {ta tv:TE}
def PH (j:PE X e ta) (m:mZ e f X.env (eval e X.env)=eval e X.env):PE X (.Attribute e f pos) (EY X.K ta f):=by
 intro g s p H Q I h;refine IC m (bA (j g s p H _ I h) λu L i=>?_);obtain ⟨x,r,w,y,a,C,dx,fs,v,z,B,c,n,l,q⟩:=i;subst z;obtain rfl:u=dN a:=y;exact kU w B c n l λN O E J=>⟨v,r,E,J,q⟩
def PJ (m:PE X o ta) (p:PE X value tv) (r:mH value (some (.Attribute o f pos')) pos.line X.env=pure false):PS X (.Assign [.Attribute o f pos'] value pos) (EZ X.K ta tv f):=by
 intro g s i H D I h;refine plainObj_wpAny_Assign_Attribute (bA (p g s i H _ I h) λu v ⟨y,w,z,B,q⟩=>bA (m g v i w _ z q) λE Y j=>?_) r;obtain ⟨x,H2,J,L,a,C,dx,fs,N,O,c,n,l,Q⟩:=j;subst N;obtain rfl:E=dN a:=L;exact U8 J O c n l B λZ U=>⟨i,_,U,Q⟩
end
section
variable {X:Cx} {pins:List (Addr×Obj)} {σ:St} {H:Hp} {s:aL} {A:cC} {E:U9} {Q:U9} {c:Value} {b:Bool}
inductive il (K:aH) (H:Hp):V->Value->Prop where
 |a6:il K H .a6 (.type "NoneType")
 |bl (x:Bool):il K H (.bl x) (.type "bool")
 |int (i:Int):il K H (.int i) (.type "int")
 |str (x:Str):il K H (.str x) (.type "str")
 |tY (x:UInt64):il K H (.tY x) (.type "float")
 |ai {a:Addr} {xs:List V} (e:H a=some (.ai xs)):il K H (.ref a) (.type "list")
 |eH {a:Addr} {o:Obj} {xs:List V} (e:H a=some (.eH o (.ai xs))):il K H (.ref a) (.type "list")
 |am {a:Addr} {xs:List V} (e:H a=some (.am xs)):il K H (.ref a) (.type "tuple")
 |dK {a:Addr} {kvs:List (aR×V)} (e:H a=some (.dK kvs)):il K H (.ref a) (.type "dict")
 |dT {a:Addr} {kvs:List (List aR×V)} (e:H a=some (.dT kvs)):il K H (.ref a) (.type "dict")
 |ins {a C dx:Addr} {fs:List (Str×V)} (e:H a=some (.ins C dx fs)) (cl:gl K C) (ha:ma K (.ref C) "__class__" =some (some (.builtin "object.__class__")))
  (hn:PySem.W.specialIn K (.builtin "object.__class__") "__get__" =some (some (.builtin "getset_descriptor.__get__"))) (htk:PySem.W.takesIn K (.builtin "object.__class__")=some true)
  (hm:PySem.W.mroIn K C (.type "object")=some true):il K H (.ref a) (.ref C)
def PK {x:V} {u t:Value} (I:aC X pins σ H s) (g:aG x u) (L:il X.K H x t) (e:nI X.K t c=some b) (h: ∀tk,Q (.bool b) {s with toks:=tk}):
  wpAny (model X.prog X.w) A (call (.builtin "isinstance") [u,c]) Q E s:=by
 cases L with
 |a6=>cases (g);exact pN PySem.W.kitx_none I.ii pw e (λz=>nomatch z) h
 |bl y=>cases (g);exact pN PySem.W.kitx_bool I.ii pw e (λz=>nomatch z) h
 |int i=>obtain ⟨t,q⟩:=(g);cases q;exact pN PySem.W.kitx_int I.ii pw e (λz=>nomatch z) h
 |str y=>obtain ⟨t,q⟩:=(g);cases q;exact pN PySem.W.kitx_str I.ii pw e (λz=>nomatch z) h
 |tY y=>obtain ⟨t,q⟩:=(g);cases q;exact pN PySem.W.kitx_float I.ii pw e (λz=>nomatch z) h
 | @ai a r j=>
  cases (g);obtain ⟨_,_,n,_,l⟩:=(I.be a _ j)
  exact pN PySem.W.kitx_list I.ii ⟨_,l,rfl⟩ e (λz=>nomatch z) h
 | @eH a ob r j=>
  cases (g);obtain ⟨_,_,_,n,_,l⟩:=(I.be a _ j)
  exact pN PySem.W.kitx_list I.ii ⟨_,l,rfl⟩ e (λz=>nomatch z) h
 | @am a r j=>
  cases (g);obtain ⟨_,_,_,p⟩:=(I.be a _ j)
  obtain ⟨o,l,m,_⟩:=p;exact pN PySem.W.kitx_tuple I.ii ⟨o,l,m⟩ e (λz=>nomatch z) h
 | @dK a v j=>
  cases (g);obtain ⟨_,_,vs,_,p⟩:=(I.be a _ j)
  obtain ⟨o,N,U,l,m,_⟩:=p;exact pN PySem.W.kitx_dict I.ii ⟨o,l,m.1⟩ e (λz=>nomatch z) h
 | @dT a v j=>
  cases (g);obtain ⟨_,_,r,_,o,N,U,l,m,_⟩:=(I.be a _ j)
  exact pN PySem.W.kitx_dict I.ii ⟨o,l,m.1⟩ e (λz=>nomatch z) h
 | @ins a C dx fs j B Y Z w hm=>
  cases (g);obtain ⟨mA,O,_⟩:=ZE I.be j;obtain ⟨od,J,_⟩:=O.look;exact pN (PySem.W.kitx_own (B.get _) B.hd Y Z w hm) I.ii J e (λz=>nomatch z) h
end
structure aT (k:Nat) (A:cC):Prop where
 hd:A.handled=none
 dp:A.depth+3*k+5<recursionLimit
 un:A.units+16*k+200<cLine
def aT.mono {j k:Nat} {A:cC} (r:aT k A) (h:j<=k):aT j A:=⟨r.hd,by have:=r.dp;omega,by have:=r.un;omega⟩
def aT.deeper {k:Nat} {A:cC} (r:aT (k+1) A) (env:Env):aT k (A.deeper env):=
 ⟨r.hd,by have:=r.dp;show A.depth+1+3*k+5<_;omega,by have:=r.un;show A.units+3+16*k+200<_;omega⟩
def kL {A:cC} {C:Addr} {a:List Value} {c:List (Str×Value)}:(A.under (.builtin "type.__call__" ⟨.ref C::a,c⟩)).depth=A.depth+1:=by
 first|rfl|simp [Around.under,Code.weight,Code.isCreation,Code.isGuard,Code.isCaller,Code.frames,Code.isFrame,guardIds]
def kK {A:cC} {C:Addr} {a:List Value} {c:List (Str×Value)}:(A.under (.builtin "type.__call__" ⟨.ref C::a,c⟩)).units=A.units+1:=by
 first|rfl|simp [Around.under,Code.cUnits,Code.frames,Code.isFrame]
def aT.make {k:Nat} {A:cC} (r:aT (k+1) A) (C:Addr) (a:List Value) (c:List (Str×Value)):aT k (A.under (.builtin "type.__call__" ⟨.ref C::a,c⟩)):=
 ⟨r.hd,by have:=r.dp;rw [kL];omega,by have:=r.un;rw [kK];omega⟩
def aT.depth {k:Nat} {A:cC} (r:aT k A):A.depth<recursionLimit:=by have:=r.dp;omega
def aT.units {k:Nat} {A:cC} (r:aT k A):A.units+64<cLine:=by have:=r.un;omega
def Be:TA:=λ_ H Q=>Q [] H
def PL (c:TE) (e:TA):TA:=λa H Q=>c a H λx g=>e a g λh H2=>Q (x::h) H2
section
variable {X:Cx} {e:Expr} {es:List Expr} {te:TE} {t:TA} {pos:Pos}
def xg:PA X [] Be:=λ_ _ _ _ H Q I h=>Calls.spliced_nil ⟨[],H,I,.nil,h⟩
def za (i:PE X e te) (j:PA X es t) (l:T9 X e es:=by rfl):PA X (e::es) (PL te t):=by
 intro pos a s g H Q I h;rw [l];refine Calls.spliced_cons (bA (i a s g H _ I h) λu m c=>?_);obtain ⟨x,n,o,p,q⟩:=c;exact bA (j pos a m g n _ o q) λz B ⟨r,H2,v,w,y⟩=>⟨x::r,H2,v,.cons p w,y⟩
def E1 (t:TA):TE:=λg H Q=>t g H λa c=>a.length<=aS/\ ∀p,c p=none->Q (.ref p) (aU c p (.am a))
def E2 (t:TA):TE:=λg H Q=>t g H λa c=>a.length<=aS/\ ∀p,c p=none->Q (.ref p) (aU c p (.ai a))
def PM {i} (h:PA X es t):PE X (.Tuple es i pos) (E1 t):=by
 intro a s j H Q I l;refine wpAny_Tuple_spliced (bA (h pos a s j H _ I l) λm c ⟨n,o,g,r,z,q⟩=>⟨by rw [<-r.length];exact z,?_⟩);refine ⟨.ref c.heap.objs.size,aU o c.heap.objs.size (.am n),g.laid (λb u e=>cT _ e) (bn _) ?_,rfl,q _ (g.be.fresh (bn _))⟩;exact ⟨z,m,r,⟨_,fS _ rfl,rfl,_,rfl⟩⟩
def PN (h:PA X es t):PE X (.List es pos) (E2 t):=by
 intro a s i H Q I j;refine wpAny_List_spliced (bA (h pos a s i H _ I j) λl c ⟨m,n,g,r,z,q⟩=>⟨by rw [<-r.length];exact z,?_⟩);refine ⟨.ref c.heap.objs.size,aU n c.heap.objs.size (.ai m),g.laid (λb u e=>cT _ e) (bn _) ?_,rfl,q _ (g.be.fresh (bn _))⟩;exact ⟨z,l,0,r,fS _ rfl⟩
end
abbrev Sp:=List V->Hp->VK->XK->Prop
abbrev pO:=List Env->Hp->aL->XK->Value->aL->Prop
structure oQ (P:cp) (w:World) (K:aH) (mg:WV) (af:Heap) (A:cC) (outer:List Env) (s:aL) (H:Hp):Prop where
 frames:A.frames=some outer
 mod:Mod K mg af
 bs: ∀b o,af.get? b=some o->s.heap.get? b=some o/\H b=none
 rG:af.objs.size<=s.heap.objs.size
 ig:s.heap.FunFrames af outer
 sO: ∀b∈pv outer,H b=none
 be:gr P w H s.heap
 bare:rZ s.gens
def CE (a:List Env) (P:cp) (w:World) (H:Hp) (s:aL) (Q:VK) (u:Value) (c:aL):Prop:=
 ∃v e,c.os=s.os/\rZ c.gens/\Un (pv a) [] H e s.heap c.heap/\gr P w e c.heap/\aG v u/\Q v e
def CR (g:pO) (a:List Env) (P:cp) (w:World) (H:Hp) (s:aL) (Q:VK) (E:XK) (r:Result) (c:aL):Prop:=
 match r with
 | .ok (.ret u)=>CE a P w H s Q u c
 | .ok _=>False
 | .error e=>g a H s E e c
structure dG (P:cp) (w:World) (K:aH) (mg:WV) (af:Heap) (CX:pO) (k:Nat) (f:Addr) (fd:oR) (ps:List Str) (sp:Sp):Prop where
 len: ∀vs H Q E,sp vs H Q E->vs.length=ps.length
 run: ∀(A:cC) (outer:List Env) (s:aL) (H:Hp) (args:Args) (us:List Value) (vs:List V) (Q:VK) (E:XK),aT k A->oQ P w K mg af A outer s H->BindsTo s fd args (ps.zip us)->aK vs us->sp vs H Q E->
  pM (model P w) A (.call (.ref f) args) (CR CX outer P w H s Q E) s
def dG.mono {P:cp} {w:World} {K:aH} {mg:WV} {af:Heap} {a:pO} {j k:Nat} {f:Addr} {c:oR} {ps:List Str} {e:Sp} (F:dG P w K mg af a j f c ps e) (h:j<=k):
 dG P w K mg af a k f c ps e:=⟨F.len,λA outer s H args g i Q E hr=>F.run A outer s H args g i Q E (hr.mono h)⟩
def oQ.make {P:cp} {w:World} {K:aH} {mg:WV} {af:Heap} {A:cC} {outer:List Env} {s:aL} {H:Hp} (e:oQ P w K mg af A outer s H) (C:Addr) (a:List Value) (c:List (Str×Value)):
 oQ P w K mg af (A.under (.builtin "type.__call__" ⟨.ref C::a,c⟩)) outer s H:=⟨by first|exact e.frames| (simpa [Around.under,Code.envs,Code.isFrame,pushEnvs] using e.frames),e.mod,e.bs,e.rG,e.ig,e.sO,e.be,e.bare⟩
section
variable {X:Cx} {pins:List (Addr×Obj)} {σ:St} {H:Hp} {s s':aL}
def aC.Bf (I:aC X pins σ H s):oQ X.prog X.w X.K X.mg X.af X.A X.stack s H:=
 ⟨I.ok.frames,I.ok.mod,I.bs,cE I.ok.rG I.sz,I.stack,I.op,I.be,I.bare⟩
def aC.after {Q:VK} {u:Value} (I:aC X pins σ H s) (h:CE X.stack X.prog X.w H s Q u s'):EP X pins σ Q u s':=by
 obtain ⟨v,c,os,bare,un,be,r,q⟩:=h;obtain ⟨e,g,d,t,a⟩:=s';obtain rfl:a=s.os:=os;exact ⟨v,c,I.call un be bare (λb z=>absurd z (by simp)),r,q⟩
end
def PP (a:Sp) (lj:List V) (E:XK) (t:TA):TE:=λc H Q=>t c H λe g=>a (e++lj) g Q E
def ID (C:Addr) (m:Str) (g:Sp) (lj:List V) (E:XK) (h:TE) (t:TA):TE:=λc H Q=>h c H λx e=> ∃a dx fs,x= .ref a/\e a=some (.ins C dx fs)/\fs.lookup m=none/\
 t c e λi H2=>g (x::(i++lj)) H2 Q E
def PQ (C:Addr) (c:Sp) (lj:List V) (E:XK) (t:TA):TE:=λe H Q=>t e H λg a=> ∀x dx,a x=none->a dx=none->dx≠x->
 c (.ref x::(g++lj)) (aU (aU a dx (.ay x)) x (.ins C dx [])) (λv H2=>v= .a6/\Q (.ref x) H2) E
def Binds (K:aH) (c:oR) (ps:List Str) (ds:List Value):Prop:=
 ∀(s:aL) (a:List Value),K.In s.heap->(a++ds).length=ps.length->BindsTo s c ⟨a,[]⟩ (ps.zip (a++ds))
def Binds.all {K:aH} {c:oR} {ps:List Str} (h: ∀a:List Value,a.length=ps.length->bindArgs c ⟨a,[]⟩=pure (ps.zip a)):Binds K c ps []:=λs a _ hl=>by
 rw [oH] at hl ⊢;exact .of_eq (h a hl)
def yx (g:pO) (X:Cx) (E:XK):Prop:= ∀(a:List (Addr×Obj)) (h:St) (H:Hp) (s:aL) (e:Value) (c:aL),aC X a h H s->g X.stack H s E e c->X.xe e c
section
variable {X:Cx} {CX:pO} {k:Nat} {f C:Addr} {fd:oR} {ps:List Str} {sp:Sp} {lj:List V} {ds:List Value} {E:XK} {x m:Str} {p i apos:Pos} {e o:Expr} {es:List Expr} {ta:TE} {t:TA}
def ud {a:List (Addr×Obj)} {j:St} {H:Hp} {s:aL} {Q:VK} {c:List Value} {vs:List V} (F:dG X.prog X.w X.K X.mg X.af CX k f fd ps sp) (n:aT k X.A) (q:Binds X.K fd ps ds) (hd:aK lj ds) (v:yx CX X E)
  (I:aC X a j H s) (r:aK vs c) (h:sp (vs++lj) H Q E):wpAny (model X.prog X.w) X.A (call (.ref f) c) (EP X a j Q) X.xe s:=by
 have l:=r.append hd;have w:(c++ds).length=ps.length:=by rw [<-l.length];exact F.len _ _ _ _ h
 refine wpAny_call (Ao (F.run X.A X.stack s H ⟨c,[]⟩ (c++ds) (vs++lj) Q E n I.Bf (q s c I.ii w) l h) λr y g=>?_)
 cases r with
 |error e=>exact v a j H s e y I g
 |ok z=>
  cases z with
  |ret u=>exact I.after g
  |next=>exact oP g
  |brk=>exact oP g
  |cont=>exact oP g
def KM (F:dG X.prog X.w X.K X.mg X.af CX k f fd ps sp) (l:aT k X.A) (n:Gl X x) (u:X.mg x=some (.ref f)) (v:lU X.K (.ref f)=true) (w:Binds X.K fd ps ds) (hd:aK lj ds) (y:yx CX X E)
  (z:PA X (e::es) t) (c:Yi x:=by decide) (B:T9 X e es:=by rfl) (g:T8 X i es:=by rfl):
  PE X (.Call (.Name x p) (e::es) [] i) (PP sp lj E t):=by
 intro a s J H Q I h;refine CY (K7 I n u ?_ c);refine E3 I.ok.mod.AX v (bA (z i a s J H _ I h) λL N ⟨O,U,j,r,q⟩=>⟨j.ii,?_⟩) B g;exact ud F l w hd y j r q
def PR {L:Sem Bool} (N:PE X o ta) (c:gl X.K C) (w:Meth X.K C m f) (F:dG X.prog X.w X.K X.mg X.af CX k f fd ps sp) (O:aT k X.A) (U:Binds X.K fd ps ds) (hd:aK lj ds) (Y:yx CX X E) (Z:PA X (e::es) t)
  (j:T9 X e es:=by rfl) (n:T8 X i es:=by rfl)
  (ht:eval (.Call (.Attribute o m apos) (e::es) [] i) X.env=(do
   let y<-eval o X.env
   rK apos.atName
   let (f,first)<-nT [y] (getMethod y m L)
   callWith i f first (iW i (c0 (e::es) X.env)) (oS i (oT [] X.env))):=by rfl):
  PE X (.Call (.Attribute o m apos) (e::es) [] i) (ID C m sp lj E ta t):=by
 intro g s z H Q I h;refine PySem.W.methodCall_KW (bA (N g s z H _ I h) λu s1 v=>?_) ht;obtain ⟨x,H1,B,rx,a,dx,fs,ex,ea,l,q⟩:=v;subst ex;obtain rfl:u=dN a:=rx;refine WC B ea c w l ?_;refine E3 I.ok.mod.AX w.kp (bA (Z i g s1 z H1 _ B q) λus s2 ⟨vs,H2,J,r,q2⟩=>⟨J.ii,?_⟩) j n;exact ud (vs:= .ref a::vs) F O U hd Y J (.cons rfl r) q2
def PU {w:Sem Bool} (y:PE X o ta) (c:gl X.K C) (r:Meth X.K C m f) (F:dG X.prog X.w X.K X.mg X.af CX k f fd ps sp) (z:aT k X.A) (B:Binds X.K fd ps ds) (hd:aK lj ds) (J:yx CX X E)
  (L:eval (.Call (.Attribute o m apos) [] [] i) X.env=(do
   let v<-eval o X.env
   rK apos.atName
   let (f,first)<-nT [v] (getMethod v m w)
   callWith i f first (iW i (c0 [] X.env)) (oS i (oT [] X.env))):=by rfl):
  PE X (.Call (.Attribute o m apos) [] [] i) (ID C m sp lj E ta Be):=by
 intro g s N H Q I h;refine PySem.W.methodCall_KW (bA (y g s N H _ I h) λu Z j=>?_) L;obtain ⟨x,H1,n,O,a,dx,fs,U,Y,l,q⟩:=j;subst U;obtain rfl:u=dN a:=O;refine WC n Y c r l ?_;exact PySem.W.callWith_K0 n.ii r.kp (ud (vs:=[.ref a]) F z B hd J n (.cons rfl .nil) q)
structure Mk (K:aH) (C f:Addr):Prop where
 makes:sg K C=true
 init:ma K (.ref C) "__init__" =some (some (.ref f))
 fn:CV K (.ref f)=true
 kp:lU K (.ref C)=true
def PV {a:List (Addr×Obj)} {l:St} {H:Hp} {s:aL} {Q:VK} {g:List Value} {n:List V} (M:Mk X.K C f) (F:dG X.prog X.w X.K X.mg X.af CX k f fd ps sp) (y:aT (k+1) X.A) (z:Binds X.K fd ps ds) (hd:aK lj ds)
  (B:yx CX X E) (I:aC X a l H s) (r:aK n g)
  (h: ∀x dx,H x=none->H dx=none->dx≠x->sp (.ref x::(n++lj)) (aU (aU H dx (.ay x)) x (.ins C dx [])) (λv H2=>v= .a6/\Q (.ref x) H2) E):
  wpAny (model X.prog X.w) X.A (call (.ref C) g) (EP X a l Q) X.xe s:=by
 have q:=h (s.heap.objs.size+1) s.heap.objs.size (I.be.fresh (rN _)) (I.be.fresh (bn _)) (eB (CW _));have j:=aC.made (C:=C) I;have w:aK (V.ref (s.heap.objs.size+1)::(n++lj)) (dN (s.heap.objs.size+1)::(g++ds)):= .cons rfl (r.append hd)
 have J:(dN (s.heap.objs.size+1)::g++ds).length=ps.length:=by
  have e:=w.length;rw [F.len _ _ _ _ q] at e;exact e.symm
 refine wpAny_call (PF I.ii M.makes M.init (beq_iff_eq.mp M.fn) (Ao (F.run _ X.stack _ _ ⟨dN (s.heap.objs.size+1)::g,[]⟩ (dN (s.heap.objs.size+1)::(g++ds)) _ _ E (y.make C g [])
  (j.Bf.make C g []) (z _ (dN (s.heap.objs.size+1)::g) j.ii J) w q) λr L c=>?_))
 cases r with
 |error e=>exact B a l _ _ e L j c
 |ok N=>
  cases N with
  |ret u=>
   obtain ⟨v,O,U,Y,Z,q3⟩:=j.after c;subst Z;exact ⟨Y,⟨V.ref (s.heap.objs.size+1),O,U,rfl,q3⟩⟩
  |next=>exact oP c
  |brk=>exact oP c
  |cont=>exact oP c
def PX (M:Mk X.K C f) (F:dG X.prog X.w X.K X.mg X.af CX k f fd ps sp) (l:aT (k+1) X.A) (n:Gl X x) (u:X.mg x=some (.ref C)) (v:Binds X.K fd ps ds) (hd:aK lj ds) (w:yx CX X E)
  (y:PA X (e::es) t) (c:Yi x:=by decide) (z:T9 X e es:=by rfl) (g:T8 X i es:=by rfl):
  PE X (.Call (.Name x p) (e::es) [] i) (PQ C sp lj E t):=by
 intro a s B H Q I h;refine CY (K7 I n u ?_ c);refine E3 I.ok.mod.AX M.kp (bA (y i a s B H _ I h) λJ L ⟨N,O,j,r,q⟩=>⟨j.ii,?_⟩) z g;exact PV M F l v hd w j r q
end
structure au (N P:List Str) (sc:Scope):Prop where
 kind:sc.kind= .function
 co:sc.isCoroutine=false
 gen:sc.isGenerator=false
 nd:N.Nodup
 pre:N.take P.length=P
 par: ∀x∈P,sc.names.lookup x=some .local\/sc.names.lookup x=some .cell
 vl: ∀y∈sc.names,y.2≠ .free
theorem Kj {kindOf:Str->Option NameKind} {x:Str}: ∀ {binds:List (Str×Value)} {m:WV},(∀v,(x,v)∉binds)->bindL kindOf binds m x=m x
 | [],_,_=>rfl
 | (n,v)::r,m,h=>by
  unfold bindL;rw [Kj λw hw=>h w (de _ hw)]
  split
  . have:x≠n:=by rintro rfl;exact h v cu
    simp [this]
  . rfl
theorem Kl {kindOf:Str->Option NameKind} {x:Str}: ∀ {binds:List (Str×Value)} {m:WV},(∀v,(x,v)∉binds)->bindC kindOf binds m x=m x
 | [],_,_=>rfl
 | (n,v)::r,m,h=>by
  unfold bindC;rw [Kl λw hw=>h w (de _ hw)]
  split
  . rfl
  . have:x≠n:=by rintro rfl;exact h v cu
    simp [this]
theorem Kk {kindOf:Str->Option NameKind} {x:Str} {v:Value}: ∀ {P:List Str} {a:List Value} {i:Nat} {m:WV},P.Nodup->P[i]?=some x->a[i]?=some v->kindOf x=some .local->
  bindL kindOf (P.zip a) m x=some v
 | [],_,_,_,_,h,_,_=>by simp at h
 |_::_,[],_,_,_,_,h,_=>by simp at h
 |p::P,w::a,0,m,g,c,e,j=>by
  simp at c e;subst c;subst e;show bindL kindOf ((p,w)::P.zip a) m p=_;unfold bindL;rw [Kj λv l=>(py.mp g).1 (List.of_mem_zip l).1,if_pos j];simp
 |p::P,w::a,i+1,m,g,c,e,j=>by
  unfold bindL;exact Kk (py.mp g).2 (by simpa using c) (by simpa using e) j
theorem Km {kindOf:Str->Option NameKind} {x:Str} {v:Value}: ∀ {P:List Str} {a:List Value} {i:Nat} {m:WV},P.Nodup->P[i]?=some x->a[i]?=some v->kindOf x≠some .local->
  bindC kindOf (P.zip a) m x=some v
 | [],_,_,_,_,h,_,_=>by simp at h
 |_::_,[],_,_,_,_,h,_=>by simp at h
 |p::P,w::a,0,m,g,c,e,j=>by
  simp at c e;subst c;subst e;show bindC kindOf ((p,w)::P.zip a) m p=_;unfold bindC;rw [Kl λv l=>(py.mp g).1 (List.of_mem_zip l).1,if_neg j];simp
 |p::P,w::a,i+1,m,g,c,e,j=>by
  unfold bindC;exact Km (py.mp g).2 (by simpa using c) (by simpa using e) j
def start (N:List Str) (a:List V):St:=a.map some++io (N.length-a.length) none
def gH (i:pO) (P:cp) (w:World) (K:aH) (mg:WV) (af:Heap) (N:List Str) (c:Str) (a:Scope) (f:Addr) (h:Value) (A:cC) (outer:List Env) (s:aL) (H:Hp) (E:XK):Cx where
 prog:=P
 w:=w
 K:=K
 mg:=mg
 af:=af
 A:=A.deeper (mJ c a s.heap.objs.size f h)
 N:=N
 fL:=s
 pJ:=H
 env:=mJ c a s.heap.objs.size f h
 outer:=outer
 stack:=mJ c a s.heap.objs.size f h::outer
 ex:=[]
 cR:=true
 fn:=λ_=>true
 pn:=[]
 xe:=λe j=>wpAny (model P w) (A.deeper (mJ c a s.heap.objs.size f h)) (leaving (mJ c a s.heap.objs.size f h) e) (λ_ g=>i outer H s E e g) (λl g=>i outer H s E l g) j
def UQ {a:Scope} {n:Nat} {x:Str} (h:a.names.lookup x=some .cell): ∃c,(cellsFrom n a.names []).lookup x=some c:=by
 exact CZ.mp (PySem.W.cellsFrom_some a.names n [] (.inl h))
def PY {Y:pO} {P:cp} {w:World} {K:aH} {Q:WV} {n:Heap} {N ps:List Str} {l:Str} {g:Scope} {f:Addr} {J:Value} {A:cC} {j:List Env} {s Z:aL} {H:Hp} {E:XK} {U:List Value} {o:List V}
   (S:au N ps g) (hd:A.handled=none) (e0:oQ P w K Q n A j s H) (hl:o.length=ps.length) (r:aK o U)
   (x:InCallC s s.heap.objs.size (bindL (mJ l g s.heap.objs.size f J).kindOf (ps.zip U) λ_=>none) (cellsFrom (s.heap.objs.size+1) g.names []) (bindC (mJ l g s.heap.objs.size f J).kindOf (ps.zip U) λ_=>none) Z):
   aC (gH Y P w K Q n N l g f J A j s H E) [] (start N o) H Z:=by
 have IE:ps.length<=N.length:=by have:=congrArg List.length S.pre;rw [Ap] at this;omega
 obtain ⟨L,tk,rfl,hk⟩:=x.done;have jO: ∀b:Addr,b∉(gH Y P w K Q n N l g f J A j s H E).ex:=λb z=>absurd (show b∈([]:List Addr) from z) (by simp)
 refine ⟨⟨e0.mod,S.kind,rfl,rfl,bn _,λy z c L m=>?_,λy hy=>?_,λy c _ h=>?_,λ_=>hd,Around.frames_deeper e0.frames,.inr ⟨rfl,rfl⟩,λb z=>absurd z (jO b),e0.bs,e0.rG,λb _ _=>jO b,λb z=>absurd z (jO b),e0.ig,e0.sO⟩,
   rfl,e0.bare,Un.kept hk,⟨_,x.toInCall.ns,λi y v L m h3=>?_⟩,λy c h=>⟨_,x.cell y c h⟩,e0.be.fresh (bn _),λy c h=>?_,λp B=>absurd (show p∈([]:List (Addr×Obj)) from B) (by simp),e0.be.kept hk,?_⟩
 . exact name_of_addr x.apart (vq L) (vq m)
 . have hy:=hy;rcases hy with hy|hy
   . exact UQ hy
   . exact absurd rfl (S.vl _ (vq hy))
 . exact A0 (x.above y c (vq h))
 . have O:i<o.length:=by
     unfold start at m
     by_cases O:i<o.length
     . exact O
     . rw [mK (by simpa using O)] at m;rw [sS] at m
       split at m<;>cases m
   have ha:o[i]?=some v:=by
     unfold start at m;rw [md (by simpa using O),iE] at m
     cases e:o[i]? with
     |none=>rw [e] at m;cases m
     |some a=>rw [e] at m;cases m;rfl
   obtain ⟨u,hu,rv⟩:=r.get ha
   have B:ps[i]?=some y:=by
     rw [<-S.pre,List.getElem?_take_of_lt (by omega)];exact L
   have I:ps.Nodup:=by rw [<-S.pre];exact S.nd.sublist (E4 _ _)
   refine ⟨u,rv,?_⟩;rcases S.par y (pz B) with k|k
   . exact .inl ⟨k,Kk I B hu k⟩
   . obtain ⟨c,e⟩:=UQ k;refine .inr ⟨.inl k,c,e,?_⟩;have q:=x.cell y c e;rw [Km I B hu (by show g.names.lookup y≠_;rw [k];decide)] at q;exact q
 . exact e0.be.fresh (A0 (x.above y c (vq h)))
 . unfold start;show _=N.length;rw [gm,bM,Bg];omega
def PZ {CX:pO} {P:cp} {w:World} {K:aH} {mg:WV} {i:Heap} {k:Nat} {f:Addr} {name g:Str} {j:Arguments} {l:List Stmt} {a:Scope} {dV kV U pm h ct oc:Value} {an od:Option Addr}
  {E5:Array (Option Value)} {N ps:List Str} {sp:Sp} (lk:K.lookup f=some ⟨oc,od,.func (rO name g j l a dV kV U pm an h ct),E5⟩) (sT:Aq K h g=true) (S:au N ps a)
  (len: ∀m H Q E,sp m H Q E->m.length=ps.length)
  (B: ∀(A:cC) (c:List Env) (s:aL) (H:Hp) (m:List V) (Q:VK) (E:XK),aT k (A.deeper (mJ g a s.heap.objs.size f h))->sp m H Q E->
    ∃t,gS (gH CX P w K mg i N g a f h A c s H E) l t/\t {nx:=λ_ z=>Q .a6 z,rt:=Q} (start N m) H):
  dG P w K mg i CX (k+1) f (rO name g j l a dV kV U pm an h ct) ps sp:=by
 refine ⟨len,λA c s H args us m Q E hr e0 hb r Y=>?_⟩;have KX:=e0.mod.AX.keeps λb o e=>(e0.bs b o e).1
 have L: ∀y∈ps.zip us,a.names.lookup y.1=some .local\/(a.names.lookup y.1=some .cell/\((cellsFrom (s.heap.objs.size+1) a.names []).lookup y.1).isSome=true):=λ⟨n,v⟩ hy=>by
  rcases S.par n (List.of_mem_zip hy).1 with q|q
  . exact .inl q
  . exact .inr ⟨q,PySem.W.cellsFrom_some _ _ _ (.inl q)⟩
 refine codeAny_call_function hr.depth (KX _ _ lk) rfl S.co S.gen rfl (PySem.W.codeRec_of KX sT) (hb _ _ _ _ ?_);refine wpAny_newFunctionEnv_cells S.kind L λenv he s1 x=>?_
 subst he;refine ⟨(e0.mod.nolimit.keeps λb o e=>(e0.bs b o e).1).keeps x.toInCall.keep,codeAny_func ?_⟩;obtain ⟨t,ht,hq⟩:=B A c s H m Q E (hr.deeper _) Y;have I:aC (gH CX P w K mg i N g a f h A c s H E) [] (start N m) H s1:=PY S hr.hd e0 (len _ _ _ _ Y) r x;refine nQ (ht [] s1 (start N m) H _ I hq) (λfl s' O=>?_) λe s' O=>O
 have Z: ∀ {p:St} {z:Hp} {v:V} {u:Value},aC (gH CX P w K mg i N g a f h A c s H E) [] p z s'->aG v u->Q v z->CE c P w H s Q u s':=
  λ{p z v u} J rv q=>⟨v,z,J.os,J.bare,J.af,J.be,rv,q⟩
 cases fl with
 |ret u=>
  obtain ⟨v,p,z,J,rv,q⟩:=O;exact Z J rv q
 |next=>
  obtain ⟨p,z,J,q⟩:=O;exact Z (v:=V.a6) J rfl q
 |brk=>
  obtain ⟨_,_,_,q⟩:=O;exact oP q
 |cont=>
  obtain ⟨_,_,_,q⟩:=O;exact oP q
section
variable {X:Cx} {x:Str} {p pos:Pos} {e:Expr} {es:List Expr} {t:TA} {id T:String} {r:List V->Hp->VK->Prop}
def Bh (r:List V->Hp->VK->Prop) (t:TA):TE:=λa H Q=>t a H λc g=>r c g Q
def yj (j:bt X (.builtin id) r) (l:Gl X x) (m:X.mg x=none) (n:mV x=some (.builtin id)) (o:PA X (e::es) t) (q:x≠ "__name__" :=by decide) (c:Yi x:=by decide)
  (u:T9 X e es:=by rfl) (g:T8 X pos es:=by rfl):PE X (.Call (.Name x p) (e::es) [] pos) (Bh r t):=by
 intro a s i H Q I h;refine CY (Wx I l m n ?_ q c);exact PyProof.Rows.callWith_builtin1 (bA (o pos a s i H _ I h) λv w ⟨y,z,B,E,J⟩=>j a w i z y v Q B E J) u g
def x4 (j:bt X (.type T) r) (l:Gl X x) (m:X.mg x=none) (n:mV x=some (.type T)) (o:PA X (e::es) t) (q:x≠ "__name__" :=by decide) (c:Yi x:=by decide)
  (u:T9 X e es:=by rfl) (g:T8 X pos es:=by rfl):PE X (.Call (.Name x p) (e::es) [] pos) (Bh r t):=by
 intro a s i H Q I h;refine CY (Wx I l m n ?_ q c);exact CO (bA (o pos a s i H _ I h) λv w ⟨y,z,B,E,J⟩=>j a w i z y v Q B E J) u g
end
end L2
namespace HT
open PySem PyProof.Rows
section
variable {prog:cp} {w:World} {A:cC} {E:U9} {s:aL}
def sk {t b:Addr} {g a:List Value} {Q:U9} (v:IsTup s.heap t g.toArray) (x:IsTup s.heap b a.toArray) (p:g≠[])
   (y:a=[]->Q (.ref t) s) (z:a≠[]->Q (.ref s.heap.objs.size) {s with heap:=s.heap.push {cls:= .type "tuple",data:= .seq (g++a).toArray}})
   (l:g.length+a.length<=aS):wpAny (model prog w) A (ly .Add (.ref t) (.ref b)) Q E s:=by
 obtain ⟨⟨cls,dd,data,q⟩,j,B,n,hd⟩:=id v;obtain ⟨⟨r,h,data2,i⟩,c,m,u,o⟩:=id x;subst B hd m o;have e:g.toArray++a.toArray=(g++a).toArray:=by simp
 by_cases hw:a=[]
 . exact concat_meets ⟨_,j,rfl⟩ ⟨_,c,rfl⟩ noFill_tuple_add seq_tuple_add PySem.F.slot_tuple_add PySem.F.entry_tuple_add (PySem.F.args_tuple_add_2 _ _)
    (tuple_addW1 t b g.toArray a.toArray n u dd h q i (by simpa using p) (by simp [hw])) ⟨j,c,y hw⟩
 . refine concat_meets ⟨_,j,rfl⟩ ⟨_,c,rfl⟩ noFill_tuple_add seq_tuple_add PySem.F.slot_tuple_add PySem.F.entry_tuple_add (PySem.F.args_tuple_add_2 _ _)
    (tuple_addW2 t b g.toArray a.toArray n u dd h q i (by simpa using p) (by simpa using hw) (by rw [dj,dj];exact l)) ⟨j,c,?_⟩
   rw [e];exact z hw
noncomputable def cv (n d:Nat):Option Int->Nat
 |none=>d
 |some v=>if v<0 then (v+(n:Int)).toNat else min v.toNat n
def jQ (n d:Nat):cv n d none=d:=rfl
def gV (n d k:Nat):cv n d (some (k:Int))=min k n:=by
 show (if k<0 then (k+(n:Int)).toNat else min (k:Int).toNat n)=min k n;rw [if_neg (by omega),sU]
def jjR (n d:Nat) (hd:d<=n) (o:Option Int):cv n d o<=n:=by
 cases o with
 |none=>exact hd
 |some v=>
  show (if v<0 then (v+n).toNat else min v.toNat n)<=n
  by_cases a:v<0
  . rw [if_pos a];omega
  . rw [if_neg a];exact Nat.min_le_right _ _
def IF (v:Int) (n d:Nat):(if v<0 then max (v+(n:Int)) 0 else min v (n:Int))=((cv n d (some v):Nat):Int):=by
 show (if v<0 then max (v+n) 0 else min v n)=(((if v<0 then (v+n).toNat else min v.toNat n):Nat):Int)
 by_cases a:v<0
 . simp only [if_pos a];omega
 . simp only [if_neg a];omega
def vo (lo a:Option Int) (n:Nat):IG lo a 1 (n:Int)=(((cv n 0 lo:Nat):Int),((cv n n a:Nat):Int)):=by
 refine sV ?_ ?_
 . cases lo with
   |none=>rfl
   |some v=>exact IF v n 0
 . cases a with
   |none=>rfl
   |some v=>exact IF v n n
def ko (i j:Nat):C0 (i:Int) (j:Int) 1=j-i:=by
 unfold C0
 split<;>omega
def Wl {v:Value} {o:Option Int} {Q:Option Int->aL->Prop} (p:IsPart v o) (h:Q o s):wpAny (model prog w) A (Builtin.Slice.slicePartIndex v) Q E s:=by
 cases p with
 |none=>exact slicePart_none h
 |int i t=>exact slicePart_int h
def fb {g:Addr} {i j:Value} {lo a:Option Int} {n:Nat} {Q:Int×Int×Nat->aL->Prop} (l:s.heap.IsSliceOf g i j .none) (m:IsPart i lo) (o:IsPart j a)
  (h:Q (((cv n 0 lo:Nat):Int),1,cv n n a-cv n 0 lo) s):wpAny (model prog w) A (Builtin.Slice.sliceApplied (.ref g) (pure (n:Int))) Q E s:=by
 obtain ⟨os,c,p,e⟩:=id l;refine ax (ax (vr c e rfl (ax (vr c e rfl (ax (vr c e rfl (aV ?_)))))));refine ax (slicePart_none ?_);refine ax (Wl m (ax (Wl o (ax (aV ?_)))));show wpAny _ _ (match IG lo a 1 n with| (lo,a)=>pure (lo,(1:Int),C0 lo a 1)) _ _ s;rw [vo lo a n];show wpAny _ _ (pure (((cv n 0 lo):Int),(1),C0 ((cv n 0 lo):Int) ((cv n n a):Int) 1)) _ _ s;rw [ko];exact aV h
def P0 (a:Array Value) (i k:Nat):((fF k).filterMap λ(m:Nat)=>a[((i:Int)+(m:Int)*1).toNat]?).toArray=((a.toList.drop i).take k).toArray:=by
 have e:(λ(m:Nat)=>a[(i+(m:Int)*1).toNat]?)=λm=>a[i+m]?:=by
  funext m;have:(i+(m:Int)*1).toNat=i+m:=by omega
  rw [this]
 rw [e];have:=pick_run a i k;rw [List.filterMap_map] at this;have e2:((λx=>a[x]?) ∘ λx=>i+x)=λm=>a[i+m]?:=rfl
 rw [e2] at this;rw [this]
def gW {t m:Addr} {a:Array Value} {n o:Value} {lo e:Option Int} {Q:U9} (g:IsTup s.heap t a) (p:s.heap.IsSliceOf m n o .none) (r:IsPart n lo) (u:IsPart o e)
  (hw: ¬(cv a.size 0 lo=0/\cv a.size a.size e=a.size))
  (h:Q (.ref s.heap.objs.size) {s with heap:=s.heap.push {cls:= .type "tuple",data:= .seq ((a.toList.drop (cv a.size 0 lo)).take (cv a.size a.size e-cv a.size 0 lo)).toArray}})
  (v:a.size<=aS):wpAny (model prog w) A (pP (.ref t) (.ref m)) Q E s:=by
 have c:sizeOk (.seq ((a.toList.drop (cv a.size 0 lo)).take (cv a.size a.size e-cv a.size 0 lo)).toArray):=by
  show ((a.toList.drop (cv a.size 0 lo)).take (cv a.size a.size e-cv a.size 0 lo)).toArray.size<=aS;rw [dj,Ap,Ar,jE];omega
 obtain ⟨os,i,j,x⟩:=id p;unfold pP
 try with_reducible refine mI ?_
 first|refine ax (aV ?_)|skip
 refine ax (wpAny_sequenceKey g.typeIs (by decide) ?_)
 refine ax (vt g.typeIs vu
  (so vu g.typeIs entry_tuple_getitem ?_ (args_tuple_getitem _ _)))
 show wpAny _ _ (IH (.ref t)>>=_) _ _ s;refine ax (tupleItemsOf_ g ?_);refine ax (As (⟨os,i,j⟩) ?_);refine ax (fb p r u ?_)
 have l: ¬((((cv a.size 0 lo):Int)==0&&(1:Int)==1&&(cv a.size a.size e-cv a.size 0 lo)==a.size)=true):=by
  intro q;rw [gF,gF] at q;have y:=eq_of_beq q.1.1;have z:=eq_of_beq q.2;exact hw ⟨by omega,by omega⟩
 show wpAny _ _ (if (((cv a.size 0 lo):Int)==0&&(1)==1&&(cv a.size a.size e-cv a.size 0 lo)==a.size)=true then _ else _) _ _ s;rw [if_neg l,P0]
 first
  |exact ax (pL (aV ⟨_,rfl,aV h⟩) c)
  |exact ax (pL (ax (aV (aV ⟨_,rfl,aV h⟩))) c)
  |exact ax (ax (pL (aV (aV ⟨_,rfl,aV h⟩)) c))
  |exact ax (ax (pL (aV ⟨_,rfl,aV h⟩) c))
end
end HT
namespace L2
open PySem PySem.Spec PyProof.Rows
abbrev TO:=St->Hp->(Option Int->Hp->Prop)->Prop
def PO (X:Cx) (e:Option Expr) (t:TO):Prop:=
 ∀(a:List (Addr×Obj)) (s:aL) (c:St) (H:Hp) (Q:Option Int->Hp->Prop),aC X a c H s->t c H Q->
  wpAny (model X.prog X.w) X.A (evalPart e X.env) (λu h=> ∃o g,aC X a c g h/\IsPart u o/\Q o g) X.xe s
def P1:TO:=λ_ H Q=>Q none H
def P2 (t:TE):TO:=λa H Q=>t a H λx c=> ∃i,x= .int i/\Q (some i) c
section
variable {X:Cx} {e:Expr} {n:TE} {lo B:Option Expr} {tl m:TO} {j g:Pos}
def P4:PO X none P1:=by
 intro a s c H Q I h;exact aV ⟨none,H,I,.none,h⟩
def P5 (h:PE X e n):PO X (some e) (P2 n):=by
 intro a s l H Q I hw;refine bA (h a s l H _ I hw) λu w c=>?_;obtain ⟨x,o,p,r,v⟩:=c
 obtain ⟨i,rfl,q⟩:=v;obtain ⟨t,rfl⟩:=r;exact ⟨some i,o,p,.int i t,q⟩
def sq (X:Cx) (r:V->Option Int->Option Int->Hp->VK->Prop):Prop:=
 ∀(a:List (Addr×Obj)) (s:aL) (c:St) (H:Hp) (x:V) (v h i:Value) (lo B:Option Int) (l:Addr) (Q:VK),aC X a c H s->aG x v->s.heap.IsSliceOf l h i .none->IsPart h lo->IsPart i B->r x lo B H Q->
  ∃T id,typeLookup (.type T) "__getitem__" =pure (some (.builtin id))/\s.TypeIs v T/\wpAny (model X.prog X.w) X.A (pP v (.ref l)) (EP X a c Q) X.xe s
def sq.or {r c:V->Option Int->Option Int->Hp->VK->Prop} (h:sq X r) (E:sq X c):sq X (λx lo B H Q=>r x lo B H Q\/c x lo B H Q):=by
 intro a s i H x v l o lo B p Q I u w y z q;rcases q with q|q
 . exact h a s i H x v l o lo B p Q I u w y z q
 . exact E a s i H x v l o lo B p Q I u w y z q
def P6 (r:V->Option Int->Option Int->Hp->VK->Prop) (n:TE) (tl m:TO):TE:=λa H Q=>n a H λx c=>tl a c λl H2=>m a H2 λu h=>r x l u h Q
def W7 {r:V->Option Int->Option Int->Hp->VK->Prop} (z:sq X r) (E:PE X e n) (J:PO X lo tl) (L:PO X B m):PE X (.Subscript e (.Slice lo B none g) j) (P6 r n tl m):=by
 intro a s i H Q I h;refine Subscript_ (bA (E a s i H _ I h) λv N c=>?_);obtain ⟨x,O,U,Y,Z⟩:=c;refine wpAny_Slice (bA (J a N i O _ U Z) λp s2 ⟨l,H2,I2,pl,q2⟩=>bA (L a s2 i H2 _ I2 q2) λw o c=>?_);obtain ⟨u,y,I3,pu,q3⟩:=c;refine aV ?_;have I4:aC X a i y {o with heap:=o.heap.push {cls:= .type "slice",data:= .fields #[p,w,.none]}}:=I3.kept λb ob q=>cT _ q
 obtain ⟨T,id,hT,ht,hg⟩:=z a {o with heap:=o.heap.push {cls:= .type "slice",data:= .fields #[p,w,.none]}} i y x v p w l u o.heap.objs.size Q I4 Y (Heap.IsSliceOf.new ..) pl pu q3;exact tail_any ht hT hg (by with_unfolding_all rfl)
def oU (a:List V) (lo B:Option Int):List V:=(a.drop (HT.cv a.length 0 lo)).take (HT.cv a.length a.length B-HT.cv a.length 0 lo)
def ZR (a:List V) (lo B:Option Int):(oU a lo B).length<=a.length:=by
 unfold oU;rw [Ap,Ar];omega
def Bi (K:aH):V->Option Int->Option Int->Hp->VK->Prop:=λx lo B H Q=> ∃a c,x= .ref a/\iX K H a c/\
 ¬(HT.cv c.length 0 lo=0/\HT.cv c.length c.length B=c.length)/\ ∀p,H p=none->Q (.ref p) (aU H p (.am (oU c lo B)))
def pQ:sq X (Bi X.K):=by
 intro o s L H x v N O lo B U Q I w y z E h;obtain ⟨a,i,rfl,J,hw,q⟩:=h;cases w;obtain ⟨l,r,p,u⟩:=I.tuple J;have c:l.toArray.size=i.length:=by rw [dj];exact r.length.symm
 refine ⟨"tuple",_,vu.lookup,p.typeIs,?_⟩;refine HT.gW p y z E (by rw [c];exact hw) ?_ (by rw [c];exact u);rw [c];refine ⟨.ref s.heap.objs.size,_,I.laid (λb ob q=>cT _ q) (bn _) ?_,rfl,q _ (I.be.fresh (bn _))⟩;exact ⟨cE (ZR i lo B) u,_,(r.drop (HT.cv i.length 0 lo)).take (HT.cv i.length i.length B-HT.cv i.length 0 lo),IsTup.new _ _⟩
def E6 (K:aH):R2:=λx y H Q=> ∃a b h c,x= .ref a/\y= .ref b/\iX K H a h/\iX K H b c/\h≠[]/\h.length+c.length<=aS/\
 (c=[]->Q (.ref a) H)/\(c≠[]-> ∀p,H p=none->Q (.ref p) (aU H p (.am (h++c))))
def aK.me {a:List V} {c:List Value} (r:aK a c):c=[]↔a=[]:=by
 cases r with
 |nil=>simp
 |cons _ _=>simp
def P7:dB X (ly .Add) (E6 X.K):=by
 intro l s σ H x y v u Q I r E h;obtain ⟨a,b,xs,ys,rfl,rfl,J,L,N,o,O,U⟩:=h;cases r;cases E;obtain ⟨Y,i,Z,_⟩:=I.tuple J;obtain ⟨p,c,g,_⟩:=I.tuple L;refine HT.sk Z g (λz=>N (i.me.mp z)) (λz=>⟨.ref a,H,I,rfl,O (c.me.mp z)⟩) (λz=>?_) (by rw [<-i.length,<-c.length];exact o);refine ⟨.ref s.heap.objs.size,_,I.laid (λb ob q=>cT _ q) (bn _) ?_,rfl,U (λw=>z (c.me.mpr w)) _ (I.be.fresh (bn _))⟩;exact ⟨by rw [gm];exact o,_,i.append c,IsTup.new _ _⟩
end
noncomputable def pR (n:Nat) (i:Int):Option Nat:=if 0<=i then (if i<n then some i.toNat else none) else if-(n:Int)<=i then some (i+n).toNat else none
def mf {a:Type} (c:List a) (i:Int):Option a:=(pR c.length i).bind λj=>c[j]?
def II {n:Nat} {i:Int} {j:Nat} (h:pR n i=some j):seqIndex? i n=some j/\j<n/\ -(n:Int)<=i/\i<n:=by
 unfold pR at h
 by_cases c:0<=i
 . rw [if_pos c] at h
   by_cases a:i<n
   . rw [if_pos a] at h;have e:=gG h;exact ⟨by rw [seqIndex_of c a,e],by omega,by omega,a⟩
   . rw [if_neg a] at h;cases h
 . rw [if_neg c] at h
   by_cases a: -(n)<=i
   . rw [if_pos a] at h;have e:=gG h;exact ⟨by rw [seqIndex_neg (by omega) a,e],by omega,a,by omega⟩
   . rw [if_neg a] at h;cases h
def Vv {c:Type} {a:List c} {i:Int} {v:c} (h:mf a i=some v): ∃j,seqIndex? i a.length=some j/\a[j]?=some v/\j<a.length/\ -(a.length:Int)<=i/\i<a.length:=by
 unfold mf at h
 cases e:pR a.length i with
 |none=>rw [e] at h;cases h
 |some j=>
  rw [e] at h;obtain ⟨g,l,m,n⟩:=II e;exact ⟨j,g,h,l,m,n⟩
def dk {a:Type} {xs:List a} {j:Nat} {v:a} (h:xs[j]?=some v):mf xs (j:Int)=some v:=by
 have c:j<xs.length:=(mX.mp h).1
 have e:pR xs.length (j:Int)=some j:=by
  unfold pR;rw [if_pos (by omega),if_pos (by omega)];simp
 unfold mf;rw [e];exact h
def XY (b:Expr):Prop:= ∀o i,subscripted b false o i=operate [o,i] (pP o i)
def rP (X:Cx) (r:R2):Prop:=
 ∀(value a:Expr) (c:List (Addr×Obj)) (s:aL) (e:St) (H:Hp) (x y:V) (v u:Value) (Q:VK),aC X c e H s->aG x v->aG y u->r x y H Q->
  subscripted a false v u=operate [v,u] (pP v u)->wpAny (model X.prog X.w) X.A (subscriptTail value a v u) (EP X c e Q) X.xe s
def rQ (X:Cx) (id:String) (r:V->List V->Hp->VK->Prop):Prop:=
 ∀(a:List (Addr×Obj)) (s:aL) (c:St) (H:Hp) (x:V) (e:List V) (v:Value) (g:List Value) (Q:VK),aC X a c H s->aG x v->aK e g->r x e H Q->
  wpAny (model X.prog X.w) X.A (call (.builtin id) (v::g)) (EP X a c Q) X.xe s
section
variable {X:Cx} {a b:Expr} {L J:TE} {N:Pos}
def rP.or {r g:R2} (h:rP X r) (n:rP X g):rP X (λx y H Q=>r x y H Q\/g x y H Q):=by
 intro value c e s i H x y v u Q I j l q m;rcases q with q|q
 . exact h value c e s i H x y v u Q I j l q m
 . exact n value c e s i H x y v u Q I j l q m
def rQ.or {id:String} {r g:V->List V->Hp->VK->Prop} (h:rQ X id r) (n:rQ X id g):rQ X id (λx e H Q=>r x e H Q\/g x e H Q):=by
 intro c s i H x e v j Q I l m q;rcases q with q|q
 . exact h c s i H x e v j Q I l m q
 . exact n c s i H x e v j Q I l m q
def E7 {r:R2} (e:rP X r) (g:PE X a L) (i:PE X b J) (j:XY b):PE X (.Subscript a b N) (u1 r L J):=by
 intro c s l H Q I h;exact Subscript_ (u3 g i I h λv u m x y H2 n o p q=>e a b c m l H2 x y v u Q n o p q (j _ _))
def Bj (K:aH):R2:=λx y H Q=> ∃p c i v,x= .ref p/\y= .int i/\fV K H p c/\mf c i=some v/\Q v H
def Bk (K:aH):R2:=λx y H Q=> ∃p c i v,x= .ref p/\y= .int i/\iX K H p c/\mf c i=some v/\Q v H
def Bl:R2:=λx y H Q=> ∃z i c,x= .str z/\y= .int i/\z.length<=aS/\mf z.cps.toList i=some c/\Q (.str ⟨#[c]⟩) H
def sr:rP X (Bj X.K):=by
 intro value l c s Y H x y v u Q I Z ry h E;obtain ⟨p,xs,i,z,rfl,rfl,hq,he,q⟩:=h;cases Z;obtain ⟨t,rfl⟩:=ry;obtain ⟨m,r,n,hz⟩:=I.list hq;obtain ⟨j,g,h2,h3,h4,h5⟩:=Vv he;obtain ⟨w,O,o⟩:=r.get h2;have hl:=r.length;have hn:=Wv;have e:EP X c Y Q w s:=⟨z,H,I,o,q⟩
 by_cases U:0<=i
 . have B:i.toNat=j:=by
    rw [seqIndex_of U h5] at g;exact gG g
   exact item_listR n.isList U (by omega) (by rw [B];simpa using O) e E
 . have B:(i+(m.toArray.size)).toNat=j:=by
    rw [seqIndex_neg (by omega) h4] at g;rw [dj,<-hl];exact gG g
   exact subscriptTail_builtinR n.isList.typeIs slot_list_getitem.lookup
    (wpAny_getItem_list_neg n.isList (by omega) (by rw [dj]<;>omega) (by omega) (by rw [B];simpa using O) ⟨rfl,e⟩) E
def vv:rP X (Bk X.K):=by
 intro value e c s n H x y v u Q I o B h E;obtain ⟨p,xs,i,z,rfl,rfl,O,U,q⟩:=h;cases o;obtain ⟨t,rfl⟩:=B;obtain ⟨Y,r,m,hz⟩:=I.tuple O;obtain ⟨j,Z,h2,h3,h4,h5⟩:=Vv U;obtain ⟨w,ew,g⟩:=r.get h2;have hl:=r.length;have hn:=Wv;have l:EP X c n Q w s:=⟨z,H,I,g,q⟩
 exact subscriptTail_builtinR m.typeIs vu.lookup
  (getItem_tuple m (by omega) (by omega) (by rw [dj,<-hl];exact Z) (by simpa using ew) ⟨rfl,l⟩) E
def P8:rP X Bl:=by
 intro value e g s O H x y v u Q I m n h o;obtain ⟨z,i,c,rfl,rfl,U,p,q⟩:=h;obtain ⟨t,rfl⟩:=m;obtain ⟨Y,rfl⟩:=n;obtain ⟨j,l,r,Z,w,B⟩:=Vv p;have E:z.cps.toList.length=z.length:=by simp [Str.length]
 rw [E] at l w B;have hn:=Wv
 exact tail_any (typeIs_str s z t) slot_str_getitem.lookup (getItem_str (by
  have e1:decide (i< -(2^63))=false:=decide_eq_false (by omega);have e2:decide (i>=2^63)=false:=decide_eq_false (by omega)
  rw [e1,e2,Bool.or_false]) (by rw [l];simpa using r) ⟨.str ⟨#[c]⟩,H,I.tok _,⟨_,rfl⟩,q⟩) o
def IJ (K:aH):R2:=λx y H Q=>Bj K x y H Q\/Bk K x y H Q\/Bl x y H Q
def IK:rP X (IJ X.K):=sr.or (vv.or P8)
def kJ (c:List Value) (n j:Nat) (u:Value):pS (·.setIfInBounds j u) {cls:= .type "list",data:= .seq c.toArray n}={cls:= .type "list",data:= .seq (c.set j u).toArray n}:=by
 simp [pS]
def aC.ai {g:List (Addr×Obj)} {j:St} {H:Hp} {s:aL} {p:Addr} {i:List V} (I:aC X g j H s) (h:H p=some (.ai i)):
  ∃(c:List Value) (n:Nat),aK i c/\s.heap.get? p=some {cls:= .type "list",data:= .seq c.toArray n}/\i.length<=aS:=by
 obtain ⟨z,c,n,r,e⟩:=I.be p _ h;exact ⟨c,n,r,e,z⟩
def aC.vw {g:List (Addr×Obj)} {m:St} {H:Hp} {s:aL} {p:Addr} {v j:List V} {i c:List Value} {n l:Nat} {f:Obj->Obj} (I:aC X g m H s) (h:H p=some (.ai v))
  (w:s.heap.get? p=some {cls:= .type "list",data:= .seq i.toArray n}) (o:f {cls:= .type "list",data:= .seq i.toArray n}={cls:= .type "list",data:= .seq c.toArray l}) (r:aK j c) (y:j.length<=aS) (t:Nat):
  aC X g m (aU H p (.ai j)) {s with heap:=s.heap.update p f,toks:=t}:=by
 have e:(s.heap.update p f).get? p=some {cls:= .type "list",data:= .seq c.toArray l}:=by
  rw [C1 f w (by rw [o]<;>rfl),o]
 refine I.write (x:=p) (e:=p) (by rw [h];trivial) (.inl rfl) (λb u z q=>(Bm _ _ (lu z)).trans q) ⟨_,e⟩ ?_;exact ⟨y,c,l,r,e⟩
def P9:V->V->V->Hp->(Hp->Prop)->Prop:=λo i v H Q=> ∃p c k j,o= .ref p/\i= .int k/\H p=some (.ai c)/\pR c.length k=some j/\Q (aU H p (.ai (c.set j v)))
def Qa:A2 X P9:=by
 intro c s O H o i v ov iv u Q I U Y Z h;obtain ⟨p,xs,k,j,rfl,rfl,x,hj,q⟩:=h;cases U;obtain ⟨t,rfl⟩:=Y;obtain ⟨e,n,r,l,hz⟩:=I.ai x;obtain ⟨g,h2,y,z⟩:=II hj;have m:=r.length;have hn:=Wv
 have B:aC X c O (aU H p (.ai (xs.set j v))) {s with heap:=s.heap.update p (pS (·.setIfInBounds j u))}:=
   I.vw x l (kJ e n j u) (r.set Z j) (by rw [List.length_set];exact hz) s.toks
 by_cases E:0<=k
 . have w:k.toNat=j:=by
    rw [seqIndex_of E z] at g;exact gG g
   exact PySem.W.ki_setAt l E (by omega) (by rw [dj,<-m];exact z) (by rw [w];exact ⟨_,B,q⟩)
 . have w:(k+(e.toArray.size:Int)).toNat=j:=by
    rw [seqIndex_neg (by omega) y] at g;rw [dj,<-m];exact gG g
   exact PySem.W.ki_setBack l (by omega) (by rw [dj,<-m];exact y) (by omega) (by rw [w];exact ⟨_,B,q⟩)
def Yg (lo c:Option Int) (n:Nat):(v0 lo c none n).1=((HT.cv n 0 lo:Nat):Int)/\(v0 lo c none n).2.1=((HT.cv n n c:Nat):Int)/\(v0 lo c none n).2.2=1:=by
 refine ⟨?_,?_,rfl⟩
 . cases lo with
   |none=>simp [v0,HT.cv]
   |some i=>
    simp only [v0,HT.cv,E8,show (1)>0 by decide,if_true]
    by_cases h:i<0
    . simp only [h,if_true]<;>omega
    . simp only [h,if_false]<;>omega
 . cases c with
   |none=>simp [v0,HT.cv]
   |some i=>
    simp only [v0,HT.cv,E8,show (1)>0 by decide,if_true]
    by_cases h:i<0
    . simp only [h,if_true]<;>omega
    . simp only [h,if_false]<;>omega
def WS (c:List Value) (lo e:Option Int):slicePick c.toArray lo e none=((c.drop (HT.cv c.length 0 lo)).take (HT.cv c.length c.length e-HT.cv c.length 0 lo)).toArray:=by
 obtain ⟨g,h,i⟩:=Yg lo e c.toArray.size;unfold slicePick;rw [g,h,i];simp only [sliceRange_one,pick_run,dj]<;>rfl
def Bn (K:aH):V->Option Int->Option Int->Hp->VK->Prop:=λx lo e H Q=> ∃a c,x= .ref a/\fV K H a c/\ ∀p,H p=none->Q (.ref p) (aU H p (.ai (oU c lo e)))
def mh:sq X (Bn X.K):=by
 intro g s y H x v z B lo i E Q I l m n o h;obtain ⟨a,c,rfl,p,q⟩:=h;cases l;obtain ⟨u,r,j,w⟩:=I.list p;have e:=r.length;refine ⟨"list",_,slot_list_getitem.lookup,j.isList.typeIs,?_⟩;refine wpAny_getItem_list_slice j.isList m n o .none (by simp) ?_ (by rw [dj]<;>omega);rw [WS,<-e];refine ⟨.ref s.heap.objs.size,_,I.laid (λb ob q=>cT _ q) (bn _) ?_,rfl,q _ (I.be.fresh (bn _))⟩;exact ⟨cE (ZR c lo i) w,_,0,(r.drop (HT.cv c.length 0 lo)).take (HT.cv c.length c.length i-HT.cv c.length 0 lo),fS _ rfl⟩
def mi:bt X (.builtin "len") (λl H Q=> ∃p e,l=[.ref p]/\(fV X.K H p e\/iX X.K H p e)/\Q (.int e.length) H):=by
 intro m s v H l w Q I r h;obtain ⟨p,e,rfl,hq,q⟩:=h;obtain ⟨u,rfl,n⟩:=xO r;cases n;have x:=Wv;rcases hq with hq|hq
 . obtain ⟨g,i,j,o⟩:=I.list hq;have c:=i.length;exact Calls.call_len_list j.isList (by simp only [dj]<;>omega) ⟨.int e.length,H,I.tok _,⟨s.toks+1,by rw [dj,c]⟩,q⟩
 . obtain ⟨g,i,j,o⟩:=I.tuple hq;have c:=i.length;exact len_tuple j (by simp only [dj]<;>omega) ⟨.int e.length,H,I.tok _,⟨s.toks+1,by rw [dj,c]⟩,q⟩
def Kh:bt X (.builtin "len") (λc H Q=> ∃z,c=[.str z]/\z.length<=aS/\Q (.int z.length) H):=by
 intro e s g H c i Q I r h;obtain ⟨z,rfl,j,q⟩:=h;obtain ⟨u,rfl,t,rfl⟩:=xO r;have l:=Wv;exact len_str (by omega) ⟨.int z.length,H,I.tok _,⟨_,rfl⟩,q⟩
def bt.or {f:Value} {r g:List V->Hp->VK->Prop} (h:bt X f r) (m:bt X f g):bt X f (λe H Q=>r e H Q\/g e H Q):=by
 intro c s i H e j Q I l q;rcases q with q|q
 . exact h c s i H e j Q I l q
 . exact m c s i H e j Q I l q
def wQ:bt X (.type "list") (λU H Q=> ∃p i,U=[.ref p]/\(fV X.K H p i\/iX X.K H p i)/\ ∀l,H l=none->Q (.ref l) (aU H l (.ai i))):=by
 intro v s Z H U us Q I r h;obtain ⟨p,i,rfl,hq,q⟩:=h;obtain ⟨u,rfl,rx⟩:=xO r;cases rx
 have w: ∀(c:List Value),aK i c->i.length<=aS-> ∀(g:Heap) j,(∀b Y,s.heap.get? b=some Y->g.get? b=some Y)->
    g.get? s.heap.objs.size=some {cls:= .type "list",dict:=none,data:= .seq c.toArray j,slots:= #[]}->EP X v Z Q (.ref s.heap.objs.size) {s with heap:=g}:=λc m x g j y e=>
   ⟨.ref s.heap.objs.size,_,I.laid y (bn _) (show bi X.prog X.w _ g _ (.ai i) from ⟨x,c,j,m,e⟩),rfl,q _ (I.be.fresh (bn _))⟩
 rcases hq with hq|hq
 . obtain ⟨c,m,B,x⟩:=I.list hq;have z:=m.length;obtain ⟨o,E,O,n,hd⟩:=B.isList;exact call_list_seq p (.inl rfl) E O hd (λg j y e=>w c m x g j y e) (by simp only [dj]<;>omega)
 . obtain ⟨c,m,B,x⟩:=I.tuple hq;have z:=m.length;obtain ⟨o,E,O,n,hd⟩:=B;exact call_list_seq p (.inr rfl) E O hd (λg j y e=>w c m x g j y e) (by simp only [dj]<;>omega)
def wd:bt X (.type "tuple") (λw H Q=> ∃p i,w=[.ref p]/\((fV X.K H p i/\ ∀l,H l=none->Q (.ref l) (aU H l (.am i)))\/(iX X.K H p i/\Q (.ref p) H))):=by
 intro c s x H w Y Q I r h;obtain ⟨p,i,rfl,h⟩:=h;obtain ⟨u,rfl,E⟩:=xO r;cases E;rcases h with ⟨m,q⟩| ⟨m,q⟩
 . obtain ⟨g,n,v,y⟩:=I.list m;have z:=n.length;refine call_tuple_list v.isList (λj O=>?_) (by simp only [dj]<;>omega);have B:aC X c x H {s with heap:=j}:=I.kept (t':=s.toks) O
   have U:aC X c x (aU H j.objs.size (.am i)) {s with heap:=j.push {cls:= .type "tuple",data:= .seq g.toArray}}:=
    B.laid (t':=s.toks) (λb o e=>cT _ e) (bn _) (show bi X.prog X.w _ _ _ (.am i) from ⟨y,g,n,IsTup.new _ _⟩)
   exact ⟨.ref j.objs.size,_,U,rfl,q _ (B.be.fresh (bn _))⟩
 . obtain ⟨g,n,v,y⟩:=I.tuple m;exact call_tuple_same v ⟨.ref p,H,I,rfl,q⟩
def E9 (K:aH) (T:String) (x:V) (H:Hp):Prop:=match x with
 | .str _=>T= "str"
 | .int _=>T= "int"
 | .ref p=>(T= "list" /\ ∃e,fV K H p e)\/(T= "tuple" /\ ∃o,K.lookup p=some o/\o.cls= .type "tuple" /\o.dict=none)\/
  (T= "dict" /\((∃c,H p=some (.dK c))\/ ∃c,H p=some (.dT c)))\/(T= "set" /\ ∃S n,H p=some (.set S n))
 |_=>False
def Qb {j:List (Addr×Obj)} {u:St} {H:Hp} {s:aL} {T:String} {x:V} {v:Value} (I:aC X j u H s) (r:aG x v) (l:E9 X.K T x H):
  s.TypeIs v T/\ ∀a,v= .ref a-> ∃ob,s.heap.get? a=some ob/\ob.dict=none:=by
 cases x with
 |str z=>
  obtain ⟨t,rfl⟩:=r;cases (l);exact ⟨typeIs_str s z t,λ_ e=>nomatch e⟩
 |int i=>
  obtain ⟨t,rfl⟩:=r;cases (l);exact ⟨typeIs_int s i t,λ_ e=>nomatch e⟩
 |ref p=>
  cases r;rcases l with ⟨rfl,E,w⟩| ⟨rfl,o,g,y,hd⟩| ⟨rfl,g⟩| ⟨rfl,S,n,g⟩
  . obtain ⟨B,_,q,_⟩:=I.list w;refine ⟨q.isList.typeIs,λa e=>?_⟩;cases e;obtain ⟨o,n,e,c,hd,_⟩:=q;exact ⟨o,e,hd⟩
  . refine ⟨⟨o,I.ii p o g,y⟩,λa e=>?_⟩;cases e;exact ⟨o,I.ii _ o g,hd⟩
  . have z: ∃o,s.heap.get? p=some o/\o.ExactDict:=by
     rcases g with ⟨m,g⟩| ⟨m,g⟩
     . obtain ⟨_,_,_,_,o,_,_,e,h,_⟩:=I.be p _ g;exact ⟨o,e,h⟩
     . obtain ⟨_,_,_,_,o,_,_,e,h,_⟩:=I.be p _ g;exact ⟨o,e,h⟩
    obtain ⟨o,e,h⟩:=z;refine ⟨⟨o,e,h.1⟩,λa e2=>?_⟩;cases e2;exact ⟨o,e,h.2.1⟩
  . obtain ⟨o,_,_,_,e,h,_⟩:=I.be p _ g;refine ⟨⟨o,e,h.1⟩,λa e2=>?_⟩;cases e2;exact ⟨o,e,h.2.1⟩
 |_=>exact oP l
def Qn (K:aH) (T:String) (r:V->List V->Hp->VK->Prop) (O:TE) (t:TA):TE:=λc H Q=>O c H λx e=>E9 K T x e/\t c e λg H2=>r x g H2 Q
variable {o e:Expr} {U:List Expr} {O:TE} {t:TA} {name:Str} {Y Z:Pos} {T id:String} {r:V->List V->Hp->VK->Prop}
def C2 (B:PlainAttrs T) (slot:Slot T name id) (n:typeOf (.builtin id)=pure (.type "method_descriptor")) (E:rQ X id r) (ho:PE X o O) (ha:PA X (e::U) t)
  (i:mZ o name X.env (eval o X.env)=eval o X.env:=by rfl)
  (m:((iW Z (c0 (e::U) X.env)).all (λx=>!x.1)&&(oS Z (oT [] X.env)).all (λx=>x.1.isSome)
   &&decide ((e::U).length+([]:List nJ).length+(if ([]:List nJ).isEmpty then 0 else 1)<30))=true:=by rfl)
  (j:(Y.endLine==Z.line)=true:=by rfl) (hs:T9 X e U:=by rfl) (g:T8 X Z U:=by rfl):
  PE X (.Call (.Attribute o name Y) (e::U) [] Z) (Qn X.K T r O t):=by
 intro c s p H Q I h;refine wpAny_Call_method_late i m j rfl (bA (ho c s p H _ I h) λv s1 q=>?_);obtain ⟨x,H1,w,y,ty,q1⟩:=q;obtain ⟨h1,h2⟩:=Qb w y ty;refine ⟨T,id,B,slot,n,h1,h2,?_⟩;have z:=ha Z c s1 p H1 _ w q1;rw [hs] at z ⊢;refine Calls.callWith_builtin (by show (false|| (iW Z (c0 U X.env)).any (·.1))=false;rw [g]<;>rfl) (Calls.evalArgs_plain ?_);exact bA z λus s2 ⟨vs,H2,I2,r2,q2⟩=>E c s2 p H2 x vs v us Q I2 y r2 q2
/-xs.append(e),list.index on a l tuple .. are rQ u of 06m-/
end
def Fa (X:Cx) (id:String) (r:V->List V->Hp->VK->Prop):Prop:=
 ∀(a:List (Addr×Obj)) (s:aL) (c:St) (H:Hp) (x:V) (e:List V) (v:Value) (g:List Value) (Q:VK),aC X a c H s->aG x v->aK e g->r x e H Q->
  wpAny (model X.prog X.w) X.A (call (.builtin id) (v::g)) (EP X a c Q) X.xe s
theorem aK.one: ∀ {x:V} {a:List Value},aK [x] a-> ∃u,a=[u]/\aG x u
 |_,_,.cons r .nil=>⟨_,rfl,r⟩
theorem aK.rep {a:List V} {c:List Value} (h:aK a c): ∀k:Nat,aK (io k a).flatten (io k c).flatten
 |0=> .nil
 |k+1=>by
  rw [pT,pT,sW,sW];exact aK.append h (aK.rep h k)
theorem Y0 (a:List Value): ∀(k:Nat) (c:List Value),
  List.foldl (λg h=>g++h) c.toArray (io k a.toArray)=(c++(io k a).flatten).toArray
 |0,c=>by simp
 |k+1,c=>by
  have e:c.toArray++a.toArray=(c++a).toArray:=by simp
  have e2:(c++a)++(io k a).flatten=c++(io (k+1) a).flatten:=by
   rw [pT,sW,i7]
  rw [<-e2,<-Y0 a k (c++a),<-e,pT,Bo]
section
variable {X:Cx} {p:List (Addr×Obj)} {c:St} {H:Hp} {s:aL} {l b:Addr} {xs ys zs:List V}
def aC.v3 {g a:List Value} {n:Nat} {f:Array Value->Array Value} {h:Nat} (I:aC X p c H s) (i:H l=some (.ai xs))
  (e:s.heap.get? l=some {cls:= .type "list",data:= .seq g.toArray n}) (j:f g.toArray=a.toArray) (m:aK ys a) (o:ys.length<=aS):
  aC X p c (aU H l (.ai ys)) {s with heap:=s.heap.update l (pS f),toks:=h}:=by
 have q:=PySem.IsL.update e f;rw [j] at q;refine I.write (by rw [i];exact trivial) (.inl rfl) (λw u r v=>(Bm s.heap (pS f) (lu r)).trans v) ⟨_,q⟩ ?_;exact ⟨o,a,_,m,q⟩
def aC.v4 {a:List Value} {t':Nat} (I:aC X p c H s) (e:aK ys a) (g:ys.length<=aS):
  aC X p c (aU H s.heap.objs.size (.ai ys)) {s with heap:=s.heap.push {cls:= .type "list",data:= .seq a.toArray},toks:=t'}:=
 I.laid (λ_ _ q=>cT _ q) (bn _) ⟨g,a,0,e,fS _ rfl⟩
def aC.fresh (I:aC X p c H s):H s.heap.objs.size=none:=I.be.fresh (bn _)
def aC.nY (I:aC X p c H s) (g:H l=some (.ai xs)):xs.length<=aS/\ ∃(a:List Value) (n:Nat),aK xs a/\xs.length=a.length/\s.heap.get? l=some {cls:= .type "list",data:= .seq a.toArray n}:=by
 obtain ⟨z,a,n,r,e⟩:=I.be l _ g;exact ⟨z,a,n,r,r.length,e⟩
def Xo {n:Nat} (h:n<=aS):Bp n=false:=by
 exact decide_eq_false (by omega)
end
section
variable {X:Cx}
def Qo:V->List V->Hp->VK->Prop:=λx c H Q=> ∃l a y,x= .ref l/\c=[y]/\H l=some (.ai a)/\a.length<aS/\Q .a6 (aU H l (.ai (a++[y])))
def YH:Fa X "list.append" Qo:=by
 intro c s o H x p v w Q I i j h;obtain ⟨l,B,y,rfl,rfl,g,E,q⟩:=h;cases i;obtain ⟨u,rfl,m⟩:=j.one;obtain ⟨z,a,n,r,J,e⟩:=I.nY g;refine Au F.slot_list_append ⟨_,e,rfl⟩ F.entry_list_append (F.args_list_append_2 _ _) (PySem.list_append l a.toArray n u (by rw [dj];omega)) ⟨e,?_⟩;refine ⟨.a6,_,I.v3 g e (by simp) (r.append (.cons m .nil)) ?_,rfl,q⟩;rw [gm,C3];omega
def Qw:V->List V->Hp->VK->Prop:=λx e H Q=> ∃l b a c,x= .ref l/\e=[.ref b]/\H l=some (.ai a)/\H b=some (.ai c)/\a.length+c.length<=aS/\Q .a6 (aU H l (.ai (a++c)))
def QN:Fa X "list.extend" Qw:=by
 intro j s L H x N v O Q I o p h;obtain ⟨l,b,U,Y,rfl,rfl,m,w,Z,q⟩:=h;cases o;obtain ⟨u,rfl,y⟩:=p.one;cases y;obtain ⟨z,c,n,r,hl,e⟩:=I.nY m;obtain ⟨z2,a,B,E,J,e2⟩:=I.nY w;have i:c.toArray.size+a.toArray.size<=aS:=by rw [dj,dj];omega
 have g: ¬(!c.toArray.isEmpty&&Bp (c.toArray.size+a.toArray.size))=true:=by
  rw [Xo i,Bool.and_false];exact ik
 refine Au Fb ⟨_,e,rfl⟩ F.entry_list_extend (F.args_list_extend_2 _ _)
  (AutoSeq1.list_extend_list_list_0 l c.toArray n b a.toArray B g (by rw [dj];omega) (by omega)) ⟨e,e2,?_⟩
 refine ⟨.a6,_,I.v3 m e (by simp) (r.append E) ?_,rfl,q⟩;rw [gm];omega
def v5:R2:=λx y H Q=> ∃l b a c,x= .ref l/\y= .ref b/\H l=some (.ai a)/\H b=some (.ai c)/\a.length+c.length<=aS/\ ∀p,H p=none->Q (.ref p) (aU H p (.ai (a++c)))
def v6:dB X (ly .Add) v5:=by
 intro g s E H x y v u Q I i j h;obtain ⟨l,b,J,L,rfl,rfl,m,o,N,q⟩:=h;cases i;cases j;obtain ⟨z,c,n,r,O,e⟩:=I.nY m;obtain ⟨U,a,Y,p,w,e2⟩:=I.nY o;refine PySem.P.add_list e e2 ?_ (by rw [dj,dj];omega);have B:c.toArray++a.toArray=(c++a).toArray:=by simp
 rw [B];exact ⟨.ref _,_,I.v4 (r.append p) (by rw [gm];omega),rfl,q _ I.fresh⟩
def Bq:R2:=λx y H Q=> ∃l k a,x= .ref l/\y= .int k/\H l=some (.ai a)/\ -(2^63)<=k/\k<2^63/\a.length*k.toNat<=aS/\
 ∀p,H p=none->Q (.ref p) (aU H p (.ai (io k.toNat a).flatten))
def Q4 {c:Type} (a:List c) (k:Nat):(io k a).flatten.length=k*a.length:=by
 induction k with
 |zero=>simp
 |succ k e=>rw [pT,sW,gm,e,Br,Nat.add_comm]
def uT:dB X (ly .Mult) Bq:=by
 intro E s σ H x y v u Q I L N h;obtain ⟨l,k,xs,rfl,rfl,O,Y,Z,J,q⟩:=h;cases L;obtain ⟨t,rfl⟩:=N;obtain ⟨z,c,n,r,hl,e⟩:=I.nY O;have i:c.toArray.size*k.toNat<=aS:=by rw [dj,<-hl];exact J
 have j: ¬c.toArray.size*k.toNat>(2^63-1)/8:=by
  have:(aS:Nat)<=(2^63-1)/8:=by decide
  omega
 have o: ¬(!Builtin.List.listFitsIndex k)=true:=by
  rw [fitsIndex_both Y Z];exact ik
 have g: ¬Bp (c.toArray.size*k.toNat)=true:=by
  rw [Xo i];exact ik
 have p:List.foldl (λw B=>w++B) #[] (io (if c.toArray.isEmpty=true then 0 else k.toNat) c.toArray)=(io k.toNat c).flatten.toArray:=by
  have f0: ∀m:Nat,List.foldl (λw B=>w++B) #[] (io m c.toArray)=(io m c).flatten.toArray:=λm=>by
   have:=Y0 c m [];rw [C4] at this;exact this
  rw [f0]
  cases c with
  |nil=>simp
  |cons a r'=>rw [if_neg (by simp)]
 refine wpAny_binaryOp_repeat_ref (T:= "list") (U:= "int") (by decide) ⟨_,e,rfl⟩ (λs'=>typeIs_int s' k t) noFill_list_mul F.fills_int_mul F.slot_int_rmul repeat_list F.slot_int_index.lookup
  (Au F.slot_int_rmul (typeIs_int s k t) F.entry_int_rmul (F.args_int_rmul_2 _ _) (int___rmul___int_list k t l c.toArray n)
   ⟨e,rfl,⟨_,e,rfl⟩,Au F.slot_list_mul ⟨_,e,rfl⟩ F.entry_list_mul (F.args_list_mul_2 _ _) (AutoListH.list___mul___list_int_3 l c.toArray n k t o j g) ⟨e,?_⟩⟩)
 rw [p];exact ⟨.ref _,_,I.v4 (t':=s.toks) (r.rep k.toNat) (by rw [Q4,Nat.mul_comm];exact J),rfl,q _ I.fresh⟩
end
section
variable {Q:Type} [DecidableEq Q]
noncomputable def fm (a:List (Q×V)) (k:Q):Option V:=(a.find? λc=>decide (c.1=k)).map (·.2)
noncomputable def putK (a:List (Q×V)) (k:Q) (v:V):List (Q×V):=
 if (a.any λc=>decide (c.1=k))=true then a.map (λc=>if c.1=k then (c.1,v) else c) else a++[(k,v)]
def WM {p:Q×V} {r:List (Q×V)} {k:Q} (e:p.1=k):fm (p::r) k=some p.2:=by simp [fm,rR,e]
def WN {p:Q×V} {r:List (Q×V)} {k:Q} (e: ¬p.1=k):fm (p::r) k=fm r k:=by simp [fm,rR,e]
theorem WO (k:Q): ∀a:List (Q×V),(a.any λc=>decide (c.1=k))=(fm a k).isSome
 | []=>rfl
 |p::r=>by
  rw [v7]
  by_cases e:p.1=k
  . simp only [WM e,decide_eq_true e,Bool.true_or,Option.isSome_some]
  . rw [WN e,decide_eq_false e,Bool.false_or];exact WO k r
def Zt (a:List (Q×V)) (k:Q) (v:V):(putK a k v).length<=a.length+1:=by
 unfold putK
 split
 . rw [bM];omega
 . rw [gm,fR,rM];omega
def fj.ip {o:Option V} {u:Option Value} (r:fj o u):o.isSome=u.isSome:=by
 cases o with
 |none=>cases u with
  |none=>rfl
  |some _=>exact (r).elim
 |some _=>cases u with
  |none=>exact (r).elim
  |some _=>rfl
def fj.getD {o:Option V} {u:Option Value} {d:V} {a:Value} (r:fj o u) (c:aG d a):aG (o.getD d) (u.getD a):=by
 cases o with
 |none=>cases u with
  |none=>exact c
  |some _=>exact (show False from r).elim
 |some _=>cases u with
  |none=>exact (show False from r).elim
  |some _=>exact r
def KV.val {a:List (Q×V)} {i:List (Q×Value)} (r:KV a i) (k:Q):fj (fm a k) (valueAt i k):=by
 induction r with
 |nil=>exact pw
 | @cons p q ps c h t l=>
  obtain ⟨j,m⟩:=h
  by_cases e:p.1=k
  . have g:=j.symm.trans e;have b:valueAt (q::c) k=some q.2:=by simp [valueAt,rR,g]
    rw [WM e,b];exact m
  . have g: ¬q.1=k:=λz=>e (j.trans z)
    have b:valueAt (q::c) k=valueAt c k:=by simp [valueAt,rR,g]
    rw [WN e,b];exact l
def KV.any {a:List (Q×V)} {e:List (Q×Value)} (r:KV a e) (k:Q):(a.any λc=>decide (c.1=k))=e.any λc=>decide (c.1=k):=by
 induction r with
 |nil=>rfl
 |cons h t g=>rw [v7,v7,g,h.1]
def KV.v9 {c:List (Q×V)} {i:List (Q×Value)} (r:KV c i) (k:Q) {y:V} {u:Value} (j:aG y u):
  KV (c.map λa=>if a.1=k then (a.1,y) else a) (i.map λa=>if a.1=k then (a.1,u) else a):=by
 induction r with
 |nil=>exact .nil
 | @cons p q ps n h t l=>
  rw [e9,e9];refine .cons ?_ l;obtain ⟨g,m⟩:=h
  by_cases e:p.1=k
  . rw [if_pos e,if_pos (g.symm.trans e)];exact ⟨g,j⟩
  . rw [if_neg e,if_neg (λz=>e (g.trans z))];exact ⟨g,m⟩
def KV.put {a:List (Q×V)} {c:List (Q×Value)} (r:KV a c) (k:Q) {y:V} {u:Value} (g:aG y u):KV (putK a k y) (stored c k u):=by
 unfold putK stored;rw [r.any k]
 by_cases e:(c.any λh=>decide (h.1=k))=true
 . rw [if_pos e,if_pos e];exact r.v9 k g
 . rw [if_neg e,if_neg e];exact Paired.snoc r ⟨rfl,g⟩
def KV.keys {a:List (Q×V)} {c:List (Q×Value)} (r:KV a c):a.map (·.1)=c.map (·.1):=by
 induction r with
 |nil=>rfl
 |cons h t e=>rw [e9,e9,e,h.1]
def KV.length {kvs:List (Q×V)} {vs:List (Q×Value)} (r:KV kvs vs):kvs.length=vs.length:=Af r
end
def Bs {P:cp} {w:World} {k:aR} {u:Value} (r:aG (kV k) u):(jR P w).is k u=true:=by
 cases k with
 |inl i=>obtain ⟨t,e⟩:=(r);subst e;exact K4 P w i t
 |inr x=>obtain ⟨t,e⟩:=(r);subst e;exact K3 P w x t
theorem YT {P:cp} {w:World}: ∀ {ks:List aR} {us:List Value},aK (ks.map kV) us->ItemsAre (jR P w) ks us
 | [],_,r=>by rw [List.map_nil] at r;cases r;exact .nil
 |k::ks,_,r=>by
  cases r with
  |cons h t=>exact .cons (Bs h) (YT t)
abbrev KT (H:Hp):List (List aR×V)->List (List aR×Addr×Value)->Prop:=nF λp q=>p.1=q.1/\H q.2.1=some (.am (p.1.map kV))/\aG p.2 q.2.2
def KT.val {H:Hp} {a:List (List aR×V)} {i:List (List aR×Addr×Value)} (r:KT H a i) (k:List aR):fj (fm a k) ((atKey i k).map (·.2)):=by
 induction r with
 |nil=>exact pw
 | @cons p q ps c h t l=>
  obtain ⟨j,_,m⟩:=h
  by_cases e:p.1=k
  . have g:=j.symm.trans e;have b:atKey (q::c) k=some q.2:=by simp [atKey,rR,g]
    rw [WM e,b];exact m
  . have g: ¬q.1=k:=λz=>e (j.trans z)
    have b:atKey (q::c) k=atKey c k:=by simp [atKey,rR,g]
    rw [WN e,b];exact l
def KT.v9 {H:Hp} {a:List (List aR×V)} {i:List (List aR×Addr×Value)} (r:KT H a i) (k:List aR) {y:V} {u:Value} (l:aG y u):
  KT H (a.map λg=>if g.1=k then (g.1,y) else g) (i.map (putAt k u)):=by
 induction r with
 |nil=>exact .nil
 | @cons p q ps n h t m=>
  rw [e9,e9];refine .cons ?_ m;obtain ⟨c,j,h3⟩:=h;unfold putAt
  by_cases e:p.1=k
  . rw [if_pos e,if_pos (c.symm.trans e)];exact ⟨c,j,l⟩
  . rw [if_neg e,if_neg (λz=>e (c.trans z))];exact ⟨c,j,h3⟩
def KT.put {H:Hp} {a:List (List aR×V)} {c:List (List aR×Addr×Value)} (r:KT H a c) (k:List aR) {b:Addr} {y:V} {u:Value} (h:H b=some (.am (k.map kV))) (g:aG y u):
   KT H (putK a k y) (pA c k b u):=by
 have e:(a.any λi=>decide (i.1=k))=(atKey c k).isSome:=by
   rw [WO,(r.val k).ip,Fc]
 unfold putK pA;rw [e]
 by_cases q:(atKey c k).isSome=true
 . rw [if_pos q,if_pos q];exact r.v9 k g
 . rw [if_neg q,if_neg q];exact Paired.snoc r ⟨rfl,h,g⟩
def KT.keeps {H c:Hp} {a:List (List aR×V)} {e:List (List aR×Addr×Value)} (r:KT H a e) (h: ∀b g,H b=some (.am g)->c b=some (.am g)):KT c a e:=
 nF.t4 r λ_ _ z=>⟨z.1,h _ _ z.2.1,z.2.2⟩
section
variable {P:cp} {w:World} {H:Hp} {h:Heap} {a:Addr}
def IL {u:HO} (ok:gr P w H h) (e:Rd H a u):bi P w H h a u:=e.ok ok
def Bt {c:List (aR×V)} (ok:gr P w H h) (e:Rd H a (.dK c)):c.length<=aS/\(a==nG)=false/\ ∃g,KV c g/\h.DictOf (jR P w) a g:=
 show bi P w H h a (.dK c) from IL ok e
def IM {c:List (aR×V)} (ok:gr P w H h) (e:H a=some (.dK c)):c.length<=aS/\(a==nG)=false/\ ∃g,KV c g/\h.DictOf (jR P w) a g:=Bt ok (.inl e)
def Zw {ks:List aR} (ok:gr P w H h) (e:H a=some (.am (ks.map kV))):(oI (jR P w)).is h ks a:=by
 obtain ⟨_,c,r,o,g,i,n,j⟩:=(ok a _ e)
 exact ⟨o,c.toArray,n,g,i,j,by simpa using YT r⟩
def Bu {c:List (List aR×V)} (ok:gr P w H h) (e:Rd H a (.dT c)):c.length<=aS/\(a==nG)=false/\
  ∃g,KT H c g/\h.DictOfH (oI (jR P w)) a g:=by
 obtain ⟨z,y,g,r,o,j,n,u,v,B,E,I⟩:=(IL ok e)
 refine ⟨z,y,g,r,o,j,n,u,v,B,E,λx hx=>?_,I⟩
 have all: ∀ {l:List (List aR×V)} {m:List (List aR×Addr×Value)},KT H l m-> ∀x∈m,(oI (jR P w)).is h x.1 x.2.1:=by
  intro l m q
  induction q with
  |nil=>intro x hx;exact nomatch hx
  | @cons p q ps L i t J=>
   intro x hx;rcases cQ.mp hx with e|hx
   . subst e;exact Zw ok (by rw [<-i.1];exact i.2.1)
   . exact J x hx
 exact all r x hx
def Q5 {c:List (List aR×V)} (ok:gr P w H h) (e:H a=some (.dT c)):c.length<=aS/\(a==nG)=false/\
 ∃g,KT H c g/\h.DictOfH (oI (jR P w)) a g:=Bu ok (.inl e)
end
def lz (H:Hp) (a:Addr) (y:V) (r:Option V):Prop:=
 (∃c k,Rd H a (.dK c)/\y=kV k/\r=fm c k)\/ ∃c k b,Rd H a (.dT c)/\y= .ref b/\H b=some (.am (k.map kV))/\r=fm c k
def m4 (H:Hp) (a:Addr) (y v:V) (e:Hp):Prop:=
 (∃c k,H a=some (.dK c)/\y=kV k/\c.length<aS/\e=aU H a (.dK (putK c k v)))\/
 ∃c k b,H a=some (.dT c)/\y= .ref b/\H b=some (.am (k.map kV))/\c.length<aS/\e=aU H a (.dT (putK c k v))
def lz.t {H:Hp} {a b:Addr} {c:List (List aR×V)} {k:List aR} (e:H a=some (.dT c)) (g:H b=some (.am (k.map kV))):lz H a (.ref b) (fm c k):= .inr ⟨c,k,b,.inl e,rfl,g,rfl⟩
def m4.k {H:Hp} {a:Addr} {c:List (aR×V)} {k:aR} {v:V} (e:H a=some (.dK c)) (hl:c.length<aS):m4 H a (kV k) v (aU H a (.dK (putK c k v))):= .inl ⟨c,k,e,rfl,hl,rfl⟩
def m4.t {H:Hp} {a b:Addr} {c:List (List aR×V)} {k:List aR} {v:V} (e:H a=some (.dT c)) (g:H b=some (.am (k.map kV))) (hl:c.length<aS):
 m4 H a (.ref b) v (aU H a (.dT (putK c k v))):= .inr ⟨c,k,b,e,rfl,g,hl,rfl⟩
section
variable {X:Cx} {x:List (Addr×Obj)} {σ:St} {H:Hp} {s:aL} {a:Addr} {y v:V} {u r:Value} {o:Option V} {A:cC} {E:U9}
def aC.big (I:aC X x σ H s):nG<s.heap.objs.size:=by
 exact C5 (by decide) ((I.mod.glob.keeps I.bk).lt)
def Q6 {Q:U9} (J:A.units+1<cLine) (I:aC X x σ H s) (g:lz H a y (some v)) (w:aG y u) (h: ∀j B,aC X x σ H B->aG v j->Q j B):
   wpAny (model X.prog X.w) A (pP (.ref a) u) Q E s:=by
 rcases g with ⟨m,k,e,n,l⟩| ⟨m,k,b,e,n,L,l⟩
 . subst n;obtain ⟨z,hd,O,c,dd⟩:=Bt I.be e;obtain ⟨j,hw,i⟩:=fj.some_of (by rw [l];exact c.val k);exact wpAny_getItem_of (Bs w) dd.mapOf hw (h j _ (I.tok _) i)
 . subst n;cases (w);obtain ⟨z,hd,U,c,dd⟩:=Bu I.be e;obtain ⟨j,hw,i⟩:=fj.some_of (by rw [l];exact c.val k);obtain ⟨p,N,q⟩:=sX.mp hw;refine wpAny_getItem_heap (C6 J) (Zw I.be L) dd N ?_;rw [q];exact h j _ (I.tok _) i
def Ra {Q:U9} (p:A.units+1<cLine) (I:aC X x σ H s) (g:lz H a y o) (m:aG y u) (h: ∀n,aC X x σ H n->Q (.bool (!o.isSome)) n):
   wpAny (model X.prog X.w) A (h9 .NotIn u (.ref a)) Q E s:=by
 rcases g with ⟨i,k,e,j,l⟩| ⟨i,k,b,e,j,w,l⟩
 . subst j;obtain ⟨z,hd,B,c,dd⟩:=Bt I.be e;refine wpAny_notIn_of (Bs m) hd dd.mapOf ?_;rw [<-(c.val k).ip,<-l];exact h _ (I.tok _)
 . subst j;cases (m);obtain ⟨z,hd,J,c,dd⟩:=Bu I.be e;refine wpAny_notIn_heap (C6 p) (Zw I.be w) hd dd ?_;have q:=(c.val k).ip;rw [Fc] at q;rw [<-q,<-l];exact h _ (I.tok _)
def Vp {c:Heap} {e:Nat} {ob:HO} (I:aC X x σ H s) (g:pk (H a)) (h:rJ a s.heap c) (i: ∃q,c.get? a=some q) (new:bi X.prog X.w (aU H a ob) c a ob):
  aC X x σ (aU H a ob) {s with heap:=c,toks:=e}:=
 I.write g (.inl rfl) (λb q j z=>(h.2 b j).trans z) i new
def Rb {P:cp} {w:World} {i:Hp} {h:Heap} {c:List (aR×V)} {e:List (aR×Value)} (z:c.length<=aS) (hd:(a==nG)=false) (g:KV c e) (dd:h.DictOf (jR P w) a e):
 bi P w i h a (.dK c):=⟨z,hd,e,g,dd⟩
def Rc {L:Hp} {Q:Unit->aL->Prop} (hu:A.units+1<cLine) (I:aC X x σ H s) (g:m4 H a y v L) (N:aG y u) (O:aG v r) (h: ∀U,aC X x σ L U->Q () U):
   wpAny (model X.prog X.w) A (setItem (.ref a) u r) Q E s:=by
 rcases g with ⟨i,k,e,p,l,w⟩| ⟨i,k,b,e,p,Y,l,w⟩
 . subst p w;obtain ⟨z,hd,vs,j,dd⟩:=IM I.be e;have hz:vs.length<=aS:=by rw [<-j.length];exact z
   have B:(putK i k v).length<=aS:=by have:=Zt i k v;omega
   refine wpAny_setItem_pairs (Bs N) dd λZ m J=>h _ ?_
   have he: ∃q,Z.get? a=some q:=let ⟨q,_,_,n,_⟩:=m;⟨q,n⟩
   exact Vp I (by rw [e];exact pw) J he (Rb B hd (j.put k O) m)
 . subst p w;cases (N);obtain ⟨z,hd,xs,j,dd⟩:=Q5 I.be e;have hz:xs.length<=aS:=by rw [<-Af j];exact z
   have B:(putK i k v).length<=aS:=by have:=Zt i k v;omega
   refine wpAny_setItem_heap (C6 hu) (Zw I.be Y) dd λZ m J=>h _ ?_
   obtain ⟨q,es,ep,n,h2,h3,h4,_,h5⟩:=m;refine Vp I (by rw [e];exact pw) J ⟨q,n⟩ ⟨B,hd,_,(j.put k Y O).keeps λc ys ec=>?_,q,es,ep,n,h2,h3,h4,h5⟩;rw [jY (OC ec e (λz=>nomatch z))];exact ec
end
def Fd (i:Expr):Prop:= ∀a c,subscripted i false a c=operate [a,c] (pP a c)
def vO {a:cp} {w:World} {A:cC} {E:U9} {s:aL} {m:Env} {value c:Expr} {u:Pos} {T id:String} {Q:U9}
  (v:typeLookup (.type T) "__getitem__" =pure (some (.builtin id))) (y:Fd c)
  (h:wpAny (model a w) A (eval value m) (λo j=>wpAny (model a w) A (eval c m) (λi e=>e.TypeIs o T/\wpAny (model a w) A (pP o i) Q E e) E j) E s):
  wpAny (model a w) A (eval (.Subscript value c u) m) Q E s:=by
 refine Subscript_ (nQ h (λo j p=>nQ p (λi e g=>?_) λ_ _ x=>x) λ_ _ x=>x);obtain ⟨z,g⟩:=g;refine ax ?_;refine ax (wpAny_specialOf z v ?_)
 have n:wpAny (model a w) A (subscripted c false o i) (λr l=>wpAny (model a w) A (letTemporaryGo value o r>>=λ_=>pure r) Q E l) E e:=by
  rw [y o i];exact wpAny_operating (nQ g (λr l q=>ax (wpAny_letTemporaryGo (aV q))) λ_ _ x=>x)
 first
  |exact aV (ax n)
  |exact ax (aV (ax n))
  |exact ax n
def Vn {X:Cx} {c:List (Addr×Obj)} {i:St} {H:Hp} {s:aL} {a:Addr} {y:V} {o:Option V} (I:aC X c i H s) (g:lz H a y o):s.TypeIs (.ref a) "dict" :=by
 rcases g with ⟨h,k,e,_,_⟩| ⟨h,k,b,e,_,_,_⟩
 . obtain ⟨_,_,j,_,dd⟩:=Bt I.be e;exact dd.typeIs
 . obtain ⟨_,_,l,_,dd⟩:=Bu I.be e;exact dd.typeIs
def Rf (g h i:TE):TS:=λD c H=>i c H λv j=>g c j λx H2=>h c H2 λy l=> ∃a e,x= .ref a/\m4 l a y v e/\D.nx c e
section
variable {X:Cx} {o i e value:Expr} {pos q sh:Pos} {td ty tv:TE}
def uv (m:X.A.units+1<cLine) (n:PE X o td) (p:PE X i ty) (w:PE X value tv) (z:mH value (some (.Subscript o i q)) pos.line X.env=pure false):
  PS X (.Assign [.Subscript o i q] value pos) (Rf td ty tv):=by
 intro c s j H D I h;refine Fe (bA (w c s j H _ I h) λr B ⟨v,E,J,L,N⟩=>bA (n c B j E _ J N) λu O ⟨x,H2,Q,U,Y⟩=>bA (p c O j H2 _ Q Y) λiv s3 l=>?_) z;obtain ⟨y,H3,Z,ry,a,H4,ex,g,q3⟩:=l;subst ex;obtain rfl:u=dN a:=U;exact Rc m Z g ry L λs4 I4=>⟨j,H4,I4,q3⟩
end
def Rg {P:cp} {w:World} {H:Hp} (h:Heap) (a:nG<h.objs.size):bi P w H (h.push {cls:= .type "dict",data:= .dict #[]}) h.objs.size (.dK []):=
 ⟨li _,beq_eq_false_iff_ne.mpr (lu (eB a)),[],.nil,Heap.DictOf.new h⟩
def Rh {P:cp} {w:World} {H:Hp} (h:Heap) (a:nG<h.objs.size):bi P w H (h.push {cls:= .type "dict",data:= .dict #[]}) h.objs.size (.dT []):=
 ⟨li _,beq_eq_false_iff_ne.mpr (lu (eB a)),[],.nil,_, #[],0,fS _ rfl,⟨rfl,rfl,rfl⟩,rfl,rfl,sY⟩
def Ri:TE:=λ_ H Q=> ∀p,H p=none->Q (.ref p) (aU H p (.dK []))
def Rj:TE:=λ_ H Q=> ∀p,H p=none->Q (.ref p) (aU H p (.dT []))
section
variable {X:Cx} {z:Pos}
def Rk:PE X (.Dict [] [] z) Ri:=λa s c H Q I h=>
 wpAny_Dict_empty ⟨.ref s.heap.objs.size,_,I.laid (λ_ _ q=>cT _ q) (bn _) (Rg s.heap I.big),rfl,h _ (I.be.fresh (bn _))⟩
def Rl:PE X (.Dict [] [] z) Rj:=λa s c H Q I h=>
 wpAny_Dict_empty ⟨.ref s.heap.objs.size,_,I.laid (λ_ _ q=>cT _ q) (bn _) (Rh s.heap I.big),rfl,h _ (I.be.fresh (bn _))⟩
end
structure M1 (X:Cx) (o:Expr) (m:Str) (apos:Pos) (e:Expr) (j5:Pos):Prop where
 af:mZ o m X.env (eval o X.env)=eval o X.env
 sZ:((iW j5 (c0 [e] X.env)).all (λx=>!x.1)&&(oS j5 (oT [] X.env)).all (λx=>x.1.isSome)
  &&decide (([e]:List Expr).length+([]:List nJ).length+(if ([]:List nJ).isEmpty then 0 else 1)<30))=true
 line:(apos.endLine==j5.line)=true
 trees:iW j5 (c0 [e] X.env)=[(false,eval e X.env)]
structure M2 (X:Cx) (o:Expr) (m:Str) (apos:Pos) (e f:Expr) (j5:Pos):Prop where
 af:mZ o m X.env (eval o X.env)=eval o X.env
 sZ:((iW j5 (c0 [e,f] X.env)).all (λx=>!x.1)&&(oS j5 (oT [] X.env)).all (λx=>x.1.isSome)
  &&decide (([e,f]:List Expr).length+([]:List nJ).length+(if ([]:List nJ).isEmpty then 0 else 1)<30))=true
 line:(apos.endLine==j5.line)=true
 trees:iW j5 (c0 [e,f] X.env)=[(false,eval e X.env),(false,eval f X.env)]
section
variable {X:Cx} {pins:List (Addr×Obj)} {σ:St} {H:Hp} {s:aL} {a:Addr} {y d:V} {u r:Value} {o:Option V} {A:cC} {E:U9}
def Rm {Q:U9} (v:A.units+1<cLine) (I:aC X pins σ H s) (g:lz H a y o) (m:aG y u) (n:aG d r) (h: ∀p q,aC X pins σ H q->aG (o.getD d) p->Q p q):
   wpAny (model X.prog X.w) A (call (.builtin "dict.get") [.ref a,u,r]) Q E s:=by
 rcases g with ⟨i,k,e,j,l⟩| ⟨i,k,b,e,j,w,l⟩
 . subst j;obtain ⟨z,hd,B,c,dd⟩:=Bt I.be e;refine call_meetsIn Ff dd.typeIs PySem.F.entry_dict_get (PySem.F.args_dict_get_3 _ _ _) (meets_dict_get_default (jR X.prog X.w) a (Bs m) hd r) ⟨_,dd.mapOf,h _ _ (I.tok _) ?_⟩;rw [l];exact (c.val k).getD n
 . subst j;cases (show u=dN b from m);obtain ⟨z,hd,x,c,dd⟩:=Bu I.be e;refine call_meetsIn Ff dd.typeIs PySem.F.entry_dict_get (PySem.F.args_dict_get_3 _ _ _) (meetsH_dict_get_default (oI (jR X.prog X.w)) a b hd r) ⟨C6 v,k,x,Zw I.be w,dd,h _ _ (I.tok _) ?_⟩;rw [l];exact (c.val k).getD n
end
end L2
namespace Att
open PySem PySem.W PySem.Calls PyProof.Rows
def ZB {P:Params} {h:Heap}: ∀(c:List Int) (e:List Value),WellAll P h e (c.map WData.int)->IntsAre e c:=by
 intro c
 induction c with
 |nil=>
  intro e w;cases w;exact .nil
 |cons n c g=>
  intro e w
  cases w with
  |cons a b=>
   cases a;exact .cons _ _ (g _ b)
def vZ {l:Bv} {n:Nat} (w:l.most=some n) {P:Params} {h:Heap} {args:List WData} {c:List Value}
  (e:l.row.toRowW.claim.pre args=true) (o:WellAll P h c args):
  ∃a v g,c=[dN a]/\args=[WData.list (g.map WData.int)]/\h.get? a=some {cls:= .type "list",data:= .seq v.toArray}/\IntsAre v g/\g.length<=n:=by
 have p:=(pre_splitW e).1;have x:l.pre.holds [] {args:=args}=true:=(pre_splitW e).2;obtain ⟨d,r,rfl,y,z⟩:=hasAllW_cons p;obtain rfl:=hasAllW_nil z;obtain ⟨J,rfl,B⟩:=hasW_list y;obtain ⟨g,rfl⟩:=items_int B
 have i:g.length<=n:=by
  have m:(WTm.not (.lt (.lit (.int n)) (.len (.arg 0)))).holds [] {args:=[.list (g.map .int)]}=true:=by
   have m:=(holds_andW x).1;rw [w] at m;exact m
  have u:=condW_of m (w_not (w_lt w_lit (w_len_list (w_arg rfl))));refine C7 λq=>?_
  first
   | (rw [decide_eq_true L] at u;exact absurd u (by decide))
   | (simp at u;omega)
 cases o with
 |cons E H=>
  cases H
  cases E with
  |list I j=>exact ⟨_,_,g,rfl,rfl,I,ZB g _ j,i⟩
def uB (l:Bv) (args:List WData):l.row.toRowW.claim.post args (.bool true) args=true:=
 postW_of
  (by first|rfl|decide|simp [WShape.has,WShape.arms,WShape.armsAll])
  (w_eq_bool (w_res rfl) w_lit) rfl
end Att
namespace L2
open PySem PySem.Spec PyProof.Rows
theorem X6: ∀ {a:List Value} {c:List Int},IntsAre a c->aK (c.map V.int) a
 |_,_,.nil=> .nil
 |_,_,.cons n t h=> .cons ⟨t,rfl⟩ (X6 h)
def wa (H:Hp):Prop:= ∀b,H b=none\/ ∃o a,H b=some (.eH o (.ai a))
def Rn {P:cp} {w:World} {K:aH} {Z mb:WV} {CX:pO} {k:Nat} {fa a:Addr} {fd:oR} {x:Str} {sp:Sp} {c:aL} {E:List Value} {I:List Int}
  (KX:K.In c.heap) (J:c.heap.Ns ce Z) (i:c.heap.Ns builtinsNs mb) (Fg: ∀x:Str,x≠ "__name__" ->mb x=mV x) (L:c.heap.NoLimit) (hg:c.gens= #[])
  (ha:c.heap.get? a=some {cls:= .type "list",data:= .seq E.toArray}) (hi:IntsAre E I) (hl:I.length<=aS) (hr:aT k callerA)
  (F: ∀j:Heap,K.In j->j.Ns ce Z->dG P w K Z j CX k fa fd [x] sp) (B: ∀(s:aL) (u:Value),BindsTo s fd ⟨[u],[]⟩ [(x,u)])
  (Ro: ∀H:Hp,wa H->fV K H a (I.map V.int)->sp [.ref a] H (λv _=>v= .bl true) λ_ _ _=>False)
  (Rp: ∀H e l,CX [] H c (λ_ _ _=>False) e l->False):
  pM (model P w) callerA (.call (.ref fa) ⟨[.ref a],[]⟩) (λr l=>r= .ok (.ret (.bool true))/\OldK c.heap l.heap/\l.os=c.os/\rZ l.gens) c:=by
 have rv:=X6 hi;have N:=hi.length
 have y: ∀H:Hp,wa H->fV K H a (I.map V.int)->gr P w H c.heap->(∀b,H b≠none->b=a)->(H a≠none->K.lookup a=none)->
    pM (model P w) callerA (.call (.ref fa) ⟨[.ref a],[]⟩) (λr l=>r= .ok (.ret (.bool true))/\OldK c.heap l.heap/\l.os=c.os/\rZ l.gens) c:=by
  intro H hO hS O hA hK;have g: ∀ {b:Addr} {o:Obj},c.heap.get? b=some o->H b=none->(mU c.heap H).get? b=some o:=λe n=>OF e n
  have jO: ∀ {b:Addr} {o:Obj} {es:Array DictEntry} {ep:Nat},c.heap.get? b=some o->o.data= .dict es ep->H b=none:=λ{b o es ep} e d=>by
    cases q:H b with
    |none=>rfl
    |some u=>
      have e':=hA b (by rw [q];simp);subst e';rw [ha] at e;cases e;have d':=d;cases d'
  have p: ∀ {b:Addr} {m:WV},c.heap.Ns b m->(mU c.heap H).Ns b m:=λ{b m} ⟨o,es,ep,e,d,r⟩=>⟨o,es,ep,g e (jO e d),d,r⟩
  have Q:K.In (mU c.heap H):=λb o e=>g (KX b o e) (by
    cases q:H b with
    |none=>rfl
    |some u=>
      have e':=hA b (by rw [q];simp);subst e'
      rw [hK (by rw [q];simp)] at e;cases e)
  have hM:Mod K Z (mU c.heap H):=⟨Q,p J,⟨mb,p i,Fg⟩,let ⟨mc,h1,h2⟩:=L;⟨mc,p h1,h2⟩⟩
  refine Ao ((F _ Q (p J)).run callerA [] c H ⟨[.ref a],[]⟩ [.ref a] [.ref a] _ _ hr (⟨rfl,hM,λb o e=>OG e,Nat.le_of_eq (OE _ _),trivial,λb i=>absurd (show b∈([]:List Addr) from i) (by simp),O,.of_eq hg⟩) (B c (.ref a)) (.cons rfl .nil) (Ro H hO hS)) λr l h=>?_
  cases r with
  |error e=>exact (Rp H e l h).elim
  |ok fl=>
    cases fl with
    |next=>exact oP h
    |brk=>exact oP h
    |cont=>exact oP h
    |ret u=>
      obtain ⟨v,H',os,bare,un,U,r',q⟩:=h;have q':=q;subst q';obtain rfl:u=pj true:=r';refine ⟨rfl,OldK.of_keep λb o e=>?_,os,bare⟩
      cases q:H b with
      |none=>exact un.keep b o e q (by intro z;exact absurd (show b∈([]:List Addr) from z) (by simp)) (by simp)
      |some u=>
       rcases hO b with z| ⟨ob,xs,z⟩
       . rw [q] at z;cases z
       . have z2:=un.ls b ob _ z;obtain ⟨e1,_⟩:=O b _ z;obtain ⟨e2,_⟩:=U b _ z2;rw [e] at e1;cases e1;exact e2
 cases hk:K.lookup a with
 |some o=>
  have e:=KX a o hk;rw [ha] at e;cases e;refine y (λ_=>none) (λ_=> .inl rfl) (.inr ⟨_,E.toArray,_,hk,rfl,rfl,rfl,by rw [dj,N];exact hl,by simpa using rv⟩) (λb u z=>by have Y:none=some u:=z;cases Y) (λb z=>absurd rfl z) λz=>absurd rfl z
 |none=>
  refine y (λb=>if b=a then some (.eH {cls:= .type "list",data:= .seq E.toArray} (.ai (I.map V.int))) else none) (λb=>?_) (.inl (.inr ⟨{cls:= .type "list",data:= .seq E.toArray},if_pos rfl⟩)) (λb u z=>?_) (λb z=>?_) λ_=>hk
  . by_cases i:b=a
    . exact .inr ⟨_,_,if_pos i⟩
    . exact .inl (if_neg i)
  . by_cases i:b=a
    . have Y:=(if_pos i).symm.trans z;cases Y;subst i;exact ⟨ha,by rw [bM];exact hl,E,_,rv,ha⟩
    . have Y:=(if_neg i).symm.trans z;cases Y
  . by_cases i:b=a
    . exact i
    . exact absurd (if_neg i) z
def zX (s:Stmt) (j:Nat):Stmt:=match s with
 | .ClassDef _ _ _ a _ _ _ _ _ _ _=>a.getD j (.Pass ⟨0,0,0,0⟩)
 |_=> .Pass ⟨0,0,0,0⟩
def yc (s:Stmt):Arguments:=match s with
 | .FunctionDef _ a _ _ _ _ _ _ _ _=>a
 |_=> {posonlyargs:=[],args:=[],vararg:=none,kwonlyargs:=[],kw_defaults:=[],kwarg:=none,defaults:=[]}
def qD (s:Stmt):List Stmt:=match s with
 | .FunctionDef _ _ b _ _ _ _ _ _ _=>b
 |_=>[]
def ji (s:Stmt):Scope:=match s with
 | .FunctionDef _ _ _ _ _ _ a _ _ _=>a
 |_=> {kind:= .function,names:=[],isGenerator:=false,isCoroutine:=false}
abbrev lB:pO:=λ_ _ _ _ _ _=>False
abbrev E0:XK:=λ_ _ _=>False
def kq {X:Cx}:yx lB X E0:=λ_ _ _ _ _ _ _ h=>h.elim
structure nL (K:aH) (x qual:Str) (st:Stmt) (f:Addr) (fd:oR):Prop where
 ex: ∃(oc:Value) (od:Option Addr) (kV doc pm:Value) (an:Option Addr) (Bw ct:Value) (E5:Array (Option Value)),
  fd=rO x qual (yc st) (qD st) (ji st) .none kV doc pm an Bw ct/\K.lookup f=some ⟨oc,od,.func fd,E5⟩/\Aq K Bw qual=true
 kp:lU K (.ref f)=true
section
variable {P:cp} {w:World} {K:aH} {mg:WV} {af:Heap}
def nL.ok {x a:Str} {st:Stmt} {f:Addr} {m:oR} {N ps:List Str} {k:Nat} {i:Sp} (F:nL K x a st f m) (S:au N ps (ji st)) (len: ∀e H Q E,i e H Q E->e.length=ps.length)
  (g: ∀(c:Value) (A:cC) (outer:List Env) (s:aL) (H:Hp) (e:List V) (Q:VK) (E:XK),aT k (A.deeper (mJ a (ji st) s.heap.objs.size f c))->i e H Q E->
   ∃t,gS (gH lB P w K mg af N a (ji st) f c A outer s H E).oO (qD st) t/\t {nx:=λ_ n=>Q .a6 n,rt:=Q} (start N e) H):dG P w K mg af lB (k+1) f m ps i:=by
 obtain ⟨r,u,kV,o,v,y,c,ct,p,rfl,lk,j⟩:=F.ex;refine PZ lk j S len λA outer s H e Q E hr l=>?_
 obtain ⟨t,h,q⟩:=g c A outer s H e Q E hr l;exact ⟨t,h.oO,q⟩
def nL.binds {x a:Str} {st:Stmt} {f:Addr} {l:oR} {ps:List Str} (F:nL K x a st f l)
  (h: ∀(kV c g:Value) (i:Option Addr) (e ct:Value) (j:List Value),j.length=ps.length->bindArgs (rO x a (yc st) (qD st) (ji st) .none kV c g i e ct) ⟨j,[]⟩=pure (ps.zip j)):Binds K l ps []:=by
 obtain ⟨o,p,kV,c,g,i,e,ct,m,rfl,lk,n⟩:=F.ex;exact .all (h kV c g i e ct)
def IQ {x a:Str} {st:Stmt} {f:Addr} {n:Value} {o i:Option Addr} {h:Array (Option Value)} {kV g j e m:Value} (l:K.lookup f=some ⟨n,o,.func (rO x a (yc st) (qD st) (ji st) .none kV g j i e m),h⟩)
 (c:Aq K e a=true) (k:lU K (.ref f)=true):nL K x a st f (rO x a (yc st) (qD st) (ji st) .none kV g j i e m):=⟨⟨n,o,kV,g,j,i,e,m,h,rfl,l,c⟩,k⟩
end
def QA {A:cC} {k:Nat} (a:aT k A):A.units+1<cLine:=Fi (Fj (by decide) _) a.units
def aq (H a:Hp):Prop:= ∀b o,H b=some o->a b=some o
def aq.refl (H:Hp):aq H H:=λ_ _ h=>h
def aq.trans {H e H2:Hp} (a:aq H e) (b:aq e H2):aq H H2:=λc o h=>b c o (a c o h)
def aq.free {H a:Hp} (e:aq H a) {l:Addr} (h:a l=Option.none):H l=Option.none:=by
 cases q:H l with
 |none=>rfl
 |some o=>
  rw [e l o q] at h;cases h
end L2
set_option autoImplicit true
set_option relaxedAutoImplicit true
namespace L2
open PySem PySem.Spec PyProof.Rows
section
variable {X:Cx} {Z:List (Addr×Obj)} {Y:St} {H:Hp} {s:aL} {E:U9}
def wb {i:Nat} {g:Pos} (I:aC X Z Y H s) (hN:X.N[i]?=some x) (o:gs X.env.scope x) (e:Y[i]?=some (some v)) (h: ∀u,aG v u->Q u s)
   (hd:Yi x:=by decide) (j:Yh x:=by decide):wpAny (model X.prog X.w) X.A (eval (.Name x g) X.env) Q E s:=by
 obtain ⟨m,p,q⟩:=I.loc;obtain ⟨u,r,l⟩:=q i x v hN e o;rcases l with ⟨hk,w⟩| ⟨hk,c,n,a⟩
 . exact Ak (Ew I.ok.kind hk p w (h u r)) hd
 . rcases hk with hk|hk
   . exact Ak (Ex I.ok.kind hk n a (h u r)) hd
   . exact Ak (wpAny_loadName_free I.ok.kind hk n a (h u r) j) hd
def XE {i:Nat} {j:Pos} (I:aC X Z Y H s) (hN:X.N[i]?=some x) (q:gs X.env.scope x) (e:Y[i]?=some (some (.ref a)))
  (w:H a=some (.ins C dx fs)) (c:gl X.K C) (n:eK X.K C f) (l:fs.lookup f=some v) (y:mZ (.Name x p) f X.env (eval (.Name x p) X.env)=eval (.Name x p) X.env) (h: ∀u,aG v u->Q u {s with toks:=s.toks+1})
  (hd:Yi x:=by decide) (m:Yh x:=by decide):wpAny (model X.prog X.w) X.A (eval (.Attribute (.Name x p) f j) X.env) Q E s:=by
 refine IC y (wb I hN q e (λu g=>?_) hd m);cases g;obtain ⟨z,O,r,_,_,_⟩:=ZE I.be w;obtain ⟨u,B,g⟩:=fj.some_of (v:=v) (o:=z f) (by rw [<-l];exact r f);exact IB I.ii O (c.get f) c.hd n B (YZ g) (h u g)
def Rw (ok:gr X.prog X.w H s.heap) (k:M.NK): ∀v u,eC H k v->aG v u->M.NK.at s.heap k u:=by
 induction k using M.NK.ind with
 |h1 i=>intro v u x r;simp only [eC] at x;subst x;exact M.c9.mpr r
 |h2 z=>intro v u x r;simp only [eC] at x;subst x;exact M.da.mpr r
 |h3 l g=>
  intro v u x r;simp only [eC] at x;obtain ⟨b,c,rfl,j,y⟩:=x;cases r;obtain ⟨_,a,m,p⟩:=(show bi X.prog X.w H s.heap b (.am c) from ok b _ j)
  refine M.dc.mpr ⟨b,a.toArray,rfl,p,?_⟩
  have go: ∀(l:List M.NK) (c:List V) (a:List Value),(∀k∈l,∀v u,eC H k v->aG v u->M.NK.at s.heap k u)->eI H l c->aK c a->M.NK.nO s.heap l a:=by
   intro l
   induction l with
   |nil=>
    intro c a _ h r;simp only [eI] at h;subst h;cases r;exact M.gk.mpr rfl
   |cons k l e=>
    intro c a f h r;simp only [eI] at h;obtain ⟨u,B,rfl,h1,h2⟩:=h
    cases r with
    |cons n o=>exact M.dq.mpr ⟨_,_,rfl,f k cu _ _ h1 n,e _ _ (λq w=>f q (de _ w)) h2 o⟩
  simpa using go l c a g y m
def YR (ok:gr X.prog X.w H s.heap) (x:eC H k (.ref c)) (hd:k.bU<=8):(M.jH X.prog X.w).is s.heap k c:=⟨Rw ok k _ _ x rfl,hd⟩
structure ou (X:Cx) (H:Hp) (h:Heap) (b:Addr) (B:List M.NK) (Φ:M.NK->M.NV->Prop) (xs:List (M.NK×Addr×Value)):Prop where
 len:B.length<aS
 sys:(b==nG)=false
 all: ∀x∈xs,x.1∈B/\eC H x.1 (.ref x.2.1)/\x.1.bU<=8/\ ∃v nv,aG v x.2.2/\lr H nv v/\Φ x.1 nv
 dict:h.DictOfH (M.jH X.prog X.w) b xs
def IR (ok:gr X.prog X.w H s.heap) (g:H b=some (.memo B c)): ∃a,ou X H s.heap b B c a:=by
 obtain ⟨z,y,a,r,o,h,i,j,l,m,n,p⟩:=(show bi X.prog X.w H s.heap b (.memo B c) from ok b _ g)
 exact ⟨a,z,y,r,o,h,i,j,l,m,n,λx e=>YR ok (r x e).2.1 (r x e).2.2.1,p⟩
def ou.sZ (m:ou X H h b B r g):g.length<=B.length:=by
 obtain ⟨o,u,v,w,y,h3,z,I,nd⟩:=m.dict
 have go: ∀(l B:List M.NK),l.Nodup->(∀k∈l,k∈B)->l.length<=B.length:=by
  intro l
  induction l with
  |nil=>intro B _ _;exact li _
  |cons k l n=>
   intro B nd i;have a:=py.mp nd;have c:=i k cu;have:=n (B.erase k) a.2 λq j=>(Fk λe=>a.1 (by rw [<-e];exact j)).mpr (i q (de _ j))
   rw [Fl c] at this;have J:0<B.length:=Fm c;rw [fR];omega
 have:=go (g.map (·.1)) B nd λk c=>by
  obtain ⟨x,p,rfl⟩:=cK.mp c;exact (m.all x p).1
 rwa [bM] at this
def tf (X:Cx) (H:Hp) (h:Heap) (b:Addr) (B:List M.NK) (c:M.NK->M.NV->Prop) (k:M.NK):Prop:= ∃a p,ou X H h b B c a/\atKey a k=some p
def IS {K:Type} [DecidableEq K] {a:List (K×Addr×Value)} {k:K} {p:Addr×Value} (h:atKey a k=some p):(k,p)∈a:=by
 unfold atKey at h;rw [sX] at h;obtain ⟨q,c,rfl⟩:=h;have e:=List.mem_of_find?_eq_some c;have g:=List.find?_some c;have:q.1=k:=by simpa using g
 rw [<-this];exact e
def Rx {K:Type} [DecidableEq K] {xs:List (K×Addr×Value)} {k:K} {a:Addr} {v:Value}: ∃p,atKey (pA xs k a v) k=some p:=by
 have:((pA xs k a v).find? λx=>decide (x.1=k)).isSome=true:=by
  rw [List.find?_isSome];unfold pA
  split
  . rename_i h;obtain ⟨p,c⟩:=CZ.mp h;exact ⟨_,cK.mpr ⟨_,IS c,rfl⟩,by simp [putAt]⟩
  . exact ⟨(k,a,v),by simp,by simp⟩
 obtain ⟨p,c⟩:=CZ.mp this;exact ⟨p.2,by unfold atKey;rw [c];rfl⟩
def U3 {K:Type} [DecidableEq K] {c:List (K×Addr×Value)} {k:K} {a:Addr} {v:Value} {x:K×Addr×Value} (h:x∈pA c k a v):x∈c\/x=(k,a,v)\/ ∃y∈c,y.1=k/\x=(k,y.2.1,v):=by
 unfold pA at h
 split at h
 . obtain ⟨y,g,rfl⟩:=cK.mp h;unfold putAt
   split
   . rename_i e;exact .inr (.inr ⟨y,g,e,by rw [e]⟩)
   . exact .inl g
 . rcases ij.mp h with h|h
   . exact .inl h
   . exact .inr (.inl (by simpa using h))
variable {A:cC} {b c:Addr} {B:List M.NK} {Φ:M.NK->M.NV->Prop} {k:M.NK}
def KB (a:A.units+9<cLine):(M.jH X.prog X.w).room A.in1:=by
 show A.in1.units+8<cLine;have:A.in1.units=A.units+1:=rfl;omega
def VE (h:H b=some o):aU H b o=H:=by
 funext x
 by_cases e:x=b
 . subst e;rw [jy];exact h.symm
 . rw [jY e]
def IT {Q:Unit->aL->Prop} {v:V} {g:M.NV} (hu:A.units+9<cLine) (I:aC X Z Y H s) (l:H b=some (.memo B Φ)) (o:eC H k (.ref c)) (hd:k.bU<=8) (u:k∈B) (w:lr H g v) (i:Φ k g) (J:aG v r)
  (h: ∀n,aC X Z Y H n->tf X H n.heap b B Φ k->Q () n):wpAny (model X.prog X.w) A (setItem (.ref b) (.ref c) r) Q E s:=by
 obtain ⟨L,m⟩:=IR I.be l;refine wpAny_setItem_heap (hsz:=cE m.sZ (A0 m.len)) (KB hu) (YR I.be o hd) m.dict λh' j hs=>?_
 have all: ∀x∈pA L k c r,x.1∈B/\eC H x.1 (.ref x.2.1)/\x.1.bU<=8/\ ∃v g,aG v x.2.2/\lr H g v/\Φ x.1 g:=by
  intro x hx;rcases U3 hx with z|rfl| ⟨y,hy,e,rfl⟩
  . exact m.all x z
  . exact ⟨u,o,hd,v,g,J,w,i⟩
  . obtain ⟨_,N,_⟩:=m.all y hy;rw [e] at N;exact ⟨u,N,hd,v,g,J,w,i⟩
 obtain ⟨p,hp⟩:=Rx (xs:=L) (k:=k) (a:=c) (v:=r);have dd:=j;obtain ⟨q,es,ep,O,h2,h3,h4,_,h5⟩:=j
 have U:aC X Z Y (aU H b (.memo B Φ)) {s with heap:=h',toks:=s.toks+(M.jH X.prog X.w).draws k}:=by
  refine Vp I (by rw [l];exact pw) hs ⟨q,O⟩ ⟨m.len,m.sys,_,?_,q,es,ep,O,h2,h3,h4,h5⟩;rw [VE l];exact all
 rw [VE l] at U;exact h _ U ⟨_,p,⟨m.len,m.sys,all,dd⟩,hp⟩
def IU {Q:U9} (j:A.units+9<cLine) (I:aC X Z Y H s) (l:eC H k (.ref c)) (hd:k.bU<=8) (n:tf X H s.heap b B Φ k)
  (h: ∀a e,aC X Z Y H e->(∃v g,aG v a/\lr H g v/\Φ k g)->Q a e):wpAny (model X.prog X.w) A (pP (.ref b) (.ref c)) Q E s:=by
 obtain ⟨o,p,m,i⟩:=n;exact wpAny_getItem_heap (KB j) (YR I.be l hd) m.dict i (h _ _ (I.tok _) (m.all _ (IS i)).2.2.2)
def YL (i:A.units+9<cLine) (I:aC X Z Y H s) (j:H b=some (.memo B Φ)) (l:eC H k (.ref c)) (hd:k.bU<=8)
  (h: ∀a y,aC X Z Y H a->(y=false->tf X H a.heap b B Φ k)->Q (.bool y) a):wpAny (model X.prog X.w) A (h9 .NotIn (.ref c) (.ref b)) Q E s:=by
 obtain ⟨g,m⟩:=IR I.be j;refine wpAny_notIn_heap (KB i) (YR I.be l hd) m.sys m.dict (h _ _ (I.tok _) λe=>?_);obtain ⟨p,n⟩:=CZ.mp (by simpa using e:(atKey g k).isSome=true);exact ⟨g,p,m,n⟩
def Ry (K:aH) (i j:Nat) (f:Str) (l:TE):TS:=λD Y H=> ∃(a C dx b c:Addr) (fs:List (Str×V)) (k:M.NK) (B:List M.NK) (Φ:M.NK->M.NV->Prop),Y[i]?=some (some (.ref a))/\H a=some (.ins C dx fs)/\gl K C/\eK K C f/\fs.lookup f=some (.ref b)/\
 H b=some (.memo B Φ)/\Y[j]?=some (some (.ref c))/\eC H k (.ref c)/\k.bU<=8/\k∈B/\(∀e v,Φ k e->lr H e v->D.rt v H)/\l Y H λv g=>aq H g/\(∃e,lr g e v/\Φ k e)/\ ∀e h,Φ k e->lr g e h->D.rt h g
def Rz (hu:X.A.units+9<cLine) (he:PE X e te) (o:X.N[i]?=some x) (q:gs X.env.scope x) (w:X.N[j]?=some y) (J:gs X.env.scope y)
  (Fn:mZ (.Name x p2) f X.env (eval (.Name x p2) X.env)=eval (.Name x p2) X.env) (Bx:mZ (.Name x p6) f X.env (eval (.Name x p6) X.env)=eval (.Name x p6) X.env) (Fo:mZ (.Name x q1) f X.env (eval (.Name x q1) X.env)=eval (.Name x q1) X.env)
  (hm:rL .NotIn (.Attribute (.Name x p2) f p3)=false) (hs:mH e (some (.Subscript (.Attribute (.Name x p6) f p7) (.Name y p8) p9)) p5.line X.env=pure false)
  (hd:Yi x) (L:Yh x) (N:Yi y) (g:Yh y):
  gS X [.If (.Compare (.Name y p1) [.NotIn] [.Attribute (.Name x p2) f p3] p4) [.Assign [.Subscript (.Attribute (.Name x p6) f p7) (.Name y p8) p9] e p5] [] q6,.Return (some (.Subscript (.Attribute (.Name x q1) f q2) (.Name y q3) q4)) q5] (Ry X.K i j f te):=by
 rintro Z s Y H D I ⟨a,C,dx,b,c,fs,k,B,Φ,ei,ha,hC,hn,hl,hb,ej,hk,O,hB,hit,h⟩
 have fin: ∀(n:Hp) (Q:aL),aq H n->aC X Z Y n Q->tf X n Q.heap b B Φ k->(∀nv v',Φ k nv->lr n nv v'->D.rt v' n)->wpAny (model X.prog X.w) X.A (execs [.Return (some (.Subscript (.Attribute (.Name x q1) f q2) (.Name y q3) q4)) q5] X.env) (SP X Z D) X.xe Q:=by
  intro n Q U I1 hh rt;refine sQ (wpAny_Return_some (vO (T:= "dict") Fp.lookup (λ_ _=>rfl) (XE I1 o q ei (U _ _ ha) hC hn hl Fo (λu l=>?_) hd L)));cases l;refine wb (I1.tok _) w J ej (λu l=>?_) N g;cases l;have RA:=eC.mono (λc ys=>U c _) k _ hk;obtain ⟨xs,p,m,hp⟩:=hh;refine ⟨m.dict.typeIs,IU hu (I1.tok _) RA O (b:=b) (B:=B) (Φ:=Φ) ⟨xs,p,m,hp⟩ λw' s' I' ⟨v,nv,r1,r2,r3⟩=>⟨v,Y,n,I',r1,rt nv v r3 r2⟩⟩
 refine sQ (wpAny_If (EV (wb I w J ej (λu l=>?_) N g) hm));cases l;refine XE I o q ei ha hC hn hl Fn (λu l=>?_) hd L;cases l;refine YL hu (I.tok _) hb hk O λQ z I1 hz=>oM ?_
 cases z with
 |false=>exact sP (fin H Q (λ_ _ e=>e) I1 (hz rfl) hit)
 |true=>
  refine sQ (Fe (bA (he Z Q Y H _ I1 h) λr s2 ⟨v,n,I2,rv,U,⟨nv,hv,Fq⟩,rt⟩=>XE I2 o q ei (U _ _ ha) hC hn hl Bx (λu l=>?_) hd L) hs);cases l;refine wb (I2.tok _) w J ej (λu l=>?_) N g;cases l;exact IT hu (I2.tok _) (U _ _ hb) (eC.mono (λc ys=>U c _) k _ hk) O hB hv Fq rv λs3 I3 hh=>sP (fin n s3 U I3 hh rt)
end
end L2
local macro_rules|`(tactic|nomatch $x)=>`(tactic|with_unfolding_all exact $x)
namespace M
open PySem PySem.Spec L2
open PyProof.Rows hiding St
def gu {a:Scope} {x:Str} (h:(match a.names.lookup x with|some .local=>true|some .cell=>true|some .free=>true|_=>false)=true):gs a x:=by
 unfold gs
 cases e:a.names.lookup x with
 |none=>rw [e] at h;cases h
 |some k=>rw [e] at h;cases k<;>simp at h ⊢
def pU {a:Scope} {x:Str} (h:(match a.names.lookup x with|some .local=>true|some .cell=>true|_=>false)=true):L2.Loc a x:=by
 unfold L2.Loc
 cases e:a.names.lookup x with
 |none=>rw [e] at h;cases h
 |some k=>rw [e] at h;cases k<;>simp at h ⊢
inductive D where
 |a6|bl (b:Bool)|int (i:Int)|str (x:Str)
 |am (ds:List D)|ai (ds:List D)|gv (ds:List D)|dr (ks:List aR) (vs:List D)|bX (ks:List (List aR)) (vs:List D)|lV (c:Str)|mL (ks:List aR) (vs:List D)|mM (ks:List aR) (vs:List D)|obj (c:Str) (ns:List Str) (vs:List D)|mem (B:List NK) (Φ:NK->NV->Prop)|fG (ds:List D)
mutual
noncomputable def D.ll:D->Bool
 | .a6=>true
 | .bl _=>true
 | .int _=>true
 | .str _=>true
 | .am ds=>D.gw ds
 | .ai _=>false
 | .gv _=>false
 | .dr _ _=>false
 | .bX _ _=>false
 | .lV _=>true
 | .mL _ _=>false
 | .mM _ _=>false
 | .obj _ _ _=>false
 | .mem _ _=>false
 | .fG _=>false
noncomputable def D.gw:List D->Bool
 | []=>true
 |d::ds=>D.ll d&&D.gw ds
end
inductive ak (α:Type) where
 |ok (a:α)
 |exc (c:Str)
 |aj
noncomputable def ak.bind {e g:Type} (r:ak e) (f:e->ak g):ak g:=
 match r with
 | .ok a=>f a
 | .exc c=> .exc c
 | .aj=> .aj
instance:Monad ak where
 pure:=ak.ok
 bind:=ak.bind
def zY {c e:Type} {a:c} {f:c->ak e}:(ak.ok a>>=f)=f a:=rfl
def jd {e g:Type} {r:ak e} {f:e->ak g} {b:g} (h:(r>>=f)= .ok b): ∃a,r= .ok a/\f a= .ok b:=by
 cases r with
 |ok a=>exact ⟨a,rfl,h⟩
 |exc c=>cases h
 |aj=>cases h
noncomputable def a5 {a:Type} (c:Prop) [Decidable c] (r:ak a):ak a:=if c then r else .aj
def ju {g:Type} {c:Prop} [Decidable c] {r:ak g} {a:g} (h:a5 c r= .ok a):c/\r= .ok a:=by
 unfold a5 at h
 by_cases e:c
 . rw [if_pos e] at h;exact ⟨e,h⟩
 . rw [if_neg e] at h;cases h
def jn {a:Type} {c:Prop} [Decidable c] {r:ak a} (h:c):a5 c r=r:=if_pos h
def pV (K:aH) (H:Hp) (a:Addr) (e:List V):Prop:=
 (∃o,H a=some (.eH o (.ai e)))\/
  ∃(o:Obj) (c:Array Value) (n:Nat),K.lookup a=some o/\o.cls= .type "list" /\o.dict=none/\o.data= .seq c n/\c.size<=aS/\aK e c.toList
def pV.rS {K:aH} (h:pV K H a c):fV K H a c:=by
 rcases h with h|h
 . exact .inl (.inr h)
 . exact .inr h
def oV:D->List D
 | .am ds=>ds
 |_=>[]
mutual
inductive aN (K:aH):(Addr->Prop)->Hp->V->D->Prop where
 |a6 {A H}:aN K A H .a6 .a6
 |bl {A H} (b:Bool):aN K A H (.bl b) (.bl b)
 |int {A H} (i:Int):aN K A H (.int i) (.int i)
 |str {A H} (x:Str):x.length<=aS->aN K A H (.str x) (.str x)
 |am {A H} {a:Addr} {xs:List V} {ds:List D}:H a=some (.am xs)->ao K A H xs ds->aN K A H (.ref a) (.am ds)
 |ai {A H} {a:Addr} {xs:List V} {ds:List D}:H a=some (.ai xs)->A a->ao K (λc=>A c/\c≠a) H xs ds->aN K A H (.ref a) (.ai ds)
 |Fs {A H} {a:Addr} {xs:List V} {ds:List D}:pV K H a xs->ao K A H xs ds->aN K A H (.ref a) (.gv ds)
 |dr {A H} {a:Addr} {kvs:List (aR×V)} {vs:List V} {ks:List aR} {ds:List D}:H a=some (.dK kvs)->A a->kvs.map (·.1)=ks->kvs.map (·.2)=vs->ao K (λc=>A c/\c≠a) H vs ds->aN K A H (.ref a) (.dr ks ds)
 |bX {A H} {a:Addr} {kvs:List ((List aR)×V)} {vs:List V} {ks:List (List aR)} {ds:List D}:H a=some (.dT kvs)->A a->kvs.map (·.1)=ks->kvs.map (·.2)=vs->ao K (λc=>A c/\c≠a) H vs ds->aN K A H (.ref a) (.bX ks ds)
 |lV {A H} {a b C:Addr} {o:Obj} {c:Str}:H a=some (.eH o (.ay b))->o.cls= .ref C->cF K ce c=some (some (.ref C))->aN K A H (.ref a) (.lV c)
 |mL {A H} {a:Addr} {kvs:List (aR×V)} {vs:List V} {ks:List aR} {ds:List D}:((H a=some (.dK kvs)/\A a)\/ ∃o,H a=some (.eH o (.dK kvs)))->kvs.map (·.1)=ks->kvs.map (·.2)=vs->ao K (λc=>A c/\c≠a) H vs ds->aN K A H (.ref a) (.mL ks ds)
 |mM {A H} {a:Addr} {kvs:List (aR×V)} {vs:List V} {ks:List aR} {ds:List D}:(∃o,H a=some (.eH o (.dK kvs)))->kvs.map (·.1)=ks->kvs.map (·.2)=vs->ao K (λc=>A c/\c≠a) H vs ds->aN K A H (.ref a) (.mM ks ds)
 |obj {A H} {a C dx:Addr} {fs:List (Str×V)} {vs:List V} {c:Str} {ns:List Str} {ds:List D}:H a=some (.ins C dx fs)->A a->(cF K ce c=some (some (.ref C))/\fs.map (·.1)=ns)->fs.map (·.2)=vs->ao K (λc=>A c/\c≠a) H vs ds->aN K A H (.ref a) (.obj c ns ds)
 |mem {A H} {a:Addr} {B:List NK} {Φ:NK->NV->Prop}:H a=some (.memo B Φ)->A a->aN K A H (.ref a) (.mem B Φ)
 |fG {A H} {a:Addr} {rs:List (Addr×List V)} {ds es:List D}:H a=some (.fG rs)->A a->rs.map (λr=>r.2.length)=ds.map (λd=>(oV d).length)->ds.flatMap oV=es->ao K (λc=>A c/\c≠a) H (rs.flatMap (·.2)) es->aN K A H (.ref a) (.fG ds)
inductive ao (K:aH):(Addr->Prop)->Hp->List V->List D->Prop where
 |nil {A H}:ao K A H [] []
 |cons {A H} {v:V} {d:D} {vs:List V} {ds:List D}:aN K A H v d->ao K A H vs ds->ao K A H (v::vs) (d::ds)
end
def iY (A:VJ) (H c:Hp):Prop:= ∀a o,H a=some o->(pk (some o)->A a)->c a=some o
def iY.mono (h:iY A H c) (w: ∀a,B a->A a):iY B H c:=λa o e m=>h a o e λz=>w a (m z)
section
variable {K:aH}
def pV.bL (h:pV K H a c) (st:iY A H Q):pV K Q a c:=by
 rcases h with ⟨o,e⟩|h
 . exact .inl ⟨o,st a _ e (λz=>z.elim)⟩
 . exact .inr h
def ao.bL (r:ao K A H c ds):iY A H Q->(∀a,A a->I a)->ao K I Q c ds:=by
 refine ao.rec (motive_1:=λA H v d _=> ∀B:Addr->Prop,iY A H Q->(∀a,A a->B a)->aN K B Q v d) (λ_ _ _=> .a6) (λb _ _ _=> .bl b) (λi _ _ _=> .int i) (λx h _ _ _=> .str x h) (λe _ r _ s w=> .am (s _ _ e λz=>z.elim) (r _ s w)) (λe a _ r _ s w=> .ai (s _ _ e λ_=>a) (w _ a) (r _ ?_ ?_)) (λe _ r _ s w=> .Fs (e.bL s) (r _ s w)) (λe a k l _ r _ s w=> .dr (s _ _ e λ_=>a) (w _ a) k l (r _ ?_ ?_)) (λe a k l _ r _ s w=> .bX (s _ _ e λ_=>a) (w _ a) k l (r _ ?_ ?_)) (λe k l _ s w=> .lV (s _ _ e λz=>z.elim) k l) (λe k l _ r _ s w=> .mL (e.elim (λz=> .inl ⟨s _ _ z.1 λ_=>z.2,w _ z.2⟩) (λz=>z.elim λ_ z=> .inr ⟨_,s _ _ z λz=>z.elim⟩)) k l (r _ ?_ ?_)) (λe k l _ r _ s w=> .mM (e.elim λ_ z=>⟨_,s _ _ z λz=>z.elim⟩) k l (r _ ?_ ?_)) (λe a k l _ r _ s w=> .obj (s _ _ e λ_=>a) (w _ a) k l (r _ ?_ ?_)) (λe a _ s w=> .mem (s _ _ e λ_=>a) (w _ a)) (λe a k l _ r _ s w=> .fG (s _ _ e λ_=>a) (w _ a) k l (r _ ?_ ?_)) (λ_ _ _=> .nil) (λ_ _ h t _ s w=> .cons (h _ s w) (t _ s w)) r I
 any_goals exact s.mono λ_ z=>z.1
 all_goals exact λ_ z=>⟨w _ z.1,z.2⟩
def aN.bL (r:aN K A H v d) (s:iY A H Q) (w: ∀a,A a->I a):aN K I Q v d:=by
 cases ao.bL (.cons r .nil) s w;assumption
def aq.bL (h:aq H Q):iY A H Q:=λa o e _=>h a o e
variable {A I:VJ} {H Q:Hp}
def aN.av (r:aN K A H v d) (h:aq H Q):aN K A Q v d:=r.bL (aq.bL h) λ_ z=>z
def ao.av (r:ao K A H v d) (h:aq H Q):ao K A Q v d:=r.bL (aq.bL h) λ_ z=>z
def aN.aO (r:aN K A H v d) (w: ∀a,A a->I a):aN K I H v d:=r.bL (λ_ _ e _=>e) w
def ao.aO (r:ao K A H v d) (w: ∀a,A a->I a):ao K I H v d:=r.bL (λ_ _ e _=>e) w
def ao.ll (r:ao K A H a ds):D.gw ds=true->ao K I H a ds:=by
 refine ao.rec (motive_1:=λ_ H v d _=>d.ll=true->aN K I H v d) (λ_=> .a6) (λb _=> .bl b) (λi _=> .int i) (λx h _=> .str x h) (λe _ r i=> .am e (r i)) ?_ ?_ ?_ ?_ (λe k l _=> .lV e k l) ?_ ?_ ?_ ?_ ?_ (λ_=> .nil) (λ_ _ h t i=>?_) r
 case refine_10=>simp only [D.gw,gF] at i;exact .cons (h i.1) (t i.2)
 all_goals intros;rename_i i;cases i
def aN.ll (r:aN K A H v d) (i:d.ll=true):aN K I H v d:=by
 cases ao.ll (.cons r .nil) (by simp [D.gw,i]);assumption
def ao.dE (r:ao K A H (v::c) ds): ∃d a,ds=d::a/\aN K A H v d/\ao K A H c a:=by
 cases r with
 |cons r t=>exact ⟨_,_,rfl,r,t⟩
def ao.j8 (r:ao K A H c (d::ds)): ∃v a,c=v::a/\aN K A H v d/\ao K A H a ds:=by
 cases r with
 |cons r t=>exact ⟨_,_,rfl,r,t⟩
def ao.wu (r:ao K A H a []):a=[]:=by cases r;rfl
def ao.gX (r:ao K A H [] ds):ds=[]:=by cases r;rfl
def ao.length (r:ao K A H vs ds):vs.length=ds.length:=by
 induction vs generalizing ds with
 |nil=>cases r.gX;rfl
 |cons v vs a=>
  obtain ⟨_,_,rfl,_,t⟩:=r.dE;simp [a t]
def ao.get {i:Nat} (r:ao K A H vs ds) (e:ds[i]?=some d): ∃v,vs[i]?=some v/\aN K A H v d:=by
 induction vs generalizing ds i with
 |nil=>cases r.gX;simp at e
 |cons v vs a=>
  obtain ⟨_,_,rfl,r,t⟩:=r.dE
  cases i with
  |zero=>simp at e;subst e;exact ⟨_,rfl,r⟩
  |succ i=>simpa using a t (by simpa using e)
def ao.get' {i:Nat} (r:ao K A H a ds) (e:a[i]?=some v): ∃d,ds[i]?=some d/\aN K A H v d:=by
 induction a generalizing ds i with
 |nil=>simp at e
 |cons v a c=>
  obtain ⟨_,_,rfl,r,t⟩:=r.dE
  cases i with
  |zero=>simp at e;subst e;exact ⟨_,rfl,r⟩
  |succ i=>simpa using c t (by simpa using e)
def ao.append (r:ao K A H a ds) (s:ao K A H c e):ao K A H (a++c) (ds++e):=by
 induction a generalizing ds with
 |nil=>cases r.gX;exact s
 |cons v a g=>
  obtain ⟨_,_,rfl,r,t⟩:=r.dE;exact .cons r (g t)
def ao.take (n:Nat) (r:ao K A H a ds):ao K A H (a.take n) (ds.take n):=by
 induction a generalizing ds n with
 |nil=>cases r.gX;simpa using .nil
 |cons v a c=>
  obtain ⟨_,_,rfl,r,t⟩:=r.dE
  cases n with
  |zero=>exact .nil
  |succ n=>exact .cons r (c n t)
def ao.drop (n:Nat) (r:ao K A H a ds):ao K A H (a.drop n) (ds.drop n):=by
 induction a generalizing ds n with
 |nil=>cases r.gX;simpa using .nil
 |cons v a c=>
  cases n with
  |zero=>exact r
  |succ n=>
   obtain ⟨_,_,rfl,r,t⟩:=r.dE;exact c n t
theorem ao.rep (r:ao K A H a ds): ∀k:Nat,ao K A H (io k a).flatten (io k ds).flatten
 |0=> .nil
 |k+1=>by
  rw [pT,pT,sW,sW];exact r.append (ao.rep r k)
def ao.isEmpty (r:ao K A H a ds):ds.isEmpty=a.isEmpty:=by cases r<;>rfl
def lC (K:aH) (A:VJ) (H:Hp) (v:V):D->Prop
 | .a6=>v= .a6
 | .bl b=>v= .bl b
 | .int i=>v= .int i
 | .str x=>v= .str x/\x.length<=aS
 | .am ds=> ∃a g,v= .ref a/\H a=some (.am g)/\ao K A H g ds
 | .ai ds=> ∃a g,v= .ref a/\H a=some (.ai g)/\A a/\ao K (λc=>A c/\c≠a) H g ds
 | .gv ds=> ∃a g,v= .ref a/\pV K H a g/\ao K A H g ds
 | .dr ks ds=> ∃a e,v= .ref a/\H a=some (.dK e)/\A a/\e.map (·.1)=ks/\ao K (λc=>A c/\c≠a) H (e.map (·.2)) ds
 | .bX ks ds=> ∃a e,v= .ref a/\H a=some (.dT e)/\A a/\e.map (·.1)=ks/\ao K (λc=>A c/\c≠a) H (e.map (·.2)) ds
 | .lV c=> ∃a b C o,v= .ref a/\H a=some (.eH o (.ay b))/\o.cls= .ref C/\cF K ce c=some (some (.ref C))
 | .mL ks ds=> ∃a e,v= .ref a/\((H a=some (.dK e)/\A a)\/ ∃o,H a=some (.eH o (.dK e)))/\e.map (·.1)=ks/\ao K (λc=>A c/\c≠a) H (e.map (·.2)) ds
 | .mM ks ds=> ∃a e,v= .ref a/\(∃o,H a=some (.eH o (.dK e)))/\e.map (·.1)=ks/\ao K (λc=>A c/\c≠a) H (e.map (·.2)) ds
 | .obj c j ds=> ∃a C dx fs,v= .ref a/\H a=some (.ins C dx fs)/\A a/\cF K ce c=some (some (.ref C))/\fs.map (·.1)=j/\ao K (λc=>A c/\c≠a) H (fs.map (·.2)) ds
 | .mem B l=> ∃a,v= .ref a/\H a=some (.memo B l)/\A a
 | .fG ds=> ∃a h,v= .ref a/\H a=some (.fG h)/\A a/\h.map (λr=>r.2.length)=ds.map (λd=>(oV d).length)/\ao K (λc=>A c/\c≠a) H (h.flatMap (·.2)) (ds.flatMap oV)
def aN.f (r:aN K A H v d):lC K A H v d:=by
 refine aN.casesOn (motive_1:=λA H v d _=>lC K A H v d) r rfl (λ_=>rfl) (λ_=>rfl) (λ_ h=>⟨rfl,h⟩) (λe r=>⟨_,_,rfl,e,r⟩) (λe h r=>⟨_,_,rfl,e,h,r⟩) (λe r=>⟨_,_,rfl,e,r⟩) (λe h k l r=>⟨_,_,rfl,e,h,k,l▸r⟩) (λe h k l r=>⟨_,_,rfl,e,h,k,l▸r⟩) (λe k l=>⟨_,_,_,_,rfl,e,k,l⟩) (λe k l r=>⟨_,_,rfl,e,k,l▸r⟩) (λe k l r=>⟨_,_,rfl,e,k,l▸r⟩) (λe h k l r=>⟨_,_,_,_,rfl,e,h,k.1,k.2,l▸r⟩) (λe h=>⟨_,rfl,e,h⟩) λe h k l r=>⟨_,_,rfl,e,h,k,l▸r⟩
def aN.eM (r:aN K A H v (.ai ds)): ∃a e,v= .ref a/\H a=some (.ai e)/\A a/\ao K (λc=>A c/\c≠a) H e ds:=r.f
def aN.pW (r:aN K A H v (.gv ds)): ∃a c,v= .ref a/\pV K H a c/\ao K A H c ds:=r.f
def aN.gI (r:aN K A H v (.am ds)): ∃a c,v= .ref a/\H a=some (.am c)/\ao K A H c ds:=r.f
def aN.dC (r:aN K A H v (.int i)):v= .int i:=r.f
def aN.rT (r:aN K A H v (.bl b)):v= .bl b:=r.f
def aN.iZ (r:aN K A H v (.str x)):v= .str x/\x.length<=aS:=r.f
def aN.su (r:aN K A H v .a6):v= .a6:=r.f
def ao.low (r:ao K (λc=>A c/\c≠a) H e ds):ao K A H e ds:=r.aO λ_ z=>z.1
def ao.dO (r:ao K A H g ds):ao K (λc=>A c/\H c≠none) H g ds:=by
 refine ao.rec .a6 (λb=> .bl b) (λi=> .int i) (λx h=> .str x h) (λe _ r=> .am e r) (λe a _ r=> .ai e ⟨a,?_⟩ ?_) (λe _ r=> .Fs e r) (λe a k l _ r=> .dr e ⟨a,?_⟩ k l ?_) (λe a k l _ r=> .bX e ⟨a,?_⟩ k l ?_) (λe k l=> .lV e k l) (λe k l _ r=> .mL (e.elim (λz=> .inl ⟨z.1,z.2,by simp [z.1]⟩) .inr) k l ?_) (λe k l _ r=> .mM e k l ?_) (λe a k l _ r=> .obj e ⟨a,?_⟩ k l ?_) (λe a=> .mem e ⟨a,by simp [e]⟩) (λe a k l _ r=> .fG e ⟨a,?_⟩ k l ?_) .nil (λ_ _ h t=> .cons h t) r
 any_goals exact r.aO λ_ z=>⟨⟨z.1.1,z.2⟩,z.1.2⟩
 all_goals simp [e]
def aN.dO (r:aN K A H v d):aN K (λc=>A c/\H c≠none) H v d:=by
 cases ao.dO (.cons r .nil);assumption
def aq.aU (h:H p=none):aq H (L2.aU H p o):=λb u e=>by rw [jY (qt e h)];exact e
def ao.laid (r:ao K A H g ds) (a:H p=none):ao K (λc=>A c/\c≠p) (L2.aU H p o) g ds:=
 (r.dO.av (aq.aU a)).aO λc z=>⟨z.1,λe=>z.2 (by rw [e];exact a)⟩
end
inductive Slot where
 |un
 |ay (d:D)
 |ae (d:D)
abbrev Sl:=List Slot
def qB (c:Sl) (e:St) (a:Addr):Prop:= ∃(i:Nat) (d:D),c[i]?=some (.ay d)/\e[i]?=some (some (.ref a))
abbrev Ft (c:Sl) (e:St):Addr->Prop:=λa=> ¬qB c e a
abbrev Sf (G:VJ) (c:Sl) (e:St):Addr->Prop:=λa=> ¬qB c e a/\G a
inductive Top (K:aH) (A:VJ) (H:Hp) (a:Addr):D->Prop where
 |ai {xs:List V} {ds:List D}:H a=some (.ai xs)->ao K A H xs ds->Top K A H a (.ai ds)
 |dr {kvs:List (aR×V)} {vs:List V} {ks:List aR} {ds:List D}:H a=some (.dK kvs)->kvs.map (·.1)=ks->kvs.map (·.2)=vs->ao K A H vs ds->Top K A H a (.dr ks ds)
 |bX {kvs:List ((List aR)×V)} {vs:List V} {ks:List (List aR)} {ds:List D}:H a=some (.dT kvs)->kvs.map (·.1)=ks->kvs.map (·.2)=vs->ao K A H vs ds->Top K A H a (.bX ks ds)
 |obj {C dx:Addr} {fs:List (Str×V)} {vs:List V} {c:Str} {ns:List Str} {ds:List D}:H a=some (.ins C dx fs)->(cF K ce c=some (some (.ref C))/\fs.map (·.1)=ns)->fs.map (·.2)=vs->ao K A H vs ds->Top K A H a (.obj c ns ds)
 |fG {rs:List (Addr×List V)} {ds es:List D}:H a=some (.fG rs)->rs.map (λr=>r.2.length)=ds.map (λd=>(oV d).length)->ds.flatMap oV=es->ao K A H (rs.flatMap (·.2)) es->Top K A H a (.fG ds)
def Top.rep {K:aH} (t:Top K A H a d) (w: ∀b,A b->i b/\b≠a) (h:i a):aN K i H (.ref a) d:=by
 cases t with
 |ai e r=>exact .ai e h (r.aO w)
 |dr e c g r=>exact .dr e h c g (r.aO w)
 |bX e c g r=>exact .bX e h c g (r.aO w)
 |obj e c g r=>exact .obj e h c g (r.aO w)
 |fG e c g r=>exact .fG e h c g (r.aO w)
def Top.bL {K:aH} (t:Top K A H a d) (st:iY A H i) (w: ∀b,A b->j b) (h: ∀o,H a=some o->i a=some o):Top K j i a d:=by
 cases t with
 |ai e r=>exact .ai (h _ e) (r.bL st w)
 |dr e c g r=>exact .dr (h _ e) c g (r.bL st w)
 |bX e c g r=>exact .bX (h _ e) c g (r.bL st w)
 |obj e c g r=>exact .obj (h _ e) c g (r.bL st w)
 |fG e c g r=>exact .fG (h _ e) c g (r.bL st w)
def Top.there {K:aH} (t:Top K A H a d): ∃o,H a=some o/\pk (some o):=by
 cases t with
 |ai e r=>exact ⟨_,e,trivial⟩
 |dr e _ _ r=>exact ⟨_,e,trivial⟩
 |bX e _ _ r=>exact ⟨_,e,trivial⟩
 |obj e _ _ r=>exact ⟨_,e,trivial⟩
 |fG e _ _ r=>exact ⟨_,e,trivial⟩
structure aD (K:aH) (G:VJ) (H0:Hp) (env:Sl) (σ:St) (H:Hp):Prop where
 len:σ.length=env.length
 af:aq H0 H
 g0: ∀a,H0 a=none->G a
 ae: ∀(i:Nat) (d:D),env[i]?=some (.ae d)-> ∃v,σ[i]?=some (some v)/\aN K (Sf G env σ) H v d
 ay: ∀(i:Nat) (d:D),env[i]?=some (.ay d)-> ∃a,σ[i]?=some (some (.ref a))/\H0 a=none/\Top K (Sf G env σ) H a d
 th: ∀(i j:Nat) (d e:D) (a:Addr),env[i]?=some (.ay d)->env[j]?=some (.ay e)->σ[i]?=some (some (.ref a))->σ[j]?=some (some (.ref a))->i=j
section
variable {K:aH} {G:VJ} {H0 H H':Hp} {env:Sl} {w:St}
def aD.av (e:aD K G H0 env w H) (h:aq H H'):aD K G H0 env w H' where
 len:=e.len
 af:=e.af.trans h
 g0:=e.g0
 ae:=λi d z=>let ⟨v,c,g⟩:=e.ae i d z;⟨v,c,g.av h⟩
 ay:=λi d z=>let ⟨a,c,g,h3⟩:=e.ay i d z;⟨a,c,g,h3.bL (aq.bL h) (λ_ z=>z) (λo q=>h _ o q)⟩
 th:=e.th
def aD.there (e:aD K G H0 env w H) (o:qB env w a): ∃u,H a=some u:=by
 obtain ⟨i,d,c,g⟩:=o;obtain ⟨b,h3,_,h⟩:=e.ay i d c;rw [g] at h3;cases h3;obtain ⟨u,j,_⟩:=h.there;exact ⟨u,j⟩
def aD.pX (k:aD K G H0 env w H) {a:Addr} (o:qB env w a) {u:HO} (e:H a=some u):pk (some u):=by
 obtain ⟨i,d,g,h⟩:=o;obtain ⟨b,h3,_,j⟩:=k.ay i d g;rw [h] at h3;cases h3;obtain ⟨l,c,m⟩:=j.there;rw [e] at c;cases c;exact m
def aD.new (k:aD K G H0 env w H): ∀a,H a=none->Sf G env w a:=λa z=>⟨λo=>(by
 obtain ⟨u,q⟩:=k.there o
 rw [z] at q;cases q),k.g0 a (aq.free k.af z)⟩
end
inductive Lv where
 |b|s|t
abbrev Any:Addr->Prop:=λ_=>True
def Lv.A (l:Lv) (G:VJ) (env:Sl) (a:St):Addr->Prop:=
 match l with
 | .b=>Any
 | .s=>Sf G env a
 | .t=>Sf G env a
def bG (H:Hp) (v:V):Prop:= ∀a,v= .ref a-> ∀o,H a=some o-> ¬pk (some o)
def Lv.T (l:Lv) (H:Hp) (v:V):Prop:=
 match l with
 | .t=>bG H v
 |_=>True
def bG.av (h:aq H c) (n:bG c v):bG H v:=λa e o q=>n a e o (h a o q)
def Lv.m5 {l:Lv} (h:aq H a) (n:l.T a v):l.T H v:=by
 cases l with
 |t=>exact bG.av h n
 |b=>trivial
 |s=>trivial
def tE (K:aH) (l:Lv) (f:Sl->ak D):TE:=λe H Q=> ∃G g a d,aD K G g a e H/\f a= .ok d/\ ∀v c,aq H c->aN K (l.A G a e) c v d->l.T H v->Q v c
def tT (K:aH) (f:Sl->ak Bool):TT:=λe H Q=> ∃G g a b,aD K G g a e H/\f a= .ok b/\ ∀c,aq H c->Q b c
def tA (K:aH) (l:Lv) (f:Sl->ak (List D)):TA:=λe H Q=> ∃G h a ds,aD K G h a e H/\f a= .ok ds/\ ∀g c,aq H c->ao K (l.A G a e) c g ds->Q g c
@[irreducible] def DE (X:Cx) (l:Lv) (e:Expr) (f:Sl->ak D):Prop:=PE X e (tE X.K l f)
@[irreducible] def DT (X:Cx) (e:Expr) (f:Sl->ak Bool):Prop:=PT X e (tT X.K f)
@[irreducible] def DA (X:Cx) (l:Lv) (a:List Expr) (f:Sl->ak (List D)):Prop:=PA X a (tA X.K l f)
inductive bg where
 |nx (env:Sl)|rt (fr:Bool) (d:D)|bk (env:Sl)|ct (env:Sl)
abbrev T0:=Sl->ak D
abbrev TZ:=Sl->ak Bool
abbrev TY:=Sl->ak bg
abbrev TX:=Sl->ak (List D)
abbrev TW:=List D->ak D
abbrev TV:=D->Sl->ak Sl
structure cx (env:Sl) (σ:St) (H:Hp) (env':Sl) (pY:St) (H':Hp):Prop where
 keep: ∀b o,H b=some o-> ¬qB env σ b->H' b=some o
 more: ∀b,qB env' pY b->qB env σ b\/H b=none
 size: ∀b,H' b=none->H b=none
def wv (K:aH) (G:VJ) (h:Hp) (g:Sl) (i:St) (H:Hp) (E:Ends) (o:bg):Prop:=
 match o with
 | .nx a=> ∀c e,aD K G h a c e->cx g i H a c e->E.nx c e
 | .bk a=> ∀c e,aD K G h a c e->cx g i H a c e->E.bk c e
 | .ct a=> ∀c e,aD K G h a c e->cx g i H a c e->E.ct c e
 | .rt j d=> ∀v e,aq h e->aN K G e v d->(j=true->bG h v)->E.rt v e
def tS (K:aH) (g:TY):TS:=λE c H=> ∃G e a o,aD K G e a c H/\g a= .ok o/\wv K G e a c H E o
@[irreducible] def DS (X:Cx) (st:Stmt) (g:TY):Prop:=PS X st (tS X.K g)
@[irreducible] def m6 (X:Cx) (st:List Stmt) (g:TY):Prop:=gS X st (tS X.K g)
section
variable {X:Cx} {e:Expr} {es:List Expr} {st:Stmt} {m:List Stmt}
def PE.imp (h:PE X e t) (w: ∀a H Q,g a H Q->t a H Q):PE X e g:=λc s a H Q I q=>h c s a H Q I (w a H Q q)
def PT.imp (h:PT X e t) (w: ∀a H Q,g a H Q->t a H Q):PT X e g:=λc s a H Q I q=>h c s a H Q I (w a H Q q)
def PA.imp (h:PA X es t) (w: ∀a H Q,i a H Q->t a H Q):PA X es i:=λg c s a H Q I q=>h g c s a H Q I (w a H Q q)
def PS.imp (h:PS X st t) (w: ∀E a H,g E a H->t E a H):PS X st g:=λc s a H E I q=>h c s a H E I (w E a H q)
def gS.imp (h:gS X m t) (w: ∀E a H,g E a H->t E a H):gS X m g:=λc s a H E I q=>h c s a H E I (w E a H q)
end
def cx.refl (h:aq H a):cx env c H env c a:=⟨λb o e _=>h b o e,λb o=> .inl o,λb e=>aq.free h e⟩
def cx.trans (a:cx env l H g i m) (b:cx g i m h j H2):cx env l H h j H2 where
 keep:=λc o e n=>b.keep c o (a.keep c o e n) λz=>by
  rcases a.more c z with z|z
  . exact n z
  . rw [e] at z;cases z
 more:=λc o=>by
  rcases b.more c o with z|z
  . exact a.more c z
  . exact .inr (a.size c z)
 size:=λc e=>a.size c (b.size c e)
def cx.av (h:aq H e) (b:cx env g e a c i):cx env g H a c i:=(cx.refl h).trans b
section
variable {X:Cx} {e:Expr} {f:T0}
def Lv.bu {l:Lv}: ∀a,l.A G env c a->Any a:=λ_ _=>trivial
def DE.b (h:DE X l e f):DE X .b e f:=by
 nomatch (PE.imp h λi H Q ⟨G,a,env,d,k,c,q⟩=>⟨G,a,env,d,k,c,λv g s r _=>q v g s (r.aO Lv.bu) trivial⟩)
def DE.s (h:DE X .t e f):DE X .s e f:=by
 nomatch (PE.imp h λi H Q ⟨G,a,env,d,k,c,q⟩=>⟨G,a,env,d,k,c,λv g s r _=>q v g s r trivial⟩)
def Xw {K:aH} (s:aq H c) (r:aN K A c v d) (i:d.ll=true):bG H v:=λa e o q m=>by
 subst e;have r:=r.f;cases d<;>try cases i
 . cases r
 . cases r
 . cases r
 . cases r.1
 . obtain ⟨_,_,e1,e,_⟩:=r;cases e1;rw [s _ _ q] at e;cases e;exact m
 . obtain ⟨_,_,_,_,e1,e,_⟩:=r;cases e1;rw [s _ _ q] at e;cases e;exact m
def wH (f:T0):Sl->ak D:=λa=>f a>>=λd=>a5 (d.ll=true) (.ok d)
def DE.wH {l l':Lv} (h:DE X l e f):DE X l' e (wH f):=by
 nomatch (PE.imp h λm H Q=>by
  rintro ⟨G,a,env,d,k,c,q⟩;obtain ⟨n,e1,e2⟩:=jd c;obtain ⟨i,g⟩:=ju e2;cases g;refine ⟨G,a,env,d,k,e1,λv j s r _=>q v j s (r.ll i) ?_⟩
  cases l' with
  |t=>exact Xw s r i
  |b=>trivial
  |s=>trivial)
end
def Xn:Expr->Bool
 | .Starred _ _=>false
 |_=>true
def jt (h:Xn e=true):c0 (e::c) a=(false,eval e a)::c0 c a:=by
 cases e<;>first|rfl|cases h
def VG (h:a.all Xn=true):(c0 a env).all (λx=>!x.1)=true:=by
 induction a with
 |nil=>rfl
 |cons e r c=>
  rw [ti,gF] at h;rw [jt h.1,ti,c h.2];rfl
def US (h:l.all (λx=>!x.1)=true):(iW pos l).all (λx=>!x.1)=true:=by
 induction l with
 |nil=>rfl
 |cons p r a=>
  obtain ⟨s,t⟩:=p;rw [ti,gF] at h;show ((!s)&&(iW pos r).all (λx=>!x.1))=true;rw [a h.2,Ax];exact h.1
def jS (h:e.all Xn=true):(iW a (c0 e c)).any (·.1)=false:=by
 have:=US (pos:=a) (VG (env:=c) h);rw [iT] at this;rw [CT];intro x g z;have q:=this x g;rw [z] at q;cases q
def Js (h:(e::g).all Xn=true) (i:decide ((e::g).length<30)=true):
  ((
   iW a (c0 (e::g) c)).all (λx=>!x.1)&&(oS a (oT [] c)).all (λx=>x.1.isSome)
   &&decide ((e::g).length+([]:List nJ).length+(if ([]:List nJ).isEmpty then 0 else 1)<30))=true:=by
 have j:(oS a (oT [] c)).all (λx=>x.1.isSome)=true:=rfl;rw [US (VG h),j];simpa using i
section
variable {X:Cx} {e a b c o:Expr} {O:List Expr} {Z:Pos} {l N J l':Lv} {f Y U L:T0}
def cI (i:Int):Sl->ak D:=λ_=> .ok (.int i)
def cB (b:Bool):Sl->ak D:=λ_=> .ok (.bl b)
def cN:Sl->ak D:=λ_=> .ok .a6
def cS (x:Str):Sl->ak D:=λ_=> .ok (.str x)
def aa (i:Nat):Sl->ak D:=λg=>match g[i]? with
 |some (.ae d)=> .ok d
 |_=> .aj
def gJ (i:Nat):Sl->ak D:=λg=>match g[i]? with
 |some (.ae d)=> .ok d
 |some (.ay d)=> .ok d
 |_=> .aj
def yL (h:aa i g= .ok d):g[i]?=some (.ae d):=by
 unfold aa at h
 split at h
 . cases h;assumption
 . cases h
def KD (h:gJ i g= .ok d):g[i]?=some (.ae d)\/g[i]?=some (.ay d):=by
 unfold gJ at h
 split at h
 . cases h;left;assumption
 . cases h;right;assumption
 . cases h
def Yu {K:aH} {i:Nat} {a:Addr} (k:aD K G n g h H) (j:g[i]?=some (.ay d)) (m:h[i]?=some (some (.ref a))): ∀c,Sf G g h c->c≠a:=λc z e=>z.1 (by rw [e];exact ⟨i,d,j,m⟩)
def dv (i:Nat) (hN:X.N[i]?=some x:=by rfl) (h:gs X.env.scope x:=by exact gu rfl) (hd:Yi x:=by decide)
   (g:Yh x:=by decide):DE X .s (.Name x Z) (aa i):=by
 nomatch (
  PE.imp (xM hN h hd g) λr H Q=>by
   rintro ⟨G,u,j,d,k,m,q⟩;obtain ⟨v,n,p⟩:=k.ae i d (yL m)
   exact ⟨v,n,q v H (aq.refl H) p trivial⟩)
def db (i:Nat) {x:Str} (hN:X.N[i]?=some x:=by rfl) (m:gs X.env.scope x:=by exact gu rfl) (hd:Yi x:=by decide)
   (h:Yh x:=by decide):DE X .b (.Name x Z) (gJ i):=by
 nomatch (
  PE.imp (xM hN m hd h) λr H Q=>by
   rintro ⟨G,u,n,d,k,p,q⟩;rcases KD p with z|z
   . obtain ⟨v,g,j⟩:=k.ae i d z;exact ⟨v,g,q v H (aq.refl H) (j.aO λ_ _=>trivial) trivial⟩
   . obtain ⟨v,g,_,j⟩:=k.ay i d z
     exact ⟨_,g,q _ H (aq.refl H) (j.rep (λc y=>⟨trivial,Yu k z g c y⟩) trivial) trivial⟩)
def Sc (K:aH) (v:V) (d:D):Prop:=(∀A H,aN K A H v d)/\ ∀a,v≠ .ref a
def Sc.T {K:aH} (h:Sc K v d):l.T H v:=by
 cases l with
 |t=>exact λa e=>absurd e (h.2 a)
 |b=>trivial
 |s=>trivial
def m7 {K:aH} (i:Int):Sc K (.int i) (.int i):=⟨λ_ _=> .int i,λa e=>by cases e⟩
def lm {K:aH} (i:Bool):Sc K (.bl i) (.bl i):=⟨λ_ _=> .bl i,λa e=>by cases e⟩
def RB {K:aH}:Sc K .a6 .a6:=⟨λ_ _=> .a6,λa e=>by cases e⟩
def Db {K:aH} (x:Str) (h:x.length<=aS):Sc K (.str x) (.str x):=⟨λ_ _=> .str x h,λa e=>by cases e⟩
def oW {v:V} {d:D} (h:PE X e (tC v)) (r:Sc X.K v d):DE X l e (λ_=> .ok d):=by
 nomatch (
  PE.imp h λj H Q=>by
   rintro ⟨G,m,g,n,k,i,q⟩;cases i
   exact q v H (aq.refl H) (r.1 _ H) r.T)
def Fv {j}:DE X l (.Constant (.int i) j Z) (cI i):=oW Iq (m7 i)
def wK {j}:DE X l (.Constant (.bool i) j Z) (cB i):=oW OK (lm i)
def zu {j}:DE X l (.Constant .none j Z) cN:=oW OL RB
def Ka {j} (h:x.length<=aS:=by decide):DE X l (.Constant (.str x) j Z) (cS x):=oW OM (Db x h)
def IV (g:Gl X x) (h:X.mg x=some (.int i t)) (hd:Yi x:=by decide):DE X l (.Name x Z) (cI i):=
 oW (KL (v:= .int i) g h ⟨t,rfl⟩ hd) (m7 i)
def RC (g:Gl X x) (h:X.mg x=some (.str y t)) (i:y.length<=aS:=by decide) (hd:Yi x:=by decide):DE X l (.Name x Z) (cS y):=
 oW (KL (v:= .str y) g h ⟨t,rfl⟩ hd) (Db y i)
def gz (K:aH) (r:R2) (g:D->D->ak D):Prop:= ∀(x y:V) (H:Hp) (a b d:D) (Q:VK),aN K Any H x a->aN K Any H y b->g a b= .ok d->(∀v,Sc K v d->Q v H)->r x y H Q
def Ay (K:aH) (r:R2) (g:D->D->ak D):Prop:= ∀(A:VJ) (x y:V) (H:Hp) (a b d:D) (Q:VK),aN K A H x a->aN K A H y b->g a b= .ok d->(∀v h,aq H h->aN K (λc=>H c=none\/A c) h v d->bG H v->Q v h)->r x y H Q
def ag (Y U:T0) (g:D->D->ak D):Sl->ak D:=λh=>Y h>>=λx=>U h>>=λy=>g x y
def Fw {K:aH} (w:gz K r g) (h:tE K l (ag Y U g) z H Q):u1 r (tE K N Y) (tE K J U) z H Q:=by
 obtain ⟨G,m,i,d,k,j,q⟩:=h;obtain ⟨a,e1,j⟩:=jd j;obtain ⟨b,e2,B⟩:=jd j;refine ⟨G,m,i,a,k,e1,λx H1 n E _=>⟨G,m,i,b,k.av n,e2,λy H2 p I _=>?_⟩⟩;exact w x y H2 a b d Q ((E.av p).aO Lv.bu) (I.aO Lv.bu) B λv u=>q v H2 (n.trans p) (u.1 _ _) u.T
def RD {K:aH} (w:Ay K r g) (h:tE K .t (ag Y U g) B H Q):u1 r (tE K .s Y) (tE K .s U) B H Q:=by
 obtain ⟨G,n,i,d,k,j,q⟩:=h;obtain ⟨a,e1,j⟩:=jd j;obtain ⟨b,e2,E⟩:=jd j;refine ⟨G,n,i,a,k,e1,λx H1 p I _=>⟨G,n,i,b,k.av p,e2,λy H2 u r2 _=>?_⟩⟩;have m:=p.trans u;exact w _ x y H2 a b d Q (I.av u) r2 E λv H3 s3 r3 nt=>q v H3 (m.trans s3) (r3.aO λc z=>z.elim (λz=>k.new c (aq.free m z)) λz=>z) (nt.av m)
def RE {K:aH} (u:Ay K r g) (h:tE K .b (ag Y U g) w H Q):u1 r (tE K .b Y) (tE K .b U) w H Q:=by
 obtain ⟨G,m,i,d,k,j,q⟩:=h;obtain ⟨a,e1,j⟩:=jd j;obtain ⟨b,e2,z⟩:=jd j;refine ⟨G,m,i,a,k,e1,λx H1 n B _=>⟨G,m,i,b,k.av n,e2,λy H2 p E _=>?_⟩⟩;have I:=n.trans p;exact u _ x y H2 a b d Q (B.av p) E z λv H3 s3 r3 nt=>q v H3 (I.trans s3) (r3.aO λc _=>trivial) trivial
def ve (i:dB X (ly j) r) (m:gz X.K r g) (n:DE X N a Y) (p:DE X J b U):DE X l (.BinOp a j b Z) (ag Y U g):=by
 nomatch (
  PE.imp (CQ i n p) λ_ _ _ h=>Fw m h)
def j4 (i:dB X (ly j) r) (m:Ay X.K r g) (n:DE X .s a Y) (p:DE X .s b U):DE X .t (.BinOp a j b Z) (ag Y U g):=by
 nomatch (
  PE.imp (CQ i n p) λ_ _ _ h=>RD m h)
def RF (i:dB X (ly j) r) (m:Ay X.K r g) (n:DE X .b a Y) (p:DE X .b b U):DE X .b (.BinOp a j b Z) (ag Y U g):=by
 nomatch (
  PE.imp (CQ i n p) λ_ _ _ h=>RE m h)
def Qs (j:dB X (h9 i) r) (m:gz X.K r g) (n:DE X N a Y) (p:DE X J b U) (q:rL i b=false:=by first|exact ET _| (with_unfolding_all rfl)):DE X l (.Compare a [i] [b] Z) (ag Y U g):=by
 nomatch (
  PE.imp (uH j n p q) λ_ _ _ h=>Fw m h)
def aM (f:T0):Sl->ak Bool:=λg=>f g>>=λd=>match d with
 | .bl b=> .ok b
 |_=> .aj
def RG {b:Bool} (h:aM f g= .ok b):f g= .ok (.bl b):=by
 obtain ⟨d,e1,e2⟩:=jd h
 cases d with
 |bl c=>cases e2;exact e1
 |_=>cases e2
def Kt {K:aH} (j: ∀g H Q,tE K l f g H Q->t g H Q) (h:tT K (aM f) g H Q):EU t g H Q:=by
 obtain ⟨G,m,i,b,k,n,q⟩:=h;refine j g H _ ⟨G,m,i,.bl b,k,RG n,λv p s r _=>⟨b,r.rT,q p s⟩⟩
def jK (j:dB X (h9 i) r) (m:gz X.K r g) (n:DE X N a Y) (p:DE X J b U) (q:rL i b=false:=by first|exact ET _| (with_unfolding_all rfl)):DT X (.Compare a [i] [b] Z) (aM (ag Y U g)):=by
 nomatch (
  PT.imp (Pt j n p q) λ_ _ _ h=>Kt (l:= .b) (λ_ _ _ h=>Fw m h) h)
def ZS (Y U L:T0) (g i:D->D->ak D):Sl->ak D:=λh=>Y h>>=λx=>U h>>=λy=>g x y>>=λz=>match z with
 | .bl true=>L h>>=λw=>i y w
 | .bl false=> .ok (.bl false)
 |_=> .aj
def VF {K:aH} (hr:gz K r g) (u:gz K r' g') (h:tE K l (ZS Y U L g g') σ H Q):vN r r' (tE K N Y) (tE K J U) (tE K l3 L) σ H Q:=by
 obtain ⟨G,B,i,d,k,j,q⟩:=h;obtain ⟨a,e1,j⟩:=jd j;obtain ⟨b,e2,j⟩:=jd j;obtain ⟨z,e3,E⟩:=jd j;refine ⟨G,B,i,a,k,e1,λx H1 m r1 _=>⟨G,B,i,b,k.av m,e2,λy H2 n I _=>?_⟩⟩;refine hr x y H2 a b z _ ((r1.av n).aO Lv.bu) (I.aO Lv.bu) e3 λv p=>?_
 cases z with
 |bl t=>
  refine ⟨t,(p.1 Any H2).rT,?_⟩
  cases t with
  |false=>
   cases E;rw [if_neg ik];exact q _ H2 (m.trans n) (.bl false) (lm (K:=K) false).T
  |true=>
   obtain ⟨w,e5,e6⟩:=jd E;rw [if_pos rfl];refine ⟨G,B,i,w,(k.av m).av n,e5,λy' H4 s4 r4 _=>?_⟩;refine u y y' H4 b w d Q ((I.av s4).aO Lv.bu) (r4.aO Lv.bu) e6 λv p=>q v H4 (m.trans (n.trans s4)) (p.1 _ _) p.T
 |_=>cases E
def XN (p:dB X (h9 n) r) (q:gz X.K r g) (j:dB X (h9 i) u) (m:gz X.K u v) (w:DE X N a Y) (x:DE X J b U) (y:DE X B c L)
   (z:lastMarks [n,i] [b,c]=false:=by with_unfolding_all rfl):DE X l (.Compare a [n,i] [b,c] Z) (ZS Y U L g v):=by
 nomatch (
  PE.imp (Pu p j w x y z) λ_ _ _ h=>VF q m h)
def RH (p:dB X (h9 n) r) (q:gz X.K r g) (j:dB X (h9 i) u) (m:gz X.K u v) (w:DE X N a Y) (x:DE X J b U) (y:DE X B c L)
   (z:lastMarks [n,i] [b,c]=false:=by with_unfolding_all rfl):DT X (.Compare a [n,i] [b,c] Z) (aM (ZS Y U L g v)):=by
 nomatch (
  PT.imp (Pw p j w x y z) λ_ _ _ h=>Kt (l:= .b) (λ_ _ _ h=>VF q m h) h)
def j9 (h:DE X l e f) (g: ∀whole,isTrue e X.env whole=(do let v<-whole;rK e.pos;nT [v] (truthy v)):=by intro _;rfl):DT X e (aM f):=by
 nomatch (
  PT.imp (OO h g) λ_ _ _ h=>Kt (λ_ _ _ h=>h) h)
def Dc:D->ak Bool
 | .a6=> .ok false
 | .bl b=> .ok b
 | .int i=> .ok (i !=0)
 | .str x=> .ok ((x.length:Int) !=0)
 | .am ds=> .ok (!ds.isEmpty)
 | .ai ds=> .ok (!ds.isEmpty)
 | .gv ds=> .ok (!ds.isEmpty)
 | .dr _ _=> .aj
 | .bX _ _=> .aj
 | .lV _=> .aj
 | .mL _ _=> .aj
 | .mM _ _=> .aj
 | .obj _ _ _=> .aj
 | .mem _ _=> .aj
 | .fG _=> .aj
def IW {K:aH} {b:Bool} (r:aN K A H v d) (h:Dc d= .ok b):sd K v H b:=by
 have r:=r.f;cases d<;>cases h
 . cases r;rfl
 . cases r;rfl
 . cases r;rfl
 . cases r.1;exact ⟨r.2,rfl⟩
 . obtain ⟨_,_,rfl,e,r⟩:=r;exact .inr (.inl ⟨_,.of e,by rw [r.isEmpty]⟩)
 . obtain ⟨_,_,rfl,e,_,r⟩:=r;exact .inl ⟨_,.of e,by rw [r.isEmpty]⟩
 . obtain ⟨_,_,rfl,e,r⟩:=r;exact .inl ⟨_,e.rS,by rw [r.isEmpty]⟩
def pZ (f:T0):Sl->ak Bool:=λg=>f g>>=Dc
def RI (h:DE X l e f) (i: ∀whole,isTrue e X.env whole=(do let v<-whole;rK e.pos;nT [v] (truthy v)):=by intro _;rfl):DT X e (pZ f):=by
 nomatch (
  PT.imp (Px h i) λp H Q=>by
   rintro ⟨G,j,g,b,k,m,q⟩;obtain ⟨d,e1,e2⟩:=jd m
   exact ⟨G,j,g,d,k,e1,λv n s r _=>⟨b,IW r e2,q n s⟩⟩)
section
variable {g z g2:TZ} {rest:List Expr}
def bH (g:TZ):Sl->ak Bool:=λh=>g h>>=λb=> .ok (!b)
def zj (h:DT X a g):DT X (.UnaryOp .Not a Z) (bH g):=by
 nomatch (
  PT.imp (OU h) λn H Q=>by
   rintro ⟨G,j,i,b,k,m,q⟩;obtain ⟨d,e1,e2⟩:=jd m;cases e2
   exact ⟨G,j,i,d,k,e1,q⟩)
@[irreducible] def DW (X:Cx) (e:Expr) (f:TZ):Prop:=PW X e (tT X.K f)
theorem PW.imp (h:PW X e t) (w: ∀i H Q,m i H Q->t i H Q):PW X e m:=λn j s i H Q I q=>h n j s i H Q I (w i H Q q)
def DW.dt (h:DW X e g):DT X e g:=by
 nomatch (PW.pt h)
def IX (h:DT X a g):DW X (.BoolOp .And [a] Z) g:=by
 nomatch (OQ h)
def wz (h:DT X a g):DW X (.BoolOp .Or [a] Z) g:=by
 nomatch (OR h)
def mj (z g2:TZ):Sl->ak Bool:=λh=>z h>>=λb=>if b=true then g2 h else .ok false
def fY (z g2:TZ):Sl->ak Bool:=λh=>z h>>=λb=>if b=true then .ok true else g2 h
def IY (j:DT X a z) (m:DW X (.BoolOp .And (b::rest) Z) g2):DW X (.BoolOp .And (a::b::rest) Z) (mj z g2):=by
 nomatch (
  PW.imp (OS j m) λv H Q=>by
   rintro ⟨G,i,h,r,k,n,q⟩;obtain ⟨d,e1,e2⟩:=jd n;refine ⟨G,i,h,d,k,e1,λp s=>?_⟩
   cases d with
   |true=>rw [if_pos rfl] at e2 ⊢;exact ⟨G,i,h,r,k.av s,e2,λH2 u=>q H2 (s.trans u)⟩
   |false=>rw [if_neg ik] at e2 ⊢;cases e2;exact q p s)
def xR (j:DT X a z) (m:DW X (.BoolOp .Or (b::rest) Z) g2):DW X (.BoolOp .Or (a::b::rest) Z) (fY z g2):=by
 nomatch (
  PW.imp (OT j m) λv H Q=>by
   rintro ⟨G,i,h,r,k,n,q⟩;obtain ⟨d,e1,e2⟩:=jd n;refine ⟨G,i,h,d,k,e1,λp s=>?_⟩
   cases d with
   |false=>rw [if_neg ik] at e2 ⊢;exact ⟨G,i,h,r,k.av s,e2,λH2 u=>q H2 (s.trans u)⟩
   |true=>rw [if_pos rfl] at e2 ⊢;cases e2;exact q p s)
def lD (f:T0) (g:T0) (w:Bool):Sl->ak D:=λh=>f h>>=λd=>match d with
 | .bl b=>if b=w then g h else .ok (.bl b)
 |_=> .aj
def yw {i} (h:DE X l a f):DE X l (.BoolOp i [a] Z) f:=by
 nomatch (OX h)
def JF (j:DE X N a Y) (m:DE X l (.BoolOp .And (b::rest) Z) U):DE X l (.BoolOp .And (a::b::rest) Z) (lD Y U true):=by
 nomatch (
  PE.imp (OY j m) λB H Q=>by
   rintro ⟨G,i,h,r,k,n,q⟩;obtain ⟨d,e1,e2⟩:=jd n;refine ⟨G,i,h,d,k,e1,λv p s u _=>?_⟩
   cases d with
   |bl t=>
    refine ⟨t,u.rT,?_⟩
    cases t with
    |true=>exact ⟨G,i,h,r,k.av s,e2,λv H2 w x y=>q v H2 (s.trans w) x (Lv.m5 s y)⟩
    |false=>cases e2;exact q _ p s (.bl false) (lm (K:=X.K) false).T
   |_=>cases e2)
def RJ (j:DE X N a Y) (m:DE X l (.BoolOp .Or (b::rest) Z) U):DE X l (.BoolOp .Or (a::b::rest) Z) (lD Y U false):=by
 nomatch (
  PE.imp (OZ j m) λB H Q=>by
   rintro ⟨G,i,h,r,k,n,q⟩;obtain ⟨d,e1,e2⟩:=jd n;refine ⟨G,i,h,d,k,e1,λv p s u _=>?_⟩
   cases d with
   |bl t=>
    refine ⟨t,u.rT,?_⟩
    cases t with
    |false=>exact ⟨G,i,h,r,k.av s,e2,λv H2 w x y=>q v H2 (s.trans w) x (Lv.m5 s y)⟩
    |true=>cases e2;exact q _ p s (.bl true) (lm (K:=X.K) true).T
   |_=>cases e2)
def By:D->ak D
 | .bl b=> .ok (.bl (!b))
 |_=> .aj
def wJ (f:T0):Sl->ak D:=λh=>f h>>=By
def IZ (h:DE X N a f):DE X l (.UnaryOp .Not a Z) (wJ f):=by
 nomatch (
  PE.imp (O0 h) λu H Q=>by
   rintro ⟨G,j,i,r,k,m,q⟩;obtain ⟨d,e1,e2⟩:=jd m;refine ⟨G,j,i,d,k,e1,λv n s p _=>?_⟩
   cases d with
   |bl t=>cases e2;exact ⟨t,p.rT,q _ n s (.bl _) (lm (K:=X.K) _).T⟩
   |_=>cases e2)
def Fx (g:TZ) (Y U:T0):Sl->ak D:=λh=>g h>>=λb=>if b=true then Y h else U h
def Jd (p:DT X c g) (u:DE X l a Y) (w:DE X l b U):DE X l (.IfExp c a b Z) (Fx g Y U):=by
 nomatch (
  PE.imp (O2 p u w) λy H Q=>by
   rintro ⟨G,i,h,r,k,x,q⟩;obtain ⟨d,e1,e2⟩:=jd x;refine ⟨G,i,h,d,k,e1,λB s=>?_⟩
   cases d with
   |true=>rw [if_pos rfl] at e2 ⊢;exact ⟨G,i,h,r,k.av s,e2,λv H2 j m n=>q v H2 (s.trans j) m (Lv.m5 s n)⟩
   |false=>rw [if_neg ik] at e2 ⊢;exact ⟨G,i,h,r,k.av s,e2,λv H2 j m n=>q v H2 (s.trans j) m (Lv.m5 s n)⟩)
end
def jb (f:T0) (g:TX):Sl->ak (List D):=λh=>f h>>=λd=>g h>>=λds=> .ok (d::ds)
def ab:Sl->ak (List D):=λ_=> .ok []
def jf:DA X l [] ab:=by
 nomatch (PA.imp xg λi H Q=>by rintro ⟨G,j,g,d,k,h,q⟩;cases h;exact q [] H (aq.refl H) .nil)
def ja (p:DE X l e f) (r:DA X l O g) (u:T9 X e O:=by exact jt rfl):DA X l (e::O) (jb f g):=by
 nomatch (
  PA.imp (za p r u) λE H Q=>by
   rintro ⟨G,j,h,ds,k,w,q⟩;obtain ⟨d,e1,e2⟩:=jd w;obtain ⟨i,x,y⟩:=jd e2;cases y
   exact ⟨G,j,h,d,k,e1,λv I m z _=>⟨G,j,h,i,k.av m,x,λvs H2 n B=>q _ H2 (m.trans n) (.cons (z.av n) B)⟩⟩)
def qr (s:aq H h) (g:h p=none):bG H (.ref p):=λa e o q=>by
 cases e;rw [s _ _ q] at g;cases g
def bq (g:TX):Sl->ak D:=λh=>g h>>=λds=>a5 (ds.length<=aS) (.ok (.am ds))
def aZ (g:TX):Sl->ak D:=λh=>g h>>=λds=>a5 (ds.length<=aS) (.ok (.ai ds))
def qH {r} (h:DA X .s O g):DE X .t (.Tuple O r Z) (bq g):=by
 nomatch (
  PE.imp (PM h) λy H Q=>by
   rintro ⟨G,u,i,d,k,v,q⟩;obtain ⟨ds,e1,e2⟩:=jd v;obtain ⟨w,x⟩:=ju e2;cases x;refine ⟨G,u,i,ds,k,e1,λz B m n=>⟨by rw [n.length];exact w,λp j=>?_⟩⟩
   exact q _ _ (m.trans (aq.aU j)) (.am jy (n.av (aq.aU j))) (qr m j))
def jW (h:DA X .s O g):DE X .t (.List O Z) (aZ g):=by
 nomatch (
  PE.imp (PN h) λx H Q=>by
   rintro ⟨G,r,j,d,k,u,q⟩;obtain ⟨ds,e1,e2⟩:=jd u;obtain ⟨v,w⟩:=ju e2;cases w;refine ⟨G,r,j,ds,k,e1,λy z m n=>⟨by rw [n.length];exact v,λp i=>?_⟩⟩
   exact q _ _ (m.trans (aq.aU i)) (.ai jy (k.new p (aq.free m i)) (n.laid i)) (qr m i))
def Kq (K:aH) (r:List V->Hp->VK->Prop) (g:TW):Prop:= ∀(h:List V) (H:Hp) (ds:List D) (d:D) (Q:VK),ao K Any H h ds->g ds= .ok d->(∀v,Sc K v d->Q v H)->r h H Q
def QD (K:aH) (r:List V->Hp->VK->Prop) (g:TW):Prop:= ∀(A:VJ) (i:List V) (H:Hp) (ds:List D) (d:D) (Q:VK),ao K A H i ds->g ds= .ok d->(∀v h,aq H h->aN K (λc=>H c=none\/A c) h v d->bG H v->Q v h)->r i H Q
def app (f:TX) (g:TW):Sl->ak D:=λh=>f h>>=g
def RK {K:aH} (n:Kq K r g) (h:tE K l' (app p g) u H Q):Bh r (tA K l p) u H Q:=by
 obtain ⟨G,w,i,d,k,x,q⟩:=h;obtain ⟨ds,e1,e2⟩:=jd x;refine ⟨G,w,i,ds,k,e1,λy j z B=>?_⟩;exact n y j ds d Q (B.aO Lv.bu) e2 λv m=>q v j z (m.1 _ _) m.T
def Je {K:aH} (m:QD K r g) (h:tE K .t (app n g) p H Q):Bh r (tA K .s n) p H Q:=by
 obtain ⟨G,u,i,d,k,w,q⟩:=h;obtain ⟨ds,e1,e2⟩:=jd w;refine ⟨G,u,i,ds,k,e1,λx y j B=>?_⟩;exact m _ x y ds d Q B e2 λv H2 E I nt=>q v H2 (j.trans E) (I.aO λc z=>z.elim (λz=>k.new c (aq.free j z)) λz=>z) (nt.av j)
def RL {K:aH} (j:QD K r g) (h:tE K .b (app m g) n H Q):Bh r (tA K .b m) n H Q:=by
 obtain ⟨G,p,i,d,k,u,q⟩:=h;obtain ⟨ds,e1,e2⟩:=jd u;refine ⟨G,p,i,ds,k,e1,λw x y z=>?_⟩;exact j _ w x ds d Q z e2 λv H2 B E I=>q v H2 (y.trans B) (E.aO λc _=>trivial) trivial
section
variable {x:Str} {id T:String} {p:Pos} {r:List V->Hp->VK->Prop} {g:TW} {q:TX}
def jv (m:bt X (.builtin id) r) (n:Kq X.K r g) (u:Gl X x) (v:X.mg x=none) (w:mV x=some (.builtin id))
   (y:DA X l (e::O) q) (z:x≠ "__name__" :=by decide) (i:Yi x:=by decide)
   (B:T9 X e O:=by exact jt rfl) (j:T8 X Z O:=by exact jS rfl):DE X l' (.Call (.Name x p) (e::O) [] Z) (app q g):=by
 nomatch (
  PE.imp (yj m u v w y z i B j) λ_ _ _ h=>RK n h)
def zd (m:bt X (.type T) r) (n:QD X.K r g) (u:Gl X x) (v:X.mg x=none) (w:mV x=some (.type T))
   (y:DA X .s (e::O) q) (z:x≠ "__name__" :=by decide) (i:Yi x:=by decide)
   (B:T9 X e O:=by exact jt rfl) (j:T8 X Z O:=by exact jS rfl):DE X .t (.Call (.Name x p) (e::O) [] Z) (app q g):=by
 nomatch (
  PE.imp (x4 m u v w y z i B j) λ_ _ _ h=>Je n h)
def vf (m:bt X (.type T) r) (n:QD X.K r g) (u:Gl X x) (v:X.mg x=none) (w:mV x=some (.type T))
   (y:DA X .b (e::O) q) (z:x≠ "__name__" :=by decide) (i:Yi x:=by decide)
   (B:T9 X e O:=by exact jt rfl) (j:T8 X Z O:=by exact jS rfl):DE X .b (.Call (.Name x p) (e::O) [] Z) (app q g):=by
 nomatch (
  PE.imp (x4 m u v w y z i B j) λ_ _ _ h=>RL n h)
end
def ox (K:aH) (i:Bool) (n:Nat) (F:TW):Sp:=λh H Q _=> ∃B ds d,h.length=n/\ao K B H h ds/\F ds= .ok d/\ ∀v g,aq H g->aN K (λa=>H a=none\/B a) g v d->(i=true->bG H v)->Q v g
def jm (n:Nat) (F:TW) (g:TX):Sl->ak D:=λh=>g h>>=λds=>a5 (ds.length=n) (F ds)
section
variable {CX:pO} {k:Nat} {x:Str} {h:Addr} {fd:oR} {ps:List Str} {p:Pos} {n:Nat} {F:TW} {E:XK} {g:TX} {fr:Bool}
def RM (G:dG X.prog X.w X.K X.mg X.af CX k h fd ps (ox X.K fr n F)) (w:aT k X.A) (y:Gl X x) (B:X.mg x=some (.ref h)) (I:lU X.K (.ref h)=true) (hb:Binds X.K fd ps []) (hx:yx CX X E)
   (ha:DA X .s (e::O) g) (i:Yi x:=by decide) (he:T9 X e O:=by exact jt rfl) (j:T8 X Z O:=by exact jS rfl):
   DE X .s (.Call (.Name x p) (e::O) [] Z) (jm n F g):=by
 nomatch (
  PE.imp (KM G w y B I hb .nil hx ha i he j) λσ H Q=>by
   rintro ⟨GG,H0,m,d,k,ef,q⟩;obtain ⟨ds,e1,e2⟩:=jd ef;obtain ⟨hn,e3⟩:=ju e2;refine ⟨GG,H0,m,ds,k,e1,λvs H1 r u=>?_⟩;show ox X.K fr n F (vs++[]) H1 Q E;rw [oH]
   exact ⟨_,ds,d,by rw [u.length];exact hn,u,e3,λv H2 s2 r2 _=>q v H2 (r.trans s2) (r2.aO λc z=>z.elim (λz=>k.new c (aq.free r z)) λz=>z) trivial⟩)
def RN (G:dG X.prog X.w X.K X.mg X.af CX k h fd ps (ox X.K true n F)) (w:aT k X.A) (y:Gl X x) (B:X.mg x=some (.ref h)) (I:lU X.K (.ref h)=true) (hb:Binds X.K fd ps []) (hx:yx CX X E)
   (ha:DA X .s (e::O) g) (i:Yi x:=by decide) (he:T9 X e O:=by exact jt rfl) (j:T8 X Z O:=by exact jS rfl):
   DE X .t (.Call (.Name x p) (e::O) [] Z) (jm n F g):=by
 nomatch (
  PE.imp (KM G w y B I hb .nil hx ha i he j) λσ H Q=>by
   rintro ⟨GG,H0,m,d,k,ef,q⟩;obtain ⟨ds,e1,e2⟩:=jd ef;obtain ⟨hn,e3⟩:=ju e2;refine ⟨GG,H0,m,ds,k,e1,λvs H1 r u=>?_⟩;show ox X.K true n F (vs++[]) H1 Q E;rw [oH]
   exact ⟨_,ds,d,by rw [u.length];exact hn,u,e3,λv H2 s2 r2 nt=>q v H2 (r.trans s2) (r2.aO λc z=>z.elim (λz=>k.new c (aq.free r z)) λz=>z) ((nt rfl).av r)⟩)
def RO (G:dG X.prog X.w X.K X.mg X.af CX k h fd ps (ox X.K fr n F)) (u:aT k X.A) (w:Gl X x) (y:X.mg x=some (.ref h)) (z:lU X.K (.ref h)=true) (B:Binds X.K fd ps []) (I:yx CX X E)
   (ha:DA X .b (e::O) g) (i:Yi x:=by decide) (he:T9 X e O:=by exact jt rfl) (j:T8 X Z O:=by exact jS rfl):
   DE X .b (.Call (.Name x p) (e::O) [] Z) (jm n F g):=by
 nomatch (
  PE.imp (KM G u w y z B .nil I ha i he j) λσ H Q=>by
   rintro ⟨GG,H0,m,d,k,ef,q⟩;obtain ⟨ds,e1,e2⟩:=jd ef;obtain ⟨hn,e3⟩:=ju e2;refine ⟨GG,H0,m,ds,k,e1,λvs H1 s1 r=>?_⟩;show ox X.K fr n F (vs++[]) H1 Q E;rw [oH]
   exact ⟨_,ds,d,by rw [r.length];exact hn,r,e3,λv H2 s2 r2 _=>q v H2 (s1.trans s2) (r2.aO λc _=>trivial) trivial⟩)
end
def aW:D->D->ak D
 | .ai ds,.int i=>match mf ds i with
  |some d=> .ok d
  |none=> .aj
 | .gv ds,.int i=>match mf ds i with
  |some d=> .ok d
  |none=> .aj
 | .am ds,.int i=>match mf ds i with
  |some d=> .ok d
  |none=> .aj
 | .str z,.int i=>match mf z.cps.toList i with
  |some c=> .ok (.str ⟨#[c]⟩)
  |none=> .aj
 |_,_=> .aj
def XV {K:aH} (r:ao K A H g ds) (h:mf ds i=some d): ∃v,mf g i=some v/\aN K A H v d:=by
 unfold mf at h ⊢;rw [r.length]
 cases e:pR ds.length i with
 |none=>rw [e] at h;cases h
 |some j=>rw [e] at h;exact r.get h
def RP (c:Nat):(⟨#[c]⟩:Str).length<=aS:=by show 1<=aS;decide
def Jt {a b:D} (m:aN X.K A H x a) (n:aN X.K Any H y b) (h:aW a b= .ok d) (q: ∀v,aN X.K A H v d->Q v H):IJ X.K x y H Q:=by
 unfold aW at h
 split at h
 . split at h
   . cases h;cases n.dC;obtain ⟨p,g,rfl,i,_,r⟩:=m.eM;obtain ⟨v,e2,j⟩:=XV r.low ‹_›;exact .inl ⟨p,g,_,v,rfl,rfl,.of i,e2,q v j⟩
   . cases h
 . split at h
   . cases h;cases n.dC;obtain ⟨p,g,rfl,i,r⟩:=m.pW;obtain ⟨v,e2,j⟩:=XV r ‹_›;exact .inl ⟨p,g,_,v,rfl,rfl,i.rS,e2,q v j⟩
   . cases h
 . split at h
   . cases h;cases n.dC;obtain ⟨p,g,rfl,i,r⟩:=m.gI;obtain ⟨v,e2,j⟩:=XV r ‹_›;exact .inr (.inl ⟨p,g,_,v,rfl,rfl,.of i,e2,q v j⟩)
   . cases h
 . split at h
   . cases h;cases n.dC;obtain ⟨rfl,u⟩:=m.iZ;exact .inr (.inr ⟨_,_,_,rfl,rfl,u,‹_›,q _ (.str _ (by show 1<=aS;decide))⟩)
   . cases h
 . cases h
def jP (n:DE X .s a Y) (p:DE X J b U) (r:XY b:=by intro _ _;rfl):DE X .s (.Subscript a b Z) (ag Y U aW):=by
 nomatch (
  PE.imp (E7 IK n p r) λσ H Q=>by
   rintro ⟨G,i,g,d,k,h,q⟩;obtain ⟨u,e1,h⟩:=jd h;obtain ⟨w,e2,z⟩:=jd h;refine ⟨G,i,g,u,k,e1,λx H1 j B _=>⟨G,i,g,w,k.av j,e2,λy H2 m E _=>?_⟩⟩
   exact Jt (B.av m) (E.aO Lv.bu) z λv I=>q v H2 (j.trans m) I trivial)
@[irreducible] def DO (X:Cx) (e:Option Expr) (f:Sl->ak (Option Int)):Prop:=PO X e (λj H Q=> ∃G m g i,aD X.K G m g j H/\f g= .ok i/\ ∀h,aq H h->Q i h)
theorem PO.imp {e:Option Expr} (h:PO X e t) (w: ∀g H Q,j g H Q->t g H Q):PO X e j:=λi s g H Q I q=>h i s g H Q I (w g H Q q)
def zC:Sl->ak (Option Int):=λ_=> .ok none
def zL:DO X none zC:=by
 nomatch (PO.imp P4 λj H Q=>by rintro ⟨G,m,g,i,k,h,q⟩;cases h;exact q H (aq.refl H))
def JK:D->ak (Option Int)
 | .int i=> .ok (some i)
 |_=> .aj
def qg (f:T0):Sl->ak (Option Int):=λg=>f g>>=JK
def qA (h:DE X l e f):DO X (some e) (qg f):=by
 nomatch (PO.imp (P5 h) λu H Q=>by
  rintro ⟨G,m,g,i,k,n,q⟩;obtain ⟨d,e1,e2⟩:=jd n
  cases d with
  |int j=>cases e2;exact ⟨G,m,g,.int j,k,e1,λv p s r _=>⟨j,r.dC,q p s⟩⟩
  |_=>cases e2)
def cutD (ds:List D) (lo g:Option Int):List D:=(ds.drop (HT.cv ds.length 0 lo)).take (HT.cv ds.length ds.length g-HT.cv ds.length 0 lo)
def Vr {K:aH} {lo:Option Int} (r:ao K A H g ds):ao K A H (oU g lo h) (cutD ds lo h):=by
 unfold oU cutD;rw [r.length];exact (r.drop _).take _
def jM (f:T0) (i j:Sl->ak (Option Int)) (g:D->Option Int->Option Int->ak D):Sl->ak D:=λh=>f h>>=λa=>i h>>=λlo=>j h>>=λm=>g a lo m
end
section
variable {K:aH} {G:VJ} {H0 H H1 H':Hp} {env env':Sl} {σ pY:L2.St} {i:Nat} {d:D} {v:V}
def jC {a:Type} {l:List a} {x:a} (h:i≠j):(l.set i x)[j]?=l[j]?:=Et h
def jI {a:Type} {l:List a} {x y:a} (h:(l.set i x)[i]?=some y):y=x/\i<l.length:=by
 have c:i<l.length:=by
  have:=(mX.mp h).1;simpa using this
 rw [Ai c] at h;exact ⟨(gG h).symm,c⟩
def Zj {s:Slot} {a:Addr} (h:qB (env.set i s) (σ.set i (some v)) a):qB env σ a\/(∃d,s= .ay d/\v= .ref a):=by
 obtain ⟨j,d,c,g⟩:=h
 by_cases e:i=j
 . subst e;obtain ⟨l,_⟩:=jI c;obtain ⟨m,_⟩:=jI g;exact .inr ⟨d,l.symm,(gG m).symm⟩
 . rw [jC e] at c g;exact .inl ⟨j,d,c,g⟩
def aD.nZ (k:aD K G H0 env σ H) (r:aN K (Sf G env σ) H v d):aD K G H0 (env.set i (.ae d)) (σ.set i (some v)) H:=by
 have w: ∀a,Sf G env σ a->Sf G (env.set i (.ae d)) (σ.set i (some v)) a:=λa n=>⟨λo=>(by
   rcases Zj o with z| ⟨E,z,_⟩
   . exact n.1 z
   . cases z),n.2⟩
 refine ⟨by simp [k.len],k.af,k.g0,λj e h=>?_,λj e h=>?_,λj m e u a c g h3 p=>?_⟩
 . by_cases z:i=j
   . subst z;obtain ⟨q,hl⟩:=jI h;cases q;exact ⟨v,Ai (by rw [k.len];exact hl),r.aO w⟩
   . rw [jC z] at h ⊢;obtain ⟨l,c,g⟩:=k.ae j e h;exact ⟨l,c,g.aO w⟩
 . by_cases z:i=j
   . subst z;obtain ⟨q,hl⟩:=jI h;cases q
   . rw [jC z] at h ⊢;obtain ⟨l,c,x,g⟩:=k.ay j e h;exact ⟨l,c,x,g.bL (λ_ _ e _=>e) w λ_ e=>e⟩
 . have y:i≠j:=λz=>by subst z;obtain ⟨q,_⟩:=jI c;cases q
   have B:i≠m:=λz=>by subst z;obtain ⟨q,_⟩:=jI g;cases q
   rw [jC y] at c h3;rw [jC B] at g p;exact k.th j m e u a c g h3 p
def W9:D->Bool
 | .ai _=>true
 | .dr _ _=>true
 | .bX _ _=>true
 | .obj _ _ _=>true
 | .fG _=>true
 |_=>false
def KN (r:aN K A H v d) (h:W9 d=true): ∃a,v= .ref a/\A a/\(∃o,H a=some o/\pk (some o))/\Top K (λc=>A c/\c≠a) H a d:=by
 have r:=r.f;cases d<;>cases h
 . obtain ⟨_,_,rfl,e,a,r⟩:=r;exact ⟨_,rfl,a,⟨_,e,trivial⟩,.ai e r⟩
 . obtain ⟨_,_,rfl,e,a,k,r⟩:=r;exact ⟨_,rfl,a,⟨_,e,trivial⟩,.dr e k rfl r⟩
 . obtain ⟨_,_,rfl,e,a,k,r⟩:=r;exact ⟨_,rfl,a,⟨_,e,trivial⟩,.bX e k rfl r⟩
 . obtain ⟨_,_,_,_,rfl,e,a,k,l,r⟩:=r;exact ⟨_,rfl,a,⟨_,e,trivial⟩,.obj e ⟨k,l⟩ rfl r⟩
 . obtain ⟨_,_,rfl,e,a,k,r⟩:=r;exact ⟨_,rfl,a,⟨_,e,trivial⟩,.fG e k rfl r⟩
def RQ (s:aq H H1) (g:bG H (.ref a)) (h: ∃o,H1 a=some o/\pk (some o)):H a=none:=by
 cases e:H a with
 |none=>rfl
 |some o=>
  obtain ⟨l,c,j⟩:=h;rw [s a o e] at c;cases c;exact (g a rfl o e j).elim
def aD.Fy (k:aD K G H0 env σ H) (s:aq H H1) (r:aN K (Sf G env σ) H1 v d) (Q:bG H v) (hd:W9 d=true):aD K G H0 (env.set i (.ay d)) (σ.set i (some v)) H1/\ ∃a,v= .ref a/\H a=none:=by
 obtain ⟨a,rfl,ga,mt,top⟩:=KN r hd;have I:=RQ s Q mt;refine ⟨?_,a,rfl,I⟩
 have w: ∀c,(Sf G env σ c/\c≠a)->Sf G (env.set i (.ay d)) (σ.set i (some (V.ref a))) c:=λc n=>⟨λo=>(by
   rcases Zj o with z| ⟨d',z,m⟩
   . exact n.1.1 z
   . cases m;exact n.2 rfl),n.1.2⟩
 have B: ∀c,(Sf G env σ c/\H c≠none)->Sf G (env.set i (.ay d)) (σ.set i (some (V.ref a))) c:=λc n=>w c ⟨n.1,λe=>n.2 (by rw [e];exact I)⟩
 have U:=k.av s;refine ⟨by simp [k.len],U.af,k.g0,λj e h=>?_,λj e h=>?_,λj J e N b p l h3 E=>?_⟩
 . by_cases z:i=j
   . subst z;obtain ⟨q,hl⟩:=jI h;cases q
   . rw [jC z] at h ⊢;obtain ⟨L,p,l⟩:=k.ae j e h;exact ⟨L,p,(l.dO.av s).aO B⟩
 . by_cases z:i=j
   . subst z;obtain ⟨q,hl⟩:=jI h;cases q;exact ⟨a,Ai (by rw [k.len];exact hl),aq.free k.af I,top.bL (λ_ _ e _=>e) w λ_ e=>e⟩
   . rw [jC z] at h ⊢;obtain ⟨L,p,Y,l⟩:=k.ay j e h;refine ⟨L,p,Y,?_⟩
     cases l with
     |ai e2 g=>exact .ai (s _ _ e2) ((g.dO.av s).aO B)
     |dr e2 x y g=>exact .dr (s _ _ e2) x y ((g.dO.av s).aO B)
     |bX e2 x y g=>exact .bX (s _ _ e2) x y ((g.dO.av s).aO B)
     |obj e2 x y g=>exact .obj (s _ _ e2) x y ((g.dO.av s).aO B)
     |fG e2 x y g=>exact .fG (s _ _ e2) x y ((g.dO.av s).aO B)
 . have new: ∀(j:Nat) (e:D),env[j]?=some (.ay e)->σ[j]?=some (some (.ref a))->False:=λj e Z q2=>by
     obtain ⟨u,q⟩:=k.there ⟨j,e,Z,q2⟩;rw [I] at q;cases q
   by_cases O:i=j
   . subst O
     by_cases m:i=J
     . exact m
     . rw [jC m] at l E;obtain ⟨q,_⟩:=jI h3;cases q;exact (new J N l E).elim
   . rw [jC O] at p h3
     by_cases m:i=J
     . subst m;obtain ⟨q,_⟩:=jI E;cases q;exact (new j e p h3).elim
     . rw [jC m] at l E;exact k.th j J e N b p l h3 E
def cx.set (c:aq H H1) (fresh: ∀a d,s= .ay d->v= .ref a->H a=none):cx env σ H (env.set i s) (σ.set i (some v)) H1:=
 ⟨λb o e _=>c b o e,λb o=>by
  rcases Zj o with z| ⟨g,z,h⟩
  . exact .inl z
  . exact .inr (fresh b g z h),λb e=>aq.free c e⟩
def cx.sf (f:cx env σ H env' pY H'): ∀a,(Sf G env σ a/\H a≠none)->Sf G env' pY a:=λa z=>⟨λo=>(f.more a o).elim z.1.1 z.2,z.1.2⟩
def cx.st (k:aD K G H0 env σ H) (f:cx env σ H env' pY H'):iY (λa=>Sf G env σ a/\H a≠none) H H':=λa o e m=>f.keep a o e λc=>(m (k.pX c e)).1.1 c
def cx.rep (k:aD K G H0 env σ H) (f:cx env σ H env' pY H') (r:aN K (Sf G env σ) H v d):aN K (Sf G env' pY) H' v d:=r.dO.bL (f.st k) f.sf
def cx.Fz (k:aD K G H0 env σ H) (f:cx env σ H env' pY H') (r:ao K (Sf G env σ) H a ds):ao K (Sf G env' pY) H' a ds:=r.dO.bL (f.st k) f.sf
end
def U6 (d:D):Slot:=if W9 d=true then .ay d else .ae d
def aD.qe {K:aH} (k:aD K G l env c H) (s:aq H g) (r:aN K (Sf G env c) g v d) (m:bG H v):
   aD K G l (env.set i (U6 d)) (c.set i (some v)) g/\cx env c H (env.set i (U6 d)) (c.set i (some v)) g:=by
 unfold U6
 by_cases h:W9 d=true
 . rw [if_pos h];obtain ⟨z,o,j,n⟩:=k.Fy s r m h;refine ⟨z,.set s λa p _ e=>?_⟩;rw [e] at j;cases j;exact n
 . rw [if_neg h];exact ⟨(k.av s).nZ r,.set s λ_ _ z _=>by cases z⟩
def cj:Sl->ak bg:=λa=> .ok (.nx a)
def vc (f:T0):Sl->ak bg:=λa=>f a>>=λ_=> .ok (.nx a)
def n0 (h:Int->Int->Int) (a b:D):ak D:=match a,b with
 | .int m,.int n=> .ok (.int (h m n))
 |_,_=> .aj
def ap (e g2:TY):Sl->ak bg:=λc=>e c>>=λo=>match o with
 | .nx a=>g2 a
 | .rt g d=> .ok (.rt g d)
 | .bk a=> .ok (.bk a)
 | .ct a=> .ok (.ct a)
section
variable {X:Cx} {e c tg:Expr} {st:Stmt} {rest j u:List Stmt} {y:Pos} {l:Lv} {f:T0} {g g1 g2:TY}
def jz:m6 X [] cj:=by
 nomatch (gS.imp um λE a H=>by
  rintro ⟨G,m,h,o,k,i,q⟩;cases i
  exact q a H k (cx.refl (aq.refl H)))
def Yv {K:aH} (f:cx n r H h p v) (q:wv K G w n r H E o):wv K G w h p v E o:=by
 cases o with
 |nx e=>exact λa H2 i m=>q a H2 i (f.trans m)
 |bk e=>exact λa H2 i m=>q a H2 i (f.trans m)
 |ct e=>exact λa H2 i m=>q a H2 i (f.trans m)
 |rt x d=>exact q
def je (n:DS X st g1) (p:m6 X rest g2):m6 X (st::rest) (ap g1 g2):=by
 nomatch (gS.imp (VS n p) λE B H=>by
  rintro ⟨G,i,h,o,k,r,q⟩;obtain ⟨m,e1,e2⟩:=jd r;refine ⟨G,i,h,m,k,e1,?_⟩
  cases m with
  |nx a=>exact λv I w x=>⟨G,i,a,o,w,e2,Yv x q⟩
  |rt J d=>cases e2;exact q
  |bk z=>cases e2;exact q
  |ct z=>cases e2;exact q)
def jh (a:DS X st g1):m6 X [st] g1:=by
 nomatch (gS.imp (ul a) λE h H q=>q)
def aJ (f:T0):Sl->ak bg:=λa=>f a>>=λd=> .ok (.rt true d)
def jw (h:DE X .t e f):DS X (.Return (some e) y) (aJ f):=by
 nomatch (PS.imp (ut h) λE x H=>by
  rintro ⟨G,m,i,o,k,n,q⟩;obtain ⟨d,e1,e2⟩:=jd n;cases e2
  exact ⟨G,m,i,d,k,e1,λv p s r w=>q v p (k.af.trans s) (r.aO λa z=>z.2) λ_=>bG.av k.af w⟩)
def retS (f:T0):Sl->ak bg:=λa=>f a>>=λd=> .ok (.rt false d)
def ZP (h:DE X .s e f):DS X (.Return (some e) y) (retS f):=by
 nomatch (PS.imp (ut h) λE w H=>by
  rintro ⟨G,m,i,o,k,n,q⟩;obtain ⟨d,e1,e2⟩:=jd n;cases e2
  exact ⟨G,m,i,d,k,e1,λv p s r x=>q v p (k.af.trans s) (r.aO λa z=>z.2) λz=>by cases z⟩)
def sv (i:Nat):Sl->ak D:=λa=>match a[i]? with
 |some (.ay d)=> .ok d
 |some (.ae d)=>a5 (d.ll=true) (.ok d)
 |_=> .aj
def Qd (i:Nat) {p:Pos} (hN:X.N[i]?=some x:=by rfl) (J:gs X.env.scope x:=by exact gu rfl) (hd:Yi x:=by decide)
    (r:Yh x:=by decide):DS X (.Return (some (.Name x p)) y) (aJ (sv i)):=by
 nomatch (PS.imp (ut (xM hN J hd r)) λE U H=>by
  rintro ⟨G,Y,L,o,k,N,q⟩;obtain ⟨d,e1,e2⟩:=jd N;cases e2;unfold sv at e1
  split at e1
  . rename_i O h;cases e1;obtain ⟨a,m,w,n⟩:=k.ay i d h;refine ⟨.ref a,m,q _ H k.af (n.rep (λc z=>⟨z.2,Yu k h m c z⟩) (k.g0 a w)) λ_ b e Z B=>?_⟩;cases e;rw [w] at B;cases B
  . rename_i O h;obtain ⟨I,Q⟩:=ju e1;cases Q;obtain ⟨v,m,n⟩:=k.ae i d h;exact ⟨v,m,q v H k.af (n.ll I) λ_=>Xw k.af n I⟩
  . cases e1)
def cb (t:TZ) (g1 g2:TY):Sl->ak bg:=λa=>t a>>=λb=>if b=true then g1 a else g2 a
def qk (i:DT X c t) (m:m6 X j g1) (n:m6 X u g2):DS X (.If c j u y) (cb t g1 g2):=by
 nomatch (PS.imp (Ir i m n) λE r H=>by
  rintro ⟨G,h,a,o,k,p,q⟩;obtain ⟨b,e1,e2⟩:=jd p;refine ⟨G,h,a,b,k,e1,λv s=>?_⟩
  cases b with
  |true=>rw [if_pos rfl] at e2 ⊢;exact ⟨G,h,a,o,k.av s,e2,Yv (cx.refl s) q⟩
  |false=>rw [if_neg ik] at e2 ⊢;exact ⟨G,h,a,o,k.av s,e2,Yv (cx.refl s) q⟩)
def eN (i:Nat) (f:T0):Sl->ak bg:=λa=>f a>>=λd=> .ok (.nx (a.set i (U6 d)))
def zZ (i:Nat) {x:Str} {a:Pos} (hN:X.N.Nodup) (h:DE X .t e f) (p:X.N[i]?=some x:=by rfl) (w:Loc X.env.scope x:=by exact pU rfl) (z:mH e (some (.Name x a)) y.line X.env=pure false:=by rfl)
   (B:T7 X x:=by first|exact .inl rfl|exact .inr rfl|assumption):DS X (.Assign [.Name x a] e y) (eN i f):=by
 nomatch (
  PS.imp (Ix hN p w h z B) λE N H=>by
   rintro ⟨G,I,m,o,k,J,q⟩;obtain ⟨d,e1,e2⟩:=jd J;cases e2
   exact ⟨G,I,m,d,k,e1,λv L s r n=>q _ L (k.qe s r n).1 (k.qe s r n).2⟩)
def jB (i:Nat) (f:T0):Sl->ak bg:=λa=>f a>>=λd=> .ok (.nx (a.set i (.ae d)))
def jx (i:Nat) {a:Pos} (hN:X.N.Nodup) (h:DE X .s e f) (n:X.N[i]?=some x:=by rfl) (p:Loc X.env.scope x:=by exact pU rfl) (w:mH e (some (.Name x a)) y.line X.env=pure false:=by rfl)
   (B:T7 X x:=by first|exact .inl rfl|exact .inr rfl|assumption):DS X (.Assign [.Name x a] e y) (jB i f):=by
 nomatch (
  PS.imp (Ix hN n p h w B) λE N H=>by
   rintro ⟨G,I,m,o,k,J,q⟩;obtain ⟨d,e1,e2⟩:=jd J;cases e2
   exact ⟨G,I,m,d,k,e1,λv L s r _=>q _ L ((k.av s).nZ r) (.set s λ_ _ z _=>by cases z)⟩)
def FA (i:Nat) {p:Pos} (hN:X.N.Nodup) (J:DE X l e f) (L:EF X N (Iy h)) (O:X.N[i]?=some x:=by rfl) (Q:Loc X.env.scope x:=by exact pU rfl)
   (U:T7 X x:=by first|exact .inl rfl|exact .inr rfl|assumption):
   DS X (.AugAssign (.Name x p) N e y) (jB i (ag (aa i) f (n0 h))):=by
 nomatch (
  PS.imp (Pa hN O Q J L U) λE σ H=>by
   rintro ⟨G,Y,B,o,k,Z,q⟩;obtain ⟨d,e1,e2⟩:=jd Z;obtain ⟨a,e3,e4⟩:=jd e1;obtain ⟨b,e5,I⟩:=jd e4;cases e2;obtain ⟨v,h1,h2⟩:=k.ae i a (yL e3);refine ⟨v,h1,G,Y,B,b,k,e5,λw H' s r _=>?_⟩
   cases a with
   |int m=>
    cases b with
    |int n=>
     cases I;cases h2.dC;cases r.dC;exact ⟨m,n,rfl,rfl,q _ H' ((k.av s).nZ (.int _)) (.set s λ_ _ z _=>by cases z)⟩
    |_=>cases I
   |_=>cases I)
def JL (h:DE X l e f) (i:mH e none y.line X.env=pure false:=by rfl):DS X (.Expr e y) (vc f):=by
 nomatch (PS.imp (KH h i) λE m H=>by
  rintro ⟨G,n,a,o,k,p,q⟩;obtain ⟨d,e1,e2⟩:=jd p;cases e2
  exact ⟨G,n,a,d,k,e1,λv w s r _=>q m w (k.av s) (cx.refl s)⟩)
end
def Dd (x:Str):It:=⟨λi _=>i<x.cps.size,λi H v a=>a=H/\ ∃c,x.cps[i]?=some c/\v= .str ⟨#[c]⟩,λi _=>x.cps.size<=i⟩
def U1 {K:aH} (g:Addr) (x:Str) (t:Tok):Turn P w K tg (Dd x) [g] g (λi h=>h.IsStrIter g "str_ascii_iterator" x t i) where
 mem:=by simp
 obj:=λi h st b j=>by
  have e:b=g:=by simpa using j
  subst e;obtain ⟨o,e,c,d⟩:=st;exact ⟨o,e,λv z=>by rw [d] at z;cases z⟩
 keep:=λi h p st k=>let ⟨o,Y,r⟩:=st;⟨o,k g (by simp) o Y,r⟩
 item:=by
  intro X q hw u Q i a s U H E I m st y;subst q hw u;have n:i<x.cps.size:=y;obtain ⟨B,J,Z,L,N,O⟩:=m g (by simp);refine wpAny_pyNext_ascii_item st (c:=x.cps[i]) (by simp [n]) λp l sb=>?_
  have I1:aC X a U H {s with heap:=p,toks:=s.toks+1}:=I.turned (λb o j e=>(sb.2 b j).trans e) B J L N O;obtain ⟨o,e,c,d⟩:=id l;exact ⟨_,rfl,A6 e c d (by decide) ⟨.str ⟨#[x.cps[i]]⟩,H,I1,⟨_,rfl⟩,⟨rfl,_,by simp [n],rfl⟩,l,λb j=>(m b j).1⟩⟩
 done:=by
  intro X q hw u Q i a s U H E I m st y;subst q hw u;have n:=y;obtain ⟨B,J,Z,L,N,O⟩:=m g (by simp);exact wpAny_pyNext_ascii_end (I.ok.hd Q) st (by simp;exact n) λp eb=>⟨rfl,I.turned (λb o j e=>eb b o j e) B J L N O⟩
 self:=λ_ _ _ _ _ st h=>wpAny_pyIter_striter_ascii st h
def vH {K:aH} (g:Addr) (x:Str) (t:Tok):Turn P w K tg (Dd x) [g] g (λi h=>h.IsStrIter g "str_iterator" x t i) where
 mem:=by simp
 obj:=λi h st b j=>by
  have e:b=g:=by simpa using j
  subst e;obtain ⟨o,e,c,d⟩:=st;exact ⟨o,e,λv z=>by rw [d] at z;cases z⟩
 keep:=λi h p st k=>let ⟨o,Y,r⟩:=st;⟨o,k g (by simp) o Y,r⟩
 item:=by
  intro X q hw u Q i a s U H E I m st y;subst q hw u;have n:i<x.cps.size:=y;obtain ⟨B,J,Z,L,N,O⟩:=m g (by simp);refine wpAny_pyNext_wide_item st (c:=x.cps[i]) (by simp [n]) λp l sb=>?_
  have I1:aC X a U H {s with heap:=p,toks:=s.toks+1}:=I.turned (λb o j e=>(sb.2 b j).trans e) B J L N O;obtain ⟨o,e,c,d⟩:=id l;exact ⟨_,rfl,A6 e c d (by decide) ⟨.str ⟨#[x.cps[i]]⟩,H,I1,⟨_,rfl⟩,⟨rfl,_,by simp [n],rfl⟩,l,λb j=>(m b j).1⟩⟩
 done:=by
  intro X q hw u Q i a s U H E I m st y;subst q hw u;have n:=y;obtain ⟨B,J,Z,L,N,O⟩:=m g (by simp);exact wpAny_pyNext_wide_end (I.ok.hd Q) st (by simp;exact n) λp eb=>⟨rfl,I.turned (λb o j e=>eb b o j e) B J L N O⟩
 self:=λ_ _ _ _ _ st h=>wpAny_pyIter_striter_wide st h
def Walk (J:It) (a:List V) (P:Hp->Prop):Prop:= ∀i H,P H->(i<a.length->J.go i H)/\(i<a.length-> ∀x c,J.CM i H x c->c=H/\a[i]?=some x)/\(a.length<=i->J.stop i H)
def Yd (K:aH) (A:VJ) (a H c:Hp) (x:V) (d:D):Prop:=
 (c=H/\aN K A a x d)\/ ∃p e g,H p=none/\x= .ref p/\c=L2.aU H p (.am e)/\d= .am g/\ao K A a e g
def FC (K:aH) (A:VJ) (c:Hp) (J:It) (ds:List D) (P:Hp->Prop):Prop:= ∀i H,P H->(i<ds.length->J.go i H)/\(∀d,ds[i]?=some d-> ∀x a,J.CM i H x a->Yd K A c H a x d)/\(ds.length<=i->J.stop i H)
def Walk.toD {K:aH} (c:ao K A g j ds) (w:Walk J j P):FC K A g J ds P:=λi H p=>by
 have hl:=c.length;obtain ⟨l,m,n⟩:=w i H p;refine ⟨λh=>l (by omega),λd hd x o y=>?_,λh=>n (by omega)⟩;have u:=(mX.mp hd).1;obtain ⟨e,q⟩:=m (by omega) x o y;obtain ⟨v,a,r⟩:=c.get' q;rw [hd] at a;cases a;exact .inl ⟨e,r⟩
def tI (K:aH) (f:TX):TI:=λg H R=> ∃G j a ds,aD K G j a g H/\f a= .ok ds/\
 ∀J c P,aq H c->FC K (Sf G a g) c J ds P->P c->(∀e h i,cx a g c e h i->P i)->R J c
@[irreducible] def DI (X:Cx) (a e:Expr) (f:TX):Prop:=PI X a e (tI X.K f)
def WT (z:Str):List D:=z.cps.toList.map λc=> .str ⟨#[c]⟩
def De:D->ak (List D)
 | .ai ds=> .ok ds
 | .gv ds=> .ok ds
 | .am ds=> .ok ds
 | .str z=> .ok (WT z)
 |_=> .aj
def U7 (z:Str):List V:=z.cps.toList.map λc=> .str ⟨#[c]⟩
def vS {K:aH} (z:Str):ao K A H (U7 z) (WT z):=by
 unfold U7 WT;generalize z.cps.toList=l
 induction l with
 |nil=>exact .nil
 |cons c r a=>exact .cons (.str _ (RP c)) a
section
variable {X:Cx} {B e:Expr} {f:T0} {l:Lv}
def cg (f:T0):Sl->ak (List D):=λa=>f a>>=De
def jV (h:DE X .s e f):DI X B e (cg f):=by
 nomatch (by
  rintro pins s σ H R I ⟨G,H0,N,ds,k,ef,q⟩;obtain ⟨d,e1,e2⟩:=jd ef;refine bA (h pins s σ H (λv n=>aq H n/\aN X.K (Sf G N σ) n v d) I ⟨G,H0,N,d,k,e1,λv E s r _=>⟨s,r⟩⟩) λv u oX=>?_;obtain ⟨x,n,j,r1,Z,rep⟩:=oX
  have k1:=k.av Z
  cases d with
  |ai J8=>
   cases e2;obtain ⟨a,g,rfl,L,na,rs⟩:=rep.eM;cases r1;obtain ⟨Y,rv,p,hz⟩:=j.list (.of L);refine Az p.isList ?_;refine ⟨u.heap.objs.size,[u.heap.objs.size],_,_,n,rfl,j.kept λb o e=>cT _ e,X9 a _,⟨_,fS _ rfl,rfl,rfl⟩,λb O=>?_,?_⟩
   . have e:b=u.heap.objs.size:=by simpa using O
     subst e;exact j.jN (bn _) (j.be.fresh (bn _))
   . refine q _ n (λH=>H a=some (.ai g)) Z (Walk.toD rs.low λi E p=>?_) L (λw Q E fr=>fr.keep a _ L na.1);exact ⟨λm=>⟨g,g[i],.of p,by simp [m]⟩,λ_ x E y=>⟨y.1,y.2 g (.of p)⟩,λm=>⟨g,.of p,m⟩⟩
  |gv J8=>
   cases e2;obtain ⟨a,g,rfl,L,rs⟩:=rep.pW;cases r1;obtain ⟨Y,rv,p,hz⟩:=j.list L.rS;refine Az p.isList ?_;refine ⟨u.heap.objs.size,[u.heap.objs.size],_,_,n,rfl,j.kept λb o e=>cT _ e,X9 a _,⟨_,fS _ rfl,rfl,rfl⟩,λb O=>?_,?_⟩
   . have e:b=u.heap.objs.size:=by simpa using O
     subst e;exact j.jN (bn _) (j.be.fresh (bn _))
   . refine q _ n (λH=>pV X.K H a g) Z (Walk.toD rs λi E p=>?_) L (λw Q E fr=>?_)
     . exact ⟨λm=>⟨g,g[i],p.rS,by simp [m]⟩,λ_ x E y=>⟨y.1,y.2 g p.rS⟩,λm=>⟨g,p.rS,m⟩⟩
     . rcases L with ⟨o,eo⟩|z
       . exact .inl ⟨o,fr.keep a _ eo λow=>(k1.pX ow eo).elim⟩
       . exact .inr z
  |am J8=>
   cases e2;obtain ⟨a,g,rfl,L,rs⟩:=rep.gI;cases r1;obtain ⟨Y,rv,p,hz⟩:=j.tuple (.of L);refine wpAny_pyIter_tuple (show u.heap.IsTuple a Y.toArray from p) ?_;refine ⟨u.heap.objs.size,[u.heap.objs.size],_,_,n,rfl,j.kept λb o e=>cT _ e,UY a _,⟨_,fS _ rfl,rfl,rfl⟩,λb O=>?_,?_⟩
   . have e:b=u.heap.objs.size:=by simpa using O
     subst e;exact j.jN (bn _) (j.be.fresh (bn _))
   . refine q _ n (λH=>H a=some (.am g)) Z (Walk.toD rs λi E p=>?_) L (λw Q E fr=>fr.keep a _ L λow=>(k1.pX ow L).elim);exact ⟨λm=>⟨g,g[i],.of p,by simp [m]⟩,λ_ x E y=>⟨y.1,y.2 g (.of p)⟩,λm=>⟨g,.of p,m⟩⟩
  |str z=>
   cases e2;obtain ⟨rfl,hz⟩:=rep.iZ;obtain ⟨t,rfl⟩:=r1
   have fin: ∀(J:It),J=Dd z-> ∃(g:List V) (P:Hp->Prop),ao X.K (Sf G N σ) n g (WT z)/\Walk J g P/\P n/\ ∀w Q E,cx N σ n w Q E->P E:=by
     rintro J rfl;refine ⟨U7 z,λ_=>True,vS z,λi E _=>?_,trivial,λ_ _ _ _=>trivial⟩;have hl:(U7 z).length=z.cps.size:=by simp [U7]
     refine ⟨λm=>by rw [hl] at m;exact m,λm x H2 y=>?_,λm=>by rw [hl] at m;exact m⟩;obtain ⟨y1,c,y2,y3⟩:=y;refine ⟨y1,?_⟩;subst y3;simp [U7,y2]
   obtain ⟨g,P,h1,h2,h3,h4⟩:=fin (Dd z) rfl
   cases U:z.cps.all (· <128) with
   |true=>
     refine wpAny_pyIter_ascii U ?_;refine ⟨u.heap.objs.size,[u.heap.objs.size],_,_,n,rfl,j.kept λb o e=>cT _ e,U1 _ z t,⟨_,fS _ rfl,rfl,rfl⟩,λb O=>?_,q _ n P Z (Walk.toD h1 h2) h3 h4⟩;have e:b=u.heap.objs.size:=by simpa using O
     subst e;exact j.jN (bn _) (j.be.fresh (bn _))
   |false=>
     refine wpAny_pyIter_wide U ?_;refine ⟨u.heap.objs.size,[u.heap.objs.size],_,_,n,rfl,j.kept λb o e=>cT _ e,vH _ z t,⟨_,fS _ rfl,rfl,rfl⟩,λb O=>?_,q _ n P Z (Walk.toD h1 h2) h3 h4⟩;have e:b=u.heap.objs.size:=by simpa using O
     subst e;exact j.jN (bn _) (j.be.fresh (bn _))
  |_=>cases e2)
def ZD (lo:Int) (n:Nat):List D:=(fF n).map λ(i:Nat)=> .int (lo+(i:Int))
def kQ (lo:Int) (n:Nat):List V:=(fF n).map λ(i:Nat)=> .int (lo+(i:Int))
def RR {K:aH} (lo:Int) (n:Nat):ao K A H (kQ lo n) (ZD lo n):=by
 unfold kQ ZD;generalize fF n=l
 induction l with
 |nil=>exact .nil
 |cons c r a=>exact .cons (.int _) a
def UW (lo:Int) (n:Nat):Walk (CN lo n) (kQ lo n) (λ_=>True):=λi H _=>by
 have c:(kQ lo n).length=n:=by simp [kQ]
 refine ⟨λa=>by rw [c] at a;exact a,λa x H2 y=>?_,λa=>by rw [c] at a;exact a⟩;obtain ⟨g,h⟩:=y;refine ⟨g,?_⟩;subst h;rw [c] at a;simp [kQ,a]
def wZ:List D->ak (List D)
 | [.int j]=>a5 (-(2^62)<=j/\j<2^62) (.ok (ZD 0 j.toNat))
 |_=> .aj
def ao.one {K:aH} (r:ao K A H a [d]): ∃v,a=[v]/\aN K A H v d:=by
 cases r with
 |cons h t=>cases t;exact ⟨_,rfl,h⟩
def ao.ag {K:aH} (r:ao K A H c [d,g]): ∃v a,c=[v,a]/\aN K A H v d/\aN K A H a g:=by
 cases r with
 |cons h t=>
  obtain ⟨a,rfl,i⟩:=t.one;exact ⟨_,_,rfl,h,i⟩
def PI.imp (h:PI X B e t) (w: ∀a H Q,g a H Q->t a H Q):PI X B e g:=λc s a H Q I q=>h c s a H Q I (w a H Q q)
def n3 (c:TX):Sl->ak (List D):=λa=>c a>>=wZ
def JD {a:Expr} (g:Gl X "range") (h:X.mg "range" =none) (i:DA X l [a] j) (m:c0 [a] X.env=[(false,eval a X.env)]:=by rfl):DI X B (.Call (.Name "range" p) [a] [] n) (n3 j):=by
 nomatch (
  PI.imp (uD g h i m) λL H R=>by
   rintro ⟨G,o,c,ds,k,u,q⟩;obtain ⟨w,e1,e2⟩:=jd u;refine ⟨G,o,c,w,k,e1,λN x y z=>?_⟩;unfold wZ at e2
   split at e2
   . obtain ⟨⟨E,I⟩,J⟩:=ju e2;cases J;obtain ⟨v,rfl,r⟩:=z.one;cases r.dC;exact ⟨_,rfl,E,I,q _ x _ y (Walk.toD (RR 0 _) (UW 0 _)) trivial λ_ _ _ _=>trivial⟩
   . cases e2)
def tG (K:aH) (t:TV):TG:=λv h H Q=> ∃G i c d a,aD K G i c h H/\aN K (Sf G c h) H v d/\t d c= .ok a/\ ∀g,aD K G i a g H->cx c h H a g H->Q g H
@[irreducible] def DG (X:Cx) (B:Expr) (t:TV):Prop:=PG X B (tG X.K t)
theorem PG.imp (h:PG X B t) (w: ∀v a H Q,g v a H Q->t v a H Q):PG X B g:=λc s a H v u Q I r q=>h c s a H v u Q I r (w v a H Q q)
def gN (i:Nat):D->Sl->ak Sl:=λd a=> .ok (a.set i (.ae d))
def jo (i:Nat) {a:Pos} (hN:X.N.Nodup) (g:X.N[i]?=some x:=by rfl) (h:Loc X.env.scope x:=by exact pU rfl)
   (j:T7 X x:=by first|exact .inl rfl|exact .inr rfl|assumption):DG X (.Name x a) (gN i):=by
 nomatch (
  PG.imp (O6 hN g h j) λv n H Q=>by
   rintro ⟨G,o,m,d,c,k,r,e,q⟩;cases e
   exact q _ (k.nZ r) (.set (aq.refl H) λ_ _ z _=>by cases z))
def g2 (t u:TV):D->Sl->ak Sl:=λd c=>match d with
 | .am [x,y]=>t x c>>=λa=>u y a
 |_=> .aj
def wA {a:Expr} {k:Nat} {h:Pos} (x:X.cR=true) (y:DG X a t) (z:DG X b u)
   (E:(lh [a,b] X.env).map (·.2)=ot a X.env::(lh [b] X.env).map (·.2):=by rfl) (i:(lh [b] X.env).map (·.2)=ot b X.env::(lh [] X.env).map (·.2):=by rfl)
   (I:(lh [a,b] X.env).length=2:=by rfl) (j:(lh [a,b] X.env).findIdx? (·.1)=none:=by rfl):DG X (.Tuple [a,b] k h) (g2 t u):=by
 nomatch (
  PG.imp (Iv x (Jk y (Jk z uE i) E) I j) λv σ H Q=>by
   rintro ⟨G,o,m,d,g,k,r,e,q⟩;unfold g2 at e
   split at e
   . obtain ⟨c,e1,e2⟩:=jd e;obtain ⟨a,xs,rfl,J,L⟩:=r.gI;obtain ⟨N,p,rfl,O,U⟩:=L.ag;refine ⟨a,_,rfl,.of J,rfl,N,[p],rfl,G,o,m,_,c,k,O,e1,λY Z w=>⟨p,[],rfl,G,o,c,_,g,Z,w.rep k U,e2,λn k2 f2=>⟨rfl,q n k2 (w.trans f2)⟩⟩⟩
   . cases e)
def gK (f:T0) (t:TV):Sl->ak bg:=λa=>f a>>=λd=>t d a>>=λc=> .ok (.nx c)
def Qr {a:Pos} (j:DE X .s e f) (m:DG X B t) (n:A4 [B] e a.line X.env=pure false:=by rfl) (hw:A5 [B] e X.env=pure none:=by rfl)
   (p:(lh [B] X.env).map (·.2)=[ot B X.env]:=by rfl):DS X (.Assign [B] e a) (gK f t):=by
 nomatch (
  PS.imp (Iw j m n hw p) λE J H=>by
   rintro ⟨G,i,c,o,k,u,q⟩;obtain ⟨d,e1,e2⟩:=jd u;obtain ⟨g,w,x⟩:=jd e2;cases x
   exact ⟨G,i,c,d,k,e1,λv y s r _=>⟨G,i,c,d,g,k.av s,r,w,λh z I=>q h y z (I.av s)⟩⟩)
def bO (c:D->Sl->ak bg):List D->Sl->ak bg
 | [],g=> .ok (.nx g)
 |d::ds,g=>c d g>>=λo=>match o with
  | .nx a=>bO c ds a
  | .ct a=>bO c ds a
  | .bk a=> .ok (.nx a)
  | .rt h d=> .ok (.rt h d)
def j6 (t:TV) (g:TY):D->Sl->ak bg:=λd a=>t d a>>=g
def cG (f:TX) (t:TV) (g:TY):Sl->ak bg:=λa=>f a>>=λds=>bO (j6 t g) ds a
def qT (U:PassesOwn (model X.prog X.w) X.A X.env X.xe) (hc:X.cR=true) (hi:DI X B e fi) (hg:DG X B t) (hb:m6 X L g)
   (hs: ∀x,Al e X.env x=pure x:=by intro _;rfl):DS X (.For B e L [] pos) (cG fi t g):=by
 nomatch (
  PS.imp (Ph U hc hi hg hb hs) λE σ H=>by
   rintro ⟨G,N,u,o,k,ef,q⟩;obtain ⟨ds,e1,e2⟩:=jd ef;refine ⟨G,N,u,ds,k,e1,λJ H1 P sm wk p0 Bz=>?_⟩;have k1:=k.av sm;have q1:=Yv (cx.refl sm) q;refine ⟨λi m j w=>m=ds.length-i/\i<=ds.length/\ ∃c,aD X.K G N c j w/\cx u σ H1 c j w/\bO (j6 t g) (ds.drop i) c= .ok o,⟨ds.length,by simp,li _,u,k1,cx.refl (aq.refl H1),by simpa using e2⟩,?_⟩;rintro i m j w ⟨rfl,hi,c,k',O,Y⟩;obtain ⟨w1,w2,w3⟩:=wk i w (Bz c j w O)
   by_cases hd:i<ds.length
   . refine .inr ⟨w1 hd,?_⟩;rw [List.drop_eq_getElem_cons hd] at Y;obtain ⟨o1,e3,Z⟩:=jd Y;obtain ⟨v,e5,e6⟩:=jd e3;refine ⟨λh H2=>ds.length-(i+1)=ds.length-(i+1)/\i+1<=ds.length/\ ∃a,aD X.K G N a h H2/\cx u σ H1 a h H2/\bO (j6 t g) (ds.drop (i+1)) a= .ok o,λh H2 z=>⟨ds.length-(i+1),by omega,z⟩,λx H2 y=>?_⟩
     obtain ⟨Q,rd⟩:aq w H2/\aN X.K (Sf G c j) H2 x ds[i]:=by
      rcases w2 _ (cy hd) x H2 y with ⟨rfl,rd⟩| ⟨p,vs,es,U,rfl,rfl,ed,FD⟩
      . exact ⟨aq.refl _,O.rep k1 rd⟩
      . refine ⟨aq.aU U,?_⟩;rw [ed];exact .am jy ((O.Fz k1 FD).av (aq.aU U))
     refine ⟨G,N,c,ds[i],v,k'.av Q,rd,e5,λBA RS RT=>⟨G,N,v,o1,RS,e6,?_⟩⟩;have I:=(O.trans (cx.refl Q)).trans RT
     cases o1 with
     |nx a=>exact λh H3 n r=>⟨rfl,hd,a,n,I.trans r,Z⟩
     |ct a=>exact λh H3 n r=>⟨rfl,hd,a,n,I.trans r,Z⟩
     |bk a=>cases Z;exact λh H3 n r=>q1 h H3 n (I.trans r)
     |rt fr dd=>cases Z;exact q1
   . have he:i=ds.length:=by omega
     refine .inl ⟨w3 (by omega),?_⟩;rw [List.drop_eq_nil_of_le (by omega)] at Y;cases Y
     exact q1 j w k' O)
def ql (n:Nat) (t:TZ) (g:TY):Sl->ak bg:=λc=>match n with
 |0=> .aj
 |n+1=>t c>>=λb=>if b=true then g c>>=λo=>match o with
   | .nx a=>ql n t g a
   | .ct a=>ql n t g a
   | .bk a=> .ok (.nx a)
   | .rt h d=> .ok (.rt h d)
  else .ok (.nx c)
def JA (n:Nat) (Z:PassesOwn (model X.prog X.w) X.A X.env X.xe) (hc:DT X c t) (hb:m6 X w g):DS X (.While c w [] pos) (ql n t g):=by
 nomatch (
  PS.imp (Pc Z hc hb) λE O H=>by
   rintro ⟨G,x,u,o,k,ef,q⟩;refine ⟨λm r J=> ∃h,aD X.K G x h r J/\cx u O H h r J/\ql m t g h= .ok o,⟨n,u,k,cx.refl (aq.refl H),ef⟩,?_⟩;rintro m r J ⟨h,L,Q,U⟩
   cases m with
   |zero=>cases U
   |succ m=>
    obtain ⟨b,e1,e2⟩:=jd U;refine ⟨G,x,h,b,L,e1,λH1 y=>?_⟩
    cases b with
    |false=>
     rw [if_neg ik] at e2 ⊢;cases e2;exact q r H1 (L.av y) (Q.trans (cx.refl y))
    |true=>
     rw [if_pos rfl] at e2 ⊢;obtain ⟨Y,e3,I⟩:=jd e2;refine ⟨λi H2=> ∃a,aD X.K G x a i H2/\cx u O H a i H2/\ql m t g a= .ok o,λi H2 z=>⟨m,CW m,z⟩,G,x,h,Y,L.av y,e3,?_⟩;have v:=Q.trans (cx.refl y)
     cases Y with
     |nx a=>exact λi N j p=>⟨a,j,v.trans p,I⟩
     |ct a=>exact λi N j p=>⟨a,j,v.trans p,I⟩
     |bk a=>cases I;exact λi N j p=>q i N j (v.trans p)
     |rt fr dd=>cases I;exact q)
end
def eH (i:Nat) (a:Sl):Sl:=match a[i]? with
 |some (.ay d)=>a.set i (.ae d)
 |_=>a
def Yt (h:qB (eH i c) l a):qB c l a:=by
 unfold eH at h
 split at h
 . rename_i d hd;obtain ⟨j,e,g,m⟩:=h
   by_cases z:i=j
   . subst z;obtain ⟨q,_⟩:=jI g;cases q
   . rw [jC z] at g;exact ⟨j,e,g,m⟩
 . exact h
def aD.eH {K:aH} (i:Nat) (k:aD K G E env r H):aD K G E (eH i env) r H:=by
 have w: ∀a,Sf G env r a->Sf G (M.eH i env) r a:=λa n=>⟨λo=>n.1 (Yt o),n.2⟩
 cases l:env[i]? with
 |none=>
  have e:M.eH i env=env:=by unfold M.eH;rw [l]
  rw [e];exact k
 |some s=>
  cases s with
  |un=>
   have e:M.eH i env=env:=by unfold M.eH;rw [l]
   rw [e];exact k
  |ae d=>
   have e:M.eH i env=env:=by unfold M.eH;rw [l]
   rw [e];exact k
  |ay d=>
   have e:M.eH i env=env.set i (.ae d):=by unfold M.eH;rw [l]
   obtain ⟨a,u,I,J⟩:=k.ay i d l
   have y:Ft (M.eH i env) r a:=by
     rintro ⟨j,m,g,p⟩;rw [e] at g
     by_cases z:i=j
     . subst z;obtain ⟨q,_⟩:=jI g;cases q
     . rw [jC z] at g;exact z (k.th i j d m a l g u p)
   rw [e] at w y ⊢;refine ⟨by simp [k.len],k.af,k.g0,λj m h=>?_,λj m h=>?_,λj B L N b g p O Q=>?_⟩
   . by_cases z:i=j
     . subst z;obtain ⟨q,hl⟩:=jI h;cases q;exact ⟨_,u,J.rep (λc z=>⟨w c z,Yu k l u c z⟩) ⟨y,k.g0 a I⟩⟩
     . rw [jC z] at h;obtain ⟨v,x,g2⟩:=k.ae j m h;exact ⟨v,x,g2.aO w⟩
   . by_cases z:i=j
     . subst z;obtain ⟨q,hl⟩:=jI h;cases q
     . rw [jC z] at h;obtain ⟨v,x,g0,g2⟩:=k.ay j m h;exact ⟨v,x,g0,g2.bL (λ_ _ e _=>e) w λ_ e=>e⟩
   . have U:i≠j:=λz=>by subst z;obtain ⟨q,_⟩:=jI g;cases q
     have Y:i≠B:=λz=>by subst z;obtain ⟨q,_⟩:=jI p;cases q
     rw [jC U] at g;rw [jC Y] at p;exact k.th j B L N b g p O Q
def gY (i:Nat) (g:TY):Sl->ak bg:=λa=>g (eH i a)
def JB (i:Nat) {st:Stmt} (h:DS X st g):DS X st (gY i g):=by
 nomatch (PS.imp h λE c H=>by
  rintro ⟨G,j,a,o,k,l,q⟩;refine ⟨G,j,eH i a,o,k.eH i,l,?_⟩;have f:cx a c H (eH i a) c H:=⟨λ_ _ e _=>e,λb o=> .inl (Yt o),λ_ e=>e⟩
  exact Yv f q)
end M
namespace PySem.AutoSeq1
open PySem Builtin
def gL (l:Addr) (c:Array Value) (n:Nat) (b:Addr) (a:Array Value) (m:Nat) (dd:Option Addr) (o:Array (Option Value)) (p: ¬(!c.isEmpty&&Bp (c.size+a.size))=true) (q:c.size<=aS) (e:c.size+a.size<=aS+1):
  Meets (mS.«list.extend» ⟨[.ref l,.ref b],[]⟩) (λ_ R s=>s.heap.get? l=some {cls:= .type "list",dict:=none,data:= .seq c n,slots:= #[]}/\s.heap.get? b=some {cls:= .type "tuple",dict:=dd,data:= .seq a m,slots:=o}/\R (.ok (.ret om)) {s with heap:=s.heap.update l (pS λx=>x++a),toks:=s.toks}):=
 .of_wp λi w A R s h=>by
  obtain ⟨v,g,d,tk,os⟩:=s;obtain ⟨j,r,h⟩:=h;have y:=idx_int;have z:=sub_tuple_tuple;have B:=sub_list_list;have E:=sub_tuple_list;have H:=sub_list_tuple;
  have u:(c++a).size<=aS+1:=by rw [Array.size_append];exact e
  wp_walk using (wpAny_updateSeq j rfl),BB j,BB r;exact ⟨_,rfl,h⟩
end PySem.AutoSeq1
namespace M
open PySem PySem.Spec L2
open PyProof.Rows hiding St
theorem m8: ∀ {ds:List D},D.gw ds=true↔ ∀d∈ds,d.ll=true
 | []=>by simp [D.gw]
 |d::ds=>by simp [D.gw,m8]
section
variable {X:Cx}
def RU:V->List V->Hp->VK->Prop:=λx e H Q=> ∃l b a c,x= .ref l/\e=[.ref b]/\H l=some (.ai a)/\H b=some (.am c)/\a.length+c.length<=aS/\Q .a6 (aU H l (.ai (a++c)))
def kH:Fa X "list.extend" RU:=by
 intro w s σ H x vs v us Q I E J h;obtain ⟨l,b,xs,zs,rfl,rfl,y,L,hz,q⟩:=h;cases E;obtain ⟨u,rfl,N⟩:=J.one;cases N;obtain ⟨z,c,n,r,hl,e⟩:=I.nY y;obtain ⟨a,B,⟨ob,e2,O,U,hd⟩,z2⟩:=I.tuple (.of L);have Y:=B.length;obtain ⟨c2,i,Z,j⟩:=ob;have m:=O;have o:=hd;subst m o;have p:c.toArray.size+a.toArray.size<=aS:=by rw [dj,dj];omega
 have g: ¬(!c.toArray.isEmpty&&Bp (c.toArray.size+a.toArray.size))=true:=by
  rw [Xo p,Bool.and_false];exact ik
 refine Au Fb ⟨_,e,rfl⟩ F.entry_list_extend (F.args_list_extend_2 _ _)
  (AutoSeq1.gL l c.toArray n b a.toArray U i j g (by rw [dj];omega) (by omega)) ⟨e,e2,?_⟩
 refine ⟨.a6,_,I.v3 y e (by simp) (r.append B) ?_,rfl,q⟩;rw [gm];omega
def J0 (l:c[i]?=some (.ay d)):qB (c.set i (.ay m)) n a↔qB c n a:=by
 have o:=(mX.mp l).1
 constructor
 . rintro ⟨j,e,h,g⟩
   by_cases z:i=j
   . subst z;exact ⟨i,d,l,g⟩
   . rw [jC z] at h;exact ⟨j,e,h,g⟩
 . rintro ⟨j,e,h,g⟩
   by_cases z:i=j
   . subst z;exact ⟨i,m,Ai o,g⟩
   . exact ⟨j,e,by rw [jC z];exact h,g⟩
def aD.ml {K:aH} (k:aD K G U env g H) (p:env[i]?=some (.ay L)) (y:g[i]?=some (some (.ref a))) (Y:H a=some Z) (hm:pk (some Z))
   (top: ∀(N:VJ) (I:Hp),iY (Sf G env g) H I->I a=some o'->(∀b,Sf G env g b->N b)->Top K N I a E):aD K G U (env.set i (.ay E)) g (aU H a o')/\cx env g H (env.set i (.ay E)) g (aU H a o'):=by
 have hl:=(mX.mp p).1;have O:qB env g a:=⟨i,_,p,y⟩
 have st:iY (Sf G env g) H (aU H a o'):=λc o e m=>by
   rw [jY ?_]
   . exact e
   . rintro rfl;rw [Y] at e;cases e;exact (m hm).1 O
 have w: ∀c,Sf G env g c->Sf G (env.set i (.ay E)) g c:=λc n=>⟨λo=>n.1 ((J0 p).mp o),n.2⟩
 refine ⟨⟨by simp [k.len],λc o e=>?_,k.g0,λj r h=>?_,λj r h=>?_,λj Q r d2 b q1 q2 q3 q4=>?_⟩,⟨λc o e n=>?_,λc o=> .inl ((J0 p).mp o),λc e=>?_⟩⟩
 . have x:c≠a:=by
     rintro rfl;obtain ⟨b,l,B,_⟩:=k.ay i _ p;rw [y] at l;cases l;rw [B] at e;cases e
   rw [jY x];exact k.af c o e
 . by_cases z:i=j
   . subst z;obtain ⟨q,_⟩:=jI h;cases q
   . rw [jC z] at h;obtain ⟨v,l,J⟩:=k.ae j r h;exact ⟨v,l,J.bL st w⟩
 . by_cases z:i=j
   . subst z;obtain ⟨q,_⟩:=jI h;cases q;obtain ⟨b,l,B,_⟩:=k.ay i _ p;rw [y] at l;cases l;exact ⟨a,y,B,top _ _ st jy w⟩
   . rw [jC z] at h;obtain ⟨b,l,B,J⟩:=k.ay j r h
     have hb:b≠a:=by
       rintro rfl;exact z (k.th i j _ _ b p h y l)
     exact ⟨b,l,B,J.bL st w λo e=>by rw [jY hb];exact e⟩
 . have u: ∀(j:Nat) (r:D),(env.set i (.ay E))[j]?=some (.ay r)-> ∃L:D,env[j]?=some (.ay L):=λj r q=>by
     by_cases z:i=j
     . subst z;exact ⟨_,p⟩
     . rw [jC z] at q;exact ⟨_,q⟩
   obtain ⟨e1,z1⟩:=u j r q1;obtain ⟨e2,z2⟩:=u Q d2 q2;exact k.th j Q e1 e2 b z1 z2 q3 q4
 . have x:c≠a:=by
     rintro rfl;exact n O
   rw [jY x];exact e
 . by_cases x:c=a
   . subst x;rw [jy] at e;cases e
   . rw [jY x] at e;exact e
def aD.write {K:aH} (k:aD K G j env c H) (l:env[i]?=some (.ay (.ai ds))) (m:c[i]?=some (some (.ref a))) (n:H a=some (.ai o))
  (r:ao K (Sf G env c) H g h):aD K G j (env.set i (.ay (.ai h))) c (aU H a (.ai g))/\cx env c H (env.set i (.ay (.ai h))) c (aU H a (.ai g)):=
 k.ml l m n trivial λp q st e w=> .ai e (r.bL st w)
def Jl {K:aH} {i:Nat} (k:aD K G n c g H) (j:c[i]?=some (.ay (.ai ds))): ∃a h,g[i]?=some (some (.ref a))/\H a=some (.ai h)/\ao K (Sf G c g) H h ds:=by
 obtain ⟨a,l,o,m⟩:=k.ay i _ j
 cases m with
 |ai e r=>exact ⟨a,_,l,e,r⟩
variable {e:Expr} {f:T0} {l:Lv} {U Z Y p:Pos} {x:Str}
noncomputable def fM (i:Nat) (a:Sl):ak (List D):=match a[i]? with
 |some (.ay (.ai ds))=> .ok ds
 |_=> .aj
def Jm (h:fM i a= .ok ds):a[i]?=some (.ay (.ai ds)):=by
 unfold fM at h
 split at h
 . cases h;assumption
 . cases h
def zM (i:Nat) (f:T0):Sl->ak bg:=λa=>fM i a>>=λds=>f a>>=λd=>a5 (ds.length<aS) (.ok (.nx (a.set i (.ay (.ai (ds++[d]))))))
def xm (i:Nat) (N:DE X .s e f) (hN:X.N[i]?=some x:=by rfl) (O:gs X.env.scope x:=by exact gu rfl)
   (hd:Yi x:=by decide) (r:Yh x:=by decide)
   (g:mZ (.Name x p) "append" X.env (eval (.Name x p) X.env)=eval (.Name x p) X.env:=by rfl)
   (j:((iW Z (c0 [e] X.env)).all (λx=>!x.1)&&(oS Z (oT [] X.env)).all (λx=>x.1.isSome)
    &&decide ([e].length+([]:List nJ).length+(if ([]:List nJ).isEmpty then 0 else 1)<30))=true:=by exact Js rfl rfl)
   (h:(Y.endLine==Z.line)=true:=by rfl) (y:c0 [e] X.env=(false,eval e X.env)::c0 [] X.env:=by exact jt rfl) (c:(iW Z (c0 [] X.env)).any (·.1)=false:=by exact jS rfl)
   (u:mH (.Call (.Attribute (.Name x p) "append" Y) [e] [] Z) none U.line X.env=pure false:=by rfl):
   DS X (.Expr (.Call (.Attribute (.Name x p) "append" Y) [e] [] Z) U) (zM i f):=by
 nomatch (
  PS.imp (KH (C2 PySem.F.plainAttrs_list PySem.F.slot_list_append PySem.F.type_list_append YH (xM hN O hd r) (za N xg y) g j h y c) u) λE Q H=>by
   rintro ⟨G,H0,w,o,k,ef,q⟩;obtain ⟨ds,e1,e2⟩:=jd ef;obtain ⟨d,e3,e4⟩:=jd e2;obtain ⟨hz,e5⟩:=ju e4;cases e5;have z:=Jm e1;obtain ⟨a,B,I,J,L⟩:=Jl k z;refine ⟨.ref a,I,.inl ⟨rfl,B,.of J⟩,G,H0,w,d,k,e3,λv H1 n r1 _=>?_⟩;have m:=n _ _ J;refine ⟨a,B,v,rfl,rfl,m,by rw [L.length];exact hz,?_⟩;have W:=(k.av n).write z I m ((L.av n).append (.cons r1 .nil))
   exact q Q _ W.1 (W.2.av n))
def qz (i:Nat) (f:T0):Sl->ak bg:=λa=>fM i a>>=λds=>f a>>=λd=>match d with
 | .ai c=>a5 (ds.length+c.length<=aS) (.ok (.nx (a.set i (.ay (.ai (ds++c))))))
 | .am c=>a5 (ds.length+c.length<=aS) (.ok (.nx (a.set i (.ay (.ai (ds++c))))))
 |_=> .aj
def yb (i:Nat) (he:DE X .s e f) (hN:X.N[i]?=some x:=by rfl) (hv:gs X.env.scope x:=by exact gu rfl)
   (hd:Yi x:=by decide) (y:Yh x:=by decide)
   (h:mZ (.Name x p) "extend" X.env (eval (.Name x p) X.env)=eval (.Name x p) X.env:=by rfl)
   (r:((iW Z (c0 [e] X.env)).all (λx=>!x.1)&&(oS Z (oT [] X.env)).all (λx=>x.1.isSome)
    &&decide ([e].length+([]:List nJ).length+(if ([]:List nJ).isEmpty then 0 else 1)<30))=true:=by exact Js rfl rfl)
   (j:(Y.endLine==Z.line)=true:=by rfl) (hs:c0 [e] X.env=(false,eval e X.env)::c0 [] X.env:=by exact jt rfl) (c:(iW Z (c0 [] X.env)).any (·.1)=false:=by exact jS rfl)
   (z:mH (.Call (.Attribute (.Name x p) "extend" Y) [e] [] Z) none U.line X.env=pure false:=by rfl):
   DS X (.Expr (.Call (.Attribute (.Name x p) "extend" Y) [e] [] Z) U) (qz i f):=by
 nomatch (
  PS.imp (KH (C2 PySem.F.plainAttrs_list Fb PySem.F.type_list_extend (rQ.or QN kH) (xM hN hv hd y) (za he xg hs) h r j hs c) z) λE σ H=>by
   rintro ⟨G,H0,B,o,k,ef,q⟩;obtain ⟨ds,e1,e2⟩:=jd ef;obtain ⟨d,e3,I⟩:=jd e2;have J:=Jm e1;obtain ⟨a,L,N,hx,w⟩:=Jl k J;refine ⟨.ref a,N,.inl ⟨rfl,L,.of hx⟩,G,H0,B,d,k,e3,λv H1 m r1 _=>?_⟩;have g:=m _ _ hx
   cases d with
   |ai es=>
    obtain ⟨O,Q⟩:=ju I;cases Q;obtain ⟨b,ys,rfl,hb,_,u⟩:=r1.eM;have n:=u.low;refine .inl ⟨a,b,L,ys,rfl,rfl,g,hb,by rw [w.length,u.length];exact O,?_⟩;have W:=(k.av m).write J N g ((w.av m).append n);exact q σ _ W.1 (W.2.av m)
   |am es=>
    obtain ⟨O,Q⟩:=ju I;cases Q;obtain ⟨b,ys,rfl,hb,u⟩:=r1.gI;have n:=u;refine .inr ⟨a,b,L,ys,rfl,rfl,g,hb,by rw [w.length,u.length];exact O,?_⟩;have W:=(k.av m).write J N g ((w.av m).append n);exact q σ _ W.1 (W.2.av m)
   |_=>cases I)
end
def Kd (I:Nat->aL->Prop)
  (E: ∀n s,I n s->wpAny (model a w) A (pyNext Y) (λr g=>match r with
   |none=>R (.ok .next) g
   |some v=>wpAny (model a w) A (letOwnedTupleGo e Y v) (λ_ i=>wpAny (model a w) A (ot e o v) (λ_ p=>
    wpAny (model a w) A (forIn N true λc r=>if r=true then do let ok<-isTrue c o (eval c o);pure (Df ok) else pure (Df r)) (λok j=>
     if ok=true then wpAny (model a w) A (eval O o) (λx q=>
      wpAny (model a w) A (call (.builtin "list.append") [Q,x]) (λ_ u=> ∃m,m<n/\I m u) (λ_ _=>False) q) (λ_ _=>False) j
     else∃m,m<n/\I m j) (λ_ _=>False) p) (λ_ _=>False) i) (λ_ _=>False) g) (λ_ _=>False) s)
  (n:Nat) (h:I n s):pM (model a w) A (.compLoop (.ListComp O [⟨e,iter,N,0⟩] U Z) 0 Y Q o) R s:=by
 refine codeAny_loop rfl I (λn s hI=>?_) n h;refine wpAny_noted ?_;rw [compTurn_list];refine ax (wpAny_standAt (ax (nQ (E n s hI) (λr g y=>?_) λ_ _ l=>l.elim)))
 cases r with
 |none=>exact aV y
 |some v=>
  refine ax (nQ y (λ_ i B=>?_) λ_ _ l=>l.elim);refine ax (nQ B (λ_ p H=>ax (nQ H (λok j z=>?_) λ_ _ l=>l.elim)) λ_ _ l=>l.elim)
  cases ok with
  |false=>exact aV ⟨rfl,z⟩
  |true=>
   exact ax (ax (nQ z (λx q J=>ax (nQ J (λ_ u L=>aV (aV ⟨rfl,L⟩)) λ_ _ l=>l.elim)) λ_ _ l=>l.elim))
def FE (X:Cx) (N:List Str) (a:Scope) (c:List (Str×Addr)) (C:Addr) (s:aL) (H:Hp) (e:List Addr):Cx where
 prog:=X.prog
 w:=X.w
 K:=X.K
 mg:=X.mg
 af:=X.af
 A:=X.A
 N:=N
 fL:=s
 pJ:=H
 env:=compEnvC a c C X.env
 outer:=X.stack
 stack:=X.stack
 ex:=e
 fn:=λ_=>false
 cR:=true
 pn:=[]
 xe:=λ_ _=>False
@[irreducible] def AA (X:Cx) (e:List Expr) (c:TZ):Prop:=
 ∀(a:List (Addr×Obj)) (s:aL) (g:L2.St) (H:Hp) (Q:Bool->Hp->Prop),aC X a g H s->tT X.K c g H Q->
  wpAny (model X.prog X.w) X.A (forIn e true λc r=>if r=true then do let ok<-isTrue c X.env (eval c X.env);pure (Df ok) else pure (Df r)) (TP X a g Q) X.xe s
def qm:Sl->ak Bool:=λ_=> .ok true
def zt:AA X [] qm:=by
 nomatch (λa s g H Q I ⟨G,h,c,b,k,e,q⟩=>by
  cases e
  exact wpAny_tests_nil ⟨H,I,q H (aq.refl H)⟩)
def XJ (h:DT X c g):AA X [c] g:=by
 nomatch (λa s e H Q I q=>wpAny_tests_one (h a s e H Q I q))
def xS (n:Nat) (t:TV) (c:TZ) (h:T0):List D->Sl->ak Sl
 | [],e=> .ok e
 |d::ds,e=>t d e>>=λa=>c a>>=λb=>if b=true
  then h a>>=λv=>fM n a>>=λg=>a5 (g.length<aS) (xS n t c h ds (a.set n (.ay (.ai (g++[v])))))
  else xS n t c h ds a
noncomputable def mn (c:Bool) (a:Sl) (j:Nat):Slot:=match a[j]? with
 |some (.ae d)=> .ae d
 |some (.ay d)=>if c=true then .ae d else .un
 |_=> .un
def yd (c:Bool) (m:Nat) (e:List Nat) (a:Sl):Sl:=io m .un++e.map (mn c a)++[.ay (.ai [])]
def qd (i:Bool) (m:Nat) (h:List Nat) (j:TX) (t:TV) (c:TZ) (l:T0):Sl->ak D:=λa=>
 j a>>=λds=>xS (m+h.length) t c l ds (yd i m h a)>>=λe=>fM (m+h.length) e>>=λg=>a5 (i=true->D.gw g=true) (.ok (.ai g))
def xn (m:Nat) (c:List Nat) (e:L2.St) (a:Addr):L2.St:=io m none++c.map (λj=>(e[j]?).join)++[some (.ref a)]
theorem wm {a:Env}: ∀ {names:List (Str×NameKind)} {x:Str} {k:NameKind},
  (names.map λ(n,k)=>if (k==w5&&a.scope.kind== .function&&a.kindOf n==some .cell) then (n,xk) else (n,k)).lookup x=some k-> ∃g,(x,g)∈names/\(k=g\/g= .free)
 | [],_,_,h=>by simp at h
 | (n,g)::r,x,k,h=>by
  have c:nX x ((if (g==w5&&a.scope.kind== .function&&a.kindOf n==some .cell)=true then (n,xk) else (n,g))::(r.map λ(n,k)=>if (k==w5&&a.scope.kind== .function&&a.kindOf n==some .cell) then (n,xk) else (n,k)))=some k:=h
  by_cases j:(g==w5&&a.scope.kind== .function&&a.kindOf n==some .cell)=true
  . rw [if_pos j] at c;simp only [qh] at c
    cases i:x==n with
    |true=>
     rw [i] at c;have e:x=n:=by simpa using i
     subst e;refine ⟨g,cu,.inr ?_⟩;simp at j;exact j.1.1
    |false=>
     rw [i] at c;obtain ⟨l,m,o⟩:=wm c;exact ⟨l,de _ m,o⟩
  . rw [if_neg j] at c;simp only [qh] at c
    cases i:x==n with
    |true=>
     rw [i] at c;have e:x=n:=by simpa using i
     subst e;cases c;exact ⟨_,cu,.inl rfl⟩
    |false=>
     rw [i] at c;obtain ⟨l,m,o⟩:=wm c;exact ⟨l,de _ m,o⟩
noncomputable def tj (z:Option Str) (a:List (Str×Addr)) (C:Addr):List (Str×Addr):=match z with
 |none=>a
 |some y=>(y,C+1)::a
def FF (z:Option Str) (h:Heap):Heap:=match z with
 |none=>h
 |some _=>h.push {cls:= .type "cell",data:= .cell none}
abbrev qj (z:Option Str) (X:Cx) (N:List Str) (a:Scope) (c:List (Str×Addr)) (C:Addr) (s:aL) (H:Hp) (e:List Addr):Cx:={FE X N a (tj z c C) C s H e with fn:=λx=>some x==z}
def xp (h:nX x (tj z a C)=some c):(z=some x/\c=C+1)\/(z≠some x/\a.lookup x=some c):=by
 cases z with
 |none=>exact .inr ⟨nofun,h⟩
 |some z=>
  have h:nX x ((z,C+1)::a)=some c:=h;rw [qh] at h
  cases e:x==z with
  |true=>rw [e] at h;cases h;exact .inl ⟨by rw [show x=z by simpa using e],rfl⟩
  |false=>rw [e] at h;exact .inr ⟨λq=>by simp at e;exact e (gG q).symm,h⟩
def Dg (e:z≠some x) (h:a.lookup x=some c):nX x (tj z a C)=some c:=by
 cases z with
 |none=>exact h
 |some z=>
  show nX x ((z,C+1)::a)=some c;rw [qh,show (x==z)=false by simpa using λq=>e (by rw [q])];exact h
def kG {code:Value}
  (made: ∀n,cellsFrom (n+1) a.names q=tj z q n) (g: ∀h,pushCells h a.names=FF z h)
  (v: ∀p,p.Ns s.heap.objs.size (λ_=>none)->(∀b o,s.heap.get? b=some o->p.get? b=some o)->(∀y,z=some y->p.IsCell (s.heap.objs.size+1) none)->Q (newEnv a s.heap.objs.size globals (tj z q s.heap.objs.size) j l code (some i) c) {s with heap:=p}):
  wpAny M A (newFunctionEnv a globals q [] j l code (some i) c) Q E s:=by
 simp only [newFunctionEnv,Option.isSome_some,if_true];refine ax (wpAny_alloc ?_);refine ax (wpAny_layCells _ (λname m r=>by cases u:m==xk<;>simp [u]) _ _ _ _ ?_);have w:(s.heap.push {cls:= .type "dict",data:= .dict #[]}).objs.size=s.heap.objs.size+1:=An ..;have x:=made s.heap.objs.size;rw [<-w] at x;rw [x,g];simp;refine aV ?_;have B:=Heap.Ns.new s.heap (.type "dict")
 cases z with
 |none=>exact v _ B (λb o e=>cT _ e) nofun
 |some z=>
  refine v ((s.heap.push {cls:= .type "dict",data:= .dict #[]}).push {cls:= .type "cell",data:= .cell none}) (B.keeps λb o e=>cT _ e) (λb o e=>cT _ (cT _ e)) λ_ _=>⟨_,by rw [<-w];exact fS _ rfl,rfl⟩
structure iq (z:Option Str) (X:Cx) (scope:Scope) (cl:List (Str×Addr)) (N:List Str) (m:Nat) (js:List Nat):Prop where
 FG:closureFor scope X.env=pure cl
 kind:scope.kind= .function
 names: ∀x∈scope.names,x.2= .local->scope.names.lookup x.1=some .local
 xA: ∀y∈scope.names,y.2= .cell->z=some y.1
 made: ∀n,cellsFrom (n+1) scope.names cl=tj z cl n
 xB: ∀h,pushCells h scope.names=FF z h
 zk: ∀y,z=some y->scope.names.lookup y=some .cell
 cls: ∀x c,cl.lookup x=some c->X.env.cells.lookup x=some c
 free: ∀y∈scope.names,y.2= .free-> ∃c,cl.lookup y.1=some c
 nd:N.Nodup
 len:N.length=m+js.length+1
 RV: ∀(k j:Nat),js[k]?=some j-> ∃y,N[m+k]?=some y/\X.N[j]?=some y/\(X.env.scope.names.lookup y=some .cell\/X.env.scope.names.lookup y=some .free)/\scope.names.lookup y=some .free
 last: ∀y,N[m+js.length]?=some y-> ∀p∈scope.names,p.1≠y
section
variable {X:Cx} {tg iter elt:Expr} {ifs:List Expr} {O:Scope} {cl:List (Str×Addr)} {N:List Str} {m:Nat} {L:List Nat} {pos:Pos} {g:Bool} {z:Option Str}
 {fi:TX} {t:TV} {c:TZ} {fe:T0}
def RW {σ:L2.St} {C:Addr} {J:List Addr} (S:iq z X O cl N m L) (Q:X.cR=true) (I:aC X r σ H s) (w:s.heap.objs.size<=C) (E: ∀b∈J,fX X r H b) (B: ∀b∈J,b<s.heap.objs.size):
  (qj z X N O cl C s H J).Ok where
 mod:=I.ok.mod
 kind:=S.kind
 glob:=I.ok.glob
 blt:=I.ok.blt
 above:=w
 inj:=λx y c i a=>by
  have no: ∀u,X.env.cells.lookup u=some (C+1)->False:=λu e=>by
    obtain ⟨v,o,ho,_⟩:=I.cell u _ e;exact absurd (c8 ho) (Nat.not_lt_of_le (cE w (rN _)))
  rcases xp i with ⟨ex,U⟩| ⟨_,Y⟩
  . rcases xp a with ⟨Z,_⟩| ⟨_,g2⟩
    . rw [ex] at Z;exact gG Z
    . rw [U] at g2;exact (no _ (S.cls _ _ g2)).elim
  . rcases xp a with ⟨Z,U⟩| ⟨_,g2⟩
    . rw [U] at Y;exact (no _ (S.cls _ _ Y)).elim
    . exact I.ok.inj x y c (S.cls x c Y) (S.cls y c g2)
 has:=λx h=>by
  have mem:z=some x\/ ∃l,(x,l)∈O.names/\l= .free:=by
    rcases h with h|h<;>obtain ⟨l,i,a⟩:=wm h
    . rcases a with z|z
      . exact .inl (S.xA _ i z.symm)
      . exact .inr ⟨l,i,z⟩
    . rcases a with z|z
      . exact .inr ⟨l,i,z.symm⟩
      . exact .inr ⟨l,i,z⟩
  by_cases p:z=some x
  . subst p;exact ⟨C+1,by show nX x ((x,C+1)::cl)=_;simp [qh]⟩
  . obtain ⟨l,i,a⟩:=mem.resolve_left p;obtain ⟨c,Q⟩:=S.free _ i a;exact ⟨c,Dg p Q⟩
 Ag:=λx c h a=>by
  have e:some x=z:=by simpa using h
  rcases xp a with ⟨_,rfl⟩| ⟨n,_⟩
  . exact cE w (rN _)
  . exact (n e.symm).elim
 hd:=λ_=>I.ok.hd Q
 frames:=I.ok.frames
 AY:= .inl rfl
 AZ:=λb j=>⟨λz=>absurd (gR (B b j) (by rw [z];exact w)) (pI _),λx c h=>by
  rcases xp h with ⟨_,rfl⟩| ⟨_,h⟩
  . exact λe=>absurd (B b j) (Nat.not_lt_of_le (by rw [<-e];exact cE w (rN _)))
  . exact (E b j).2.2.2.2.1 x c (S.cls x c h)⟩
 bs:=I.bs
 rG:=cE I.ok.rG I.sz
 oJ:=λb o e j=>by
  rcases (E b j).2.2.2.1 with z|z
  . exact I.ok.oJ b o e z
  . exact absurd (gR (c8 e) (cE I.ok.rG z)) (pI _)
 oK:=λb j z=>by
  rcases cQ.mp (I.nR b z) with q|q
  . exact (E b j).2.1 q
  . exact (E b j).2.2.1 q
 ig:=I.stack
 sO:=I.op
def J9 (h:mn g a j= .ay d):False:=by
 unfold mn at h
 split at h
 . cases h
 . split at h<;>cases h
 . cases h
def vg (h:qB (yd g m L p) (xn m L q a) b):b=a:=by
 obtain ⟨i,d,h,l⟩:=h
 have r:i=m+L.length:=by
  unfold yd at h
  by_cases o:i<m
  . rw [i7,md (by simpa using o),sS] at h
    split at h<;>cases h
  . rw [i7,mK (by simpa using o)] at h;simp at h
    by_cases l:i-m<L.length
    . rw [md (by simpa using l),iE] at h
      cases e:L[i-m]? with
      |none=>rw [e] at h;cases h
      |some j=>
        rw [e] at h;have u:=gG h;exact (J9 u).elim
    . rw [mK (by simpa using l)] at h;simp at h
      by_cases v:i-m-L.length=0
      . omega
      . rw [nP (by simp;omega)] at h;cases h
 subst r
 have n:(xn m L q a)[m+L.length]?=some (some (.ref a)):=by
  unfold xn;rw [i7,mK (by simp),mK (by simp)];simp
 rw [n] at l;cases l;rfl
abbrev Gc (g:Bool) (G:VJ) (a:Sl) (e:L2.St):Addr->Prop:=λc=>G c/\(g=false-> ¬qB a e c)
def RX {K:aH} (k:aD K G H0 l p H) (J:H a=none):
   aD K (Gc g G l p) H (yd g m L l) (xn m L p a) (aU H a (.ai [])):=by
 have n: ∀(i:Nat) (d:D),(yd g m L l)[i]?=some (.ay d)->i=m+L.length/\d= .ai []:=λi d h=>by
   unfold yd at h
   by_cases u:i<m
   . rw [i7,md (by simpa using u),sS] at h
     split at h<;>cases h
   . rw [i7,mK (by simpa using u)] at h;simp at h
     by_cases q:i-m<L.length
     . rw [md (by simpa using q),iE] at h
       cases e:L[i-m]? with
       |none=>rw [e] at h;cases h
       |some j=>
         rw [e] at h;have w:=gG h;exact (J9 w).elim
     . rw [mK (by simpa using q)] at h;simp at h
       by_cases x:i-m-L.length=0
       . rw [x] at h;cases h;exact ⟨by omega,rfl⟩
       . rw [nP (by simp;omega)] at h;cases h
 have y:(xn m L p a)[m+L.length]?=some (some (.ref a)):=by
   unfold xn;rw [i7,mK (by simp),mK (by simp)];simp
 have B: ∀b,qB (yd g m L l) (xn m L p a) b->b=a:=λb ⟨i,d,u,q⟩=>by
   obtain ⟨rfl,rfl⟩:=n i d u;rw [y] at q;cases q;rfl
 have Y:aq H (aU H a (.ai [])):=aq.aU J;refine ⟨by simp [yd,xn],Y,λc z=>⟨(k.new c z).2,λ_=>(k.new c z).1⟩,λi d h=>?_,λi d h=>?_,λi j d e b u q x I=>(n i d u).1.trans (n j e q).1.symm⟩
 . unfold yd at h
   by_cases u:i<m
   . rw [i7,md (by simpa using u),sS] at h
     split at h<;>cases h
   . rw [i7,mK (by simpa using u)] at h;simp at h
     by_cases q:i-m<L.length
     . rw [md (by simpa using q),iE] at h
       cases e:L[i-m]? with
       |none=>rw [e] at h;cases h
       |some j=>
         rw [e] at h;have w:=gG h
         have Q:(xn m L p a)[i]?=some ((p[j]?).join):=by
           unfold xn;rw [i7,mK (by simpa using u)];simp;rw [md (by simpa using q),iE,e];rfl
         have E: ∀v,p[j]?=some (some v)->aN K (Gc g G l p) H v d-> ∃v,(xn m L p a)[i]?=some (some v)/\aN K (Sf (Gc g G l p) (yd g m L l) (xn m L p a)) (aU H a (.ai [])) v d:=λv e1 r=>by
           refine ⟨v,by rw [Q,e1];rfl,(r.dO.av Y).aO λb z=>⟨λo=>?_,z.1⟩⟩;rw [B b o] at z;exact z.2 J
         unfold mn at w
         split at w
         . rename_i Z hd;cases w;obtain ⟨v,x,I⟩:=k.ae j d hd;exact E v x (I.aO λc z=>⟨z.2,λ_=>z.1⟩)
         . rename_i Z hd
           split at w
           . rename_i U;cases w;obtain ⟨v,x,h0,I⟩:=k.ay j d hd;exact E _ x (I.rep (λc z=>⟨⟨z.2,λ_=>z.1⟩,Yu k hd x c z⟩) ⟨k.g0 _ h0,λz=>by rw [U] at z;cases z⟩)
           . cases w
         . cases w
     . rw [mK (by simpa using q)] at h;simp at h
       by_cases x:i-m-L.length=0
       . rw [x] at h;cases h
       . rw [nP (by simp;omega)] at h;cases h
 . obtain ⟨rfl,rfl⟩:=n i d h;exact ⟨a,y,J,.ai jy .nil⟩
def Kc (use:Option (Value->Sem Unit)) (Q':U9) (g:Bool) (N:List Str) (m:Nat) (L:List Nat) (S:iq z X O cl N m L) (hc:X.cR=true) (hi:PI X tg iter (tI X.K fi))
   (hb: ∀(C:Addr) (s:aL) (H:Hp) (fp:List Addr),PG (qj z X N O cl C s H fp) tg (tG X.K t)/\AA (qj z X N O cl C s H fp) ifs c/\PE (qj z X N O cl C s H fp) elt (tE X.K .s fe))
   (hs: ∀x,Al iter X.env x=pure x) {pins:List (Addr×Obj)} {Z:L2.St} {H:Hp} (I:aC X pins Z H s) (k:aD X.K G H0 E Z H) (ef:qd g m L fi t c fe E= .ok d)
   (FH: ∀(a C:Addr) (s':aL) (Y:Hp) (mm:WV) (r:Flow),s'.heap.Ns C mm->(∀h',rJ C s'.heap h'->aC X pins Z Y {s' with heap:=h'})->fX X pins Y C->aq H Y->aN X.K (Sf G E Z) Y (.ref a) d->bG H (.ref a)->compPost (model X.prog X.w) X.A X.xe use Q' (.ref a) C (.ok r) s'):
   wpAny (model X.prog X.w) X.A (comprehension (.ListComp elt [⟨tg,iter,ifs,0⟩] O pos) O X.env (firstIterPos [⟨tg,iter,ifs,0⟩] pos) (newList []) (firstAsync [⟨tg,iter,ifs,0⟩]) (firstIter [⟨tg,iter,ifs,0⟩] X.env) use) Q' X.xe s:=by
 nomatch (by
  obtain ⟨ds,e1,ef⟩:=jd ef;obtain ⟨xC,e2,ef⟩:=jd ef;obtain ⟨RY,e3,e4⟩:=jd ef;obtain ⟨FK,e4⟩:=ju e4;cases e4;refine wpAny_comprehension_free rfl hs S.FG S.kind S.names ?_;refine bA (hi pins s Z H (λJ H1=> ∃P,aq H H1/\FC X.K (Sf G E Z) H1 J ds P/\P H1/\ ∀w Q Y,cx E Z H1 w Q Y->P Y) I ⟨G,H0,E,ds,k,e1,λJ H1 P a b c' d'=>⟨P,a,b,c',d'⟩⟩) λv s1 h1=>bA h1 λPj s2 h2=>?_
  obtain ⟨it,fp,tn,J,H2,rfl,I2,T,A7,f2,P,sm,wk,p0,Bz⟩:=h2;have k2:=k.av sm;refine pL (kG S.made S.xB (λxD qy qF qJ=>?_));dsimp only at qy qF qJ ⊢;have BC:=I2.be.fresh (bn _)
  let a:=s2.heap.objs.size
  have ha:=BC;have I3:=I2.v4 (t':=s2.toks) .nil (li _)
  let s3:aL:={s2 with heap:=s2.heap.push {cls:= .type "list",dict:=none,data:= .seq ([]:List Value).toArray}}
  let C:=s3.heap.objs.size
  have f3: ∀b∈fp,fX X pins (aU H2 a (.ai [])) b:=λb l=>by
   obtain ⟨z0,z⟩:=f2 b l;refine ⟨?_,z⟩
   have Bx:b≠a:=by
     obtain ⟨o,ho,_⟩:=T.obj 0 _ A7 b l;exact eB (c8 ho)
   rw [jY Bx];exact z0
  have FL: ∀b∈fp,b<s3.heap.objs.size:=λb l=>by
   obtain ⟨o,ho,_⟩:=T.obj 0 _ A7 b l;refine gR (c8 ho) ?_;rw [An];exact rN _
  have XO:=RW S hc I3 (bn _) f3 FL;obtain ⟨RZ,R0,R1⟩:=hb C s3 (aU H2 a (.ai [])) fp;have old: ∀b o,s3.heap.get? b=some o->xD.get? b=some o:=λb o e=>qF b o e
  have I4:aC (qj z X N O cl C s3 (aU H2 a (.ai [])) fp) [] (xn m L Z a) (aU H2 a (.ai [])) {s2 with heap:=xD,toks:=s2.toks+([]:List (Str×Value)).length}:=by
   refine ⟨XO,rfl,I3.bare,Un.kept old,⟨_,qy,λi y v' h1 h2 h3=>?_⟩,λy c' h=>?_,I3.be.fresh (bn _),λy c' h=>(by
     rcases xp h with ⟨_,rfl⟩| ⟨_,h⟩
     . exact I3.be.fresh (rN _)
     . exact I3.gy y c' (S.cls y c' h)),λp hp=>absurd hp (by simp [FE]),I3.be.kept old,?_⟩
   . --a BD name
     have FM:N[i]?=some y:=h1;unfold xn at h2
     by_cases q1:i<m
     . rw [i7,md (by simpa using q1),sS] at h2
       split at h2<;>cases h2
     . rw [i7,mK (by simpa using q1)] at h2;simp at h2
       by_cases q2:i-m<L.length
       . rw [md (by simpa using q2),iE] at h2
         cases e:L[i-m]? with
         |none=>rw [e] at h2;cases h2
         |some j=>
           rw [e] at h2;have BE:(Z[j]?).join=some v':=gG h2
           have hj:Z[j]?=some (some v'):=by
             cases z:Z[j]? with
             |none=>rw [z] at BE;cases BE
             |some w'=>rw [z] at BE;simp at BE;rw [BE]
           obtain ⟨y',g1,g2,g3,g4⟩:=S.RV (i-m) j e
           have ey:y'=y:=by
             rw [show m+(i-m)=i by omega,FM] at g1;exact (gG g1).symm
           subst ey;obtain ⟨mm,hn,hl⟩:=I3.loc
           have R3:gs X.env.scope y':=by
             rcases g3 with z|z
             . exact .inr (.inl z)
             . exact .inr (.inr z)
           obtain ⟨u,ru,lk⟩:=hl j y' v' g2 hj R3;refine ⟨u,ru,.inr ⟨?_,?_⟩⟩
           . rcases h3 with z|z
             . exfalso;obtain ⟨k',m1,m2⟩:=wm z;have Dg:=S.names _ m1;rcases m2 with w'|w'
               . subst w';have:=Dg rfl;rw [g4] at this;cases this
               . subst w'
                 have: ∀ {names:List (Str×NameKind)},names.lookup y'=some .free->(names.map λ(n,k)=>if (k==w5&&X.env.scope.kind== .function&&X.env.kindOf n==some .cell) then (n,xk) else (n,k)).lookup y'≠some .local:=by
                  intro names
                  induction names with
                  |nil=>intro h;cases h
                  |cons p r ih=>
                   obtain ⟨n,kk⟩:=p;intro h h';have x8:nX y' ((if (kk==w5&&X.env.scope.kind== .function&&X.env.kindOf n==some .cell)=true then (n,xk) else (n,kk))::(r.map λ(n,k)=>if (k==w5&&X.env.scope.kind== .function&&X.env.kindOf n==some .cell) then (n,xk) else (n,k)))=some .local:=h';simp only [qh] at h
                   cases hx:y'==n with
                   |true=>
                    rw [hx] at h;cases h
                    split at x8<;>simp [qh,hx] at x8
                   |false=>
                    rw [hx] at h
                    split at x8<;>(simp only [qh,hx] at x8;exact ih h x8)
                 exact this g4 z
             . exact z
           . rcases lk with ⟨kk,_⟩| ⟨kk,c',Aj,BF⟩
             . exfalso;have Kr:X.env.scope.names.lookup y'=some .local:=kk;rcases g3 with z|z<;>(rw [z] at Kr;cases Kr)
             . obtain ⟨c2,Ks⟩:=S.free (y',.free) (vq g4) rfl
               have:c2=c':=by
                 have:=S.cls _ _ Ks;rw [Aj] at this;exact (gG this).symm
               subst this;obtain ⟨o,ho,hd⟩:=BF;exact ⟨c2,Dg (λq=>by rw [S.zk _ q] at g4;cases g4) Ks,o,old _ _ ho,hd⟩
       . exfalso
         have Kx:i=m+L.length:=by
           have hl:=(mX.mp FM).1;rw [S.len] at hl;omega
         subst Kx;have no:=S.last y FM;rcases h3 with z|z|z<;>
         . obtain ⟨k',m1,_⟩:=wm z;exact no _ m1 rfl
   . rcases xp h with ⟨q,rfl⟩| ⟨_,h⟩
     . exact ⟨none,qJ _ q⟩
     . obtain ⟨v',o,ho,hd⟩:=I3.cell y c' (S.cls y c' h);exact ⟨v',o,old _ _ ho,hd⟩
   . show (xn m L Z a).length=N.length;rw [S.len];simp [xn];omega
  have kC:aD X.K (Gc g G E Z) H2 (yd g m L E) (xn m L Z a) (aU H2 a (.ai [])):=RX k2 ha
  have fC: ∀b∈fp,fX (qj z X N O cl C s3 (aU H2 a (.ai [])) fp) [] (aU H2 a (.ai [])) b:=λb l=>by
   obtain ⟨z0,z1,z2,z3,z4,z5⟩:=f3 b l;exact ⟨z0,(XO.AZ b l).1,XO.oK b l,.inl l,(XO.AZ b l).2,λp hp=>absurd hp (by simp [FE])⟩
  have stC:=T.keep 0 _ _ A7 λb l o e=>old b o (cT _ e)
  have loop:pM (model X.prog X.w) X.A (.compLoop (.ListComp elt [⟨tg,iter,ifs,0⟩] O pos) 0 (.ref it) (.ref a) (compEnvC O (tj z cl C) C X.env))
     (compPost (model X.prog X.w) X.A X.xe use Q' (.ref a) C) {s2 with heap:=xD,toks:=s2.toks+([]:List (Str×Value)).length}:=by
   refine Kd (λn s'=> ∃i Q Y w,n=ds.length+1-i/\i<=ds.length/\aC (qj z X N O cl C s3 (aU H2 a (.ai [])) fp) [] Q Y s'/\tn i s'.heap/\(∀b∈fp,Y b=none)/\(∀b,qB w Q b->b=a)/\
       aD X.K (Gc g G E Z) H2 w Q Y/\cx (yd g m L E) (xn m L Z a) (aU H2 a (.ai [])) w Q Y/\xS (m+L.length) t c fe (ds.drop i) w= .ok xC) ?_ (ds.length+1)
     ⟨0,_,_,_,rfl,li _,I4,stC,λb l=>(fC b l).1,?_,kC,cx.refl (aq.refl _),by simpa using e2⟩
   . rintro n s' ⟨i,Q,Y,w,rfl,Kx,Ic,st,fr,BG,kc,fc,ec⟩;have hP:=Bz E Z Y (cx.refl kc.af);obtain ⟨w1,w2,w3⟩:=wk i Y hP;have FN: ∀ {Y:Hp},(∀b∈fp,Y b=none)-> ∀b∈fp,fX (qj z X N O cl C s3 (aU H2 a (.ai [])) fp) [] Y b:=λhn b l=>⟨hn b l,(fC b l).2⟩
     by_cases cL:i<ds.length
     . have hd:i<ds.length:=by omega
       rw [List.drop_eq_getElem_cons hd] at ec;obtain ⟨mo,e5,ec⟩:=jd ec;obtain ⟨b,e6,ec⟩:=jd ec;refine bA (T.item (qj z X N O cl C s3 (aU H2 a (.ai [])) fp) rfl rfl rfl rfl i [] s' Q Y (λ_ _=>False) Ic (FN fr) st (w1 cL)) λr s4 oX=>?_;obtain ⟨u,hr,h4⟩:=oX
       subst hr;refine bA h4 λ_ s5 oX=>?_;obtain ⟨x,H5,I5,r5,y5,FP,EO⟩:=oX
       have Ky: ∀b,(Sf G E Z b/\H2 b≠none)->Sf (Gc g G E Z) w Q b:=λb z=>⟨λo=>(by
         rw [BG b o] at z
         exact z.2 ha),z.1.2,λ_=>z.1.1⟩
       obtain ⟨Kz,R4⟩:aq Y H5/\aN X.K (Sf (Gc g G E Z) w Q) H5 x ds[i]:=by
         rcases w2 _ (cy hd) x H5 y5 with ⟨rfl,rd⟩| ⟨p,vs,es,hp,rfl,rfl,ed,FD⟩
         . exact ⟨aq.refl _,(rd.dO.av kc.af).aO Ky⟩
         . refine ⟨aq.aU hp,?_⟩;rw [ed];exact .am jy (((FD.dO.av kc.af).aO Ky).av (aq.aU hp))
       have R5:=kc.av Kz;have R6:=I5.pinned (FN EO) (T.obj _ _ FP);refine bA (RZ _ s5 Q H5 x u (λBA Hn=>Hn=H5/\aD X.K (Gc g G E Z) H2 mo BA H5/\cx w Q H5 mo BA H5) R6 r5 ⟨_,H2,w,ds[i],mo,R5,R4,e5,λBA k1 f1=>⟨rfl,k1,f1⟩⟩) λ_ s6 oX=>?_;obtain ⟨ua,H6,I6,z6,k6,La⟩:=oX
       subst z6
       have FQ: ∀b,qB mo ua b->b=a:=λb o=>by
         rcases La.more b o with z|z
         . exact BG b z
         . obtain ⟨uu,hu⟩:=k6.there o;rw [z] at hu;cases hu
       refine bA (R0 _ s6 ua H6 (λb' Hn=>b'=b/\aq H6 Hn) I6 ⟨_,H2,mo,b,k6,e6,λHn sn=>⟨rfl,sn⟩⟩) λok s7 oX=>?_;obtain ⟨H7,I7,z7,Lb⟩:=oX
       subst z7;have k7:=k6.av Lb;have Lc:=((fc.trans (cx.refl Kz)).trans La).trans (cx.refl Lb)
       have out: ∀ {s8:aL} {AB:L2.St} {H8:Hp} {oY:Sl},aC (qj z X N O cl C s3 (aU H2 a (.ai [])) fp) ([]++Yq fp s5.heap) AB H8 s8->(∀b,qB oY AB b->b=a)->aD X.K (Gc g G E Z) H2 oY AB H8->
           cx (yd g m L E) (xn m L Z a) (aU H2 a (.ai [])) oY AB H8->xS (m+L.length) t c fe (ds.drop (i+1)) oY= .ok xC->
           ∃mm,mm<ds.length+1-i/\ ∃i Q Y w,mm=ds.length+1-i/\i<=ds.length/\aC (qj z X N O cl C s3 (aU H2 a (.ai [])) fp) [] Q Y s8/\tn i s8.heap/\(∀b∈fp,Y b=none)/\(∀b,qB w Q b->b=a)/\
             aD X.K (Gc g G E Z) H2 w Q Y/\cx (yd g m L E) (xn m L Z a) (aU H2 a (.ai [])) w Q Y/\xS (m+L.length) t c fe (ds.drop i) w= .ok xC:=by
         intro s8 AB H8 oY I8 R7 k8 f8 e8;refine ⟨ds.length+1-(i+1),by omega,i+1,AB,H8,oY,rfl,cL,I8.gU,T.keep _ _ _ FP λb l o e=>(I8.pin (b,o) (nU _ (nU _ (yk l e)))).1,λb l=>?_,R7,k8,f8,e8⟩;obtain ⟨o,e,_⟩:=T.obj _ _ FP b l;exact (I8.pin (b,o) (nU _ (nU _ (yk l e)))).2.1
       cases ok with
       |false=>
         rw [if_neg ik] at ec ⊢;exact out I7 FQ k7 Lc ec
       |true=>
         rw [if_pos rfl] at ec ⊢;obtain ⟨vd,e7,ec⟩:=jd ec;obtain ⟨acc,e8,ec⟩:=jd ec;obtain ⟨hz,ec⟩:=ju ec;refine bA (R1 _ s7 ua H7 (λy Hn=>aq H7 Hn/\aN X.K (Sf (Gc g G E Z) mo ua) Hn y vd) I7 ⟨_,H2,mo,vd,k7,e7,λy Hn sn rn _=>⟨sn,rn⟩⟩) λyv s8 oX=>?_;obtain ⟨y,H8,I8,ry,Ld,FR⟩:=oX
         have k8:=k7.av Ld;have Dh:=Jm e8;obtain ⟨a8,Le,Lf,Lg,Lh⟩:=Jl k8 Dh;have ea:=FQ a8 ⟨_,_,Dh,Lf⟩;subst ea;have W:=k8.write Dh Lf Lg (Lh.append (.cons FR .nil))
         refine bA (YH _ s8 ua H8 (.ref a) [y] (.ref a) [yv] (λ_ Hn=>Hn=aU H8 a (.ai (Le++[y]))) I8 rfl (.cons ry .nil)
           ⟨a,Le,y,rfl,rfl,Lg,by rw [Lh.length];exact hz,rfl⟩) λ_ s9 ⟨_,H9,I9,_,z9⟩=>?_
         subst z9;exact out I9 (λb o=>FQ b ((J0 Dh).mp o)) W.1 ((Lc.trans (cx.refl Ld)).trans W.2) ec
     . have he:i=ds.length:=by omega
       rw [List.drop_eq_nil_of_le (by omega)] at ec;cases ec;refine bA (T.done (qj z X N O cl C s3 (aU H2 a (.ai [])) fp) rfl rfl rfl rfl i [] s' Q Y (λ_ _=>False) Ic (FN fr) st (w3 (by omega))) λr s4 ⟨hr,I5⟩=>?_
       subst hr;have FS:=Jm e3;obtain ⟨aF,xsF,Li,R8,Lj⟩:=Jl kc FS;have ea:=BG aF ⟨_,_,FS,Li⟩;subst ea;obtain ⟨mm,hn,_⟩:=I5.loc;refine FH a C s4 Y mm _ hn (λh' AC=>?_) (I3.jN (bn _) I5.free) (sm.trans kc.af) (.ai R8 (k.new a (aq.free sm ha)) ?_) (qr sm ha)
       rotate_left
       . cases Di:g with
         |true=>exact Lj.ll (FK Di)
         |false=>exact Lj.aO λc z=>⟨⟨z.2.2 Di,z.2.1⟩,Yu kc FS Li c z⟩
       have nC: ∀b o,Y b=some o->b≠C:=λb o e z=>by
         have:=I5.free;rw [z] at e;have e':Y C=none:=this;rw [e] at e';cases e'
       have B:=I5.af;have FT: ∀b o,s3.heap.get? b=some o->b≠C:=λb o e=>eB (c8 e)
       have U:Un (pv X.stack) fp (aU H2 a (.ai [])) Y s3.heap h':=⟨λb o e n l yf=>(AC.2 b (FT b o e)).trans (B.keep b o e n l yf),
         λb o e n l yf=>let ⟨sl,z⟩:=B.slot b o e n l yf;⟨sl,(AC.2 b (FT b o e)).trans z⟩,B.free,
         λb o e yf=>let ⟨o',z⟩:=B.there b o e yf;⟨o',(AC.2 b (FT b o e)).trans z⟩,B.iV,B.ls,B.l9⟩
       refine aC.A1 I3 I5.os U (λb o e=>(I5.be b o e).bL (λc' u Aj qq=>(AC.2 c' ?_).trans qq) (λ_ z=>z) λ_ _ z=>z) I5.bare (λb l=>?_)
       . rcases Aj with z|z
         . rw [z];exact nC b o e
         . exact nC c' _ z
       . obtain ⟨z0,z1,z2,z3,z4,z5⟩:=f3 b l;exact ⟨z3,z1,z4,z5⟩
   . exact λb o=>vg o
  exact codeAny_compStart_list loop (T.self _ 0 _ _ _ stC loop))
def zw (g:Bool) (N:List Str) (m:Nat) (L:List Nat) (S:iq z X O cl N m L) (n:X.cR=true) (o:DI X tg iter fi)
   (p: ∀(C:Addr) (s:aL) (H:Hp) (e:List Addr),N.Nodup->DG (qj z X N O cl C s H e) tg t/\AA (qj z X N O cl C s H e) ifs c/\DE (qj z X N O cl C s H e) .s elt fe)
   (u: ∀x,Al iter X.env x=pure x:=by intro _;rfl):
   DE X .t (.ListComp elt [⟨tg,iter,ifs,0⟩] O pos) (qd g m L fi t c fe):=by
 nomatch (by
  rintro h s v H Q I ⟨G,H0,w,d,k,y,q⟩;rw [eval_ListComp]
  exact Kc none (EP X h v Q) g N m L S n o (λC s H e=>p C s H e S.nd) u I k y λa C s' l B r E i J U rep Y=>⟨B,E,λZ j=>⟨.ref a,l,i Z j,rfl,q _ l U rep Y⟩⟩)
def R9 (J:D->Slot) (i:Nat) (hW: ∀ {G:VJ} {Q H y:Hp} {h:Sl} {l:L2.St} {v:V} {d:D},aD X.K G Q h l H->aq H y->aN X.K (Sf G h l) y v d->bG H v->aD X.K G Q (h.set i (J d)) (l.set i (some v)) y/\cx h l H (h.set i (J d)) (l.set i (some v)) y) (hN:X.N.Nodup) (g:Bool) (N:List Str) (m:Nat) (L:List Nat) (S:iq z X O cl N m L) (hc:X.cR=true) (hi:DI X tg iter fi)
   (U: ∀(C:Addr) (s:aL) (H:Hp) (n:List Addr),N.Nodup->DG (qj z X N O cl C s H n) tg t/\AA (qj z X N O cl C s H n) ifs c/\DE (qj z X N O cl C s H n) .s elt fe)
   (Y:X.N[i]?=some x) (hx:Loc X.env.scope x) (hf:T7 X x)
   (Z:mH (.ListComp elt [⟨tg,iter,ifs,0⟩] O pos) (some (.Name x p)) ps.line X.env=pure true) (hs: ∀x,Al iter X.env x=pure x):
   DS X (.Assign [.Name x p] (.ListComp elt [⟨tg,iter,ifs,0⟩] O pos) ps) (λh=>qd g m L fi t c fe h>>=λd=> .ok (.nx (h.set i (J d)))):=by
 nomatch (by
  rintro u s l H E I ⟨G,Q,h,o,k,ef,q⟩;obtain ⟨d,e1,e2⟩:=jd ef;cases e2;rw [exec_Assign_Name_used _ _ _ _ Z];refine ax (wpAny_standAt (ax ?_));refine ax (bA (Kc (some (ot (.Name x p) X.env)) (λ_ B=>SP X u E .next B) g N m L S hc hi (λC s H n=>U C s H n S.nd) hs I k e1 λa C B H' mm r hn w FL sm rep nt=>?_) λ_ B hq=>aV (aV hq));have I':=w B.heap ⟨rfl,λ_ _=>rfl⟩;obtain ⟨W1,W2⟩:=hW k sm rep nt;obtain ⟨f0,f1,f2,f3,f4,f5⟩:=FL;refine wpAny_assign_Name (Yc I' hN Y hx (show aG (.ref a) (.ref a) from rfl) (λs2 I2 j=>?_) hf);obtain ⟨b,j,Fg⟩:=j
  have Sa:C≠b:=by
   rcases Fg with z|z
   . rw [z];exact f1
   . exact λe=>f4 _ _ z e.symm
  refine ⟨mm,hn.sameBut j Sa,λh' BG=>⟨_,H',?_,q _ _ W1 W2⟩⟩
  exact I2.turned (λb o U e=>(BG.2 b U).trans e) f0 f1 f3 f4 f5)
def QS (i:Nat) {p ps:Pos} (hN:X.N.Nodup) (g:Bool) (N:List Str) (m:Nat) (L:List Nat) (S:iq z X O cl N m L) (j:X.cR=true) (l:DI X tg iter fi)
  (n: ∀(C:Addr) (s:aL) (H:Hp) (a:List Addr),N.Nodup->DG (qj z X N O cl C s H a) tg t/\AA (qj z X N O cl C s H a) ifs c/\DE (qj z X N O cl C s H a) .s elt fe)
  (e:X.N[i]?=some x:=by rfl) (o:Loc X.env.scope x:=by exact pU rfl) (q:T7 X x:=by first|exact .inl rfl|exact .inr rfl|assumption)
  (h:mH (.ListComp elt [⟨tg,iter,ifs,0⟩] O pos) (some (.Name x p)) ps.line X.env=pure true:=by rfl) (u: ∀x,Al iter X.env x=pure x:=by intro _;rfl):
  DS X (.Assign [.Name x p] (.ListComp elt [⟨tg,iter,ifs,0⟩] O pos) ps) (jB i (qd g m L fi t c fe)):=
 R9 .ae i (λk s r v=>⟨(k.av s).nZ r,.set s λ_ _ z _=>by cases z⟩) hN g N m L S j l n e o q h u
end
def qo (n:Nat) (ds:List D):Sl:=ds.map .ae++io (n-ds.length) .un
def Sb {K:aH} (r:ao K B H c ds):aD K (λa=>H a=none\/B a) H (qo N.length ds) (start N c) H:=by
 have g:=r.length
 have no: ∀(i:Nat) (d:D),(qo N.length ds)[i]?≠some (.ay d):=λi d h=>by
   unfold qo at h
   by_cases q:i<ds.length
   . rw [md (by simpa using q),iE] at h
     cases e:ds[i]? with
     |none=>rw [e] at h;cases h
     |some x=>rw [e] at h;cases h
   . rw [mK (by simpa using q),sS] at h
     split at h<;>cases h
 refine ⟨by simp [L2.start,qo,g],aq.refl H,λ_ z=> .inl z,λi d h=>?_,λi d h=>(no i d h).elim,λi j d e a h=>(no i d h).elim⟩;unfold qo at h
 by_cases q:i<ds.length
 . rw [md (by simpa using q),iE] at h
   cases e:ds[i]? with
   |none=>rw [e] at h;cases h
   |some x=>
     rw [e] at h;cases h;obtain ⟨v,l,m⟩:=r.get e;refine ⟨v,?_,m.aO λa z=>⟨λo=>?_,.inr z⟩⟩
     . unfold L2.start;rw [md (by simp;omega),iE,l];rfl
     . obtain ⟨n,p,z,_⟩:=o;exact no n p z
 . rw [mK (by simpa using q),sS] at h
   split at h<;>cases h
section
variable {P:cp} {w:World} {K:aH} {mg:WV} {af:Heap}
def Meets (e:Bool) (n:Nat) (g:TY) (ds:List D) (d:D):Prop:=(∃a,g (qo n ds)= .ok (.rt a d)/\(e=true->a=true))\/(d= .a6/\ ∃c,g (qo n ds)= .ok (.nx c))
def FU {st:Stmt} (p:nL K x j st f u) (S:au N ps (ji st))
    (y: ∀(i:Value) (A:cC) (c:List Env) (s:aL) (H:Hp) (E:XK),aT k (A.deeper (mJ j (ji st) s.heap.objs.size f i))->m6 (gH lB P w K mg af N j (ji st) f i A c s H E).oO (qD st) g)
    (I: ∀ds d,ds.length=ps.length->F ds= .ok d->Meets J N.length g ds d):
    dG P w K mg af lB (k+1) f u ps (ox K J ps.length F):=by
 nomatch (by
  refine p.ok S (λL H Q E ⟨B,ds,d,l,_⟩=>l) (λi A c s H L Q E O h=>?_);obtain ⟨B,ds,d,l,r,e,q⟩:=h;refine ⟨_,y i A c s H E O,?_⟩;have n:=Sb (N:=N) r;rcases I ds d (by rw [<-r.length];exact l) e with ⟨U,z,Y⟩| ⟨rfl,o,z⟩
  . exact ⟨_,H,_,_,n,z,λv m s r Z=>q v m s r λhh=>Z (Y hh)⟩
  . exact ⟨_,H,_,_,n,z,λpY m k' f'=>q .a6 m k'.af .a6 λ_ a e=>by cases e⟩)
end
open PySem.W in
theorem Sd {a:List Int} (h:WData.layableAll [WData.list (a.map WData.int)]=true): ∀n∈a,yg n<=2^20:=λn c=>by
 have e:=layableW_arg h _ cu;have g:=layableW_item e (.int n) (cK.mpr ⟨n,c,rfl⟩);have i:=(layableW_iff.mp g).2.2;simpa only [WData.weight,yg] using i
open PySem.W PySem.Calls Att in
theorem Vu {l:Bv}
  (Z:l.most=some n) (H:d.params.defaults=[])
  (call: ∀(w:World) (e c:aL) (z I:WV) (m:Addr) (o:Obj) (J B g:Value) (a:Addr) (j:List Value) (p:List Int),
   Ground q h [] XP w e z I c.heap->YP w c.heap->
   c.heap.get? m=some o->o.data= .func (docDef d.name d.params d.body d.scope J B g)->c.heap.CodeRec B d.name->z d.name=some (.ref m)->
   c.heap.get? a=some {cls:= .type "list",data:= .seq j.toArray}->IntsAre j p->p.length<=n->(∀n∈p,yg n<=2^20)->c.gens= #[]->
   pM (model l.prog w) callerA (.call (.ref m) ⟨[.ref a],[]⟩) (λr E=>r= .ok (.ret (.bool true))/\OldK c.heap E.heap/\E.os=c.os/\rZ E.gens) c):
  WalkO q h XP YP l.row.toRowW d [] (λf j=>PySem.call f j):=by
 intro w e c z I G Y m o J B g dV kV ho hd L Q N hg args U as u v hrd O hlo;obtain rfl:dV= .none:=Dflts.none Q H;obtain rfl:kV= .none:=Dflts.noKw Q;obtain ⟨a,j,p,rfl,rfl,x,i,y⟩:=vZ Z u O;refine enter_call (Ao (call w e c z I m o J B g a j p G Y ho (fd_plain hd) L N x i y (Sd v) hg) λr E hq=>?_);obtain ⟨rfl,h2,h3,h4⟩:=hq;exact ⟨.inl ⟨.bool true,.bool true,[],rfl,λ_=>rfl,.bool true,uB l _,λ_=>⟨List.Pairwise.nil,λ_ hm=>(nomatch hm)⟩⟩,h2,h3,h4⟩
def Se {K:aH} (c:wa H) (h:fV K H a e):pV K H a e:=by
 rcases h with (h|h)|h
 . rcases c a with z| ⟨o,g,z⟩
   . rw [z] at h;cases h
   . rw [z] at h;cases h
 . exact .inl h
 . exact .inr h
theorem Uq {K:aH}: ∀a:List Int,ao K A H (a.map V.int) (a.map D.int)
 | []=> .nil
 |n::r=> .cons (.int n) (Uq r)
def qQ {l:Bv} {K:Params->aH}
  (hn:l.most=some n) (E:n<=aS) (I:d.params.defaults=[]) (hr:aT k callerA)
  (hY: ∀(w:World) (h:Heap),YP w h->(K w.params).In h)
  (hF: ∀(w:World) (p:WV) (B:Addr) (h:Heap),(K w.params).In h->h.Ns ce p->p d.name=some (.ref B)->
   ∃J:oR,(∀(s:aL) (u:Value),BindsTo s J ⟨[u],[]⟩ [(x,u)])/\
    ∀c:Heap,(K w.params).In c->c.Ns ce p->dG l.prog w (K w.params) p c lB k B J [x] (ox (K w.params) true 1 F))
  (ht: ∀y:List Int,y.length<=n->(∀i∈y,yg i<=2^20)->F [.gv (y.map D.int)]= .ok (.bl true)):
  PySem.W.WalkO q L XP YP l.row.toRowW d [] (λf Q=>PySem.call f Q):=by
 refine Vu hn I λw U Z p mb B o pm cd doc a Q y G Y ho hd sT N z j g m hg=>?_
 have KX:=hY w _ Y;obtain ⟨J,hb,O⟩:=hF w p B _ KX G.T.g N;refine Rn KX G.T.g G.T.b G.T.builtins G.T.nolimit hg z j (cE g E) hr O hb (λH hO hS=>?_) λH e s' h=>h
 exact ⟨Any,_,_,rfl,.cons (.Fs (Se hO hS) (Uq y)) .nil,ht y g m,λv H' _ r _=>r.rT⟩
section
variable {X:Cx} {K:aH}
noncomputable def iG (C:Int->Int->Prop) [∀i j,Decidable (C i j)] (g:Int->Int->D):D->D->ak D
 | .int i,.int j=>a5 (C i j) (.ok (g i j))
 |_,_=> .aj
def Lk {C:Int->Int->Prop} [∀i j,Decidable (C i j)] {g:Int->Int->D} {a b d:D} (h:iG C g a b= .ok d): ∃i j,a= .int i/\b= .int j/\C i j/\d=g i j:=by
 unfold iG at h
 split at h
 . obtain ⟨c,e⟩:=ju h;cases e;exact ⟨_,_,rfl,rfl,c,rfl⟩
 . cases h
def qR {C c:Int->Int->Prop} [∀i j,Decidable (C i j)] {h:Int->Int->V} {g:Int->Int->D} (w: ∀i j,C i j->c i j) (r: ∀i j,Sc K (h i j) (g i j)):gz K (rI c h) (iG C g):=by
 intro x y H a b d Q l m e q;obtain ⟨i,j,rfl,rfl,n,rfl⟩:=Lk e;exact ⟨i,j,l.dC,m.dC,w i j n,q _ (r i j)⟩
abbrev QC:Int->Int->Prop:=λ_ _=>True
instance: ∀i j,Decidable (QC i j):=λ_ _=>inferInstanceAs (Decidable True)
def BH (r: ∀i j,Sc K (h i j) (g i j)):gz K (nH h) (iG QC g):=by
 intro x y H a b d Q c l e q;obtain ⟨i,j,rfl,rfl,m,rfl⟩:=Lk e;exact ⟨i,j,c.dC,l.dC,q _ (r i j)⟩
def FV (h:Sc K v d):bG H v:=λa e=>absurd e (h.2 a)
noncomputable def a4:D->D->ak D
 | .int i,.int j=> .ok (.int (i+j))
 | .str i,.str j=>a5 (i.length+j.length<=aS) (.ok (.str (i++j)))
 | .ai a,.ai b=>a5 (a.length+b.length<=aS) (.ok (.ai (a++b)))
 | .am a,.am b=>a5 (a.isEmpty=false/\a.length+b.length<=aS) (.ok (.am (a++b)))
 |_,_=> .aj
def jL:dB X (ly .Add) (λx y H Q=>nH (λi j=> .int (i+j)) x y H Q\/(∃i j,x= .str i/\y= .str j/\i.length+j.length<=aS/\Q (.str (i++j)) H)\/v5 x y H Q\/E6 X.K x y H Q):=
 u7.or (nV.or (v6.or P7))
def ao.len_app (r:ao K A H c a) (s:ao K A H e b) (h:a.length+b.length<=aS):c.length+e.length<=aS:=by rw [r.length,s.length];exact h
def AD {A:VJ} {H:Hp}: ∀c,A c->(H c=none\/A c):=λ_ z=> .inr z
def qf:Ay K (λx y H Q=>nH (λi j=> .int (i+j)) x y H Q\/(∃i j,x= .str i/\y= .str j/\i.length+j.length<=aS/\Q (.str (i++j)) H)\/v5 x y H Q\/E6 K x y H Q) a4:=by
 intro A x y H a b d Q w B e q;unfold a4 at e
 split at e
 . cases e;exact .inl ⟨_,_,w.dC,B.dC,q _ H (aq.refl H) (.int _) (FV (m7 (K:=K) _))⟩
 . obtain ⟨E,Y⟩:=ju e;cases Y;have g: ∀i j:Str,i.length+j.length<=aS->(i++j).length<=aS:=λi j h=>by rw [BI];exact h
   exact .inr (.inl ⟨_,_,w.iZ.1,B.iZ.1,E,q _ H (aq.refl H) (.str _ (g _ _ E)) (FV (Db (K:=K) _ (g _ _ E)))⟩)
 . obtain ⟨I,J⟩:=ju e;cases J;obtain ⟨l,L,rfl,g,_,r⟩:=w.eM;obtain ⟨N,O,rfl,u,_,v⟩:=B.eM;refine .inr (.inr (.inl ⟨l,N,L,O,rfl,rfl,g,u,r.low.len_app v.low I,λp n=>q _ _ (aq.aU n) ?_ (qr (aq.refl H) n)⟩));exact .ai jy (.inl n) (((r.low.append v.low).laid n).aO λc z=>⟨.inr z.1,z.2⟩)
 . obtain ⟨⟨I,J⟩,Z⟩:=ju e;cases Z;obtain ⟨l,L,rfl,g,r⟩:=w.gI;obtain ⟨N,O,rfl,u,v⟩:=B.gI;refine .inr (.inr (.inr ⟨l,N,L,O,rfl,rfl,.of g,.of u,λz=>?_,r.len_app v J,λz=>?_,λz p n=>q _ _ (aq.aU n) ?_ (qr (aq.refl H) n)⟩))
   . subst z;cases r;cases I
   . subst z;cases v;rw [oH] at q;refine q _ H (aq.refl H) (.am g (r.aO AD)) λa e o U m=>?_
     cases e;rw [g] at U;cases U;exact m
   . exact .am jy (((r.append v).aO AD).av (aq.aU n))
 . cases e
def Wr:gz K (nH λi j=> .int (i-j)) (iG QC λi j=> .int (i-j)):=BH λi j=>m7 _
abbrev oZ:Int->Int->Prop:=λi j=>yg i+yg j<=134217728
def KR:dB X (ly .Mult) (rI oZ λi j=> .int (i*j)):=A8 λ_ _ _ _ _ _ _ a q=>mul_int q (IntMulOk.of_le (bn _) (bn _) a)
def FW:gz K (rI oZ λi j=> .int (i*j)) (iG oZ λi j=> .int (i*j)):=qR (λ_ _ h=>h) λi j=>m7 _
abbrev BJ:Int->Int->Prop:=λ_ j=>0<j/\j<1073741824
def Xk:gz K (rI r9 λi j=> .int (i/j)) (iG BJ λi j=> .int (i/j)):=qR (λ_ _ h=>h) λi j=>m7 _
abbrev BK:Int->Int->Prop:=λ_ j=>0<j
def zE:gz K (rI (λ_ j=>0<j) λi j=> .int (i%j)) (iG BK λi j=> .int (i%j)):=qR (λ_ _ h=>h) λi j=>m7 _
abbrev yh:Int->Int->Prop:=λi j=>0<=j/\j<=1000000/\i.natAbs<2^64
def Sg:gz K (rI Ba λi j=> .int (i^j.toNat)) (iG yh λi j=> .int (i^j.toNat)):=qR (λ_ _ h=>h) λi j=>m7 _
def BL:gz K (nH λi j=> .bl (decide (i<j))) (iG QC λi j=> .bl (decide (i<j))):=BH λi j=>lm _
def Xj:gz K (nH λi j=> .bl (decide (i<=j))) (iG QC λi j=> .bl (decide (i<=j))):=BH λi j=>lm _
def kE:gz K (nH λi j=> .bl (decide (j<i))) (iG QC λi j=> .bl (decide (j<i))):=BH λi j=>lm _
def Sh:gz K (nH λi j=> .bl (decide (j<=i))) (iG QC λi j=> .bl (decide (j<=i))):=BH λi j=>lm _
noncomputable def tm (i j:Str):Bool:=!(ES j i 0 j.length 1).isEmpty
def inD:D->D->ak D
 | .str i,.str j=> .ok (.bl (tm i j))
 |_,_=> .aj
def Si:gz K (λx y H Q=> ∃i j,x= .str i/\y= .str j/\Q (.bl (!(ES j i 0 j.length 1).isEmpty)) H) inD:=by
 intro x y H a b d Q c g e q;unfold inD at e
 split at e
 . cases e;exact ⟨_,_,c.iZ.1,g.iZ.1,q _ (lm _)⟩
 . cases e
noncomputable def D.lW:D->Bool
 | .a6=>true
 |_=>false
def mN:D->D->ak D
 |a,.a6=> .ok (.bl a.lW)
 |_,_=> .aj
def Yk (r:aN K A H x a):decide (x=V.a6)=a.lW:=by
 have r:=r.f
 cases a with
 |a6=>cases r;rfl
 |bl b=>cases r;rfl
 |int i=>cases r;rfl
 |str z=>cases r.1;rfl
 |mem B e=>obtain ⟨_,rfl,_⟩:=r;rfl
 |lV c=>obtain ⟨_,_,_,_,rfl,_⟩:=r;rfl
 |obj c g ds=>obtain ⟨_,_,_,_,rfl,_⟩:=r;rfl
 |_=>obtain ⟨_,_,rfl,_⟩:=r;rfl
def Ws:gz K (λx y H Q=>y= .a6/\Q (.bl (decide (x= .a6))) H) mN:=by
 intro x y H a b d Q c g e q;unfold mN at e
 split at e
 . cases e;refine ⟨g.su,?_⟩;rw [Yk c];exact q _ (lm _)
 . cases e
noncomputable def bc:List D->ak D
 | [.ai ds]=> .ok (.int ds.length)
 | [.gv ds]=> .ok (.int ds.length)
 | [.am ds]=> .ok (.int ds.length)
 | [.str z]=> .ok (.int z.length)
 |_=> .aj
def jA:bt X (.builtin "len") (λc H Q=>(∃p a,c=[.ref p]/\(fV X.K H p a\/iX X.K H p a)/\Q (.int a.length) H)\/(∃z,c=[.str z]/\z.length<=aS/\Q (.int z.length) H)):=mi.or Kh
def qw:Kq K (λi H Q=>(∃p a,i=[.ref p]/\(fV K H p a\/iX K H p a)/\Q (.int a.length) H)\/(∃z,i=[.str z]/\z.length<=aS/\Q (.int z.length) H)) bc:=by
 intro i H ds d Q r e q;unfold bc at e
 split at e
 . cases e;obtain ⟨v,rfl,c⟩:=r.one;obtain ⟨p,a,rfl,g,_,h⟩:=c.eM;exact .inl ⟨p,a,rfl,.inl (.of g),by rw [h.length];exact q _ (m7 _)⟩
 . cases e;obtain ⟨v,rfl,c⟩:=r.one;obtain ⟨p,a,rfl,g,h⟩:=c.pW;exact .inl ⟨p,a,rfl,.inl g.rS,by rw [h.length];exact q _ (m7 _)⟩
 . cases e;obtain ⟨v,rfl,c⟩:=r.one;obtain ⟨p,a,rfl,g,h⟩:=c.gI;exact .inl ⟨p,a,rfl,.inr (.of g),by rw [h.length];exact q _ (m7 _)⟩
 . cases e;obtain ⟨v,rfl,c⟩:=r.one;obtain ⟨rfl,j⟩:=c.iZ;exact .inr ⟨_,rfl,j,q _ (m7 _)⟩
 . cases e
def yu:List D->ak D
 | [.ai ds]=>(.ok (.am ds))
 | [.am ds]=>(.ok (.am ds))
 |_=> .aj
def vJ (h:H p=some (.am c)):bG H (.ref p):=λa e o q m=>by
 cases e;rw [h] at q;cases q;exact m
def QX:QD K (λj H Q=> ∃p a,j=[.ref p]/\((fV K H p a/\ ∀l,H l=none->Q (.ref l) (aU H l (.am a)))\/(iX K H p a/\Q (.ref p) H))) yu:=by
 intro A j H ds d Q r e q;unfold yu at e
 split at e
 . cases e;obtain ⟨v,rfl,g⟩:=r.one;obtain ⟨p,a,rfl,c,_,h⟩:=g.eM;exact ⟨p,a,rfl,.inl ⟨.of c,λl i=>q _ _ (aq.aU i) (.am jy ((h.low.aO AD).av (aq.aU i))) (qr (aq.refl H) i)⟩⟩
 . cases e;obtain ⟨v,rfl,g⟩:=r.one;obtain ⟨p,a,rfl,c,h⟩:=g.gI;exact ⟨p,a,rfl,.inr ⟨.of c,q _ H (aq.refl H) (.am c (h.aO AD)) (vJ c)⟩⟩
 . cases e
def K6:List D->ak D
 | [.ai ds]=>(.ok (.ai ds))
 | [.am ds]=>(.ok (.ai ds))
 |_=> .aj
def XT:QD K (λm H Q=> ∃p g,m=[.ref p]/\(fV K H p g\/iX K H p g)/\ ∀l,H l=none->Q (.ref l) (aU H l (.ai g))) K6:=by
 intro A m H ds d Q r e q;unfold K6 at e
 split at e
 . cases e;obtain ⟨v,rfl,h⟩:=r.one;obtain ⟨p,g,rfl,i,_,j⟩:=h.eM;exact ⟨p,g,rfl,.inl (.of i),λl a=>q _ _ (aq.aU a) (.ai jy (.inl a) ((j.low.laid a).aO λc z=>⟨.inr z.1,z.2⟩)) (qr (aq.refl H) a)⟩
 . cases e;obtain ⟨v,rfl,h⟩:=r.one;obtain ⟨p,g,rfl,i,j⟩:=h.gI;exact ⟨p,g,rfl,.inr (.of i),λl a=>q _ _ (aq.aU a) (.ai jy (.inl a) ((j.laid a).aO λc z=>⟨.inr z.1,z.2⟩)) (qr (aq.refl H) a)⟩
 . cases e
noncomputable def minD:List D->ak D
 | [.int i,.int j]=> .ok (.int (if j<i then j else i))
 |_=> .aj
def Sj:Kq K (λa H Q=> ∃i j,a=[.int i,.int j]/\Q (.int (if j<i then j else i)) H) minD:=by
 intro a H ds d Q r e q;unfold minD at e
 split at e
 . cases e;obtain ⟨v,h,rfl,c,g⟩:=r.ag;cases c.dC;cases g.dC;exact ⟨_,_,rfl,q _ (m7 _)⟩
 . cases e
noncomputable def maxD:List D->ak D
 | [.int i,.int j]=> .ok (.int (if j>i then j else i))
 |_=> .aj
def Sk:Kq K (λa H Q=> ∃i j,a=[.int i,.int j]/\Q (.int (if j>i then j else i)) H) maxD:=by
 intro a H ds d Q r e q;unfold maxD at e
 split at e
 . cases e;obtain ⟨v,h,rfl,c,g⟩:=r.ag;cases c.dC;cases g.dC;exact ⟨_,_,rfl,q _ (m7 _)⟩
 . cases e
noncomputable def FX:D->Option String
 | .a6=>some "NoneType"
 | .bl _=>some "bool"
 | .int _=>some "int"
 | .str _=>some "str"
 | .am _=>some "tuple"
 | .ai _=>some "list"
 | .gv _=>none
 | .dr _ _=>some "dict"
 | .bX _ _=>some "dict"
 | .lV _=>none
 | .mL _ _=>none
 | .mM _ _=>none
 | .obj _ _ _=>none
 | .mem _ _=>none
 | .fG _=>none
def Sm (r:aN K A H v d) (h:FX d=some n):il K H v (.type n):=by
 have r:=r.f;cases d<;>cases h
 . cases r;exact .a6
 . cases r;exact .bl _
 . cases r;exact .int _
 . cases r.1;exact .str _
 . obtain ⟨_,_,rfl,e,_⟩:=r;exact .am e
 . obtain ⟨_,_,rfl,e,_⟩:=r;exact .ai e
 . obtain ⟨_,_,rfl,e,_⟩:=r;exact .dK e
 . obtain ⟨_,_,rfl,e,_⟩:=r;exact .dT e
def mq (T n:String):Bool:=n==T|| (T== "int" &&n== "bool")
def m9 (T:String):Prop:= ∀(K:aH) (n:String),n∈["NoneType", "bool", "int", "str", "tuple", "list", "dict"]->nI K (.type n) (.type T)=some (mq T n)
def Sn (h:FX d=some n):n∈["NoneType", "bool", "int", "str", "tuple", "list", "dict"]:=by
 cases d<;>first| (cases h;done)| (cases h;decide)
def Zy (h: ∀(K:aH),nI K (.type "NoneType") (.type T)=some (mq T "NoneType")/\nI K (.type "bool") (.type T)=some (mq T "bool")/\nI K (.type "int") (.type T)=some (mq T "int")/\
  nI K (.type "str") (.type T)=some (mq T "str")/\nI K (.type "tuple") (.type T)=some (mq T "tuple")/\nI K (.type "list") (.type T)=some (mq T "list")/\nI K (.type "dict") (.type T)=some (mq T "dict")):m9 T:=by
 intro K n a;obtain ⟨c,e,g,i,j,l,m⟩:=h K;simp at a;rcases a with rfl|rfl|rfl|rfl|rfl|rfl|rfl<;>assumption
def xx:m9 "int" :=Zy λK=>⟨rfl,rfl,rfl,rfl,rfl,rfl,rfl⟩
def So:m9 "bool" :=Zy λK=>⟨rfl,rfl,rfl,rfl,rfl,rfl,rfl⟩
def Sq:m9 "str" :=Zy λK=>⟨rfl,rfl,rfl,rfl,rfl,rfl,rfl⟩
def qv:m9 "tuple" :=Zy λK=>⟨rfl,rfl,rfl,rfl,rfl,rfl,rfl⟩
def Zz:m9 "list" :=Zy λK=>⟨rfl,rfl,rfl,rfl,rfl,rfl,rfl⟩
def i0 (T:String) (d:D):ak D:=match FX d with
 |some n=> .ok (.bl (mq T n))
 |none=> .aj
def Sr (T:String) (h:m9 T):bt X (.builtin "isinstance") (λa H Q=> ∃x d,a=[x,.ty T]/\aN X.K Any H x d/\ ∃b,i0 T d= .ok (.bl b)/\Q (.bl b) H):=by
 rintro c s p H a v Q I r ⟨x,d,i,j,b,e,q⟩;subst i;obtain ⟨u,l,rfl,m,o⟩:=vF r;cases (show l=tZ T from o);unfold i0 at e
 split at e
 . rename_i n g;cases e;refine PK I m (Sm j g) (h X.K n (Sn g)) λtk=>⟨.bl _,H,I.tok tk,rfl,q⟩
 . cases e
def bv (T:String) (f:T0):Sl->ak D:=λa=>f a>>=i0 T
def qU (T:String) (Ty:Str) {l':Lv} {p c g:Pos} (u:m9 T) (w:DE X l e f) (x:Gl X "isinstance") (y:X.mg "isinstance" =none) (h:Gl X Ty) (i:X.mg Ty=none) (z:mV Ty=some (.type T))
   (B:Ty≠ "__name__" :=by decide) (hd:Yi Ty:=by decide) (o:c0 [e,.Name Ty c] X.env=(false,eval e X.env)::c0 [.Name Ty c] X.env:=by exact jt rfl)
   (j:c0 [.Name Ty c] X.env=(false,eval (.Name Ty c) X.env)::c0 [] X.env:=by exact jt rfl) (m:(iW g (c0 [.Name Ty c] X.env)).any (·.1)=false:=by exact jS rfl):
   DE X l' (.Call (.Name "isinstance" p) [e,.Name Ty c] [] g) (bv T f):=by
 nomatch (
  PE.imp (yj (Sr T u) x y boot_isinstance (za w (za (ON (v:= .ty T) h i z rfl B hd) xg j) o) (by decide) (by decide) o m) λN H Q=>by
   rintro ⟨G,E,n,d,k,I,q⟩;obtain ⟨a,e1,e2⟩:=jd I;refine ⟨G,E,n,a,k,e1,λv J s r _=>?_⟩
   have L: ∃b,d= .bl b:=by
    unfold i0 at e2
    split at e2
    . cases e2;exact ⟨_,rfl⟩
    . cases e2
   obtain ⟨b,rfl⟩:=L
   exact ⟨v,a,rfl,r.aO Lv.bu,b,e2,q _ J s (.bl b) (lm (K:=X.K) b).T⟩)
def Wf:List D->Option (List Bool)
 | []=>some []
 | .bl b::r=>(Wf r).map (b:: ·)
 |_=>none
theorem ZY: ∀ {ds:List D} {bs:List Bool},Wf ds=some bs->ds=bs.map D.bl
 | [],bs,h=>by cases h;rfl
 |d::r,bs,h=>by
  cases d with
  |bl b=>
   simp only [Wf,sX] at h;obtain ⟨a,c,rfl⟩:=h;rw [ZY c];rfl
  |_=>cases h
def Ss (bs:List Bool):Wf (bs.map D.bl)=some bs:=by
 induction bs with
 |nil=>rfl
 |cons b r a=>simp [Wf,a]
noncomputable def fN:List D->ak D
 | [.ai ds]=>match Wf ds with
  |some bs=> .ok (.bl (bs.all id))
  |none=> .aj
 |_=> .aj
theorem JW: ∀ {bs:List Bool} {a:List V},ao K A H a (bs.map D.bl)->a=bs.map V.bl
 | [],_,.nil=>rfl
 |b::bs,_,.cons h t=>by rw [h.rT,JW t];rfl
theorem JM: ∀ {bs:List Bool} {a:List Value},aK (bs.map V.bl) a->a=bs.map pj
 | [],_,.nil=>rfl
 |b::bs,_,.cons h t=>by
  rw [JM t];have:_=pj b:=h;rw [this];rfl
def wB (E:X.cR=true):bt X (.builtin "all") (λy H Q=> ∃(p:Addr) (bs:List Bool),y=[.ref p]/\fV X.K H p (bs.map V.bl)/\Q (.bl (bs.all id)) H):=by
 rintro B s σ H y us Q I r ⟨p,bs,J,L,q⟩;subst J;obtain ⟨u,rfl,N⟩:=xO r;cases N;obtain ⟨O,U,j,hz⟩:=I.list L;have c:=JM U;subst c;refine call_all_walk (Az j.isList ?_)
 have l:p≠s.heap.objs.size:=by
   obtain ⟨o,n,e,_⟩:=j;exact eB (c8 e)
 refine ⟨s.heap.objs.size,_,_,_,_,_,λi=>(bs[i]?).getD true,rfl,Walks.list (show X.A.in1.handled=none from I.ok.hd E) s.heap.objs.size p l (bs.map pj).toArray,⟨⟨_,fS _ rfl,rfl,rfl⟩,j.isList.at λo e=>cT _ e⟩,?_,λh' tk Y=>?_⟩
 . intro i v s' Q' E' Z m;have a:(bs.map pj)[i]?=some v:=by simpa using Z
   rw [iE] at a
   cases e:bs[i]? with
   |none=>rw [e] at a;cases a
   |some b=>
    rw [e] at a;cases a;dsimp only at m;rw [e] at m;exact oM m
 . have hn:(bs.map pj).toArray.size=bs.length:=by simp
   have e:((fF (bs.map pj).toArray.size).all λi=>(bs[i]?).getD true)=bs.all id:=by
    rw [hn,rX,iT,iT]
    constructor
    . intro w b x;obtain ⟨i,h,rfl⟩:=yt.mp x;have:=w i (iU.mpr h);rw [cy h] at this;exact this
    . intro w i h;have g:=iU.mp h;rw [cy g];exact w _ (mF g)
   rw [e];refine ⟨.bl _,H,?_,rfl,q⟩
   exact I.kept λb o e=>Y b o (by
    intro z;have x:b=s.heap.objs.size:=by simpa using z
    exact absurd (c8 e) (by rw [x];exact pI _)) (cT _ e)
def ZT:Kq K (λc H Q=> ∃(p:Addr) (bs:List Bool),c=[.ref p]/\fV K H p (bs.map V.bl)/\Q (.bl (bs.all id)) H) fN:=by
 intro c H ds d Q r e q;unfold fN at e
 split at e
 . split at e
   . rename_i bs a;cases e;obtain ⟨v,rfl,h⟩:=r.one;obtain ⟨p,j,rfl,i,_,g⟩:=h.eM;rw [ZY a] at g;have:=JW g;subst this;exact ⟨p,bs,rfl,.of i,q _ (lm _)⟩
   . cases e
 . cases e
end
open PySem.SeqAt (EqAt RcAt RcNeAt)
mutual
theorem D.ind {P:D->Prop} (h0:P .a6) (h1: ∀b,P (.bl b)) (h2: ∀i,P (.int i)) (h3: ∀x,P (.str x)) (h4: ∀ds,(∀d∈ds,P d)->P (.am ds)) (h5: ∀ds,(∀d∈ds,P d)->P (.ai ds))
  (h6: ∀ds,(∀d∈ds,P d)->P (.gv ds)) (h7:(∀ks ds,(∀d∈ds,P d)->P (.dr ks ds))/\(∀ks ds,(∀d∈ds,P d)->P (.bX ks ds))/\(∀c,P (.lV c))/\(∀ks ds,(∀d∈ds,P d)->P (.mL ks ds))/\(∀ks ds,(∀d∈ds,P d)->P (.mM ks ds))/\(∀c ns ds,(∀d∈ds,P d)->P (.obj c ns ds))/\(∀B Φ,P (.mem B Φ))/\ ∀ds,P (.fG ds)): ∀d,P d
 | .a6=>h0
 | .bl b=>h1 b
 | .int i=>h2 i
 | .str x=>h3 x
 | .am ds=>h4 ds (D.mr h0 h1 h2 h3 h4 h5 h6 h7 ds)
 | .ai ds=>h5 ds (D.mr h0 h1 h2 h3 h4 h5 h6 h7 ds)
 | .gv ds=>h6 ds (D.mr h0 h1 h2 h3 h4 h5 h6 h7 ds)
 | .dr ks ds=>h7.1 ks ds (D.mr h0 h1 h2 h3 h4 h5 h6 h7 ds)
 | .bX ks ds=>h7.2.1 ks ds (D.mr h0 h1 h2 h3 h4 h5 h6 h7 ds)
 | .lV c=>h7.2.2.1 c
 | .mL ks ds=>h7.2.2.2.1 ks ds (D.mr h0 h1 h2 h3 h4 h5 h6 h7 ds)
 | .mM ks ds=>h7.2.2.2.2.1 ks ds (D.mr h0 h1 h2 h3 h4 h5 h6 h7 ds)
 | .obj c ns ds=>h7.2.2.2.2.2.1 c ns ds (D.mr h0 h1 h2 h3 h4 h5 h6 h7 ds)
 | .mem B Φ=>h7.2.2.2.2.2.2.1 B Φ
 | .fG ds=>h7.2.2.2.2.2.2.2 ds
theorem D.mr {P:D->Prop} (a:P .a6) (e: ∀b,P (.bl b)) (g: ∀i,P (.int i)) (h3: ∀x,P (.str x)) (j: ∀ds,(∀d∈ds,P d)->P (.am ds)) (l: ∀ds,(∀d∈ds,P d)->P (.ai ds))
  (m: ∀ds,(∀d∈ds,P d)->P (.gv ds)) (n:(∀ks ds,(∀d∈ds,P d)->P (.dr ks ds))/\(∀ks ds,(∀d∈ds,P d)->P (.bX ks ds))/\(∀c,P (.lV c))/\(∀ks ds,(∀d∈ds,P d)->P (.mL ks ds))/\(∀ks ds,(∀d∈ds,P d)->P (.mM ks ds))/\(∀c ns ds,(∀d∈ds,P d)->P (.obj c ns ds))/\(∀B o,P (.mem B o))/\ ∀ds,P (.fG ds)): ∀ds:List D,∀d∈ds,P d
 | [],_,h=>by cases h
 |x::r,d,h=>by
  have p:=D.ind a e g h3 j l m n x;have q:=D.mr a e g h3 j l m n r;rcases cQ.mp h with z|z
  . rw [z];exact p
  . exact q d z
end
mutual
def D.bU:D->Nat
 | .am ds=>D.bY ds+1
 | .ai ds=>D.bY ds+1
 |_=>0
def D.bY:List D->Nat
 | []=>0
 |d::ds=>max (D.bU d) (D.bY ds)
end
mutual
def D.eO:D->Bool
 | .gv _=>false
 | .dr _ _=>false
 | .bX _ _=>false
 | .lV _=>false
 | .mL _ _=>false
 | .mM _ _=>false
 | .obj _ _ _=>false
 | .mem _ _=>false
 | .fG _=>false
 | .am ds=>D.df ds
 | .ai ds=>D.df ds
 |_=>true
def D.df:List D->Bool
 | []=>true
 |d::ds=>D.eO d&&D.df ds
end
mutual
def eE:D->D->Bool
 | .a6,.a6=>true
 | .bl a,.bl b=>a==b
 | .bl a,.int j=>(if a then 1 else 0)==j
 | .int i,.bl b=>i==(if b then 1 else 0)
 | .int i,.int j=>i==j
 | .str x,.str y=>x==y
 | .am a,.am b=>cH a b
 | .ai a,.ai b=>cH a b
 |_,_=>false
def cH:List D->List D->Bool
 | [],[]=>true
 |a::c,b::bs=>eE a b&&cH c bs
 |_,_=>false
end
def Ll:(∀i,D.eO (.int i)=true)/\(∀x,D.eO (.str x)=true)/\(∀ds,D.eO (.am ds)=D.df ds)/\(∀ds,D.eO (.ai ds)=D.df ds):=by and_intros<;>intros<;>rfl
def QB:(∀i c,eE (.int i) (.int c)=(i==c))/\(∀i e,eE (.int i) (.str e)=false)/\(∀i a,eE (.int i) (.am a)=false)/\(∀x c,eE (.str x) (.int c)=false)/\(∀x e,eE (.str x) (.str e)=(x==e))/\(∀x a,eE (.str x) (.am a)=false)/\(∀ds c,eE (.am ds) (.int c)=false)/\(∀ds e,eE (.am ds) (.str e)=false)/\(∀ds a,eE (.am ds) (.am a)=cH ds a)/\(∀ds a,eE (.ai ds) (.ai a)=cH ds a):=by and_intros<;>intros<;>rfl
theorem yn: ∀ {ds:List D} {d:D},d∈ds->D.bU d<=D.bY ds
 |x::r,d,h=>by
  simp only [D.bY];rcases cQ.mp h with rfl|h
  . omega
  . have:=yn h;omega
theorem QP: ∀ {ds:List D} {d:D},D.df ds=true->d∈ds->D.eO d=true
 |x::r,d,a,h=>by
  simp only [D.df,gF] at a;rcases cQ.mp h with rfl|h
  . exact a.1
  . exact QP a.2 h
theorem ya: ∀ {ds:List D},(∀d∈ds,D.eO d=true->eE d d=true)->D.df ds=true->cH ds ds=true
 | [],_,_=>by simp [cH]
 |d::ds,h,a=>by
  simp only [D.df,gF] at a;simp only [cH,gF];exact ⟨h d cu a.1,ya (λx c=>h x (de _ c)) a.2⟩
def UI (d:D):D.eO d=true->eE d d=true:=by
 refine D.ind (P:=λd=>D.eO d=true->eE d d=true) ?_ ?_ ?_ ?_ ?_ ?_ ?_ ?_ d
 . intro _;rfl
 . intro b _;exact beq_self_eq_true b
 . intro i _;exact beq_self_eq_true i
 . intro x _;exact beq_self_eq_true x
 . intro ds e a;exact ya e a
 . intro ds e a;exact ya e a
 . intro ds e a;cases a
 . exact ⟨(by intro ks ds e a;cases a),(by intro ks ds e a;cases a),(by intro c a;cases a),(by intro ks ds e a;cases a),(by intro ks ds e a;cases a),(by intro c g ds e a;cases a),(by intro B h a;cases a),(by intro ds a;cases a)⟩
section
variable {K:aH} {H:Hp}
def ao.n4 (h: ∀d∈ds,∀(A l:VJ) v g,D.eO d=true->D.eO g=true->aN K A H v d->aN K l H v g->d=g) (i:D.df ds=true) (a:D.df c=true) (r:ao K A H j ds) (e:ao K l H j c):ds=c:=by
 induction j generalizing ds c with
 |nil=>cases r.gX;cases e.gX;rfl
 |cons v j m=>
  obtain ⟨_,_,rfl,r,t⟩:=r.dE;obtain ⟨_,_,rfl,e,n⟩:=e.dE;simp only [D.df,gF] at i a;rw [h _ cu _ _ _ _ i.1 a.1 r e,m (λd hd=>h d (de _ hd)) i.2 a.2 t n]
def WF (h:lC K A H v d/\D.eO d=true):(v= .a6/\d= .a6)\/(∃b,v= .bl b/\d= .bl b)\/(∃b,v= .int b/\d= .int b)\/(∃b,v= .str b/\d= .str b)\/(∃a g ds,v= .ref a/\d= .am ds/\H a=some (.am g)/\ao K A H g ds)\/(∃a g ds,v= .ref a/\d= .ai ds/\H a=some (.ai g)/\ao K (λc=>A c/\c≠a) H g ds):=by
 obtain ⟨r,h⟩:=h
 cases d with
 |a6=>exact .inl ⟨r,rfl⟩
 |bl b=>exact .inr (.inl ⟨_,r,rfl⟩)
 |int b=>exact .inr (.inr (.inl ⟨_,r,rfl⟩))
 |str b=>exact .inr (.inr (.inr (.inl ⟨_,r.1,rfl⟩)))
 |am ds=>
  obtain ⟨a,g,r,e,i⟩:=r;exact .inr (.inr (.inr (.inr (.inl ⟨_,_,_,r,rfl,e,i⟩))))
 |ai ds=>
  obtain ⟨a,g,r,e,_,i⟩:=r;exact .inr (.inr (.inr (.inr (.inr ⟨_,_,_,r,rfl,e,i⟩))))
 |_=>cases h
def Su (h:lC K A H .a6 d/\D.eO d=true): .a6=d:=by
 rcases WF h with ⟨_,e⟩| ⟨_,z,_⟩| ⟨_,z,_⟩| ⟨_,z,_⟩| ⟨_,_,_,z,_⟩| ⟨_,_,_,z,_⟩
 . exact e.symm
 all_goals cases z
def Sv (h:lC K A H (.bl b) d/\D.eO d=true): .bl b=d:=by
 rcases WF h with ⟨z,_⟩| ⟨_,z,e⟩| ⟨_,z,_⟩| ⟨_,z,_⟩| ⟨_,_,_,z,_⟩| ⟨_,_,_,z,_⟩<;>cases z;exact e.symm
def Sw (h:lC K A H (.int b) d/\D.eO d=true): .int b=d:=by
 rcases WF h with ⟨z,_⟩| ⟨_,z,_⟩| ⟨_,z,e⟩| ⟨_,z,_⟩| ⟨_,_,_,z,_⟩| ⟨_,_,_,z,_⟩<;>cases z;exact e.symm
def Sx (h:lC K A H (.str b) d/\D.eO d=true): .str b=d:=by
 rcases WF h with ⟨z,_⟩| ⟨_,z,_⟩| ⟨_,z,_⟩| ⟨_,z,e⟩| ⟨_,_,_,z,_⟩| ⟨_,_,_,z,_⟩<;>cases z;exact e.symm
def Sy (h:lC K A H (.ref a) d/\D.eO d=true) (c:H a=some (.am g)): ∃ds,d= .am ds/\ao K A H g ds:=by
 rcases WF h with ⟨z,_⟩| ⟨_,z,_⟩| ⟨_,z,_⟩| ⟨_,z,_⟩| ⟨_,_,_,z,e,q,r⟩| ⟨_,_,_,z,e,q,r⟩<;>cases z<;>rw [c] at q<;>cases q;exact ⟨_,e,r⟩
def SA (h:lC K A H (.ref a) d/\D.eO d=true) (g:H a=some (.ai i)): ∃ds,d= .ai ds/\ao K (λc=>A c/\c≠a) H i ds:=by
 rcases WF h with ⟨z,_⟩| ⟨_,z,_⟩| ⟨_,z,_⟩| ⟨_,z,_⟩| ⟨_,_,_,z,e,q,r⟩| ⟨_,_,_,z,e,q,r⟩<;>cases z<;>rw [g] at q<;>cases q;exact ⟨_,e,r⟩
def aN.inj (d:D): ∀(A j:VJ) v g,D.eO d=true->D.eO g=true->aN K A H v d->aN K j H v g->d=g:=by
 have no: ∀ {v A g w},aN K A H v g->D.eO g=true->v=w->lC K A H w g/\D.eO g=true:=λr h e=>⟨e▸r.f,h⟩
 refine D.ind (P:=λd=> ∀(A j:VJ) v g,D.eO d=true->D.eO g=true->aN K A H v d->aN K j H v g->d=g) ?_ ?_ ?_ ?_ ?_ ?_ ?_ ?_ d
 . intro A j v g _ h r l;exact Su (no l h r.f)
 . intro b A j v g _ h r l;exact Sv (no l h r.f)
 . intro b A j v g _ h r l;exact Sw (no l h r.f)
 . intro b A j v g _ h r l;exact Sx (no l h r.f.1)
 . intro ds n A j v g i m r l;obtain ⟨a,x,rfl,q,u⟩:=r.gI;have o:D.df ds=true:=i;obtain ⟨y,rfl,p⟩:=Sy (no l m rfl) q;rw [ao.n4 n o m u p]
 . intro ds n A j v g i m r l;obtain ⟨a,x,rfl,q,_,u⟩:=r.eM;have o:D.df ds=true:=i;obtain ⟨y,rfl,p⟩:=SA (no l m rfl) q;rw [ao.n4 n o m u p]
 . intro ds n A j v g i;cases i
 . exact ⟨(by intro ks ds n A j v g i;cases i),(by intro ks ds n A j v g i;cases i),(by intro c A j v g i;cases i),(by intro ks ds n A j v g i;cases i),(by intro ks ds n A j v g i;cases i),(by intro c ns ds n A j v g i;cases i),(by intro B z A j v g i;cases i),(by intro ds A j v g i;cases i)⟩
end
def BM (a b:List D) (j:Nat):Bool:=match a[j]?,b[j]? with
 |some x,some y=>eE x y
 |_,_=>true
theorem ym: ∀(a b:List D),a.length=b.length->cH a b=(fF a.length).all (BM a b)
 | [],[],_=>by simp [cH]
 |x::a,y::b,h=>by
  have c:a.length=b.length:=by simpa using h
  rw [fR,List.range_succ_eq_map,ti,Dj];simp only [cH];rw [ym a b c];congr 1
theorem Jv: ∀(a b:List D),a.length≠b.length->cH a b=false
 | [],[],h=>absurd rfl h
 | [],y::b,_=>by simp [cH]
 |x::a,[],_=>by simp [cH]
 |x::a,y::b,h=>by
  simp only [cH];rw [Jv a b (by simpa using h),Bool.and_false]
def UG (a b:List D):cH a b=((fF (min a.length b.length)).all (BM a b)&&a.length==b.length):=by
 by_cases h:a.length=b.length
 . rw [ym a b h,h];simp
 . rw [Jv a b h];simp [h]
section
variable {X:Cx} {Z:List (Addr×Obj)} {Y:L2.St} {H:Hp} {s:aL}
inductive Cm (X:Cx) (H:Hp) (s:aL):Value->D->Prop where
 |a6:Cm X H s .none .a6
 |bl (b:Bool):Cm X H s (.bool b) (.bl b)
 |int (i:Int) (t:Tok):Cm X H s (.int i t) (.int i)
 |str (x:Str) (t:Tok):Cm X H s (.str x t) (.str x)
 |am {a:Addr} {xs:List V} {to:List Value} {ds:List D}:H a=some (.am xs)->s.heap.IsTuple a to.toArray->aK xs to->ao X.K Any H xs ds->Cm X H s (.ref a) (.am ds)
 |ai {a:Addr} {xs:List V} {to:List Value} {ds:List D}:H a=some (.ai xs)->s.heap.IsList a to.toArray->aK xs to->ao X.K Any H xs ds->Cm X H s (.ref a) (.ai ds)
def JG (I:aC X Z Y H s) (r:aN X.K Any H v d) (a:aG v u) (j:D.eO d=true):Cm X H s u d:=by
 have r:=r.f
 cases d with
 |a6=>cases r;cases a;exact .a6
 |bl b=>cases r;cases a;exact .bl b
 |int i=>cases r;obtain ⟨t,rfl⟩:=a;exact .int i t
 |str x=>cases r.1;obtain ⟨t,rfl⟩:=a;exact .str x t
 |am ds=>
  obtain ⟨_,_,rfl,e,c⟩:=r;cases a;obtain ⟨g,h,p,l⟩:=I.tuple (.of e);exact .am e p h c
 |ai ds=>
  obtain ⟨_,_,rfl,e,_,c⟩:=r;cases a;obtain ⟨g,h,p,l⟩:=I.list (.of e);exact .ai e p.isList h c.low
 |_=>cases j
def Dk {A:cC} (o:ao X.K Any H y a) (p:ao X.K Any H z b) (r:aK y g) (vb:aK z c)
  (B: ∀d∈a,∀(v i:V) (u h:Value) (m:D),aN X.K Any H v d->aG v u->aN X.K Any H i m->aG i h->D.eO d=true->D.eO m=true->EqAt A.in1 s u h (eE d m)) (E:D.df a=true) (I:D.df b=true):
  ∀j (w:j<g.toArray.size) (x:j<c.toArray.size),EqAt A.in1 s g.toArray[j] c.toArray[j] (BM a b j):=by
 intro j w x;have l1:=r.length;have l2:=vb.length;have l3:=o.length;have l4:=p.length;have l:j<a.length:=by simp at w;omega
 have n:j<b.length:=by simp at x;omega
 obtain ⟨v,e1,J⟩:=o.get (cy l);obtain ⟨i,e2,L⟩:=p.get (cy n);obtain ⟨u,N,O⟩:=r.get e1;obtain ⟨h,Q,U⟩:=vb.get e2
 have g1:g.toArray[j]=u:=by
  have:=mX.mp N;obtain ⟨_,q⟩:=this;simpa using q
 have g2:c.toArray[j]=h:=by
  have:=mX.mp Q;obtain ⟨_,q⟩:=this;simpa using q
 rw [g1,g2];have e:BM a b j=eE a[j] b[j]:=by unfold BM;rw [cy l,cy n]
 rw [e];exact B _ (mF l) v i u h _ J O L U (QP E (mF l)) (QP I (mF n))
def XH (I:aC X Z Y H s) (d:D): ∀(A:cC) (v m:V) (u n:Value) (l:D),A.units+d.bU<cLine->aN X.K Any H v d->aG v u->aN X.K Any H m l->aG m n->D.eO d=true->D.eO l=true->EqAt A s u n (eE d l):=by
 refine D.ind (P:=λd=> ∀(A:cC) (v m:V) (u n:Value) (l:D),A.units+d.bU<cLine->aN X.K Any H v d->aG v u->aN X.K Any H m l->aG m n->D.eO d=true->D.eO l=true->EqAt A s u n (eE d l)) ?_ ?_ ?_ ?_ ?_ ?_ ?_ ?_ d
 . intro A v m u n l o r w y g h j;cases JG I r w h;have a:A.units<cLine:=by simp only [D.bU] at o;omega
   cases JG I y g j
   . exact EqAt.same _
   . exact EqAt.none_bool _
   . exact EqAt.none_int _ _
   . exact EqAt.none_str _ _
   . exact EqAt.none_tuple (by assumption) a
   . exact EqAt.none_list (by assumption) a
 . intro b A v m u n l o r w y g h j;cases JG I r w h;have a:A.units<cLine:=by simp only [D.bU] at o;omega
   cases JG I y g j
   . exact EqAt.bool_none _
   . exact EqAt.bool_bool _ _
   . exact EqAt.bool_int _ _ _
   . exact EqAt.bool_str _ _ _
   . exact EqAt.bool_tuple _ (by assumption) a
   . exact EqAt.bool_list _ (by assumption) a
 . intro i A v m u n l o r w y g h j;cases JG I r w h;have a:A.units<cLine:=by simp only [D.bU] at o;omega
   cases JG I y g j
   . exact EqAt.int_none _ _
   . exact EqAt.int_bool _ _ _
   . exact EqAt.int_int _ _ _ _
   . exact EqAt.int_str _ _ _ _
   . exact EqAt.int_tuple _ _ (by assumption) a
   . exact EqAt.int_list _ _ (by assumption) a
 . intro x A v m u n l o r w y g h j;cases JG I r w h;have a:A.units<cLine:=by simp only [D.bU] at o;omega
   cases JG I y g j
   . exact EqAt.str_none _ _
   . exact EqAt.str_bool _ _ _
   . exact EqAt.str_int _ _ _ _
   . exact EqAt.str_str _ _ _ _
   . exact EqAt.str_tuple _ _ (by assumption) a
   . exact EqAt.str_list _ _ (by assumption) a
 . intro ds Q A v m u n l o r w y g h j;have a:A.units<cLine:=by simp only [D.bU] at o;omega
   have c1:=JG I r w h;have c2:=JG I y g j
   cases c1 with
   |am e p rv rs=>
     cases c2 with
     |a6=>exact EqAt.tuple_none p a
     |bl b=>exact EqAt.tuple_bool _ p a
     |int i t=>exact EqAt.tuple_int _ _ p a
     |str x t=>exact EqAt.tuple_str _ _ p a
     |ai e2 U J E=>exact EqAt.tuple_list p U a
     | @am a2 FY N L e2 U J E=>
      rename_i a1 FZ O
      by_cases z:a1=a2
      . subst z;have ed:=aN.inj _ Any Any _ _ h j (aN.am e rs) (aN.am e2 E);rw [<-ed,UI _ h];exact EqAt.same _
      . have q:=RcAt.tuples p U a (Dk rs E rv J (λd hd v m u n l g1 g2 g3 g4 g5 g6=>Q d hd A.in1 v m u n l (by
          have:=yn hd;simp only [D.bU] at o;show A.units+1+d.bU<cLine
          omega) g1 g2 g3 g4 g5 g6) h j)
        have n1:O.toArray.size=ds.length:=by rw [dj,<-rv.length,rs.length]
        have n2:N.toArray.size=L.length:=by rw [dj,<-J.length,E.length]
        rw [n1,n2,<-UG] at q;exact CH z q
 . intro ds Q A v m u n l o r w y g h j;have a:A.units<cLine:=by simp only [D.bU] at o;omega
   have c1:=JG I r w h;have c2:=JG I y g j
   cases c1 with
   |ai e p rv rs=>
     cases c2 with
     |a6=>exact EqAt.list_none p a
     |bl b=>exact EqAt.list_bool _ p a
     |int i t=>exact EqAt.list_int _ _ p a
     |str x t=>exact EqAt.list_str _ _ p a
     |am e2 U J E=>exact EqAt.list_tuple p U a
     | @ai a2 FY N L e2 U J E=>
      rename_i a1 FZ O;have n1:O.toArray.size=ds.length:=by rw [dj,<-rv.length,rs.length]
      have n2:N.toArray.size=L.length:=by rw [dj,<-J.length,E.length]
      by_cases z:a1=a2
      . subst z
        have ed:D.ai ds=D.ai L:=by
          rw [e] at e2;cases e2;rw [ao.n4 (λd _ A A' v l=>aN.inj d A A' v l) h j rs E]
        rw [<-ed,UI _ h];exact EqAt.same _
      . simp only [QB]
        by_cases hl:ds.length=L.length
        . have q:=RcAt.lists p U (by rw [n1,n2];exact hl) a (Dk rs E rv J (λd hd v m u n l g1 g2 g3 g4 g5 g6=>Q d hd A.in1 v m u n l (by
           have:=yn hd;simp only [D.bU] at o;show A.units+1+d.bU<cLine
           omega) g1 g2 g3 g4 g5 g6) h j)
          rw [n1,<-ym ds L hl] at q;exact CH z q
        . rw [Jv ds L hl];exact CH z (F0 p U (by rw [n1,n2];simp [hl]) a)
 . intro ds Q A v m u n l o r w y g h;cases h
 . exact ⟨(by intro ks ds Q A v m u n l o r w y g h;cases h),(by intro ks ds Q A v m u n l o r w y g h;cases h),(by intro c A v m u n l o r w y g h;cases h),(by intro ks ds Q A v m u n l o r w y g h;cases h),(by intro ks ds Q A v m u n l o r w y g h;cases h),(by intro c ns ds Q A v m u n l o r w y g h;cases h),(by intro B Φ A v m u n l o r w y g h;cases h),(by intro ds A v m u n l o r w y g h;cases h)⟩
def VO (I:aC X Z Y H s) {A:cC} (hu:A.units+d.bU<cLine) (r:aN X.K Any H v d) (ru:aG v u) (r':aN X.K Any H J n) (Q:aG J y) (U:D.eO d=true) (o:D.eO n=true):
  RcAt A s u y (eE d n)/\RcNeAt A s u y (!eE d n):=by
 have a:A.units<cLine:=by omega
 have c1:=JG I r ru U;have z:=JG I r' Q o
 cases c1 with
 |a6=>
  cases z
  . exact ⟨RcAt.none_none,RcNeAt.none_none⟩
  . exact ⟨RcAt.none_bool _,RcNeAt.none_bool _⟩
  . exact ⟨RcAt.none_int _ _,RcNeAt.none_int _ _⟩
  . exact ⟨RcAt.none_str _ _,RcNeAt.none_str _ _⟩
  . exact ⟨RcAt.none_tuple (by assumption) a,RcNeAt.none_tuple (by assumption) a⟩
  . exact ⟨RcAt.none_list (by assumption) a,RcNeAt.none_list (by assumption) a⟩
 |bl b=>
  cases z
  . exact ⟨RcAt.bool_none _,RcNeAt.bool_none _⟩
  . exact ⟨RcAt.bool_bool _ _,RcNeAt.bool_bool _ _⟩
  . exact ⟨RcAt.bool_int _ _ _,RcNeAt.bool_int _ _ _⟩
  . exact ⟨RcAt.bool_str _ _ _,RcNeAt.bool_str _ _ _⟩
  . exact ⟨RcAt.bool_tuple _ (by assumption) a,RcNeAt.bool_tuple _ (by assumption) a⟩
  . exact ⟨RcAt.bool_list _ (by assumption) a,RcNeAt.bool_list _ (by assumption) a⟩
 |int i t=>
  cases z
  . exact ⟨RcAt.int_none _ _,RcNeAt.int_none _ _⟩
  . exact ⟨RcAt.int_bool _ _ _,RcNeAt.int_bool _ _ _⟩
  . exact ⟨RcAt.int_int _ _ _ _,RcNeAt.int_int _ _ _ _⟩
  . exact ⟨RcAt.int_str _ _ _ _,RcNeAt.int_str _ _ _ _⟩
  . exact ⟨RcAt.int_tuple _ _ (by assumption) a,RcNeAt.int_tuple _ _ (by assumption) a⟩
  . exact ⟨RcAt.int_list _ _ (by assumption) a,RcNeAt.int_list _ _ (by assumption) a⟩
 |str x t=>
  cases z
  . exact ⟨RcAt.str_none _ _,RcNeAt.str_none _ _⟩
  . exact ⟨RcAt.str_bool _ _ _,RcNeAt.str_bool _ _ _⟩
  . exact ⟨RcAt.str_int _ _ _ _,RcNeAt.str_int _ _ _ _⟩
  . exact ⟨RcAt.str_str _ _ _ _,RcNeAt.str_str _ _ _ _⟩
  . exact ⟨RcAt.str_tuple _ _ (by assumption) a,RcNeAt.str_tuple _ _ (by assumption) a⟩
  . exact ⟨RcAt.str_list _ _ (by assumption) a,RcNeAt.str_list _ _ (by assumption) a⟩
 | @am a1 FZ l ds e p L N=>
  cases z with
  |a6=>exact ⟨RcAt.tuple_none p a,RcNeAt.tuple_none p a⟩
  |bl b=>exact ⟨RcAt.tuple_bool _ p a,RcNeAt.tuple_bool _ p a⟩
  |int i t=>exact ⟨RcAt.tuple_int _ _ p a,RcNeAt.tuple_int _ _ p a⟩
  |str x t=>exact ⟨RcAt.tuple_str _ _ p a,RcNeAt.tuple_str _ _ p a⟩
  |ai e2 h c g=>exact ⟨RcAt.tuple_list p h a,RcNeAt.tuple_list p h a⟩
  | @am a2 FY m j e2 h c g=>
    have w:l.toArray.size=ds.length:=by rw [dj,<-L.length,N.length]
    have B:m.toArray.size=j.length:=by rw [dj,<-c.length,g.length]
    have el:=Dk N g L c (λd hd v J u y n g1 g2 g3 g4 g5 g6=>XH I d A.in1 v J u y n (by
      have:=yn hd;simp only [D.bU] at hu;show A.units+1+d.bU<cLine
      omega) g1 g2 g3 g4 g5 g6) U o
    have q:=RcAt.tuples p h a el;have O:=RcNeAt.tuples p h a el;rw [w,B,<-UG] at q O;exact ⟨q,O⟩
 | @ai a1 FZ l ds e p L N=>
  cases z with
  |a6=>exact ⟨RcAt.list_none p a,RcNeAt.list_none p a⟩
  |bl b=>exact ⟨RcAt.list_bool _ p a,RcNeAt.list_bool _ p a⟩
  |int i t=>exact ⟨RcAt.list_int _ _ p a,RcNeAt.list_int _ _ p a⟩
  |str x t=>exact ⟨RcAt.list_str _ _ p a,RcNeAt.list_str _ _ p a⟩
  |am e2 h c g=>exact ⟨RcAt.list_tuple p h a,RcNeAt.list_tuple p h a⟩
  | @ai a2 FY m j e2 h c g=>
    have w:l.toArray.size=ds.length:=by rw [dj,<-L.length,N.length]
    have B:m.toArray.size=j.length:=by rw [dj,<-c.length,g.length]
    simp only [QB]
    by_cases E:ds.length=j.length
    . have el:=Dk N g L c (λd hd v J u y n g1 g2 g3 g4 g5 g6=>XH I d A.in1 v J u y n (by
       have:=yn hd;simp only [D.bU] at hu;show A.units+1+d.bU<cLine
       omega) g1 g2 g3 g4 g5 g6) U o
      have q:=RcAt.lists p h (by rw [w,B];exact E) a el;have O:=RcNeAt.lists p h (by rw [w,B];exact E) a el;rw [w,<-ym ds j E] at q O;exact ⟨q,O⟩
    . rw [Jv ds j E];exact ⟨F0 p h (by rw [w,B];simp [E]) a,RcNeAt.lists_lengths p h (by rw [w,B];simp [E]) a⟩
end
section
variable {X:Cx}
def Wi:D->D->Bool
 | .ai a,.ai b=>a.length !=b.length
 |_,_=>false
def X7 (h:Wi a b=true):eE a b=false:=by
 unfold Wi at h
 split at h
 . exact Jv _ _ (by simpa using h)
 . cases h
def AE (a b:D):Prop:=(D.eO a=true/\D.eO b=true/\a.bU<=190)\/Wi a b=true
instance (a b:D):Decidable (AE a b):=inferInstanceAs (Decidable (_\/_))
def sw (K:aH) (neg:Bool):R2:=λx y H Q=> ∃a b,aN K Any H x a/\aN K Any H y b/\AE a b/\Q (.bl (if neg then !eE a b else eE a b)) H
def X8 {x:L2.St} (I:aC X n x H s) (o:A.units<cLine) (r:aN X.K Any H v d) (y:aG v u) (z:aN X.K Any H B E) (g:aG B q) (h:Wi d E=true):
   RcAt A s u q false/\RcNeAt A s u q true:=by
 unfold Wi at h
 split at h
 . obtain ⟨a,Q,rfl,J,_,L⟩:=r.eM;obtain ⟨U,N,rfl,i,_,j⟩:=z.eM;cases y;cases g;obtain ⟨l,O,p,_⟩:=I.list (.of J);obtain ⟨c,m,w,_⟩:=I.list (.of i)
   have e:(l.toArray.size !=c.toArray.size)=true:=by
    rw [dj,dj,<-O.length,<-m.length,L.length,j.length];exact h
   exact ⟨F0 p.isList w.isList e o,RcNeAt.lists_lengths p.isList w.isList e o⟩
 . cases h
def wn (n:X.A.units+200<cLine):dB X (h9 .Eq) (sw X.K false):=by
 rintro c s o H x y v u Q I e g ⟨a,b,h,i,hc,q⟩;rcases hc with ⟨j,l,hd⟩|hc
 . exact (VO I (by omega) h e i g j l).1 X.prog X.w X.xe _ ⟨.bl _,H,I,rfl,q⟩
 . have m:Q (.bl false) H:=by have:=X7 hc;simpa [this] using q
   exact (X8 I (by omega) h e i g hc).1 X.prog X.w X.xe _ ⟨.bl _,H,I,rfl,m⟩
def Wp (n:X.A.units+200<cLine):dB X (h9 .NotEq) (sw X.K true):=by
 rintro c s o H x y v u Q I e g ⟨a,b,h,i,hc,q⟩;rcases hc with ⟨j,l,hd⟩|hc
 . exact (VO I (by omega) h e i g j l).2 X.prog X.w X.xe _ ⟨.bl _,H,I,rfl,q⟩
 . have m:Q (.bl true) H:=by have:=X7 hc;simpa [this] using q
   exact (X8 I (by omega) h e i g hc).2 X.prog X.w X.xe _ ⟨.bl _,H,I,rfl,m⟩
def dP (a b:D):ak D:=a5 (AE a b) (.ok (.bl (eE a b)))
def lF (a b:D):ak D:=a5 (AE a b) (.ok (.bl (!eE a b)))
def yR {K:aH}:gz K (sw K false) dP:=λx y H a b d Q c g e q=>by
 obtain ⟨h,e2⟩:=ju e;cases e2;exact ⟨a,b,c,g,h,q _ (lm _)⟩
def kB {K:aH}:gz K (sw K true) lF:=λx y H a b d Q c g e q=>by
 obtain ⟨h,e2⟩:=ju e;cases e2;exact ⟨a,b,c,g,h,q _ (lm _)⟩
def aT.cW (r:aT k A):A.units+200<cLine:=by have:=r.un;omega
end
end M
namespace M
open PySem PySem.Spec L2
open PyProof.Rows hiding St
section
variable {X:Cx} {K:aH}
def XC {lo:Option Int} (c:IsTup s.heap t a) (m:s.heap.IsSliceOf n p q .none) (r:IsPart p lo) (u:IsPart q g)
  (hw:HT.cv a.size 0 lo=0/\HT.cv a.size a.size g=a.size) (h:Q (.ref t) s):wpAny (model o w) A (pP (.ref t) (.ref n)) Q E s:=by
 obtain ⟨os,i,j,v⟩:=id m;have l:s.TypeIs (.ref n) "slice" :=⟨os,i,j⟩
 unfold pP
 try with_reducible refine mI ?_
 first|refine ax (aV ?_)|skip
 refine ax (wpAny_sequenceKey c.typeIs (by decide) ?_)
 refine ax (vt c.typeIs vu
  (so vu c.typeIs entry_tuple_getitem ?_ (args_tuple_getitem _ _)))
 show wpAny _ _ (IH (.ref t)>>=_) _ _ s;refine ax (tupleItemsOf_ c ?_);refine ax (As l ?_);rw [if_pos (by decide)];refine ax (HT.fb m r u ?_)
 have e:(((HT.cv a.size 0 lo:Nat):Int)==0&&(1:Int)==1&&(HT.cv a.size a.size g-HT.cv a.size 0 lo)==a.size)=true:=by
  rw [hw.1,hw.2];simp
 show wpAny _ _ (if (((HT.cv a.size 0 lo:Nat):Int)==0&&(1:Int)==1&&(HT.cv a.size a.size g-HT.cv a.size 0 lo)==a.size)=true then _ else _) _ _ s;rw [if_pos e];unfold Builtin.Tuple.tupleIsExact;refine ax (ax (As c.typeIs (aV ?_)));rw [if_pos (by decide)]
 first
  |exact ax (r0 (ax (aV (aV ⟨_,rfl,aV h⟩))))
  |exact ax (r0 (aV ⟨_,rfl,aV h⟩))
  |exact ax (r0 (ax (aV ⟨_,rfl,aV h⟩)))
def BN (K:aH):V->Option Int->Option Int->Hp->VK->Prop:=λx lo e H Q=> ∃a c,x= .ref a/\iX K H a c/\(HT.cv c.length 0 lo=0/\HT.cv c.length c.length e=c.length)/\Q (.ref a) H
def nc:sq X (BN X.K):=by
 rintro g s u H x v w y lo z B Q I i j l m ⟨a,n,o,p,hw,q⟩;subst o;cases i;obtain ⟨e,r,h,E⟩:=I.tuple p;have c:e.toArray.size=n.length:=by rw [dj];exact r.length.symm
 exact ⟨"tuple",_,vu.lookup,h.typeIs,XC h j l m (by rw [c];exact hw) ⟨.ref a,H,I,rfl,q⟩⟩
noncomputable def du (z:Str) (lo a:Option Int):Str:=
 if ((pC lo a 1 z.length).length==z.length)=true then z else ⟨((pC lo a 1 z.length).filterMap (z.cps[·]?)).toArray⟩
def UN (z:Str) (lo a:Option Int):(du z lo a).length<=z.length:=by
 unfold du
 split
 . exact bn _
 . show ((pC lo a 1 z.length).filterMap (z.cps[·]?)).toArray.size<=z.length;rw [dj];exact cE (List.length_filterMap_le _ _) (PyProof.Rows.indices_len_le lo a z.length)
def BO:V->Option Int->Option Int->Hp->VK->Prop:=λx lo a H Q=> ∃z,x= .str z/\z.length<=aS/\Q (.str (du z lo a)) H
def uI (h:IsPart v o): ∃p:Option (Int×Tok),v=partValue p/\p.map (·.1)=o:=by
 cases h with
 |none=>exact ⟨none,rfl,rfl⟩
 |int i t=>exact ⟨some (i,t),rfl,rfl⟩
def Lm:sq X BO:=by
 rintro g s y H x v B E lo a J Q I i j m n ⟨z,o,p,q⟩;subst o;obtain ⟨t,rfl⟩:=i;obtain ⟨l,rfl,el⟩:=uI m;obtain ⟨u,rfl,r⟩:=uI n;refine ⟨"str",_,F.slot_str_getitem.lookup,typeIs_str s z t,wpAny_getItem_str_slice (st:=none) j rfl ?_⟩;have w:slicePicked z l u none=pC lo a 1 z.length:=by unfold slicePicked;rw [el,r];rfl
 unfold sliceMade;rw [w]
 by_cases c:((pC lo a 1 z.length).length==z.length)=true
 . have e:du z lo a=z:=by unfold du;rw [if_pos c]
   rw [e] at q;rw [if_pos (by simpa using c)];exact ⟨.str z,H,I,⟨t,rfl⟩,q⟩
 . have e:du z lo a=⟨((pC lo a 1 z.length).filterMap (z.cps[·]?)).toArray⟩:=by unfold du;rw [if_neg c]
   have h:=UN z lo a;rw [e] at q h;rw [if_neg (by simpa using c)];exact ⟨cE h p,.str _,H,I.tok _,⟨_,rfl⟩,q⟩
def gT:D->Option Int->Option Int->ak D
 | .am ds,lo,a=>(.ok (.am (cutD ds lo a)))
 | .ai ds,lo,a=>(.ok (.ai (cutD ds lo a)))
 | .str z,lo,a=> .ok (.str (du z lo a))
 |_,_,_=> .aj
def SD {lo:Option Int} (a:HT.cv ds.length 0 lo=0) (c:HT.cv ds.length ds.length e=ds.length):cutD ds lo e=ds:=by
 unfold cutD;rw [a,c];simp
def vR {lo:Option Int} (n:aN X.K A H x a) (l:gT a lo h= .ok d) (q: ∀v o,aq H o->aN X.K (λc=>H c=none\/A c) o v d->bG H v->Q v o):
  Bi X.K x lo h H Q\/BN X.K x lo h H Q\/Bn X.K x lo h H Q\/BO x lo h H Q:=by
 cases a with
 |am ds=>
  cases l;obtain ⟨b,e,rfl,i,j⟩:=n.gI;have m:=j.length
  by_cases hw:HT.cv e.length 0 lo=0/\HT.cv e.length e.length h=e.length
  . refine .inr (.inl ⟨b,e,rfl,.of i,hw,?_⟩);rw [m] at hw;rw [SD hw.1 hw.2] at q;exact q _ H (aq.refl H) (.am i (j.aO AD)) (vJ i)
  . exact .inl ⟨b,e,rfl,.of i,hw,λp g=>q _ _ (aq.aU g) (.am jy (((Vr j).aO AD).av (aq.aU g))) (qr (aq.refl H) g)⟩
 |ai ds=>
  cases l;obtain ⟨b,e,rfl,i,_,j⟩:=n.eM;exact .inr (.inr (.inl ⟨b,e,rfl,.of i,λp g=>q _ _ (aq.aU g) (.ai jy (.inl g) (((Vr j.low).laid g).aO λc z=>⟨.inr z.1,z.2⟩)) (qr (aq.refl H) g)⟩))
 |str z=>
  cases l;obtain ⟨rfl,r⟩:=n.iZ;have m:=cE (UN z lo h) r;exact .inr (.inr (.inr ⟨z,rfl,r,q _ H (aq.refl H) (.str _ m) (FV (Db (K:=X.K) _ m))⟩))
 |_=>cases l
def ze {lo:Option Expr} (r:DE X .s e f) (u:DO X lo w) (y:DO X B E):
   DE X .t (.Subscript e (.Slice lo B none p2) I) (jM f w E gT):=by
 nomatch (
  PE.imp (W7 (pQ.or (nc.or (mh.or Lm))) r u y) λσ H Q=>by
   rintro ⟨G,i,g,d,k,h,q⟩;obtain ⟨a,e1,h⟩:=jd h;obtain ⟨j,e2,h⟩:=jd h;obtain ⟨l,J,L⟩:=jd h;refine ⟨G,i,g,a,k,e1,λx H1 m N _=>⟨G,i,g,j,k.av m,e2,λH2 n=>⟨G,i,g,l,(k.av m).av n,J,λH3 p=>?_⟩⟩⟩;have o:=m.trans (n.trans p)
   exact vR ((N.av n).av p) L λv O U Y Z=>q v O (o.trans U) (Y.aO λc z=>z.elim (λz=>k.new c (aq.free o z)) λz=>z) (Z.av o))
def SE {lo:Option Expr} (p:DE X .b e f) (r:DO X lo u) (w:DO X y z):
   DE X .b (.Subscript e (.Slice lo y none Y) B) (jM f u z gT):=by
 nomatch (
  PE.imp (W7 (pQ.or (nc.or (mh.or Lm))) p r w) λZ H Q=>by
   rintro ⟨G,i,g,d,k,h,q⟩;obtain ⟨a,e1,h⟩:=jd h;obtain ⟨j,e2,h⟩:=jd h;obtain ⟨l,E,I⟩:=jd h;refine ⟨G,i,g,a,k,e1,λx H1 m J _=>⟨G,i,g,j,k.av m,e2,λH2 n=>⟨G,i,g,l,(k.av m).av n,E,λH3 o=>?_⟩⟩⟩;have L:=m.trans (n.trans o)
   exact vR ((J.av n).av o) I λv N O U nt=>q v N (L.trans O) (U.aO λc _=>trivial) trivial)
def Ln (K:aH) (r:V->List V->Hp->VK->Prop) (g:D->List D->ak D):Prop:= ∀(x:V) (c:List V) (H:Hp) (a:D) (ds:List D) (d:D) (Q:VK),aN K Any H x a->ao K Any H c ds->g a ds= .ok d->(∀v,Sc K v d->Q v H)->r x c H Q
def SF (r:aN K A H v (.str z)):E9 K "str" v H:=by rw [r.iZ.1];exact rfl
noncomputable def Dl (f:T0) (e:TX) (g:Str->List D->ak D):Sl->ak D:=λc=>f c>>=λa=>match a with
 | .str z=>e c>>=λds=>g z ds
 |_=> .aj
def SG {l':Lv} {i c:Pos} {id:String}
   (slot:PySem.Slot "str" name id) (u:typeOf (.builtin id)=pure (.type "method_descriptor")) (J:rQ X id r) (L:Ln X.K r (λa ds=>match a with| .str z=>g z ds|_=> .aj)) (N:DE X l1 o f) (O:DA X l2 (e::m) U)
   (j:mZ o name X.env (eval o X.env)=eval o X.env:=by rfl)
   (n:((iW c (c0 (e::m) X.env)).all (λx=>!x.1)&&(oS c (oT [] X.env)).all (λx=>x.1.isSome)
    &&decide ((e::m).length+([]:List nJ).length+(if ([]:List nJ).isEmpty then 0 else 1)<30))=true:=by exact Js rfl rfl)
   (l:(i.endLine==c.line)=true:=by rfl) (Y:T9 X e m:=by exact jt rfl) (h:T8 X c m:=by exact jS rfl):
   DE X l' (.Call (.Attribute o name i) (e::m) [] c) (Dl f U g):=by
 nomatch (
  PE.imp (C2 PySem.F.plainAttrs_str slot u J N O j n l Y h) λσ H Q=>by
   rintro ⟨G,w,p,d,k,Z,q⟩;obtain ⟨a,e1,e2⟩:=jd Z
   cases a with
   |str z=>
    obtain ⟨ds,e3,e4⟩:=jd e2;refine ⟨G,w,p,_,k,e1,λx H1 y B _=>⟨SF B,G,w,p,ds,k.av y,e3,λxs H2 E r2=>?_⟩⟩;exact L x xs H2 (.str z) ds d Q ((B.av E).aO Lv.bu) (r2.aO Lv.bu) e4 λv I=>q v H2 (y.trans E) (I.1 _ _) I.T
   |_=>cases e2)
def SH:rQ X "str.find" (λx c H Q=> ∃z y,x= .str z/\c=[.str y]/\Q (.int (Txt.find z y)) H):=by
 rintro e s l H x c v m Q I g h ⟨z,y,i,a,q⟩;subst i a;obtain ⟨t,rfl⟩:=g;obtain ⟨u,rfl,j⟩:=xO h;obtain ⟨n,rfl⟩:=j;exact SC.find ⟨.int _,H,I.tok _,⟨_,rfl⟩,q⟩
def Dn (z:Str):List D->ak D
 | [.str y]=> .ok (.int (Txt.find z y))
 |_=> .aj
def SI:Ln K (λx c H Q=> ∃z y,x= .str z/\c=[.str y]/\Q (.int (Txt.find z y)) H) (λa ds=>match a with| .str z=>Dn z ds|_=> .aj):=by
 intro x c H a ds d Q g h e q
 cases a with
 |str z=>
  dsimp only at e;unfold Dn at e
  split at e
  . cases e;obtain ⟨v,rfl,i⟩:=h.one;exact ⟨z,_,g.iZ.1,by rw [i.iZ.1],q _ (m7 _)⟩
  . cases e
 |_=>cases e
def cD:Sl->ak D:=λ_=> .ok (.dr [] [])
def SJ:DE X .t (.Dict [] [] c) cD:=by
 nomatch (PE.imp Rk λh H Q=>by
  rintro ⟨G,i,e,d,k,g,q⟩;cases g
  exact λp a=>q _ _ (aq.aU a) (.dr jy (k.new p a) rfl rfl .nil) (qr (aq.refl H) a))
end
abbrev lG:D->D->ak D:=iG QC λi j=> .int (i-j)
abbrev o2:D->D->ak D:=iG oZ λi j=> .int (i*j)
abbrev ng:D->D->ak D:=iG BJ λi j=> .int (i/j)
abbrev bj:D->D->ak D:=iG BK λi j=> .int (i%j)
abbrev dH:D->D->ak D:=iG yh λi j=> .int (i^j.toNat)
abbrev ltI:D->D->ak D:=iG QC λi j=> .bl (decide (i<j))
abbrev nh:D->D->ak D:=iG QC λi j=> .bl (decide (i<=j))
abbrev oy:D->D->ak D:=iG QC λi j=> .bl (decide (j<i))
abbrev Lo:D->D->ak D:=iG QC λi j=> .bl (decide (j<=i))
structure Av (P:cp) (w:World) (K:aH) (mg:WV) (af:Heap) (k:Nat) (x:Str) (ps:List Str) (fr:Bool) (F:TW):Prop where
 ex: ∃f fd,dG P w K mg af lB k f fd ps (ox K fr ps.length F)/\mg x=some (.ref f)/\lU K (.ref f)=true/\Binds K fd ps []
def Av.mono {K:aH} (h:Av P w K mg af j x ps c F) (e:j<=k):Av P w K mg af k x ps c F:=
 let ⟨f,g,a,b⟩:=h.ex
 ⟨f,g,a.mono e,b⟩
section
variable {X:Cx} {k:Nat} {x:Str} {ps:List Str} {U:Bool} {F:TW} {e:Expr} {Y:List Expr} {p Z:Pos} {g:TX}
def Av.call (A:Av X.prog X.w X.K X.mg X.af k x ps U F) (hr:aT k X.A) (h:DA X .s (e::Y) g) (i:ps.length=n:=by rfl) (hg:Gl X x:=by rfl) (a:Yi x:=by decide)
  (j:T9 X e Y:=by exact jt rfl) (c:T8 X Z Y:=by exact jS rfl):DE X .s (.Call (.Name x p) (e::Y) [] Z) (jm n F g):=by
 subst i;obtain ⟨f,q,l,m,h3,o⟩:=A.ex;exact RM l hr hg m h3 o kq h a j c
def Av.aB (A:Av X.prog X.w X.K X.mg X.af k x ps true F) (hr:aT k X.A) (h:DA X .s (e::Y) g) (i:ps.length=n:=by rfl) (hg:Gl X x:=by rfl) (a:Yi x:=by decide)
  (j:T9 X e Y:=by exact jt rfl) (c:T8 X Z Y:=by exact jS rfl):DE X .t (.Call (.Name x p) (e::Y) [] Z) (jm n F g):=by
 subst i;obtain ⟨f,q,l,m,h3,o⟩:=A.ex;exact RN l hr hg m h3 o kq h a j c
def Av.BP (A:Av X.prog X.w X.K X.mg X.af k x ps U F) (hr:aT k X.A) (h:DA X .b (e::Y) g) (i:ps.length=n:=by rfl) (hg:Gl X x:=by rfl) (a:Yi x:=by decide)
  (j:T9 X e Y:=by exact jt rfl) (c:T8 X Z Y:=by exact jS rfl):DE X .b (.Call (.Name x p) (e::Y) [] Z) (jm n F g):=by
 subst i;obtain ⟨f,q,l,m,h3,o⟩:=A.ex;exact RO l hr hg m h3 o kq h a j c
end
noncomputable def aE (c:Bool) (n:Nat) (g:TY) (ds:List D):ak D:=match g (qo n ds) with
 | .ok (.rt a d)=>if c=true/\a=false then .aj else .ok d
 | .ok (.nx _)=> .ok .a6
 |_=> .aj
def JV (h:aE i n g ds= .ok d):Meets i n g ds d:=by
 unfold aE at h
 split at h
 . rename_i a m e
   split at h
   . cases h
   . rename_i j;cases h;refine .inl ⟨a,e,λl=>?_⟩
     cases a with
     |true=>rfl
     |false=>exact absurd ⟨l,rfl⟩ j
 . rename_i c e;cases h;exact .inr ⟨rfl,c,e⟩
 . cases h
section
variable {P:cp} {w:World} {K:aH} {mg:WV} {af:Heap}
def SK {st:Stmt} (j:Bool) (l:nL K x x st f m) (e:mg x=some (.ref f)) (S:au N ps (ji st)) (i:Binds K m ps [])
  (n: ∀(c:Value) (A:cC) (a:List Env) (s:aL) (H:Hp) (E:XK),aT k (A.deeper (mJ x (ji st) s.heap.objs.size f c))->m6 (gH lB P w K mg af N x (ji st) f c A a s H E).oO (qD st) g):
  Av P w K mg af (k+1) x ps j (aE j N.length g):=
 ⟨f,m,FU l S n λds d _ h=>JV h,e,l.kp,i⟩
def SM {st:Stmt} (i:Bool) (j:nL K x x st f h) (a:mg x=some (.ref f)) (c:Binds K h ps []):Av P w K mg af k x ps i (λ_=> .aj):=
 ⟨f,h,⟨λl H Q E ⟨B,ds,d,m,_⟩=>m,λA g s H args n l Q E _ _ _ _ ⟨B,ds,d,_,_,e,_⟩=>by cases e⟩,a,j.kp,c⟩
end
def kW {K:aH} {st:Stmt} (i:Bool) (j:nL K x x st f l) (S:au N ps (ji st))
 (m: ∀(c:Value) (A:cC) (a:List Env) (s:aL) (H:Hp) (E:XK),aT k (A.deeper (mJ x (ji st) s.heap.objs.size f c))->m6 (gH lB P w K n e N x (ji st) f c A a s H E).oO (qD st) g):
 dG P w K n e lB (k+1) f l ps (ox K i ps.length (aE i N.length g)):=FU j S m λds d _ h=>JV h
def SN {p m:Pos} (i:Nat) (N:DE X l2 b O) (hN:X.N[i]?=some x:=by rfl) (U:gs X.env.scope x:=by exact gu rfl)
   (hd:Yi x:=by decide) (n:Yh x:=by decide) (Y:XY b:=by intro _ _;rfl):DE X .s (.Subscript (.Name x p) b m) (ag (gJ i) O aW):=by
 nomatch (
  PE.imp (E7 IK (xM hN U hd n) N Y) λσ H Q=>by
   rintro ⟨G,E,g,d,k,o,q⟩;obtain ⟨u,e1,o⟩:=jd o;obtain ⟨c,e2,a⟩:=jd o;rcases KD e1 with z|z
   . obtain ⟨v,l,I⟩:=k.ae i u z;exact ⟨v,l,G,E,g,c,k,e2,λy H2 h w _=>Jt (I.av h) (w.aO Lv.bu) a λv Z=>q v H2 h Z trivial⟩
   . obtain ⟨v,l,h0,I⟩:=k.ay i u z;refine ⟨_,l,G,E,g,c,k,e2,λy H2 h w _=>?_⟩;have h3:=(k.av h).ay i u z;obtain ⟨v2,J,_,g2⟩:=h3;rw [l] at J;cases J
     cases g2 with
     |ai e r=>
      cases c with
      |int j=>
       cases (w.aO Lv.bu).dC;unfold aW at a;dsimp only at a
       cases B:mf _ j with
       |none=>rw [B] at a;cases a
       |some d'=>
        rw [B] at a;cases a;obtain ⟨L,e6,r6⟩:=XV r B;exact .inl ⟨_,_,j,L,rfl,rfl,.of e,e6,q L H2 h r6 trivial⟩
      |_=>cases a
     |dr e _ _ r=>cases c<;>cases a
     |bX e _ _ r=>cases c<;>cases a
     |obj e _ _ r=>cases c<;>cases a
     |fG e _ _ r=>cases c<;>cases a)
def SO:mV "min" =some (.builtin "min"):=by decide+kernel
def SQ:mV "max" =some (.builtin "max"):=by decide+kernel
def q0:mV "list" =some (.type "list"):=by decide+kernel
def SR (e:List Str) (Lp a:Scope) (N:List Str) (m:Nat) (c:List Nat):Bool:=(fF c.length).all λk=>match N[m+k]?,(c[k]?).bind (e[·]?) with
 |some y,some g=>y==g&&(Lp.names.lookup y==some .cell||Lp.names.lookup y==some .free)&&a.names.lookup y==some .free
 |_,_=>false
noncomputable def BQ (z:Option Str) (e:List Str) (a scope:Scope) (cl:List (Str×Addr)) (N:List Str) (m:Nat) (c:List Nat):Bool:=
 (scope.names.all λx=>x.2 != .local||scope.names.lookup x.1==some .local)&&(scope.names.all λx=>x.2 != .cell||z==some x.1)&&(match z with
   |some y=>scope.names.lookup y==some .cell
   |none=>true)&&(scope.names.all λy=>y.2 != .free||cl.any λp=>p.1==y.1)&&
  SR e a scope N m c&&(match N[m+c.length]? with
   |some y=>scope.names.all λp=>p.1 !=y
   |none=>true)&&N.length==m+c.length+1
def vn {a:List (Str×Addr)} (h:(a.any λp=>p.1==y)=true): ∃c,a.lookup y=some c:=by
 induction a with
 |nil=>cases h
 |cons p r g=>
  obtain ⟨n,c⟩:=p;rw [v7,AF] at h;simp only [qh]
  cases e:y==n with
  |true=>exact ⟨c,rfl⟩
  |false=>
   rcases h with h|h
   . have:n=y:=by simpa using h
     subst this;simp at e
   . exact g h
def qS (a:List (Str×Addr)):List (Str×Addr)->Prop
 | []=>True
 |p::r=>a.lookup p.1=some p.2/\qS a r
theorem qS.mem: ∀ {c:List (Str×Addr)},qS a c-> ∀p∈c,a.lookup p.1=some p.2
 |_::_,h,p,g=>(cQ.mp g).elim (λe=>e▸h.1) (qS.mem h.2 p)
def qE (z:Option Str) {X:Cx} (i:closureFor a X.env=pure l) (o:a.kind= .function) (w:N.Nodup) (q:qS X.env.cells l)
   (h:BQ z X.N X.env.scope a l N m B=true) (made: ∀n,cellsFrom (n+1) a.names l=tj z l n:=by intro _;rfl) (g: ∀h,pushCells h a.names=FF z h:=by intro _;rfl):iq z X a l N m B:=by
 simp only [BQ,gF,iT,beq_iff_eq] at h;obtain ⟨⟨⟨⟨⟨⟨E,H⟩,u⟩,I⟩,J⟩,v⟩,L⟩:=h;refine ⟨i,o,λx O e=>?_,λy r e=>?_,made,g,λy e=>by rw [e] at u;exact beq_iff_eq.mp u,λx c e=>q.mem (x,c) (vq e),λy r e=>?_,w,L,λk j e=>?_,λy e p Q=>?_⟩
 . have:=E x O;rw [e] at this;simpa using this
 . have:=H y r;rw [e] at this;simpa using this
 . have:=I y r;rw [e] at this;exact vn (by simpa using this)
 . have U:=(mX.mp e).1;have:=iT.mp J k (iU.mpr U);rw [e] at this;simp at this
   cases e1:N[m+k]? with
   |none=>rw [e1] at this;cases this
   |some y=>
    cases e2:X.N[j]? with
    |none=>rw [e1,e2] at this;cases this
    |some Z=>
     rw [e1,e2] at this;simp at this;obtain ⟨⟨Y,g2⟩,g3⟩:=this;subst Y;exact ⟨y,rfl,rfl,g2,g3⟩
 . rw [e] at v;have:=iT.mp v p Q;simpa using this
end M
namespace M
open PySem PySem.Spec L2
def j7 (h:a d c= .ok (.nx U)):bO a (d::ds) c=bO a ds U:=by
 show (a d c>>=_)=_;rw [h];rfl
def XD (h:a d c= .ok (.rt e v)):bO a (d::ds) c= .ok (.rt e v):=by
 show (a d c>>=_)=_;rw [h];rfl
theorem ZJ {c:Type} (E:c->Sl) (step:c->D->c) (P:List D->c->Prop)
  (e: ∀d ds a,P (d::ds) a->body d (E a)= .ok (.nx (E (step a d)))/\P ds (step a d)): ∀(ds:List D) (a:c),P ds a->bO body ds (E a)= .ok (.nx (E (ds.foldl step a)))
 | [],a,_=>rfl
 |d::ds,a,h=>by
  obtain ⟨g,i⟩:=e d ds a h;rw [j7 g,ZJ E step P e ds _ i];rfl
theorem Ke {E:D->List D->Sl} (h:D->D) (P:D->Prop)
  (i: ∀x a,fM n (E x a)= .ok a) (j: ∀x a c,(E x a).set n (.ay (.ai c))=E x c)
  (l: ∀x d a,t d (E x a)= .ok (E d a)) (m: ∀d a,P d->g (E d a)= .ok (h d)):
  ∀(ds:List D) (x:D) (a:List D),(∀d∈ds,P d)->a.length+ds.length<=aS-> ∃y,xS n t qm g ds (E x a)= .ok (E y (a++ds.map h))
 | [],x,a,_,_=>⟨x,by simp [xS]⟩
 |d::ds,x,a,o,p=>by
  simp at p;obtain ⟨y,q⟩:=Ke h P i j l m ds d (a++[h d]) (λe r=>o e (by simp [r])) (by simp;omega);refine ⟨y,?_⟩
  have u:xS n t qm g (d::ds) (E x a)=xS n t qm g ds (E d (a++[h d])):=by
   show (t d (E x a)>>=_)=_;rw [l];show (g (E d a)>>=_)=_;rw [m d a (o d (by simp))];rw [i];show a5 _ _=_;rw [jn (by omega),j]
  rw [u,q];simp
def F1 {ds:List D} (h:D->D) (P:D->Prop) (o:j a= .ok ds) (l: ∀d∈ds,P d) (p:ds.length<=aS)
  (m: ∀d i,P d->g [.ae d,.ay (.ai i)]= .ok (h d)):qd false 1 [] j (gN 0) qm g a= .ok (.ai (ds.map h)):=by
 show (j a>>=_)=_;rw [o];show (xS 1 (gN 0) qm g ds [.un,.ay (.ai [])]>>=_)=_
 cases ds with
 |nil=>rfl
 |cons d ds=>
  simp at p;obtain ⟨y,q⟩:=Ke (n:=1) (t:=gN 0) h P (λ_ _=>rfl) (λ_ _ _=>rfl) (λ_ _ _=>rfl) m ds d [h d] (λe r=>l e (by simp [r])) (by simp;omega)
  have u:xS 1 (gN 0) qm g (d::ds) [.un,.ay (.ai [])]=xS 1 (gN 0) qm g ds [.ae d,.ay (.ai [h d])]:=by
   show (g [.ae d,.ay (.ai [])]>>=_)=_;rw [m d [] (l d (by simp))];exact jn (c:=([]:List D).length<aS) (by simp;omega)
  rw [u,q];rfl
variable {env U:Sl} {f Y Q N:T0} {g O g2:TY} {t t1 t2:TZ} {Z:TX} {i:Nat} {d:D} {b:Bool}
@[simp] theorem xl {c e:Type} {a:c} {f:c->ak e}:(ak.ok a>>=f)=f a:=rfl
@[simp] theorem F3 {e h:Type} {c:Prop} [Decidable c] {a b:ak e} {f:e->ak h}:((if c then a else b)>>=f)=if c then a>>=f else b>>=f:=by split<;>rfl
def o3 (g:TY):bg->ak bg
 | .nx e=>g e
 |o=> .ok o
@[simp] theorem uO:o3 g (.nx env)=g env:=rfl
@[simp] theorem KQ {a:Bool}:o3 g (.rt a d)= .ok (.rt a d):=rfl
@[simp] theorem x9:ap O g2 env=(O env>>=o3 g2):=by
 show (O env>>=_)=_;congr 1;funext o;cases o<;>rfl
@[simp] theorem SS:eN i f env=(f env>>=λd=> .ok (.nx (env.set i (U6 d)))):=rfl
@[simp] theorem UD:jB i f env=(f env>>=λd=> .ok (.nx (env.set i (.ae d)))):=rfl
@[simp] theorem ZO:aJ f env=(f env>>=λd=> .ok (.rt true d)):=rfl
@[simp] theorem SU:retS f env=(f env>>=λd=> .ok (.rt false d)):=rfl
@[simp] theorem Lq:cj env= .ok (.nx env):=rfl
@[simp] theorem Y1:cb t O g2 env=(t env>>=λb=>if b=true then O env else g2 env):=rfl
@[simp] theorem Ls:mj t1 t2 env=(t1 env>>=λb=>if b=true then t2 env else .ok false):=rfl
@[simp] theorem F4:fY t1 t2 env=(t1 env>>=λb=>if b=true then .ok true else t2 env):=rfl
@[simp] theorem Vj:bH t env=(t env>>=λb=> .ok (!b)):=rfl
def BR:D->ak Bool
 | .bl b=> .ok b
 |_=> .aj
@[simp] theorem Vw:BR (.bl b)= .ok b:=rfl
@[simp] theorem UF:aM f env=(f env>>=BR):=rfl
@[simp] theorem UC {h:D->D->ak D}:ag Y Q h env=(Y env>>=λx=>Q env>>=λy=>h x y):=rfl
@[simp] theorem F5 {j:Int}:cI j env= .ok (.int j):=rfl
@[simp] theorem Lu:cB b env= .ok (.bl b):=rfl
@[simp] theorem Ju:jb f Z env=(f env>>=λd=>Z env>>=λds=> .ok (d::ds)):=rfl
@[simp] theorem Vk:ab env= .ok []:=rfl
@[simp] theorem Y2 {h:TW}:app Z h env=(Z env>>=h):=rfl
@[simp] theorem UE {n:Nat} {F:TW}:jm n F Z env=(Z env>>=λds=>a5 (ds.length=n) (F ds)):=rfl
@[simp] theorem SV:bq Z env=(Z env>>=λds=>a5 (ds.length<=aS) (.ok (.am ds))):=rfl
@[simp] theorem SW:aZ Z env=(Z env>>=λds=>a5 (ds.length<=aS) (.ok (.ai ds))):=rfl
@[simp] theorem y4 {T:String}:bv T f env=(f env>>=i0 T):=rfl
@[simp] theorem F6:cg f env=(f env>>=De):=rfl
@[simp] theorem Vl {a:TV} {c:TX}:cG c a g env=(c env>>=λds=>bO (j6 a g) ds env):=rfl
@[simp] theorem SX {c e:Sl->ak (Option Int)} {h:D->Option Int->Option Int->ak D}:jM f c e h env=(f env>>=λa=>c env>>=λlo=>e env>>=λj=>h a lo j):=rfl
@[simp] theorem SY:qg f env=(f env>>=JK):=rfl
@[simp] theorem F7:aa i env=match env[i]? with|some (.ae d)=> .ok d|_=> .aj:=rfl
def toK (g:ak D) (w:Bool):D->ak D
 | .bl b=>if b=w then g else .ok (.bl b)
 |_=> .aj
@[simp] theorem S0 {r:ak D} {w:Bool}:toK r w (.bl b)=if b=w then r else .ok (.bl b):=rfl
@[simp] theorem WE {w:Bool}:lD Y Q w env=(Y env>>=toK (Q env) w):=by
 show (Y env>>=_)=_;congr 1
def F8 (f:ak D) (a:D->D->ak D) (y:D):D->ak D
 | .bl true=>f>>=λw=>a y w
 | .bl false=> .ok (.bl false)
 |_=> .aj
@[simp] theorem UP {r:ak D} {h:D->D->ak D} {y:D}:F8 r h y (.bl b)=if b=true then r>>=λw=>h y w else .ok (.bl false):=by cases b<;>rfl
@[simp] theorem QO {h a:D->D->ak D}:ZS Y Q N h a env=(Y env>>=λx=>Q env>>=λy=>h x y>>=F8 (N env) a y):=by
 show (Y env>>=_)=_;congr 1
@[simp] theorem S5 {a:Type} {c:Prop} [Decidable c] {r:ak a}:a5 c r=if c then r else .aj:=rfl
@[simp] theorem F9 {C:Int->Int->Prop} [∀i j,Decidable (C i j)] {h:Int->Int->D} {m n:Int}:iG C h (.int m) (.int n)=if C m n then .ok (h m n) else .aj:=rfl
def runK (c:Bool):bg->ak D
 | .rt a d=>if c=true/\a=false then .aj else .ok d
 | .nx _=> .ok .a6
 |_=> .aj
def xN (h:g (qo n ds)= .ok o):aE a n g ds=runK a o:=by
 unfold aE;rw [h];cases o<;>rfl
end M
namespace M
def xT (e:t a= .ok true) (h:g a= .ok (.nx c)):ql (n+1) t g a=ql n t g c:=by
 rw [ql,e,xl,if_pos rfl,h];rfl
def X4 (c:t a= .ok true) (h:g a= .ok (.rt e d)):ql (n+1) t g a= .ok (.rt e d):=by
 rw [ql,c,xl,if_pos rfl,h];rfl
def xf (c:t a= .ok false):ql (n+1) t g a= .ok (.nx a):=by
 rw [ql,c,xl,if_neg (by simp)]
open PySem PySem.Spec L2
noncomputable def aw:D->List D
 | .am (_::r)=>r
 |_=>[]
mutual
noncomputable def num:D->Nat
 | .am (_::r)=>1+nums r
 |_=>1
noncomputable def nums:List D->Nat
 | []=>0
 |d::r=>num d+nums r
end
mutual
def gA:D->Nat
 | .am (_::r)=>1+cO r
 |_=>1
def cO:List D->Nat
 | []=>0
 |d::r=>max (gA d) (cO r)
end
mutual
def br:D->List D
 | .am (x::r)=> .am (x::r)::eP r
 |d=>[d]
def eP:List D->List D
 | []=>[]
 |d::r=>br d++eP r
end
def Ga:D->Bool| .gv _=>false| .lV _=>false| .mL _ _=>false| .mM _ _=>false| .obj _ _ _=>false| .mem _ _=>false| .fG _=>false|_=>true
mutual
def ir:D->Bool
 | .gv _=>false
 | .lV _=>false
 | .mL _ _=>false
 | .mM _ _=>false
 | .obj _ _ _=>false
 | .mem _ _=>false
 | .fG _=>false
 | .am ds=>decide (ds.length<=11)&&cX ds
 |_=>true
def cX:List D->Bool
 | []=>true
 |d::r=>ir d&&cX r
end
def Lw (d:D):num d=1+nums (aw d):=by
 cases d with
 |am ds=>cases ds<;>simp [num,aw,nums]
 |_=>simp [num,aw,nums]
def Gb (d:D):gA d=1+cO (aw d):=by
 cases d with
 |am ds=>cases ds<;>simp [gA,aw,cO]
 |_=>simp [gA,aw,cO]
def S7 (d:D):br d=d::eP (aw d):=by
 cases d with
 |am ds=>cases ds<;>simp [br,aw,eP]
 |_=>simp [br,aw,eP]
def S8 (a b:List D):nums (a++b)=nums a+nums b:=by
 induction a with
 |nil=>simp [nums]
 |cons d r c=>simp [nums,c];omega
def S9 (a b:List D):cO (a++b)=max (cO a) (cO b):=by
 induction a with
 |nil=>simp [cO]
 |cons d r c=>simp [cO,c]
def XG (h:ir d=true):Ga d=true:=by
 cases d<;>first|rfl|cases h
theorem xj: ∀ {ds:List D} {d:D},cX ds=true->d∈ds->ir d=true
 |x::r,d,h,hm=>by
  have h:=lH.mp h;rcases cQ.mp hm with rfl|hm
  . exact h.1
  . exact xj h.2 hm
theorem QM: ∀ {ds:List D},(∀d∈ds,ir d=true)->cX ds=true
 | [],_=>rfl
 |x::r,h=>lH.mpr ⟨h x (by simp),QM λd hd=>h d (by simp [hd])⟩
def Jr (h:ir d=true):cX (aw d)=true/\(aw d).length<=10:=by
 cases d with
 |am ds=>
  cases ds with
  |nil=>exact ⟨rfl,by simp [aw]⟩
  |cons x r=>
   have h:=lH.mp h;have:=of_decide_eq_true h.1;exact ⟨(lH.mp h.2).2,by simp only [aw];rw [fR] at this;omega⟩
 |_=>exact ⟨rfl,by simp [aw]⟩
def below (a:List D):List D:=a.flatMap aw
def kF (a:List D):nums a=a.length+nums (below a):=by
 induction a with
 |nil=>rfl
 |cons d r c=>
  have:below (d::r)=aw d++below r:=rfl;rw [this,S8];simp only [nums,fR,c,Lw d];omega
def kR (a:List D) (h:a≠[]):cO a=1+cO (below a):=by
 induction a with
 |nil=>exact absurd rfl h
 |cons d r c=>
  have e:below (d::r)=aw d++below r:=rfl;rw [e,S9];simp only [cO,Gb d]
  cases r with
  |nil=>simp [cO,below]
  |cons x r=>rw [c (by simp)];omega
def Vh (h:cX a=true):cX (below a)=true:=
 QM λd hd=>by
  obtain ⟨x,c,e⟩:=lX.mp hd;exact xj (Jr (xj h c)).1 e
def Ta (h:cX a=true):(below a).length<=10*a.length:=by
 induction a with
 |nil=>simp [below]
 |cons d r c=>
  have h:=lH.mp h;have e:below (d::r)=aw d++below r:=rfl;have:=c h.2;have:=(Jr h.1).2;rw [e,gm,fR];omega
def Lx (d:D):1<=gA d:=by rw [Gb];omega
mutual
theorem JX: ∀d:D,(br d).length=num d
 | .am (x::r)=>by simp [br,num,ni r];omega
 | .am []=>by simp [br,num]
 | .a6=>by simp [br,num]
 | .bl _=>by simp [br,num]
 | .int _=>by simp [br,num]
 | .str _=>by simp [br,num]
 | .ai _=>by simp [br,num]
 | .gv _=>by simp [br,num]
 | .dr _ _=>by simp [br,num]
 | .bX _ _=>by simp [br,num]
 | .lV _=>by simp [br,num]
 | .mL _ _=>by simp [br,num]
 | .mM _ _=>by simp [br,num]
 | .obj _ _ _=>by simp [br,num]
 | .mem _ _=>by simp [br,num]
 | .fG _=>by simp [br,num]
theorem ni: ∀ds:List D,(eP ds).length=nums ds
 | []=>rfl
 |d::r=>by simp [eP,nums,JX d,ni r]
end
mutual
theorem VR: ∀d:D,ir d=true->cX (br d)=true
 | .am (x::r),h=>by
  have a:=(Jr h).1;simp only [aw] at a;exact lH.mpr ⟨h,lY r a⟩
 | .am [],h=>rfl
 | .a6,h=>rfl
 | .bl _,h=>rfl
 | .int _,h=>rfl
 | .str _,h=>rfl
 | .ai _,h=>rfl
 | .gv _,h=>by cases h
 | .dr _ _,h=>rfl
 | .bX _ _,h=>rfl
 | .lV _,h=>by cases h
 | .mL _ _,h=>by cases h
 | .mM _ _,h=>by cases h
 | .obj _ _ _,h=>by cases h
 | .mem _ _,h=>by cases h
 | .fG _,h=>by cases h
theorem lY: ∀ds:List D,cX ds=true->cX (eP ds)=true
 | [],_=>rfl
 |d::r,h=>by
  have h:=lH.mp h;refine QM λe he=>?_
  rcases ij.mp (show e∈br d++eP r from he) with he|he
  . exact xj (VR d h.1) he
  . exact xj (lY r h.2) he
end
def dk {a:Type} {xs:List a} {k:Nat}:mf xs (k:Int)=xs[k]?:=by
 unfold mf pR
 by_cases h:k<xs.length
 . rw [if_pos (by omega),if_pos (by omega)];simp
 . rw [if_pos (by omega),if_neg (by omega)];simp;omega
def Gd {x:D} {r:List D}:aW (.am (x::r)) (.int 0)= .ok x:=by
 exact congrArg (λz:Option D=>match z with|some d=>ak.ok d|none=> .aj) (dk (xs:=x::r) (k:=0))
section
variable {env env':Sl} {f U Q f3:T0} {g Y g2:TY} {t t1 t2:TZ} {Z:TX} {i:Nat} {d x y z:D} {b:Bool} {ds:List D}
def jg (a:U env= .ok x) (c:Q env= .ok y) (e:h x y= .ok z):ag U Q h env= .ok z:=by rw [UC,a,xl,c,xl,e]
def jr (h:f env= .ok d):jB i f env= .ok (.nx (env.set i (.ae d))):=by rw [UD,h];rfl
def wg (h:f env= .ok d):eN i f env= .ok (.nx (env.set i (U6 d))):=by rw [SS,h];rfl
def jG (h:f env= .ok d):aJ f env= .ok (.rt true d):=by rw [ZO,h];rfl
def KC (h:f env= .ok d):retS f env= .ok (.rt false d):=by rw [SU,h];rfl
def jj (h:Y env= .ok (.nx env')):ap Y g2 env=g2 env':=by rw [x9,h];rfl
def qK (h:Y env= .ok (.rt a d)):ap Y g2 env= .ok (.rt a d):=by rw [x9,h];rfl
def cz (h:t env= .ok true):cb t Y g2 env=Y env:=by rw [Y1,h];rfl
def bV (h:t env= .ok false):cb t Y g2 env=g2 env:=by rw [Y1,h];rfl
def jc (a:f env= .ok d) (c:Z env= .ok ds):jb f Z env= .ok (d::ds):=by rw [Ju,a,xl,c];rfl
def jX (a:Z env= .ok ds) (c:h ds= .ok d):app Z h env= .ok d:=by rw [Y2,a,xl,c]
def jp (a:Z env= .ok ds) (c:ds.length=n) (e:F ds= .ok d):jm n F Z env= .ok d:=by rw [UE,a,xl,jn c,e]
def zS (a:Z env= .ok ds) (c:ds.length<=aS):bq Z env= .ok (.am ds):=by rw [SV,a,xl,jn c]
def qP (a:Z env= .ok ds) (c:ds.length<=aS):aZ Z env= .ok (.ai ds):=by rw [SW,a,xl,jn c]
def jq (h:f env= .ok (.bl b)):aM f env= .ok b:=by rw [UF,h];rfl
def yN (a:t1 env= .ok b) (c:t2 env= .ok b2):fY t1 t2 env= .ok (b||b2):=by rw [F4,a,xl,c];cases b<;>rfl
def Ge (a:t1 env= .ok b) (c:t2 env= .ok e):mj t1 t2 env= .ok (b&&e):=by rw [Ls,a,xl,c];cases b<;>rfl
def qp (a:t1 env= .ok b):bH t1 env= .ok (!b):=by rw [Vj,a];rfl
def xo (a:fM i env= .ok ds) (c:f env= .ok d) (e:ds.length<aS):zM i f env= .ok (.nx (env.set i (.ay (.ai (ds++[d]))))):=by
 show (fM i env>>=_)=_;rw [a];rw [c];exact jn e
def qG (a:f env= .ok x) (c:e env= .ok lo) (j:l env= .ok m) (n:h x lo m= .ok z):jM f e l h env= .ok z:=by
 rw [SX,a,xl,c,xl,j,xl,n]
def qZ (h:f env= .ok (.int j)):qg f env= .ok (some j):=by rw [SY,h];rfl
def wO (h:a env= .ok ds):cG a c g env=bO (j6 c g) ds env:=by rw [Vl,h];rfl
def qu (h:f env= .ok d) (a:De d= .ok ds):cg f env= .ok ds:=by rw [F6,h,xl,a]
def Ly (h:f env= .ok d) (hd:d.ll=true):wH f env= .ok d:=by
 show (f env>>=_)=_;rw [h];exact jn hd
def Tc (a:f env= .ok (.str c)) (e:Z env= .ok ds) (j:h c ds= .ok d):Dl f Z h env= .ok d:=by
 show (f env>>=_)=_;rw [a];rw [e];exact j
end
def YV {C:Int->Int->Prop} [∀i j,Decidable (C i j)] {g:Int->Int->D} {i j:Int} (h:C i j):iG C g (.int i) (.int j)= .ok (g i j):=if_pos h
def Wn (h:yh i j):dH (.int i) (.int j)= .ok (.int (i^j.toNat)):=YV h
def Lz (h:oZ i j):o2 (.int i) (.int j)= .ok (.int (i*j)):=YV h
def Wt (h:0<j):bj (.int i) (.int j)= .ok (.int (i%j)):=YV h
def LA (h:0<j/\j<1073741824):ng (.int i) (.int j)= .ok (.int (i/j)):=YV h
def yA (h:t d a= .ok env'):j6 t g d a=g env':=by
 show (t d a>>=g)=_;rw [h];rfl
def qN (h:g (qo n ds)= .ok (.rt true d)):aE a n g ds= .ok d:=by rw [xN h];simp [runK]
def ue (h:g (qo n ds)= .ok (.rt false d)):aE false n g ds= .ok d:=by rw [xN h];simp [runK]
def uf (h:fa a= .ok [.int j]) (c: -(2^62)<=j/\j<2^62):n3 fa a= .ok (ZD 0 j.toNat):=by
 show (fa a>>=wZ)=_;rw [h];exact jn c
def xF (c:a.length+b.length<=aS):a4 (.ai a) (.ai b)= .ok (.ai (a++b)):=jn c
def LB:dP (.int a) (.int b)= .ok (.bl (a==b)):=by
 unfold dP;rw [jn (by left;simp [Ll,D.bU])];simp [QB]
theorem QL (I:List D->Sl->Prop)
  (e: ∀d ds a,I (d::ds) a-> ∃c,body d a= .ok (.nx c)/\I ds c): ∀(ds:List D) (a:Sl),I ds a-> ∃c,bO body ds a= .ok (.nx c)/\I [] c
 | [],a,h=>⟨a,rfl,h⟩
 |d::ds,a,h=>by
  obtain ⟨e1,g,i⟩:=e d ds a h;obtain ⟨e2,j,l⟩:=QL I e ds e1 i;exact ⟨e2,by rw [j7 g,j],l⟩
def YU (lo:Int) (n:Nat):(ZD lo n).length=n:=by simp [ZD]
def Gf {c:Type} {xs:List c} {i:Int} (e:0<=i) (g:i<xs.length): ∃x,mf xs i=some x/\x∈xs:=by
 obtain ⟨k,rfl⟩:=Int.eq_ofNat_of_zero_le e;have a:k<xs.length:=by omega
 exact ⟨xs[k],by rw [M.dk];exact cy a,mF a⟩
def Td {z:Str} {i:Int} (a:0<=i) (e:i<z.length): ∃c,aW (.str z) (.int i)= .ok (.str ⟨#[c]⟩):=by
 obtain ⟨c,g,_⟩:=Gf (xs:=z.cps.toList) a (by simpa [Str.length] using e);exact ⟨c,congrArg (λz:Option Nat=>match z with|some d=>ak.ok (D.str ⟨#[d]⟩)|none=> .aj) g⟩
def Gg {ds:List D} {i:Int} (a:0<=i) (e:i<ds.length): ∃d,aW (.ai ds) (.int i)= .ok d/\d∈ds:=by
 obtain ⟨c,g,h⟩:=Gf a e;exact ⟨c,congrArg (λz:Option D=>match z with|some d=>ak.ok d|none=> .aj) g,h⟩
open Builtin.Int (intBits)
theorem Vc: ∀ {ds:List D},(∀d∈ds,gA d<=k)->cO ds<=k
 | [],_=>by simp [cO]
 |d::ds,h=>by
  simp only [cO];have:=h d (by simp);have:=Vc (ds:=ds) λe a=>h e (by simp [a])
  omega
end M
namespace M
open PySem PySem.Spec L2
open PyProof.Rows hiding St
def rc:D->Option aR
 | .int i=>some (.inl i)
 | .str x=>some (.inr x)
 |_=>none
noncomputable def n5 (ks:List aR) (k:aR):Bool:=ks.any λx=>decide (x=k)
def Ym (ks:List aR) (k:aR):List aR:=if n5 ks k=true then ks else ks++[k]
def Yn (ks:List aR) (ds:List D) (k:aR) (d:D):List D:=if n5 ks k=true then (ks.zip ds).map (λp=>if p.1=k then d else p.2) else ds++[d]
section
variable {K:aH} {A:VJ} {H:Hp}
def LC (r:aN K A H y d) (h:rc d=some k):y=kV k:=by
 cases d<;>cases h
 . exact r.f
 . exact r.f.1
def Te (a:List (aR×V)) (k:aR):(a.any λc=>decide (c.1=k))=n5 (a.map (·.1)) k:=by
 unfold n5;rw [BS];rfl
theorem VM (k:aR) (g:aN K A H v d): ∀ {a:List (aR×V)} {ds:List D},ao K A H (a.map (·.2)) ds->ao K A H ((a.map (λc=>if c.1=k then (c.1,v) else c)).map (·.2)) (((a.map (·.1)).zip ds).map (λp=>if p.1=k then d else p.2))
 | [],_,r=>by cases r.gX;exact .nil
 | (i,m)::a,_,r=>by
  obtain ⟨_,_,rfl,j,l⟩:=r.dE;have h:=VM k g l
  by_cases e:i=k
  . simp only [e9,sx,e,if_true];exact .cons g (by simpa [e] using h)
  . simp only [e9,sx,e,if_false];exact .cons j h
def Tf (k:aR) (r:ao K A H (a.map (·.2)) ds) (c:aN K A H v d):
   (putK a k v).map (·.1)=Ym (a.map (·.1)) k/\ao K A H ((putK a k v).map (·.2)) (Yn (a.map (·.1)) ds k d):=by
 unfold putK Ym Yn;rw [Te]
 by_cases h:n5 (a.map (·.1)) k=true
 . rw [if_pos h,if_pos h,if_pos h];refine ⟨?_,VM k c r⟩;rw [ka];apply AG;intro p _;simp
   split<;>rfl
 . rw [if_neg h,if_neg h,if_neg h];refine ⟨by simp,?_⟩;rw [mP];exact r.append (.cons c .nil)
def aN.Gh (r:aN K A H v (.dr ks ds)): ∃a e,v= .ref a/\H a=some (.dK e)/\A a/\e.map (·.1)=ks/\ao K (λc=>A c/\c≠a) H (e.map (·.2)) ds:=r.f
end
def Tg {K:aH} {i:Nat} (k:aD K G p g h H) (j:g[i]?=some (.ay (.dr ks ds))): ∃a c,h[i]?=some (some (.ref a))/\H a=some (.dK c)/\c.map (·.1)=ks/\ao K (Sf G g h) H (c.map (·.2)) ds:=by
 obtain ⟨a,l,q,m⟩:=k.ay i _ j
 cases m with
 |dr e n o r=>subst o;exact ⟨a,_,l,e,n,r⟩
noncomputable def yy (i:Nat) (a:Sl):ak (List aR×List D):=match a[i]? with
 |some (.ay (.dr ks ds))=> .ok (ks,ds)
 |_=> .aj
def Th (h:yy i a= .ok p):a[i]?=some (.ay (.dr p.1 p.2)):=by
 unfold yy at h
 split at h
 . cases h;assumption
 . cases h
def aD.putD {K:aH} (k:aD K G h env g H) (j:env[i]?=some (.ay (.dr ks ds))) (l:g[i]?=some (some (.ref a))) (m:H a=some (.dK c)) (n:c.map (·.1)=ks)
  (r:ao K (Sf G env g) H (c.map (·.2)) ds) (o:aN K (Sf G env g) H v d):aD K G h (env.set i (.ay (.dr (Ym ks kk) (Yn ks ds kk d)))) g (aU H a (.dK (putK c kk v)))/\cx env g H (env.set i (.ay (.dr (Ym ks kk) (Yn ks ds kk d)))) g (aU H a (.dK (putK c kk v))):=by
 subst n;obtain ⟨p,q⟩:=Tf kk r o;exact k.ml j l m trivial λu x st e w=> .dr e p rfl (q.bL st w)
section
variable {X:Cx} {K:aH} {O l2:Lv} {e1 e2:Expr} {U fv:T0} {Y j5 Z p:Pos} {x:Str}
def BU (i:Nat) (U fv:T0):Sl->ak bg:=λa=>yy i a>>=λq=>fv a>>=λd=>U a>>=λc=>match rc c with
 |some k=>a5 (q.1.length<aS) (.ok (.nx (a.set i (.ay (.dr (Ym q.1 k) (Yn q.1 q.2 k d))))))
 |none=> .aj
def Ti (i:Nat) (N:X.A.units+1<cLine) (Q:DE X O e1 U) (hv:DE X .s e2 fv) (hN:X.N[i]?=some x:=by rfl) (r:gs X.env.scope x:=by exact gu rfl)
   (hd:Yi x:=by decide) (u:Yh x:=by decide)
   (hs:mH e2 (some (.Subscript (.Name x p) e1 Z)) Y.line X.env=pure false:=by rfl):
   DS X (.Assign [.Subscript (.Name x p) e1 Z] e2 Y) (BU i U fv):=by
 nomatch (
  PS.imp (uv N (xM hN r hd u) Q hv hs) λE σ H=>by
   rintro ⟨G,z,e,o,k,g,q⟩;obtain ⟨ks,c1,g⟩:=jd g;obtain ⟨d,c2,g⟩:=jd g;obtain ⟨B,c3,n⟩:=jd g;have I:=Th c1;obtain ⟨a,w,J,hx,h,rs⟩:=Tg k I
   cases c:rc B with
   |none=>rw [c] at n;cases n
   |some kk=>
    rw [c] at n;obtain ⟨L,c5⟩:=ju n;cases c5;refine ⟨G,z,e,d,k,c2,λv H1 j r1 _=>⟨.ref a,J,G,z,e,B,k.av j,c3,λy H2 l r2 _=>?_⟩⟩;have m:=l _ _ (j _ _ hx);have hy:=LC (r2.aO Lv.bu) c;subst hy;have hl:w.length<aS:=by rw [<-h,bM] at L;exact L
    refine ⟨a,_,rfl,m4.k m hl,?_⟩;have W:=((k.av j).av l).putD (kk:=kk) I J m h ((rs.av j).av l) (r1.av l)
    exact q σ _ W.1 ((W.2.av l).av j))
noncomputable def kD:aR->D
 | .inl i=> .int i
 | .inr x=> .str x
theorem LD: ∀ {ks:List (aR×Value)} {a:List Value},a.length=ks.length->(∀(j:Nat) (v:Value),a[j]?=some v-> ∃k x,ks[j]?=some (k,x)/\(jR P w).is k v=true)->aK (ks.map λq=>kV q.1) a
 | [],[],_,_=> .nil
 | [],_::_,h,_=>by simp at h
 |_::_,[],h,_=>by simp at h
 | (k,x)::ks,v::a,h,c=>by
  obtain ⟨m,n,e,g⟩:=c 0 v rfl;simp at e;obtain ⟨rfl,rfl⟩:=e;refine .cons ?_ (LD (by simpa using h) λj u l=>c (j+1) u (by simpa using l))
  cases k with
  |inl i=>
   obtain ⟨t,rfl⟩:=Em g;exact ⟨t,rfl⟩
  |inr z=>
   obtain ⟨t,rfl⟩:=Value.isStrOf_shape g;exact ⟨t,rfl⟩
def vi (N:X.cR=true):bt X (.type "list") (λy H Q=> ∃a c,y=[.ref a]/\H a=some (.dK c)/\ ∀l,H l=none->Q (.ref l) (aU H l (.ai (c.map λq=>kV q.1)))):=by
 intro z s σ H y us Q I r h;obtain ⟨a,c,rfl,ha,q⟩:=h;obtain ⟨u,rfl,rx⟩:=xO r;cases rx;obtain ⟨B,hd,E,m,dd⟩:=IM I.be ha;have o:E.length<=aS:=by rw [<-m.length];exact B
 obtain ⟨ep,w⟩:=dd.dictAt;refine PySem.W.kdl_call (PySem.W.kdl_dict hd) (I.ok.hd N) w o λh' tk n c' hk hS g=>?_
 have J:=LD (by rw [jE];exact g.1) λj v e=>g.2 j v (by rw [<-oj];exact e)
 have i:(E.map λq=>kV q.1)=(c.map λq=>kV q.1):=by
  have:=m.keys;have L:=congrArg (List.map kV) this;simp at L;exact L.symm
 rw [i] at J;refine ⟨.ref s.heap.objs.size,_,I.laid hk (bn _) (show bi X.prog X.w _ h' _ (.ai (c.map λq=>kV q.1)) from ⟨by rw [bM];exact B,n.toList,c',J,by rw [Array.toArray_toList];exact hS⟩),rfl,q _ (I.be.fresh (bn _))⟩
def Do:List D->ak D
 | [.dr ks _]=>a5 ((ks.all λk=>match k with| .inl _=>true| .inr _=>false)=true) (.ok (.ai (ks.map kD)))
 |_=> .aj
def Tj:QD K (λu H Q=> ∃a c,u=[.ref a]/\H a=some (.dK c)/\ ∀l,H l=none->Q (.ref l) (aU H l (.ai (c.map λq=>kV q.1)))) Do:=by
 intro A u H ds d Q r e q;unfold Do at e
 split at e
 . rename_i ks E;obtain ⟨g,e2⟩:=ju e;cases e2;obtain ⟨v,rfl,w⟩:=r.one;obtain ⟨p,c,rfl,y,_,rfl,_⟩:=w.Gh;refine ⟨p,c,rfl,y,λl n=>q _ _ (aq.aU n) (.ai jy (.inl n) ?_) (qr (aq.refl H) n)⟩
   have o: ∀(c:List (aR×V)),((c.map (·.1)).all λk=>match k with| .inl _=>true| .inr _=>false)=true-> ∀(j:VJ) (m:Hp),ao K j m (c.map λq=>kV q.1) ((c.map (·.1)).map kD):=by
    intro c
    induction c with
    |nil=>intro _ j m;exact .nil
    |cons q r B=>
     intro h j m;simp only [e9,ti,gF] at h;obtain ⟨k,v⟩:=q
     cases k with
     |inl i=>exact .cons (.int i) (B h.2 j m)
     |inr z=>cases h.1
   exact o c g _ _
 . cases e
end
section
variable {X:Cx} {tg a b c:Expr} {ta:TA} {p pos:Pos}
def ao.three {K:aH} (r:ao K A H l [d,m,g]): ∃v i e,l=[v,i,e]/\aN K A H v d/\aN K A H i m/\aN K A H e g:=by
 cases r with
 |cons h t=>
  obtain ⟨i,e,rfl,n,j⟩:=t.ag;exact ⟨_,_,_,rfl,h,n,j⟩
def YG:Sl->ak bg:=λ_=> .aj
def Y6:m6 X e YG:=by
 nomatch (gS.imp uo λE i H=>by rintro ⟨G,j,g,o,k,h,q⟩;cases h)
end
end M
namespace M
open PySem PySem.W PyProof.Rows
def Wk {c:Type} (lt:Nat->Nat->Bool) (n:Nat) (R:c->Prop):KasT c->Prop
 | .ret a=>R a
 | .ask i j k=>i<n/\j<n/\Wk lt n R (k (lt i j))
theorem Wk.bind {c e:Type} {R:c->Prop} {g:e->Prop} {f:c->KasT e} (l: ∀a,R a->Wk lt n g (f a)): ∀ {t:KasT c},Wk lt n R t->Wk lt n g (t.bind f)
 | .ret a,h=>l a h
 | .ask i j k,h=>⟨h.1,h.2.1,Wk.bind l h.2.2⟩
theorem Wk.imp {c:Type} {R e:c->Prop} (hr: ∀a,R a->e a): ∀ {t:KasT c},Wk lt n R t->Wk lt n e t
 | .ret a,h=>hr a h
 | .ask i j k,h=>⟨h.1,h.2.1,Wk.imp hr h.2.2⟩
theorem LF {e:Type} {R:e->Prop} {Q:e->aL->Prop} {P:aL->Prop}
  (o: ∀i j C s,i<n->j<n->P s->(∀c,P c->C (lt i j) c)->g i j C s) (p: ∀a s,R a->P s->Q a s): ∀(t:KasT e) (s:aL),Wk lt n R t->P s->t.kasWp g Q s
 | .ret a,s,h,l=>p a s h l
 | .ask i j k,s,h,l=>o i j _ s h.1 h.2.1 l λc m=>LF o p _ c h.2.2 m
structure Ord (lt:Nat->Nat->Bool) (n:Nat):Prop where
 Gi: ∀i j,lt i j=true->lt j i=false
 trans: ∀i j k,i<n->j<n->k<n->lt i j=true->lt j k=true->lt i k=true
 total: ∀i j,i<n->j<n->i≠j->lt i j=true\/lt j i=true
abbrev eA (p:Array Nat) (i:Nat):Nat:=p.getD i 0
structure Pm (p:Array Nat) (n:Nat):Prop where
 size:p.size=n
 perm:p.toList.Perm (fF n)
def y7 (h:i<p.size):p[i]?=some (eA p i):=by
 rw [mG h];simp [eA,AH,h]
def Pm.lt (h:Pm p n) (c:i<n):eA p i<n:=by
 have a:i<p.size:=by rw [h.size];exact c
 have:eA p i∈p.toList:=by simp [eA,AH,a]
 exact iU.mp (h.perm.mem_iff.mp this)
def Pm.ne (h:Pm p n) (l:i<n) (m:j<n) (g:i≠j):eA p i≠eA p j:=by
 have nd:=h.perm.nodup_iff.mpr Dp;have a:i<p.toList.length:=by simp [h.size,l]
 have c:j<p.toList.length:=by simp [h.size,m]
 intro e;have e1:eA p i=p.toList[i]:=by simp [eA,AH,h.size,l]
 have e2:eA p j=p.toList[j]:=by simp [eA,AH,h.size,m]
 rw [e1,e2] at e;have o:=BV.mp nd;rcases Nat.lt_or_gt_of_ne g with z|z
 . exact o i j a c z e
 . exact o j i c a z e.symm
def Pm.of (h:Pm p n) (a:q.size=p.size) (c:q.Perm p):Pm q n:=⟨by rw [a,h.size],(Array.perm_iff_toList_perm.mp c).trans h.perm⟩
def Pm.rev (h:Pm p n) (i j:Nat):Pm (kas_rev p i j) n:=h.of (mirror_size _ _ _ _) (mirror_perm _ _ _ _)
def LG (h:Pm p n) (g:j<=n) (c:k<n):eA (kas_rev p 0 j) k=if k<j then eA p (j-1-k) else eA p k:=by
 have hR:=h.rev 0 j;have e:=getElem?_mirror_all (i:=0) (by rw [h.size];exact g) k;have e1:=y7 (by rw [hR.size];exact c);unfold kas_rev at e1;rw [e] at e1;simp only [li,true_and,yB] at e1
 split at e1
 . rename_i a;rw [if_pos a];rw [y7 (by rw [h.size];omega)] at e1;exact (gG e1).symm
 . rename_i a;rw [if_neg a];rw [y7 (by rw [h.size];exact c)] at e1;exact (gG e1).symm
section
variable {lt:Nat->Nat->Bool} {n:Nat} (O:Ord lt n)
def Up (lt:Nat->Nat->Bool) (p:Array Nat) (k:Nat):Prop:= ∀i j,i<j->j<k->lt (eA p i) (eA p j)=true
def Down (lt:Nat->Nat->Bool) (p:Array Nat) (k:Nat):Prop:= ∀i j,i<j->j<k->lt (eA p j) (eA p i)=true
include O
theorem Up.snoc (a:Pm p n) (g:k+1<n) (h:Up lt p (k+1)) (hl:lt (eA p k) (eA p (k+1))=true):Up lt p (k+2):=λi j c l=>by
 by_cases e:j=k+1
 . subst e
   by_cases e2:i=k
   . subst e2;exact hl
   . exact O.trans _ _ _ (a.lt (by omega)) (a.lt (by omega)) (a.lt g) (h i k (by omega) (by omega)) hl
 . exact h i j c (by omega)
theorem Down.snoc (a:Pm p n) (g:k+1<n) (h:Down lt p (k+1)) (hl:lt (eA p (k+1)) (eA p k)=true):Down lt p (k+2):=λi j c l=>by
 by_cases e:j=k+1
 . subst e
   by_cases e2:i=k
   . subst e2;exact hl
   . exact O.trans _ _ _ (a.lt g) (a.lt (by omega)) (a.lt (by omega)) hl (h i k (by omega) (by omega))
 . exact h i j c (by omega)
theorem Gj (a:Pm p n) (e:i<n) (g:j<n) (c:i≠j) (h:lt (eA p i) (eA p j)=false):lt (eA p j) (eA p i)=true:=by
 rcases O.total _ _ (a.lt e) (a.lt g) (a.ne e g c) with z|z
 . rw [h] at z;cases z
 . exact z
theorem Gk {p:Array Nat} (g:Pm p n): ∀(f m:Nat),1<=m->m+f=n->Up lt p m->Wk lt n (λr=>m<=r/\r<=n/\Up lt p r/\(r<n->lt (eA p r) (eA p (r-1))=true)) (kas_asc p f m)
 |0,m,l,o,h=>⟨bn _,by omega,h,λz=>by omega⟩
 |f+1,m,l,o,h=>by
  refine ⟨g.lt (by omega),g.lt (by omega),?_⟩
  cases j:lt (p.getD m 0) (p.getD (m-1) 0) with
  |true=>
   exact ⟨bn _,by omega,h,λ_=>j⟩
  |false=>
   have i:Up lt p (m+1):=by
    have e:m=(m-1)+1:=by omega
    have q:=Gj O g (by omega) (by omega) (by omega) j;rw [e] at h ⊢;exact Up.snoc O g (by omega) h (by rw [<-e];exact q)
   have u:=Gk g f (m+1) (by omega) (by omega) i;exact Wk.imp (λr ⟨a,b,c,d⟩=>⟨by omega,b,c,d⟩) u
theorem LH {p:Array Nat} (g:Pm p n): ∀(f m:Nat),1<=m->m+f=n->Down lt p m->Wk lt n (λr=>r.1=p/\m<=r.2.1/\r.2.1<=n/\Down lt p r.2.1/\r.2.2=0) (kas_desc f p m 0)
 |0,m,o,q,h=>⟨rfl,bn _,(show m<=n by omega),h,rfl⟩
 |f+1,m,o,q,h=>by
  refine ⟨g.lt (by omega),g.lt (by omega),?_⟩
  cases l:lt (p.getD m 0) (p.getD (m-1) 0) with
  |true=>
   have i:Down lt p (m+1):=by
    have e:m=(m-1)+1:=by omega
    have j:=l;rw [e] at h ⊢;exact Down.snoc O g (by omega) h (by rw [<-e];exact j)
   have u:=LH g f (m+1) (by omega) (by omega) i;exact Wk.imp (λr ⟨a,b,c,d,e⟩=>⟨a,by omega,c,d,e⟩) u
  |false=>
   have j:=Gj O g (by omega) (by omega) (by omega) l;refine ⟨g.lt (by omega),g.lt (by omega),?_⟩;show Wk lt n _ (if lt (eA p (m-1)) (eA p m)=true then _ else _);rw [if_pos j];exact ⟨rfl,bn _,(show m<=n by omega),h,rfl⟩
theorem Down.rev (a:Pm p n) (c:k<=n) (h:Down lt p k):Up lt (kas_rev p 0 k) k:=λi j e g=>by
 rw [LG a c (by omega),LG a c (by omega),if_pos (by omega),if_pos g];exact h _ _ (by omega) (by omega)
theorem Tl {k:Nat} (e:Pm p n) (g:1<=k) (i:k<=n) (h:Down lt p k):Wk lt n (λr=>1<=r.1/\r.1<=n/\Pm r.2 n/\Up lt r.2 r.1) (kas_tail3 k n p):=by
 unfold kas_tail3;refine Wk.bind (λr ⟨a,b,c,_⟩=>?_) (Gk O (e.rev 0 k) (n-k) k g (by omega) (Down.rev O e i h));exact ⟨by omega,b,e.rev 0 k,c⟩
theorem To {p:Array Nat} (g:Pm p n) (x:1<=n):Wk lt n (λr=>1<=r.1/\r.1<=n/\Pm r.2 n/\Up lt r.2 r.1) (kas_count n p):=by
 unfold kas_count;refine Wk.bind (λr ⟨a,b,c,d⟩=>?_) (Gk O g (n-1) 1 (bn _) (by omega) (λi j h m=>by omega))
 by_cases e:r=n
 . subst e;rw [if_pos (by simp)];exact ⟨a,b,g,c⟩
 . rw [if_neg (by simpa using e)]
   by_cases l:r>1
   . rw [if_pos l];refine ⟨g.lt (by omega),g.lt (by omega),?_⟩;have:lt (p.getD 0 0) (p.getD (r-1) 0)=true:=c 0 (r-1) (by omega) (by omega);show Wk lt n _ (if lt (p.getD 0 0) (p.getD (r-1) 0)=true then _ else _);rw [if_pos this];exact ⟨a,b,g,c⟩
   . rw [if_neg l];have o:r=1:=by omega
     subst o;unfold kas_descPart
     have hd:Down lt p 2:=λi j h m=>by
      have:i=0/\j=1:=by omega
      obtain ⟨rfl,rfl⟩:=this;exact d (by omega)
     refine Wk.bind (λq ⟨u,y,v,w,z⟩=>?_) (LH O g (n-2) 2 (by omega) (by omega) hd);rw [if_neg (by omega),u];exact Tl O g (by omega) v w
theorem KJ (c:Pm p n) (g:k<n) (j:Up lt p k): ∀(f l r:Nat),l<=r->r<=k->r-l<=f->(∀i,i<l->lt (eA p i) (eA p k)=true)->(∀i,r<=i->i<k->lt (eA p k) (eA p i)=true)->
  Wk lt n (λm=>m<=k/\(∀i,i<m->lt (eA p i) (eA p k)=true)/\ ∀i,m<=i->i<k->lt (eA p k) (eA p i)=true) (kas_place p k f l r)
 |0,l,r,w,v,x,o,q=>⟨by omega,o,λi a b=>q i (by omega) b⟩
 |f+1,l,r,w,v,x,o,q=>by
  unfold kas_place
  by_cases e:l>=r
  . rw [if_pos e];exact ⟨by omega,o,λi a b=>q i (by omega) b⟩
  . rw [if_neg e];have y:(l+r)/2<r:=by omega
    refine ⟨c.lt g,c.lt (by omega),?_⟩
    cases u:lt (p.getD k 0) (p.getD ((l+r)/2) 0) with
    |true=>
     refine KJ c g j f l ((l+r)/2) (by omega) (by omega) (by omega) o λi a b=>?_
     by_cases e2:i=(l+r)/2
     . rw [e2];exact u
     . exact O.trans _ _ _ (c.lt g) (c.lt (show (l+r)/2<n by omega)) (c.lt (by omega)) u (j _ _ (by omega) b)
    |false=>
     have h:=Gj O c g (by omega) (by omega) u;refine KJ c g j f ((l+r)/2+1) r (by omega) v (by omega) (λi a=>?_) q
     by_cases e2:i=(l+r)/2
     . rw [e2];exact h
     . exact O.trans _ _ _ (c.lt (by omega)) (c.lt (show (l+r)/2<n by omega)) (c.lt g) (j _ _ (by omega) (by omega)) h
theorem WK (a:Pm p n) (h:k<n) (o:l<=k) (j:i<n):eA (bubble p k (k-l)) i=if i=l then eA p k else if l<i/\i<=k then eA p (i-1) else eA p i:=by
 have m:Pm (bubble p k (k-l)) n:=a.of (bubble_size _ _ _) (bubble_perm _ _ _);have e:=getElem?_bubble (by rw [a.size];exact h) (k-l) (by omega) i;rw [y7 (by rw [m.size];exact j)] at e;have c:k-(k-l)=l:=by omega
 rw [c] at e
 split at e
 . rename_i z;rw [if_pos z];rw [y7 (by rw [a.size];exact h)] at e;exact gG e
 . rename_i z;rw [if_neg z]
   split at e
   . rename_i g;rw [if_pos g];rw [y7 (by rw [a.size];omega)] at e;exact gG e
   . rename_i g;rw [if_neg g];rw [y7 (by rw [a.size];exact j)] at e;exact gG e
theorem LI: ∀(f:Nat) (p:Array Nat) (k:Nat),Pm p n->k+f=n->Up lt p k->Wk lt n (λq=>Pm q n/\Up lt q n) (kas_bin f p k)
 |0,p,k,e,r,h=>⟨e,by
  have:k=n:=by omega
  rw [this] at h;exact h⟩
 |f+1,p,k,e,r,h=>by
  unfold kas_bin;refine Wk.bind (λl ⟨a,b,c⟩=>?_) (KJ O e (by omega) h k 0 k (by omega) (bn _) (by omega) (λi z=>by omega) (λi z w=>by omega));refine LI f _ (k+1) (e.of (bubble_size _ _ _) (bubble_perm _ _ _)) (by omega) λi j g u=>?_
  rw [WK O e (by omega) a (by omega),WK O e (by omega) a (by omega)]
  by_cases e1:i=l
  . rw [if_pos e1,if_neg (by omega),if_pos (by omega)];exact c _ (by omega) (by omega)
  . rw [if_neg e1]
    by_cases e2:l<i/\i<=k
    . rw [if_pos e2,if_neg (by omega),if_pos (by omega)];exact h _ _ (by omega) (by omega)
    . rw [if_neg e2]
      by_cases m:j=l
      . rw [if_pos m];exact b _ (by omega)
      . rw [if_neg m]
        by_cases o:l<j/\j<=k
        . rw [if_pos o]
          by_cases v:i=j-1
          . omega
          . exact h _ _ (by omega) (by omega)
        . rw [if_neg o];exact h _ _ g (by omega)
theorem Tp (h:1<=n):Wk lt n (λq=>Pm q n/\Up lt q n) (kas_sort n):=by
 have i:Pm (yC (fF n)) n:=⟨by simp,by simp⟩
 unfold kas_sort;refine Wk.bind (λr g=>?_) (To O i h);obtain ⟨a,b,c,d⟩:=g
 by_cases e:r.1<n
 . rw [if_pos e];have:max r.1 1=r.1:=by omega
   rw [this];exact LI O _ _ _ c (by omega) d
 . rw [if_neg e];have:r.1=n:=by omega
   rw [this] at d;exact ⟨c,d⟩
end
section
variable {prog:cp} {w:World} {A:cC} {E:U9} {s:aL} {a:Addr} {U:List Value} {n:Nat}
def wf (h:Heap) (a:Addr) (U:List Value):Heap:=((h.update a (pS λ_=>(#[]:Array Value))).push (lZ "tuple" U.toArray 0)).push (lZ "list" #[] 0)
def KO (U:List Value) (p:Array Nat):List Value:=p.toList.map λi=>U.getD i om
def JN (c:b≠a) (e:h.get? b=some o):(wf h a U).get? b=some o:=
 cT _ (cT _ ((Bm _ _ (lu c)).trans e))
def Xs (O:Ord lt U.length) (m:SortKind) (q:s.heap.get? a=some (lZ "list" U.toArray n)) (h2:2<=U.length) (r:U.length<64)
  (hk: ∀Q:SortKind->aL->Prop,Q m {s with heap:=wf s.heap a U}->wpAny (model prog w) A (keyKind' U.toArray) Q (λ_ _=>False) {s with heap:=wf s.heap a U})
  (hc: ∀i j C,i<U.length->j<U.length->C (lt i j) {s with heap:=wf s.heap a U}->kas_ask prog w A m U i j C {s with heap:=wf s.heap a U})
  (h: ∀p u c,Pm p U.length->Up lt p U.length->(∀b o,b≠a->s.heap.get? b=some o->u.get? b=some o)->u.get? a=some (lZ "list" (yC (KO U p)) c)->P (.done (.ret .none)) {s with heap:=u}):
  wpAny (model prog w) A (mS.«list.sort» ⟨[.ref a],[]⟩) P E s:=by
 obtain ⟨v,b1⟩: ∃v,(s.heap.update a (pS λ_=>(#[]:Array Value))).get? a=some (lZ "list" #[] v):=⟨_,Dq q λ_=> #[]⟩
 have x:(wf s.heap a U).get? a=some (lZ "list" #[] v):=cT _ (cT _ b1);have big:U.length<=aS:=by rw [mY];omega
 have walk:(kas_sort U.length).kasWp (kas_ask prog w A m U) (λp t=>t={s with heap:=wf s.heap a U}/\Pm p U.length/\Up lt p U.length) {s with heap:=wf s.heap a U}:=
  LF (P:=λt=>t={s with heap:=wf s.heap a U}) (λi j C t hi hj y hC=>by subst y;exact hc i j C hi hj (hC _ rfl)) (λp t B y=>⟨y,B⟩) _ _ (Tp O (by omega)) rfl
 rw [list_sort_plain];refine ax (listItems_at q rfl (ax (listUpdate_at q rfl (ax (seqEpoch_at b1 rfl (ax (wpAny_newTuple (ax (wpAny_newList (mI ?_) (li _))) (by show U.length<=aS;exact big))))) (by rw [dj];exact big) (li _))));dsimp only;have g: ¬U.toArray.size<2:=by rw [dj];omega
 rw [if_neg g,if_neg g];refine ax (nQ (hk (λl t=>l=m/\t={s with heap:=wf s.heap a U}) ⟨rfl,rfl⟩) (λl t H=>?_) λ_ _ z=>z.elim);obtain ⟨rfl,rfl⟩:=H;refine ax (nQ (kat_run (Q:=λst t=> ∃p:Array Nat,p.size=U.length/\arrOf st=p.map (kas_item (U.toArray.zip U.toArray))/\failedOf st=none/\t={s with heap:=wf s.heap a U}/\Pm p U.length/\Up lt p U.length) rfl h2 r (λp st t z1 z2 z3 z4=>⟨p,z1,z2,z3,z4⟩) walk) ?_ λ_ _ z=>z);rintro ⟨⟨⟩,st⟩ t ⟨p,B,I,hf,rfl,J,L⟩;dsimp only;have N:(yC (KO U p)).size<=aS:=by rw [dj];unfold KO;rw [bM,jE,B];exact big
 rw [kat_snds rfl I];obtain ⟨Y,Z⟩: ∃Y,((wf s.heap a U).update a (pS λ_=>yC (KO U p))).get? a=some (lZ "list" (yC (KO U p)) Y):=⟨_,Dq x λ_=>yC (KO U p)⟩
 refine ax (seqEpoch_at x rfl (ax (listUpdate_at x rfl ?_ (li _) (Nat.le_succ_of_le N))));rw [hf];simp;exact aV (h p _ Y J L (λb o hb e=>(Bm _ _ (lu hb)).trans (JN hb e)) Z)
end
def oz (h:Heap) (d:Addr) (ks:List Value) (c:Nat):Prop:= ∃o a,h.get? d=some o/\o.ExactDict/\o.data= .dict a c/\a.toList.map (·.key)=ks
section
variable {prog:cp} {w:World} {A:cC} {E:U9} {s:aL} {d Y:Addr} {ks:List Value} {Z i:Nat}
def oz.typeIs (x:oz s.heap d ks Z):s.TypeIs (.ref d) "dict" :=let ⟨o,e,a,c,_⟩:=x;⟨o,a,c.1⟩
def oz.at (x:oz h d ks Z) (e: ∀o,h.get? d=some o->a.get? d=some o):oz a d ks Z:=let ⟨o,c,g,r⟩:=x;⟨o,c,e _ g,r⟩
def oz.lt (x:oz h d ks Z):d<h.objs.size:=let ⟨_,_,a,_⟩:=x;c8 a
def Tq (hd:(d==nG)=false) (g:oz s.heap d ks Z)
  (j:Q (.ref s.heap.objs.size) {s with heap:=s.heap.push {cls:= .type "dict_keyiterator",data:= .fields #[.ref d,.int 0 0,.int ks.length 0,.int Z 0]}}):wpAny (model prog w) A (pyIter (.ref d)) Q E s:=by
 obtain ⟨o,l,h,m,a,c⟩:=id g;have T:=g.typeIs;have e:l.size=ks.length:=by rw [<-c];simp
 refine wpAny_pyIter_slot T PySem.F.slot_dict_iter (so PySem.F.slot_dict_iter T PySem.F.entry_dict_iter ?_ (PySem.F.args_dict_iter_1 _));unfold mS.«dict.__iter__» Builtin.Dict.dictSlotNone;refine ax (ax (wpAny_notOrdered_dict T (show wpAny _ _ (pure (dN d)) _ _ s from aV ?_)));show wpAny _ _ (LJ d>>=_) _ _ s;unfold LJ;rw [if_neg (by rw [hd];exact ik)];refine ax (aV (ax (Dr h a (ax (wpAny_dictEpoch h a (ax (pL (aV ⟨_,rfl, "dict_keyiterator",_,⟨_,fS _ rfl,rfl⟩,BW.lookup,?_⟩))))))));simpa [rawInt,e] using j
def Ts (a:s.heap.IsKeyIter Y d i ks.length Z) (r:oz s.heap d ks Z) (p:ks[i]?=some k)
  (u: ∀q,q.IsKeyIter Y d (i+1) ks.length Z->rJ Y s.heap q->Q (some k) {s with heap:=q}):wpAny (model prog w) A (pyNext (.ref Y)) Q E s:=by
 obtain ⟨o,m,v,g⟩:=id a;obtain ⟨B,n,h,x,j,c⟩:=id r;have l:n.size=ks.length:=by rw [<-c];simp
 have cL:i<n.size:=by
  rw [l];rcases Nat.lt_or_ge i ks.length with z|z
  . exact z
  . rw [nP z] at p;cases p
 have y:n[i].key=k:=by
  have:(n.toList.map (·.key))[i]?=some k:=by rw [c];exact p
  rw [iE] at this;simpa [cL] using this
 unfold pyNext;refine ax (wpAny_attempt (vt a.typeIs BW (so BW a.typeIs LK ?_ (LL _))));refine ax (aV (ax (ax ?_)))
 first|refine ax (Ds a.typeIs (aV (ax (Dt m g ?_))))|refine ax (Du a.typeIs (aV (ax (Dt m g ?_))))
 simp only [show LM "dict_keyiterator" =false by decide,mT,if_false];show wpAny _ _ (if (dN d==om)=true then _ else _) _ _ s;rw [if_neg (show¬((dN d==om)=true) by exact ik)];refine ax (aV (ax (Dr h j ?_)));rw [if_neg (by rw [l];simp)];refine ax (aV (ax (wpAny_dictEpoch h j ?_)));rw [if_neg (by simp)];refine aV ?_;simp only [show¬((i:Int)<0) by omega,if_false,sU,mG cL];refine ax ?_
 first|refine ax (Ds a.typeIs (aV (ax (Go a.typeIs ?_))))|refine ax (Du a.typeIs (aV (ax (Go a.typeIs ?_))))
 show wpAny _ _ (setField (.ref Y) 1 (rawInt ((i:Int)+1))>>=_) _ _ s;refine ax (Dv m g (by simp) (ax (mI ?_)))
 have e:(s.heap.update Y (Obj.mapFields (·.setIfInBounds 1 (rawInt ((i:Int)+1))))).IsKeyIter Y d (i+1) ks.length Z:=
  ⟨_,C1 _ m (Obj.isFreed_of_fields (Dw g _)),(Obj.cls_mapFields ..).trans v,by rw [Dw g];simp [rawInt]⟩
 refine ax (Go e.typeIs ?_);rw [y];exact aV (aV ⟨_,rfl,aV (u _ e (AI ..))⟩)
def Tt (p:A.handled=none) (a:s.heap.IsKeyIter Y d ks.length ks.length Z) (q:oz s.heap d ks Z)
  (r: ∀m,Heap.ExtBut Y s.heap m->Q none {s with heap:=m}):wpAny (model prog w) A (pyNext (.ref Y)) Q E s:=by
 obtain ⟨o,h,v,j⟩:=id a;obtain ⟨x,n,e,u,g,c⟩:=id q;have l:n.size=ks.length:=by rw [<-c];simp
 unfold pyNext;refine ax (wpAny_attempt (vt a.typeIs BW (so BW a.typeIs LK ?_ (LL _))));refine ax (aV (ax (ax ?_)))
 first|refine ax (Ds a.typeIs (aV (ax (Dt h j ?_))))|refine ax (Du a.typeIs (aV (ax (Dt h j ?_))))
 simp only [show LM "dict_keyiterator" =false by decide,mT,if_false];show wpAny _ _ (if (dN d==om)=true then _ else _) _ _ s;rw [if_neg (show¬((dN d==om)=true) by exact ik)];refine ax (aV (ax (Dr e g ?_)));rw [if_neg (by rw [l];simp)];refine ax (aV (ax (wpAny_dictEpoch e g ?_)));rw [if_neg (by simp)];refine aV ?_;simp only [show¬(((ks.length:Nat):Int)<0) by omega,if_false,sU,Array.getElem?_eq_none (show n.size<=ks.length by omega)];refine ax ?_
 first|refine ax (Ds a.typeIs (aV ?_))|refine ax (Du a.typeIs (aV ?_))
 show wpAny _ _ (setField (.ref Y) 0 .none>>=_) _ _ s;refine ax (Dv h j (by simp) ?_);refine ax ?_;simp only [newExc,newTuple];refine ax (pL (ax (wpAny_of_eq (by first|rfl| (simp;rfl)) (pL ?_ (by size_fits)))) (by size_fits));simp only [raiseNew];refine ax (wpAny_handled ?_);rw [show A.in1.handled=none from p];refine ax (aV (wpAny_throw ?_));refine ax (CI ⟨_,fS _ rfl,rfl⟩ isSubtype_stop ?_);exact aV (r _ (((AI ..).extBut.push _).push _))
def LN (lo:(d==nG)=false):KdlSrc prog w "dict" d d ks.length (λi v=>ks[i]?=some v) (λh=>oz h d ks Z) where
 type:=λ_ a=>a.typeIs
 there:=λ_ a=>⟨a.lt,a.lt⟩
 keep:=λ_ _ a m=>a.at λo e=>m d (.inl rfl) o e
 notList:=by decide
 notTuple:=by decide
 hint:=λ_ _ _ _ a n=>kdl_hint_dict a.typeIs n
 iter:=λA s x a=>⟨_,(λi h=>h.IsKeyIter s.heap.objs.size d i ks.length Z/\oz h d ks Z),(λ_ _ n=>Tq lo a n),{
  sub:=λb c=>by simp at c;simp [c]
  frame:=λ_ _ _ st m=>⟨let ⟨o,y,r⟩:=st.1;⟨o,m _ (by simp) o y,r⟩,st.2.at λo e=>m d (by simp) o e⟩
  item:=λi t Q E B st g=>by
   have u:ks[i]?=some ks[i]:=by simp [B]
   exact Ts st.1 st.2 u λp j l=>g _ p t.toks u ⟨j,st.2.at λo e=>l.extBut d o (eB a.lt) e⟩ λb o c e=>l.extBut b o (λz=>c (by simp [z])) e
  done:=λt Q E st g=>Tt x st.1 st.2 λp q=>g p t.toks λb o c e=>q b o (λz=>c (by simp [z])) e
  self:=λ_ _ _ _ st g=>wpAny_pyIter_keyiter st.1 g},⟨⟨_,fS _ rfl,rfl,rfl⟩,a.at λo e=>cT _ e⟩⟩
end
abbrev Hd:=Str×Int
noncomputable def cL (a b:Hd):Bool:=if a.1=b.1 then decide (a.2<b.2) else decide (a.1.cps.toList<b.1.cps.toList)
def Tu {b:Str} (h:a.cps.toList=b.cps.toList):a=b:=by
 cases a;cases b;simp;exact Array.toList_inj.mp h
def Ut (h:cL a b=true):cL b a=false:=by
 unfold cL at h ⊢
 by_cases e:a.1=b.1
 . rw [if_pos e] at h;rw [if_pos e.symm];simp at h;simp;omega
 . rw [if_neg e] at h;rw [if_neg λz=>e z.symm];simp at h;simp;exact List.lt_asymm h
def YW (h:cL a b=true) (g:cL b c=true):cL a c=true:=by
 unfold cL at h g ⊢
 by_cases e:a.1=b.1
 . rw [if_pos e] at h
   by_cases e2:b.1=c.1
   . rw [if_pos e2] at g;rw [if_pos (e.trans e2)];simp at h g ⊢;omega
   . rw [if_neg e2] at g;rw [if_neg (by rw [e];exact e2),e];exact g
 . rw [if_neg e] at h;simp at h
   by_cases e2:b.1=c.1
   . rw [if_pos e2] at g;rw [if_neg (by rw [<-e2];exact e),<-e2];simpa using h
   . rw [if_neg e2] at g;simp at g;have i:=List.lt_trans h g;have j:a.1≠c.1:=λz=>List.lt_irrefl _ (by rw [z] at i;exact i)
     rw [if_neg j];simpa using i
def YX {b:Hd} (h:a≠b):cL a b=true\/cL b a=true:=by
 unfold cL
 by_cases e:a.1=b.1
 . have e2:a.2≠b.2:=λz=>h (sV e z)
   rw [if_pos e,if_pos e.symm];simp;omega
 . rw [if_neg e,if_neg λz=>e z.symm];simp only [decide_eq_true_eq];have:a.1.cps.toList≠b.1.cps.toList:=λz=>e (Tu z)
   by_cases z:a.1.cps.toList<b.1.cps.toList
   . exact .inl z
   . exact .inr (Std.lt_of_le_of_ne z (lu this))
def ms (c:List Hd) (i j:Nat):Bool:=match c[i]?,c[j]? with
 |some a,some b=>cL a b
 |_,_=>false
def uQ (r:l.Nodup):Ord (ms l) l.length where
 Gi:=λi j h=>by
  unfold ms at h ⊢
  cases c:l[i]? with
  |none=>rw [c] at h;cases h
  |some a=>
    cases g:l[j]? with
    |none=>rfl
    |some b=>rw [c,g] at h;exact Ut h
 trans:=λi j k c g p m n=>by
  unfold ms at m n ⊢;rw [cy c,cy g] at m;rw [cy g,cy p] at n;rw [cy c,cy p];exact YW m n
 total:=λi j c g o=>by
  unfold ms;rw [cy c,cy g];refine YX λe=>?_
  have q:=BV.mp r;rcases Nat.lt_or_gt_of_ne o with z|z
  . exact q i j c g z e
  . exact q j i g c z e.symm
def re (h:Heap) (v:Value) (a:Hd):Prop:= ∃b o n t u,v= .ref b/\h.get? b=some o/\o.cls= .type "tuple" /\o.data= .seq #[.str a.1 t,.int a.2 u] n
section
variable {prog:cp} {w:World} {A:cC} {E:U9} {s:aL}
def Tv (g:s.heap.get? x=some i) (dx:i.data= .seq #[.str a.1 t,.int a.2 u] n) (j:s.heap.get? y=some l) (o:l.data= .seq #[.str b.1 q,.int b.2 r] m) (h:Q (cL a b) s):
   wpAny (model prog w) A (keyLt' (tuples' true) (.ref x) (.ref y)) Q E s:=by
 refine kat_lt g dx j o ?_;refine kat_cons (eqBool_str (kat_go (λe=>kat_yes (kat_cons (wpAny_eqBool_int (kat_go (λe2=>kat_yes (kat_nil ?_)) λe2=>kat_no (kat_one _ _ (wpAny_lt_int ?_)))))) λe=>kat_no (oneLt_str ?_)))
 . have c:a.1=b.1:=by simpa using e
   have p:a.2=b.2:=by simpa using e2
   have:cL a b=false:=by unfold cL;rw [if_pos c];simp [p]
   rw [this] at h;exact h
 . have c:a.1=b.1:=by simpa using e
   have:cL a b=decide (a.2<b.2):=by unfold cL;rw [if_pos c]
   rw [this] at h;exact (show Q (decide (a.2<b.2)) s from h)
 . have c:a.1≠b.1:=by simpa using e
   have:cL a b=decide (a.1.cps.toList<b.1.cps.toList):=by unfold cL;rw [if_neg c]
   rw [this] at h;exact h
def re.keep (x:re h v a) (k: ∀b o,h.get? b=some o->o.cls= .type "tuple" ->g.get? b=some o):re g v a:=
 let ⟨b,o,n,t,u,e,i,c,hd⟩:=x;⟨b,o,n,t,u,e,k b o i c,c,hd⟩
inductive dF (h:Heap):List Value->List Hd->Prop where
 |nil:dF h [] []
 |cons {v:Value} {a:Hd} {vs:List Value} {hs:List Hd}:re h v a->dF h vs hs->dF h (v::vs) (a::hs)
theorem dF.length: ∀ {vs:List Value} {hs:List Hd},dF h vs hs->vs.length=hs.length
 |_,_,.nil=>rfl
 |_,_,.cons _ t=>by simp [t.length]
theorem dF.keep (k: ∀b o,h.get? b=some o->o.cls= .type "tuple" ->e.get? b=some o): ∀ {a:List Value} {c:List Hd},dF h a c->dF e a c
 |_,_,.nil=> .nil
 |_,_,.cons x t=> .cons (x.keep k) (t.keep k)
theorem dF.get: ∀ {vs:List Value} {hs:List Hd} {i:Nat} {a:Hd},dF h vs hs->hs[i]?=some a->re h (vs.getD i om) a
 |_,_,0,a,.cons x t,e=>by simp at e;subst e;simpa using x
 |_,_,i+1,a,.cons x t,e=>by simpa using t.get (by simpa using e)
theorem dF.iV: ∀ {a:List Value} {c:List Hd},dF h a c-> ∃fs,KatTups h a fs/\fs.length=a.length/\ ∀f∈fs,∃z t,f= .str z t
 |_,_,.nil=>⟨[],KatTups.nil,rfl,λ_ z=>nomatch z⟩
 |_,_,.cons x r=>by
  obtain ⟨fs,e,g,i⟩:=r.iV;obtain ⟨b,o,n,t,u,rfl,j,l,hd⟩:=x
  exact ⟨_::fs,KatTups.cons j l hd rfl e,by simp [g],λf hf=>by
   rcases cQ.mp hf with rfl|hf
   . exact ⟨_,_,rfl⟩
   . exact i f hf⟩
def Tw:Looks M h (typeOf (.str z t)) (.type "str"):=Looks.of_pure rfl
def U4 (N:s.heap.get? a=some (lZ "list" g.toArray n)) (O:dF s.heap g l) (U:l.Nodup) (Y:2<=g.length) (y:g.length<64)
   (h: ∀p B c,Pm p g.length->Up (ms l) p g.length->(∀b o,b≠a->s.heap.get? b=some o->B.get? b=some o)->B.get? a=some (lZ "list" (yC (KO g p)) c)->P (.done (.ret .none)) {s with heap:=B}):
   wpAny (model prog w) A (mS.«list.sort» ⟨[.ref a],[]⟩) P E s:=by
 have Z:=O.length
 have keep: ∀b o,s.heap.get? b=some o->o.cls= .type "tuple" ->(wf s.heap a g).get? b=some o:=λb o e hc=>JN (λz=>by
   subst z;rw [N] at e;cases e;simp [lZ] at hc) e
 have r:=O.keep keep;obtain ⟨fs,k1,k2,k3⟩:=r.iV;refine Xs (by rw [Z];exact uQ U) (tuples' (tZ "str" !=tZ "tuple")) N Y y (λQ q=>?_) (λi j C hi hj hC=>?_) h
 . exact kat_kind k1 (by omega) (λf hf=>by obtain ⟨z,t,rfl⟩:=k3 f hf;exact Tw) rfl q
 . have v:i<l.length:=by omega
   have x:j<l.length:=by omega
   obtain ⟨b,o,m,t,u,e1,H,_,I⟩:=r.get (cy v);obtain ⟨b',o',m',t',u',e2,J,_,L⟩:=r.get (cy x);show wpAny _ _ (keyLt' _ (g.getD i om) (g.getD j om)) C _ _;rw [e1,e2];refine Tv H I J L ?_;have:ms l i j=cL l[i] l[j]:=by unfold ms;rw [cy v,cy x]
   rw [<-this];exact hC
end
section
variable {prog:cp} {w:World} {A:cC} {E:U9} {s:aL} {a:Addr} {Q:List Value} {n:Nat}
def Tx (j:s.heap.get? a=some (lZ "list" Q.toArray n)) (x:Q.length<2)
  (h: ∀l c,(∀b o,b≠a->s.heap.get? b=some o->l.get? b=some o)->l.get? a=some (lZ "list" Q.toArray c)->P (.done (.ret .none)) {s with heap:=l}):
  wpAny (model prog w) A (mS.«list.sort» ⟨[.ref a],[]⟩) P E s:=by
 obtain ⟨m,u⟩: ∃m,(s.heap.update a (pS λ_=>(#[]:Array Value))).get? a=some (lZ "list" #[] m):=⟨_,Dq j λ_=> #[]⟩
 have p:(wf s.heap a Q).get? a=some (lZ "list" #[] m):=cT _ (cT _ u);have big:Q.length<=aS:=by rw [mY];omega
 rw [list_sort_plain];refine ax (listItems_at j rfl (ax (listUpdate_at j rfl (ax (seqEpoch_at u rfl (ax (wpAny_newTuple (ax (wpAny_newList (mI ?_) (li _))) (by show Q.length<=aS;exact big))))) (by rw [dj];exact big) (li _))));dsimp only;have g:Q.toArray.size<2:=by rw [dj];omega
 rw [if_pos g,if_pos g];refine ax (aV (ax (aV ?_)));dsimp only
 have i:(arrOf (SortSt.mk' general' (Q.toArray.zip Q.toArray) #[] 7 none)).map (·.2)=Q.toArray:=by
  apply Array.toList_inj.mp;simp [List.map_snd_zip]
 rw [i];obtain ⟨q,r⟩: ∃q,((wf s.heap a Q).update a (pS λ_=>Q.toArray)).get? a=some (lZ "list" Q.toArray q):=⟨_,Dq p λ_=>Q.toArray⟩
 refine ax (seqEpoch_at p rfl (ax (listUpdate_at p rfl ?_ (li _) (by rw [dj];exact Nat.le_succ_of_le big))));simp;exact aV (h _ q (λb o v e=>(Bm _ _ (lu v)).trans (JN v e)) r)
end
noncomputable def n6 (a:Hd):List Hd->List Hd
 | []=>[a]
 |b::r=>if cL a b=true then a::b::r else b::n6 a r
def wI (a:List Hd):List Hd:=a.foldr n6 []
theorem ZF (a:Hd): ∀l,(n6 a l).Perm (a::l)
 | []=>tq _
 |b::r=>by
  unfold n6
  split
  . exact tq _
  . exact ((ZF a r).cons b).trans (List.Perm.swap a b r)
theorem qY: ∀c,(wI c).Perm c
 | []=>tq _
 |a::r=>(ZF a (wI r)).trans ((qY r).cons a)
theorem LO: ∀ {l:List Hd},l.Pairwise (λx y=>cL x y=true)->a∉l->(n6 a l).Pairwise (λx y=>cL x y=true)
 | [],_,_=>by simp [n6]
 |b::r,h,n=>by
  have g:=AJ.mp h;unfold n6
  by_cases e:cL a b=true
  . rw [if_pos e];refine AJ.mpr ⟨λc i=>?_,h⟩;rcases cQ.mp i with z|z
    . rw [z];exact e
    . exact YW e (g.1 c z)
  . rw [if_neg e];have j:a≠b:=λz=>n (by simp [z])
    have m:=(YX j).resolve_left e;refine AJ.mpr ⟨λc i=>?_,LO g.2 λz=>n (by simp [z])⟩;rcases cQ.mp ((ZF a r).mem_iff.mp i) with z|z
    . rw [z];exact m
    . exact g.1 c z
theorem QE: ∀ {c:List Hd},c.Nodup->(wI c).Pairwise (λx y=>cL x y=true)
 | [],_=>List.Pairwise.nil
 |a::r,h=>by
  have e:=py.mp h;exact LO (QE e.2) λz=>e.1 ((qY r).mem_iff.mp z)
theorem Q2: ∀ {l m:List Hd},l.Pairwise (λx y=>cL x y=true)->m.Pairwise (λx y=>cL x y=true)->l.Perm m->l=m
 | [],m,_,_,p=>(List.nil_perm.mp p).symm
 |a::l,[],_,_,p=>by have:=p.length_eq;simp at this
 |a::l,b::m,n,o,p=>by
  have c:=AJ.mp n;have g:=AJ.mp o
  have e:a=b:=by
   by_cases z:a=b
   . exact z
   . have q:a∈b::m:=p.mem_iff.mp (by simp);have r:b∈a::l:=p.mem_iff.mpr (by simp);have h:=(cQ.mp q).resolve_left z;have i:=(cQ.mp r).resolve_left λy=>z y.symm
     have u:=c.1 b i;have j:=g.1 a h;rw [Ut u] at j;cases j
  subst e;rw [Q2 c.2 g.2 (List.perm_cons a|>.mp p)]
inductive F2 {α β:Type} (R:α->β->Prop):List α->List β->Prop where
 |nil:F2 R [] []
 |cons {a b as bs}:R a b->F2 R as bs->F2 R (a::as) (b::bs)
theorem F2.length {α β:Type} {R:α->β->Prop}: ∀ {as:List α} {bs:List β},F2 R as bs->as.length=bs.length
 |_,_,.nil=>rfl
 |_,_,.cons _ t=>by simp [t.length]
theorem F2.get {α β:Type} {R:α->β->Prop} {a0:α} {b0:β}: ∀ {as:List α} {bs:List β} {i:Nat},F2 R as bs->i<bs.length->R (as.getD i a0) (bs.getD i b0)
 |_,_,0,.cons x t,_=>by simpa using x
 |_,_,i+1,.cons x t,h=>by simpa using t.get (by simpa using h)
theorem F2.map {c e a:Type} {R:c->e->Prop} {f:a->c} {g:a->e}: ∀ {l:List a},(∀x∈l,R (f x) (g x))->F2 R (l.map f) (l.map g)
 | [],_=> .nil
 |x::l,h=> .cons (h x (by simp)) (F2.map λy i=>h y (by simp [i]))
def uN (o:a.Nodup) (e:Pm p a.length) (q:Up (ms a) p a.length):p.toList.map (λi=>a.getD i ("",0))=wI a:=by
 have c: ∀i∈p.toList,i<a.length:=λi g=>iU.mp (e.perm.mem_iff.mp g)
 refine Q2 ?_ (QE o) ?_
 . rw [yD,BV];intro i j g r h;have v:p.toList.length=a.length:=by rw [jE,e.size]
   have:=q i j h (by omega);have e1:eA p i=p.toList[i]:=by simp [eA,AH,e.size,show i<a.length by omega]
   have e2:eA p j=p.toList[j]:=by simp [eA,AH,e.size,show j<a.length by omega]
   rw [e1,e2] at this;have l:=c _ (mF g);have m:=c _ (mF r);unfold ms at this;rw [cy l,cy m] at this;rw [yU,yU,cy l,cy m];exact this
 . have n:=e.perm.map (λi=>a.getD i (("" :Str),(0:Int)))
   have u:(fF a.length).map (λi=>a.getD i ("",0))=a:=by
    apply Ad;intro i
    by_cases g:i<a.length
    . simp [g]
    . rw [nP (by simp;omega),nP (by omega)]
   rw [u] at n;exact n.trans (qY a).symm
def vP (h:c.length<2):wI c=c:=by
 match c,h with
 | [],_=>rfl
 | [a],_=>rfl
section
variable {prog:cp} {w:World} {A:cC} {E:U9} {s:aL} {a:Addr} {N:List Value} {n:Nat}
def Tz {P:PySem.Fin->aL->Prop} {j:List Hd} (q:s.heap.get? a=some (lZ "list" N.toArray n)) (u:dF s.heap N j) (v:j.Nodup) (l:N.length<64)
   (h: ∀(x:List Value) g c,(∀R:Value->Hd->Prop,F2 R N j->F2 R x (wI j))->(∀b o,b≠a->s.heap.get? b=some o->g.get? b=some o)->g.get? a=some (lZ "list" x.toArray c)->P (.done (.ret .none)) {s with heap:=g}):
   wpAny (model prog w) A (mS.«list.sort» ⟨[.ref a],[]⟩) P E s:=by
 have z:=u.length
 by_cases B:N.length<2
 . exact Tx q B λg c k e=>h N g c (λR r=>by rw [vP (by omega)];exact r) k e
 . refine U4 q u v (by omega) l λp g c m y k e=>h _ g c (λR r=>?_) k e
   rw [z] at m y;rw [<-uN v m y];exact F2.map λi H=>r.get (iU.mp (m.perm.mem_iff.mp H))
end
section
variable {prog:cp} {w:World} {A:cC} {E:U9} {t:aL} {L:List Value} {J:List Hd}
def Kv {Q:U9} (n:dF t.heap L J) (p:J.Nodup) (j:L.length<64)
  (h: ∀(i:List Value) a c,(∀R:Value->Hd->Prop,F2 R L J->F2 R i (wI J))->(∀b o,t.heap.get? b=some o->a.get? b=some o)->a.get? t.heap.objs.size=some (lZ "list" i.toArray c)->Q (.ref t.heap.objs.size) {t with heap:=a}):
  wpAny (model prog w) A (newList L>>=λl=>nT [l] (call (.builtin "list.sort") [l] [])>>=λ_=>ret l) (λm q=> ∃v,m= .done (.ret v)/\Q v q) E t:=by
 have g:(t.heap.push (lZ "list" L.toArray 0)).get? t.heap.objs.size=some (lZ "list" L.toArray 0):=fS _ rfl;refine ax (wpAny_newList (ax (mI ?_)) (by rw [mY];omega));refine so slot_list_sort ⟨_,g,rfl⟩ entry_list_sort ?_ (args_list_sort _);refine Tz g (n.keep λb o e _=>cT _ e) p j λi a c r k e=>⟨_,rfl,aV ⟨_,rfl,h i a c r (λb o e2=>k b o (λz=>?_) (cT _ e2)) e⟩⟩
 exact pI _ (by have:=c8 e2;rw [z] at this;exact this)
end
end M
namespace M
open PySem PySem.Spec L2
open PyProof.Rows hiding St
section
variable {X:Cx}
section
variable {N Q:Type} {R:N->Q->Prop} {a:N} {b:Q} {l:List N} {n:List Q}
def F2.dE (r:F2 R (a::l) n): ∃b m,n=b::m/\R a b/\F2 R l m:=by cases r;exact ⟨_,_,rfl,by assumption,by assumption⟩
def F2.j8 (r:F2 R l (b::n)): ∃a m,l=a::m/\R a b/\F2 R m n:=by cases r;exact ⟨_,_,rfl,by assumption,by assumption⟩
def F2.gX (r:F2 R l []):l=[]:=by cases r;rfl
def F2.wu (r:F2 R [] n):n=[]:=by cases r;rfl
def Dy (r:nF R (a::l) n): ∃b m,n=b::m/\R a b/\nF R l m:=by cases r;exact ⟨_,_,rfl,by assumption,by assumption⟩
def Gp (r:nF R [] n):n=[]:=by cases r;rfl
end
def tu (H:Hp) (x:V) (a:Hd):Prop:= ∃b,x= .ref b/\H b=some (.am [.str a.1,.int a.2])
theorem LP {j:L2.St} (I:aC X h j H s): ∀ {e:List V} {c:List Value} {g:List Hd},aK e c->F2 (tu H) e g->dF s.heap c g/\F2 (λv a=> ∃b,v=dN b/\H b=some (.am [.str a.1,.int a.2])) c g
 | [],_,_,r,f=>by cases Gp r;cases f.wu;exact ⟨.nil,.nil⟩
 |y::e,_,_,r,f=>by
  obtain ⟨_,_,rfl,r,l⟩:=Dy r;obtain ⟨_,_,rfl,⟨b,rfl,i⟩,m⟩:=f.dE;obtain ⟨p,q⟩:=LP I l m;cases r;obtain ⟨_,c,w,o,x,z,n,hd⟩:=(show bi X.prog X.w H s.heap b (.am _) from I.be b _ i)
  obtain ⟨_,_,rfl,⟨t,rfl⟩,B⟩:=Dy w;obtain ⟨_,_,rfl,⟨u,rfl⟩,E⟩:=Dy B;cases Gp E;exact ⟨.cons ⟨b,o,n,t,u,rfl,x,z,hd⟩ p,.cons ⟨b,rfl,i⟩ q⟩
theorem LQ: ∀ {g:List Value} {e:List Hd},F2 (λv a=> ∃b,v=dN b/\H b=some (.am [.str a.1,.int a.2])) g e-> ∃c,aK c g/\F2 (tu H) c e
 |_,[],f=>by cases f.gX;exact ⟨[],.nil,.nil⟩
 |_,a::e,f=>by
  obtain ⟨_,_,rfl,⟨b,rfl,h⟩,t⟩:=f.j8;obtain ⟨c,i,j⟩:=LQ t;exact ⟨.ref b::c,.cons rfl i,.cons ⟨b,rfl,h⟩ j⟩
end
def BX:List D->Option (List aR)
 | []=>some []
 |d::r=>match rc d,BX r with
  |some k,some ks=>some (k::ks)
  |_,_=>none
def iu:D->Option (List aR)
 | .am ds=>BX ds
 |_=>none
noncomputable def i1 (ks:List (List aR)) (k:List aR):Bool:=ks.any λx=>decide (x=k)
def yq (ks:List (List aR)) (k:List aR):List (List aR):=if i1 ks k=true then ks else ks++[k]
def yr (ks:List (List aR)) (ds:List D) (k:List aR) (d:D):List D:=if i1 ks k=true then (ks.zip ds).map (λp=>if p.1=k then d else p.2) else ds++[d]
section
variable {K:aH} {A:VJ} {H:Hp}
theorem Uj: ∀ {a:List V} {ds:List D} {ks:List aR},ao K A H a ds->BX ds=some ks->a=ks.map kV
 | [],_,ks,r,h=>by cases r.gX;cases h;rfl
 |v::a,_,ks,r,h=>by
  obtain ⟨d,ds,rfl,r,t⟩:=r.dE;unfold BX at h
  cases e1:rc d with
  |none=>rw [e1] at h;cases h
  |some k=>
   cases e2:BX ds with
   |none=>rw [e1,e2] at h;cases h
   |some c=>
    rw [e1,e2] at h;cases h;rw [LC r e1,Uj t e2];rfl
def yl (r:aN K A H y d) (h:iu d=some k): ∃b,y= .ref b/\H b=some (.am (k.map kV)):=by
 cases d<;>try cases h
 obtain ⟨_,_,rfl,e,a⟩:=r.f;exact ⟨_,rfl,by rw [e,Uj a h]⟩
def UT (a:List (List aR×V)) (k:List aR):(a.any λc=>decide (c.1=k))=i1 (a.map (·.1)) k:=by
 unfold i1;rw [BS];rfl
theorem Yj (k:List aR) (g:aN K A H v d): ∀ {a:List (List aR×V)} {ds:List D},ao K A H (a.map (·.2)) ds->ao K A H ((a.map (λc=>if c.1=k then (c.1,v) else c)).map (·.2)) (((a.map (·.1)).zip ds).map (λp=>if p.1=k then d else p.2))
 | [],_,r=>by cases r.gX;exact .nil
 | (i,m)::a,_,r=>by
  obtain ⟨_,_,rfl,j,l⟩:=r.dE;have h:=Yj k g l
  by_cases e:i=k
  . simp only [e9,sx,e,if_true];exact .cons g (by simpa [e] using h)
  . simp only [e9,sx,e,if_false];exact .cons j h
def VN (k:List aR) (r:ao K A H (a.map (·.2)) ds) (c:aN K A H v d):
   (putK a k v).map (·.1)=yq (a.map (·.1)) k/\ao K A H ((putK a k v).map (·.2)) (yr (a.map (·.1)) ds k d):=by
 unfold putK yq yr;rw [UT]
 by_cases h:i1 (a.map (·.1)) k=true
 . rw [if_pos h,if_pos h,if_pos h];refine ⟨?_,Yj k c r⟩;rw [ka];apply AG;intro p _;simp
   split<;>rfl
 . rw [if_neg h,if_neg h,if_neg h];refine ⟨by simp,?_⟩;rw [mP];exact r.append (.cons c .nil)
def aN.o4 (r:aN K A H v (.bX ks ds)): ∃a e,v= .ref a/\H a=some (.dT e)/\A a/\e.map (·.1)=ks/\ao K (λc=>A c/\c≠a) H (e.map (·.2)) ds:=r.f
end
def uL {K:aH} {i:Nat} (k:aD K G p g h H) (j:g[i]?=some (.ay (.bX ks ds))): ∃a c,h[i]?=some (some (.ref a))/\H a=some (.dT c)/\c.map (·.1)=ks/\ao K (Sf G g h) H (c.map (·.2)) ds:=by
 obtain ⟨a,l,q,m⟩:=k.ay i _ j
 cases m with
 |bX e n o r=>subst o;exact ⟨a,_,l,e,n,r⟩
noncomputable def sy (i:Nat) (a:Sl):ak (List (List aR)×List D):=match a[i]? with
 |some (.ay (.bX ks ds))=> .ok (ks,ds)
 |_=> .aj
def TB (h:sy i a= .ok p):a[i]?=some (.ay (.bX p.1 p.2)):=by
 unfold sy at h
 split at h
 . cases h;assumption
 . cases h
section
variable {X:Cx} {K:aH} {O l2:Lv} {e1 e2:Expr} {U fv:T0} {Y j5 Z p:Pos} {x:Str}
def BY:Sl->ak D:=λ_=> .ok (.bX [] [])
def JE:DE X .t (.Dict [] [] Y) BY:=by
 nomatch (PE.imp Rl λg H Q=>by
  rintro ⟨G,h,c,d,k,e,q⟩;cases e
  exact λp a=>q _ _ (aq.aU a) (.bX jy (k.new p a) rfl rfl .nil) (qr (aq.refl H) a))
def JC (i:Nat) (U fv:T0):Sl->ak bg:=λa=>sy i a>>=λq=>fv a>>=λd=>U a>>=λc=>match iu c with
 |some k=>a5 (q.1.length<aS) (.ok (.nx (a.set i (.ay (.bX (yq q.1 k) (yr q.1 q.2 k d))))))
 |none=> .aj
def QR (i:Nat) (hu:X.A.units+1<cLine) (hk:DE X O e1 U) (hv:DE X .s e2 fv) (hN:X.N[i]?=some x:=by rfl) (u:gs X.env.scope x:=by exact gu rfl)
   (hd:Yi x:=by decide) (z:Yh x:=by decide)
   (hs:mH e2 (some (.Subscript (.Name x p) e1 Z)) Y.line X.env=pure false:=by rfl):
   DS X (.Assign [.Subscript (.Name x p) e1 Z] e2 Y) (JC i U fv):=by
 nomatch (
  PS.imp (uv hu (xM hN u hd z) hk hv hs) λE σ H=>by
   rintro ⟨G,I,g,o,k,h,q⟩;obtain ⟨ks,c1,h⟩:=jd h;obtain ⟨d,c2,h⟩:=jd h;obtain ⟨J,c3,r⟩:=jd h;have L:=TB c1;obtain ⟨a,B,N,hx,j,rs⟩:=uL k L
   cases c:iu J with
   |none=>rw [c] at r;cases r
   |some kk=>
    rw [c] at r;obtain ⟨Q,c5⟩:=ju r;cases c5;refine ⟨G,I,g,d,k,c2,λv H1 l r1 _=>⟨.ref a,N,G,I,g,J,k.av l,c3,λy H2 m r2 _=>?_⟩⟩;have n:=m _ _ (l _ _ hx);obtain ⟨b,rfl,hb⟩:=yl (r2.aO Lv.bu) c;have hl:B.length<aS:=by rw [<-j,bM] at Q;exact Q
    refine ⟨a,_,rfl,m4.t n hb hl,?_⟩;obtain ⟨p1,p2⟩:=VN kk ((rs.av l).av m) (r1.av m);rw [j] at p1 p2;have W:=((k.av l).av m).ml L N n trivial λA' H' st e w=> .bX e p1 rfl (p2.bL st w)
    exact q σ _ W.1 ((W.2.av m).av l))
noncomputable def cU (a:Hd):D:= .am [.str a.1,.int a.2]
def VH (c:List Hd):Bool:=c.all λa=>decide (a.1.length<=aS)
theorem Vd: ∀ {e:List V} {c:List Hd},F2 (tu H) e c->(∀a∈c,a.1.length<=aS)->ao K A H e (c.map cU)
 |_,[],f,_=>by cases f.gX;exact .nil
 |_,a::c,f,h=>by
  obtain ⟨_,_,rfl,⟨b,rfl,g⟩,t⟩:=f.j8;exact .cons (.am g (.cons (.str _ (h _ (by simp))) (.cons (.int _) .nil))) (Vd t λa i=>h a (by simp [i]))
end
def dD (a:Hd):List aR:=[.inr a.1,.inl a.2]
section
variable {X:Cx} {K:aH}
theorem JZ: ∀ {g:List (List aR×V)} {i:List (List aR×Addr×Value)} {c:List Hd},KT H g i->g.map (·.1)=c.map dD->F2 (tu H) (i.map λq=>V.ref q.2.1) c
 |_,_,c,.nil,e=>by
  cases c with
  |nil=>exact .nil
  |cons a r=>cases e
 |_,_,c,.cons h t,e=>by
  cases c with
  |nil=>cases e
  |cons a r=>
   simp at e;refine .cons ⟨_,rfl,?_⟩ (JZ t e.2);rw [h.2.1,e.1];rfl
theorem Zc: ∀(l:List Addr),aK (l.map V.ref) (l.map dN)
 | []=> .nil
 |a::l=> .cons rfl (Zc l)
def Qt (Z:X.cR=true):bt X (.builtin "sorted") (λJ H Q=> ∃a g m,J=[.ref a]/\H a=some (.dT g)/\g.map (·.1)=m.map dD/\m.Nodup/\m.length<64/\ ∀l w,H l=none->F2 (tu H) w (wI m)->Q (.ref l) (aU H l (.ai w))):=by
 intro x s σ H J w Q I r h;obtain ⟨a,g,m,rfl,ha,hk,nd,h64,q⟩:=h;obtain ⟨u,rfl,rx⟩:=xO r;cases rx;obtain ⟨hz,lo,n,hp,o,es,ep,ho,hx,hd,he,_⟩:=(show bi X.prog X.w H s.heap a (.dT g) from I.be a _ ha)
 have L:=JZ hp hk
 have hV:aK (n.map λq=>V.ref q.2.1) (n.map λq=>dN q.2.1):=by
  have:=Zc (n.map λq=>q.2.1);simpa [ka,Gq] using this
 obtain ⟨hA,hR⟩:=LP I hV L;have N:n.length=m.length:=by simpa using L.length
 have hD:oz s.heap a (n.map λq=>dN q.2.1) ep:=⟨o,es,ho,hx,hd,by rw [he,ka];rfl⟩
 refine Calls.call_function_entry kind_sorted plain_sorted entry_sorted (args_sorted1 _) ?_;unfold mS.«sorted»;refine ax (aV (ax (PySem.W.kdu_collect (LN lo) (show X.A.in1.handled=none from I.ok.hd Z) hD (by rw [bM,mY];omega) λh' tk p y j=>?_)))
 have v:p.toList=n.map λq=>dN q.2.1:=by
  apply Ad;intro i;have hl:p.toList.length=(n.map λq=>dN q.2.1).length:=by rw [jE];exact j.1
  by_cases O:i<p.toList.length
  . rw [cy O];exact (j.2 i _ (by rw [<-oj];exact cy O)).symm
  . rw [nP (by omega),nP (by omega)]
 rw [v];refine Kv (hA.keep λb o e _=>y b o e) nd (by rw [bM];omega) λw h2 c z k e=>?_
 obtain ⟨B,v1,U⟩:=LQ (z _ hR);have Y:aC X x σ H {s with heap:=h',toks:=tk}:=I.kept y
 have E:B.length<=aS:=by
  have a1:=U.length;have a2:=(qY m).length_eq;rw [mY];omega
 exact ⟨.ref _,_,Y.laid k (bn _) (show bi X.prog X.w _ h2 _ (.ai B) from ⟨E,w,c,v1,e⟩),rfl,q _ B (Y.be.fresh (bn _)) U⟩
def Dz:List aR->Option Hd
 | [.inr z,.inl k]=>some (z,k)
 |_=>none
def wM:List (List aR)->Option (List Hd)
 | []=>some []
 |d::r=>match Dz d,wM r with
  |some a,some c=>some (a::c)
  |_,_=>none
theorem ZH: ∀ {ks:List (List aR)} {c:List Hd},wM ks=some c->ks=c.map dD
 | [],c,h=>by cases h;rfl
 |d::r,c,h=>by
  unfold wM at h
  cases e1:Dz d with
  |none=>rw [e1] at h;cases h
  |some a=>
   cases e2:wM r with
   |none=>rw [e1,e2] at h;cases h
   |some e=>
    rw [e1,e2] at h;cases h;rw [ZH e2];unfold Dz at e1
    split at e1
    . cases e1;rfl
    . cases e1
def Q3:List D->ak D
 | [.bX ks _]=>match wM ks with
  |some a=>a5 (a.Nodup/\a.length<64/\VH a=true) (.ok (.ai ((wI a).map cU)))
  |none=> .aj
 |_=> .aj
def WI:QD K (λx H Q=> ∃a g h,x=[.ref a]/\H a=some (.dT g)/\g.map (·.1)=h.map dD/\h.Nodup/\h.length<64/\ ∀l j,H l=none->F2 (tu H) j (wI h)->Q (.ref l) (aU H l (.ai j))) Q3:=by
 intro A x H ds d Q r e q;unfold Q3 at e
 split at e
 . rename_i ks L
   cases m:wM ks with
   |none=>rw [m] at e;cases e
   |some h=>
    rw [m] at e;obtain ⟨⟨y,n,o⟩,e2⟩:=ju e;cases e2;obtain ⟨v,rfl,B⟩:=r.one;obtain ⟨p,g,rfl,E,_,u,_⟩:=B.o4;refine ⟨p,g,h,rfl,E,by rw [u];exact ZH m,y,n,λl j i I=>q _ _ (aq.aU i) (.ai jy (.inl i) ?_) (qr (aq.refl H) i)⟩
    have w: ∀a∈wI h,a.1.length<=aS:=λa J=>by
     have:=iT.mp o a ((qY h).mem_iff.mp J);simpa using this
    exact ((Vd (A:=λ_=>False) I w).av (aq.aU i)).aO λc z=>z.elim
 . cases e
end
section
variable {prog:cp} {w:World} {A:cC} {E:U9} {s:aL}
theorem VC: ∀ {c:List Int} {l:List Value},aK (c.map V.int) l->l.length=c.length/\ ∀i v,l[i]?=some v-> ∃t,v=Value.int (c.getD i 0) t
 | [],_,.nil=>⟨rfl,λi v h=>by cases h⟩
 |i::c,_,.cons h t=>by
  obtain ⟨a,b⟩:=VC t;refine ⟨by simp [a],λj v g=>?_⟩
  cases j with
  |zero=>
   simp at g;subst g;obtain ⟨t,e⟩:=h;exact ⟨t,by rw [e];rfl⟩
  |succ j=>simp at g;simpa using b j v g
end
def ZC:List D->Option (List Int)
 | []=>some []
 | .int b::r=>(ZC r).map (b:: ·)
 |_=>none
theorem J6: ∀ {ds:List D} {bs:List Int},ZC ds=some bs->ds=bs.map D.int
 | [],bs,h=>by cases h;rfl
 |d::r,bs,h=>by
  cases d with
  |int b=>
   simp only [ZC,sX] at h;obtain ⟨a,c,rfl⟩:=h;rw [J6 c];rfl
  |_=>cases h
def TC (bs:List Int):ZC (bs.map D.int)=some bs:=by
 induction bs with
 |nil=>rfl
 |cons b r a=>simp [ZC,a]
section
variable {X:Cx} {K:aH} {l l' l2:Lv}
theorem Zb {A:VJ} {H:Hp}: ∀ {bs:List Int} {a:List V},ao K A H a (bs.map D.int)->a=bs.map V.int
 | [],_,.nil=>rfl
 |b::bs,_,.cons h t=>by rw [h.dC,Zb t];rfl
variable {x:Str} {p pos TD:Pos} {e e2:Expr} {fa f2:T0}
end
open PySem.SeqAt
section
variable {X:Cx} {K:aH}
theorem uh {A:VJ} {H:Hp}: ∀ {g:List V} {ds:List D} {e:List Value},ao K A H g ds->aK g e->e.length=ds.length/\ ∀(i:Nat) (u:Value),e[i]?=some u-> ∃x d,ds[i]?=some d/\aG x u/\aN K A H x d
 |_,_,_,.nil,.nil=>⟨rfl,λi u h=>by cases h⟩
 |_,_,_,.cons r t,.cons h j=>by
  obtain ⟨a,b⟩:=uh t j;refine ⟨by simp [a],λi u c=>?_⟩
  cases i with
  |zero=>simp at c;subst c;exact ⟨_,_,rfl,h,r⟩
  |succ i=>simp at c;simpa using b i u c
noncomputable def rU (ds:List D) (d:D):Bool:=ds.any λy=>eE y d
def yV (K:aH) (neg:Bool):R2:=λx y H Q=> ∃p a ds d,y= .ref p/\fV K H p a/\ao K Any H a ds/\aN K Any H x d/\(D.df ds=true/\D.eO d=true/\D.bY ds<=190)/\Q (.bl (if neg then !rU ds d else rU ds d)) H
open Classical in
theorem LR {m:List (Addr×Obj)} {s:aL} {N:L2.St} {H:Hp} (I:aC X m N H s) (hu:X.A.units+200<cLine) {a:List Value} {w:List V} {ds:List D} {x:V} {v:Value} {d:D} (O:aG x v) (Q:ao X.K Any H w ds) (U:aK w a) (r:aN X.K Any H x d)
   (B:D.df ds=true/\D.eO d=true/\D.bY ds<=190): ∃e:Value->Bool,(∀y,y∈a.toArray->EqAt X.A.in1 s y v (e y))/\a.toArray.any e=rU ds d:=by
 obtain ⟨Y,n⟩:=uh Q U;refine ⟨λy=>decide (∃(i:Nat) (c:D),a[i]?=some y/\ds[i]?=some c/\eE c d=true),λy Z=>?_,?_⟩
 . have o: ∀(i:Nat) (c:D),a[i]?=some y->ds[i]?=some c->EqAt X.A.in1 s y v (eE c d):=λi c q j=>by
     obtain ⟨E,p,g,J,L⟩:=n i y q;rw [j] at g;cases g;have u:=pz j;have DB:=yn u
     exact XH I c X.A.in1 E x y v d (by
      show X.A.units+1+c.bU<cLine
      omega) L J r O (QP B.1 u) B.2.1
   dsimp only
   by_cases h: ∃(i:Nat) (c:D),a[i]?=some y/\ds[i]?=some c/\eE c d=true
   . obtain ⟨i,c,q,j,g⟩:=h;have:=o i c q j;rw [g] at this;rw [decide_eq_true (show∃(i:Nat) (c:D),a[i]?=some y/\ds[i]?=some c/\eE c d=true from ⟨i,c,q,j,g⟩)];exact this
   . rw [decide_eq_false h];obtain ⟨i,l⟩:=AK.mp (show y∈a by simpa using Z);obtain ⟨E,p,g,J,L⟩:=n i y l;have:=o i p l g
     have e:eE p d=false:=by
      cases z:eE p d with
      |false=>rfl
      |true=>exact absurd ⟨i,p,l,g,z⟩ h
     rw [e] at this;exact this
 . rw [rX];unfold rU;rw [rf];simp only [List.any_toArray,rf,decide_eq_true_eq]
   constructor
   . rintro ⟨y,_,i,c,_,j,g⟩;exact ⟨c,pz j,g⟩
   . rintro ⟨c,u,g⟩;obtain ⟨i,l⟩:=AK.mp u
     have cL:i<a.length:=by
      rw [Y];exact (mX.mp l).1
     exact ⟨a[i],mF cL,i,c,cy cL,l,g⟩
def uY (c:X.A.units+200<cLine):dB X (h9 .In) (yV X.K false):=by
 intro a s E H x y v u Q I g i h;obtain ⟨p,J,ds,d,rfl,j,l,r,m,q⟩:=h;cases i;obtain ⟨n,o,w,L⟩:=I.list j;obtain ⟨e,z,B⟩:=LR I c g l o r m;refine SeqAt.in_listAt e w.isList z ⟨.bl _,H,I,rfl,?_⟩;rw [B];exact q
def uV (c:X.A.units+200<cLine):dB X (h9 .NotIn) (yV X.K true):=by
 intro a s E H x y v u Q I g i h;obtain ⟨p,J,ds,d,rfl,j,l,r,m,q⟩:=h;cases i;obtain ⟨n,o,w,L⟩:=I.list j;obtain ⟨e,z,B⟩:=LR I c g l o r m;refine SeqAt.notIn_listAt e w.isList z ⟨.bl _,H,I,rfl,?_⟩;rw [B];exact q
def fO (neg:Bool):D->D->ak D
 |d,.ai ds=>a5 (D.df ds=true/\D.eO d=true/\D.bY ds<=190) (.ok (.bl (if neg then !rU ds d else rU ds d)))
 |_,_=> .aj
def YD (neg:Bool):gz K (yV K neg) (fO neg):=by
 intro x y H a b d Q c g e q;unfold fO at e
 split at e
 . obtain ⟨h,e2⟩:=ju e;cases e2;obtain ⟨p,i,rfl,j,_,l⟩:=g.eM;exact ⟨p,i,_,_,rfl,.of j,l.aO (λ_ _=>trivial),c,h,q _ (lm _)⟩
 . cases e
end
end M
namespace M
open PySem PySem.Spec L2
open PyProof.Rows hiding St
def Qu:mV "sorted" =some (.builtin "sorted"):=by decide+kernel
section
variable {X:Cx} {id:String} {r:List V->Hp->VK->Prop} {g:TW} {x:Str} {p Z:Pos} {e:Expr} {Y:List Expr} {U:TX}
def QT (i:bt X (.builtin id) r) (j:QD X.K r g) (l:Gl X x) (m:X.mg x=none) (n:mV x=some (.builtin id))
   (o:DA X .s (e::Y) U) (q:x≠ "__name__" :=by decide) (a:Yi x:=by decide)
   (u:T9 X e Y:=by exact jt rfl) (c:T8 X Z Y:=by exact jS rfl):DE X .t (.Call (.Name x p) (e::Y) [] Z) (app U g):=by
 nomatch (
  PE.imp (yj i l m n o q a u c) λ_ _ _ h=>Je j h)
variable {ex:Expr} {t:TZ}
end
end M
namespace M
open PySem PySem.Spec L2
mutual
def gM:D->List Int
 | .int i=>[i]
 | .am (_::a)=>nj a
 |_=>[]
def nj:List D->List Int
 | []=>[]
 |d::r=>gM d++nj r
end
mutual
def bare:D->D
 | .am (x::a)=> .am (x::tx a)
 |_=> .int 0
def tx:List D->List D
 | []=>[]
 |d::r=>bare d::tx r
end
theorem ZZ: ∀a,nj a=a.flatMap gM
 | []=>rfl
 |d::r=>by simp [nj,ZZ r]
def LS (h: ∀t∈a,num t<=k):nums a<=a.length*k:=by
 induction a with
 |nil=>simp [nums]
 |cons d r c=>
  have g:=h d (by simp);have i:=c λt e=>h t (by simp [e])
  simp only [nums,fR,Br];omega
theorem Vm: ∀ {a:List D},(∀t∈a,D.eO t=true)->D.df a=true
 | [],_=>rfl
 |x::r,h=>by simp only [D.df,gF];exact ⟨h x (by simp),Vm λd hd=>h d (by simp [hd])⟩
theorem fq: ∀ {ts:List D},(∀t∈ts,D.bU t<=k)->D.bY ts<=k
 | [],_=>by simp [D.bY]
 |x::r,h=>by
  simp only [D.bY];have:=h x (by simp);have:=fq (ts:=r) λd hd=>h d (by simp [hd])
  omega
theorem Y4: ∀ {a:List D},(∀t∈a,eE t t=true)->cH a a=true
 | [],_=>by simp [cH]
 |x::r,h=>by simp only [cH,gF];exact ⟨h x (by simp),Y4 λd hd=>h d (by simp [hd])⟩
def ins (l:List Int) (x:Int):List Int:=if x∈l then l else l++[x]
def met (l a:List Int):List Int:=a.foldl ins l
def Ug (l:List Int) (x:Int) (a:List Int):met l (x::a)=met (ins l x) a:=rfl
def TF:y∈ins l x↔y∈l\/y=x:=by
 unfold ins
 split
 . rename_i h;exact ⟨.inl,λz=>z.elim id λe=>by rw [e];exact h⟩
 . simp
theorem LU: ∀ {a l:List Int} {y:Int},y∈met l a↔y∈l\/y∈a
 | [],l,y=>by simp [met]
 |x::a,l,y=>by
  rw [Ug,LU,TF];simp only [cQ,or_assoc]
def lj (n:Nat):List Int->List D
 | []=>[]
 |_::r=> .int n::lj (n+1) r
def kb (l:List Int):List aR:=l.map pH
def TH (l:List Int) (x:Int):n5 (kb l) (.inl x)=decide (x∈l):=by
 induction l with
 |nil=>rfl
 |cons a l c=>
  unfold n5 kb at c ⊢;rw [e9,v7,c]
  by_cases h:a=x
  . subst h;simp
  . have:x≠a:=λe=>h e.symm
    simp [h,this]
def TJ (l:List Int):(kb l).length=l.length:=by simp [kb]
mutual
def tk (a:List Str):D->Bool
 | .int _=>true
 | .am (.str z::c)=>decide (z∈a)&&(decide (c.length<=9)&&tz a c)
 |_=>false
def tz (a:List Str):List D->Bool
 | []=>true
 |d::r=>tk a d&&tz a r
end
section
variable {ns:List Str}
mutual
theorem WQ {P:D->Prop} (c: ∀i,P (.int i)) (e: ∀z a,z∈ns->a.length<=9->(∀t∈a,tk ns t=true/\P t)->P (.am (.str z::a))): ∀t,tk ns t=true->P t
 | .int i,_=>c i
 | .am (x::a),h=>by
  cases x with
  |str z=>
   have h:=(lH.mp h).imp of_decide_eq_true λz=>(lH.mp z).imp of_decide_eq_true id
   exact e z a h.1 h.2.1 (oB c e a h.2.2)
  |_=>cases h
 | .am [],h=>by cases h
 | .a6,h=>by cases h
 | .bl _,h=>by cases h
 | .str _,h=>by cases h
 | .ai _,h=>by cases h
 | .gv _,h=>by cases h
 | .dr _ _,h=>by cases h
 | .bX _ _,h=>by cases h
 | .lV _,h=>by cases h
 | .mL _ _,h=>by cases h
 | .mM _ _,h=>by cases h
 | .obj _ _ _,h=>by cases h
 | .mem _ _,h=>by cases h
 | .fG _,h=>by cases h
theorem oB {P:D->Prop} (j: ∀i,P (.int i)) (l: ∀z c,z∈ns->c.length<=9->(∀t∈c,tk ns t=true/\P t)->P (.am (.str z::c))): ∀c,tz ns c=true-> ∀t∈c,tk ns t=true/\P t
 | [],_,t,g=>by cases g
 |d::r,h,t,g=>by
  simp only [tz,gF] at h;have a:=WQ j l d h.1;have b:=oB j l r h.2;rcases cQ.mp g with e|e
  . rw [e];exact ⟨h.1,a⟩
  . exact b t e
end
theorem LV: ∀ {a:List D},(∀t∈a,tk ns t=true)->tz ns a=true
 | [],_=>rfl
 |x::r,h=>by simp only [tz,gF];exact ⟨h x (by simp),LV λd hd=>h d (by simp [hd])⟩
theorem vK: ∀ {a:List D} {t:D},tz ns a=true->t∈a->tk ns t=true
 |x::r,t,h,ht=>by
  simp only [tz,gF] at h;rcases cQ.mp ht with rfl|ht
  . exact h.1
  . exact vK h.2 ht
def DC (c:z∈ns) (h:a.length<=9) (e: ∀t∈a,tk ns t=true):tk ns (.am (.str z::a))=true:=by
 exact lH.mpr ⟨decide_eq_true c,lH.mpr ⟨decide_eq_true h,LV e⟩⟩
def Jg (h:tk ns t=true):(∃i,t= .int i)\/ ∃z a,t= .am (.str z::a)/\z∈ns/\a.length<=9/\ ∀u∈a,tk ns u=true:=by
 cases t with
 |int i=>exact .inl ⟨i,rfl⟩
 |am ds=>
  cases ds with
  |nil=>cases h
  |cons x a=>
   cases x with
   |str z=>
    have h:=(lH.mp h).imp of_decide_eq_true λz=>(lH.mp z).imp of_decide_eq_true id
    exact .inr ⟨z,a,rfl,h.1,h.2.1,λu c=>vK h.2.2 c⟩
   |_=>cases h
 |_=>cases h
def Vi: ∀t,tk ns t=true->ir t=true:=WQ (λi=>rfl) λz c _ e h=>by
 exact lH.mpr ⟨decide_eq_true (by rw [fR];omega),lH.mpr ⟨rfl,QM λt a=>(h t a).2⟩⟩
def VQ: ∀t,tk ns t=true-> ∀p∈br t,tk ns p=true:=WQ (λi p g=>by cases iw.mp g;rfl) λz q m n h=>by
 simp only [br];intro p g;rcases cQ.mp g with e|e
 . rw [e];exact DC m n λt j=>(h t j).1
 . have a: ∀c:List D,eP c=c.flatMap br:=λc=>by
    induction c with
    |nil=>rfl
    |cons d r o=>simp [eP,o]
   rw [a] at e;obtain ⟨t,j,l⟩:=lX.mp e;exact (h t j).2 p l
def eT:List D->List Int
 | []=>[]
 | .int i::r=>i::eT r
 |_::r=>eT r
theorem Xv: ∀a b,eT (a++b)=eT a++eT b
 | [],b=>rfl
 |d::r,b=>by
  have c:=Xv r b;cases d<;>simp [eT,c]
def cP:List D->List Hd
 | []=>[]
 | .am (.str z::a)::r=>(z,(a.length:Int))::cP r
 |_::r=>cP r
def LW (z:Str) (a r:List D):cP (.am (.str z::a)::r)=(z,(a.length:Int))::cP r:=rfl
theorem LX: ∀ {a:List D},(∀t∈a,tk ns t=true)-> ∀x∈cP a,x.1∈ns/\0<=x.2/\x.2<=9
 | [],_,x,c=>by cases c
 |d::r,h,x,c=>by
  have g:=LX (a:=r) λt j=>h t (by simp [j])
  rcases Jg (h d (by simp)) with ⟨i,rfl⟩| ⟨z,m,rfl,l,n,_⟩
  . exact g x c
  . rw [LW] at c;rcases cQ.mp c with e|e
    . rw [e];exact ⟨l,by simp,by simp;omega⟩
    . exact g x e
def fP (l:List Hd) (a:Hd):List Hd:=if a∈l then l else l++[a]
def n8 (l a:List Hd):List Hd:=a.foldl fP l
def LY (h:l.Nodup):(fP l a).Nodup:=by
 unfold fP
 split
 . exact h
 . rename_i i;refine rV.mpr ⟨h,by simp,λx c y g=>?_⟩;simp at g;rw [g];intro e;rw [e] at c;exact i c
theorem LZ: ∀ {xs l:List Hd},l.Nodup->(n8 l xs).Nodup
 | [],l,h=>h
 |x::xs,l,h=>LZ (xs:=xs) (LY h)
def XA (h:x∈fP l a):x∈l\/x=a:=by
 unfold fP at h
 split at h
 . exact .inl h
 . simpa using h
theorem Xy: ∀ {a l:List Hd} {x:Hd},x∈n8 l a->x∈l\/x∈a
 | [],l,x,h=> .inl h
 |y::a,l,x,h=>by
  rcases Xy (l:=fP l y) h with z|z
  . rcases XA z with z|z
    . exact .inl z
    . exact .inr (by simp [z])
  . exact .inr (by simp [z])
theorem wo {c:Type} [BEq c] [LawfulBEq c]: ∀ {l m:List c},l.Nodup->(∀x∈l,x∈m)->l.length<=m.length
 | [],m,_,_=>by simp
 |a::l,m,h,i=>by
  have j:=py.mp h;have n:=i a (by simp)
  have:=wo (m:=m.erase a) j.2 λx g=>by
   refine (Fk λe=>?_).mpr (i x (by simp [g]));rw [e] at g;exact j.1 g
  rw [Fl n] at this;have o:=Fm n;simp;omega
def TK {l:List Hd} (h:l.Nodup) (a: ∀x∈l,x.1∈ns/\0<=x.2/\x.2<=9):l.length<=ns.length*10:=by
 have:=wo (m:=ns.flatMap λz=>(fF 10).map λk=>(z,((k:Nat):Int))) h λx c=>by
  obtain ⟨g,i,n⟩:=a x c;refine lX.mpr ⟨x.1,g,cK.mpr ⟨x.2.toNat,iU.mpr (by omega),?_⟩⟩;rw [Gr i]
 have e:(ns.flatMap λz=>(fF 10).map λk=>(z,((k:Nat):Int))).length=ns.length*10:=by
  clear this a h
  induction ns with
  |nil=>rfl
  |cons z r j=>rw [tD,gm,j];simp;omega
 omega
def TL:dD a=dD b↔a=b:=by
 constructor
 . intro h;cases a;cases b;simp [dD] at h;simp [h]
 . intro h;rw [h]
def L0 (l:List Hd) (a:Hd):i1 (l.map dD) (dD a)=decide (a∈l):=by
 unfold i1;rw [BS]
 induction l with
 |nil=>rfl
 |cons b l c=>
  rw [v7,c];simp only [Function.comp_apply,TL]
  by_cases h:b=a
  . subst h;simp
  . have:a≠b:=λe=>h e.symm
    simp [h,this]
def dI (l:List Hd):List D:=l.map λ_=> .bl true
def L1 (l:List Hd) (a:Hd):yq (l.map dD) (dD a)=(fP l a).map dD/\yr (l.map dD) (dI l) (dD a) (.bl true)=dI (fP l a):=by
 unfold yq yr fP;rw [L0]
 by_cases h:a∈l
 . simp only [h,decide_true,if_true,true_and];clear h
   induction l with
   |nil=>rfl
   |cons b l c=>
    simp only [dI,e9,sx] at c ⊢;rw [c];simp
 . simp [h,dI]
theorem Wz: ∀l:List Hd,wM (l.map dD)=some l
 | []=>rfl
 |a::l=>by
  simp only [e9,wM,Wz l];rfl
def Wj (c:l.Nodup) (e:l.length<64) (g: ∀a∈l,a.1.length<=aS):Q3 [.bX (l.map dD) i]= .ok (.ai ((wI l).map cU)):=by
 show (match wM (l.map dD) with|some j=>_|none=>_)=_;rw [Wz];exact jn ⟨c,e,iT.mpr λa h=>by simpa using g a h⟩
def TM {c:Type} {f:c->D} (h: ∀a,D.eO (f a)=true) (l:List c):D.df (l.map f)=true:=Vm λt e=>by
 obtain ⟨a,_,rfl⟩:=cK.mp e;exact h a
def TN {c:Type} {f:c->D} (h: ∀a,D.bU (f a)<=k) (l:List c):D.bY (l.map f)<=k:=fq λt e=>by
 obtain ⟨a,_,rfl⟩:=cK.mp e;exact h a
end
open PyProof.Rows hiding St
def Qv:mV "divmod" =some (.builtin "divmod"):=by decide+kernel
def Qe:List D->ak D
 | [.int i,.int j]=>a5 (0<j/\j<1073741824) (.ok (.am [.int (i/j),.int (i%j)]))
 |_=> .aj
def Kf {K:aH}:QD K (λa H Q=> ∃i j,a=[.int i,.int j]/\r9 i j/\ ∀p,H p=none->Q (.ref p) (aU H p (.am [.int (i/j),.int (i%j)]))) Qe:=by
 intro A a H ds d Q r e q;unfold Qe at e
 split at e
 . obtain ⟨g,e2⟩:=ju e;cases e2;obtain ⟨v,m,rfl,h,l⟩:=r.ag;cases h.dC;cases l.dC;exact ⟨_,_,rfl,g,λp c=>q _ _ (aq.aU c) (.am jy (.cons (.int _) (.cons (.int _) .nil))) (qr (aq.refl H) c)⟩
 . cases e
section
variable {X:Cx} {Q:List (Addr×Obj)} {O:L2.St} {H:Hp} {s:aL}
def xy (I:aC X Q O H s) (k: ∀b o,b≠g->b≠h->s.heap.get? b=some o->j.get? b=some o) (B:fX X Q H g) (E:fX X Q H h):aC X Q O H {s with heap:=j,toks:=t'}:=by
 obtain ⟨J,l,_,L,N,U⟩:=B;obtain ⟨Y,p,_,Z,b4,b5⟩:=E;have w: ∀b u,H b=some u->b≠g:=λb u e z=>by rw [z,J] at e;cases e
 have x: ∀b u,H b=some u->b≠h:=λb u e z=>by rw [z,Y] at e;cases e
 have i: ∀b o,b∉[g,h]->s.heap.get? b=some o->j.get? b=some o:=λb o a e=>k b o (λz=>a (by simp [z])) (λz=>a (by simp [z])) e
 refine I.step (λb y=>?_) (λb o _ _ a e _=>i b o a e) (λb o _ _ a e _=>⟨o.slots,i b o a e⟩) (λ_ _ _ _ n=>n)
   (λb o a e=>⟨o,i b o a e⟩) (λ_ _ e=>e) (λ_ _ _ e=>e) (λb ps e=>⟨#[],by rw [e];simp⟩) (λm hm=>?_) (λb u e=>?_) I.bare
 . simp at y;rcases y with rfl|rfl
   . exact ⟨L,l,N,U⟩
   . exact ⟨Z,p,b4,b5⟩
 . obtain ⟨o,es,ep,ho,r⟩:=hm;exact ⟨o,es,ep,k _ o (lu l) (lu p) ho,r⟩
 . refine (I.be b u e).bL (λc v a q=>k c v ?_ ?_ q) (λ_ q=>q) λ_ _ q=>q
   . rcases a with z|z
     . rw [z];exact w b u e
     . exact w c _ z
   . rcases a with z|z
     . rw [z];exact x b u e
     . exact x c _ z
end
def TQ (K:aH) (a:Addr) (c:List V):It:=⟨λi H=>fV K H a c/\i<c.length,λi H v e=> ∃p x,H p=none/\c[i]?=some x/\v= .ref p/\e=aU H p (.am [.int (i:Int),x]),λi H=>fV K H a c/\c.length<=i⟩
def vI {K:aH} (a l e:Addr) (xs:List V) (J:e≠l):Turn P w K (.Tuple elts n pos) (TQ K a xs) [e,l] e (λi h=>(∃g,IsEnum h e l (i:Int) g)/\h.IsListIter l a i) where
 mem:=by simp
 obj:=λi h st b q=>by
  obtain ⟨⟨g,m⟩,o,ho,hc,hd⟩:=st;simp at q;rcases q with rfl|rfl
  . exact ⟨_,m,λv z=>by cases z⟩
  . exact ⟨o,ho,λv z=>by rw [hd] at z;cases z⟩
 keep:=λi h h' st k=>by
  obtain ⟨⟨g,m⟩,j⟩:=st;exact ⟨⟨g,k e (by simp) _ m⟩,j.at λo x=>k l (by simp) o x⟩
 item:=by
  intro X hP hw hK hc i c s σ H E I L st hg;subst hP hw hK;obtain ⟨hq,hi⟩:=hg;obtain ⟨to,rv,p,hz⟩:=I.list hq;have hx:=cy hi;obtain ⟨u,hu,ru⟩:=rv.get hx;obtain ⟨⟨g,m⟩,j⟩:=st;have fe:=L e (by simp);have fi:=L l (by simp);refine wpAny_pyNext_enum_item m j p.isList (by simpa using hu) J λh' ho N hT hsz hk=>?_
  refine ⟨_,rfl,wpAny_letOwnedTupleGo_enum ho λx8 Gs O=>?_⟩;have Q:=c8 m;have U:l<s.heap.objs.size:=by obtain ⟨_,x,_⟩:=j;exact c8 x
  have BC:=I.be.fresh (bn _)
  have I1:aC X c σ (aU H s.heap.objs.size (.am [.int (i:Int),xs[i]])) {s with heap:=s.heap.push {cls:= .type "tuple",data:= .seq #[.int i s.toks,u]}}:=
    I.laid (λb o e=>cT _ e) (bn _) ⟨cE (show 2<=20 by decide) (by decide),[.int i s.toks,u],.cons ⟨_,rfl⟩ (.cons ru .nil),⟨_,fS _ rfl,rfl,_,rfl⟩⟩
  have Y:fX X c (aU H s.heap.objs.size (.am [.int (i:Int),xs[i]])) e:=⟨by rw [jY (eB Q)];exact fe.1,fe.2⟩
  have Z:fX X c (aU H s.heap.objs.size (.am [.int (i:Int),xs[i]])) l:=⟨by rw [jY (eB U)];exact fi.1,fi.2⟩
  have I2:=xy (t':=s.toks+1) I1 (λb o r B eo=>by
    refine (O.2 b r).trans ?_
    by_cases q:b=s.heap.objs.size
    . subst q;rw [fS _ rfl] at eo;rw [<-eo];exact hT
    . have Gu:s.heap.get? b=some o:=by
       rcases Heap.get?_push_cases eo with ⟨z,_⟩|z
       . exact absurd z q
       . exact z
      exact hk b o r B Gu) Y Z
  refine ⟨.ref s.heap.objs.size,_,I2,rfl,⟨_,_,BC,hx,rfl,rfl⟩,⟨⟨_,by simpa using Gs⟩,N.at λo y=>(O.2 l J.symm).trans y⟩,λb q=>?_⟩;simp at q;rcases q with rfl|rfl
  . exact Y.1
  . exact Z.1
 done:=by
  intro X hP hw hK hc i c s σ H E I L st hg;subst hP hw hK;obtain ⟨hq,hi⟩:=hg;obtain ⟨to,rv,p,hz⟩:=I.list hq;obtain ⟨⟨g,m⟩,j⟩:=st;have hl:=rv.length;refine wpAny_pyNext_enum_end (I.ok.hd hc) m j p.isList (by simp;omega) λh' eb=>⟨rfl,xy I (λb o r B eo=>eb b o B eo) (L e (by simp)) (L l (by simp))⟩
 self:=λ_ _ _ _ _ st h=>let ⟨⟨_,m⟩,_⟩:=st;DD m h
section
variable {X:Cx} {Y:List Expr} {n:Nat} {Z p U:Pos} {e:Expr} {f:T0}
def jJ:Nat->List D->List D
 |_,[]=>[]
 |k,d::r=> .am [.int (k:Int),d]::jJ (k+1) r
theorem Zg: ∀(k:Nat) (ds:List D),(jJ k ds).length=ds.length
 |_,[]=>rfl
 |k,d::r=>by simp [jJ,Zg (k+1) r]
theorem Zh: ∀(k i:Nat) (ds:List D),(jJ k ds)[i]?=(ds[i]?).map λd=> .am [.int ((k+i:Nat):Int),d]
 |k,i,[]=>by simp [jJ]
 |k,0,d::r=>by simp [jJ]
 |k,i+1,d::r=>by
  simp only [jJ,BZ];rw [Zh (k+1) i r];congr 1;funext d;congr 3;omega
def Y5 (f:T0):Sl->ak (List D):=λa=>f a>>=λd=>match d with
 | .ai ds=> .ok (jJ 0 ds)
 | .gv ds=> .ok (jJ 0 ds)
 |_=> .aj
def L3 (hg:Gl X "enumerate") (hm:X.mg "enumerate" =none) (h:DE X .s e f) (hs:c0 [e] X.env=[(false,eval e X.env)]:=by rfl):DI X (.Tuple Y n Z) (.Call (.Name "enumerate" p) [e] [] U) (Y5 f):=by
 have hE:PE X e (tE X.K .s f):=by nomatch h
 nomatch (show PI X (.Tuple Y n Z) (.Call (.Name "enumerate" p) [e] [] U) (tI X.K (Y5 f)) from by
  rintro g s J H R I ⟨G,H0,c,ds,k,ef,q⟩;obtain ⟨d,e1,e2⟩:=jd ef
  have hA:PA X [e] (tA X.K .s λc=>f c>>=λd=> .ok [d]):=by
   have:=za hE xg hs;rintro ps g s J H Q I ⟨G,H0,c,ds,k,ef,q⟩;obtain ⟨d,c1,c2⟩:=jd ef;cases c2;exact this ps g s J H Q I ⟨G,H0,c,d,k,c1,λv l j r1 _=>q [v] l j (.cons r1 .nil)⟩
  refine Call_ (Wx I hg hm boot_enumerate (CO (bA (hA U g s J H (λvs l=> ∃v,vs=[v]/\aq H l/\aN X.K (Sf G c J) l v d) I ⟨G,H0,c,[d],k,by show (f c>>=_)=_;rw [e1];rfl,λvs l j r1=>by obtain ⟨v,rfl,r⟩:=r1.one;exact ⟨v,rfl,j,r⟩⟩) λus j ⟨vs,l,I1,r1,v,ev,sm,rep⟩=>?_) hs rfl));subst ev;obtain ⟨u,rfl,ru⟩:=xO r1;have k1:=k.av sm
  have E: ∀(a:Addr) (w:List V) (L:List D) (P:Hp->Prop),u= .ref a->fV X.K l a w->ao X.K (Sf G c J) l w L->ds=jJ 0 L->P l->(∀m,P m->fV X.K m a w)->(∀B N m,cx c J l B N m->P m)->wpAny (model X.prog X.w) X.A (call (.type "enumerate") [u]) (λv j=>wpAny (model X.prog X.w) X.A (pyIter v) (EM X g J (.Tuple Y n Z) R) X.xe j) X.xe j:=by
   intro a w L P eu hq rs TR p0 pq Bz;subst eu;obtain ⟨to,rv,pl,hz⟩:=I1.list hq;refine call_enumerate_list pl.isList λh' he hit hsz hk=>DD he ?_
   have I2:=I1.kept (t':=j.toks) hk;refine ⟨j.heap.objs.size+1,[j.heap.objs.size+1,j.heap.objs.size],_,_,l,rfl,I2,vI a j.heap.objs.size (j.heap.objs.size+1) w (Nat.succ_ne_self _),⟨⟨_,he⟩,hit⟩,λb hb=>?_,?_⟩
   . simp at hb;rcases hb with rfl|rfl
     . exact I1.jN (rN _) (I1.be.fresh (rN _))
     . exact I1.jN (bn _) (I1.be.fresh (bn _))
   . refine q _ l P sm (λi m pp=>?_) p0 Bz;have hl:=rs.length;subst TR;rw [Zg];refine ⟨λhi=>⟨pq m pp,by omega⟩,λd hd x H2 y=>?_,λhi=>⟨pq m pp,by omega⟩⟩;obtain ⟨p,x',hp,yf,rfl,rfl⟩:=y;obtain ⟨d',TU,rd⟩:=rs.get' yf;rw [Zh,TU] at hd;cases hd;exact .inr ⟨p,_,_,hp,rfl,rfl,rfl,.cons (by rw [yB];exact .int _) (.cons rd .nil)⟩
  cases d with
  |ai L=>
   cases e2;obtain ⟨a,w,rfl,O,na,rs⟩:=rep.eM;exact E a w L (λH=>H a=some (.ai w)) ru (.of O) rs.low rfl O (λm z=> .of z) λB N m fr=>fr.keep a _ O na.1
  |gv L=>
   cases e2;obtain ⟨a,w,rfl,O,rs⟩:=rep.pW;refine E a w L (λH=>pV X.K H a w) ru O.rS rs rfl O (λm z=>z.rS) λB N m fr=>?_
   rcases O with ⟨o,eo⟩|z
   . exact .inl ⟨o,fr.keep a _ eo λow=>(k1.pX ow eo).elim⟩
   . exact .inr z
  |_=>cases e2)
end
end M
namespace M
open PySem PySem.Spec L2
open Classical in
noncomputable instance T1:DecidableEq D:=λa b=>tX (a=b)
mutual
def nb:D->Bool
 | .int _=>true
 | .str _=>true
 | .am ds=>pD ds
 |_=>false
def pD:List D->Bool
 | []=>true
 |d::r=>nb d&&pD r
end
theorem K2: ∀ {ds:List D} {d:D},pD ds=true->d∈ds->nb d=true
 |x::r,d,h,ht=>by
  simp only [pD,gF] at h;rcases cQ.mp ht with rfl|ht
  . exact h.1
  . exact K2 h.2 ht
theorem ke: ∀ {ds:List D},(∀d∈ds,nb d=true)->pD ds=true
 | [],_=>rfl
 |x::r,h=>by simp only [pD,gF];exact ⟨h x (by simp),ke λd hd=>h d (by simp [hd])⟩
def L4 (a:D):Prop:=nb a=true-> ∀b,nb b=true->(eE a b=true↔a=b)
theorem UH: ∀ {c:List D},(∀a∈c,L4 a)->pD c=true-> ∀bs,pD bs=true->(cH c bs=true↔c=bs)
 | [],_,_,[],_=>by simp [cH]
 | [],_,_,b::bs,_=>by simp [cH]
 |a::c,_,_,[],_=>by simp [cH]
 |a::c,h,e,b::bs,g=>by
  simp only [pD,gF] at e g;simp only [cH,gF,tF];rw [h a (by simp) e.1 b g.1,UH (λx i=>h x (by simp [i])) e.2 bs g.2]
def T3 (a:D):L4 a:=by
 refine D.ind ?_ ?_ ?_ ?_ ?_ ?_ ?_ ?_ a
 . intro h;cases h
 . intro b h;cases h
 . intro i _ b e;cases b<;>first| (cases e;done)|simp [QB]
 . intro x _ b e;cases b<;>first| (cases e;done)|simp [QB]
 . intro ds g j b e
   cases b with
   |am l=>
    simp;exact UH g j l e
   |int i=>simp [QB]
   |str x=>simp [QB]
   |_=>cases e
 . intro ds _ h;cases h
 . intro ds _ h;cases h
 . exact ⟨λks ds _ h=>(by cases h),λks ds _ h=>(by cases h),λc h=>(by cases h),λks ds _ h=>(by cases h),λks ds _ h=>(by cases h),λc m ds _ h=>(by cases h),λB n h=>(by cases h),λds h=>(by cases h)⟩
def L5 (c:nb a=true) (g:nb b=true):eE a b=decide (a=b):=by
 have:=T3 a c b g
 by_cases h:a=b
 . rw [decide_eq_true h];exact this.mpr h
 . rw [decide_eq_false h]
   cases e:eE a b with
   |false=>rfl
   |true=>exact absurd (this.mp e) h
def Y3 (d:D):nb d=true->D.eO d=true:=by
 refine D.ind (P:=λd=>nb d=true->D.eO d=true) ?_ ?_ ?_ ?_ ?_ ?_ ?_ ?_ d
 . intro h;cases h
 . intro b h;cases h
 . intro i _;rfl
 . intro x _;rfl
 . intro ds e h;simp only [Ll];exact Vm λt a=>e t a (K2 h a)
 . intro ds _ h;cases h
 . intro ds _ h;cases h
 . exact ⟨λks ds _ h=>(by cases h),λks ds _ h=>(by cases h),λc h=>(by cases h),λks ds _ h=>(by cases h),λks ds _ h=>(by cases h),λc g ds _ h=>(by cases h),λB j h=>(by cases h),λds h=>(by cases h)⟩
def L6 (d:D):nb d=true->d.ll=true:=by
 refine D.ind (P:=λd=>nb d=true->d.ll=true) ?_ ?_ ?_ ?_ ?_ ?_ ?_ ?_ d
 . intro h;cases h
 . intro b h;cases h
 . intro i _;rfl
 . intro x _;rfl
 . intro ds e h;exact m8.mpr λt a=>e t a (K2 h a)
 . intro ds _ h;cases h
 . intro ds _ h;cases h
 . exact ⟨λks ds _ h=>(by cases h),λks ds _ h=>(by cases h),λc h=>(by cases h),λks ds _ h=>(by cases h),λks ds _ h=>(by cases h),λc g ds _ h=>(by cases h),λB j h=>(by cases h),λds h=>(by cases h)⟩
open PyProof.Rows hiding St
abbrev Gv (K:aH) (c:Str) (C:Addr):Prop:=cF K ce c=some (some (.ref C))
section
open PySem.W PySem.Calls
def T4 {K:Frag} {H:Heap->Prop} (r: ∀(M:Model) (h:Heap),K.In h->H h->Looks M h (typeOf x) t) (e:nI K t c=some true):Answers (λs=>K.In s.heap/\H s.heap) x c true:=by
 intro bU tk a w A R s u;obtain ⟨o,g,d,i,os⟩:=s;obtain ⟨⟨X,p⟩,j⟩:=u;have LT:=r (model a w) o X p;unfold nI at e;unfold mS.«isinstance.nested»;refine ax (LT.at ?_)
 by_cases q:(t==c)=true
 . rw [if_pos q]
   first
    | ((repeat lk);exact j i)
    |exact ax (r0 (j i))
    |exact ax (r0 (aV (j i)))
 . rw [if_neg q] at e;rw [if_neg q];obtain ⟨m,n,l⟩:=kit_cls X e;have v:Looks (model a w) o (isInstance x c) true:=LT.andThen l;refine ax (m.at ?_);rw [if_pos (by decide)]
   k_delta "plainIsInstance"
   refine ax (ax (n.at ?_));simp;refine ax (v.at ?_)
   first
    |exact aV (aV (j i))
    | (simp;first|exact aV (aV (j i))|exact aV (j i)|exact ax (aV (aV (j i))))
def T5 {K:Frag} {H:Heap->Prop} (g: ∀(M:Model) (h:Heap),K.In h->H h->Looks M h (typeOf x) t)
  (X:K.In s.heap) (p:H s.heap) (e:nI K t c=some true) (i:x≠ .builtin "__main__.__loader__#opaque") (h: ∀tk,Q (.bool true) {s with toks:=tk}):
  wpAny (model a w) A (call (.builtin "isinstance") [x,c]) Q E s:=
 call_isinstance
  (λa w A R s j=>isinstance_outer (T4 g e 0 _ a w A R s j) i) ⟨⟨X,p⟩,h⟩
end
section
variable {X:Cx}
def vm:mV "dict" =some (.type "dict"):=by decide+kernel
end
theorem ao.set {K:aH} {A:VJ} {H:Hp} {v:V} {d:D} (a:aN K A H v d): ∀ {c:List V} {ds:List D} (j:Nat),ao K A H c ds->ao K A H (c.set j v) (ds.set j d)
 |_,_,_,.nil=> .nil
 |_,_,0,.cons _ t=> .cons a t
 |_,_,j+1,.cons h t=> .cons h (ao.set a j t)
def Gw (i:Nat) (c fv:T0):Sl->ak bg:=λa=>fM i a>>=λds=>fv a>>=λd=>c a>>=λe=>match e with
 | .int n=>match pR ds.length n with
  |some j=> .ok (.nx (a.set i (.ay (.ai (ds.set j d)))))
  |none=> .aj
 |_=> .aj
def UV {X:Cx} {Y:Lv} {e1 e2:Expr} {N fv:T0} {g c p:Pos} {x:Str} (i:Nat) (Z:DE X Y e1 N) (hv:DE X .s e2 fv) (hN:X.N[i]?=some x:=by rfl) (B:gs X.env.scope x:=by exact gu rfl)
   (hd:Yi x:=by decide) (I:Yh x:=by decide)
   (w: ∀v,ot (.Subscript (.Name x p) e1 c) X.env v=(do
    let z<-nT [v] (eval (.Name x p) X.env)
    let J<-nT [v,z] (eval e1 X.env)
    rK c
    nT [v,z,J] (setItem z J v)
    release [v,z,J] []):=by intro _;rfl)
   (hs:A4 [.Subscript (.Name x p) e1 c] e2 g.line X.env=pure false:=by rfl) (hw:A5 [.Subscript (.Name x p) e1 c] e2 X.env=pure none:=by rfl)
   (h1:(lh [.Subscript (.Name x p) e1 c] X.env).map (·.2)=[ot (.Subscript (.Name x p) e1 c) X.env]:=by rfl):
   DS X (.Assign [.Subscript (.Name x p) e1 c] e2 g) (Gw i N fv):=by
 nomatch (
  PS.imp (Iw hv (O8 (xM hN B hd I) Z Qa w) hs hw h1) λE σ H=>by
   rintro ⟨G,O,h,o,k,l,q⟩;obtain ⟨ds,c1,l⟩:=jd l;obtain ⟨d,c2,l⟩:=jd l;obtain ⟨kd,c3,e⟩:=jd l;have Q:=Jm c1;obtain ⟨a,xs,w,hx,U⟩:=Jl k Q
   cases kd with
   |int n=>
    dsimp only at e
    cases L:pR ds.length n with
    |none=>rw [L] at e;cases e
    |some j=>
     rw [L] at e;cases e;refine ⟨G,O,h,d,k,c2,λv H1 m r1 _=>⟨.ref a,w,G,O,h,.int n,k.av m,c3,λy H2 r r2 _=>?_⟩⟩;have u:=r _ _ (m _ _ hx);cases (r2.aO Lv.bu).dC;refine ⟨a,xs,n,j,rfl,rfl,u,by rw [U.length];exact L,?_⟩;have W:=((k.av m).av r).write Q w u (ao.set (r1.av r) j ((U.av m).av r));exact q σ _ W.1 ((W.2.av r).av m)
   |_=>cases e)
section
variable {prog:cp} {w:World} {A:cC} {E:U9} {s:aL} {u t:Addr} {i:Nat} {y:Array Value} {Q:U9}
def Vx (a:s.heap.IsTupleIter u t i) (j:s.heap.IsTuple t y) (l:y[i]?=some x) (m: ∀e,e.IsTupleIter u t (i+1)->rJ u s.heap e->Q x {s with heap:=e}):
  wpAny (model prog w) A (DF (.ref u)) Q E s:=by
 obtain ⟨o,c,n,hd⟩:=id a;obtain ⟨p,g,_,q,h⟩:=j;unfold DF
 refine ax (vt a.typeIs DH (so DH a.typeIs F.entry_tuple_iterator_next
  (show wpAny _ _ (field (.ref u) 0>>=_) _ _ s from ax (vr c hd rfl (show wpAny _ _ (if (dN t==om)=true then _ else _) _ _ s from ?_))) (F.args_tuple_iterator_next_1 _)))
 rw [if_neg (show¬((dN t==om)=true) from ik)];refine (show wpAny _ _ (field (.ref u) 1>>=_) _ _ s from ax (vr c hd rfl (show wpAny _ _ (seqItems? (.ref t)>>=_) _ _ s from ax (Ae g h ?_))));simp only [sU,l];exact ax (Dv c hd (by simp) (aV ⟨x,rfl,aV (m _ ⟨_,C1 _ c (Obj.isFreed_of_fields (Dw hd _)),(Obj.cls_mapFields ..).trans n,by rw [Dw hd];simp [rawInt]⟩ (AI ..))⟩))
def L7 (l:A.handled=none) (a:s.heap.IsTupleIter u t i) (m:s.heap.IsTuple t y) (n:y[i]?=none)
  (p: ∀c e,Heap.ExtBut u s.heap c->(∃o,c.get? e=some o/\o.cls= .type "StopIteration")->E (.ref e) {s with heap:=c}):
  wpAny (model prog w) A (DF (.ref u)) Q E s:=by
 obtain ⟨o,g,q,hd⟩:=id a;obtain ⟨r,h,_,v,j⟩:=m;unfold DF
 refine ax (vt a.typeIs DH (so DH a.typeIs F.entry_tuple_iterator_next
  (show wpAny _ _ (field (.ref u) 0>>=_) _ _ s from ax (vr g hd rfl (show wpAny _ _ (if (dN t==om)=true then _ else _) _ _ s from ?_))) (F.args_tuple_iterator_next_1 _)))
 rw [if_neg (show¬((dN t==om)=true) from ik)];refine (show wpAny _ _ (field (.ref u) 1>>=_) _ _ s from ax (vr g hd rfl (show wpAny _ _ (seqItems? (.ref t)>>=_) _ _ s from ax (Ae h j ?_))));simp only [sU,n];refine ax (r0 (ax (Dv g hd (by simp) (show wpAny _ _ (newExc (.type "StopIteration") []>>=_) _ _ _ from ax ?_))));simp only [newExc,newTuple];refine ax (pL (ax (wpAny_of_eq (by first|rfl| (simp;rfl)) (pL ?_ (by size_fits)))) (by size_fits));simp only [raiseNew];refine ax (wpAny_handled ?_);rw [show A.in1.handled=none from l];exact ax (aV (wpAny_throw (p _ _ (((AI ..).extBut.push _).push _) ⟨_,fS _ rfl,rfl⟩)))
def Vy (p:A.handled=none) (u l:Addr) (g:l≠u) (y:Array Value):Draws prog w A u [u,l] y.size (λi v=>y[i]?=some v) (λi h=>h.IsTupleIter u l i/\h.IsTuple l y) where
 live:=λ_ _ st=>let ⟨o,j,_⟩:=st.1;⟨o,j⟩
 frame:=λ_ _ _ st m=>⟨st.1.at λo e=>m u (by simp) o e,let ⟨o,j,r⟩:=st.2;⟨o,m l (by simp) o j,r⟩⟩
 item:=λi s Q E n st q=>Vx st.1 st.2 (x:=y[i]) (by simp [n]) λz a c=>q _ z s.toks (by simp [n]) ⟨a,st.2.extBut c.extBut g⟩ c
 done:=λs Q E st B=>L7 p st.1 st.2 (by simp) B
def Vz (g:A.handled=none) (u l:Addr) (y:Array Value) (i:Nat) (p:y.size<=i):Draws prog w A u [u,l] i (λ_ _=>True) (λj h=>j=i/\h.IsTupleIter u l j/\h.IsTuple l y) where
 live:=λ_ _ st=>let ⟨o,a,_⟩:=st.2.1;⟨o,a⟩
 frame:=λ_ _ _ st c=>⟨st.1,st.2.1.at λo e=>c u (by simp) o e,let ⟨o,a,r⟩:=st.2.2;⟨o,c l (by simp) o a,r⟩⟩
 item:=λj s Q E m st q=>absurd st.1 (eB m)
 done:=λs Q E st n=>L7 g st.2.1 st.2.2 (by simp;omega) n
end
open AutoSeq1 (wpAny_loadPart') in
theorem VA (l:Addr) (a:Array Value) (n:Nat) (i:Option Addr) (p:Array (Option Value)):
  PySem.Meets (mS.«enumerate.__new__» ⟨[.type "enumerate",.ref l],[]⟩) (λ_ R s=>s.heap.get? l=some {cls:= .type "tuple",dict:=i,data:= .seq a n,slots:=p}/\
    R (.ok (.ret (.ref (s.heap.push {cls:= .type "tuple_iterator",data:= .fields #[.ref l,.int 0 0]}).objs.size)))
     {s with heap:=(s.heap.push {cls:= .type "tuple_iterator",data:= .fields #[.ref l,.int 0 0]}).push {cls:= .type "enumerate",data:= .fields #[.none,.bool false,.ref s.heap.objs.size,rawInt 0,.none,.none]}}):=
 .of_wp λj w A R s h=>by
  obtain ⟨q,g,d,tk,os⟩:=s;obtain ⟨e,h⟩:=h;have m:=sub_enumerate;have o:Heap.IsTuple (Shared.heap ⟨q,g,d,tk,os⟩) l a:=⟨_,e,rfl,n,rfl⟩
  wp_walk using BB e
  refine wpAny_stack_any λst=>aV ?_
  split
  . rename_i c _ _ _ _ _;cases (c==tZ "enumerate")<;>(wp_walk using BB e,wpAny_pyIter_tuple o;exact ⟨_,rfl,h⟩)
  . wp_walk using BB e,wpAny_pyIter_tuple o
    exact ⟨_,rfl,h⟩
section
variable {prog:cp} {w:World} {A:cC} {E:U9} {s:aL}
def vj (r:s.heap.IsTuple l a)
  (h: ∀e,IsEnum e (s.heap.objs.size+1) s.heap.objs.size 0 .none->e.IsTupleIter s.heap.objs.size l 0->(∀b o,s.heap.get? b=some o->e.get? b=some o)->Q (.ref (s.heap.objs.size+1)) {s with heap:=e}):
  wpAny (model prog w) A (call (.type "enumerate") [.ref l]) Q E s:=by
 obtain ⟨⟨c,i,dt,u⟩,v,y,n,hd⟩:=r;cases (show c= .type "tuple" from y);cases (show dt= .seq a n from hd);refine callType_new F.called_enumerate (by decide) (F.typeCall_enumerate_1 _) (F.newCall_enumerate_1 _) (λobj=>F.args_object_init_2 obj _) F.entry_enumerate_new (VA l a n i u) ⟨v,?_⟩;generalize j:s.heap.push {cls:= .type "tuple_iterator",data:= .fields #[.ref l,.int 0 0]}=g;have q:g.objs.size=s.heap.objs.size+1:=by rw [<-j];exact An ..
 have m:g.get? s.heap.objs.size=some {cls:= .type "tuple_iterator",data:= .fields #[.ref l,.int 0 0]}:=by rw [<-j];exact fS _ rfl
 have z: ∀b o,s.heap.get? b=some o->g.get? b=some o:=λb o x=>by rw [<-j];exact cT _ x
 have p:=fS g (o:={cls:= .type "enumerate",data:= .fields #[.none,.bool false,.ref s.heap.objs.size,rawInt 0,.none,.none]}) rfl;rw [q] at p;rw [q];exact ⟨⟨_,p,rfl⟩,h _ p ⟨_,cT _ m,rfl,rfl⟩ λb o x=>cT _ (z b o x)⟩
end
def Gx (K:aH) (a:Addr) (c:List V):It:=⟨λi H=>iX K H a c/\i<c.length,λi H v e=> ∃p x,H p=none/\c[i]?=some x/\v= .ref p/\e=aU H p (.am [.int (i:Int),x]),λi H=>iX K H a c/\c.length<=i⟩
def U0 {K:aH} (a g e:Addr) (xs:List V) (B:e≠g) (Wg:a≠g) (Wh:a≠e):Turn P w K (.Tuple elts n pos) (Gx K a xs) [e,g] e (λi h=>(∃j,IsEnum h e g (i:Int) j)/\h.IsTupleIter g a i) where
 mem:=by simp
 obj:=λi h st b r=>by
  obtain ⟨⟨j,q⟩,o,ho,hc,hd⟩:=st;simp at r;rcases r with rfl|rfl
  . exact ⟨_,q,λv z=>by cases z⟩
  . exact ⟨o,ho,λv z=>by rw [hd] at z;cases z⟩
 keep:=λi h h' st k=>by
  obtain ⟨⟨j,q⟩,l⟩:=st;exact ⟨⟨j,k e (by simp) _ q⟩,l.at λo x=>k g (by simp) o x⟩
 item:=by
  intro X hP hw hK hc i c s σ H E I N st hg;subst hP hw hK;obtain ⟨hq,hi⟩:=hg;obtain ⟨m,rv,p,hz⟩:=I.tuple hq;have hx:=cy hi;obtain ⟨u,hu,ru⟩:=rv.get hx;obtain ⟨⟨j,q⟩,l⟩:=st;have fe:=N e (by simp);have fi:=N g (by simp);have hl:=rv.length;refine wpAny_pyNext_enum_itemD (Vy (A:=X.A.in1) (I.ok.hd hc) g a Wg m.toArray) q ⟨l,show s.heap.IsTuple a m.toArray from p⟩ (by simp;omega) B (by simp [B,lu Wh]) λx h' tk px ho X0 hT hsz hk=>?_
  have X1:x=u:=by
    have:m.toArray[i]?=some u:=by simpa using hu
    rw [this] at px;exact (gG px).symm
  subst X1;refine ⟨_,rfl,wpAny_letOwnedTupleGo_enum ho λx8 Gs O=>?_⟩;have Q:=c8 q;have U:g<s.heap.objs.size:=by obtain ⟨_,x,_⟩:=l;exact c8 x
  have BC:=I.be.fresh (bn _)
  have I1:aC X c σ (aU H s.heap.objs.size (.am [.int (i:Int),xs[i]])) {s with heap:=s.heap.push {cls:= .type "tuple",data:= .seq #[.int i tk,x]}}:=
    I.laid (λb o e=>cT _ e) (bn _) ⟨cE (show 2<=20 by decide) (by decide),[.int i tk,x],.cons ⟨_,rfl⟩ (.cons ru .nil),⟨_,fS _ rfl,rfl,_,rfl⟩⟩
  have Y:fX X c (aU H s.heap.objs.size (.am [.int (i:Int),xs[i]])) e:=⟨by rw [jY (eB Q)];exact fe.1,fe.2⟩
  have Z:fX X c (aU H s.heap.objs.size (.am [.int (i:Int),xs[i]])) g:=⟨by rw [jY (eB U)];exact fi.1,fi.2⟩
  have I2:=xy (t':=tk+1) I1 (λb o J L eo=>by
    refine (O.2 b J).trans ?_
    by_cases r:b=s.heap.objs.size
    . subst r;rw [fS _ rfl] at eo;rw [<-eo];exact hT
    . have Gu:s.heap.get? b=some o:=by
       rcases Heap.get?_push_cases eo with ⟨z,_⟩|z
       . exact absurd z r
       . exact z
      exact hk b o J L Gu) Y Z
  refine ⟨.ref s.heap.objs.size,_,I2,rfl,⟨_,_,BC,hx,rfl,rfl⟩,⟨⟨_,by simpa using Gs⟩,X0.1.at λo y=>(O.2 g B.symm).trans y⟩,λb r=>?_⟩;simp at r;rcases r with rfl|rfl
  . exact Y.1
  . exact Z.1
 done:=by
  intro X hP hw hK hc i c s σ H E I N st hg;subst hP hw hK;obtain ⟨hq,hi⟩:=hg;obtain ⟨m,rv,p,hz⟩:=I.tuple hq;obtain ⟨⟨j,q⟩,l⟩:=st;have hl:=rv.length;refine wpAny_pyNext_enum_endD (Vz (A:=X.A.in1) (I.ok.hd hc) g a m.toArray i (by simp;omega)) q ⟨rfl,l,show s.heap.IsTuple a m.toArray from p⟩ λh' eb=>⟨rfl,xy I (λb o J L eo=>eb b o L eo) (N e (by simp)) (N g (by simp))⟩
 self:=λ_ _ _ _ _ st h=>let ⟨⟨_,q⟩,_⟩:=st;DD q h
section
variable {X:Cx} {elts:List Expr} {n:Nat} {sh p pos:Pos} {e:Expr} {f:T0}
def B0 (f:T0):Sl->ak (List D):=λa=>f a>>=λd=>match d with
 | .am ds=> .ok (jJ 0 ds)
 |_=> .aj
def X2 (hg:Gl X "enumerate") (hm:X.mg "enumerate" =none) (h:DE X .s e f) (hs:c0 [e] X.env=[(false,eval e X.env)]:=by rfl):DI X (.Tuple elts n sh) (.Call (.Name "enumerate" p) [e] [] pos) (B0 f):=by
 have hE:PE X e (tE X.K .s f):=by nomatch h
 nomatch (show PI X (.Tuple elts n sh) (.Call (.Name "enumerate" p) [e] [] pos) (tI X.K (B0 f)) from by
  rintro j s z H R I ⟨G,E,c,ds,k,J,q⟩;obtain ⟨d,e1,e2⟩:=jd J
  have hA:PA X [e] (tA X.K .s λc=>f c>>=λd=> .ok [d]):=by
   have:=za hE xg hs;rintro ps j s z H Q I ⟨G,E,c,ds,k,J,q⟩;obtain ⟨d,c1,c2⟩:=jd J;cases c2;exact this ps j s z H Q I ⟨G,E,c,d,k,c1,λv l g w _=>q [v] l g (.cons w .nil)⟩
  refine Call_ (Wx I hg hm boot_enumerate (CO (bA (hA pos j s z H (λL l=> ∃v,L=[v]/\aq H l/\aN X.K (Sf G c z) l v d) I ⟨G,E,c,[d],k,by show (f c>>=_)=_;rw [e1];rfl,λL l g w=>by obtain ⟨v,rfl,r⟩:=w.one;exact ⟨v,rfl,g,r⟩⟩) λus g ⟨L,l,m,w,v,ev,sm,rep⟩=>?_) hs rfl));subst ev;obtain ⟨u,rfl,ru⟩:=xO w;have k1:=k.av sm
  cases d with
  |am es=>
   cases e2;obtain ⟨a,N,rfl,B,rs⟩:=rep.gI;cases ru;have hq:iX X.K l a N:= .inl (.of B);obtain ⟨O,rv,pl,hz⟩:=m.tuple hq;have cL:a<g.heap.objs.size:=by obtain ⟨o,ho,_⟩:=pl;exact c8 ho
   refine vj (show g.heap.IsTuple a O.toArray from pl) λh' he U hk=>DD he ?_
   have I2:=m.kept (t':=g.toks) hk;refine ⟨g.heap.objs.size+1,[g.heap.objs.size+1,g.heap.objs.size],_,_,l,rfl,I2,U0 a g.heap.objs.size (g.heap.objs.size+1) N (Nat.succ_ne_self _) (eB cL) (eB (DJ cL)),⟨⟨_,he⟩,U⟩,λb hb=>?_,?_⟩
   . simp at hb;rcases hb with rfl|rfl
     . exact m.jN (rN _) (m.be.fresh (rN _))
     . exact m.jN (bn _) (m.be.fresh (bn _))
   . refine q _ l (λH=>H a=some (.am N)) sm (λi H' pp=>?_) B λenv' pY H' fr=>fr.keep a _ B λow=>(k1.pX ow B).elim
     have hl:=rs.length;rw [Zg];refine ⟨λhi=>⟨.inl (.of pp),by omega⟩,λd hd x H2 y=>?_,λhi=>⟨.inl (.of pp),by omega⟩⟩;obtain ⟨p,x',hp,Y,rfl,rfl⟩:=y;obtain ⟨d',Z,rd⟩:=rs.get' Y;rw [Zh,Z] at hd;cases hd;exact .inr ⟨p,_,_,hp,rfl,rfl,rfl,.cons (by rw [yB];exact .int _) (.cons rd .nil)⟩
  |_=>cases e2)
end
section
variable {X:Cx} {K:aH}
def n9:D->D->ak D
 |a,.a6=> .ok (.bl (!a.lW))
 |_,_=> .aj
def L8:gz K (λx y H Q=>y= .a6/\Q (.bl (!decide (x= .a6))) H) n9:=by
 intro x y H a b d Q c g e q;unfold n9 at e
 split at e
 . cases e;refine ⟨g.su,?_⟩;rw [Yk c];exact q _ (lm _)
 . cases e
end
inductive X3 where
 |nx (env:Sl)|rt (b:Bool) (env:Sl)
abbrev At (c:L2.St) (i:Nat) (a:Addr):Prop:=c[i]?=some (some (V.ref a))
abbrev FI:=List D->List aR->List D->ak (Bool×List aR×List D)
section
variable {X:Cx}
def sA:D->Option Int->Option Int->ak D
 | .gv ds,lo,a=> .ok (.ai (cutD ds lo a))
 |_,_,_=> .aj
def ZQ {lo:Option Expr} (w:DE X .s e f) (y:DO X lo B) (E:DO X I J):
   DE X .t (.Subscript e (.Slice lo I none p2) L) (jM f B J sA):=by
 nomatch (
  PE.imp (W7 mh w y E) λσ H Q=>by
   rintro ⟨G,j,g,d,k,h,q⟩;obtain ⟨a,e1,h⟩:=jd h;obtain ⟨l,e2,h⟩:=jd h;obtain ⟨m,N,u⟩:=jd h;refine ⟨G,j,g,a,k,e1,λx H1 n O _=>⟨G,j,g,l,k.av n,e2,λH2 o=>⟨G,j,g,m,(k.av n).av o,N,λU v=>?_⟩⟩⟩;have r:=n.trans (o.trans v)
   cases a with
   |gv ds=>
    cases u;obtain ⟨b,Y,rfl,Z,rs⟩:=((O.av o).av v).pW;refine ⟨b,Y,rfl,Z.rS,λp i=>q _ _ (r.trans (aq.aU i)) (.ai jy (k.new p (aq.free r i)) (((Vr rs).laid i).aO λc z=>⟨z.1,z.2⟩)) ((qr (aq.refl U) i).av r)⟩
   |_=>cases u)
def L9 (i j:Int):Prop:=0<j/\j<2^200
def Ud:dB X (ly .FloorDiv) (rI L9 λi j=> .int (i/j)):=A8 λi j _ _ _ _ _ a q=>by
 have e:=a.1;have g:=a.2;refine floordiv_int (by omega) (by rw [ER i (by omega)];exact q) (.inl (PyProof.noPylong_of_log2 ?_));have c:j.natAbs<2^200:=by omega
 exact gR ((Nat.log2_lt (by omega)).mpr c) (by omega)
abbrev yX:Int->Int->Prop:=λ_ j=>0<j/\j<2^200
def Ue {K:aH}:gz K (rI L9 λi j=> .int (i/j)) (iG yX λi j=> .int (i/j)):=qR (λ_ _ h=>h) λi j=>m7 _
abbrev bQ:=iG yX λi j=> .int (i/j)
end
section
variable {X:Cx} {e:Expr}
def Bb:D->Bool
 | .a6=>true
 | .bl _=>true
 | .int _=>true
 |_=>false
end
def nk (f:Str):List Str->List D->Option D
 |n::a,d::ds=>if n=f then some d else nk f a ds
 |_,_=>none
def km (f:Str):List Str->List Str
 | []=>[f]
 |n::a=>if n=f then n::a else n::km f a
def kn (f:Str) (d:D):List Str->List D->List D
 | [],_=>[d]
 |n::c,e::a=>if n=f then d::a else e::kn f d c a
 |_::_,[]=>[]
theorem QJ {K:aH}: ∀ {fs:List (Str×V)} {ds:List D} {d:D},ao K A H (fs.map (·.2)) ds->nk f (fs.map (·.1)) ds=some d-> ∃v,fs.lookup f=some v/\aN K A H v d
 | [],_,_,_,h=>by simp [nk] at h
 | (n,v)::r,_,d,.cons q t,h=>by
  by_cases e:n=f
  . subst e;simp only [e9,nk,if_pos] at h;cases h;exact ⟨v,by simp [nX],q⟩
  . simp only [e9,nk,if_neg e] at h;obtain ⟨a,c,g⟩:=QJ t h;exact ⟨a,by rw [qh];simp [show (f==n)=false from by simpa using λz=>e z.symm,c],g⟩
theorem VP {K:aH} (a:aN K A H v d): ∀ {fs:List (Str×V)} {ds:List D},ao K A H (fs.map (·.2)) ds->(eJ f v fs).map (·.1)=km f (fs.map (·.1))/\ao K A H ((eJ f v fs).map (·.2)) (kn f d (fs.map (·.1)) ds)
 | [],_,.nil=>⟨rfl,.cons a .nil⟩
 | (n,u)::r,_,.cons q t=>by
  by_cases e:n=f
  . simp only [eJ,e9,km,kn,if_pos e];exact ⟨trivial,.cons a t⟩
  . simp only [eJ,e9,km,kn,if_neg e];obtain ⟨c,g⟩:=VP a t;exact ⟨by rw [c],.cons q g⟩
theorem Zs: ∀ {fs:List (Str×V)},(fs.map (·.1)).contains f=false->fs.lookup f=none
 | [],_=>rfl
 | (n,u)::r,h=>by
  simp only [e9,List.contains_cons,Bool.or_eq_false_iff] at h;rw [qh];simp [h.1,Zs h.2]
def aN.objE {K:aH} (r:aN K A H v (.obj c ns ds)): ∃a C dx fs,v= .ref a/\H a=some (.ins C dx fs)/\A a/\cF K ce c=some (some (.ref C))/\fs.map (·.1)=ns/\ao K (λc=>A c/\c≠a) H (fs.map (·.2)) ds:=by
 cases r with
 |obj e a g h r=>subst h;exact ⟨_,_,_,_,rfl,e,a,g.1,g.2,r⟩
def uK {K:aH} {i:Nat} (k:aD K G q g h H) (l:g[i]?=some (.ay (.obj c m ds))):
  ∃a C dx fs,h[i]?=some (some (.ref a))/\H a=some (.ins C dx fs)/\cF K ce c=some (some (.ref C))/\fs.map (·.1)=m/\ao K (Sf G g h) H (fs.map (·.2)) ds:=by
 obtain ⟨a,n,_,o⟩:=k.ay i _ l
 cases o with
 |obj e j p r=>subst p;exact ⟨a,_,_,_,n,e,j.1,j.2,r⟩
structure lI (K:aH) (c f:Str):Prop where
 ex: ∃C,cF K ce c=some (some (.ref C))/\gl K C/\eK K C f
def lI.at {K:aH} (h:lI K c f) (e:cF K ce c=some (some (.ref C))):gl K C/\eK K C f:=by
 obtain ⟨i,a,g⟩:=h.ex;rw [e] at a;cases a;exact g
def rg (c f:Str):D->ak D
 | .obj a e ds=>a5 (a=c) (match nk f e ds with
  |some d=> .ok d
  |none=> .aj)
 |_=> .aj
def UB (h:rg c f o= .ok d): ∃a ds,o= .obj c a ds/\nk f a ds=some d:=by
 unfold rg at h
 split at h
 . rename_i j a ds;obtain ⟨i,g⟩:=ju h;subst i
   cases e:nk f a ds with
   |none=>rw [e] at g;cases g
   |some l=>rw [e] at g;cases g;exact ⟨a,ds,rfl,e⟩
 . cases h
def gO (c f:Str) (e:T0):Sl->ak D:=λa=>e a>>=rg c f
section
variable {X:Cx} {e:Expr} {fo:T0} {pos p:Pos} {c f:Str}
def xE (i:Nat) {x:Str} (j:lI X.K c f) (hN:X.N[i]?=some x:=by rfl) (B:gs X.env.scope x:=by exact gu rfl)
   (hd:Yi x:=by decide) (l:Yh x:=by decide)
   (E:mZ (.Name x p) f X.env (eval (.Name x p) X.env)=eval (.Name x p) X.env:=by rfl):DE X .s (.Attribute (.Name x p) f pos) (gO c f (gJ i)):=by
 nomatch (
  PE.imp (PH (xM hN B hd l) E) λN H Q=>by
   rintro ⟨G,O,I,d,k,J,q⟩;obtain ⟨o,e1,e2⟩:=jd J;obtain ⟨U,ds,rfl,y⟩:=UB e2;rcases KD e1 with z|z
   . obtain ⟨v,m,L⟩:=k.ae i _ z;obtain ⟨a,C,dx,fs,rfl,n,_,g,r,u⟩:=L.objE;subst r;obtain ⟨h,w,g2⟩:=QJ u y;exact ⟨_,m,a,C,dx,fs,h,rfl,n,(j.at g).1,(j.at g).2,w,q h H (aq.refl H) (g2.aO λ_ z=>z.1) trivial⟩
   . obtain ⟨a,C,dx,fs,m,n,g,r,u⟩:=uK k z;subst r;obtain ⟨h,w,g2⟩:=QJ u y
     exact ⟨_,m,a,C,dx,fs,h,rfl,n,(j.at g).1,(j.at g).2,w,q h H (aq.refl H) g2 trivial⟩)
end
inductive ff where
 |nx (env:Sl)|rt (d:D) (env:Sl)
def Gy (K:aH) (G:VJ) (j:Hp) (i:Nat) (a:Addr) (h:Sl) (l:L2.St) (H:Hp) (E:Ends):ff->Prop
 | .nx c=> ∀e g,aD K G j c e g->At e i a->cx h l H c e g->E.nx e g
 | .rt d c=> ∀v e g,aD K G j c e g->At e i a->cx h l H c e g->aN K (Sf G c e) g v d->E.rt v g
def Ma (K:aH) (i:Nat) (g:Sl->ak ff):TS:=λE e H=> ∃G h c o a,aD K G h c e H/\At e i a/\g c= .ok o/\Gy K G h i a c e H E o
@[irreducible] def B1 (X:Cx) (i:Nat) (st:Stmt) (g:Sl->ak ff):Prop:=PS X st (Ma X.K i g)
@[irreducible] def mu (X:Cx) (i:Nat) (st:List Stmt) (g:Sl->ak ff):Prop:=gS X st (Ma X.K i g)
theorem KP {K:aH} (f:cx h p H g j r) (q:Gy K G u i a h p H E o):Gy K G u i a g j r E o:=by
 cases o with
 |nx e=>exact λc H2 l m n=>q c H2 l m (f.trans n)
 |rt b e=>exact λv c H2 l m n w=>q v c H2 l m (f.trans n) w
section
variable {X:Cx} {i:Nat} {e L tg:Expr} {st:Stmt} {rest U Z:List Stmt} {N p O:Pos} {l:Lv} {f:T0} {g Y g2:Sl->ak ff} {c n x:Str}
def o5 (Y g2:Sl->ak ff):Sl->ak ff:=λh=>Y h>>=λo=>match o with
 | .nx a=>g2 a
 | .rt b e=> .ok (.rt b e)
def Jy (u:B1 X i st Y) (v:mu X i rest g2):mu X i (st::rest) (o5 Y g2):=by
 nomatch (gS.imp (VS u v) λE Q H=>by
  rintro ⟨G,m,j,o,a,k,w,y,q⟩;obtain ⟨r,e1,e2⟩:=jd y;refine ⟨G,m,j,r,a,k,w,e1,?_⟩
  cases r with
  |nx h=>exact λz H' B I J=>⟨G,m,h,o,a,B,I,e2,KP J q⟩
  |rt b h=>cases e2;exact q)
def Jx (a:B1 X i st Y):mu X i [st] Y:=by
 nomatch (gS.imp (ul a) λE h H q=>q)
def B2:Sl->ak ff:=λa=> .ok (.nx a)
def UJ:mu X i [] B2:=by
 nomatch (gS.imp um λE h H=>by
  rintro ⟨G,u,j,o,a,k,m,r,q⟩;cases r
  exact q h H k m (cx.refl (aq.refl H)))
def AL (t:TZ) (Y g2:Sl->ak ff):Sl->ak ff:=λa=>t a>>=λb=>if b=true then Y a else g2 a
def Mb (r:DT X L t) (u:mu X i U Y) (v:mu X i Z g2):B1 X i (.If L U Z N) (AL t Y g2):=by
 nomatch (PS.imp (Ir r u v) λE y H=>by
  rintro ⟨G,j,h,o,a,k,m,w,q⟩;obtain ⟨b,e1,e2⟩:=jd w;refine ⟨G,j,h,b,k,e1,λz s=>?_⟩
  cases b with
  |true=>
   rw [if_pos rfl] at e2 ⊢;exact ⟨G,j,h,o,a,k.av s,m,e2,KP (cx.refl s) q⟩
  |false=>
   rw [if_neg ik] at e2 ⊢
   exact ⟨G,j,h,o,a,k.av s,m,e2,KP (cx.refl s) q⟩)
def Ya:Sl->ak ff:=λ_=> .aj
def Y7:B1 X i st Ya:=by
 nomatch (λh s r H E I ⟨G,u,j,o,a,k,v,m,q⟩=>by cases m)
def o6 (i:Nat) (c:Str):Sl->ak (List Str×List D):=λa=>match a[i]? with
 |some (.ay (.obj h j ds))=>a5 (h=c) (.ok (j,ds))
 |_=> .aj
def ZM (h:o6 i c a= .ok q):a[i]?=some (.ay (.obj c q.1 q.2)):=by
 unfold o6 at h
 split at h
 . rename_i o r ds e;obtain ⟨j,m⟩:=ju h;subst j;cases m;exact e
 . cases h
def WU (i:Nat) (c n:Str) (f:T0):Sl->ak ff:=λa=>f a>>=λd=>o6 i c a>>=λq=>a5 (q.1.length<1000) (.ok (.nx (a.set i (.ay (.obj c (km n q.1) (kn n d q.1 q.2))))))
def Jz (B:lI X.K c n) (h:DE X .s e f) (hN:X.N[i]?=some x:=by rfl) (hv:gs X.env.scope x:=by exact gu rfl)
   (hd:Yi x:=by decide) (r:Yh x:=by decide)
   (hs:mH e (some (.Attribute (.Name x p) n O)) N.line X.env=pure false:=by rfl):B1 X i (.Assign [.Attribute (.Name x p) n O] e N) (WU i c n f):=by
 nomatch (
  PS.imp (PJ (xM hN hv hd r) h hs) λE σ H=>by
   rintro ⟨G,H0,u,o,a,k,m,j,q⟩;obtain ⟨d,e1,j⟩:=jd j;obtain ⟨ns,e2,j⟩:=jd j;obtain ⟨I,e3⟩:=ju j;cases e3;have J:=ZM e2;refine ⟨G,H0,u,d,k,e1,λy H1 v r1 _=>?_⟩;obtain ⟨a',C,dx,fs,Q,hx,z,hn,rs⟩:=uK (k.av v) J;rw [m] at Q;cases Q;refine ⟨_,m,a,C,dx,fs,rfl,hx,(B.at z).1,(B.at z).2,by rw [<-hn,bM] at I;exact I,?_⟩;obtain ⟨p1,p2⟩:=VP r1 rs;rw [hn] at p1 p2;have W:=(k.av v).ml (o':= .ins C dx (eJ n y fs)) J m hx trivial λA' H' st e w=> .obj e ⟨z,p1⟩ rfl (p2.bL st w)
   exact q σ _ W.1 m (W.2.av v))
end
structure fH (P:cp) (w:World) (K:aH) (mg:WV) (af:Heap) (k:Nat) (c m:Str) (ps:List Str) (fr:Bool) (F:TW):Prop where
 ex: ∃C f fd,dG P w K mg af lB k f fd ps (ox K fr ps.length F)/\cF K ce c=some (some (.ref C))/\gl K C/\Meth K C m f/\Binds K fd ps []
def fH.mono {K:aH} (h:fH P w K mg af j c m ps e F) (g:j<=k):fH P w K mg af k c m ps e F:=
 let ⟨C,f,i,a,b⟩:=h.ex
 ⟨C,f,i,a.mono g,b⟩
def jZ (c m:Str) (n:Nat) (F:TW) (i:T0) (g:TX):Sl->ak D:=λa=>i a>>=λo=>match o with
 | .obj e h j=>a5 (e=c/\h.contains m=false) (g a>>=λds=>a5 (ds.length+1=n) (F (.obj e h j::ds)))
 |_=> .aj
def YJ (h:jZ c m n F l g a= .ok d): ∃e i ds,l a= .ok (.obj c e i)/\e.contains m=false/\g a= .ok ds/\ds.length+1=n/\F (.obj c e i::ds)= .ok d:=by
 obtain ⟨o,p,h⟩:=jd h
 cases o with
 |obj y e i=>
  obtain ⟨⟨q,r⟩,u⟩:=ju h;subst q;obtain ⟨ds,v,j⟩:=jd u;obtain ⟨w,x⟩:=ju j;exact ⟨e,i,ds,p,r,v,w,x⟩
 |_=>cases h
section
variable {X:Cx} {k n:Nat} {c m:Str} {ps:List Str} {fr:Bool} {F:TW} {o e:Expr} {es:List Expr} {r j:Pos} {fo:T0} {g:TX} {pl:Sem Bool}
def fH.aB (A:fH X.prog X.w X.K X.mg X.af k c m ps true F) (hr:aT k X.A) (J:DE X .s o fo) (L:DA X .s (e::es) g) (l:ps.length=n:=by rfl)
  (p:T9 X e es:=by exact jt rfl) (u:T8 X r es:=by exact jS rfl)
  (N:eval (.Call (.Attribute o m j) (e::es) [] r) X.env=(do
   let w<-eval o X.env
   rK j.atName
   let (f,first)<-nT [w] (getMethod w m pl)
   callWith r f first (iW r (c0 (e::es) X.env)) (oS r (oT [] X.env))):=by rfl):DE X .t (.Call (.Attribute o m j) (e::es) [] r) (jZ c m n F fo g):=by
 subst l;obtain ⟨C,f,fd,O,U,h3,Y,Z⟩:=A.ex
 nomatch (
 PE.imp (PR J h3 Y O hr Z .nil kq L p u N) λσ H Q=>by
  rintro ⟨x,y,env,d,k,ef,q⟩;obtain ⟨ns,vs,ds,e1,e2,e3,e4,e5⟩:=YJ ef;refine ⟨x,y,env,_,k,e1,λv H1 h B _=>?_⟩;obtain ⟨a,C',dx,fs,rfl,hx,_,E,l,rs⟩:=B.objE;rw [U] at E;cases E;refine ⟨a,dx,fs,rfl,hx,Zs (by rw [l];exact e2),x,y,env,ds,k.av h,e3,λws H2 i I=>?_⟩;show ox X.K true ps.length F (.ref a::(ws++[])) H2 Q (λ_ _ _=>False);rw [oH]
  exact ⟨_,_::ds,d,by simp [I.length,e4],.cons (B.av i) I,e5,λv H3 s3 r3 nt=>q v H3 (h.trans (i.trans s3)) (r3.aO λc z=>z.elim (λz=>k.new c (aq.free h (aq.free i z))) λz=>z) (((nt rfl).av i).av h)⟩)
def jO:Sl->ak (List D):=λ_=> .ok []
def fH.gP (A:fH X.prog X.w X.K X.mg X.af k c m ps true F) (hr:aT k X.A) (w:DE X .s o fo) (h:ps.length=n:=by rfl)
  (x:eval (.Call (.Attribute o m j) [] [] r) X.env=(do
   let l<-eval o X.env
   rK j.atName
   let (f,first)<-nT [l] (getMethod l m pl)
   callWith r f first (iW r (c0 [] X.env)) (oS r (oT [] X.env))):=by rfl):DE X .t (.Call (.Attribute o m j) [] [] r) (jZ c m n F fo jO):=by
 subst h;obtain ⟨C,f,fd,y,B,h3,E,I⟩:=A.ex
 nomatch (
 PE.imp (PU w h3 E y hr I .nil kq x) λσ H Q=>by
  rintro ⟨J,L,env,d,k,N,q⟩;obtain ⟨ns,vs,ds,e1,e2,O,U,Y⟩:=YJ N;cases O;refine ⟨J,L,env,_,k,e1,λv H1 i p _=>?_⟩;obtain ⟨a,C',dx,fs,rfl,Z,_,u,h,rs⟩:=p.objE;rw [B] at u;cases u;refine ⟨a,dx,fs,rfl,Z,Zs (by rw [h];exact e2),?_⟩
  exact ⟨_,[_],d,by simp [<-U],.cons p .nil,Y,λv H3 s3 r3 nt=>q v H3 (i.trans s3) (r3.aO λc z=>z.elim (λz=>k.new c (aq.free i z)) λz=>z) ((nt rfl).av i)⟩)
end
section
variable {P:cp} {w:World} {K:aH} {mg:WV} {af:Heap}
def ZN {st:Stmt} (l:Bool) (o:nL K m a st f n) (p:cF K ce c=some (some (.ref C))) (q:gl K C) (r:Meth K C m f) (S:au N ps (ji st)) (j:Binds K n ps [])
  (u: ∀(i:Value) (A:cC) (e:List Env) (s:aL) (H:Hp) (E:XK),aT k (A.deeper (mJ a (ji st) s.heap.objs.size f i))->m6 (gH lB P w K mg af N a (ji st) f i A e s H E).oO (qD st) g):
  fH P w K mg af (k+1) c m ps l (aE l N.length g):=
 ⟨C,f,n,FU o S u λds d _ h=>JV h,p,q,r,j⟩
end
abbrev FO:=D->List D->ak (D×D)
def Mc (K:aH) (n:Nat) (F:FO):Sp:=λj H Q _=> ∃(B:VJ) (ds:List D) (g:List V) (a:Addr) (h r i:D),j=V.ref a::g/\g.length=n/\ao K (λc=>B c/\c≠a) H g ds/\Top K (λc=>B c/\c≠a) H a h/\F h ds= .ok (r,i)/\
 ∀v e,(∀c o,c≠a->H c=some o->e c=some o)->Top K (λc=>(H c=none\/B c)/\c≠a) e a i->aN K (λc=>(H c=none\/B c)/\c≠a) e v r->Q v e
def Ji (n:Nat) (a:D) (ds:List D):Sl:= .ay a::(ds.map .ae++io (n-ds.length-1) .un)
def yi (h:(Ji n c ds)[j]?=some s):(j=0/\s= .ay c)\/(∃a d,j=a+1/\ds[a]?=some d/\s= .ae d)\/s= .un:=by
 unfold Ji at h
 cases j with
 |zero=>simp at h;exact .inl ⟨rfl,h.symm⟩
 |succ j=>
  rw [BZ] at h
  by_cases q:j<ds.length
  . rw [md (by simpa using q),iE] at h
    cases e:ds[j]? with
    |none=>rw [e] at h;cases h
    |some x=>rw [e] at h;cases h;exact .inr (.inl ⟨j,x,rfl,e,rfl⟩)
  . rw [mK (by simpa using q),sS] at h
    split at h
    . cases h;exact .inr (.inr rfl)
    . cases h
def k9 {K:aH} {B:VJ} (r:ao K (λc=>B c/\c≠a) H g ds) (t:Top K (λc=>B c/\c≠a) H a u) (hN:ds.length+1<=N.length):
   aD K (λc=>H c=none\/c=a\/B c) (λc=>if c=a then none else H c) (Ji N.length u ds) (start N (V.ref a::g)) H/\At (start N (V.ref a::g)) 0 a:=by
 have y:=r.length
 have l:At (start N (V.ref a::g)) 0 a:=by
   show (L2.start N (V.ref a::g))[0]?=_;unfold L2.start;simp
 have n: ∀(j:Nat) (v:V),g[j]?=some v->(start N (V.ref a::g))[j+1]?=some (some v):=λj v h=>by
   have I:=(mX.mp h).1;unfold L2.start;rw [md (by simp;omega),iE,BZ,h];rfl
 have p: ∀c,qB (Ji N.length u ds) (start N (V.ref a::g)) c->c=a:=λc ⟨j,d,q,m⟩=>by
   rcases yi q with ⟨rfl,_⟩| ⟨_,_,_,_,z⟩|z
   . rw [l] at m;cases m;rfl
   . cases z
   . cases z
 have w: ∀c,B c/\c≠a->Sf (λc=>H c=none\/c=a\/B c) (Ji N.length u ds) (start N (V.ref a::g)) c:=λc z=>⟨λo=>z.2 (p c o),.inr (.inr z.1)⟩
 refine ⟨⟨?_,λc o e=>?_,λc e=>?_,λj d h=>?_,λj d h=>?_,λj x d e b q m J L=>?_⟩,l⟩
 . simp [L2.start,Ji,y];omega
 . split at e
   . cases e
   . exact e
 . split at e
   . rename_i z;exact .inr (.inl z)
   . exact .inl e
 . rcases yi h with ⟨_,z⟩| ⟨x,E,rfl,e,z⟩|z
   . cases z
   . cases z;obtain ⟨v,q,m⟩:=r.get e;exact ⟨v,n x v q,m.aO w⟩
   . cases z
 . rcases yi h with ⟨rfl,z⟩| ⟨x,E,_,e,z⟩|z
   . cases z;exact ⟨a,l,if_pos rfl,t.bL (λ_ _ e _=>e) w λ_ e=>e⟩
   . cases z
   . cases z
 . have i: ∀(j:Nat) (d:D),(Ji N.length u ds)[j]?=some (.ay d)->j=0:=λj d h=>by
     rcases yi h with ⟨z,_⟩| ⟨_,_,_,_,z⟩|z
     . exact z
     . cases z
     . cases z
   rw [i j d q,i x e m]
def vX:Sl->ak D
 | .ay d::_=> .ok d
 |_=> .aj
def vW (h:vX a= .ok d):a[0]?=some (.ay d):=by
 unfold vX at h
 split at h
 . cases h;rfl
 . cases h
def kf (N n:Nat) (g:Sl->ak ff):FO:=λc ds=>a5 (ds.length=n) (g (Ji N c ds)>>=λo=>match o with
 | .nx a=>vX a>>=λd=> .ok (.a6,d)
 | .rt r a=>vX a>>=λd=> .ok (r,d))
section
variable {P:cp} {w:World} {K:aH} {mg:WV} {af:Heap}
def Z6 {m p:Str} {st:Stmt} (Fu:nL K m p st f fd) (S:au N ps (ji st)) (hn:ps.length=n+1) (hN:n+1<=N.length)
  (hb: ∀(u:Value) (A:cC) (l:List Env) (s:aL) (H:Hp) (E:XK),aT k (A.deeper (mJ p (ji st) s.heap.objs.size f u))->mu (gH lB P w K mg af N p (ji st) f u A l s H E).oO 0 (qD st) g):
  dG P w K mg af lB (k+1) f fd ps (Mc K n (kf N.length n g)):=by
 nomatch (by
 refine Fu.ok S (λvs H Q E ⟨B,ds,us,a,d0,r,d1,U,hl,_⟩=>by rw [U,fR,hl,hn]) (λu A l s H vs Q E hr h=>?_);obtain ⟨B,ds,us,a,d0,r,d1,U,hl,rs,t,y,q⟩:=h;refine ⟨_,hb u A l s H E hr,?_⟩;obtain ⟨e0,y⟩:=ju y;obtain ⟨o,e1,y⟩:=jd y;subst U;obtain ⟨kk,Y⟩:=k9 (N:=N) rs t (by omega)
 have L: ∀(i:Sl) (j:L2.St) (x:Hp) (v:V),aD K (λc=>H c=none\/c=a\/B c) (λc=>if c=a then none else H c) i j x->At j 0 a->vX i= .ok d1->aN K (Sf (λc=>H c=none\/c=a\/B c) i j) x v r->Q v x:=λi j x v I J e2 Z=>by
  have hi:=vW e2;obtain ⟨a2,h1,_,t2⟩:=I.ay 0 _ hi;rw [J] at h1;cases h1
  have ww: ∀c,Sf (λc=>H c=none\/c=a\/B c) i j c->(H c=none\/B c)/\c≠a:=λc z=>by
   have O:c≠a:=by
     rintro rfl;exact z.1 ⟨0,_,hi,J⟩
   refine ⟨?_,O⟩;rcases z.2 with z|z|z
   . exact .inl z
   . exact absurd z O
   . exact .inr z
  exact q v x (λc o hc e=>I.af c o (by rw [if_neg hc];exact e)) (t2.bL (λ_ _ e _=>e) ww λ_ e=>e) (Z.aO ww)
 refine ⟨_,_,_,o,a,kk,Y,e1,?_⟩
 cases o with
 |nx i=>
  obtain ⟨d,e2,e3⟩:=jd y;cases e3;exact λj x I J f'=>L i j x .a6 I J e2 .a6
 |rt r' i=>
  obtain ⟨d,e2,e3⟩:=jd y;cases e3
  exact λv j x I J f' Z=>L i j x v I J e2 Z)
end
structure rh (P:cp) (w:World) (K:aH) (mg:WV) (af:Heap) (k:Nat) (c:Str) (n:Nat) (F:FO):Prop where
 ex: ∃C f fd ps,dG P w K mg af lB k f fd ps (Mc K n F)/\cF K ce c=some (some (.ref C))/\mg c=some (.ref C)/\Mk K C f/\Binds K fd ps []
def xw (c:Str) (n:Nat) (F:FO) (g:TX):Sl->ak D:=λa=>g a>>=λds=>a5 (ds.length=n) (F (.obj c [] []) ds>>=λq=>match q with
 | (.a6,d)=> .ok d
 |_=> .aj)
section
variable {X:Cx} {k n:Nat} {c:Str} {F:FO} {e:Expr} {es:List Expr} {pos p:Pos} {g:TX}
def rh.make (A:rh X.prog X.w X.K X.mg X.af k c n F) (hr:aT (k+1) X.A) (I:DA X .s (e::es) g) (hg:Gl X c:=by rfl) (l:Yi c:=by decide)
  (J:T9 X e es:=by exact jt rfl) (u:T8 X pos es:=by exact jS rfl):
  DE X .t (.Call (.Name c p) (e::es) [] pos) (xw c n F g):=by
 obtain ⟨C,f,fd,ps,L,N,h3,O,U⟩:=A.ex
 nomatch (
 PE.imp (PX O L hr hg h3 U .nil kq I l J u) λY H Q=>by
  rintro ⟨G,Z,env,d,k,a,q⟩;obtain ⟨ds,e1,a⟩:=jd a;obtain ⟨hn,a⟩:=ju a;obtain ⟨⟨r,d1⟩,e2,a⟩:=jd a
  cases r with
  |a6=>
   cases a;refine ⟨G,Z,env,ds,k,e1,λvs y j B x dx i w ne=>?_⟩
   have S:aq y (aU (aU y dx (.ay x)) x (.ins C dx [])):=λb o h=>by
    rw [jY (qt h i),jY (qt h w)];exact h
   have kx:=k.new x (aq.free j i);have rr:=B.dO.av S;rw [oH];refine ⟨Sf G env Y,ds,vs,x,_,.a6,d,rfl,by rw [B.length];exact hn,rr.aO λb z=>⟨z.1,by rintro rfl;exact z.2 i⟩,.obj jy ⟨N,rfl⟩ rfl .nil,e2,λv E hs t rv=>⟨rv.su,?_⟩⟩;have sH:aq H E:=λb o h=>hs b o (qt (j b o h) i) (S b o (j b o h))
   refine q _ E sH (t.rep (λb z=>⟨z.1.elim (λz=>k.new b (aq.free j (aq.free S z))) λz=>z,z.2⟩) kx) λb h o qb m=>?_
   cases h;rw [j _ _ qb] at i;cases i
  |_=>cases a)
end
section
variable {P:cp} {w:World} {K:aH} {mg:WV} {af:Heap}
def Z7 {st:Stmt} (o:nL K m a st f l) (p:cF K ce c=some (some (.ref C))) (i:mg c=some (.ref C)) (mk:Mk K C f) (S:au N ps (ji st)) (j:Binds K l ps []) (q:ps.length=n+1) (hN:n+1<=N.length)
  (r: ∀(h:Value) (A:cC) (e:List Env) (s:aL) (H:Hp) (E:XK),aT k (A.deeper (mJ a (ji st) s.heap.objs.size f h))->mu (gH lB P w K mg af N a (ji st) f h A e s H E).oO 0 (qD st) g):
  rh P w K mg af (k+1) c n (kf N.length n g):=
 ⟨C,f,l,ps,Z6 o S q hN r,p,i,mk,j⟩
end
section
variable {prog:cp} {w:World} {A:cC} {E:U9} {s:aL}
structure eU (h:Heap) (a:Addr) (es:Array (Int×Value)) (ep:Nat) (t:l5):Prop where
 ex: ∃o,h.get? a=some o/\o.ExactSet/\o.data= .set es ep t
 el: ∀e∈es.toList,∃k tk,e.2= .int k tk/\e.1=hashInt k
 bd:es.size<tH
 ft:t.fits es.size=true
def eU.of (j:h.SetOf (i6 prog w) a S n): ∃c g t,eU h a c g t/\c.size=n/\(∀k,S k=true↔ ∃e∈c.toList,(i6 prog w).is k e.2=true):=by
 obtain ⟨o,c,g,t,l,m,hd,i,p,q,r,u⟩:=j;refine ⟨c,g,t,⟨⟨o,l,m,hd⟩,λe v=>?_,q,r⟩,u,p⟩;obtain ⟨⟨k,x,y⟩,_⟩:=i e v;obtain ⟨tk,h3⟩:=Em x;exact ⟨k,tk,h3,y⟩
def eU.state (h:eU s.heap a c e t) (g:Q (c,e,t) s):wpAny (model prog w) A (setState a) Q E s:=by
 obtain ⟨o,i,_,hd⟩:=h.ex;exact AM i hd h.ft g
def Zd {c:Array (Int×Value)} (i: ∀e∈c.toList,∃k tk,e.2= .int k tk/\e.1=hashInt k) {g:Type} {a:g} {f:Int×Value->g->Sem (ForInStep g)} {Q:g->aL->Prop}
   (m: ∀h k tk,f (h,.int k tk) a=pure (.yield a)) (n:Q a s):wpAny (model prog w) A (forIn c a f) Q E s:=by
 refine Md f (λrest b j=>b=a/\j=s/\ ∀e∈rest,e∈c.toList) Q ?_ ?_ c a ⟨rfl,rfl,λ_ h=>h⟩
 . rintro ⟨h,x⟩ rest b j ⟨rfl,rfl,l⟩;obtain ⟨k,tk,e1,e2⟩:=i _ (l _ cu);dsimp only at e1;subst e1;rw [m];exact aV ⟨rfl,rfl,λe o=>l e (de _ o)⟩
 . rintro b j ⟨rfl,rfl,_⟩;exact n
def kj {a b c:Addr} {e1 e2 i:Array (Int×Value)} {j l m:Nat} {n o p:l5} (e:eU s.heap a e1 j n) (g:eU s.heap b e2 l o) (h:eU s.heap c i m p) {Q:Bool->aL->Prop} (q:Q true s):
  wpAny (model prog w) A (setsQuiet [a,b,c]) Q E s:=by
 unfold setsQuiet setEntries;simp;refine ax (e.state ?_);refine ax (Zd e.el (λ_ _ _=>rfl) ?_);dsimp only;simp;refine ax (g.state ?_);refine ax (Zd g.el (λ_ _ _=>rfl) ?_);dsimp only;simp;refine ax (h.state ?_);refine ax (Zd h.el (λ_ _ _=>rfl) ?_);dsimp only;simp;exact aV q
theorem W5 {c:Type} (next:Nat->Nat): ∀(fuel k:Nat) (left:List c) (a:Array c) (x:c),x∈(AN next fuel k left a).toList->x∈left\/x∈a.toList
 |0,_,_,a,x,h=> .inr h
 |fuel+1,k,left,a,x,h=>by
  unfold AN at h
  split at h
  . rename_i y e;rcases W5 next fuel (k+1) _ _ x h with z|z
    . exact .inl (List.mem_of_mem_eraseIdx z)
    . rw [Gz,ij] at z;rcases z with z|z
      . exact .inr z
      . rw [iw] at z;subst z;exact .inl (pz e)
  . exact .inr h
def eU.keep (x:eU h a c e t) (k: ∀o,h.get? a=some o->g.get? a=some o):eU g a c e t:=
 let ⟨o,i,j⟩:=x.ex
 ⟨⟨o,k o i,j⟩,x.el,x.bd,x.ft⟩
def xh (k:Int) (tk:Tok):(i6 prog w).is k (.int k tk)=true:=by
 nomatch (beq_self_eq_true k)
def GA (c:s.TypeIs (.ref a) "set") (h:Q true s):wpAny (model prog w) A (DK (.ref a)) Q E s:=by
 unfold DK;unfold orM;refine ax (CI c F.sub_set_set ?_);exact aV h
def XI:entryFor table "set.__sub__" =some mS.«frozenset.__sub__» :=
 entryFor_alias (id':= "frozenset.__sub__") (by kernel_rfl) rfl (by decide+kernel) (by kernel_rfl)
end
def eU.setOf (x:eU h a #[] c g):h.SetOf (i6 prog w) a (λ_=>false) 0:=by
 obtain ⟨o,i,j,h3⟩:=x.ex;exact ⟨o, #[],c,g,i,j,h3,λe l=>by simp at l,λk=>by simp,by decide,x.ft,rfl⟩
def dd (a:List Int):List Int:=firstMet (λi=>a.getD i 0) a.length
def jiE (a:List Int) (k:Int):(dd a).any (· ==k)=a.any (· ==k):=by
 unfold dd;rw [firstMet_any];congr 1;apply List.ext_getElem
 . simp
 . intro i e c;simp [cy c]
section
variable {X:Cx}
theorem Ur: ∀ {is:List Int} {us:List Value},aK (is.map V.int) us->IntsAre us is
 | [],_,.nil=> .nil
 |i::is,_,.cons h t=>by
  obtain ⟨k,rfl⟩:=h;exact .cons i k (Ur t)
def Kg (n:X.cR=true):bt X (.type "set") (λh H Q=> ∃(p:Addr) (a:List Int),h=[.ref p]/\fV X.K H p (a.map V.int)/\a.length+1<tH/\ ∀l,H l=none->Q (.ref l) (aU H l (.set (λk=>a.any (· ==k)) (dd a).length))):=by
 rintro i s N H h O Q I r ⟨p,a,v,w,x,q⟩;subst v;obtain ⟨u,rfl,y⟩:=xO r;cases y;obtain ⟨z,j,B,_⟩:=I.list w;obtain ⟨c,U⟩:=VC j;refine call_set_list (I.ok.hd n) B.isList (by simpa using Ur j) (by simp;rw [c];exact x) λm tk E J=>?_
 have L:=I.be.fresh (bn _)
 have g:m.SetOf (i6 X.prog X.w) s.heap.objs.size (λk=>a.any (· ==k)) (dd a).length:=by
  refine SetOf_congr E (λk=>?_) ?_
  . simp only [dj,c];exact jiE a k
  . simp only [dj,c];rfl
 exact ⟨.ref s.heap.objs.size,_,I.laid (λb o e=>J b o (c8 e) e) (bn _) (show bi X.prog X.w _ m _ (.set _ _) from g),rfl,q _ L⟩
def jbU:bt X (.builtin "len") (λc H Q=> ∃a S n,c=[.ref a]/\H a=some (.set S n)/\Q (.int n) H):=by
 rintro e s B H c E Q I r ⟨a,S,n,g,h,q⟩;subst g;obtain ⟨u,rfl,i⟩:=xO r;cases i;have j:=I.be a _ h;obtain ⟨o,l,J,t,m,p,hd,v,L,w,x,y⟩:=j;subst y;have z:tH=4096:=rfl;exact call_len_set m p hd x (by rw [z] at w;omega) ⟨.int l.size,H,I.tok _,⟨_,rfl⟩,q⟩
variable {l1 l2:Lv} {e1 e2:Expr} {f1 f2:T0} {p1 p2 p3 q1 q2 q3 pos:Pos}
end
section
variable {prog:cp} {w:World} {A:cC} {E:U9} {s:aL}
def YM:typeLookup (.type "list") "keys" =pure none:=by rw [typeLookup_type,builtinLookup_eq_fast];kernel_rfl
def jay (j:s.heap.get? a=some o) (p:o.cls= .type "list") (c:o.dict=none) (hd:o.data= .seq u k) (v:A.handled=none)
  (h: ∀i tk,(∀b ob,s.heap.get? b=some ob->i.get? b=some ob)->Q none {s with heap:=i,toks:=tk}):wpAny (model prog w) A (getAttr? (.ref a) "keys") Q E s:=by
 obtain ⟨q,g,d,tk,os⟩:=s;obtain ⟨y,z,l,m⟩:=o;simp only at p c hd;subst p c hd;have B:(⟨q,g,d,tk,os⟩:aL).TypeIs (.ref a) "list" :=⟨_,j,rfl⟩
 have n:(⟨q,g,d,tk+1,os⟩:aL).TypeIs (.ref a) "list" :=⟨_,j,rfl⟩
 have H:=sub_AttributeError;have I:=GB.lookup;have J:=GB.bind (.ref a);have L:=am_list_getattr_none;unfold getAttr? getAttrBy? getAttrBy
 repeat (any_goals (first | assumption | ((with_reducible show wpAny _ _ (call (Value.builtin "list.__getattribute__") _ _) _ _ _); refine Au GB n am_entry_list_getattribute (F.args_list_getattribute_2 _ _) (meets_getattribute_miss_list a u k m "keys" _ YM (by decide)) ⟨j, v, λi x e r => ?_⟩) | wp_step))
 obtain ⟨N,O,U⟩:=r.there;unfold getattributeRaised
 repeat (any_goals (first|assumption|wp_step))
 exact h i _ r.keeps
def zH:entryFor table "dict.update.loop" =some mS.«dict.update.loop» :=entryFor_of_tree (by kernel_rfl)
def qa:plainId "dict.update.loop" =true:=by decide+kernel
def W8 (c:s.heap.get? t=some o) (e:o.cls= .type "tuple") (hd:o.data= .seq a n) (h:Q a.toList s):wpAny (model prog w) A (Me (.ref t)) Q E s:=by
 unfold Me;refine ax (As (show s.TypeIs (.ref t) "tuple" from ⟨o,c,e⟩) ?_);rw [if_pos (by decide)];refine ax (Ae c hd ?_);exact aV h
def Ki (a:Nat->List aR×Addr×Value):Nat->List (List aR×Addr×Value)
 |0=>[]
 |i+1=>pA (Ki a i) (a i).1 (a i).2.1 (a i).2.2
def Ku (c:List (List aR×Addr×Value)) (k:List aR) (a:Addr) (v:Value):(pA c k a v).length<=c.length+1:=by
 cases h:atKey c k with
 |none=>rw [storedH_new h];simp
 |some p=>rw [storedH_old h];simp
theorem ZW (a:Nat->List aR×Addr×Value): ∀i,(Ki a i).length<=i
 |0=>bn _
 |i+1=>cE (Ku _ _ _ _) (Nat.succ_le_succ (ZW a i))
def Yb {k:List aR} {a:Addr} {N:Nat} (h: ∀x∈e,x.2.1<N) (i:a<N): ∀x∈pA e k a v,x.2.1<N:=by
 intro x c
 cases q:atKey e k with
 |none=>
  rw [storedH_new q] at c;rcases ij.mp c with z|z
  . exact h x z
  . rw [iw] at z;subst z;exact i
 |some p=>
  rw [storedH_old q] at c;obtain ⟨y,g,rfl⟩:=cK.mp c;unfold putAt
  split
  . exact h y g
  . exact h y g
theorem Qg {c:Nat->List aR×Addr×Value} {N:Nat} (h: ∀i,i<n->(c i).2.1<N): ∀i,i<=n-> ∀x∈Ki c i,x.2.1<N
 |0,_,x,a=>by cases a
 |i+1,e,x,a=>Yb (Qg h i (by omega)) (h i (by omega)) x a
variable {R:Result->aL->Prop} {I:Addr} {H J:List Addr} {G:Array GenState->Array GenState->Prop} {n:Nat} {P:Nat->Value->Prop} {St:Nat->aL->Prop}
def kM (W:WalksS prog w A.in1 I H J G n P St) (d:Addr) (O:d∉H) (j:Nat->List aR×Addr×Value) (q:Heap) (u: ∀i,i<n->mw (jR prog w) q (j i).1 (j i).2.1)
  (Q: ∀i v,P i v-> ∃t o m,v= .ref t/\q.get? t=some o/\o.cls= .type "tuple" /\o.data= .seq #[.ref (j i).2.1,(j i).2.2] m)
  (hdw:q.objs.size<=d) (U: ∀b∈J,q.objs.size<=b) (hu:A.in1.units<cLine) (hn:n<=aS):
  ∀(k i:Nat) (s:aL),n-i=k->i<=n->St i s->s.heap.DictOfH (oI (jR prog w)) d (Ki j i)->(∀b o,b<q.objs.size->q.get? b=some o->s.heap.get? b=some o)->
    (∀g,Moved (d::J) G s g->g.heap.DictOfH (oI (jR prog w)) d (Ki j n)->R (.ok (.ret .none)) g)->
    pM (model prog w) A (.builtin "dict.update.loop" ⟨[.ref d,.ref I,rawInt i,.none],[]⟩) R s:=by
 have hSw:d∉J:=λh=>O (W.sub _ h)
 have y: ∀b∈J,b∈d::J:=λb l=>de _ l
 have Y: ∀i,i<n->(j i).2.1<q.objs.size:=λi Z=>by
  obtain ⟨o',a,n',N,g2⟩:=u i Z;exact c8 N
 have p: ∀ {s g:aL} {xs:List (List aR×Addr×Value)},s.heap.DictOfH (oI (jR prog w)) d xs->(∀x∈xs,x.2.1<q.objs.size)->Moved J G s g->g.heap.DictOfH (oI (jR prog w)) d xs:=λhS hx r=>by
  obtain ⟨o,es,ep,ho,hc,hd,he,his,DL⟩:=hS;refine ⟨o,es,ep,r.heap d _ hSw ho,hc,hd,he,λx Mf=>?_,DL⟩;obtain ⟨o',a,n',N,g2⟩:=(show mw (jR prog w) _ x.1 x.2.1 from his x Mf)
  exact ⟨o',a,n',r.heap _ _ (λz=>absurd (U _ z) (Nat.not_le_of_lt (hx x Mf))) N,g2⟩
 intro k
 induction k with
 |zero=>
  intro i s hk Z L hS B hR;have yY:i=n:=by omega
  subst yY;refine AO zH ?_;rw [B3 qa _];refine ax (W.done s _ _ L λg r=>?_);refine ax (aV ?_);exact aV (hR g (r.mono y) (p hS (Qg Y _ (bn _)) r))
 |succ k ih=>
  intro i s hk Z L hS B hR;have cL:i<n:=by omega
  refine AO zH ?_;rw [B3 qa _];refine ax (W.item i s _ _ cL L λv g hP GC r=>?_);obtain ⟨t,o,m,rfl,ht,hc,hd⟩:=Q i v hP;have c: ∀b o,b<q.objs.size->q.get? b=some o->g.heap.get? b=some o:=λb o l e=>r.heap b o (λz=>absurd (U _ z) (Nat.not_le_of_lt l)) (B b o l e)
  have GD:=p hS (Qg Y _ Z) r;have ht':=c _ _ (c8 ht) ht;refine ax (mI ?_);refine ax (wpAny_tryCatch (W8 ht' hc hd ?_));refine mI ?_
  have GF:(oI (jR prog w)).is g.heap (j i).1 (j i).2.1:=by
    obtain ⟨o',a,n',N,g2⟩:=u i cL;exact ⟨o',a,n',c _ _ (c8 N) N,g2⟩
  refine wpAny_dictSet_heap hu GF GD (λh' dd' hs=>?_) (cE (ZW j i) (cE Z hn));refine aV ⟨plainId_quiet qa _,?_⟩;have GH:=ih (i+1) {g with heap:=h',toks:=g.toks+(oI (jR prog w)).draws (j i).1} (by omega) cL (W.frame _ g _ _ GC (yZ _ _) λb l o e=>?_) dd' (λb o l e=>?_) λGI GJ GK=>?_
  . exact GH
  . rw [hs.2 b (λh:b=d=>O (by rw [<-h];exact l))];exact e
  . rw [hs.2 b (λh:b=d=>absurd hdw (by rw [<-h];exact Nat.not_le_of_lt l))];exact c b o l e
  . refine hR GI (Moved.trans W.gtrans ((r.mono y).then_heap (yZ _ _) λb o l e=>?_) GJ) GK;rw [hs.2 b (λh:b=d=>l (by rw [h];exact cu))];exact e
def ZV (j:Nat->List aR×Addr×Value) (hh:A.handled=none) (O:s.heap.get? l=some Y) (Z:Y.cls= .type "list") (hdd:Y.dict=none) (hd:Y.data= .seq a m)
  (q: ∀i,i<a.size->mw (jR prog w) s.heap (j i).1 (j i).2.1)
  (r: ∀i v,a[i]?=some v-> ∃t o m,v= .ref t/\s.heap.get? t=some o/\o.cls= .type "tuple" /\o.data= .seq #[.ref (j i).2.1,(j i).2.2] m) (hu:A.units+2<cLine) (hn:a.size<=aS)
  (h: ∀u tk,(∀b o,s.heap.get? b=some o->u.get? b=some o)->u.DictOfH (oI (jR prog w)) s.heap.objs.size (Ki j a.size)->Q (.ref s.heap.objs.size) {s with heap:=u,toks:=tk}):
  wpAny (model prog w) A (call (.type "dict") [.ref l]) Q E s:=by
 refine callType_codes (Q₁:=λobj g=>obj= .ref s.heap.objs.size/\g={s with heap:=s.heap.push {cls:= .type "dict",data:= .dict #[]}}) F.kt_called_dict (F.kt_typeCall_dict_1 _) F.entry_dict_init (kt_code_dict_new _ ⟨rfl,rfl⟩) ?_;rintro obj g ⟨rfl,rfl⟩;have y: ∀b o,s.heap.get? b=some o->(s.heap.push {cls:= .type "dict",data:= .dict #[]}).get? b=some o:=λb o e=>cT _ e
 have hT:Shared.TypeIs {s with heap:=s.heap.push {cls:= .type "dict",data:= .dict #[]}} (.ref s.heap.objs.size) "dict" :=⟨_,fS _ rfl,rfl⟩
 have hTl:Shared.TypeIs {s with heap:=s.heap.push {cls:= .type "dict",data:= .dict #[]}} (.ref l) "list" :=⟨_,y _ _ O,Z⟩
 refine ⟨hT,F.args_dict_init_2 _ _,?_⟩;unfold mS.«dict.__init__»;refine ax ?_;unfold Builtin.Dict.selfAndRest;refine ax (wpAny_notOrdered_dict hT ?_);refine aV ?_;show wpAny _ _ (Mg "dict.__init__" s.heap.objs.size (.ref l) [] .none) _ _ _;unfold Mg;refine ax (As hTl ?_);rw [if_pos (by decide)];refine ax (jay (y _ _ O) Z hdd hd (by simp [hh]) λh1 gx z=>?_);simp;refine ax (r0 ?_);have B:h1.IsList l a:=⟨_,z _ _ (y _ _ O),Z,m,hd⟩
 refine ax (Az B ?_);have c:=c8 (z _ _ (fS _ rfl));have L:=c8 O;have N:=eB (C5 L c);refine aV ⟨plainId_quiet qa _,?_⟩;have GL:A.in1.in1.handled=none:=by simp [hh]
 refine kM ((Walks.list GL h1.objs.size l N a).toS) s.heap.objs.size (by simp;exact ⟨eB c,Nat.ne_of_gt L⟩) j s.heap q (λi v hv=>r i v hv) (bn _) (λb p=>by simp at p;subst p;exact A0 c) (by simpa [Around.in1] using hu) hn (a.size-0) 0 _ (by omega) (li _)
  ⟨⟨_,fS _ rfl,rfl,rfl⟩,B.push _⟩ ?hd0 (λb o p e=>cT _ (z _ _ (y _ _ e))) ?hR
 case hd0=>
  exact ⟨_, #[],0,cT _ (z _ _ (fS _ rfl)),⟨rfl,rfl,rfl⟩,rfl,rfl,(λx hx=>by cases hx),sY⟩
 case hR=>
  intro s' U GD;obtain ⟨u,g',d',GN,os'⟩:=s';have eg:=U.gens;have ed:=U.drawn;have eo:=U.os;subst eg;subst ed;subst eo;refine ⟨rfl,h u GN (λb o e=>?_) GD⟩;have p:=c8 e;exact U.heap b o (by simp;exact ⟨eB p,eB (C5 p c)⟩) (cT _ (z _ _ (y _ _ e)))
end
def jid (a:aT k A):A.units+2<cLine:=Fi (Fj (by decide:2<=64) _) a.units
section
variable {X:Cx} {K:aH}
inductive y0 (H:Hp):List V->List (List aR×V)->Prop where
 |nil:y0 H [] []
 |cons {t b:Addr} {k:List aR} {v:V} {r:List V} {ps:List (List aR×V)}:H t=some (.am [.ref b,v])->H b=some (.am (k.map kV))->y0 H r ps->y0 H (.ref t::r) ((k,v)::ps)
def Ze (ps:List (List aR×V)):List (List aR×V):=ps.foldl (λa p=>putK a p.1 p.2) []
theorem uw {r:L2.St} (I:aC X j r H s): ∀ {l:List V} {ps:List (List aR×V)} {a:List Value},y0 H l ps->aK l a->
  ∃c:List (List aR×Addr×Value),c.length=a.length/\nF (λ(p:List aR×V) (q:List aR×Addr×Value)=>p.1=q.1/\H q.2.1=some (.am (p.1.map kV))/\aG p.2 q.2.2) ps c/\
   ∀(i:Nat) (v:Value),a[i]?=some v-> ∃q,c[i]?=some q/\ ∃t o m,v= .ref t/\s.heap.get? t=some o/\o.cls= .type "tuple" /\o.data= .seq #[.ref q.2.1,q.2.2] m
 |_,_,_,.nil,.nil=>⟨[],rfl,.nil,λi v h=>by simp at h⟩
 |_,_,_,.cons (t:=t) (b:=b) (k:=k) u w x,.cons y z=>by
  obtain ⟨c,B,E,J⟩:=uw I x z;obtain ⟨n,e,⟨o,e1,e2,m,L⟩,_⟩:=I.tuple (.inl (.of u))
  cases e with
  |cons N e=>
   cases e with
   |cons O e=>
    cases e;rename_i Q U;cases (show Q=dN b from N);cases y;refine ⟨(k,b,U)::c,by simp [B],.cons ⟨rfl,w,O⟩ E,λi v g=>?_⟩
    cases i with
    |zero=>
     simp at g;subst g;exact ⟨_,rfl,t,o,m,rfl,e1,e2,L⟩
    |succ i=>
     simp at g;obtain ⟨q,Y,g2⟩:=J i v g;exact ⟨q,by simpa using Y,g2⟩
theorem JY {g e:Type} {F:g->e->Prop}: ∀ {a:List g} {c:List e},nF F a c-> ∀(i:Nat) (y:e),c[i]?=some y-> ∃x,a[i]?=some x/\F x y
 |_,_,.nil,i,y,h=>by simp at h
 |_,_,.cons r t,0,y,h=>by simp at h;subst h;exact ⟨_,rfl,r⟩
 |_,_,.cons r t,i+1,y,h=>by
  obtain ⟨x,j,l⟩:=JY t i y (by simpa using h);exact ⟨x,by simpa using j,l⟩
theorem UR (r:nF (λ(p:List aR×V) (q:List aR×Addr×Value)=>p.1=q.1/\H q.2.1=some (.am (p.1.map kV))/\aG p.2 q.2.2) ps a):
  ∀i,i<=a.length->KT H (Ze (ps.take i)) (Ki (λj=>a.getD j ([],0,.none)) i)
 |0,_=> .nil
 |i+1,o=>by
  have g:=UR r i (by omega);obtain ⟨q,e⟩: ∃q,a[i]?=some q:=⟨a[i]'(by omega),cy _⟩
  obtain ⟨p,h,⟨e1,e2,l⟩⟩:=JY r i q e;have m:a.getD i ([],0,.none)=q:=by simp [List.getD,e]
  have n:ps.take (i+1)=ps.take i++[p]:=by rw [List.take_add_one,h];rfl
  have c:Ze (ps.take (i+1))=putK (Ze (ps.take i)) p.1 p.2:=by unfold Ze;rw [n,List.foldl_append];rfl
  rw [c];show KT H _ (pA (Ki (λj=>a.getD j ([],0,.none)) i) (a.getD i ([],0,.none)).1 (a.getD i ([],0,.none)).2.1 (a.getD i ([],0,.none)).2.2);rw [m,<-e1];exact g.put p.1 e2 l
def vk (hc:X.cR=true) (hu:X.A.units+2<cLine):bt X (.type "dict") (λO H Q=> ∃p w ps,O=[.ref p]/\H p=some (.ai w)/\y0 H w ps/\ ∀l,H l=none->Q (.ref l) (aU H l (.dT (Ze ps)))):=by
 rintro U s σ H O us Q I r ⟨p,w,ps,ex,hp,x,q⟩;subst ex;obtain ⟨u,rfl,ru⟩:=xO r;cases ru;obtain ⟨y,Y,⟨o,n,ho,z,B,hd⟩,hz⟩:=I.list (fV.of hp);obtain ⟨a,Z,E,h3⟩:=uw I x Y;have e:y.toArray.size=a.length:=by rw [dj,Z]
 have J:a.length<=aS:=by rw [Z,<-Y.length];exact hz
 refine ZV (λj=>a.getD j ([],0,.none)) (I.ok.hd hc) ho z B hd (λi hi=>?_) (λi v hv=>?_) hu (by rw [e];exact J) λh' tk hk dd=>?_
 . obtain ⟨h,m⟩: ∃q,a[i]?=some q:=⟨a[i]'(by rw [e] at hi;exact hi),cy _⟩
   obtain ⟨pp,Mh,⟨e1,e2,e3⟩⟩:=JY E i h m;have L:a.getD i ([],0,.none)=h:=by simp [List.getD,m]
   rw [L,<-e1];exact Zw I.be e2
 . obtain ⟨h,m,g⟩:=h3 i v (by rw [<-hv];simp);have L:a.getD i ([],0,.none)=h:=by simp [List.getD,m]
   rw [L];exact g
 . have hl:=I.be.fresh (bn _);rw [e] at dd;have N:=UR E a.length (bn _);have IE:=Af E;rw [DM (by omega)] at N;have kl:=Af N;have hbl:=ZW (λj=>a.getD j ([],0,.none)) a.length;obtain ⟨h,es,ep,m,g2,g3,g4,_,g5⟩:=dd;refine ⟨.ref s.heap.objs.size,_,I.laid hk (bn _) (show bi X.prog X.w _ h' _ (.dT (Ze ps)) from ⟨by omega,beq_eq_false_iff_ne.mpr (lu (eB I.big)),_,N.keeps λc w ec=>?_,h,es,ep,m,g2,g3,g4,g5⟩),rfl,q _ hl⟩;rw [jY (qt ec hl)];exact ec
def np:List D->Option (List (List aR×D))
 | []=>some []
 | .am [a,d]::r=>match iu a,np r with
  |some k,some q=>some ((k,d)::q)
  |_,_=>none
 |_=>none
theorem VU: ∀ {g:List V} {ds:List D} {ps:List (List aR×D)},ao K A H g ds->np ds=some ps-> ∃a:List (List aR×V),y0 H g a/\a.map (·.1)=ps.map (·.1)/\ao K A H (a.map (·.2)) (ps.map (·.2))
 |_,[],ps,r,h=>by cases r.wu;cases h;exact ⟨[],.nil,rfl,.nil⟩
 |_,d::ds,ps,r,h=>by
  obtain ⟨v,g,rfl,r,n⟩:=r.j8
  have ⟨i,m,e⟩: ∃i m,d= .am [i,m]:=by
    rcases d with _|_|_|_|l|_|_|_|_|_|_|_|_|_|_<;>try cases h
    rcases l with _| ⟨x,_| ⟨y,_|_⟩⟩<;>try cases h
    exact ⟨_,_,rfl⟩
  subst e
  . unfold np at h
    cases c:iu i with
    |none=>rw [c] at h;cases h
    |some k=>
     cases j:np ds with
     |none=>rw [c,j] at h;cases h
     |some q=>
      rw [c,j] at h;cases h;obtain ⟨a,o,g2,g3⟩:=VU n j;obtain ⟨t,I,rfl,p,u⟩:=r.gI;obtain ⟨J,w,rfl,z,B⟩:=u.ag;obtain ⟨b,rfl,E⟩:=yl z c;exact ⟨(k,w)::a,.cons p E o,by simp [g2],.cons B g3⟩
def Z9 (q:List (List aR)×List D) (p:List aR×D):List (List aR)×List D:=(yq q.1 p.1,yr q.1 q.2 p.1 p.2)
def WG:List D->ak D
 | [.ai ds]=>match np ds with
  |some ps=> .ok (.bX (ps.foldl Z9 ([],[])).1 (ps.foldl Z9 ([],[])).2)
  |none=> .aj
 |_=> .aj
theorem Wm: ∀ {a:List (List aR×V)} {ps:List (List aR×D)} {kvs:List (List aR×V)} {q:List (List aR)×List D},a.map (·.1)=ps.map (·.1)->ao K A H (a.map (·.2)) (ps.map (·.2))->kvs.map (·.1)=q.1->ao K A H (kvs.map (·.2)) q.2->
  (a.foldl (λkvs p=>putK kvs p.1 p.2) kvs).map (·.1)=(ps.foldl Z9 q).1/\ao K A H ((a.foldl (λkvs p=>putK kvs p.1 p.2) kvs).map (·.2)) (ps.foldl Z9 q).2
 | [],[],kvs,q,_,_,c,e=>⟨c,e⟩
 | [],_::_,_,_,h,_,_,_=>by cases h
 |_::_,[],_,_,h,_,_,_=>by cases h
 | (k,v)::a,(l,d)::ps,kvs,q,h,.cons r j,c,e=>by
  simp at h;obtain ⟨rfl,h⟩:=h;obtain ⟨g,i⟩:=VN k e r;rw [c] at g i;exact Wm (kvs:=putK kvs k v) (q:=Z9 q (k,d)) h j g i
def jdL:QD K (λi H Q=> ∃p a ps,i=[.ref p]/\H p=some (.ai a)/\y0 H a ps/\ ∀l,H l=none->Q (.ref l) (aU H l (.dT (Ze ps)))) WG:=by
 intro A i H ds d Q r e q;unfold WG at e
 split at e
 . split at e
   . rename_i ps h;cases e;obtain ⟨v,rfl,j⟩:=r.one;obtain ⟨p,a,rfl,m,_,n⟩:=j.eM;obtain ⟨o,u,g2,g3⟩:=VU n.low h;obtain ⟨w,x⟩:=Wm (kvs:=[]) (q:=([],[])) g2 g3 rfl .nil;exact ⟨p,a,o,rfl,m,u,λl g=>q _ _ (aq.aU g) (.bX jy (.inl g) w rfl ((x.laid g).aO λc z=>⟨.inr z.1,z.2⟩)) (qr (aq.refl H) g)⟩
   . cases e
 . cases e
end
def dQ {N P:List Str} {a:Scope} (c:a.kind= .function:=by rfl) (e:a.isCoroutine=false:=by rfl) (g:a.isGenerator=false:=by rfl) (h:N.Nodup:=by decide+kernel) (i:N.take P.length=P:=by rfl) (j: ∀x∈P,a.names.lookup x=some .local\/a.names.lookup x=some .cell:=by decide+kernel) (l: ∀y∈a.names,y.2≠ .free:=by decide+kernel):au N P a:=⟨c,e,g,h,i,j,l⟩
def Dx (K:aH) (c:WV) (x:Str) (st:Stmt) (ps:List Str):Prop:= ∃f a,nL K x x st f a/\c x=some (.ref f)/\Binds K a ps []
def DN (K:aH) (p:Addr) (x q:Str) (st:Stmt):Prop:= ∃(g:Value) (h i:Option Addr) (c:Array (Option Value)) (kV e j a l:Value),
 K.lookup p=some ⟨g,h,.func (rO x q (yc st) (qD st) (ji st) .none kV e j i a l),c⟩/\Aq K a q=true
def cf (K:aH) (x:Str) (st:Stmt):Prop:= ∃p:Addr,cF K ce x=some (some (.ref p))/\DN K p x x st/\lU K (.ref p)=true
def Dm (K:aH) (C:Addr) (m q:Str) (st:Stmt) (ps:List Str):Prop:= ∃f a,nL K m q st f a/\Meth K C m f/\Binds K a ps []
def gZ (K:aH) (C:Addr) (m q:Str) (st:Stmt):Prop:= ∃p:Addr,ma K (.ref C) m=some (some (.ref p))/\CV K (.ref p)=true/\DN K p m q st/\lU K (.ref p)=true
abbrev Tk (x q:Str) (st:Stmt) (e:List Value) (ps:List Str):Prop:= ∀(kV a g:Value) (h:Option Addr) (c i:Value),bindArgs (rO x q (yc st) (qD st) (ji st) .none kV a g h c i) ⟨e,[]⟩=pure (ps.zip e)
section
variable {K:aH} {mg:WV} {x q m:Str} {st:Stmt} {ps:List Str} {h:Heap} {C:Addr}
def DN.fn (l:DN K p x q st) (k:lU K (.ref p)=true) (j: ∀g,g.length=ps.length->Tk x q st g ps): ∃i,nL K x q st p i/\Binds K i ps []:=by
 obtain ⟨u,v,w,n,kV,o,y,r,ct,l,c⟩:=l;have F:=IQ l c k;exact ⟨_,F,F.binds λa b c d e f g hl=>j g hl a b c d e f⟩
def cf.dx (d:cf K x st) (e:K.In h) (G:h.Ns ce mg) (g: ∀c,c.length=ps.length->Tk x x st c ps):Dx K mg x st ps:=by
 obtain ⟨p,a,l,k⟩:=d;obtain ⟨i,F,B⟩:=l.fn k g;exact ⟨p,i,F,nK e G a,B⟩
def gZ.dm (d:gZ K C m q st) (e: ∀c,c.length=ps.length->Tk m q st c ps):Dm K C m q st ps:=by
 obtain ⟨p,a,i,l,k⟩:=d;obtain ⟨g,F,B⟩:=l.fn k e;exact ⟨p,g,F,⟨a,i,k⟩,B⟩
def We {P:List Value->Prop} {n:Nat} (h: ∀a c,c.length=n->P (a::c)): ∀c,c.length=n+1->P c:=by
 intro c e
 cases c with
 |nil=>cases e
 |cons a r=>exact h a r (Nat.succ.inj e)
def DP {P:List Value->Prop} (h:P []): ∀c,c.length=0->P c:=by
 intro c e
 cases c with
 |nil=>exact h
 |cons a r=>cases e
def gx (h: ∀a,Tk x q st [a] [p]:=by intro _ _ _ _ _ _ _;rfl): ∀c:List Value,c.length=[p].length->Tk x q st c [p]:=We λa=>DP (h a)
def zb (h: ∀a b,Tk x q st [a,b] [p,c]:=by intro _ _ _ _ _ _ _ _;rfl): ∀e:List Value,e.length=[p,c].length->Tk x q st e [p,c]:=We λa=>We λb=>DP (h a b)
def tJ (h: ∀a b c,Tk x q st [a,b,c] [p,e,g]:=by intro _ _ _ _ _ _ _ _ _;rfl): ∀i:List Value,i.length=[p,e,g].length->Tk x q st i [p,e,g]:=We λa=>We λb=>We λc=>DP (h a b c)
def B4 (h: ∀a b c d,Tk x q st [a,b,c,d] [p,e,g,i]:=by intro _ _ _ _ _ _ _ _ _ _;rfl): ∀j:List Value,j.length=[p,e,g,i].length->Tk x q st j [p,e,g,i]:=We λa=>We λb=>We λc=>We λd=>DP (h a b c d)
end
section
variable {P:cp} {w:World} {K:aH} {mg:WV} {af:Heap}
def q8 {st:Stmt} (e:Bool) (d:Dx K mg x st ps) (S:au N ps (ji st))
  (h: ∀(f:Addr) (c:Value) (A:cC) (a:List Env) (s:aL) (H:Hp) (E:XK),aT k (A.deeper (mJ x (ji st) s.heap.objs.size f c))->m6 (gH lB P w K mg af N x (ji st) f c A a s H E).oO (qD st) g):
  Av P w K mg af (k+1) x ps e (aE e N.length g):=by
 obtain ⟨f,i,F,m,B⟩:=d;exact SK e F m S B (h f)
def JI {st:Stmt} (h:Bool) (d:Dm K C m q st ps) (i:cF K ce c=some (some (.ref C))/\gl K C) (S:au N ps (ji st))
  (j: ∀(f:Addr) (e:Value) (A:cC) (a:List Env) (s:aL) (H:Hp) (E:XK),aT k (A.deeper (mJ q (ji st) s.heap.objs.size f e))->m6 (gH lB P w K mg af N q (ji st) f e A a s H E).oO (qD st) g):
  fH P w K mg af (k+1) c m ps h (aE h N.length g):=by
 obtain ⟨f,l,F,m,B⟩:=d;exact ZN h F i.1 i.2 m S B (j f)
def GO {st:Stmt} (d:Dm K C "__init__" q st ps) (i:cF K ce c=some (some (.ref C))/\gl K C) (h:mg c=some (.ref C)) (mk:sg K C=true/\lU K (.ref C)=true) (S:au N ps (ji st)) (j:ps.length=n+1) (hN:n+1<=N.length)
  (l: ∀(f:Addr) (e:Value) (A:cC) (a:List Env) (s:aL) (H:Hp) (E:XK),aT k (A.deeper (mJ q (ji st) s.heap.objs.size f e))->mu (gH lB P w K mg af N q (ji st) f e A a s H E).oO 0 (qD st) g):
  rh P w K mg af (k+1) c n (kf N.length n g):=by
 obtain ⟨f,o,F,m,B⟩:=d;exact Z7 F i.1 h ⟨mk.1,m.at_,m.fn,mk.2⟩ S B j hN (l f)
def B5 {st:Stmt} (a:Bool) (d:Dx K mg x st ps):Av P w K mg af k x ps a (λ_=> .aj):=by
 obtain ⟨f,c,F,m,B⟩:=d;exact SM a F m B
end
section
variable {X:Cx} {a b e:Expr} {f z v:T0} {B:Pos} {x:Str}
def vb (i:Nat) (hN:X.N[i]?=some x:=by rfl) (g:gs X.env.scope x:=by exact gu rfl) (hd:Yi x:=by decide) (c:Yh x:=by decide):DE X .b (.Name x B) (aa i):=DE.b (dv i hN g hd c)
def ib {j}:DE X .b (.Constant (.int i) j B) (cI i):=Fv
def g7 {j}:DE X .s (.Constant (.int i) j B) (cI i):=Fv
def ob (c:dB X (ly h) r) (i:gz X.K r g) (j:DE X .b a z) (l:DE X .b b v):DE X .b (.BinOp a h b B) (ag z v g):=ve c i j l
def iH (c:dB X (ly h) r) (i:gz X.K r g) (j:DE X .b a z) (l:DE X .b b v):DE X .s (.BinOp a h b B) (ag z v g):=ve c i j l
def YF (c:DE X .b a z) (g:DE X .b b v):DE X .b (.BinOp a .Mod b B) (ag z v bj):=ve zD zE c g
def YE (c:DE X .b a z) (g:DE X .b b v):DE X .b (.BinOp a .Pow b B) (ag z v dH):=ve Pk Sg c g
def Qz (c:DE X .b a z) (g:DE X .b b v):DE X .b (.BinOp a .FloorDiv b B) (ag z v bQ):=ve Ud Ue c g
def gi (c:Gl X x) (g: ∃t,X.mg x=some (.int i t)) (hd:Yi x:=by decide):DE X .b (.Name x B) (cI i):=g.elim λ_ h=>IV c h hd
def gis (c:Gl X x) (g: ∃t,X.mg x=some (.int i t)) (hd:Yi x:=by decide):DE X .s (.Name x B) (cI i):=g.elim λ_ h=>IV c h hd
def gst (c:Gl X x) (g: ∃t,X.mg x=some (.str y t)) (i:y.length<=aS:=by decide) (hd:Yi x:=by decide):DE X .b (.Name x B) (cS y):=g.elim λ_ h=>RC c h i hd
end
abbrev FJ:=Sl->ak (D×Sl)
end M
namespace M
open PySem
namespace Tab
open SetTable (Probe runEnd leap bits)
noncomputable def pE (m:Nat) (p:Probe):Probe:=
 if p.more>0 then {p with j:=p.j+1,more:=p.more-1} else
 {p with j:=(leap m p.i p.perturb).1,more:=runEnd m (leap m p.i p.perturb).1-(leap m p.i p.perturb).1,i:=(leap m p.i p.perturb).1,perturb:=(leap m p.i p.perturb).2}
def B6 (m:Nat) (i q:Nat):Probe:={j:=i,more:=runEnd m i-i,i:=i,perturb:=q,dummy:=none}
noncomputable def ix (m:Nat) (h:Int):Nat->Probe
 |0=>B6 m (bits h%(m+1)) (bits h)
 |n+1=>pE m (ix m h n)
def at' (m:Nat) (h:Int) (n:Nat):Nat:=(ix m h n).j
noncomputable def lp (m:Nat) (h:Int):Nat->Nat×Nat
 |0=>(bits h%(m+1),bits h)
 |c+1=>leap m (lp m h c).1 (lp m h c).2
def off (m:Nat) (h:Int):Nat->Nat
 |0=>0
 |c+1=>off m h c+(runEnd m (lp m h c).1-(lp m h c).1)+1
theorem KF (e:ix m h n=B6 m i q): ∀k,k<=runEnd m i-i->ix m h (n+k)={j:=i+k,more:=runEnd m i-i-k,i:=i,perturb:=q,dummy:=none}
 |0,_=>by rw [zf,e];rfl
 |k+1,a=>by
  have:=KF e k (by omega);rw [<-CG];show pE m (ix m h (n+k))=_;rw [this];unfold pE;rw [if_pos (show runEnd m i-i-k>0 by omega)];simp;omega
theorem uk (m:Nat) (h:Int): ∀c,ix m h (off m h c)=B6 m (lp m h c).1 (lp m h c).2
 |0=>rfl
 |c+1=>by
  have e:=KF (uk m h c) _ (bn _);show pE m (ix m h (off m h c+(runEnd m (lp m h c).1-(lp m h c).1)))=_;rw [e];unfold pE;rw [if_neg (by simp)];rfl
def Kn (a:k<=runEnd m (lp m h c).1-(lp m h c).1):at' m h (off m h c+k)=(lp m h c).1+k:=by
 unfold at';rw [KF (uk m h c) k a]
def jha (m i:Nat):runEnd m i-i<=9:=by unfold runEnd;split<;>omega
theorem Mi (m:Nat) (h:Int): ∀c,off m h c<=10*c
 |0=>bn _
 |c+1=>by
  have:=Mi m h c;have:=jha m (lp m h c).1;show off m h c+(runEnd m (lp m h c).1-(lp m h c).1)+1<=_;omega
theorem Mj (m:Nat) (h:Int): ∀c,(lp m h c).1<=m
 |0=>GP (Nat.mod_lt _ (DQ _))
 |c+1=>GP (Nat.mod_lt _ (DQ _))
def jgw (h:Int):bits h<2^64:=by
 unfold bits;have a:(0:Int)<=h%(2^64:Int):=tK _ (by decide);have c:h%(2^64:Int)< (2^64:Int):=tL _ (by decide);omega
theorem Wu (m:Nat) (h:Int): ∀c,(lp m h c).2=bits h/32^c
 |0=>by simp [lp]
 |c+1=>by
  show (lp m h c).2/32=_;rw [Wu m h c,Nat.div_div_eq_div_mul,Nat.pow_succ]
def jfD (m:Nat) (h:Int) (a:13<=c):(lp m h c).2=0:=by
 rw [Wu];refine Nat.div_eq_of_lt (gR (jgw h) ?_);exact cE (by decide:2^64<=32^13) (Nat.pow_le_pow_right (by decide) a)
def fv (m:Nat):Nat->Nat->Nat
 |0,i=>i
 |d+1,i=>(fv m d i*5+1)%(m+1)
theorem Ml (m:Nat) (h:Int): ∀d,(lp m h (13+d)).1=fv m d (lp m h 13).1
 |0=>rfl
 |d+1=>by
  show (leap m (lp m h (13+d)).1 (lp m h (13+d)).2).1=_;rw [jfD m h (by omega)];rw [Ml m h d];rfl
def oC (m:Nat):Prop:= ∀i j,i<=m->j<=m-> ∃d,d<=m/\fv m d i=j
theorem UA (m:Nat) (a i:Nat): ∀b,fv m (a+b) i=fv m b (fv m a i)
 |0=>rfl
 |b+1=>by show (fv m (a+b) i*5+1)%(m+1)=_;rw [UA m a i b];rfl
def jiG (g:fv m (m+1) 0=0) (h: ∀j,j<=m-> ∃d,d<=m/\fv m d 0=j):oC m:=λi j l n=>by
 obtain ⟨a,p,c⟩:=h i l;obtain ⟨b,q,e⟩:=h j n
 by_cases o:a<=b
 . exact ⟨b-a,by omega,by rw [<-c,<-UA,show a+(b-a)=b by omega,e]⟩
 . refine ⟨m+1-a+b,by omega,?_⟩;rw [<-c,<-UA,show a+(m+1-a+b)=m+1+b by omega,UA,g,e]
def GQ (m:Nat):Nat->Nat->List Nat
 |0,_=>[]
 |n+1,i=>i::GQ m n ((i*5+1)%(m+1))
theorem Mm (m:Nat) (i:Nat): ∀d,fv m (d+1) i=fv m d ((i*5+1)%(m+1))
 |0=>rfl
 |d+1=>by show (fv m (d+1) i*5+1)%(m+1)=_;rw [Mm m i d];rfl
theorem uR (m:Nat): ∀n i j,j∈GQ m n i-> ∃d,d<n/\fv m d i=j
 |0,_,_,h=>by cases h
 |n+1,i,j,h=>by
  rcases cQ.mp h with rfl|h
  . exact ⟨0,DQ _,rfl⟩
  . obtain ⟨d,c,a⟩:=uR m n _ j h;exact ⟨d+1,by omega,by rw [Mm];exact a⟩
def Vq (a:fv m (m+1) 0=0) (h:(fF (m+1)).all (λj=>(GQ m (m+1) 0).contains j)=true):oC m:=
 jiG a λj g=>by
  have c:=iT.mp h j (iU.mpr (by omega));obtain ⟨d,i,e⟩:=uR m _ _ _ (List.contains_iff_mem.mp c);exact ⟨d,by omega,e⟩
def GR:oC 7:=Vq (by decide+kernel) (by decide+kernel)
def jjL:oC 31:=Vq (by decide+kernel) (by decide+kernel)
def jiH:oC 127:=Vq (by decide+kernel) (by decide+kernel)
def Ww (C:oC m) (h:Int) (a:j<=m): ∃c,c<=m+13/\(lp m h c).1=j:=by
 obtain ⟨d,g,e⟩:=C _ j (Mj m h 13) a;exact ⟨13+d,by omega,by rw [Ml,e]⟩
def ki (C:oC m) (h:Int) (a:j<=m): ∃n,n<=10*(m+13)/\at' m h n=j:=by
 obtain ⟨c,g,e⟩:=Ww C h a;refine ⟨off m h c,cE (Mi m h c) (by omega),?_⟩;have:=Kn (m:=m) (h:=h) (c:=c) (li _);rw [zf] at this;rw [this,e,zf]
def Mn (h:Int) (n:Nat):at' m h n<=m:=by
 suffices c: ∀n,(ix m h n).j+(ix m h n).more<=m by exact cE (yZ _ _) (c n)
 have a: ∀i q,i<=m->(B6 m i q).j+(B6 m i q).more<=m:=λi q e=>by
  show i+(runEnd m i-i)<=m;unfold runEnd;split<;>omega
 intro n
 induction n with
 |zero=>exact a _ _ (Mj m h 0)
 |succ n g=>
  show (pE m (ix m h n)).j+(pE m (ix m h n)).more<=m;unfold pE
  split
  . show (ix m h n).j+1+((ix m h n).more-1)<=m;omega
  . exact a _ 0 (GP (Nat.mod_lt _ (DQ _)))
def xi {m:Nat} (C:oC m) (h:Int) (c:Nat->Prop) [DecidablePred c] {j:Nat} (l:j<=m) (o: ¬c j): ∃n,n<=10*(m+13)/\ ¬c (at' m h n)/\ ∀k,k<n->c (at' m h k):=by
 obtain ⟨n,u,p⟩:=ki C h l
 suffices q: ∀N,¬c (at' m h N)-> ∃n,n<=N/\ ¬c (at' m h n)/\ ∀k,k<n->c (at' m h k) by
  obtain ⟨g,a,b⟩:=q n (by rw [p];exact o);exact ⟨g,by omega,b⟩
 intro N
 induction N using Nat.strongRecOn with
 |ind N r=>
  intro hN
  by_cases e: ∀k,k<N->c (at' m h k)
  . exact ⟨N,bn _,hN,e⟩
  . simp at e;obtain ⟨k,i,e⟩:=e;obtain ⟨g,a,b⟩:=r k i e;exact ⟨g,by omega,b⟩
end Tab
namespace Tac
variable {L:Bool}
open Tab
open SetTable (Probe runEnd leap bits below insertAt)
theorem XU (g:Array Nat) (j:Nat) (up:g.toList.Pairwise (· < ·)): ∀(fuel lo c:Nat),c-lo<=fuel->lo<=c->c<=g.size->(∀k v,k<lo->g[k]?=some v->v<j)->(∀k v,c<=k->g[k]?=some v->j<=v)->
  (∀k v,k<DR g j fuel lo c->g[k]?=some v->v<j)/\(∀k v,DR g j fuel lo c<=k->g[k]?=some v->j<=v)/\DR g j fuel lo c<=g.size
 |0,lo,c,E,H,l,m,n=>by
  obtain rfl:lo=c:=by omega
  exact ⟨m,n,l⟩
 |fuel+1,lo,c,E,H,l,m,n=>by
  unfold DR
  by_cases y:lo<c
  . rw [if_pos y];have i:(lo+c)/2<g.size:=by omega
    have I:g.getD ((lo+c)/2) j=g[(lo+c)/2]:=by rw [tM,mG i];rfl
    have mono: ∀a b p vb,a<b->g[a]?=some p->g[b]?=some vb->p<vb:=λa b p vb q z B=>by
      rw [<-oj] at z B;obtain ⟨r,u⟩:=mX.mp z;obtain ⟨w,x⟩:=mX.mp B;rw [<-u,<-x];exact BV.mp up a b r w q
    dsimp only;rw [I]
    by_cases o:g[(lo+c)/2]<j
    . rw [if_pos o];refine XU g j up fuel _ c (by omega) (by omega) l (λk v J e=>?_) n
      by_cases h:k=(lo+c)/2
      . subst h;rw [mG i] at e;cases e;exact o
      . exact C5 (mono k _ v _ (by omega) e (mG i)) o
    . rw [if_neg o];refine XU g j up fuel lo _ (by omega) (by omega) (by omega) m (λk v J e=>?_)
      by_cases h:k=(lo+c)/2
      . subst h;rw [mG i] at e;cases e;omega
      . have:=mono _ k _ v (by omega) (mG i) e;omega
  . rw [if_neg y];obtain rfl:lo=c:=by omega
    exact ⟨m,n,l⟩
def WJ (up:a.toList.Pairwise (· < ·)) (j:Nat):(∀k v,k<mQ a j->a[k]?=some v->v<j)/\(∀k v,mQ a j<=k->a[k]?=some v->j<=v)/\mQ a j<=a.size:=
 XU a j up a.size 0 a.size (by omega) (li _) (bn _) (λk v h _=>absurd h (ri _)) λk v h e=>by
  rw [Array.getElem?_eq_none h] at e;cases e
def jdS (up:a.toList.Pairwise (· < ·)) (e:a[i]?=some j):mQ a j=i:=by
 obtain ⟨l,m,o⟩:=WJ up j
 have n:mQ a j<=i:=by
  refine C7 λh=>?_
  exact absurd (l i j h e) (pI _)
 have c:=(Array.getElem?_eq_some_iff.mp e).1;refine Nat.le_antisymm n (C7 λh=>?_);have g:mQ a j<a.size:=by omega
 have:=m _ _ (bn _) (mG g)
 have p:a[mQ a j]<a[i]:=by
  have:=BV.mp up (mQ a j) i (by simpa using g) (by simpa using c) h;simpa using this
 rw [mG c] at e;cases e;omega
theorem vQ {t:l5} (up:t.place.toList.Pairwise (· < ·)) (dm:t.dummies= #[]) (j:Nat):t.slot j=match t.place[mQ t.place j]? with
  |some v=>if v=j then .live (mQ t.place j) else .empty
  |none=> .empty:=by
 unfold SetTable.slot;have hd:SetTable.has t.dummies j=false:=by rw [dm];rfl
 dsimp only;rw [hd]
 cases h:t.place[mQ t.place j]? with
 |none=>simp
 |some v=>simp
def Yf {t:l5} (up:t.place.toList.Pairwise (· < ·)) (dm:t.dummies= #[]) (e:t.place[i]?=some j):t.slot j= .live i:=by
 rw [vQ up dm,jdS up e,e];simp
def U5 {t:l5} (up:t.place.toList.Pairwise (· < ·)) (dm:t.dummies= #[]) (e:j∉t.place.toList):t.slot j= .empty:=by
 rw [vQ up dm]
 split
 . rename_i v h;rw [if_neg];rintro rfl;rw [<-oj] at h;exact e (pz h)
 . rfl
structure Tb (L:Bool) (m:Nat) (t:l5) (es:Array (Int×Value)):Prop where
 ld:t.led=L
 mask:t.mask=m
 dm:t.dummies= #[]
 sz:t.place.size=es.size
 up:t.place.toList.Pairwise (· < ·)
 le: ∀j∈t.place.toList,j<=m
def Tb.fresh (led:Bool):Tb led 7 (.fresh 0 0 led) #[]:=⟨rfl,rfl,rfl,rfl,.nil,(λ_ h=>by cases h)⟩
section
variable {m:Nat} {t:l5} {Z:Array (Int×Value)}
def Tb.el (T:Tb L m t Z) {i:Nat} (h:t.place[i]?=some j): ∃e,Z[i]?=some e:=by
 have:=(Array.getElem?_eq_some_iff.mp h).1;exact ⟨_,mG (by rw [<-T.sz];exact this)⟩
def Tb.put (T:Tb L m t Z) (l:j<=m) (n:j∉t.place.toList):Tb L m (t.put j).1 (insertAt Z (t.put j).2 (h,x)):=by
 obtain ⟨b1,b2,p⟩:=WJ T.up j
 have c: ∀k,k∈(insertAt t.place (mQ t.place j) j).toList↔k=j\/k∈t.place.toList:=λk=>by
   rw [SetTable.toList_insertAt];have:t.place.toList=t.place.toList.take (mQ t.place j)++t.place.toList.drop (mQ t.place j):=(GS _ _).symm
   constructor
   . intro z;rcases ij.mp z with z|z
     . exact .inr (List.mem_of_mem_take z)
     . rcases cQ.mp z with z|z
       . exact .inl z
       . exact .inr (GU z)
   . rintro (rfl|z)
     . exact nU _ cu
     . rw [this] at z;rcases ij.mp z with z|z
       . exact rH _ z
       . exact nU _ (de _ z)
 have hd:(t.put j).1.dummies= #[]:=by
   show (if SetTable.has t.dummies j then _ else t.dummies)= #[];rw [T.dm];rfl
 refine ⟨T.ld,T.mask,hd,?_,?_,?_⟩
 . show (insertAt t.place (mQ t.place j) j).size=(insertAt Z (mQ t.place j) (h,x)).size;have:=T.sz;rw [<-jE,<-jE,(GV _ _ _).length_eq,(GV _ _ _).length_eq];simp [this]
 . show (insertAt t.place (mQ t.place j) j).toList.Pairwise (· < ·);rw [SetTable.toList_insertAt,List.pairwise_append,AJ];refine ⟨T.up.sublist (E4 _ _),⟨λv g=>?_,T.up.sublist (List.drop_sublist _ _)⟩,λv g w hw=>?_⟩
   . obtain ⟨q,a⟩:=AK.mp g;rw [List.getElem?_drop,oj] at a;have:=b2 _ _ (yZ _ _) a;refine Nat.lt_of_le_of_ne this ?_;rintro rfl;exact n (by rw [<-oj] at a;exact pz a)
   . have e:v<j:=by
       obtain ⟨q,a⟩:=AK.mp g;obtain ⟨o,r⟩:=mX.mp a;have i:q<mQ t.place j:=by simp at o;omega
       rw [List.getElem?_take_of_lt i,oj] at a;exact b1 q v i a
     rcases cQ.mp hw with rfl|hw
     . exact e
     . obtain ⟨q,a⟩:=AK.mp hw;rw [List.getElem?_drop,oj] at a;exact gR e (b2 _ _ (yZ _ _) a)
 . intro k hk;rcases (c k).mp hk with rfl|hk
   . exact l
   . exact T.le k hk
theorem Mo: ∀ {l c:List Nat},l.Nodup->(∀x∈l,x∈c)->l.length<=c.length
 | [],_,_,_=>li _
 |a::l,c,g,h=>by
  obtain ⟨i,j⟩:=py.mp g;have n:=Mo j λx e=>(Fk (by rintro rfl;exact i e)).mpr (h x (de _ e))
  have o:=Fl (h a cu);have p:=Fm (h a cu);rw [fR];omega
def Tb.free (T:Tb L m t Z) (g:Z.size<=m): ∃j,j<=m/\j∉t.place.toList:=by
 refine DU λh=>?_
 have a: ∀j,j∈fF (m+1)->j∈t.place.toList:=λj c=>DU λz=>h ⟨j,by have:=iU.mp c;omega,z⟩
 have e:=Mo (Dp) a;rw [DV,jE,T.sz] at e;omega
end
end Tac
namespace Tac
open Tab
variable {L:Bool}
open SetTable (Probe runEnd leap bits below insertAt)
def qB (a:Array (Option Nat)) (j:Nat):Prop:=(a.getD j (some 0)).isNone=false
instance (ow:Array (Option Nat)):DecidablePred (qB ow):=λj=>inferInstanceAs (Decidable (_=false))
def jhb (m i:Nat):i<=runEnd m i:=by unfold runEnd;split<;>omega
def Xi (m:Nat) (h:Int) (c:Nat):off m h (c+1)=off m h c+(runEnd m (lp m h c).1-(lp m h c).1)+1:=rfl
def jcM (m:Nat) (h:Int) (c:a<b):off m h a<off m h b:=by
 induction b with
 |zero=>omega
 |succ b g=>
  rw [Xi]
  by_cases e:a=b
  . subst e;omega
  . have:=g (by omega);omega
theorem Mp (hN: ¬qB g (at' m h N)) (i: ∀k,k<N->qB g (at' m h k)): ∀(fuel c:Nat),off m h c<=N->N<off m h (c+fuel)->
  B7 m g fuel (lp m h c).1 (lp m h c).2=some (at' m h N)
 |0,c,p,j=>by rw [zf] at j;omega
 |fuel+1,c,p,j=>by
  have q:=jhb m (lp m h c).1;unfold B7
  by_cases o:N<off m h (c+1)
  . rw [Xi] at o
    have e:at' m h N=(lp m h c).1+(N-off m h c):=by
     rw [<-Kn (by omega)];congr 1;omega
    have l:(fF (runEnd m (lp m h c).1+1-(lp m h c).1)).find? (λk=>(g.getD ((lp m h c).1+k) (some 0)).isNone)=some (N-off m h c):=by
     rw [List.find?_range_eq_some];refine ⟨?_,by rw [iU];omega,λk n=>?_⟩
     . rw [<-e];unfold qB at hN;simpa using hN
     . have a:=i (off m h c+k) (by omega);rw [Kn (by omega)] at a;unfold qB at a;simpa using a
    rw [l,e]
  . have l:(fF (runEnd m (lp m h c).1+1-(lp m h c).1)).find? (λk=>(g.getD ((lp m h c).1+k) (some 0)).isNone)=none:=by
     rw [GW];intro k n;have n:=iU.mp n;rw [Xi] at o;have a:=i (off m h c+k) (by omega);rw [Kn (by omega)] at a;unfold qB at a;rw [GX];exact a
    rw [l];exact Mp hN i fuel (c+1) (by omega) (by rw [show c+1+fuel=c+(fuel+1) by omega];exact j)
def jfY (C:oC m) (h:Int) (i:j<=m) (l: ¬qB a j): ∃N,B7 m a (rW m) (bits h%(m+1)) (bits h)=some (at' m h N)/\ ¬qB a (at' m h N)/\ ∀k,k<N->qB a (at' m h k):=by
 obtain ⟨c,p,o⟩:=Ww C h i;obtain ⟨N,_,n,g⟩:=xi C h (qB a) i l;refine ⟨N,?_,n,g⟩
 have q:N<=off m h c:=by
  refine C7 λz=>?_
  have:=g _ z;have e:=Kn (m:=m) (h:=h) (c:=c) (li _);rw [zf,zf,o] at e;rw [e] at this;exact l this
 have:=jcM m h (show c<0+rW m by unfold rW;omega);exact Mp n g (rW m) 0 (li _) (by omega)
structure Ow (m:Nat) (ow:Array (Option Nat)) (k:Nat):Prop where
 sz:ow.size=m+1
 ay: ∀(j q:Nat),ow[j]?=some (some q)->q<k
 cnt:(fF (m+1)).countP (λj=>(ow.getD j none).isSome)=k
def Ys (c:j<a.size):qB a j↔ ∃q,a[j]?=some (some q):=by
 unfold qB;rw [tM,mG c];cases h:a[j]<;>simp [h]
def Ow.room (O:Ow m a k) (g:k<=m): ∃j,j<=m/\ ¬qB a j:=by
 refine DU λh=>?_
 have:=(List.countP_eq_length (p:=λj=>(a.getD j none).isSome) (l:=fF (m+1))).mpr λj c=>by
  have c:=iU.mp c;have:qB a j:=DU λz=>h ⟨j,by omega,z⟩
  obtain ⟨q,e⟩:=(Ys (by rw [O.sz];omega)).mp this;simp [tM,e]
 rw [O.cnt,DV] at this;omega
theorem Mq {f g:Nat->Bool} (h: ∀j,j≠p->f j=g j) (c:f p=false) (i:g p=true): ∀ {l:List Nat},l.Nodup->p∈l->l.countP g=l.countP f+1
 |a::l,m,n=>by
  obtain ⟨o,r⟩:=py.mp m
  by_cases e:a=p
  . subst e;rw [List.countP_cons_of_pos i,List.countP_cons_of_neg (by simp [c]),List.countP_congr (p:=g) (q:=f) λx u=>by rw [h x (by rintro rfl;exact o u)]]
  . have:=Mq h c i r ((cQ.mp n).resolve_left λz=>e z.symm);simp only [List.countP_cons,this,h a e];omega
def Ow.step (O:Ow m a k) (hN: ¬qB a (at' m h N)):Ow m (a.setIfInBounds (at' m h N) (some k)) (k+1):=by
 have c:=Mn (m:=m) h N;have cL:at' m h N<a.size:=by rw [O.sz];omega
 have get: ∀j:Nat,(a.setIfInBounds (at' m h N) (some k))[j]?=if at' m h N=j then some (some k) else a[j]?:=λj=>by
   rw [Array.getElem?_setIfInBounds]
   split
   . rename_i e;subst e;simp [cL]
   . rfl
 refine ⟨by rw [Array.size_setIfInBounds];exact O.sz,λj q e=>?_,?_⟩
 . rw [get] at e
   split at e
   . cases e;omega
   . have:=O.ay j q e;omega
 . refine (Mq (p:=at' m h N) (f:=λj=>(a.getD j none).isSome) (λj g=>?_) ?_ ?_ Dp (iU.mpr (by omega))).trans (by rw [O.cnt])
   . simp only [tM,get,if_neg (lu g)]
   . cases e:a.getD (at' m h N) none with
     |none=>rfl
     |some q=>exact absurd ((Ys cL).mpr ⟨q,by rw [tM,mG cL] at e;rw [mG cL];simpa using e⟩) hN
   . simp [tM,get]
theorem Mr (C:oC m) (p:n.length<=m): ∀(l done:List Int) (i:Array (Option Nat)),done++l=n->Ow m i done.length->
  ∃g,l.foldl (λ(o:Option (Array (Option Nat)×Nat)) h=>do
   let (c,k)<-o
   let j<-B7 m c (rW m) (bits h%(m+1)) (bits h)
   pure (c.setIfInBounds j (some k),k+1)) (some (i,done.length))=some (g,n.length)/\Ow m g n.length
 | [],done,i,e,O=>by
  rw [oH] at e;subst e;exact ⟨i,rfl,O⟩
 |h::l,done,i,e,O=>by
  have x:done.length<n.length:=by rw [<-e];simp
  obtain ⟨j,q,r⟩:=O.room (by omega);obtain ⟨N,u,v,y⟩:=jfY C h q r;have w:=O.step v;obtain ⟨g,a,b⟩:=Mr C p l (done++[h]) _ (by rw [<-e];simp) (by rw [gm];exact w);refine ⟨g,?_,b⟩;rw [<-a,Bo];congr 1;show (B7 m i (rW m) (bits h%(m+1)) (bits h)>>=λj=>_)=_;rw [u,gm];rfl
def K8 (C : oC m) (h : hs.size <= m) : ∃ c, SetTable.layClean m hs = some c /\ Ow m c hs.size := by
  have i : Ow m (Array.replicate (m + 1) none) 0 := ⟨by simp, λj q e => by rw [Array.getElem?_replicate] at e; split at e <;> simp at e, by
    rw [List.countP_eq_zero]
    intro j l
    simp [tM, Array.getElem?_replicate, iU.mp l]⟩
  obtain ⟨c, a, b⟩ := Mr C (by simpa using h) hs.toList [] _ rfl i
  refine ⟨c, ?_, by simpa using b⟩
  unfold SetTable.layClean
  rw [<- Array.foldl_toList]
  have g := a
  simp only [rM] at g
  rw [g]; rfl
def ui {m:Nat} (T:Tb L m t g) (hw:B8 h-1=n) (C:oC n) (I:g.size<=n):
   ∃w order,t.relaid (g.map (·.1)) h=some (w,order)/\Tb L n w (order.filterMap (g[·]?))/\(∀e∈(order.filterMap (g[·]?)).toList,e∈g.toList)/\(order.filterMap (g[·]?)).size=g.size:=by
 obtain ⟨z,J,O⟩:=K8 C (hs:=g.map (·.1)) (by simpa using I);rw [Array.size_map] at O;unfold SetTable.relaid SetTable.laid;rw [hw,J];generalize i:(fF (n+1)).filterMap (λj=>(z.getD j none).map (j, ·))=c
 have mem: ∀p∈c,p.1<=n/\p.2<g.size:=λp o=>by
   rw [<-i,CP] at o;obtain ⟨a,u,e⟩:=o;rw [sX] at e;obtain ⟨b,e1,rfl⟩:=e;have u:=iU.mp u;rw [tM,mG (by rw [O.sz];exact u)] at e1;exact ⟨by omega,O.ay a b (by rw [mG (by rw [O.sz];exact u)];simpa using e1)⟩
 have l:c.length=g.size:=by
   rw [<-i,Ms,<-O.cnt];exact List.countP_congr λj _=>by cases z.getD j none<;>simp
 have up:c.Pairwise (λa b=>a.1<b.1):=by
   rw [<-i];refine List.pairwise_filterMap.mpr ((List.pairwise_lt_range).imp λ{a b} v x B y E=>?_);rw [sX] at B E;obtain ⟨_,_,rfl⟩:=B;obtain ⟨_,_,rfl⟩:=E;exact v
 have r:((c.map (·.2)).toArray.filterMap (g[·]?)).size=g.size:=by
   rw [<-jE];simp only [Array.toList_filterMap,Ms];rw [<-l,<-bM (f:=(·.2)) (as:=c),List.countP_eq_length];intro q N;obtain ⟨p,o,rfl⟩:=cK.mp N;rw [mG (mem p o).2];rfl
 refine ⟨{mask:=n,place:=(c.map (·.1)).toArray,dummies:= #[],finger:=t.finger,led:=t.led,moves:=t.movedTo n,plain:=t.plain},(c.map (·.2)).toArray,by rw [<-i];rfl,⟨T.ld,rfl,rfl,by rw [r];simp [l],yD.mpr up,λj Q=>?_⟩,λe H=>?_,r⟩
 . obtain ⟨p,o,rfl⟩:=cK.mp (show j∈c.map (·.1) from Q);exact (mem p o).1
 . simp only [Array.toList_filterMap,CP] at H;obtain ⟨q,_,e⟩:=H;exact CU.mpr (Array.mem_of_getElem? e)
end Tac
namespace Tac
open Tab
variable {L:Bool}
open SetTable (Probe runEnd leap bits below insertAt)
theorem Yp (m:Nat) (h:Int): ∀n,(ix m h n).dummy=none
 |0=>rfl
 |n+1=>by
  show (pE m (ix m h n)).dummy=none;unfold pE;split<;>exact Yp m h n
def jiV (t:l5) (p:Probe):t.advance p=pE t.mask p:=by unfold SetTable.advance pE;split<;>rfl
def jch (t:l5) (h:Int):t.probeStart h=ix t.mask h 0:=rfl
section
variable {m:Nat} {t:l5} {Y:Array (Int×Value)}
theorem VV (T:Tb L m t Y) {hashAt:Nat->Int} (h:Int) (hN:at' m h N∉t.place.toList) (j: ∀k,k<N->at' m h k∈t.place.toList):
  ∀(F n:Nat),N-n<F->n<=N->
    tN t hashAt h F (ix m h n)=some (.empty (at' m h N) none)\/
    ∃(q i:Nat) (e:Int×Value),n<=q/\q<N/\t.place[i]?=some (at' m h q)/\Y[i]?=some e/\tN t hashAt h F (ix m h n)=some (.candidate (at' m h q) i (ix m h (q+1)))
 |0,n,l,_=>absurd l (ri _)
 |F+1,n,l,v=>by
  by_cases o:n=N
  . subst o;refine .inl ?_;unfold tN;rw [show (ix m h n).j=at' m h n from rfl,U5 T.up T.dm hN];rw [Yp]
  . obtain ⟨i,c⟩:=AK.mp (j n (by omega));rw [oj] at c;obtain ⟨e,p⟩:=T.el c
    have g:tN t hashAt h (F+1) (ix m h n)=if hashAt i==h then some (.candidate (at' m h n) i (ix m h (n+1))) else tN t hashAt h F (ix m h (n+1)):=by
      rw [tN];rw [show (ix m h n).j=at' m h n from rfl,Yf T.up T.dm c];simp only [jiV,T.mask];rfl
    rw [g]
    split
    . exact .inr ⟨n,i,e,bn _,by omega,c,p,rfl⟩
    . rcases VV T h hN j F (n+1) (by omega) (by omega) with a| ⟨q,r,u,a,b⟩
      . exact .inl a
      . exact .inr ⟨q,r,u,by omega,b⟩
end
section
variable {prog:cp} {w:World} {K:Type} [DecidableEq K] {Z:KeyKind prog w K} {A:cC} {E:U9} {s:aL}
def XR (n:Nat) (h:AQ v=true):ofAClassStatement n v=pure false:=by
 cases v with
 |ref a=>simp [AQ] at h
 |_=>cases n<;>rfl
def JH (l:mw Z s.heap ks a) (h:Q false s):wpAny (model prog w) A (ofAClassStatement 8 (.ref a)) Q E s:=by
 have m:=l.typeIs;obtain ⟨o,e,n,p,_,hd,q⟩:=l;unfold ofAClassStatement;refine ax (As m ?_);refine ax (aV ?_);simp;refine ax (Ae p hd ?_);dsimp only;refine ax ?_;rw [<-CF];refine AV _ (λrest r g=>r.1=none/\g=s/\ ∀v∈rest,AQ v=true) _ ?_ ?_ _ _ ⟨rfl,rfl,q.byValue⟩
 . rintro v rest r g ⟨i,rfl,c⟩;rw [XR _ (c v cu)];refine ax (aV ?_);simp;exact aV ⟨rfl,rfl,λu j=>c u (de _ j)⟩
 . rintro ⟨x,y⟩ g ⟨i,rfl,_⟩;simp only at i;subst i;exact aV h
def Ve (n:Nat) (h:AQ v=true): ∃b,hashByValue n v=pure b:=by
 cases v with
 |ref a=>simp [AQ] at h
 |_=>cases n<;>first|exact ⟨_,rfl⟩| (unfold hashByValue;exact ⟨_,rfl⟩)
def Vf (j:mw Z s.heap ks a) (h: ∀b,Q b s):wpAny (model prog w) A (hashByValue 8 (.ref a)) Q E s:=by
 have l:=j.typeIs;obtain ⟨o,e,n,m,_,hd,p⟩:=j;unfold hashByValue;refine ax (wpAny_specialOf l F.slot_tuple_hash.lookup ?_);refine ax (Ae m hd ?_);refine ax ?_;rw [<-CF];refine AV _ (λrest r g=>g=s/\ ∀v∈rest,AQ v=true) _ ?_ ?_ _ _ ⟨rfl,p.byValue⟩
 . rintro v rest r g ⟨rfl,c⟩;obtain ⟨b,q⟩:=Ve 7 (c v cu);rw [q];refine ax (aV ?_)
   cases b with
   |true=>
    simp;exact aV ⟨rfl,λu i=>c u (de _ i)⟩
   |false=>
    simp;exact aV (aV (h _))
 . rintro ⟨x,y⟩ g ⟨rfl,_⟩
   cases x with
   |none=>exact aV (h _)
   |some b=>exact aV (h _)
def UX (j:mw Z s.heap ks a) (l:List Value) (n: ∀y∈l,∃b k,y= .ref b/\mw Z s.heap k b) (h:Q false s):wpAny (model prog w) A (searchCouldBeSeen (.ref a) l) Q E s:=by
 unfold searchCouldBeSeen;refine ax ?_;refine AV _ (λrest r g=>r.1=none/\g=s/\ ∀y∈rest,∃b k,y= .ref b/\mw Z s.heap k b) _ ?_ ?_ _ _ ⟨rfl,rfl,n⟩
 . rintro y rest r g ⟨i,rfl,c⟩;obtain ⟨b,k,rfl,m⟩:=c y cu;have go: ∀u e,_:=λu (e:u∈rest)=>c u (de _ e)
   dsimp only
   split
   . exact aV ⟨rfl,rfl,go⟩
   . refine ax (wpAny_eqIsQuiet_tuple j ?_);simp only [rY,mT,if_false];refine ax (wpAny_eqIsQuiet_tuple m ?_);simp only [rY,mT,if_false];refine ax (JH j ?_);simp only [mT,if_false];refine ax (JH m ?_);simp only [mT,if_false];exact aV ⟨rfl,rfl,go⟩
 . rintro ⟨o,p⟩ g ⟨i,rfl,_⟩;simp only at i;subst i;exact aV h
end
end Tac
namespace Tac
open Tab
variable {L:Bool}
open SetTable (Probe runEnd leap bits below insertAt)
def Sz (m n:Nat):Prop:=(m=7/\n<=4)\/(m=31/\n<=18)\/(m=127/\n<=76)
def Sz.Mt (S:Sz m n):oC m:=by
 rcases S with ⟨rfl,_⟩| ⟨rfl,_⟩| ⟨rfl,_⟩
 . exact GR
 . exact jjL
 . exact jiH
def Sz.le (S:Sz m n):n<=m/\m<=127/\m%2=1/\n<=76:=by rcases S with ⟨rfl,h⟩| ⟨rfl,h⟩| ⟨rfl,h⟩<;>omega
def Tb.fits (T:Tb L m t a) (h:a.size<=m):t.fits a.size=true:=by
 unfold SetTable.fits SetTable.fill;rw [T.dm,T.sz,T.mask];simpa using h
section
variable {prog:cp} {w:World} {K:Type} [DecidableEq K] {Z:KeyKind prog w K} {A:cC} {E:U9} {s:aL}
def vY (Y:A.units<cLine) (H:s.heap.get? a=some o) (hd:o.data= .set j ep t) (T:Tb L m t j) (S:Sz m j.size)
  (I: ∀e∈j.toList,∃k b,e=(l6 Z k,dN b)/\k≠g/\mw Z s.heap k b) (J:mw Z s.heap g xa)
  (hN:at' m (l6 Z g) N∉t.place.toList) (hb: ∀k,k<N->at' m (l6 Z g) k∈t.place.toList) (sB:N<=10*(m+13)) (h2:Q (.free (at' m (l6 Z g) N) false) s):
  ∀(F n:Nat) (c:Option Probe),N-n<F->n<=N->c.getD (t.probeStart (l6 Z g))=ix m (l6 Z g) n->
    wpAny (model prog w) A (setSearchFrom a (.ref xa) (l6 Z g) true F c) Q E s:=by
 have O:=T.fits S.le.1;intro F
 induction F with
 |zero=>intro n _ z;exact absurd z (ri _)
 |succ F ih=>
  intro n c hF hn l;unfold setSearchFrom;refine ax (AM H hd O ?_);dsimp only;have p:t.gaveWay=false:=by unfold SetTable.gaveWay;rw [T.mask];have:=S.le.2.2.1;simp [this]
  rw [p];simp;rw [l];unfold SetTable.probe;generalize e0:tN t _ (l6 Z g) (10*rW t.mask) (ix m (l6 Z g) n)=R;have e0:tN t (λi=>(j[i]?.map (·.1)).getD 0) (l6 Z g) (10*rW t.mask) (ix m (l6 Z g) n)=R:=e0;rcases VV T (hashAt:=λi=>(j[i]?.map (·.1)).getD 0) _ hN hb (10*rW t.mask) n (by rw [T.mask];unfold rW;omega) hn with e1| ⟨q,i,e,a1,a2,a3,r,U⟩
  . rw [e0] at e1;subst e1;exact aV h2
  . rw [e0] at U;subst U;dsimp only;obtain ⟨k,b,rfl,u,v⟩:=I e (CU.mpr (Array.mem_of_getElem? r));have x:t.sameMemory t.moves t.mask=some true:=by unfold SetTable.sameMemory;simp
    split
    case' isTrue=>
     refine ax (UX J _ (λy hy=>?_) ?_)
     . obtain ⟨B,h,rfl⟩:=cK.mp hy;have h:B∈j/\B.1=l6 Z g:=by simpa using h
       obtain ⟨k',b',rfl,_,h'⟩:=I B (CU.mpr h.1);exact ⟨_,_,rfl,h'⟩
     simp
    all_goals
     rw [r];dsimp only;refine ax (mI (wpAny_eqBool_tuple Y v J ?_));refine ax (AM H hd O ?_);rw [decide_eq_false u];simp;rw [x];simp;rw [Yf T.up T.dm a3];dsimp only;rw [r];dsimp only;refine ax (wpAny_isSame_ref_self ?_);simp;exact ih (q+1) _ (by omega) (by omega) rfl
end
end Tac
namespace Tac
open Tab
variable {L:Bool}
open SetTable (Probe runEnd leap bits below insertAt)
def Tb.led (T:Tb L m t a) (b:Bool):Tb L m {t with plain:=b} a:=⟨T.ld,T.mask,T.dm,T.sz,T.up,T.le⟩
section
variable {prog:cp} {w:World} {K:Type} [DecidableEq K] (Z:KeyKind prog w K)
def g8 (G:VJ) (h:Heap) (a:Addr) (ks:List (List K)):Prop:= ∃(o:Obj) (c:Array (Int×Value)) (g:Nat) (t:l5) (m:Nat) (L:Bool),h.get? a=some o/\o.ExactSet/\o.data= .set c g t/\Tb L m t c/\Sz m c.size/\c.size=ks.length/\ ∀e∈c.toList,∃k b,e=(l6 Z k,dN b)/\k∈ks/\mw Z h k b/\G b
variable {Z} {G:VJ} {A:cC} {E:U9} {s:aL}
def YQ (x:mw Z h ks a) (l:h.get? d=some o) (hd:o.data= .set u v t) (m:rJ d h p):mw Z p ks a:=by
 obtain ⟨j,c,n,g,q,e,r⟩:=x
 have i:a≠d:=by
  rintro rfl;obtain rfl:j=o:=gG (g.symm.trans l);rw [hd] at e;exact nomatch e
 exact ⟨j,c,n,(m.2 a i).trans g,q,e,r⟩
def Ye {h:Heap} (g:h.get? a=some o) (hd:o.data= .set j i t) (c:Array (Int×Value)) (e:l5):
  (h.update a (B9 c e)).get? a=some {o with data:= .set c (i+1) e}:=by
 have:=C1 (B9 c e) g (by rw [putSet_of c e hd];rfl);rw [putSet_of c e hd] at this;exact this
def jco (q:s.heap.get? a=some o) (hd:o.data= .set i z t) (T:Tb L m t i) (r:i.size<=m) (hw:B8 c-1=l) (u:B8 c<=aS) (C:oC l) (n:i.size<=l) (v:i.size<=aS)
  (h: ∀g p,Tb L l p g->(∀e∈g.toList,e∈i.toList)->g.size=i.size->Q () {s with heap:=s.heap.update a (B9 g p)}):wpAny (model prog w) A (setRelay a c) Q E s:=by
 obtain ⟨p,order,e1,x,y,j⟩:=ui T hw C n;unfold setRelay;refine ax (AM q hd (T.fits r) ?_);dsimp only;rw [if_neg (Nat.not_lt.mpr u)];rw [e1];refine ax ?_;show wpAny _ _ (if (order.filterMap (i[·]?)).size !=i.size then _ else _) _ _ _;rw [j];simp;refine aV ?_;exact wpAny_storeSet_of q hd (h _ _ x y j) (by rw [j];exact v)
def jgF (hu:A.units<cLine) {a:Addr} {ks:List (List K)} (hS:g8 Z G s.heap a ks) (hx:mw Z s.heap y H) (hg:G H) (hn:ks.length<76) (GY:y∉ks)
   (h: ∀B b,rJ a s.heap B->g8 Z G B a (ks++[y])->Q b {s with heap:=B}):wpAny (model prog w) A (setAddHashed a (.ref H) (l6 Z y)) Q E s:=by
 obtain ⟨o,r,ep,t,m,L,O,hex,hd,T,S,hlen,hk⟩:=hS;have hf:=T.fits S.le.1;unfold setAddHashed setAddHashedIn;refine mI (ax (AM O hd hf ?_));dsimp only;have hbs:byScan (.ref H) r=false:=rfl;rw [hbs];simp only [mT,if_false];obtain ⟨j0,hj0,hf0⟩:=T.free S.le.1;obtain ⟨N,sB,hN,hb⟩:=xi S.Mt (l6 Z y) (λj=>j∈t.place.toList) hj0 hf0;unfold setSearch;refine ax (vY hu O hd T S (λe he=>let ⟨k,b,z,k1,k2,_⟩:=hk e he;⟨k,b,z,λq=>GY (by rw [<-q];exact k1),k2⟩) hx hN hb sB ?_ 100000 0 none (by have:=S.le;omega) (li _) (by rw [E8,jch,T.mask]));dsimp only;refine ax (AM O hd hf ?_);dsimp only;have I:=T.put (h:=l6 Z y) (x:= .ref H) (Mn _ N) hN;generalize htp:t.put (at' m (l6 Z y) N)=tp at I ⊢;obtain ⟨J,p1⟩:=tp;dsimp only at I ⊢;generalize GZ:insertAt r p1 (l6 Z y,dN H)=c at I ⊢
 have n:c.toList.Perm (r.toList++[(l6 Z y,dN H)]):=by
   rw [<-GZ];have:=GV r p1 (l6 Z y,dN H)
   rwa [Gz] at this
 have p:c.size=r.size+1:=by rw [<-jE,n.length_eq,gm,jE];rfl
 have hle:c.size<=m:=by
   have:=S.le;rcases S with ⟨rfl,h⟩| ⟨rfl,h⟩| ⟨rfl,h⟩<;>omega
 have u:c.size<=aS:=by rw [mY];have:=S.le;omega
 have fin: ∀(B:Heap) (l:Array (Int×Value)) (U:l5) (m2 Y:Nat),rJ a s.heap B->B.get? a=some {o with data:= .set l Y U}->Tb L m2 U l->Sz m2 l.size->(∀e∈l.toList,e∈c.toList)->l.size=c.size->Q true {s with heap:=B}:=λB l U m2 Y sb g T2 S2 p2 z2=>by
   refine h B true sb ⟨_,l,Y,U,m2,L,g,hex,rfl,T2,S2,by rw [z2,p,hlen,gm];rfl,λe he=>?_⟩;rcases ij.mp (n.mem_iff.mp (p2 e he)) with z|z
   . obtain ⟨k,b,q,k1,k2,k3⟩:=hk e z;exact ⟨k,b,q,rH _ k1,YQ k2 O hd sb,k3⟩
   . rw [iw] at z;exact ⟨y,H,z,by simp,YQ hx O hd sb,hg⟩
 have hq: ∀b:Bool,({J with plain:=b}:l5).tooFull=decide (m*3<=(r.size+1)*5):=λb=>by
   unfold SetTable.tooFull SetTable.fill;have h1:=(I.led b).dm;have h2:=(I.led b).sz;have h3:=(I.led b).mask;rw [h1,h2,h3,p];simp
 have tail: ∀b:Bool,wpAny (model prog w) A (do
     storeSet a c {J with plain:=b}
     if (
       !false&&({J with plain:=b}:l5).tooFull)=true then do
       setRelay a (DX (r.size+1))
       pure true
       else pure true) Q E s:=λb=>by
   refine ax (wpAny_storeSet_of O hd ?_ u);have g1:=Ye O hd c {J with plain:=b};have Mu:=AI s.heap a (B9 c {J with plain:=b});rw [hq b]
   by_cases v:m*3<=(r.size+1)*5
   . rw [decide_eq_true v];simp
     have i: ∀m',B8 (DX (r.size+1))-1=m'->B8 (DX (r.size+1))<=128->Sz m' c.size->wpAny (model prog w) A (do
        setRelay a (DX (r.size+1))
        pure true) Q E {s with heap:=s.heap.update a (B9 c {J with plain:=b})}:=λm' hw hz S'=>by
       refine ax (jco g1 rfl (I.led b) hle hw (by rw [mY];omega) S'.Mt S'.le.1 u λl U T2 p2 z2=>?_);exact aV (fin _ l U m' _ (Mu.trans (AI _ a _)) (Ye g1 rfl l U) T2 (by rw [z2];exact S') p2 z2)
     rw [p] at i;rcases S with ⟨rfl,h4⟩| ⟨rfl,h4⟩| ⟨rfl,h4⟩
     . have h5:r.size=4:=by omega
       rw [h5] at i ⊢;exact i 31 (by decide+kernel) (by decide+kernel) (.inr (.inl ⟨rfl,by omega⟩))
     . have h5:r.size=18:=by omega
       rw [h5] at i ⊢;exact i 127 (by decide+kernel) (by decide+kernel) (.inr (.inr ⟨rfl,by omega⟩))
     . omega
   . rw [decide_eq_false v];simp;refine aV (fin _ c _ m _ Mu g1 (I.led b) ?_ (λ_ z=>z) rfl);rw [p];unfold Sz at S ⊢;omega
 split
 . refine ax (Vf hx λb=>?_)
   cases b with
   |true=>exact tail J.plain
   |false=>exact tail false
 . exact ax (aV (tail J.plain))
end
end Tac
open PyProof.Rows
namespace Tac
open Tab
variable {L:Bool}
section
variable {prog:cp} {w:World} {K:Type} [DecidableEq K] {Z:KeyKind prog w K} {Y:VJ}
def QF (x:mw Z h k b) (e: ∀o,h.get? b=some o->a.get? b=some o):mw Z a k b:=
 let ⟨o,i,n,c,g⟩:=x
 ⟨o,i,n,e o c,g⟩
def g8.same (x:g8 Z Y h a ks) (e: ∀b o,(b=a\/Y b)->h.get? b=some o->g.get? b=some o):g8 Z Y g a ks:=by
 obtain ⟨o,i,j,t,m,L,l,hex,hd,T,S,n,p⟩:=x;exact ⟨o,i,j,t,m,L,e a o (.inl rfl) l,hex,hd,T,S,n,λq r=>let ⟨k,b,z,u,v,c⟩:=p q r;⟨k,b,z,u,QF v λo=>e b o (.inr c),c⟩⟩
variable {A:cC} {R:Result->aL->Prop} {I:Addr} {Q U:List Addr} {G:Array GenState->Array GenState->Prop} {n:Nat} {P:Nat->Value->Prop} {St:Nat->aL->Prop}
def jjA (W:WalksS prog w A.in1 I Q U G n P St) (S:Addr) (q:S∉Q) (hu:A.in1.units<cLine) (val:Nat->List K) (H: ∀b,Y b->b≠S/\b∉U) (hb:n<=76) (J: ∀i j,j<i->i<n->val j≠val i):
  ∀(k i:Nat) (s:aL),n-i=k->i<=n->St i s->g8 Z Y s.heap S ((fF i).map val)->(∀i v,P i v-> ∃b,v= .ref b/\Y b/\mw Z s.heap (val i) b)->
    (∀a,Moved (S::U) G s a->g8 Z Y a.heap S ((fF n).map val)->R (.ok (.ret .none)) a)->
    pM (model prog w) A (.builtin "set.update.loop" ⟨[.ref S,.ref I],[]⟩) R s:=by
 have N:S∉U:=λh=>q (W.sub _ h)
 have up: ∀b∈U,b∈S::U:=λb z=>de _ z
 have walk: ∀ {s a:aL} {ks:List (List K)},Moved U G s a->g8 Z Y s.heap S ks->g8 Z Y a.heap S ks:=λl x=>x.same λb o hb e=>l.heap b o (by rcases hb with rfl|hb;exact N;exact (H b hb).2) e
 intro k
 induction k with
 |zero=>
  intro i s hk hi p O hK hR;obtain rfl:i=n:=by omega
  refine AO Mv ?_;rw [B3 G0 _];refine ax (W.done s _ _ p λa l=>?_);exact aV (hR a (l.mono up) (walk l O))
 |succ k ih=>
  intro i s hk hi p O hK hR;have cL:i<n:=by omega
  refine AO Mv ?_;rw [B3 G0 _];refine ax (W.item i s _ _ cL p λv a hP r l=>?_);obtain ⟨b,rfl,u,hkb⟩:=hK i v hP;have m:=QF hkb λo e=>l.heap b o (H b u).2 e
  refine ax (mI ?_);unfold setAdd;refine mI (ax (wpAny_pyHash_tuple hu m ?_));have hS1:=walk l O
  refine jgF (s:={a with toks:=a.toks+((val i).length+1)}) hu hS1 m u (by simp;omega) (λz=>by
    obtain ⟨j,hj,e⟩:=cK.mp z
    exact J i j (iU.mp hj) cL e) λh' bb AC hS2=>?_
  have mv: ∀c o,c≠S->a.heap.get? c=some o->h'.get? c=some o:=λc o y e=>by rw [AC.2 c y];exact e
  have G1:g8 Z Y h' S ((fF (i+1)).map val):=by rw [List.range_succ,mP];exact hS2
  refine aV ⟨plainId_quiet G0 _,ih (i+1) _ (by omega) cL (W.frame _ a _ _ r (yZ _ _) λc y o e=>?_) G1 (λi' v' hP'=>?_) λGI B E=>?_⟩
  . exact mv c o (λz=>q (by rw [<-z];exact y)) e
  . obtain ⟨c,e,g,x⟩:=hK i' v' hP';exact ⟨c,e,g,QF x λo z=>mv c o (H c g).1 (l.heap c o (H c g).2 z)⟩
  . refine hR GI (Moved.trans W.gtrans ((l.mono up).then_heap (yZ _ _) λc o y e=>?_) B) E;exact mv c o (λz=>y (by rw [z];exact cu)) e
end
section
variable {prog:cp} {w:World} {K:Type} [DecidableEq K] {O:KeyKind prog w K} {A:cC} {E:U9} {s:aL}
def Kw (a:Value)
  (h:Q₁ (.ref s.heap.objs.size) {s with heap:=s.heap.push {cls:= .type "set",dict:=none,data:= .set #[] 0 (.fresh 0 0 (!w.params.followText "set-order"))}}):
  pM (model prog w) A (.call (.builtin "set.__new__") ⟨[.type "set",a],[]⟩) (wants Q₁ E) s:=by
 refine codeAny_of_tree ?_;show wpAny _ A.in1 (checkBuiltinCall "set.__new__" ⟨[.type "set",a],[]⟩>>=λ_=>again (.builtin "set.__new__" ⟨[.type "set",a],[]⟩)) _ _ s;refine ax (wpAny_of_eq (PySem.F.newCall_set_1 a) (aV ⟨plainId_quiet PySem.F.plain_set_new _,AO PySem.F.entry_set_new ?_⟩));rw [B3 PySem.F.plain_set_new _];unfold mS.«set.__new__» Builtin.Frozenset.newClass;have c:=PySem.sub_set_self;obtain ⟨e,g,d,tk,os⟩:=s;dsimp only
 wp_walk
 refine DY (aV ?_);dsimp only;simp only [newObj];exact ax (wpAny_alloc (aV (aV h)))
def jiu (c:h.get? a=some o) (e:o.ExactSet) (hd:o.data= .set #[] 0 (.fresh 0 0 led)):g8 O G h a []:=
 ⟨o, #[],0,_,7,led,c,e,hd,Tb.fresh led,.inl ⟨rfl,by decide⟩,rfl,λ_ z=>by cases z⟩
def o7 (hu:A.units+6<cLine) (hh:A.handled=none) (hl:s.heap.IsList l a)
  (hi: ∀(i:Nat) v,a[i]?=some v-> ∃b,v= .ref b/\mw O s.heap (val i) b) (B:a.size<=76) (DL: ∀i j,j<i->i<a.size->val j≠val i)
  (h: ∀(n:Heap) (tk:Nat),g8 O (λb=>b<s.heap.objs.size/\dN b∈a.toList) n s.heap.objs.size ((fF a.size).map val)->(∀b o,b<s.heap.objs.size->s.heap.get? b=some o->n.get? b=some o)->Q (.ref s.heap.objs.size) {s with heap:=n,toks:=tk}):
  wpAny (model prog w) A (call (.type "set") [.ref l]) Q E s:=by
 obtain ⟨c,tl,afJ⟩:=tP.mro;have Mw:=tP.made;have afK:=tP.sub;refine wpAny_call (codeAny_of_tree ?_);refine aV ⟨Code.quiet_builtin _ (by decide+kernel),AO F.entry_type_call ?_⟩;rw [Around.under_plain (weight_type_call_type "set" [.ref l] []) rfl];have h1:=tP.notType;have h2:=tP.canCreate;have hct:=F.typeCall_set_1 (.ref l)
 repeat (any_goals (first|assumption|wp_step))
 refine Ao (Kw (.ref l) (E:=E) (Q₁:=λobj u=> ∃led:Bool,obj= .ref s.heap.objs.size/\u={s with heap:=s.heap.push {cls:= .type "set",dict:=none,data:= .set #[] 0 (.fresh 0 0 led)}}) ⟨_,rfl,rfl⟩) λr u hr=>?_
 cases r with
 |error e=>exact hr
 |ok fl=>
  cases fl with
  |ret obj=>
   obtain ⟨led,rfl,rfl⟩:=hr;generalize m:({cls:= .type "set",dict:=none,data:= .set #[] 0 (.fresh 0 0 led)}:Obj)=H;have hS:(s.heap.push H).get? s.heap.objs.size=some H:=fS _ (by rw [<-m];rfl);have hT:Shared.TypeIs {s with heap:=s.heap.push H} (.ref s.heap.objs.size) "set" :=⟨_,hS,by rw [<-m]⟩
   have hli:=tP.init.lookup;have hbi:=tP.init.bind (.ref s.heap.objs.size)
   repeat (any_goals (first|assumption|wp_step))
   refine Ao (codeAny_call_builtin (R:=wants (λr y=>r= .none/\ ∃n tk,y={s with heap:=n,toks:=tk}/\
       g8 O (λb=>b<s.heap.objs.size/\dN b∈a.toList) n s.heap.objs.size ((fF a.size).map val)/\(∀b o,b<s.heap.objs.size->s.heap.get? b=some o->n.get? b=some o)) E) tP.init.plain F.entry_set_init (check_set_init_1 hT ?_)) λU y g=>?_
   . obtain ⟨ol,Y,Z,nl,Mx⟩:=hl;obtain ⟨afL,I,Mz,p⟩:=ol;simp only at Z Mx;subst Z;subst Mx;have G2:(s.heap.push H).get? l=some {cls:= .type "list",dict:=I,data:= .seq a nl,slots:=p}:=cT _ Y;have afM:=F.sub_list_set;have afN:=F.sub_list_frozenset;have hne:(tZ "list" ==tZ "dict")=false:=by decide
     have MA:(s.heap.push H).IsList l a:=⟨_,G2,rfl,nl,rfl⟩
     have cL:=c8 Y;have q:(s.heap.push H).objs.size=s.heap.objs.size+1:=An _ _
     have G3:g8 O (λb=>b<s.heap.objs.size/\dN b∈a.toList) ((s.heap.push H).push {cls:= .type "list_iterator",data:= .fields #[.ref l,.int 0 0]}) s.heap.objs.size []:=
       jiu (cT _ hS) (by rw [<-m];exact ⟨rfl,rfl,rfl⟩) (by rw [<-m])
     subst m;unfold mS.«set.__init__» noKeywords Builtin.Frozenset.updateFrom;generalize hPI:pyIter=PI
     wp_walk
     subst hPI;refine Az MA ?_;refine ax (wpAny_runValue ?_)
     refine jjA ((Walks.list (show A.in1.in1.in1.handled=none by simp [hh]) _ l (by rw [q];exact eB (DJ cL)) a).toS) s.heap.objs.size (by rw [q];simp only [cQ,List.not_mem_nil,or_false,not_or];exact ⟨eB (CW _),Nat.ne_of_gt cL⟩) (by simp;omega) val
       (λb B=>by rw [q];simp;exact ⟨eB B.1,eB (DJ B.1)⟩) B DL (a.size-0) 0 _ rfl (li _) ⟨⟨_,fS _ rfl,rfl,rfl⟩,MA.push _⟩ G3 (λi v hv=>?_) λs' hm J=>?_
     . obtain ⟨b,e,x⟩:=hi i v hv;refine ⟨b,e,?_,QF x λo z=>cT _ (cT _ z)⟩;obtain ⟨o,_,_,ho,_⟩:=x;refine ⟨c8 ho,?_⟩;rw [<-e];exact pz (by rw [oj];exact hv)
     . obtain ⟨n,g',d',GN,os'⟩:=s';have eg:=hm.gens;have ed:=hm.drawn;have eo:=hm.os;subst eg;subst ed;subst eo;refine aV (aV ⟨rfl,n,GN,rfl,J,λb o B e=>?_⟩);refine hm.heap b o ?_ (cT _ (cT _ e));rw [q];simp;exact ⟨eB B,eB (DJ B)⟩
   . cases U with
     |error e=>exact g
     |ok N=>
       cases N with
       |ret r=>
        obtain ⟨rfl,n,tk,rfl,J,GF⟩:=g
        repeat (any_goals (first|assumption|wp_step))
        exact h _ _ J GF
       |_=>exact g.elim
  |_=>exact hr.elim
end
end Tac
end M
namespace M
open PySem PySem.W PyProof.Rows
namespace Tab
section
variable {prog:cp} {w:World} {A:cC} {E:U9} {s:aL}
theorem MB {c:Type}: ∀ {l:List c} {i:Nat} {x:c},l[i]?=some x->(x::l.eraseIdx i).Perm l
 | [],i,x,h=>by simp at h
 |a::l,0,x,h=>by simp at h;subst h;exact tq _
 |a::l,i+1,x,h=>by
  have e:=MB (l:=l) (i:=i) (x:=x) (by simpa using h);rw [List.eraseIdx_cons_succ];exact (List.Perm.swap a x _).trans (e.cons a)
theorem W5 {c:Type} (next:Nat->Nat): ∀(fuel k:Nat) (left:List c) (a:Array c),left.length<=fuel->(AN next fuel k left a).toList.Perm (a.toList++left)
 |0,k,left,a,h=>by
  cases DZ.mp (Nat.le_zero.mp h);simp [AN]
 |fuel+1,k,[],a,h=>by simp [AN]
 |fuel+1,k,x::left,a,h=>by
  have e:next k%(x::left).length< (x::left).length:=Nat.mod_lt _ (by simp);obtain ⟨y,g⟩: ∃y,(x::left)[next k%(x::left).length]?=some y:=⟨_,cy e⟩
  rw [AN,g];dsimp only;refine (W5 next fuel (k+1) _ _ (by rw [List.length_eraseIdx_of_lt e];simp at h ⊢;omega)).trans ?_;rw [Gz,i7];exact List.Perm.append_left _ (MB g)
def o8 {c:Type} (next:Nat->Nat) (a:Array c):(pickOrder next a).toList.Perm a.toList:=by
 have:=W5 next a.size 0 a.toList #[] (by simp);simpa [pickOrder] using this
variable {a:Addr} {es:Array (Int×Value)} {ep:Nat} {t:l5}
end
end Tab
end M
namespace M
open PySem PySem.Spec L2
open PyProof.Rows hiding St
noncomputable def mx:List D->Option (List (List aR))
 | []=>some []
 |d::r=>match iu d,mx r with
  |some k,some ks=>some (k::ks)
  |_,_=>none
def G4 (H:Hp) (x:V) (k:List aR):Prop:= ∃b,x= .ref b/\H b=some (.am (k.map kV))
theorem MC {K:aH}: ∀ {a:List V} {ds:List D} {ks:List (List aR)},ao K A H a ds->mx ds=some ks->F2 (G4 H) a ks
 | [],_,ks,r,h=>by cases r.gX;cases h;exact .nil
 |v::a,_,ks,r,h=>by
  obtain ⟨d,ds,rfl,r,t⟩:=r.dE;unfold mx at h
  cases e1:iu d with
  |none=>rw [e1] at h;cases h
  |some k=>
   cases e2:mx ds with
   |none=>rw [e1,e2] at h;cases h
   |some c=>
    rw [e1,e2] at h;cases h;exact .cons (yl r e1) (MC t e2)
def Ca (o:Obj) (n:Nat):Prop:=o.ExactSet/\ ∃(a:Array (Int×Value)) (c:Nat) (t:l5),o.data= .set a c t/\t.fits a.size=true/\a.size=n/\n<=76
section
variable {X:Cx}
theorem MD {g:L2.St} (I:aC X e g H s): ∀ {c:List V} {a:List Value} {ks:List (List aR)},aK c a->F2 (G4 H) c ks-> ∀(i:Nat) v,a[i]?=some v-> ∃b,v= .ref b/\mw (jR X.prog X.w) s.heap (ks.getD i []) b
 | [],_,_,r,_,i,v,h=>by cases Gp r;cases h
 |y::c,_,_,r,f,i,v,h=>by
  obtain ⟨_,_,rfl,r,j⟩:=Dy r;obtain ⟨_,_,rfl,⟨b,rfl,l⟩,m⟩:=f.dE
  cases i with
  |zero=>cases h;cases r;exact ⟨b,rfl,Zw I.be l⟩
  |succ i=>exact MD I j m i v h
def jbQ (O:X.cR=true) (hu:X.A.units+200<cLine):bt X (.type "set") (λw H Q=> ∃p c ks,w=[.ref p]/\fV X.K H p c/\F2 (G4 H) c ks/\ks.length<=76/\ks.Nodup/\ ∀l o,H l=none->Ca o ks.length->Q (.ref l) (aU H l (.eH o (.ay l)))):=by
 rintro x s σ H w c Q I r ⟨p,vs,ks,U,Y,y,Z,nd,q⟩;subst U;obtain ⟨u,rfl,ru⟩:=xO r;cases ru;obtain ⟨g,z,pl,_⟩:=I.list Y;have a:g.toArray.size=ks.length:=by rw [dj,<-z.length,y.length]
 refine Tac.o7 (by omega) (I.ok.hd O) pl.isList (λi v h=>MD I z y i v (by simpa using h)) (by omega) (λi j hj B e=>?_) λh' tk E n=>?_
 . rw [a] at B;rw [yU,yU,cy (by omega),cy B] at e;have:=(CJ nd).mp e;omega
 have hl:=I.be.fresh (bn _);rw [a] at E;obtain ⟨o,es,ep,t,m,L,J,hex,hd,T,S,N,_⟩:=E;rw [bM,DV] at N;exact ⟨.ref s.heap.objs.size,_,I.laid (λb o e=>n b o (c8 e) e) (bn _) (show bi X.prog X.w _ h' _ (.eH o (.ay _)) from ⟨J,o,J⟩),rfl,q _ o hl ⟨hex,es,ep,t,hd,T.fits S.le.1,N,Z⟩⟩
def jbV:bt X (.builtin "len") (λc H Q=> ∃a b o n,c=[.ref a]/\H a=some (.eH o (.ay b))/\Ca o n/\Q (.int n) H):=by
 rintro e s x H c y Q I r ⟨a,b,o,n,g,h,⟨i,j,z,t,hd,l,m,p⟩,q⟩;subst g;obtain ⟨u,rfl,v⟩:=xO r;cases v;obtain ⟨w,_⟩:=(show bi X.prog X.w H s.heap a (.eH o (.ay b)) from I.be a _ h)
 subst m;exact call_len_set w i hd l (by omega) ⟨.int j.size,H,I.tok _,⟨_,rfl⟩,q⟩
noncomputable def my:D->ak D
 | .ai ds=>match mx ds with
  |some ks=>a5 (ks.length<=76/\ks.Nodup) (.ok (.int ks.length))
  |none=> .aj
 |_=> .aj
def kN (h:my a= .ok d): ∃ds ks,a= .ai ds/\mx ds=some ks/\(ks.length<=76/\ks.Nodup)/\d= .int ks.length:=by
 unfold my at h
 split at h
 . rename_i ds
   split at h
   . rename_i ks e;obtain ⟨c,g⟩:=ju h;cases g;exact ⟨ds,ks,rfl,e,c,rfl⟩
   . cases h
 . cases h
noncomputable def tQ (f:T0):Sl->ak D:=λa=>f a>>=my
variable {l1:Lv} {e1:Expr} {c:T0} {z p3 x q3:Pos}
def jbD (u:X.cR=true) (v:X.A.units+200<cLine) (w:DE X l1 e1 c) (h:Gl X "len") (i:X.mg "len" =none) (j:Gl X "set") (m:X.mg "set" =none)
   (e:c0 [.Call (.Name "set" z) [e1] [] x] X.env=(false,eval (.Call (.Name "set" z) [e1] [] x) X.env)::c0 [] X.env:=by exact jt rfl)
   (g:c0 [e1] X.env=(false,eval e1 X.env)::c0 [] X.env:=by exact jt rfl):
   DE X .b (.Call (.Name "len" p3) [.Call (.Name "set" z) [e1] [] x] [] q3) (tQ c):=by
 nomatch (
  PE.imp (yj jbV h i rfl (za (x4 (jbQ u v) j m rfl (za w xg g) (by decide) (by decide) g rfl) xg e) (by decide) (by decide) e rfl) λZ H Q=>by
   rintro ⟨G,y,n,d,k,r,q⟩;obtain ⟨a,B,r⟩:=jd r;obtain ⟨ds,ks,rfl,e1,⟨e2,E⟩,rfl⟩:=kN r;refine ⟨G,y,n,_,k,B,λx1 H1 I J _=>?_⟩;obtain ⟨p,L,rfl,N,_,O⟩:=(J.aO Lv.bu).eM;refine ⟨p,L,ks,rfl,.inl (.inl N),MC O e1,e2,E,λl o U Y=>?_⟩
   exact ⟨l,l,o,_,rfl,jy,Y,q _ _ (I.trans (aq.aU U)) (.int _) trivial⟩)
end
section
variable {X:Cx} {K:aH}
noncomputable def rj:List D->ak D
 | [.ai ds]=>match Wf ds with
  |some bs=> .ok (.bl (bs.any id))
  |none=> .aj
 |_=> .aj
def jbW (E:X.cR=true):bt X (.builtin "any") (λy H Q=> ∃(p:Addr) (bs:List Bool),y=[.ref p]/\fV X.K H p (bs.map V.bl)/\Q (.bl (bs.any id)) H):=by
 rintro B s σ H y us Q I r ⟨p,bs,J,L,q⟩;subst J;obtain ⟨u,rfl,N⟩:=xO r;cases N;obtain ⟨O,U,l,hz⟩:=I.list L;have c:=JM U;subst c;refine call_any_walk (Az l.isList ?_)
 have m:p≠s.heap.objs.size:=by
   obtain ⟨o,n,e,_⟩:=l;exact eB (c8 e)
 refine ⟨s.heap.objs.size,_,_,_,_,_,λi=>(bs[i]?).getD true,rfl,Walks.list (show X.A.in1.handled=none from I.ok.hd E) s.heap.objs.size p m (bs.map pj).toArray,⟨⟨_,fS _ rfl,rfl,rfl⟩,l.isList.at λo e=>cT _ e⟩,?_,λh' tk Y=>?_⟩
 . intro i v s' Q' E' Z w;have a:(bs.map pj)[i]?=some v:=by simpa using Z
   rw [iE] at a
   cases e:bs[i]? with
   |none=>rw [e] at a;cases a
   |some b=>
    rw [e] at a;cases a;dsimp only at w;rw [e] at w;exact oM w
 . have hn:(bs.map pj).toArray.size=bs.length:=by simp
   have e:((fF (bs.map pj).toArray.size).any λi=>(bs[i]?).getD true)=bs.any id:=by
    rw [hn,rX,rf,rf]
    constructor
    . rintro ⟨i,h,j⟩;have g:=iU.mp h;rw [cy g] at j;exact ⟨_,mF g,j⟩
    . rintro ⟨b,x,j⟩;obtain ⟨i,h,rfl⟩:=yt.mp x;exact ⟨i,iU.mpr h,by rw [cy h];exact j⟩
   rw [e];refine ⟨.bl _,H,?_,rfl,q⟩
   exact I.kept λb o e=>Y b o (by
    intro z;have x:b=s.heap.objs.size:=by simpa using z
    exact absurd (c8 e) (by rw [x];exact pI _)) (cT _ e)
def jiM:Kq K (λc H Q=> ∃(p:Addr) (bs:List Bool),c=[.ref p]/\fV K H p (bs.map V.bl)/\Q (.bl (bs.any id)) H) rj:=by
 intro c H ds d Q r e q;unfold rj at e
 split at e
 . split at e
   . rename_i bs a;cases e;obtain ⟨v,rfl,h⟩:=r.one;obtain ⟨p,j,rfl,i,_,g⟩:=h.eM;rw [ZY a] at g;have:=JW g;subst this;exact ⟨p,bs,rfl,.of i,q _ (lm _)⟩
   . cases e
 . cases e
def ME:R2:=λx y H Q=> ∃a c b k,y= .ref a/\H a=some (.dT c)/\x= .ref b/\H b=some (.am (k.map kV))/\Q (.bl (!(fm c k).isSome)) H
def jfo (e:X.A.units+1<cLine):dB X (h9 .NotIn) ME:=by
 rintro c s p H x y v u Q I g h ⟨a,i,b,k,j,l,m,n,q⟩;subst j;subst m;obtain rfl:u=dN a:=h;exact Ra e I (lz.t l n) g λr o=>⟨.bl _,H,o,rfl,q⟩
def rk:D->D->ak D
 |kd,.bX ks _=>match iu kd with
  |some k=> .ok (.bl (!i1 ks k))
  |none=> .aj
 |_,_=> .aj
def jfv:gz K ME rk:=by
 intro x y H a b d Q g h e q;unfold rk at e
 split at e
 . obtain ⟨p,c,rfl,i,_,rfl,r⟩:=h.o4
   split at e
   . rename_i k j;cases e;obtain ⟨l,rfl,m⟩:=yl g j;refine ⟨p,c,l,k,rfl,i,rfl,m,?_⟩;rw [<-WO,UT];exact q _ (lm _)
   . cases e
 . cases e
noncomputable def fw (ks:List (List aR)) (ds:List D) (k:List aR):Option D:=((ks.zip ds).find? λp=>decide (p.1=k)).map (·.2)
theorem W3: ∀ {a:List (List aR×V)} {ds:List D} (k:List aR) {d:D},ao K A H (a.map (·.2)) ds->fw (a.map (·.1)) ds k=some d-> ∃v,fm a k=some v/\aN K A H v d
 | [],ds,k,d,r,h=>by simp [fw] at h
 | (e,v)::a,ds,k,d,r,h=>by
  cases r with
  |cons g i=>
   by_cases c:e=k
   . subst c;simp [fw] at h;subst h;exact ⟨v,by simp [fm],g⟩
   . obtain ⟨w,j,l⟩:=W3 k i (by simpa [fw,c] using h);exact ⟨w,by simpa [fm,c] using j,l⟩
def MF:R2:=λx y H Q=> ∃a c b k v,x= .ref a/\H a=some (.dT c)/\y= .ref b/\H b=some (.am (k.map kV))/\fm c k=some v/\Q v H
def jc5 (j:X.A.units+1<cLine):rP X MF:=by
 intro value c i s E H x y v u Q I l m h n;obtain ⟨a,o,b,k,z,rfl,p,rfl,r,w,q⟩:=h;obtain rfl:v=dN a:=l;have g:lz H a (.ref b) (some z):=by rw [<-w];exact lz.t p r
 exact tail_any (Vn I g) Fp.lookup (Q6 j I g m λJ L B e=>⟨z,H,B,e,q⟩) n
def lJ:D->D->ak D
 | .bX ks ds,a=>match iu a with
  |some k=>match fw ks ds k with
   |some d=> .ok d
   |none=> .aj
  |none=> .aj
 |_,_=> .aj
def jft (e:aN K A H x a) (g:aN K Any H y b) (h:lJ a b= .ok d) (q: ∀v,aN K A H v d->Q v H):MF x y H Q:=by
 unfold lJ at h
 split at h
 . split at h
   . rename_i k i
     split at h
     . rename_i p hd;cases h;obtain ⟨a,c,rfl,j,_,rfl,r⟩:=e.o4;obtain ⟨v,l,m⟩:=W3 k r.low hd;obtain ⟨n,rfl,o⟩:=yl g i;exact ⟨a,c,n,k,v,rfl,j,rfl,o,l,q v m⟩
     . cases h
   . cases h
 . cases h
variable {a b:Expr} {Y U:T0} {O:Lv} {Z p:Pos}
def XM (j:X.A.units+1<cLine) (l:DE X .s a Y) (m:DE X O b U) (n:XY b:=by intro _ _;rfl):DE X .s (.Subscript a b Z) (ag Y U lJ):=by
 nomatch (
  PE.imp (E7 (jc5 j) l m n) λE H Q=>by
   rintro ⟨G,g,c,d,k,e,q⟩;obtain ⟨o,e1,e⟩:=jd e;obtain ⟨r,e2,u⟩:=jd e;refine ⟨G,g,c,o,k,e1,λx I h w _=>⟨G,g,c,r,k.av h,e2,λy H2 i z _=>?_⟩⟩
   exact jft (w.av i) (z.aO Lv.bu) u λv B=>q v H2 (h.trans i) B trivial)
end
def jiS {K:aH} {st:Stmt} (i:Bool) (d:Dm K C m q st ps) (e:cF K ce c=some (some (.ref C))/\gl K C):fH P w K p g k c m ps i (λ_=> .aj):=by
 obtain ⟨f,j,F,l,B⟩:=d;exact ⟨C,f,j,⟨λn H Q E ⟨B,ds,d,h,_⟩=>h,λA a s H args r n Q E _ _ _ _ ⟨B,ds,d,h,u,o,_⟩=>by cases o⟩,e.1,e.2,l,B⟩
noncomputable def lK:D->D->ak D
 | .ai ds,.int k=>a5 (-(2^63)<=k/\k<2^63/\ds.length*k.toNat<=aS) (.ok (.ai (io k.toNat ds).flatten))
 |_,_=> .aj
def u9 {K:aH}:Ay K Bq lK:=by
 intro A x y H a b d Q i j e q;unfold lK at e
 split at e
 . obtain ⟨⟨m,n,o⟩,e2⟩:=ju e;cases e2;cases j.dC;obtain ⟨l,r,rfl,u,_,h⟩:=i.eM;refine ⟨l,_,r,rfl,rfl,u,m,n,by rw [h.length];exact o,λp g=>q _ _ (aq.aU g) ?_ (qr (aq.refl H) g)⟩;exact .ai jy (.inl g) (((h.low.rep _).laid g).aO λc z=>⟨.inr z.1,z.2⟩)
 . cases e
section
variable {X:Cx}
def uF {c a:List Hd} (e:c.Nodup) (p:a.Perm c):wI a=wI c:=
 Q2 (QE (p.nodup_iff.mpr e)) (QE e) ((qY a).trans (p.trans (qY c).symm))
variable {l1:Lv} {e1:Expr} {f1:T0} {p1 p3 q1 q3:Pos}
end
section
variable {prog:cp} {w:World} {A:cC} {E:U9} {s:aL}
def vU {a:Addr} {c:Array (Int×Value)} {l:Nat} {e:l5} (m:eU s.heap a c l e) (g:w.params.followText "set-order" =true\/((!e.plain&&decide (c.size>1))=false/\(!e.led&&decide (c.size>1))=false)) {Q:Array (Int×Value)->aL->Prop}
  (h: ∀i:Array (Int×Value),i.toList.Perm c.toList->Q i s):wpAny (model prog w) A (setWalk a) Q E s:=by
 unfold setWalk setsByText;refine ax (m.state ?_);dsimp only;simp;refine ax (DY ?_);dsimp only
 cases j:(model prog w).w.params.followText "set-order" with
 |true=>
  simp;refine ax (DY (aV (h _ (Tab.o8 _ _))))
 |false=>
  simp;rcases g with g| ⟨n,o⟩
  . rw [show (model prog w).w.params.followText "set-order" =w.params.followText "set-order" from rfl,g] at j;cases j
  . show wpAny _ _ (if (!e.plain&&decide (c.size>1))=true then _ else _) _ _ _;rw [n];simp;show wpAny _ _ ((if (!e.led&&decide (c.size>1))=true then unsupported "set:maker-not-led" else pure ())>>=λ_=>pure c) _ _ _;rw [o];simp;exact aV (h _ (tq _))
def X5 {a o f:Addr} {g B:Array (Int×Value)} {H I J:Nat} {ta n i:l5} (p:eU s.heap a g H ta) (L:eU s.heap o B I n) (j:eU s.heap f #[] J i) {Q:Array (Int×Value)->aL->Prop}
   (h: ∀(c:Array (Int×Value)) (q:Heap),c.toList.Perm g.toList->(∀b ob,b≠f->s.heap.get? b=some ob->q.get? b=some ob)->(∃r u,eU q f #[] r u)->Q c {s with heap:=q}):
   wpAny (model prog w) A (setWalkUnseen a [o,f] (some f)) Q E s:=by
 unfold setWalkUnseen setsByText;refine ax (p.state ?_);dsimp only;simp only [bind_assoc,pure_bind];refine ax (DY ?_);dsimp only;have l: ∀c:Array (Int×Value),c.toList.Perm g.toList->Q c s:=λc z=>h c s.heap z (λ_ _ _ e=>e) ⟨_,_,j⟩
 by_cases hc:((model prog w).w.params.followText "set-order" ||ta.led&&ta.plain||decide (g.size<=1))=true
 . rw [if_pos hc];refine vU p ?_ λc hw=>l c hw
   simp at hc;rcases hc with (hc| ⟨N,O⟩)|hc
   . exact .inl hc
   . exact .inr ⟨by simp [O],by simp [N]⟩
   . have: ¬(g.size>1):=by omega
     exact .inr ⟨by simp [this],by simp [this]⟩
 . rw [if_neg hc];refine ax (kj p L j ?_);simp;refine ax (r0 ?_);refine ax (j.state ?_);dsimp only
   split
   . obtain ⟨ob,x,y,hd⟩:=j.ex;refine ax (wpAny_storeSet_of x hd ?_ (by simp));refine aV (h g _ (tq _) (λb ob U e=>Heap.get?_update_of_ne _ (lu U) e) ?_)
     have m:({i with led:=i.led&&ta.led,plain:=i.plain&&ta.plain}:l5).fits (#[]:Array (Int×Value)).size=true:=by
      have:=j.ft;cases i;exact this
     obtain ⟨Y,_⟩:=SetOf_store (knd:=i6 prog w) (S':=λ_=>false) x y hd (λe v=>by simp at v) (λk=>by simp) (by decide) m;exact ⟨_,_,⟨⟨_,Y,y,rfl⟩,λe v=>by simp at v,by decide,m⟩⟩
   . exact aV (l _ (tq _))
def DfI (prog:cp) (w:World) (s:aL) (j:Heap) (c g:Int->Bool) (h:Array (Int×Value)) (rest:List (Int×Value)) (l:aL):Prop:= ∃(a:Heap) (S:Int->Bool) (i:Nat),l={s with heap:=a}/\(∀b ob,b≠s.heap.objs.size->j.get? b=some ob->a.get? b=some ob)/\a.SetOf (i6 prog w) s.heap.objs.size S i/\i+rest.length<=h.size/\(∀e∈rest,e∈h.toList)/\
 (∀k,S k=true->c k=true/\g k=false)/\(∀k,c k=true->g k=false->S k=true\/ ∃e∈rest,(i6 prog w).is k e.2=true)
def Y8 {id:String} {a o:Addr} {v j:Int->Bool} {na no:Nat} (hA:s.heap.SetOf (i6 prog w) a v na) (hO:s.heap.SetOf (i6 prog w) o j no) (hn: ¬na/4>no) {Q:U9}
   (h: ∀(l:Heap),(∀b ob,b<s.heap.objs.size->s.heap.get? b=some ob->l.get? b=some ob)->(∃y,l.SetOf (i6 prog w) s.heap.objs.size (λk=>v k&&!j k) y)->Q (.ref s.heap.objs.size) {s with heap:=l}):
   wpAny (model prog w) A (G5 id a (.ref o)) Q E s:=by
 have tA:=hA.typeIs;have tO:=hO.typeIs;obtain ⟨ea,pa,ta,B,rfl,mA⟩:=eU.of hA;obtain ⟨eo,po,to_,iO,rfl,mO⟩:=eU.of hO;unfold G5 Builtin.Frozenset.sizeOf G6 setEntries Builtin.Frozenset.baseOf setEpoch;dsimp only;refine ax (GA tO ?_);simp only [rY,mT,if_false,pure_bind,bind_assoc,Bool.false_and,if_true];refine ax (iO.state ?_);refine ax (B.state ?_);dsimp only;rw [if_neg hn];refine ax (CI tA F.sub_set_set ?_);simp only [if_true];refine ax (wpAny_newSet_of (knd:=i6 prog w) λled hS=>?_);simp only [pure_bind];obtain ⟨er,pr,tr,iR,hz,_⟩:=eU.of hS;have her:=MG hz;subst her;have U: ∀b ob,s.heap.get? b=some ob->(s.heap.push {cls:= .type "set",dict:=none,data:= .set #[] 0 (.fresh 0 0 led)}).get? b=some ob:=λb ob e=>cT _ e
 have m:=B.keep (U a);have iO1:=iO.keep (U o);have lA:=let ⟨_,e,_⟩:=B.ex;c8 e;have lO:=let ⟨_,e,_⟩:=iO.ex;c8 e;refine ax (m.state ?_);refine ax (mI ?_);refine ax (X5 m iO1 iR λws l hw hk oX=>?_);obtain ⟨pf',tf',iF⟩:=oX;have iA2:=m.keep λob e=>hk _ _ (eB lA) e
 have hO2:l.SetOf (i6 prog w) o j eo.size:=by
   obtain ⟨ob,es,ep,t,ho,hx,hd,rest⟩:=hO;exact ⟨ob,es,ep,t,hk _ _ (eB lO) (U _ _ ho),hx,hd,rest⟩
 have hwm: ∀e∈ws.toList,e∈ea.toList:=λe c=>hw.mem_iff.mp c
 have yY: ∀k,v k=true->j k=false->(λ_=>false:Int->Bool) k=true\/ ∃e∈ws.toList,(i6 prog w).is k e.2=true:=λk z _=>by
   obtain ⟨e,c,n⟩:=(mA k).mp z;exact .inr ⟨e,hw.mem_iff.mpr c,n⟩
 refine ax (Md _ (λrest _=>DfI prog w s l v j ea rest) _ ?_ ?_ ws _ ⟨l,λ_=>false,0,rfl,λ_ _ _ e=>e,eU.setOf iF,by have:=hw.length_eq;rw [jE,jE] at this;rw [jE];omega,hwm,(λk z=>nomatch z),yY⟩)
 . rintro ⟨hh,x⟩ rest b s' ⟨H,S,y,rfl,g,i,hle,hm,Y,Z⟩;have I:=hm _ cu;obtain ⟨k,tk,e1,e2⟩:=B.el _ I;dsimp only at e1 e2;subst e1;subst e2;simp only [fR] at hle;have hSA:v k=true:=(mA k).mpr ⟨_,I,xh k tk⟩
   have hO3:H.SetOf (i6 prog w) o j eo.size:=by
    obtain ⟨ob,es,ep,t,ho,hx,hd,rest⟩:=hO2;exact ⟨ob,es,ep,t,g _ _ (eB lO) ho,hx,hd,rest⟩
   have un: ∀ {J:Heap} {Q:Unit->aL->Prop},(∀ob,H.get? a=some ob->J.get? a=some ob)->Q () {s with heap:=J}->wpAny (model prog w) A (MH id a pa) Q E {s with heap:=J}:=λGL q=>by
    unfold MH setEpoch;simp only [bind_assoc,pure_bind];refine ax ((iA2.keep λob e=>GL ob (g _ _ (eB lA) e)).state ?_);dsimp only;simp only [bne_self_eq_false,mT,if_false];exact aV q
   refine ax (mI ?_);refine ax (wpAny_setFind_of (knd:=i6 prog w) (xh k tk) rfl hO3 λr hr=>?_);rw [hr]
   cases L:j k with
   |true=>
    simp only [pure_bind,rY,mT,if_false];refine aV ?_;refine ax (un (λ_ e=>e) ?_);refine aV ⟨H,S,y,rfl,g,i,by omega,λe c=>hm e (de _ c),Y,λp N u=>?_⟩;rcases Z p N u with z| ⟨e,c,n⟩
    . exact .inl z
    . rcases cQ.mp c with z|z
      . subst z;have:p=k:=(i6 prog w).inj _ _ _ n (xh k tk);subst this;rw [L] at u;cases u
      . exact .inr ⟨e,z,n⟩
   |false=>
    simp only [pure_bind,Bool.not_false,if_true];refine ax (wpAny_setAddHashed_of (knd:=i6 prog w) (xh k tk) rfl i (by have:=B.bd;omega) λJ sb G1=>?_);refine aV ?_;refine ax (un (λob e=>by rw [sb.2 _ (eB lA)];exact e) ?_);refine aV ⟨J,_,_,rfl,λb ob O e=>by rw [sb.2 _ O];exact g b ob O e,G1,by split<;>omega,λe c=>hm e (de _ c),λp z=>?_,λp N u=>?_⟩
    . rw [AF,decide_eq_true_eq] at z;rcases z with z|z
      . exact Y p z
      . subst z;exact ⟨hSA,L⟩
    . rcases Z p N u with z| ⟨e,c,n⟩
      . exact .inl (by rw [z];rfl)
      . rcases cQ.mp c with z|z
        . subst z;have:p=k:=(i6 prog w).inj _ _ _ n (xh k tk);subst this;exact .inl (by simp)
        . exact .inr ⟨e,z,n⟩
 . rintro b s' ⟨H,S,y,rfl,g,i,_,_,Y,Z⟩;refine aV (aV (h H (λb ob O e=>g b ob (eB O) (hk b ob (eB O) (U b ob e))) ⟨y,SetOf_congr i (λk=>?_) rfl⟩))
   cases e:S k with
   |true=>
    obtain ⟨N,u⟩:=Y k e;rw [N,u];rfl
   |false=>
    cases e1:v k with
    |false=>rfl
    |true=>
      cases e2:j k with
      |true=>rfl
      |false=>
        rcases Z k e1 e2 with z| ⟨_,c,_⟩
        . rw [e] at z;cases z
        . cases c
def jjh {a o:Addr} {j m:Int->Bool} {n no:Nat} (g:s.heap.SetOf (i6 prog w) a j n) (i:s.heap.SetOf (i6 prog w) o m no) (p: ¬n/4>no) {Q:U9}
  (h: ∀(e:Heap),(∀b ob,b<s.heap.objs.size->s.heap.get? b=some ob->e.get? b=some ob)->(∃q,e.SetOf (i6 prog w) s.heap.objs.size (λk=>j k&&!m k) q)->Q (.ref s.heap.objs.size) {s with heap:=e}):
  wpAny (model prog w) A (ly .Sub (.ref a) (.ref o)) Q E s:=by
 refine wpAny_binaryOp_same g.typeIs i.typeIs F.fills_set_sub F.slot_set_sub (so F.slot_set_sub g.typeIs XI ?_ (F.args_set_sub_2 _ _))
 show wpAny _ _ (do
  let (self,c)<-MI "__sub__" ⟨[.ref a,.ref o],[]⟩
  let (l,r):=(self,c)
  if !(<-DK l<&&>DK r) then rule s!"frozenset.{"__sub__"}.declined";return<-ret .notImplemented
  ret (<-G5 s!"frozenset.{"__sub__"}" (<-G6 l) r)) _ _ _
 unfold MI slotArgs;simp only [List.isEmpty_nil,rY,mT,if_false,bind_assoc,fR,rM,bne_self_eq_false,pure_bind];unfold andM;simp only [bind_assoc];refine ax (GA g.typeIs ?_);dsimp;refine ax (GA i.typeIs ?_);simp;unfold G6;simp;refine ax (Y8 g i p λe u v=>?_);exact aV ⟨_,rfl,by simp,h e u v⟩
end
def vp {i:cp} {w:World} {h:Heap} {a:Addr} {S:Int->Bool} {n:Nat} (x:h.SetOf (i6 i w) a S n):n=0↔ ∀k,S k=false:=by
 obtain ⟨o,j,u,t,v,y,hd,l,p,B,E,q⟩:=x
 constructor
 . intro z k;have r:=MG (q.trans z);subst r
   cases e:S k with
   |false=>rfl
   |true=>
     obtain ⟨_,m,_⟩:=(p k).mp e;simp at m
 . intro z;rw [<-q];rcases Nat.eq_zero_or_pos j.size with c|c
   . exact c
   . have g:j[0]∈j.toList:=by simp
     obtain ⟨⟨k,m,_⟩,_⟩:=l _ g;have:=(p k).mpr ⟨_,g,m⟩;rw [z k] at this;cases this
section
variable {X:Cx}
def jfn:dB X (ly .Sub) (λx y H Q=> ∃a b S n c g,x= .ref a/\y= .ref b/\H a=some (.set S n)/\H b=some (.set c g)/\ ¬n/4>g/\ ∀l m,H l=none->(m=0↔ ∀k,(S k&&!c k)=false)->Q (.ref l) (aU H l (.set (λk=>S k&&!c k) m))):=by
 rintro i s Z H x y v u Q I p r ⟨a,b,S,n,c,g,w,z,B,E,J,q⟩;subst w;subst z;cases p;cases r;have L:=I.be a _ B;have N:=I.be b _ E;refine jjh L N J λO U h=>?_;obtain ⟨m,j⟩:=h
 have Y:=I.be.fresh (bn _);exact ⟨.ref s.heap.objs.size,_,I.laid (λb o e=>U b o (c8 e) e) (bn _) (show bi X.prog X.w _ O _ (.set _ _) from j),rfl,q _ m Y (vp j)⟩
noncomputable def o9 (a b:D):ak D:=match a,b with
 | .ai x,.ai y=>match ZC x,ZC y with
  |some u,some v=>a5 (u.length+1<tH/\v.length+1<tH/\ ¬(dd u).length/4>(dd v).length) (.ok (.bl (decide (∀i∈u,i∈v))))
  |_,_=> .aj
 |_,_=> .aj
def jcg {a b d:D} (h:o9 a b= .ok d): ∃u v:List Int,a= .ai (u.map D.int)/\b= .ai (v.map D.int)/\(u.length+1<tH/\v.length+1<tH/\ ¬(dd u).length/4>(dd v).length)/\d= .bl (decide (∀i∈u,i∈v)):=by
 unfold o9 at h
 split at h
 . rename_i x y
   split at h
   . rename_i u v e1 e2;obtain ⟨c,e⟩:=ju h;cases e;exact ⟨u,v,by rw [J6 e1],by rw [J6 e2],c,rfl⟩
   . cases h
 . cases h
variable {l l1 l2:Lv} {e1 e2:Expr} {B f2:T0} {g L p3 q1 q2 q3 N J p4:Pos} {j:Nat}
def jgk (hc:X.cR=true) (h1:DE X l1 e1 B) (h2:DE X l2 e2 f2) (O:Gl X "len") (U:X.mg "len" =none) (c:Gl X "set") (h:X.mg "set" =none)
   (n:c0 [.BinOp (.Call (.Name "set" g) [e1] [] q1) .Sub (.Call (.Name "set" L) [e2] [] q2) N] X.env=(false,eval (.BinOp (.Call (.Name "set" g) [e1] [] q1) .Sub (.Call (.Name "set" L) [e2] [] q2) N) X.env)::c0 [] X.env:=by exact jt rfl)
   (r:c0 [e1] X.env=(false,eval e1 X.env)::c0 [] X.env:=by exact jt rfl) (w:c0 [e2] X.env=(false,eval e2 X.env)::c0 [] X.env:=by exact jt rfl):
   DE X l (.Compare (.Call (.Name "len" p3) [.BinOp (.Call (.Name "set" g) [e1] [] q1) .Sub (.Call (.Name "set" L) [e2] [] q2) N] [] q3) [.Eq] [.Constant (.int 0) j p4] J) (ag B f2 o9):=by
 nomatch (
  PE.imp (uH Pr (yj jbU O U rfl (za (CQ jfn (x4 (Kg hc) c h rfl (za h1 xg r) (by decide) (by decide) r rfl) (x4 (Kg hc) c h rfl (za h2 xg w) (by decide) (by decide) w rfl)) xg n) (by decide) (by decide) n rfl) Iq (ET _)) λσ H Q=>by
   rintro ⟨G,H0,E,d,k,Y,q⟩;obtain ⟨a,c1,Y⟩:=jd Y;obtain ⟨b,c2,c3⟩:=jd Y;obtain ⟨u,v,rfl,rfl,⟨z1,z2,z4⟩,rfl⟩:=jcg c3;refine ⟨G,H0,E,_,k,c1,λx1 H1 s1 r1 _=>?_⟩;obtain ⟨p,xs,rfl,hp,_,rs⟩:=(r1.aO Lv.bu).eM;have Z:=Zb rs;subst Z;refine ⟨p,u,rfl,.inl (.inl hp),z1,λl hl=>?_⟩;have S1:=aq.aU (o:=HO.set (λk=>u.any (· ==k)) (dd u).length) hl;refine ⟨G,H0,E,_,(k.av s1).av S1,c2,λx2 H2 s2 r2 _=>?_⟩;obtain ⟨p',xs,rfl,Mh,_,rs'⟩:=(r2.aO Lv.bu).eM;have Z:=Zb rs';subst Z;refine ⟨p',v,rfl,.inl (.inl Mh),z2,λl' hl'=>?_⟩;have S2:=aq.aU (o:=HO.set (λk=>v.any (· ==k)) (dd v).length) hl';refine ⟨l,l',_,_,_,_,rfl,rfl,S2 _ _ (s2 _ _ jy),jy,z4,λl2 m hl2 hm=>?_⟩;have S3:=aq.aU (o:=HO.set (λk=>u.any (· ==k)&&!v.any (· ==k)) m) hl2;refine ⟨l2,_,m,rfl,jy,?_⟩
   have key:decide (V.int (m:Int)=V.int 0)=decide (∀i∈u,i∈v):=by
    refine decide_eq_decide.mpr ⟨λz i hi=>?_,λz=>?_⟩
    . have hm0:m=0:=by injection z with z;omega
      have:=hm.mp hm0 i;have hu:(u.any λx=>x==i)=true:=rf.mpr ⟨i,hi,by simp⟩;rw [hu] at this;simp only [Bool.true_and,Bool.not_eq_false'] at this;obtain ⟨y,I,e⟩:=rf.mp this;rw [<-eq_of_beq e];exact I
    . have:m=0:=hm.mpr λk=>by
       cases e:(u.any λx=>x==k) with
       |false=>rfl
       |true=>
        obtain ⟨y,I,e2⟩:=rf.mp e;rw [eq_of_beq e2] at I;have:(v.any λx=>x==k)=true:=rf.mpr ⟨k,z k I,by simp⟩;rw [this];rfl
      rw [this];rfl
   refine ⟨rfl,?_⟩;have qq:=q (.bl (decide (V.int (m:Int)=V.int 0))) _ (s1.trans (S1.trans (s2.trans (S2.trans S3)))) (by rw [key];exact .bl _) (lm (K:=X.K) _).T
   exact qq)
def jdM (cs:List Str) (n: ∀u,aG cV u->u=o) (v: ∀c,cs.contains c=true-> ∀C,Gv X.K c C->nI X.K (.ref C) o=some true):
  bt X (.builtin "isinstance") (λe H Q=> ∃x c i ds,e=[x,cV]/\aN X.K Any H x (.obj c i ds)/\cs.contains c=true/\Q (.bl true) H):=by
 rintro m s σ H e us Q I r ⟨x,c,i,ds,w,y,E,q⟩;subst w;obtain ⟨u,O,rfl,U,Y⟩:=vF r;cases n O Y
 cases y with
 | @obj _ _ a C dx fs vs _ _ _ Z _ hC _ _=>
  cases (show u=dN a from U);obtain ⟨_,_,_,ho,_⟩:=(show bi X.prog X.w H s.heap a (.ins C dx fs) from I.be a _ Z)
  exact T5 (λM h _ p=>(PySem.W.Looks.ld p).andThen .now) I.ii ho (v c E C hC.1) (λz=>nomatch z) λtk=>⟨.bl true,H,I.tok tk,rfl,q⟩
noncomputable def zg (cs:List Str):D->ak D
 | .obj c _ _=>if cs.contains c=true then .ok (.bl true) else .aj
 |_=> .aj
def zi (cs:List Str) (f:T0):Sl->ak D:=λa=>f a>>=zg cs
def jc7 (h:zg cs a= .ok d): ∃c e ds,a= .obj c e ds/\cs.contains c=true/\d= .bl true:=by
 unfold zg at h
 split at h
 . split at h
   . rename_i i;cases h;exact ⟨_,_,_,rfl,i,rfl⟩
   . cases h
 . cases h
def jiC (cs:List Str) (Ty:Str) {l':Lv} {p L N:Pos} (y: ∀c,cs.contains c=true-> ∀C,Gv X.K c C->nI X.K (.ref C) (.ref h)=some true) (z:DE X l e f)
   (E:Gl X "isinstance") (I:X.mg "isinstance" =none) (i:Gl X Ty) (m:X.mg Ty=some (.ref h))
   (hd:Yi Ty:=by decide) (x:c0 [e,.Name Ty L] X.env=(false,eval e X.env)::c0 [.Name Ty L] X.env:=by exact jt rfl)
   (n:c0 [.Name Ty L] X.env=(false,eval (.Name Ty L) X.env)::c0 [] X.env:=by exact jt rfl) (o:(iW N (c0 [.Name Ty L] X.env)).any (·.1)=false:=by exact jS rfl):
   DE X l' (.Call (.Name "isinstance" p) [e,.Name Ty L] [] N) (zi cs f):=by
 nomatch (
  PE.imp (yj (jdM cs (cV:= .ref h) (λu r=>r) y) E I boot_isinstance (za z (za (KL (v:= .ref h) i m rfl hd) xg n) x) (by decide) (by decide) x o) λσ H Q=>by
   rintro ⟨G,O,w,d,k,U,q⟩;obtain ⟨a,e1,e2⟩:=jd U;refine ⟨G,O,w,a,k,e1,λv Y s r _=>?_⟩;obtain ⟨c,Z,ds,rfl,hc,rfl⟩:=jc7 e2
   exact ⟨v,c,Z,ds,rfl,r.aO Lv.bu,hc,q _ Y s (.bl true) (lm (K:=X.K) true).T⟩)
variable {l:Lv} {e:Expr} {f B f2:T0} {st:Stmt} {sts:List Stmt}
end
section
variable {X:Cx} {K:aH}
def vh (E:X.cR=true):bt X (.type "list") (λw H Q=> ∃a c n,w=[.ref a]/\H a=some (.dT c)/\c.map (·.1)=n.map dD/\n.length<=1000/\ ∀l p,H l=none->F2 (tu H) p n->Q (.ref l) (aU H l (.ai p))):=by
 intro x s σ H w p Q I r h;obtain ⟨a,c,n,rfl,J,L,N,q⟩:=h;obtain ⟨u,rfl,O⟩:=xO r;cases O;obtain ⟨hz,lo,g,U,o,Y,Z,ho,hx,hd,he,_⟩:=(show bi X.prog X.w H s.heap a (.dT c) from I.be a _ J)
 have y:=JZ U L
 have hV:aK (g.map λq=>V.ref q.2.1) (g.map λq=>dN q.2.1):=by
  have:=Zc (g.map λq=>q.2.1);simpa [ka,Gq] using this
 have z:g.length=n.length:=by simpa using y.length
 have hD:oz s.heap a (g.map λq=>dN q.2.1) Z:=⟨o,Y,ho,hx,hd,by rw [he,ka];rfl⟩
 refine PySem.W.kdl_call (LN lo) (I.ok.hd E) hD (by rw [bM,mY];omega) λh' tk e c' v hS j=>?_
 have m:e.toList=g.map λq=>dN q.2.1:=by
  apply Ad;intro i;have hl:e.toList.length=(g.map λq=>dN q.2.1).length:=by rw [jE];exact j.1
  by_cases B:i<e.toList.length
  . rw [cy B];exact (j.2 i _ (by rw [<-oj];exact cy B)).symm
  . rw [nP (by omega),nP (by omega)]
 refine ⟨.ref s.heap.objs.size,_,I.laid v (bn _) (show bi X.prog X.w _ h' _ (.ai (g.map λq=>V.ref q.2.1)) from ⟨by rw [bM,mY];omega,e.toList,c',by rw [m];exact hV,by rw [Array.toArray_toList];exact hS⟩),rfl,q _ _ (I.be.fresh (bn _)) y⟩
def G7:List D->ak D
 | [.bX ks _]=>match wM ks with
  |some a=>a5 (a.length<=1000/\VH a=true) (.ok (.ai (a.map cU)))
  |none=> .aj
 |_=> .aj
def jdJ:QD K (λx H Q=> ∃a g h,x=[.ref a]/\H a=some (.dT g)/\g.map (·.1)=h.map dD/\h.length<=1000/\ ∀l j,H l=none->F2 (tu H) j h->Q (.ref l) (aU H l (.ai j))) G7:=by
 intro A x H ds d Q r e q;unfold G7 at e
 split at e
 . rename_i ks J
   cases m:wM ks with
   |none=>rw [m] at e;cases e
   |some h=>
    rw [m] at e;obtain ⟨⟨n,o⟩,e2⟩:=ju e;cases e2;obtain ⟨v,rfl,y⟩:=r.one;obtain ⟨p,g,rfl,B,_,u,_⟩:=y.o4;refine ⟨p,g,h,rfl,B,by rw [u];exact ZH m,n,λl j i E=>q _ _ (aq.aU i) (.ai jy (.inl i) ?_) (qr (aq.refl H) i)⟩
    have w: ∀a∈h,a.1.length<=aS:=λa I=>by
     have:=iT.mp o a I;simpa using this
    exact ((Vd (A:=λ_=>False) E w).av (aq.aU i)).aO λc z=>z.elim
 . cases e
end
end M
noncomputable section
namespace L2
open PySem PySem.Spec PyProof.Rows
section
variable {X:Cx} {a b:Expr} {rest:List Expr} {U Y:TE} {Z:Pos}
def G8 (K:aH) (U Y:TE):TE:=λg H Q=>U g H λx e=> ∃c,sd K x e c/\if c=true then Q x e else Y g e Q
def jhD (o:PE X a U) (p:PE X (.BoolOp .Or (b::rest) Z) Y):PE X (.BoolOp .Or (a::b::rest) Z) (G8 X.K U Y):=by
 intro e s i H Q I h;refine BoolOp_or (bA (o e s i H _ I h) λv q g=>?_);obtain ⟨x,j,r,l,c,u,m⟩:=g;refine bA (IA e q i j x v (λd H2=>d=c/\H2=j) r l ⟨c,u,rfl,rfl⟩) λd w g=>?_;obtain ⟨H2,n,e1,e2⟩:=g
 subst e1 e2
 cases d with
 |true=>exact ⟨x,H2,n,l,m⟩
 |false=>exact p e w i H2 Q n m
def jja (B:List M.NK) (c:M.NK->M.NV->Prop):TE:=λ_ H Q=>B.length<aS/\ ∀p,H p=none->Q (.ref p) (aU H p (.memo B c))
def jfi:PE X (.Dict [] [] Z) (jja B Φ):=λc s g H Q I ⟨e,h⟩=>
 wpAny_Dict_empty ⟨.ref s.heap.objs.size,_,I.laid (a:=s.heap.objs.size) (o:= .memo B Φ) (t':=s.toks) (λ_ _ q=>cT _ q) (bn _)
  ⟨e,beq_eq_false_iff_ne.mpr (lu (eB I.big)),[],(λ_ z=>by cases z),_, #[],0,fS _ rfl,⟨rfl,rfl,rfl⟩,rfl,rfl,sY⟩,rfl,h _ (I.be.fresh (bn _))⟩
end
end L2
namespace M
open PySem PySem.Spec L2
open PyProof.Rows hiding St
mutual
noncomputable def fQ:D->Option NK
 | .int i=>some (.int i)
 | .str x=>some (.str x)
 | .am ds=>match dR ds with
  |some l=>some (.am l)
  |none=>none
 | .a6=>none
 | .bl _=>none
 | .ai _=>none
 | .gv _=>none
 | .dr _ _=>none
 | .bX _ _=>none
 | .lV _=>none
 | .mL _ _=>none
 | .mM _ _=>none
 | .obj _ _ _=>none
 | .mem _ _=>none
 | .fG _=>none
noncomputable def dR:List D->Option (List NK)
 | []=>some []
 |d::ds=>match fQ d,dR ds with
  |some k,some l=>some (k::l)
  |_,_=>none
end
mutual
def NK.short:NK->Bool
 | .int _=>true
 | .str x=>decide (x.length<=aS)
 | .am l=>NK.kt l
def NK.kt:List NK->Bool
 | []=>true
 |k::l=>NK.short k&&NK.kt l
end
def J4 (h:dR (d::ds)=some l): ∃k r,l=k::r/\fQ d=some k/\dR ds=some r:=by
 have h:(match fQ d,dR ds with|some k,some l=>some (k::l)|_,_=>none)=some l:=h
 split at h
 . rename_i k r e1 e2;cases h;exact ⟨k,r,rfl,e1,e2⟩
 . cases h
def G9 (h:dR ds=some l):fQ (.am ds)=some (.am l):=congrArg (λz:Option (List NK)=>match z with|some l=>some (NK.am l)|none=>none) h
def J5 (h:fQ d=some k) (a:dR ds=some l):dR (d::ds)=some (k::l):=by
 show (match fQ d,dR ds with|some k,some l=>some (k::l)|_,_=>none)=_;rw [h,a]
section
variable {K:aH} {H:Hp}
def QG (d:D): ∀k,fQ d=some k->d.ll=true/\(∀A v,aN K A H v d->eC H k v)/\(k.short=true-> ∀A v,eC H k v->aN K A H v d):=by
 refine D.ind (P:=λd=> ∀k,fQ d=some k->d.ll=true/\(∀A v,aN K A H v d->eC H k v)/\(k.short=true-> ∀A v,eC H k v->aN K A H v d)) ?_ ?_ ?_ ?_ ?_ ?_ ?_ ⟨?_,?_,?_,?_,?_,?_,?_,?_⟩ d
 case refine_3=>
  intro i k h;cases h;exact ⟨rfl,λA v r=>by simp only [eC];exact r.dC,λ_ A v x=>by simp only [eC] at x;subst x;exact .int i⟩
 case refine_4=>
  intro z k h;cases h;exact ⟨rfl,λA v r=>by simp only [eC];exact r.iZ.1,λs A v x=>by simp only [eC] at x;subst x;exact .str z (by simpa [NK.short] using s)⟩
 case refine_5=>
  intro ds w k h
  have go: ∀(ds:List D) (l:List NK),(∀d∈ds,∀k,fQ d=some k->d.ll=true/\(∀A v,aN K A H v d->eC H k v)/\(k.short=true-> ∀A v,eC H k v->aN K A H v d))->dR ds=some l->
     D.gw ds=true/\(∀A c,ao K A H c ds->eI H l c)/\(NK.kt l=true-> ∀A c,eI H l c->ao K A H c ds):=by
   intro ds
   induction ds with
   |nil=>
     intro l _ h;cases h;exact ⟨rfl,λA c r=>by cases r;simp only [eI],λ_ A c x=>by simp only [eI] at x;subst x;exact .nil⟩
   |cons d ds g=>
     intro l f h;obtain ⟨k,r,rfl,e1,e2⟩:=J4 h;obtain ⟨B,E,I⟩:=f d cu k e1;obtain ⟨j,m,n⟩:=g r (λq J=>f q (de _ J)) e2;refine ⟨by simp [D.gw,B,j],λA c r=>?_,λs A c x=>?_⟩
     . cases r with
       |cons L N=>simp only [eI];exact ⟨_,_,rfl,E _ _ L,m _ _ N⟩
     . simp only [eI] at x;simp only [NK.kt,gF] at s;obtain ⟨u,O,rfl,Q,U⟩:=x;exact .cons (I s.1 A u Q) (n s.2 A O U)
  have h:(match dR ds with|some l=>some (NK.am l)|none=>none)=some k:=h
  cases e:dR ds with
  |some l=>
   rw [e] at h;cases h;obtain ⟨j,m,n⟩:=go ds l w e;refine ⟨j,λA v r=>?_,λs A v x=>?_⟩
   . obtain ⟨a,o,rfl,p,Y⟩:=r.gI;simp only [eC];exact ⟨a,o,rfl,p,m _ _ Y⟩
   . simp only [eC] at x;obtain ⟨a,o,rfl,p,y⟩:=x;exact .am p (n (by simpa only [NK.short] using s) A o y)
  |none=>rw [e] at h;cases h
 all_goals
  intros
  rename_i h;cases h
def Cb:D->Option NV
 | .a6=>some .a6
 | .bl b=>some (.bl b)
 |d=>(fQ d).map .key
def AR:NV->Bool
 | .key k=>k.short
 |_=>true
def Xl (h:Cb d=some a):d.ll=true/\(∀A v,aN K A H v d->lr H a v)/\(AR a=true-> ∀A v,lr H a v->aN K A H v d):=by
 by_cases e:d= .a6
 . subst e;cases h;exact ⟨rfl,λA v r=>r.su,λ_ A v x=>by cases (show v= .a6 from x);exact .a6⟩
 . by_cases c: ∃b,d= .bl b
   . obtain ⟨b,rfl⟩:=c;cases h;exact ⟨rfl,λA v r=>r.rT,λ_ A v x=>by cases (show v= .bl b from x);exact .bl b⟩
   . have g:(fQ d).map NV.key=some a:=by
      cases d<;>first|exact h|exact (e rfl).elim|exact (c ⟨_,rfl⟩).elim
     obtain ⟨k,e1,rfl⟩:=sX.mp g;exact QG d k e1
def iI (m c d:D):ak bg:=match m with
 | .mem B e=>match fQ c,Cb d with
  |some (.am l),some a=> @a5 _ (NK.am l∈B/\(NK.am l).bU<=8/\AR a=true/\ ∀z,e (.am l) z↔z=a) (tX _) (.ok (.rt true d))
  |_,_=> .aj
 |_=> .aj
def YK (h:iI m e d= .ok o): ∃B c l a,m= .mem B c/\fQ e=some (.am l)/\Cb d=some a/\NK.am l∈B/\(NK.am l).bU<=8/\AR a=true/\(∀z,c (.am l) z↔z=a)/\o= .rt true d:=by
 unfold iI at h
 split at h
 . split at h
   . rename_i B c _ _ l a e1 e2;obtain ⟨⟨g,i,j,n⟩,p⟩:= @ju _ _ (tX _) _ _ h;cases p;exact ⟨B,c,l,a,rfl,e1,e2,g,i,j,n,rfl⟩
   . cases h
 . cases h
def Uh (c:fQ e=some (.am l)) (g:Cb d=some a) (h:NK.am l∈B) (i:(NK.am l).bU<=8) (j:AR a=true) (m: ∀z,n (.am l) z↔z=a):iI (.mem B n) e d= .ok (.rt true d):=by
 unfold iI;rw [c,g];exact @jn _ _ (tX _) _ ⟨h,i,j,m⟩
def oD (c f:Str) (i j:Nat) (e:T0):Sl->ak bg:=λa=>aa i a>>=λo=>rg c f o>>=λm=>aa j a>>=λg=>e a>>=λd=>iI m g d
variable {X:Cx} {e a b:Expr} {l:Lv} {Z:Pos}
def jdv {j:Nat} {y:Str} {p1 u p3 p4 p5 z p7 p8 p9 N q2 q3 q4 q5 q6:Pos} (hu:X.A.units+200<cLine) (hf:lI X.K c f) (he:DE X l e fe) (O:X.N[i]?=some x:=by rfl) (Q:X.N[j]?=some y:=by rfl) (U:gs X.env.scope x:=by first|exact Or.inl rfl|exact Or.inr (Or.inl rfl)|exact Or.inr (Or.inr rfl)) (Y:gs X.env.scope y:=by first|exact Or.inl rfl|exact Or.inr (Or.inl rfl)|exact Or.inr (Or.inr rfl))
   (Fn:mZ (.Name x u) f X.env (eval (.Name x u) X.env)=eval (.Name x u) X.env:=by rfl) (Bx:mZ (.Name x z) f X.env (eval (.Name x z) X.env)=eval (.Name x z) X.env:=by rfl) (Fo:mZ (.Name x N) f X.env (eval (.Name x N) X.env)=eval (.Name x N) X.env:=by rfl)
   (hm:rL .NotIn (.Attribute (.Name x u) f p3)=false:=by rfl) (hs:mH e (some (.Subscript (.Attribute (.Name x z) f p7) (.Name y p8) p9)) p5.line X.env=pure false:=by rfl)
   (hd:Yi x:=by decide) (sT:Yh x:=by decide) (hdy:Yi y:=by decide) (I:Yh y:=by decide):
   m6 X [.If (.Compare (.Name y p1) [.NotIn] [.Attribute (.Name x u) f p3] p4) [.Assign [.Subscript (.Attribute (.Name x z) f p7) (.Name y p8) p9] e p5] [] q6,.Return (some (.Subscript (.Attribute (.Name x N) f q2) (.Name y q3) q4)) q5] (oD c f i j fe):=by
 nomatch (gS.imp (Rz (by omega) he O U Q Y Fn Bx Fo hm hs hd sT hdy I) λE σ H=>by
  rintro ⟨G,H0,env,o,k,ef,q⟩;obtain ⟨ob,e1,Ha⟩:=jd ef;obtain ⟨m,e2,Hb⟩:=jd Ha;obtain ⟨kd,e3,Hc⟩:=jd Hb;obtain ⟨d,e4,He⟩:=jd Hc;obtain ⟨ns,ds,rfl,e5⟩:=UB e2;obtain ⟨B,Φ,lk,nv,rfl,h1,h2,h3,h4,h5,h6,rfl⟩:=YK He;obtain ⟨v,s1,r1⟩:=k.ae i _ (yL e1);obtain ⟨ad,C,dx,fs,rfl,ha,_,hc,hn,rs⟩:=r1.objE;subst hn;obtain ⟨p,g1,g2⟩:=QJ rs e5
  cases g2 with
  |mem hb _=>
   obtain ⟨w,s2,r2⟩:=k.ae j _ (yL e3);have hk:=(QG (K:=X.K) (H:=H) kd _ h1).2.1 _ _ r2
   have hw: ∃cc,w= .ref cc:=by
    simp only [eC] at hk;obtain ⟨bb,vs,rfl,_⟩:=hk;exact ⟨bb,rfl⟩
   obtain ⟨cc,rfl⟩:=hw
   have J: ∀g,aq H g-> ∀h p,Φ (.am lk) h->lr g h p->E.rt p g:=λg L h p hp hv=>by
    have:=(h6 h).mp hp;subst this;have n:=Xl (K:=X.K) (H:=g) h2;have r:=n.2.2 h5 G p hv;exact q p g (k.af.trans L) r λ_=>Xw (k.af.trans L) r n.1
   refine ⟨ad,C,dx,_,cc,fs,.am lk,B,Φ,s1,ha,(hf.at hc).1,(hf.at hc).2,g1,hb,s2,hk,h4,h3,J H (aq.refl H),G,H0,env,d,k,e4,λv1 g L r3 _=>⟨L,⟨nv,(Xl (K:=X.K) (H:=g) h2).2.1 _ _ r3,(h6 nv).mpr rfl⟩,J g L⟩⟩)
def Jj {h:Type} (c:Sl->h) (f:h->Sl->ak D):Sl->ak D:=λg=>f (c g) g
def DE.pick {i:Type} {f:i->Sl->ak D} (c:Sl->i) (h: ∀p,DE X l e (f p)):DE X l e (Jj c f):=by
 nomatch (λg s j H Q I ⟨G,m,env,d,k,n,q⟩=>by
  exact (show PE X e (tE X.K l (f (c env))) from h (c env)) g s j H Q I ⟨G,m,env,d,k,n,q⟩)
def Cc (f g:T0):Sl->ak D:=λc=>f c>>=λd=>Dc d>>=λb=>if b=true then .ok d else g c
def MJ {rest:List Expr} (o:DE X l a f) (p:DE X l (.BoolOp .Or (b::rest) Z) g):DE X l (.BoolOp .Or (a::b::rest) Z) (Cc f g):=by
 nomatch (PE.imp (jhD o p) λz H Q=>by
  rintro ⟨G,m,c,r,k,u,q⟩;obtain ⟨d,e1,i⟩:=jd u;obtain ⟨t,e2,h⟩:=jd i;refine ⟨G,m,c,d,k,e1,λv w s n j=>⟨t,IW n e2,?_⟩⟩
  cases t with
  |true=>cases h;exact q v w s n j
  |false=>exact ⟨G,m,c,r,k.av s,h,λv H2 x y j=>q v H2 (s.trans x) y (Lv.m5 s j)⟩)
def cM (p:List NK×(NK->NV->Prop)):Sl->ak D:=λ_=>a5 (p.1.length<aS) (.ok (.mem p.1 p.2))
def Vo (p:List NK×(NK->NV->Prop)):DE X .t (.Dict [] [] Z) (cM p):=by
 nomatch (PE.imp (jfi (B:=p.1) (Φ:=p.2)) λj H Q=>by
  rintro ⟨G,m,g,d,k,h,q⟩;obtain ⟨i,e⟩:=ju h;cases e
  exact ⟨i,λp c=>q _ _ (aq.aU c) (.mem jy (k.new p c)) (qr (aq.refl H) c)⟩)
def jfp:dB X (h9 .IsNot) (λx y H Q=> ∃a b,x= .bl a/\y= .bl b/\Q (.bl (!(a==b))) H):=by
 rintro c s m H x y v u Q I g h ⟨a,b,i,j,q⟩;subst i j;cases g;cases h;exact wpAny_isNot_plain (by cases a<;>cases b<;>rfl) ⟨.bl _,H,I,by cases a<;>cases b<;>rfl,q⟩
def sC:D->D->ak D
 | .bl a,.bl b=> .ok (.bl (!(a==b)))
 |_,_=> .aj
def jfw:gz K (λx y H Q=> ∃a b,x= .bl a/\y= .bl b/\Q (.bl (!(a==b))) H) sC:=by
 intro x y H a b d Q c g e q;unfold sC at e
 split at e
 . cases e;cases c.rT;cases g.rT;exact ⟨_,_,rfl,rfl,q _ (lm _)⟩
 . cases e
end
end M
namespace M
open PySem
inductive Tr where
 |bk (i:Nat)
 |nd (x:Str) (l:List Tr)
instance:DecidableEq Tr:=λ_ _=>tX _
namespace Tr
def ind {P:Tr->Prop} (b: ∀i,P (.bk i)) (h: ∀x l,(∀t∈l,P t)->P (.nd x l)) (t:Tr):P t:=
 Tr.rec (motive_1:=P) (motive_2:=λl=> ∀t∈l,P t) b h (λ_ z=>by cases z) (λt l a b u c=>by
  rcases cQ.mp c with e|e
  . rw [e];exact a
  . exact b u e) t
def aw:Tr->List Tr
 |bk _=>[]
 |nd _ l=>l
noncomputable def hd:Tr->Option (Str×Nat)
 |bk _=>none
 |nd x l=>some (x,l.length)
def zm {t:Tr} (h:t.hd=some a):a.2=t.aw.length:=by
 cases t with
 |bk i=>cases h
 |nd x l=>cases h;rfl
def len_eq {s t:Tr} (h:s.hd=t.hd):s.aw.length=t.aw.length:=by
 cases s with
 |bk i=>cases t with
  |bk j=>rfl
  |nd y m=>cases h
 |nd x l=>cases t with
  |bk j=>cases h
  |nd y m=>simp only [hd,Option.some.injEq,Prod.mk.injEq] at h;exact h.2
def ext {t:Tr} (g:s.hd=some a) (c:s.hd=t.hd) (e:s.aw=t.aw):s=t:=by
 cases s with
 |bk i=>cases g
 |nd x l=>cases t with
  |bk j=>cases c
  |nd y m=>
   simp only [hd,aw,Option.some.injEq,Prod.mk.injEq] at c e;rw [c.1,e]
mutual
def sz:Tr->Nat
 |bk _=>1
 |nd _ l=>1+rm l
def rm:List Tr->Nat
 | []=>0
 |t::l=>sz t+rm l
end
theorem MK: ∀ {l:List Tr} {p:Tr},p∈l->sz p<=rm l
 |t::l,p,h=>by
  simp only [rm];rcases cQ.mp h with e|e
  . rw [e];omega
  . have:=MK e;omega
def eV (h:p∈t.aw):sz p<sz t:=by
 cases t with
 |bk i=>cases h
 |nd x l=>
  simp only [sz];have:=MK (show p∈l from h);omega
def oa (t:Tr):0<sz t:=by cases t<;>simp only [sz]<;>omega
end Tr
def fu:List Tr->List Tr->Nat
 |a::l,b::m=>if a=b then fu l m+1 else 0
 |_,_=>0
theorem QK: ∀ {l m:List Tr},l.length=m.length->l≠m-> ∃pre a b u v,l=pre++a::u/\m=pre++b::v/\a≠b/\fu l m=pre.length
 | [],[],_,h=>(h rfl).elim
 |a::l,b::m,c,h=>by
  by_cases e:a=b
  . subst e;obtain ⟨pre,x,y,u,v,g,i,j,n⟩:=QK (l:=l) (m:=m) (by simpa using c) (λz=>h (by rw [z]));exact ⟨a::pre,x,y,u,v,by rw [g];rfl,by rw [i];rfl,j,by simp only [fu,if_true,fR,n]⟩
  . exact ⟨[],a,b,l,m,rfl,rfl,e,by simp only [fu,if_neg e,rM]⟩
def Hf (h:a≠b):fu (pre++a::u) (pre++b::v)=pre.length:=by
 induction pre with
 |nil=>simp only [C4,fu,if_neg h,rM]
 |cons c pre e=>simp only [Hg,fu,if_true,e,fR]
inductive WR where
 |part (n:Nat)|head|row (n:Nat)
section
variable (Z:Str×Nat->Nat)
def rl (s t:Tr):Bool:=match s.hd,t.hd with
 |some a,some b=>decide (Z a<Z b)
 |_,_=>false
def Qp (h:rl Z s t=true): ∃a b,s.hd=some a/\t.hd=some b/\Z a<Z b:=by
 unfold rl at h
 split at h
 . exact ⟨_,_,by assumption,by assumption,of_decide_eq_true h⟩
 . cases h
def Hh (c:s.hd=some a) (e:t.hd=some b) (h:Z a<Z b):rl Z s t=true:=by
 unfold rl;rw [c,e];exact decide_eq_true h
def lL (f:Tr->Tr->Bool) (s t:Tr):Option WR:=
 if s.hd=t.hd/\s≠t then
  match s.aw[fu s.aw t.aw]?,t.aw[fu s.aw t.aw]? with
  |some a,some b=>if (f a b&&(t.aw.drop (fu s.aw t.aw+1)).all (f s))=true then some (.row (fu s.aw t.aw)) else none
  |_,_=>none
 else none
def iJ (f:Tr->Tr->Bool) (s t:Tr):Option WR:=if rl Z s t=true/\t.aw.all (f s)=true then some .head else none
def iK (f:Tr->Tr->Bool) (s t:Tr):Option WR:=(s.aw.findIdx? λp=>decide (p=t)||f p t).map .part
def g9 (f:Tr->Tr->Bool) (s t:Tr):Option WR:=(iK f s t).or ((iJ Z f s t).or (lL f s t))
def wy:Nat->Tr->Tr->Option WR
 |0,_,_=>none
 |n+1,s,t=>g9 Z (λa b=>(wy n a b).isSome) s t
def Q1 (j: ∀p∈s.aw,f p t=g p t) (m: ∀p∈t.aw,f s p=g s p) (n: ∀p∈s.aw,∀q∈t.aw,f p q=g p q):g9 Z f s t=g9 Z g s t:=by
 have e1:iK f s t=iK g s t:=by
  unfold iK;congr 1
  have: ∀l:List Tr,(∀p∈l,f p t=g p t)->(l.findIdx? λp=>decide (p=t)||f p t)=l.findIdx? λp=>decide (p=t)||g p t:=by
    intro l
    induction l with
    |nil=>intro _;rfl
    |cons a l e=>intro h;rw [Hi,Hi,h a cu,e λp c=>h p (de _ c)]
  exact this _ j
 have i: ∀l:List Tr,(∀p∈l,p∈t.aw)->l.all (f s)=l.all (g s):=by
  intro l
  induction l with
  |nil=>intro _;rfl
  |cons a l e=>intro h;rw [ti,ti,m a (h a cu),e λp c=>h p (de _ c)]
 have e2:iJ Z f s t=iJ Z g s t:=by
  unfold iJ;rw [i _ λ_ h=>h]
 have o:lL f s t=lL g s t:=by
  unfold lL
  split
  . cases r:s.aw[fu s.aw t.aw]? with
    |none=>rfl
    |some a=>
     cases u:t.aw[fu s.aw t.aw]? with
     |none=>rfl
     |some b=>
      simp only;rw [n a (pz r) b (pz u),i _ λp c=>GU c]
  . rfl
 unfold g9;rw [e1,e2,o]
theorem yz: ∀(n m:Nat) (s t:Tr),s.sz+t.sz<=n->s.sz+t.sz<=m->wy Z n s t=wy Z m s t
 |0,m,s,t,h,_=>by have:=s.oa;omega
 |n+1,0,s,t,_,h=>by have:=s.oa;omega
 |n+1,m+1,s,t,e,g=>by
  show g9 Z _ s t=g9 Z _ s t;refine Q1 Z (λp a=>?_) (λp a=>?_) (λp a q c=>?_)
  . have:=Tr.eV a;rw [yz n m p t (by omega) (by omega)]
  . have:=Tr.eV a;rw [yz n m s p (by omega) (by omega)]
  . have:=Tr.eV a;have:=Tr.eV c;rw [yz n m p q (by omega) (by omega)]
def way (s t:Tr):Option WR:=wy Z (s.sz+t.sz) s t
def gt (s t:Tr):Prop:=(way Z s t).isSome=true
def gtB (s t:Tr):Bool:=(way Z s t).isSome
def vD (s t:Tr):way Z s t=g9 Z (gtB Z) s t:=by
 have:way Z s t=wy Z (s.sz+t.sz+1) s t:=yz Z _ _ s t (bn _) (by omega);rw [this];show g9 Z _ s t=_;refine Q1 Z (λp a=>?_) (λp a=>?_) (λp a q c=>?_)
 . have:=Tr.eV a;show (wy Z _ p t).isSome=(wy Z _ p t).isSome;rw [yz Z (s.sz+t.sz) (p.sz+t.sz) p t (by omega) (by omega)]
 . have:=Tr.eV a;show (wy Z _ s p).isSome=(wy Z _ s p).isSome;rw [yz Z (s.sz+t.sz) (s.sz+p.sz) s p (by omega) (by omega)]
 . have:=Tr.eV a;have:=Tr.eV c;show (wy Z _ p q).isSome=(wy Z _ p q).isSome;rw [yz Z (s.sz+t.sz) (p.sz+q.sz) p q (by omega) (by omega)]
def Qq (s t:Tr):gt Z s t↔(∃p∈s.aw,p=t\/gt Z p t)\/(rl Z s t=true/\ ∀p∈t.aw,gt Z s p)\/(s.hd=t.hd/\ ∃pre a b u v,s.aw=pre++a::u/\t.aw=pre++b::v/\a≠b/\gt Z a b/\ ∀p∈v,gt Z s p):=by
 have e:gt Z s t↔(iK (gtB Z) s t).isSome=true\/(iJ Z (gtB Z) s t).isSome=true\/(lL (gtB Z) s t).isSome=true:=by
   unfold gt;rw [vD];unfold g9;rw [Option.isSome_or,Option.isSome_or,AF,AF]
 rw [e];refine or_congr ?_ (or_congr ?_ ?_)
 . unfold iK;rw [Fc,List.findIdx?_isSome,rf];simp only [AF,decide_eq_true_eq];rfl
 . unfold iJ
   by_cases h:rl Z s t=true/\t.aw.all (gtB Z s)=true
   . rw [if_pos h];exact ⟨λ_=>⟨h.1,λp c=>iT.mp h.2 p c⟩,λ_=>rfl⟩
   . rw [if_neg h];exact ⟨λz=>(by cases z),λz=>(h ⟨z.1,iT.mpr z.2⟩).elim⟩
 . unfold lL
   by_cases h:s.hd=t.hd/\s≠t
   . rw [if_pos h];have E:s.aw.length=t.aw.length:=Tr.len_eq h.1
     cases r:s.hd with
     |none=>
       have H:s.aw=[]:=by
         cases s with
         |bk i=>rfl
         |nd x l=>cases r
       rw [H];simp only [List.getElem?_nil];refine ⟨λz=>(by cases z),?_⟩;rintro ⟨_,pre,a,b,u,v,m,_⟩;simp at m
     |some o=>
     rw [<-r];obtain ⟨pre,a,b,u,v,g,j,w,q⟩:=QK E λz=>h.2 (Tr.ext r h.1 z)
     have I:s.aw[fu s.aw t.aw]?=some a:=by rw [q,g];simp
     have J:t.aw[fu s.aw t.aw]?=some b:=by rw [q,j];simp
     have L:t.aw.drop (fu s.aw t.aw+1)=v:=by rw [q,j];simp
     rw [I,J,L];simp only
     constructor
     . intro z
       split at z
       . rename_i o;rw [gF] at o;exact ⟨h.1,pre,a,b,u,v,g,j,w,o.1,λp c=>iT.mp o.2 p c⟩
       . cases z
     . rintro ⟨_,n,U,Y,u',v',m,g2,g3,N,O⟩;have c:n.length=pre.length:=by rw [<-q,m,g2,Hf g3]
       rw [g] at m;rw [j] at g2;obtain ⟨_,y⟩:=D0 m c.symm;obtain ⟨_,B⟩:=D0 g2 c.symm;cases y;cases B;rw [if_pos]
       . rfl
       . rw [gF];exact ⟨N,iT.mpr O⟩
   . rw [if_neg h];refine ⟨λz=>(by cases z),λ⟨Q,pre,a,b,u,v,g,j,w,_⟩=>(h ⟨Q,λe=>w ?_⟩).elim⟩;rw [e,j] at g;have:=Hj g;cases this;rfl
variable {Z}
def yW (h:p∈s.aw) (a:p=t\/gt Z p t):gt Z s t:=(Qq Z s t).mpr (.inl ⟨p,h,a⟩)
def D1 (h:gt Z (.bk i) t):False:=by
 rcases (Qq Z _ t).mp h with ⟨p,g,_⟩| ⟨c,_⟩| ⟨_,pre,a,b,u,v,c,_⟩
 . cases g
 . obtain ⟨a,b,e,_⟩:=Qp Z c;cases e
 . simp [Tr.aw] at c
def jdk {q:Tr} (s:Tr): ∀t,gt Z s t->q∈t.aw->gt Z s q:=by
 induction s using Tr.ind with
 |b i=>intro t h;exact (D1 h).elim
 |h x l n=>
  intro t h c;rcases (Qq Z _ t).mp h with ⟨p,g,e|e⟩| ⟨_,j⟩| ⟨_,pre,a,b,u,v,m,j,_,o,r⟩
  . subst e;exact yW g (.inr (yW c (.inl rfl)))
  . exact yW g (.inr (n p g t e c))
  . exact j q c
  . rw [j] at c;rcases ij.mp c with z|z
    . exact yW (by rw [m];exact rH _ z) (.inl rfl)
    . rcases cQ.mp z with z|z
      . subst z;exact yW (p:=a) (by rw [m];simp) (.inr o)
      . exact r q z
def jik (s:Tr): ¬gt Z s s:=by
 induction s using Tr.ind with
 |b i=>exact D1
 |h x l m=>
  intro h;rcases (Qq Z _ _).mp h with ⟨p,c,e|e⟩| ⟨g,_⟩| ⟨_,pre,a,b,u,v,g,j,n,_⟩
  . have:=Tr.eV c;rw [e] at this;omega
  . exact m p c (jdk p _ e c)
  . obtain ⟨a,b,e1,e2,h⟩:=Qp Z g;rw [e1] at e2;cases e2;omega
  . rw [g] at j;have:=Hj j;cases this;exact n rfl
end
def jfN {t:Tr} (h:p∈t.aw): ∃a,t.hd=some a:=by
 cases t with
 |bk i=>cases h
 |nd x l=>exact ⟨_,rfl⟩
end M
namespace M
open PySem PySem.Spec L2
namespace Tr
mutual
noncomputable def d:Tr->D
 |bk i=> .int i
 |nd x l=> .am (.str x::ds l)
noncomputable def ds:List Tr->List D
 | []=>[]
 |t::l=>d t::ds l
end
mutual
def k:Tr->NK
 |bk i=> .int i
 |nd x l=> .am (.str x::ks l)
def ks:List Tr->List NK
 | []=>[]
 |t::l=>k t::ks l
end
theorem oe: ∀l:List Tr,ds l=l.map d
 | []=>rfl
 |t::l=>by simp only [ds,e9,oe l]
theorem ML: ∀l:List Tr,ks l=l.map k
 | []=>rfl
 |t::l=>by simp only [ks,e9,ML l]
def bI (x:Str) (l:List Tr):(nd x l).d= .am (.str x::l.map d):=by simp only [d,oe]
def pb (x:Str) (l:List Tr):(nd x l).k= .am (.str x::l.map k):=by simp only [k,ML]
def Hk {t:Tr} (h:t.hd=some a):t.d= .am (.str a.1::t.aw.map d):=by
 cases t with
 |bk i=>cases h
 |nd x l=>cases h;rw [bI];rfl
theorem map_inj {e i:Type} {f:e->i}: ∀ {l m:List e},(∀a∈l,∀b,f a=f b->a=b)->l.map f=m.map f->l=m
 | [],[],_,_=>rfl
 | [],b::m,_,h=>by simp at h
 |a::l,[],_,h=>by simp at h
 |a::l,b::m,g,h=>by
  simp only [e9,tF] at h;rw [g a cu b h.1,map_inj (λc j=>g c (de _ j)) h.2]
def hG (s:Tr): ∀t,s.d=t.d->s=t:=by
 induction s using ind with
 |b i=>
  intro t h
  cases t with
  |bk j=>simp only [d,D.int.injEq] at h;rw [show i=j by omega]
  |nd y m=>rw [bI] at h;simp only [d] at h;cases h
 |h x l a=>
  intro t h
  cases t with
  |bk j=>rw [bI] at h;simp only [d] at h;cases h
  |nd y m=>
   rw [bI,bI] at h;simp only [D.am.injEq,tF,D.str.injEq] at h;rw [h.1,map_inj a h.2]
def oE (s:Tr): ∀t,s.k=t.k->s=t:=by
 induction s using ind with
 |b i=>
  intro t h
  cases t with
  |bk j=>simp only [k,NK.int.injEq] at h;rw [show i=j by omega]
  |nd y m=>rw [pb] at h;simp only [k] at h;cases h
 |h x l a=>
  intro t h
  cases t with
  |bk j=>rw [pb] at h;simp only [k] at h;cases h
  |nd y m=>
   rw [pb,pb] at h;simp only [NK.am.injEq,tF,NK.str.injEq] at h;rw [h.1,map_inj a h.2]
theorem Uk: ∀ {l:List Tr},(∀t∈l,fQ t.d=some t.k)->dR (l.map d)=some (l.map k)
 | [],_=>rfl
 |t::l,h=>by
  exact J5 (h t cu) (Uk λu a=>h u (de _ a))
def mz (t:Tr):fQ t.d=some t.k:=by
 induction t using ind with
 |b i=>rfl
 |h x l a=>
  rw [bI,pb];exact G9 (J5 rfl (Uk a))
theorem ke: ∀ {l:List Tr},(∀t∈l,nb t.d=true)->pD (l.map d)=true
 | [],_=>rfl
 |t::l,h=>by
  simp only [e9,pD,h t cu,ke λu a=>h u (de _ a),Bool.and_self]
def mB (t:Tr):nb t.d=true:=by
 induction t using ind with
 |b i=>simp only [d,nb]
 |h x l a=>
  rw [bI];simp only [nb,pD,ke a,Bool.and_self]
def tR (s t:Tr):eE s.d t.d=decide (s=t):=by
 rw [L5 (mB s) (mB t)]
 by_cases e:s=t
 . rw [decide_eq_true e,decide_eq_true (by rw [e])]
 . rw [decide_eq_false e,decide_eq_false λz=>e (hG s t z)]
end Tr
def Tn (a:List (Str×Nat)):Nat->Tr->Prop
 |0,t=>t.hd=none\/ ∃h∈a,t.hd=some h/\t.aw=[]
 |n+1,t=>t.hd=none\/ ∃h∈a,t.hd=some h/\ ∀p∈t.aw,Tn a n p
def Tn.bk:Tn a n (.bk i):=by
 cases n<;>exact .inl rfl
def Tn.hd (h:Tn i n t) (e:t.hd=some a):a∈i:=by
 cases n<;>rcases h with h| ⟨b,c,g,_⟩
 . rw [h] at e;cases e
 . rw [g] at e;cases e;exact c
 . rw [h] at e;cases e
 . rw [g] at e;cases e;exact c
theorem Tn.lM: ∀ {n:Nat} {t:Tr},Tn g (n+1) t-> ∀p∈t.aw,Tn g n p
 |n,t,h,p,c=>by
  rcases h with h| ⟨b,j,l,i⟩
  . obtain ⟨a,e⟩:=jfN c;rw [h] at e;cases e
  . exact i p c
def Tn.no (h:Tn c 0 t):t.aw=[]:=by
 rcases h with h| ⟨b,e,g,a⟩
 . cases t with
   |bk i=>rfl
   |nd x l=>cases h
 . exact a
theorem Tn.up: ∀ {n:Nat} {t:Tr},Tn i n t->Tn i (n+1) t
 |0,t,h=>by
  rcases h with h| ⟨b,a,c,e⟩
  . exact .inl h
  . exact .inr ⟨b,a,c,by rw [e];intro p g;cases g⟩
 |n+1,t,h=>by
  rcases h with h| ⟨b,a,c,e⟩
  . exact .inl h
  . exact .inr ⟨b,a,c,λp g=>(e p g).up⟩
def Tn.le (h:Tn a n t) (c:n<=m):Tn a m t:=by
 induction c with
 |refl=>exact h
 |step _ e=>exact e.up
theorem Tn.Hl: ∀ {n:Nat} {t:Tr},Tn c n t-> ∀p∈t.aw,Tn c n p
 |0,t,h,p,a=>by rw [h.no] at a;cases a
 |n+1,t,h,p,a=>(h.lM p a).up
def ji2 {l:List Tr} (h: ∀t∈l,D.bU t.d<=n):D.bY (l.map Tr.d)<=n:=fq λd hd=>by
 obtain ⟨t,a,rfl⟩:=cK.mp hd;exact h t a
theorem Y9 {a:List (Str×Nat)}: ∀ {n:Nat} {t:Tr},Tn a n t->D.bU t.d<=n+1
 |n,.bk i,h=>by simp [Tr.d,D.bU]
 |0,.nd x l,h=>by cases (show l=[] from h.no);simp [Tr.d,Tr.ds,D.bU,D.bY]
 |n+1,.nd x l,h=>by
  rw [Tr.bI];simp only [D.bU,D.bY];have:=ji2 (l:=l) (n:=n+1) λp c=>Y9 (h.lM p c)
  omega
theorem NK.fq: ∀ {l:List NK} {n:Nat},(∀k∈l,k.bU<=n)->NK.bY l<=n
 | [],n,_=>by simp only [NK.bY];omega
 |k::l,n,h=>by
  simp only [NK.bY];have c:=h k cu;have e:=NK.fq λq a=>h q (de _ a)
  omega
theorem Zx: ∀ {n:Nat} {t:Tr},Tn e n t->t.k.bU<=n+1
 |n,.bk i,h=>by simp [Tr.k,NK.bU]
 |0,.nd x l,h=>by cases (show l=[] from h.no);simp [Tr.k,Tr.ks,NK.bU,NK.bY]
 |n+1,.nd x l,h=>by
  rw [Tr.pb];simp only [NK.bU,NK.bY]
  have:=NK.fq (l:=l.map Tr.k) (n:=n+1) λq a=>by
   obtain ⟨t,c,rfl⟩:=cK.mp a;exact Zx (h.lM t c)
  omega
def kZ (a:n<=100) (h:Tn c n s):dP s.d t.d= .ok (.bl (decide (s=t))):=by
 unfold dP;rw [Tr.tR];exact jn (.inl ⟨Y3 _ (Tr.mB s),Y3 _ (Tr.mB t),by have:=Y9 h;omega⟩)
def sN:Nat->Nat
 |0=>1
 |n+1=>1+3*sN n
theorem MM: ∀ {l:List Tr} {b:Nat},(∀t∈l,t.sz<=b)->Tr.rm l<=l.length*b
 | [],b,_=>by simp [Tr.rm]
 |t::l,b,h=>by
  simp only [Tr.rm,fR];have c:=h t cu;have e:=MM λu a=>h u (de _ a)
  rw [Br];omega
theorem MN: ∀n,1<=sN n
 |0=>bn _
 |n+1=>by show 1<=1+_;omega
theorem U2 (c: ∀h∈e,h.2<=3): ∀ {n:Nat} {t:Tr},Tn e n t->t.sz<=sN n
 |n,.bk i,h=>by simp only [Tr.sz];exact MN n
 |0,.nd x l,h=>by cases (show l=[] from h.no);simp [Tr.sz,Tr.rm,sN]
 |n+1,.nd x l,h=>by
  have g:=c _ (h.hd (a:=(x,l.length)) rfl);simp only [Tr.sz,sN];have m:=MM (l:=l) (b:=sN n) λp j=>U2 c (h.lM p j)
  have o:=Cd (sN n) (show l.length<=3 from g);omega
mutual
def Tr.ps:Tr->List Tr
 | .bk i=>[.bk i]
 | .nd x l=> .nd x l::Tr.hH l
def Tr.hH:List Tr->List Tr
 | []=>[]
 |t::l=>Tr.ps t++Tr.hH l
end
def qO (t:Tr):t∈t.ps:=by cases t<;>simp only [Tr.ps]<;>exact cu
def Zf (t:Tr):t.ps.length=t.sz:=by
 refine Tr.rec (motive_1:=λt=>t.ps.length=t.sz) (motive_2:=λl=>(Tr.hH l).length=Tr.rm l) (λi=>rfl) ?_ rfl ?_ t
 . intro x l h;simp only [Tr.ps,Tr.sz,fR,h];omega
 . intro t l a c;simp only [Tr.hH,Tr.rm,gm,a,c]
theorem ur: ∀ {l:List Tr} {p:Tr},p∈l-> ∀q∈p.ps,q∈Tr.hH l
 |t::l,p,h,q,a=>by
  simp only [Tr.hH];rcases cQ.mp h with e|e
  . subst e;exact rH _ a
  . exact nU _ (ur e q a)
def xL {t:Tr} (h:p∈t.aw): ∀q∈p.ps,q∈t.ps:=λq a=>by
 cases t with
 |bk i=>cases h
 |nd x l=>simp only [Tr.ps];exact de _ (ur h q a)
def zN (t:Tr): ∀p∈t.ps,∀q∈p.ps,q∈t.ps:=by
 induction t using Tr.ind with
 |b i=>
  intro p a q c;simp only [Tr.ps,iw] at a;rw [a] at c;exact c
 |h x l g=>
  intro p a q c;simp only [Tr.ps] at a;rcases cQ.mp a with e|e
  . subst e;exact c
  . have: ∀(l:List Tr),p∈Tr.hH l-> ∃t∈l,p∈t.ps:=by
     intro l
     induction l with
     |nil=>intro h;simp only [Tr.hH] at h;cases h
     |cons t l g=>
      intro h;simp only [Tr.hH] at h;rcases ij.mp h with z|z
      . exact ⟨t,cu,z⟩
      . obtain ⟨u,n,j⟩:=g z;exact ⟨u,de _ n,j⟩
    obtain ⟨u,m,j⟩:=this l e;exact xL (t:= .nd x l) m q (g u m p j q c)
def WR.d:WR->D
 | .part n=> .am [.str "part",.int n]
 | .head=> .am [.str "head"]
 | .row n=> .am [.str "row",.int n]
def WR.k:WR->NK
 | .part n=> .am [.str "part",.int n]
 | .head=> .am [.str "head"]
 | .row n=> .am [.str "row",.int n]
def wD:Option WR->D
 |none=> .a6
 |some w=>w.d
def jhT (w:Option WR):Cb (wD w)=some (AU (w.map WR.k)):=by
 cases w with
 |none=>rfl
 |some w=>cases w<;>rfl
def jhS (w:Option WR):AR (AU (w.map WR.k))=true:=by
 cases w with
 |none=>rfl
 |some w=>cases w<;>(simp only [Option.map,WR.k,AU,AR,NK.short,NK.kt,Ax];decide)
def jgR (w:Option WR):Dc (wD w)= .ok w.isSome:=by
 cases w with
 |none=>rfl
 |some w=>cases w<;>rfl
def hJ (s t:Tr):List NK:=s.ps.flatMap λp=>t.ps.map λq=> .am [p.k,q.k]
def VT (a:p∈s.ps) (c:q∈t.ps):NK.am [p.k,q.k]∈hJ s t:=
 lX.mpr ⟨p,a,cK.mpr ⟨q,c,rfl⟩⟩
def jcv (s t:Tr):(hJ s t).length=s.sz*t.sz:=by
 unfold hJ;rw [List.length_flatMap,AG (g:=λ_=>t.sz) λp _=>by rw [bM,Zf]];rw [List.map_const',List.sum_replicate_nat,Zf]
def D2 (a:Str×Nat->Nat):NK->NV->Prop:=λk z=> ∀s t:Tr,k= .am [s.k,t.k]->z=AU ((way a s t).map WR.k)
def jff (a:Str×Nat->Nat) (s t:Tr) (z:NV):D2 a (.am [s.k,t.k]) z↔z=AU ((way a s t).map WR.k):=by
 constructor
 . intro h;exact h s t rfl
 . rintro rfl c g e;simp only [NK.am.injEq,tF,and_true] at e;rw [Tr.oE s c e.1,Tr.oE t g e.2]
def bB (a:List (Str×Nat)) (h:Str×Nat):Nat:=a.idxOf h
def cY (h:Str×Nat):List aR:=[rF h.1,pH (h.2:Int)]
def yT (h:cY a=cY b):a=b:=by
 simp only [cY,tF,Sum.inr.injEq,Sum.inl.injEq,and_true] at h;exact sV h.1 (by omega)
def ci (a:List (Str×Nat)):D:= .bX (a.map cY) ((fF a.length).map λ(i:Nat)=>D.int i)
def ug (h:ci a=ci b):a=b:=by
 unfold ci at h;simp only [D.bX.injEq] at h;exact Tr.map_inj (λx _ y e=>yT e) h.1
def eZ (a:List (Str×Nat)):D:= .obj "Ranks" ["rank"] [ci a]
def i2 (a:List (Str×Nat)) (s t:Tr):List NK×(NK->NV->Prop):=(hJ s t,D2 (bB a))
open PyProof.Rows hiding St
section
variable {X:Cx} {a b:Expr} {g:TX} {Y N O pt Z:Pos} {x y:Str} {U Q:Nat}
def og (i j:Nat) (g:TX):Sl->ak bg:=λc=>g c>>=λds=>match ds with
 | [x,y]=> .ok (.nx ((c.set i (.ae x)).set j (.ae y)))
 |_=> .aj
def MO (i j:Nat) (r:X.cR=true) (hN:X.N.Nodup) (u:DA X .s [a,b] g) (h:i≠j:=by decide) (v:X.N[i]?=some x:=by rfl) (w:X.N[j]?=some y:=by rfl)
   (B:X.env.scope.names.lookup x=some .local:=by rfl) (I:X.env.scope.names.lookup y=some .local:=by rfl)
   (hw:A5 [.Tuple [.Name x N,.Name y O] U pt] (.Tuple [a,b] Q Z) X.env=pure (some [x,y]):=by rfl)
   (J:A4 [.Tuple [.Name x N,.Name y O] U pt] (.Tuple [a,b] Q Z) Y.line X.env=pure false:=by rfl):
   DS X (.Assign [.Tuple [.Name x N,.Name y O] U pt] (.Tuple [a,b] Q Z) Y) (og i j g):=by
 nomatch (
  PS.imp (O9 r hN v w h B I u hw J) λE e H=>by
   rintro ⟨G,L,c,o,k,ef,q⟩;obtain ⟨ds,e1,e2⟩:=jd ef;refine ⟨G,L,c,ds,k,e1,λvs l m r1=>?_⟩
   split at e2
   . rename_i dx dy;cases e2;obtain ⟨n,v2,rfl,ra,rb⟩:=r1.ag;refine ⟨n,v2,rfl,?_⟩;have k1:=(k.av m).nZ (i:=i) ra;have f1:cx c e H (c.set i (.ae dx)) (e.set i (some n)) l:= .set m λ_ _ z _=>by cases z
     have f2:cx c e l (c.set i (.ae dx)) (e.set i (some n)) l:= .set (aq.refl _) λ_ _ z _=>by cases z
     have p:=f2.rep (k.av m) rb;exact q _ _ (k1.nZ (i:=j) p) (f1.trans (.set (s:= .ae dy) (aq.refl _) λ_ _ z _=>by cases z))
   . cases e2)
end
section
variable {X:Cx}
def g3 (t u w:TV):D->Sl->ak Sl:=λd e=>match d with
 | .am [x,y,z]=>t x e>>=λc=>u y c>>=λa=>w z a
 |_=> .aj
def jdC {a b c:Expr} {k:Nat} {j:Pos} {t u w:TV} (I:X.cR=true) (J:DG X a t) (L:DG X b u) (N:DG X c w)
   (O:(lh [a,b,c] X.env).map (·.2)=ot a X.env::(lh [b,c] X.env).map (·.2):=by rfl) (l:(lh [b,c] X.env).map (·.2)=ot b X.env::(lh [c] X.env).map (·.2):=by rfl)
   (m:(lh [c] X.env).map (·.2)=ot c X.env::(lh [] X.env).map (·.2):=by rfl)
   (U:(lh [a,b,c] X.env).length=3:=by rfl) (n:(lh [a,b,c] X.env).findIdx? (·.1)=none:=by rfl):DG X (.Tuple [a,b,c] k j) (g3 t u w):=by
 nomatch (
  PG.imp (Iv I (Jk J (Jk L (Jk N uE m) l) O) U n) λv σ H Q=>by
   rintro ⟨G,o,p,d,i,k,r,e,q⟩;unfold g3 at e
   split at e
   . obtain ⟨g,e1,e2⟩:=jd e;obtain ⟨h,Y,Z⟩:=jd e2;obtain ⟨a,xs,rfl,ha,rs⟩:=r.gI;obtain ⟨v1,B,x,rfl,r1,r2,r3⟩:=rs.three;exact ⟨a,_,rfl,.of ha,rfl,v1,[B,x],rfl,G,o,p,_,g,k,r1,e1,λBA k1 y=>⟨B,[x],rfl,G,o,g,_,h,k1,y.rep k r2,Y,λσ2 k2 E=>⟨x,[],rfl,G,o,h,_,i,k2,(y.trans E).rep k r3,Z,λz k3 f3=>⟨rfl,q z k3 ((y.trans E).trans f3)⟩⟩⟩⟩
   . cases e)
end
end M
namespace L2
open PySem PySem.Spec PyProof.Rows
section
variable {X:Cx} {Z:List (Addr×Obj)} {U:St} {H Y:Hp} {s O:aL} {E:U9}
def Zi {y z:Nat} {a g:Str} {l m:V} {B J n:Pos} {L:Nat} {Q:U9} (I:aC X Z U H s) (p:X.N[y]?=some a) (q:gs X.env.scope a) (e1:U[y]?=some (some l)) (r:X.N[z]?=some g) (v:gs X.env.scope g) (e2:U[z]?=some (some m))
  (w:Yi a) (i:Yh a) (x:Yi g) (j:Yh g)
  (h: ∀O c Y,aC X Z U Y O->aq H Y->Y c=some (.am [l,m])->(∀b o,s.heap.get? b=some o->O.heap.get? b=some o)->Q (.ref c) O):wpAny (model X.prog X.w) X.A (eval (.Tuple [.Name a B,.Name g J] L n) X.env) Q E s:=by
 refine wpAny_Tuple (wpAny_items_cons (wb I p q e1 (λN r1=>wpAny_items_cons (wb I r v e2 (λu2 r2=>wpAny_items_nil ⟨by rw [mY];show (2:Nat)<=16777216;decide,?_⟩) x j)) w i));have hf:H s.heap.objs.size=none:=I.be.fresh (bn _);exact h _ _ (aU H s.heap.objs.size (.am [l,m])) (I.laid (t':=s.toks) (λb u e=>cT _ e) (bn _) ⟨by rw [mY];show (2:Nat)<=16777216;decide,[N,u2],.cons r1 (.cons r2 .nil),⟨_,fS _ rfl,rfl,_,rfl⟩⟩) (λb o e=>by rw [jY (qt e hf)];exact e) jy λb o e=>cT _ e
def tf.keep (j:tf X H s.heap b B g k) (I:aC X Z U Y O) (h:aq H Y) (kp: ∀b o,s.heap.get? b=some o->O.heap.get? b=some o):tf X Y O.heap b B g k:=by
 obtain ⟨i,p,m,l⟩:=j
 have all: ∀x∈i,x.1∈B/\eC Y x.1 (.ref x.2.1)/\x.1.bU<=8/\ ∃v a,aG v x.2.2/\lr Y a v/\g x.1 a:=λx e=>by
  obtain ⟨n,q,r,v,a,u,w,y⟩:=m.all x e;exact ⟨n,eC.mono (λc z=>h c _) _ _ q,r,v,a,u,lr.mono (λc z=>h c _) w,y⟩
 obtain ⟨o,J,L,N,Q,h3,h4,_,h5⟩:=m.dict;exact ⟨i,p,⟨m.len,m.sys,all,o,J,L,kp _ _ N,Q,h3,h4,λx e=>YR I.be (all x e).2.1 (all x e).2.2.1,h5⟩,l⟩
def jg2 (i j m:Nat) (n:TE):TS:=λD U H=> ∃(b:Addr) (e g:V) (l:List M.NK) (B:List M.NK) (c:M.NK->M.NV->Prop),U[i]?=some (some (.ref b))/\H b=some (.memo B c)/\U[j]?=some (some e)/\U[m]?=some (some g)/\eI H l [e,g]/\(M.NK.am l).bU<=8/\M.NK.am l∈B/\
 (∀Y,aq H Y-> ∀a v,c (.am l) a->lr Y a v->D.rt v Y)/\ ∀Y,aq H Y->n U Y λv h=>aq Y h/\ ∃a,lr h a v/\c (.am l) a
def uq (hu:X.A.units+9<cLine) (he:PE X e te) (J:X.N[i]?=some x) (L:gs X.env.scope x) (N:X.N[j1]?=some q) (Q:gs X.env.scope q) (sB:X.N[j2]?=some w) (Hm:gs X.env.scope w)
  (hm:rL .NotIn (.Name x p3)=false) (hs:mH e (some (.Subscript (.Name x p6) (.Tuple [.Name q p7,.Name w p8] kt2 p10) p9)) p5.line X.env=pure false)
  (hd:Yi x) (sT:Yh x) (Ho:Yi q) (g:Yh q) (hd2:Yi w) (j:Yh w):
  gS X [.If (.Compare (.Tuple [.Name q p1,.Name w p2] kt1 p11) [.NotIn] [.Name x p3] p4) [.Assign [.Subscript (.Name x p6) (.Tuple [.Name q p7,.Name w p8] kt2 p10) p9] e p5] [] q6,.Return (some (.Subscript (.Name x q1) (.Tuple [.Name q q2,.Name w q3] MQ q7) q4)) q5] (jg2 i j1 j2 te):=by
 rintro Z s U H D I ⟨b,v1,v2,l,B,Φ,ei,hb,e1,e2,hk,DB,hB,hit,h⟩
 have key: ∀ {n:Hp} {c:Addr},aq H n->n c=some (.am [v1,v2])->eC n (.am l) (.ref c):=λ{n c} y hc=>by
  simp only [eC];exact ⟨c,_,rfl,hc,eI.mono (λk _ v=>eC.mono (λc ys=>y c _) k v) hk⟩
 have fin: ∀(n:Hp) (s1:aL),aq H n->aC X Z U n s1->tf X n s1.heap b B Φ (.am l)->wpAny (model X.prog X.w) X.A (execs [.Return (some (.Subscript (.Name x q1) (.Tuple [.Name q q2,.Name w q3] MQ q7) q4)) q5] X.env) (SP X Z D) X.xe s1:=by
  intro n s1 y I1 hh;refine sQ (wpAny_Return_some (vO (T:= "dict") Fp.lookup (λ_ _=>rfl) (wb I1 J L ei (λu ru=>?_) hd sT)));cases ru;refine Zi I1 N Q e1 sB Hm e2 Ho g hd2 j λs2 c H2 I2 Ce hc kp=>?_
  have MR:=hh.keep I2 Ce kp;obtain ⟨xs,p,m,hp⟩:=id MR;exact ⟨m.dict.typeIs,IU hu I2 (key (y.trans Ce) hc) DB MR λw' O I' ⟨v,nv,r1,r2,r3⟩=>⟨v,U,H2,I',r1,hit H2 (y.trans Ce) nv v r3 r2⟩⟩
 refine sQ (wpAny_If (EV (Zi I N Q e1 sB Hm e2 Ho g hd2 j λs0 c H0 I0 a hc _=>?_) hm));refine wb I0 J L ei (λu ru=>?_) hd sT;cases ru;refine YL hu I0 (a _ _ hb) (key a hc) DB λs1 z I1 hz=>oM ?_
 cases z with
 |false=>exact sP (fin H0 s1 a I1 (hz rfl))
 |true=>
  refine sQ (Fe (bA (he Z s1 U H0 _ I1 (h H0 a)) λr s2 ⟨v,n,I2,rv,y,nv,hv,Fq⟩=>wb I2 J L ei (λu ru=>?_) hd sT) hs);cases ru;refine Zi I2 N Q e1 sB Hm e2 Ho g hd2 j λs3 c3 H3 I3 o hc3 _=>?_
  exact IT hu I3 (o _ _ (y _ _ (a _ _ hb))) (key (a.trans (y.trans o)) hc3) DB hB (lr.mono (λc ys=>o c _) hv) Fq rv λs4 I4 hh=>sP (fin H3 s4 (a.trans (y.trans o)) I4 hh)
end
end L2
namespace M
open PySem PySem.Spec L2
open PyProof.Rows hiding St
section
variable {X:Cx}
def oF (i c e:Nat) (g:T0):Sl->ak bg:=λa=>aa i a>>=λm=>aa c a>>=λh=>aa e a>>=λj=>g a>>=λd=>iI m (.am [h,j]) d
def jbu (i w y:Nat) (hu:X.A.units+200<cLine) (he:DE X l e fe) (z:X.N[i]?=some x:=by rfl) (I:X.N[w]?=some a:=by rfl) (J:X.N[y]?=some c:=by rfl) (L:gs X.env.scope x:=by exact gu rfl) (N:gs X.env.scope a:=by exact gu rfl) (O:gs X.env.scope c:=by exact gu rfl)
   (hm:rL .NotIn (.Name x p3)=false:=by rfl) (hs:mH e (some (.Subscript (.Name x p6) (.Tuple [.Name a p7,.Name c p8] Q U) p9)) p5.line X.env=pure false:=by rfl)
   (hd:Yi x:=by decide) (Y:Yh x:=by decide) (Z:Yi a:=by decide) (h:Yh a:=by decide) (hd2:Yi c:=by decide) (j:Yh c:=by decide):
   m6 X [.If (.Compare (.Tuple [.Name a p1,.Name c p2] kt1 p11) [.NotIn] [.Name x p3] p4) [.Assign [.Subscript (.Name x p6) (.Tuple [.Name a p7,.Name c p8] Q U) p9] e p5] [] q6,.Return (some (.Subscript (.Name x q1) (.Tuple [.Name a q2,.Name c q3] MQ q7) q4)) q5] (oF i w y fe):=by
 nomatch (gS.imp (uq (by omega) he z L I N J O hm hs hd Y Z h hd2 j) λE σ H=>by
  rintro ⟨G,H0,env,o,k,ef,q⟩;obtain ⟨m,e1,Ha⟩:=jd ef;obtain ⟨d1,e2,Hb⟩:=jd Ha;obtain ⟨d2,e3,Hc⟩:=jd Hb;obtain ⟨d,e4,He⟩:=jd Hc;obtain ⟨B,Φ,lk,nv,rfl,g,h2,h3,h4,h5,h6,rfl⟩:=YK He;obtain ⟨v,s1,r1⟩:=k.ae i _ (yL e1)
  cases r1 with
  |mem hb _=>
   obtain ⟨w1,s2,r2⟩:=k.ae w _ (yL e2);obtain ⟨p,s3,r3⟩:=k.ae y _ (yL e3)
   have hk:eI H lk [w1,p]:=by
    have g:(match dR [d1,d2] with|some l=>some (NK.am l)|none=>none)=some (NK.am lk):=g
    cases e':dR [d1,d2] with
    |some l'=>
     rw [e'] at g;cases g;obtain ⟨k1,r',rfl,c1,c2⟩:=J4 e';obtain ⟨k2,r'',rfl,c3,c4⟩:=J4 c2;cases c4;simp only [eI];exact ⟨w1,[p],rfl,(QG (K:=X.K) (H:=H) d1 _ c1).2.1 _ _ r2,p,[],rfl,(QG (K:=X.K) (H:=H) d2 _ c3).2.1 _ _ r3,rfl⟩
    |none=>rw [e'] at g;cases g
   refine ⟨_,w1,p,lk,B,Φ,s1,hb,s2,s3,hk,h4,h3,λH1 u nv' v' hp hv=>?_,λH1 u=>⟨G,H0,env,d,k.av u,e4,λv1 H2 Ce r4 _=>⟨Ce,nv,(Xl (K:=X.K) (H:=H2) h2).2.1 _ _ r4,(h6 nv).mpr rfl⟩⟩⟩;have:=(h6 nv').mp hp;subst this;have n:=Xl (K:=X.K) (H:=H1) h2;have r:=n.2.2 h5 G v' hv
   exact q v' H1 (k.af.trans u) r λ_=>Xw (k.af.trans u) r n.1)
noncomputable def sD (i:Nat) (a:Sl):ak (List (List aR)×List D):=match a[i]? with
 |some (.ay (.bX ks ds))=> .ok (ks,ds)
 |some (.ae (.bX ks ds))=> .ok (ks,ds)
 |_=> .aj
def jhi {K:aH} (k:aD K G x g l H) (h:sD i g= .ok q): ∃a c,l[i]?=some (some (V.ref a))/\H a=some (.dT c)/\c.map (·.1)=q.1/\ao K (Sf G g l) H (c.map (·.2)) q.2:=by
 unfold sD at h
 split at h
 . rename_i ks ds e;cases h;obtain ⟨a,c,j,m,n,o⟩:=uL k e;exact ⟨a,c,j,m,n,o⟩
 . rename_i ks ds e;cases h;obtain ⟨v,j,r⟩:=k.ae i _ e;obtain ⟨a,c,rfl,p,_,u,w⟩:=r.o4;exact ⟨a,c,j,p,u,w.low⟩
 . cases h
theorem vG {K:aH} {A:VJ} {H:Hp} (k:List aR): ∀ {a:List (List aR×V)} {ds:List D},ao K A H (a.map (·.2)) ds->fw (a.map (·.1)) ds k=none->fm a k=none
 | [],ds,r,h=>rfl
 | (c,v)::a,ds,r,h=>by
  obtain ⟨d,ds,rfl,_,t⟩:=r.dE
  by_cases e:c=k
  . simp [fw,e] at h
  . have g:fw (a.map (·.1)) ds k=none:=by simpa [fw,e] using h
    have:=vG k t g;simpa [fm,e] using this
def jhm:V->List V->Hp->VK->Prop:=λx e H Q=> ∃a b c k z,x= .ref a/\e=[.ref b,z]/\H a=some (.dT c)/\H b=some (.am (k.map kV))/\Q ((fm c k).getD z) H
def jcR (j:X.A.units+1<cLine):rQ X "dict.get" jhm:=by
 intro i s J H x L v l Q I m n h;obtain ⟨a,b,o,k,z,rfl,rfl,p,r,q⟩:=h;obtain rfl:v=dN a:=m
 obtain ⟨c,e,rfl,u,w⟩: ∃c e,l=[c,e]/\aG (.ref b) c/\aG z e:=by
  cases n with
  |cons y t=>cases t with|cons B t=>cases t;exact ⟨_,_,rfl,y,B⟩
 exact Rm j I (lz.t p r) u w λN O E g=>⟨_,H,E,g,q⟩
def Jp (i:Nat) (c e:T0):Sl->ak D:=λa=>sD i a>>=λq=>c a>>=λg=>e a>>=λz=>match iu g with
 |some k=> .ok ((fw q.1 q.2 k).getD z)
 |none=> .aj
def UK {j c:Pos} (hu:X.A.units+1<cLine) (i:Nat) (L:DE X l1 e1 fk) (N:DE X .s e2 fz) (hN:X.N[i]?=some x:=by rfl) (O:gs X.env.scope x:=by exact gu rfl)
   (hd:Yi x:=by decide) (U:Yh x:=by decide)
   (l:mZ (.Name x p) "get" X.env (eval (.Name x p) X.env)=eval (.Name x p) X.env:=by rfl)
   (o:((iW c (c0 [e1,e2] X.env)).all (λx=>!x.1)&&(oS c (oT [] X.env)).all (λx=>x.1.isSome)
    &&decide ([e1,e2].length+([]:List nJ).length+(if ([]:List nJ).isEmpty then 0 else 1)<30))=true:=by exact Js rfl rfl)
   (m:(j.endLine==c.line)=true:=by rfl) (hs:c0 [e1,e2] X.env=(false,eval e1 X.env)::c0 [e2] X.env:=by exact jt rfl) (h:(iW c (c0 [e2] X.env)).any (·.1)=false:=by exact jS rfl)
   (Y:c0 [e2] X.env=(false,eval e2 X.env)::c0 [] X.env:=by exact jt rfl):
   DE X .s (.Call (.Attribute (.Name x p) "get" j) [e1,e2] [] c) (Jp i fk fz):=by
 nomatch (
  PE.imp (C2 PySem.F.plainAttrs_dict Ff PySem.F.type_dict_get (jcR hu) (xM (i:=i) hN O hd U) (za L (za N xg Y) hs) l o m hs h) λσ H Q=>by
   rintro ⟨G,H0,r,d,k,u,q⟩;obtain ⟨ks,e1,u⟩:=jd u;obtain ⟨kd,e2,u⟩:=jd u;obtain ⟨z,e3,I⟩:=jd u;obtain ⟨a,n,ha,hx,Z,rs⟩:=jhi k e1
   cases g:iu kd with
   |none=>rw [g] at I;cases I
   |some J=>
    rw [g] at I;cases I;refine ⟨.ref a,ha,.inr (.inr (.inl ⟨rfl,.inr ⟨n,hx⟩⟩)),G,H0,r,kd,k,e2,λy H1 B r1 _=>⟨G,H0,r,z,k.av B,e3,λw H2 E r2 _=>?_⟩⟩;obtain ⟨b,rfl,hb⟩:=yl (r1.aO Lv.bu) g;refine ⟨a,b,n,J,w,rfl,rfl,E _ _ (B _ _ hx),E _ _ hb,?_⟩;rw [<-Z] at q
    cases e:fw (n.map (·.1)) ks.2 J with
    |some d0=>
     rw [e] at q;obtain ⟨v,L,N⟩:=W3 J ((rs.av B).av E) e;rw [L];exact q v H2 (B.trans E) N trivial
    |none=>
     rw [e] at q;rw [vG J rs e]
     exact q w H2 (B.trans E) r2 trivial)
def kI {P:cp} {w:World} {d:Addr} (hd:(d==nG)=false):
  MeetsIn P w (mS.«dict.__len__» ⟨[.ref d],[]⟩) (λ_ R s=> ∃o a c,s.heap.get? d=some o/\o.data= .dict a c/\R (.ok (.ret (.int a.size s.toks))) {s with toks:=s.toks+1}):=
 .of_wp λA R s ⟨o,a,c,e,g,h⟩=>by
  show wpAny _ _ (dictSize d>>=_) _ _ s;unfold dictSize;refine ax (ax (Dr e g (aV ?_)));show wpAny _ _ (Builtin.Dict.pendingCount d>>=_) _ _ s;refine ax (wpAny_pendingCount_other hd (wpAny_ret_mkInt ?_));rw [zf];exact h
def jbT:bt X (.builtin "len") (λg H Q=> ∃a c,g=[V.ref a]/\H a=some (.dT c)/\Q (.int c.length) H):=by
 intro i s E H g J Q I r h;obtain ⟨a,c,rfl,n,q⟩:=h;obtain ⟨u,rfl,p⟩:=xO r;cases p;obtain ⟨v,lo,L,w,o,e,x,j,y,hd,z,_⟩:=(show bi X.prog X.w H s.heap a (.dT c) from I.be a _ n)
 have B:e.size=c.length:=by rw [<-jE,z,bM,<-w.length]
 rw [mY] at v;have l:s.TypeIs (.ref a) "dict" :=⟨o,j,y.1⟩
 refine Calls.call_function_entry kind_len plain_len entry_len (args_len1 _) ?_;unfold mS.«len»;refine ax (m:=oneArg "len" _) (aV ?_);refine ax (m:=callSpecial? (.ref a) (Str.ofString "__len__")) (vt (name:=Str.ofString "__len__") l PySem.F.slot_dict_len (call_meetsIn PySem.F.slot_dict_len l PySem.F.entry_dict_len (PySem.F.args_dict_len_1 _) (kI lo) ⟨o,e,x,j,hd,?_⟩));show wpAny _ _ _ _ _ {s with toks:=s.toks+1};refine ax (mI (aV ?_));refine ax (wpAny_letGo ?_);show wpAny _ _ (if ((e.size:Nat):Int)<0 then _ else _) _ _ _;rw [if_neg (by omega)];show wpAny _ _ (if ((e.size:Nat):Int)>=2^63 then _ else _) _ _ _;rw [if_neg (by omega)];exact ax (wpAny_mkInt (aV ⟨_,rfl,.int c.length,H,(I.tok _).tok _,⟨_,by rw [B]⟩,q⟩))
def sE:List D->ak D
 | [.bX ks _]=> .ok (.int ks.length)
 |_=> .aj
def jgs {K:aH}:Kq K (λg H Q=> ∃a c,g=[V.ref a]/\H a=some (.dT c)/\Q (.int c.length) H) sE:=by
 intro g H ds d Q r e q;unfold sE at e
 split at e
 . cases e;obtain ⟨v,rfl,h⟩:=r.one;obtain ⟨p,c,rfl,i,_,rfl,_⟩:=h.o4;exact ⟨p,c,rfl,i,by rw [<-bM];exact q _ (m7 _)⟩
 . cases e
end
section
variable {f Z U:T0} {fa:TX} {t t1 t2:TZ} {g ga gb:TY} {env Y:Sl} {d x y z:D} {ds:List D} {b:Bool} {i:Nat}
def zF {T:String} (h:f env= .ok x) (a:i0 T x= .ok d):bv T f env= .ok d:=by rw [y4,h];exact a
def uM (h:env[i]?=some (.ay (.ai ds))):fM i env= .ok ds:=by unfold fM;rw [h]
def wN {a:TV} {c:TX} {o:bg} (h:c env= .ok ds) (e:bO (j6 a g) ds env= .ok o):cG c a g env= .ok o:=(wO h).trans e
def we {a:TV} {o:bg} (h:a d env= .ok Y) (c:g Y= .ok o):j6 a g d env= .ok o:=(yA h).trans c
def jgg (h:f env= .ok d):vc f env= .ok (.nx env):=by unfold vc;rw [h];rfl
def Qf {i j:Int} (h:0<j/\j<2^200):bQ (.int i) (.int j)= .ok (.int (i/j)):=YV (C:=yX) h
def ro (x:D) (r:List D):aW (.ai (x::r)) (.int 0)= .ok x:=by
 exact congrArg (λz:Option D=>match z with|some d=>ak.ok d|none=> .aj) (M.dk (xs:=x::r) (k:=0))
def Hq (x y:D) (r:List D):aW (.ai (x::y::r)) (.int 1)= .ok y:=by
 exact congrArg (λz:Option D=>match z with|some d=>ak.ok d|none=> .aj) (M.dk (xs:=x::y::r) (k:=1))
def Hr (x y:D) (r:List D):aW (.am (x::y::r)) (.int 1)= .ok y:=by
 exact congrArg (λz:Option D=>match z with|some d=>ak.ok d|none=> .aj) (M.dk (xs:=x::y::r) (k:=1))
def fZ {a b:Int}:dP (.int a) (.int b)= .ok (.bl (a==b)):=LB
def jcQ {a b:Int}:lF (.int a) (.int b)= .ok (.bl (!(a==b))):=by
 unfold lF;rw [jn (show AE (.int a) (.int b) from .inl ⟨rfl,rfl,by simp [D.bU]⟩)];rfl
def MS (h:f env= .ok (.ai ds)):Y5 f env= .ok (jJ 0 ds):=by unfold Y5;rw [h];rfl
def jcV {c m:Str} {n:Nat} {F:TW} {a:T0} {g:TX} {env:Sl} {fs:List Str} {e ds:List D} {d:D} (h:a env= .ok (.obj c fs e)) (j:fs.contains m=false) (l:g env= .ok ds) (o:ds.length+1=n) (p:F (.obj c fs e::ds)= .ok d):jZ c m n F a g env= .ok d:=by
 unfold jZ;rw [h];refine (jn (c:=c=c/\fs.contains m=false) ⟨rfl,j⟩).trans ?_;rw [l];exact (jn (c:=ds.length+1=n) o).trans p
def MT (h:Z env= .ok (.bl true)) (a:U env= .ok d):lD Z U true env= .ok d:=by rw [WE,h];exact a
def jgV (h:Z env= .ok (.bl false)):lD Z U true env= .ok (.bl false):=by rw [WE,h];rfl
def jgX (h:Z env= .ok (.bl false)) (a:U env= .ok d):lD Z U false env= .ok d:=by rw [WE,h];exact a
def jgW (h:Z env= .ok (.bl true)):lD Z U false env= .ok (.bl true):=by rw [WE,h];rfl
def Xq {c:Str} {n:Nat} {F:FO} {g:TX} (a:g env= .ok ds) (e:ds.length=n) (h:F (.obj c [] []) ds= .ok (.a6,d)):xw c n F g env= .ok d:=by
 unfold xw;rw [a];refine (jn (c:=ds.length=n) e).trans ?_;rw [h];rfl
end
section
variable {f f1 f2:FJ} {g0:T0} {fa:TX} {t:Sl->ak (Bool×Sl)} {t0:TZ} {g ga gb:Sl->ak ff} {env env' mo Hs:Sl} {d Q d2 o:D} {ds vs:List D} {ns:List Str} {b:Bool} {i j:Nat} {c m:Str} {oo:ff}
def je2 {N n:Nat} {a Q:D} {rest:Sl} (e:ds.length=n) (h:g (Ji N a ds)= .ok (.nx (.ay Q::rest))):kf N n g a ds= .ok (.a6,Q):=by
 unfold kf;refine (jn e).trans ?_;rw [h];rfl
end
end M
namespace G
open PySem PySem.Spec L2 M
open PyProof.Rows hiding St
noncomputable def top (i:Nat):Stmt:=PySem.Challenge.pw_endwise_k35_whole_ranks_found.main.body.getD i (.Pass ⟨0,0,0,0⟩)
abbrev xY:Stmt:=top 46
abbrev xW:Stmt:=top 47
abbrev xX:Stmt:=top 51
abbrev WX:Stmt:=top 25
abbrev KA:Stmt:=top 27
abbrev uc:Stmt:=top 26
abbrev yG:Stmt:=top 29
abbrev xq:Stmt:=top 24
abbrev JS:Stmt:=top 23
abbrev JQ:Stmt:=top 17
abbrev JT:Stmt:=top 19
abbrev Q9:Stmt:=top 18
abbrev JR:Stmt:=top 20
abbrev Q7:Stmt:=top 21
abbrev W0:Stmt:=top 28
abbrev Q8:Stmt:=top 43
abbrev yE:Stmt:=top 42
abbrev zo:Stmt:=zX (top 41) 0
abbrev zn:Stmt:=zX (top 41) 2
abbrev WY:Stmt:=top 38
abbrev Za:Stmt:=top 22
abbrev yF:Stmt:=top 35
abbrev zp:Stmt:=zX (top 33) 0
abbrev JP:Stmt:=top 9
abbrev wW:Stmt:=zX (top 41) 1
abbrev qL:Stmt:=zX (top 34) 2
abbrev qM:Stmt:=zX (top 34) 3
abbrev wU:Stmt:=top 36
abbrev q9:Stmt:=zX (top 34) 4
abbrev zI:Stmt:=zX (top 34) 1
abbrev qC:Stmt:=zX (top 34) 0
abbrev wY:Stmt:=zX (top 33) 3
abbrev JO:Stmt:=top 37
abbrev wV:Stmt:=top 45
abbrev yI:Stmt:=top 48
abbrev xV:Stmt:=top 52
abbrev yJ:Stmt:=top 53
abbrev wj:Stmt:=top 54
abbrev yH:Stmt:=top 58
abbrev xt:Stmt:=top 55
abbrev yK:Stmt:=top 56
abbrev xr:Stmt:=top 50
abbrev xZ:Stmt:=top 49
abbrev JU:Stmt:=top 57
abbrev wX:Stmt:=zX (top 33) 1
abbrev wl:Stmt:=zX (top 33) 2
abbrev WZ:Stmt:=top 59
abbrev MP:=List NK×(NK->NV->Prop)
def bC (a:Sl):MP:=Classical.epsilon λp=> ∃c s t,(a=[.ae (eZ c),.ae s.d,.ae t.d]\/ ∃r,a=[.ae (eZ c),r,.ae s.d,.ae t.d])/\p=i2 c s t
noncomputable def fT (z:Str) (m:Nat):D:= .am [.str z,.int m]
def aI (a:List (Str×Nat)):D:= .ai (a.map λh=>fT h.1 h.2)
def zq (a:Str×Nat->Nat):NK->NV->Prop:=λk z=> ∀s t:Tr,k= .am [s.k,t.k]->z= .bl (gtB a s t)
def nq (a:List (Str×Nat)) (s t:Tr):MP:=(hJ s t,zq (bB a))
def aX (c:Sl):MP:=Classical.epsilon λp=> ∃e s t,((∃a,c=[.ae s.d,.ae t.d,.ae (ci e),a])\/(c[12]?≠none/\c[9]?=some (.ae (aI e))/\c[11]?=some (.ae s.d)/\c[10]?=some (.ae t.d)))/\p=nq e s t
abbrev dJ:Sl->ak bg:=
 (ap (jB 1 (ag (ag (cI 10) (cI 60) dH) (ag (cI 10) (cI 24) dH) o2)) (aJ (ag (ag (ag (ag (aa 0) (ag (cI 10) (cI 60) dH) bj) (cI 41) a4) (ag (cI 23) (cI 64) dH) o2) (aa 1) bj)))
def bh:List D->ak D:=aE true 2 (dJ)
abbrev fx:Sl->ak bg:=
 (ap (jB 1 (cS "abcdefghijklmnopqrstuvwxyz")) (ap (jB 2 (ag (cI 1) (ag (aa 0) (cI 8) bj) a4)) (ap (jB 0 (ag (aa 0) (cI 8) ng)) (ap (jB 3 (cS "")) (ap (cG (n3 (jb (aa 2) ab)) (gN 4) (ap (jB 3 (ag (aa 3) (ag (aa 1) (ag (aa 0) (cI 26) bj) aW) a4)) (jB 0 (ag (aa 0) (cI 26) ng)))) (ap (jB 5 (ag (aa 0) (aa 2) bj)) (ap (eN 6 (aZ ab)) (ap (cG (n3 (jb (cI 7) ab)) (gN 4) (ap (jB 7 (ag (aa 1) (ag (ag (Dl (aa 1) (jb (ag (aa 3) (aa 5) aW) ab) Dn) (ag (cI 5) (aa 4) o2) a4) (cI 26) bj) aW)) (zM 6 (ag (ag (jM (aa 3) zC (qg (aa 5)) gT) (aa 7) a4) (jM (aa 3) (qg (ag (aa 5) (cI 1) a4)) zC gT) a4)))) (aJ (sv 6))))))))))
def dL:List D->ak D:=aE true 8 (fx)
abbrev hQ (a:TW):Sl->ak bg:=
 (ap (jB 1 (jm 1 a (jb (aa 0) ab))) (ap (jB 0 (ag (aa 0) (ag (cI 10) (cI 14) dH) bQ)) (ap (eN 2 (aZ (jb (bq (jb (ag (aa 1) (cI 0) aW) (jb (cI 0) ab))) (jb (bq (jb (ag (aa 1) (cI 1) aW) (jb (ag (cI 1) (ag (aa 0) (cI 2) bj) a4) ab))) (jb (bq (jb (ag (aa 1) (cI 2) aW) (jb (ag (ag (aa 0) (cI 2) bQ) (cI 3) bj) ab))) ab))))) (ap (zM 2 (bq (jb (ag (aa 1) (ag (ag (aa 0) (cI 6) bQ) (cI 2) bj) aW) (jb (ag (aZ (jb (cI 1) (jb (cI 2) (jb (cI 2) ab)))) (ag (ag (ag (aa 0) (cI 6) bQ) (cI 2) bj) (ag (ag (aa 0) (cI 12) bQ) (cI 2) bj) a4) aW) ab)))) (ap (cb (aM (ag (ag (gJ 2) (cI 3) aW) (jM (gJ 2) zC (qg (cI 3)) gT) (fO false))) (Gw 2 (cI 3) (bq (jb (ag (aa 1) (cI 3) aW) (jb (cI 1) ab)))) cj) (gY 2 (aJ (jM (aa 2) zC (qg (ag (cI 2) (ag (ag (aa 0) (cI 24) bQ) (cI 3) bj) a4)) gT))))))))
def fy:List D->ak D:=aE true 3 (hQ dL)
abbrev nw:Sl->ak bg:=
 (aJ (Fx (aM (bv "tuple" (aa 0))) (jM (aa 0) (qg (cI 1)) zC gT) (bq ab)))
def aQ:List D->ak D:=aE true 1 (nw)
abbrev hU (a:TW) (c:TW):Sl->ak bg:=
 (ap (eN 1 (aZ (jb (aa 0) ab))) (ap (cG (cg (jm 1 a (jb (aa 0) ab))) (gN 2) (qz 1 (jm 1 c (jb (aa 2) ab)))) (aJ (sv 1))))
def bD:Nat->List D->ak D
 |0=>λ_=> .aj
 |n+1=>aE true 3 (hU aQ (bD n))
abbrev rp:Sl->ak bg:=
 (aJ (Fx (aM (bv "tuple" (aa 0))) (bq (jb (ag (aa 0) (cI 0) aW) (jb (ag (app (jb (aa 0) ab) bc) (cI 1) lG) ab))) cN))
def cw:List D->ak D:=aE true 1 (rp)
abbrev iL (a:TW) (c:TW):Sl->ak bg:=
 (ap (eN 1 BY) (ap (cG (cg (aa 0)) (gN 2) (cG (cg (jm 1 a (jb (aa 2) ab))) (gN 3) (cb (aM (bv "tuple" (aa 3))) (JC 1 (jm 1 c (jb (aa 3) ab)) (cB true)) cj))) (gY 1 (aJ (app (jb (aa 1) ab) Q3)))))
def bN:List D->ak D:=aE true 4 (iL (bD 64) cw)
abbrev eW (a:TW):Sl->ak bg:=
 (ap (eN 1 (aZ ab)) (ap (cG (cg (aa 0)) (gN 2) (qz 1 (jm 1 a (jb (aa 2) ab)))) (aJ (sv 1))))
def bF:List D->ak D:=aE true 3 (eW aQ)
abbrev fA (a:TW):Sl->ak bg:=
 (ap (jB 1 (aZ (jb (aa 0) ab))) (ap (jB 2 (cI 0)) (ap (jB 3 (cI 0)) (ap (ql 2000 (pZ (aa 1)) (ap (jB 2 (ag (aa 2) (cI 1) (n0 λi j=>i+j))) (ap (jB 3 (ag (aa 3) (app (jb (aa 1) ab) bc) (n0 λi j=>i+j))) (ap (cb (fY (aM (ag (aa 2) (cI 60) oy)) (aM (ag (aa 3) (cI 1000) oy))) (aJ (cB true)) cj) (jB 1 (jm 1 a (jb (aa 1) ab))))))) (aJ (cB false))))))
def dS:List D->ak D:=aE true 4 (fA bF)
abbrev kv:Sl->ak bg:=
 (aJ (lD (bv "int" (aa 0)) (wJ (bv "bool" (aa 0))) true))
def dU:List D->ak D:=aE true 1 (kv)
abbrev fB (a:TW):Sl->ak bg:=
 (aJ (lD (jm 1 a (jb (aa 0) ab)) (ZS (cI 0) (aa 0) (cI 999) nh nh) true))
def dg:List D->ak D:=aE true 1 (fB dU)
abbrev fg:Sl->ak bg:=
 (ap (cb (fY (bH (aM (bv "str" (aa 0)))) (bH (aM (ZS (cI 1) (app (jb (aa 0) ab) bc) (cI 8) nh nh)))) (aJ (cB false)) cj) (aJ (app (jb (qd false 1 [] (cg (aa 0)) (gN 0) qm (ag (aa 0) (cS "abcdefghijklmnopqrstuvwxyz") inD)) ab) fN)))
def dh:List D->ak D:=aE true 1 (fg)
abbrev dX (a:TW) (c:TW):Sl->ak bg:=
 (ap (cb (aM (bv "tuple" (aa 0))) (aJ (lD (ZS (cI 1) (app (jb (aa 0) ab) bc) (ag (cI 9) (cI 1) a4) nh nh) (jm 1 c (jb (ag (aa 0) (cI 0) aW) ab)) true)) cj) (aJ (jm 1 a (jb (aa 0) ab))))
def dY:List D->ak D:=aE true 1 (dX dg dh)
abbrev iy (a:TW) (c:TW) (e:TW):Sl->ak bg:=
 (aJ (lD (wJ (jm 1 a (jb (aa 0) ab))) (app (jb (qd false 1 [] (cg (jm 1 e (jb (aa 0) ab))) (gN 0) qm (jm 1 c (jb (aa 0) ab))) ab) fN) true))
def gn:List D->ak D:=aE true 1 (iy dS dY (bD 64))
abbrev kw (a:TW):Sl->ak bg:=
 (ap (eN 1 cD) (ap (cG (cg (jm 1 a (jb (aa 0) ab))) (gN 2) (cb (bH (aM (bv "tuple" (aa 2)))) (BU 1 (aa 2) (cB true)) cj)) (gY 1 (aJ (app (jb (aa 1) ab) Do)))))
def k0:List D->ak D:=aE true 3 (kw (bD 64))
abbrev iz (a:TW) (c:TW):Sl->ak bg:=
 (ap (cb (fY (bH (aM (bv "tuple" (aa 0)))) (aM (ag (app (jb (aa 0) ab) bc) (cI 2) lF))) (aJ (cB false)) cj) (ap (cb (fY (bH (aM (jm 1 a (jb (ag (aa 0) (cI 0) aW) ab)))) (fY (bH (aM (jm 1 a (jb (ag (aa 0) (cI 1) aW) ab)))) (bH (aM (bv "tuple" (ag (aa 0) (cI 0) aW)))))) (aJ (cB false)) cj) (aJ (ag (jm 1 c (jb (ag (aa 0) (cI 1) aW) ab)) (jm 1 c (jb (ag (aa 0) (cI 0) aW) ab)) o9))))
def gp:List D->ak D:=aE true 1 (iz gn k0)
abbrev iM (a:TW):Sl->ak bg:=
 (ap (cb (fY (bH (aM (bv "list" (aa 0)))) (aM (ag (app (jb (aa 0) ab) bc) (cI 40) oy))) (aJ (cB false)) cj) (aJ (app (jb (qd false 1 [] (cg (aa 0)) (gN 0) qm (jm 1 a (jb (aa 0) ab))) ab) fN)))
def eF:List D->ak D:=aE true 1 (iM gp)
abbrev cJ (a:TW) (c:TW):Sl->ak ff:=
 (o5 (AL (bH (aM (jm 1 c (jb (aa 1) ab)))) Ya B2) (o5 (WU 0 "Rules" "listed" (app (jb (aa 1) ab) K6)) (WU 0 "Rules" "named" (jm 1 a (jb (ag (qd false 2 [] (cg (aa 1)) (g2 (gN 0) (gN 1)) qm (aa 0)) (qd false 2 [] (cg (aa 1)) (g2 (gN 0) (gN 1)) qm (aa 1)) a4) ab)))))
def a7:FO:=kf 2 1 (cJ bN eF)
abbrev dZ:Sl->ak bg:=
 (aJ (app (jb (gO "Rules" "named" (gJ 0)) ab) K6))
def bR:List D->ak D:=aE true 1 (dZ)
abbrev ny (a:TW):Sl->ak bg:=
 (ap (cb (aM (ag (aa 0) (aZ ab) dP)) (aJ (aZ (jb (aZ ab) ab))) cj) (ap (eN 1 (aZ ab)) (ap (cG (Y5 (aa 0)) (g2 (gN 2) (gN 3)) (ap (jB 4 (ag (jM (aa 0) zC (qg (aa 2)) gT) (jM (aa 0) (qg (ag (aa 2) (cI 1) a4)) zC gT) a4)) (qz 1 (qd false 1 [3] (cg (jm 1 a (jb (aa 4) ab))) (gN 0) qm (ag (aZ (jb (aa 1) ab)) (aa 0) a4))))) (aJ (sv 1)))))
def cA:Nat->List D->ak D
 |0=>λ_=> .aj
 |n+1=>aE true 5 (ny (cA n))
abbrev l7 (a:TW) (c:TW):Sl->ak bg:=
 (ap (cb (fY (bH (aM (bv "tuple" (aa 0)))) (aM (ag (app (jb (aa 0) ab) bc) (cI 2) lF))) (aJ (cB false)) cj) (aJ (lD (jm 1 a (jb (ag (aa 0) (cI 0) aW) ab)) (lD (jm 1 c (jb (ag (aa 0) (cI 1) aW) ab)) (ZS (cI 0) (ag (aa 0) (cI 1) aW) (cI 9) nh nh) true) true)))
def gq:List D->ak D:=aE true 1 (l7 dh dU)
abbrev iN (a:TW):Sl->ak bg:=
 (ap (cb (fY (bH (aM (bv "list" (aa 0)))) (aM (ag (app (jb (aa 0) ab) bc) (cI 60) oy))) (aJ (cB false)) cj) (aJ (lD (app (jb (qd false 1 [] (cg (aa 0)) (gN 0) qm (jm 1 a (jb (aa 0) ab))) ab) fN) (ag (tQ (aa 0)) (app (jb (aa 0) ab) bc) dP) true)))
def bE:List D->ak D:=aE true 1 (iN gq)
abbrev bS (a:TW):Sl->ak ff:=
 (o5 (AL (bH (aM (jm 1 a (jb (aa 1) ab)))) Ya B2) (WU 0 "Ranks" "rank" (app (jb (qd false 2 [] (Y5 (aa 1)) (g2 (gN 0) (gN 1)) qm (bq (jb (aa 1) (jb (aa 0) ab)))) ab) WG)))
def bw:FO:=kf 2 1 (bS bE)
abbrev fD:Sl->ak bg:=
 (cG (cg (aa 0)) (gN 2) (cb (aM (ag (aa 2) (aa 1) rk)) YG cj))
def ee:List D->ak D:=aE true 3 (fD)
abbrev f6:Sl->ak bg:=
 (aJ (app (jb (gO "Rules" "listed" (gJ 0)) ab) K6))
def bm:List D->ak D:=aE true 1 (f6)
abbrev bZ (a:TW) (c:TW):Sl->ak bg:=
 (ap (cG (B0 (jm 1 a (jb (aa 1) ab))) (g2 (gN 3) (gN 4)) (cb (fY (aM (ag (aa 4) (aa 2) dP)) (aM (ag (jZ "Reckoning" "way" 3 c (aa 0) (jb (aa 4) (jb (aa 2) ab))) cN n9))) (aJ (bq (jb (cS "part") (jb (aa 3) ab)))) cj)) (aJ cN))
def b7 (a:TW):List D->ak D:=aE true 5 (bZ aQ a)
abbrev b8 (c:TW) (a:TW) (e:TW):Sl->ak bg:=
 (ap (cb (fY (bH (aM (bv "tuple" (aa 1)))) (bH (aM (bv "tuple" (aa 2))))) (aJ cN) cj) (ap (cb (aM (ag (ag (gO "Reckoning" "rank" (gJ 0)) (jm 1 a (jb (aa 1) ab)) lJ) (ag (gO "Reckoning" "rank" (gJ 0)) (jm 1 a (jb (aa 2) ab)) lJ) Lo)) (aJ cN) cj) (ap (cG (cg (jm 1 c (jb (aa 2) ab))) (gN 3) (cb (aM (ag (jZ "Reckoning" "way" 3 e (aa 0) (jb (aa 1) (jb (aa 3) ab))) cN mN)) (aJ cN) cj)) (aJ (bq (jb (cS "head") ab))))))
def ca (a:TW):List D->ak D:=aE true 4 (b8 aQ cw a)
abbrev f7 (a:TW):Sl->ak bg:=
 (ap (jB 2 (cI 0)) (ap (ql 64 (aM (ag (ag (jm 1 a (jb (aa 0) ab)) (aa 2) aW) (ag (jm 1 a (jb (aa 1) ab)) (aa 2) aW) dP)) (jB 2 (ag (aa 2) (cI 1) (n0 λi j=>i+j)))) (retS (aa 2))))
def et:List D->ak D:=aE false 3 (f7 aQ)
abbrev dw (g:TW) (c:TW) (a:TW) (e:TW):Sl->ak bg:=
 (ap (cb (fY (bH (aM (bv "tuple" (aa 1)))) (fY (aM (ag (jm 1 e (jb (aa 1) ab)) (jm 1 e (jb (aa 2) ab)) lF)) (aM (ag (aa 1) (aa 2) dP)))) (aJ cN) cj) (ap (jB 3 (jm 2 g (jb (aa 1) (jb (aa 2) ab)))) (ap (cb (aM (ag (jZ "Reckoning" "way" 3 c (aa 0) (jb (ag (jm 1 a (jb (aa 1) ab)) (aa 3) aW) (jb (ag (jm 1 a (jb (aa 2) ab)) (aa 3) aW) ab))) cN mN)) (aJ cN) cj) (ap (cG (cg (jM (jm 1 a (jb (aa 2) ab)) (qg (ag (aa 3) (cI 1) a4)) zC gT)) (gN 4) (cb (aM (ag (jZ "Reckoning" "way" 3 c (aa 0) (jb (aa 1) (jb (aa 4) ab))) cN mN)) (aJ cN) cj)) (aJ (bq (jb (cS "row") (jb (aa 3) ab))))))))
def ck (a:TW):List D->ak D:=aE true 5 (dw et a aQ cw)
abbrev eG (a:TW) (c:TW) (e:TW):Sl->ak bg:=
 (ap (jB 3 (bq (jb (aa 1) (jb (aa 2) ab)))) (oD "Reckoning" "ways" 0 3 (Cc (jZ "Reckoning" "by_part" 3 a (aa 0) (jb (aa 1) (jb (aa 2) ab))) (Cc (jZ "Reckoning" "by_head" 3 c (aa 0) (jb (aa 1) (jb (aa 2) ab))) (jZ "Reckoning" "by_row" 3 e (aa 0) (jb (aa 1) (jb (aa 2) ab)))))))
def az:Nat->List D->ak D
 |0=>λ_=> .aj
 |n+1=>aE true 4 (eG (b7 (az n)) (ca (az n)) (ck (az n)))
abbrev bo (p:MP):Sl->ak ff:=
 (o5 (WU 0 "Reckoning" "rank" (aa 1)) (WU 0 "Reckoning" "ways" (cM p)))
def aY (p:MP):FO:=kf 2 1 (bo p)
abbrev f9 (a:TW) (c:TW) (e:TW) (g:TW) (h:MP->FO):Sl->ak bg:=
 (ap (vc (jm 2 a (jb (jZ "Rules" "heads_of" 1 e (aa 1) jO) (jb (gO "Ranks" "rank" (gJ 0)) ab)))) (ap (cG (cg (jZ "Rules" "told" 1 c (aa 1) jO)) (g2 (gN 2) (gN 3)) (cb (aM (ag (Jj bC λp=>(jZ "Reckoning" "way" 3 g (xw "Reckoning" 1 (h p) (jb (gO "Ranks" "rank" (gJ 0)) ab)) (jb (aa 2) (jb (aa 3) ab)))) cN mN)) (aJ (cB false)) cj)) (aJ (cB true))))
def bx:List D->ak D:=aE true 4 (f9 ee bm bR (az 32) aY)
abbrev k4 (a:TW) (c:TW) (e:FO) (g:TW):Sl->ak bg:=
 (ap (jB 1 (jZ "Rules" "heads_of" 1 a (aa 0) jO)) (ap (cb (aM (ag (app (jb (aa 1) ab) bc) (cI 6) oy)) YG cj) (ap (cG (cg (jm 1 c (jb (aa 1) ab))) (gN 2) (ap (jB 3 (xw "Ranks" 1 e (jb (aa 2) ab))) (cb (aM (jZ "Ranks" "lets" 2 g (aa 3) (jb (aa 0) ab))) (retS (aa 3)) cj))) (aJ cN))))
def ez:List D->ak D:=aE false 4 (k4 bR (cA 8) bw bx)
abbrev gc:Sl->ak bg:=
 (ap (cb (aM (ag (aa 1) (app (jb (aa 0) ab) bc) ltI)) (retS (ag (aa 0) (aa 1) aW)) cj) (aJ (cI 0)))
def cZ:List D->ak D:=aE false 2 (gc)
abbrev ge (a:TW):Sl->ak bg:=
 (ap (gK (app (jb (aa 0) (jb (ag (app (jb (aa 1) ab) bc) (cI 2) a4) ab)) Qe) (g2 (gN 0) (gN 6))) (ap (cb (fY (aM (ag (aa 6) (cI 2) ltI)) (aM (ag (aa 3) (cI 0) dP))) (ap (gK (app (jb (aa 0) (jb (app (jb (aa 2) ab) bc) ab)) Qe) (g2 (gN 0) (gN 5))) (aJ (bq (jb (ag (aa 2) (aa 5) aW) (jb (aa 0) ab))))) cj) (ap (gK (ag (aa 1) (ag (aa 6) (cI 2) lG) aW) (g2 (gN 7) (gN 8))) (ap (eN 4 (aZ ab)) (ap (cG (n3 (jb (aa 8) ab)) (gN 5) (ap (gK (jm 4 a (jb (aa 0) (jb (aa 1) (jb (aa 2) (jb (ag (aa 3) (cI 1) lG) ab))))) (g2 (gN 9) (gN 0))) (zM 4 (aa 9)))) (aJ (bq (jb (wH (app (jb (ag (aZ (jb (aa 7) ab)) (gJ 4) a4) ab) yu)) (jb (aa 0) ab)))))))))
def ba:Nat->List D->ak D
 |0=>λ_=> .aj
 |n+1=>aE true 10 (ge (ba n))
abbrev hX (a:TW):Sl->ak bg:=
 (ap (eN 1 (aZ (jb (aa 0) ab))) (ap (cb (bH (aM (bv "int" (aa 0)))) (cG (cg (jM (aa 0) (qg (cI 1)) zC gT)) (gN 2) (qz 1 (jm 1 a (jb (aa 2) ab)))) cj) (aJ (sv 1))))
def bp:Nat->List D->ak D
 |0=>λ_=> .aj
 |n+1=>aE true 3 (hX (bp n))
abbrev iP (a:TW) (c:TW):Sl->ak bg:=
 (ap (gK (jm 4 a (jb (aa 0) (jb (aa 1) (jb (aa 2) (jb (cI 2) ab))))) (g2 (gN 5) (gN 0))) (ap (cb (aM (bv "int" (aa 5))) (jB 5 (app (jb (ag (aZ (jb (ag (ag (aa 1) (cI 1) aW) (cI 0) aW) ab)) (ag (aZ (jb (aa 5) ab)) (ag (ag (aa 1) (cI 1) aW) (cI 1) aW) lK) a4) ab) yu)) cj) (ap (jB 3 (jm 1 c (jb (aa 5) ab))) (ap (eN 4 (aZ (jb (ag (aa 3) (ag (aa 0) (app (jb (aa 3) ab) bc) bj) aW) (jb (ag (aa 3) (ag (ag (aa 0) (cI 7) ng) (app (jb (aa 3) ab) bc) bj) aW) (jb (bq (jb (ag (ag (aa 1) (cI 0) aW) (cI 0) aW) ab)) ab))))) (ap (zM 4 (ag (qd false 1 [] (cg (aa 3)) (gN 0) (fY (aM (bv "int" (aa 0))) (aM (ag (jM (aa 0) (qg (cI 1)) zC gT) (bq ab) dP))) (aa 0)) (cI 0) aW)) (ap (gK (wH (jm 4 a (jb (ag (aa 0) (cI 49) ng) (jb (aa 1) (jb (gJ 4) (jb (cI 1) ab)))))) (g2 (gN 6) (gN 0))) (aJ (bq (jb (aa 5) (jb (aa 6) ab))))))))))
def dz:List D->ak D:=aE true 7 (iP (ba 6) (bp 16))
abbrev fI (a:TW):Sl->ak bg:=
 (ap (eN 1 BY) (ap (cG (cg (aa 0)) (g2 (gN 2) (gN 3)) (cG (cg (ag (jm 1 a (jb (aa 2) ab)) (jm 1 a (jb (aa 3) ab)) a4)) (gN 4) (cb (bH (aM (bv "int" (aa 4)))) (JC 1 (bq (jb (ag (aa 4) (cI 0) aW) (jb (ag (app (jb (aa 4) ab) bc) (cI 1) lG) ab))) (cB true)) cj))) (gY 1 (aJ (app (jb (aa 1) ab) Q3)))))
def bf:List D->ak D:=aE true 5 (fI (bp 16))
abbrev iQ (a:TW) (c:TW) (e:TW):Sl->ak bg:=
 (ap (jB 3 (jm 1 a (jb (aa 0) ab))) (ap (jB 4 (qd false 1 [3,0] (n3 (jb (ag (cI 5) (ag (ag (aa 0) (ag (cI 10) (cI 31) dH) bQ) (cI 2) bj) a4) ab)) (gN 0) qm (bq (jb (ag (aa 1) (aa 0) aW) (jb (ag (cI 1) (ag (ag (aa 2) (ag (cI 7) (aa 0) a4) bQ) (cI 3) bj) a4) ab))))) (ap (eN 5 (aZ ab)) (ap (eN 6 BY) (ap (cG (cg (aa 1)) (gN 7) (ap (jB 10 (jm 1 e (jb (aa 7) ab))) (ap (og 12 13 (jb (ag (aa 10) (app (jb (aa 4) ab) bc) bj) (jb (ag (ag (aa 10) (cI 6) bQ) (app (jb (aa 4) ab) bc) bj) ab))) (ap (cb (aM (ag (aa 12) (aa 13) dP)) (jB 13 (ag (ag (aa 12) (cI 1) a4) (app (jb (aa 4) ab) bc) bj)) cj) (ap (cb (aM (ag (ag (ag (aa 10) (cI 36) bQ) (cI 8) bj) (cI 0) oy)) (og 12 13 (jb (app (jb (aa 12) (jb (aa 13) ab)) maxD) (jb (app (jb (aa 12) (jb (aa 13) ab)) minD) ab))) cj) (ap (zM 5 (bq (jb (app (jb (ag (aZ (jb (ag (ag (aa 4) (aa 12) aW) (cI 0) aW) ab)) (ag (aZ (jb (aa 2) ab)) (ag (ag (aa 4) (aa 12) aW) (cI 1) aW) lK) a4) ab) yu) (jb (app (jb (ag (aZ (jb (ag (ag (aa 4) (aa 13) aW) (cI 0) aW) ab)) (ag (aZ (jb (aa 2) ab)) (ag (ag (aa 4) (aa 13) aW) (cI 1) aW) lK) a4) ab) yu) ab)))) (JC 6 (ag (aa 4) (aa 13) aW) (ag (Jp 6 (ag (aa 4) (aa 13) aW) (aZ ab)) (aZ (jb (ag (aa 4) (aa 12) aW) ab)) a4)))))))) (ap (gY 5 (jB 8 (jm 1 c (jb (aa 5) ab)))) (ap (eN 9 (aZ ab)) (ap (ql 16 (aM (ag (app (jb (gJ 9) ab) bc) (app (jb (aa 8) ab) bc) ltI)) (ap (jB 11 (qd true 1 [9,6] (cg (aa 8)) (gN 0) (mj (aM (ag (aa 0) (aa 1) (fO true))) (aM (app (jb (qd false 1 [1] (cg (Jp 2 (aa 0) (aZ ab))) (gN 0) qm (ag (aa 0) (aa 1) (fO false))) ab) fN))) (aa 0))) (ap (cb (aM (ag (aa 11) (aZ ab) dP)) (gY 5 (aJ (bq (jb (aa 4) (jb (aa 5) (jb cN ab)))))) cj) (zM 9 (ag (aa 11) (cI 0) aW))))) (gY 9 (gY 5 (aJ (bq (jb (aa 4) (jb (aa 5) (jb (aa 9) ab)))))))))))))))
def cm:List D->ak D:=aE true 14 (iQ dL bf bh)
abbrev gB:Sl->ak bg:=
 (ap (jB 1 (aZ (jb (aZ ab) ab))) (ap (ql 16 (aM (ag (app (jb (ag (aa 1) (cI 0) aW) ab) bc) (app (jb (aa 0) ab) bc) ltI)) (ap (eN 2 (aZ ab)) (ap (cG (cg (aa 1)) (gN 3) (qz 2 (qd false 1 [3] (cg (aa 0)) (gN 0) (aM (ag (aa 0) (aa 1) (fO true))) (ag (aa 1) (aZ (jb (aa 0) ab)) a4)))) (gY 2 (jB 1 (aa 2)))))) (retS (aa 1))))
def dn:List D->ak D:=aE false 4 (gB)
abbrev iS:Sl->ak bg:=
 (ap (eN 1 BY) (ap (cG (cg (aa 0)) (gN 2) (JC 1 (aa 2) (app (jb (gJ 1) ab) sE))) (aJ (sv 1))))
def cn:List D->ak D:=aE true 3 (iS)
abbrev gC (a:TW):Sl->ak bg:=
 (ap (cb (aM (app (jb (qd false 1 [3,0,1] (cg (jM (aa 2) (qg (cI 1)) zC gT)) (gN 0) qm (lD (ag (aa 0) (aa 1) dP) (jm 4 a (jb (aa 2) (jb (aa 3) (jb (aa 0) (jb (aa 1) ab))))) false)) ab) rj)) (aJ (cB true)) cj) (ap (cb (aM (bv "int" (aa 3))) (aJ (cB false)) cj) (ap (jB 4 (ag (aa 0) (bq (jb (ag (aa 2) (cI 0) aW) (jb (ag (app (jb (aa 2) ab) bc) (cI 1) lG) ab))) lJ)) (ap (jB 5 (ag (aa 0) (bq (jb (ag (aa 3) (cI 0) aW) (jb (ag (app (jb (aa 3) ab) bc) (cI 1) lG) ab))) lJ)) (ap (jB 6 (jM (aa 3) (qg (cI 1)) zC gT)) (ap (cb (aM (ag (aa 4) (aa 5) dP)) (ap (jB 7 (cI 1)) (ap (ql 64 (mj (aM (ag (aa 7) (app (jb (aa 2) ab) bc) ltI)) (aM (ag (ag (aa 2) (aa 7) aW) (ag (aa 3) (aa 7) aW) dP))) (jB 7 (ag (aa 7) (cI 1) a4))) (ap (cb (fY (aM (ag (aa 7) (app (jb (aa 2) ab) bc) dP)) (bH (aM (jm 4 a (jb (aa 0) (jb (aa 1) (jb (ag (aa 2) (aa 7) aW) (jb (ag (aa 3) (aa 7) aW) ab)))))))) (aJ (cB false)) cj) (jB 6 (jM (aa 3) (qg (ag (aa 7) (cI 1) a4)) zC gT))))) cj) (aJ (lD (ag (aa 4) (aa 5) nh) (app (jb (qd false 1 [0,1,2] (cg (aa 6)) (gN 0) qm (jm 4 a (jb (aa 1) (jb (aa 2) (jb (aa 3) (jb (aa 0) ab)))))) ab) fN) true))))))))
def eX (a:TW):List D->ak D:=aE true 8 (gC a)
abbrev hZ (a:TW):Sl->ak bg:=
 (ap (cb (aM (bv "int" (aa 2))) (aJ (cB false)) cj) (oF 1 2 3 (jm 4 a (jb (aa 0) (jb (aa 1) (jb (aa 2) (jb (aa 3) ab)))))))
def aP:Nat->List D->ak D
 |0=>λ_=> .aj
 |n+1=>aE true 4 (hZ (eX (aP n)))
abbrev k5 (a:TW) (c:TW) (e:TW) (g:TW):Sl->ak bg:=
 (ap (cG (cg (jm 1 a (jb (jm 1 c (jb (aa 0) ab)) ab))) (gN 1) (ap (jB 2 (jm 1 e (jb (aa 1) ab))) (cb (aM (app (jb (qd false 2 [2] (cg (aa 0)) (g2 (gN 0) (gN 1)) qm (Jj aX λp=>(jm 4 g (jb (aa 2) (jb (cM p) (jb (aa 0) (jb (aa 1) ab))))))) ab) fN)) (retS (aa 1)) cj))) (aJ cN))
def gQ:List D->ak D:=aE false 3 (k5 dn bf cn (aP 32))
abbrev gg:Sl->ak bg:=
 (aJ (app (jb (gO "Ranks" "rank" (gJ 0)) ab) G7))
def bJ:List D->ak D:=aE true 1 (gg)
abbrev fJ (a:TW) (c:TW) (e:TW) (g:MP->FO):Sl->ak bg:=
 (ap (vc (jm 2 a (jb (jm 1 c (jb (aZ (jb (aa 1) (jb (aa 2) ab))) ab)) (jb (gO "Ranks" "rank" (gJ 0)) ab)))) (aJ (ag (Jj bC λp=>(jZ "Reckoning" "way" 3 e (xw "Reckoning" 1 (g p) (jb (gO "Ranks" "rank" (gJ 0)) ab)) (jb (aa 1) (jb (aa 2) ab)))) cN n9)))
def bW:List D->ak D:=aE true 3 (fJ ee bN (az 32) aY)
abbrev tU (a:TW) (h:TW) (i:FO) (j:TW) (l:TW) (m:TW) (n:TW) (o:TW) (c:TW) (e:TW) (q:TW) (g:TW) (r:TW) (u:TW) (v:TW):Sl->ak bg:=
 (ap (jB 1 (jm 1 a (jb (jm 2 l (jb (aa 0) (jb (cI 0) ab))) ab))) (ap (jB 2 (jm 1 h (jb (aa 1) ab))) (ap (jB 3 (aZ (jb (ag (aa 1) (cI 1000) bj) (jb (ag (ag (aa 1) (cI 1000) bQ) (cI 1000) bj) (jb (ag (aZ (jb (cI 7) (jb (ag (aa 1) (cI 1000) bj) ab))) (ag (ag (aa 1) (ag (cI 10) (cI 6) dH) bQ) (cI 2) bj) aW) ab))))) (ap (jB 4 (qd false 1 [2,3] (cg (jM (aa 0) (qg (cI 1)) (qg (cI 7)) sA)) (gN 0) qm (jm 3 m (jb (jm 1 a (jb (aa 0) ab)) (jb (aa 1) (jb (aa 2) ab)))))) (ap (cb (aM (ag (ag (ag (aa 1) (ag (cI 10) (cI 30) dH) bQ) (cI 8) bj) (cI 1) dP)) (gK (jm 3 n (jb (aa 1) (jb (jM (aa 0) (qg (cI 1)) (qg (cI 13)) sA) (jb (ag (aa 3) (cI 0) aW) ab)))) (g3 (gN 2) (gN 4) (gN 9))) (jB 9 (jm 1 o (jb (aa 4) ab)))) (ap (jB 5 (xw "Rules" 1 i (jb (app (jb (aa 4) ab) K6) ab))) (ap (jB 6 (jm 1 j (jb (aa 5) ab))) (ap (cb (aM (ag (aa 9) cN mN)) (aJ (lD (ag (aa 6) cN mN) (ag (jZ "Rules" "told" 1 g (aa 5) jO) (aa 4) dP) true)) cj) (ap (cb (fY (bH (aM (zi ["Ranks"] (aa 6)))) (fY (bH (aM (bv "list" (jZ "Ranks" "told" 1 e (aa 6) jO)))) (aM (ag (jZ "Ranks" "told" 1 e (aa 6) jO) (aa 9) lF)))) (aJ (cB false)) cj) (ap (cb (fY (aM (ag (jZ "Ranks" "lets" 2 q (aa 6) (jb (aa 5) ab)) (cB true) sC)) (aM (ag (jZ "Rules" "told" 1 g (aa 5) jO) (aa 4) lF))) (aJ (cB false)) cj) (ap (jB 7 (qd false 1 [9] (cg (aa 2)) (gN 0) (aM (ag (aa 0) (aa 1) (fO false))) (aa 0))) (ap (cG (cg (jM (aa 0) (qg (cI 7)) (qg (cI 19)) sA)) (gN 8) (ap (gK (jm 4 c (jb (jm 1 a (jb (aa 8) ab)) (jb (aa 7) (jb (aa 3) (jb (cI 2) ab))))) (g2 (gN 11) (gN 12))) (ap (jB 10 (ag (jm 4 c (jb (aa 12) (jb (aa 7) (jb (aa 3) (jb (cI 2) ab))))) (cI 0) aW)) (cb (aM (ag (jZ "Ranks" "falls" 3 r (aa 6) (jb (aa 11) (jb (aa 10) ab))) (Jj aX λp=>(jm 4 u (jb (jm 1 v (jb (aa 9) ab)) (jb (cM p) (jb (aa 11) (jb (aa 10) ab)))))) lF)) (aJ (cB false)) cj)))) (aJ (cB true))))))))))))))
def rq:List D->ak D:=aE true 13 (tU bh fy a7 ez cZ dz cm gQ (ba 6) bJ bx bm bW (aP 32) cn)
def oA {c:Type} {a:ak c} (b:c) (h:a= .ok b):a= .ok b:=h
structure Gm (K:aH) (mg:WV):Prop where
 aA:mg "isinstance" =none
 zr:mg "bool" =none
 la:mg "int" =none
 lc:mg "all" =none
 bz:mg "len" =none
 bT:mg "tuple" =none
 fE:mg "list" =none
 nz:mg "sorted" =none
 tV:mg "set" =none
 i8:mg "range" =none
 Cf:mg "str" =none
 gh:mg "enumerate" =none
 zz:mg "dict" =none
 nA:mg "divmod" =none
 Cg:mg "max" =none
 Ch:mg "min" =none
 Ci:mg "any" =none
 pc: ∃t,mg "LETTERS" =some (.str "abcdefghijklmnopqrstuvwxyz" t)
 lf: ∃t,mg "MOST_LETTERS" =some (.int 8 t)
 gD: ∃t,mg "MOST_PLACES" =some (.int 9 t)
 mC: ∃t,mg "MOST_BLANK" =some (.int 999 t)
 lN: ∃t,mg "MOST_LEVELS" =some (.int 60 t)
 mD: ∃t,mg "MOST_PARTS" =some (.int 1000 t)
 lP: ∃t,mg "MOST_RANKED" =some (.int 60 t)
 lg: ∃t,mg "MOST_ORDERED" =some (.int 6 t)
 mE: ∃t,mg "MOST_RULES" =some (.int 40 t)
 cr:lI K "Ranks" "rank"
 gj:lI K "Rules" "listed"
 gE:lI K "Rules" "named"
 di:lI K "Reckoning" "rank"
 fh:lI K "Reckoning" "ways"
 rz: ∃a,mg "Ranks" =some (.ref a)/\ ∀c,[("Ranks" :Str)].contains c=true-> ∀C,Gv K c C->nI K (.ref C) (.ref a)=some true
def MU:au ["_law_cell", "_law_bound"] ["_law_cell"] (ji xY):=dQ
def pF:au ["_law_number", "_law_letters", "_law_size", "_law_first", "_law_k", "_law_at", "_law_names_here", "_law_sign"] ["_law_number"] (ji xW):=dQ
def D3:au ["_law_number", "_law_names_here", "_law_some"] ["_law_number"] (ji xX):=dQ
def jkE:au ["term"] ["term"] (ji WX):=dQ
def Ht:au ["term", "found", "place"] ["term"] (ji KA):=dQ
def jko:au ["term"] ["term"] (ji uc):=dQ
def D4:au ["terms", "met", "term", "found"] ["terms"] (ji yG):=dQ
def Hu:au ["row", "below", "thing"] ["row"] (ji xq):=dQ
def zB:au ["thing", "row", "depth", "counted"] ["thing"] (ji JS):=dQ
def jkx:au ["thing"] ["thing"] (ji JQ):=dQ
def jkq:au ["thing"] ["thing"] (ji JT):=dQ
def jkt:au ["thing"] ["thing"] (ji Q9):=dQ
def jku:au ["thing"] ["thing"] (ji JR):=dQ
def jkw:au ["thing"] ["thing"] (ji Q7):=dQ
def Hv:au ["term", "met", "found"] ["term"] (ji W0):=dQ
def jkv:au ["thing"] ["thing"] (ji Q8):=dQ
def jkk:au ["thing"] ["thing"] (ji yE):=dQ
def jj1:au ["self", "rules"] ["self", "rules"] (ji zo):=dQ
def jj2:au ["self"] ["self"] (ji zn):=dQ
def Cj:au ["listed", "found", "number", "first", "rest"] ["listed"] (ji WY):=dQ
def jks:au ["thing"] ["thing"] (ji Za):=dQ
def jkj:au ["thing"] ["thing"] (ji yF):=dQ
def jjS:au ["self", "heads"] ["self", "heads"] (ji zp):=dQ
def MV:au ["met", "known", "found"] ["met", "known"] (ji JP):=dQ
def jj3:au ["self"] ["self"] (ji wW):=dQ
def Hw:au ["self", "one", "other", "number", "place"] ["self", "one", "other"] (ji qL):=dQ
def MW:au ["self", "one", "other", "place"] ["self", "one", "other"] (ji qM):=dQ
def Hx:au ["one", "other", "number"] ["one", "other"] (ji wU):=dQ
def Hy:au ["self", "one", "other", "number", "place"] ["self", "one", "other"] (ji q9):=dQ
def MX:au ["self", "one", "other", "pair"] ["self", "one", "other"] (ji zI):=dQ
def jjW:au ["self", "rank"] ["self", "rank"] (ji qC):=dQ
def Hz:au ["self", "rules", "left", "right"] ["self", "rules"] (ji wY):=dQ
def D5:au ["rules", "sought", "order", "paper"] ["rules"] (ji JO):=dQ
def jj4:au ["_law_script", "_law_k"] ["_law_script", "_law_k"] (ji wV):=dQ
def rA:au ["_law_number", "_law_some", "_law_leaves", "_law_deep", "_law_places", "_law_k", "_law_pick", "_law_name", "_law_many", "_law_place"] ["_law_number", "_law_some", "_law_leaves", "_law_deep"] (ji yI):=dQ
def HA:au ["_law_term_here", "_law_found", "_law_place"] ["_law_term_here"] (ji xV):=dQ
def tW:au ["_law_number", "_law_some", "_law_holes", "_law_parts_here", "_law_leaves", "_law_left", "_law_right"] ["_law_number", "_law_some", "_law_holes"] (ji yJ):=dQ
def Ck:au ["_law_rules", "_law_found", "_law_left", "_law_right", "_law_piece"] ["_law_rules"] (ji wj):=dQ
def pf:au ["_law_first", "_law_cells", "_law_hole", "_law_names_here", "_law_some", "_law_rules", "_law_ahead", "_law_cell", "_law_tops", "_law_row", "_law_number", "_law_free", "_law_high", "_law_low"] ["_law_first", "_law_cells", "_law_hole"] (ji yH):=dQ
def Cn:au ["_law_some", "_law_found", "_law_longer", "_law_row"] ["_law_some"] (ji xt):=dQ
def HB:au ["_law_row", "_law_rank_here", "_law_one"] ["_law_row"] (ji yK):=dQ
def zJ:au ["_law_rank_here", "_law_known", "_law_one", "_law_other", "_law_mine", "_law_its", "_law_later", "_law_k"] ["_law_rank_here", "_law_known", "_law_one", "_law_other"] (ji xr):=dQ
def jj6:au ["_law_rank_here", "_law_known", "_law_one", "_law_other"] ["_law_rank_here", "_law_known", "_law_one", "_law_other"] (ji xZ):=dQ
def HC:au ["_law_rules", "_law_row", "_law_rank_here"] ["_law_rules"] (ji JU):=dQ
def jjV:au ["self"] ["self"] (ji wX):=dQ
def jjT:au ["self", "one", "other"] ["self", "one", "other"] (ji wl):=dQ
def nM:au ["_law_script", "_law_first", "_law_some", "_law_holes", "_law_rules", "_law_handed", "_law_found", "_law_here", "_law_cell", "_law_due_here", "_law_other", "_law_one", "_law_number"] ["_law_script"] (ji WZ):=dQ
section
variable (P:cp) (w:World) (K:aH) (mg:WV) (af:Heap) (k:Nat)
abbrev wT (f:TW):Prop:=Av P w K mg af k "_law_great" ["_law_cell"] true f
abbrev wS (f:TW):Prop:=Av P w K mg af k "_law_names" ["_law_number"] true f
abbrev ye (f:TW):Prop:=Av P w K mg af k "_law_heads" ["_law_number"] true f
abbrev wR (f:TW):Prop:=Av P w K mg af k "places" ["term"] true f
abbrev Qi (f:TW):Prop:=Av P w K mg af k "parts" ["term"] true f
abbrev Kp (f:TW):Prop:=Av P w K mg af k "head" ["term"] true f
abbrev xH (f:TW):Prop:=Av P w K mg af k "all_heads" ["terms"] true f
abbrev xG (f:TW):Prop:=Av P w K mg af k "level_below" ["row"] true f
abbrev Qk (f:TW):Prop:=Av P w K mg af k "is_great" ["thing"] true f
abbrev yp (f:TW):Prop:=Av P w K mg af k "is_whole" ["thing"] true f
abbrev Ql (f:TW):Prop:=Av P w K mg af k "is_blank" ["thing"] true f
abbrev JJ (f:TW):Prop:=Av P w K mg af k "is_name" ["thing"] true f
abbrev Qj (f:TW):Prop:=Av P w K mg af k "is_piece" ["thing"] true f
abbrev Z3 (f:TW):Prop:=Av P w K mg af k "is_term" ["thing"] true f
abbrev XZ (f:TW):Prop:=Av P w K mg af k "blanks" ["term"] true f
abbrev Z4 (f:TW):Prop:=Av P w K mg af k "is_rule" ["thing"] true f
abbrev y9 (f:TW):Prop:=Av P w K mg af k "are_rules" ["thing"] true f
abbrev zy (f:FO):Prop:=rh P w K mg af k "Rules" 1 f
abbrev qI (f:TW):Prop:=fH P w K mg af k "Rules" "heads_of" ["self"] true f
abbrev Q0 (f:TW):Prop:=Av P w K mg af k "orders" ["listed"] true f
abbrev Z5 (f:TW):Prop:=Av P w K mg af k "is_head" ["thing"] true f
abbrev Ja (f:TW):Prop:=Av P w K mg af k "are_ranks" ["thing"] true f
abbrev zA (f:FO):Prop:=rh P w K mg af k "Ranks" 1 f
abbrev yo (f:TW):Prop:=Av P w K mg af k "look_for" ["met", "known"] true f
abbrev zP (f:TW):Prop:=fH P w K mg af k "Rules" "told" ["self"] true f
abbrev qV (f:TW):Prop:=fH P w K mg af k "Reckoning" "by_part" ["self", "one", "other"] true f
abbrev qW (f:TW):Prop:=fH P w K mg af k "Reckoning" "by_head" ["self", "one", "other"] true f
abbrev w6 (f:TW):Prop:=Av P w K mg af k "first_unlike" ["one", "other"] false f
abbrev zc (f:TW):Prop:=fH P w K mg af k "Reckoning" "by_row" ["self", "one", "other"] true f
abbrev jU (f:TW):Prop:=fH P w K mg af k "Reckoning" "way" ["self", "one", "other"] true f
abbrev qc (f:FO):Prop:=rh P w K mg af k "Reckoning" 1 f
abbrev zQ (f:TW):Prop:=fH P w K mg af k "Ranks" "lets" ["self", "rules"] true f
abbrev Qh (f:TW):Prop:=Av P w K mg af k "ranks_of" ["rules"] false f
abbrev w9 (f:TW):Prop:=Av P w K mg af k "_law_cell_at" ["_law_script", "_law_k"] false f
abbrev wC (f:TW):Prop:=Av P w K mg af k "_law_term" ["_law_number", "_law_some", "_law_leaves", "_law_deep"] true f
abbrev zU (f:TW):Prop:=Av P w K mg af k "_law_parts" ["_law_term_here"] true f
abbrev Jc (f:TW):Prop:=Av P w K mg af k "_law_rule" ["_law_number", "_law_some", "_law_holes"] true f
abbrev zx (f:TW):Prop:=Av P w K mg af k "_law_heads_of" ["_law_rules"] true f
abbrev Jb (f:TW):Prop:=Av P w K mg af k "_law_wide" ["_law_first", "_law_cells", "_law_hole"] true f
abbrev xK (f:TW):Prop:=Av P w K mg af k "_law_orders" ["_law_some"] false f
abbrev xJ (f:TW):Prop:=Av P w K mg af k "_law_rank" ["_law_row"] true f
abbrev xI (f:TW):Prop:=Av P w K mg af k "_law_sought" ["_law_rank_here", "_law_known", "_law_one", "_law_other"] true f
abbrev zV (f:TW):Prop:=Av P w K mg af k "_law_falls" ["_law_rank_here", "_law_known", "_law_one", "_law_other"] true f
abbrev Qm (f:TW):Prop:=Av P w K mg af k "_law_due" ["_law_rules"] false f
abbrev xb (f:TW):Prop:=fH P w K mg af k "Ranks" "told" ["self"] true f
abbrev wG (f:TW):Prop:=fH P w K mg af k "Ranks" "falls" ["self", "one", "other"] true f
end
section
variable {P:cp} {w:World} {K:aH} {mg:WV} {af:Heap} {k:Nat} {C:Addr}
variable (T:Gm K  mg)
include T
theorem Xg (d:Dx K mg "_law_great" xY ["_law_cell"]):
  wT P w K mg af (k+1) (aE true 2 (dJ)):=
 q8 true d MU λf c A a s H E e=>
  (je ((jx 1 MU.nd (iH KR FW (YE ib ib) (YE ib ib)))) ((jh (jw (ve (l:= .t) zD zE (ob KR FW (DE.b (j4 jL qf (iH zD zE (vb 0) (YE ib ib)) g7)) (YE ib ib)) (vb 1))))))
theorem Xe (d:Dx K mg "_law_names" xW ["_law_number"]):
  wS P w K mg af (k+1) (aE true 8 (fx)):=
 q8 true d pF λf c A a s H E e=>
  (je ((jx 1 pF.nd (Ka (l:= .s)))) ((je ((jx 2 pF.nd (DE.s (j4 jL qf g7 (iH zD zE (vb 0) ib))))) ((je ((jx 0 pF.nd (iH Xc Xk (vb 0) ib))) ((je ((jx 3 pF.nd (Ka (l:= .s)))) ((je ((qT ia rfl (JD rfl T.i8 (ja (vb 2) jf)) (jo 4 pF.nd) (je ((jx 3 pF.nd (DE.s (j4 jL qf (dv 3) (jP (dv 1) (YF (vb 0) ib)))))) ((jh (jx 0 pF.nd (iH Xc Xk (vb 0) ib))))))) ((je ((jx 5 pF.nd (iH zD zE (vb 0) (vb 2)))) ((je ((zZ 6 pF.nd (jW jf))) ((je ((qT ia rfl (JD rfl T.i8 (ja ib jf)) (jo 4 pF.nd) (je ((jx 7 pF.nd (jP (dv 1) (YF (DE.b (j4 jL qf (SG (l':= .s) PySem.F.slot_str_find PySem.F.type_str_find SH SI (vb 1) (ja ((DE.b (jP (dv 3) (vb 5)))) jf)) (iH KR FW ib (vb 4)))) ib)))) ((jh (xm 6 (DE.s (j4 jL qf (DE.s (j4 jL qf (DE.s (ze (dv 3) zL (qA (vb 5)))) (dv 7))) (DE.s (ze (dv 3) (qA (DE.b (j4 jL qf (dv 5) g7))) zL)))))))))) ((jh (Qd 6))))))))))))))))))
theorem Xf (d:Dx K mg "_law_heads" xX ["_law_number"]) (e:wS P w K mg af k g):
  ye P w K mg af (k+1) (aE true 3 (hQ g)):=
 q8 true d D3 λf h A a s H E c=>
  (je ((jx 1 D3.nd (DE.s (Av.aB e c (ja (dv 0) jf))))) ((je ((jx 0 D3.nd (iH Ud Ue (vb 0) (YE ib ib)))) ((je ((zZ 2 D3.nd (jW (ja ((DE.s (qH (ja ((jP (dv 1) ib)) (ja g7 jf))))) (ja ((DE.s (qH (ja ((jP (dv 1) ib)) (ja ((DE.s (j4 jL qf g7 (iH zD zE (vb 0) ib)))) jf))))) (ja ((DE.s (qH (ja ((jP (dv 1) ib)) (ja ((iH zD zE (Qz (vb 0) ib) ib)) jf))))) jf)))))) ((je ((xm 2 (DE.s (qH (ja ((jP (dv 1) (YF (Qz (vb 0) ib) ib))) (ja ((jP (DE.s (jW (ja g7 (ja g7 (ja g7 jf))))) (DE.b (j4 jL qf (iH zD zE (Qz (vb 0) ib) ib) (iH zD zE (Qz (vb 0) ib) ib))))) jf)))))) ((je ((qk (jK (uY (aT.cW c)) (YD false) (DE.b (SN 2 ib)) (SE (db 2) zL (qA ib))) (jh (UV 2 ib (DE.s (qH (ja ((jP (dv 1) ib)) (ja g7 jf)))))) jz)) ((jh (JB 2 (jw (ze (dv 2) zL (qA (DE.b (j4 jL qf g7 (iH zD zE (Qz (vb 0) ib) ib))))))))))))))))))
theorem uZ (d:Dx K mg "places" WX ["term"]):
  wR P w K mg af (k+1) (aE true 1 (nw)):=
 q8 true d jkE λf c A a s H E e=>
  (jh (jw (Jd (j9 (qU (l':= .b) "tuple" "tuple" qv (vb 0) rfl T.aA rfl T.bT oh)) (ze (dv 0) (qA ib) zL) (qH jf))))
theorem jcK (d:Dx K mg "parts" KA ["term"]) (e:wR P w K mg af k g) (h:Qi P w K mg af k i):
  Qi P w K mg af (k+1) (aE true 3 (hU g i)):=
 q8 true d Ht λf j A a s H E c=>
  (je ((zZ 1 Ht.nd (jW (ja (dv 0) jf)))) ((je ((qT ia rfl (jV (DE.s (Av.aB e c (ja (dv 0) jf)))) (jo 2 Ht.nd) (jh (yb 1 (DE.s (Av.aB h c (ja (dv 2) jf))))))) ((jh (Qd 1))))))
theorem jfs (d:Dx K mg "head" uc ["term"]):
  Kp P w K mg af (k+1) (aE true 1 (rp)):=
 q8 true d jko λf c A a s H E e=>
  (jh (jw (Jd (j9 (qU (l':= .b) "tuple" "tuple" qv (vb 0) rfl T.aA rfl T.bT oh)) (qH (ja ((jP (dv 0) ib)) (ja ((iH Wo Wr (jv (l':= .b) jA qw rfl T.bz ie (ja (vb 0) jf)) ib)) jf))) (zu (l:= .t)))))
theorem Yy (d:Dx K mg "all_heads" yG ["terms"]) (e:Qi P w K mg af k g) (h:Kp P w K mg af k i):
  xH P w K mg af (k+1) (aE true 4 (iL g i)):=
 q8 true d D4 λf j A a s H E c=>
  (je ((zZ 1 D4.nd JE)) ((je ((qT ia rfl (jV (dv 0)) (jo 2 D4.nd) (jh (qT ia rfl (jV (DE.s (Av.aB e c (ja (dv 2) jf)))) (jo 3 D4.nd) (jh (qk (j9 (qU (l':= .b) "tuple" "tuple" qv (vb 3) rfl T.aA rfl T.bT oh)) (jh (QR 1 (QA c) (DE.b (Av.aB h c (ja (dv 3) jf))) (wK (l:= .s)))) jz)))))) ((jh (JB 1 (jw (QT (Qt rfl) WI rfl T.nz Qu (ja (dv 1) jf)))))))))
theorem Wa (d:Dx K mg "level_below" xq ["row"]) (c:wR P w K mg af k e):
  xG P w K mg af (k+1) (aE true 3 (eW e)):=
 q8 true d Hu λf g A a s H E h=>
  (je ((zZ 1 Hu.nd (jW jf))) ((je ((qT ia rfl (jV (dv 0)) (jo 2 Hu.nd) (jh (yb 1 (DE.s (Av.aB c h (ja (dv 2) jf))))))) ((jh (Qd 1))))))
theorem KZ (d:Dx K mg "is_great" JS ["thing"]) (c:xG P w K mg af k e):
  Qk P w K mg af (k+1) (aE true 4 (fA e)):=
 q8 true d zB λf g A a s H E h=>
  (je ((jx 1 zB.nd (DE.s (jW (ja (dv 0) jf))))) ((je ((jx 2 zB.nd g7)) ((je ((jx 3 zB.nd g7)) ((je ((JA 2000 ia (RI (vb 1)) (je ((FA 2 zB.nd ib EL)) ((je ((FA 3 zB.nd (jv (l':= .b) jA qw rfl T.bz ie (ja (vb 1) jf)) EL)) ((je ((qk (DW.dt (xR (jK kr kE (vb 2) (gi rfl T.lN)) (wz (jK kr kE (vb 3) (gi rfl T.mD))))) (jh (jw (wK (l:= .t)))) jz)) ((jh (jx 1 zB.nd (DE.s (Av.aB c h (ja (dv 1) jf))))))))))))) ((jh (jw (wK (l:= .t))))))))))))
theorem KW (d:Dx K mg "is_whole" JQ ["thing"]):
  yp P w K mg af (k+1) (aE true 1 (kv)):=
 q8 true d jkx λf c A a s H E e=>
  (jh (jw (JF (qU (l':= .b) "int" "int" xx (vb 0) rfl T.aA rfl T.la zK) (yw (IZ (l:= .t) (qU (l':= .b) "bool" "bool" So (vb 0) rfl T.aA rfl T.zr PyProof.Rows.boot_bool))))))
theorem K0 (d:Dx K mg "is_blank" JT ["thing"]) (c:yp P w K mg af k e):
  Ql P w K mg af (k+1) (aE true 1 (fB e)):=
 q8 true d jkq λf g A a s H E h=>
  (jh (jw (JF (DE.b (Av.aB c h (ja (dv 0) jf))) (yw (XN (l:= .t) Xb Xj Xb Xj ib (vb 0) (gi rfl T.mC))))))
theorem kz (d:Dx K mg "is_name" Q9 ["thing"]):
  JJ P w K mg af (k+1) (aE true 1 (fg)):=
 q8 true d jkt λf h A c s H E i=>
  (je ((qk (DW.dt (xR (zj (j9 (qU (l':= .b) "str" "str" Sq (vb 0) rfl T.aA rfl T.Cf PyProof.Rows.boot_str))) (wz (zj (RH Xb Xj Xb Xj ib (jv (l':= .b) jA qw rfl T.bz ie (ja (vb 0) jf)) (gi rfl T.lf)))))) (jh (jw (wK (l:= .t)))) jz)) ((jh (jw (jv (l':= .t) (wB rfl) ZT rfl T.lc zR (ja ((DE.b (zw false ["sign", "."] 1 [] (qE none rfl rfl (by decide+kernel) trivial rfl) rfl (jV (dv 0)) (λC e g j a=>⟨(jo 0 a),zt,(Qs (l:= .s) uX Si (vb 0) (gst rfl T.pc))⟩)))) jf))))))
theorem KY (d:Dx K mg "is_piece" JR ["thing"]) (e:Ql P w K mg af k g) (h:JJ P w K mg af k i):
  Qj P w K mg af (k+1) (aE true 1 (dX g i)):=
 q8 true d jku λf j A a s H E c=>
  (je ((qk (j9 (qU (l':= .b) "tuple" "tuple" qv (vb 0) rfl T.aA rfl T.bT oh)) (jh (jw (JF (XN (l:= .b) Xb Xj Xb Xj ib (jv (l':= .b) jA qw rfl T.bz ie (ja (vb 0) jf)) (DE.b (j4 jL qf (gis rfl T.gD) g7))) (yw (Av.aB h c (ja ((jP (dv 0) ib)) jf)))))) jz)) ((jh (jw (Av.aB e c (ja (dv 0) jf))))))
theorem ku (d:Dx K mg "is_term" Q7 ["thing"]) (i:Qk P w K mg af k j) (m:Qj P w K mg af k n) (o:Qi P w K mg af k p):
  Z3 P w K mg af (k+1) (aE true 1 (iy j n p)):=
 q8 true d jkw λf q A c s H E e=>
  (jh (jw (JF (IZ (l:= .b) (DE.b (Av.aB i e (ja (dv 0) jf)))) (yw (jv (l':= .t) (wB rfl) ZT rfl T.lc zR (ja ((DE.b (zw false ["found", "."] 1 [] (qE none rfl rfl (by decide+kernel) trivial rfl) rfl (jV (DE.s (Av.aB o e (ja (dv 0) jf)))) (λC g h r a=>⟨(jo 0 a),zt,(DE.s (Av.aB m e (ja (dv 0) jf)))⟩)))) jf))))))
theorem u5 (d:Dx K mg "blanks" W0 ["term"]) (e:Qi P w K mg af k g):
  XZ P w K mg af (k+1) (aE true 3 (kw g)):=
 q8 true d Hv λf h A a s H E c=>
  (je ((zZ 1 Hv.nd SJ)) ((je ((qT ia rfl (jV (DE.s (Av.aB e c (ja (dv 0) jf)))) (jo 2 Hv.nd) (jh (qk (zj (j9 (qU (l':= .b) "tuple" "tuple" qv (vb 2) rfl T.aA rfl T.bT oh))) (jh (Ti 1 (QA c) (vb 2) (wK (l:= .s)))) jz)))) ((jh (JB 1 (jw (zd (vi rfl) Tj rfl T.fE q0 (ja (dv 1) jf)))))))))
theorem ky (d:Dx K mg "is_rule" Q8 ["thing"]) (e:Z3 P w K mg af k h) (g:XZ P w K mg af k i):
  Z4 P w K mg af (k+1) (aE true 1 (iz h i)):=
 q8 true d jkv λf j A c s H E a=>
  (je ((qk (DW.dt (xR (zj (j9 (qU (l':= .b) "tuple" "tuple" qv (vb 0) rfl T.aA rfl T.bT oh))) (wz (jK (Wp (aT.cW a)) kB (jv (l':= .b) jA qw rfl T.bz ie (ja (vb 0) jf)) ib)))) (jh (jw (wK (l:= .t)))) jz)) ((je ((qk (DW.dt (xR (zj (j9 (DE.b (Av.aB e a (ja ((jP (dv 0) ib)) jf))))) (xR (zj (j9 (DE.b (Av.aB e a (ja ((jP (dv 0) ib)) jf))))) (wz (zj (j9 (qU (l':= .b) "tuple" "tuple" qv (DE.b (jP (dv 0) ib)) rfl T.aA rfl T.bT oh))))))) (jh (jw (wK (l:= .t)))) jz)) ((jh (jw (jgk (l:= .t) rfl ((DE.b (Av.aB g a (ja ((jP (dv 0) ib)) jf)))) ((DE.b (Av.aB g a (ja ((jP (dv 0) ib)) jf)))) rfl T.bz rfl T.tV)))))))
theorem Yw (d:Dx K mg "are_rules" yE ["thing"]) (c:Z4 P w K mg af k i):
  y9 P w K mg af (k+1) (aE true 1 (iM i)):=
 q8 true d jkk λf j A e s H E m=>
  (je ((qk (DW.dt (xR (zj (j9 (qU (l':= .b) "list" "list" Zz (vb 0) rfl T.aA rfl T.fE q0))) (wz (jK kr kE (jv (l':= .b) jA qw rfl T.bz ie (ja (vb 0) jf)) (gi rfl T.mE))))) (jh (jw (wK (l:= .t)))) jz)) ((jh (jw (jv (l':= .t) (wB rfl) ZT rfl T.lc zR (ja ((DE.b (zw false ["rule", "."] 1 [] (qE none rfl rfl (by decide+kernel) trivial rfl) rfl (jV (dv 0)) (λC g h n a=>⟨(jo 0 a),zt,(DE.s (Av.aB c m (ja (dv 0) jf)))⟩)))) jf))))))
theorem yP (d:Dm K C "__init__" "Rules.__init__" zo ["self", "rules"]) (l:cF K ce "Rules" =some (some (.ref C))/\gl K C) (g:mg "Rules" =some (.ref C)) (mk:sg K C=true/\lU K (.ref C)=true) (m:xH P w K mg af k n) (o:y9 P w K mg af k p):
  zy P w K mg af (k+1) (kf 2 1 (cJ n p)):=
 GO d l g mk jj1 rfl (by decide) λf q A h s H E j=>
  (Jy ((Mb (zj (j9 (DE.b (Av.aB o j (ja (dv 1) jf))))) (Jx Y7) UJ)) ((Jy ((Jz (i:=0) T.gj ((DE.s (zd wQ XT rfl T.fE q0 (ja (dv 1) jf)))))) ((Jx (Jz (i:=0) T.gE ((DE.s (Av.aB m j (ja ((DE.s (j4 jL qf (DE.s (zw false ["left", "right", "."] 2 [] (qE none rfl rfl (by decide+kernel) trivial rfl) rfl (jV (dv 1)) (λC c e r a=>⟨(wA rfl (jo 0 a) (jo 1 a)),zt,(dv 0)⟩))) (DE.s (zw false ["left", "right", "."] 2 [] (qE none rfl rfl (by decide+kernel) trivial rfl) rfl (jV (dv 1)) (λC c e r a=>⟨(wA rfl (jo 0 a) (jo 1 a)),zt,(dv 1)⟩)))))) jf))))))))))
theorem yO (d:Dm K C "heads_of" "Rules.heads_of" zn ["self"]) (c:cF K ce "Rules" =some (some (.ref C))/\gl K C):
  qI P w K mg af (k+1) (aE true 1 (dZ)):=
 JI true d c jj2 λf e A a s H E g=>
  (jh (jw (zd wQ XT rfl T.fE q0 (ja ((xE 0 T.gE)) jf))))
theorem u0 (d:Dx K mg "orders" WY ["listed"]) (i:Q0 P w K mg af k j):
  Q0 P w K mg af (k+1) (aE true 5 (ny j)):=
 q8 true d Cj λf l A c s H E e=>
  (je ((qk (jK (wn (aT.cW e)) yR (vb 0) (DE.b (jW jf))) (jh (jw (jW (ja (DE.s (jW jf)) jf)))) jz)) ((je ((zZ 1 Cj.nd (jW jf))) ((je ((qT ia rfl (L3 rfl T.gh (dv 0)) (wA rfl (jo 2 Cj.nd) (jo 3 Cj.nd)) (je ((jx 4 Cj.nd (DE.s (j4 jL qf (DE.s (ze (dv 0) zL (qA (vb 2)))) (DE.s (ze (dv 0) (qA (DE.b (j4 jL qf (dv 2) g7))) zL)))))) ((jh (yb 1 (DE.s (zw false ["order", "first", "."] 1 [3] (qE none rfl rfl (by decide+kernel) ⟨rfl,trivial⟩ rfl) rfl (jV (DE.s (Av.aB i e (ja (dv 4) jf)))) (λC g h m a=>⟨(jo 0 a),zt,(DE.s (j4 jL qf (DE.s (jW (ja (dv 1) jf))) (dv 0)))⟩))))))))) ((jh (Qd 1))))))))
theorem kA (d:Dx K mg "is_head" Za ["thing"]) (e:JJ P w K mg af k g) (h:yp P w K mg af k i):
  Z5 P w K mg af (k+1) (aE true 1 (l7 g i)):=
 q8 true d jks λf j A a s H E c=>
  (je ((qk (DW.dt (xR (zj (j9 (qU (l':= .b) "tuple" "tuple" qv (vb 0) rfl T.aA rfl T.bT oh))) (wz (jK (Wp (aT.cW c)) kB (jv (l':= .b) jA qw rfl T.bz ie (ja (vb 0) jf)) ib)))) (jh (jw (wK (l:= .t)))) jz)) ((jh (jw (JF (DE.b (Av.aB e c (ja ((jP (dv 0) ib)) jf))) (JF (DE.b (Av.aB h c (ja ((jP (dv 0) ib)) jf))) (yw (XN (l:= .t) Xb Xj Xb Xj ib (DE.b (jP (dv 0) ib)) (gi rfl T.gD)))))))))
theorem Yx (d:Dx K mg "are_ranks" yF ["thing"]) (c:Z5 P w K mg af k j):
  Ja P w K mg af (k+1) (aE true 1 (iN j)):=
 q8 true d jkj λf m A e s H E g=>
  (je ((qk (DW.dt (xR (zj (j9 (qU (l':= .b) "list" "list" Zz (vb 0) rfl T.aA rfl T.fE q0))) (wz (jK kr kE (jv (l':= .b) jA qw rfl T.bz ie (ja (vb 0) jf)) (gi rfl T.lP))))) (jh (jw (wK (l:= .t)))) jz)) ((jh (jw (JF (jv (l':= .b) (wB rfl) ZT rfl T.lc zR (ja ((DE.b (zw false ["found", "."] 1 [] (qE none rfl rfl (by decide+kernel) trivial rfl) rfl (jV (dv 0)) (λC h i n a=>⟨(jo 0 a),zt,(DE.s (Av.aB c g (ja (dv 0) jf)))⟩)))) jf)) (yw (Qs (l:= .t) (wn (aT.cW g)) yR (jbD rfl (aT.cW g) (vb 0) rfl T.bz rfl T.tV) (jv (l':= .b) jA qw rfl T.bz ie (ja (vb 0) jf)))))))))
theorem yQ (d:Dm K C "__init__" "Ranks.__init__" zp ["self", "heads"]) (l:cF K ce "Ranks" =some (some (.ref C))/\gl K C) (c:mg "Ranks" =some (.ref C)) (mk:sg K C=true/\lU K (.ref C)=true) (m:Ja P w K mg af k n):
  zA P w K mg af (k+1) (kf 2 1 (bS n)):=
 GO d l c mk jjS rfl (by decide) λf o A e s H E g=>
  (Jy ((Mb (zj (j9 (DE.b (Av.aB m g (ja (dv 1) jf))))) (Jx Y7) UJ)) ((Jx (Jz (i:=0) T.cr ((DE.s (zd (vk rfl (jid g)) jdL rfl T.zz vm (ja ((DE.s (zw false ["number", "found", "."] 2 [] (qE none rfl rfl (by decide+kernel) trivial rfl) rfl (L3 rfl T.gh (dv 1)) (λC h j p a=>⟨(wA rfl (jo 0 a) (jo 1 a)),zt,(DE.s (qH (ja (dv 1) (ja (dv 0) jf))))⟩)))) jf))))))))
theorem KU (d:Dx K mg "look_for" JP ["met", "known"]):
  yo P w K mg af (k+1) (aE true 3 (fD)):=
 q8 true d MV λf c A a s H E e=>
  (jh (qT ia rfl (jV (dv 0)) (jo 2 MV.nd) (jh (qk (jK (jfo (QA e)) jfv (vb 2) (vb 1)) Y6 jz))))
theorem Zm (d:Dm K C "told" "Rules.told" wW ["self"]) (c:cF K ce "Rules" =some (some (.ref C))/\gl K C):
  zP P w K mg af (k+1) (aE true 1 (f6)):=
 JI true d c jj3 λf e A a s H E g=>
  (jh (jw (zd wQ XT rfl T.fE q0 (ja ((xE 0 T.gj)) jf))))
theorem xP (d:Dm K C "by_part" "Reckoning.by_part" qL ["self", "one", "other"]) (e:cF K ce "Reckoning" =some (some (.ref C))/\gl K C) (g:wR P w K mg af k h) (i:jU P w K mg af k j):
  qV P w K mg af (k+1) (aE true 5 (bZ h j)):=
 JI true d e Hw λf m A a s H E c=>
  (je ((qT ia rfl (X2 rfl T.gh ((DE.s (Av.aB g c (ja (dv 1) jf))))) (wA rfl (jo 3 Hw.nd) (jo 4 Hw.nd)) (jh (qk (DW.dt (xR (jK (wn (aT.cW c)) yR (vb 4) (vb 2)) (wz (jK uU L8 (DE.b (fH.aB i c (dv 0) ((ja (dv 4) (ja (dv 2) jf))))) (zu (l:= .b)))))) (jh (jw (qH (ja (Ka (l:= .s)) (ja (dv 3) jf))))) jz)))) ((jh (jw (zu (l:= .t))))))
theorem xQ (d:Dm K C "by_head" "Reckoning.by_head" qM ["self", "one", "other"]) (g:cF K ce "Reckoning" =some (some (.ref C))/\gl K C) (h:wR P w K mg af k i) (e:Kp P w K mg af k j) (m:jU P w K mg af k n):
  qW P w K mg af (k+1) (aE true 4 (b8 i j n)):=
 JI true d g MW λf o A c s H E a=>
  (je ((qk (DW.dt (xR (zj (j9 (qU (l':= .b) "tuple" "tuple" qv (vb 1) rfl T.aA rfl T.bT oh))) (wz (zj (j9 (qU (l':= .b) "tuple" "tuple" qv (vb 2) rfl T.aA rfl T.bT oh)))))) (jh (jw (zu (l:= .t)))) jz)) ((je ((qk (jK Ps Sh (DE.b (XM (QA a) ((xE 0 T.di)) ((DE.b (Av.aB e a (ja (dv 1) jf)))))) (DE.b (XM (QA a) ((xE 0 T.di)) ((DE.b (Av.aB e a (ja (dv 2) jf))))))) (jh (jw (zu (l:= .t)))) jz)) ((je ((qT ia rfl (jV (DE.s (Av.aB h a (ja (dv 2) jf)))) (jo 3 MW.nd) (jh (qk (jK Wq Ws (DE.b (fH.aB m a (dv 0) ((ja (dv 1) (ja (dv 3) jf))))) (zu (l:= .b))) (jh (jw (zu (l:= .t)))) jz)))) ((jh (jw (qH (ja (Ka (l:= .s)) jf))))))))))
theorem Zk (d:Dx K mg "first_unlike" wU ["one", "other"]) (e:wR P w K mg af k g):
  w6 P w K mg af (k+1) (aE false 3 (f7 g)):=
 q8 false d Hx λf h A a s H E c=>
  (je ((jx 2 Hx.nd g7)) ((je ((JA 64 ia (jK (wn (aT.cW c)) yR (DE.b (jP (DE.s (Av.aB e c (ja (dv 0) jf))) (vb 2))) (DE.b (jP (DE.s (Av.aB e c (ja (dv 1) jf))) (vb 2)))) (jh (FA 2 Hx.nd ib EL)))) ((jh (ZP (dv 2)))))))
theorem x5 (d:Dm K C "by_row" "Reckoning.by_row" q9 ["self", "one", "other"]) (i:cF K ce "Reckoning" =some (some (.ref C))/\gl K C) (j:w6 P w K mg af k m) (g:jU P w K mg af k n) (c:wR P w K mg af k o) (h:Kp P w K mg af k p):
  zc P w K mg af (k+1) (aE true 5 (dw m n o p)):=
 JI true d i Hy λf q A e s H E a=>
  (je ((qk (DW.dt (xR (zj (j9 (qU (l':= .b) "tuple" "tuple" qv (vb 1) rfl T.aA rfl T.bT oh))) (xR (jK (Wp (aT.cW a)) kB (DE.b (Av.aB h a (ja (dv 1) jf))) (DE.b (Av.aB h a (ja (dv 2) jf)))) (wz (jK (wn (aT.cW a)) yR (vb 1) (vb 2)))))) (jh (jw (zu (l:= .t)))) jz)) ((je ((jx 3 Hy.nd (Av.call j a (ja (dv 1) (ja (dv 2) jf))))) ((je ((qk (jK Wq Ws (DE.b (fH.aB g a (dv 0) ((ja ((jP (DE.s (Av.aB c a (ja (dv 1) jf))) (vb 3))) (ja ((jP (DE.s (Av.aB c a (ja (dv 2) jf))) (vb 3))) jf))))) (zu (l:= .b))) (jh (jw (zu (l:= .t)))) jz)) ((je ((qT ia rfl (jV (DE.s (ze (DE.s (Av.aB c a (ja (dv 2) jf))) (qA (DE.b (j4 jL qf (dv 3) g7))) zL))) (jo 4 Hy.nd) (jh (qk (jK Wq Ws (DE.b (fH.aB g a (dv 0) ((ja (dv 1) (ja (dv 4) jf))))) (zu (l:= .b))) (jh (jw (zu (l:= .t)))) jz)))) ((jh (jw (qH (ja (Ka (l:= .s)) (ja (dv 3) jf)))))))))))))
theorem Jn (d:Dm K C "way" "Reckoning.way" zI ["self", "one", "other"]) (e:cF K ce "Reckoning" =some (some (.ref C))/\gl K C) (g:qV P w K mg af k h) (l:qW P w K mg af k m) (n:zc P w K mg af k o):
  jU P w K mg af (k+1) (aE true 4 (eG h m o)):=
 JI true d e MX λf p A c s H E a=>
  (je ((jx 3 MX.nd (DE.s (qH (ja (dv 1) (ja (dv 2) jf)))))) ((jdv (i:=0) (j:=3) (aT.cW a) T.fh ((MJ ((DE.b (fH.aB g a (dv 0) ((ja (dv 1) (ja (dv 2) jf)))))) ((MJ ((DE.b (fH.aB l a (dv 0) ((ja (dv 1) (ja (dv 2) jf)))))) ((yw (DE.b (fH.aB n a (dv 0) ((ja (dv 1) (ja (dv 2) jf))))))))))))))
theorem xv (d:Dm K C "__init__" "Reckoning.__init__" qC ["self", "rank"]) (e:cF K ce "Reckoning" =some (some (.ref C))/\gl K C) (p:MP) (a:mg "Reckoning" =some (.ref C)) (mk:sg K C=true/\lU K (.ref C)=true):
  qc P w K mg af (k+1) (kf 2 1 (bo p)):=
 GO d e a mk jjW rfl (by decide) λf g A c s H E h=>
  (Jy ((Jz (i:=0) T.di (dv 1))) ((Jx (Jz (i:=0) T.fh (DE.s (Vo p))))))
theorem Zo (d:Dm K C "lets" "Ranks.lets" wY ["self", "rules"]) (g:cF K ce "Ranks" =some (some (.ref C))/\gl K C) (h:yo P w K mg af k i) (j:zP P w K mg af k m) (n:qI P w K mg af k o) (q:jU P w K mg af k r) {e:Nat} (u: ∀p:MP,qc P w K mg af e (v p)) (x:e+1<=k):
  zQ P w K mg af (k+1) (aE true 4 (f9 i m o r v)):=
 JI true d g Hz λf y A c s H E a=>
  (je ((JL (DE.b (Av.aB h a (ja ((DE.s (fH.gP n a (dv 1)))) (ja ((xE 0 T.cr)) jf)))))) ((je ((qT ia rfl (jV (DE.s (fH.gP j a (dv 1)))) (wA rfl (jo 2 Hz.nd) (jo 3 Hz.nd)) (jh (qk (jK Wq Ws (DE.b (DE.pick bC λp=>(fH.aB q a ((DE.s (rh.make (u p) (a.mono x) ((ja ((xE 0 T.cr)) jf))))) ((ja (dv 2) (ja (dv 3) jf)))))) (zu (l:= .b))) (jh (jw (wK (l:= .t)))) jz)))) ((jh (jw (wK (l:= .t))))))))
theorem KS (d:Dx K mg "ranks_of" JO ["rules"]) (g:qI P w K mg af k h) (i:Q0 P w K mg af k j) {e:Nat} (m:zA P w K mg af e n) (o:e+1<=k) (p:zQ P w K mg af k q):
  Qh P w K mg af (k+1) (aE false 4 (k4 h j n q)):=
 q8 false d D5 λf r A c s H E a=>
  (je ((jx 1 D5.nd (DE.s (fH.gP g a (dv 0))))) ((je ((qk (jK kr kE (jv (l':= .b) jA qw rfl T.bz ie (ja (vb 1) jf)) (gi rfl T.lg)) Y6 jz)) ((je ((qT ia rfl (jV (DE.s (Av.aB i a (ja (dv 1) jf)))) (jo 2 D5.nd) (je ((jx 3 D5.nd (DE.s (rh.make m (a.mono o) (ja (dv 2) jf))))) ((jh (qk (j9 (DE.b (fH.aB p a (dv 3) (ja (dv 0) jf)))) (jh (ZP (dv 3))) jz)))))) ((jh (jw (zu (l:= .t))))))))))
theorem Zl (d:Dx K mg "_law_cell_at" wV ["_law_script", "_law_k"]):
  w9 P w K mg af (k+1) (aE false 2 (gc)):=
 q8 false d jj4 λf c A a s H E e=>
  (je ((qk (jK uW BL (vb 1) (jv (l':= .b) jA qw rfl T.bz ie (ja (vb 0) jf))) (jh (ZP (jP (dv 0) (vb 1)))) jz)) ((jh (jw (Fv (l:= .t))))))
theorem YA (d:Dx K mg "_law_term" yI ["_law_number", "_law_some", "_law_leaves", "_law_deep"]) (e:wC P w K mg af k g):
  wC P w K mg af (k+1) (aE true 10 (ge g)):=
 q8 true d rA λf h A a s H E c=>
  (je ((Qr (DE.s (QT ZU Kf rfl T.nA Qv (ja (dv 0) (ja ((DE.s (j4 jL qf (jv (l':= .s) jA qw rfl T.bz ie (ja (vb 1) jf)) g7))) jf)))) (wA rfl (jo 0 rA.nd) (jo 6 rA.nd)))) ((je ((qk (DW.dt (xR (jK uW BL (vb 6) ib) (wz (jK (wn (aT.cW c)) yR (vb 3) ib)))) (je ((Qr (DE.s (QT ZU Kf rfl T.nA Qv (ja (dv 0) (ja ((jv (l':= .s) jA qw rfl T.bz ie (ja (vb 2) jf))) jf)))) (wA rfl (jo 0 rA.nd) (jo 5 rA.nd)))) ((jh (jw (qH (ja ((jP (dv 2) (vb 5))) (ja (dv 0) jf))))))) jz)) ((je ((Qr (jP (dv 1) (ob Wo Wr (vb 6) ib)) (wA rfl (jo 7 rA.nd) (jo 8 rA.nd)))) ((je ((zZ 4 rA.nd (jW jf))) ((je ((qT ia rfl (JD rfl T.i8 (ja (vb 8) jf)) (jo 5 rA.nd) (je ((Qr (DE.s (Av.aB e c (ja (dv 0) (ja (dv 1) (ja (dv 2) (ja ((iH Wo Wr (vb 3) ib)) jf)))))) (wA rfl (jo 9 rA.nd) (jo 0 rA.nd)))) ((jh (xm 4 (dv 9))))))) ((jh (jw (qH (ja ((DE.wH (l':= .s) (vf wd QX rfl T.bT oh (ja ((RF jL qf (DE.b (jW (ja (dv 7) jf))) (db 4))) jf)))) (ja (dv 0) jf)))))))))))))))
theorem Xd (d:Dx K mg "_law_parts" xV ["_law_term_here"]) (c:zU P w K mg af k e):
  zU P w K mg af (k+1) (aE true 3 (hX e)):=
 q8 true d HA λf g A a s H E h=>
  (je ((zZ 1 HA.nd (jW (ja (dv 0) jf)))) ((je ((qk (zj (j9 (qU (l':= .b) "int" "int" xx (vb 0) rfl T.aA rfl T.la zK))) (jh (qT ia rfl (jV (DE.s (ze (dv 0) (qA ib) zL))) (jo 2 HA.nd) (jh (yb 1 (DE.s (Av.aB c h (ja (dv 2) jf))))))) jz)) ((jh (Qd 1))))))
theorem YB (d:Dx K mg "_law_rule" yJ ["_law_number", "_law_some", "_law_holes"]) (g:wC P w K mg af k j) (l:zU P w K mg af k m):
  Jc P w K mg af (k+1) (aE true 7 (iP j m)):=
 q8 true d tW λf n A e s H E c=>
  (je ((Qr (DE.s (Av.aB g c (ja (dv 0) (ja (dv 1) (ja (dv 2) (ja g7 jf)))))) (wA rfl (jo 5 tW.nd) (jo 0 tW.nd)))) ((je ((qk (j9 (qU (l':= .b) "int" "int" xx (vb 5) rfl T.aA rfl T.la zK)) (jh (jx 5 tW.nd (DE.s (zd wd QX rfl T.bT oh (ja ((DE.s (j4 jL qf (DE.s (jW (ja ((jP (jP (dv 1) ib) ib)) jf))) (DE.s (j4 uT u9 (DE.s (jW (ja (dv 5) jf))) (jP (jP (dv 1) ib) ib)))))) jf))))) jz)) ((je ((jx 3 tW.nd (DE.s (Av.aB l c (ja (dv 5) jf))))) ((je ((zZ 4 tW.nd (jW (ja ((jP (dv 3) (YF (vb 0) (jv (l':= .b) jA qw rfl T.bz ie (ja (vb 3) jf))))) (ja ((jP (dv 3) (YF (ob Xc Xk (vb 0) ib) (jv (l':= .b) jA qw rfl T.bz ie (ja (vb 3) jf))))) (ja ((DE.s (qH (ja ((jP (jP (dv 1) ib) ib)) jf)))) jf)))))) ((je ((xm 4 (jP (DE.s (zw false ["_law_piece", "."] 1 [] (qE none rfl rfl (by decide+kernel) trivial rfl) rfl (jV (dv 3)) (λC h i o a=>⟨(jo 0 a),(XJ (DW.dt (xR (j9 (qU (l':= .b) "int" "int" xx (vb 0) rfl T.aA rfl T.la zK)) (wz (jK (wn (aT.cW c)) yR (DE.b (ze (dv 0) (qA ib) zL)) (DE.b (qH jf))))))),(dv 0)⟩))) ib))) ((je ((Qr (DE.wH (l':= .s) (Av.BP g c (ja ((ob Xc Xk (vb 0) ib)) (ja (vb 1) (ja (db 4) (ja ib jf)))))) (wA rfl (jo 6 tW.nd) (jo 0 tW.nd)))) ((jh (jw (qH (ja (dv 5) (ja (dv 6) jf)))))))))))))))))
theorem Qx (d:Dx K mg "_law_heads_of" wj ["_law_rules"]) (e:zU P w K mg af k g):
  zx P w K mg af (k+1) (aE true 5 (fI g)):=
 q8 true d Ck λf h A a s H E c=>
  (je ((zZ 1 Ck.nd JE)) ((je ((qT ia rfl (jV (dv 0)) (wA rfl (jo 2 Ck.nd) (jo 3 Ck.nd)) (jh (qT ia rfl (jV (DE.s (j4 jL qf (DE.s (Av.aB e c (ja (dv 2) jf))) (DE.s (Av.aB e c (ja (dv 3) jf)))))) (jo 4 Ck.nd) (jh (qk (zj (j9 (qU (l':= .b) "int" "int" xx (vb 4) rfl T.aA rfl T.la zK))) (jh (QR 1 (QA c) (DE.b (qH (ja ((jP (dv 4) ib)) (ja ((iH Wo Wr (jv (l':= .b) jA qw rfl T.bz ie (ja (vb 4) jf)) ib)) jf)))) (wK (l:= .s)))) jz)))))) ((jh (JB 1 (jw (QT (Qt rfl) WI rfl T.nz Qu (ja (dv 1) jf)))))))))
theorem Yz (d:Dx K mg "_law_wide" yH ["_law_first", "_law_cells", "_law_hole"]) (j:wS P w K mg af k m) (n:zx P w K mg af k o) (p:wT P w K mg af k q):
  Jb P w K mg af (k+1) (aE true 14 (iQ m o q)):=
 q8 true d pf λf r A h s H E c=>
  (je ((jx 3 pf.nd (DE.s (Av.aB j c (ja (dv 0) jf))))) ((je ((QS 4 pf.nd false ["_law_k", "_law_names_here", "_law_first", "."] 1 [3,0] (qE none rfl rfl (by decide+kernel) ⟨rfl,rfl,trivial⟩ rfl) rfl (JD rfl T.i8 (ja ((DE.b (j4 jL qf g7 (iH zD zE (Qz (vb 0) (YE ib ib)) ib)))) jf)) (λC e g i a=>⟨(jo 0 a),zt,(DE.s (qH (ja ((jP (dv 1) (vb 0))) (ja ((DE.s (j4 jL qf g7 (iH zD zE (Qz (vb 2) (DE.b (j4 jL qf g7 (dv 0)))) ib)))) jf))))⟩))) ((je ((zZ 5 pf.nd (jW jf))) ((je ((zZ 6 pf.nd JE)) ((je ((qT ia rfl (jV (dv 1)) (jo 7 pf.nd) (je ((jx 10 pf.nd (DE.s (Av.aB p c (ja (dv 7) jf))))) ((je ((MO 12 13 rfl pf.nd (ja (iH zD zE (vb 10) (jv (l':= .b) jA qw rfl T.bz ie (ja (vb 4) jf))) (ja (iH zD zE (Qz (vb 10) ib) (jv (l':= .b) jA qw rfl T.bz ie (ja (vb 4) jf))) jf)))) ((je ((qk (jK (wn (aT.cW c)) yR (vb 12) (vb 13)) (jh (jx 13 pf.nd (iH zD zE (DE.b (j4 jL qf (dv 12) g7)) (jv (l':= .b) jA qw rfl T.bz ie (ja (vb 4) jf))))) jz)) ((je ((qk (jK kr kE (YF (Qz (vb 10) ib) ib) ib) (jh (MO 12 13 rfl pf.nd (ja (jv (l':= .s) (Py rfl) Sk rfl T.Cg SQ (ja (vb 12) (ja (vb 13) jf))) (ja (jv (l':= .s) (Pz rfl) Sj rfl T.Ch SO (ja (vb 12) (ja (vb 13) jf))) jf)))) jz)) ((je ((xm 5 (DE.s (qH (ja ((DE.s (zd wd QX rfl T.bT oh (ja ((DE.s (j4 jL qf (DE.s (jW (ja ((jP (jP (dv 4) (vb 12)) ib)) jf))) (DE.s (j4 uT u9 (DE.s (jW (ja (dv 2) jf))) (jP (jP (dv 4) (vb 12)) ib)))))) jf)))) (ja ((DE.s (zd wd QX rfl T.bT oh (ja ((DE.s (j4 jL qf (DE.s (jW (ja ((jP (jP (dv 4) (vb 13)) ib)) jf))) (DE.s (j4 uT u9 (DE.s (jW (ja (dv 2) jf))) (jP (jP (dv 4) (vb 13)) ib)))))) jf)))) jf)))))) ((jh (QR 6 (QA c) (DE.b (jP (dv 4) (vb 13))) (DE.s (j4 jL qf (UK (QA c) 6 ((DE.b (jP (dv 4) (vb 13)))) (DE.s (jW jf))) (DE.s (jW (ja ((jP (dv 4) (vb 12))) jf))))))))))))))))))) ((je ((JB 5 (jx 8 pf.nd (DE.s (Av.aB n c (ja (dv 5) jf)))))) ((je ((zZ 9 pf.nd (jW jf))) ((je ((JA 16 ia (jK uW BL (jv (l':= .b) jA qw rfl T.bz ie (ja (db 9) jf)) (jv (l':= .b) jA qw rfl T.bz ie (ja (vb 8) jf))) (je ((QS 11 pf.nd true ["_law_one", "_law_row", "_law_ahead", "."] 1 [9,6] (qE none rfl rfl (by decide+kernel) ⟨rfl,rfl,trivial⟩ rfl) rfl (jV (dv 8)) (λC e g i a=>⟨(jo 0 a),(XJ (DW.dt (IY (jK (uV (aT.cW c)) (YD true) (vb 0) (vb 1)) (IX (j9 (jv (l':= .b) (wB rfl) ZT rfl T.lc zR (ja ((DE.b (zw false ["_law_two", "_law_row", "."] 1 [1] (qE none rfl rfl (by decide+kernel) ⟨rfl,trivial⟩ rfl) rfl (jV (UK (QA c) 2 (vb 0) (DE.s (jW jf)))) (λC e g i a=>⟨(jo 0 a),zt,(Qs (l:= .s) (uY (aT.cW c)) (YD false) (vb 0) (vb 1))⟩)))) jf))))))),(dv 0)⟩))) ((je ((qk (jK (wn (aT.cW c)) yR (vb 11) (DE.b (jW jf))) (jh (JB 5 (jw (qH (ja (dv 4) (ja (dv 5) (ja (zu (l:= .s)) jf))))))) jz)) ((jh (xm 9 (jP (dv 11) ib))))))))) ((jh (JB 9 (JB 5 (jw (qH (ja (dv 4) (ja (dv 5) (ja (dv 9) jf))))))))))))))))))))))))
theorem Wc (d:Dx K mg "_law_orders" xt ["_law_some"]):
  xK P w K mg af (k+1) (aE false 4 (gB)):=
 q8 false d Cn λf h A c s H E i=>
  (je ((jx 1 Cn.nd (DE.s (jW (ja (DE.s (jW jf)) jf))))) ((je ((JA 16 ia (jK uW BL (jv (l':= .b) jA qw rfl T.bz ie (ja ((DE.b (jP (dv 1) ib))) jf)) (jv (l':= .b) jA qw rfl T.bz ie (ja (vb 0) jf))) (je ((zZ 2 Cn.nd (jW jf))) ((je ((qT ia rfl (jV (dv 1)) (jo 3 Cn.nd) (jh (yb 2 (DE.s (zw false ["_law_one", "_law_row", "."] 1 [3] (qE none rfl rfl (by decide+kernel) ⟨rfl,trivial⟩ rfl) rfl (jV (dv 0)) (λC e g j a=>⟨(jo 0 a),(XJ (jK (uV (aT.cW i)) (YD true) (vb 0) (vb 1))),(DE.s (j4 jL qf (dv 1) (DE.s (jW (ja (dv 0) jf)))))⟩))))))) ((jh (JB 2 (jx 1 Cn.nd (dv 2)))))))))) ((jh (ZP (dv 1)))))))
theorem YC (d:Dx K mg "_law_rank" yK ["_law_row"]):
  xJ P w K mg af (k+1) (aE true 3 (iS)):=
 q8 true d HB λf c A a s H E e=>
  (je ((zZ 1 HB.nd JE)) ((je ((qT ia rfl (jV (dv 0)) (jo 2 HB.nd) (jh (QR 1 (QA e) (vb 2) (jv (l':= .s) jbT jgs rfl T.bz ie (ja (db 1) jf)))))) ((jh (Qd 1))))))
theorem Wb (d:Dx K mg "_law_sought" xr ["_law_rank_here", "_law_known", "_law_one", "_law_other"]) (h:zV P w K mg af k j):
  xI P w K mg af (k+1) (aE true 8 (gC j)):=
 q8 true d zJ λf m A i s H E c=>
  (je ((qk (j9 (jv (l':= .b) (jbW rfl) jiM rfl T.Ci PyProof.Rows.boot_any (ja ((DE.b (zw false ["_law_place", "_law_other", "_law_rank_here", "_law_known", "."] 1 [3,0,1] (qE none rfl rfl (by decide+kernel) ⟨rfl,rfl,rfl,trivial⟩ rfl) rfl (jV (DE.s (ze (dv 2) (qA ib) zL))) (λC e g n a=>⟨(jo 0 a),zt,(RJ (Qs (l:= .b) (wn (aT.cW c)) yR (vb 0) (vb 1)) (yw (DE.s (Av.aB h c (ja (dv 2) (ja (dv 3) (ja (dv 0) (ja (dv 1) jf))))))))⟩)))) jf))) (jh (jw (wK (l:= .t)))) jz)) ((je ((qk (j9 (qU (l':= .b) "int" "int" xx (vb 3) rfl T.aA rfl T.la zK)) (jh (jw (wK (l:= .t)))) jz)) ((je ((jx 4 zJ.nd (XM (QA c) (dv 0) ((DE.b (qH (ja ((jP (dv 2) ib)) (ja ((iH Wo Wr (jv (l':= .b) jA qw rfl T.bz ie (ja (vb 2) jf)) ib)) jf)))))))) ((je ((jx 5 zJ.nd (XM (QA c) (dv 0) ((DE.b (qH (ja ((jP (dv 3) ib)) (ja ((iH Wo Wr (jv (l':= .b) jA qw rfl T.bz ie (ja (vb 3) jf)) ib)) jf)))))))) ((je ((jx 6 zJ.nd (DE.s (ze (dv 3) (qA ib) zL)))) ((je ((qk (jK (wn (aT.cW c)) yR (vb 4) (vb 5)) (je ((jx 7 zJ.nd g7)) ((je ((JA 64 ia (DW.dt (IY (jK uW BL (vb 7) (jv (l':= .b) jA qw rfl T.bz ie (ja (vb 2) jf))) (IX (jK (wn (aT.cW c)) yR (DE.b (jP (dv 2) (vb 7))) (DE.b (jP (dv 3) (vb 7))))))) (jh (jx 7 zJ.nd (DE.s (j4 jL qf (dv 7) g7)))))) ((je ((qk (DW.dt (xR (jK (wn (aT.cW c)) yR (vb 7) (jv (l':= .b) jA qw rfl T.bz ie (ja (vb 2) jf))) (wz (zj (j9 (DE.b (Av.aB h c (ja (dv 0) (ja (dv 1) (ja ((jP (dv 2) (vb 7))) (ja ((jP (dv 3) (vb 7))) jf))))))))))) (jh (jw (wK (l:= .t)))) jz)) ((jh (jx 6 zJ.nd (DE.s (ze (dv 3) (qA (DE.b (j4 jL qf (dv 7) g7))) zL)))))))))) jz)) ((jh (jw (JF (Qs (l:= .b) Xb Xj (vb 4) (vb 5)) (yw (jv (l':= .t) (wB rfl) ZT rfl T.lc zR (ja ((DE.b (zw false ["_law_place", "_law_rank_here", "_law_known", "_law_one", "."] 1 [0,1,2] (qE none rfl rfl (by decide+kernel) ⟨rfl,rfl,rfl,trivial⟩ rfl) rfl (jV (dv 6)) (λC e g n a=>⟨(jo 0 a),zt,(DE.s (Av.aB h c (ja (dv 1) (ja (dv 2) (ja (dv 3) (ja (dv 0) jf))))))⟩)))) jf))))))))))))))))))
theorem Xh (d:Dx K mg "_law_falls" xZ ["_law_rank_here", "_law_known", "_law_one", "_law_other"]) (e:xI P w K mg af k g):
  zV P w K mg af (k+1) (aE true 4 (hZ g)):=
 q8 true d jj6 λf h A a s H E c=>
  (je ((qk (j9 (qU (l':= .b) "int" "int" xx (vb 2) rfl T.aA rfl T.la zK)) (jh (jw (wK (l:= .t)))) jz)) ((jbu 1 2 3 (aT.cW c) ((DE.b (Av.aB e c (ja (dv 0) (ja (dv 1) (ja (dv 2) (ja (dv 3) jf))))))))))
theorem K1 (d:Dx K mg "_law_due" JU ["_law_rules"]) (i:xK P w K mg af k j) (m:zx P w K mg af k n) (o:xJ P w K mg af k q) (r:zV P w K mg af k u):
  Qm P w K mg af (k+1) (aE false 3 (k5 j n q u)):=
 q8 false d HC λf v A e s H E c=>
  (je ((qT ia rfl (jV (Av.call i c (ja ((DE.s (Av.aB m c (ja (dv 0) jf)))) jf))) (jo 1 HC.nd) (je ((jx 2 HC.nd (DE.s (Av.aB o c (ja (dv 1) jf))))) ((jh (qk (j9 (jv (l':= .b) (wB rfl) ZT rfl T.lc zR (ja ((DE.b (zw false ["_law_left", "_law_right", "_law_rank_here", "."] 2 [2] (qE none rfl rfl (by decide+kernel) ⟨rfl,trivial⟩ rfl) rfl (jV (dv 0)) (λC g h x a=>⟨(wA rfl (jo 0 a) (jo 1 a)),zt,(DE.s (DE.pick aX λp=>(Av.aB r c (ja (dv 2) (ja (DE.s (Vo p)) (ja (dv 0) (ja (dv 1) jf)))))))⟩)))) jf))) (jh (ZP (dv 1))) jz)))))) ((jh (jw (zu (l:= .t))))))
theorem Zn (d:Dm K C "told" "Ranks.told" wX ["self"]) (c:cF K ce "Ranks" =some (some (.ref C))/\gl K C):
  xb P w K mg af (k+1) (aE true 1 (gg)):=
 JI true d c jjV λf e A a s H E g=>
  (jh (jw (zd (vh rfl) jdJ rfl T.fE q0 (ja ((xE 0 T.cr)) jf))))
theorem Qy (d:Dm K C "falls" "Ranks.falls" wl ["self", "one", "other"]) (g:cF K ce "Ranks" =some (some (.ref C))/\gl K C) (h:yo P w K mg af k i) (j:xH P w K mg af k m) (n:jU P w K mg af k o) {e:Nat} (q: ∀p:MP,qc P w K mg af e (r p)) (u:e+1<=k):
  wG P w K mg af (k+1) (aE true 3 (fJ i m o r)):=
 JI true d g jjT λf v A c s H E a=>
  (je ((JL (DE.b (Av.aB h a (ja ((DE.s (Av.aB j a (ja ((DE.s (jW (ja (dv 1) (ja (dv 2) jf))))) jf)))) (ja ((xE 0 T.cr)) jf)))))) ((jh (jw (Qs (l:= .t) uU L8 (DE.b (DE.pick bC λp=>(fH.aB n a ((DE.s (rh.make (q p) (a.mono u) ((ja ((xE 0 T.cr)) jf))))) ((ja (dv 1) (ja (dv 2) jf)))))) (zu (l:= .b)))))))
theorem jhO {f:Addr} {j:oR} (u:nL K "law" "law" WZ f j) (h:wT P w K mg af k v) (x:ye P w K mg af k y) {m:Nat} (z:zy P w K mg af m B) (I:m+1<=k) (J:Qh P w K mg af k L) (N:w9 P w K mg af k O) (Q:Jc P w K mg af k U) (Y:Jb P w K mg af k Z) (vx:Qm P w K mg af k Qc) (n:wC P w K mg af k jT) (o:xb P w K mg af k zO) (xc:zQ P w K mg af k qi) (q:zP P w K mg af k j3) (Z8:wG P w K mg af k wx) (qX:zV P w K mg af k jF) (Jf:xJ P w K mg af k zh):
  dG P w K mg af lB (k+1) f j ["_law_script"] (ox K true 1 (aE true 13 (tU v y B L O U Z Qc jT zO qi j3 wx jF zh))):=
 kW true u nM λBw A i s H E a=>
  (je ((jx 1 nM.nd (DE.s (Av.aB h a (ja ((Av.call N a (ja (dv 0) (ja g7 jf)))) jf))))) ((je ((jx 2 nM.nd (DE.s (Av.aB x a (ja (dv 1) jf))))) ((je ((jx 3 nM.nd (DE.s (jW (ja ((iH zD zE (vb 1) ib)) (ja ((iH zD zE (Qz (vb 1) ib) ib)) (ja ((jP (DE.s (jW (ja g7 (ja ((iH zD zE (vb 1) ib)) jf)))) (YF (Qz (vb 1) (YE ib ib)) ib))) jf))))))) ((je ((QS 4 nM.nd false ["_law_cell", "_law_some", "_law_holes", "."] 1 [2,3] (qE none rfl rfl (by decide+kernel) ⟨rfl,rfl,trivial⟩ rfl) rfl (jV (DE.s (ZQ (dv 0) (qA ib) (qA ib)))) (λC e g fp c=>⟨(jo 0 c),zt,(DE.s (Av.aB Q a (ja ((DE.s (Av.aB h a (ja (dv 0) jf)))) (ja (dv 1) (ja (dv 2) jf)))))⟩))) ((je ((qk (jK (wn (aT.cW a)) yR (YF (Qz (vb 1) (YE ib ib)) ib) ib) (jh (Qr (DE.s (Av.aB Y a (ja (dv 1) (ja ((DE.s (ZQ (dv 0) (qA ib) (qA ib)))) (ja ((jP (dv 3) ib)) jf))))) (jdC rfl (jo 2 nM.nd) (jo 4 nM.nd) (jo 9 nM.nd)))) (jh (jx 9 nM.nd (Av.call vx a (ja (dv 4) jf)))))) ((je ((jx 5 nM.nd (DE.s (rh.make z (a.mono I) ((ja ((DE.s (zd wQ XT rfl T.fE q0 (ja (dv 4) jf)))) jf)))))) ((je ((jx 6 nM.nd (Av.call J a (ja (dv 5) jf)))) ((je ((qk (jK Wq Ws (vb 9) (zu (l:= .b))) (jh (jw (JF (Qs (l:= .b) Wq Ws (vb 6) (zu (l:= .b))) (yw (Qs (l:= .t) (wn (aT.cW a)) yR (DE.b (fH.gP q a (dv 5))) (vb 4)))))) jz)) ((je ((qk (DW.dt (xR (zj (j9 (T.rz.elim λ_ r=>jiC (l':= .b) ["Ranks"] "Ranks" r.2 (vb 6) rfl T.aA rfl r.1))) (xR (zj (j9 (qU (l':= .b) "list" "list" Zz (DE.b (fH.gP o a (dv 6))) rfl T.aA rfl T.fE q0))) (wz (jK (Wp (aT.cW a)) kB (DE.b (fH.gP o a (dv 6))) (vb 9)))))) (jh (jw (wK (l:= .t)))) jz)) ((je ((qk (DW.dt (xR (jK jfp jfw (DE.b (fH.aB xc a (dv 6) (ja (dv 5) jf))) (wK (l:= .b))) (wz (jK (Wp (aT.cW a)) kB (DE.b (fH.gP q a (dv 5))) (vb 4))))) (jh (jw (wK (l:= .t)))) jz)) ((je ((QS 7 nM.nd false ["_law_one", "_law_due_here", "."] 1 [9] (qE none rfl rfl (by decide+kernel) ⟨rfl,trivial⟩ rfl) rfl (jV (dv 2)) (λC e g fp c=>⟨(jo 0 c),(XJ (jK (uY (aT.cW a)) (YD false) (vb 0) (vb 1))),(dv 0)⟩))) ((je ((qT ia rfl (jV (DE.s (ZQ (dv 0) (qA ib) (qA ib)))) (jo 8 nM.nd) (je ((Qr (DE.s (Av.aB n a (ja ((DE.s (Av.aB h a (ja (dv 8) jf)))) (ja (dv 7) (ja (dv 3) (ja g7 jf)))))) (wA rfl (jo 11 nM.nd) (jo 12 nM.nd)))) ((je ((jx 10 nM.nd (jP (DE.s (Av.aB n a (ja (dv 12) (ja (dv 7) (ja (dv 3) (ja g7 jf)))))) ib))) ((jh (qk (jK (Wp (aT.cW a)) kB (DE.b (fH.aB Z8 a (dv 6) ((ja (dv 11) (ja (dv 10) jf))))) (DE.b (DE.pick aX λp=>(Av.aB qX a (ja ((DE.s (Av.aB Jf a (ja (dv 9) jf)))) (ja (DE.s (Vo p)) (ja (dv 11) (ja (dv 10) jf)))))))) (jh (jw (wK (l:= .t)))) jz)))))))) ((jh (jw (wK (l:= .t))))))))))))))))))))))))))))
end
def all_mk {l:Bv} {w:World} {K:aH} {h:Heap} {i:WV} {fa HD:Addr} (g:K.In h) (G:h.Ns ce i) (hfa:i "law" =some (.ref fa))
  {HE N:Option Addr} {HF:Array (Option Value)} {HG O Q Y L Z:Value} {E B H:Addr}
  (d0:cf K "_law_great" xY)
  (d1:cf K "_law_names" xW)
  (d2:cf K "_law_heads" xX)
  (d3:cf K "places" WX)
  (d4:cf K "parts" KA)
  (d5:cf K "head" uc)
  (d6:cf K "all_heads" yG)
  (d7:cf K "level_below" xq)
  (d8:cf K "is_great" JS)
  (d9:cf K "is_whole" JQ)
  (d10:cf K "is_blank" JT)
  (d11:cf K "is_name" Q9)
  (d12:cf K "is_piece" JR)
  (d13:cf K "is_term" Q7)
  (d14:cf K "blanks" W0)
  (d15:cf K "is_rule" Q8)
  (d16:cf K "are_rules" yE)
  (d17:gZ K H "__init__" "Rules.__init__" zo)
  (d18:gZ K H "heads_of" "Rules.heads_of" zn)
  (MY:cf K "orders" WY)
  (d20:cf K "is_head" Za)
  (d21:cf K "are_ranks" yF)
  (d22:gZ K E "__init__" "Ranks.__init__" zp)
  (d23:cf K "look_for" JP)
  (d24:gZ K H "told" "Rules.told" wW)
  (d25:gZ K B "by_part" "Reckoning.by_part" qL)
  (d26:gZ K B "by_head" "Reckoning.by_head" qM)
  (d27:cf K "first_unlike" wU)
  (d28:gZ K B "by_row" "Reckoning.by_row" q9)
  (MZ:gZ K B "way" "Reckoning.way" zI)
  (d30:gZ K B "__init__" "Reckoning.__init__" qC)
  (d31:gZ K E "lets" "Ranks.lets" wY)
  (d32:cf K "ranks_of" JO)
  (d33:cf K "_law_cell_at" wV)
  (M0:cf K "_law_term" yI)
  (M3:cf K "_law_parts" xV)
  (d36:cf K "_law_rule" yJ)
  (d37:cf K "_law_heads_of" wj)
  (d38:cf K "_law_wide" yH)
  (d39:cf K "_law_orders" xt)
  (d40:cf K "_law_rank" yK)
  (d41:cf K "_law_sought" xr)
  (M4:cf K "_law_falls" xZ)
  (d43:cf K "_law_due" JU)
  (d44:gZ K E "told" "Ranks.told" wX)
  (d45:gZ K E "falls" "Ranks.falls" wl)
  (a46:cF K ce "law" =some (some (.ref HD))) (l46:K.lookup HD=some ⟨HG,HE,.func (rO "law" "law" (yc WZ) (qD WZ) (ji WZ) .none O Q Y N L Z),HF⟩) (c46:Aq K L "law" =true) (k46:lU K (.ref HD)=true)
  (z0:cF K ce "isinstance" =some none)
  (z1:cF K ce "bool" =some none)
  (z2:cF K ce "int" =some none)
  (z3:cF K ce "all" =some none)
  (z4:cF K ce "len" =some none)
  (z5:cF K ce "tuple" =some none)
  (z6:cF K ce "list" =some none)
  (z7:cF K ce "sorted" =some none)
  (z8:cF K ce "set" =some none)
  (z9:cF K ce "range" =some none)
  (z10:cF K ce "str" =some none)
  (z11:cF K ce "enumerate" =some none)
  (z12:cF K ce "dict" =some none)
  (M5:cF K ce "divmod" =some none)
  (z14:cF K ce "max" =some none)
  (z15:cF K ce "min" =some none)
  (z16:cF K ce "any" =some none)
  (I: ∃t,cF K ce "LETTERS" =some (some (.str "abcdefghijklmnopqrstuvwxyz" t)))
  (j: ∃t,cF K ce "MOST_LETTERS" =some (some (.int 8 t)))
  (q: ∃t,cF K ce "MOST_PLACES" =some (some (.int 9 t)))
  (x: ∃t,cF K ce "MOST_BLANK" =some (some (.int 999 t)))
  (r: ∃t,cF K ce "MOST_LEVELS" =some (some (.int 60 t)))
  (y: ∃t,cF K ce "MOST_PARTS" =some (some (.int 1000 t)))
  (u: ∃t,cF K ce "MOST_RANKED" =some (some (.int 60 t)))
  (m: ∃t,cF K ce "MOST_ORDERED" =some (some (.int 6 t)))
  (z: ∃t,cF K ce "MOST_RULES" =some (some (.int 40 t)))
  (Jw:cF K ce "Ranks" =some (some (.ref E))) (VY:va K E Str.empty=true) (Uw:Am K E=true) (VX:Bc K E=true) (VL:ma K (.ref E) "__setattr__" =some (some (.builtin "object.__setattr__")))
  (wP:cF K ce "Reckoning" =some (some (.ref B))) (x3:va K B Str.empty=true) (x6:Am K B=true) (x0:Bc K B=true) (xU:ma K (.ref B) "__setattr__" =some (some (.builtin "object.__setattr__")))
  (QQ:cF K ce "Rules" =some (some (.ref H))) (W6:va K H Str.empty=true) (XB:Am K H=true) (W4:Bc K H=true) (WW:ma K (.ref H) "__setattr__" =some (some (.builtin "object.__setattr__")))
  (Xp:ma K (.ref E) "rank" =some none)
  (Zp:ma K (.ref H) "listed" =some none)
  (Wd:ma K (.ref H) "named" =some none)
  (J2:ma K (.ref B) "rank" =some none)
  (J1:ma K (.ref B) "ways" =some none)
  (YI:sg K B=true) (YS:lU K (.ref B)=true)
  (jcT:sg K E=true) (jc4:lU K (.ref E)=true)
  (jcS:sg K H=true) (jc3:lU K (.ref H)=true)
  (o:nI K (.ref E) (.ref E)=some true)
  : ∃fd:oR,(∀(s:aL) (v:Value),BindsTo s fd ⟨[v],[]⟩ [("_law_script",v)])/\ ∀a:Heap,K.In a->a.Ns ce i->dG l.prog w K i a lB 71 fa fd ["_law_script"] (ox K true 1 rq):=by
 have e:=hfa.symm.trans (nK g G a46);cases e
 have T:Gm K  i:=⟨nB g G z0,nB g G z1,nB g G z2,nB g G z3,nB g G z4,nB g G z5,nB g G z6,nB g G z7,nB g G z8,nB g G z9,nB g G z10,nB g G z11,nB g G z12,nB g G M5,nB g G z14,nB g G z15,nB g G z16,I.imp λ_ h=>nK g G h,j.imp λ_ h=>nK g G h,q.imp λ_ h=>nK g G h,x.imp λ_ h=>nK g G h,r.imp λ_ h=>nK g G h,y.imp λ_ h=>nK g G h,u.imp λ_ h=>nK g G h,m.imp λ_ h=>nK g G h,z.imp λ_ h=>nK g G h,⟨E,Jw,⟨VY,Uw,VX,VL⟩,Xp⟩,⟨H,QQ,⟨W6,XB,W4,WW⟩,Zp⟩,⟨H,QQ,⟨W6,XB,W4,WW⟩,Wd⟩,⟨B,wP,⟨x3,x6,x0,xU⟩,J2⟩,⟨B,wP,⟨x3,x6,x0,xU⟩,J1⟩,⟨_,nK g G Jw,(λc hc C hC=>by
   simp only [List.contains_cons,List.contains_nil,Bool.or_false,beq_iff_eq,AF] at hc;rcases hc with rfl
   . have e:=hC.symm.trans Jw;cases e
     exact o)⟩⟩
 have U:=IQ (st:=WZ) l46 c46 k46;have QW:cF K ce "Ranks" =some (some (.ref E))/\gl K E:=⟨Jw,VY,Uw,VX,VL⟩
 have zl:cF K ce "Reckoning" =some (some (.ref B))/\gl K B:=⟨wP,x3,x6,x0,xU⟩
 have XS:cF K ce "Rules" =some (some (.ref H))/\gl K H:=⟨QQ,W6,XB,W4,WW⟩
 refine ⟨rO "law" "law" (yc WZ) (qD WZ) (ji WZ) .none O Q Y N L Z,λs v=> .of_eq rfl,λa _ _=>?_⟩;have V0:wT l.prog w K i a 1 bh:=Xg (k:=0) T (d0.dx g G gx);have V1:wS l.prog w K i a 1 dL:=Xe (k:=0) T (d1.dx g G gx);have V2:ye l.prog w K i a 2 fy:=Xf (k:=1) T (d2.dx g G gx) (V1.mono (by decide));have V3:wR l.prog w K i a 1 aQ:=uZ (k:=0) T (d3.dx g G gx)
 have V4: ∀n,Qi l.prog w K i a (1+n) (bD n):=by
  intro n
  induction n with
  |zero=>exact B5 true (d4.dx g G gx)
  |succ n J=>exact jcK (k:=1+n) T (d4.dx g G gx) (V3.mono (by omega)) J
 have V5:Kp l.prog w K i a 1 cw:=jfs (k:=0) T (d5.dx g G gx);have V6:xH l.prog w K i a 66 bN:=Yy (k:=65) T (d6.dx g G gx) ((V4 64).mono (by decide)) (V5.mono (by decide));have V7:xG l.prog w K i a 2 bF:=Wa (k:=1) T (d7.dx g G gx) (V3.mono (by decide));have V8:Qk l.prog w K i a 3 dS:=KZ (k:=2) T (d8.dx g G gx) (V7.mono (by decide));have V9:yp l.prog w K i a 1 dU:=KW (k:=0) T (d9.dx g G gx);have V10:Ql l.prog w K i a 2 dg:=K0 (k:=1) T (d10.dx g G gx) (V9.mono (by decide));have M6:JJ l.prog w K i a 1 dh:=kz (k:=0) T (d11.dx g G gx);have V12:Qj l.prog w K i a 3 dY:=KY (k:=2) T (d12.dx g G gx) (V10.mono (by decide)) (M6.mono (by decide));have V13:Z3 l.prog w K i a 66 gn:=ku (k:=65) T (d13.dx g G gx) (V8.mono (by decide)) (V12.mono (by decide)) ((V4 64).mono (by decide));have V14:XZ l.prog w K i a 66 k0:=u5 (k:=65) T (d14.dx g G gx) ((V4 64).mono (by decide));have V15:Z4 l.prog w K i a 67 gp:=ky (k:=66) T (d15.dx g G gx) (V13.mono (by decide)) (V14.mono (by decide));have V16:y9 l.prog w K i a 68 eF:=Yw (k:=67) T (d16.dx g G gx) (V15.mono (by decide));have V17:zy l.prog w K i a 69 a7:=yP (k:=68) T (d17.dm zb) XS (nK g G QQ) ⟨jcS,jc3⟩ (V6.mono (by decide)) (V16.mono (by decide));have M7:qI l.prog w K i a 1 bR:=yO (k:=0) T (d18.dm gx) XS
 have V19: ∀n,Q0 l.prog w K i a (0+n) (cA n):=by
  intro n
  induction n with
  |zero=>exact B5 true (MY.dx g G gx)
  |succ n J=>exact u0 (k:=0+n) T (MY.dx g G gx) J
 have V20:Z5 l.prog w K i a 2 gq:=kA (k:=1) T (d20.dx g G gx) (M6.mono (by decide)) (V9.mono (by decide));have V21:Ja l.prog w K i a 3 bE:=Yx (k:=2) T (d21.dx g G gx) (V20.mono (by decide));have V22:zA l.prog w K i a 4 bw:=yQ (k:=3) T (d22.dm zb) QW (nK g G Jw) ⟨jcT,jc4⟩ (V21.mono (by decide));have M8:yo l.prog w K i a 1 ee:=KU (k:=0) T (d23.dx g G zb);have M9:zP l.prog w K i a 1 bm:=Zm (k:=0) T (d24.dm gx) XS;have V27:w6 l.prog w K i a 2 et:=Zk (k:=1) T (d27.dx g G zb) (V3.mono (by decide))
 have Na: ∀n,jU l.prog w K i a (2+2*n) (az n):=by
  intro n
  induction n with
  |zero=>exact jiS true (MZ.dm tJ) zl
  |succ n J=>
   have R25:qV l.prog w K i a (2+2*n+1) (b7 (az n)):=xP (k:=2+2*n) T (d25.dm tJ) zl (V3.mono (by omega)) J;have R26:qW l.prog w K i a (2+2*n+1) (ca (az n)):=xQ (k:=2+2*n) T (d26.dm tJ) zl (V3.mono (by omega)) (V5.mono (by omega)) J;have R28:zc l.prog w K i a (2+2*n+1) (ck (az n)):=x5 (k:=2+2*n) T (d28.dm tJ) zl (V27.mono (by omega)) J (V3.mono (by omega)) (V5.mono (by omega));exact Jn (k:=2+2*n+1) T (MZ.dm tJ) zl R25 R26 R28
 have Nb: ∀p:MP,qc l.prog w K i a 1 (aY p):=λp=>xv (k:=0) T (d30.dm zb) zl p (nK g G wP) ⟨YI,YS⟩
 have Nc:zQ l.prog w K i a 67 bx:=Zo (k:=66) T (d31.dm zb) QW (M8.mono (by decide)) (M9.mono (by decide)) (M7.mono (by decide)) ((Na 32).mono (by decide)) Nb (by decide);have V32:Qh l.prog w K i a 68 ez:=KS (k:=67) T (d32.dx g G gx) (M7.mono (by decide)) ((V19 8).mono (by decide)) V22 (by decide) (Nc.mono (by decide));have V33:w9 l.prog w K i a 1 cZ:=Zl (k:=0) T (d33.dx g G zb)
 have Nd: ∀n,wC l.prog w K i a (0+n) (ba n):=by
  intro n
  induction n with
  |zero=>exact B5 true (M0.dx g G B4)
  |succ n J=>exact YA (k:=0+n) T (M0.dx g G B4) J
 have Nf: ∀n,zU l.prog w K i a (0+n) (bp n):=by
  intro n
  induction n with
  |zero=>exact B5 true (M3.dx g G gx)
  |succ n J=>exact Xd (k:=0+n) T (M3.dx g G gx) J
 have V36:Jc l.prog w K i a 17 dz:=YB (k:=16) T (d36.dx g G tJ) ((Nd 6).mono (by decide)) ((Nf 16).mono (by decide));have Ng:zx l.prog w K i a 17 bf:=Qx (k:=16) T (d37.dx g G gx) ((Nf 16).mono (by decide));have V38:Jb l.prog w K i a 18 cm:=Yz (k:=17) T (d38.dx g G tJ) (V1.mono (by decide)) (Ng.mono (by decide)) (V0.mono (by decide));have V39:xK l.prog w K i a 1 dn:=Wc (k:=0) T (d39.dx g G gx);have Nh:xJ l.prog w K i a 1 cn:=YC (k:=0) T (d40.dx g G gx)
 have Ni: ∀n,zV l.prog w K i a (0+2*n) (aP n):=by
  intro n
  induction n with
  |zero=>exact B5 true (M4.dx g G B4)
  |succ n J=>
   have R41:xI l.prog w K i a (0+2*n+1) (eX (aP n)):=Wb (k:=0+2*n) T (d41.dx g G B4) J;exact Xh (k:=0+2*n+1) T (M4.dx g G B4) R41
 have V43:Qm l.prog w K i a 65 gQ:=K1 (k:=64) T (d43.dx g G gx) (V39.mono (by decide)) (Ng.mono (by decide)) (Nh.mono (by decide)) ((Ni 32).mono (by decide));have V44:xb l.prog w K i a 1 bJ:=Zn (k:=0) T (d44.dm gx) QW;have V45:wG l.prog w K i a 67 bW:=Qy (k:=66) T (d45.dm tJ) QW (M8.mono (by decide)) (V6.mono (by decide)) ((Na 32).mono (by decide)) Nb (by decide);exact jhO (k:=70) T U (V0.mono (by decide)) (V2.mono (by decide)) V17 (by decide) (V32.mono (by decide)) (V33.mono (by decide)) (V36.mono (by decide)) (V38.mono (by decide)) (V43.mono (by decide)) ((Nd 6).mono (by decide)) (V44.mono (by decide)) (Nc.mono (by decide)) (M9.mono (by decide)) (V45.mono (by decide)) ((Ni 32).mono (by decide)) (Nh.mono (by decide))
end G
namespace G
open PySem PySem.Spec L2 M
open Builtin.Int (intBits)
noncomputable def iA:Str:= "abcdefghijklmnopqrstuvwxyz"
def zT (x:D) (r:List D):cutD (x::r) (some 1) none=r:=by
 have a:HT.cv (x::r).length 0 (some 1)=1:=by
  have:=HT.gV (x::r).length 0 1;simp at this ⊢;exact this.trans (by omega)
 unfold cutD;rw [a,HT.jQ];simp
def KI {d:D} (h:Ga d=true):aQ [d]= .ok (.am (aw d)):=by
 cases d with
 |am ds=>
  cases ds with
  |nil=>rfl
  |cons x r=>
   show ak.ok (D.am (cutD (x::r) (some 1) none))=_;rw [zT];rfl
 |_=>first|rfl|cases h
theorem Vs {l:Type} {k:Nat} {o:TV} {e:l->D} {pre:l->List Slot} {cs:List Slot} {q:TZ} {v:T0} (p:l->Bool) (h:l->D) (j: ∀a,(pre a).length=k) (r: ∀a (i R:List Slot),i.length=k->o (e a) (i++R)= .ok (pre a++R)):
  ∀(L:List l) (i:List Slot) (g:List D),i.length=k->(∀a∈L,∀g,q (pre a++(cs++[.ay (.ai g)]))= .ok (p a))->(∀a∈L,p a=true-> ∀g,v (pre a++(cs++[.ay (.ai g)]))= .ok (h a))->g.length+L.length<=aS->
   ∃E:List Slot,E.length=k/\xS (k+cs.length) o q v (L.map e) (i++(cs++[.ay (.ai g)]))= .ok (E++(cs++[.ay (.ai (g++(L.filter p).map h))]))
 | [],i,g,u,_,_,_=>⟨i,u,by simp [xS]⟩
 |a::L,i,g,u,w,H,I=>by
  simp at I;have m:=λb x=>w b (de _ x)
  have n:=λb x=>H b (de _ x)
  have e1:fM (k+cs.length) (pre a++(cs++[.ay (.ai g)]))= .ok g:=by
   unfold fM;rw [<-i7,mK (by rw [gm,j a];exact bn _),gm,j a];simp
  have e2: ∀d,(pre a++(cs++[Slot.ay (.ai g)])).set (k+cs.length) (.ay (.ai d))=pre a++(cs++[.ay (.ai d)]):=λd=>by
   rw [<-i7,List.set_append_right _ _ (by rw [gm,j a];exact bn _),gm,j a];simp
  cases c:p a with
  |true=>
   obtain ⟨y,z,B⟩:=Vs p h j r L (pre a) (g++[h a]) (j a) m n (by simp;omega);refine ⟨y,z,?_⟩;show (o (e a) _>>=_)=_;rw [r a i _ u];show (q _>>=_)=_;rw [w a cu g,c];show (v _>>=_)=_;rw [H a cu c g];show (fM _ _>>=_)=_;rw [e1];show a5 _ _=_;rw [jn (by omega)];show xS _ _ _ _ _ ((pre a++(cs++[Slot.ay (.ai g)])).set (k+cs.length) (.ay (.ai (g++[h a]))))=_;rw [e2,B];simp [D6,c]
  |false=>
   obtain ⟨y,z,B⟩:=Vs p h j r L (pre a) g (j a) m n (by omega);refine ⟨y,z,?_⟩;show (o (e a) _>>=_)=_;rw [r a i _ u];show (q _>>=_)=_;rw [w a cu g,c];show xS _ _ _ _ _ (pre a++(cs++[.ay (.ai g)]))=_;rw [B];simp [D6,c]
def Nj {j:Type} {k:Nat} {tt:TV} {e:j->D} {pre:j->List Slot} {l:Bool} {i:List Nat} {n:TX} {fc:TZ} {o:T0} {c:Sl} {L:List j} {cs:List Slot} (p:j->Bool) (h:j->D) (w: ∀a,(pre a).length=k) (x: ∀a (r R:List Slot),r.length=k->tt (e a) (r++R)= .ok (pre a++R)) (u:i.map (mn l c)=cs) (z:n c= .ok (L.map e)) (B:L.length<=aS)
  (E: ∀a∈L,∀g,fc (pre a++(cs++[.ay (.ai g)]))= .ok (p a)) (H: ∀a∈L,p a=true-> ∀g,o (pre a++(cs++[.ay (.ai g)]))= .ok (h a)) (q:l=true->D.gw ((L.filter p).map h)=true):qd l k i n tt fc o c= .ok (.ai ((L.filter p).map h)):=by
 obtain ⟨y,v,I⟩:=Vs p h w x L (io k .un) [] (by simp) E H (by simpa using B);have m:i.length=cs.length:=by rw [<-u];simp
 show (n c>>=_)=_;rw [z];show (xS (k+i.length) tt fc o (L.map e) (yd l k i c)>>=_)=_
 have J:yd l k i c=io k .un++(cs++[.ay (.ai [])]):=by
  unfold yd;rw [u,i7]
 rw [J,m,I];show (fM (k+cs.length) (y++(cs++[.ay (.ai ([]++(L.filter p).map h))]))>>=_)=_
 have e1:fM (k+cs.length) (y++(cs++[.ay (.ai ([]++(L.filter p).map h))]))= .ok ((L.filter p).map h):=by
  unfold fM;rw [<-i7,mK (by rw [gm,v];exact bn _),gm,v];simp
 rw [e1];exact jn q
def Kb {g:Type} {e:g->D} {im:Bool} {js:List Nat} {fi:TX} {fc:TZ} {fe:T0} {env:Sl} {L:List g} {cs:List Slot} (p:g->Bool) (h:g->D) (j:js.map (mn im env)=cs) (l:fi env= .ok (L.map e)) (m:L.length<=aS)
  (n: ∀a∈L,∀c,fc (.ae (e a)::(cs++[.ay (.ai c)]))= .ok (p a)) (o: ∀a∈L,p a=true-> ∀c,fe (.ae (e a)::(cs++[.ay (.ai c)]))= .ok (h a)) (i:im=true->D.gw ((L.filter p).map h)=true):qd im 1 js fi (gN 0) fc fe env= .ok (.ai ((L.filter p).map h)):=
 Nj (pre:=λa=>[.ae (e a)]) p h (λ_=>rfl) (λa q R r=>by
  match q,r with
  | [x],_=>rfl) j l m n o i
def WH {g:Type} {e:g->D} {js:List Nat} {j:TX} {fe:T0} {c:Sl} {L:List g} {cs:List Slot} (h:g->D) (l:js.map (mn false c)=cs) (m:j c= .ok (L.map e)) (n:L.length<=aS)
  (o: ∀a∈L,∀i,fe (.ae (e a)::(cs++[.ay (.ai i)]))= .ok (h a)):qd false 1 js j (gN 0) qm fe c= .ok (.ai (L.map h)):=by
 have:=Kb (fc:=qm) (λ_=>true) h l m n (λ_ _ _=>rfl) (λa p _=>o a p) (λz=>by cases z);rw [this,AS.mpr λ_ _=>rfl]
def Nk {js:List Nat} {fi:TX} {fe:T0} {env:Sl} {ds:List D} {cs:List Slot} (h:D->D) (P:D->Prop) (g:js.map (mn false env)=cs) (i:fi env= .ok ds) (j: ∀d∈ds,P d) (l:ds.length<=aS)
 (m: ∀d c,P d->fe (.ae d::(cs++[.ay (.ai c)]))= .ok (h d)):qd false 1 js fi (gN 0) qm fe env= .ok (.ai (ds.map h)):=WH (e:=id) h g (by rw [List.map_id];exact i) l λa n c=>m a c (j a n)
def QV {g:Type} (e:g->D×D) {js:List Nat} {fi:TX} {fe:T0} {env:Sl} {L:List g} {cs:List Slot} (h:g->D) (P:g->Prop) (i:js.map (mn false env)=cs) (j:fi env= .ok (L.map λq=> .am [(e q).1,(e q).2])) (l: ∀q∈L,P q) (m:L.length<=aS)
  (n: ∀q c,P q->fe (.ae (e q).1:: .ae (e q).2::(cs++[.ay (.ai c)]))= .ok (h q)):qd false 2 js fi (g2 (gN 0) (gN 1)) qm fe env= .ok (.ai (L.map h)):=by
 have:=Nj (k:=2) (tt:=g2 (gN 0) (gN 1)) (fc:=qm) (pre:=λq=>[.ae (e q).1,.ae (e q).2]) (λ_=>true) h (λ_=>rfl) (λa o R p=>by
  match o,p with
  | [x,y],_=>rfl) i j m (λ_ _ _=>rfl) (λa r _ c=>n a c (l a r)) (λz=>by cases z)
 rw [this,AS.mpr λ_ _=>rfl]
def isNm:D->Bool| .str z=>(decide (1<=(z.length:Int))&&decide ((z.length:Int)<=8))&&z.cps.toList.all (λc=>tm ⟨#[c]⟩ iA)|_=>false
def Xu (z:Str):isNm (.str z)=((decide (1<=(z.length:Int))&&decide ((z.length:Int)<=8))&&z.cps.toList.all (λc=>tm ⟨#[c]⟩ iA)):=rfl
def QZ {a:Type} (l:List a) (p:a->Bool):fN [.ai (l.map λc=>D.bl (p c))]= .ok (.bl (l.all p)):=by
 have:l.map (λc=>D.bl (p c))=(l.map p).map D.bl:=by simp
 rw [this];show (match Wf ((l.map p).map D.bl) with|some bs=>ak.ok (D.bl (bs.all id))|none=>ak.aj)=_;rw [Ss];simp
def vT (z:Str):(WT z).length=z.length:=by simp [WT,Str.length]
def Nl {d:D} (h:Ga d=true):dh [d]= .ok (.bl (isNm d)):=by
 cases d with
 |str z=>
  have e1:fg (qo 1 [.str z])= .ok (.rt true (.bl (isNm (.str z)))):=by
   have o:qo 1 [.str z]=[.ae (.str z)]:=rfl;rw [o];have l:i0 "str" (.str z)= .ok (.bl true):=rfl;have m:bc [.str z]= .ok (.int z.length):=rfl;rw [Xu]
   by_cases n:(z.length:Int)<=8
   . have g:qd false 1 [] (cg (aa 0)) (gN 0) qm (ag (aa 0) (cS "abcdefghijklmnopqrstuvwxyz") inD) [.ae (.str z)]= .ok (.ai ((WT z).map λd=>D.bl (match d with| .str c=>tm c iA|_=>false))):=by
      refine F1 _ (λd=> ∃c,d= .str c) rfl (by intro d hd;obtain ⟨c,_,e⟩:=cK.mp hd;exact ⟨_,e.symm⟩) (by rw [vT];exact cE (by omega:z.length<=8) (by decide)) ?_;rintro d p ⟨c,e⟩;subst e;rfl
     have a:(WT z).all (λd=>match d with| .str c=>tm c iA|_=>false)=(z.cps.toList.all (λc=>tm ⟨#[c]⟩ iA)):=by
      simp only [WT,Dj];rfl
     simp only [fg,l,m,g,x9,Y1,F4,Vj,UF,y4,F7,Y2,Ju,Vk,xl,UC,F5,F9,ZO,Lu,Lq,Vl,F6,F3,uO,KQ,HH,Vw,if_true,rY,mT,if_false,decide_eq_true_eq,QO,UP,QZ,a]
     by_cases i:(1:Int)<=z.length<;>simp [i,n]
   . have j:decide ((z.length)<=8)=false:=by simp;omega
     simp only [fg,l,m,x9,Y1,F4,Vj,UF,y4,F7,Y2,Ju,Vk,xl,UC,F5,F9,ZO,Lu,Lq,Vl,F6,F3,uO,KQ,HH,Vw,if_true,rY,mT,if_false,decide_eq_true_eq,QO,UP]
     by_cases i:(1)<=z.length<;>simp [i,n,j]
  exact xN e1
 |_=>first|rfl|cases h
def sF (z:Str):Prop:= ∀c∈z.cps.toList,tm ⟨#[c]⟩ iA=true
def K5 {a b:Str} (e:sF a) (g:sF b):sF (a++b):=λc i=>by
 have h:c∈(a.cps++b.cps).toList:=i;rw [Array.toList_append,ij] at h;exact h.elim (e c) (g c)
def Nm {z:Str} (lo e:Option Int) (h:sF z):sF (du z lo e):=λc a=>by
 unfold du at a
 split at a
 . exact h c a
 . simp at a;obtain ⟨i,_,e⟩:=a;exact h c (by rw [<-oj] at e;exact pz e)
def jgH:sF iA:=by
 intro c a;have:iA.cps.toList.all (λc=>tm ⟨#[c]⟩ iA)=true:=by decide+kernel
 exact iT.mp this c a
def HI {z:Str} {i:Int} (a:0<=i) (e:i<z.length): ∃c,aW (.str z) (.int i)= .ok (.str ⟨#[c]⟩)/\c∈z.cps.toList:=by
 obtain ⟨c,g,h⟩:=Gf (xs:=z.cps.toList) a (by simpa [Str.length] using e);exact ⟨c,congrArg (λz:Option Nat=>match z with|some d=>ak.ok (D.str ⟨#[d]⟩)|none=> .aj) g,h⟩
def Nn {c:Nat} (h:c∈iA.cps.toList):sF ⟨#[c]⟩:=λx a=>by
 have:x=c:=by simpa using a
 rw [this];exact jgH c h
def No (i:Int) (n:Nat) (h:0<=i):(pC none (some i) 1 n).length<=i.toNat:=by
 unfold pC sliceRange
 split<;>(try split)<;>(try split)<;>(try simp)<;>omega
def Np (i:Int) (n:Nat) (h:0<=i):(pC (some i) none 1 n).length<=n-i.toNat:=by
 unfold pC sliceRange
 split<;>(try split)<;>(try split)<;>(try simp)<;>omega
def UL (z:Str) (lo a:Option Int):(du z lo a).length<=(pC lo a 1 z.length).length:=by
 unfold du
 split
 . rename_i h;rw [beq_iff_eq] at h;omega
 . show ((pC lo a 1 z.length).filterMap (z.cps[·]?)).toArray.size<=_;exact List.length_filterMap_le _ _
def jfQ {z:Str} (a:1<=z.length) (c:z.length<=8) (h:sF z):isNm (.str z)=true:=by
 rw [Xu];simp only [gF,decide_eq_true_eq,iT];exact ⟨⟨by omega,by omega⟩,h⟩
def XX:iA.length=26:=by decide
def lQ:20000<=aS:=by decide
def jl {k:Nat} (h:k<=20000):k<=aS:=cE h lQ
def cs (z:Str):List Nat:=z.cps.toList
def Nq (z:Str):(cs z).length=z.length:=jE
def UO (a b:Str):cs (a++b)=cs a++cs b:=PySem.W.KT.app_list a b
def jcc:iA.cps.toList.Nodup:=by decide+kernel
def Co {z:Str} {i:Int} (e:0<=i) (h:i<z.length): ∃c,aW (.str z) (.int i)= .ok (.str ⟨#[c]⟩)/\(cs z)[i.toNat]?=some c/\c∈z.cps.toList:=by
 obtain ⟨k,rfl⟩:=Int.eq_ofNat_of_zero_le e;have a:k< (cs z).length:=by rw [Nq];omega
 have g:mf z.cps.toList (k)=some (cs z)[k]:=by
  rw [M.dk];exact cy a
 exact ⟨(cs z)[k],congrArg (λz:Option Nat=>match z with|some d=>ak.ok (D.str ⟨#[d]⟩)|none=> .aj) g,by rw [sU];exact cy a,mF a⟩
def Sev (a:List Str):Prop:=a.length=7/\(∀z∈a,isNm (.str z)=true)/\a.Nodup
def lR (f:Str) (a:Int) (p:Int) (k:Int):Str:=(du f none (some a)++(⟨#[((cs iA)[((p+5*k)%26).toNat]?).getD 0]⟩:Str))++du f (some (a+1)) none
def jhU {f:Str} {a p i j:Int} (q:0<=i/\i<7) (r:0<=j/\j<7) (h:lR f a p i=lR f a p j):i=j:=by
 have m:=congrArg cs h;unfold lR at m;rw [UO,UO,UO,UO,i7,i7] at m;have g:=Hj m;have e: ∀c:Nat,cs (⟨#[c]⟩:Str)=[c]:=λ_=>rfl
 rw [e,e] at g;simp at g;have l:(cs iA).length=26:=by rw [Nq];exact XX
 have n:((p+5*i)%26).toNat< (cs iA).length:=by omega
 have o:((p+5*j)%26).toNat< (cs iA).length:=by omega
 rw [cy n,cy o] at g;have u:=(CJ jcc).mp (g);omega
def Zq (m:Int): ∃Y,dL [.int m]= .ok (.ai (Y.map D.str))/\Sev Y:=by
 have hs:1<=1+m%8/\1+m%8<=8:=by omega
 have e0:qo 8 [.int m]=[.ae (.int m),.un,.un,.un,.un,.un,.un,.un]:=rfl;generalize L:1+m%8=sz at hs
 obtain ⟨Z,l1,r,h,I,rfl,N,y⟩:=QL (body:=j6 (gN 4) (ap (jB 3 (ag (aa 3) (ag (aa 1) (ag (aa 0) (cI 26) bj) aW) a4)) (jB 0 (ag (aa 0) (cI 26) ng))))
   (λds o=> ∃(n:Int) (f:Str) (u:Slot),o=[.ae (.int n),.ae (.str iA),.ae (.int sz),.ae (.str f),u,.un,.un,.un]/\f.length+ds.length=sz.toNat/\sF f)
   (by
    rintro d ds o ⟨n,f,u,rfl,O,lw⟩;obtain ⟨c,x,q⟩:=HI (i:=n%26) (by omega) (by rw [XX];omega);simp at O;have B:(f++(⟨#[c]⟩:Str)).length=f.length+1:=BI _ _;refine ⟨[.ae (.int (n/26)),.ae (.str iA),.ae (.int sz),.ae (.str (f++(⟨#[c]⟩:Str))),.ae d,.un,.un,.un],?_,_,_,_,rfl,by rw [B];omega,K5 lw (Nn q)⟩;rw [yA rfl];rw [jj ((jr (jg rfl (jg rfl rfl x) (jn (cE (show f.length+1<=8 by omega) (by decide))))))]
    rfl)
   (ZD 0 sz.toNat) [.ae (.int (m/8)),.ae (.str iA),.ae (.int sz),.ae (.str ""),.un,.un,.un,.un] ⟨m/8, "",.un,rfl,by rw [YU,show ("" :Str).length=0 by decide,yB],λc x=>by cases x⟩
 simp at N;have E:0<=r%sz/\r%sz<sz:=⟨tK _ (by omega),tL _ (by omega)⟩
 generalize hq:r%sz=g at E;obtain ⟨c1,Q⟩:=Td (z:=h) E.1 (by omega);generalize hp:(Txt.find iA (⟨#[c1]⟩:Str))=p
 obtain ⟨Hs,l2,l,k2,s2,rfl,_,J⟩:=QL (body:=j6 (gN 4) (ap (jB 7 (ag (aa 1) (ag (ag (Dl (aa 1) (jb (ag (aa 3) (aa 5) aW) ab) Dn) (ag (cI 5) (aa 4) o2) a4) (cI 26) bj) aW))
   (zM 6 (ag (ag (jM (aa 3) zC (qg (aa 5)) gT) (aa 7) a4) (jM (aa 3) (qg (ag (aa 5) (cI 1) a4)) zC gT) a4))))
   (λds o=> ∃(l:Nat) (k s:Slot),o=[.ae (.int r),.ae (.str iA),.ae (.int sz),.ae (.str h),k,.ae (.int g),.ay (.ai ((fF l).map λ(j:Nat)=>D.str (lR h g p j))),s]/\ds=(List.range' l (7-l)).map (λ(j:Nat)=>D.int j)/\l+ds.length=7)
   (by
    rintro d ds o ⟨l,k,s,rfl,hd,O⟩;simp at O;have hjs:l<7:=by omega
    have e7:7-l=(7-(l+1))+1:=by omega
    rw [e7,HJ,e9,tF] at hd;obtain ⟨rfl,hd⟩:=hd
    have hm:oZ 5 l:=by
     have:l=0\/l=1\/l=2\/l=3\/l=4\/l=5\/l=6:=by omega
     rcases this with rfl|rfl|rfl|rfl|rfl|rfl|rfl<;>decide
    obtain ⟨c,x,v,q⟩:=Co (i:=(p+5*l)%26) (by omega) (by rw [XX];omega);have w:lR h g p l=(du h none (some g)++(⟨#[c]⟩:Str))++du h (some (g+1)) none:=by unfold lR;rw [v];rfl
    have hA:=cE (UL h none (some g)) (No g h.length (by omega));have hB:=cE (UL h (some (g+1)) none) (Np (g+1) h.length (by omega));have h1:(du h none (some g)++(⟨#[c]⟩:Str)).length=(du h none (some g)).length+1:=BI _ _;have H:20<=aS:=by decide
    refine ⟨[.ae (.int r),.ae (.str iA),.ae (.int sz),.ae (.str h),.ae (.int l),.ae (.int g),.ay (.ai ((fF (l+1)).map λ(j:Nat)=>D.str (lR h g p j))),.ae (.str ⟨#[c]⟩)],?_,l+1,_,_,rfl,hd,by omega⟩;rw [yA rfl];rw [jj (jr (jg rfl (jg (jg (Tc rfl (jc (jg rfl rfl Q) rfl) rfl) (jg rfl rfl (Lz hm)) rfl) rfl rfl) (by rw [hp];exact x)))];refine (xo rfl (jg (jg (qG rfl rfl (qZ rfl) rfl) rfl (jn (cE (show _+1<=20 by omega) H))) (qG rfl (qZ (jg rfl rfl rfl)) rfl rfl) (jn (by omega))) (by rw [bM,DV];omega)).trans ?_;rw [List.range_succ,mP,e9,List.map_nil,w]
    rfl)
   (ZD 0 7) [.ae (.int r),.ae (.str iA),.ae (.int sz),.ae (.str h),I,.ae (.int g),.ay (.ai []),.un] ⟨0,I,.un,rfl,rfl,rfl⟩
 obtain rfl:l=7:=by simpa using J
 refine ⟨(fF 7).map λ(j:Nat)=>lR h g p j,?_,by simp,?_,?_⟩
 . refine qN ?_;rw [e0];unfold fx;rw [jj rfl];rw [jj (env':=[.ae (.int m),.ae (.str iA),.ae (.int sz),.un,.un,.un,.un,.un]) (by rw [<-L];rfl)];rw [jj rfl];rw [jj (env':=[.ae (.int (m/8)),.ae (.str iA),.ae (.int sz),.ae (.str ""),.un,.un,.un,.un]) rfl]
   rw [jj ((wO (by
    exact jn (by omega))).trans l1)]
   rw [jj (env':=[.ae (.int r),.ae (.str iA),.ae (.int sz),.ae (.str h),I,.ae (.int g),.un,.un]) (by rw [<-hq];exact (jr (jg rfl rfl (Wt (by omega)))))];rw [jj (env':=[.ae (.int r),.ae (.str iA),.ae (.int sz),.ae (.str h),I,.ae (.int g),.ay (.ai []),.un]) rfl];rw [jj ((wO rfl).trans l2)];rw [ka];rfl
 . intro z hz;obtain ⟨j,J,rfl⟩:=cK.mp hz;have J:=iU.mp J;obtain ⟨c,x,v,q⟩:=Co (i:=(p+5*j)%26) (by omega) (by rw [XX];omega);have w:lR h g p j=(du h none (some g)++(⟨#[c]⟩:Str))++du h (some (g+1)) none:=by unfold lR;rw [v];rfl
   have hA:=cE (UL h none (some g)) (No g h.length (by omega));have hB:=cE (UL h (some (g+1)) none) (Np (g+1) h.length (by omega));have h1:(du h none (some g)++(⟨#[c]⟩:Str)).length=(du h none (some g)).length+1:=BI _ _;have h2:((du h none (some g)++(⟨#[c]⟩:Str))++du h (some (g+1)) none).length=(du h none (some g)++(⟨#[c]⟩:Str)).length+(du h (some (g+1)) none).length:=BI _ _;rw [w];exact jfQ (by omega) (by omega) (K5 (K5 (Nm _ _ y) (Nn q)) (Nm _ _ y))
 . refine yD.mpr ((Dp).imp_of_mem λ{a b} ha hb U e=>?_);have:=jhU (by have:=iU.mp ha;omega) (by have:=iU.mp hb;omega) e;exact U (by omega)
def Nr {c e:T0} {a:Sl} {i j:Int} (g:c a= .ok (.int i)) (h:e a= .ok (.int j)) (l:0<j/\j<1073741824):app (jb c (jb e ab)) Qe a= .ok (.am [.int (i/j),.int (i%j)]):=
 jX (jc g (jc h rfl)) (jn l)
def y8 {f:T0} {c:Sl} {a b:Nat} {x y:D} (h:f c= .ok (.am [x,y])):gK f (g2 (gN a) (gN b)) c= .ok (.nx ((c.set a (.ae x)).set b (.ae y))):=by
 show (f c>>=_)=_;rw [h];rfl
def HK {c e:T0} {a:Sl} (h:c a= .ok (.bl true)):lD c e true a=e a:=by
 show (c a>>=_)=_;rw [h];rfl
def vB (i:Int):dU [.int i]= .ok (.bl true):=rfl
def jjF {z:Str} {m:Nat} (a:isNm (.str z)=true) (i:m<=9):gq [fT z m]= .ok (.bl true):=by
 have c:dh [.str z]= .ok (.bl true):=by rw [Nl rfl,a]
 refine qN ?_;refine (jj rfl).trans ?_;refine jG ?_
 have g:ZS (cI 0) (ag (aa 0) (cI 1) aW) (cI 9) nh nh [.ae (fT z m)]= .ok (.bl true):=by
  have e:ZS (cI 0) (ag (aa 0) (cI 1) aW) (cI 9) nh nh [.ae (fT z m)]= .ok (.bl (decide ((0:Int)<=m)&&decide ((m:Int)<=9))):=by
   by_cases h:(0:Int)<=m
   . rw [decide_eq_true h];exact (by unfold ZS;simp;rfl)
   . omega
  rw [e,decide_eq_true (by omega),decide_eq_true (by omega)];rfl
 exact (HK (jp (jc (jg rfl rfl rfl) rfl) rfl c)).trans ((HK (jp (jc (jg rfl rfl rfl) rfl) rfl (vB _))).trans g)
theorem Nt: ∀l:List (Str×Nat),mx (l.map λh=>fT h.1 h.2)=some (l.map λh=>[rF h.1,pH (h.2:Int)])
 | []=>rfl
 |x::r=>by
  show (match iu (fT x.1 x.2),mx (r.map λh=>fT h.1 h.2) with
   |some k,some ks=>some (k::ks)
   |_,_=>none)=_
  rw [Nt r];rfl
def jaw {l:List (Str×Nat)} (h:l.Nodup) (g:l.length<=76):my (.ai (l.map λh=>fT h.1 h.2))= .ok (.int l.length):=by
 have i:(l.map λh=>([rF h.1,pH (h.2)]:List aR)).Nodup:=yD.mpr (h.imp λ{a b} c e=>c (by
  simp at e
  exact sV e.1 (by omega)))
 show (match mx (l.map λh=>fT h.1 h.2) with
   |some ks=>a5 (ks.length<=76/\ks.Nodup) (ak.ok (D.int ks.length))
   |none=>ak.aj)=_
 rw [Nt];dsimp only;rw [jn ⟨by rw [bM];exact g,i⟩,bM]
def jgc (i:Int):dP (.int i) (.int i)= .ok (.bl true):=(show dP (.int i) (.int i)= .ok (.bl (i==i)) from rfl).trans (by simp)
def Vg {ks:List (List aR)} {k:List aR} (h:k∉ks):i1 ks k=false:=by
 unfold i1;rw [CT];intro x a e;exact h (by rw [<-of_decide_eq_true e];exact a)
theorem Yo: ∀(ps:List (List aR×D)) (q:List (List aR)×List D),(q.1++ps.map (·.1)).Nodup->ps.foldl Z9 q=(q.1++ps.map (·.1),q.2++ps.map (·.2))
 | [],q,_=>by simp
 |p::ps,q,h=>by
  have a:p.1∉q.1:=λz=>by
   exact (rV.mp h).2.2 _ z _ cu rfl
  rw [Bo]
  have e:Z9 q p=(q.1++[p.1],q.2++[p.2]):=by
   unfold Z9 yq yr;rw [Vg a];rfl
  rw [e,Yo ps _ (by simpa using h)];simp
structure D7 (hs:List (Str×Nat)):Prop where
 nm: ∀h∈hs,isNm (.str h.1)=true
 ar: ∀h∈hs,h.2<=3
 nd:hs.Nodup
 ln:hs.length<=60
def HL {a:List (Str×Nat)} (ok:D7 a):bE [aI a]= .ok (.bl true):=by
 refine qN ?_;have c:bc [aI a]= .ok (.int a.length):=by show ak.ok (D.int ((a.map λh=>fT h.1 h.2).length))=_;rw [bM]
 have g:aM (ag (app (jb (aa 0) ab) bc) (cI 60) oy) [.ae (aI a)]= .ok (decide ((60:Int)<a.length)):=jq (jg (jX (jc rfl rfl) c) rfl rfl);rw [decide_eq_false (by have:=ok.ln;omega)] at g;refine (jj ((bV (yN (qp (jq (zF (x:=aI a) rfl rfl))) g)))).trans ?_
 have i:app (jb (qd false 1 [] (cg (aa 0)) (gN 0) qm (jm 1 gq (jb (aa 0) ab))) ab) fN [.ae (aI a)]= .ok (.bl true):=by
  refine jX (jc (Nk (λ_=>D.bl true) (λd=> ∃h∈a,d=fT h.1 h.2) rfl (qu rfl rfl) (λd hd=>?_) ?_ (λd j hd=>?_)) rfl) ?_
  . obtain ⟨p,e,rfl⟩:=cK.mp hd;exact ⟨p,e,rfl⟩
  . rw [bM];have:=ok.ln;exact jl (by omega)
  . obtain ⟨p,e,rfl⟩:=hd;exact jp (jc rfl rfl) rfl (jjF (ok.nm p e) (by have:=ok.ar p e;omega))
  . have:=QZ (a.map λh=>fT h.1 h.2) (λ_=>true);rw [this];simp
 exact jG ((HK i).trans (jg (oA (.int a.length) (by
  exact jaw ok.nd (by have:=ok.ln;omega))) (jX (jc rfl rfl) c) (jgc _)))
theorem ux: ∀(a:List (Str×Nat)) (i:Nat),np ((a.zipIdx i).map λq=>D.am [fT q.1.1 q.1.2,.int (q.2:Nat)])=some ((a.zipIdx i).map λq=>(cY q.1,D.int (q.2:Nat)))
 | [],i=>rfl
 |h::a,i=>by
  show (match iu (fT h.1 h.2),np ((a.zipIdx (i+1)).map λq=>D.am [fT q.1.1 q.1.2,.int (q.2)]) with
   |some k,some q=>some ((k,D.int (i))::q)
   |_,_=>none)=_
  rw [ux a];rfl
theorem Ub: ∀(a:List (Str×Nat)) (i:Nat),jJ i (a.map λh=>fT h.1 h.2)=(a.zipIdx i).map λq=>D.am [.int (q.2:Nat),fT q.1.1 q.1.2]
 | [],i=>rfl
 |h::a,i=>by
  rw [List.zipIdx_cons,e9,e9];show D.am [.int (i),fT h.1 h.2]::jJ (i+1) (a.map λh=>fT h.1 h.2)=_;rw [Ub a]
def jdA {c:List (Str×Nat)} (h:c.Nodup):WG [.ai ((c.zipIdx 0).map λq=>D.am [fT q.1.1 q.1.2,.int (q.2:Nat)])]= .ok (ci c):=by
 show (match np ((c.zipIdx 0).map λq=>D.am [fT q.1.1 q.1.2,.int (q.2)]) with
  |some ps=>ak.ok (D.bX (ps.foldl Z9 ([],[])).1 (ps.foldl Z9 ([],[])).2)
  |none=>ak.aj)=_
 rw [ux];dsimp only
 have e1:((c.zipIdx 0).map λq=>(cY q.1,D.int (q.2))).map (·.1)=c.map cY:=by
  rw [ka];have:=congrArg (List.map cY) (List.zipIdx_map_fst 0 c);rw [ka] at this;exact this
 have e2:((c.zipIdx 0).map λq=>(cY q.1,D.int (q.2))).map (·.2)=(fF c.length).map λ(i:Nat)=>D.int i:=by
  rw [ka];have:=congrArg (List.map λ(i:Nat)=>D.int i) (List.zipIdx_map_snd 0 c);rw [ka] at this;rw [List.range_eq_range'];exact this
 have j:(c.map cY).Nodup:=yD.mpr (h.imp λ{a b} g e=>g (yT e));rw [Yo _ _ (by rw [e1];simpa using j),e1,e2];simp [ci]
def jjC {a:List (Str×Nat)} (ok:D7 a):bw (.obj "Ranks" [] []) [aI a]= .ok (.a6,eZ a):=by
 have c:aM (jm 1 bE (jb (aa 1) ab)) [.ay (.obj "Ranks" [] []),.ae (aI a)]= .ok true:=jq (jp (jc rfl rfl) rfl (HL ok))
 have d:app (jb (qd false 2 [] (Y5 (aa 1)) (g2 (gN 0) (gN 1)) qm (bq (jb (aa 1) (jb (aa 0) ab)))) ab) WG [.ay (.obj "Ranks" [] []),.ae (aI a)]= .ok (ci a):=jX (jc (QV (λq:(Str×Nat)×Nat=>(D.int (q.2),fT q.1.1 q.1.2)) (λq=>D.am [fT q.1.1 q.1.2,.int (q.2)]) (λ_=>True) rfl (oA ((a.zipIdx 0).map λq=>D.am [.int (q.2),fT q.1.1 q.1.2]) (by
  rw [<-Ub];exact MS rfl)) (λ_ _=>trivial) (by rw [HM];have:=ok.ln;exact jl (by omega)) (λe g _=>zS (jc rfl (jc rfl rfl)) (jl (show 2<=20000 by decide)))) rfl) (jdA ok.nd)
 have h:bS bE [.ay (.obj "Ranks" [] []),.ae (aI a)]= .ok (.nx [.ay (eZ a),.ae (aI a)]):=by
  have i:AL (bH (aM (jm 1 bE (jb (aa 1) ab)))) Ya B2 [.ay (.obj "Ranks" [] []),.ae (aI a)]= .ok (.nx [.ay (.obj "Ranks" [] []),.ae (aI a)]):=by
   show (bH (aM (jm 1 bE (jb (aa 1) ab))) _>>=_)=_;rw [qp c];rfl
  show (AL (bH (aM (jm 1 bE (jb (aa 1) ab)))) Ya B2 _>>=_)=_;rw [i];show (app (jb (qd false 2 [] (Y5 (aa 1)) (g2 (gN 0) (gN 1)) qm (bq (jb (aa 1) (jb (aa 0) ab)))) ab) WG [.ay (.obj "Ranks" [] []),.ae (aI a)]>>=_)=_;rw [d];rfl
 show a5 (([aI a]:List D).length=1) (bS bE [.ay (.obj "Ranks" [] []),.ae (aI a)]>>=_)=_;refine (jn (rfl)).trans ?_;rw [h];rfl
def jjz {c:List (Str×Nat)} (ok:D7 c) {f:TX} {a:Sl} (h:f a= .ok [aI c]):xw "Ranks" 1 bw f a= .ok (eZ c):=Xq h rfl (jjC ok)
section
variable {ns:List Str}
theorem Ua: ∀(n:Nat) (d:D),ir d=true->gA d<=n->num d<=1000->bD n [d]= .ok (.ai (br d))
 |0,d,_,h,_=>by have:=Lx d;omega
 |n+1,d,j,l,m=>by
  rw [Gb] at l;rw [Lw] at m
  have g:=ZJ (body:=j6 (gN 2) (qz 1 (jm 1 (bD n) (jb (aa 2) ab)))) (λa=>[.ae d,.ay (.ai a.1),a.2]) (λa e=>(a.1++br e,.ae e)) (λds a=>cX ds=true/\cO ds<=n/\a.1.length+nums ds<=1000) (λe ds a ⟨i,o,p⟩=>by
   simp only [cX,gF] at i;simp only [cO] at o;simp only [nums] at p;have r:=JX e;refine ⟨?_,i.2,by omega,by simp;omega⟩;show qz 1 (jm 1 (bD n) (jb (aa 2) ab)) [.ae d,.ay (.ai a.1),.ae e]=_;show (ak.ok a.1>>=λds=>bD n [e]>>=_)=_;rw [Ua n e i.1 (by omega) (by omega)]
   exact jn (cE (by omega:_<=10000) (by decide))) (aw d) ([d],.un) ⟨(Jr j).1,by omega,by simp;omega⟩
  have c: ∀(ds:List D) (a),(ds.foldl (λa e=>(a.1++br e,Slot.ae e)) a).1=a.1++eP ds:=by
   intro ds
   induction ds with
   |nil=>intro a;simp [eP]
   |cons d ds q=>intro a;rw [Bo,q];simp [eP]
  have e1:hU aQ (bD n) (qo 3 [d])= .ok (.rt true (.ai (br d))):=by
   have e0:hU aQ (bD n) (qo 3 [d])=((aQ [d]>>=De)>>=λds=>bO (j6 (gN 2) (qz 1 (jm 1 (bD n) (jb (aa 2) ab)))) ds [.ae d,.ay (.ai [d]),.un])>>=o3 (aJ (sv 1)):=by
    unfold hU;rw [x9];show (ap _ _) _=_;rw [x9];rfl
   rw [e0,KI (XG j)];show (bO _ (aw d) _>>=_)=_;rw [g];rw [c,S7];rfl
  exact xN e1
def HN:D->Bool
 | .am _=>true
 |_=>false
def Nu {t:D} (h:tk ns t=true):i0 "tuple" t= .ok (.bl (HN t)):=by
 rcases Jg h with ⟨i,rfl⟩| ⟨z,a,rfl,_⟩<;>rfl
def jdb (l:List Hd) (x:Hd):(fP l x).length<=l.length+1:=by
 unfold fP;split<;>simp
def Uv (z:Str) (a:List D):cw [.am (.str z::a)]= .ok (cU (z,(a.length:Int))):=by
 refine qN ?_;refine (jG ?_).trans rfl;refine zS (jc (jg rfl rfl Gd) (jc ?_ rfl)) (jl (show 2<=20000 by decide));refine jg (jX (jc rfl rfl) rfl) rfl ?_;simp
theorem J7 (t s:Slot): ∀(ds:List D) (l:List Hd) (u:Slot),(∀d∈ds,tk ns d=true)->l.length+ds.length<=2000-> ∃j,bO (j6 (gN 3) (cb (aM (bv "tuple" (aa 3))) (JC 1 (jm 1 cw (jb (aa 3) ab)) (cB true)) cj)) ds [t,.ay (.bX (l.map dD) (dI l)),s,u]= .ok (.nx [t,.ay (.bX ((n8 l (cP ds)).map dD) (dI (n8 l (cP ds)))),s,j])
 | [],l,u,_,_=>⟨u,rfl⟩
 |d::ds,l,u,h,o=>by
  simp at o;have hd:=h d (by simp);have g:aM (bv "tuple" (aa 3)) [t,.ay (.bX (l.map dD) (dI l)),s,.ae d]= .ok (HN d):=jq (by rw [y4];exact Nu hd);rcases Jg hd with ⟨i,rfl⟩| ⟨z,a,rfl,_⟩
  . have c:j6 (gN 3) (cb (aM (bv "tuple" (aa 3))) (JC 1 (jm 1 cw (jb (aa 3) ab)) (cB true)) cj) (.int i) [t,.ay (.bX (l.map dD) (dI l)),s,u]= .ok (.nx [t,.ay (.bX (l.map dD) (dI l)),s,.ae (.int i)]):=by
     rw [yA (env':=[t,.ay (.bX (l.map dD) (dI l)),s,.ae (.int i)]) rfl,bV g];rfl
    obtain ⟨j,m⟩:=J7 t s ds l (.ae (.int i)) (λe n=>h e (by simp [n])) (by omega);exact ⟨j,by rw [j7 c,m];rfl⟩
  . obtain ⟨p,q⟩:=L1 l (z,(a.length));have r:(l.map dD).length<aS:=by rw [bM];exact gR (by omega) lQ
    have v:jm 1 cw (jb (aa 3) ab) [t,.ay (.bX (l.map dD) (dI l)),s,.ae (.am (.str z::a))]= .ok (cU (z,(a.length))):=jp (jc rfl rfl) rfl (Uv z a)
    have c:j6 (gN 3) (cb (aM (bv "tuple" (aa 3))) (JC 1 (jm 1 cw (jb (aa 3) ab)) (cB true)) cj) (.am (.str z::a)) [t,.ay (.bX (l.map dD) (dI l)),s,u]= .ok (.nx [t,.ay (.bX ((fP l (z,(a.length))).map dD) (dI (fP l (z,(a.length))))),s,.ae (.am (.str z::a))]):=by
     show (jm 1 cw (jb (aa 3) ab) [t,.ay (.bX (l.map dD) (dI l)),s,.ae (.am (.str z::a))]>>=_)=_;rw [v];show a5 ((l.map dD).length<aS) (ak.ok (bg.nx [t,.ay (.bX (yq (l.map dD) (dD (z,(a.length)))) (yr (l.map dD) (dI l) (dD (z,(a.length))) (.bl true))),s,.ae (.am (.str z::a))]))=_;rw [jn r,p,q]
    have:=jdb l (z,(a.length));obtain ⟨j,m⟩:=J7 t s ds (fP l (z,(a.length))) (.ae (.am (.str z::a))) (λe n=>h e (by simp [n])) (by omega);exact ⟨j,by rw [j7 c,m];rfl⟩
end
def QH {l:List Hd} {a x:Hd} (h:x∈l\/x=a):x∈fP l a:=by
 unfold fP
 split
 . rcases h with h|h
   . exact h
   . rw [h];assumption
 . rcases h with h|h
   . exact rH _ h
   . rw [h];simp
theorem Xz: ∀ {a l:List Hd} {x:Hd},x∈l\/x∈a->x∈n8 l a
 | [],l,x,h=>h.elim id λz=>by cases z
 |y::a,l,x,h=>by
  refine Xz (l:=fP l y) ?_;rcases h with h|h
  . exact .inl (QH (.inl h))
  . rcases cQ.mp h with h|h
    . exact .inl (QH (.inr h))
    . exact .inr h
def dM {l:List Hd} {a:Hd}:a∈wI l↔a∈l:=(qY l).mem_iff
theorem Nv: ∀a b:List D,cP (a++b)=cP a++cP b
 | [],b=>rfl
 |d::r,b=>by
  have c:=Nv r b
  cases d with
  |am e=>cases e with
   |nil=>simpa [cP] using c
   |cons x e=>cases x<;>simp [cP,c]
  |_=>simp [cP,c]
theorem Ux: ∀ {c:List D} {a:Hd},a∈cP (eP c)↔ ∃t∈c,a∈cP (br t)
 | [],a=>by simp [eP,cP]
 |d::r,a=>by
  simp only [eP,Nv,ij,Ux,cQ,exists_eq_or_imp]
def jfb (z:Str) (a:List D):br (.am (.str z::a))= .am (.str z::a)::eP a:=by simp only [br]
def Xm (z:Str) (a:List D):num (.am (.str z::a))=1+nums a:=by simp only [num]
def QI (z:Str) (a:List D):gA (.am (.str z::a))=1+cO a:=by simp only [gA]
def iB {z:Str} {c:List D} {a:Hd}:a∈cP (br (.am (.str z::c)))↔a=(z,(c.length:Int))\/ ∃t∈c,a∈cP (br t):=by
 rw [jfb,LW,cQ,Ux]
def nN:Nat->Nat
 |0=>1
 |n+1=>1+3*nN n
theorem jjy: ∀n,1<=nN n
 |0=>bn _
 |n+1=>by show 1<=1+_;omega
structure Is (ns:List Str) (hs:List Hd) (n:Nat) (t:D):Prop where
 tk:tk ns t=true
 gA:gA t<=n+1
 num:num t<=nN n
 hd: ∀a∈cP (br t),a∈hs
noncomputable def c6 (a:List (Str×Nat)):List Hd:=a.map λh=>(h.1,(h.2:Int))
theorem Cp {q:List Str} {m:List (Str×Nat)} (r: ∀h∈m,h.1∈q/\h.2<=3): ∀(n:Nat) (t:Tr),Tn m n t->Is q (c6 m) n t.d
 |n,.bk i,h=>by
  refine ⟨rfl,?_,?_,?_⟩
  . simp [Tr.d,gA]
  . simp [Tr.d,num];exact jjy n
  . intro b g;simp [Tr.d,br,cP] at g
 |0,.nd x l,h=>by
  cases (h.no);have j:=h.hd rfl;rw [Tr.bI];refine ⟨DC (r _ j).1 (by simp) (by simp),?_,?_,?_⟩
  . rw [QI];simp [cO]
  . rw [Xm];simp [nums,nN]
  . intro b g;rcases iB.mp g with e| ⟨t,c,_⟩
    . rw [e];exact cK.mpr ⟨_,j,rfl⟩
    . simp at c
 |n+1,.nd x l,h=>by
  have j:=h.hd rfl
  have o: ∀d∈l.map Tr.d,Is q (c6 m) n d:=λd hd=>by
    obtain ⟨p,u,rfl⟩:=cK.mp hd;exact Cp r n p (h.lM p u)
  have a:=r _ j;have v:(l.map Tr.d).length<=3:=by rw [bM];exact a.2
  rw [Tr.bI];refine ⟨DC a.1 (by omega) λt c=>(o t c).tk,?_,?_,?_⟩
  . rw [QI];have:=Vc λt c=>(o t c).gA
    omega
  . rw [Xm];have w:=LS λt c=>(o t c).num
    have y:=Cd (nN n) v;show _<=1+3*nN n;omega
  . intro b g;rcases iB.mp g with e| ⟨t,c,g⟩
    . rw [e,bM];exact cK.mpr ⟨_,j,rfl⟩
    . exact (o t c).hd b g
def jhd (a:List (Str×Nat)):ci a= .bX ((c6 a).map dD) ((fF a.length).map λ(i:Nat)=>D.int i):=by
 unfold ci c6;rw [ka];rfl
def jhV (c:List (Str×Nat)) (a:Hd):rk (cU a) (ci c)= .ok (.bl (!decide (a∈c6 c))):=by
 rw [jhd];show ak.ok (D.bl (!i1 ((c6 c).map dD) (dD a)))=_;rw [L0]
def QU (l:List D) (k:Nat):cutD l (some (k:Int)) none=l.drop k:=by
 unfold cutD;rw [HT.jQ,HT.gV]
 by_cases h:k<=l.length
 . rw [Nat.min_eq_left h];exact DM (by simp)
 . rw [Nat.min_eq_right (by omega),List.drop_of_length_le (bn _),List.drop_of_length_le (by omega)];simp
def mR {l:List D} {k:Nat} {x:D} (h:l[k]?=some x):aW (.am l) (.int (k:Int))= .ok x:=by
 exact congrArg (λz:Option D=>match z with|some d=>ak.ok d|none=> .aj) (M.dk.trans h)
noncomputable def fK (a:List (Str×Nat)) (S T:Tr):D:= .obj "Reckoning" ["rank", "ways"] [ci a,.mem (hJ S T) (D2 (bB a))]
def yM (t:Tr):aQ [t.d]= .ok (.am (t.aw.map Tr.d)):=by
 cases t with
 |bk i=>rfl
 |nd x l=>rw [Tr.bI,KI rfl];rfl
def se:Option (Str×Nat)->D
 |none=> .a6
 |some a=>cU (a.1,(a.2:Int))
def D8 (t:Tr):cw [t.d]= .ok (se t.hd):=by
 cases t with
 |bk i=>rfl
 |nd x l=>rw [Tr.bI,Uv,bM];rfl
def D9 (t:Tr):i0 "tuple" t.d= .ok (.bl t.hd.isSome):=by
 cases t with
 |bk i=>rfl
 |nd x l=>rw [Tr.bI];rfl
theorem Nw: ∀(a:List (Str×Nat)) (i:Nat) {h:Str×Nat},h∈a->fw (a.map cY) ((List.range' i a.length).map λ(j:Nat)=>D.int j) (cY h)=some (.int ((i+a.idxOf h:Nat):Int))
 | [],i,h,c=>by cases c
 |x::a,i,h,c=>by
  by_cases e:x=h
  . subst e;simp [fw,HJ,Cq]
  . have g:h∈a:=by
     rcases cQ.mp c with z|z
     . exact (e z.symm).elim
     . exact z
    have m:=Nw a (i+1) g;have l: ¬cY x=cY h:=λz=>e (yT z)
    have n:(x==h)=false:=by simpa using e
    simp only [fw,e9,fR,HJ,sx,rR,l,decide_false] at m ⊢;rw [m,Cq,n];simp only [cond_false];congr 2;omega
def Uz {a:List (Str×Nat)} {h:Str×Nat} (c:h∈a):lJ (ci a) (cU (h.1,(h.2:Int)))= .ok (.int (bB a h)):=by
 have e:=Nw a 0 c;rw [<-List.range_eq_range',yB] at e
 show (match fw (a.map cY) ((fF a.length).map λ(j:Nat)=>D.int j) (cY h) with
  |some d=>ak.ok d
  |none=> .aj)=_
 rw [e];rfl
def Um (w:Option WR):(wD w).lW=!w.isSome:=by
 cases w with
 |none=>rfl
 |some w=>cases w<;>rfl
def Uo (w:Option WR):mN (wD w) .a6= .ok (.bl (!w.isSome)):=by
 show ak.ok (D.bl (wD w).lW)=_;rw [Um]
def Nx (w:Option WR):n9 (wD w) .a6= .ok (.bl w.isSome):=by
 show ak.ok (D.bl (!(wD w).lW))=_;rw [Um,Bool.not_not]
def wc {e:List (Str×Nat)} {S T:Tr} {f:TW} {h:T0} {g:TX} {c:Sl} {a b d:D} {m:Str} (i:(["rank", "ways"]:List Str).contains m=false) (j:h c= .ok (fK e S T)) (l:g c= .ok [a,b]) (n:f [fK e S T,a,b]= .ok d):jZ "Reckoning" m 3 f h g c= .ok d:=jcV j i l rfl n
section
variable {Z:List (Str×Nat)} {S T:Tr} {f:TW} {N:Nat}
abbrev pB (f:TW):Sl->ak bg:=cb (fY (aM (ag (aa 4) (aa 2) dP)) (aM (ag (jZ "Reckoning" "way" 3 f (aa 0) (jb (aa 4) (jb (aa 2) ab))) cN n9))) (aJ (bq (jb (cS "part") (jb (aa 3) ab)))) cj
theorem Yr {t:Tr} {S1:Slot} (hN:N<=100): ∀(l:List Tr) (j:Nat) (g m:Slot),(∀p∈l,Tn Z N p/\f [fK Z S T,p.d,t.d]= .ok (wD (way (bB Z) p t)))->
  (∀i,(l.findIdx? λp=>decide (p=t)||gtB (bB Z) p t)=some i->bO (j6 (g2 (gN 3) (gN 4)) (pB f)) (jJ j (l.map Tr.d)) [.ae (fK Z S T),S1,.ae t.d,g,m]= .ok (.rt true (wD (some (.part (j+i))))))/\
  ((l.findIdx? λp=>decide (p=t)||gtB (bB Z) p t)=none-> ∃r u,bO (j6 (g2 (gN 3) (gN 4)) (pB f)) (jJ j (l.map Tr.d)) [.ae (fK Z S T),S1,.ae t.d,g,m]= .ok (.nx [.ae (fK Z S T),S1,.ae t.d,r,u]))
 | [],j,g,m,_=>⟨λi h=>by simp at h,λ_=>⟨g,m,rfl⟩⟩
 |p::l,j,g,m,h=>by
  obtain ⟨v,hw⟩:=h p cu;have o:=Yr (S1:=S1) hN l (j+1) (.ae (.int (j))) (.ae p.d) λq w=>h q (de _ w)
  have a:fY (aM (ag (aa 4) (aa 2) dP)) (aM (ag (jZ "Reckoning" "way" 3 f (aa 0) (jb (aa 4) (jb (aa 2) ab))) cN n9)) [.ae (fK Z S T),S1,.ae t.d,.ae (.int (j)),.ae p.d]= .ok (decide (p=t)||gtB (bB Z) p t):=
   yN (jq (jg rfl rfl (kZ hN v))) (jq (jg (wc (by decide) rfl (jc rfl (jc rfl rfl)) hw) rfl (Nx _)))
  have step:bO (j6 (g2 (gN 3) (gN 4)) (pB f)) (jJ j ((p::l).map Tr.d)) [.ae (fK Z S T),S1,.ae t.d,g,m]=bO (j6 (g2 (gN 3) (gN 4)) (pB f)) (.am [.int (j),p.d]::jJ (j+1) (l.map Tr.d)) [.ae (fK Z S T),S1,.ae t.d,g,m]:=rfl;rw [step,Hi]
  cases c:(decide (p=t)||gtB (bB Z) p t) with
  |true=>
   rw [c] at a;refine ⟨λi e=>?_,λe=>by simp at e⟩;simp at e;subst e;refine XD ?_;exact (cz a).trans (jG (zS (jc rfl (jc rfl rfl)) (jl (show 2<=20000 by decide))))
  |false=>
   rw [c] at a
   have go:j6 (g2 (gN 3) (gN 4)) (pB f) (.am [.int (j),p.d]) [.ae (fK Z S T),S1,.ae t.d,g,m]= .ok (.nx [.ae (fK Z S T),S1,.ae t.d,.ae (.int (j)),.ae p.d]):=by
     exact (bV a).trans rfl
   rw [j7 go];simp only [mT,if_false];refine ⟨λi e=>?_,λe=>?_⟩
   . rw [sX] at e;obtain ⟨n,e1,rfl⟩:=e;rw [o.1 n e1,show j+1+n=j+(n+1) by omega]
   . rw [Option.map_eq_none_iff] at e;exact o.2 e
def jdO (hN:N<=100) {s t:Tr} (h: ∀p∈s.aw,Tn Z N p/\f [fK Z S T,p.d,t.d]= .ok (wD (way (bB Z) p t))):b7 f [fK Z S T,s.d,t.d]= .ok (wD (iK (gtB (bB Z)) s t)):=by
 have L:=Yr (S1:= .ae s.d) hN s.aw 0 .un .un h
 have a:B0 (jm 1 aQ (jb (aa 1) ab)) [.ae (fK Z S T),.ae s.d,.ae t.d,.un,.un]= .ok (jJ 0 (s.aw.map Tr.d)):=by
  have e:jm 1 aQ (jb (aa 1) ab) [.ae (fK Z S T),.ae s.d,.ae t.d,.un,.un]= .ok (.am (s.aw.map Tr.d)):=jp (jc rfl rfl) rfl (yM s);unfold B0;rw [e];rfl
 refine qN ?_;unfold bZ iK
 cases c:(s.aw.findIdx? λp=>decide (p=t)||gtB (bB Z) p t) with
 |some i=>
  have:=L.1 i c;rw [yB] at this;exact qK ((wO a).trans this)
 |none=>
  obtain ⟨g,j,e⟩:=L.2 c;exact (jj ((wO a).trans e)).trans (jG rfl)
theorem XW {body:D->Sl->ak bg} (E:Slot->Sl) (g:Tr->Bool): ∀(l:List Tr) (u:Slot),(∀p∈l,∀u,body p.d (E u)=if g p=true then .ok (.nx (E (.ae p.d))) else .ok (.rt true .a6))->
  (l.all g=true-> ∃v,bO body (l.map Tr.d) (E u)= .ok (.nx (E v)))/\(l.all g=false->bO body (l.map Tr.d) (E u)= .ok (.rt true .a6))
 | [],u,_=>⟨λ_=>⟨u,rfl⟩,λh=>by simp at h⟩
 |p::l,u,h=>by
  have a:=h p cu u;rw [ti,e9]
  cases c:g p with
  |true=>
   rw [c,if_pos rfl] at a;rw [j7 a,Bool.true_and];exact (XW E g l (.ae p.d) λq e=>h q (de _ e))
  |false=>
   rw [c,if_neg ik] at a;exact ⟨λz=>by simp at z,λ_=>XD a⟩
def jdP {s t:Tr} (o: ∀a,s.hd=some a->a∈Z) (q: ∀a,t.hd=some a->a∈Z) (h: ∀p∈t.aw,f [fK Z S T,s.d,p.d]= .ok (wD (way (bB Z) s p))):ca f [fK Z S T,s.d,t.d]= .ok (wD (iJ (bB Z) (gtB (bB Z)) s t)):=by
 refine qN ?_;unfold b8 iJ;have j:fY (bH (aM (bv "tuple" (aa 1)))) (bH (aM (bv "tuple" (aa 2)))) [.ae (fK Z S T),.ae s.d,.ae t.d,.un]= .ok (!s.hd.isSome||!t.hd.isSome):=yN (qp (jq (zF rfl (D9 s)))) (qp (jq (zF rfl (D9 t))))
 have no:(!s.hd.isSome||!t.hd.isSome)=true->rl (bB Z) s t=false:=λz=>by
   cases e:rl (bB Z) s t with
   |false=>rfl
   |true=>
    obtain ⟨a,b,e1,e2,_⟩:=Qp _ e;rw [e1,e2] at z;cases z
 cases i:(!s.hd.isSome||!t.hd.isSome) with
 |true=>
   rw [i] at j;rw [if_neg (λz=>ik ((no i).symm.trans z.1))];exact qK ((cz j).trans (jG rfl))
 |false=>
 rw [i] at j
 obtain ⟨a,b,l,m⟩: ∃a b,s.hd=some a/\t.hd=some b:=by
   cases e1:s.hd with
   |none=>rw [e1] at i;cases i
   |some a=>
    cases e2:t.hd with
    |none=>rw [e1,e2] at i;cases i
    |some b=>exact ⟨a,b,rfl,rfl⟩
 refine (jj ((bV j))).trans ?_;have r:=D8 s;have w:=D8 t;rw [l] at r;rw [m] at w
 have g:aM (ag (ag (gO "Reckoning" "rank" (gJ 0)) (jm 1 cw (jb (aa 1) ab)) lJ) (ag (gO "Reckoning" "rank" (gJ 0)) (jm 1 cw (jb (aa 2) ab)) lJ) Lo) [.ae (fK Z S T),.ae s.d,.ae t.d,.un]= .ok (decide ((bB Z a:Int)>=bB Z b)):=
   jq (jg (jg rfl (jp (jc rfl rfl) rfl r) (Uz (o a l))) (jg rfl (jp (jc rfl rfl) rfl w) (Uz (q b m))) rfl)
 by_cases c:bB Z a<bB Z b
 . rw [decide_eq_false (by omega)] at g;have y:=Hh (bB Z) l m c;refine (jj ((bV g))).trans ?_
   have L:=XW (body:=j6 (gN 3) (cb (aM (ag (jZ "Reckoning" "way" 3 f (aa 0) (jb (aa 1) (jb (aa 3) ab))) cN mN)) (aJ cN) cj)) (λu=>[.ae (fK Z S T),.ae s.d,.ae t.d,u]) (gtB (bB Z) s) t.aw .un (λp B u=>by
    have n:aM (ag (jZ "Reckoning" "way" 3 f (aa 0) (jb (aa 1) (jb (aa 3) ab))) cN mN) [.ae (fK Z S T),.ae s.d,.ae t.d,.ae p.d]= .ok (!gtB (bB Z) s p):=jq (jg (wc (by decide) rfl (jc rfl (jc rfl rfl)) (h p B)) rfl (Uo _))
    cases e:gtB (bB Z) s p with
    |true=>rw [e] at n;exact (bV n).trans rfl
    |false=>rw [e] at n;exact (cz n))
   have x:cg (jm 1 aQ (jb (aa 2) ab)) [.ae (fK Z S T),.ae s.d,.ae t.d,.un]= .ok (t.aw.map Tr.d):=qu (jp (jc rfl rfl) rfl (yM t)) rfl
   cases a:t.aw.all (gtB (bB Z) s) with
   |true=>
    obtain ⟨v,e⟩:=L.1 a;rw [if_pos ⟨y,rfl⟩];exact (jj ((wO x).trans e)).trans (jG (zS (jc rfl rfl) (jl (by decide))))
   |false=>
    rw [if_neg (λz=>ik z.2)];exact qK ((wO x).trans (L.2 a))
 . rw [decide_eq_true (by omega)] at g
   rw [if_neg (λz=>by
    obtain ⟨H,I,e1,e2,E⟩:=Qp _ z.1;rw [l] at e1;rw [m] at e2;cases e1;cases e2
    exact c E)]
   exact qK ((cz g).trans (jG rfl))
abbrev Ny:Sl->ak Bool:=aM (ag (ag (jm 1 aQ (jb (aa 0) ab)) (aa 2) aW) (ag (jm 1 aQ (jb (aa 1) ab)) (aa 2) aW) dP)
noncomputable abbrev Nz:Sl->ak bg:=jB 2 (ag (aa 2) (cI 1) (n0 λi j=>i+j))
def NA {s t a b:Tr} {i:Nat} (hN:N<=100) (c:s.aw[i]?=some a) (e:t.aw[i]?=some b) (g:Tn Z N a):Ny [.ae s.d,.ae t.d,.ae (.int (i:Int))]= .ok (decide (a=b)):=by
 have e1:(s.aw.map Tr.d)[i]?=some a.d:=by rw [iE,c];rfl
 have e2:(t.aw.map Tr.d)[i]?=some b.d:=by rw [iE,e];rfl
 exact jq (jg (jg (jp (jc rfl rfl) rfl (yM s)) rfl (mR e1)) (jg (jp (jc rfl rfl) rfl (yM t)) rfl (mR e2)) (kZ hN g))
theorem NB {s t a b:Tr} {pre u v:List Tr} (hN:N<=100) (g:s.aw=pre++a::u) (m:t.aw=pre++b::v) (c:a≠b) (o: ∀p∈s.aw,Tn Z N p): ∀(k n i:Nat),i+k=pre.length->k<n->ql n Ny Nz [.ae s.d,.ae t.d,.ae (.int (i:Int))]= .ok (.nx [.ae s.d,.ae t.d,.ae (.int (pre.length:Int))])
 |k,0,i,_,h=>absurd h (ri _)
 |0,n+1,i,w,_=>by
  have q:i=pre.length:=by omega
  subst q;have j:s.aw[pre.length]?=some a:=by rw [g];simp
  have r:t.aw[pre.length]?=some b:=by rw [m];simp
  have e:=NA hN j r (o a (by rw [g];simp));rw [decide_eq_false c] at e;exact xf e
 |k+1,n+1,i,w,y=>by
  have l:i<pre.length:=by omega
  have j:s.aw[i]?=some pre[i]:=by rw [g,md l,cy l]
  have r:t.aw[i]?=some pre[i]:=by rw [m,md l,cy l]
  have e:=NA hN j r (o _ (pz j));rw [decide_eq_true rfl] at e;have x:Nz [.ae s.d,.ae t.d,.ae (.int (i))]= .ok (.nx [.ae s.d,.ae t.d,.ae (.int ((i+1):Int))]):=rfl;rw [xT e x];exact NB hN g m c o k n (i+1) (by omega) (by omega)
def jio {s t a b:Tr} {pre u v:List Tr} (hN:N<=100) (e:s.aw=pre++a::u) (g:t.aw=pre++b::v) (c:a≠b) (h: ∀p∈s.aw,Tn Z N p) (i:pre.length<64):et [s.d,t.d]= .ok (.int (pre.length:Int)):=by
 refine ue ?_;refine (jj (jr rfl)).trans ?_;refine (jj (NB hN e g c h pre.length 64 0 (by omega) i)).trans ?_;exact KC rfl
def jjx (a:Str×Nat) (b:Option (Str×Nat)):lF (se (some a)) (se b)= .ok (.bl (!decide (some a=b))):=by
 have e:eE (se (some a)) (se b)=decide (some a=b):=by
  cases b with
  |none=>rw [decide_eq_false (λz=>by cases z)];rfl
  |some b=>
  rw [L5 (by rfl) (by rfl)]
  by_cases h:a=b
  . rw [decide_eq_true (by rw [h]),decide_eq_true (by rw [h])]
  . rw [decide_eq_false (λz=>h ?_),decide_eq_false λz=>h (by cases z;rfl)];simp only [se,cU,D.am.injEq,tF,D.str.injEq,D.int.injEq,and_true] at z;exact sV z.1 (by omega)
 unfold lF;rw [e];refine jn (.inl ⟨rfl,?_,by simp [se,cU,D.bU,D.bY]⟩);cases b<;>rfl
def jeO {f:Tr->Tr->Bool} {s t:Tr} (h:s.hd=none):lL f s t=none:=by
 cases s with
 |bk i=>
  unfold lL
  split
  . simp [Tr.aw]
  . rfl
 |nd x l=>cases h
def jgt (hN:N<=100) {s t:Tr} (hT:Tn Z N s) (hK: ∀p∈s.aw,Tn Z N p) (h3:s.aw.length<=60) (h: ∀p∈t.aw,f [fK Z S T,s.d,p.d]= .ok (wD (way (bB Z) s p))) (hh: ∀p∈s.aw,∀q∈t.aw,f [fK Z S T,p.d,q.d]= .ok (wD (way (bB Z) p q))):ck f [fK Z S T,s.d,t.d]= .ok (wD (lL (gtB (bB Z)) s t)):=by
 refine qN ?_
 cases j:s.hd with
 |none=>
   have J:=D9 s;rw [j] at J;rw [jeO j]
   exact qK ((cz (oA true (by
    show (bH (aM (bv "tuple" (aa 1))) _>>=_)=_
    rw [qp (jq (zF rfl J))];rfl))).trans (jG rfl))
 |some hq=>
 have O:=D8 s;have Q:=D9 s;rw [j] at O Q;unfold lL
 have i:fY (bH (aM (bv "tuple" (aa 1)))) (fY (aM (ag (jm 1 cw (jb (aa 1) ab)) (jm 1 cw (jb (aa 2) ab)) lF)) (aM (ag (aa 1) (aa 2) dP))) [.ae (fK Z S T),.ae s.d,.ae t.d,.un,.un]= .ok (!true|| (!decide (some hq=t.hd)||decide (s=t))):=
   yN (qp (jq (zF rfl Q))) (yN (jq (jg (jp (jc rfl rfl) rfl O) (jp (jc rfl rfl) rfl (D8 t)) (jjx _ _))) (jq (jg rfl rfl (kZ hN hT))))
 rw [<-j] at i
 by_cases c:s.hd=t.hd/\s≠t
 . rw [decide_eq_true c.1,decide_eq_false c.2] at i;rw [if_pos c];have hl:=Tr.len_eq c.1;obtain ⟨pre,a,b,u,v,n,l,x,m⟩:=QK hl λz=>c.2 (Tr.ext j c.1 z)
   have y:s.aw[fu s.aw t.aw]?=some a:=by rw [m,n];simp
   have B:t.aw[fu s.aw t.aw]?=some b:=by rw [m,l];simp
   have E:t.aw.drop (fu s.aw t.aw+1)=v:=by rw [m,l];simp
   rw [y,B,E,m];rw [m] at y B E;simp only;have H:pre.length<64:=by rw [n,gm,fR] at h3;omega
   have ha:a∈s.aw:=by rw [n];simp
   have hb:b∈t.aw:=by rw [l];simp
   refine (jj ((bV i))).trans ?_;refine (jj (jr (jp (jc rfl (jc rfl rfl)) rfl (jio hN n l x hK H)))).trans ?_;have e1:(s.aw.map Tr.d)[pre.length]?=some a.d:=by rw [iE,y];rfl
   have e2:(t.aw.map Tr.d)[pre.length]?=some b.d:=by rw [iE,B];rfl
   have o:aM (ag (jZ "Reckoning" "way" 3 f (aa 0) (jb (ag (jm 1 aQ (jb (aa 1) ab)) (aa 3) aW) (jb (ag (jm 1 aQ (jb (aa 2) ab)) (aa 3) aW) ab))) cN mN) [.ae (fK Z S T),.ae s.d,.ae t.d,.ae (.int (pre.length)),.un]= .ok (!gtB (bB Z) a b):=
    jq (jg (wc (by decide) rfl (jc (jg (jp (jc rfl rfl) rfl (yM s)) rfl (mR e1)) (jc (jg (jp (jc rfl rfl) rfl (yM t)) rfl (mR e2)) rfl)) (hh a ha b hb)) rfl (Uo _))
   cases g:gtB (bB Z) a b with
   |false=>
    rw [g] at o;exact qK ((cz o).trans (jG rfl))
   |true=>
    rw [g] at o;refine (jj ((bV o))).trans ?_
    have L:=XW (body:=j6 (gN 4) (cb (aM (ag (jZ "Reckoning" "way" 3 f (aa 0) (jb (aa 1) (jb (aa 4) ab))) cN mN)) (aJ cN) cj)) (λw=>[.ae (fK Z S T),.ae s.d,.ae t.d,.ae (.int (pre.length)),w]) (gtB (bB Z) s) v .un (λp hp w=>by
      have I:p∈t.aw:=by rw [l];simp [hp]
      have r:aM (ag (jZ "Reckoning" "way" 3 f (aa 0) (jb (aa 1) (jb (aa 4) ab))) cN mN) [.ae (fK Z S T),.ae s.d,.ae t.d,.ae (.int (pre.length)),.ae p.d]= .ok (!gtB (bB Z) s p):=jq (jg (wc (by decide) rfl (jc rfl (jc rfl rfl)) (h p I)) rfl (Uo _))
      cases e:gtB (bB Z) s p with
      |true=>rw [e] at r;exact (bV r).trans rfl
      |false=>rw [e] at r;exact (cz r))
    have U:cg (jM (jm 1 aQ (jb (aa 2) ab)) (qg (ag (aa 3) (cI 1) a4)) zC gT) [.ae (fK Z S T),.ae s.d,.ae t.d,.ae (.int (pre.length)),.un]= .ok (v.map Tr.d):=by
      refine qu (qG (jp (jc rfl rfl) rfl (yM t)) (qZ (jg rfl rfl rfl)) rfl rfl) ?_;show ak.ok (cutD (t.aw.map Tr.d) (some ((pre.length+1:Nat):Int)) none)=_;rw [QU,<-Ea,E]
    cases Y:v.all (gtB (bB Z) s) with
    |true=>
      obtain ⟨w,e⟩:=L.1 Y;exact (jj ((wO U).trans e)).trans (jG (zS (jc rfl (jc rfl rfl)) (jl (show 2<=20000 by decide))))
    |false=>
      exact qK ((wO U).trans (L.2 Y))
 . rw [if_neg c]
   have:(!true|| (!decide (s.hd=t.hd)||decide (s=t)))=true:=by
    by_cases e:s.hd=t.hd
    . by_cases e2:s=t
      . rw [decide_eq_true e2];simp
      . exact (c ⟨e,e2⟩).elim
    . rw [decide_eq_false e];rfl
   rw [this] at i;exact qK ((cz i).trans (jG rfl))
def NC {e g:T0} {a:Sl} {c h:Option WR} (i:e a= .ok (wD c)) (j:g a= .ok (wD h)):Cc e g a= .ok (wD (c.or h)):=by
 unfold Cc;rw [i,zY,jgR,zY]
 cases c with
 |none=>exact j
 |some w=>rfl
def jcW {c n:Str} {i j:Nat} {e:T0} {a:Sl} {o m g d:D} {r:bg} (h:aa i a= .ok o) (l:rg c n o= .ok m) (p:aa j a= .ok g) (q:e a= .ok d) (u:iI m g d= .ok r):oD c n i j e a= .ok r:=by
 unfold oD;rw [h,zY,l,zY,p,zY,q,zY,u]
theorem sG (hN:N<=6) (B: ∀h∈Z,h.2<=3): ∀(n x y:Nat) (s t:Tr),s∈S.ps->t∈T.ps->Tn Z x s->Tn Z y t->x<=N->y<=N->x+y<n->az n [fK Z S T,s.d,t.d]= .ok (wD (way (bB Z) s t))
 |0,x,y,s,t,_,_,_,_,_,_,h=>absurd h (ri _)
 |n+1,x,y,s,t,g,j,m,o,H,I,hz=>by
  have r:=m.le H;have J:=o.le I
  have lo: ∀ {z:Nat} {q:Tr},Tn Z z q-> ∀p∈q.aw,∃w,z=w+1/\Tn Z w p:=λ{z q} u p e=>by
   cases z with
   |zero=>rw [u.no] at e;cases e
   |succ w=>exact ⟨w,rfl,u.lM p e⟩
  have L: ∀p∈t.aw,az n [fK Z S T,s.d,p.d]= .ok (wD (way (bB Z) s p)):=λp e=>by
   obtain ⟨w,rfl,hw⟩:=lo o p e;exact sG hN B n x w s p g (zN T t j p (xL e p (qO p))) m hw H (by omega) (by omega)
  have ks: ∀p∈s.aw,Tn Z N p/\az n [fK Z S T,p.d,t.d]= .ok (wD (way (bB Z) p t)):=λp e=>by
   obtain ⟨w,rfl,hw⟩:=lo m p e;exact ⟨r.Hl p e,sG hN B n w y p t (zN S s g p (xL e p (qO p))) j hw o (by omega) I (by omega)⟩
  have O: ∀p∈s.aw,∀q∈t.aw,az n [fK Z S T,p.d,q.d]= .ok (wD (way (bB Z) p q)):=λp e q u=>by
   obtain ⟨w,rfl,hw⟩:=lo m p e;obtain ⟨v,rfl,Q⟩:=lo o q u;exact sG hN B n w v p q (zN S s g p (xL e p (qO p))) (zN T t j q (xL u q (qO q))) hw Q (by omega) (by omega) (by omega)
  have U:s.aw.length<=60:=by
   cases c:s.hd with
   |none=>
    cases s with
    |bk i=>simp [Tr.aw]
    |nd x l=>cases c
   |some a=>
    have:=B _ (r.hd c);rw [Tr.zm c] at this;omega
  have E:fQ (.am [s.d,t.d])=some (.am [s.k,t.k]):=by
   exact G9 (J5 (Tr.mz _) (J5 (Tr.mz _) rfl))
  have Y:(NK.am [s.k,t.k]).bU<=8:=by
   simp only [NK.bU,NK.bY];have:=Zx r;have:=Zx J;omega
  refine qN ?_;have pr:bq (jb (aa 1) (jb (aa 2) ab)) [.ae (fK Z S T),.ae s.d,.ae t.d,.un]= .ok (.am [s.d,t.d]):=zS (jc rfl (jc rfl rfl)) (jl (show 2<=20000 by decide));refine (jj (jr pr)).trans ?_;rw [vD];refine jcW rfl rfl rfl (NC (wc (by decide) rfl (jc rfl (jc rfl rfl)) (jdO (by omega) ks)) (NC (wc (by decide) rfl (jc rfl (jc rfl rfl)) (jdP (λ_=>r.hd) (λ_=>J.hd) L)) (wc (by decide) rfl (jc rfl (jc rfl rfl)) (jgt (by omega) r (λp e=>r.Hl p e) U L O)))) ?_;refine Uh E (jhT _) (VT g j) Y (jhS _) λz=>?_
  rw [jff,vD];rfl
end
section
variable {ns:List Str}
def YN {c:List D} (h:cX c=true) (n:c.length<=1000):bF [.ai c]= .ok (.ai (below c)):=by
 have j:=ZJ (body:=j6 (gN 2) (qz 1 (jm 1 aQ (jb (aa 2) ab)))) (λa=>[.ae (.ai c),.ay (.ai a.1),a.2]) (λa d=>(a.1++aw d,.ae d)) (λds a=>cX ds=true/\a.1.length+(below ds).length<=10000) (λd ds a ⟨i,l⟩=>by
  simp only [cX,gF] at i;have e:below (d::ds)=aw d++below ds:=rfl;rw [e,gm] at l;refine ⟨?_,i.2,by simp only [gm];omega⟩;show qz 1 (jm 1 aQ (jb (aa 2) ab)) [.ae (.ai c),.ay (.ai a.1),.ae d]=_;show (ak.ok a.1>>=λds=>aQ [d]>>=_)=_;rw [KI (XG i.1)]
  exact jn (cE (by omega:_<=10000) (by decide))) c ([],.un) ⟨h,by have:=Ta h;simp only [rM];omega⟩
 have g: ∀(ds:List D) (a),(ds.foldl (λa d=>(a.1++aw d,Slot.ae d)) a).1=a.1++below ds:=by
  intro ds
  induction ds with
  |nil=>intro a;simp [below]
  |cons d ds m=>intro a;rw [Bo,m];simp [below]
 have e1:eW aQ (qo 3 [.ai c])= .ok (.rt true (.ai (below c))):=by
  have i:qo 3 [.ai c]=[.ae (.ai c),.un,.un]:=rfl;show (bO (j6 (gN 2) (qz 1 (jm 1 aQ (jb (aa 2) ab)))) c [.ae (.ai c),.ay (.ai []),.un]>>=_)=_;rw [j];show ak.ok (bg.rt true (D.ai (c.foldl (λa d=>(a.1++aw d,Slot.ae d)) ([],.un)).1))=_;rw [g];simp
 exact xN e1
def iC:Sl->ak bg:=(ap (jB 2 (ag (aa 2) (cI 1) (n0 λi j=>i+j)))
 (ap (jB 3 (ag (aa 3) (app (jb (aa 1) ab) bc) (n0 λi j=>i+j)))
 (ap (cb (fY (aM (ag (aa 2) (cI 60) oy)) (aM (ag (aa 3) (cI 1000) oy))) (aJ (cB true)) cj)
 (jB 1 (jm 1 bF (jb (aa 1) ab))))))
def kS {d:D} {a:List D} {dp ct:Nat} (h:cX a=true):iC [.ae d,.ae (.ai a),.ae (.int dp),.ae (.int ct)]=if 60<dp+1\/1000<ct+a.length then .ok (.rt true (.bl true)) else .ok (.nx [.ae d,.ae (.ai (below a)),.ae (.int ((dp+1:Nat):Int)),.ae (.int ((ct+a.length:Nat):Int))]):=by
 have e0:iC [.ae d,.ae (.ai a),.ae (.int dp),.ae (.int ct)]=((if decide ((60)< (dp:Int)+1)=true then ak.ok true else ak.ok (decide ((1000)< (ct:Int)+a.length)))>>=λb=>(if b=true then ak.ok (bg.rt true (.bl true)) else ak.ok (.nx [.ae d,.ae (.ai a),.ae (.int ((dp)+1)),.ae (.int ((ct)+a.length))])))>>=o3 (jB 1 (jm 1 bF (jb (aa 1) ab))):=by
   unfold iC;rw [x9,UD];show (ap _ _) _=_;rw [x9];rfl
 rw [e0]
 by_cases c:60<dp+1
 . rw [if_pos (by simp;omega),if_pos (.inl c)];rfl
 . rw [if_neg (by simp;omega)]
   by_cases e:1000<ct+a.length
   . rw [if_pos (.inr e)];have:decide ((1000)< (ct:Int)+a.length)=true:=by simp;omega
     rw [this];rfl
   . rw [if_neg (by omega)];have:decide ((1000)< (ct:Int)+a.length)=false:=by simp;omega
     rw [this];show (bF [.ai a]>>=_)=_;rw [YN h (by omega)];simp
theorem WB (d:D): ∀(n:Nat) (a:List D) (c e:Nat),cX a=true->c<=60->e<=1000->62<=c+n->
  ((60<c+cO a\/1000<e+nums a)->ql n (pZ (aa 1)) iC [.ae d,.ae (.ai a),.ae (.int c),.ae (.int e)]= .ok (.rt true (.bl true)))/\
  (¬(60<c+cO a\/1000<e+nums a)-> ∃i,ql n (pZ (aa 1)) iC [.ae d,.ae (.ai a),.ae (.int c),.ae (.int e)]= .ok (.nx i))
 |0,_,c,e,_,o,_,p=>by omega
 |n+1,a,c,e,j,o,p,v=>by
  cases a with
  |nil=>
   simp only [cO,nums];exact ⟨λh=>by omega,λ_=>⟨_,xf rfl⟩⟩
  |cons x r=>
   have g:=kS (d:=d) (dp:=c) (ct:=e) j;have q:=kR (x::r) (by simp);have u:=kF (x::r)
   by_cases l:60<c+1\/1000<e+(x::r).length
   . rw [if_pos l] at g;exact ⟨λ_=>X4 rfl g,λh=>absurd (by omega) h⟩
   . rw [if_neg l] at g;have m:=WB d n (below (x::r)) (c+1) (e+(x::r).length) (Vh j) (by omega) (by omega) (by omega);rw [xT rfl g,q,u]
     constructor
     . intro h;exact m.1 (by omega)
     . intro h;exact m.2 (by omega)
def i3 (d:D):Bool:=decide (60<gA d\/1000<num d)
def gr1 {d:D} (h:ir d=true):dS [d]= .ok (.bl (i3 d)):=by
 have a:=WB d 2000 [d] 0 0 (by simp [cX,h]) (by omega) (by omega) (by omega);have e1:cO [d]=gA d:=by simp [cO]
 have e2:nums [d]=num d:=by simp [nums]
 rw [e1,e2] at a;simp only [yB] at a
 have e0:fA bF (qo 4 [d])=(ql 2000 (pZ (aa 1)) iC [.ae d,.ae (.ai [d]),.ae (.int ((0:Nat):Int)),.ae (.int ((0:Nat):Int))]>>=o3 (aJ (cB false))):=by
   unfold fA;rw [x9];show (ap _ _) _=_;rw [x9];rfl
 by_cases c:60<gA d\/1000<num d
 . have:i3 d=true:=by simp [i3,c]
   rw [this];refine xN (o:= .rt true (.bl true)) ?_;rw [e0,a.1 c];rfl
 . have:i3 d=false:=by simp [i3];omega
   rw [this];obtain ⟨e,g⟩:=a.2 c;refine xN (o:= .rt true (.bl false)) ?_;rw [e0,g];rfl
def ND {c e:T0} {a:Sl} {i j:Int} (g:c a= .ok (.int i)) (h:e a= .ok (.int j)) (l:0<j):ag c e bj a= .ok (.int (i%j)):=jg g h (Wt l)
def jfA {e g:T0} {c:Sl} {i j:Int} {a b:Nat} (h:e c= .ok (.int i)) (l:g c= .ok (.int j)) (m:i.natAbs<2^a) (n:j.natAbs<2^b) (o:a+b<=134217728):ag e g o2 c= .ok (.int (i*j)):=
 jg h l (Lz (cE (Nat.add_le_add (PySem.intBits_le_iff.mpr m) (PySem.intBits_le_iff.mpr n)) o))
def jgG {c e:T0} {a:Sl} {i j:Int} (g:c a= .ok (.int i)) (h:e a= .ok (.int j)):ag c e a4 a= .ok (.int (i+j)):=jg g h rfl
def Vt (z:Str) (a:List D):gM (.am (.str z::a))=nj a:=by simp [gM]
def jfz {a b:Int}:lF (.int a) (.int b)= .ok (.bl (!(a==b))):=jcQ
def oG (l:List Int):List D:=l.map λ_=> .bl true
def jhp (l:List Int) (x:Int):Ym (kb l) (.inl x)=kb (ins l x)/\Yn (kb l) (oG l) (.inl x) (.bl true)=oG (ins l x):=by
 unfold Ym Yn ins;rw [TH]
 by_cases h:x∈l
 . simp only [h,decide_true,if_true,true_and];clear h
   induction l with
   |nil=>rfl
   |cons a l c=>
    simp only [kb,oG,e9,sx] at c ⊢;rw [c];simp
 . simp [h,kb,oG]
def NE (l:List Int) (x:Int):(ins l x).length<=l.length+1:=by
 unfold ins;split<;>simp
def oi (t:D):List Int:=met [] (eT (br t))
theorem y6 (t:Slot): ∀(ds:List D) (a:List Int) (u:Slot),(∀d∈ds,tk ns d=true)->a.length+ds.length<=2000-> ∃j,bO (j6 (gN 2) (cb (bH (aM (bv "tuple" (aa 2)))) (BU 1 (aa 2) (cB true)) cj)) ds [t,.ay (.dr (kb a) (oG a)),u]= .ok (.nx [t,.ay (.dr (kb (met a (eT ds))) (oG (met a (eT ds)))),j])
 | [],a,u,_,_=>⟨u,rfl⟩
 |d::ds,a,u,h,o=>by
  simp only [fR] at o;have hd:=h d (by simp);have g:bH (aM (bv "tuple" (aa 2))) [t,.ay (.dr (kb a) (oG a)),.ae d]= .ok (!HN d):=qp (jq (by rw [y4];exact Nu hd));rcases Jg hd with ⟨i,rfl⟩| ⟨z,l,rfl,_⟩
  . obtain ⟨p,q⟩:=jhp a i;have r:(kb a).length<aS:=by rw [TJ];exact gR (by omega) lQ
    have c:j6 (gN 2) (cb (bH (aM (bv "tuple" (aa 2)))) (BU 1 (aa 2) (cB true)) cj) (.int i) [t,.ay (.dr (kb a) (oG a)),u]= .ok (.nx [t,.ay (.dr (kb (ins a i)) (oG (ins a i))),.ae (.int i)]):=by
     show a5 ((kb a).length<aS) (ak.ok (bg.nx [t,.ay (.dr (Ym (kb a) (.inl i)) (Yn (kb a) (oG a) (.inl i) (.bl true))),.ae (.int i)]))=_;rw [jn r,p,q]
    have:=NE a i;obtain ⟨j,m⟩:=y6 t ds (ins a i) (.ae (.int i)) (λe n=>h e (by simp [n])) (by omega);exact ⟨j,by rw [j7 c,m];rfl⟩
  . have c:j6 (gN 2) (cb (bH (aM (bv "tuple" (aa 2)))) (BU 1 (aa 2) (cB true)) cj) (.am (.str z::l)) [t,.ay (.dr (kb a) (oG a)),u]= .ok (.nx [t,.ay (.dr (kb a) (oG a)),.ae (.am (.str z::l))]):=by
     rw [yA (env':=[t,.ay (.dr (kb a) (oG a)),.ae (.am (.str z::l))]) rfl,bV g];rfl
    obtain ⟨j,m⟩:=y6 t ds a (.ae (.am (.str z::l))) (λe n=>h e (by simp [n])) (by omega);exact ⟨j,by rw [j7 c,m];rfl⟩
def NF {t:D} (c:tk ns t=true) (g:gA t<=64) (h:num t<=1000):k0 [t]= .ok (.ai ((oi t).map .int)):=by
 have i:=Ua 64 t (Vi t c) g h;have e:=JX t;obtain ⟨u,j⟩:=y6 (.ae t) (br t) [] .un (VQ t c) (by simp only [rM];omega);have a:cg (jm 1 (bD 64) (jb (aa 0) ab)) [.ae t,.ay (.dr [] []),.un]= .ok (br t):=qu (jp (jc rfl rfl) rfl i) rfl;refine qN ?_;unfold kw;rw [jj (env':=[.ae t,.ay (.dr [] []),.un]) rfl];rw [jj ((wO a).trans j)];show aJ (app (jb (aa 1) ab) Do) [.ae t,.ae (.dr (kb (oi t)) (oG (oi t))),u]=_;refine jG (jX (jc rfl rfl) ?_);show a5 _ _=_;simp [kb,kD,Gq]
def nD:D->Bool
 | .am (x::r)=>decide (r.length+1<=10)&&isNm x
 | .int i=>decide (0<=i)&&decide (i<=999)
 |_=>false
def jhz {d:D} (h:ir d=true):dY [d]= .ok (.bl (nD d)):=by
 cases d with
 |am ds=>
  cases ds with
  |nil=>rfl
  |cons x r=>
   have a:ir x=true:=by
    exact (lH.mp (lH.mp h).2).1
   have c:decide ((1)<=((x::r).length:Int))=true:=by simp only [fR,decide_eq_true_eq];omega
   have hd:decide (((x::r).length:Int)<=9+1)=decide (r.length+1<=10):=by simp only [fR];rw [decide_eq_decide];omega
   have e:i0 "tuple" (.am (x::r))= .ok (.bl true):=rfl;have g:bc [.am (x::r)]= .ok (.int ((x::r).length:Int)):=rfl;have j:a4 (.int 9) (.int 1)= .ok (.int (9+1)):=rfl;have l:qo 1 [.am (x::r)]=[.ae (.am (x::r))]:=rfl
   have e0:dX dg dh (qo 1 [.am (x::r)])= .ok (.rt true (.bl (decide (r.length+1<=10)&&isNm x))):=by
    simp only [dX,l,e,g,j,x9,Y1,UF,y4,F7,Y2,Ju,Vk,xl,UC,F5,F9,ZO,F3,KQ,HH,Vw,if_true,QO,UP,WE,S0,c,hd,UE,Gd,S5,C3,Nl (XG a)];cases decide (r.length+1<=10)<;>rfl
   exact xN e0
 |int i=>
  have e0:dg [.int i]= .ok (.bl (decide (0<=i)&&decide (i<=999))):=by
   have e1:fB dU (qo 1 [.int i])= .ok (.rt true (.bl (decide (0<=i)&&decide (i<=999)))):=by
    unfold fB;rw [ZO,WE,QO];show ((ak.ok (D.bl (decide ((0)<=i)))>>=F8 (cI 999 (qo 1 [.int i])) nh (.int i))>>=_)=_;rw [xl,UP];cases decide (0<=i)<;>rfl
   exact xN e1
  have e2:dX dg dh (qo 1 [.int i])=(dg [.int i]>>=λd=> .ok (.rt true d)):=rfl;rw [e0] at e2;exact xN e2
 |_=>first|rfl|cases h
def jgQ {d:D} (h:ir d=true):gn [d]= .ok (.bl (!i3 d&&(br d).all nD)):=by
 have e1:iy dS dY (bD 64) (qo 1 [d])= .ok (.rt true (.bl (!i3 d&&(br d).all nD))):=by
  show (((dS [d]>>=By)>>=_)>>=_)=_;rw [gr1 h];show (toK _ true (.bl (!i3 d))>>=_)=_
  cases g:i3 d with
  |true=>rfl
  |false=>
   simp only [i3,decide_eq_false_iff_not] at g;have i:=Ua 64 d h (by omega) (by omega);have l:=JX d
   have a:qd false 1 [] (cg (jm 1 (bD 64) (jb (aa 0) ab))) (gN 0) qm (jm 1 dY (jb (aa 0) ab)) (qo 1 [d])= .ok (.ai ((br d).map λd=>D.bl (nD d))):=by
    refine F1 _ (λd=>ir d=true) ?_ (λe c=>xj (VR d h) c) (cE (by omega:_<=1000) (by decide)) ?_
    . show (bD 64 [d]>>=_)=_;rw [i];rfl
    . intro e j c;exact jhz c
   rw [Y2,Ju,a];show (fN [.ai ((br d).map λd=>D.bl (nD d))]>>=_)=_;rw [QZ];rfl
 exact xN e1
def Us: ∀t,tk ns t=true->eT (br t)=gM t:=WQ (λi=>by simp [br,eT,gM]) λz e _ _ h=>by
 have: ∀a:List D,(∀u∈a,eT (br u)=gM u)->eT (eP a)=nj a:=λa=>by
  induction a with
  |nil=>intro _;simp [eP,eT,nj]
  |cons d r g=>
   intro h;rw [eP,Xv,h d (by simp),g λu c=>h u (by simp [c])];simp [nj]
 rw [Vt,<-this e λu c=>(h u c).2];simp [br,eT]
def jhK (j: ∀z∈ns,isNm (.str z)=true) {t:D} (g:tk ns t=true) (l: ∀x∈gM t,0<=x/\x<=999):(br t).all nD=true:=by
 rw [iT];intro p h;have c:=VQ t g p h;rcases Jg c with ⟨i,rfl⟩| ⟨z,n,rfl,m,o,_⟩
 . have:i∈eT (br t):=by
    obtain ⟨a,b,e⟩:=List.append_of_mem h;rw [e,Xv];simp [eT]
   rw [Us t g] at this;have:=l i this;simp [nD,this]
 . simp only [nD,gF,decide_eq_true_eq];exact ⟨by omega,j z m⟩
def Ul (c: ∀z∈ns,isNm (.str z)=true) {t:D} (a:tk ns t=true) (g:gA t<=60) (h:num t<=1000) (e: ∀x∈gM t,0<=x/\x<=999):gn [t]= .ok (.bl true):=by
 rw [jgQ (Vi t a),jhK c a e];have:i3 t=false:=by simp only [i3,decide_eq_false_iff_not];omega
 rw [this];rfl
theorem NG: ∀(c l:List Int),l.Nodup->(met l c).Nodup
 | [],l,h=>h
 |x::c,l,h=>by
  refine NG c _ ?_;unfold ins
  split
  . exact h
  . rename_i g;rw [rV];exact ⟨h,by simp,λa i b e=>by simp at e;subst e;rintro rfl;exact g i⟩
def jiD (l:List Int):(dd l).length<=l.length:=by
 exact PyProof.Rows.firstMet_length_le _ _
def Z0 {t:D} (h:tk ns t=true) (x:Int):x∈oi t↔x∈gM t:=by unfold oi;rw [LU,Us t h];simp
def i01 (a b:D):ag (aa 0) (cI 0) aW [.ae (.am [a,b])]= .ok a/\ag (aa 0) (cI 1) aW [.ae (.am [a,b])]= .ok b:=⟨jg rfl rfl Gd,jg rfl rfl (Hr _ _ _)⟩
def jcm (p: ∀z∈ns,isNm (.str z)=true) {l r:D} (c:tk ns l=true) (e:tk ns r=true) (lt: ∃z q,l= .am (.str z::q)) (y:gA l<=60) (B:gA r<=60) (u:num l<=1000) (v:num r<=1000) (bl: ∀x∈gM l,0<=x/\x<=999) (E: ∀x∈gM r,0<=x/\x<=999)
  (sZ:(dd (oi r)).length/4<=(dd (oi l)).length) (L:(oi r).length<=1000) (N:(oi l).length<=1000):gp [.am [l,r]]= .ok (.bl (decide (∀i∈gM r,i∈gM l))):=by
 have g:=Ul p c y u bl;have j:=Ul p e B v E;obtain ⟨z,q,cL⟩:=lt;have m:i0 "tuple" l= .ok (.bl true):=by rw [cL];rfl
 have H:=NF c (by omega) u;have I:=NF e (by omega) v;obtain ⟨n,w⟩:=i01 l r;have J:tH=4096:=rfl
 have a:o9 (.ai ((oi r).map .int)) (.ai ((oi l).map .int))= .ok (.bl (decide (∀i∈gM r,i∈gM l))):=by
  unfold o9;simp only [TC];rw [jn ⟨by omega,by omega,by omega⟩];congr 2;refine decide_eq_decide.mpr ⟨λh i o=>(Z0 c i).mp (h i ((Z0 e i).mpr o)),λh i o=>(Z0 c i).mpr (h i ((Z0 e i).mp o))⟩
 refine qN ?_;unfold iz;rw [jj ((bV (yN (qp (jq (b:=true) rfl)) (jq (jg (jX (jc rfl rfl) rfl) rfl jfz)))))];refine (jj ((bV (yN (qp (jq (jp (jc n rfl) rfl g))) (yN (qp (jq (jp (jc w rfl) rfl j))) (qp (oA true (jq (by rw [y4,n];exact m))))))))).trans ?_;exact jG (jg (jp (jc w rfl) rfl I) (jp (jc n rfl) rfl H) a)
def HP {z:Str} (h:isNm (.str z)=true):z.length<=8:=by
 rw [Xu] at h;simp only [gF,decide_eq_true_eq] at h;omega
def sI (ns:List Str) (l:List Hd):Prop:=l.Nodup/\ ∀x∈l,x.1∈ns/\0<=x.2/\x.2<=9
def jdg {l:List Hd} {ds:List D} (h:sI ns l) (hd: ∀d∈ds,tk ns d=true):sI ns (n8 l (cP ds)):=
 ⟨LZ h.1,λx a=>(Xy a).elim (h.2 x) λz=>LX hd x z⟩
theorem YY (j:ns.length<=7) (T:Slot): ∀(g:List D) (l:List Hd) (s u:Slot),(∀t∈g,tk ns t=true/\gA t<=64/\num t<=1000)->sI ns l-> ∃c m n,sI ns c/\(∀x,x∈c↔x∈l\/ ∃t∈g,x∈cP (br t))/\
  bO (j6 (gN 2) (cG (cg (jm 1 (bD 64) (jb (aa 2) ab))) (gN 3) (cb (aM (bv "tuple" (aa 3))) (JC 1 (jm 1 cw (jb (aa 3) ab)) (cB true)) cj))) g [T,.ay (.bX (l.map dD) (dI l)),s,u]= .ok (.nx [T,.ay (.bX (c.map dD) (dI c)),m,n])
 | [],l,s,u,_,i=>⟨l,s,u,i,λx=>⟨.inl,λh=>h.elim id λ⟨_,h,_⟩=>by cases h⟩,rfl⟩
 |t::g,l,s,u,h,i=>by
  obtain ⟨o,w,y⟩:=h t (by simp);have r:=TK i.1 i.2;have v:=JX t;have z:=Ua 64 t (Vi t o) w y;obtain ⟨B,E⟩:=J7 T (.ae t) (br t) l u (VQ t o) (by omega);obtain ⟨c,m,n,H,I,J⟩:=YY j T g (n8 l (cP (br t))) (.ae t) B (λe L=>h e (by simp [L])) (jdg i (VQ t o));refine ⟨c,m,n,H,λx=>?_,?_⟩
  . rw [I x]
    constructor
    . rintro (q| ⟨p,a,q⟩)
      . rcases Xy q with q|q
        . exact .inl q
        . exact .inr ⟨t,cu,q⟩
      . exact .inr ⟨p,de _ a,q⟩
    . rintro (q| ⟨p,a,q⟩)
      . exact .inl (Xz (.inl q))
      . rcases cQ.mp a with e|e
        . subst e;exact .inl (Xz (.inr q))
        . exact .inr ⟨p,e,q⟩
  . refine (j7 ?_).trans J;exact (wO (oA (br t) (qu (jp (jc rfl rfl) rfl z) rfl))).trans E
noncomputable def rl (p:D×D):D:= .am [p.1,p.2]
def obj (ps:List (D×D)) (a:List D):D:= .obj "Rules" ["listed", "named"] [.ai (ps.map rl),.ai a]
def vV {e g2:Sl->ak ff} {c a:Sl} (h:e c= .ok (.nx a)):o5 e g2 c=g2 a:=by
 show (e c>>=_)=_;rw [h];rfl
def jjD {t:TZ} {c g2:Sl->ak ff} {a:Sl} (h:t a= .ok false):AL t c g2 a=g2 a:=by
 show (t a>>=_)=_;rw [h];rfl
def VI {f:T0} {a:Sl} {c n:Str} {i:Nat} {fs:List Str} {ds:List D} {d:D} (h:f a= .ok d) (e:a[i]?=some (.ay (.obj c fs ds))) (g:fs.length<1000):WU i c n f a= .ok (.nx (a.set i (.ay (.obj c (km n fs) (kn n d fs ds))))):=by
 have j:o6 i c a= .ok (fs,ds):=by
  unfold o6;rw [e];exact jn rfl
 show (f a>>=λd=>o6 i c a>>=_)=_;rw [h];rw [j];exact jn g
def ZG (ps:List (D×D)) (a:List D):bR [obj ps a]= .ok (.ai a):=by
 refine qN ?_;exact jG (jX (jc rfl rfl) rfl)
def NH (ps:List (D×D)) (a:List D):bm [obj ps a]= .ok (.ai (ps.map rl)):=by
 refine qN ?_;exact jG (jX (jc rfl rfl) rfl)
structure Ru (ns:List Str) (l r:D):Prop where
 tl:tk ns l=true
 tr:tk ns r=true
 lt: ∃z ts,l= .am (.str z::ts)
 hl:gA l<=20
 hr:gA r<=20
 nl:num l<=100
 nr:num r<=100
 sub: ∀x∈gM r,x∈gM l
 bk: ∀x∈gM l,0<=x/\x<=999
 sZ: ∃m:List Int,m.length<=3/\ ∀x∈gM r,x∈m
theorem NI {l:List Int}: ∀(a:List Int) (b:Nat),l.length<=b->(met l a).length<=b+a.length
 | [],b,h=>h
 |x::a,b,h=>by
  rw [Ug,fR];have:=NI a (b+1) (cE (NE l x) (by omega));omega
def jgu {t:D} (h:tk ns t=true) (c:num t<=100):(oi t).length<=1000:=by
 unfold oi;have a:=NI (l:=[]) (eT (br t)) 0 (bn _)
 have e:(eT (br t)).length<=(br t).length:=by
  clear a;generalize br t=ds
  induction ds with
  |nil=>simp [eT]
  |cons d r g=>cases d<;>simp only [eT,fR]<;>omega
 have i:=JX t;omega
def jc8 (c: ∀z∈ns,isNm (.str z)=true) {l r:D} (h:Ru ns l r):gp [.am [l,r]]= .ok (.bl true):=by
 obtain ⟨m,e,g⟩:=h.sZ;have i:(oi r).length<=3:=cE (List.Nodup.length_le_of_subset (NG _ _ sY) λx a=>g x ((Z0 h.tr x).mp a)) e;have j:=jiD (oi r);rw [jcm c h.tl h.tr h.lt (by have:=h.hl;omega) (by have:=h.hr;omega) (by have:=h.nl;omega) (by have:=h.nr;omega) h.bk (λx a=>h.bk x (h.sub x a)) (by omega) (by omega) (jgu h.tl h.nl),decide_eq_true h.sub]
def NJ (ns:List Str) (ps:List (D×D)):Prop:= ∀p∈ps,Ru ns p.1 p.2
def jgB (g: ∀z∈ns,isNm (.str z)=true) {ps:List (D×D)} (h:NJ ns ps) (l:ps.length<=40):eF [.ai (ps.map rl)]= .ok (.bl true):=by
 have c:aM (ag (app (jb (aa 0) ab) bc) (cI 40) oy) [.ae (.ai (ps.map rl))]= .ok (decide ((40:Int)<ps.length)):=jq (jg (jX (jc rfl rfl) (oA (.int ps.length) (by show ak.ok (D.int ((ps.map rl).length:Int))=_;rw [bM]))) rfl rfl);rw [decide_eq_false (by omega)] at c;refine qN ?_;refine (jj ((bV (yN (qp (b:=true) rfl) c)))).trans ?_
 refine jG (jX (jc (oA (.ai ((ps.map rl).map λe=> .bl true)) (F1 (λ_=> .bl true) (λe=>e∈ps.map rl) (qu rfl rfl) (λe a=>a) (by rw [bM];exact jl (by omega)) (λe i a=>by
  obtain ⟨p,j,rfl⟩:=cK.mp a
  exact jp (jc rfl rfl) rfl (jc8 g (h p j))))) rfl) ((QZ (ps.map rl) λ_=>true).trans ?_))
 simp
def WL (i:ns.length<=7) (j: ∀z∈ns,isNm (.str z)=true) {e:List D} {m:List Hd} (h: ∀t∈e,tk ns t=true/\gA t<=64/\num t<=1000) (B:m.length<=60) (n: ∀t∈e,∀x∈cP (br t),x∈m): ∃l,bN [.ai e]= .ok (.ai ((wI l).map cU))/\l.Nodup/\l.length<=60/\ ∀x,x∈l↔ ∃t∈e,x∈cP (br t):=by
 obtain ⟨r,E,H,g,o,v⟩:=YY i (.ae (.ai e)) e [] .un .un h ⟨sY,λx p=>by cases p⟩;have c: ∀x,x∈r↔ ∃t∈e,x∈cP (br t):=λx=>(o x).trans ⟨λq=>q.elim (λz=>by cases z) id,.inr⟩
 have u:=wo g.1 λx p=>by
  obtain ⟨t,w,z⟩:=(c x).mp p;exact n t w x z
 refine ⟨r,qN ?_,g.1,by omega,c⟩;refine (jj ((wO rfl).trans v)).trans ?_;exact jG (jX (jc rfl rfl) (Wj g.1 (by omega) λa y=>jl (cE (HP (j _ (g.2 a y).1)) (by decide))))
noncomputable def nE (ps:List (D×D)):List Hd:=ps.flatMap λp=>cP (br p.1)++cP (br p.2)
def Cr {l r:D} (h:Ru ns l r):(tk ns l=true/\gA l<=64/\num l<=1000)/\(tk ns r=true/\gA r<=64/\num r<=1000):=⟨⟨h.tl,by have:=h.hl;omega,by have:=h.nl;omega⟩,⟨h.tr,by have:=h.hr;omega,by have:=h.nr;omega⟩⟩
def jhc (j:ns.length<=7) (c: ∀z∈ns,isNm (.str z)=true) {ps:List (D×D)} {m:List Hd} (h:NJ ns ps) (v:ps.length<=40) (w:m.length<=60) (e: ∀x∈nE ps,x∈m) {f:TX} {g:Sl} (y:f g= .ok [.ai (ps.map rl)]):
   ∃l:List Hd,xw "Rules" 1 a7 f g= .ok (obj ps ((wI l).map cU))/\l.Nodup/\ ∀x,x∈l↔x∈nE ps:=by
 have u:ps.length<=aS:=jl (by omega)
 have i: ∀p∈ps,∀x,x∈cP (br p.1)\/x∈cP (br p.2)->x∈nE ps:=λp a x hx=>by
   unfold nE;rw [lX];exact ⟨p,a,ij.mpr hx⟩
 obtain ⟨l,B,n,_,o⟩:=WL j c (λt q=>by
   rcases ij.mp q with z|z
   . obtain ⟨p,a,rfl⟩:=cK.mp z;exact (Cr (h p a)).1
   . obtain ⟨p,a,rfl⟩:=cK.mp z
     exact (Cr (h p a)).2) w (λt q x hx=>by
   rcases ij.mp q with z|z
   . obtain ⟨p,a,rfl⟩:=cK.mp z;exact e x (i p a x (.inl hx))
   . obtain ⟨p,a,rfl⟩:=cK.mp z
     exact e x (i p a x (.inr hx)))
 refine ⟨l,?_,n,λx=>?_⟩
 . have E:=jgB c h v
   have e0:cJ bN eF [.ay (.obj "Rules" [] []),.ae (.ai (ps.map rl))]= .ok (.nx [.ay (obj ps ((wI l).map cU)),.ae (.ai (ps.map rl))]):=by
     refine (vV ((jjD (oA false (qp (jq (jp (jc rfl rfl) rfl E))))))).trans ?_;refine (vV ((VI (jX (jc rfl rfl) rfl) rfl (by decide)))).trans ?_;have H:=QV id (L:=ps) (js:=[]) (fe:=aa 0) (fi:=cg (aa 1)) (env:=[.ay (.obj "Rules" ["listed"] [.ai (ps.map rl)]),.ae (.ai (ps.map rl))]) (·.1) (λ_=>True) rfl rfl (λ_ _=>trivial) u (λp r _=>rfl);have I:=QV id (L:=ps) (js:=[]) (fe:=aa 1) (fi:=cg (aa 1)) (env:=[.ay (.obj "Rules" ["listed"] [.ai (ps.map rl)]),.ae (.ai (ps.map rl))]) (·.2) (λ_=>True) rfl rfl (λ_ _=>trivial) u (λp r _=>rfl);refine (VI (jp (jc (jg H I (xF (by simp only [bM];exact jl (by omega)))) rfl) rfl B) rfl (by decide)).trans ?_;rfl
   exact Xq y rfl (je2 rfl e0)
 . rw [o x];unfold nE;simp only [ij,cK,lX]
   constructor
   . rintro ⟨t,(⟨p,a,rfl⟩| ⟨p,a,rfl⟩),hx⟩
     . exact ⟨p,a,.inl hx⟩
     . exact ⟨p,a,.inr hx⟩
   . rintro ⟨p,a,hx|hx⟩
     . exact ⟨p.1,.inl ⟨p,a,rfl⟩,hx⟩
     . exact ⟨p.2,.inr ⟨p,a,rfl⟩,hx⟩
end
noncomputable def lT (a:List Str):List Hd:=a.flatMap λz=>[(z,0),(z,1),(z,2),(z,3)]
def QY {c:List Str} (h:c.length<=7):(lT c).length<=60:=by
 have: ∀l:List Str,(lT l).length=4*l.length:=λl=>by
  induction l with
  |nil=>rfl
  |cons a r e=>
   show ([(a,0),(a,1),(a,2),(a,3)]++lT r).length=_;rw [gm,e];simp;omega
 rw [this];omega
def UU {a:List Str} {z:Str} {k:Nat} (c:z∈a) (g:k<=3):(z,(k:Int))∈lT a:=by
 unfold lT;rw [lX];refine ⟨z,c,?_⟩;have:k=0\/k=1\/k=2\/k=3:=by omega
 rcases this with e|e|e|e<;>subst e<;>simp
structure Tm (ns:List Str) (h m:Nat) (t:Tr):Prop where
 tk:tk ns t.d=true
 hg:gA t.d<=h
 nu:num t.d<=m
 bk: ∀x∈gM t.d,0<=x/\x<=999
 hd: ∀x∈cP (br t.d),x∈lT ns
section
variable {ns:List Str}
def Tm.up {h m a c:Nat} {t:Tr} (x:Tm ns h m t) (e:h<=a) (g:m<=c):Tm ns a c t:=⟨x.tk,cE x.hg e,cE x.nu g,x.bk,x.hd⟩
def jjQ {i:Nat} (h:i<=999):Tm ns 1 1 (.bk i):=by
 refine ⟨rfl,?_,?_,?_,?_⟩
 . simp [Tr.d,gA]
 . simp [Tr.d,num]
 . intro x a;simp [Tr.d,gM] at a;omega
 . intro b c;simp [Tr.d,br,cP] at c
def NL {a b:Nat} {x:Str} {l:List Tr} (o:x∈ns) (q:l.length<=3) (h: ∀p∈l,Tm ns a b p):Tm ns (a+1) (l.length*b+1) (.nd x l):=by
 have j: ∀d∈l.map Tr.d,∃p∈l,d=p.d:=λd hd=>by
   obtain ⟨p,g,rfl⟩:=cK.mp hd;exact ⟨p,g,rfl⟩
 refine ⟨?_,?_,?_,?_,?_⟩
 . rw [Tr.bI];exact DC o (by rw [bM];omega) λt i=>by obtain ⟨p,g,rfl⟩:=j t i;exact (h p g).tk
 . rw [Tr.bI,QI];have:=Vc λt i=>by obtain ⟨p,g,rfl⟩:=j t i;exact (h p g).hg
   omega
 . rw [Tr.bI,Xm];have:=LS λt i=>by obtain ⟨p,g,rfl⟩:=j t i;exact (h p g).nu
   rw [bM] at this;omega
 . intro y m;rw [Tr.bI,Vt,ZZ,lX] at m;obtain ⟨t,i,m⟩:=m;obtain ⟨p,g,rfl⟩:=j t i;exact (h p g).bk y m
 . intro c n;rw [Tr.bI] at n;rcases iB.mp n with e| ⟨t,i,n⟩
   . rw [e,bM];exact UU o q
   . obtain ⟨p,g,rfl⟩:=j t i;exact (h p g).hd c n
structure sJ (ns:List Str):Prop where
 ln:ns.length<=7
 nm: ∀z∈ns,isNm (.str z)=true
def jfU (hN:sJ ns) {s t:Tr} (a:Tm ns 20 100 s) (c:Tm ns 20 100 t): ∃l:List Hd,bN [.ai [s.d,t.d]]= .ok (.ai ((wI l).map cU))/\ ∀x,x∈wI l↔x∈cP (br s.d)\/x∈cP (br t.d):=by
 obtain ⟨l,e,_,_,i⟩:=WL hN.ln hN.nm (λu g=>by
  rcases cQ.mp g with e|e
  . subst e;exact ⟨a.tk,by have:=a.hg;omega,by have:=a.nu;omega⟩
  . rw [iw.mp e];exact ⟨c.tk,by have:=c.hg;omega,by have:=c.nu;omega⟩) (QY hN.ln) (λu g x h=>by
  rcases cQ.mp g with e|e
  . subst e;exact a.hd x h
  . rw [iw.mp e] at h;exact c.hd x h)
 refine ⟨l,e,λx=>?_⟩;rw [dM,i x];simp
end
abbrev NM:Sl->ak bg:=cb (aM (ag (aa 2) (aa 1) rk)) YG cj
def jfG {e:List (Str×Nat)} {L u:Slot} {a:Hd} (c:a∈c6 e):j6 (gN 2) NM (cU a) [L,.ae (ci e),u]= .ok (.nx [L,.ae (ci e),.ae (cU a)]):=
 we rfl (bV (jq (jg rfl rfl ((jhV e a).trans (by rw [decide_eq_true c];rfl)))))
theorem Ui {c:List (Str×Nat)} {L:Slot}: ∀(l:List Hd) (u:Slot),(∀a∈l,a∈c6 c)-> ∃v,bO (j6 (gN 2) NM) (l.map cU) [L,.ae (ci c),u]= .ok (.nx [L,.ae (ci c),v])
 | [],u,_=>⟨u,rfl⟩
 |a::l,u,h=>by
  obtain ⟨v,e⟩:=Ui l (.ae (cU a)) λb g=>h b (de _ g)
  exact ⟨v,(j7 (jfG (h a cu))).trans e⟩
def jfE {c:List (Str×Nat)} {l:List Hd} (h: ∀a∈l,a∈c6 c):ee [.ai (l.map cU),ci c]= .ok .a6:=by
 obtain ⟨v,e⟩:=Ui (L:= .ae (.ai (l.map cU))) l .un h;have:fD (qo 3 [.ai (l.map cU),ci c])= .ok (.nx [.ae (.ai (l.map cU)),.ae (ci c),v]):=wN (qu rfl rfl) e;show aE true 3 fD _=_;rw [xN this];rfl
def uj {a b:List (Str×Nat)} (h:eZ a=eZ b):a=b:=by
 unfold eZ at h;simp at h;exact ug h
def pk3 (c:List (Str×Nat)) (s t:Tr):bC [.ae (eZ c),.ae s.d,.ae t.d]=i2 c s t:=by
 obtain ⟨a,g,i,e,h⟩:=Eb (p:=λp=> ∃a g i,(([.ae (eZ c),.ae s.d,.ae t.d]:Sl)=[.ae (eZ a),.ae g.d,.ae i.d]\/ ∃r,([.ae (eZ c),.ae s.d,.ae t.d]:Sl)=[.ae (eZ a),r,.ae g.d,.ae i.d])/\p=i2 a g i) ⟨i2 c s t,c,s,t,.inl rfl,rfl⟩;rcases e with e| ⟨r,e⟩
 . simp at e;obtain ⟨e1,e2,j⟩:=e;cases uj e1;cases Tr.hG _ _ e2;cases Tr.hG _ _ j;exact h
 . have:=congrArg List.length e;cases this
def pk4 (c:List (Str×Nat)) (r:Slot) (s t:Tr):bC [.ae (eZ c),r,.ae s.d,.ae t.d]=i2 c s t:=by
 obtain ⟨a,g,i,e,h⟩:=Eb (p:=λp=> ∃a g i,(([.ae (eZ c),r,.ae s.d,.ae t.d]:Sl)=[.ae (eZ a),.ae g.d,.ae i.d]\/ ∃j,([.ae (eZ c),r,.ae s.d,.ae t.d]:Sl)=[.ae (eZ a),j,.ae g.d,.ae i.d])/\p=i2 a g i) ⟨i2 c s t,c,s,t,.inr ⟨r,rfl⟩,rfl⟩;rcases e with e| ⟨j,e⟩
 . have:=congrArg List.length e;cases this
 . simp at e;obtain ⟨e1,_,e2,l⟩:=e;cases uj e1;cases Tr.hG _ _ e2;cases Tr.hG _ _ l;exact h
def KK {e:Type} {c:Sl->e} {f:e->Sl->ak D} {a:Sl} {d:D} {p:e} (g:c a=p) (h:f p a= .ok d):Jj c f a= .ok d:=by
 unfold Jj;rw [g];exact h
def NN {a:List (Str×Nat)} {S T:Tr} (c:(hJ S T).length<aS):aY (i2 a S T) (.obj "Reckoning" [] []) [ci a]= .ok (.a6,fK a S T):=by
 have e:cM (i2 a S T) [.ay (.obj "Reckoning" ["rank"] [ci a]),.ae (ci a)]= .ok (.mem (hJ S T) (D2 (bB a))):=jn c
 have g:bo (i2 a S T) [.ay (.obj "Reckoning" [] []),.ae (ci a)]= .ok (.nx [.ay (fK a S T),.ae (ci a)]):=by
  have h:WU 0 "Reckoning" "rank" (aa 1) [.ay (.obj "Reckoning" [] []),.ae (ci a)]= .ok (.nx [.ay (.obj "Reckoning" ["rank"] [ci a]),.ae (ci a)]):=rfl;show (WU 0 "Reckoning" "rank" (aa 1) [.ay (.obj "Reckoning" [] []),.ae (ci a)]>>=_)=_;show (cM (i2 a S T) [.ay (.obj "Reckoning" ["rank"] [ci a]),.ae (ci a)]>>=_)=_;rw [e];rfl
 show a5 (([ci a]:List D).length=1) (bo (i2 a S T) [.ay (.obj "Reckoning" [] []),.ae (ci a)]>>=_)=_;refine (jn (rfl)).trans ?_;rw [g];rfl
structure rB (ns:List Str) (hs:List (Str×Nat)):Prop where
 Ec:sJ ns
 h3: ∀h∈hs,h.1∈ns/\h.2<=3
section
variable {ns:List Str} {Y:List (Str×Nat)}
def uA (P:rB ns Y) {s t:Tr} (e:Tn Y 6 s) (g:Tn Y 6 t):(hJ s t).length<aS:=by
 have c: ∀h∈Y,h.2<=3:=λh i=>(P.h3 h i).2
 rw [jcv];have a:sN 6=1093:=rfl;exact Fi (Nat.mul_le_mul (U2 c e) (U2 c g)) (by rw [a];decide)
def Cs (P:rB ns Y) {s t:Tr} (a:Tn Y 6 s) (c:Tn Y 6 t):az 32 [fK Y s t,s.d,t.d]= .ok (wD (way (bB Y) s t)):=
 sG (by decide) (λh e=>(P.h3 h e).2) 32 6 6 s t (qO s) (qO t) a c (bn _) (bn _) (by decide)
def NO {c:Sl} {e:TX} {l:List Hd} (h:e c= .ok [.ai (l.map cU),ci Y]):(∀a∈l,a∈c6 Y)->vc (jm 2 ee e) c= .ok (.nx c):=λg=>jgg (jp h rfl (jfE g))
def jh2 {s t:Tr} {l:List Hd} (e:bN [.ai [s.d,t.d]]= .ok (.ai (l.map cU))):jb (jm 1 bN (jb (aZ (jb (aa 1) (jb (aa 2) ab))) ab)) (jb (gO "Ranks" "rank" (gJ 0)) ab) [.ae (eZ Y),.ae s.d,.ae t.d]= .ok [.ai (l.map cU),ci Y]:=
 jc (jp (jc (qP (jc rfl (jc rfl rfl)) (jl (show 2<=20000 by decide))) rfl) rfl e) (jc rfl rfl)
def jip (P:rB ns Y) {s t:Tr} (g:Tm ns 20 100 s) (mt:Tm ns 20 100 t) (c:Tn Y 6 s) (e:Tn Y 6 t):bW [eZ Y,s.d,t.d]= .ok (.bl (gtB (bB Y) s t)):=by
 obtain ⟨l,e1,e2⟩:=jfU P.Ec g mt;refine qN ?_;refine (jj (NO (jh2 e1) λa h=>((e2 a).mp h).elim ((Cp P.h3 6 s c).hd a) ((Cp P.h3 6 t e).hd a))).trans (jG (jg (KK (pk3 Y s t) (wc (by decide) ?_ (jc rfl (jc rfl rfl)) (Cs P c e))) rfl (Nx _)));exact Xq (jc rfl rfl) rfl (NN (uA P c e))
def Ct {m:Str} {F:TW} {i:Nat} {a:Sl} {ps:List (D×D)} {L:List D} {d:D} (g:aa i a= .ok (obj ps L)) (h:(["listed", "named"]:List Str).contains m=false) (j:F [obj ps L]= .ok d):jZ "Rules" m 1 F (aa i) jO a= .ok d:=by
 have e:jZ "Rules" m 1 F (aa i) jO a=(aa i a>>=λo=>match o with
  | .obj c ns l=>a5 (c= "Rules" /\ns.contains m=false) (a5 (([]:List D).length+1=1) (F [.obj c ns l]))
  |_=> .aj):=rfl
 rw [e,g];show a5 (("Rules" :Str)= "Rules" /\(["listed", "named"]:List Str).contains m=false) (a5 (([]:List D).length+1=1) (F [obj ps L]))=_;rw [jn ⟨rfl,h⟩];exact (jn (by rfl)).trans j
def pd (q:Tr×Tr):D×D:=(q.1.d,q.2.d)
abbrev sK:Sl->ak bg:=cb (aM (ag (Jj bC λp=>(jZ "Reckoning" "way" 3 (az 32) (xw "Reckoning" 1 (aY p) (jb (gO "Ranks" "rank" (gJ 0)) ab)) (jb (aa 2) (jb (aa 3) ab)))) cN mN)) (aJ (cB false)) cj
def bK (Y:List (Str×Nat)) (a:List (Tr×Tr)):Bool:=a.all λq=>gtB (bB Y) q.1 q.2
theorem YO (P:rB ns Y) {R:Slot}: ∀(a:List (Tr×Tr)) (u v:Slot),(∀q∈a,Tn Y 6 q.1/\Tn Y 6 q.2)->
  (bK Y a=true-> ∃l m,bO (j6 (g2 (gN 2) (gN 3)) sK) ((a.map pd).map rl) [.ae (eZ Y),R,u,v]= .ok (.nx [.ae (eZ Y),R,l,m]))/\
  (bK Y a=false->bO (j6 (g2 (gN 2) (gN 3)) sK) ((a.map pd).map rl) [.ae (eZ Y),R,u,v]= .ok (.rt true (.bl false)))
 | [],u,v,_=>⟨λ_=>⟨u,v,rfl⟩,λh=>by cases h⟩
 |q::a,u,v,h=>by
  obtain ⟨n,o⟩:=h q cu;have w:=YO P (R:=R) a (.ae q.1.d) (.ae q.2.d) λr x=>h r (de _ x)
  have g:aM (ag (Jj bC λp=>(jZ "Reckoning" "way" 3 (az 32) (xw "Reckoning" 1 (aY p) (jb (gO "Ranks" "rank" (gJ 0)) ab)) (jb (aa 2) (jb (aa 3) ab)))) cN mN) [.ae (eZ Y),R,.ae q.1.d,.ae q.2.d]= .ok (!gtB (bB Y) q.1 q.2):=
   jq (jg (KK (pk4 Y R q.1 q.2) (wc (by decide) (Xq (jc rfl rfl) rfl (NN (uA P n o))) (jc rfl (jc rfl rfl)) (Cs P n o))) rfl (Uo _))
  have i:bK Y (q::a)=(gtB (bB Y) q.1 q.2&&bK Y a):=rfl
  cases c:gtB (bB Y) q.1 q.2 with
  |true=>
   rw [c] at g;have j:j6 (g2 (gN 2) (gN 3)) sK (rl (pd q)) [.ae (eZ Y),R,u,v]= .ok (.nx [.ae (eZ Y),R,.ae q.1.d,.ae q.2.d]):=we rfl ((bV g));rw [i,c,Bool.true_and]
   exact ⟨λz=>by
    obtain ⟨l,m,e⟩:=w.1 z
    exact ⟨l,m,(j7 j).trans e⟩,λz=>(j7 j).trans (w.2 z)⟩
  |false=>
   rw [c] at g;have j:j6 (g2 (gN 2) (gN 3)) sK (rl (pd q)) [.ae (eZ Y),R,u,v]= .ok (.rt true (.bl false)):=we rfl ((cz g));rw [i,c,Bool.false_and];exact ⟨(λz=>by cases z),λ_=>XD j⟩
def NP (P:rB ns Y) {g:List (Tr×Tr)} {L:List Hd} (j: ∀a∈L,a∈c6 Y) (h: ∀q∈g,Tn Y 6 q.1/\Tn Y 6 q.2):bx [eZ Y,obj (g.map pd) (L.map cU)]= .ok (.bl (bK Y g)):=by
 have i:cg (jZ "Rules" "told" 1 bm (aa 1) jO) [.ae (eZ Y),.ae (obj (g.map pd) (L.map cU)),.un,.un]= .ok ((g.map pd).map rl):=qu (Ct rfl (by decide) (NH _ _)) rfl;have lp:=YO P (R:= .ae (obj (g.map pd) (L.map cU))) g .un .un h;refine qN ?_;refine (jj (NO (oA [.ai (L.map cU),ci Y] (jc (Ct rfl (by decide) (ZG _ _)) (jc rfl rfl))) j)).trans ?_
 cases c:bK Y g with
 |true=>
  obtain ⟨l,m,e⟩:=lp.1 c;exact (jj (wN i e)).trans rfl
 |false=>exact qK (wN i (lp.2 c))
end
abbrev H2:=Str×Nat
noncomputable def dA:Nat->List H2->List (List H2)
 |0,_=>[[]]
 |_+1,[]=>[[]]
 |n+1,a::r=>((a::r).zipIdx 0).flatMap λq=>(dA n ((a::r).take q.2++(a::r).drop (q.2+1))).map (q.1:: ·)
def bP:Nat->Nat
 |0=>1
 |n+1=>(n+1)*bP n
def VB {l:List H2} {q:H2×Nat} (h:q∈l.zipIdx 0): ∃a:q.2<l.length,l[q.2]=q.1:=by
 have:=List.mem_zipIdx h;exact ⟨by omega,by have:=this.2.2;simp at this;exact this.symm⟩
def wL {l:List H2} {k:Nat} (h:k<l.length):(l.take k++l.drop (k+1)).length=l.length-1:=by
 rw [gm,Ap,Ar];omega
theorem XF {c e:Type} {f:c->List e} {b:Nat}: ∀(l:List c),(∀a∈l,(f a).length<=b)->(l.flatMap f).length<=l.length*b
 | [],_=>by simp
 |a::l,h=>by
  rw [tD,gm,fR,Br];have:=XF l λx g=>h x (de _ g)
  have:=h a cu;omega
theorem NQ: ∀n,1<=bP n
 |0=>bn _
 |n+1=>by show 1<=(n+1)*bP n;exact Nat.mul_pos (by omega) (NQ n)
theorem uz: ∀(n:Nat) (l:List H2),l.length<=n->(dA n l).length<=bP n
 |0,_,_=>by simp [dA,bP]
 |n+1,[],_=>by simp only [dA,C3];exact NQ _
 |n+1,a::r,h=>by
  have:=XF (f:=λq:H2×Nat=>(dA n ((a::r).take q.2++(a::r).drop (q.2+1))).map (q.1:: ·)) ((a::r).zipIdx 0) λq c=>by
   obtain ⟨e,_⟩:=VB c;rw [bM];refine uz n _ ?_;rw [wL e];omega
  rw [HM] at this;exact cE this (Cd _ h)
def uG {l:List H2} {k:Nat} (h:k<l.length):(l[k]::(l.take k++l.drop (k+1))).Perm l:=by
 have e:l=l.take k++l[k]::l.drop (k+1):=by rw [Ed,GS]
 calc (l[k]::(l.take k++l.drop (k+1))).Perm (l.take k++l[k]::l.drop (k+1)):=List.perm_middle.symm
  _=l:=e.symm
theorem xu: ∀(n:Nat) (l p:List H2),l.length<=n->p∈dA n l->p.Perm l
 |0,l,p,h,c=>by
  cases DZ.mp (Nat.le_zero.mp h);simp only [dA,iw] at c;rw [c]
 |n+1,[],p,h,c=>by
  simp only [dA,iw] at c;rw [c]
 |n+1,a::r,p,h,c=>by
  simp only [dA,lX] at c;obtain ⟨q,i,c⟩:=c;obtain ⟨g,j⟩:=VB i;obtain ⟨m,e,rfl⟩:=cK.mp c;rw [<-j];exact (List.Perm.cons _ (xu n _ m (by rw [wL g];omega) e)).trans (uG g)
theorem VZ: ∀(n:Nat) (l p:List H2),l.length<=n->p.Perm l->p∈dA n l
 |0,l,p,h,c=>by
  cases DZ.mp (Nat.le_zero.mp h);cases c.eq_nil;simp [dA]
 |n+1,[],p,h,c=>by
  cases c.eq_nil;simp [dA]
 |n+1,a::r,p,h,c=>by
  cases p with
  |nil=>exact absurd c.length_eq (by simp)
  |cons x i=>
   have j:=c.mem_iff.mp cu;obtain ⟨k,g,e⟩:=yt.mp j;simp only [dA,lX];refine ⟨(x,k),?_,cK.mpr ⟨i,VZ n _ i (by rw [wL g];omega) ?_,rfl⟩⟩
   . rw [yt];refine ⟨k,by rw [HM];exact g,?_⟩;rw [List.getElem_zipIdx];simp [e]
   . have:=(uG g).symm;rw [e] at this;exact (c.trans this).cons_inv
def HQ (l:List D) (k:Nat):cutD l none (some (k:Int))=l.take k:=by
 unfold cutD;rw [HT.jQ,HT.gV]
 by_cases h:k<=l.length
 . rw [Nat.min_eq_left h];simp
 . rw [Nat.min_eq_right (by omega)];simp only [Nat.sub_zero,List.drop_zero];rw [DM (bn _),DM (by omega)]
def kX {i:Nat} {f:T0} {a:Sl} {ds c:List D} (e:a[i]?=some (.ay (.ai ds))) (h:f a= .ok (.ai c)) (g:ds.length+c.length<=20000):qz i f a= .ok (.nx (a.set i (.ay (.ai (ds++c))))):=by
 unfold qz;rw [uM e];rw [h];exact jn (jl g)
def hN (h:H2):D:=fT h.1 h.2
abbrev Cu (n:Nat):Sl->ak bg:=ap (jB 4 (ag (jM (aa 0) zC (qg (aa 2)) gT) (jM (aa 0) (qg (ag (aa 2) (cI 1) a4)) zC gT) a4)) (qz 1 (qd false 1 [3] (cg (jm 1 (cA n) (jb (aa 4) ab))) (gN 0) qm (ag (aZ (jb (aa 1) ab)) (aa 0) a4)))
def j8 (x:D):D->D
 | .ai ds=> .ai (x::ds)
 |d=>d
def jcI {l:List H2} {n k:Nat} {M:List (List H2)} {acc:List D} {u4:Slot} (o:k<l.length) (q:l.length<=60) (g: ∀p∈M,p.length<=60) (i:cA n [aI (l.take k++l.drop (k+1))]= .ok (.ai (M.map aI))) (j:acc.length+M.length<=20000):
  Cu n [.ae (aI l),.ay (.ai acc),.ae (.int k),.ae (hN l[k]),u4]= .ok (.nx [.ae (aI l),.ay (.ai (acc++(M.map (l[k]:: ·)).map aI)),.ae (.int k),.ae (hN l[k]),.ae (aI (l.take k++l.drop (k+1)))]):=by
 have e:=Nk (js:=[3]) (fi:=cg (jm 1 (cA n) (jb (aa 4) ab))) (fe:=ag (aZ (jb (aa 1) ab)) (aa 0) a4) (env:=[.ae (aI l),.ay (.ai acc),.ae (.int k),.ae (hN l[k]),.ae (aI (l.take k++l.drop (k+1)))]) (j8 (hN l[k])) (λd=> ∃p:List H2,d=aI p/\p.length<=60) rfl (qu (jp (jc rfl rfl) rfl i) rfl) (λd hd=>by
  obtain ⟨p,c,rfl⟩:=cK.mp hd
  exact ⟨p,rfl,g p c⟩) (by rw [bM];exact jl (by omega)) (λd a ⟨p,c,m⟩=>by
  subst c;refine jg (qP (jc rfl rfl) (jl (show 1<=20000 by decide))) rfl ((xF ?_))
  rw [bM];exact jl (by simp;omega))
 have em:(M.map aI).map (j8 (hN l[k]))=(M.map (l[k]:: ·)).map aI:=by
  rw [ka,ka];rfl
 rw [em] at e
 refine (jj (jr (jg (oA (aI (l.take k)) (by
  refine qG rfl rfl (qZ rfl) ?_;show ak.ok (D.ai (cutD (l.map λh=>fT h.1 h.2) none (some (k))))=_
  rw [HQ,<-List.map_take];rfl)) (oA (aI (l.drop (k+1))) (by
  refine qG rfl (qZ (jg rfl rfl rfl)) rfl ?_;show ak.ok (D.ai (cutD (l.map λh=>fT h.1 h.2) (some ((k+1:Nat):Int)) none))=_
  rw [QU,<-Ea];rfl)) (oA (aI (l.take k++l.drop (k+1))) (by
  refine (xF ?_).trans ?_
  . rw [bM,bM,Ap,Ar];exact jl (by omega)
  . rw [<-mP];rfl))))).trans ?_
 exact kX rfl e (by rw [bM,bM];exact j)
theorem Uc {l:List H2} {n:Nat} (f:Nat->List (List H2)) (w:l.length<=60) {B:Nat} (y: ∀k,k<l.length->cA n [aI (l.take k++l.drop (k+1))]= .ok (.ai ((f k).map aI))/\(f k).length<=B/\ ∀p∈f k,p.length<=60):
  ∀(r:List H2) (k:Nat) (a:List D) (g h c:Slot),l.drop k=r->a.length+r.length*B<=20000-> ∃j m o,bO (j6 (g2 (gN 2) (gN 3)) (Cu n)) (jJ k (r.map hN)) [.ae (aI l),.ay (.ai a),g,h,c]= .ok (.nx [.ae (aI l),.ay (.ai (a++((r.zipIdx k).flatMap λq=>(f q.2).map (q.1:: ·)).map aI)),j,m,o])
 | [],k,a,g,h,c,_,_=>⟨g,h,c,by simp [jJ];rfl⟩
 |x::r,k,a,g,h,c,u,z=>by
  have i:k<l.length:=by
   have:=congrArg List.length u;rw [Ar,fR] at this;omega
  have E:l[k]=x:=by
   have:=Ed i;rw [u] at this;exact (AW this).1
  have v:l.drop (k+1)=r:=by
   have:=Ed i;rw [u] at this;exact (AW this).2
  obtain ⟨H,J,I⟩:=y k i;rw [fR,Br] at z;have st:=jcI (u4:=c) i w I H (acc:=a) (by omega);rw [E] at st;obtain ⟨j,m,o,e⟩:=Uc f w y r (k+1) (a++((f k).map (x:: ·)).map aI) (.ae (.int k)) (.ae (hN x)) (.ae (aI (l.take k++l.drop (k+1)))) v (by rw [gm,bM,bM];omega);refine ⟨j,m,o,?_⟩;refine (j7 (we rfl st)).trans (e.trans ?_);rw [List.zipIdx_cons,tD,mP,i7]
def eq_nil (l:List H2):dP (aI l) (.ai [])= .ok (.bl l.isEmpty):=by
 cases l with
 |nil=>rfl
 |cons a r=>
  unfold dP;rw [jn (.inr (by simp [Wi,aI]))];simp [QB,cH,aI]
theorem uP: ∀(n:Nat) (l:List H2),l.length<=n->n<=7->cA (n+1) [aI l]= .ok (.ai ((dA n l).map aI))
 |n,[],_,_=>by
  have e:dA n []=[[]]:=by cases n<;>rfl
  rw [e];refine qN ?_;exact qK ((cz (jq (jg rfl rfl (eq_nil [])))))
 |0,a::r,h,_=>by simp at h
 |n+1,a::r,h,o=>by
  have g:(a::r).length<=60:=by omega
  have c: ∀k,k< (a::r).length->cA (n+1) [aI ((a::r).take k++(a::r).drop (k+1))]= .ok (.ai ((dA n ((a::r).take k++(a::r).drop (k+1))).map aI))/\(dA n ((a::r).take k++(a::r).drop (k+1))).length<=bP n/\ ∀p∈dA n ((a::r).take k++(a::r).drop (k+1)),p.length<=60:=λk i=>by
   have e:=wL i;refine ⟨uP n _ (by omega) (by omega),uz n _ (by omega),λp j=>?_⟩;have:=(xu n _ p (by omega) j).length_eq;omega
  have m:bP n<=720:=by
   have:n=0\/n=1\/n=2\/n=3\/n=4\/n=5\/n=6:=by omega
   rcases this with e|e|e|e|e|e|e<;>subst e<;>decide
  obtain ⟨q,u,v,e⟩:=Uc (λk=>dA n ((a::r).take k++(a::r).drop (k+1))) g c (a::r) 0 [] .un .un .un rfl (by
   have:=Nat.mul_le_mul h m
   simp only [rM];omega)
  refine qN ?_;refine (jj ((bV (jq (jg rfl rfl (eq_nil (a::r))))))).trans ?_;refine (jj (wg (qP rfl (jl (by decide))))).trans ?_;refine (jj (wN (MS rfl) e)).trans ?_;exact jG (by rw [C4];rfl)
section
variable {ns:List Str}
def Ee {m:Str} {n:Nat} {F:TW} {e:T0} {g:TX} {a:Sl} {c:List H2} {ds:List D} {d:D} (h:(["rank"]:List Str).contains m=false) (i:e a= .ok (eZ c)) (j:g a= .ok ds) (l:ds.length+1=n) (o:F (eZ c::ds)= .ok d):jZ "Ranks" m n F e g a= .ok d:=by
 unfold jZ;rw [i];show a5 (("Ranks" :Str)= "Ranks" /\(["rank"]:List Str).contains m=false) (g a>>=λds=>a5 (ds.length+1=n) (F (eZ c::ds)))=_;rw [jn ⟨rfl,h⟩,j];exact (jn l).trans o
theorem Ko {g c:List H2} (h: ∀a∈g,a∈c): ∀(n:Nat) (t:Tr),Tn g n t->Tn c n t
 |0,t,x=>x.elim .inl λ⟨a,e,q⟩=> .inr ⟨a,h a e,q⟩
 |n+1,t,x=>x.elim .inl λ⟨a,e,q,w⟩=> .inr ⟨a,h a e,q,λp i=>Ko h n p (w p i)⟩
abbrev rkB:Sl->ak bg:=ap (jB 3 (xw "Ranks" 1 bw (jb (aa 2) ab))) (cb (aM (jZ "Ranks" "lets" 2 bx (aa 3) (jb (aa 0) ab))) (retS (aa 3)) cj)
structure Ord (ns:List Str) (qs:List (Tr×Tr)) (L:List Hd) (p:List H2):Prop where
 pap:rB ns p
 ok:D7 p
 tn: ∀q∈qs,Tn p 6 q.1/\Tn p 6 q.2
 hL: ∀a∈L,a∈c6 p
def je4 {a:List (Tr×Tr)} {L:List Hd} {p:List H2} (h:Ord ns a L p) {s u v:Slot}:j6 (gN 2) rkB (aI p) [.ae (obj (a.map pd) (L.map cU)),s,u,v]=if bK p a=true then .ok (.rt false (eZ p)) else .ok (.nx [.ae (obj (a.map pd) (L.map cU)),s,.ae (aI p),.ae (eZ p)]):=by
 refine (jj (jr (jjz h.ok (jc rfl rfl)))).trans ?_;have t:aM (jZ "Ranks" "lets" 2 bx (aa 3) (jb (aa 0) ab)) [.ae (obj (a.map pd) (L.map cU)),s,.ae (aI p),.ae (eZ p)]= .ok (bK p a):=jq (Ee (by decide) rfl (jc rfl rfl) rfl (NP h.pap h.hL h.tn))
 by_cases c:bK p a=true
 . rw [if_pos c];rw [c] at t;exact (cz t).trans rfl
 . rw [if_neg c];rw [GX] at c;rw [c] at t;exact (bV t).trans rfl
theorem ZL {a:D->Sl->ak bg} {E:Slot->Slot->Sl} (r w:List H2->D) (g:List H2->Bool): ∀(M:List (List H2)) (u v:Slot),(∀p∈M,∀u v,a (aI p) (E u v)=if g p=true then .ok (.rt false (r p)) else .ok (.nx (E (.ae (aI p)) (.ae (w p)))))->
  (∀p,M.find? g=some p->bO a (M.map aI) (E u v)= .ok (.rt false (r p)))/\(M.find? g=none-> ∃j l,bO a (M.map aI) (E u v)= .ok (.nx (E j l)))
 | [],u,v,_=>⟨(λp h=>by simp at h),λ_=>⟨u,v,rfl⟩⟩
 |p::M,u,v,h=>by
  have st:=h p cu u v;have m:=ZL r w g M (.ae (aI p)) (.ae (w p)) λr o=>h r (de _ o)
  by_cases c:g p=true
  . rw [if_pos c] at st;rw [List.find?_cons_of_pos c];refine ⟨λn i=>?_,λz=>by cases z⟩;cases i;exact XD st
  . rw [if_neg c] at st;rw [List.find?_cons_of_neg c];refine ⟨λn i=>(j7 st).trans (m.1 n i),λz=>?_⟩;obtain ⟨j,l,e⟩:=m.2 z;exact ⟨j,l,(j7 st).trans e⟩
def jh5 (L:List Hd) {env:Sl} (h:aa 1 env= .ok (.ai (L.map cU))):aM (ag (app (jb (aa 1) ab) bc) (cI 6) oy) env= .ok (decide ((6:Int)< (L.length:Int))):=by
 refine jq (jg (jX (jc h rfl) (d:= .int (L.length)) ?_) rfl rfl);show ak.ok (D.int ((L.map cU).length:Int))=_;rw [bM]
def jhj {c:List (Tr×Tr)} {a:List H2} (n:a.length<=6) (h: ∀p,p.Perm a->Ord ns c (c6 a) p):
   (∀p,(dA 7 a).find? (λp=>bK p c)=some p->ez [obj (c.map pd) ((c6 a).map cU)]= .ok (eZ p))/\((dA 7 a).find? (λp=>bK p c)=none->ez [obj (c.map pd) ((c6 a).map cU)]= .ok .a6):=by
 have l:D.ai ((c6 a).map cU)=aI a:=by
   unfold c6 aI;rw [ka];rfl
 have t:=jh5 (c6 a) (env:=[.ae (obj (c.map pd) ((c6 a).map cU)),.ae (.ai ((c6 a).map cU)),.un,.un]) rfl;rw [decide_eq_false (by unfold c6;rw [bM];omega)] at t;have j:cb (aM (ag (app (jb (aa 1) ab) bc) (cI 6) oy)) YG cj [.ae (obj (c.map pd) ((c6 a).map cU)),.ae (.ai ((c6 a).map cU)),.un,.un]= .ok (.nx [.ae (obj (c.map pd) ((c6 a).map cU)),.ae (.ai ((c6 a).map cU)),.un,.un]):=bV t;have g:cg (jm 1 (cA 8) (jb (aa 1) ab)) [.ae (obj (c.map pd) ((c6 a).map cU)),.ae (.ai ((c6 a).map cU)),.un,.un]= .ok ((dA 7 a).map aI):=qu (jp (jc rfl rfl) rfl (by rw [l];exact uP 7 a (by omega) (bn _))) rfl;have lp:=ZL (E:=λu v=>[.ae (obj (c.map pd) ((c6 a).map cU)),.ae (.ai ((c6 a).map cU)),u,v]) eZ eZ (λp=>bK p c) (dA 7 a) .un .un λp i u v=>je4 (h p (xu 7 a p (by omega) i))
 constructor
 . intro p i;refine ue ?_;refine (jj (jr (Ct rfl (by decide) (ZG _ _)))).trans ((jj j).trans ?_);exact qK (wN g (lp.1 p i))
 . intro m;obtain ⟨o,q,e⟩:=lp.2 m;refine qN ?_;refine (jj (jr (Ct rfl (by decide) (ZG _ _)))).trans ((jj j).trans ?_);exact (jj (wN g e)).trans rfl
end
def xz (c:Int): ∃m:Int,bh [.int c]= .ok (.int m)/\0<=m:=by
 have e: ∀u:Slot,ag (cI 10) (cI 60) dH [.ae (.int c),u]= .ok (.int (10^60)):=λu=>jg rfl rfl (Wn (by decide))
 have g: ∀u:Slot,ag (cI 23) (cI 64) dH [.ae (.int c),u]= .ok (.int (23^64)):=λu=>jg rfl rfl (Wn (by decide))
 have h:0<=c%10^60:=tK _ (by decide);have i:c%10^60<10^60:=tL _ (by decide);generalize j:c%10^60=x at h i;refine ⟨(x+41)*23^64%(10^60*10^24),qN ?_,tK _ (by decide)⟩;show dJ [.ae (.int c),.un]=_;unfold dJ;have l:ag (aa 0) (ag (cI 10) (cI 60) dH) bj [.ae (.int c),.ae (.int (10^60*10^24))]= .ok (.int x):=by rw [<-j];exact ND rfl (e _) (by decide)
 exact jG (ND (jfA (a:=210) (b:=300) (jgG l rfl) (g _) (by omega) (by decide) (by decide)) rfl (by decide))
def jiJ (ds:List Int) (k:Nat): ∃c:Int,cZ [.gv (ds.map D.int),.int k]= .ok (.int c):=by
 have a:aM (ag (aa 1) (app (jb (aa 0) ab) bc) ltI) [.ae (.gv (ds.map D.int)),.ae (.int k)]= .ok (decide ((k:Int)<ds.length)):=by
   refine jq (jg rfl (jX (jc rfl rfl) (d:= .int ds.length) ?_) rfl);show ak.ok (D.int ((ds.map D.int).length:Int))=_;rw [bM]
 by_cases c:k<ds.length
 . rw [decide_eq_true (by omega)] at a;refine ⟨ds[k],ue ?_⟩;refine qK ((cz a).trans (KC (jg rfl rfl ?_)));exact congrArg (λz:Option D=>match z with|some d=>ak.ok d|none=> .aj) ((M.dk (xs:=ds.map D.int) (k:=k)).trans (by rw [iE,cy c]))
 . rw [decide_eq_false (by omega)] at a;refine ⟨0,qN ?_⟩;exact (jj ((bV a))).trans rfl
def kT (ds:List Int) (k:Nat) {env:Sl} (h:aa 0 env= .ok (.gv (ds.map D.int))): ∃m:Int,jm 1 bh (jb (jm 2 cZ (jb (aa 0) (jb (cI k) ab))) ab) env= .ok (.int m)/\0<=m:=by
 obtain ⟨c,e⟩:=jiJ ds k;obtain ⟨m,e2,a⟩:=xz c;exact ⟨m,jp (jc (jp (jc h (jc rfl rfl)) rfl e) rfl) rfl e2,a⟩
def i4 {l:List D} {k:Nat} {x:D} (h:l[k]?=some x):aW (.ai l) (.int (k:Int))= .ok x:=by
 exact congrArg (λz:Option D=>match z with|some d=>ak.ok d|none=> .aj) (M.dk.trans h)
theorem Uu: ∀ {ds:List D} {d:D},d∈ds->gA d<=cO ds
 |x::r,d,h=>by
  have e:cO (x::r)=max (gA x) (cO r):=by
    simpa [cO] using this
  rcases cQ.mp h with z|z
  . rw [z];omega
  . have:=Uu z;omega
def Xx {a:List H2} {x:Str} {k:Nat} (h:(x,(k:Int))∈c6 a):(x,k)∈a:=by
 obtain ⟨⟨y,j⟩,c,e⟩:=cK.mp h;obtain ⟨e1,e2⟩:=e;exact c
def NR {c:List H2} {a:H2} (h:a∈c):(a.1,(a.2:Int))∈c6 c:=cK.mpr ⟨a,h,rfl⟩
theorem HR {c:List H2}: ∀(n:Nat) (t:Tr),gA t.d<=n+1->(∀x∈cP (br t.d),x∈c6 c)->Tn c n t
 |n,.bk i,_,_=>Tn.bk
 |n,.nd x l,h,g=>by
  have j:(x,l.length)∈c:=by
   refine Xx (g _ ?_);rw [Tr.bI];exact iB.mpr (.inl (by rw [bM]))
  have e: ∀p∈l,gA p.d<=n/\ ∀y∈cP (br p.d),y∈c6 c:=λp a=>by
   rw [Tr.bI,QI] at h;have o:=Uu (AT (f:=Tr.d) a);refine ⟨by omega,λy m=>g y ?_⟩;rw [Tr.bI];exact iB.mpr (.inr ⟨p.d,AT a,m⟩)
  cases n with
  |zero=>
   refine .inr ⟨_,j,rfl,?_⟩
   cases l with
   |nil=>rfl
   |cons p r=>
    have:=(e p cu).1;have:=Lx p.d;omega
  |succ n=>exact .inr ⟨_,j,rfl,λp a=>HR n p (e p a).1 (e p a).2⟩
section
variable {ns:List Str}
def jjl {s t:Tr} (c:Tm ns 7 100 s) (mt:Tm ns 7 100 t) {a:H2} (e:s.hd=some a) (sub: ∀x∈gM t.d,x∈gM s.d) (sZ: ∃m:List Int,m.length<=3/\ ∀x∈gM t.d,x∈m):Ru ns s.d t.d:=
 ⟨c.tk,mt.tk,⟨_,_,Tr.Hk e⟩,cE c.hg (by decide),cE mt.hg (by decide),c.nu,mt.nu,sub,c.bk,sZ⟩
def jeS {l:List Hd} (h: ∀a∈l,a∈lT ns): ∃i:List H2,c6 i=l/\ ∀a∈i,a.1∈ns/\a.2<=3:=by
 have c: ∀a∈l,a.1∈ns/\0<=a.2/\a.2<=3:=λa g=>by
   have:=h a g;unfold lT at this;rw [lX] at this;obtain ⟨z,m,j⟩:=this;simp at j;rcases j with e|e|e|e<;>subst e<;>exact ⟨m,by simp,by simp⟩
 refine ⟨l.map λa=>(a.1,a.2.toNat),?_,λa g=>?_⟩
 . unfold c6;rw [ka];refine (AG λa g=>?_).trans (List.map_id _);have:=c a g;refine sV rfl ?_;show ((a.2.toNat):Int)=a.2;omega
 . obtain ⟨b,n,rfl⟩:=cK.mp g;have:=c b n;exact ⟨this.1,by show b.2.toNat<=3;omega⟩
def jaW {c:List H2} (h:(c6 c).Nodup):c.Nodup:=List.Pairwise.imp (λa e=>a (by rw [e])) (yD.mp h)
def Cv (ns:List Str) (a:List (Tr×Tr)):Prop:= ∀q∈a,Tm ns 7 100 q.1/\Tm ns 7 100 q.2/\Ru ns q.1.d q.2.d
def kh (hN:sJ ns) {g:List (Tr×Tr)} (i:Cv ns g) (u:g.length<=40) {f:TX} {env:Sl} (v:f env= .ok [.ai ((g.map pd).map rl)]):
  ∃j:List H2,xw "Rules" 1 a7 f env= .ok (obj (g.map pd) ((c6 j).map cU))/\(∃l:List Hd,c6 j=wI l/\l.Nodup)/\j.Nodup/\(∀a∈j,a.1∈ns/\a.2<=3)/\ ∀x:Hd,x∈c6 j↔ ∃q∈g,x∈cP (br q.1.d)\/x∈cP (br q.2.d):=by
 have n: ∀x:Hd,x∈nE (g.map pd)↔ ∃q∈g,x∈cP (br q.1.d)\/x∈cP (br q.2.d):=λx=>by
  unfold nE;simp only [lX,cK,ij]
  constructor
  . rintro ⟨p,⟨q,i,rfl⟩,h⟩;exact ⟨q,i,h⟩
  . rintro ⟨q,i,h⟩;exact ⟨_,⟨q,i,rfl⟩,h⟩
 have m: ∀x∈nE (g.map pd),x∈lT ns:=λx w=>by
  obtain ⟨q,c,h⟩:=(n x).mp w;exact h.elim ((i q c).1.hd x) ((i q c).2.1.hd x)
 obtain ⟨l,e,o,r⟩:=jhc hN.ln hN.nm (λp y=>by
  obtain ⟨q,c,rfl⟩:=cK.mp y
  exact (i q c).2.2) (by rw [bM];exact u) (QY hN.ln) m v
 obtain ⟨j,e1,z⟩:=jeS λa B=>m a ((r a).mp (dM.mp B))
 refine ⟨j,by rw [e1];exact e,⟨l,e1,o⟩,jaW (by rw [e1];exact (qY l).symm.nodup o),z,λx=>?_⟩;rw [e1,dM,r x,n x]
def NT (hN:sJ ns) {j:List (Tr×Tr)} {e:List H2} (o:Cv ns j) (u:e.Nodup) (l: ∀a∈e,a.1∈ns/\a.2<=3) (v:e.length<=6) (r: ∀x:Hd,x∈c6 e↔ ∃q∈j,x∈cP (br q.1.d)\/x∈cP (br q.2.d)): ∀p,p.Perm e->Ord ns j (c6 e) p:=λp m=>by
 have i: ∀a,a∈p↔a∈e:=λa=>m.mem_iff
 have n: ∀x:Hd,x∈c6 e->x∈c6 p:=λx h=>by
   obtain ⟨a,g,rfl⟩:=cK.mp h;exact NR ((i a).mpr g)
 refine ⟨⟨hN,λa g=>l a ((i a).mp g)⟩,⟨λa g=>hN.nm _ (l a ((i a).mp g)).1,λa g=>(l a ((i a).mp g)).2,m.symm.nodup u,by rw [m.length_eq];omega⟩,λq c=>⟨?_,?_⟩,n⟩
 . exact HR 6 _ (o q c).1.hg λx h=>n x ((r x).mpr ⟨q,c,.inl h⟩)
 . exact HR 6 _ (o q c).2.1.hg λx h=>n x ((r x).mpr ⟨q,c,.inr h⟩)
end
theorem ZX {c:Type} (b:c->Bool): ∀l:List c,Wf (l.map λa=>D.bl (b a))=some (l.map b)
 | []=>rfl
 |a::l=>by simp only [e9,Wf,ZX b l];rfl
def any_map {c:Type} (b:c->Bool) (l:List c):rj [.ai (l.map λa=>D.bl (b a))]= .ok (.bl (l.any b)):=by
 exact (congrArg (λz:Option (List Bool)=>match z with|some bs=>ak.ok (D.bl (bs.any id))|none=> .aj) (ZX b l)).trans (by show ak.ok (D.bl ((l.map b).any id))=_;rw [BS])
def all_map {c:Type} (b:c->Bool) (l:List c):fN [.ai (l.map λa=>D.bl (b a))]= .ok (.bl (l.all b)):=by
 exact (congrArg (λz:Option (List Bool)=>match z with|some bs=>ak.ok (D.bl (bs.all id))|none=> .aj) (ZX b l)).trans (by show ak.ok (D.bl ((l.map b).all id))=_;rw [Dj])
def ZA (t:Tr):i0 "int" t.d= .ok (.bl (!t.hd.isSome)):=by
 cases t with
 |bk i=>rfl
 |nd x l=>rw [Tr.bI];rfl
def ZI {a:H2->Nat} {s t:Tr} {b:Bool} (h:gt a s t↔b=true):gtB a s t=b:=by
 cases b with
 |true=>exact h.mpr rfl
 |false=>exact Bool.eq_false_iff.mpr λz=>by simpa using h.mp z
section
variable {Q:List H2} {f:TW} {N:Nat} {M:D}
abbrev HS:Sl->ak Bool:=mj (aM (ag (aa 7) (app (jb (aa 2) ab) bc) ltI)) (aM (ag (ag (aa 2) (aa 7) aW) (ag (aa 3) (aa 7) aW) dP))
abbrev NU:Sl->ak bg:=jB 7 (ag (aa 7) (cI 1) a4)
def jjP {c e:TZ} {a:Sl} (h:c a= .ok false):mj c e a= .ok false:=by rw [Ls,h];rfl
def yS {i:Nat} {a:Sl} {ds:List D} (h:aa i a= .ok (.am ds)):app (jb (aa i) ab) bc a= .ok (.int (ds.length:Int)):=jX (jc h rfl) rfl
theorem K9 {x y:Str} {l m pre:List Tr} (hN:N<=100) {s0 s1 s4 s5 s6:Slot} (E:pre<+:l) (H:pre<+:m) (j: ∀p∈l,Tn Q N p) (c:l=pre\/ ∃a b u v,l=pre++a::u/\m=pre++b::v/\a≠b): ∀(k n i:Nat),i+k=pre.length->k<n->
  ql n HS NU [s0,s1,.ae (Tr.nd x l).d,.ae (Tr.nd y m).d,s4,s5,s6,.ae (.int ((i:Int)+1))]= .ok (.nx [s0,s1,.ae (Tr.nd x l).d,.ae (Tr.nd y m).d,s4,s5,s6,.ae (.int ((pre.length:Int)+1))])
 |k,0,i,_,h=>absurd h (ri _)
 |0,n+1,i,I,_=>by
  have o:i=pre.length:=by omega
  subst o;refine xf ?_;rw [Tr.bI,Tr.bI];rcases c with e| ⟨a,b,u,v,e1,e2,r⟩
  . refine jjP (jq (jg rfl (yS rfl) ?_));show ak.ok (D.bl (decide ((pre.length)+1< ((D.str x::l.map Tr.d).length:Int))))=_;rw [decide_eq_false (by rw [e];simp)]
  . have w:(D.str x::l.map Tr.d)[pre.length+1]?=some a.d:=by rw [e1];simp
    have z:(D.str y::m.map Tr.d)[pre.length+1]?=some b.d:=by rw [e2];simp
    have:=kZ hN (j a (by rw [e1];simp)) (t:=b);rw [decide_eq_false r] at this;refine (Ge (b:=true) (jq (jg rfl (yS rfl) ?_)) (jq (jg (jg rfl rfl (mR w)) (jg rfl rfl (mR z)) this)));show ak.ok (D.bl (decide ((pre.length)+1< ((D.str x::l.map Tr.d).length:Int))))=_;rw [decide_eq_true (by rw [e1];simp;omega)]
 |k+1,n+1,i,I,U=>by
  have g:i<pre.length:=by omega
  obtain ⟨J,e1⟩:=E;obtain ⟨L,e2⟩:=H;have B:l[i]?=some pre[i]:=by rw [<-e1,md g,cy g]
  have g2:m[i]?=some pre[i]:=by rw [<-e2,md g,cy g]
  have w:(D.str x::l.map Tr.d)[i+1]?=some pre[i].d:=by rw [BZ,iE,B];rfl
  have z:(D.str y::m.map Tr.d)[i+1]?=some pre[i].d:=by rw [BZ,iE,g2];rfl
  have q:=kZ hN (j _ (pz B)) (t:=pre[i]);rw [decide_eq_true rfl] at q
  have O:HS [s0,s1,.ae (Tr.nd x l).d,.ae (Tr.nd y m).d,s4,s5,s6,.ae (.int (i+1))]= .ok true:=by
    rw [Tr.bI,Tr.bI];refine (Ge (b:=true) (jq (jg rfl (yS rfl) ?_)) (jq (jg (jg rfl rfl (mR w)) (jg rfl rfl (mR z)) q)));show ak.ok (D.bl (decide (i+1< ((D.str x::l.map Tr.d).length:Int))))=_;rw [decide_eq_true (by rw [<-e1];simp;omega)]
  rw [xT O rfl];exact K9 hN ⟨J,e1⟩ ⟨L,e2⟩ j c k n (i+1) (by omega) (by omega)
end
def jdj {o:H2->Nat} {x:Str} {l m pre u v:List Tr} {a b:Tr} (e1:l=pre++a::u) (e2:m=pre++b::v) (i:a≠b) (j:l.length=m.length) (H: ∀p∈l,¬(p= .nd x m\/gt o p (.nd x m))):gt o (.nd x l) (.nd x m)↔gt o a b/\ ∀p∈v,gt o (.nd x l) p:=by
 rw [Qq]
 constructor
 . rintro (⟨p,I,J⟩| ⟨L,_⟩| ⟨_,e,N,O,w,y,Q,U,n,q,r⟩)
   . exact (H p I J).elim
   . obtain ⟨c,d,Y,Z,q3⟩:=Qp _ L;have:=(show some (x,l.length)=some c from Y)
     have:=(show some (x,m.length)=some d from Z)
     simp_all
   . have g:l=e++N::w:=Q;have h:m=e++O::y:=U;have z:=Hf (u:=u) (v:=v) (pre:=pre) i;have B:=Hf (u:=w) (v:=y) (pre:=e) n;rw [<-e1,<-e2] at z;rw [<-g,<-h] at B;have E:pre.length=e.length:=by rw [<-z,B]
     rw [e1] at g;rw [e2] at h;obtain ⟨_,z1⟩:=D0 g E;obtain ⟨_,z2⟩:=D0 h E;cases z1;cases z2;exact ⟨q,r⟩
 . rintro ⟨q,r⟩;exact .inr (.inr ⟨by show some (x,l.length)=some (x,m.length);rw [j],pre,a,b,u,v,e1,e2,i,q,r⟩)
section
variable {I:List H2} {f:TW} {N:Nat} {M:D}
abbrev soE (f:TW):Sl->ak bg:=(aJ (lD (ag (aa 4) (aa 5) nh) (app (jb (qd false 1 [0,1,2] (cg (aa 6)) (gN 0) qm (jm 4 f (jb (aa 1) (jb (aa 2) (jb (aa 3) (jb (aa 0) ab)))))) ab) fN) true))
def NW {s:Tr} {T:Slot} {g:Slot} {v:List Tr} {i j:Nat} (n:v.length<=60) (h: ∀q∈v,f [ci I,M,s.d,q.d]= .ok (.bl (gtB (bB I) s q))):
  soE f [.ae (ci I),.ae M,.ae s.d,T,.ae (.int i),.ae (.int j),.ae (.am (v.map Tr.d)),g]= .ok (.rt true (.bl (decide (i<=j)&&v.all (gtB (bB I) s)))):=by
 have c: ∀a b:Int,nh (.int a) (.int b)= .ok (.bl (decide (a<=b))):=λa b=>rfl
 have e:ag (aa 4) (aa 5) nh [.ae (ci I),.ae M,.ae s.d,T,.ae (.int i),.ae (.int j),.ae (.am (v.map Tr.d)),g]= .ok (.bl (decide (i<=j))):=by
  refine jg rfl rfl ((c _ _).trans ?_);congr 2;exact decide_eq_decide.mpr (by omega)
 refine jG ?_
 cases hd:decide (i<=j) with
 |false=>rw [hd] at e;exact jgV e
 |true=>
  rw [hd] at e;refine MT e (jX (jc (WH (λq=> .bl (gtB (bB I) s q)) rfl (qu rfl rfl) (jl (by omega)) λq l m=>jp (jc rfl (jc rfl (jc rfl (jc rfl rfl)))) rfl (h q l)) rfl) ?_);exact all_map _ _
def jeY (hN:N<=100) {x:Str} {l:List Tr} {t:Tr} (h3: ∀h∈I,h.2<=3) (U:Tn I N (.nd x l)) (Y:Tn I N t) (Z: ∀p∈l,Tn I N p) (hA: ∀p∈l,f [ci I,M,p.d,t.d]= .ok (.bl (gtB (bB I) p t))) (hB: ∀q∈t.aw,f [ci I,M,(Tr.nd x l).d,q.d]= .ok (.bl (gtB (bB I) (.nd x l) q))) (hC: ∀p∈l,∀q∈t.aw,f [ci I,M,p.d,q.d]= .ok (.bl (gtB (bB I) p q))):
  eX f [ci I,M,(Tr.nd x l).d,t.d]= .ok (.bl (gtB (bB I) (.nd x l) t)):=by
 have w:=h3 _ (U.hd rfl)
 have it:cg (jM (aa 2) (qg (cI 1)) zC gT) [.ae (ci I),.ae M,.ae (Tr.nd x l).d,.ae t.d,.un,.un,.un,.un]= .ok (l.map Tr.d):=by
  refine qu (qG rfl rfl rfl rfl) ?_;show ak.ok (cutD (D.str x::Tr.ds l) (some 1) none)=_;rw [zT,Tr.oe]
 have L:aM (app (jb (qd false 1 [3,0,1] (cg (jM (aa 2) (qg (cI 1)) zC gT)) (gN 0) qm (lD (ag (aa 0) (aa 1) dP) (jm 4 f (jb (aa 2) (jb (aa 3) (jb (aa 0) (jb (aa 1) ab))))) false)) ab) rj) [.ae (ci I),.ae M,.ae (Tr.nd x l).d,.ae t.d,.un,.un,.un,.un]= .ok (l.any λp=>decide (p=t)||gtB (bB I) p t):=by
  refine jq (jX (jc (WH (λp=> .bl (decide (p=t)||gtB (bB I) p t)) rfl it (jl (by omega)) λp g acc=>?_) rfl) (any_map _ _));have q:ag (aa 0) (aa 1) dP [.ae p.d,.ae t.d,.ae (ci I),.ae M,.ay (.ai acc)]= .ok (.bl (decide (p=t))):=jg rfl rfl (kZ hN (Z p g))
  cases hd:decide (p=t) with
  |true=>rw [hd] at q;exact jgW q
  |false=>rw [hd] at q;exact jgX q (jp (jc rfl (jc rfl (jc rfl (jc rfl rfl)))) rfl (hA p g))
 refine qN ?_
 cases O:l.any λp=>decide (p=t)||gtB (bB I) p t with
 |true=>
  rw [O] at L;rw [ZI ⟨λ_=>rfl,λ_=>?_⟩]
  . exact qK ((cz L))
  . obtain ⟨p,g,j⟩:=rf.mp O;refine yW g ?_;simpa [gt,gtB] using j
 |false=>
  rw [O] at L
  have h0: ∀p∈l,¬(p=t\/gt (bB I) p t):=λp g j=>by
    have:=CT.mp O p g;apply this;simpa [gt,gtB] using j
  refine (jj (bV L)).trans ?_
  cases t with
  |bk i=>
    rw [ZI (b:=false) ⟨λz=>?_,λz=>by cases z⟩]
    . exact qK ((cz (jq (zF rfl (ZA (.bk i))))))
    . rcases (Qq _ _ _).mp z with ⟨p,g,j⟩| ⟨Q,_⟩| ⟨B,_⟩
      . exact (h0 p g j).elim
      . obtain ⟨c,d,n,q2,q3⟩:=Qp _ Q;cases q2
      . cases B
  |nd y m=>
    have m3:=h3 _ (Y.hd rfl);refine (jj ((bV (jq (zF rfl (ZA (.nd y m))))))).trans ?_
    have E: ∀ {z:Str} {r:List Tr} {i:Nat} {e:Sl},r.length<=3->aa i e= .ok (Tr.nd z r).d->bq (jb (ag (aa i) (cI 0) aW) (jb (ag (app (jb (aa i) ab) bc) (cI 1) lG) ab)) e= .ok (cU (z,(r.length:Int))):=λ{z r i e} Q h=>by
      rw [Tr.bI] at h;have e1:((((D.str z::r.map Tr.d).length:Nat):Int)-1)=(r.length:Int):=by simp
      refine (zS (jc (jg h rfl (mR rfl)) (jc (jg (yS h) rfl (show _=ak.ok (D.int (r.length:Int)) from ?_)) rfl)) (jl (show 2<=20000 by decide)));rw [<-e1];rfl
    refine (jj (jr (jg rfl (E w rfl) (Uz (U.hd rfl))))).trans ?_;refine (jj (jr (jg rfl (E m3 rfl) (Uz (Y.hd rfl))))).trans ?_
    have sl: ∀ {e:Sl} {fi:Sl->ak (Option Int)} {k:Nat},aa 3 e= .ok (Tr.nd y m).d->fi e= .ok (some ((k+1:Nat):Int))->jM (aa 3) fi zC gT e= .ok (.am ((m.drop k).map Tr.d)):=λ{e fi k} h h2=>by
      rw [Tr.bI] at h;refine (qG h h2 rfl (show _=ak.ok (D.am ((m.drop k).map Tr.d)) from ?_));show ak.ok (D.am (cutD (D.str y::m.map Tr.d) (some ((k+1:Nat):Int)) none))=_;rw [QU,List.drop_succ_cons,Ea]
    refine (jj (jr (sl rfl rfl))).trans ?_;have o:aM (ag (aa 4) (aa 5) dP) [.ae (ci I),.ae M,.ae (Tr.nd x l).d,.ae (Tr.nd y m).d,.ae (.int (bB I (x,l.length))),.ae (.int (bB I (y,m.length))),.ae (.am (m.map Tr.d)),.un]= .ok (decide ((bB I (x,l.length):Int)=bB I (y,m.length))):=jq (jg rfl rfl fZ)
    by_cases c:bB I (x,l.length)=bB I (y,m.length)
    . rw [decide_eq_true (by omega)] at o
      have B:(x,l.length)=(y,m.length):=by
        have e1:=List.getElem_idxOf (List.idxOf_lt_length_of_mem (U.hd rfl));have e2:=List.getElem_idxOf (List.idxOf_lt_length_of_mem (Y.hd rfl));rw [<-e1,<-e2];have c':I.idxOf (x,l.length)=I.idxOf (y,m.length):=c;simp only [c']
      obtain ⟨rfl,H⟩:=Prod.mk.inj B
      by_cases em:l=m
      . subst em;rw [ZI (b:=false) ⟨λz=>(jik _ z).elim,λz=>by cases z⟩];refine qK ((cz o).trans ?_);refine (jj (jr rfl)).trans ?_;refine (jj (K9 hN ⟨[],by simp⟩ ⟨[],by simp⟩ Z (.inl rfl) l.length 64 0 (by omega) (by omega))).trans ?_;refine qK ((cz ?_))
        have n:aM (ag (aa 7) (app (jb (aa 2) ab) bc) dP) [.ae (ci I),.ae M,.ae (Tr.nd x l).d,.ae (Tr.nd x l).d,.ae (.int (bB I (x,l.length))),.ae (.int (bB I (x,l.length))),.ae (.am (l.map Tr.d)),.ae (.int ((l.length:Int)+1))]= .ok true:=by
          rw [Tr.bI];refine jq (jg rfl (yS rfl) (fZ.trans ?_));congr 2;exact decide_eq_true (by simp)
        show (aM _ _>>=_)=_;rw [n];rfl
      . obtain ⟨pre,a,b,u,v,e1,e2,J,_⟩:=QK H em
        have hg:=ZI (b:=gtB (bB I) a b&&v.all (gtB (bB I) (.nd x l))) (by
          rw [jdj e1 e2 J H h0,gF,iT];rfl)
        rw [hg];have IE:pre.length<3:=by rw [e1,gm,fR] at w;omega
        have ham:a∈l:=by rw [e1];simp
        have hbm:b∈m:=by rw [e2];simp
        have ea:(D.str x::l.map Tr.d)[pre.length+1]?=some a.d:=by rw [e1];simp
        have eb:(D.str x::m.map Tr.d)[pre.length+1]?=some b.d:=by rw [e2];simp
        have W:=K9 (x:=x) (y:=x) (s0:= .ae (ci I)) (s1:= .ae M) (s4:= .ae (.int (bB I (x,l.length)))) (s5:= .ae (.int (bB I (x,m.length)))) (s6:= .ae (.am (m.map Tr.d))) hN ⟨a::u,e1.symm⟩ ⟨b::v,e2.symm⟩ Z (.inr ⟨a,b,u,v,e1,e2,J⟩) pre.length 64 0 (by omega) (by omega)
        have n:fY (aM (ag (aa 7) (app (jb (aa 2) ab) bc) dP)) (bH (aM (jm 4 f (jb (aa 0) (jb (aa 1) (jb (ag (aa 2) (aa 7) aW) (jb (ag (aa 3) (aa 7) aW) ab))))))) [.ae (ci I),.ae M,.ae (Tr.nd x l).d,.ae (Tr.nd x m).d,.ae (.int (bB I (x,l.length))),.ae (.int (bB I (x,m.length))),.ae (.am (m.map Tr.d)),.ae (.int ((pre.length:Int)+1))]= .ok (!gtB (bB I) a b):=by
          rw [Tr.bI,Tr.bI];refine (yN (b:=false) (jq (jg rfl (yS rfl) (fZ.trans ?_))) (qp (jq (jp (jc rfl (jc rfl (jc (jg rfl rfl (mR ea)) (jc (jg rfl rfl (mR eb)) rfl)))) rfl (hC a ham b hbm)))));congr 2;exact decide_eq_false (by rw [e1];simp;omega)
        cases gb:gtB (bB I) a b with
        |false=>
          rw [gb] at n;refine qK ((cz o).trans ?_);refine (jj (jr rfl)).trans ((jj W).trans ?_);exact qK ((cz n))
        |true=>
          rw [gb] at n;refine (jj ((cz o).trans ((jj (g2:=ap (ql 64 HS NU) (ap (cb (fY (aM (ag (aa 7) (app (jb (aa 2) ab) bc) dP)) (bH (aM (jm 4 f (jb (aa 0) (jb (aa 1) (jb (ag (aa 2) (aa 7) aW) (jb (ag (aa 3) (aa 7) aW) ab)))))))) (aJ (cB false)) cj) (jB 6 (jM (aa 3) (qg (ag (aa 7) (cI 1) a4)) zC gT)))) (jr (i:=7) (f:=cI 1) (env:=[.ae (ci I),.ae M,.ae (Tr.nd x l).d,.ae (Tr.nd x m).d,.ae (.int (bB I (x,l.length))),.ae (.int (bB I (x,m.length))),.ae (.am (m.map Tr.d)),.un]) rfl)).trans ((jj W).trans ((jj ((bV n))).trans (jr (sl rfl rfl))))))).trans ?_;have ev:m.drop (pre.length+1)=v:=by rw [e2];simp
          refine Eq.trans (NW (by rw [ev];rw [e2] at m3;simp at m3;omega) λq j=>hB q (GU j)) ?_;rw [ev,decide_eq_true (by omega)]
    . rw [decide_eq_false (by omega)] at o;refine (jj ((bV o))).trans ?_;refine Eq.trans (NW (by omega) hB) ?_;congr 3;refine (ZI ?_).symm;rw [Qq,gF,iT,decide_eq_true_iff]
      constructor
      . rintro (⟨p,g,j⟩| ⟨Q,hv⟩| ⟨B,_⟩)
        . exact (h0 p g j).elim
        . obtain ⟨c1,d1,n,q2,q3⟩:=Qp _ Q;cases n;cases q2;exact ⟨by omega,hv⟩
        . have:(x,l.length)=(y,m.length):=gG B;rw [this] at c;exact (c rfl).elim
      . rintro ⟨h1,h2⟩;exact .inr (.inl ⟨Hh _ rfl rfl (by omega),h2⟩)
end
def jcX {i c e:Nat} {g:T0} {a:Sl} {m h j d:D} {r:bg} (l:aa i a= .ok m) (n:aa c a= .ok h) (o:aa e a= .ok j) (p:g a= .ok d) (q:iI m (.am [h,j]) d= .ok r):oF i c e g a= .ok r:=by
 unfold oF;rw [l];rw [n];rw [o];rw [p];exact q
def jfg (a:H2->Nat) (s t:Tr) (z:NV):zq a (.am [s.k,t.k]) z↔z= .bl (gtB a s t):=by
 constructor
 . intro h;exact h s t rfl
 . rintro h c g e;have:=NK.am.inj e;simp at this;rw [<-Tr.oE _ _ this.1,<-Tr.oE _ _ this.2];exact h
section
variable {u:List H2} {S T:Tr} {N:Nat}
theorem Xt (hN:N<=6) (o: ∀h∈u,h.2<=3): ∀(n x y:Nat) (s t:Tr),s∈S.ps->t∈T.ps->Tn u x s->Tn u y t->x<=N->y<=N->x+y<n->aP n [ci u,.mem (hJ S T) (zq (bB u)),s.d,t.d]= .ok (.bl (gtB (bB u) s t))
 |0,x,y,s,t,_,_,_,_,_,_,h=>absurd h (ri _)
 |n+1,x,y,.bk i,t,_,_,_,_,_,_,_=>by
  rw [ZI (b:=false) ⟨λz=>(D1 z).elim,λz=>by cases z⟩];refine qN ?_;exact qK ((cz (jq (zF rfl (ZA (.bk i))))))
 |n+1,x,y,.nd z l,t,c,e,g,j,E,H,U=>by
  have r:=g.le E;have I:=j.le H
  have lo: ∀ {z:Nat} {q:Tr},Tn u z q-> ∀p∈q.aw,∃w,z=w+1/\Tn u w p:=λ{z q} m p a=>by
   cases z with
   |zero=>rw [m.no] at a;cases a
   |succ w=>exact ⟨w,rfl,m.lM p a⟩
  have J: ∀p∈t.aw,aP n [ci u,.mem (hJ S T) (zq (bB u)),(Tr.nd z l).d,p.d]= .ok (.bl (gtB (bB u) (.nd z l) p)):=λp a=>by
   obtain ⟨w,rfl,hw⟩:=lo j p a;exact Xt hN o n x w _ p c (zN T t e p (xL a p (qO p))) g hw E (by omega) (by omega)
  have ks: ∀p∈l,aP n [ci u,.mem (hJ S T) (zq (bB u)),p.d,t.d]= .ok (.bl (gtB (bB u) p t)):=λp a=>by
   obtain ⟨w,rfl,hw⟩:=lo g p a;exact Xt hN o n w y p t (zN S _ c p (xL a p (qO p))) e hw j (by omega) H (by omega)
  have L: ∀p∈l,∀q∈t.aw,aP n [ci u,.mem (hJ S T) (zq (bB u)),p.d,q.d]= .ok (.bl (gtB (bB u) p q)):=λp a q m=>by
   obtain ⟨w,rfl,hw⟩:=lo g p a;obtain ⟨v,rfl,O⟩:=lo j q m;exact Xt hN o n w v p q (zN S _ c p (xL a p (qO p))) (zN T t e q (xL m q (qO q))) hw O (by omega) (by omega) (by omega)
  have B:fQ (.am [(Tr.nd z l).d,t.d])=some (.am [(Tr.nd z l).k,t.k]):=by
   exact G9 (J5 (Tr.mz _) (J5 (Tr.mz _) rfl))
  have Q:(NK.am [(Tr.nd z l).k,t.k]).bU<=8:=by
   simp only [NK.bU,NK.bY];have:=Zx r;have:=Zx I;omega
  refine qN ?_;refine (jj ((bV (jq (zF rfl (ZA (.nd z l))))))).trans ?_;refine jcX rfl rfl rfl (jp (jc rfl (jc rfl (jc rfl (jc rfl rfl)))) rfl (jeY (by omega) o r I (λp a=>r.Hl p a) ks J L)) ?_;exact Uh B rfl (VT c e) Q rfl λz=>jfg _ _ _ _
end
def jfT {a b:List H2} (h:aI a=aI b):a=b:=by
 refine Tr.map_inj (λx _ y e=>?_) (D.ai.inj h);unfold fT at e;simp at e;exact sV e.1 (by omega)
section
variable {ns:List Str} {J:List H2}
def pq4 (s t:Tr) (a:Slot):aX [.ae s.d,.ae t.d,.ae (ci J),a]=nq J s t:=by
 obtain ⟨c,g,i,e,h⟩:=Eb (p:=λp=> ∃c g i,((∃b,([.ae s.d,.ae t.d,.ae (ci J),a]:Sl)=[.ae g.d,.ae i.d,.ae (ci c),b])\/(([.ae s.d,.ae t.d,.ae (ci J),a]:Sl)[12]?≠none/\([.ae s.d,.ae t.d,.ae (ci J),a]:Sl)[9]?=some (.ae (aI c))/\([.ae s.d,.ae t.d,.ae (ci J),a]:Sl)[11]?=some (.ae g.d)/\([.ae s.d,.ae t.d,.ae (ci J),a]:Sl)[10]?=some (.ae i.d)))/\p=nq c g i) ⟨nq J s t,J,s,t,.inl ⟨a,rfl⟩,rfl⟩;rcases e with ⟨b,e⟩| ⟨e,_⟩
 . simp at e;obtain ⟨e1,e2,j,_⟩:=e;cases ug j;cases Tr.hG _ _ e1;cases Tr.hG _ _ e2;exact h
 . exact (e rfl).elim
def HU (s t:Tr) {a:Sl} (g:a[12]?≠none) (o:a[9]?=some (.ae (aI J))) (i:a[11]?=some (.ae s.d)) (j:a[10]?=some (.ae t.d)):aX a=nq J s t:=by
 obtain ⟨c,l,m,e,h⟩:=Eb (p:=λp=> ∃c l m,((∃b,a=[.ae l.d,.ae m.d,.ae (ci c),b])\/(a[12]?≠none/\a[9]?=some (.ae (aI c))/\a[11]?=some (.ae l.d)/\a[10]?=some (.ae m.d)))/\p=nq c l m) ⟨nq J s t,J,s,t,.inr ⟨g,o,i,j⟩,rfl⟩;rcases e with ⟨b,e⟩| ⟨_,e1,e2,n⟩
 . rw [e] at g;exact (g rfl).elim
 . rw [o] at e1;rw [i] at e2;rw [j] at n;simp at e1 e2 n;cases jfT e1;cases Tr.hG _ _ e2;cases Tr.hG _ _ n;exact h
def jfJ (P:rB ns J) {s t:Tr} (a:Tn J 6 s) (c:Tn J 6 t):aP 32 [ci J,.mem (hJ s t) (zq (bB J)),s.d,t.d]= .ok (.bl (gtB (bB J) s t)):=
 Xt (by decide) (λh e=>(P.h3 h e).2) 32 6 6 s t (qO s) (qO t) a c (bn _) (bn _) (by decide)
def NX (P:rB ns J) {s t:Tr} (c:Tn J 6 s) (e:Tn J 6 t) {a:Sl} {g h i:T0} (j:aX a=nq J s t) (l:g a= .ok (ci J)) (m:h a= .ok s.d) (n:i a= .ok t.d):Jj aX (λp=>jm 4 (aP 32) (jb g (jb (cM p) (jb h (jb i ab))))) a= .ok (.bl (gtB (bB J) s t)):=
 KK j (jp (jc l (jc (jn (uA P c e)) (jc m (jc n rfl)))) rfl (jfJ P c e))
end
def Ef {m:Nat} (n:Nat) (h:m=n) (a:n<=20000):m<=aS:=by rw [h];exact jl a
def slT (x:Str) (l:List Tr) {S:Sl}:cg (jM (aa 0) (qg (cI 1)) zC gT) (.ae (Tr.nd x l).d::S)= .ok (l.map Tr.d):=by
 rw [Tr.bI];refine qu (qG rfl (qZ rfl) rfl rfl) ?_;show ak.ok (cutD (.str x::l.map Tr.d) (some ((1:Nat):Int)) none)=_;rw [QU];rfl
theorem KG: ∀a b:List Tr,Tr.hH (a++b)=Tr.hH a++Tr.hH b
 | [],b=>rfl
 |t::a,b=>by simp only [Hg,Tr.hH,KG a b,i7]
theorem Xr {j:List (Str×Nat)} (q: ∀h∈j,h.2<=3): ∀(m n:Nat) (t:Tr),Tn j n t->n<m->t.sz<=1000->bp m [t.d]= .ok (.ai (t.ps.map Tr.d))
 |0,n,t,_,h,_=>absurd h (ri _)
 |m+1,n,.bk i,_,_,_=>by
  refine qN ?_;refine (jj (wg (qP (jc rfl rfl) (Ef 1 rfl (by decide))))).trans ?_;have c:bH (aM (bv "int" (aa 0))) [.ae (.int i),.ay (.ai [.int i]),.un]= .ok false:=qp (b:=true) (jq (zF rfl rfl));exact (jj ((bV c))).trans (jG rfl)
 |m+1,n,.nd x l,o,J,w=>by
  refine qN ?_;refine (jj (wg (qP (jc rfl rfl) (Ef 1 rfl (by decide))))).trans ?_;have c:bH (aM (bv "int" (aa 0))) [.ae (Tr.nd x l).d,.ay (.ai [(Tr.nd x l).d]),.un]= .ok true:=qp (jq (zF rfl (ZA (.nd x l))))
  have lo: ∀(r done:List Tr) u,done++r=l-> ∃v,bO (j6 (gN 2) (qz 1 (jm 1 (bp m) (jb (aa 2) ab)))) (r.map Tr.d) [.ae (Tr.nd x l).d,.ay (.ai ((Tr.nd x l).d::(Tr.hH done).map Tr.d)),u]= .ok (.nx [.ae (Tr.nd x l).d,.ay (.ai ((Tr.nd x l).d::(Tr.hH l).map Tr.d)),v]):=by
   intro r
   induction r with
   |nil=>intro done u h;rw [oH] at h;subst h;exact ⟨u,rfl⟩
   |cons p r y=>
    intro done u h;obtain ⟨v,e⟩:=y (done++[p]) (.ae p.d) (by rw [<-h];simp);refine ⟨v,(j7 ?_).trans e⟩;rw [yA rfl];have a:p∈l:=by rw [<-h];simp
    obtain ⟨g,rfl⟩: ∃g,n=g+1:=by
     cases n with
     |zero=>rw [show l=[] from o.no] at a;cases a
     |succ n=>exact ⟨n,rfl⟩
    have z:=Tr.eV (t:= .nd x l) a;have B:=Xr q m g p (o.lM p a) (by omega) (by omega)
    have E:(Tr.hH l).length=Tr.rm l:=by
     have:=Zf (.nd x l);simp only [Tr.ps,Tr.sz,fR] at this;omega
    have H:(Tr.hH done).length+p.ps.length<=1000:=by
     have L:(Tr.hH l).length=(Tr.hH done).length+(p.ps.length+(Tr.hH r).length):=by
      rw [<-h,KG];simp only [Tr.hH,gm]
     simp only [Tr.sz] at w;omega
    show (ak.ok ((Tr.nd x l).d::(Tr.hH done).map Tr.d)>>=λds=>bp m [p.d]>>=_)=_;rw [B]
    have I:(Tr.nd x l).d::(Tr.hH (done++[p])).map Tr.d=((Tr.nd x l).d::(Tr.hH done).map Tr.d)++p.ps.map Tr.d:=by
     rw [KG];simp only [Tr.hH,oH,mP,Hg]
    rw [I];exact jn (cE (by simp;omega:_<=10000) (by decide))
  obtain ⟨v,e⟩:=lo l [] .un rfl;refine (jj ((cz c).trans ((wO (slT x l)).trans e))).trans ?_;refine jG ?_;rfl
theorem Yl {A:Slot}: ∀(r done:List H2) (u:Slot),(done++r).Nodup->(done++r).length<=60-> ∃v,bO (j6 (gN 2) (JC 1 (aa 2) (app (jb (gJ 1) ab) sE))) (r.map hN) [A,.ay (ci done),u]= .ok (.nx [A,.ay (ci (done++r)),v])
 | [],done,u,_,_=>⟨u,by simp;rfl⟩
 |a::r,done,u,j,l=>by
  obtain ⟨v,e⟩:=Yl r (done++[a]) (.ae (hN a)) (by simpa using j) (by simpa using l);refine ⟨v,(j7 (we rfl ?_)).trans (by rw [i7] at e;exact e)⟩
  have c:cY a∉done.map cY:=λh=>by
   obtain ⟨b,m,e⟩:=cK.mp h;have g:a∈done:=by rw [<-yT e];exact m
   have:=rV.mp j;exact this.2.2 a g a cu rfl
  show a5 ((done.map cY).length<aS) (ak.ok (bg.nx [A,.ay (.bX (yq (done.map cY) (cY a)) (yr (done.map cY) ((fF done.length).map λ(i:Nat)=>D.int i) (cY a) (.int ((done.map cY).length:Nat)))),.ae (hN a)]))=_;rw [jn (by rw [bM];simp at l;exact gR (by omega) lQ)];unfold yq yr;rw [Vg c];unfold ci;rw [gm,C3,List.range_succ,mP,mP,bM];rfl
def NY {a:List H2} (c:a.Nodup) (g:a.length<=60):cn [aI a]= .ok (ci a):=by
 obtain ⟨v,e⟩:=Yl a [] .un (by simpa using c) (by simpa using g);refine qN ?_;exact (jj (wg rfl)).trans ((jj (wN (qu rfl rfl) e)).trans (jG rfl))
def jit (a b:H2):eE (hN a) (hN b)=decide (a=b):=by
 show eE (.am [.str a.1,.int a.2]) (.am [.str b.1,.int b.2])=_;simp only [QB,cH,Ax]
 by_cases h:a=b
 . subst h;simp
 . rw [decide_eq_false h,Bool.and_eq_false_iff]
   by_cases c:a.1=b.1
   . right
     have:a.2≠b.2:=λz=>h (sV c z)
     simp;omega
   . left;simpa using c
def jic (l:List H2) (a:H2):rU (l.map hN) (hN a)=decide (a∈l):=by
 unfold rU;rw [BS]
 induction l with
 |nil=>simp
 |cons b l c=>
  rw [v7,c];show (eE (hN b) (hN a)||_)=_;rw [jit]
  by_cases h:b=a
  . subst h;simp
  . have e: ¬a=b:=λz=>h z.symm
    simp [h,e]
def NZ (l:List H2):D.df (l.map hN)=true/\D.bY (l.map hN)<=190:=by
 induction l with
 |nil=>exact ⟨rfl,by simp [D.bY]⟩
 |cons a l c=>
  refine ⟨?_,?_⟩
  . show D.df (hN a::l.map hN)=true;simp only [D.df,c.1,Ax];rfl
  . show D.bY (hN a::l.map hN)<=190;simp only [D.bY];have:D.bU (hN a)<=190:=by show D.bU (.am [.str a.1,.int a.2])<=190;simp [D.bU,D.bY]
    omega
def Cw (neg:Bool) (l:List H2) (a:H2):fO neg (hN a) (aI l)= .ok (.bl (if neg then !decide (a∈l) else decide (a∈l))):=by
 show a5 _ _=_;rw [jn ⟨(NZ l).1,rfl,(NZ l).2⟩];show ak.ok (D.bl (if neg then !rU (l.map hN) (hN a) else rU (l.map hN) (hN a)))=_;rw [jic]
noncomputable def eY (l c:List H2):List H2:=l.filter λa=>!decide (a∈c)
def ext1 (l:List H2) (F:List (List H2)):List (List H2):=F.flatMap λc=>(eY l c).map λa=>c++[a]
def Eg (l:List H2):Nat->List (List H2)->List (List H2)
 |0,F=>F
 |m+1,F=>Eg l m (ext1 l F)
def Xa (l c:List H2) (a:H2):eY l (c++[a])=(eY l c).filter (λb=>!decide (b=a)):=by
 unfold eY;rw [List.filter_filter];refine List.filter_congr λb _=>?_
 by_cases e:b∈c<;>by_cases g:b=a<;>simp [e,g]
def UM {l:List H2} (c:l.Nodup) {k:Nat} (j:k<l.length):l.take k++l.drop (k+1)=l.filter (λb=>!decide (b=l[k])):=by
 have e:l=l.take k++l[k]::l.drop (k+1):=by rw [Ed,GS]
 generalize m:l[k]=x at*;generalize n:l.take k=p at*;generalize o:l.drop (k+1)=q at*;rw [e] at c ⊢;have g:=rV.mp c;rw [List.filter_append,D6]
 have h:p.filter (λb=>!decide (b=x))=p:=AS.mpr λb a=>by
  have:=g.2.2 b a x cu;simpa using this
 have i:q.filter (λb=>!decide (b=x))=q:=AS.mpr λb a=>by
  have:b≠x:=λz=>(py.mp g.2.1).1 (z▸a)
  simpa using this
 rw [h,i];simp
theorem Jq {c e:Type} {f g:c->List e}: ∀ {l:List c},(∀a∈l,f a=g a)->l.flatMap f=l.flatMap g
 | [],_=>rfl
 |a::l,h=>by rw [tD,tD,h a cu,Jq λb i=>h b (de _ i)]
def N0 {l:List H2} (c:l.Nodup) (h:l≠[]) (n:Nat):dA (n+1) l=l.flatMap λa=>(dA n (l.filter λb=>!decide (b=a))).map (a:: ·):=by
 have e:l.flatMap (λa=>(dA n (l.filter λb=>!decide (b=a))).map (a:: ·))=(l.zipIdx 0).flatMap λq=>(dA n (l.filter λb=>!decide (b=q.1))).map (q.1:: ·):=by
  have e1:(l.zipIdx 0).map (·.1)=l:=by simp
  have:=HV (l:=l.zipIdx 0) (f:=(·.1)) (g:=λa=>(dA n (l.filter λb=>!decide (b=a))).map (a:: ·));rw [e1] at this;exact this
 rw [e]
 cases l with
 |nil=>exact (h rfl).elim
 |cons a r=>
  refine Jq λq i=>?_
  obtain ⟨j,m⟩:=VB i;rw [UM c j,m]
theorem N1 {l:List H2} (g:l.Nodup): ∀(m:Nat) (F:List (List H2)),(∀c∈F,(eY l c).length=m)->Eg l m F=F.flatMap λc=>(dA m (eY l c)).map (c++ ·)
 |0,F,_=>by
  show F=F.flatMap λc=>[c++[]]
  simp
 |m+1,F,h=>by
  show Eg l m (ext1 l F)=_;rw [N1 g m (ext1 l F) ?_]
  . unfold ext1;rw [List.flatMap_assoc];refine Jq λc e=>?_
    rw [HV,N0 (l:=eY l c) (g.sublist Eh) (λz=>by have:=h c e;rw [z] at this;cases this),List.map_flatMap];refine Jq λa i=>?_
    rw [Xa,ka];refine AG λp _=>?_
    simp
  . intro c e;obtain ⟨j,o,e⟩:=lX.mp e;obtain ⟨a,i,rfl⟩:=cK.mp e;have q:(eY l j).Nodup:=g.sublist Eh;obtain ⟨k,n,rfl⟩:=yt.mp i;rw [Xa,<-UM q n,wL n,h j o];rfl
theorem VW: ∀(n:Nat) (l:List H2),l.length<=n->dA (n+1) l=dA n l
 |n,[],_=>by cases n<;>rfl
 |0,a::r,h=>by simp at h
 |n+1,a::r,h=>by
  refine Jq λq c=>?_
  obtain ⟨e,_⟩:=VB c;rw [VW n _ (by rw [wL e];omega)]
theorem uy (l:List H2): ∀k,dA (l.length+k) l=dA l.length l
 |0=>rfl
 |k+1=>by rw [<-CG,VW _ _ (by omega),uy l k]
structure rC (l:List H2) (j:Nat) (F:List (List H2)):Prop where
 ne:F≠[]
 ok: ∀row∈F,row.length=j/\(eY l row).length+j=l.length
 ln:F.length<=7^j
def jcn {l:List H2} (n:l.Nodup) (u:l.length<=7) {j:Nat} {F:List (List H2)} (h:rC l j F) (v:j<l.length):rC l (j+1) (ext1 l F):=by
 have g: ∀c∈F,eY l c≠[]:=λc e z=>by
   have:=(h.ok c e).2;rw [z] at this;simp at this;omega
 refine ⟨?_,?_,?_⟩
 . cases F with
   |nil=>exact (h.ne rfl).elim
   |cons c F=>
    intro z;have:=g c cu;unfold ext1 at z;rw [tD,List.append_eq_nil_iff,List.map_eq_nil_iff] at z;exact this z.1
 . intro c e;obtain ⟨i,o,e⟩:=lX.mp e;obtain ⟨a,p,rfl⟩:=cK.mp e;have q:(eY l i).Nodup:=n.sublist Eh;obtain ⟨k,m,rfl⟩:=yt.mp p;obtain ⟨r,w⟩:=h.ok i o;rw [Xa,<-UM q m,wL m,gm,r];exact ⟨rfl,by omega⟩
 . refine cE (XF F λc e=>?_) (by rw [Nat.pow_succ];exact Cd _ h.ln);rw [bM];have:=(h.ok c e).2;omega
abbrev HW:Sl->ak bg:=qz 2 (qd false 1 [3] (cg (aa 0)) (gN 0) (aM (ag (aa 0) (aa 1) (fO true))) (ag (aa 1) (aZ (jb (aa 0) ab)) a4))
def kY {i:Nat} {f:T0} {a:Sl} {ds c:List D} (e:a[i]?=some (.ay (.ai ds))) (h:f a= .ok (.ai c)) (g:ds.length+c.length<=aS):qz i f a= .ok (.nx (a.set i (.ay (.ai (ds++c))))):=by
 unfold qz;rw [uM e];rw [h];exact jn g
def jf0 {l e:List H2} {h:Slot} {g:List D} (j:l.length<=7) (n:e.length<=60) (m:g.length+7<=aS):HW [.ae (aI l),h,.ay (.ai g),.ae (aI e)]= .ok (.nx [.ae (aI l),h,.ay (.ai (g++((eY l e).map λa=>e++[a]).map aI)),.ae (aI e)]):=by
 have c:=Kb (im:=false) (js:=[3]) (fi:=cg (aa 0)) (fc:=aM (ag (aa 0) (aa 1) (fO true))) (fe:=ag (aa 1) (aZ (jb (aa 0) ab)) a4) (env:=[.ae (aI l),h,.ay (.ai g),.ae (aI e)]) (λa=>!decide (a∈e)) (λa=>aI (e++[a])) rfl (qu rfl rfl) (jl (by omega)) (λa _ g=>jq (jg rfl rfl (Cw true e a))) (λa _ _ g=>by
  refine jg rfl (qP (jc rfl rfl) (jl (show 1<=20000 by decide))) ((xF ?_).trans ?_)
  . rw [bM];exact jl (by simp;omega)
  . unfold aI
    rw [mP];rfl) (λz=>by cases z)
 have i:(eY l e).length<=7:=cE (Cy _ _) j;rw [ka];exact kY rfl c (by rw [bM];exact cE (Fj i _) m)
theorem N2 {l:List H2} {i:Slot} (g:l.length<=7): ∀(F:List (List H2)) (c:List (List H2)) (u:Slot),(∀row∈F,row.length<=60)->c.length+7*F.length<=1000000-> ∃v,bO (j6 (gN 3) HW) (F.map aI) [.ae (aI l),i,.ay (.ai (c.map aI)),u]= .ok (.nx [.ae (aI l),i,.ay (.ai ((c++ext1 l F).map aI)),v])
 | [],c,u,_,_=>⟨u,by simp [ext1];rfl⟩
 |row::F,c,u,j,m=>by
  have big:1000000<=aS:=by rw [mY];decide
  simp at m;have n:(eY l row).length<=7:=cE (Cy _ _) g;obtain ⟨v,e⟩:=N2 g F (c++(eY l row).map λa=>row++[a]) (.ae (aI row)) (λr h=>j r (de _ h)) (by rw [gm,bM];omega);refine ⟨v,(j7 (we rfl (jf0 g (j row cu) (by rw [bM];exact cE (by omega) big)))).trans ?_⟩;rw [<-mP];refine e.trans ?_;unfold ext1;rw [tD,i7]
abbrev N3:Sl->ak Bool:=aM (ag (app (jb (ag (aa 1) (cI 0) aW) ab) bc) (app (jb (aa 0) ab) bc) ltI)
abbrev Cz:Sl->ak bg:=ap (eN 2 (aZ ab)) (ap (cG (cg (aa 1)) (gN 3) HW) (gY 2 (jB 1 (aa 2))))
def J3 {f:T0} {a:Sl} {ds:List D} (h:f a= .ok (.ai ds)):app (jb f ab) bc a= .ok (.int (ds.length:Int)):=jX (jc h rfl) rfl
theorem uS {l:List H2} (n:l.Nodup) (o:l.length<=6): ∀(m g j:Nat) (F:List (List H2)) (u v:Slot),j+m=l.length->m<g->rC l j F-> ∃p q,ql g N3 Cz [.ae (aI l),.ae (.ai (F.map aI)),u,v]= .ok (.nx [.ae (aI l),.ae (.ai ((Eg l m F).map aI)),p,q])
 |m,0,j,F,u,v,_,h,_=>absurd h (ri _)
 |m,g+1,j,F,u,v,y,z,R=>by
  obtain ⟨c,i,rfl⟩: ∃c i,F=c::i:=by
   cases F with
   |nil=>exact (R.ne rfl).elim
   |cons a b=>exact ⟨a,b,rfl⟩
  have t:N3 [.ae (aI l),.ae (.ai ((c::i).map aI)),u,v]= .ok (decide ((j:Int)<l.length)):=by
   refine jq (jg (J3 (jg rfl rfl (ro _ _))) (J3 (rfl)) ?_);show ak.ok (D.bl (decide (((c.map λh=>fT h.1 h.2).length:Int)< ((l.map λh=>fT h.1 h.2).length:Int))))=_;rw [bM,bM,(R.ok c cu).1]
  cases m with
  |zero=>
   rw [decide_eq_false (by omega)] at t;exact ⟨u,v,xf t⟩
  |succ m=>
   rw [decide_eq_true (by omega)] at t
   have B:7^j<=117649:=by
    have:j=0\/j=1\/j=2\/j=3\/j=4\/j=5\/j=6:=by omega
    rcases this with e|e|e|e|e|e|e<;>subst e<;>decide
   obtain ⟨w,e⟩:=N2 (l:=l) (by omega) (c::i) [] v (λr x=>by rw [(R.ok r x).1];omega) (by have:=R.ln;simp only [rM];omega)
   have b:Cz [.ae (aI l),.ae (.ai ((c::i).map aI)),u,v]= .ok (.nx [.ae (aI l),.ae (.ai ((ext1 l (c::i)).map aI)),.ae (.ai ((ext1 l (c::i)).map aI)),w]):=by
    refine (jj (wg (qP rfl (jl (by decide))))).trans ((jj (wN (qu rfl rfl) e)).trans ?_);rw [C4];rfl
   rw [xT t b];exact uS n o m g (j+1) _ _ _ (by omega) (by omega) (jcn n (by omega) R (by omega))
def jcZ {l:List H2} (h:l.Nodup) (i:l.length<=6):dn [aI l]= .ok (.ai ((dA 7 l).map aI)):=by
 have c:eY l []=l:=AS.mpr λ_ _=>by simp
 obtain ⟨u,v,e⟩:=uS h i l.length 16 0 [[]] .un .un (by omega) (by omega) ⟨by simp,λa g=>by rw [iw.mp g,c];exact ⟨rfl,rfl⟩,by simp⟩;rw [N1 h l.length [[]] (λa g=>by rw [iw.mp g,c])] at e
 have e2:([[]]:List (List H2)).flatMap (λa=>(dA l.length (eY l a)).map (a++ ·))=dA 7 l:=by
  rw [List.flatMap_singleton,c];have:=uy l (7-l.length);rw [show l.length+(7-l.length)=7 by omega] at this;rw [this];exact List.map_id _
 rw [e2] at e;refine ue ?_;exact (jj (jr (qP (jc (qP rfl (jl (by decide))) rfl) (jl (by decide))))).trans ((jj e).trans (KC rfl))
def zW (t:Tr):Option Hd:=t.hd.map λa=>(a.1,(a.2:Int))
def N4 (x:Str) (l:List Tr) (a:Hd):a∈cP (br (Tr.nd x l).d)↔a=(x,(l.length:Int))\/ ∃p∈l,a∈cP (br p.d):=by
 rw [Tr.bI,iB,bM]
 constructor
 . rintro (h| ⟨t,e,h⟩)
   . exact .inl h
   . obtain ⟨p,c,rfl⟩:=cK.mp e;exact .inr ⟨p,c,h⟩
 . rintro (h| ⟨p,c,h⟩)
   . exact .inl h
   . exact .inr ⟨p.d,AT c,h⟩
def jii (i:Nat):cP (br (Tr.bk i).d)=[]:=by simp [Tr.d,br,cP]
theorem h8: ∀ {l:List Tr} {q:Tr},q∈Tr.hH l↔ ∃p∈l,q∈p.ps
 | [],q=>by simp [Tr.hH]
 |p::l,q=>by
  simp only [Tr.hH,ij,h8,cQ]
  constructor
  . rintro (h| ⟨r,hr,h⟩)
    . exact ⟨p,.inl rfl,h⟩
    . exact ⟨r,.inr hr,h⟩
  . rintro ⟨r,(rfl|hr),h⟩
    . exact .inl h
    . exact .inr ⟨r,hr,h⟩
def N5 (a:Hd) (t:Tr):a∈cP (br t.d)↔ ∃p∈t.ps,zW p=some a:=by
 refine Tr.ind (P:=λt=>a∈cP (br t.d)↔ ∃p∈t.ps,zW p=some a) (λi=>?_) (λx l g=>?_) t
 . rw [jii];simp [Tr.ps,zW,Tr.hd]
 . rw [N4];simp only [Tr.ps,cQ,h8]
   constructor
   . rintro (h| ⟨p,c,h⟩)
     . exact ⟨_,.inl rfl,by rw [h];rfl⟩
     . obtain ⟨q,e,h⟩:=(g p c).mp h;exact ⟨q,.inr ⟨p,c,e⟩,h⟩
   . rintro ⟨q,(rfl| ⟨p,c,e⟩),h⟩
     . exact .inl (gG h).symm
     . exact .inr ⟨p,c,(g p c).mpr ⟨q,e,h⟩⟩
abbrev N6:Sl->ak bg:=cb (bH (aM (bv "int" (aa 4)))) (JC 1 (bq (jb (ag (aa 4) (cI 0) aW) (jb (ag (app (jb (aa 4) ab) bc) (cI 1) lG) ab))) (cB true)) cj
def jfV {z:Str} {r:List Tr} {i:Nat} {env:Sl} (h:aa i env= .ok (Tr.nd z r).d):bq (jb (ag (aa i) (cI 0) aW) (jb (ag (app (jb (aa i) ab) bc) (cI 1) lG) ab)) env= .ok (cU (z,(r.length:Int))):=by
 rw [Tr.bI] at h;have e1:((((D.str z::r.map Tr.d).length:Nat):Int)-1)=(r.length):=by simp
 refine (zS (jc (jg h rfl (mR rfl)) (jc (jg (yS h) rfl (?_)) rfl)) (jl (show 2<=20000 by decide)));rw [<-e1];rfl
theorem Vb {m:List Hd} (B:m.length<=60) {A j n:Slot}: ∀(c:List Tr) (l:List Hd) (u:Slot),l.Nodup->(∀x∈l,x∈m)->(∀t∈c,∀x,zW t=some x->x∈m)-> ∃a v,bO (j6 (gN 4) N6) (c.map Tr.d) [A,.ay (.bX (l.map dD) (dI l)),j,n,u]= .ok (.nx [A,.ay (.bX (a.map dD) (dI a)),j,n,v])/\a.Nodup/\ ∀x,x∈a↔x∈l\/ ∃t∈c,zW t=some x
 | [],l,u,g,_,_=>⟨l,u,rfl,g,λx=>by simp⟩
 | .bk i::c,l,u,g,p,q=>by
  obtain ⟨a,v,e,y,o⟩:=Vb B c l (.ae (Tr.bk i).d) g p λt h=>q t (de _ h)
  refine ⟨a,v,(j7 (we rfl ((bV (qp (jq (zF rfl (ZA (.bk i))))))))).trans e,y,λx=>?_⟩;rw [o x];simp [zW,Tr.hd]
 | .nd z r::c,l,u,g,p,q=>by
  obtain ⟨E,H⟩:=L1 l (z,(r.length));have I:=wo g p;have J:=q _ cu _ rfl;obtain ⟨a,v,e,y,o⟩:=Vb B c (fP l (z,(r.length))) (.ae (Tr.nd z r).d) (LY g) (λx o=>(XA o).elim (p x) λz=>by rw [z];exact J) λt h=>q t (de _ h)
  have L:=jfV (i:=4) (env:=[A,.ay (.bX (l.map dD) (dI l)),j,n,.ae (Tr.nd z r).d]) rfl;refine ⟨a,v,(j7 (we rfl ((cz (qp (jq (zF rfl (ZA (.nd z r)))))).trans ?_))).trans e,y,λx=>?_⟩
  . show (bq _ [A,.ay (.bX (l.map dD) (dI l)),j,n,.ae (Tr.nd z r).d]>>=_)=_;rw [L];show a5 ((l.map dD).length<aS) (ak.ok (bg.nx [A,.ay (.bX (yq (l.map dD) (dD (z,(r.length)))) (yr (l.map dD) (dI l) (dD (z,(r.length))) (.bl true))),j,n,.ae (Tr.nd z r).d]))=_;rw [jn (by rw [bM];exact gR (by omega) lQ),E,H]
  . rw [o x]
    constructor
    . rintro (h| ⟨t,h1,w⟩)
      . rcases XA h with h|h
        . exact .inl h
        . exact .inr ⟨_,cu,by rw [h];rfl⟩
      . exact .inr ⟨t,de _ h1,w⟩
    . rintro (h| ⟨t,h1,w⟩)
      . exact .inl (QH (.inl h))
      . rcases cQ.mp h1 with h1|h1
        . subst h1;exact .inl (QH (.inr (gG w).symm))
        . exact .inr ⟨t,h1,w⟩
abbrev hrB:Sl->ak bg:=cG (cg (ag (jm 1 (bp 16) (jb (aa 2) ab)) (jm 1 (bp 16) (jb (aa 3) ab)) a4)) (gN 4) N6
def eQ (q:Tr×Tr):D:=rl (pd q)
def N7 (a:List (Tr×Tr)):a.map eQ=(a.map pd).map rl:=by rw [ka];rfl
section
variable {ns:List Str} {H:List H2}
theorem N8 {m:List Hd} (I:m.length<=60) (o: ∀h∈H,h.2<=3) {A:Slot}: ∀(c:List (Tr×Tr)) (l:List Hd) (j n i:Slot),l.Nodup->(∀x∈l,x∈m)->(∀q∈c,Tn H 6 q.1/\Tn H 6 q.2/\q.1.sz<=1000/\q.2.sz<=1000)->(∀q∈c,∀x,x∈cP (br q.1.d)\/x∈cP (br q.2.d)->x∈m)-> ∃g p u v,bO (j6 (g2 (gN 2) (gN 3)) hrB) (c.map eQ) [A,.ay (.bX (l.map dD) (dI l)),j,n,i]= .ok (.nx [A,.ay (.bX (g.map dD) (dI g)),p,u,v])/\g.Nodup/\ ∀x,x∈g↔x∈l\/ ∃q∈c,x∈cP (br q.1.d)\/x∈cP (br q.2.d)
 | [],l,j,n,i,w,_,_,_=>⟨l,j,n,i,rfl,w,λx=>by simp⟩
 |q::c,l,j,n,i,w,J,L,y=>by
  obtain ⟨Q,U,Y,Z⟩:=L q cu
  have z: ∀x,(∃t∈q.1.ps++q.2.ps,zW t=some x)↔x∈cP (br q.1.d)\/x∈cP (br q.2.d):=λx=>by
    rw [N5,N5];simp
    constructor
    . rintro ⟨t,(h|h),e⟩
      . exact .inl ⟨t,h,e⟩
      . exact .inr ⟨t,h,e⟩
    . rintro (⟨t,h,e⟩| ⟨t,h,e⟩)
      . exact ⟨t,.inl h,e⟩
      . exact ⟨t,.inr h,e⟩
  obtain ⟨N,v,f1,n1,O⟩:=Vb I (q.1.ps++q.2.ps) l i w J λt ht x B=>y q cu x ((z x).mp ⟨t,ht,B⟩)
  have E: ∀x∈N,x∈m:=λx B=>((O x).mp B).elim (J x) λh=>y q cu x ((z x).mp h)
  obtain ⟨g,p,u,w4,f2,n2,x2⟩:=N8 I o c N (.ae q.1.d) (.ae q.2.d) v n1 E (λr a=>L r (de _ a)) λr a=>y r (de _ a)
  refine ⟨g,p,u,w4,(j7 (we rfl (wN ?_ f1))).trans f2,n2,λx=>?_⟩
  . refine qu (jg (jp (jc rfl rfl) rfl (Xr o 16 6 q.1 Q (by decide) Y)) (jp (jc rfl rfl) rfl (Xr o 16 6 q.2 U (by decide) Z)) (xF ?_)) ?_
    . rw [bM,bM,Zf,Zf];exact jl (by omega)
    . rw [mP];rfl
  . rw [x2 x,O x,z x]
    constructor
    . rintro ((h|h)| ⟨r,a,h⟩)
      . exact .inl h
      . exact .inr ⟨q,cu,h⟩
      . exact .inr ⟨r,de _ a,h⟩
    . rintro (h| ⟨r,a,h⟩)
      . exact .inl (.inl h)
      . rcases cQ.mp a with e|e
        . subst e;exact .inl (.inr h)
        . exact .inr ⟨r,e,h⟩
def N9 (H:List H2):aI H= .ai ((c6 H).map cU):=by
 unfold aI c6;rw [ka];rfl
def jfI (P:rB ns H) {j:List (Tr×Tr)} (v: ∀q∈j,Tn H 6 q.1/\Tn H 6 q.2/\q.1.sz<=1000/\q.2.sz<=1000) {c:List H2} {l:List Hd} (el:c6 c=wI l) (r:l.Nodup) (n: ∀a∈c,a.1∈ns/\a.2<=3) (u: ∀x:Hd,x∈c6 c↔ ∃q∈j,x∈cP (br q.1.d)\/x∈cP (br q.2.d)):bf [.ai (j.map eQ)]= .ok (aI c):=by
 have i: ∀x∈c6 c,x∈lT ns:=λx o=>by
   obtain ⟨a,m,rfl⟩:=cK.mp o;exact UU (n a m).1 (n a m).2
 obtain ⟨w,J,L,N,e,p,o⟩:=N8 (QY P.Ec.ln) (λh y=>(P.h3 h y).2) j [] .un .un .un sY (λx h=>by cases h) v λq z x h=>i x ((u x).mpr ⟨q,z,h⟩)
 have g: ∀x,x∈w↔x∈l:=λx=>by
   rw [o x,<-dM (l:=l),<-el,u x];simp
 have B:=cE (wo p λx h=>i x (by rw [el,dM];exact (g x).mp h)) (QY P.Ec.ln);have E:=(List.perm_ext_iff_of_nodup p r).mpr g;refine qN ?_;refine (jj (wg rfl)).trans ((jj (wN (qu rfl rfl) e)).trans ?_);refine jG (jX (jc rfl rfl) ((Wj p (by omega) λa m=>?_).trans ?_))
 . have:a∈c6 c:=by rw [el,dM];exact (g a).mp m
   obtain ⟨b,I,rfl⟩:=cK.mp this;exact jl (cE (HP (P.Ec.nm _ (n b I).1)) (by decide))
 . rw [uF r E,<-el,N9]
end
section
variable {ns:List Str}
abbrev duB:Sl->ak bg:=ap (jB 2 (jm 1 cn (jb (aa 1) ab))) (cb (aM (app (jb (qd false 2 [2] (cg (aa 0)) (g2 (gN 0) (gN 1)) qm (Jj aX λp=>(jm 4 (aP 32) (jb (aa 2) (jb (cM p) (jb (aa 0) (jb (aa 1) ab))))))) ab) fN)) (retS (aa 1)) cj)
def jge {a:List (Tr×Tr)} {L:List Hd} {p:List H2} (h:Ord ns a L p) (i:a.length<=60) {u v:Slot}:j6 (gN 1) duB (aI p) [.ae (.ai (a.map eQ)),u,v]=if bK p a=true then .ok (.rt false (aI p)) else .ok (.nx [.ae (.ai (a.map eQ)),.ae (aI p),.ae (ci p)]):=by
 refine (jj (jr (jp (jc rfl rfl) rfl (NY h.ok.nd h.ok.ln)))).trans ?_
 have t:aM (app (jb (qd false 2 [2] (cg (aa 0)) (g2 (gN 0) (gN 1)) qm (Jj aX λp=>(jm 4 (aP 32) (jb (aa 2) (jb (cM p) (jb (aa 0) (jb (aa 1) ab))))))) ab) fN) [.ae (.ai (a.map eQ)),.ae (aI p),.ae (ci p)]= .ok (bK p a):=by
   refine jq (jX (jc (QV pd (λq=> .bl (gtB (bB p) q.1 q.2)) (λq=>q∈a) rfl (qu rfl rfl) (λq e=>e) (jl (by omega)) λq g e=>?_) rfl) (all_map _ _));exact NX h.pap (h.tn q e).1 (h.tn q e).2 (pq4 _ _ _) rfl rfl rfl
 by_cases c:bK p a=true
 . rw [if_pos c];rw [c] at t;exact (cz t).trans rfl
 . rw [if_neg c];rw [GX] at c;rw [c] at t;exact (bV t).trans rfl
def sL:Option (List H2)->D
 |some p=>aI p
 |none=> .a6
def HX {g:List (Tr×Tr)} {a:List H2} (j:g.length<=60) (l:a.Nodup) (m:a.length<=6) (n:bf [.ai (g.map eQ)]= .ok (aI a)) (h: ∀p,p.Perm a->Ord ns g (c6 a) p):gQ [.ai (g.map eQ)]= .ok (sL ((dA 7 a).find? λp=>bK p g)):=by
 have i:cg (jm 1 dn (jb (jm 1 bf (jb (aa 0) ab)) ab)) [.ae (.ai (g.map eQ)),.un,.un]= .ok ((dA 7 a).map aI):=qu (jp (jc (jp (jc rfl rfl) rfl n) rfl) rfl (jcZ l m)) rfl;have lp:=ZL (E:=λu v=>[.ae (.ai (g.map eQ)),u,v]) aI ci (λp=>bK p g) (dA 7 a) .un .un λp o u v=>jge (h p (xu 7 a p (by omega) o)) j
 cases c:(dA 7 a).find? (λp=>bK p g) with
 |some p=>exact ue (qK (wN i (lp.1 p c)))
 |none=>
  obtain ⟨q,r,e⟩:=lp.2 c;exact qN ((jj (wN i e)))
end
def HY {c:Type} {h b:c} {u v:List c} (s:CA [h,b] (u++b::v)) (l:b∉u) (g:b∉v):h∈u:=by
 obtain ⟨i,m,e,j,a⟩:=List.sublist_append_iff.mp s
 cases i with
 |nil=>
  subst e
  cases a with
  |cons _ a=>exact (g (a.subset (by simp))).elim
  |cons_cons _ a=>exact (g (a.subset (by simp))).elim
 |cons x i=>
  simp at e;rw [e.1];exact j.subset cu
theorem Va {h b:H2} (c:h≠b): ∀ {p:List H2},p.Nodup->h∈p->b∈p->(p.idxOf h<p.idxOf b↔CA [h,b] p)
 | [],_,j,_=>by cases j
 |x::p,l,m,g=>by
  have n:=py.mp l
  by_cases e1:x=h
  . subst e1;have a:=(cQ.mp g).elim (λz=>(c z.symm).elim) id;have:(x==b)=false:=by simpa using c
    rw [List.idxOf_cons_self,Cq,this];simp only [cond_false,Nat.zero_lt_succ,true_iff];exact (Aa.mpr a).cons_cons x
  . have e:=(cQ.mp m).elim (λz=>(e1 z.symm).elim) id;have o:(x==h)=false:=by simpa using e1
    by_cases e2:x=b
    . subst e2;rw [List.idxOf_cons_self]
      constructor
      . intro z;omega
      . intro s
        cases s with
        |cons _ s=>exact (n.1 (s.subset (by simp))).elim
        |cons_cons _ s=>exact (c rfl).elim
    . have a:=(cQ.mp g).elim (λz=>(e2 z.symm).elim) id;have q:(x==b)=false:=by simpa using e2
      rw [Cq,Cq,o,q];simp;have i:=Va c n.2 e a
      constructor
      . intro z;exact (i.mp (by omega)).cons x
      . intro s
        cases s with
        |cons _ s=>have:=i.mpr s;omega
        |cons_cons _ s=>exact (e1 rfl).elim
abbrev i9:=H2×H2
noncomputable def jk (A:List i9) (a:H2):List H2:=(A.filter λq=>decide (q.2=a)).map (·.1)
def jD {A:List i9} {a h:H2}:h∈jk A a↔(h,a)∈A:=by
 constructor
 . intro z;obtain ⟨q,c,rfl⟩:=cK.mp z;have:=t5.mp c;have e:q.2=a:=by simpa using this.2
   rw [<-e];exact this.1
 . intro z;exact cK.mpr ⟨_,t5.mpr ⟨z,by simp⟩,rfl⟩
def pG (A:List i9) (q:List H2):Prop:= ∀e∈A,CA [e.1,e.2] q
instance (A:List i9) (q:List H2):Decidable (pG A q):=tX _
def Ab (A:List i9) (c:List H2) (a:H2):Bool:=(jk A a).all λh=>decide (h∈c)
noncomputable def ph (A:List i9) (e:List H2):Nat->List H2->Option (List H2)
 |0,c=>some c
 |n+1,c=>match (eY e c).filter (Ab A c) with
  | []=>none
  |a::_=>ph A e n (c++[a])
def Inv1 (A:List i9) (a:List H2):Prop:= ∀e∈A,e.2∈a->CA [e.1,e.2] a
def jim {A:List i9} {c p:List H2} {a:H2} (g:(c++a::p).Nodup) (h:pG A (c++a::p)):Ab A c a=true:=by
 have e:=rV.mp g;refine iT.mpr λx i=>decide_eq_true (HY (h _ (jD.mp i)) (λz=>e.2.2 a z a cu rfl) (py.mp e.2.1).1)
def jcL {A:List i9} {c q:List H2} {a:H2} (v:Inv1 A c) (J:a∈q) (w:(c++q).Nodup) (y: ∀e∈A,e.1≠e.2) (l: ∀e∈A,e.1∈c++q/\e.2∈c++q) (f:Ab A c a=true) (h:pG A (c++q)):pG A (c++a::q.erase a):=λe g=>by
 have B:=rV.mp w
 by_cases i:e.2=a
 . have:e.1∈c:=by
     have:=iT.mp f e.1 (jD.mpr (by rw [<-i];exact g));exact of_decide_eq_true this
   rw [i];exact HZ (Aa.mpr this) (Aa.mpr cu)
 . by_cases m:e.2∈c
   . exact (v e g m).trans (List.sublist_append_left _ _)
   . have n:e.2∈q.erase a:=by
       rw [B.2.1.mem_erase_iff];exact ⟨i,(ij.mp (l e g).2).elim (λz=>(m z).elim) id⟩
     by_cases o:e.1∈c
     . exact HZ (Aa.mpr o) (Aa.mpr (de _ n))
     . by_cases p:e.1=a
       . rw [p];exact ((Aa.mpr n).cons_cons a).trans (List.sublist_append_right _ _)
       . have s:=(h e g)
         have E:CA [e.1,e.2] q:=by
          obtain ⟨r,L,j,H,I⟩:=List.sublist_append_iff.mp s
          cases r with
          |nil=>simp at j;rw [j];exact I
          |cons x r=>
            simp at j;exact (o (by rw [j.1];exact H.subset cu)).elim
         have u:=E.erase a
         have e0:=List.erase_of_not_mem (by
          intro z;rcases cQ.mp z with z|z
          . exact p z.symm
          . exact i (iw.mp z).symm)
         rw [e0] at u;exact (u.cons a).trans (List.sublist_append_right _ _)
def ZK {a:Type} {P:a->Bool} {l:List a} (h: ∀x∈l,P x=false):l.find? P=none:=GW.mpr λx c=>by rw [h x c];decide
theorem xi {g:Type} {p:g->Bool}: ∀ {l:List g} {a:g} {r:List g},l.filter p=a::r-> ∃i j,l=i++a::j/\(∀x∈i,p x=false)/\p a=true
 | [],a,r,h=>by cases h
 |x::l,a,r,h=>by
  rw [D6] at h
  cases c:p x with
  |true=>
   rw [if_pos c] at h;cases h;exact ⟨[],l,rfl,(λx m=>by cases m),c⟩
  |false=>
   rw [if_neg (by rw [c];decide)] at h;obtain ⟨i,j,e,n,o⟩:=xi h;exact ⟨x::i,j,by rw [e];rfl,λy q=>(cQ.mp q).elim (λz=>by rw [z];exact c) (n y),o⟩
theorem Uy {A:List i9} {l0:List H2} (B:l0.Nodup) (E: ∀e∈A,e.1≠e.2) (m: ∀e∈A,e.1∈l0/\e.2∈l0): ∀(n:Nat) (g:List H2),(eY l0 g).length=n->g.Nodup->(∀a∈g,a∈l0)->Inv1 A g->
  ph A l0 n g=((dA n (eY l0 g)).find? λp=>decide (pG A (g++p))).map (g++ ·)
 |0,g,O,Y,hr,Q=>by
  have e0:=DZ.mp O
  have ok:pG A (g++[]):=λe o=>by
    rw [oH];refine Q e o ?_
    by_cases c:e.2∈g
    . exact c
    . have:e.2∈eY l0 g:=t5.mpr ⟨(m e o).2,by simpa using c⟩;rw [e0] at this;cases this
  show some g=(([[]]:List (List H2)).find? _).map _;rw [List.find?_cons_of_pos (by exact decide_eq_true ok)];simp
 |n+1,g,O,Y,hr,Q=>by
  have no:(eY l0 g).Nodup:=B.sublist Eh
  have u: ∀a,a∈eY l0 g↔a∈l0/\a∉g:=λa=>by
    unfold eY;simp
  have H: ∀p:List H2,p.Perm (eY l0 g)->(g++p).Nodup:=λp j=>rV.mpr ⟨Y,j.symm.nodup no,λa i b q e=>((u b).mp (j.mem_iff.mp q)).2 (e▸i)⟩
  have Z: ∀p:List H2,p.Perm (eY l0 g)-> ∀e∈A,e.1∈g++p/\e.2∈g++p:=λp j e o=>by
    have I: ∀a∈l0,a∈g++p:=λa i=>by
      by_cases c:a∈g
      . exact rH _ c
      . exact nU _ (j.mem_iff.mpr ((u a).mpr ⟨i,c⟩))
    exact ⟨I _ (m e o).1,I _ (m e o).2⟩
  have pe:=N0 no (λz=>by rw [z] at O;cases O) n
  have mem: ∀a∈eY l0 g,∀p∈(dA n ((eY l0 g).filter λb=>!decide (b=a))).map (a:: ·),∃v,p=a::v/\(a::v).Perm (eY l0 g):=λa i p h=>by
    have h1:p∈dA (n+1) (eY l0 g):=by rw [pe];exact lX.mpr ⟨a,i,h⟩
    obtain ⟨v,_,e⟩:=cK.mp h;exact ⟨v,e.symm,by rw [e];exact xu _ _ _ (by omega) h1⟩
  have J: ∀a∈eY l0 g,Ab A g a=false-> ∀p∈(dA n ((eY l0 g).filter λb=>!decide (b=a))).map (a:: ·),decide (pG A (g++p))=false:=λa i w p h=>by
    obtain ⟨v,rfl,j⟩:=mem a i p h;refine decide_eq_false λz=>?_
    rw [jim (H _ j) z] at w;cases w
  rw [pe];unfold ph
  split
  . rename_i w;rw [ZK λp h=>?_]
    . rfl
    . obtain ⟨a,i,h⟩:=lX.mp h;refine J a i ?_ p h;have:=List.filter_eq_nil_iff.mp w a i;simpa using this
  . rename_i a r w;obtain ⟨l1,l2,el,h1,h2⟩:=xi w;have i:a∈eY l0 g:=by rw [el];simp
    have L:=(u a).mp i;obtain ⟨k,hk,ek⟩:=yt.mp i;have ho:=Xa l0 g a
    have N:(eY l0 (g++[a])).length=n:=by
      rw [ho,<-ek,<-UM no hk,wL hk];omega
    have ih:=Uy B E m n (g++[a]) N (rV.mpr ⟨Y,by simp,λx hx y hy e=>by rw [iw.mp hy] at e;exact L.2 (e▸hx)⟩) (λx hx=>(ij.mp hx).elim (hr x) λz=>by rw [iw.mp z];exact L.1) (λe o q=>by
      rcases ij.mp q with z|z
      . exact (Q e o z).trans (List.sublist_append_left _ _)
      . have ea:=iw.mp z;have:e.1∈g:=of_decide_eq_true (iT.mp h2 e.1 (jD.mpr (by rw [<-ea];exact o)));rw [ea]
        exact HZ (Aa.mpr this) (List.Sublist.refl _))
    rw [ih,ho]
    have fa:((dA n ((eY l0 g).filter λb=>!decide (b=a))).map (a:: ·)).find? (λp=>decide (pG A (g++p)))=((dA n ((eY l0 g).filter λb=>!decide (b=a))).find? λp=>decide (pG A (g++[a]++p))).map (a:: ·):=by
      rw [List.find?_map];congr 2;funext p;simp
    have sp: ∀f:H2->List (List H2),(eY l0 g).flatMap f=l1.flatMap f++(f a++l2.flatMap f):=λf=>by
      conv=>lhs;rw [el]
      rw [List.flatMap_append,tD]
    rw [sp,List.find?_append,List.find?_append,fa]
    rw [ZK (l:=l1.flatMap _) λp h=>by
      obtain ⟨b,q,h⟩:=lX.mp h
      exact J b (by rw [el];simp [q]) (h1 b q) p h]
    cases c:(dA n ((eY l0 g).filter λb=>!decide (b=a))).find? λp=>decide (pG A (g++[a]++p)) with
    |some p=>simp
    |none=>
      rw [ZK λp h=>?_]
      . rfl
      . obtain ⟨b,q,h⟩:=lX.mp h;obtain ⟨v,rfl,j⟩:=mem b (by rw [el];simp [q]) p h;refine decide_eq_false λz=>?_
        have z2:=jcL Q (j.mem_iff.mpr i) (H _ j) E (Z _ j) h2 z;have U:(a::(b::v).erase a)∈dA (n+1) (eY l0 g):=VZ _ _ _ (by omega) ((List.perm_cons_erase (j.mem_iff.mpr i)).symm.trans j);rw [pe] at U;obtain ⟨a',_,U⟩:=lX.mp U;obtain ⟨p2,hp2,e2⟩:=cK.mp U;obtain ⟨e3,e4⟩:=AW e2;subst e3;have:=GW.mp c p2 hp2;apply this;rw [decide_eq_true_iff,i7];rw [e4];exact z2
def l8 (a:List Tr):D:= .ai (a.map Tr.d)
def bl (B:Nat->Prop) (t:Tr):Prop:= ∀i,Tr.bk i∈t.ps->B i
def Ei {B:Nat->Prop} {x:Str} {l:List Tr} (h: ∀t∈l,bl B t):bl B (.nd x l):=λi a=>by
 rcases cQ.mp a with e|e
 . cases e
 . obtain ⟨t,c,g⟩:=h8.mp e;exact h t c i g
def jjN {B:Nat->Prop} {t p:Tr} (h:bl B t) (a:p∈t.ps):bl B p:=λi c=>h i (zN t p a _ c)
def jiN {B:Nat->Prop} {t p:Tr} (h:bl B t) (a:p∈t.aw):bl B p:=jjN h (xL a p (qO p))
def CB {B:Nat->Prop} {i:Nat} (h:B i):bl B (.bk i):=λj a=>by
 simp only [Tr.ps,iw,Tr.bk.injEq] at a;rw [a];exact h
def Ia {a:List (Str×Nat)} {n:Nat} {x:Str} {l:List Tr} (c:(x,l.length)∈a) (e: ∀p∈l,Tn a n p):Tn a (n+1) (.nd x l):= .inr ⟨_,c,rfl,e⟩
abbrev Oa (f:TW):Sl->ak bg:=ap (gK (jm 4 f (jb (aa 0) (jb (aa 1) (jb (aa 2) (jb (ag (aa 3) (cI 1) lG) ab))))) (g2 (gN 9) (gN 0))) (zM 4 (aa 9))
theorem vM {c:List (Str×Nat)} {W:Int} (hW:W=(c.length:Int)+2) (hl:c.length<=6) (E: ∀h∈c,h.2<=3) {lv:List Tr} {j:Nat} {B:Nat->Prop} (Y:0<lv.length/\lv.length<=6) (Z: ∀z∈lv,Tn c j z/\bl B z): ∀(m k:Nat) (n:Int),k<m-> ∃(t:Tr) (O:Int),ba m [.int n,aI c,l8 lv,.int k]= .ok (.am [t.d,.int O])/\Tn c (k+j) t/\bl B t
 |0,k,n,h=>absurd h (ri _)
 |m+1,k,n,hm=>by
  have hw1:=tL n (show 0<W by omega);have l:bc [l8 lv]= .ok (.int lv.length):=by show ak.ok (D.int ((lv.map Tr.d).length))=_;rw [bM]
  have H: ∀r,ge (ba m) [.ae (.int n),.ae (aI c),.ae (l8 lv),.ae (.int k),.un,.un,.un,.un,.un,.un]= .ok (.rt true r)->ba (m+1) [.int n,aI c,l8 lv,.int k]= .ok r:=λr h=>qN h
  have s1:gK (app (jb (aa 0) (jb (ag (app (jb (aa 1) ab) bc) (cI 2) a4) ab)) Qe) (g2 (gN 0) (gN 6)) [.ae (.int n),.ae (aI c),.ae (l8 lv),.ae (.int k),.un,.un,.un,.un,.un,.un]= .ok (.nx [.ae (.int (n/W)),.ae (aI c),.ae (l8 lv),.ae (.int k),.un,.un,.ae (.int (n%W)),.un,.un,.un]):=y8 (Nr rfl (oA (D.int W) (by rw [hW];exact jg (jX (jc rfl rfl) (oA (.int c.length) (by show ak.ok (D.int ((c.map λh=>fT h.1 h.2).length))=_;rw [bM]))) rfl rfl)) (by omega));have Q:fY (aM (ag (aa 6) (cI 2) ltI)) (aM (ag (aa 3) (cI 0) dP)) [.ae (.int (n/W)),.ae (aI c),.ae (l8 lv),.ae (.int k),.un,.un,.ae (.int (n%W)),.un,.un,.un]= .ok (decide (n%W<2)|| ((k:Int)==0)):=yN (jq (jg rfl rfl rfl)) (jq (jg rfl rfl LB))
  by_cases hc:n%W<2\/k=0
  . have hb:(decide (n%W<2)|| ((k:Int)==0))=true:=by
     rcases hc with h|h
     . rw [decide_eq_true h];rfl
     . subst h;simp
    rw [hb] at Q;have z0:=tK (n/W) (show ((lv.length:Int))≠0 by omega);have z1:=tL (n/W) (show (0:Int)<lv.length by omega);obtain ⟨d,hd,o⟩:=Gg (ds:=lv.map Tr.d) z0 (by rw [bM];omega);obtain ⟨x,hx,rfl⟩:=cK.mp o;refine ⟨x,n/W/lv.length,H _ ?_,(Z x hx).1.le (by omega),(Z x hx).2⟩;refine (jj s1).trans (qK ((cz Q).trans ?_));refine (jj (y8 (Nr rfl (jX (jc rfl rfl) l) (by omega)))).trans ?_;exact jG (zS (jc (jg rfl rfl hd) (jc rfl rfl)) (jl (show 2<=20000 by decide)))
  . have hb:(decide (n%W<2)|| ((k:Int)==0))=false:=by
     rw [decide_eq_false (λh=>hc (.inl h))];simp;exact λh=>hc (.inr (by omega))
    rw [hb] at Q;obtain ⟨k,rfl⟩: ∃q,k=q+1:=⟨k-1,by omega⟩
    obtain ⟨d,hd,o⟩:=Gg (ds:=c.map λh=>fT h.1 h.2) (i:=n%W-2) (by omega) (by rw [bM];omega);obtain ⟨⟨z,a⟩,I,rfl⟩:=cK.mp o;have ha:=E _ I
    have J: ∀(U:Int) y,∃(L:Int) (e:List Tr) (v w:Slot),bO (j6 (gN 5) (Oa (ba m))) (ZD 0 a) [.ae (.int U),.ae (aI c),.ae (l8 lv),.ae (.int ((k+1):Int)),.ay (.ai []),.un,y,.ae (.str z),.ae (.int a),.un]= .ok (.nx [.ae (.int L),.ae (aI c),.ae (l8 lv),.ae (.int ((k+1):Int)),.ay (.ai (e.map Tr.d)),v,y,.ae (.str z),.ae (.int a),w])/\e.length=a/\ ∀t∈e,Tn c (k+j) t/\bl B t:=by
     intro U y
     obtain ⟨mo,l1,L,e,v,w,rfl,cL,g⟩:=QL (body:=j6 (gN 5) (Oa (ba m)))
       (λds N=> ∃(n:Int) (e:List Tr) (v w:Slot),N=[.ae (.int n),.ae (aI c),.ae (l8 lv),.ae (.int ((k+1):Int)),.ay (.ai (e.map Tr.d)),v,y,.ae (.str z),.ae (.int a),w]/\e.length+ds.length=a/\ ∀t∈e,Tn c (k+j) t/\bl B t)
       (by
        rintro d ds N ⟨n,e,v,w,rfl,cL,g⟩;simp at cL;obtain ⟨t,O,e1,h1⟩:=vM hW hl E Y Z m k n (by omega);refine ⟨[.ae (.int O),.ae (aI c),.ae (l8 lv),.ae (.int ((k+1):Int)),.ay (.ai ((e++[t]).map Tr.d)),.ae d,y,.ae (.str z),.ae (.int a),.ae t.d],?_,O,e++[t],_,_,rfl,by rw [gm];simp;omega,λu hu=>?_⟩
        . rw [yA rfl];refine (jj ((y8 (jp (jc rfl (jc rfl (jc rfl (jc (jg rfl rfl ?_) rfl)))) rfl e1)))).trans ?_
          . show ak.ok (D.int (((k+1):Int)-1))=_;rw [show (((k+1):Int)-1)=k by omega]
          . refine (xo rfl rfl (by rw [bM];exact gR (show e.length<20 by omega) (by decide))).trans ?_;rw [mP];rfl
        . rcases ij.mp hu with h|h
          . exact g u h
          . rw [iw] at h;subst h;exact h1)
       (ZD 0 a) [.ae (.int U),.ae (aI c),.ae (l8 lv),.ae (.int ((k+1):Int)),.ay (.ai []),.un,y,.ae (.str z),.ae (.int a),.un] ⟨U,[],.un,.un,rfl,by rw [YU];simp,λ_ h=>by cases h⟩
     exact ⟨L,e,v,w,l1,by simpa using cL,g⟩
    obtain ⟨L,e,v,w,l1,cL,g⟩:=J (n/W) (.ae (.int (n%W)));have hT:=Ia (by rw [cL];exact I) λp hp=>(g p hp).1
    refine ⟨.nd z e,L,H _ ?_,by rw [show k+1+j=k+j+1 by omega];exact hT,Ei λp hp=>(g p hp).2⟩;rw [Tr.bI];refine (jj s1).trans ?_;refine (jj ((bV Q))).trans ?_;refine (jj (y8 (jg rfl (jg rfl rfl rfl) hd))).trans ?_;refine (jj rfl).trans ?_;refine (jj ((wO (uf (jc rfl rfl) (by omega))).trans l1)).trans ?_;have Di:D.ll (.am (.str z::e.map Tr.d))=true:=by rw [<-Tr.bI];exact L6 _ (Tr.mB _)
    refine jG (zS (jc (Ly (jX (jc (jg (qP (jc rfl rfl) (jl (show 1<=20000 by decide))) rfl (xF (by simp;exact jl (by omega)))) rfl) rfl) Di) (jc rfl rfl)) (jl (show 2<=20000 by decide)))
def jiO (x:Str) (l:List Tr):gM (Tr.nd x l).d=l.flatMap λp=>gM p.d:=by
 rw [Tr.bI,Vt,ZZ,HV]
def jiP (i:Nat):gM (Tr.bk i).d=[(i:Int)]:=by simp [Tr.d,gM]
def Ib (x:Int) (t:Tr):x∈gM t.d↔ ∃i:Nat,x=i/\Tr.bk i∈t.ps:=by
 refine Tr.ind (P:=λt=>x∈gM t.d↔ ∃i:Nat,x=i/\Tr.bk i∈t.ps) (λi=>?_) (λz l c=>?_) t
 . rw [jiP];simp only [iw,Tr.ps,Tr.bk.injEq]
   constructor
   . intro h;exact ⟨i,h,rfl⟩
   . rintro ⟨j,h,rfl⟩;exact h
 . rw [jiO,lX];simp only [Tr.ps,cQ,h8]
   constructor
   . rintro ⟨p,a,h⟩;obtain ⟨i,e,h⟩:=(c p a).mp h;exact ⟨i,e,.inr ⟨p,a,h⟩⟩
   . rintro ⟨i,e,(h| ⟨p,a,h⟩)⟩
     . cases h
     . exact ⟨p,a,(c p a).mpr ⟨i,e,h⟩⟩
section
variable {ns:List Str} {U:List H2}
theorem Ej (j: ∀h∈U,h.1∈ns/\h.2<=3): ∀(n:Nat) (t:Tr),Tn U n t->bl (· <=999) t->Tm ns (n+1) (sN n) t
 |n,.bk i,_,m=>(jjQ (m i (qO _))).up (by omega) (MN n)
 |0,.nd x l,h,_=>by
  have c:=j _ (h.hd rfl);have e:=h.no;subst e;exact (NL (a:=0) (b:=0) c.1 (by simp) (λp g=>by cases g)).up (by omega) (by simp [sN])
 |n+1,.nd x l,h,m=>by
  have c:=j _ (h.hd rfl);refine (NL c.1 c.2 λp g=>Ej j n p (h.lM p g) (jiN m g)).up (by omega) ?_;have o:l.length*sN n<=3*sN n:=Cd _ c.2;have:sN (n+1)=1+3*sN n:=rfl;omega
theorem Ie: ∀(n:Nat) (t p:Tr),Tn U n t->p∈t.ps->Tn U n p
 |n,.bk i,p,h,a=>by
  simp only [Tr.ps,iw] at a;rw [a];exact h
 |0,.nd x l,p,h,a=>by
  have e:=h.no;subst e;simp only [Tr.ps,Tr.hH,iw] at a;rw [a];exact h
 |n+1,.nd x l,p,h,a=>by
  simp only [Tr.ps,cQ,h8] at a;rcases a with rfl| ⟨q,c,a⟩
  . exact h
  . exact (Ie n q p (h.lM q c) a).up
def leaf (t:Tr):Bool:=t.aw.isEmpty
def jdh (t:Tr): ∃p∈t.ps,leaf p=true:=by
 refine Tr.ind (P:=λt=> ∃p∈t.ps,leaf p=true) (λi=>⟨_,qO _,rfl⟩) (λx l a=>?_) t
 cases l with
 |nil=>exact ⟨_,qO _,rfl⟩
 |cons q r=>
  obtain ⟨p,c,h⟩:=a q cu;exact ⟨p,xL cu p c,h⟩
def jax {c:Sl} {t:Tr} {n:Nat} (o:n<=100) (j:Tn U n t) (h:aa 0 c= .ok t.d):fY (aM (bv "int" (aa 0))) (aM (ag (jM (aa 0) (qg (cI 1)) zC gT) (bq ab) dP)) c= .ok (leaf t):=by
 cases t with
 |bk i=>
  show (aM (bv "int" (aa 0)) c>>=_)=_;rw [jq (zF h (ZA (.bk i)))];rfl
 |nd x l=>
  have e:=h;rw [Tr.bI] at e
  have q:dP (.am (l.map Tr.d)) (.am [])= .ok (.bl l.isEmpty):=by
   unfold dP;have m:nb (.am (l.map Tr.d))=true:=by simp only [nb];exact Tr.ke λt _=>Tr.mB t
   have g:=Y9 j;rw [Tr.bI] at g;simp only [D.bU,D.bY] at g;rw [jn (.inl ⟨Y3 _ m,rfl,by simp only [D.bU];omega⟩)]
   cases l with
   |nil=>rfl
   |cons a r=>simp [QB,cH]
  refine (yN (jq (zF h (ZA (.nd x l)))) (jq (jg (qG e rfl rfl (?_)) (zS rfl (jl (by decide))) q)));show ak.ok (D.am (cutD (D.str x::l.map Tr.d) (some 1) none))=_;rw [zT]
structure Lr (U:List H2) (B:Nat->Prop) (q:Tr×Tr):Prop where
 t1:Tn U 2 q.1
 t2:Tn U 3 q.2
 b1:bl B q.1
 b2:bl (λi=>Tr.bk i∈q.1.ps) q.2
 nd: ∃x l,q.1= .nd x l
def jjo {t:Tr} (a: ∀h∈U,h.2<=3) (h:Tn U 2 t):t.ps.length<=13/\0<t.ps.length:=by
 rw [Zf];exact ⟨U2 a h,Tr.oa t⟩
def jjB {c a:H2} {r:List H2} {t:Tr} {B:Nat->Prop} (j: ∀h∈c::a::r,h.2<=3) (m:Tn (c::a::r) 2 t) (g:bl B t) {N:Slot} {H S3 S4 S6:Slot}:
  ∃x l,cb (aM (bv "int" (aa 5))) (jB 5 (app (jb (ag (aZ (jb (ag (ag (aa 1) (cI 1) aW) (cI 0) aW) ab)) (ag (aZ (jb (aa 5) ab)) (ag (ag (aa 1) (cI 1) aW) (cI 1) aW) lK) a4) ab) yu)) cj [N,.ae (aI (c::a::r)),H,S3,S4,.ae t.d,S6]= .ok (.nx [N,.ae (aI (c::a::r)),H,S3,S4,.ae (Tr.nd x l).d,S6])/\Tn (c::a::r) 2 (.nd x l)/\bl B (.nd x l):=by
 cases t with
 |nd x l=>exact ⟨x,l,(bV (jq (zF rfl (ZA (.nd x l))))).trans rfl,m,g⟩
 |bk i=>
  have o:=j a (by simp);refine ⟨a.1,io a.2 (.bk i),?_,(Ia (by rw [Bg];simp) λp e=>by rw [CC e];exact Tn.bk),Ei λp e=>by rw [CC e];exact g⟩;refine (cz (jq (zF rfl (ZA (.bk i))))).trans (jr ?_)
  refine jX (jc (jg (qP (jc (jg (jg rfl rfl (oA (hN a) (i4 rfl))) rfl (oA (D.str a.1) (mR rfl))) rfl) (jl (show 1<=20000 by decide))) (jg (qP (jc rfl rfl) (jl (show 1<=20000 by decide))) (jg (jg rfl rfl (oA (hN a) (i4 rfl))) rfl (oA (D.int a.2) (mR rfl))) (oA (.ai ((io a.2 (Tr.bk i)).map Tr.d)) (by
   show a5 _ _=_;rw [jn ⟨by omega,by omega,by simp;exact jl (by omega)⟩];congr 2;rw [sU];generalize a.2=k
   induction k with
   |zero=>rfl
   |succ k n=>rw [pT,sW,n,pT,e9];rfl))) (xF (by simp;exact jl (by omega)))) rfl) ?_
  rw [Tr.bI];rfl
end
def rE (n:Int) (S:List H2) (a:List Tr) (t:Tr) (u:Slot):Sl:=[.ae (.int n),.ae (aI S),.ae (l8 a),.ae (.ai (t.ps.map Tr.d)),u,.ae t.d,.un]
def uC {t:Tr} {env:Sl} {f:T0} {i:Int} (a:aa 3 env= .ok (.ai (t.ps.map Tr.d))) (h:f env= .ok (.int i)) (c:0<t.ps.length): ∃p∈t.ps,ag (aa 3) (ag f (app (jb (aa 3) ab) bc) bj) aW env= .ok p.d:=by
 have e:(0)< ((t.ps.map Tr.d).length:Int):=by rw [bM];omega
 obtain ⟨d,hd,g⟩:=Gg (tK _ (by omega)) (tL _ e);obtain ⟨p,c,rfl⟩:=cK.mp g;exact ⟨p,c,jg a (jg h (J3 a) (Wt e)) hd⟩
def jjk {e j:H2} {r:List H2} (U:(e::j::r).length<=6) (o: ∀h∈e::j::r,h.2<=3) (I:e.2=0) {lv:List Tr} {B:Nat->Prop} (J:0<lv.length/\lv.length<=6) (E: ∀z∈lv,Tn (e::j::r) 0 z/\bl B z) (n:Int): ∃q:Tr×Tr,dz [.int n,aI (e::j::r),l8 lv]= .ok (eQ q)/\Lr (e::j::r) B q:=by
 obtain ⟨t,g,e1,tn,tb⟩:=vM rfl U o J E 6 2 n (by decide);obtain ⟨x,l,e2,v,lb⟩:=jjB (N:= .ae (.int g)) (H:= .ae (l8 lv)) (S3:= .un) (S4:= .un) (S6:= .un) o tn tb;obtain ⟨M5,Y⟩:=jjo o v;generalize Z:e::j::r=S at*;obtain ⟨p,hp,ep⟩:=uC (f:=aa 0) (env:=(rE g S lv (.nd x l) .un)) rfl rfl Y;obtain ⟨m,L,O⟩:=uC (f:=ag (aa 0) (cI 7) ng) (env:=(rE g S lv (.nd x l) .un)) rfl (jg rfl rfl (LA (by decide))) Y
 have s4:eN 4 (aZ (jb (ag (aa 3) (ag (aa 0) (app (jb (aa 3) ab) bc) bj) aW) (jb (ag (aa 3) (ag (ag (aa 0) (cI 7) ng) (app (jb (aa 3) ab) bc) bj) aW) (jb (bq (jb (ag (ag (aa 1) (cI 0) aW) (cI 0) aW) ab)) ab)))) (rE g S lv (.nd x l) .un)= .ok (.nx (rE g S lv (.nd x l) (.ay (.ai [p.d,m.d,(Tr.nd e.1 []).d])))):=
  wg (qP (jc ep (jc O (jc (oA (Tr.nd e.1 []).d (by
  rw [<-Z]
  exact zS (jc (jg (jg rfl rfl (oA (hN e) (i4 rfl))) rfl (oA (D.str e.1) (mR rfl))) rfl) (jl (show 1<=20000 by decide)))) rfl))) (jl (by simp)))
 obtain ⟨w,hw,lw⟩:=jdh (.nd x l)
 have fl: ∃a f,(Tr.nd x l).ps.filter leaf=a::f:=by
  cases c:(Tr.nd x l).ps.filter leaf with
  |nil=>exact (List.filter_eq_nil_iff.mp c w hw lw).elim
  |cons a f=>exact ⟨a,f,rfl⟩
 obtain ⟨a,f,ef⟩:=fl;have cq:=Kb (im:=false) (js:=[]) (fi:=cg (aa 3)) (fe:=aa 0) (env:=(rE g S lv (.nd x l) (.ay (.ai [p.d,m.d,(Tr.nd e.1 []).d])))) leaf Tr.d rfl (qu rfl rfl) (jl (by omega)) (λb y Q=>jax (by decide) (Ie 2 _ b v y) rfl) (λb y _ Q=>rfl) (λz=>by cases z);rw [ef,e9] at cq
 have s5:zM 4 (ag (qd false 1 [] (cg (aa 3)) (gN 0) (fY (aM (bv "int" (aa 0))) (aM (ag (jM (aa 0) (qg (cI 1)) zC gT) (bq ab) dP))) (aa 0)) (cI 0) aW) (rE g S lv (.nd x l) (.ay (.ai [p.d,m.d,(Tr.nd e.1 []).d])))= .ok (.nx (rE g S lv (.nd x l) (.ay (.ai [p.d,m.d,(Tr.nd e.1 []).d,a.d])))):=
  xo (ds:=[p.d,m.d,(Tr.nd e.1 []).d]) rfl (jg cq rfl (ro _ _)) (gR (by simp) lQ)
 have ic:Tn S 2 (.nd e.1 []):=(Tn.le (n:=0) (.inr ⟨(e.1,0),by rw [<-Z,<-I];exact cu,rfl,rfl⟩) (by decide))
 obtain ⟨u,n2,e6,un,ub⟩:=vM rfl U o (lv:=[p,m,.nd e.1 [],a]) ⟨by simp,by simp⟩ (λz E=>by
  have sub: ∀b∈(Tr.nd x l).ps,Tn S 2 b/\bl (λi=>Tr.bk i∈(Tr.nd x l).ps) b:=λb y=>⟨Ie 2 _ b v y,λi hi=>zN _ b y _ hi⟩
  simp at E;rcases E with rfl|rfl|rfl|rfl
  . exact sub _ hp
  . exact sub _ L
  . exact ⟨ic,Ei λt ht=>by cases ht⟩
  . exact sub _ ((t5.mp (by rw [ef];exact cu)).1)) 6 1 (g/49) (by decide)
 refine ⟨(.nd x l,u),qN ?_,⟨v,un,lb,ub,⟨x,l,rfl⟩⟩⟩;refine (jj (y8 (jp (jc rfl (jc rfl (jc rfl (jc rfl rfl)))) rfl e1))).trans ?_;refine (jj e2).trans ?_;refine (jj (jr (jp (jc rfl rfl) rfl (Xr o 16 2 _ v (by decide) (by rw [<-Zf];omega))))).trans ?_;refine (jj s4).trans ((jj s5).trans ?_);have im:D.ll (.am [u.d,.int n2])=true:=lH.mpr ⟨L6 _ (Tr.mB u),rfl⟩;refine (jj (y8 (Ly (jp (jc (jg rfl rfl (LA (by decide))) (jc rfl (jc rfl (jc rfl rfl)))) rfl e6) im))).trans ?_;exact jG (zS (jc rfl (jc rfl rfl)) (jl (show 2<=20000 by decide)))
def jhM:dH (.int 10) (.int 14)= .ok (.int (10^14)):=(Wn (by decide)).trans rfl
def Jo {f1 f2:T0} {env:Sl} {z:Str} {k:Nat} (a:f1 env= .ok (.str z)) (c:f2 env= .ok (.int (k:Int))):bq (jb f1 (jb f2 ab)) env= .ok (hN (z,k)):=zS (jc a (jc c rfl)) (jl (show 2<=20000 by decide))
def dW {f:T0} {a:Sl} {i:Int} {j:Int} (h:f a= .ok (.int i)) (c:0<j/\j<2^200):ag f (cI j) bQ a= .ok (.int (i/j)):=jg h rfl (Qf c)
def mW {f:T0} {env:Sl} {i:Int} {j:Int} (h:f env= .ok (.int i)) (a:0<j): ∃k:Nat,i%j=(k:Int)/\(k:Int)<j/\ag f (cI j) bj env= .ok (.int (k:Int)):=by
 have c:=tK i (show j≠0 by omega);have e:=tL i a;refine ⟨(i%j).toNat,by omega,by omega,?_⟩;rw [Gr c];exact jg h rfl (Wt a)
def jh3 (n:Int): ∃(ns:List Str) (U h1:H2) (r:List H2),fy [.int n]= .ok (aI (U::h1::r))/\r.length<=2/\U.2=0/\sJ ns/\ ∀h∈U::h1::r,h.1∈ns/\h.2<=3:=by
 obtain ⟨L,eL,hL,Y,DL⟩:=Zq n
 match L,hL with
 | [g,i,l,w,B,E,H],_=>
  have y: ∀(k:Nat) x,([g,i,l,w,B,E,H]:List Str)[k]?=some x->aW (.ai ([g,i,l,w,B,E,H].map D.str)) (.int k)= .ok (.str x):=λk x h=>i4 (by rw [iE,h];rfl)
  generalize hNs:D.ai ([g,i,l,w,B,E,H].map D.str)=p at*;generalize hm:n/10^14=m at*;obtain ⟨a,_,a2,ea⟩:=mW (f:=aa 0) (env:=[.ae (.int m),.ae p,.un]) (j:=2) rfl (by decide);obtain ⟨b,_,b3,eb⟩:=mW (f:=ag (aa 0) (cI 2) bQ) (env:=[.ae (.int m),.ae p,.un]) (j:=3) (dW rfl (by decide)) (by decide)
  have q4: ∃z k,z∈[g,i,l,w,B,E,H]/\k<=2/\bq (jb (ag (aa 1) (ag (ag (aa 0) (cI 6) bQ) (cI 2) bj) aW) (jb (ag (aZ (jb (cI 1) (jb (cI 2) (jb (cI 2) ab)))) (ag (ag (ag (aa 0) (cI 6) bQ) (cI 2) bj) (ag (ag (aa 0) (cI 12) bQ) (cI 2) bj) a4) aW) ab)) [.ae (.int m),.ae p,.ay (aI [(g,0),(i,1+a),(l,b)])]= .ok (hN (z,k)):=by
    obtain ⟨c,_,c2,q⟩:=mW (f:=ag (aa 0) (cI 6) bQ) (env:=[.ae (.int m),.ae p,.ay (aI [(g,0),(i,1+a),(l,b)])]) (j:=2) (dW rfl (by decide)) (by decide);obtain ⟨d,_,d2,N⟩:=mW (f:=ag (aa 0) (cI 12) bQ) (env:=[.ae (.int m),.ae p,.ay (aI [(g,0),(i,1+a),(l,b)])]) (j:=2) (dW rfl (by decide)) (by decide);have o: ∀I,aZ (jb (cI 1) (jb (cI 2) (jb (cI 2) ab))) I= .ok (.ai [.int 1,.int 2,.int 2]):=λI=>qP rfl (jl (by decide))
    have hc:c=0\/c=1:=by omega
    have hd:d=0\/d=1:=by omega
    rcases hc with rfl|rfl<;>rcases hd with rfl|rfl
    . exact ⟨g,1,by simp,by decide,Jo (jg rfl q (y 0 g rfl)) (jg (o _) (jg q N rfl) (i4 rfl))⟩
    . exact ⟨g,2,by simp,by decide,Jo (jg rfl q (y 0 g rfl)) (jg (o _) (jg q N rfl) (i4 rfl))⟩
    . exact ⟨i,2,by simp,by decide,Jo (jg rfl q (y 1 i rfl)) (jg (o _) (jg q N rfl) (i4 rfl))⟩
    . exact ⟨i,2,by simp,by decide,Jo (jg rfl q (y 1 i rfl)) (jg (o _) (jg q N rfl) (i4 rfl))⟩
  obtain ⟨u,v,Z,hk4,e4⟩:=q4
  have q5: ∃z k,z∈[g,i,l,w,B,E,H]/\k<=2/\cb (aM (ag (ag (gJ 2) (cI 3) aW) (jM (gJ 2) zC (qg (cI 3)) gT) (fO false))) (Gw 2 (cI 3) (bq (jb (ag (aa 1) (cI 3) aW) (jb (cI 1) ab)))) cj [.ae (.int m),.ae p,.ay (aI [(g,0),(i,1+a),(l,b),(u,v)])]= .ok (.nx [.ae (.int m),.ae p,.ay (aI [(g,0),(i,1+a),(l,b),(z,k)])]):=by
    have O:aM (ag (ag (gJ 2) (cI 3) aW) (jM (gJ 2) zC (qg (cI 3)) gT) (fO false)) [.ae (.int m),.ae p,.ay (aI [(g,0),(i,1+a),(l,b),(u,v)])]= .ok (decide ((u,v)∈[(g,0),(i,1+a),(l,b)])):=by
      refine jq (jg (jg rfl rfl (oA (hN (u,v)) (i4 rfl))) (oA (aI [(g,0),(i,1+a),(l,b)]) (qG rfl rfl rfl ?_)) (Cw false _ _));show ak.ok (D.ai (cutD (([(g,0),(i,1+a),(l,b),(u,v)]:List H2).map λh=>fT h.1 h.2) none (some ((3:Nat):Int))))=_;rw [HQ];rfl
    cases hb:decide ((u,v)∈[(g,0),(i,1+a),(l,b)]) with
    |false=>rw [hb] at O;exact ⟨u,v,Z,hk4,(bV O).trans rfl⟩
    |true=>
      rw [hb] at O;refine ⟨w,1,by simp,by decide,(cz O).trans ?_⟩;have e:=Jo (f1:=ag (aa 1) (cI 3) aW) (f2:=cI 1) (env:=[.ae (.int m),.ae p,.ay (aI [(g,0),(i,1+a),(l,b),(u,v)])]) (jg rfl rfl (y 3 w rfl)) rfl;show (bq _ [.ae (.int m),.ae p,.ay (aI [(g,0),(i,1+a),(l,b),(u,v)])]>>=_)=_;rw [e];rfl
  obtain ⟨Q,J,hz5,hk5,e5⟩:=q5;obtain ⟨c,_,c3,q⟩:=mW (f:=ag (aa 0) (cI 24) bQ) (env:=[.ae (.int m),.ae p,.ae (aI [(g,0),(i,1+a),(l,b),(Q,J)])]) (j:=3) (dW rfl (by decide)) (by decide);refine ⟨[g,i,l,w,B,E,H],(g,0),(i,1+a),[(l,b),(Q,J)].take c,qN ?_,cE (List.length_take_le' _ _) (by simp),rfl,⟨by simp,Y⟩,λh hh=>?_⟩
  . refine (jj (jr (jp (jc rfl rfl) rfl eL))).trans ?_;refine (jj (jr (jg rfl (jg rfl rfl jhM) (Qf (by decide))))).trans ?_;rw [hm];refine (jj (wg (oA (aI [(g,0),(i,1+a),(l,b)]) (qP (jc (Jo (jg rfl rfl (y 0 g rfl)) rfl) (jc (Jo (jg rfl rfl (y 1 i rfl)) (jg rfl ea (by show ak.ok (D.int (1+a))=_;rw [Int.natCast_add];rfl))) (jc (Jo (jg rfl rfl (y 2 l rfl)) eb) rfl))) (jl (show 3<=20000 by decide)))))).trans ?_;refine (jj (xo rfl e4 (gR (by simp) lQ))).trans ?_;refine (jj e5).trans ?_;refine jG (qG rfl rfl (qZ (jg rfl q rfl)) ?_);show ak.ok (D.ai (cutD (([(g,0),(i,1+a),(l,b),(Q,J)]:List H2).map λh=>fT h.1 h.2) none (some (2+c))))=_;rw [show (2+c)=((c+2:Nat):Int) by omega,HQ,<-List.map_take];rfl
  . have:h=(g,0)\/h=(i,1+a)\/h=(l,b)\/h=(Q,J):=by
      rcases cQ.mp hh with e|e
      . exact .inl e
      . rcases cQ.mp e with e|e
        . exact .inr (.inl e)
        . have:=List.mem_of_mem_take e;simp at this;rcases this with e|e
          . exact .inr (.inr (.inl e))
          . exact .inr (.inr (.inr e))
    rcases this with e|e|e|e<;>subst e
    . exact ⟨by simp,by simp⟩
    . exact ⟨by simp,by show 1+a<=3;omega⟩
    . exact ⟨by simp,by show b<=3;omega⟩
    . exact ⟨hz5,by show J<=3;omega⟩
def wt (o:Nat) (h:H2):Tr:= .nd h.1 (io h.2 (.bk o))
def vz (o:Nat) (h:H2):(wt o h).hd=some h:=by
 show some (h.1,(io h.2 (Tr.bk o)).length)=_;rw [Bg]
def vy {o:Nat} {h:H2} {p:Tr} (a:p∈(wt o h).aw):p= .bk o:=CC a
def Ob {a:H2->Nat} {o:Nat} {h l:H2} (g:h≠l) (w:1<=h.2):gtB a (wt o h) (wt o l)=decide (a h<a l):=by
 refine ZI ?_;rw [decide_eq_true_iff,Qq]
 constructor
 . rintro (⟨p,i,j⟩| ⟨r,_⟩| ⟨m,_⟩)
   . rw [vy i] at j;rcases j with e|e
     . cases e
     . exact (D1 e).elim
   . obtain ⟨c,d,n,q,u⟩:=Qp _ r;rw [vz] at n q;cases n;cases q;exact u
   . rw [vz,vz] at m;exact (g (gG m)).elim
 . intro v;refine .inr (.inl ⟨Hh _ (vz o h) (vz o l) v,λp i=>?_⟩);rw [vy i];refine yW ?_ (.inl rfl);exact List.mem_replicate.mpr ⟨by omega,rfl⟩
def wq (o:Nat) (e:i9):Tr×Tr:=(wt o e.1,wt o e.2)
def jfK {o:Nat} {A:List i9} {p:List H2} (j:p.Nodup) (c: ∀e∈A,e.1≠e.2) (l: ∀e∈A,1<=e.1.2) (i: ∀e∈A,e.1∈p/\e.2∈p):bK p (A.map (wq o))=decide (pG A p):=by
 unfold bK;rw [Dj];rw [rX,iT,decide_eq_true_iff]
 constructor
 . intro h e a;have:=h e a;have g:gtB (bB p) (wt o e.1) (wt o e.2)=true:=this;rw [Ob (c e a) (l e a)] at g;exact (Va (c e a) j (i e a).1 (i e a).2).mp (of_decide_eq_true g)
 . intro h e a;show gtB (bB p) (wt o e.1) (wt o e.2)=true;rw [Ob (c e a) (l e a)];exact decide_eq_true ((Va (c e a) j (i e a).1 (i e a).2).mpr (h e a))
def i5 (ks:List H2) (A:List i9):D:= .bX (ks.map cY) (ks.map λa=>aI (jk A a))
def jgE (A:List i9) (e:i9) (a:H2):jk (A++[e]) a=jk A a++if e.2=a then [e.1] else []:=by
 unfold jk;congr 1
 by_cases h:e.2=a<;>simp [h]
theorem VD (f:H2->D): ∀(ks:List H2) (a:H2),fw (ks.map cY) (ks.map f) (cY a)=if a∈ks then some (f a) else none
 | [],a=>rfl
 |k::ks,a=>by
  have e:=VD f ks a
  by_cases h:k=a
  . subst h;simp [fw]
  . have c: ¬cY k=cY a:=λz=>h (yT z)
    have g: ¬a=k:=λz=>h z.symm
    simp only [fw,e9,sx,rR,c,decide_false,cQ,g,false_or] at e ⊢;exact e
structure Ah (ks:List H2) (A:List i9):Prop where
 nd:ks.Nodup
 mem: ∀a,a∈ks↔ ∃h,(h,a)∈A
def Oc {ks:List H2} {A:List i9} (h:Ah ks A) {i:Nat} {e:Sl} {g:T0} {a:H2} (j:sD i e= .ok (ks.map cY,ks.map λa=>aI (jk A a))) (l:g e= .ok (hN a)):Jp i g (aZ ab) e= .ok (aI (jk A a)):=by
 unfold Jp;rw [j,zY,l,zY,show aZ ab e= .ok (.ai []) from qP rfl (jl (by decide)),zY];show ak.ok ((fw (ks.map cY) (ks.map λa=>aI (jk A a)) (cY a)).getD (.ai []))=_;rw [VD]
 by_cases c:a∈ks
 . rw [if_pos c];rfl
 . rw [if_neg c];have:jk A a=[]:=List.eq_nil_iff_forall_not_mem.mpr λx m=>c ((h.mem a).mpr ⟨x,jD.mp m⟩)
   rw [this];rfl
def jhq {ks:List H2} {A:List i9} (h:Ah ks A) (e:i9): ∃i,Ah i (A++[e])/\D.bX (yq (ks.map cY) (cY e.2)) (yr (ks.map cY) (ks.map λa=>aI (jk A a)) (cY e.2) (aI (jk A e.2++[e.1])))=i5 i (A++[e]):=by
 have g:=jgE A e
 by_cases c:e.2∈ks
 . refine ⟨ks,⟨h.nd,λa=>?_⟩,?_⟩
   . rw [h.mem a]
     constructor
     . rintro ⟨x,g⟩;exact ⟨x,rH _ g⟩
     . rintro ⟨x,g⟩;rcases ij.mp g with z|z
       . exact ⟨x,z⟩
       . have:=iw.mp z;rw [<-this] at c;exact (h.mem a).mp c
   . have n:i1 (ks.map cY) (cY e.2)=true:=by
       exact rf.mpr ⟨cY e.2,AT c,decide_eq_true rfl⟩
     unfold yq yr i5;rw [n];congr 1
     have: ∀l:List H2,((l.map cY).zip (l.map λa=>aI (jk A a))).map (λp=>if p.1=cY e.2 then aI (jk A e.2++[e.1]) else p.2)=l.map λa=>aI (jk (A++[e]) a):=λl=>by
       induction l with
       |nil=>rfl
       |cons a l o=>
         rw [e9,e9,sx,e9,o,e9,g a];congr 1
         by_cases z:e.2=a
         . subst z;simp
         . have: ¬cY a=cY e.2:=λq=>z (yT q).symm
           simp [this,z]
     exact this ks
 . have j:cY e.2∉ks.map cY:=λz=>by
     obtain ⟨b,m,q⟩:=cK.mp z;rw [yT q] at m;exact c m
   refine ⟨ks++[e.2],⟨rV.mpr ⟨h.nd,by simp,λx g y r q=>by rw [iw.mp r] at q;exact c (q▸g)⟩,λa=>?_⟩,?_⟩
   . rw [ij,iw,h.mem a]
     constructor
     . rintro (⟨x,g⟩|rfl)
       . exact ⟨x,rH _ g⟩
       . exact ⟨e.1,nU _ (by simp)⟩
     . rintro ⟨x,g⟩;rcases ij.mp g with z|z
       . exact .inl ⟨x,z⟩
       . exact .inr (by have:=iw.mp z;rw [<-this])
   . unfold yq yr i5;rw [Vg j];simp only [mT,if_false];rw [mP,mP];congr 1;congr 1
     . refine AG λa u=>?_
       have: ¬e.2=a:=λq=>c (q▸u)
       rw [g a,if_neg this,oH]
     . rw [List.map_singleton,g e.2,if_pos rfl]
section
variable {L o:Int} {C O:D} {S:List H2}
def wE (L:Int) (C:D) (o:Nat) (O:D) (S:List H2) (R:List D) (Q:D) (g a c e:Slot):Sl:=[.ae (.int L),.ae C,.ae (.int (o:Int)),.ae O,.ae (aI S),.ay (.ai R),.ay Q,g,.un,.un,a,.un,c,e]
abbrev Ig:Sl->ak bg:=og 12 13 (jb (ag (aa 10) (app (jb (aa 4) ab) bc) bj) (jb (ag (ag (aa 10) (cI 6) bQ) (app (jb (aa 4) ab) bc) bj) ab))
abbrev Ih:Sl->ak bg:=cb (aM (ag (aa 12) (aa 13) dP)) (jB 13 (ag (ag (aa 12) (cI 1) a4) (app (jb (aa 4) ab) bc) bj)) cj
abbrev Od:Sl->ak bg:=cb (aM (ag (ag (ag (aa 10) (cI 36) bQ) (cI 8) bj) (cI 0) oy)) (og 12 13 (jb (app (jb (aa 12) (jb (aa 13) ab)) maxD) (jb (app (jb (aa 12) (jb (aa 13) ab)) minD) ab))) cj
def uJ {i j:Nat} {g:TX} {a:Sl} {x y:D} (h:g a= .ok [x,y]):og i j g a= .ok (.nx ((a.set i (.ae x)).set j (.ae y))):=by
 unfold og;rw [h];rfl
def Ac {f:T0} {env:Sl} {i:Int} {S:List H2} (a:aa 4 env= .ok (aI S)) (h:f env= .ok (.int i)) (e:0<S.length): ∃k:Nat,i%(S.length:Int)=(k:Int)/\k<S.length/\ag f (app (jb (aa 4) ab) bc) bj env= .ok (.int (k:Int)):=by
 have c:=tK i (show (S.length:Int)≠0 by omega);have g:=tL i (show (0:Int)<S.length by omega);refine ⟨(i%(S.length)).toNat,by omega,by omega,?_⟩;rw [Gr c]
 exact jg h (oA (.int (S.length)) (by
  rw [J3 a,bM])) (Wt (by omega))
def jeR {o:Nat} {R:List D} {Q:D} {e h l:Slot} (m:Int) (U:2<=S.length): ∃i j:Nat,i<S.length/\j<S.length/\i≠j/\ ∀rest:Sl->ak bg,ap Ig (ap Ih (ap Od rest)) (wE L C o O S R Q e (.ae (.int m)) h l)=rest (wE L C o O S R Q e (.ae (.int m)) (.ae (.int (i:Int))) (.ae (.int (j:Int)))):=by
 obtain ⟨a,_,r,B⟩:=Ac (f:=aa 10) (env:=wE L C o O S R Q e (.ae (.int m)) h l) rfl rfl (by omega);obtain ⟨b,_,E,H⟩:=Ac (f:=ag (aa 10) (cI 6) bQ) (env:=wE L C o O S R Q e (.ae (.int m)) h l) rfl (dW rfl (by decide)) (by omega);have u:Ig (wE L C o O S R Q e (.ae (.int m)) h l)= .ok (.nx (wE L C o O S R Q e (.ae (.int m)) (.ae (.int a)) (.ae (.int b)))):=uJ (jc B (jc H rfl))
 have n: ∃j:Nat,j<S.length/\a≠j/\Ih (wE L C o O S R Q e (.ae (.int m)) (.ae (.int a)) (.ae (.int b)))= .ok (.nx (wE L C o O S R Q e (.ae (.int m)) (.ae (.int a)) (.ae (.int j)))):=by
  have q:aM (ag (aa 12) (aa 13) dP) (wE L C o O S R Q e (.ae (.int m)) (.ae (.int a)) (.ae (.int b)))= .ok (decide ((a:Int)=b)):=jq (jg rfl rfl fZ)
  by_cases c:a=b
  . rw [decide_eq_true (by omega)] at q;obtain ⟨k,x,I,J⟩:=Ac (f:=ag (aa 12) (cI 1) a4) (env:=wE L C o O S R Q e (.ae (.int m)) (.ae (.int a)) (.ae (.int b))) rfl (jg rfl rfl rfl) (by omega);refine ⟨k,I,?_,(cz q).trans (jr J)⟩
    by_cases z:a+1<S.length
    . rw [Int.emod_eq_of_lt (by omega) (by omega)] at x;omega
    . rw [show (a:Int)+1=S.length by omega,Int.emod_self] at x;omega
  . rw [decide_eq_false (by omega)] at q;exact ⟨b,E,c,(bV q).trans rfl⟩
 obtain ⟨j,v,w,n⟩:=n;obtain ⟨g,_,_,N⟩:=mW (f:=ag (aa 10) (cI 36) bQ) (env:=wE L C o O S R Q e (.ae (.int m)) (.ae (.int a)) (.ae (.int j))) (j:=8) (dW rfl (by decide)) (by decide);have p:aM (ag (ag (ag (aa 10) (cI 36) bQ) (cI 8) bj) (cI 0) oy) (wE L C o O S R Q e (.ae (.int m)) (.ae (.int a)) (.ae (.int j)))= .ok (decide ((0:Int)<g)):=jq (jg N rfl rfl)
 cases y:decide ((0:Int)<g) with
 |false=>
  rw [y] at p;exact ⟨a,j,r,v,w,λrest=>(jj u).trans ((jj n).trans (jj ((bV p))))⟩
 |true=>
  rw [y] at p
  by_cases c:a<j
  . refine ⟨j,a,v,r,λz=>w z.symm,λrest=>(jj u).trans ((jj n).trans (jj ((cz p).trans (uJ (jc (jX (jc rfl (jc rfl rfl)) ?_) (jc (jX (jc rfl (jc rfl rfl)) ?_) rfl))))))⟩
    . show ak.ok (D.int (if (j:Int)>a then j else a))=_;rw [if_pos (by omega)]
    . show ak.ok (D.int (if (j:Int)<a then j else a))=_;rw [if_neg (by omega)]
  . refine ⟨a,j,r,v,w,λrest=>(jj u).trans ((jj n).trans (jj ((cz p).trans (uJ (jc (jX (jc rfl (jc rfl rfl)) ?_) (jc (jX (jc rfl (jc rfl rfl)) ?_) rfl))))))⟩
    . show ak.ok (D.int (if (j:Int)>a then (j:Int) else a))=_;rw [if_neg (by omega)]
    . show ak.ok (D.int (if (j:Int)<a then (j:Int) else a))=_;rw [if_pos (by omega)]
end
def jhg (i k:Nat) (a:k<=3):lK (.ai [(Tr.bk i).d]) (.int (k:Int))= .ok (.ai ((io k (Tr.bk i)).map Tr.d)):=by
 show a5 _ _=_;rw [jn ⟨by omega,by omega,by simp;exact jl (by omega)⟩];congr 2;rw [sU];clear a
 induction k with
 |zero=>rfl
 |succ k c=>rw [pT,sW,c,pT,e9];rfl
def Oe {k o:Nat} {a:Sl} {h:H2} (c:ag (aa 4) (aa k) aW a= .ok (hN h)) (e:aa 2 a= .ok (.int (o:Int))) (g:h.2<=3):app (jb (ag (aZ (jb (ag (ag (aa 4) (aa k) aW) (cI 0) aW) ab)) (ag (aZ (jb (aa 2) ab)) (ag (ag (aa 4) (aa k) aW) (cI 1) aW) lK) a4) ab) yu a= .ok (wt o h).d:=by
 refine jX (jc (jg (qP (jc (jg c rfl (oA (D.str h.1) (mR rfl))) rfl) (jl (show 1<=20000 by decide))) (jg (qP (jc e rfl) (jl (show 1<=20000 by decide))) (jg c rfl (oA (D.int h.2) (mR rfl))) (jhg o h.2 g)) (xF (by simp;exact jl (by omega)))) rfl) ?_;unfold wt;rw [Tr.bI];rfl
structure WA (S:List H2) (A:List i9):Prop where
 ok: ∀e∈A,e.1∈S/\e.2∈S/\e.1≠e.2
 ln:A.length<=12
abbrev Of:Sl->ak bg:=(ap (jB 10 (jm 1 bh (jb (aa 7) ab))) (ap Ig (ap Ih (ap Od (ap (zM 5 (bq (jb (app (jb (ag (aZ (jb (ag (ag (aa 4) (aa 12) aW) (cI 0) aW) ab)) (ag (aZ (jb (aa 2) ab)) (ag (ag (aa 4) (aa 12) aW) (cI 1) aW) lK) a4) ab) yu) (jb (app (jb (ag (aZ (jb (ag (ag (aa 4) (aa 13) aW) (cI 0) aW) ab)) (ag (aZ (jb (aa 2) ab)) (ag (ag (aa 4) (aa 13) aW) (cI 1) aW) lK) a4) ab) yu) ab)))) (JC 6 (ag (aa 4) (aa 13) aW) (ag (Jp 6 (ag (aa 4) (aa 13) aW) (aZ ab)) (aZ (jb (ag (aa 4) (aa 12) aW) ab)) a4)))))))
section
variable {B:Int} {C E:D} {S:List H2} {o:Nat}
def jeQ (N:2<=S.length) (O:S.Nodup) (L: ∀h∈S,h.2<=3) {A:List i9} {ks:List H2} (q:Ah ks A) (Q:WA S A) (hA:A.length<12) (c:Int) {U r u v:Slot}:
   ∃n g w x y,j6 (gN 7) Of (.int c) (wE B C o E S ((A.map (wq o)).map eQ) (i5 ks A) U r u v)= .ok (.nx (wE B C o E S ((n.map (wq o)).map eQ) (i5 g n) (.ae (.int c)) w x y))/\Ah g n/\WA S n/\n.length=A.length+1:=by
 obtain ⟨m,em,_⟩:=xz c;obtain ⟨i,j,H,I,Y,Z⟩:=jeR m N
 have kl:ks.length<20000:=by
   have:ks.length<=A.length:=by
     have:=wo (m:=A.map (·.2)) q.nd λa ha=>by
       obtain ⟨h,hh⟩:=(q.mem a).mp ha;exact cK.mpr ⟨_,hh,rfl⟩
     rwa [bM] at this
   omega
 obtain ⟨g,J,eD⟩:=jhq q (S[i],S[j]);have si:(S.map hN)[i]?=some (hN S[i]):=by rw [iE,cy H];rfl
 have sj:(S.map hN)[j]?=some (hN S[j]):=by rw [iE,cy I];rfl
 have ne:S[i]≠S[j]:=λz=>Y ((CJ O).mp z)
 refine ⟨A++[(S[i],S[j])],g,.ae (.int m),.ae (.int i),.ae (.int j),?_,J,⟨λe he=>?_,by simp;omega⟩,by simp⟩
 . refine we rfl ((jj (jr (jp (jc rfl rfl) rfl em))).trans ((Z _).trans ?_));have p: ∀ {R:List D},ag (aa 4) (aa 12) aW (wE B C o E S R (i5 ks A) (.ae (.int c)) (.ae (.int m)) (.ae (.int i)) (.ae (.int j)))= .ok (hN S[i]):=jg rfl rfl (i4 si);have l: ∀ {R:List D},ag (aa 4) (aa 13) aW (wE B C o E S R (i5 ks A) (.ae (.int c)) (.ae (.int m)) (.ae (.int i)) (.ae (.int j)))= .ok (hN S[j]):=jg rfl rfl (i4 sj);refine (jj (xo rfl (zS (jc (Oe p rfl (L _ (mF H))) (jc (Oe l rfl (L _ (mF I))) rfl)) (jl (by simp))) (gR (by simp;omega) lQ))).trans ?_
   have eR:(A.map (wq o)).map eQ++[D.am [(wt o S[i]).d,(wt o S[j]).d]]=((A++[(S[i],S[j])]).map (wq o)).map eQ:=by
     rw [mP,mP];rfl
   show JC 6 _ _ (wE B C o E S ((A.map (wq o)).map eQ++[D.am [(wt o S[i]).d,(wt o S[j]).d]]) (i5 ks A) (.ae (.int c)) (.ae (.int m)) (.ae (.int i)) (.ae (.int j)))=_;rw [eR]
   have al:(jk A S[j]).length<=12:=by
     unfold jk;rw [bM];exact cE (Cy _ _) (by omega)
   have fv:ag (Jp 6 (ag (aa 4) (aa 13) aW) (aZ ab)) (aZ (jb (ag (aa 4) (aa 12) aW) ab)) a4 (wE B C o E S (((A++[(S[i],S[j])]).map (wq o)).map eQ) (i5 ks A) (.ae (.int c)) (.ae (.int m)) (.ae (.int i)) (.ae (.int j)))= .ok (aI (jk A S[j]++[S[i]])):=by
     refine jg (Oc q rfl l) (qP (jc p rfl) (jl (show 1<=20000 by decide))) ((xF ?_).trans ?_)
     . rw [bM];exact jl (by simp;omega)
     . unfold aI;rw [mP];rfl
   unfold JC;rw [show sy 6 (wE B C o E S (((A++[(S[i],S[j])]).map (wq o)).map eQ) (i5 ks A) (.ae (.int c)) (.ae (.int m)) (.ae (.int i)) (.ae (.int j)))= .ok (ks.map cY,ks.map λa=>aI (jk A a)) from rfl,zY,fv,zY,l,zY];show a5 ((ks.map cY).length<aS) _=_;rw [jn (by rw [bM];exact gR kl lQ)];show ak.ok (bg.nx (wE B C o E S (((A++[(S[i],S[j])]).map (wq o)).map eQ) (D.bX (yq (ks.map cY) (cY S[j])) (yr (ks.map cY) (ks.map λa=>aI (jk A a)) (cY S[j]) (aI (jk A S[j]++[S[i]])))) (.ae (.int c)) (.ae (.int m)) (.ae (.int i)) (.ae (.int j))))=_;rw [show D.bX (yq (ks.map cY) (cY S[j])) (yr (ks.map cY) (ks.map λa=>aI (jk A a)) (cY S[j]) (aI (jk A S[j]++[S[i]])))=i5 g (A++[(S[i],S[j])]) from eD]
 . rcases ij.mp he with z|z
   . exact Q.ok e z
   . rw [iw.mp z];exact ⟨mF H,mF I,ne⟩
theorem vC (L:2<=S.length) (N:S.Nodup) (O: ∀h∈S,h.2<=3): ∀(cs:List Int) (A:List i9) (ks:List H2) (p a e g:Slot),Ah ks A->WA S A->A.length+cs.length<=12->
  ∃n i q j l m,bO (j6 (gN 7) Of) (cs.map D.int) (wE B C o E S ((A.map (wq o)).map eQ) (i5 ks A) p a e g)= .ok (.nx (wE B C o E S ((n.map (wq o)).map eQ) (i5 i n) q j l m))/\Ah i n/\WA S n
 | [],A,ks,p,a,e,g,r,u,_=>⟨A,ks,p,a,e,g,rfl,r,u⟩
 |c::cs,A,ks,p,a,e,g,r,u,Q=>by
  simp at Q;obtain ⟨U,v,w,x,y,e1,z,H,Y⟩:=jeQ L N O r u (by omega) c;obtain ⟨n,i,q,j,l,m,e2,I,J⟩:=vC L N O cs U v (.ae (.int c)) w x y z H (by omega);exact ⟨n,i,q,j,l,m,(j7 e1).trans e2,I,J⟩
end
def wF (i:Int) (C:D) (o:Nat) (j:D) (S:List H2) (R:List D) (Q:D) (l:Slot) (m a:List H2) (c e g h:Slot):Sl:=[.ae (.int i),.ae C,.ae (.int (o:Int)),.ae j,.ae (aI S),.ae (.ai R),.ay Q,l,.ae (aI m),.ay (aI a),c,e,g,h]
abbrev Ek:Sl->ak Bool:=aM (ag (app (jb (gJ 9) ab) bc) (app (jb (aa 8) ab) bc) ltI)
abbrev Og:Sl->ak D:=qd true 1 [9,6] (cg (aa 8)) (gN 0) (mj (aM (ag (aa 0) (aa 1) (fO true))) (aM (app (jb (qd false 1 [1] (cg (Jp 2 (aa 0) (aZ ab))) (gN 0) qm (ag (aa 0) (aa 1) (fO false))) ab) fN))) (aa 0)
abbrev CD:Sl->ak bg:=ap (jB 11 Og) (ap (cb (aM (ag (aa 11) (aZ ab) dP)) (gY 5 (aJ (bq (jb (aa 4) (jb (aa 5) (jb cN ab)))))) cj) (zM 9 (ag (aa 11) (cI 0) aW)))
section
variable {fi:Int} {C NS:D} {S:List H2} {o:Nat} {R:List D} {A:List i9} {ks l0:List H2} {c7 u10 u12 u13:Slot}
def jfS (l:List H2):D.gw (l.map hN)=true:=by
 induction l with
 |nil=>rfl
 |cons a l c=>show D.gw (hN a::l.map hN)=true;simp only [D.gw,c,Ax];rfl
def jeP (g:Ah ks A) (i:A.length<=12) (j:l0.length<=60) {row:List H2} {u11:Slot}:Og (wF fi C o NS S R (i5 ks A) c7 l0 row u10 u11 u12 u13)= .ok (aI ((eY l0 row).filter (Ab A row))):=by
 have c:=Kb (im:=true) (js:=[9,6]) (fi:=cg (aa 8)) (fc:=mj (aM (ag (aa 0) (aa 1) (fO true))) (aM (app (jb (qd false 1 [1] (cg (Jp 2 (aa 0) (aZ ab))) (gN 0) qm (ag (aa 0) (aa 1) (fO false))) ab) fN))) (fe:=aa 0) (env:=wF fi C o NS S R (i5 ks A) c7 l0 row u10 u11 u12 u13) (λa=>!decide (a∈row)&&Ab A row a) hN rfl (qu rfl rfl) (jl (by omega)) (λa _ e=>by
  refine Ge (jq (jg rfl rfl (Cw true row a))) (jq (jX (jc (WH (λh=> .bl (decide (h∈row))) rfl (qu (Oc g rfl rfl) rfl) (jl ?_) λh _ e=>jg rfl rfl (Cw false row h)) rfl) (all_map _ _)));unfold jk;rw [bM]
  exact cE (Cy _ _) (by omega)) (λa _ _ e=>rfl) (λ_=>jfS _)
 refine c.trans ?_;unfold eY aI;rw [List.filter_filter];congr 2;congr 1;exact List.filter_congr λa _=>Bool.and_comm _ _
theorem vA (v:Ah ks A) (w:A.length<=12) (x:l0.length<=15): ∀(n j:Nat) (e:List H2) (i:Slot),e.length+n=l0.length->n<j->
  (ph A l0 n e=none->ql j Ek CD (wF fi C o NS S R (i5 ks A) c7 l0 e u10 i u12 u13)= .ok (.rt true (.am [aI S,.ai R,.a6])))/\
  (∀q,ph A l0 n e=some q-> ∃m,ql j Ek CD (wF fi C o NS S R (i5 ks A) c7 l0 e u10 i u12 u13)= .ok (.nx (wF fi C o NS S R (i5 ks A) c7 l0 q u10 m u12 u13)))
 |n,0,e,i,_,h=>absurd h (ri _)
 |n,j+1,e,i,y,B=>by
  have t:Ek (wF fi C o NS S R (i5 ks A) c7 l0 e u10 i u12 u13)= .ok (decide ((e.length:Int)<l0.length)):=by
   refine jq (jg (J3 rfl) (J3 rfl) ?_);show ak.ok (D.bl (decide (((e.map hN).length:Int)< ((l0.map hN).length:Int))))=_;rw [bM,bM]
  cases n with
  |zero=>
   rw [decide_eq_false (by omega)] at t;exact ⟨(λz=>by cases z),(λq p=>by cases p;exact ⟨i,xf t⟩)⟩
  |succ n=>
   rw [decide_eq_true (by omega)] at t;have c:=jeP (fi:=fi) (C:=C) (NS:=NS) (S:=S) (o:=o) (R:=R) (c7:=c7) (u10:=u10) (u12:=u12) (u13:=u13) v w (show l0.length<=60 by omega) (row:=e) (u11:=i);have e0: ∀l:Sl,aZ ab l= .ok (.ai []):=λl=>qP rfl (jl (show 0<=20000 by decide))
   cases g:(eY l0 e).filter (Ab A e) with
   |nil=>
    rw [g] at c
    have b:CD (wF fi C o NS S R (i5 ks A) c7 l0 e u10 i u12 u13)= .ok (.rt true (.am [aI S,.ai R,.a6])):=by
     refine (jj (jr c)).trans (qK ((cz (jq (jg rfl (e0 _) (eq_nil [])))).trans ?_));exact jG (zS (jc rfl (jc rfl (jc rfl rfl))) (jl (by simp)))
    have u:ph A l0 (n+1) e=none:=by
     unfold ph;rw [g]
    rw [u];exact ⟨λ_=>X4 t b,(λq p=>by cases p)⟩
   |cons a r=>
    rw [g] at c
    have b:CD (wF fi C o NS S R (i5 ks A) c7 l0 e u10 i u12 u13)= .ok (.nx (wF fi C o NS S R (i5 ks A) c7 l0 (e++[a]) u10 (.ae (aI (a::r))) u12 u13)):=by
     refine (jj (jr c)).trans ((jj ((bV (jq (jg rfl (e0 _) (eq_nil (a::r))))))).trans ?_);refine (xo rfl (jg rfl rfl (oA (hN a) (ro _ _))) (gR (by rw [bM];omega:_<20000) lQ)).trans ?_;show ak.ok (bg.nx [.ae (.int fi),.ae C,.ae (.int (o:Int)),.ae NS,.ae (aI S),.ae (.ai R),.ay (i5 ks A),c7,.ae (aI l0),.ay (.ai (e.map hN++[hN a])),u10,.ae (aI (a::r)),u12,u13])=_;rw [show e.map hN++[hN a]=(e++[a]).map hN by simp];rfl
    have u:ph A l0 (n+1) e=ph A l0 n (e++[a]):=by
     conv=>lhs;unfold ph
     rw [g]
    rw [u,xT t b];exact vA v w x n j (e++[a]) _ (by simp;omega) (by omega)
end
def jhL:dH (.int 10) (.int 31)= .ok (.int (10^31)):=(Wn (by decide)).trans rfl
def jiZ (l:Int) (cs:List Int) (o:Nat) (Y:cs.length<=12): ∃(O:List Str) (S:List H2) (A:List i9),sJ O/\(∀h∈S,h.1∈O/\h.2<=3/\1<=h.2)/\S.length<=6/\WA S A/\ ∀m:List H2,bf [.ai ((A.map (wq o)).map eQ)]= .ok (aI m)->m.length<=6->cm [.int l,.ai (cs.map D.int),.int (o:Int)]= .ok (.am [aI S,.ai ((A.map (wq o)).map eQ),sL (ph A m m.length [])]):=by
 obtain ⟨L,Z,hL,B,E⟩:=Zq l;obtain ⟨g,_,g2,eg⟩:=mW (f:=ag (aa 0) (ag (cI 10) (cI 31) dH) bQ) (env:=[.ae (.int l),.ae (.ai (cs.map D.int)),.ae (.int (o:Int)),.ae (.ai (L.map D.str)),.un,.un,.un,.un,.un,.un,.un,.un,.un,.un]) (j:=2) (jg rfl (jg rfl rfl jhL) (Qf (by decide))) (by decide)
 let S:List H2:=(fF (5+g)).map λk=>(L.getD k "",1+(l/(7+(k:Int))%3).toNat)
 have lS:S.length=5+g:=by simp [S]
 have eS:qd false 1 [3,0] (n3 (jb (ag (cI 5) (ag (ag (aa 0) (ag (cI 10) (cI 31) dH) bQ) (cI 2) bj) a4) ab)) (gN 0) qm (bq (jb (ag (aa 1) (aa 0) aW) (jb (ag (cI 1) (ag (ag (aa 2) (ag (cI 7) (aa 0) a4) bQ) (cI 3) bj) a4) ab))) [.ae (.int l),.ae (.ai (cs.map D.int)),.ae (.int (o:Int)),.ae (.ai (L.map D.str)),.un,.un,.un,.un,.un,.un,.un,.un,.un,.un]= .ok (aI S):=by
  have H:=uf (fa:=jb (ag (cI 5) (ag (ag (aa 0) (ag (cI 10) (cI 31) dH) bQ) (cI 2) bj) a4) ab) (jc (jg rfl eg rfl) rfl) (by omega)
  have c:=WH (js:=[3,0]) (fe:=bq (jb (ag (aa 1) (aa 0) aW) (jb (ag (cI 1) (ag (ag (aa 2) (ag (cI 7) (aa 0) a4) bQ) (cI 3) bj) a4) ab))) (λk=>hN (L.getD k "",1+(l/(7+(k:Int))%3).toNat)) rfl (H.trans (by unfold ZD;rfl)) (jl (by simp;omega)) (λk p acc=>by
    have i:k<L.length:=by rw [iU] at p;omega
    have ek:(L.map D.str)[k]?=some (.str (L.getD k "")):=by
      rw [iE,cy i,yU,cy i];rfl
    simp only [Int.zero_add];refine Jo (jg rfl rfl (i4 ek)) (jg rfl (jg (jg rfl (jg rfl rfl rfl) (Qf ⟨by omega,by omega⟩)) rfl (Wt (by decide))) ?_);show ak.ok (D.int (1+l/(7+(k:Int))%3))=_;congr 2
    omega)
  rw [c];unfold aI;rw [ka];rfl
 have nS:S.Nodup:=by
  have e:S.map Prod.fst=L.take (5+g):=by
    apply Ad;intro k;simp only [S,ka,iE,List.getElem?_take]
    by_cases p:k<5+g
    . rw [if_pos p,List.getElem?_range p];have i:k<L.length:=by omega
      simp [yU,cy i]
    . rw [if_neg p,nP (by simp;omega)];rfl
  have n2:(S.map Prod.fst).Nodup:=by rw [e];exact E.sublist (E4 _ _)
  exact List.Pairwise.imp (λI e=>I (by rw [e])) (yD.mp n2)
 have Q: ∀h∈S,h.1∈L/\h.2<=3/\1<=h.2:=λh x=>by
  obtain ⟨k,p,rfl⟩:=cK.mp x;have i:k<L.length:=by rw [iU] at p;omega
  refine ⟨?_,?_,?_⟩
  . show L.getD k "" ∈L;rw [yU,cy i];exact mF i
  . show 1+(l/(7+(k:Int))%3).toNat<=3;omega
  . show 1<=1+_;omega
 obtain ⟨A,ks,J,u,v,w,ew,ah,U⟩:=vC (by omega) nS (λh x=>(Q h x).2.1) cs [] [] .un .un .un .un ⟨sY,λa=>by simp⟩ ⟨(λe he=>by cases he),by simp⟩ (by simpa using Y);refine ⟨L,S,A,⟨by omega,B⟩,Q,by omega,U,λm x hl=>?_⟩;have lp:=vA (fi:=l) (C:= .ai (cs.map D.int)) (NS:= .ai (L.map D.str)) (S:=S) (o:=o) (R:=(A.map (wq o)).map eQ) (c7:=J) (u10:=u) (u12:=v) (u13:=w) (l0:=m) ah U.ln (by omega) m.length 16 [] .un (by simp) (by omega);have e0: ∀y:Sl,aZ ab y= .ok (.ai []):=λy=>qP rfl (jl (show 0<=20000 by decide))
 have pre: ∀r,ql 16 Ek CD (wF l (.ai (cs.map D.int)) o (.ai (L.map D.str)) S ((A.map (wq o)).map eQ) (i5 ks A) J m [] u .un v w)= .ok r-> ∀n,ap (λ_=> .ok r) (gY 9 (gY 5 (aJ (bq (jb (aa 4) (jb (aa 5) (jb (aa 9) ab))))))) ([]:Sl)= .ok (.rt true n)->cm [.int l,.ai (cs.map D.int),.int (o:Int)]= .ok n:=λr H n ho=>by
  refine qN ?_;refine (jj (jr (jp (jc rfl rfl) rfl Z))).trans ?_;refine (jj (jr eS)).trans ?_;refine (jj (wg (e0 _))).trans ((jj (wg rfl)).trans ?_);refine (jj (wN (qu rfl rfl) ew)).trans ?_;refine (jj (jr (jp (jc rfl rfl) rfl x))).trans ?_;refine (jj (wg (e0 _))).trans ?_
  have: ∀(z g2:TY) (e1 e2:Sl),z e1= .ok r->ap (λ_=> .ok r) g2 e2= .ok (.rt true n)->ap z g2 e1= .ok (.rt true n):=λz g2 e1 e2 h1 h2=>by
    show (z e1>>=_)=_;rw [h1];exact h2
  exact this _ _ _ _ H ho
 cases c:ph A m m.length [] with
 |none=>exact pre _ (lp.1 c) _ rfl
 |some q=>
  obtain ⟨N,e⟩:=lp.2 q c;refine pre _ e _ ?_;show aJ (bq (jb (aa 4) (jb (aa 5) (jb (aa 9) ab)))) [.ae (.int l),.ae (.ai (cs.map D.int)),.ae (.int (o:Int)),.ae (.ai (L.map D.str)),.ae (aI S),.ae (.ai ((A.map (wq o)).map eQ)),.ay (i5 ks A),J,.ae (aI m),.ae (aI q),u,N,v,w]=_;exact jG (zS (jc rfl (jc rfl (jc rfl rfl))) (jl (by simp)))
def jhX (l:List H2):lF (aI l) (aI l)= .ok (.bl false):=by
 have e1:D.eO (aI l)=true:=by
  exact TM (λ_=>rfl) l
 have e2:eE (aI l) (aI l)=true:=by
  exact Y4 λd hd=>by
   obtain ⟨a,_,rfl⟩:=cK.mp hd;simp [fT,QB,cH]
 have c:D.bU (aI l)<=190:=by
  exact cE (Nat.succ_le_succ (TN (k:=10) (λa=>by simp [fT,D.bU,D.bY]) l)) (by decide)
 unfold lF;rw [jn (.inl ⟨e1,e1,c⟩),e2];rfl
def kg {a:List (Tr×Tr)} {g:List H2} (h: ∀q∈a,Tn g 6 q.1/\Tn g 6 q.2):dP (.ai (a.map eQ)) (.ai (a.map eQ))= .ok (.bl true)/\lF (.ai (a.map eQ)) (.ai (a.map eQ))= .ok (.bl false):=by
 have e1:D.df (a.map eQ)=true:=by
  clear h
  induction a with
  |nil=>rfl
  |cons q a e=>
   show D.df (D.am [q.1.d,q.2.d]::a.map eQ)=true;exact lH.mpr ⟨lH.mpr ⟨Y3 _ (Tr.mB q.1),lH.mpr ⟨Y3 _ (Tr.mB q.2),rfl⟩⟩,e⟩
 have e2:D.bY (a.map eQ)<=20:=fq λd hd=>by
  obtain ⟨q,i,rfl⟩:=cK.mp hd;have l:=Y9 (h q i).1;have m:=Y9 (h q i).2;show D.bU (.am [q.1.d,q.2.d])<=20;simp only [D.bU,D.bY];omega
 have j:eE (.ai (a.map eQ)) (.ai (a.map eQ))=true:=by
  show cH (a.map eQ) (a.map eQ)=true;clear h e1 e2
  induction a with
  |nil=>rfl
  |cons q a e=>
   show cH (D.am [q.1.d,q.2.d]::a.map eQ) (D.am [q.1.d,q.2.d]::a.map eQ)=true;simp only [cH,e,Ax,QB,Tr.tR];simp
 have c:AE (.ai (a.map eQ)) (.ai (a.map eQ)):= .inl ⟨e1,e1,by simp only [D.bU];omega⟩;refine ⟨(jn c).trans (by rw [j]),(jn c).trans (by rw [j];rfl)⟩
def jhY (b:Bool):lF (.bl b) (.bl b)= .ok (.bl false):=by cases b<;>rfl
section
variable {ns:List Str} {p:List H2}
def lE (h i j:Slot) (l:List Tr) (m n:Slot) (p a:List H2) (o c e g:Slot):Sl:=[h,i,j,.ae (l8 l),m,n,.ae (eZ p),.ae (aI a),o,.ae (aI p),c,e,g]
abbrev Oh:Sl->ak bg:=(ap (gK (jm 4 (ba 6) (jb (jm 1 bh (jb (aa 8) ab)) (jb (aa 7) (jb (aa 3) (jb (cI 2) ab))))) (g2 (gN 11) (gN 12))) (ap (jB 10 (ag (jm 4 (ba 6) (jb (aa 12) (jb (aa 7) (jb (aa 3) (jb (cI 2) ab))))) (cI 0) aW)) (cb (aM (ag (jZ "Ranks" "falls" 3 bW (aa 6) (jb (aa 11) (jb (aa 10) ab))) (Jj aX λp=>(jm 4 (aP 32) (jb (jm 1 cn (jb (aa 9) ab)) (jb (cM p) (jb (aa 11) (jb (aa 10) ab)))))) lF)) (aJ (cB false)) cj)))
def jfF (P:rB ns p) (Y:p.Nodup) (Z:p.length<=60) {e:List H2} (g: ∀a∈e,a∈p) (v:e.length<=6) {i:List Tr} (j:0<i.length/\i.length<=6) (w: ∀z∈i,Tn e 0 z/\bl (· <=999) z) (c:Int) {y B E H I u8 l n o:Slot}:
  ∃q r u,j6 (gN 8) Oh (.int c) (lE y B E i H I p e u8 l n o)= .ok (.nx (lE y B E i H I p e (.ae (.int c)) q r u)):=by
 obtain ⟨m,em,_⟩:=xz c;have J: ∀h∈e,h.2<=3:=λh x=>(P.h3 h (g h x)).2
 obtain ⟨s,L,e1,N,b1⟩:=vM rfl v J j w 6 2 m (by decide);obtain ⟨t,n2,e2,O,b2⟩:=vM rfl v J j w 6 2 L (by decide);have Q:Tn p 6 s:=(Ko g 2 s N).le (by decide);have U:Tn p 6 t:=(Ko g 2 t O).le (by decide);refine ⟨.ae t.d,.ae s.d,.ae (.int L),we rfl ?_⟩;refine (jj (y8 (jp (jc (jp (jc rfl rfl) rfl em) (jc rfl (jc rfl (jc rfl rfl)))) rfl e1))).trans ?_;refine (jj (jr (jg (jp (jc rfl (jc rfl (jc rfl (jc rfl rfl)))) rfl e2) rfl (mR rfl)))).trans ?_;refine (bV (jq (jg (Ee (by decide) rfl (jc rfl (jc rfl rfl)) rfl (jip P ((Ej P.h3 2 s (Ko g 2 s N) b1).up (by decide) (by decide)) ((Ej P.h3 2 t (Ko g 2 t O) b2).up (by decide) (by decide)) Q U)) (NX P Q U (HU s t (by simp [lE]) rfl rfl rfl) (jp (jc rfl rfl) rfl (NY Y Z)) rfl rfl) (jhY _)))).trans rfl
theorem Oi (P:rB ns p) (B:p.Nodup) (E:p.length<=60) {here:List H2} (H: ∀a∈here,a∈p) (I:here.length<=6) {o:List Tr} (q:0<o.length/\o.length<=6) (J: ∀z∈o,Tn here 0 z/\bl (· <=999) z) {L N O Q U:Slot}: ∀(ds:List D) (r g h j:Slot),(∀d∈ds,∃i:Int,d= .int i)->
  ∃u l m n,bO (j6 (gN 8) Oh) ds (lE L N O o Q U p here r g h j)= .ok (.nx (lE L N O o Q U p here u l m n))
 | [],r,g,h,j,_=>⟨r,g,h,j,rfl⟩
 |d::ds,r,g,h,j,hd=>by
  obtain ⟨c,rfl⟩:=hd d cu;obtain ⟨v,w,y,e⟩:=jfF P B E H I q J c;obtain ⟨u,l,m,n,e2⟩:=Oi P B E H I q J ds (.ae (.int c)) v w y λx Y=>hd x (de _ Y)
  exact ⟨u,l,m,n,(j7 e).trans e2⟩
end
def ji1 {g:List Str} {c:List H2} (hN:sJ g) (h: ∀a∈c,a.1∈g) (i:c.length<=60):bJ [eZ c]= .ok (aI c):=by
 have e:wM (c.map cY)=some (c6 c):=by
  clear h i
  induction c with
  |nil=>rfl
  |cons a r j=>
   show (match Dz (cY a),wM (r.map cY) with|some a,some l=>some (a::l)|_,_=>none)=_;rw [j];rfl
 refine qN ?_
 exact jG (jX (jc rfl rfl) (oA (aI c) (by
  show (match wM (c.map cY) with|some c=>a5 (c.length<=1000/\VH c=true) (ak.ok (D.ai (c.map cU)))|none=> .aj)=_;rw [e,N9];refine jn ⟨by unfold c6;rw [bM];omega,?_⟩;unfold VH;rw [iT];intro a m;obtain ⟨b,n,rfl⟩:=cK.mp m
  exact decide_eq_true (jl (cE (HP (hN.nm _ (h b n))) (by decide))))))
def XQ (l:List Int) (k m:Nat): ∃cs:List Int,cutD (l.map D.int) (some (k:Int)) (some (m:Int))=cs.map D.int/\cs.length<=m-k:=by
 have e:cutD (l.map D.int) (some k) (some m)=(((l.map D.int).drop (Nat.min k (l.map D.int).length)).take (Nat.min m (l.map D.int).length-Nat.min k (l.map D.int).length)):=by
  unfold cutD;rw [HT.gV,HT.gV]
 refine ⟨(l.drop (Nat.min k (l.map D.int).length)).take (Nat.min m (l.map D.int).length-Nat.min k (l.map D.int).length),by rw [e,<-Ea,<-List.map_take],?_⟩;rw [Ap,Ar];simp;show min (min m l.length-min k l.length) _<=_;omega
def jaq {c:Str} {n:Nat} {F:FO} {f g:TX} {e1 e2:Sl} (h:f e1=g e2):xw c n F f e1=xw c n F g e2:=by
 unfold xw;rw [h]
abbrev reB:Sl->ak bg:=(ap (jB 5 (xw "Rules" 1 a7 (jb (app (jb (aa 4) ab) K6) ab))) (ap (jB 6 (jm 1 ez (jb (aa 5) ab))) (ap (cb (aM (ag (aa 9) cN mN)) (aJ (lD (ag (aa 6) cN mN) (ag (jZ "Rules" "told" 1 bm (aa 5) jO) (aa 4) dP) true)) cj) (ap (cb (fY (bH (aM (zi ["Ranks"] (aa 6)))) (fY (bH (aM (bv "list" (jZ "Ranks" "told" 1 bJ (aa 6) jO)))) (aM (ag (jZ "Ranks" "told" 1 bJ (aa 6) jO) (aa 9) lF)))) (aJ (cB false)) cj) (ap (cb (fY (aM (ag (jZ "Ranks" "lets" 2 bx (aa 6) (jb (aa 5) ab)) (cB true) sC)) (aM (ag (jZ "Rules" "told" 1 bm (aa 5) jO) (aa 4) lF))) (aJ (cB false)) cj) (ap (jB 7 (qd false 1 [9] (cg (aa 2)) (gN 0) (aM (ag (aa 0) (aa 1) (fO false))) (aa 0))) (ap (cG (cg (jM (aa 0) (qg (cI 7)) (qg (cI 19)) sA)) (gN 8) (ap (gK (jm 4 (ba 6) (jb (jm 1 bh (jb (aa 8) ab)) (jb (aa 7) (jb (aa 3) (jb (cI 2) ab))))) (g2 (gN 11) (gN 12))) (ap (jB 10 (ag (jm 4 (ba 6) (jb (aa 12) (jb (aa 7) (jb (aa 3) (jb (cI 2) ab))))) (cI 0) aW)) (cb (aM (ag (jZ "Ranks" "falls" 3 bW (aa 6) (jb (aa 11) (jb (aa 10) ab))) (Jj aX λp=>(jm 4 (aP 32) (jb (jm 1 cn (jb (aa 9) ab)) (jb (cM p) (jb (aa 11) (jb (aa 10) ab)))))) lF)) (aJ (cB false)) cj)))) (aJ (cB true)))))))))
section
variable {ns:List Str} {y:List (Tr×Tr)} {S w:List H2}
def Oj (j:sJ ns) (N:Cv ns y) (m:S.length<=6) (mk: ∀(f:TX) (e:Sl),f e= .ok [.ai (y.map eQ)]->xw "Rules" 1 a7 f e= .ok (obj (y.map pd) ((c6 w).map cU))) (Q:w.Nodup) (H:w.length<=6) (U: ∀a∈w,a.1∈ns/\a.2<=3) (Y: ∀x:Hd,x∈c6 w↔ ∃q∈y,x∈cP (br q.1.d)\/x∈cP (br q.2.d)) {l:List Tr} (n:0<l.length/\l.length<=6) (Z: ∀z∈l,∃i,z= .bk i/\i<=999) (o:List Int) (I:Slot):
  reB [.ae (.gv (o.map D.int)),I,.ae (aI S),.ae (l8 l),.ae (.ai (y.map eQ)),.un,.un,.un,.un,.ae (sL ((dA 7 w).find? λp=>bK p y)),.un,.un,.un]= .ok (.rt true (.bl true)):=by
 have ord:=NT j N Q U H Y;have J:=jhj H ord;refine (jj (jr (mk _ _ (jc (jX (jc rfl rfl) rfl) rfl)))).trans ?_
 have g: ∀ {e:Sl},aa 5 e= .ok (obj (y.map pd) ((c6 w).map cU))->jZ "Rules" "told" 1 bm (aa 5) jO e= .ok (.ai (y.map eQ)):=λr=>by
  rw [N7];exact Ct r (by decide) (NH _ _)
 have L:=kg λq h=>(ord w (tq _)).tn q h
 cases c:(dA 7 w).find? λp=>bK p y with
 |none=>
  refine (jj (jr (jp (jc rfl rfl) rfl (J.2 c)))).trans ?_;refine qK ((cz (jq (jg rfl rfl rfl))).trans (jG (MT (jg rfl rfl rfl) (jg (g rfl) rfl L.1))))
 |some p=>
  refine (jj (jr (jp (jc rfl rfl) rfl (J.1 p c)))).trans ?_;refine (jj ((bV (jq (jg rfl rfl rfl))))).trans ?_;have O:=ord p (xu 7 w p (by omega) (List.mem_of_find?_eq_some c));have lp:=List.find?_some (p:=λp=>bK p y) c;have pt: ∀ {e:Sl},aa 6 e= .ok (eZ p)->jZ "Ranks" "told" 1 bJ (aa 6) jO e= .ok (aI p):=λr=>Ee (by decide) r rfl rfl (ji1 j (λa u=>(O.pap.h3 a u).1) O.ok.ln)
  refine (jj ((bV (yN (qp (oA true (rfl))) (yN (qp (jq (zF (pt rfl) rfl))) (jq (jg (pt rfl) rfl (jhX p)))))))).trans ?_;refine (jj ((bV (yN (b:=false) (jq (jg (Ee (by decide) rfl (jc rfl rfl) rfl ((NP O.pap O.hL O.tn).trans (by rw [lp]))) rfl rfl)) (jq (jg (g rfl) rfl L.2)))))).trans ?_;refine (jj (jr (Kb (im:=false) (js:=[9]) (fi:=cg (aa 2)) (fc:=aM (ag (aa 0) (aa 1) (fO false))) (fe:=aa 0) (env:=[.ae (.gv (o.map D.int)),I,.ae (aI S),.ae (l8 l),.ae (.ai (y.map eQ)),.ae (obj (y.map pd) ((c6 w).map cU)),.ae (eZ p),.un,.un,.ae (aI p),.un,.un,.un]) (λa=>decide (a∈p)) hN rfl (qu rfl rfl) (jl (by omega)) (λa _ v=>jq (jg rfl rfl (Cw false p a))) (λa _ _ v=>rfl) (λz=>by cases z)))).trans ?_;obtain ⟨cs,B,_⟩:=XQ o 7 19
  obtain ⟨v8,v10,v11,v12,el⟩:=Oi O.pap O.ok.nd O.ok.ln (here:=S.filter λa=>decide (a∈p)) (λa u=>by simpa using (t5.mp u).2) (cE (Cy _ _) m) n (λz E=>by
   obtain ⟨i,rfl,hi⟩:=Z z E
   exact ⟨Tn.bk,CB hi⟩) (cs.map D.int) .un .un .un .un (λd hd=>by
   obtain ⟨i,_,rfl⟩:=cK.mp hd
   exact ⟨i,rfl⟩)
  exact (jj (wN (oA (cs.map D.int) (by
   rw [<-B]
   exact qu (qG rfl (qZ rfl) (qZ rfl) rfl) rfl)) el)).trans rfl
end
def vE (a:List Int) (m:Int) (S:List H2) (c e g:Slot):Sl:=[.ae (.gv (a.map D.int)),.ae (.int m),.ae (aI S),c,e,.un,.un,.un,.un,g,.un,.un,.un]
def vL (a b c:Nat):Slot:= .ae (l8 [.bk a,.bk b,.bk c])
theorem WD {c:Type} {P Q:c->Bool}: ∀ {l:List c},(∀x∈l,P x=Q x)->l.find? P=l.find? Q
 | [],_=>rfl
 |a::l,h=>by
  rw [rR,rR,h a cu,WD λx e=>h x (de _ e)]
section
variable {ns:List Str} {S:List H2}
def Ol (p:sJ ns) (r: ∀h∈S,h.1∈ns/\h.2<=3) (v:S.length<=6) {qs:List (Tr×Tr)} (hl:qs.length<=12) (g: ∀q∈qs,Tn S 3 q.1/\Tn S 3 q.2) (Q: ∀q∈qs,∃x l,q.1= .nd x l) {m:List Nat} (U:m.length<=3) (Y: ∀i∈m,i<=999) (u: ∀q∈qs,bl (· ∈m) q.1/\bl (λi=>Tr.bk i∈q.1.ps) q.2):
   Cv ns qs/\ ∃j:List H2,(∀(f:TX) (n:Sl),f n= .ok [.ai (qs.map eQ)]->xw "Rules" 1 a7 f n= .ok (obj (qs.map pd) ((c6 j).map cU)))/\j.Nodup/\j.length<=6/\(∀a∈j,a.1∈ns/\a.2<=3)/\(∀x:Hd,x∈c6 j↔ ∃q∈qs,x∈cP (br q.1.d)\/x∈cP (br q.2.d))/\bf [.ai (qs.map eQ)]= .ok (aI j):=by
 have E: ∀q∈qs,bl (· ∈m) q.2:=λq c i o=>(u q c).1 i ((u q c).2 i o)
 have H: ∀ {t:Tr},Tn S 3 t->bl (· ∈m) t->Tm ns 7 100 t:=λZ w=>(Ej r 3 _ Z λi o=>Y i (w i o)).up (by decide) (by decide)
 have I:Cv ns qs:=λq c=>by
   have J:=H (g q c).1 (u q c).1;have mt:=H (g q c).2 (E q c);obtain ⟨x,l,e⟩:=Q q c;refine ⟨J,mt,jjl J mt (by rw [e];rfl) (λy z=>?_) ⟨m.map (λ(i:Nat)=>(i:Int)),by rw [bM];exact U,λy z=>?_⟩⟩
   . obtain ⟨i,rfl,o⟩:=(Ib y q.2).mp z;exact (Ib _ q.1).mpr ⟨i,rfl,(u q c).2 i o⟩
   . obtain ⟨i,rfl,o⟩:=(Ib y q.2).mp z;exact cK.mpr ⟨i,E q c i o,rfl⟩
 obtain ⟨j,mk,⟨l,el,nl⟩,L,N,B⟩:=kh p I (by omega) (f:=λ_=> .ok [.ai ((qs.map pd).map rl)]) (env:=[]) rfl;refine ⟨I,j,λf n h=>?_,L,?_,N,B,?_⟩
 . rw [<-mk];exact jaq (by rw [h,N7])
 . refine cE (wo L λa ha=>?_) v;obtain ⟨q,c,h⟩:=(B _).mp (NR ha);exact Xx (h.elim ((Cp r 3 _ (g q c).1).hd _) ((Cp r 3 _ (g q c).2).hd _))
 . have O: ∀h∈S,h.2<=3:=λh hh=>(r h hh).2
   exact jfI ⟨p,r⟩ (λq c=>⟨(g q c).1.le (by decide),(g q c).2.le (by decide),cE (U2 O (g q c).1) (by decide),cE (U2 O (g q c).2) (by decide)⟩) el nl N B
end
def rD (l:List Int) (hlen:l.length<=63) (hb: ∀i∈l,yg i<=2^20):rq [.gv (l.map D.int)]= .ok (.bl true):=by
 obtain ⟨E,em0,_⟩:=kT l 0 (env:=[.ae (.gv (l.map D.int)),.un,.un,.un,.un,.un,.un,.un,.un,.un,.un,.un,.un]) rfl;obtain ⟨ns,h0,h1,r,eh,hr2,h00,L,hS⟩:=jh3 E;have p6:dH (.int 10) (.int 6)= .ok (.int (10^6)):=(Wn (by decide)).trans rfl;have p30:dH (.int 10) (.int 30)= .ok (.int (10^30)):=(Wn (by decide)).trans rfl;have s6:(h0::h1::r).length<=6:=by simp;omega
 have s3: ∀h∈h0::h1::r,h.2<=3:=λh N=>(hS h N).2
 generalize O:h0::h1::r=S at*;obtain ⟨a,_,a9,ea⟩:=mW (f:=aa 1) (env:=(vE l E S .un .un .un)) (j:=1000) rfl (by decide);obtain ⟨b,_,b9,eb⟩:=mW (f:=ag (aa 1) (cI 1000) bQ) (env:=(vE l E S .un .un .un)) (j:=1000) (dW rfl (by decide)) (by decide);obtain ⟨g,_,g2,eg⟩:=mW (f:=ag (aa 1) (ag (cI 10) (cI 6) dH) bQ) (env:=(vE l E S .un .un .un)) (j:=2) (jg rfl (jg rfl rfl p6) (Qf (by decide))) (by decide)
 obtain ⟨c,hc9,ec⟩: ∃c:Nat,c<=999/\aW (.ai [.int 7,.int (a:Int)]) (.int (g:Int))= .ok (Tr.bk c).d:=by
   have:g=0\/g=1:=by omega
   rcases this with rfl|rfl
   . exact ⟨7,by decide,ro _ _⟩
   . exact ⟨a,by omega,Hq _ _ _⟩
 have ho:aZ (jb (ag (aa 1) (cI 1000) bj) (jb (ag (ag (aa 1) (cI 1000) bQ) (cI 1000) bj) (jb (ag (aZ (jb (cI 7) (jb (ag (aa 1) (cI 1000) bj) ab))) (ag (ag (aa 1) (ag (cI 10) (cI 6) dH) bQ) (cI 2) bj) aW) ab))) (vE l E S .un .un .un)= .ok (l8 [.bk a,.bk b,.bk c]):=
   qP (jc ea (jc eb (jc (jg (qP (jc rfl (jc ea rfl)) (Ef 2 rfl (by decide))) eg ec) rfl))) (Ef 3 rfl (by decide))
 have Om: ∀z∈([.bk a,.bk b,.bk c]:List Tr),∃i,z= .bk i/\i<=999:=λz hz=>by
   simp at hz;rcases hz with rfl|rfl|rfl
   . exact ⟨a,rfl,by omega⟩
   . exact ⟨b,rfl,by omega⟩
   . exact ⟨c,rfl,hc9⟩
 obtain ⟨cs,ecs,lcs⟩:=XQ l 1 7
 have it:cg (jM (aa 0) (qg (cI 1)) (qg (cI 7)) sA) (vE l E S (vL a b c) .un .un)= .ok (cs.map D.int):=by
   rw [<-ecs];exact qu (qG rfl (qZ rfl) (qZ rfl) rfl) rfl
 obtain ⟨φ,On⟩:=Classical.axiomOfChoice (r:=λ(i:Int) q=>jm 3 dz (jb (jm 1 bh (jb (aa 0) ab)) (jb (aa 1) (jb (aa 2) ab))) [.ae (.int i),.ae (aI S),vL a b c]= .ok (eQ q)/\Lr S (· ∈[a,b,c]) q) λi=>by
   obtain ⟨n,en,_⟩:=xz i
   obtain ⟨q,eq,lq⟩:=jjk (by rw [O];exact s6) (by rw [O];exact s3) h00 (lv:=[.bk a,.bk b,.bk c]) (B:=(· ∈[a,b,c])) ⟨by simp,by simp⟩ (λz hz=>by
     simp at hz;rcases hz with rfl|rfl|rfl
     . exact ⟨Tn.bk,CB (by simp)⟩
     . exact ⟨Tn.bk,CB (by simp)⟩
     . exact ⟨Tn.bk,CB (by simp)⟩) n
   rw [O] at eq lq;exact ⟨q,jp (jc (jp (jc rfl rfl) rfl en) (jc rfl (jc rfl rfl))) rfl eq,lq⟩
 obtain ⟨I,U⟩: ∃I,I=cs.map φ:=⟨_,rfl⟩
 have ets:qd false 1 [2,3] (cg (jM (aa 0) (qg (cI 1)) (qg (cI 7)) sA)) (gN 0) qm (jm 3 dz (jb (jm 1 bh (jb (aa 0) ab)) (jb (aa 1) (jb (aa 2) ab)))) (vE l E S (vL a b c) .un .un)= .ok (.ai (I.map eQ)):=by
   rw [U,ka];exact WH _ rfl it (jl (by omega)) λi _ acc=>(On i).1
 have H: ∀q∈I,Lr S (· ∈[a,b,c]) q:=λq y=>by
   rw [U] at y;obtain ⟨i,_,rfl⟩:=cK.mp y;exact (On i).2
 have lq:I.length<=12:=by rw [U,bM];omega
 refine qN ?_;refine (jj (jr em0)).trans ?_;refine (jj (jr (jp (jc rfl rfl) rfl eh))).trans ?_;refine (jj (jr ho)).trans ?_;refine (jj (jr ets)).trans ?_;obtain ⟨w,_,w8,ew⟩:=mW (f:=ag (aa 1) (ag (cI 10) (cI 30) dH) bQ) (env:=(vE l E S (vL a b c) (.ae (.ai (I.map eQ))) .un)) (j:=8) (jg rfl (jg rfl rfl p30) (Qf (by decide))) (by decide);have tw:aM (ag (ag (ag (aa 1) (ag (cI 10) (cI 30) dH) bQ) (cI 8) bj) (cI 1) dP) (vE l E S (vL a b c) (.ae (.ai (I.map eQ))) .un)= .ok (decide ((w:Int)=1)):=jq (jg ew rfl fZ)
 by_cases hw:(w:Int)=1
 . rw [decide_eq_true hw] at tw;obtain ⟨c2,ec2,lc2⟩:=XQ l 1 13;obtain ⟨ns2,S2,A,sB,J,l2,Y,wid⟩:=jiZ E c2 a (by omega);have hT: ∀h∈S2,Tn S2 3 (wt a h):=λh N=>(Ia (by rw [Bg];exact N) λp hp=>by rw [CC hp];exact Tn.bk)
   have Oo: ∀h:H2,bl (· ∈[a]) (wt a h):=λh=>Ei λp hp=>by rw [CC hp];exact CB (by simp)
   obtain ⟨ru,u,mk,Z,h6,h3,hm,N⟩:=Ol sB (λh x=>⟨(J h x).1,(J h x).2.1⟩) l2 (qs:=A.map (wq a)) (by rw [bM];exact Y.ln) (λq y=>by
     obtain ⟨e,v,rfl⟩:=cK.mp y
     exact ⟨hT _ (Y.ok e v).1,hT _ (Y.ok e v).2.1⟩) (λq y=>by
     obtain ⟨e,v,rfl⟩:=cK.mp y
     exact ⟨_,_,rfl⟩) (m:=[a]) (by simp) (λi hi=>by rw [iw.mp hi];omega) (λq y=>by
     obtain ⟨e,v,rfl⟩:=cK.mp y;refine ⟨Oo _,λi hi=>?_⟩;have hi2:=iw.mp (Oo e.2 i hi);subst hi2;refine xL ?_ _ (qO _)
     exact List.mem_replicate.mpr ⟨by have:=(J e.1 (Y.ok e v).1).2.2;omega,rfl⟩)
   have F:=wid u N h6
   have yY: ∀e∈A,e.1∈u/\e.2∈u:=λe v=>by
     have k: ∀h:H2,(h.1,(h.2:Int))∈cP (br (wt a h).d):=λh=>(N4 _ _ _).mpr (.inl (by rw [Bg]))
     exact ⟨Xx ((hm _).mpr ⟨wq a e,AT v,.inl (k e.1)⟩),Xx ((hm _).mpr ⟨wq a e,AT v,.inr (k e.2)⟩)⟩
   have o0:eY u []=u:=AS.mpr λ_ _=>by simp
   have gf:=Uy (l0:=u) Z (λe v=>(Y.ok e v).2.2) yY u.length [] (by rw [o0]) sY (λx hx=>by cases hx) (λe v hx=>by cases hx);have up:=uy u (7-u.length);rw [show u.length+(7-u.length)=7 by omega] at up
   have gd:ph A u u.length []=(dA 7 u).find? λp=>bK p (A.map (wq a)):=by
     rw [gf,o0,<-up];rw [WD (P:=λp=>decide (pG A ([]++p))) (Q:=λp=>bK p (A.map (wq a))) λp hp=>?_]
     . cases (dA 7 u).find? λp=>bK p (A.map (wq a))<;>rfl
     . have pm:=xu 7 u p (by omega) hp;exact (jfK (o:=a) (pm.symm.nodup Z) (λe v=>(Y.ok e v).2.2) (λe v=>(J _ (Y.ok e v).1).2.2) λe v=>⟨pm.mem_iff.mpr (yY e v).1,pm.mem_iff.mpr (yY e v).2⟩).symm
   rw [gd] at F
   have st:gK (jm 3 cm (jb (aa 1) (jb (jM (aa 0) (qg (cI 1)) (qg (cI 13)) sA) (jb (ag (aa 3) (cI 0) aW) ab)))) (g3 (gN 2) (gN 4) (gN 9)) (vE l E S (vL a b c) (.ae (.ai (I.map eQ))) .un)= .ok (.nx (vE l E S2 (vL a b c) (.ae (.ai ((A.map (wq a)).map eQ))) (.ae (sL ((dA 7 u).find? λp=>bK p (A.map (wq a))))))):=by
     have fe:jm 3 cm (jb (aa 1) (jb (jM (aa 0) (qg (cI 1)) (qg (cI 13)) sA) (jb (ag (aa 3) (cI 0) aW) ab))) (vE l E S (vL a b c) (.ae (.ai (I.map eQ))) .un)=_:=jp (jc rfl (jc (oA (D.ai (c2.map D.int)) (by rw [<-ec2];exact qG rfl (qZ rfl) (qZ rfl) rfl)) (jc (jg rfl rfl (ro _ _)) rfl))) rfl F;show (jm 3 cm _ _>>=_)=_;rw [fe];rfl
   refine (jj ((cz tw).trans st)).trans ?_;exact Oj sB ru l2 mk Z h6 h3 hm ⟨by simp,by simp⟩ Om l _
 . rw [decide_eq_false hw] at tw
   obtain ⟨ru,u,mk,Z,h6,h3,hm,N⟩:=Ol L hS s6 lq (λq y=>⟨(H q y).t1.le (by decide),(H q y).t2⟩) (λq y=>(H q y).nd) (m:=[a,b,c]) (by simp) (λi hi=>by
     simp at hi
     rcases hi with rfl|rfl|rfl<;>omega) (λq y=>⟨(H q y).b1,(H q y).b2⟩)
   refine (jj ((bV tw).trans (jr (jp (jc rfl rfl) rfl (HX (by omega) Z h6 N (NT L ru Z h3 h6 hm)))))).trans ?_;exact Oj L ru s6 mk Z h6 h3 hm ⟨by simp,by simp⟩ Om l _
end G
structure PySem.W.Fast:Prop where
 (tw11539649473602918602 tw13326899689186617035 te10052790632910480431 tw423316010577609937 tw395659273188329491 tw9837197930192015274 tw16353523450768372131 tw624262601723051019 tw7183804070986267 tw7280124580523472227 tw15376147055896939397 tw13961281552863335435 tw16870418133586470777 tw4939241633262328713 tw4423245061986782110 tw2433700253332004984 tw11717534863274147660 tw1545203331222906349 tw5794026816334072460 tw14877972151354605938 tw8546632127056806765 tw13208526900289413708 tw11585443024109840822 tw10238000838948513055 tw12607178408848568316 tw17096531179394519201 tw2014637600842791881 tw5924255330267198286 tw11984363022453094463 tw17874287056635521428 tw16850949365644798214 tw442095966823826175 tw15330183335796424962 tw7941129429359026738 tw5114811455714931679 tw17635922825520914404 tw14853892079219671944 tw5262330579572888309 tw9881700441226570707 te8123386938455868055 te13305251204487295815 te12571546681448002844 te4533218271680682835 te2944084155559575668 te14410847603344904346 te12651673424282517833 te10071458589343949850 te15503383972789491312 te18017017587235203040 te15948001202185357041 te12231804731136431841 te17406260311288582845 te873136246498678531 te15296180246668595467 te6372177568538602823 te5905900434920788278 te4460279085958745156 te17069357307827837200 te3439545880698502958 te9352959045242620475 te319259299785193603 te1558913609990705658 te8897914756256610935 te423515194050805629 te14409774277682067394 te11472216201632534596 te8076702158116377971 te11509515264610731853 te3110902856100440022 te9628686195339629426 te16577747911506698201 te9965979246679225593 te212445128622933652 te4419452860169540677 te371632042719460124 te6308633065874221858 te1800134861798530060 te6431242884239504174 te2787038991853974930 te11923450019495179059 te2750214591036573265 te7140387743445375423 te5961811946256539950 te1461139073041409216 te17264237838574655977 te18412928855318994607 te14608119883019508238 te1184753795531139709 te15471678180306895970 te4252487559856311501 te12249824281674655019 te14122938147057523199 te8099434878876546036 te16898561522798053632 te18307771942286372707 te3412096677664175769 te16474109734437715384 te15384127372266944197 te18130974522104793474 te16781200190711459131 te943593376559205923 te1427552796807171309 te11875625073238604776 te3607241207974422638 te18362890416323688740 te9912870546769432589 te12965149718674617489 te14402191816436955703 te17446117097320327458 te17668246820719301659 te2108917921297806586 te18065337964402842391 te1573243974765484042 te13872593382276760050 te15315542972514049064 te3986389023177285759 te9589765569468642211 te16871356442988519451 te6897031371842644787 te6068493103003122530 te12307125990241698475 te14257296187229641049 te13986432671209068299 te12406272129321628651 te11661662742837776368 te8244520225470509013 te13333045670451889259 te11594548910453640287 te2478563446781332118 te6757097896592143634 te4598086061707676308 te16380951484323803787 te6054187363193728257 te5299736310736051238 te5247240573745642099 te13199965288726932906 te10556487583948199653 te10042163680845090176 te18061810427452224319 te14566995920860002491 te15048798691961371480 te6086363266789238613 te6861651473339503361 te7110052505357658744 te12129179485767436127 te16042362749028678617 te14850715617748513765 te9466299939353858235 te6065884605288227155 te13270697513337968462 te5675068573568531062 te17591639466223168818 te4402634208009403599 te4411516260909308124 te12801637057764782472 te1327239900516516629 te392118295926748231 te14892098119949625481 te7227605650089240586 te11959489975894898092 te7008393332702863556 te11643665888477911528 te11609629547954191911 te6689822743559437671 te17322902780199061065 te344225603692690916 te9325790002675700594 te12409935214801087296 te14055531611927152710 te10309689255285753140 te2303231503892151361 te11977234180400802529 te34053554843260658 te5029918064748970831 te15337657467920659730 te10080175451876467545 te9008034075861430716 te4154688601288388799 te5834795906441232927 te11842333590763576081 te6944898749411958343 te16202206455773256794 te13783908171912782909 te13271276823777054030 te2778772674521525608 te3772874804015465635 te18204322714645301014 te536825279335258522 te7612189917003643802 te3902841264850850803 te7922318024019028074 te2338442459201212590 te8050999615047066280 te8675736683710402493 te9992876879620417861 te8482153194920449852 te8856703285750345994 te11348796716994347702 te17248273582023418423 te14167471058713322953 te678239373802977140 te2071858113966784920 te1648653253627439399 te16459439779149547867 te17569335563389927497 te6876710668610483026 te12094533987082875386 te16596243232583440262 te16170213910562121372 te17125268790672840588 te8118741018215448596 te2071370614536140501 te16921541281014387665 te14119435692865459409 te9409320508453832516 te5870724764443950571 te8176539211290285230 te10761585146987080454 te943490913169566707 te11659444065078855215 te14463254772983049652 te3945373254706655322 te18320773856785773946 te4557526172883522681 te16243162796924812185 te9083474722825626295 te9230273791766183455 te10522846365241774836 te386587678650513434 te2103928333738056695 te12667814164573788128 te4365867801890637443 te9102705768315360067 te11637114180393222262 te1226702010338274880 te15978161627585806969 te16183772790107096370 te16464330571064256046 te14436093617395613320 te2514544146220836153 te200121311357239029 te11145604419628698028 te2321165922331094351 te4375104307074416790 te17505472010883532135 te9654105393918991779 te3850442985428560830 te5848224301003522479 te8594738895105526843 te17894078445614516520 te14296205749570674473 te5314913890482642090 te3116408045251908100 te8898131007776043955 te7164205895954336514 te12563287826673615771 te10946965410973911481 te2659161868993945448 te436032302642721949 te410938209705818811 te10873263941423741465 te16122632301100333132 te4534769508959700797 te695374614626569324 te14617134210777644179 te10287766524957078442 te909323898586141447 te16619074181685206135 te16298304718380083203 te7584415920444682915 te11631763524154982337 te18303998388660739727 te13083999085117401250 te9787918766090164129 te9068706278050180153 te17166112170388290156 te271064996775923142 te2634628132734751631 te18302247943819709493 te7727796288609637783 te7320573852689188616 te14011158663956449237 te8485566479734991810 te15893506724373240835 te3525559998545723930 te2573388034440700018 te5133651525884017012 te7736274324045735645 te15018734740880802932 te11013612732152394733 te6188266641686184492 te488800452148833345 te6280802056014981097 te7994169769107480852 te15944104345637272053 te11509800637071588939 te9869172227799476717 te3002814054541832546 te2527274054074034754 te10342155064235718424 te1273484830764165695 te17416048866379193510 te719318356719404316 te2405175249970973907 te13132747988784957594 te18215535891465405871 te7996366198424055610 te10187572124915953950 te11873037954321044175 te979805564568501023 te16371034910127906274 te10491090047955876757 te16437628366434567096 te2277222843417029051 te16360984407867763135 te381904472870704354 te11933787089978322127 te3324897394121174415 te13857777473096079415 te17351371054910657304 te10715684560838485069 te9701994891264287058 te15552290934817485927 te11631246702369682107 te10214953555535663779 te17984082803052761264 te10361411871231890920 te8621407148551685818 te8322003095553535598 te15417885380456053626 te10295865285662417613 te14527562311902279519 te3684340530191390089 te13807622268751959165 te2226838019023708239 te17860345060891804211 te8434052666342883082 te2283112331390849010 te15376617515398102547 te1148934437479019761:True)
open PySem PySem.W PyProof.Rows
set_option maxHeartbeats 0 in
theorem PySem.Challenge.cw_endwise_k35_whole_ranks_found_holds : PySem.Challenge.rw_endwise_k35_whole_ranks_found.Holds := by
  w_on;o_law;k_head;(case hw=>w_witness2)
  k_fill
  refine M.qQ (l := PySem.Challenge.rw_endwise_k35_whole_ranks_found) (n := 63) (k := 71) (x := "_law_script") (F := G.rq) rfl (by decide) rfl ⟨rfl, by decide, by decide⟩ (fun w h Y => PySem.W.kIn_of Y) ?F G.rD
  case F =>
    intro w mg fa h KX Gn hmg
    refine' G.all_mk KX Gn hmg _ _ _ _ _ _ _ _ _ _ _ _ _ _ _ _ _ _ _ _ _ _ _ _ _ _ _ _ _ _ _ _ _ _ _ _ _ _ _ _ _ _ _ _ _ _ _ _ _ _ _ _ _ _ _ _ _ _ _ _ _ _ _ _ _ _ _ _ _ _ _ _ _ _ _ _ ?e0 _ _ _ _ ?e1 _ _ _ _ ?e2 _ _ _ _ _ _ _ _ _ _ _ _ _ _ _ _
    (case e0=>k_is);(case e1=>k_is);(case e2=>k_is)
    any_goals first|exact ⟨_,by k_is,⟨_,_,_,_,_,_,_,_,_,by k_is,by k_is⟩,by k_is⟩|exact ⟨_,by k_is,by k_is,⟨_,_,_,_,_,_,_,_,_,by k_is,by k_is⟩,by k_is⟩|k_is|exact ⟨_,by k_is⟩|kernel_rfl

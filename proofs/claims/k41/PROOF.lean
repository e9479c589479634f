import PyProof.Rows.All
import Wide.All
import OpenK.AllK
import Wide.FinOn
import Lean
import PyProof.TupleKey
import PyProof.IsRules
import PyProof.DictKeyH
import PyProof.EqAt
import PyProof.EqKinds
import PyProof.TupleCall
import PyProof.Cells
import PyProof.NeKinds
import KE.IntBitsLaws
import KE.KDictList
import KE.KRevIter
import KE.KSortTup
import KE.KDictSum
import PyProof.EnumMake
import PyProof.EnumFor
import PyProof.LayNew
import PyProof.Rows.EnumRows
import PyProof.SumAny
import PyProof.ListRange
import PyProof.FString5
import PyProof.CollectIter
import PyProof.TupleOfSeq
import PyProof.Rows.Tup
import OpenK.KRaise
import PyProof.StationsW
import KE.KTryMore
import PyProof.NsDelKeeps
import KE.KEqDict
import PyProof.ExcArgs
import PyProof.Draws
import PyProof.ZipIter
import PyProof.Rows.ZipGen
import PyProof.DictWalks
import PyProof.Conv_int_bool
import PyProof.Rows.SeqMore
import PyProof.Rows.SetFrom
import PyProof.SetRoads
import PyProof.MeetsSeq2
import PyProof.FactsAll.NoneType_1
import PyProof.DictFindH
import PyProof.DictRoadsH
import PyProof.AttrMissHeap
import KE.KDictOf
import PyProof.Rows.StrJoin2
import PyProof.FactsAll.object_1
import PyProof.ReprRoads
import PyProof.CallFns
import PyProof.Rows.FactsT3
import PyProof.ReprBulk
import PySem.Challenge.RW_endwise_k41_no_numbers_paper
open Array renaming getElem?_toList -> fE, getElem?_eq_getElem -> gE, length_toList -> fW, getD_eq_getD_getElem? -> t9, getElem?_eq_some_iff -> ua, mem_toList_iff -> Aq, forIn_toList -> Ab, toList_append -> DN
open Bool renaming and_eq_true -> fw, and_eq_true_iff -> lL, false_ne_true -> lD, and_false -> iQ, false_eq_true -> mY, false_and -> pc, or_eq_true -> sg, eq_iff_iff -> sJ, or_false -> rQ, not_true -> Ad, true_and -> Bb, not_eq_true -> C4
open Classical renaming byContradiction -> A2
open False renaming elim -> hJ
open ForInStep renaming yield -> pQ
open Int renaming emod_nonneg -> nr, emod_lt_of_pos -> ss, toNat_natCast -> td
open List renaming forall_mem_cons -> bo, length_map -> bB, getElem?_eq_getElem -> dn, size_toArray -> cA, mem_cons_of_mem -> dC, getElem?_append_right -> fA, mem_cons_self -> dB, length_append -> dH, mem_map -> b8, getElem?_eq_some_iff -> fZ, getElem?_append_left -> g8, all_eq_true -> eD, length_singleton -> gz, mem_append -> eG, getElem?_map -> fB, mem_cons -> dP, mem_of_getElem? -> g9, mem_append_right -> hQ, replicate -> eR, length_cons -> fP, mem_range -> fx, mem_singleton -> ir, getElem_mem -> gD, map_cons -> fy, append_assoc -> ia, getElem?_set_self -> lT, length_take -> g7, getElem?_cons_succ -> oh, mem_iff_getElem? -> n6, getElem?_replicate -> oI, range -> fu, getElem?_eq_none -> oB, map_map -> hG, lookup_cons -> l8, append_nil -> lO, map_append -> mj, pairwise_map -> oj, lookup -> hZ, mem_append_left -> o7, length_drop -> nO, replicate_succ -> pF, mem_of_mem_take -> sv, mem_of_mem_drop -> sw, nodup_cons -> oH, getD_eq_getElem?_getD -> A6, contains_cons -> sj, getElem?_take_of_lt -> Ax, length_set -> pC, flatten_cons -> rR, find?_cons -> pH, filterMap_cons -> sL, mem_map_of_mem -> xO, any_eq_true -> sh, take_of_length_le -> AX, contains_nil -> yX, getElem?_set_ne -> Ai, map_congr_left -> AN, mem_filterMap -> An, all_cons -> rW, drop_of_length_le -> CB, length_pos_of_mem -> C1, any_eq_false -> Ap, nodup_append -> A4, all_eq_false -> Bh, take_append_drop -> CZ, nodup_range -> A3, zip_cons_cons -> Cw, getElem?_drop -> CY, set_cons_succ -> DU, length_range -> C3
open List.cons renaming injEq -> AT
open Nat renaming le_refl -> a9, lt_of_lt_of_le -> eE, le_trans -> dE, ne_of_lt -> dN, zero_le -> eQ, lt_irrefl -> lC, le_add_right -> qa, le_of_not_lt -> rT, not_lt_zero -> su, lt_of_le_of_lt -> AE, lt_trans -> rS, add_zero -> sr, lt_succ_self -> Au, le_succ -> rX, lt_of_le_of_ne -> CV, le_of_lt_succ -> CP, lt_succ_of_lt -> Dc, le_of_lt -> Ah, succ_pos -> A0
open Ne renaming symm -> m6
open Option renaming map_eq_some_iff -> lH, getD_some -> Ae, getD_none -> BU
open Option.some renaming inj -> fQ
open PyProof.Rows renaming boot_tuple -> nB, slot_tuple_getitem -> py, boot_all -> xI, boot_isinstance -> tQ, envOfC -> gx, boot_int -> DH, callWith_type1 -> D8, tupleItemsOf_ -> BR, AllBare -> m5
open PyProof.Rows.F renaming plain_set_update_loop -> C8, entry_set_update_loop -> E9
open PySem renaming wpAny_bind -> ax, wpAny_pure -> aM, Shared -> aB, starEach -> bp, sizeLine -> aR, mainGlobals -> bv, tupleKeyHash -> eu, assignEach -> dh, Program -> bI, boot_len -> gU, wpAny_newObj_type -> lW, bootBuiltins -> gH, Around -> bV, wpAny_truthy_bool -> m7, foldedSetIterable -> m9, IsTupleKey -> gp, wpAny_holding -> iY, backTo -> dO, binaryOp -> eU, compareOp -> f7, mem_of_lookup -> pw, swapsWith -> gw, wpAny_typeNameOfWhole_keyiter -> AO, attributeBase -> ng, wpAny_pyIter_list -> pf, keywordEach -> lG, wpAny_mono -> lA, wpAny_typeNameOf_keyiter -> AR, wpAny_setState_of -> sy, wpAny_callSpecial?_slot -> AA, SetTable -> iu, sizeLine_eq -> nK, codeAny_builtin -> sk, sysModules -> m4, FuncData -> iK, ofAClassStatement -> u5, wpAny_seqItems -> rE, tupleKind -> lP, wpAny_binaryOp_repeat_ref -> Cq, carriedByValue -> sx, wpAny_forIn_list -> sI, wpAny_call_entry -> te, Keyword -> hB, call_meets -> nS, assign -> fT, wpAny_passesOwn -> sR, behindInMarks -> rL, wpAny_Call_Name_kw -> Aw, backToKw -> lF, sliceBounds -> pD, not_mem_of_deeper -> Ba, codeAny_mono -> rM, wpAny_typeOf -> rP, wpAny_isOneOf_keyiter -> Cv, holding -> iW, swapsWithSole -> sO, swappedStores -> sP, typeIs_int -> pE, wpAny_execs_nil -> Aj, Builtin -> lN, codeAny -> lV, wpAny_fieldsOf -> AQ, wpAny_rule -> r9, Paired -> iU, standAt -> nI
open PySem.Around renaming under_plainId -> t7
open PySem.Builtin.Dict renaming updateFrom -> EZ, pairItems -> EX, showsAll -> EK
open PySem.Builtin.Dict_items renaming ownsTuple -> EN
open PySem.Builtin.Int renaming intBits -> pZ
open PySem.Builtin.Slice renaming slicePlaces -> Az, sliceAdjust -> Ed
open PySem.Builtin.Str renaming strSliceIndices -> sd, occurrences -> BD
open PySem.Builtin.Tuple renaming tupleItemsOf -> Ee, tupleHashOf -> D2
open PySem.F renaming slot_dict_keyiterator_next -> tY, plainAttrs_list -> AI, slot_list_append -> AB, slot_int_rmul -> se, called_set -> oU, args_dict_keyiterator_next_1 -> EM, slot_tuple_mul -> tR, entry_dict_keyiterator_next -> EL, args_tuple_add_2 -> BQ, type_list_append -> B6, slot_list_getattribute -> CC, entry_tuple_add -> BP, slot_tuple_add -> BO, args_tuple_mul_2 -> Cr
open PySem.Heap renaming get?_push_of_some -> cu, lt_size -> bX, get?_push_size -> ej, SameBut -> nH, size_push -> sX, get?_update_self -> BS
open PySem.Heap.SameBut renaming update -> AS
open PySem.Heap.TracedAtW renaming there -> Dk
open PySem.NameKind renaming free -> pR, cell -> pS
open PySem.Obj renaming mapSeq -> to, putSet -> u6
open PySem.Paired renaming length -> Af
open PySem.PassesOwn renaming never -> nA
open PySem.PyData renaming depth -> ln, shown -> nz, depthAll -> wX, shownAll -> A9, bulkAll -> Bg
open PySem.SeqAt.EqAt renaming of_refs -> Ac
open PySem.SeqAt.RcAt renaming lists_lengths -> Co
open PySem.SetTable renaming below -> fg, turns -> nu, sizeAbove -> ul, toList_insertAt -> CW, insertAt_perm -> C0, grown -> A5
open PySem.SetTable.below renaming go -> A1
open PySem.SetTable.layClean renaming free -> ub
open PySem.SetTable.probe renaming go -> oS
open PySem.Value renaming ref -> bP, bool -> iT, type -> o5, none -> rG
open PySem.W renaming Frag -> ay, nsIn -> bM, mg_of -> eJ, kitOne -> eV, mg_none_of -> iE, keepIn -> h8, kia_one -> lE, findIn -> iZ, emptyDict -> oG, instObj -> oC, fnOf -> nh, exmOne -> q9, Looks -> qP, plainGet -> sU, makesIn -> sV, codeIn -> rO, hasDictIn -> Ar, excIn -> t3, plainGet_of -> BE, lookIn -> Ao, plainOver -> BF, kitx_list -> BJ, isFn -> As, takerIn -> BG, OpenLaw -> tu
open PySem.W.Looks renaming ld -> t6
open Sum renaming inl -> gY, inr -> mZ
open True renaming intro -> nL
noncomputable section
set_option compiler.extract_closed false
set_option bootstrap.genMatcherCode false
set_option genSizeOfSpec false
set_option Elab.async false
set_option linter.all false
set_option maxRecDepth 100000
set_option maxHeartbeats 4000000
namespace M
open PySem PyProof.Rows
open PySem.SeqAt (EqAt RcAt)
inductive NK where
 |int (i:Int)|str (x:Str)|ah (l:List NK)
inductive NV where
 |aO|key (k:NK)|bl (b:Bool)
noncomputable instance D1:DecidableEq NK:=λ_ _=>Classical.propDecidable _
mutual
def NK.at (h:Heap):NK->Value->Prop
 | .int i,v=> ∃t,v= .int i t
 | .str x,v=> ∃t,v= .str x t
 | .ah l,v=> ∃a c,v= .ref a/\IsTup h a c/\NK.iI h l c.toList
def NK.iI (h:Heap):List NK->List Value->Prop
 | [],a=>a=[]
 |k::l,a=> ∃u c,a=u::c/\NK.at h k u/\NK.iI h l c
end
mutual
def NK.b9:NK->Nat
 | .ah l=>NK.cC l+1
 |_=>0
def NK.cC:List NK->Nat
 | []=>0
 |k::l=>max (NK.b9 k) (NK.cC l)
end
mutual
def NK.draws:NK->Nat
 | .ah l=>NK.cX l+1
 |_=>1
def NK.cX:List NK->Nat
 | []=>0
 |k::l=>NK.draws k+NK.cX l
end
mutual
def NK.hash (w:World):NK->Int
 | .int i=>hashInt i
 | .str x=>hashStr w x
 | .ah l=>reduceHash (D2 (NK.eB w l))
def NK.eB (w:World):List NK->List Int
 | []=>[]
 |k::l=>NK.hash w k::NK.eB w l
end
def NK.ind {P:NK->Prop} (h1: ∀i,P (.int i)) (h2: ∀x,P (.str x)) (h3: ∀l,(∀k∈l,P k)->P (.ah l)) (k:NK):P k:=
 NK.rec (motive_1:=P) (motive_2:=λl=> ∀k∈l,P k) h1 h2 h3 (λ_ h=>by cases h) (λk l a c q d=>by
  rcases dP.mp d with e|e
  . rw [e];exact a
  . exact c q e) k
def bS {h:Heap} {i:Int} {v:Value}:NK.at h (.int i) v↔ ∃t,v= .int i t:=by simp only [NK.at]
def bT {h:Heap} {x:Str} {v:Value}:NK.at h (.str x) v↔ ∃t,v= .str x t:=by simp only [NK.at]
def bU {h:Heap} {l:List NK} {v:Value}:NK.at h (.ah l) v↔ ∃a c,v= .ref a/\IsTup h a c/\NK.iI h l c.toList:=by simp only [NK.at]
def dQ {h:Heap} {a:List Value}:NK.iI h [] a↔a=[]:=by simp only [NK.iI]
def ca {h:Heap} {k:NK} {l:List NK} {a:List Value}:NK.iI h (k::l) a↔ ∃u c,a=u::c/\NK.at h k u/\NK.iI h l c:=by simp only [NK.iI]
theorem JQ {h:Heap}: ∀ {l:List NK} {a:List Value},NK.iI h l a->a.length=l.length
 | [],a,x=>by rw [dQ.mp x];rfl
 |k::l,a,x=>by
  obtain ⟨u,c,rfl,_,y⟩:=ca.mp x;rw [fP,fP,JQ y]
theorem JR {h:Heap}: ∀ {l:List NK} {a:List Value} {j:Nat} {k:NK} {u:Value},NK.iI h l a->l[j]?=some k->a[j]?=some u->NK.at h k u
 | [],a,j,k,u,x,c,d=>by cases c
 |k'::l,a,j,k,u,x,c,d=>by
  obtain ⟨g,i,rfl,e,y⟩:=ca.mp x
  cases j with
  |zero=>cases c;cases d;exact e
  |succ j=>exact JR y c d
theorem Zj {k:NK}: ∀ {l:List NK},k∈l->NK.b9 k<=NK.cC l
 | [],h=>by cases h
 |k'::l,h=>by
  simp only [NK.cC];rcases dP.mp h with e|e
  . rw [e];omega
  . have:=Zj e;omega
def vv {h:Heap} (x:NK): ∀(y:NK) (v:Value),NK.at h x v->NK.at h y v->x=y:=by
 induction x using NK.ind with
 |h1 i=>
  intro y v g c;obtain ⟨t,rfl⟩:=bS.mp g
  cases y with
  |int j=>obtain ⟨k,e⟩:=bS.mp c;cases e;rfl
  |str z=>obtain ⟨k,e⟩:=bT.mp c;cases e
  |ah l=>obtain ⟨a,d,e,_⟩:=bU.mp c;cases e
 |h2 z=>
  intro y v g c;obtain ⟨t,rfl⟩:=bT.mp g
  cases y with
  |int j=>obtain ⟨k,e⟩:=bS.mp c;cases e
  |str z=>obtain ⟨k,e⟩:=bT.mp c;cases e;rfl
  |ah l=>obtain ⟨a,d,e,_⟩:=bU.mp c;cases e
 |h3 l I=>
  intro y v g c;obtain ⟨a,d,rfl,⟨o,J,_,n,hd⟩,B⟩:=bU.mp g
  cases y with
  |int j=>obtain ⟨k,e⟩:=bS.mp c;cases e
  |str z=>obtain ⟨k,e⟩:=bT.mp c;cases e
  |ah m=>
   obtain ⟨L,E,e,⟨N,p,_,O,q⟩,H⟩:=bU.mp c;cases e;rw [J] at p;cases p;rw [hd] at q;cases q;congr 1;apply List.ext_getElem?;intro j;have e1:=JQ B;have e2:=JQ H
   by_cases w:j<l.length
   . have r:j<m.length:=by omega
     have u:j<d.toList.length:=by omega
     rw [dn w,dn r];congr 1;exact I _ (gD w) _ _ (JR B (dn w) (dn u)) (JR H (dn r) (dn u))
   . rw [oB (by omega),oB (by omega)]
theorem vt {h c:Heap}: ∀ {l:List NK} {a:List Value},(∀k∈l,∀v,NK.at h k v->NK.at c k v)->NK.iI h l a->NK.iI c l a
 | [],a,_,x=>dQ.mpr (dQ.mp x)
 |k::l,a,f,x=>by
  obtain ⟨u,d,e,g,y⟩:=ca.mp x;exact ca.mpr ⟨u,d,e,f k dB u g,vt (λq i=>f q (dC _ i)) y⟩
def FD {h d:Heap} (g: ∀a c,IsTup h a c->IsTup d a c) (k:NK): ∀v,NK.at h k v->NK.at d k v:=by
 induction k using NK.ind with
 |h1 i=>exact λv x=>bS.mpr (bS.mp x)
 |h2 z=>exact λv x=>bT.mpr (bT.mp x)
 |h3 l j=>
  intro v x;obtain ⟨a,c,e,t,y⟩:=bU.mp x;exact bU.mpr ⟨a,c,e,g a c t,vt j y⟩
def QF {s:aB} {a:Addr} {c:Array Value} (h:IsTup s.heap a c):s.TypeIs (.ref a) "tuple" :=let ⟨o,d,e,_⟩:=h;⟨o,d,e⟩
section
variable {prog:bI} {w:World}
def uq (k:NK): ∀(A:bV) (E:Value->aB->Prop) (s:aB) (v:Value) (Q:Int->aB->Prop),NK.at s.heap k v->A.units+k.b9<cLine->Q (k.hash w) {s with toks:=s.toks+k.draws}->wpAny (model prog w) A (pyHash v) Q E s:=by
 induction k using NK.ind with
 |h1 i=>
  intro A E s v Q x B q;obtain ⟨t,rfl⟩:=bS.mp x;simp only [NK.hash,NK.draws] at q;exact wpAny_pyHash_int q
 |h2 z=>
  intro A E s v Q x B q;obtain ⟨t,rfl⟩:=bT.mp x;simp only [NK.hash,NK.draws] at q;exact wpAny_pyHash_str q
 |h3 l N=>
  intro A E s v Q x B q;obtain ⟨a,O,rfl,t,y⟩:=bU.mp x;simp only [NK.b9] at B;simp only [NK.hash,NK.draws] at q;obtain ⟨o,U,Z,n,hd⟩:=id t;show wpAny _ _ (pyHashByItsType (.ref a)) _ _ s;refine PySem.W.pyHash_slot (QF t) F.slot_tuple_hash F.entry_tuple_hash (F.args_tuple_hash_1 _) (by decide) (.inr (by omega)) ?_;unfold lN.«tuple.__hash__»;refine ax (aM (ax (wpAny_tupleItemsOf U hd (ax ?_))));rw [<-Ab];refine sI _ (λrest r j=> ∃done c,done++c=l/\NK.iI s.heap c rest/\r=(NK.eB w done).toArray/\j={s with toks:=s.toks+NK.cX done}) _ ?_ ?_ _ _ ⟨[],l,rfl,y,rfl,rfl⟩
  . rintro u rest r j ⟨done,c,m,p,rfl,rfl⟩
    cases c with
    |nil=>have:=dQ.mp p;cases this
    |cons g c=>
     obtain ⟨u',us,e,H,I⟩:=ca.mp p;obtain ⟨rfl,rfl⟩:=List.cons.inj e;have J:g∈l:=by rw [<-m];simp
     have L:=Zj J;refine ax (N g J A.in1 E {s with toks:=s.toks+NK.cX done} u _ H (by show A.units+1+g.b9<cLine;omega) ?_);refine aM ⟨done++[g],c,by simp [m],I,?_,?_⟩
     . have: ∀d:List NK,NK.eB w (d++[g])=NK.eB w d++[g.hash w]:=λd=>by
        induction d with
        |nil=>simp [NK.eB]
        |cons b d h=>simp [NK.eB,h]
       rw [this];simp
     . have: ∀d:List NK,NK.cX (d++[g])=NK.cX d+g.draws:=λd=>by
        induction d with
        |nil=>simp [NK.cX]
        |cons b d h=>simp [NK.cX,h];omega
       rw [this,Nat.add_assoc]
  . rintro r j ⟨done,c,m,p,rfl,rfl⟩
    have e0:c=[]:=by
     cases c with
     |nil=>rfl
     |cons g c=>obtain ⟨_,_,e,_⟩:=ca.mp p;cases e
    subst e0;rw [lO] at m;subst m;show wpAny _ _ (do ret (<-mkInt (D2 (NK.eB w done).toArray.toList))) _ _ _;refine lA (wpAny_ret_mkInt (Q:=λv j=> ∃n t,v= .int n t/\Q (reduceHash n) j) ?_) (λY j ⟨v,e,n,t,e2,q⟩=>⟨n,t,by rw [e,e2],q⟩) (λ_ _ x=>x);refine ⟨_,_,rfl,?_⟩;simpa [Nat.add_assoc] using q
end
def VX {c:Type} [BEq c] [LawfulBEq c] {d:Type} {f:c->d} (g: ∀a b,f a=f b->a=b) (a b:c) [Decidable (f a=f b)]:(a==b)=decide (f a=f b):=by
 by_cases h:a=b
 . subst h;simp
 . rw [decide_eq_false (λe=>h (g _ _ e))];simpa using h
def FE {s:aB} (x:NK): ∀(A:bV) (y:NK) (u v:Value),NK.at s.heap x u->NK.at s.heap y v->A.units+x.b9<cLine->EqAt A s u v (decide (x=y)):=by
 induction x using NK.ind with
 |h1 i=>
  intro A y u v k g n;obtain ⟨t,rfl⟩:=bS.mp k;simp only [NK.b9] at n
  cases y with
  |int j=>
   obtain ⟨o,rfl⟩:=bS.mp g;rw [<-VX (f:=NK.int) (λa b e=>by cases e;rfl)];exact EqAt.int_int _ _ _ _
  |str z=>obtain ⟨o,rfl⟩:=bT.mp g;rw [decide_eq_false (by intro e;cases e)];exact EqAt.int_str _ _ _ _
  |ah l=>obtain ⟨a,d,rfl,p,_⟩:=bU.mp g;rw [decide_eq_false (by intro e;cases e)];exact EqAt.int_tuple _ _ p (by omega)
 |h2 z=>
  intro A y u v k g n;obtain ⟨t,rfl⟩:=bT.mp k;simp only [NK.b9] at n
  cases y with
  |int j=>obtain ⟨o,rfl⟩:=bS.mp g;rw [decide_eq_false (by intro e;cases e)];exact EqAt.str_int _ _ _ _
  |str L=>
   obtain ⟨o,rfl⟩:=bT.mp g;rw [<-VX (f:=NK.str) (λa b e=>by cases e;rfl)];exact EqAt.str_str _ _ _ _
  |ah l=>obtain ⟨a,d,rfl,p,_⟩:=bU.mp g;rw [decide_eq_false (by intro e;cases e)];exact EqAt.str_tuple _ _ p (by omega)
 |h3 l N=>
  intro A y u v k g n;obtain ⟨a,d,rfl,p,w⟩:=bU.mp k;simp only [NK.b9] at n
  cases y with
  |int j=>obtain ⟨o,rfl⟩:=bS.mp g;rw [decide_eq_false (by intro e;cases e)];exact EqAt.tuple_int _ _ p (by omega)
  |str L=>obtain ⟨o,rfl⟩:=bT.mp g;rw [decide_eq_false (by intro e;cases e)];exact EqAt.tuple_str _ _ p (by omega)
  |ah m=>
   obtain ⟨O,c,rfl,Q,B⟩:=bU.mp g
   by_cases z:a=O
   . subst z;rw [decide_eq_true (vv _ _ _ k g)];exact EqAt.same _
   . have E:=JQ w;have H:=JQ B
     have q:=RcAt.tuples (A:=A) (e:=λj=>decide (l[j]?=m[j]?)) p Q (by omega) (λj h1 h2=>by
      have r:j<l.length:=by rw [<-E,fW];exact h1
      have I:j<m.length:=by rw [<-H,fW];exact h2
      have U:d.toList[j]?=some d[j]:=by rw [fE];exact gE h1
      have g2:c.toList[j]?=some c[j]:=by rw [fE];exact gE h2
      have hd:=Zj (gD r);have:=N l[j] (gD r) A.in1 m[j] d[j] c[j] (JR w (dn r) U) (JR B (dn I) g2) (by show A.units+1+l[j].b9<cLine;omega);rw [dn r,dn I]
      simpa using this)
     have e:((fu (min d.size c.size)).all (λj=>decide (l[j]?=m[j]?))&&d.size==c.size)=decide (NK.ah l=NK.ah m):=by
      rw [<-fW,<-fW,E,H];rw [sJ,fw,eD,decide_eq_true_iff]
      constructor
      . rintro ⟨h1,h2⟩;have J:l.length=m.length:=by simpa using h2
        congr 1;apply List.ext_getElem?;intro j
        by_cases Y:j<l.length
        . simpa using h1 j (fx.mpr (by omega))
        . rw [oB (by omega),oB (by omega)]
      . intro h;cases h;exact ⟨λj _=>by simp,by simp⟩
     rw [<-e];exact Ac z q
section
variable {prog:bI} {w:World} {A:bV} {E:Value->aB->Prop} {s:aB}
def UL (k:NK): ∀(n:Nat) (v:Value) (Q:Bool->aB->Prop),NK.at s.heap k v->k.b9<=n->Q true s->wpAny (model prog w) A (eqIsQuiet n v) Q E s:=by
 induction k using NK.ind with
 |h1 i=>intro n v Q x _ q;obtain ⟨t,rfl⟩:=bS.mp x;cases n<;>exact aM q
 |h2 z=>intro n v Q x _ q;obtain ⟨t,rfl⟩:=bT.mp x;cases n<;>exact aM q
 |h3 l J=>
  intro n v Q x L q;obtain ⟨a,N,rfl,p,O⟩:=bU.mp x;simp only [NK.b9] at L;obtain ⟨n,rfl⟩: ∃m,n=m+1:=⟨n-1,by omega⟩
  obtain ⟨o,U,hc,nn,hd⟩:=id p;rw [eqIsQuiet.eq_def];refine ax (wpAny_specialOf (QF p) F.slot_tuple_eq.lookup ?_);dsimp only;refine ax (wpAny_isInstance (b:=true) (QF p) (by first|rfl|decide|exact isSubtype_type "tuple" _) ?_);simp only [Ad,mY,if_false];refine ax (rE U hd (ax ?_));simp only [Ae];rw [<-Ab];refine sI _ (λrest r d=>r=(none,())/\d=s/\ ∃c,NK.iI s.heap c rest/\ ∀k∈c,k∈l) _ ?_ ?_ _ _ ⟨rfl,rfl,l,O,λ_ h=>h⟩
  . rintro u rest r d ⟨rfl,rfl,c,y,B⟩
    cases c with
    |nil=>have:=dQ.mp y;cases this
    |cons H c=>
     obtain ⟨u',us,e,g,j⟩:=ca.mp y;obtain ⟨rfl,rfl⟩:=List.cons.inj e;have I:=B H dB;have Y:=Zj I;refine ax (J H I n u _ g (by omega) ?_);simp only [Ad,mY,if_false];exact aM ⟨rfl,rfl,c,j,λq Z=>B q (dC _ Z)⟩
  . rintro r d ⟨rfl,rfl,_⟩;exact aM q
end
noncomputable def o3 (e:bI) (w:World):HeapKind e w NK where
 is:=λh k a=>NK.at h k (.ref a)/\k.b9<=8
 hash:=NK.hash w
 draws:=NK.draws
 room:=λA=>A.units+8<cLine
 inj:=λx y=>vv _ _ _ x.1 y.1
 keeps:=λ{h u k a d o v B} x j hd l=>⟨FD (λb m ⟨ob,g,p,n,c⟩=>⟨ob,l.extBut b ob (λz=>by
  subst z;rw [j] at g;cases g
  rw [hd] at c;cases c) g,p,n,c⟩) k _ x.1,x.2⟩
 pyHash:=λ{A E s k a Q} r x q=>uq k A E s _ Q x.1 (by have:=x.2;omega) q
 eqBool:=λ{A E s x y a b Q} r i t q=>FE x A y _ _ i.1 t.1 (by have:=i.2;omega) _ _ _ _ q
 quiet:=λ{A E s k a Q} x q=>UL k 8 _ Q x.1 x.2 q
end M
section
open PySem
abbrev Yj (x:Str):Prop:=(x==("__debug__" :Str))=false
abbrev Yi (x:Str):Prop:=(x==("__classdict__" :Str))=false
abbrev Xd:=Str->Option Value
abbrev Xc:=Addr->Prop
abbrev Ws:=Value->aB->Prop
theorem T6 {l:List Str} (h:l.Nodup:=by decide+kernel):l.Nodup:=h
end
namespace L2
open PySem PySem.Spec PyProof.Rows
abbrev aI:=Sum Int Str
def YG:aI->Value->Bool
 | .inl k,v=>Value.isInt k v
 | .inr x,v=>Value.isStrOf x v
def Bj (w:World):aI->Int
 | .inl k=>hashInt k
 | .inr x=>hashStr w x
theorem qf: ∀ {k:aI} {v:Value},YG k v=true->(∃i t,k=gY i/\v=Value.int i t)\/(∃x t,k=mZ x/\v=Value.str x t)
 | .inl i,v,h=>by
  obtain ⟨t,e⟩:=Value.isInt_shape h;exact .inl ⟨i,t,rfl,e⟩
 | .inr x,v,h=>by
  obtain ⟨t,e⟩:=Value.isStrOf_shape h;exact .inr ⟨x,t,rfl,e⟩
def K8 (i:Int) (t:Tok):YG (.inl i) (.int i t)=true:=by simp [YG,Value.isInt]
def K7 (x:Str) (t:Tok):YG (.inr x) (.str x t)=true:=by simp [YG,Value.isStrOf]
def FG (a b:Int):decide ((gY a:aI)=gY b)=(a==b):=by
 by_cases e:a=b
 . subst e;simp
 . have h: ¬(gY a:aI)=gY b:=λq=>e (Sum.inl.inj q)
   rw [decide_eq_false h];exact (beq_eq_false_iff_ne.mpr e).symm
def FH (a b:Str):decide ((mZ a:aI)=mZ b)=decide (a=b):=by
 by_cases e:a=b
 . subst e;simp
 . have h: ¬(mZ a:aI)=mZ b:=λq=>e (Sum.inr.inj q)
   rw [decide_eq_false h,decide_eq_false e]
def FK (a:Int) (b:Str):decide ((gY a:aI)=mZ b)=false:=decide_eq_false (λq=>nomatch q)
def FL (a:Str) (b:Int):decide ((mZ a:aI)=gY b)=false:=decide_eq_false (λq=>nomatch q)
def jV (c:bI) (w:World):PySem.KeyKind c w aI where
 is:=YG
 hash:=Bj w
 inj:=λv a b l g=>by
  rcases qf l with ⟨i,t,rfl,rfl⟩| ⟨x,t,rfl,rfl⟩
  . rcases qf g with ⟨j,u,rfl,e⟩| ⟨y,u,rfl,e⟩
    . injection e with e1 _;rw [e1]
    . exact nomatch e
  . rcases qf g with ⟨j,u,rfl,e⟩| ⟨y,u,rfl,e⟩
    . exact nomatch e
    . injection e with e1 _;rw [e1]
 byValue:=λk v h=>by
  rcases qf h with ⟨i,t,rfl,rfl⟩| ⟨x,t,rfl,rfl⟩<;>rfl
 pyHash:=λd h=>by
  rcases qf d with ⟨i,t,rfl,rfl⟩| ⟨x,t,rfl,rfl⟩
  . exact wpAny_pyHash_int h
  . exact wpAny_pyHash_str h
 eqBool:=λm d h=>by
  rcases qf m with ⟨i,t,rfl,rfl⟩| ⟨x,t,rfl,rfl⟩
  . rcases qf d with ⟨j,u,rfl,rfl⟩| ⟨y,u,rfl,rfl⟩
    . rw [FG] at h;exact wpAny_eqBool_int h
    . rw [FK] at h;exact SeqAt.EqAt.int_str i t y u _ _ _ _ h
  . rcases qf d with ⟨j,u,rfl,rfl⟩| ⟨y,u,rfl,rfl⟩
    . rw [FL] at h;exact SeqAt.EqAt.str_int x t j u _ _ _ _ h
    . rw [FH] at h;exact wpAny_eqBool_str h
 «strs» :=λk x t v h=>by
  rcases qf h with ⟨i,u,rfl,e⟩| ⟨y,u,rfl,e⟩
  . exact nomatch e
  . injection e with e1 _;subst e1;cases v<;>rfl
def WH (a:bI) (w:World) (i:Int) (t:Tok):(jV a w).is (.inl i) (.int i t)=true:=K8 i t
def WG (a:bI) (w:World) (x:Str) (t:Tok):(jV a w).is (.inr x) (.str x t)=true:=K7 x t
inductive V where
 |aO|bl (b:Bool)|int (i:Int)|str (x:Str)|rF (b:Array UInt8)|o4 (b:UInt64)|ref (a:Addr)|ty (n:String)
 deriving DecidableEq
def aG:V->Value->Prop
 | .aO,u=>u=rG
 | .bl b,u=>u=iT b
 | .int i,u=> ∃t,u=Value.int i t
 | .str x,u=> ∃t,u=Value.str x t
 | .rF b,u=> ∃t,u=Value.bytes b t
 | .o4 b,u=> ∃t,u=Value.float b t
 | .ref a,u=>u=bP a
 | .ty n,u=>u=o5 n
abbrev aE:List V->List Value->Prop:=iU aG
def aE.length {a:List V} {c:List Value} (r:aE a c):a.length=c.length:=Af r
theorem aE.get: ∀ {a:List V} {c:List Value} {i:Nat} {x:V},aE a c->a[i]?=some x-> ∃u,c[i]?=some u/\aG x u
 |_,_,_,_,.nil,e=>by simp at e
 |_,_,0,_,.cons r _,e=>by simp at e;subst e;exact ⟨_,rfl,r⟩
 |_,_,i+1,x,.cons _ t,e=>by
  obtain ⟨u,d,g⟩:=aE.get t (by simpa using e);exact ⟨u,by simpa using d,g⟩
theorem aE.set {x:V} {u:Value} (r:aG x u): ∀ {a:List V} {c:List Value} (i:Nat),aE a c->aE (a.set i x) (c.set i u)
 |_,_,_,.nil=> .nil
 |_,_,0,.cons _ t=> .cons r t
 |_,_,i+1,.cons q t=> .cons q (aE.set r i t)
theorem aE.append: ∀ {a c:List V} {d e:List Value},aE a d->aE c e->aE (a++c) (d++e)
 |_,_,_,_,.nil,s=>s
 |_,_,_,_,.cons r t,s=> .cons r (aE.append t s)
theorem aE.take: ∀ {a:List V} {c:List Value} (n:Nat),aE a c->aE (a.take n) (c.take n)
 |_,_,0,_=> .nil
 |_,_,_+1,.nil=> .nil
 |_,_,n+1,.cons r t=> .cons r (aE.take n t)
theorem aE.drop: ∀ {a:List V} {c:List Value} (n:Nat),aE a c->aE (a.drop n) (c.drop n)
 |_,_,0,r=>r
 |_,_,_+1,.nil=> .nil
 |_,_,n+1,.cons _ t=>aE.drop n t
def dq:Option V->Option Value->Prop
 |some v,some u=>aG v u
 |none,none=>True
 |_,_=>False
def KV {a:Type}:List (a×V)->List (a×Value)->Prop:=iU λ(p:a×V) (q:a×Value)=>p.1=q.1/\aG p.2 q.2
def kV:aI->V
 | .inl i=> .int i
 | .inr x=> .str x
inductive HO where
 |ag (xs:List V)
 |ah (xs:List V)
 |dK (kvs:List (aI×V))|dT (kvs:List (List aI×V))
 |set (S:Int->Bool) (n:Nat)
 |ins (C dx:Addr) (fs:List (Str×V))
 |av (x:Addr)
 |xd (fs:List (Str×V))
 |met (f x:Addr)
 |Ag (lo hi:Int)
 |bd (o:Obj) (u:HO)
 |nF (ps:Array Value)
 |ext (φ:Heap->Prop)
 |memo (B:List M.NK) (Φ:M.NK->M.NV->Prop)
 |cr (rs:List (Addr×List V))
abbrev Hp:=Addr->Option HO
def aJ (H:Hp) (a:Addr) (o:HO):Hp:=λb=>if b=a then some o else H b
def jr {H:Hp} {a:Addr} {o:HO}:aJ H a o a=some o:=by unfold aJ;rw [if_pos rfl]
def jF {H:Hp} {a b:Addr} {o:HO} (h:b≠a):aJ H a o b=H b:=by unfold aJ;rw [if_neg h]
def jJ {H:Hp} {a b:Addr} {o:HO} (h:H a=some o) (c:H b=none):a≠b:=by
 intro e;subst e;rw [h] at c;cases c
mutual
def lB (H:Hp):M.NK->V->Prop
 | .int i,v=>v= .int i
 | .str x,v=>v= .str x
 | .ah l,v=> ∃b a,v= .ref b/\H b=some (.ah a)/\gF H l a
def gF (H:Hp):List M.NK->List V->Prop
 | [],a=>a=[]
 |k::l,a=> ∃u c,a=u::c/\lB H k u/\gF H l c
end
def sK (H:Hp):M.NV->V->Prop
 | .aO,v=>v= .aO
 | .key k,v=>lB H k v
 | .bl b,v=>v= .bl b
theorem gF.mono {H c:Hp}: ∀ {l:List M.NK} {a:List V},(∀k∈l,∀v,lB H k v->lB c k v)->gF H l a->gF c l a
 | [],a,_,x=>by simp only [gF] at x ⊢;exact x
 |k::l,a,f,x=>by
  obtain ⟨u,d,e,g,y⟩:=x;exact ⟨u,d,e,f k dB u g,gF.mono (λq h=>f q (dC _ h)) y⟩
def lB.mono {H a:Hp} (g: ∀b c,H b=some (.ah c)->a b=some (.ah c)) (k:M.NK): ∀v,lB H k v->lB a k v:=by
 induction k using M.NK.ind with
 |h1 i=>intro v x;simp only [lB] at x ⊢;exact x
 |h2 z=>intro v x;simp only [lB] at x ⊢;exact x
 |h3 l h=>
  intro v x;obtain ⟨b,d,e,j,y⟩:=x;exact ⟨b,d,e,g b d j,gF.mono h y⟩
def sK.mono {H a:Hp} (d: ∀b c,H b=some (.ah c)->a b=some (.ah c)) {k:M.NV} {v:V} (x:sK H k v):sK a k v:=by
 cases k with
 |aO=>exact x
 |key k=>exact lB.mono d k v x
 |bl b=>exact x
section
variable (P:bI) (w:World)
def aT (H:Hp) (h:Heap) (a:Addr):HO->Prop
 | .ag d=>d.length<=aR/\ ∃(c:List Value) (n:Nat),aE d c/\h.get? a=some {cls:= .type "list",data:= .seq c.toArray n}
 | .ah d=>d.length<=aR/\ ∃c:List Value,aE d c/\IsTup h a c.toArray
 | .dK e=>e.length<=aR/\(a==m4)=false/\ ∃m,KV e m/\h.DictOf (jV P w) a m
 | .dT e=>e.length<=aR/\(a==m4)=false/\ ∃d:List (List aI×Addr×Value),
  iU (λ(p:List aI×V) (q:List aI×Addr×Value)=>p.1=q.1/\H q.2.1=some (.ah (p.1.map kV))/\aG p.2 q.2.2) e d/\
  ∃o i k,h.get? a=some o/\o.ExactDict/\o.data= .dict i k/\i.toList=d.map (entryOfKey (lP (jV P w)))/\(d.map (·.1)).Nodup
 | .set S n=>h.SetOf (intKind P w) a S n
 | .ins C dx fs=>H dx=some (.av a)/\fs.length<=1000/\dx≠a/\h.get? a=some (oC C dx)/\
  ∃g,h.Ns1 dx g/\(∀f,dq (fs.lookup f) (g f))/\PySem.Within g (fs.map (·.1))
 | .av _=> ∃o,h.get? a=some o
 | .xd fs=> ∃g,h.Ns1 a g/\ ∀f,dq (fs.lookup f) (g f)
 | .Ag lo I=> ∃t u v,h.get? a=some {cls:= .type "range",data:= .fields #[.int lo t,.int I u,.int 1 v]}
 | .bd o u=>h.get? a=some o/\aT H h a u
 | .nF J=>h.get? a=some {cls:= .none,data:= .fields J}
 | .met f x=>h.get? a=some (PySem.W.methodObj (.ref f) (.ref x))
 | .ext l=>l h/\(∃o,h.get? a=some o)/\ ∀y z:Heap,l y->(∀o,y.get? a=some o->z.get? a=some o)->l z
 | .memo B L=>B.length<aR/\(a==m4)=false/\ ∃d:List (M.NK×Addr×Value),(∀x∈d,x.1∈B/\lB H x.1 (.ref x.2.1)/\x.1.b9<=8/\ ∃v E,aG v x.2.2/\sK H E v/\L x.1 E)/\
  ∃o i k,h.get? a=some o/\o.ExactDict/\o.data= .dict i k/\i.toList=d.map (entryOfKey (M.o3 P w))/\(d.map (·.1)).Nodup
 | .cr j=>j.length<=aR/\(j.map (·.1)).Nodup/\(∃n,h.get? a=some {cls:= .type "list",data:= .seq (j.map λr=>bP r.1).toArray n})/\
  ∀r∈j,r.1≠a/\H r.1=some (.av a)/\r.2.length<=aR/\ ∃(c:List Value) (n:Nat),aE r.2 c/\h.get? r.1=some {cls:= .type "list",data:= .seq c.toArray n}
def cM (H:Hp) (h:Heap):Prop:= ∀a o,H a=some o->aT P w H h a o
end
section
variable {P:bI} {w:World} {H H':Hp} {h I:Heap} {a:Addr} {o:HO}
def aT.lt (x:aT P w H h a o):a<h.objs.size:=by
 cases o with
 |ag d=>obtain ⟨_,_,_,_,e⟩:=x;exact bX e
 |ah d=>obtain ⟨_,_,_,p⟩:=x;exact p.lt
 |dK c=>obtain ⟨_,_,_,_,o,_,_,e,_⟩:=x;exact bX e
 |dT c=>obtain ⟨_,_,_,_,o,_,_,e,_⟩:=x;exact bX e
 |set S n=>obtain ⟨o,_,_,_,e,_⟩:=x;exact bX e
 |ins C dx fs=>obtain ⟨_,_,_,e,_⟩:=x;exact bX e
 |av y=>obtain ⟨_,e⟩:=x;exact bX e
 |xd fs=>obtain ⟨_,⟨_,_,_,e,_⟩,_⟩:=x;exact bX e
 |Ag lo g=>obtain ⟨_,_,_,e⟩:=x;exact bX e
 |bd ob u=>obtain ⟨e,_⟩:=x;exact bX e
 |nF ps=>exact bX (x)
 |met f y=>exact bX (x)
 |ext i=>obtain ⟨_,⟨_,e⟩,_⟩:=x;exact bX e
 |memo B j=>obtain ⟨_,_,_,_,o,_,_,e,_⟩:=x;exact bX e
 |cr k=>obtain ⟨_,_,⟨_,e⟩,_⟩:=x;exact bX e
theorem iU.o6 {e g:Type} {F G:e->g->Prop}: ∀ {c:List e} {d:List g},iU F c d->(∀a b,F a b->G a b)->iU G c d
 |_,_,.nil,_=> .nil
 |_,_,.cons r t,f=> .cons (f _ _ r) (iU.o6 t f)
def aT.aV (x:aT P w H h a o) (k: ∀b u,(b=a\/H b=some (.av a))->h.get? b=some u->I.get? b=some u)
  (Q: ∀b,H b=some (.av a)->H' b=some (.av a)) (E: ∀b l,H b=some (.ah l)->H' b=some (.ah l)):aT P w H' I a o:=by
 induction o with
 |ag l=>obtain ⟨z,g,n,r,e⟩:=x;exact ⟨z,g,n,r,k _ _ (.inl rfl) e⟩
 |ah l=>obtain ⟨z,g,r,ob,e,c⟩:=x;exact ⟨z,g,r,ob,k _ _ (.inl rfl) e,c⟩
 |dK J=>obtain ⟨z,y,Y,r,ob,i,j,e,c⟩:=x;exact ⟨z,y,Y,r,ob,i,j,k _ _ (.inl rfl) e,c⟩
 |cr rs=>
  obtain ⟨z,nd,⟨n,e⟩,pr⟩:=x;exact ⟨z,nd,⟨n,k _ _ (.inl rfl) e⟩,λq L=>let ⟨Z,U,h3,g,m,r,e2⟩:=pr q L;⟨Z,Q _ U,h3,g,m,r,k _ _ (.inr U) e2⟩⟩
 |dT J=>
  obtain ⟨z,y,l,r,ob,i,j,e,c⟩:=x;exact ⟨z,y,l,iU.o6 r λp q z=>⟨z.1,E _ _ z.2.1,z.2.2⟩,ob,i,j,k _ _ (.inl rfl) e,c⟩
 |set S n=>obtain ⟨ob,i,j,t,e,c⟩:=x;exact ⟨ob,i,j,t,k _ _ (.inl rfl) e,c⟩
 |ins C dx fs=>
  obtain ⟨d,z,ne,e,N,⟨O,i,j,e2,c⟩,r⟩:=x;exact ⟨Q _ d,z,ne,k _ _ (.inl rfl) e,N,⟨O,i,j,k _ _ (.inr d) e2,c⟩,r⟩
 |av y=>obtain ⟨ob,e⟩:=x;exact ⟨ob,k _ _ (.inl rfl) e⟩
 |xd fs=>obtain ⟨N,⟨O,i,j,e,c⟩,r⟩:=x;exact ⟨N,⟨O,i,j,k _ _ (.inl rfl) e,c⟩,r⟩
 |Ag lo hi=>obtain ⟨t,u,v,e⟩:=x;exact ⟨t,u,v,k _ _ (.inl rfl) e⟩
 |bd ob u ih=>obtain ⟨e,q⟩:=x;exact ⟨k _ _ (.inl rfl) e,ih q⟩
 |nF ps=>
  have e:=x;exact k a _ (.inl rfl) e
 |met f y=>
  have e:=x;exact k a _ (.inl rfl) e
 |ext φ=>obtain ⟨p,⟨o,e⟩,st⟩:=x;exact ⟨st _ _ p λo q=>k _ _ (.inl rfl) q,⟨o,k _ _ (.inl rfl) e⟩,st⟩
 |memo B Φ=>
  obtain ⟨z,y,l,r,ob,i,j,e,c⟩:=x;exact ⟨z,y,l,λq L=>let ⟨b1,b2,b3,v,nv,b4,b5,b6⟩:=r q L;⟨b1,lB.mono E _ _ b2,b3,v,nv,b4,sK.mono E b5,b6⟩,ob,i,j,k _ _ (.inl rfl) e,c⟩
def cM.lt (x:cM P w H h) (e:H a=some o):a<h.objs.size:=(x a o e).lt
def cM.fresh (x:cM P w H h) (e:h.objs.size<=a):H a=none:=by
 cases q:H a with
 |none=>rfl
 |some u=>exact absurd (eE (x.lt q) e) (lC _)
def cM.kept (x:cM P w H h) (k: ∀b u,h.get? b=some u->I.get? b=some u):cM P w H I:=λa o e=>
 (x a o e).aV (λb u _ q=>k b u q) (λ_ q=>q) λ_ _ q=>q
def cM.laid (x:cM P w H h) (k: ∀b u,h.get? b=some u->I.get? b=some u) (i:h.objs.size<=a) (new:aT P w (aJ H a o) I a o):cM P w (aJ H a o) I:=λb u e=>by
 have d:=x.fresh i
 by_cases g:b=a
 . subst g;rw [jr] at e;cases e;exact new
 . rw [jF g] at e;exact (x b u e).aV (λc v _ q=>k c v q) (λc q=>by rw [jF (jJ q d)];exact q) λc j q=>by rw [jF (jJ q d)];exact q
end
def Rd (H:Hp) (a:Addr) (u:HO):Prop:=H a=some u\/ ∃o,H a=some (.bd o u)
def Rd.of {H:Hp} {a:Addr} {u:HO} (h:H a=some u):Rd H a u:= .inl h
def Rd.ok {P:bI} {w:World} {H:Hp} {h:Heap} {a:Addr} {u:HO} (r:Rd H a u) (x:cM P w H h):aT P w H h a u:=by
 rcases r with r| ⟨o,r⟩
 . exact x a u r
 . obtain ⟨_,q⟩:=x a _ r;exact q
def lQ:Option HO->Prop
 |some (.ag _)=>True
 |some (.dK _)=>True
 |some (.dT _)=>True
 |some (.set _ _)=>True
 |some (.ins _ _ _)=>True
 |some (.ext _)=>True
 |some (.memo _ _)=>True
 |some (.cr _)=>True
 |_=>False
section
variable {P:bI} {w:World} {H:Hp} {h h':Heap} {x e:Addr} {o':HO}
def cM.write (ok:cM P w H h) (i:lQ (H x)) (n:e=x\/H e=some (.av x)) (k: ∀b u,b≠e->h.get? b=some u->h'.get? b=some u) (m: ∃u,h'.get? e=some u)
   (new:aT P w (aJ H x o') h' x o'):cM P w (aJ H x o') h':=λb u q=>by
 have d: ∀c y,H c=some (.av y)->c≠x:=λc y r z=>by subst z;rw [r] at i;exact i
 have g: ∀c j,H c=some (.ah j)->c≠x:=λc j r z=>by subst z;rw [r] at i;exact i
 by_cases l:b=x
 . subst l;rw [jr] at q;cases q;exact new
 . rw [jF l] at q
   by_cases a:b=e
   . have o:H b=some (.av x):=by
       rcases n with z|z
       . exact absurd (a.trans z) l
       . rw [a];exact z
     rw [q] at o;cases o;obtain ⟨v,p⟩:=m;exact ⟨v,by rw [a];exact p⟩
   . refine (ok b u q).aV (λc v hc r=>k c v ?_ r) (λc r=>by rw [jF (d c b r)];exact r) λc j r=>by rw [jF (g c j r)];exact r
     rcases hc with rfl|hc
     . exact a
     . rintro rfl;rcases n with z|z
       . exact d c b hc z
       . rw [hc] at z;cases z;exact l rfl
end
structure Un (fs ex:List Addr) (H H':Hp) (h h':Heap):Prop where
 keep: ∀b o,h.get? b=some o->H b=none->b∉fs->b∉ex->h'.get? b=some o
 slot: ∀b o,h.get? b=some o->H b=none->b∈fs->b∉ex-> ∃sl,h'.get? b=some {o with slots:=sl}
 free: ∀b o,h.get? b=some o->H b=none->b∉ex->H' b=none
 there: ∀b o,h.get? b=some o->b∉ex-> ∃o',h'.get? b=some o'
 dr: ∀b xs,H b=some (.ah xs)->H' b=some (.ah xs)
 cY: ∀b o u,H b=some (.bd o u)->H' b=some (.bd o u)
 du: ∀b ps,H b=some (.nF ps)-> ∃more,H' b=some (.nF (ps++more))
section
variable {fs FM ex MF:List Addr} {H H1 H2:Hp} {h h1 h2 h':Heap} {a x e:Addr} {o:HO}
def Un.any (u:Un fs ex H H1 h h1) {b:Addr} {ob:Obj} (q:h.get? b=some ob) (n:H b=none) (c:b∉ex): ∃g,h1.get? b=some {ob with slots:=g}:=by
 by_cases d:b∈fs
 . exact u.slot b ob q n d c
 . exact ⟨ob.slots,u.keep b ob q n d c⟩
def Un.kept (k: ∀b u,h.get? b=some u->h'.get? b=some u):Un fs ex H H h h':=
 ⟨λb ob q _ _ _=>k b ob q,λb ob q _ _ _=>⟨ob.slots,k b ob q⟩,λ_ _ _ n _=>n,λb ob q _=>⟨ob,k b ob q⟩,λ_ _ q=>q,λ_ _ _ q=>q,λ_ ps q=>⟨#[],by rw [q];simp⟩⟩
def Un.refl:Un fs ex H H h h:=Un.kept λ_ _ q=>q
def Un.laid (k: ∀b u,h.get? b=some u->h'.get? b=some u) (d:h.objs.size<=a) (c:H a=none):Un fs ex H (aJ H a o) h h' where
 keep:=λb u q _ _ _=>k b u q
 slot:=λb u q _ _ _=>⟨u.slots,k b u q⟩
 free:=λb u q n _=>by rw [jF (dN (eE (bX q) d))];exact n
 there:=λb u q _=>⟨u,k b u q⟩
 dr:=λb g q=>by rw [jF (jJ q c)];exact q
 cY:=λb u g q=>by rw [jF (jJ q c)];exact q
 du:=λb ps q=>⟨#[],by rw [jF (jJ q c),q];simp⟩
def Un.write (d:lQ (H x)) (m:e=x\/H e=some (.av x)) (k: ∀b u,b≠e->h.get? b=some u->h'.get? b=some u) (g: ∃u,h'.get? e=some u):Un fs ex H (aJ H x o) h h':=by
 have j: ∀b,H b=none->b≠x:=λb n z=>by subst z;rw [n] at d;exact d
 have l: ∀b,H b=none->b≠e:=λb n z=>by
   subst z;rcases m with r|r
   . exact j b n r
   . rw [n] at r;cases r
 have i: ∀b u,H b=some u-> ¬lQ (some u)->b≠x:=λb u q nm z=>by subst z;rw [q] at d;exact nm d
 refine ⟨λb u q n _ _=>k b u (l b n) q,λb u q n _ _=>⟨u.slots,k b u (l b n) q⟩,λb u q n _=>by rw [jF (j b n)];exact n,λb u q _=>?_,
   λb p q=>by rw [jF (i b _ q λz=>z)];exact q,λb u p q=>by rw [jF (i b _ q λz=>z)];exact q,λb ps q=>⟨#[],by rw [jF (i b _ q λz=>z),q];simp⟩⟩
 by_cases c:b=e
 . subst c;exact g
 . exact ⟨u,k b u c q⟩
end
def rH (h:Heap) (H:Hp):List Addr:=(fu h.objs.size).filter λa=>(H a).isSome
def gG (h:Heap) (H:Hp):Heap:=PySem.W.hideAll h (rH h H)
def Vj (h:Heap) (H:Hp):(gG h H).objs.size=h.objs.size:=PySem.W.hideAll_size _ _
def UX {h:Heap} {H:Hp} {b:Addr} {o:Obj} (e:h.get? b=some o) (n:H b=none):(gG h H).get? b=some o:=
 PySem.W.hideAll_get _ e λa=>by
  have q:=(List.mem_filter.mp a).2;rw [n] at q;simp at q
def uj {h:Heap} {H:Hp} {b:Addr} {o:Obj} (e:(gG h H).get? b=some o):h.get? b=some o/\H b=none:=by
 have a:=PySem.W.of_hideAll (rH h H) e;refine ⟨a,?_⟩
 cases q:H b with
 |none=>rfl
 |some x=>
  have z:(gG h H).get? b=none:=PySem.W.hideAll_none (rH h H) (List.mem_filter.mpr ⟨fx.mpr (bX a),by simp [q]⟩);rw [z] at e;cases e
def FN (g h:Heap) (L:Addr):List (Addr×Obj):=(fu h.objs.size).filterMap λa=>if a=L\/(g.get? a).isSome=true then none else (h.get? a).map λo=>(a,o)
def rest (g h:Heap) (L d:Addr):List (Addr×Obj):=(FN g h L).filter λp=>decide (p.1≠d)
structure Mod (K:ay) (mg:Xd) (ae:Heap):Prop where
 oD:K.In ae
 glob:ae.Ns bv mg
 blt: ∃mb,ae.Ns builtinsNs mb/\ ∀x:Str,x≠ "__name__" ->mb x=gH x
 nolimit:ae.NoLimit
structure Cx where
 prog:bI
 w:World
 K:ay
 mg:Str->Option Value
 ae:Heap
 A:bV
 N:List Str
 cQ:aB
 gI:Hp
 env:Env
 outer:List Env
 stack:List Env
 ex:List Addr
 fn:Str->Bool
 bG:Bool
 pn:List (Addr×Obj)
 xe:Value->aB->Prop
abbrev T9 (X:Cx) (e:Expr) (a:List Expr):Prop:=bp (e::a) X.env=(false,eval e X.env)::bp a X.env
abbrev T8 (X:Cx) (p:Pos) (a:List Expr):Prop:=(dO p (bp a X.env)).any (·.1)=false
abbrev T7 (X:Cx) (x:Str):Prop:=X.fn x=true\/X.env.scope.names.lookup x=some .local
def cJ (l:List Env):List Addr:=l.filterMap (·.frame)
abbrev Cx.fs (X:Cx):List Addr:=cJ X.outer
def gJ (a:Scope) (x:Str):Prop:=a.names.lookup x=some .local\/a.names.lookup x=some .cell\/a.names.lookup x=some .free
def Loc (a:Scope) (x:Str):Prop:=a.names.lookup x=some .local\/a.names.lookup x=some .cell
def Look (a:Env) (h:Heap) (m:Xd) (x:Str) (u:Value):Prop:=
 (a.kindOf x=some .local/\m x=some u)\/((a.kindOf x=some .cell\/a.kindOf x=some .free)/\ ∃c,a.cells.lookup x=some c/\h.IsCell c (some u))
structure Cx.Ok (X:Cx):Prop where
 mod:Mod X.K X.mg X.ae
 kind:X.env.scope.kind= .function
 glob:X.env.globals=bv
 blt:X.env.builtins=builtinsNs
 above:X.cQ.heap.objs.size<=X.env.locals
 inj: ∀x y c,X.env.cells.lookup x=some c->X.env.cells.lookup y=some c->x=y
 has: ∀x,(X.env.kindOf x=some .cell\/X.env.kindOf x=some .free)-> ∃c,X.env.cells.lookup x=some c
 nG: ∀x c,X.fn x=true->X.env.cells.lookup x=some c->X.cQ.heap.objs.size<=c
 hd:X.bG=true->X.A.handled=none
 frames:X.A.frames=some X.stack
 oE:X.stack=X.outer\/(X.stack=X.env::X.outer/\X.env.frame=some X.env.locals)
 oF: ∀b∈X.ex,b≠X.env.locals/\ ∀x c,X.env.cells.lookup x=some c->c≠b
 bs: ∀b o,X.ae.get? b=some o->X.cQ.heap.get? b=some o/\X.gI b=none
 iV:X.ae.objs.size<=X.cQ.heap.objs.size
 fF: ∀b o,X.ae.get? b=some o->b∉X.ex
 fX: ∀b∈X.ex,b∉X.fs
 dw:X.cQ.heap.FunFrames X.ae X.outer
 lR: ∀b∈X.fs,X.gI b=none
structure aq (X:Cx) (pins:List (Addr×Obj)) (σ:List (Option V)) (H:Hp) (s:aB):Prop where
 ok:X.Ok
 os:s.os=X.cQ.os
 bare:m5 s.gens
 ae:Un X.fs X.ex X.gI H X.cQ.heap s.heap
 loc: ∃m,s.heap.Ns X.env.locals m/\ ∀(i:Nat) (x:Str) (v:V),X.N[i]?=some x->σ[i]?=some (some v)->gJ X.env.scope x-> ∃u,aG v u/\Look X.env s.heap m x u
 cell: ∀x c,X.env.cells.lookup x=some c-> ∃v,s.heap.IsCell c v
 free:H X.env.locals=none
 bW: ∀x c,X.env.cells.lookup x=some c->H c=none
 pin: ∀p∈X.pn++pins,s.heap.get? p.1=some p.2/\H p.1=none/\p.1≠X.env.locals/\p.1∉X.fs/\ ∀v,p.2.data≠ .cell v
 aP:cM X.prog X.w H s.heap
 len:σ.length=X.N.length
section
variable {X:Cx} {J:List (Addr×Obj)} {B:List (Option V)} {H H':Hp} {s:aB} {g:Heap}
def Cx.Ok.Bk (ok:X.Ok) {b:Addr} {o:Obj} (e:X.ae.get? b=some o):b∉X.fs:=λa=>by
 have:=(ok.dw.mem a).1;rw [e] at this;cases this
def aq.bs (I:aq X J B H s): ∀b o,X.ae.get? b=some o->s.heap.get? b=some o/\H b=none:=λb o e=>
 ⟨I.ae.keep b o (I.ok.bs b o e).1 (I.ok.bs b o e).2 (I.ok.Bk e) (I.ok.fF b o e),I.ae.free b o (I.ok.bs b o e).1 (I.ok.bs b o e).2 (I.ok.fF b o e)⟩
def aq.bk (I:aq X J B H s): ∀b o,X.ae.get? b=some o->s.heap.get? b=some o:=λb o e=>(I.bs b o e).1
def aq.mod (I:aq X J B H s):Mod X.K X.mg X.ae:=I.ok.mod
def aq.dD (I:aq X J B H s):X.K.In s.heap:=I.ok.mod.oD.keeps I.bk
def aq.lt (I:aq X J B H s):X.env.locals<s.heap.objs.size:=let ⟨_,a,_⟩:=I.loc;a.lt
def aq.sz (I:aq X J B H s):X.cQ.heap.objs.size<=s.heap.objs.size:=dE I.ok.above (Ah I.lt)
def aq.Bl (I:aq X J B H s) {a:Addr} (h:s.heap.objs.size<=a):a∉X.fs:=λc=>by
 obtain ⟨_,o,d,_⟩:=I.ok.dw.mem c;exact absurd (eE (bX d) (dE I.sz h)) (lC _)
def aq.lS (I:aq X J B H s): ∀x c,X.env.cells.lookup x=some c->c≠X.env.locals:=λx c e z=>by
 obtain ⟨v,o,h,hd⟩:=I.cell x c e;obtain ⟨m,⟨i,j,k,a,d,_⟩,_⟩:=I.loc;rw [z,a] at h;cases h;rw [d] at hd;cases hd
def aq.dw (I:aq X J B H s):s.heap.FunFrames X.ae X.outer:=by
 have all: ∀(l:List Env),(∀b∈cJ l,b∈X.fs)->X.cQ.heap.FunFrames X.ae l->s.heap.FunFrames X.ae l:=by
  intro l
  induction l with
  |nil=>intro _ _;trivial
  |cons env r i=>
   intro h j;obtain ⟨k,⟨L,o,a,m,n,hd⟩,p⟩:=j;have c:=h L (by unfold cJ;rw [sL,a];exact dB);obtain ⟨q,e⟩:=I.ae.slot L o n (I.ok.lR L c) c λz=>I.ok.fX L z c
   exact ⟨k,⟨L,_,a,m,e,hd⟩,i (λb d=>h b (by unfold cJ;rw [sL,a];exact dC _ d)) p⟩
 exact all X.outer (λ_ d=>d) I.ok.dw
def aq.stack (I:aq X J B H s):s.heap.FunFrames X.ae X.stack:=by
 rcases I.ok.oE with e| ⟨e,a⟩
 . rw [e];exact I.dw
 . rw [e];obtain ⟨m,c,_⟩:=I.loc;refine .cons (by rw [I.ok.kind];decide) a c ?_ I.dw;exact Heap.get?_none_of_le (dE I.ok.iV I.ok.above)
def aq.fY (I:aq X J B H s): ∀b∈cJ X.stack,b∈X.env.locals::X.fs:=λb a=>by
 rcases I.ok.oE with e| ⟨e,c⟩
 . rw [e] at a;exact dC _ a
 . rw [e] at a;unfold cJ at a;rw [sL,c] at a;exact a
def aq.df (I:aq X J B H s): ∀b∈cJ X.stack,H b=none:=λb hb=>by
 rcases dP.mp (I.fY b hb) with e|hb
 . rw [e];exact I.free
 . obtain ⟨_,o,a,_⟩:=I.ok.dw.mem hb;exact I.ae.free b o a (I.ok.lR b hb) λz=>I.ok.fX b z hb
def aq.step {Y:Array GenState} {t':Nat} {d':Drawn} {ch:List Addr} (I:aq X J B H s)
   (h: ∀b∈ch,(b∈X.ex\/X.cQ.heap.objs.size<=b)/\b≠X.env.locals/\(∀x c,X.env.cells.lookup x=some c->c≠b)/\ ∀p∈X.pn++J,p.1≠b)
   (keep: ∀b o,b≠X.env.locals->b∉X.fs->b∉ch->s.heap.get? b=some o->H b=none->g.get? b=some o)
   (slot: ∀b o,b≠X.env.locals->b∈X.fs->b∉ch->s.heap.get? b=some o->H b=none-> ∃Q,g.get? b=some {o with slots:=Q}) (free: ∀b o,b∉ch->s.heap.get? b=some o->H b=none->H' b=none)
   (there: ∀b o,b∉ch->s.heap.get? b=some o-> ∃N,g.get? b=some N)
   (dr: ∀b y,H b=some (.ah y)->H' b=some (.ah y)) (cY: ∀b o u,H b=some (.bd o u)->H' b=some (.bd o u)) (du: ∀b ps,H b=some (.nF ps)-> ∃more,H' b=some (.nF (ps++more)))
   (ns: ∀m,s.heap.Ns X.env.locals m->g.Ns X.env.locals m) (aP:cM X.prog X.w H' g) (hg:m5 Y):
   aq X J B H' {s with heap:=g,gens:=Y,drawn:=d',toks:=t'}:=by
 have O: ∀b o,X.cQ.heap.get? b=some o->b≠X.env.locals:=λb o e=>dN (eE (bX e) I.ok.above)
 have w: ∀b o,X.cQ.heap.get? b=some o->b∉X.ex->b∉ch:=λb o e a E=>by
   rcases (h b E).1 with z|z
   . exact a z
   . exact absurd (eE (bX e) z) (lC _)
 have j: ∀x c,X.env.cells.lookup x=some c-> ∀v,s.heap.IsCell c v->g.IsCell c v:=λx c e v ⟨o,L,hd⟩=>by
   have t:c∉ch:=λz=>(h c z).2.2.1 x c e rfl
   by_cases Z:c∈X.fs
   . obtain ⟨Q,q⟩:=slot c o (I.lS x c e) Z t L (I.bW x c e);exact ⟨_,q,hd⟩
   . exact ⟨o,keep c o (I.lS x c e) Z t L (I.bW x c e),hd⟩
 refine ⟨I.ok,I.os,hg,⟨λb o e n E a=>?_,λb o e n E a=>?_,λb o e n a=>?_,λb o e a=>?_,λb y e=>dr b y (I.ae.dr b y e),λb o y e=>cY b o y (I.ae.cY b o y e),λb ps e=>?_⟩,?_,λx c e=>?_,?_,λx c e=>?_,λp hp=>?_,aP,I.len⟩
 . exact keep b o (O b o e) E (w b o e a) (I.ae.keep b o e n E a) (I.ae.free b o e n a)
 . obtain ⟨Q,e1⟩:=I.ae.slot b o e n E a;obtain ⟨U,e2⟩:=slot b _ (O b o e) E (w b o e a) e1 (I.ae.free b o e n a);exact ⟨U,e2⟩
 . obtain ⟨N,e1⟩:=I.ae.there b o e a;exact free b N (w b o e a) e1 (I.ae.free b o e n a)
 . obtain ⟨N,e1⟩:=I.ae.there b o e a;exact there b N (w b o e a) e1
 . obtain ⟨m1,e1⟩:=I.ae.du b ps e;obtain ⟨m2,e2⟩:=du b _ e1;exact ⟨m1++m2,by rw [e2,Array.append_assoc]⟩
 . obtain ⟨m,hn,hl⟩:=I.loc;refine ⟨m,ns m hn,λi x v e1 e2 e3=>?_⟩;obtain ⟨u,r,l⟩:=hl i x v e1 e2 e3;refine ⟨u,r,?_⟩;rcases l with l| ⟨k,c,e,z⟩
   . exact .inl l
   . exact .inr ⟨k,c,e,j x c e _ z⟩
 . obtain ⟨v,z⟩:=I.cell x c e;exact ⟨v,j x c e v z⟩
 . obtain ⟨m,⟨o,_,_,L,_⟩,_⟩:=I.loc;exact free _ o (λz=>(h _ z).2.1 rfl) L I.free
 . obtain ⟨v,o,L,hd⟩:=I.cell x c e;exact free c o (λz=>(h c z).2.2.1 x c e rfl) L (I.bW x c e)
 . obtain ⟨e,n,ne,nf,d⟩:=I.pin p hp;have t:p.1∉ch:=λz=>(h p.1 z).2.2.2 p hp rfl
   exact ⟨keep p.1 p.2 ne nf t e n,free p.1 p.2 t e n,ne,nf,d⟩
def aq.un {j:Nat} (I:aq X J B H s) (u:Un X.fs [] H H' s.heap g) (aP:cM X.prog X.w H' g):aq X J B H' {s with heap:=g,toks:=j}:=by
 obtain ⟨m,⟨o,q,t,i,r⟩,_⟩:=id I.loc;obtain ⟨v,k⟩:=u.any i I.free (by simp)
 exact I.step (ch:=[]) (λ_ z=>nomatch z) (λb o _ c _ e n=>u.keep b o e n c (by simp)) (λb o _ c _ e n=>u.slot b o e n c (by simp)) (λb o _ e n=>u.free b o e n (by simp)) (λb o _ e=>u.there b o e (by simp)) u.dr u.cY u.du (λw l=>by
  obtain ⟨y,d,h,a,p⟩:=l;rw [i] at a;cases a
  exact ⟨_,d,h,k,p⟩) aP I.bare
def aq.call {l:Array GenState} {v:Nat} {w:Drawn} {q:List Addr} (I:aq X J B H s) (u:Un (cJ X.stack) q H H' s.heap g) (aP:cM X.prog X.w H' g) (y:m5 l)
  (d: ∀b∈q,(b∈X.ex\/X.cQ.heap.objs.size<=b)/\b≠X.env.locals/\(∀x c,X.env.cells.lookup x=some c->c≠b)/\ ∀p∈X.pn++J,p.1≠b):
  aq X J B H' {s with heap:=g,gens:=l,drawn:=w,toks:=v}:=by
 obtain ⟨m,⟨o,O,Q,t,r⟩,_⟩:=id I.loc;obtain ⟨U,i⟩:=u.any t I.free λz=>(d _ z).2.1 rfl
 exact I.step d (λb o i E a e n=>u.keep b o e n (λz=>(dP.mp (I.fY b z)).elim i E) a) (λb o _ _ a e n=>u.any e n a) (λb o a e n=>u.free b o e n a) (λb o a e=>u.there b o e a) u.dr u.cY u.du (λY L=>by
  obtain ⟨Z,j,k,h,N⟩:=L;rw [t] at h;cases h
  exact ⟨_,j,k,i,N⟩) aP y
def aq.turned {t':Nat} {a:Addr} (I:aq X J B H s) (k: ∀b o,b≠a->s.heap.get? b=some o->g.get? b=some o) (j:H a=none) (i:a≠X.env.locals)
   (l:a∈X.ex\/X.cQ.heap.objs.size<=a) (t: ∀x c,X.env.cells.lookup x=some c->c≠a) (w: ∀p∈X.pn++J,p.1≠a):aq X J B H {s with heap:=g,toks:=t'}:=by
 have h: ∀b u,H b=some u->b≠a:=λb u e z=>by rw [z,j] at e;cases e
 refine I.step (ch:=[a]) (λb y=>?_) (λb o _ _ d e _=>k b o (λz=>d (by simp [z])) e) (λb o _ _ d e _=>⟨o.slots,k b o (λz=>d (by simp [z])) e⟩) (λ_ _ _ _ n=>n)
   (λb o d e=>⟨o,k b o (λz=>d (by simp [z])) e⟩) (λ_ _ e=>e) (λ_ _ _ e=>e) (λb ps e=>⟨#[],by rw [e];simp⟩) (λm E=>?_) (λb u e=>?_) I.bare
 . have e:b=a:=by simpa using y
   subst e;exact ⟨l,i,t,w⟩
 . obtain ⟨o,L,N,O,r⟩:=E;exact ⟨o,L,N,k _ o (m6 i) O,r⟩
 . refine (I.aP b u e).aV (λc v d q=>k c v ?_ q) (λ_ q=>q) λ_ _ q=>q
   rcases d with z|z
   . rw [z];exact h b u e
   . exact h c _ z
def aq.tok (I:aq X J B H s) (t:Nat):aq X J B H {s with toks:=t}:=I.un Un.refl I.aP
def aq.kept {t':Nat} (I:aq X J B H s) (k: ∀b u,s.heap.get? b=some u->g.get? b=some u):aq X J B H {s with heap:=g,toks:=t'}:=I.un (Un.kept k) (I.aP.kept k)
def aq.laid {a:Addr} {o:HO} {t':Nat} (I:aq X J B H s) (k: ∀b u,s.heap.get? b=some u->g.get? b=some u) (c:s.heap.objs.size<=a) (new:aT X.prog X.w (aJ H a o) g a o):
 aq X J B (aJ H a o) {s with heap:=g,toks:=t'}:=I.un (Un.laid k c (I.aP.fresh c)) (I.aP.laid k c new)
def aq.write {x e:Addr} {o:HO} {h:Nat} (I:aq X J B H s) (c:lQ (H x)) (d:e=x\/H e=some (.av x)) (k: ∀b u,b≠e->s.heap.get? b=some u->g.get? b=some u) (a: ∃u,g.get? e=some u)
 (new:aT X.prog X.w (aJ H x o) g x o):aq X J B (aJ H x o) {s with heap:=g,toks:=h}:=I.un (Un.write c d k a) (I.aP.write c d k a new)
def aq.iJ {a:List (Addr×Obj)} (I:aq X J B H s) (h: ∀p∈a,s.heap.get? p.1=some p.2/\H p.1=none/\p.1≠X.env.locals/\p.1∉X.fs/\ ∀v,p.2.data≠ .cell v):aq X a B H s:=
 ⟨I.ok,I.os,I.bare,I.ae,I.loc,I.cell,I.free,I.bW,λp c=>(eG.mp c).elim (λz=>I.pin p (o7 _ z)) (h p),I.aP,I.len⟩
def Q4 {N:List Str} (c:N.Nodup) {i j:Nat} {x:Str} (a:N[i]?=some x) (b:N[j]?=some x):i=j:=by
 obtain ⟨d,e1⟩:=fZ.mp a;obtain ⟨e,e2⟩:=fZ.mp b;exact (List.getElem_inj c).mp (e1.trans e2.symm)
def Jc {M:Model} {A:bV} {E:Ws} {i:Nat} {x:Str} {v:V} {u:Value} {Q:Unit->aB->Prop} (I:aq X J B H s) (hN:X.N.Nodup) (Z:X.N[i]?=some x) (w:Loc X.env.scope x) (r:aG v u)
   (h: ∀s',aq X J (B.set i (some v)) H s'->(∃a,nH a s.heap s'.heap/\(a=X.env.locals\/X.env.cells.lookup x=some a))->Q () s') (hf:T7 X x:=by first|exact .inl rfl|exact .inr rfl|assumption):wpAny M A (storeName X.env x u) Q E s:=by
 obtain ⟨m,hn,hl⟩:=id I.loc;have Bm:(X.env.scope.kind== .class|| (X.env.scope.kind== .module&&X.env.locals !=X.env.globals))=false:=by rw [I.ok.kind];rfl
 have N:i<B.length:=by rw [I.len];exact (fZ.mp Z).1
 have lS:=I.lS
 have t: ∀ {a:Addr} {g:Heap},(∃o,s.heap.get? a=some o/\H a=none)->nH a s.heap g->cM X.prog X.w H g:=λ{a g} ha l b ob e=>by
   obtain ⟨_,_,L⟩:=ha;refine (I.aP b ob e).aV (λc w' hc q=>(l.2 c ?_).trans q) (λ_ q=>q) λ_ _ q=>q
   rintro rfl;rcases hc with rfl|hc
   . rw [L] at e;cases e
   . rw [L] at hc;cases hc
 rcases w with hk|hk
 . refine wpAny_storeName_local hk hn (λg FP l=>?_) Bm;obtain ⟨oL,_,_,FQ,_⟩:=id hn;refine h _ ⟨I.ok,I.os,I.bare,⟨λb o e n O w=>?_,λb o e n O w=>?_,I.ae.free,λb o e w=>?_,I.ae.dr,I.ae.cY,I.ae.du⟩,⟨_,FP,λj y v' e1 e2 e3=>?_⟩,λy c e=>?_,I.free,I.bW,λp hp=>?_,t ⟨oL,FQ,I.free⟩ l,by simpa using I.len⟩ ⟨_,l,.inl rfl⟩
   . exact (l.2 b (dN (eE (bX e) I.ok.above))).trans (I.ae.keep b o e n O w)
   . obtain ⟨sl,e1⟩:=I.ae.slot b o e n O w;exact ⟨sl,(l.2 b (dN (eE (bX e) I.ok.above))).trans e1⟩
   . obtain ⟨o',e1⟩:=I.ae.there b o e w;exact ⟨o',(l.2 b (dN (eE (bX e) I.ok.above))).trans e1⟩
   . by_cases U:j=i
     . subst U;rw [Z] at e1;cases e1;rw [lT N] at e2;cases e2;exact ⟨u,r,.inl ⟨hk,by simp⟩⟩
     . rw [Ai (m6 U)] at e2;obtain ⟨u',r',q⟩:=hl j y v' e1 e2 e3;refine ⟨u',r',?_⟩;rcases q with ⟨k,e⟩| ⟨k,c,e,z⟩
       . refine .inl ⟨k,?_⟩;have:y≠x:=λe=>U (Q4 hN e1 (e▸Z))
         simp [this,e]
       . exact .inr ⟨k,c,e,z.sameBut l (lS y c e)⟩
   . obtain ⟨w',z⟩:=I.cell y c e;exact ⟨w',z.sameBut l (lS y c e)⟩
   . obtain ⟨e,n,ne,nf,d⟩:=I.pin p hp;exact ⟨(l.2 p.1 ne).trans e,n,ne,nf,d⟩
 . have Y:X.fn x=true:=by
     rcases hf with z|z
     . exact z
     . rw [z] at hk;cases hk
   obtain ⟨c,hc⟩:=I.ok.has x (.inl hk);obtain ⟨w',z⟩:=I.cell x c hc;refine wpAny_storeName_cell I.ok.kind hk hc z (λg rJ l=>?_);obtain ⟨oc,D3,Bn⟩:=id z;refine h {s with heap:=g} ⟨I.ok,I.os,I.bare,⟨λb o e n O w=>?_,λb o e n O w=>?_,I.ae.free,λb o e w=>?_,I.ae.dr,I.ae.cY,I.ae.du⟩,⟨m,hn.sameBut l (m6 (lS x c hc)),λj y v' e1 e2 e3=>?_⟩,λy c' e=>?_,I.free,I.bW,λp hp=>?_,t ⟨oc,D3,I.bW x c hc⟩ l,by simpa using I.len⟩ ⟨c,l,.inr hc⟩
   . exact (l.2 b (dN (eE (bX e) (I.ok.nG x c Y hc)))).trans (I.ae.keep b o e n O w)
   . obtain ⟨sl,e1⟩:=I.ae.slot b o e n O w;exact ⟨sl,(l.2 b (dN (eE (bX e) (I.ok.nG x c Y hc)))).trans e1⟩
   . obtain ⟨o',e1⟩:=I.ae.there b o e w;exact ⟨o',(l.2 b (dN (eE (bX e) (I.ok.nG x c Y hc)))).trans e1⟩
   . by_cases U:j=i
     . subst U;rw [Z] at e1;cases e1;rw [lT N] at e2;cases e2;exact ⟨u,r,.inr ⟨.inl hk,c,hc,rJ⟩⟩
     . rw [Ai (m6 U)] at e2;obtain ⟨u',r',q⟩:=hl j y v' e1 e2 e3;refine ⟨u',r',?_⟩;rcases q with q| ⟨k,c',e,z'⟩
       . exact .inl q
       . refine .inr ⟨k,c',e,z'.sameBut l ?_⟩;rintro rfl;exact U (Q4 hN e1 (I.ok.inj _ _ _ e hc▸Z))
   . by_cases D4:c'=c
     . subst D4;exact ⟨_,rJ⟩
     . obtain ⟨w2,z2⟩:=I.cell y c' e;exact ⟨w2,z2.sameBut l D4⟩
   . obtain ⟨e,n,ne,nf,d⟩:=I.pin p hp;refine ⟨(l.2 p.1 ?_).trans e,n,ne,nf,d⟩;intro q;rw [q,D3] at e;have q':=fQ e;exact d w' (by rw [<-q'];exact Bn)
def QG {M:Model} {A:bV} {E:Ws} {i:Nat} {x:Str} {v:V} {u:Value} {Q:Unit->aB->Prop} (I:aq X J B H s) (c:X.N.Nodup) (d:X.N[i]?=some x) (e:Loc X.env.scope x) (r:aG v u)
  (h: ∀a,aq X J (B.set i (some v)) H a->Q () a) (j:T7 X x:=by first|exact .inl rfl|exact .inr rfl|assumption):wpAny M A (storeName X.env x u) Q E s:=
 Jc I c d e r (λa k _=>h a k) j
def aq.fR {s':aB} {d:List Addr} (I:aq X J B H s) (h:s'.os=s.os) (u:Un (cJ X.stack) d H H' s.heap s'.heap) (aP:cM X.prog X.w H' s'.heap) (i:m5 s'.gens)
  (a: ∀b∈d,(b∈X.ex\/X.cQ.heap.objs.size<=b)/\b≠X.env.locals/\(∀x c,X.env.cells.lookup x=some c->c≠b)/\ ∀p∈X.pn++J,p.1≠b):aq X J B H' s':=by
 obtain ⟨g,j,k,l,m⟩:=s';have e:=h;subst e;exact I.call u aP i a
end
abbrev XK:=Value->Option Addr->Hp->Prop
abbrev St:=List (Option V)
abbrev VK:=V->Hp->Prop
abbrev TE:=St->Hp->VK->Prop
abbrev TT:=St->Hp->(Bool->Hp->Prop)->Prop
abbrev TA:=St->Hp->(List V->Hp->Prop)->Prop
structure Ends where
 nx:St->Hp->Prop
 rt:VK
 bk:St->Hp->Prop:=λ_ _=>False
 ct:St->Hp->Prop:=λ_ _=>False
abbrev TS:=Ends->St->Hp->Prop
def EP (X:Cx) (a:List (Addr×Obj)) (d:St) (Q:VK) (u:Value) (e:aB):Prop:= ∃v c,aq X a d c e/\aG v u/\Q v c
def TP (X:Cx) (a:List (Addr×Obj)) (d:St) (Q:Bool->Hp->Prop) (b:Bool) (e:aB):Prop:= ∃c,aq X a d c e/\Q b c
def AP (X:Cx) (a:List (Addr×Obj)) (e:St) (Q:List V->Hp->Prop) (g:List Value) (h:aB):Prop:= ∃c d,aq X a e d h/\aE c g/\Q c d
def SP (X:Cx) (c:List (Addr×Obj)) (D:Ends) (f:Flow) (e:aB):Prop:=
 match f with
 | .next=> ∃a d,aq X c a d e/\D.nx a d
 | .brk=> ∃a d,aq X c a d e/\D.bk a d
 | .cont=> ∃a d,aq X c a d e/\D.ct a d
 | .ret u=> ∃v a d,aq X c a d e/\aG v u/\D.rt v d
def PE (X:Cx) (e:Expr) (t:TE):Prop:=
 ∀(a:List (Addr×Obj)) (s:aB) (c:St) (H:Hp) (Q:VK),aq X a c H s->t c H Q->wpAny (model X.prog X.w) X.A (eval e X.env) (EP X a c Q) X.xe s
def PT (X:Cx) (e:Expr) (t:TT):Prop:=
 ∀(a:List (Addr×Obj)) (s:aB) (c:St) (H:Hp) (Q:Bool->Hp->Prop),aq X a c H s->t c H Q->wpAny (model X.prog X.w) X.A (isTrue e X.env (eval e X.env)) (TP X a c Q) X.xe s
def PW (X:Cx) (e:Expr) (t:TT):Prop:=
 ∀(whole:Sem Value) (a:List (Addr×Obj)) (s:aB) (c:St) (H:Hp) (Q:Bool->Hp->Prop),aq X a c H s->t c H Q->wpAny (model X.prog X.w) X.A (isTrue e X.env whole) (TP X a c Q) X.xe s
def PW.pt {X:Cx} {e:Expr} {t:TT} (h:PW X e t):PT X e t:=h _
def PA (X:Cx) (e:List Expr) (t:TA):Prop:=
 ∀(c:Pos) (a:List (Addr×Obj)) (s:aB) (d:St) (H:Hp) (Q:List V->Hp->Prop),aq X a d H s->t d H Q->wpAny (model X.prog X.w) X.A (spliced (dO c (bp e X.env))) (AP X a d Q) X.xe s
def PS (X:Cx) (st:Stmt) (t:TS):Prop:=
 ∀(a:List (Addr×Obj)) (s:aB) (c:St) (H:Hp) (D:Ends),aq X a c H s->t D c H->wpAny (model X.prog X.w) X.A (exec st X.env) (SP X a D) X.xe s
def cb (X:Cx) (st:List Stmt) (t:TS):Prop:=
 ∀(a:List (Addr×Obj)) (s:aB) (c:St) (H:Hp) (D:Ends),aq X a c H s->t D c H->wpAny (model X.prog X.w) X.A (execs st X.env) (SP X a D) X.xe s
def bn {c:Type} {t:Sem c} {Q d:c->aB->Prop} {M:Model} {A:bV} {E:Ws} {s:aB} (h:wpAny M A t Q E s) (e: ∀a s,Q a s->d a s):wpAny M A t d E s:=lA h e λ_ _ x=>x
section
variable {X:Cx}
def Bo (i:Nat):TE:=λa H Q=> ∃v,a[i]?=some (some v)/\Q v H
def tC (v:V):TE:=λ_ H Q=>Q v H
def wx {i:Nat} {x:Str} {j:Pos} (o:X.N[i]?=some x) (p:gJ X.env.scope x) (hd:Yj x:=by decide) (k:Yi x:=by decide):PE X (.Name x j) (Bo i):=by
 intro g s q H Q I h;obtain ⟨v,e,h⟩:=h;obtain ⟨m,t,w⟩:=I.loc;obtain ⟨u,r,l⟩:=w i x v o e p;have d:EP X g q Q u s:=⟨v,H,I,r,h⟩
 rcases l with ⟨hk,y⟩| ⟨hk,c,n,a⟩
 . exact wpAny_Name (wpAny_loadName_local I.ok.kind hk t y d) hd
 . rcases hk with hk|hk
   . exact wpAny_Name (wpAny_loadName_cell I.ok.kind hk n a d) hd
   . exact wpAny_Name (wpAny_loadName_free I.ok.kind hk n a d k) hd
def Kv {i j a}:PE X (.Constant (.int i) j a) (tC (.int i)):=λ_ _ _ H _ I h=>wpAny_Constant_int ⟨.int i,H,I.tok _,⟨_,rfl⟩,h⟩
def FR {b j a}:PE X (.Constant (.bool b) j a) (tC (.bl b)):=λ_ _ _ H _ I h=>Constant_bool ⟨.bl b,H,I,rfl,h⟩
def FS {j a}:PE X (.Constant .none j a) (tC .aO):=λ_ _ _ H _ I h=>Constant_none ⟨.aO,H,I,rfl,h⟩
def FT {x j a}:PE X (.Constant (.str x) j a) (tC (.str x)):=λ_ _ _ H _ I h=>Calls.Constant_str ⟨.str x,H,I.tok _,⟨_,rfl⟩,h⟩
def Gl (X:Cx) (x:Str):Prop:=X.env.kindOf x=some .globalImplicit
def yB {E:Ws} {a:List (Addr×Obj)} {s:aB} {d:St} {H:Hp} {x:Str} {u:Value} {c:Pos} {Q:Ws} (I:aq X a d H s) (e:Gl X x) (g:X.mg x=some u) (h:Q u s)
  (hd:Yj x:=by decide):wpAny (model X.prog X.w) X.A (eval (.Name x c) X.env) Q E s:=
 Calls.Name_function_global I.ok.kind e (Calls.loadGlobal_global (by rw [I.ok.glob];exact I.mod.glob.keeps I.bk) g h) hd
def Xy {E:Ws} {a:List (Addr×Obj)} {s:aB} {d:St} {H:Hp} {x:Str} {u:Value} {c:Pos} {Q:Ws} (I:aq X a d H s) (e:Gl X x) (g:X.mg x=none) (i:gH x=some u) (h:Q u s)
  (j:x≠ "__name__" :=by decide) (hd:Yj x:=by decide):wpAny (model X.prog X.w) X.A (eval (.Name x c) X.env) Q E s:=by
 obtain ⟨m,k,l⟩:=I.mod.blt;exact Calls.Name_function_global I.ok.kind e (Calls.loadGlobal_builtin (by rw [I.ok.glob];exact I.mod.glob.keeps I.bk) g (by rw [I.ok.blt];exact k.keeps I.bk) ((l x j).trans i) h) hd
def QR {x:Str} {v:V} {u:Value} {a:Pos} (c:Gl X x) (d:X.mg x=some u) (r:aG v u) (hd:Yj x:=by decide):PE X (.Name x a) (tC v):=
 λ_ _ _ H _ I h=>yB I c d ⟨v,H,I,r,h⟩ hd
def Wz {x:Str} {v:V} {u:Value} {a:Pos} (c:Gl X x) (d:X.mg x=none) (e:gH x=some u) (r:aG v u) (g:x≠ "__name__" :=by decide) (hd:Yj x:=by decide):PE X (.Name x a) (tC v):=
 λ_ _ _ H _ I h=>Xy I c d e ⟨v,H,I,r,h⟩ g hd
variable {a b:Expr} {N L:TE} {pos:Pos}
def tB (t:TE):TT:=λd H Q=>t d H λx e=> ∃c,x= .bl c/\Q c e
def FU {e:Expr} {t:TE} (h:PE X e t) (i: ∀whole,isTrue e X.env whole=(do let v<-whole;nI e.pos;iW [v] (truthy v)):=by intro _;rfl):PT X e (tB t):=by
 intro c s j H Q I hw;refine isTrue_plain (bn (h c s j H _ I hw) λv o g=>?_) (i _);obtain ⟨x,k,l,m,n⟩:=g;obtain ⟨d,rfl,q⟩:=n;cases m;exact m7 ⟨k,l,q⟩
variable {tA O:TT} {rest:List Expr}
def Bp (t u:TT):TT:=λd H Q=>t d H λc e=>if c=true then u d e Q else Q false e
def FV (t u:TT):TT:=λd H Q=>t d H λc e=>if c=true then Q true e else u d e Q
def Bq (t:TT):TT:=λd H Q=>t d H λc e=>Q (!c) e
def vR (g:PT X a tA):PW X (.BoolOp .And [a] pos) tA:=by
 intro j d s i H Q I h;refine isTrue_and (bn (g d s i H Q I h) λc k e=>?_)
 cases c with
 |true=>exact isTrue_and_nil e
 |false=>exact e
def FW (g:PT X a tA):PW X (.BoolOp .Or [a] pos) tA:=by
 intro j d s i H Q I h;refine isTrue_or (bn (g d s i H Q I h) λc k e=>?_)
 cases c with
 |false=>exact isTrue_or_nil e
 |true=>exact e
def FX (l:PT X a tA) (m:PW X (.BoolOp .And (b::rest) pos) O):PW X (.BoolOp .And (a::b::rest) pos) (Bp tA O):=by
 intro n d s g H Q I h;refine isTrue_and (bn (l d s g H _ I h) λc o e=>?_);obtain ⟨i,j,k⟩:=e
 cases c with
 |true=>exact m n d o g i Q j k
 |false=>exact ⟨i,j,k⟩
def FY (l:PT X a tA) (m:PW X (.BoolOp .Or (b::rest) pos) O):PW X (.BoolOp .Or (a::b::rest) pos) (FV tA O):=by
 intro n d s g H Q I h;refine isTrue_or (bn (l d s g H _ I h) λc o e=>?_);obtain ⟨i,j,k⟩:=e
 cases c with
 |true=>exact ⟨i,j,k⟩
 |false=>exact m n d o g i Q j k
def FZ (e:PT X a tA):PT X (.UnaryOp .Not a pos) (Bq tA):=by
 intro d s g H Q I h;exact isTrue_not (e d s g H (λc i=>Q (!c) i) I h)
def F0 (N L:TE):TE:=λd H Q=>N d H λx e=> ∃c,x= .bl c/\if c=true then L d e Q else Q (.bl false) e
def F1 (N:TE):TE:=λd H Q=>N d H λx e=> ∃c,x= .bl c/\Q (.bl (!c)) e
def F3 {d} {t:TE} (h:PE X a t):PE X (.BoolOp d [a] pos) t:=λc s e H Q I hw=>BoolOp_one (h c s e H Q I hw)
def F4 (l:PE X a N) (m:PE X (.BoolOp .And (b::rest) pos) L):PE X (.BoolOp .And (a::b::rest) pos) (F0 N L):=by
 intro d s i H Q I h;refine BoolOp_and (bn (l d s i H _ I h) λv n g=>?_);obtain ⟨x,j,k,o,e⟩:=g;obtain ⟨c,rfl,e⟩:=e;cases o;refine m7 ?_
 cases c with
 |true=>exact m d n i j Q k e
 |false=>exact ⟨.bl false,j,k,rfl,e⟩
def F5 (i:PE X a N):PE X (.UnaryOp .Not a pos) (F1 N):=by
 intro d s j H Q I h;refine UnaryOp_ (bn (i d s j H _ I h) λv n e=>?_);obtain ⟨x,k,l,m,g⟩:=e;obtain ⟨c,rfl,g⟩:=g;cases m;exact not_of (m7 ⟨.bl (!c),k,l,rfl,g⟩)
end
def dg (K:ay) (H:Hp) (a:Addr) (d:List V):Prop:=
 Rd H a (.ag d)\/
  ∃(o:Obj) (c:Array Value) (n:Nat),K.lookup a=some o/\o.cls= .type "list" /\o.dict=none/\o.data= .seq c n/\c.size<=aR/\aE d c.toList
def eI (K:ay) (H:Hp) (a:Addr) (d:List V):Prop:=
 Rd H a (.ah d)\/
  ∃(o:Obj) (c:Array Value) (n:Nat),K.lookup a=some o/\o.cls= .type "tuple" /\o.data= .seq c n/\c.size<=aR/\aE d c.toList
def Br:Value->Option V
 | .none=>some .aO
 | .bool b=>some (.bl b)
 | .int i _=>some (.int i)
 | .str x _=>some (.str x)
 | .bytes b _=>some (.rF b)
 | .float b _=>some (.o4 b)
 | .ref a=>some (.ref a)
 | .type n=>some (.ty n)
 |_=>none
def aG.abs {x:V} {u:Value} (r:aG x u):Br u=some x:=by
 cases x with
 |aO=>cases r;rfl
 |bl _=>cases r;rfl
 |int _=>obtain ⟨t,rfl⟩:=r;rfl
 |str _=>obtain ⟨t,rfl⟩:=r;rfl
 |rF _=>obtain ⟨t,rfl⟩:=r;rfl
 |o4 _=>obtain ⟨t,rfl⟩:=r;rfl
 |ref _=>cases r;rfl
 |ty _=>cases r;rfl
def aG.inj {x y:V} {u:Value} (r:aG x u) (q:aG y u):x=y:=fQ (r.abs.symm.trans q.abs)
theorem aE.inj: ∀ {a c:List V} {d:List Value},aE a d->aE c d->a=c
 |_,_,_,.nil,.nil=>rfl
 |_,_,_,.cons r t,.cons e g=>by rw [r.inj e,aE.inj t g]
section
variable {X:Cx} {q:List (Addr×Obj)} {i:St} {H:Hp} {s:aB} {a:Addr} {l j:List V}
def dg.of {K:ay} (h:H a=some (.ag l)):dg K H a l:= .inl (.inl h)
def eI.of {K:ay} (h:H a=some (.ah l)):eI K H a l:= .inl (.inl h)
def aq.list (I:aq X q i H s) (h:dg X.K H a l): ∃c:List Value,aE l c/\PlainL s.heap a c.toArray/\l.length<=aR:=by
 rcases h with h| ⟨o,c,n,d,g,hd,k,m,r⟩
 . obtain ⟨z,c,n,r,e⟩:=h.ok I.aP;exact ⟨c,r,⟨_,n,e,rfl,rfl,rfl⟩,z⟩
 . refine ⟨c.toList,r,⟨o,n,I.dD a o d,g,hd,by simpa using k⟩,?_⟩;have e:=r.length;simp only [fW] at e;omega
def aq.tuple (I:aq X q i H s) (h:eI X.K H a l): ∃c:List Value,aE l c/\IsTup s.heap a c.toArray/\l.length<=aR:=by
 rcases h with h| ⟨o,c,n,d,g,k,m,r⟩
 . obtain ⟨z,c,r,p⟩:=h.ok I.aP;exact ⟨c,r,p,z⟩
 . refine ⟨c.toList,r,⟨o,I.dD a o d,g,n,by simpa using k⟩,?_⟩;have e:=r.length;simp only [fW] at e;omega
def aq.lU (I:aq X q i H s) (h:dg X.K H a l) (p:dg X.K H a j):l=j:=by
 obtain ⟨g,r,⟨o,n,e,_,_,d⟩,_⟩:=I.list h;obtain ⟨c,t,⟨v,w,k,_,_,m⟩,_⟩:=I.list p;rw [e] at k;cases k;rw [d] at m;injection m with u _;have:g=c:=by simpa using congrArg Array.toList u
 subst this;exact r.inj t
def aq.iX (I:aq X q i H s) (h:eI X.K H a l) (p:eI X.K H a j):l=j:=by
 obtain ⟨g,r,⟨o,e,_,n,d⟩,_⟩:=I.tuple h;obtain ⟨c,t,⟨v,k,_,w,m⟩,_⟩:=I.tuple p;rw [e] at k;cases k;rw [d] at m;injection m with u _;have:g=c:=by simpa using congrArg Array.toList u
 subst this;exact r.inj t
end
abbrev Cx.fG (X:Cx) (E:Ws):Cx:={X with xe:=E}
abbrev Cx.m8 (X:Cx):Cx:=X.fG λ_ _=>False
def Cx.Ok.fG {X:Cx} (ok:X.Ok) (E:Ws):(X.fG E).Ok:=
 ⟨ok.mod,ok.kind,ok.glob,ok.blt,ok.above,ok.inj,ok.has,ok.nG,ok.hd,ok.frames,ok.oE,ok.oF,ok.bs,ok.iV,ok.fF,ok.fX,ok.dw,ok.lR⟩
def Cx.Ok.cZ {X:Cx} {E:Ws} (ok:(X.fG E).Ok):X.Ok:=
 ⟨ok.mod,ok.kind,ok.glob,ok.blt,ok.above,ok.inj,ok.has,ok.nG,ok.hd,ok.frames,ok.oE,ok.oF,ok.bs,ok.iV,ok.fF,ok.fX,ok.dw,ok.lR⟩
section
variable {X:Cx} {pins:List (Addr×Obj)} {σ:St} {H:Hp} {s:aB} {E:Ws}
def aq.fG (I:aq X pins σ H s) (E:Ws):aq (X.fG E) pins σ H s:=⟨I.ok.fG E,I.os,I.bare,I.ae,I.loc,I.cell,I.free,I.bW,I.pin,I.aP,I.len⟩
def aq.cZ (I:aq (X.fG E) pins σ H s):aq X pins σ H s:=⟨I.ok.cZ,I.os,I.bare,I.ae,I.loc,I.cell,I.free,I.bW,I.pin,I.aP,I.len⟩
def SP.cZ {D:Ends} {f:Flow} {d:aB} (h:SP (X.fG E) pins D f d):SP X pins D f d:=by
 cases f with
 |next=>obtain ⟨a,c,I,q⟩:=h;exact ⟨a,c,I.cZ,q⟩
 |brk=>obtain ⟨a,c,I,q⟩:=h;exact ⟨a,c,I.cZ,q⟩
 |cont=>obtain ⟨a,c,I,q⟩:=h;exact ⟨a,c,I.cZ,q⟩
 |ret u=>obtain ⟨v,a,c,I,r,q⟩:=h;exact ⟨v,a,c,I.cZ,r,q⟩
def cb.m8 {st:List Stmt} {t:TS} (h:cb X.m8 st t):cb X st t:=λpins s σ H D I hw=>
 lA (h pins s σ H D (I.fG _) hw) (λ_ _ q=>q.cZ) λ_ _ z=>hJ z
end
section
variable {X:Cx} {st:Stmt} {rest:List Stmt} {t u:TS} {e:Expr} {z:TE} {pos:Pos}
def F6:TS:=λD a H=>D.nx a H
def Bs (t u:TS):TS:=λD a H=>t {D with nx:=u D} a H
def yt:cb X [] F6:=λ_ _ a H _ I h=>Aj ⟨a,H,I,h⟩
def qA (d:PS X st t) (g:cb X rest u):cb X (st::rest) (Bs t u):=by
 intro a s i H D I h;refine wpAny_execs_cons (bn (d a s i H {D with nx:=u D} I h) λf j q=>?_)
 cases f with
 |next=>
  obtain ⟨c,k,l,q⟩:=q;exact g a j c k D l q
 |ret v=>exact q
 |brk=>exact q
 |cont=>exact q
def QM (c:PS X st t):cb X [st] t:=by
 intro a s d H D I h;refine wpAny_execs_cons (bn (c a s d H D I h) λf g q=>?_)
 cases f with
 |next=>exact Aj q
 |ret v=>exact q
 |brk=>exact q
 |cont=>exact q
def aq.quiet {a:List (Addr×Obj)} {c:St} {H:Hp} {s:aB} (I:aq X a c H s):interactive X.env=false:=by simp [interactive,I.ok.kind]
def F7 (z:TE):TS:=λD a H=>z a H λ_ c=>D.nx a c
def QN (d:PE X e z) (g:gw e none pos.line X.env=pure false:=by rfl):PS X (.Expr e pos) (F7 z):=by
 intro a s c H D I h;exact wpAny_Expr_any (bn (d a s c H _ I h) λv l ⟨x,i,j,m,k⟩=>⟨c,i,j,k⟩) I.quiet g
def Bt (z:TE):TS:=λD a H=>z a H D.rt
def Kq (d:PE X e z):PS X (.Return (some e) pos) (Bt z):=by
 intro a s c H D I h;exact wpAny_Return_some (bn (d a s c H _ I h) λv l ⟨x,g,i,j,k⟩=>⟨x,c,g,i,j,k⟩)
def Bu (c:TT) (t u:TS):TS:=λD a H=>c a H λb d=>if b=true then t D a d else u D a d
def Uq {c:Expr} {a b:List Stmt} {k:TT} (p:PT X c k) (q:cb X a t) (r:cb X b u):PS X (.If c a b pos) (Bu k t u):=by
 intro g s i H D I h;refine wpAny_If (bn (p g s i H _ I h) λd l j=>?_);obtain ⟨m,n,o⟩:=j
 cases d with
 |true=>exact q g l i m D n o
 |false=>exact r g l i m D n o
end
abbrev TG:=V->St->Hp->(St->Hp->Prop)->Prop
abbrev o8:=List V->St->Hp->(St->Hp->Prop)->Prop
def PG (X:Cx) (a:Expr) (t:TG):Prop:=
 ∀(c:List (Addr×Obj)) (s:aB) (e:St) (H:Hp) (v:V) (u:Value) (Q:St->Hp->Prop),aq X c e H s->aG v u->t v e H Q->
  wpAny (model X.prog X.w) X.A (fT a X.env u) (λ_ h=> ∃d g,aq X c d g h/\Q d g) X.xe s
def Ak (X:Cx) (i:List Expr) (t:o8):Prop:=
 ∀(a:List (Addr×Obj)) (s:aB) (d:St) (H:Hp) (e:List V) (g:List Value) (Q:St->Hp->Prop),aq X a d H s->aE e g->t e d H Q->
  wpAny (model X.prog X.w) X.A (assignInOrder ((dh i X.env).map (·.2)) g) (λ_ j=> ∃c h,aq X a c h j/\Q c h) X.xe s
abbrev o9:=V->V->V->Hp->(Hp->Prop)->Prop
def sM (X:Cx) (t:o9):Prop:=
 ∀(a:List (Addr×Obj)) (s:aB) (c:St) (H:Hp) (o i v:V) (d e u:Value) (Q:Hp->Prop),aq X a c H s->aG o d->aG i e->aG v u->t o i v H Q->
  wpAny (model X.prog X.w) X.A (setItem d e u) (λ_ h=> ∃g,aq X a c g h/\Q g) X.xe s
section
variable {X:Cx} {pos:Pos}
def D5 (i:Nat):TG:=λv a H Q=>Q (a.set i (some v)) H
def xL {i:Nat} {x:Str} (c:X.N.Nodup) (d:X.N[i]?=some x) (e:Loc X.env.scope x) (g:T7 X x:=by first|exact .inl rfl|exact .inr rfl|assumption):PG X (.Name x pos) (D5 i):=by
 intro a s k H v u Q I r h;exact wpAny_assign_Name (QG I c d e r (λl j=>⟨_,H,j,h⟩) g)
def Bv:o8:=λa c H Q=>a=[]/\Q c H
def F8 (t:TG) (u:o8):o8:=λc d H Q=> ∃v r,c=v::r/\t v d H λa e=>u r a e Q
def QQ:Ak X [] Bv:=by
 intro a s c H d g Q I r h;obtain ⟨e,h⟩:=h;subst e;cases r;exact assignInOrder_nil ⟨c,H,I,h⟩
def zO {e:Expr} {c:List Expr} {t:TG} {u:o8} (i:PG X e t) (j:Ak X c u)
  (k:(dh (e::c) X.env).map (·.2)=fT e X.env::(dh c X.env).map (·.2):=by rfl):Ak X (e::c) (F8 t u):=by
 intro a s l H w y Q I r h;obtain ⟨v,z,e1,h⟩:=h;subst e1
 cases r with
 |cons r m=>
  rw [k];refine assignInOrder_cons (bn (i a s l H _ _ _ I r h) λ_ n d=>?_);obtain ⟨g,o,p,q⟩:=d;exact j a n g o _ _ Q p m q
def Bw (K:ay) (n:Nat) (t:o8):TG:=λv d H Q=> ∃a c,v= .ref a/\eI K H a c/\c.length=n/\t c d H Q
def Xl {d:List Expr} {k:Nat} {t:o8} {n:Nat} (j:X.bG=true) (h:Ak X d t)
  (l:(dh d X.env).length=n:=by rfl) (g:(dh d X.env).findIdx? (·.1)=none:=by rfl):PG X (.Tuple d k pos) (Bw X.K n t):=by
 intro c s m H v u Q I r hw;obtain ⟨a,p,e1,q,w,hw⟩:=hw;subst e1;cases r;obtain ⟨y,i,z,E⟩:=I.tuple q;refine assign_Tuple_tuple (I.ok.hd j) z (by simp [l,<-w,i.length]) g λJ B=>?_
 exact h c _ m H p _ Q (I.kept (t':=s.toks) λb o e=>B b o (dN (bX e)) e) (by simpa using i) hw
def By (c d:TE) (t:o9):TG:=λv a H Q=>c a H λo e=>d a e λi g=>t o i v g λh=>Q a h
def F9 {o i:Expr} {j k:TE} {t:o9} (l:PE X o j) (m:PE X i k) (n:sM X t)
  (p: ∀v,fT (.Subscript o i pos) X.env v=(do
   let d<-iW [v] (eval o X.env)
   let e<-iW [v,d] (eval i X.env)
   nI pos
   iW [v,d,e] (setItem d e v)
   release [v,d,e] []):=by intro _;rfl):PG X (.Subscript o i pos) (By j k t):=by
 intro a s g H v u Q I r h;rw [p];refine ax (iY (bn (l a s g H _ I h) λd q c=>?_));obtain ⟨x,w,z,B,E⟩:=c;refine ax (iY (bn (m a q g w _ z E) λe J c=>?_));obtain ⟨y,L,N,O,U⟩:=c;refine ax (wpAny_standAt (ax (iY (bn (n a J g L x y v d e u _ N B O r U) λ_ s3 c=>?_))));obtain ⟨Y,Z,q3⟩:=c;exact wpAny_release ⟨g,Y,Z,q3⟩
def sN (c:TE) (g:TG):TS:=λD a H=>c a H λx d=>g x a d D.nx
def Xh {c e:Expr} {i:TE} {g:TG} (k:PE X e i) (l:PG X c g) (m:sO [c] e pos.line X.env=pure false:=by rfl) (hw:sP [c] e X.env=pure none:=by rfl)
  (n:(dh [c] X.env).map (·.2)=[fT c X.env]:=by rfl):PS X (.Assign [c] e pos) (sN i g):=by
 intro a s j H D I h;refine wpAny_Assign_stores (bn (k a s j H _ I h) λv o d=>?_) m hw;obtain ⟨x,p,r,t,u⟩:=d;rw [n];exact bn (l a o j p x v _ r t u) λ_ w q=>q
def ZE {i:Nat} {x:Str} {e:Expr} {g:TE} {a:Pos} (j:X.N.Nodup) (k:X.N[i]?=some x) (l:Loc X.env.scope x) (m:PE X e g) (n:gw e (some (.Name x a)) pos.line X.env=pure false:=by rfl) (o:T7 X x:=by first|exact .inl rfl|exact .inr rfl|assumption):
  PS X (.Assign [.Name x a] e pos) (sN g (D5 i)):=by
 intro c s p H D I h;refine wpAny_Assign_Name (bn (m c s p H _ I h) λv z d=>?_) n;obtain ⟨y,q,r,t,u⟩:=d;exact QG r j k l t (λB w=>⟨_,q,w,u⟩) o
end
structure It where
 go:Nat->Hp->Prop
 Al:Nat->Hp->V->Hp->Prop
 stop:Nat->Hp->Prop
def eT (X:Cx) (a:List (Addr×Obj)) (H:Hp) (b:Addr):Prop:=
 H b=none/\b≠X.env.locals/\b∉X.fs/\(b∈X.ex\/X.cQ.heap.objs.size<=b)/\(∀x c,X.env.cells.lookup x=some c->c≠b)/\ ∀p∈X.pn++a,p.1≠b
def aq.f6 {X:Cx} {a:List (Addr×Obj)} {h:St} {H g:Hp} {s:aB} {b:Addr} (I:aq X a h H s) (d:s.heap.objs.size<=b) (i:g b=none):eT X a g b:=by
 refine ⟨i,Nat.ne_of_gt (eE I.lt d),I.Bl d,.inr (dE I.sz d),λx c e z=>?_,λp j z=>?_⟩
 . obtain ⟨v,q⟩:=I.cell x c e;exact absurd (eE q.lt (by rw [z];exact d)) (lC _)
 . exact absurd (eE (bX (I.pin p j).1) (by rw [z];exact d)) (lC _)
structure Turn (P:bI) (w:World) (K:ay) (tg:Expr) (J:It) (fp:List Addr) (it:Addr) (tn:Nat->Heap->Prop):Prop where
 mem:it∈fp
 obj: ∀i h,tn i h-> ∀b∈fp,∃o,h.get? b=some o/\ ∀v,o.data≠ .cell v
 keep: ∀i h h',tn i h->(∀b∈fp,∀o,h.get? b=some o->h'.get? b=some o)->tn i h'
 item: ∀(X:Cx),X.prog=P->X.w=w->X.K=K->X.bG=true-> ∀(i:Nat) (pins:List (Addr×Obj)) (s:aB) (σ:St) (H:Hp) (E:Ws),aq X pins σ H s->(∀b∈fp,eT X pins H b)->tn i s.heap->J.go i H->
  wpAny (model P w) X.A (pyNext (.ref it)) (λr s1=> ∃u,r=some u/\
   wpAny (model P w) X.A (letOwnedTupleGo tg (.ref it) u) (λ_ s2=> ∃x H',aq X pins σ H' s2/\aG x u/\J.Al i H x H'/\tn (i+1) s2.heap/\ ∀b∈fp,H' b=none) E s1) E s
 done: ∀(X:Cx),X.prog=P->X.w=w->X.K=K->X.bG=true-> ∀(i:Nat) (pins:List (Addr×Obj)) (s:aB) (σ:St) (H:Hp) (E:Ws),aq X pins σ H s->(∀b∈fp,eT X pins H b)->tn i s.heap->J.stop i H->
  wpAny (model P w) X.A (pyNext (.ref it)) (λr s1=>r=none/\aq X pins σ H s1) E s
 self: ∀(A:bV) (i:Nat) (s:aB) (Q:Ws) (E:Ws),tn i s.heap->Q (.ref it) s->wpAny (model P w) A (pyIter (.ref it)) Q E s
abbrev TI:=St->Hp->(It->Hp->Prop)->Prop
def D6 (X:Cx) (a:List (Addr×Obj)) (j:St) (k:Expr) (R:It->Hp->Prop) (c:Value) (e:aB):Prop:=
 ∃(g:Addr) (h:List Addr) (i:Nat->Heap->Prop) (J:It) (d:Hp),c= .ref g/\aq X a j d e/\Turn X.prog X.w X.K k J h g i/\i 0 e.heap/\(∀b∈h,eT X a d b)/\R J d
def PI (X:Cx) (d iter:Expr) (e:TI):Prop:=
 ∀(a:List (Addr×Obj)) (s:aB) (c:St) (H:Hp) (R:It->Hp->Prop),aq X a c H s->e c H R->
  wpAny (model X.prog X.w) X.A (eval iter X.env) (λv g=>wpAny (model X.prog X.w) X.A (pyIter v) (D6 X a c d R) X.xe g) X.xe s
def YM {M : Model} {A : bV} {E : Value -> aB -> Prop} {s : aB} {c : Expr} {d : Addr} {u : Value} {o : Obj} {n : String} {e : Array Value} {Q : Unit -> aB -> Prop} (g : s.heap.get? d = some o) (i : o.cls = .type n) (hd : o.data = .fields e)
    (j : ["enumerate", "zip", "dict_itemiterator", "dict_reverseitemiterator", "odict_iterator", "itertools.zip_longest", "itertools.pairwise"].contains n = false) (a : Q () s) : wpAny M A (letOwnedTupleGo c (.ref d) u) Q E s := by
  cases c <;> first
    | exact aM a
    | (cases u <;> first
        | exact aM a
        | (
          refine ax (wpAny_load g ?_)
          rw [i, hd]
          show wpAny M A (if (["enumerate", "zip", "dict_itemiterator", "dict_reverseitemiterator", "odict_iterator", "itertools.zip_longest", "itertools.pairwise"].contains n && e[0]? == some (rawInt _)) = true then _ else _) Q E s
          rw [if_neg (by intro h; rw [j, pc] at h; cases h)]
          exact aM a))
def D7 (K:ay) (a:Addr):It:=
 ⟨λi H=> ∃c x,dg K H a c/\c[i]?=some x,λi H x d=>d=H/\ ∀c,dg K H a c->c[i]?=some x,λi H=> ∃c,dg K H a c/\c.length<=i⟩
def Ga (K:ay) (a:Addr):It:=
 ⟨λi H=> ∃c x,eI K H a c/\c[i]?=some x,λi H x d=>d=H/\ ∀c,eI K H a c->c[i]?=some x,λi H=> ∃c,eI K H a c/\c.length<=i⟩
def Am (lo:Int) (n:Nat):It:=⟨λi _=>i<n,λi H x a=>a=H/\x= .int (lo+i),λi _=>n<=i⟩
def Jb {P:bI} {w:World} {K:ay} {tg:Expr} (a g:Addr):Turn P w K tg (D7 K a) [g] g (λi h=>h.IsListIter g a i) where
 mem:=by simp
 obj:=λi h st b j=>by
  have e:b=g:=by simpa using j
  subst e;obtain ⟨o,e,c,d⟩:=st;exact ⟨o,e,λv z=>by rw [d] at z;cases z⟩
 keep:=λi h Z st k=>st.at λo e=>k g (by simp) o e
 item:=by
  intro X r hw t hc i l s σ H E I n st y;subst r hw t;obtain ⟨xs,x,q,B⟩:=y;obtain ⟨J,L,p,hz⟩:=I.list q;obtain ⟨u,hu,ru⟩:=L.get B;obtain ⟨N,O,f2,Q,U,Y⟩:=n g (by simp);refine wpAny_pyNext_list_item st p.isList (by simpa using hu) λZ m sb=>?_
  obtain ⟨o,e,c,d⟩:=id m;exact ⟨u,rfl,YM e c d (by decide) ⟨x,H,(I.turned (t':=s.toks) (λb o j e=>(sb.2 b j).trans e) N O Q U Y),ru,⟨rfl,λys hy=>by rw [I.lU hy q];exact B⟩,m,λb j=>(n b j).1⟩⟩
 done:=by
  intro X r hw t hc i l s σ H E I n st y;subst r hw t;obtain ⟨xs,q,B⟩:=y;obtain ⟨J,L,p,hz⟩:=I.list q;obtain ⟨N,O,f2,Q,U,Y⟩:=n g (by simp);have hl:=L.length;exact wpAny_pyNext_list_end (I.ok.hd hc) st p.isList (by simp;omega) λZ eb=>⟨rfl,I.turned (λb o j e=>eb b o j e) N O Q U Y⟩
 self:=λ_ _ _ _ _ st h=>wpAny_pyIter_listiter st h
def Ya {P:bI} {w:World} {K:ay} {tg:Expr} (a g:Addr):Turn P w K tg (Ga K a) [g] g (λi h=>h.IsTupleIter g a i) where
 mem:=by simp
 obj:=λi h st b j=>by
  have e:b=g:=by simpa using j
  subst e;obtain ⟨o,e,c,d⟩:=st;exact ⟨o,e,λv z=>by rw [d] at z;cases z⟩
 keep:=λi h Z st k=>st.at λo e=>k g (by simp) o e
 item:=by
  intro X r hw t hc i l s σ H E I n st y;subst r hw t;obtain ⟨xs,x,q,B⟩:=y;obtain ⟨J,L,p,hz⟩:=I.tuple q;obtain ⟨u,hu,ru⟩:=L.get B;obtain ⟨N,O,f2,Q,U,Y⟩:=n g (by simp);refine wpAny_pyNext_tuple_item st (p) (by simpa using hu) λZ m sb=>?_
  obtain ⟨o,e,c,d⟩:=id m;exact ⟨u,rfl,YM e c d (by decide) ⟨x,H,(I.turned (t':=s.toks) (λb o j e=>(sb.2 b j).trans e) N O Q U Y),ru,⟨rfl,λys hy=>by rw [I.iX hy q];exact B⟩,m,λb j=>(n b j).1⟩⟩
 done:=by
  intro X r hw t hc i l s σ H E I n st y;subst r hw t;obtain ⟨xs,q,B⟩:=y;obtain ⟨J,L,p,hz⟩:=I.tuple q;obtain ⟨N,O,f2,Q,U,Y⟩:=n g (by simp);have hl:=L.length;exact wpAny_pyNext_tuple_end (I.ok.hd hc) st (p) (by simp;omega) λZ eb=>⟨rfl,I.turned (λb o j e=>eb b o j e) N O Q U Y⟩
 self:=λ_ _ _ _ _ st h=>wpAny_pyIter_tupleiter st h
def Yb {P:bI} {w:World} {K:ay} {N:Expr} (a:Addr) (lo:Int) (n:Nat):Turn P w K N (Am lo n) [a] a (λi h=>IsRangeIter h a (lo+(i:Nat)*1) ((n:Int)-(i:Nat)) 1) where
 mem:=by simp
 obj:=λi h st b c=>by
  have e:b=a:=by simpa using c
  subst e
  exact ⟨_,st,λv z=>by
   have O:=z
   cases O⟩
 keep:=λi h B st k=>k a (by simp) _ st
 item:=by
  intro X J hw L l i d s Q H E I j st m;subst J hw L;obtain ⟨p,q,U,r,u,y⟩:=j a (by simp);refine (Walks.range (prog:=X.prog) (w:=X.w) (I.ok.hd l) a lo 1 n).item i s _ _ m st λv B tk Y g Z=>?_
  obtain ⟨t,rfl⟩:=Y;refine ⟨_,rfl,YM g rfl rfl (by decide) ⟨.int (lo+i),H,(I.turned (λb o c e=>Z b o (by simpa using c) e) p q r u y),⟨t,?_⟩,⟨rfl,rfl⟩,g,λb c=>(j b c).1⟩⟩;rw [Int.mul_one]
 done:=by
  intro X J hw L l i d s Q H E I j st m;obtain ⟨p,q,U,r,u,y⟩:=j a (by simp);exact wpAny_pyNext_range_end (I.ok.hd l) st (by have:n<=i:=m;omega) λB eb=>⟨rfl,I.turned (λb o c e=>eb b o c e) p q r u y⟩
 self:=λ_ _ _ _ _ st h=>wpAny_pyIter_rangeiter st h
section
variable {X:Cx} {y:Expr}
def Gb (K:ay) (d:TE):TI:=λe H R=>d e H λx c=> ∃a,x= .ref a/\(∃g,dg K c a g)/\R (D7 K a) c
def vX {l:Expr} {j:TE} (k:PE X l j):PI X y l (Gb X.K j):=by
 intro c s m H R I h;refine bn (k c s m H _ I h) λv d i=>?_;obtain ⟨x,n,g,r,t⟩:=i
 obtain ⟨a,e,⟨B,u⟩,q⟩:=t;subst e;cases r;obtain ⟨w,E,p,J⟩:=g.list u;refine pf p.isList ?_;refine ⟨d.heap.objs.size,[d.heap.objs.size],_,_,n,rfl,g.kept (t':=d.toks) λb o e=>cu _ e,Jb a _,⟨_,ej _ rfl,rfl,rfl⟩,λb z=>?_,q⟩;have e:b=d.heap.objs.size:=by simpa using z
 subst e;exact g.f6 (a9 _) (g.aP.fresh (a9 _))
def Uk {c:List (Addr×Obj)} {d:St} {H:Hp} {s:aB} {R:It->Hp->Prop} {E:Ws} {lo a:Int} {t u v:Tok} {h:Nat} (I:aq X c d H s) (i: -(2^62)<=lo) (j:lo<2^62) (k: -(2^62)<=a) (l:a<2^62)
   (q:R (Am lo (a-lo).toNat) H):wpAny (model X.prog X.w) X.A (pyIter (.ref s.heap.objs.size)) (D6 X c d y R) E {s with heap:=s.heap.push {cls:= .type "range",data:= .fields #[.int lo t,.int a u,.int 1 v]},toks:=h}:=by
 refine wpAny_pyIter_range (IsRange.new ..) (small_one i j k l) ?_;have g:aq X c d H {s with heap:=s.heap.push {cls:= .type "range",data:= .fields #[.int lo t,.int a u,.int 1 v]},toks:=h}:=I.kept λb o e=>cu _ e
 refine ⟨(s.heap.push {cls:= .type "range",data:= .fields #[.int lo t,.int a u,.int 1 v]}).objs.size,[(s.heap.push {cls:= .type "range",data:= .fields #[.int lo t,.int a u,.int 1 v]}).objs.size],_,_,H,rfl,
   g.kept λb o e=>cu _ e,Yb _ lo (a-lo).toNat,?_,λb m=>?_,q⟩
 . have e1:lo+((0):Int)*1=lo:=by simp
   have e2:(((a-lo).toNat:Nat):Int)-((0):Int)=Builtin.Range.rangeSize lo a 1:=by rw [rangeSize_one];split<;>omega
   show IsRangeIter _ _ (lo+((0):Int)*1) ((((a-lo).toNat:Nat):Int)-((0):Int)) 1;rw [e1,e2];exact ej _ rfl
 . have e:b=(s.heap.push {cls:= .type "range",data:= .fields #[.int lo t,.int a u,.int 1 v]}).objs.size:=by simpa using m
   subst e;exact g.f6 (a9 _) (g.aP.fresh (a9 _))
def Gd (a:TA):TI:=λc H R=>a c H λd e=> ∃j:Int,d=[.int j]/\ -(2^62)<=j/\j<2^62/\R (Am 0 j.toNat) e
def Ku {a:Expr} {k:TA} {p c:Pos} (l:Gl X "range") (m:X.mg "range" =none) (n:PA X [a] k) (o:bp [a] X.env=[(false,eval a X.env)]:=by rfl):PI X y (.Call (.Name "range" p) [a] [] c) (Gd k):=by
 intro d s u H R I h;refine Call_ (Xy I l m boot_range (D8 (bn (n c d s u H _ I h) λE J g=>?_) o rfl));obtain ⟨L,N,v,w,i⟩:=g;obtain ⟨j,e,i,z,q⟩:=i;subst e
 cases w with
 |cons r B=>
  cases B;obtain ⟨t,rfl⟩:=r;exact call_range_1 (Uk v (by omega) (by omega) i z (by simpa using q))
def Bz (j:TI) (g:TG) (k:TS):TS:=λD a H=>j a H λJ l=> ∃W:Nat->Nat->St->Hp->Prop,(∃m,W 0 m a l)/\ ∀i m a H,W i m a H->
 (J.stop i H/\D.nx a H)\/(J.go i H/\ ∃N:St->Hp->Prop,(∀c d,N c d-> ∃h,h<m/\W (i+1) h c d)/\ ∀x d,J.Al i H x d->g x a d λe n=>k {D with nx:=N,ct:=N,bk:=D.nx} e n)
def ZG (a:List Addr) (h:Heap):List (Addr×Obj):=a.filterMap λb=>(h.get? b).map λo=>(b,o)
def xr {a:List Addr} {h:Heap} {b:Addr} {o:Obj} (c:b∈a) (e:h.get? b=some o):(b,o)∈ZG a h:=An.mpr ⟨b,c,by rw [e];rfl⟩
def KG {a:List Addr} {h:Heap} {p:Addr×Obj} (c:p∈ZG a h):p.1∈a/\h.get? p.1=some p.2:=by
 obtain ⟨b,d,e⟩:=An.mp c
 cases q:h.get? b with
 |none=>rw [q] at e;cases e
 |some o=>
  rw [q] at e;have g:=fQ e;subst g;exact ⟨d,q⟩
def aq.pinned {a:List (Addr×Obj)} {g:St} {H:Hp} {s:aB} {c:List Addr} (I:aq X a g H s) (j: ∀b∈c,eT X a H b) (k: ∀b∈c,∃o,s.heap.get? b=some o/\ ∀v,o.data≠ .cell v):aq X (a++ZG c s.heap) g H s:=
 I.iJ λp l=>(eG.mp l).elim (λz=>I.pin p (hQ _ z)) λz=>by
  obtain ⟨h,e⟩:=KG z;obtain ⟨m,n,q,_⟩:=j p.1 h;obtain ⟨o,i,d⟩:=k p.1 h;rw [e] at i;cases i;exact ⟨e,m,n,q,d⟩
def aq.dR {a pl:List (Addr×Obj)} {c:St} {H:Hp} {s:aB} (I:aq X (a++pl) c H s):aq X a c H s:=I.iJ λp d=>I.pin p (hQ _ (o7 _ d))
def kP {iter:Expr} {B:List Stmt} {wi:TI} {g:TG} {tb:TS} {pos:Pos} (O:PassesOwn (model X.prog X.w) X.A X.env X.xe) (hc:X.bG=true) (hi:PI X y iter wi) (hg:PG X y g) (k:cb X B tb)
   (hs: ∀x,m9 iter X.env x=pure x:=by intro _;rfl):PS X (.For y iter B [] pos) (Bz wi g tb):=by
 intro a s σ H D I h;refine wpAny_For (bn (hi a s σ H _ I h) λv s1 h1=>bn h1 λGe s2 h2=>?_) hs;obtain ⟨it,Q,tn,J,H2,e,I2,T,sQ,f2,W,⟨m0,w0⟩,U⟩:=h2;subst e;have l: ∀ {z:Hp},(∀b∈Q,z b=none)-> ∀b∈Q,eT X a z b:=λhn b k=>⟨hn b k,(f2 b k).2⟩
 refine codeAny_forLoop_any (λn s'=> ∃i p z,aq X a p z s'/\tn i s'.heap/\(∀b∈Q,z b=none)/\W i n p z) ?_ m0 ⟨0,σ,H2,I2,sQ,λb k=>(f2 b k).1,w0⟩;rintro n s3 ⟨i,q,H3,I3,Y,Z,w3⟩;rcases U i n q H3 w3 with ⟨stop,qn⟩| ⟨go,N,hN,step⟩
 . refine sR O (bn (T.done X rfl rfl rfl hc i a s3 q H3 X.xe I3 (l Z) Y stop) λr s4 j=>?_);obtain ⟨hr,I4⟩:=j;subst hr;exact Aj ⟨q,H3,I4,qn⟩
 . refine sR O (bn (T.item X rfl rfl rfl hc i a s3 q H3 X.xe I3 (l Z) Y go) λr s4 j=>?_);obtain ⟨u,hr,h4⟩:=j;subst hr;refine sR O (bn h4 λ_ s5 j=>?_);obtain ⟨x,H5,I5,r5,y5,L,BA⟩:=j;refine sR O (bn (hg _ s5 q H5 x u _ (I5.pinned (l BA) (T.obj _ _ L)) r5 (step x H5 y5)) λ_ s6 j=>?_);obtain ⟨ph,H6,I6,q6⟩:=j;refine sR O (bn (k _ s6 ph H6 _ I6 q6) λf s7 E=>?_)
   have again: ∀ {c:St} {t:Hp},aq X (a++ZG Q s5.heap) c t s7->N c t-> ∃m,m<n/\ ∃i p z,aq X a p z s7/\tn i s7.heap/\(∀b∈Q,z b=none)/\W i m p z:=λ{c t} w n7=>by
    obtain ⟨m',hm,w7⟩:=hN c t n7;refine ⟨m',hm,i+1,c,t,w.dR,T.keep _ _ _ L λb k o e=>(w.pin (b,o) (hQ _ (hQ _ (xr k e)))).1,λb k=>?_,w7⟩;obtain ⟨o,e,d⟩:=T.obj _ _ L b k;exact (w.pin (b,o) (hQ _ (hQ _ (xr k e)))).2.1
   cases f with
   |next=>obtain ⟨c,t,w,n7⟩:=E;exact again w n7
   |cont=>obtain ⟨c,t,w,n7⟩:=E;exact again w n7
   |brk=>obtain ⟨c,t,w,E⟩:=E;exact ⟨c,t,w.dR,E⟩
   |ret v=>obtain ⟨x7,c,t,w,r7,E⟩:=E;exact ⟨x7,c,t,w.dR,r7,E⟩
end
abbrev R2:=V->V->Hp->VK->Prop
def b7 (X:Cx) (f:Value->Value->Sem Value) (r:R2):Prop:=
 ∀(a:List (Addr×Obj)) (s:aB) (c:St) (H:Hp) (x y:V) (v u:Value) (Q:VK),aq X a c H s->aG x v->aG y u->r x y H Q->
  wpAny (model X.prog X.w) X.A (f v u) (EP X a c Q) X.xe s
def BB (X:Cx) (f:Value->Sem Value) (r:V->Hp->VK->Prop):Prop:=
 ∀(a:List (Addr×Obj)) (s:aB) (c:St) (H:Hp) (x:V) (v:Value) (Q:VK),aq X a c H s->aG x v->r x H Q->
  wpAny (model X.prog X.w) X.A (f v) (EP X a c Q) X.xe s
def bf (X:Cx) (f:Value) (r:List V->Hp->VK->Prop):Prop:=
 ∀(a:List (Addr×Obj)) (s:aB) (c:St) (H:Hp) (d:List V) (e:List Value) (Q:VK),aq X a c H s->aE d e->r d H Q->
  wpAny (model X.prog X.w) X.A (call f e) (EP X a c Q) X.xe s
def BC (X:Cx) (r:V->Hp->(Bool->Hp->Prop)->Prop):Prop:=
 ∀(a:List (Addr×Obj)) (s:aB) (c:St) (H:Hp) (x:V) (v:Value) (Q:Bool->Hp->Prop),aq X a c H s->aG x v->r x H Q->
  wpAny (model X.prog X.w) X.A (truthy v) (TP X a c Q) X.xe s
def rK (r:R2) (c d:TE):TE:=λa H Q=>c a H λx e=>d a e λy g=>r x y g Q
def Gf (r:V->Hp->VK->Prop) (a:TE):TE:=λc H Q=>a c H λx d=>r x d Q
def rI (C:Int->Int->Prop) (g:Int->Int->V):R2:=λx y H Q=> ∃i j,x= .int i/\y= .int j/\C i j/\Q (g i j) H
def gZ (g:Int->Int->V):R2:=λx y H Q=> ∃i j,x= .int i/\y= .int j/\Q (g i j) H
def rU (g:Int->V):V->Hp->VK->Prop:=λx H Q=> ∃i,x= .int i/\Q (g i) H
section
variable {X:Cx} {a b c:Expr} {Z Y U:TE} {pos:Pos}
def pi (n:PE X a Z) (o:PE X b Y) {d:List (Addr×Obj)} {s:aB} {g:St} {H:Hp} {R:V->V->Hp->Prop} (I:aq X d g H s)
  (h:Z g H λx m=>Y g m λy i=>R x y i) {Q:Ws} {f:Value->Value->Sem Value}
  (p: ∀v u l x y i,aq X d g i l->aG x v->aG y u->R x y i->wpAny (model X.prog X.w) X.A (f v u) Q X.xe l):
  wpAny (model X.prog X.w) X.A (eval a X.env) (λv j=>wpAny (model X.prog X.w) X.A (eval b X.env) (λu k=>wpAny (model X.prog X.w) X.A (f v u) Q X.xe k) X.xe j) X.xe s:=by
 refine bn (n d s g H _ I h) λv q e=>?_;obtain ⟨x,m,r,t,w⟩:=e
 refine bn (o d q g m _ r w) λu l e=>?_;obtain ⟨y,i,z,B,E⟩:=e
 exact p v u l x y i z t B E
def D9 {e:Operator} {r:R2} (g:b7 X (eU e) r) (i:PE X a Z) (j:PE X b Y):PE X (.BinOp a e b pos) (rK r Z Y):=by
 intro d s k H Q I h;exact wpAny_BinOp (pi i j I h λv u l x y m n o p q=>g d l k m x y v u Q n o p q)
def Gg {e:UnaryOp} {r:V->Hp->VK->Prop} (i:BB X (unaryOp e) r) (j:PE X a Z):PE X (.UnaryOp e a pos) (Gf r Z):=by
 intro d s g H Q I h;exact UnaryOp_ (bn (j d s g H _ I h) λv k ⟨x,l,m,n,o⟩=>i d k g l x v Q m n o)
def nc {f:Value->Value->Sem Value} {C:Int->Int->Prop} {g:Int->Int->Int}
  (rule: ∀(i j:Int) (t u:Tok) (s:aB) (Q:Ws) (E:Ws),C i j->Q (.int (g i j) s.toks) {s with toks:=s.toks+1}->wpAny (model X.prog X.w) X.A (f (.int i t) (.int j u)) Q E s):
  b7 X f (rI C λi j=> .int (g i j)):=by
 intro d s n H x y v u Q I e k h;obtain ⟨i,j,rfl,rfl,l,q⟩:=h;obtain ⟨t,rfl⟩:=e;obtain ⟨m,rfl⟩:=k;exact rule i j t m s _ _ l ⟨.int (g i j),H,I.tok _,⟨_,rfl⟩,q⟩
def sS {f:Value->Value->Sem Value} {g:Int->Int->Int}
  (rule: ∀(i j:Int) (t u:Tok) (s:aB) (Q:Ws) (E:Ws),Q (.int (g i j) s.toks) {s with toks:=s.toks+1}->wpAny (model X.prog X.w) X.A (f (.int i t) (.int j u)) Q E s):
  b7 X f (gZ λi j=> .int (g i j)):=by
 intro d s m H x y v u Q I e k h;obtain ⟨i,j,rfl,rfl,q⟩:=h;obtain ⟨t,rfl⟩:=e;obtain ⟨l,rfl⟩:=k;exact rule i j t l s _ _ ⟨.int (g i j),H,I.tok _,⟨_,rfl⟩,q⟩
def pj {f:Value->Value->Sem Value} {g:Int->Int->Bool}
  (rule: ∀(i j:Int) (t u:Tok) (s:aB) (Q:Ws) (E:Ws),Q (.bool (g i j)) s->wpAny (model X.prog X.w) X.A (f (.int i t) (.int j u)) Q E s):
  b7 X f (gZ λi j=> .bl (g i j)):=by
 intro d s m H x y v u Q I e k h;obtain ⟨i,j,rfl,rfl,q⟩:=h;obtain ⟨t,rfl⟩:=e;obtain ⟨l,rfl⟩:=k;exact rule i j t l s _ _ ⟨.bl (g i j),H,I,rfl,q⟩
def nJ (i j:Int):Prop:=0<j/\j<1073741824
def sT (i j:Int):Prop:=0<=j/\j<=1000000/\i.natAbs<2^64
def pk:b7 X (eU .Add) (gZ λi j=> .int (i+j)):=sS λ_ _ _ _ _ _ _ q=>add_int q
def Gh:b7 X (eU .Sub) (gZ λi j=> .int (i-j)):=sS λ_ _ _ _ _ _ _ q=>sub_int q
def j6:b7 X (eU .FloorDiv) (rI nJ λi j=> .int (i/j)):=nc λi j _ _ _ _ _ d q=>by
 have e:=d.1;have g:=d.2;exact floordiv_int (by omega) (by rw [Int.fdiv_eq_ediv_of_nonneg i (by omega)];exact q) (.inl (PyProof.noPylong_small (by omega)))
def qN:b7 X (eU .Mod) (rI (λ_ j=>0<j) λi j=> .int (i%j)):=nc λi j _ _ _ _ _ d q=>by
 exact mod_int' (by omega) (by rw [Int.fmod_eq_emod_of_nonneg i (by omega)];exact q)
def KC:b7 X (eU .Pow) (rI sT λi j=> .int (i^j.toNat)):=nc λ_ _ _ _ _ _ _ d q=>pow_int_small d.1 d.2.1 d.2.2 q
def Gi {f:Value->Sem Value} {g:Int->Int}
  (rule: ∀(i:Int) (t:Tok) (s:aB) (Q:Ws) (E:Ws),Q (.int (g i) s.toks) {s with toks:=s.toks+1}->wpAny (model X.prog X.w) X.A (f (.int i t)) Q E s):
  BB X f (rU λi=> .int (g i)):=by
 intro d s j H x v Q I e h;obtain ⟨i,rfl,q⟩:=h;obtain ⟨t,rfl⟩:=e;exact rule i t s _ _ ⟨.int (g i),H,I.tok _,⟨_,rfl⟩,q⟩
def Gj:BB X (unaryOp .USub) (rU λi=> .int (-i)):=Gi λ_ _ _ _ _ q=>neg_int q
def Gk {d:List (Addr×Obj)} {g:St} {H:Hp} {s:aB} {Q:VK} {k h:Bool} (I:aq X d g H s) (q:Q (.bl k) H) (e:k=h):EP X d g Q (.bool h) s:=by
 subst e;exact ⟨.bl k,H,I,rfl,q⟩
def Ea:b7 X (f7 .Lt) (gZ λi j=> .bl (decide (i<j))):=pj λ_ _ _ _ _ _ _ q=>lt_int q
def J0:b7 X (f7 .LtE) (gZ λi j=> .bl (decide (i<=j))):=pj λ_ _ _ _ _ _ _ q=>le_int q
def KF:b7 X (f7 .Gt) (gZ λi j=> .bl (decide (j<i))):=pj λ_ _ _ _ _ _ _ q=>gt_int q
def KD:b7 X (f7 .In) (λx y H Q=> ∃i j,x= .str i/\y= .str j/\Q (.bl (!(BD j i 0 j.length 1).isEmpty)) H):=by
 intro d s k H x y v u Q I e g h;obtain ⟨i,j,rfl,rfl,q⟩:=h;obtain ⟨t,rfl⟩:=e;obtain ⟨l,rfl⟩:=g;exact in_str (Gk I q rfl)
def b7.or {f:Value->Value->Sem Value} {r e:R2} (h:b7 X f r) (k:b7 X f e):b7 X f (λx y H Q=>r x y H Q\/e x y H Q):=by
 intro d s g H x y v u Q I i j q;rcases q with q|q
 . exact h d s g H x y v u Q I i j q
 . exact k d s g H x y v u Q I i j q
def kW (b:Expr) {d:CmpOp} (h:d≠ .In:=by decide) (e:d≠ .NotIn:=by decide):rL d b=false:=by
 have e1:(d==CmpOp.In)=false:=by cases d<;>first|rfl|exact absurd rfl h
 have e2:(d==CmpOp.NotIn)=false:=by cases d<;>first|rfl|exact absurd rfl e
 cases b<;>simp [rL,e1,e2]
def uc {e:CmpOp} {r:R2} (g:b7 X (f7 e) r) (i:PE X a Z) (j:PE X b Y) (k:rL e b=false):PE X (.Compare a [e] [b] pos) (rK r Z Y):=by
 intro d s l H Q I h;exact wpAny_Compare1 (pi i j I h λv u m x y n o p t q=>g d m l n x y v u Q o p t q) k
def vD (t:TE):TT:=λd H Q=>t d H λx e=> ∃k,x= .bl k/\Q k e
def vT {g:CmpOp} {r:R2} (j:b7 X (f7 g) r) (l:PE X a Z) (m:PE X b Y) (n:rL g b=false):PT X (.Compare a [g] [b] pos) (vD (rK r Z Y)):=by
 intro d s i H Q I h
 refine wpAny_isTrue_Compare1 (bn (l d s i H _ I h) λv o ⟨x,p,q,t,w⟩=>bn (m d o i p _ q w) λu B ⟨y,E,J,L,N⟩=>
  bn (j d B i E x y v u _ J t L N) λc s3 ⟨z,O,I3,r3,k,e,q3⟩=>?_) n
 subst e;cases r3;exact m7 ⟨O,I3,q3⟩
def Ka (r g:R2) (Z Y U:TE):TE:=λd H Q=>Z d H λx h=>Y d h λy i=>r x y i λz e=> ∃k,z= .bl k/\
 (if k=true then U d e λj l=>g y j l Q else Q (.bl false) e)
def Uv {l i:CmpOp} {r n:R2} (w:b7 X (f7 l) r) (m:b7 X (f7 i) n) (B:PE X a Z) (E:PE X b Y) (J:PE X c U)
  (L:lastMarks [l,i] [b,c]=false:=by with_unfolding_all rfl):PE X (.Compare a [l,i] [b,c] pos) (Ka r n Z Y U):=by
 intro g s j H Q I h
 refine Compare_chain (bn (B g s j H _ I h) λv N ⟨x,O,I1,r1,q1⟩=>chain_link (bn (E g N j O _ I1 q1) λu s2 ⟨y,H2,I2,o,q2⟩=>
  bn (w g s2 j H2 x y v u _ I2 r1 o q2) λd s3 ⟨z,p,q,r3,k,e,t⟩=>?_)) L
 subst e;cases r3;refine m7 ?_
 cases k with
 |false=>exact ite_ff ⟨.bl false,p,q,rfl,t⟩
 |true=>exact ite_tt (chain_last (bn (J g s3 j p _ q t) λw' s4 ⟨z',H4,I4,r4,q4⟩=>m g s4 j H4 y z' u w' Q I4 o r4 q4))
def Up {l i:CmpOp} {r o:R2} (B:b7 X (f7 l) r) (m:b7 X (f7 i) o) (E:PE X a Z) (J:PE X b Y) (L:PE X c U)
  (N:lastMarks [l,i] [b,c]=false:=by with_unfolding_all rfl):PT X (.Compare a [l,i] [b,c] pos) (vD (Ka r o Z Y U)):=by
 intro g s j H Q I h
 refine isTrue_chain (bn (E g s j H _ I h) λv O ⟨x,H1,I1,r1,q1⟩=>test_link (bn (J g O j H1 _ I1 q1) λu s2 ⟨y,H2,I2,p,q2⟩=>
  bn (B g s2 j H2 x y v u _ I2 r1 p q2) λd s3 ⟨z,q,t,r3,k,e,w⟩=>?_)) N
 subst e;cases r3;refine m7 ?_
 cases k with
 |false=>
  obtain ⟨k',e',q'⟩:=w;cases e';exact ite_ff ⟨q,t,q'⟩
 |true=>
  refine ite_tt (test_last (bn (L g s3 j q _ t w) λw' s4 ⟨z',H4,I4,r4,q4⟩=>bn (m g s4 j H4 y z' u w' _ I4 p r4 q4) λd' s5 n=>?_));obtain ⟨z2,H5,I5,r5,k2,e2,q5⟩:=n;subst e2;cases r5;exact m7 ⟨H5,I5,q5⟩
def pq (K:ay) (x:V) (H:Hp) (k:Bool):Prop:=
 match x with
 | .aO=>k=false
 | .bl b=>k=b
 | .int i=>k=(i !=0)
 | .str y=>y.length<=aR/\k=((y.length:Int) !=0)
 | .rF y=>y.size<=aR/\k=((y.size:Int) !=0)
 | .ref p=>(∃d,dg K H p d/\k=!d.isEmpty)\/(∃d,eI K H p d/\k=!d.isEmpty)\/ ∃e,H p=some (.dK e)/\k=!e.isEmpty
 |_=>False
def YI {e:Type} {d:List (e×V)} {g:List (e×Value)} (r:KV d g):(!g.isEmpty)=!d.isEmpty:=by
 cases r<;>rfl
def Qp {e:List V} {d:List Value} (r:aE e d):(!d.toArray.isEmpty)=!e.isEmpty:=by
 cases r<;>simp
def Qj:(aR:Nat)<2^63:=by rw [nK];decide
def Go:BC X (λx H Q=> ∃k,pq X.K x H k/\Q k H):=by
 intro z s N H x v Q I j h;obtain ⟨k,e,q⟩:=h;have O:=nK
 cases x with
 |aO=>
  cases j;have d:=e;subst d;exact truthy_none ⟨H,I,q⟩
 |bl b=>
  cases j;have d:=e;subst d;exact m7 ⟨H,I,q⟩
 |int i=>
  obtain ⟨t,rfl⟩:=j;have d:=e;subst d;exact PySem.P.truthy_int ⟨H,I,q⟩
 |str y=>
  obtain ⟨t,rfl⟩:=j;obtain ⟨E,d⟩:y.length<=aR/\k=((y.length:Int) !=0):=e;subst d;exact PySem.P.truthy_str (by omega) ⟨H,I.tok _,q⟩
 |rF y=>
  obtain ⟨t,rfl⟩:=j;obtain ⟨E,d⟩:y.size<=aR/\k=((y.size:Int) !=0):=e;subst d;exact PySem.W.truthy_bytes (by omega) ⟨H,I.tok _,q⟩
 |ref p=>
  cases j;have d:=e;rcases d with ⟨J,l,d⟩| ⟨J,l,d⟩| ⟨n,l,d⟩
  . subst d;obtain ⟨o,r,u,B⟩:=I.list l;have g:=r.length;exact wpAny_truthy_list u.isList (by simp only [cA];omega) ⟨H,I.tok _,by rw [Qp r];exact q⟩
  . subst d;obtain ⟨o,r,u,B⟩:=I.tuple l;have g:=r.length;exact truthy_tuple u (by simp only [cA];omega) ⟨H,I.tok _,by rw [Qp r];exact q⟩
  . subst d;obtain ⟨B,L,w,r,m⟩:n.length<=aR/\(p==m4)=false/\ ∃w,KV n w/\s.heap.DictOf (jV X.prog X.w) p w:=I.aP p _ l;have g:=Af r;exact wpAny_truthy_dict L m (by omega) ⟨H,I.tok _,by rw [YI r];exact q⟩
 |_=>exact (e).elim
def Uo (i:PE X a Z) (j: ∀whole,isTrue a X.env whole=(do let v<-whole;nI a.pos;iW [v] (truthy v))):
  PT X a (λe H Q=>Z e H λx g=> ∃k,pq X.K x g k/\Q k g):=by
 intro d s e H Q I h;exact isTrue_plain (bn (i d s e H _ I h) λv l ⟨x,m,n,o,p⟩=>Go d l e m x v Q n o p) (j _)
def hU:b7 X (eU .Add) (λx y H Q=> ∃i j,x= .str i/\y= .str j/\i.length+j.length<=aR/\Q (.str (i++j)) H):=by
 intro d s m H x y v u Q I e g h;obtain ⟨i,j,rfl,rfl,k,q⟩:=h;obtain ⟨t,rfl⟩:=e;obtain ⟨l,rfl⟩:=g;exact add_str (λl n=>⟨.str (i++j),H,I.tok _,⟨_,rfl⟩,q⟩) k
def QC {x:V} {d:List Value} (r:aE [x] d): ∃u,d=[u]/\aG x u:=by
 cases r with
 |cons e g=>cases g;exact ⟨_,rfl,e⟩
def Y3 {x y:V} {d:List Value} (r:aE [x,y] d): ∃u e,d=[u,e]/\aG x u/\aG y e:=by
 cases r with
 |cons g h=>
  cases h with
  |cons i j=>cases j;exact ⟨_,_,rfl,g,i⟩
def zH:bf X (.builtin "divmod") (λd H Q=> ∃i j,d=[.int i,.int j]/\nJ i j/\ ∀p,H p=none->Q (.ref p) (aJ H p (.ah [.int (i/j),.int (i%j)]))):=by
 intro g s k H d l Q I r h;obtain ⟨i,j,rfl,⟨m,n⟩,q⟩:=h;obtain ⟨u,v,rfl,⟨t,rfl⟩,⟨w,rfl⟩⟩:=Y3 r;refine divmod_int (by omega) ?_ (.inl (PyProof.noPylong_small (by omega)));rw [Int.fdiv_eq_ediv_of_nonneg i (by omega),Int.fmod_eq_emod_of_nonneg i (by omega)];refine ⟨.ref s.heap.objs.size,_,?_,rfl,q _ (I.aP.fresh (a9 _))⟩;refine I.laid (λb o e=>cu _ e) (a9 _) ⟨by simp only [fP,List.length_nil];rw [nK];decide,[.int (i/j) s.toks,.int (i%j) (s.toks+1)],.cons ⟨_,rfl⟩ (.cons ⟨_,rfl⟩ .nil),?_⟩;exact ⟨_,ej s.heap rfl,rfl,0,rfl⟩
end
structure hX (h:Heap) (x dx C:Addr) (mA:Xd):Prop where
 obj:h.get? x=some (oC C dx)
 ns:h.Ns1 dx mA
 ne:dx≠x
def K1 {h:Heap} {dx:Addr} {d:Xd} (n:h.Ns1 dx d): ∃g,h.get? dx=some g/\ ∀name,Ao name g=some (d name):=by
 obtain ⟨o,i,r,j,hd,k,_,l⟩:=n;refine ⟨o,j,λname=>?_⟩;have e:=l name;unfold nsFind findBy at e;rw [<-Array.find?_toList] at e;unfold Ao;rw [hd];dsimp only
 split
 . rename_i y q;rw [q] at e;exact congrArg some e
 . rename_i q;rw [q] at e
   have a:i.toList.any (·.refKey)=false:=by
    rw [Ap];intro y m;obtain ⟨z,t,c⟩:=k y (Aq.mp m);simp [DictEntry.refKey,c]
   have p: ¬i.toList.any (·.refKey)=true:=by rw [a];exact lD
   rw [if_neg p];exact congrArg some e
def hX.look {h:Heap} {x dx C:Addr} {c:Xd} (I:hX h x dx C c): ∃a,PySem.W.InstAt h x (oC C dx) C (some a)/\ ∀name,Ao name a=some (c name):=
 let ⟨a,d,e⟩:=K1 I.ns
 ⟨a,⟨I.obj,rfl,rfl,d⟩,e⟩
section
variable {prog:bI} {w:World} {A:bV} {E:Ws} {s:aB} {K:ay} {x dx C f:Addr} {mA:Xd} {name:Str} {v:Value}
def uI {a:Bool} {Q:Ws} (X:K.In s.heap) (I:hX s.heap x dx C mA) (d:sU K C name=true) (e:Ar K C=true)
  (g:iZ K (.ref C) name=some none) (i:mA name=some v) (c:PySem.W.handedIn v=true) (h:Q v {s with toks:=s.toks+1}):
  wpAny (model prog w) A (getAttr (.ref x) name a) Q E s:=by
 obtain ⟨k,J,j⟩:=I.look;exact PySem.W.get_value X J (BE d).1 (PySem.W.findObj_own e g rfl (by rw [j,i])) c h
def UY {c:Sem Bool} {Q:Value×List Value->aB->Prop} (X:K.In s.heap) (I:hX s.heap x dx C mA) (a:sU K C name=true)
  (d:iZ K (.ref C) name=some (some (.ref f))) (e:As K (.ref f)=true) (g:mA name=none) (h:Q (.ref f,[.ref x]) s):
  wpAny (model prog w) A (getMethod (.ref x) name c) Q E s:=by
 obtain ⟨i,J,j⟩:=I.look;exact PySem.W.method_fn X J (BE a).1 (BE a).2 d (beq_iff_eq.mp e) (by show (Ao name i).map (·.isSome)=some false;rw [j,g];rfl) h
def vH {j:List Str} {Q:Unit->aB->Prop} (X:K.In s.heap) (I:hX s.heap x dx C mA)
  (k:iZ K (.ref C) "__setattr__" =some (some (.builtin "object.__setattr__"))) (l:BF K C=true) (m:BG K C name=some none) (n:Ar K C=true)
  (hw:PySem.Within mA j) (o:j.length<=aR)
  (h: ∀d,hX d x dx C (λy=>if y=name then some v else mA y)->nH dx s.heap d->Q () {s with heap:=d,toks:=s.toks+2}):
  wpAny (model prog w) A (setAttr (.ref x) name v) Q E s:=by
 obtain ⟨t,J,u⟩:=I.look;refine PySem.W.set_plain X J k (PySem.W.osa_open X J l m λb=>?_);obtain ⟨z,p,e⟩:=PySem.W.any_some n;refine ax (aM (ax (ax (wpAny_loadPart (I.obj) (ax (PySem.W.Looks.here (PySem.W.looks_clsIn X p) ?_))))));rw [e];refine aM (ax (aM (ax ?_)));refine wpAny_nsSet1 I.ns λd a c=>?_
 obtain ⟨B,q,r,g,Eb,i⟩:=a.count (PySem.Within.cons name v hw);refine ax (wpAny_lookBehind g (by rw [Eb];exact pastItsLine_dict (dE i (by rw [fP];omega))) ?_);exact aM (h _ ⟨(c.2 _ (m6 I.ne)).trans I.obj,a,I.ne⟩ c)
def UN {R:Result->aB->Prop} {a:List Value} {c:List (Str×Value)} (X:K.In s.heap) (e:sV K C=true)
  (i:iZ K (.ref C) "__init__" =some (some (.ref f))) (j:PySem.W.typeIn K (.ref f)=some (.type "function"))
  (h:lV (model prog w) (A.under (.builtin "type.__call__" ⟨.ref C::a,c⟩)) (.call (.ref f) ⟨.ref (s.heap.objs.size+1)::a,c⟩) (PySem.W.InitBack (s.heap.objs.size+1) R)
   {s with heap:=(s.heap.push oG).push (oC C s.heap.objs.size)}):
  lV (model prog w) A (.call (.ref C) ⟨a,c⟩) R s:=by
 obtain ⟨k,g,d,t,os⟩:=s;exact PySem.W.make_core (PySem.W.makes_of X e) (PySem.W.looks_findIn X i) (λself=>PySem.W.bind_fn X self j) (.inl rfl) h
end
def cw (f:Str) (v:V):List (Str×V)->List (Str×V)
 | []=>[(f,v)]
 | (g,x)::r=>if g=f then (g,v)::r else (g,x)::cw f v r
theorem Ju (f g:Str) (v:V): ∀fs:List (Str×V),(cw f v fs).lookup g=if g=f then some v else fs.lookup g
 | []=>by
  show hZ g [(f,v)]=_
  by_cases h:g=f
  . have a:=beq_iff_eq.mpr h;simp only [hZ,a,if_pos h]
  . have a:=beq_eq_false_iff_ne.mpr h;simp only [hZ,a,if_neg h]
 | (k,x)::r=>by
  rw [show cw f v ((k,x)::r)=(if k=f then (k,v)::r else (k,x)::cw f v r) from rfl]
  by_cases c:k=f
  . rw [if_pos c]
    by_cases h:g=k
    . have a:=beq_iff_eq.mpr h;simp only [hZ,a,if_pos (h.trans c)]
    . have a:=beq_eq_false_iff_ne.mpr h;simp only [hZ,a,if_neg (λe:g=f=>h (e.trans c.symm))]
  . rw [if_neg c]
    by_cases h:g=k
    . have a:=beq_iff_eq.mpr h;simp only [hZ,a,if_neg (λe:g=f=>c (h.symm.trans e))]
    . have a:=beq_eq_false_iff_ne.mpr h;simp only [hZ,a];exact (Ju f g v r)
theorem Jw (f:Str) (v:V): ∀fs:List (Str×V),f∈(cw f v fs).map (·.1)/\ ∀g,g∈fs.map (·.1)->g∈(cw f v fs).map (·.1)
 | []=>⟨by simp [cw],λg h=>by simp at h⟩
 | (k,x)::r=>by
  obtain ⟨c,d⟩:=Jw f v r;rw [show cw f v ((k,x)::r)=(if k=f then (k,v)::r else (k,x)::cw f v r) from rfl]
  by_cases a:k=f
  . rw [if_pos a];subst a;exact ⟨by simp,λg h=>by simpa using h⟩
  . rw [if_neg a];refine ⟨?_,λg h=>?_⟩
    . rw [fy];exact dC _ c
    . rw [fy] at h ⊢;rcases dP.mp h with e|e
      . exact dP.mpr (.inl e)
      . exact dC _ (d g e)
theorem Jv (f:Str) (v:V): ∀fs:List (Str×V),(cw f v fs).length<=fs.length+1
 | []=>by simp [cw]
 | (k,x)::r=>by
  have c:=Jv f v r;rw [show cw f v ((k,x)::r)=(if k=f then (k,v)::r else (k,x)::cw f v r) from rfl]
  by_cases a:k=f
  . rw [if_pos a,fP,fP];omega
  . rw [if_neg a,fP,fP];omega
def dq.some_of {v:V} {o:Option Value} (r:dq (some v) o): ∃u,o=some u/\aG v u:=by
 cases o with
 |none=>exact (r).elim
 |some u=>exact ⟨u,rfl,r⟩
def dq.none_of {o:Option Value} (r:dq none o):o=none:=by
 cases o with
 |none=>rfl
 |some u=>exact (r).elim
def Vk {v:V} {u:Value} (r:aG v u):PySem.W.handedIn u=true:=by
 cases v with
 |aO=>cases (r);rfl
 |bl b=>cases (r);rfl
 |int i=>obtain ⟨t,e⟩:=(r);cases e;rfl
 |str x=>obtain ⟨t,e⟩:=(r);cases e;rfl
 |rF b=>obtain ⟨t,e⟩:=(r);cases e;rfl
 |o4 b=>obtain ⟨t,e⟩:=(r);cases e;rfl
 |ref a=>cases (r);rfl
 |ty n=>cases (r);rfl
section
variable {P:bI} {w:World} {H H':Hp} {h h':Heap} {a C dx:Addr} {fs FM:List (Str×V)}
def Zb (g:cM P w H h) (e:H a=some (.ins C dx fs)): ∃c,hX h a dx C c/\(∀f,dq (fs.lookup f) (c f))/\PySem.Within c (fs.map (·.1))/\fs.length<=1000/\H dx=some (.av a):=by
 obtain ⟨d,z,i,ob,c,n,r,q⟩:=(g a _ e)
 exact ⟨c,⟨ob,n,i⟩,r,q,z,d⟩
end
structure gK (K:ay) (C:Addr):Prop where
 pg:sU K C Str.empty=true
 hd:Ar K C=true
 po:BF K C=true
 sa:iZ K (.ref C) "__setattr__" =some (some (.builtin "object.__setattr__"))
def gK.get {K:ay} {C:Addr} (c:gK K C) (f:Str):sU K C f=true:=c.pg
def c4 (K:ay) (C:Addr) (f:Str):Prop:=iZ K (.ref C) f=some none
def c4.sW {K:ay} {C:Addr} {f:Str} (n:c4 K C f):BG K C f=some none:=by
 unfold BG;rw [show iZ K (.ref C) f=some none from n];rfl
structure Meth (K:ay) (C:Addr) (m:Str) (f:Addr):Prop where
 at_:iZ K (.ref C) m=some (some (.ref f))
 fn:As K (.ref f)=true
 kp:h8 K (.ref f)=true
section
variable {X:Cx} {pins:List (Addr×Obj)} {σ:St} {H:Hp} {s:aB} {a C dx:Addr} {fs:List (Str×V)} {f:Str} {v:V} {A:bV} {E:Ws}
def YO {b:Bool} {Q:Ws} (I:aq X pins σ H s) (e:H a=some (.ins C dx fs)) (c:gK X.K C) (n:c4 X.K C f) (l:fs.lookup f=some v)
  (h: ∀u d,aq X pins σ H d->aG v u->Q u d):wpAny (model X.prog X.w) A (getAttr (.ref a) f b) Q E s:=by
 obtain ⟨j,O,r,_,_,_⟩:=Zb I.aP e;obtain ⟨u,i,g⟩:=dq.some_of (by rw [<-l];exact r f);exact uI I.dD O (c.get f) c.hd n i (Vk g) (h u _ (I.tok _) g)
def YN {m:Str} {g:Addr} {d:Sem Bool} {Q:Value×List Value->aB->Prop} (I:aq X pins σ H s) (e:H a=some (.ins C dx fs)) (c:gK X.K C) (k:Meth X.K C m g) (l:fs.lookup m=none)
  (h:Q (.ref g,[.ref a]) s):wpAny (model X.prog X.w) A (getMethod (.ref a) m d) Q E s:=by
 obtain ⟨i,O,r,_,_,_⟩:=Zb I.aP e;exact UY I.dD O (c.get m) k.at_ k.fn (dq.none_of (by rw [<-l];exact r m)) h
def Yh {y:V} {u:Value} {Q:Unit->aB->Prop} (I:aq X pins σ H s) (e:H a=some (.ins C dx fs)) (c:gK X.K C) (n:c4 X.K C f) (N:fs.length<1000) (m:aG y u)
   (h: ∀i,aq X pins σ (aJ H a (.ins C dx (cw f y fs))) i->Q () i):wpAny (model X.prog X.w) A (setAttr (.ref a) f u) Q E s:=by
 obtain ⟨j,O,r,k,_,l⟩:=Zb I.aP e;have p:(fs.map (·.1)).length<=aR:=by rw [bB,nK];omega
 refine vH I.dD O c.sa c.po n.sW c.hd k p λt d w=>h _ ?_
 have hd: ∃o,t.get? dx=some o:=let ⟨o,_,_,B,_⟩:=d.ns;⟨o,B⟩
 refine I.write (by rw [e];exact nL) (.inr l) (λb q J z=>(w.2 b J).trans z) hd ?_;refine ⟨by rw [jF O.ne];exact l,?_,O.ne,d.obj,_,d.ns,λg=>?_,λg L=>?_⟩
 . have:=Jv f y fs;omega
 . show dq ((cw f y fs).lookup g) (if g=f then some u else j g);rw [Ju]
   by_cases q:g=f
   . rw [if_pos q,if_pos q];exact m
   . rw [if_neg q,if_neg q];exact r g
 . by_cases q:g=f
   . rw [q];exact (Jw f y fs).1
   . refine (Jw f y fs).2 g (k g λz=>L ?_);show (if g=f then some u else j g)=none;rw [if_neg q];exact z
def aq.made (I:aq X pins σ H s):aq X pins σ (aJ (aJ H s.heap.objs.size (.av (s.heap.objs.size+1))) (s.heap.objs.size+1) (.ins C s.heap.objs.size []))
  {s with heap:=(s.heap.push oG).push (oC C s.heap.objs.size)}:=by
 have e1:(s.heap.push oG).get? s.heap.objs.size=some oG:=ej s.heap rfl
 have e2:((s.heap.push oG).push (oC C s.heap.objs.size)).get? (s.heap.objs.size+1)=some (oC C s.heap.objs.size):=by
  have:=ej (s.heap.push oG) (o:=oC C s.heap.objs.size) rfl
  rwa [sX] at this
 have c:(s.heap.push oG).Ns s.heap.objs.size (λ_=>none):=⟨oG, #[],_,e1,rfl,(λe d=>absurd d (by simp)),λ_=>rfl⟩
 refine (I.laid (o:= .av (s.heap.objs.size+1)) (t':=s.toks) (λb u q=>cu _ q) (a9 _) ⟨_,e1⟩).laid (λb u q=>cu _ q) (Nat.le_of_eq (sX _ _)) ?_;have ne:s.heap.objs.size≠s.heap.objs.size+1:=dN (Au _);refine ⟨by rw [jF ne,jr],eQ _,ne,e2,λ_=>none,(Heap.Ns1.of_empty c).at λo q=>cu _ q,λ_=>nL,λy g=>absurd rfl g⟩
def Gp {c:bI} {w:World} {d:Env} {e:Expr} {f:Str} {i:Pos} {s:aB} {Q:Ws} (j:ng e f d (eval e d)=eval e d)
  (h:wpAny (model c w) A (eval e d) (λo g=>wpAny (model c w) A (getAttr o f true) Q E g) E s):wpAny (model c w) A (eval (.Attribute e f i) d) Q E s:=
 Attribute_any_ h (by rw [arm_eval_Attribute,j])
end
def BH (K:ay) (d:TE) (f:Str):TE:=λe H Q=>d e H λx c=> ∃a C dx fs v,x= .ref a/\c a=some (.ins C dx fs)/\gK K C/\c4 K C f/\fs.lookup f=some v/\Q v c
def BI (K:ay) (e g:TE) (f:Str):TS:=λD c H=>g c H λy h=>e c h λx d=> ∃a C dx fs,x= .ref a/\d a=some (.ins C dx fs)/\gK K C/\c4 K C f/\fs.length<1000/\
 D.nx c (aJ d a (.ins C dx (cw f y fs)))
section
variable {X:Cx} {o e value:Expr} {f:Str} {pos pos' sY:Pos} {ta tv:TE}
def Gq (i:PE X e ta) (j:ng e f X.env (eval e X.env)=eval e X.env):PE X (.Attribute e f pos) (BH X.K ta f):=by
 intro d s k H Q I h;refine Gp j (bn (i d s k H _ I h) λu B g=>?_);obtain ⟨x,m,p,r,a,C,dx,fs,v,t,w,c,n,l,q⟩:=g;subst t;obtain rfl:u=bP a:=r;exact YO p w c n l λE J y z=>⟨v,m,y,z,q⟩
def Gr (j:PE X o ta) (k:PE X value tv) (m:gw value (some (.Attribute o f pos')) pos.line X.env=pure false):PS X (.Assign [.Attribute o f pos'] value pos) (BI X.K ta tv f):=by
 intro d s g H D I h;refine plainObj_wpAny_Assign_Attribute (bn (k d s g H _ I h) λu p ⟨y,r,t,v,q⟩=>bn (j d p g r _ t q) λw O i=>?_) m;obtain ⟨x,Q,z,B,a,C,dx,fs,E,J,c,n,l,L⟩:=i;subst E;obtain rfl:w=bP a:=B;exact Yh z J c n l v λU N=>⟨g,_,N,L⟩
end
section
variable {X:Cx} {pins:List (Addr×Obj)} {σ:St} {H:Hp} {s:aB} {A:bV} {E:Ws} {Q:Ws} {c:Value} {b:Bool}
inductive ek (K:ay) (H:Hp):V->Value->Prop where
 |aO:ek K H .aO (.type "NoneType")
 |bl (x:Bool):ek K H (.bl x) (.type "bool")
 |int (i:Int):ek K H (.int i) (.type "int")
 |str (x:Str):ek K H (.str x) (.type "str")
 |o4 (x:UInt64):ek K H (.o4 x) (.type "float")
 |ag {a:Addr} {xs:List V} (e:H a=some (.ag xs)):ek K H (.ref a) (.type "list")
 |bd {a:Addr} {o:Obj} {xs:List V} (e:H a=some (.bd o (.ag xs))):ek K H (.ref a) (.type "list")
 |ah {a:Addr} {xs:List V} (e:H a=some (.ah xs)):ek K H (.ref a) (.type "tuple")
 |dK {a:Addr} {kvs:List (aI×V)} (e:H a=some (.dK kvs)):ek K H (.ref a) (.type "dict")
 |dT {a:Addr} {kvs:List (List aI×V)} (e:H a=some (.dT kvs)):ek K H (.ref a) (.type "dict")
 |ins {a C dx:Addr} {fs:List (Str×V)} (e:H a=some (.ins C dx fs)) (cl:gK K C) (ha:iZ K (.ref C) "__class__" =some (some (.builtin "object.__class__")))
  (hn:PySem.W.specialIn K (.builtin "object.__class__") "__get__" =some (some (.builtin "getset_descriptor.__get__"))) (MG:PySem.W.takesIn K (.builtin "object.__class__")=some true)
  (hm:PySem.W.mroIn K C (.type "object")=some true):ek K H (.ref a) (.ref C)
def Vb {x:V} {u t:Value} (I:aq X pins σ H s) (d:aG x u) (w:ek X.K H x t) (e:eV X.K t c=some b) (h: ∀B,Q (.bool b) {s with toks:=B}):
  wpAny (model X.prog X.w) A (call (.builtin "isinstance") [u,c]) Q E s:=by
 cases w with
 |aO=>cases (d);exact lE PySem.W.kitx_none I.dD nL e (λz=>nomatch z) h
 |bl y=>cases (d);exact lE PySem.W.kitx_bool I.dD nL e (λz=>nomatch z) h
 |int i=>obtain ⟨t,q⟩:=(d);cases q;exact lE PySem.W.kitx_int I.dD nL e (λz=>nomatch z) h
 |str y=>obtain ⟨t,q⟩:=(d);cases q;exact lE PySem.W.kitx_str I.dD nL e (λz=>nomatch z) h
 |o4 y=>obtain ⟨t,q⟩:=(d);cases q;exact lE PySem.W.kitx_float I.dD nL e (λz=>nomatch z) h
 | @ag a l g=>
  cases (d);obtain ⟨_,_,n,_,j⟩:=(I.aP a _ g)
  exact lE BJ I.dD ⟨_,j,rfl⟩ e (λz=>nomatch z) h
 | @bd a ob l g=>
  cases (d);obtain ⟨_,_,_,n,_,j⟩:=(I.aP a _ g)
  exact lE BJ I.dD ⟨_,j,rfl⟩ e (λz=>nomatch z) h
 | @ah a l g=>
  cases (d);obtain ⟨_,_,_,p⟩:=(I.aP a _ g)
  obtain ⟨o,j,k,_⟩:=p;exact lE PySem.W.kitx_tuple I.dD ⟨o,j,k⟩ e (λz=>nomatch z) h
 | @dK a m g=>
  cases (d);obtain ⟨_,_,vs,_,p⟩:=(I.aP a _ g)
  obtain ⟨o,L,N,j,k,_⟩:=p;exact lE PySem.W.kitx_dict I.dD ⟨o,j,k.1⟩ e (λz=>nomatch z) h
 | @dT a m g=>
  cases (d);obtain ⟨_,_,l,_,o,L,N,j,k,_⟩:=(I.aP a _ g)
  exact lE PySem.W.kitx_dict I.dD ⟨o,j,k.1⟩ e (λz=>nomatch z) h
 | @ins a C dx fs g v U Y r Z=>
  cases (d);obtain ⟨mA,O,_⟩:=Zb I.aP g;obtain ⟨od,J,_⟩:=O.look;exact lE (PySem.W.kitx_own (v.get _) v.hd U Y r Z) I.dD J e (λz=>nomatch z) h
end
structure aH (k:Nat) (A:bV):Prop where
 hd:A.handled=none
 dp:A.depth+3*k+5<recursionLimit
 un:A.units+16*k+200<cLine
 gd:A.guards=some []
def aH.mono {j k:Nat} {A:bV} (r:aH k A) (h:j<=k):aH j A:=⟨r.hd,by have:=r.dp;omega,by have:=r.un;omega,r.gd⟩
def aH.deeper {k:Nat} {A:bV} (r:aH (k+1) A) (env:Env):aH k (A.deeper env):=
 ⟨r.hd,by have:=r.dp;show A.depth+1+3*k+5<_;omega,by have:=r.un;show A.units+3+16*k+200<_;omega,r.gd⟩
def YA {A:bV} {C:Addr} {a:List Value} {c:List (Str×Value)}:(A.under (.builtin "type.__call__" ⟨.ref C::a,c⟩)).depth=A.depth+1:=by
 first|rfl|simp [Around.under,Code.weight,Code.isCreation,Code.isGuard,Code.isCaller,Code.frames,Code.isFrame,guardIds]
def Yz {A:bV} {C:Addr} {a:List Value} {c:List (Str×Value)}:(A.under (.builtin "type.__call__" ⟨.ref C::a,c⟩)).units=A.units+1:=by
 first|rfl|simp [Around.under,Code.cUnits,Code.frames,Code.isFrame]
def aH.make {k:Nat} {A:bV} (r:aH (k+1) A) (C:Addr) (a:List Value) (c:List (Str×Value)):aH k (A.under (.builtin "type.__call__" ⟨.ref C::a,c⟩)):=
 ⟨r.hd,by have:=r.dp;rw [YA];omega,by have:=r.un;rw [Yz];omega,by first|exact r.gd| (show pushGuards _ A.guards=_;rw [r.gd];rfl)⟩
def aH.depth {k:Nat} {A:bV} (r:aH k A):A.depth<recursionLimit:=by have:=r.dp;omega
def aH.units {k:Nat} {A:bV} (r:aH k A):A.units+64<cLine:=by have:=r.un;omega
def BK:TA:=λ_ H Q=>Q [] H
def Gs (c:TE) (d:TA):TA:=λa H Q=>c a H λx e=>d a e λg h=>Q (x::g) h
section
variable {X:Cx} {e:Expr} {n:List Expr} {d:TE} {t:TA} {pos:Pos}
def wa:PA X [] BK:=λ_ _ _ _ H Q I h=>Calls.spliced_nil ⟨[],H,I,.nil,h⟩
def qc (i:PE X e d) (j:PA X n t) (k:T9 X e n:=by rfl):PA X (e::n) (Gs d t):=by
 intro pos a s g H Q I h;rw [k];refine Calls.spliced_cons (bn (i a s g H _ I h) λu l c=>?_);obtain ⟨x,m,o,p,q⟩:=c;exact bn (j pos a l g m _ o q) λB E ⟨r,v,w,y,z⟩=>⟨x::r,v,w,.cons p y,z⟩
def BL (t:TA):TE:=λg H Q=>t g H λa c=>a.length<=aR/\ ∀p,c p=none->Q (.ref p) (aJ c p (.ah a))
def BM (t:TA):TE:=λg H Q=>t g H λa c=>a.length<=aR/\ ∀p,c p=none->Q (.ref p) (aJ c p (.ag a))
def Gu {i} (h:PA X n t):PE X (.Tuple n i pos) (BL t):=by
 intro a s j H Q I k;refine wpAny_Tuple_spliced (bn (h pos a s j H _ I k) λl c ⟨m,o,g,r,z,q⟩=>⟨by rw [<-r.length];exact z,?_⟩);refine ⟨.ref c.heap.objs.size,aJ o c.heap.objs.size (.ah m),g.laid (λb u e=>cu _ e) (a9 _) ?_,rfl,q _ (g.aP.fresh (a9 _))⟩;exact ⟨z,l,r,⟨_,ej _ rfl,rfl,_,rfl⟩⟩
def Gv (h:PA X n t):PE X (.List n pos) (BM t):=by
 intro a s i H Q I j;refine wpAny_List_spliced (bn (h pos a s i H _ I j) λk c ⟨l,m,g,r,z,q⟩=>⟨by rw [<-r.length];exact z,?_⟩);refine ⟨.ref c.heap.objs.size,aJ m c.heap.objs.size (.ag l),g.laid (λb u e=>cu _ e) (a9 _) ?_,rfl,q _ (g.aP.fresh (a9 _))⟩;exact ⟨z,k,0,r,ej _ rfl⟩
end
abbrev Sp:=List V->Hp->VK->XK->Prop
abbrev i0:=List Env->Hp->aB->XK->Value->aB->Prop
structure i1 (P:bI) (w:World) (K:ay) (mg:Xd) (ae:Heap) (A:bV) (outer:List Env) (s:aB) (H:Hp):Prop where
 frames:A.frames=some outer
 mod:Mod K mg ae
 bs: ∀b o,ae.get? b=some o->s.heap.get? b=some o/\H b=none
 iV:ae.objs.size<=s.heap.objs.size
 dw:s.heap.FunFrames ae outer
 lR: ∀b∈cJ outer,H b=none
 aP:cM P w H s.heap
 bare:m5 s.gens
def CE (a:List Env) (P:bI) (w:World) (H:Hp) (s:aB) (Q:VK) (u:Value) (c:aB):Prop:=
 ∃v d,c.os=s.os/\m5 c.gens/\Un (cJ a) [] H d s.heap c.heap/\cM P w d c.heap/\aG v u/\Q v d
def CR (d:i0) (a:List Env) (P:bI) (w:World) (H:Hp) (s:aB) (Q:VK) (E:XK) (r:Result) (c:aB):Prop:=
 match r with
 | .ok (.ret u)=>CE a P w H s Q u c
 | .ok _=>False
 | .error e=>d a H s E e c
structure cE (P:bI) (w:World) (K:ay) (mg:Xd) (ae:Heap) (CX:i0) (k:Nat) (f:Addr) (fd:iK) (ps:List Str) (sp:Sp):Prop where
 len: ∀vs H Q E,sp vs H Q E->vs.length=ps.length
 run: ∀(A:bV) (outer:List Env) (s:aB) (H:Hp) (args:Args) (us:List Value) (vs:List V) (Q:VK) (E:XK),aH k A->i1 P w K mg ae A outer s H->BindsTo s fd args (ps.zip us)->aE vs us->sp vs H Q E->
  lV (model P w) A (.call (.ref f) args) (CR CX outer P w H s Q E) s
def cE.mono {P:bI} {w:World} {K:ay} {mg:Xd} {ae:Heap} {a:i0} {j k:Nat} {f:Addr} {c:iK} {ps:List Str} {d:Sp} (F:cE P w K mg ae a j f c ps d) (h:j<=k):
 cE P w K mg ae a k f c ps d:=⟨F.len,λA outer s H args e g Q E i=>F.run A outer s H args e g Q E (i.mono h)⟩
def i1.make {P:bI} {w:World} {K:ay} {mg:Xd} {ae:Heap} {A:bV} {outer:List Env} {s:aB} {H:Hp} (e:i1 P w K mg ae A outer s H) (C:Addr) (a:List Value) (c:List (Str×Value)):
 i1 P w K mg ae (A.under (.builtin "type.__call__" ⟨.ref C::a,c⟩)) outer s H:=⟨by first|exact e.frames| (simpa [Around.under,Code.envs,Code.isFrame,pushEnvs] using e.frames),e.mod,e.bs,e.iV,e.dw,e.lR,e.aP,e.bare⟩
section
variable {X:Cx} {pins:List (Addr×Obj)} {σ:St} {H:Hp} {s s':aB}
def aq.sZ (I:aq X pins σ H s):i1 X.prog X.w X.K X.mg X.ae X.A X.stack s H:=
 ⟨I.ok.frames,I.ok.mod,I.bs,dE I.ok.iV I.sz,I.stack,I.df,I.aP,I.bare⟩
def aq.after {Q:VK} {u:Value} (I:aq X pins σ H s) (h:CE X.stack X.prog X.w H s Q u s'):EP X pins σ Q u s':=by
 obtain ⟨v,c,os,bare,un,aP,r,q⟩:=h;obtain ⟨e,g,d,t,a⟩:=s';obtain rfl:a=s.os:=os;exact ⟨v,c,I.call un aP bare (λb z=>absurd z (by simp)),r,q⟩
end
def Gw (a:Sp) (nM:List V) (E:XK) (t:TA):TE:=λc H Q=>t c H λd e=>a (d++nM) e Q E
def Binds (K:ay) (e:iK) (c:List Str) (d:List Value):Prop:=
 ∀(s:aB) (a:List Value),K.In s.heap->(a++d).length=c.length->BindsTo s e ⟨a,[]⟩ (c.zip (a++d))
def Binds.all {K:ay} {c:iK} {ps:List Str} (h: ∀a:List Value,a.length=ps.length->bindArgs c ⟨a,[]⟩=pure (ps.zip a)):Binds K c ps []:=λs a _ d=>by
 rw [lO] at d ⊢;exact .of_eq (h a d)
def Wh (d:i0) (X:Cx) (E:XK):Prop:= ∀(a:List (Addr×Obj)) (g:St) (H:Hp) (s:aB) (e:Value) (c:aB),aq X a g H s->d X.stack H s E e c->X.xe e c
section
variable {X:Cx} {CX:i0} {k:Nat} {f C:Addr} {fd:iK} {ps:List Str} {sp:Sp} {nM:List V} {ds:List Value} {E:XK} {x m:Str} {p pos apos:Pos} {e o:Expr} {es:List Expr} {ta:TE} {t:TA}
def kN {a:List (Addr×Obj)} {d:St} {H:Hp} {s:aB} {Q:VK} {us:List Value} {vs:List V} (F:cE X.prog X.w X.K X.mg X.ae CX k f fd ps sp) (i:aH k X.A) (j:Binds X.K fd ps ds) (hd:aE nM ds) (l:Wh CX X E)
  (I:aq X a d H s) (r:aE vs us) (h:sp (vs++nM) H Q E):wpAny (model X.prog X.w) X.A (call (.ref f) us) (EP X a d Q) X.xe s:=by
 have g:=r.append hd;have n:(us++ds).length=ps.length:=by rw [<-g.length];exact F.len _ _ _ _ h
 refine wpAny_call (rM (F.run X.A X.stack s H ⟨us,[]⟩ (us++ds) (vs++nM) Q E i I.sZ (j s us I.dD n) g h) λr q c=>?_)
 cases r with
 |error e=>exact l a d H s e q I c
 |ok v=>
  cases v with
  |ret u=>exact I.after c
  |next=>exact hJ c
  |brk=>exact hJ c
  |cont=>exact hJ c
def Wy (F:cE X.prog X.w X.K X.mg X.ae CX k f fd ps sp) (i:aH k X.A) (j:Gl X x) (l:X.mg x=some (.ref f)) (n:h8 X.K (.ref f)=true) (u:Binds X.K fd ps ds) (hd:aE nM ds) (v:Wh CX X E)
  (w:PA X (e::es) t) (c:Yj x:=by decide) (y:T9 X e es:=by rfl) (d:T8 X pos es:=by rfl):
  PE X (.Call (.Name x p) (e::es) [] pos) (Gw sp nM E t):=by
 intro a s z H Q I h;refine Aw (yB I j l ?_ c);refine PySem.W.callWith_K I.ok.mod.oD n (bn (w pos a s z H _ I h) λB J ⟨L,N,g,r,q⟩=>⟨g.dD,?_⟩) y d;exact kN F i u hd v g r q
structure Mk (K:ay) (C f:Addr):Prop where
 makes:sV K C=true
 init:iZ K (.ref C) "__init__" =some (some (.ref f))
 fn:As K (.ref f)=true
 kp:h8 K (.ref C)=true
end
structure aC (N P:List Str) (sc:Scope):Prop where
 kind:sc.kind= .function
 co:sc.isCoroutine=false
 gen:sc.isGenerator=false
 nd:N.Nodup
 pre:N.take P.length=P
 par: ∀x∈P,sc.names.lookup x=some .local\/sc.names.lookup x=some .cell
 pv: ∀y∈sc.names,y.2≠ .free
theorem Wb {kindOf:Str->Option NameKind} {x:Str}: ∀ {binds:List (Str×Value)} {m:Xd},(∀v,(x,v)∉binds)->bindL kindOf binds m x=m x
 | [],_,_=>rfl
 | (n,v)::r,m,h=>by
  unfold bindL;rw [Wb λw hw=>h w (dC _ hw)]
  split
  . have:x≠n:=by rintro rfl;exact h v dB
    simp [this]
  . rfl
theorem Wd {kindOf:Str->Option NameKind} {x:Str}: ∀ {binds:List (Str×Value)} {m:Xd},(∀v,(x,v)∉binds)->bindC kindOf binds m x=m x
 | [],_,_=>rfl
 | (n,v)::r,m,h=>by
  unfold bindC;rw [Wd λw hw=>h w (dC _ hw)]
  split
  . rfl
  . have:x≠n:=by rintro rfl;exact h v dB
    simp [this]
theorem Wc {kindOf:Str->Option NameKind} {x:Str} {v:Value}: ∀ {P:List Str} {a:List Value} {i:Nat} {m:Xd},P.Nodup->P[i]?=some x->a[i]?=some v->kindOf x=some .local->
  bindL kindOf (P.zip a) m x=some v
 | [],_,_,_,_,h,_,_=>by simp at h
 |_::_,[],_,_,_,_,h,_=>by simp at h
 |p::P,w::a,0,m,e,c,d,g=>by
  simp at c d;subst c;subst d;show bindL kindOf ((p,w)::P.zip a) m p=_;unfold bindL;rw [Wb λv j=>(oH.mp e).1 (List.of_mem_zip j).1,if_pos g];simp
 |p::P,w::a,i+1,m,e,c,d,g=>by
  unfold bindL;exact Wc (oH.mp e).2 (by simpa using c) (by simpa using d) g
theorem We {kindOf:Str->Option NameKind} {x:Str} {v:Value}: ∀ {P:List Str} {a:List Value} {i:Nat} {m:Xd},P.Nodup->P[i]?=some x->a[i]?=some v->kindOf x≠some .local->
  bindC kindOf (P.zip a) m x=some v
 | [],_,_,_,_,h,_,_=>by simp at h
 |_::_,[],_,_,_,_,h,_=>by simp at h
 |p::P,w::a,0,m,e,c,d,g=>by
  simp at c d;subst c;subst d;show bindC kindOf ((p,w)::P.zip a) m p=_;unfold bindC;rw [Wd λv j=>(oH.mp e).1 (List.of_mem_zip j).1,if_neg g];simp
 |p::P,w::a,i+1,m,e,c,d,g=>by
  unfold bindC;exact We (oH.mp e).2 (by simpa using c) (by simpa using d) g
def start (N:List Str) (a:List V):St:=a.map some++eR (N.length-a.length) none
def bH (h:i0) (P:bI) (w:World) (K:ay) (mg:Xd) (ae:Heap) (N:List Str) (c:Str) (a:Scope) (f:Addr) (g:Value) (A:bV) (outer:List Env) (s:aB) (H:Hp) (E:XK):Cx where
 prog:=P
 w:=w
 K:=K
 mg:=mg
 ae:=ae
 A:=A.deeper (gx c a s.heap.objs.size f g)
 N:=N
 cQ:=s
 gI:=H
 env:=gx c a s.heap.objs.size f g
 outer:=outer
 stack:=gx c a s.heap.objs.size f g::outer
 ex:=[]
 bG:=true
 fn:=λ_=>true
 pn:=[]
 xe:=λe i=>wpAny (model P w) (A.deeper (gx c a s.heap.objs.size f g)) (leaving (gx c a s.heap.objs.size f g) e) (λ_ d=>h outer H s E e d) (λj d=>h outer H s E j d) i
def XX {a:Scope} {n:Nat} {x:Str} (h:a.names.lookup x=some .cell): ∃c,(cellsFrom n a.names []).lookup x=some c:=by
 exact Option.isSome_iff_exists.mp (PySem.W.cellsFrom_some a.names n [] (.inl h))
def Vd {U:i0} {P:bI} {w:World} {K:ay} {O:Xd} {m:Heap} {N n:List Str} {j:Str} {d:Scope} {f:Addr} {I:Value} {A:bV} {g:List Env} {s Y:aB} {H:Hp} {E:XK} {Q:List Value} {o:List V}
   (S:aC N n d) (hd:A.handled=none) (e0:i1 P w K O m A g s H) (hl:o.length=n.length) (r:aE o Q)
   (x:InCallC s s.heap.objs.size (bindL (gx j d s.heap.objs.size f I).kindOf (n.zip Q) λ_=>none) (cellsFrom (s.heap.objs.size+1) d.names []) (bindC (gx j d s.heap.objs.size f I).kindOf (n.zip Q) λ_=>none) Y):
   aq (bH U P w K O m N j d f I A g s H E) [] (start N o) H Y:=by
 have BN:n.length<=N.length:=by have:=congrArg List.length S.pre;rw [g7] at this;omega
 obtain ⟨J,tk,rfl,Z⟩:=x.done;have rN: ∀b:Addr,b∉(bH U P w K O m N j d f I A g s H E).ex:=λb z=>absurd (show b∈([]:List Addr) from z) (by simp)
 refine ⟨⟨e0.mod,S.kind,rfl,rfl,a9 _,λy z c J l=>?_,λy hy=>?_,λy c _ h=>?_,λ_=>hd,Around.frames_deeper e0.frames,.inr ⟨rfl,rfl⟩,λb z=>absurd z (rN b),e0.bs,e0.iV,λb _ _=>rN b,λb z=>absurd z (rN b),e0.dw,e0.lR⟩,
   rfl,e0.bare,Un.kept Z,⟨_,x.toInCall.ns,λi y v J l h3=>?_⟩,λy c h=>⟨_,x.cell y c h⟩,e0.aP.fresh (a9 _),λy c h=>?_,λp t=>absurd (show p∈([]:List (Addr×Obj)) from t) (by simp),e0.aP.kept Z,?_⟩
 . exact name_of_addr x.apart (pw J) (pw l)
 . have hy:=hy;rcases hy with hy|hy
   . exact XX hy
   . exact absurd rfl (S.pv _ (pw hy))
 . exact Ah (x.above y c (pw h))
 . have L:i<o.length:=by
     unfold start at l
     by_cases L:i<o.length
     . exact L
     . rw [fA (by simpa using L)] at l;rw [oI] at l
       split at l<;>cases l
   have ha:o[i]?=some v:=by
     unfold start at l;rw [g8 (by simpa using L),fB] at l
     cases e:o[i]? with
     |none=>rw [e] at l;cases l
     |some a=>rw [e] at l;cases l;rfl
   obtain ⟨u,hu,rv⟩:=r.get ha
   have t:n[i]?=some y:=by
     rw [<-S.pre,Ax (by omega)];exact J
   have B:n.Nodup:=by rw [<-S.pre];exact S.nd.sublist (List.take_sublist _ _)
   refine ⟨u,rv,?_⟩;rcases S.par y (g9 t) with k|k
   . exact .inl ⟨k,Wc B t hu k⟩
   . obtain ⟨c,e⟩:=XX k;refine .inr ⟨.inl k,c,e,?_⟩;have q:=x.cell y c e;rw [We B t hu (by show d.names.lookup y≠_;rw [k];decide)] at q;exact q
 . exact e0.aP.fresh (Ah (x.above y c (pw h)))
 . unfold start;show _=N.length;rw [dH,bB,List.length_replicate];omega
def Ec {Z:i0} {P:bI} {w:World} {K:ay} {mg:Xd} {h:Heap} {k:Nat} {f:Addr} {name d:Str} {i:Arguments} {j:List Stmt} {a:Scope} {dV kV O pm g ct oc:Value} {an od:Option Addr}
  {Ay:Array (Option Value)} {N ps:List Str} {sp:Sp} (lk:K.lookup f=some ⟨oc,od,.func (nh name d i j a dV kV O pm an g ct),Ay⟩) (px:rO K g d=true) (S:aC N ps a)
  (len: ∀l H Q E,sp l H Q E->l.length=ps.length)
  (z: ∀(A:bV) (c:List Env) (s:aB) (H:Hp) (l:List V) (Q:VK) (E:XK),aH k (A.deeper (gx d a s.heap.objs.size f g))->sp l H Q E->
    ∃t,cb (bH Z P w K mg h N d a f g A c s H E) j t/\t {nx:=λ_ p=>Q .aO p,rt:=Q} (start N l) H):
  cE P w K mg h Z (k+1) f (nh name d i j a dV kV O pm an g ct) ps sp:=by
 refine ⟨len,λA c s H args us l Q E hr e0 hb r U=>?_⟩;have KX:=e0.mod.oD.keeps λb o e=>(e0.bs b o e).1
 have B: ∀y∈ps.zip us,a.names.lookup y.1=some .local\/(a.names.lookup y.1=some .cell/\((cellsFrom (s.heap.objs.size+1) a.names []).lookup y.1).isSome=true):=λ⟨n,v⟩ hy=>by
  rcases S.par n (List.of_mem_zip hy).1 with q|q
  . exact .inl q
  . exact .inr ⟨q,PySem.W.cellsFrom_some _ _ _ (.inl q)⟩
 refine codeAny_call_function hr.depth (KX _ _ lk) rfl S.co S.gen rfl (PySem.W.codeRec_of KX px) (hb _ _ _ _ ?_);refine wpAny_newFunctionEnv_cells S.kind B λenv he s1 x=>?_
 subst he;refine ⟨(e0.mod.nolimit.keeps λb o e=>(e0.bs b o e).1).keeps x.toInCall.keep,codeAny_func ?_⟩;obtain ⟨t,ht,hq⟩:=z A c s H l Q E (hr.deeper _) U;have I:aq (bH Z P w K mg h N d a f g A c s H E) [] (start N l) H s1:=Vd S hr.hd e0 (len _ _ _ _ U) r x;refine lA (ht [] s1 (start N l) H _ I hq) (λfl s' L=>?_) λe s' L=>L
 have Y: ∀ {m:St} {p:Hp} {v:V} {u:Value},aq (bH Z P w K mg h N d a f g A c s H E) [] m p s'->aG v u->Q v p->CE c P w H s Q u s':=
  λ{m p v u} J rv q=>⟨v,p,J.os,J.bare,J.ae,J.aP,rv,q⟩
 cases fl with
 |ret u=>
  obtain ⟨v,m,p,J,rv,q⟩:=L;exact Y J rv q
 |next=>
  obtain ⟨m,p,J,q⟩:=L;exact Y (v:=V.aO) J rfl q
 |brk=>
  obtain ⟨_,_,_,q⟩:=L;exact hJ q
 |cont=>
  obtain ⟨_,_,_,q⟩:=L;exact hJ q
section
variable {X:Cx} {x:Str} {p pos:Pos} {e:Expr} {es:List Expr} {t:TA} {id T:String} {r:List V->Hp->VK->Prop}
def tc (r:List V->Hp->VK->Prop) (t:TA):TE:=λa H Q=>t a H λc d=>r c d Q
def zv (i:bf X (.builtin id) r) (j:Gl X x) (k:X.mg x=none) (l:gH x=some (.builtin id)) (m:PA X (e::es) t) (n:x≠ "__name__" :=by decide) (c:Yj x:=by decide)
  (o:T9 X e es:=by rfl) (d:T8 X pos es:=by rfl):PE X (.Call (.Name x p) (e::es) [] pos) (tc r t):=by
 intro a s g H Q I h;refine Aw (Xy I j k l ?_ n c);exact PyProof.Rows.callWith_builtin1 (bn (m pos a s g H _ I h) λq u ⟨v,w,y,z,B⟩=>i a u g w v q Q y z B) o d
def Jj (i:bf X (.type T) r) (j:Gl X x) (k:X.mg x=none) (l:gH x=some (.type T)) (m:PA X (e::es) t) (n:x≠ "__name__" :=by decide) (c:Yj x:=by decide)
  (o:T9 X e es:=by rfl) (d:T8 X pos es:=by rfl):PE X (.Call (.Name x p) (e::es) [] pos) (tc r t):=by
 intro a s g H Q I h;refine Aw (Xy I j k l ?_ n c);exact D8 (bn (m pos a s g H _ I h) λq u ⟨v,w,y,z,B⟩=>i a u g w v q Q y z B) o d
end
end L2
namespace HT
open PySem PyProof.Rows
section
variable {prog:bI} {w:World} {A:bV} {E:Ws} {s:aB}
def nN {t b:Addr} {d a:List Value} {Q:Ws} (u:IsTup s.heap t d.toArray) (v:IsTup s.heap b a.toArray) (m:d≠[])
   (y:a=[]->Q (.ref t) s) (z:a≠[]->Q (.ref s.heap.objs.size) {s with heap:=s.heap.push {cls:= .type "tuple",data:= .seq (d++a).toArray}})
   (j:d.length+a.length<=aR):wpAny (model prog w) A (eU .Add (.ref t) (.ref b)) Q E s:=by
 obtain ⟨⟨cls,o,data,p⟩,i,B,n,hd⟩:=id u;obtain ⟨⟨q,g,data2,h⟩,c,k,r,l⟩:=id v;subst B hd k l;have e:d.toArray++a.toArray=(d++a).toArray:=by simp
 by_cases hw:a=[]
 . exact concat_meets ⟨_,i,rfl⟩ ⟨_,c,rfl⟩ noFill_tuple_add seq_tuple_add BO BP (BQ _ _)
    (tuple_addW1 t b d.toArray a.toArray n r o g p h (by simpa using m) (by simp [hw])) ⟨i,c,y hw⟩
 . refine concat_meets ⟨_,i,rfl⟩ ⟨_,c,rfl⟩ noFill_tuple_add seq_tuple_add BO BP (BQ _ _)
    (tuple_addW2 t b d.toArray a.toArray n r o g p h (by simpa using m) (by simpa using hw) (by rw [cA,cA];exact j)) ⟨i,c,?_⟩
   rw [e];exact z hw
def bz (n d:Nat):Option Int->Nat
 |none=>d
 |some v=>if v<0 then (v+(n:Int)).toNat else min v.toNat n
def gL (n d:Nat):bz n d none=d:=rfl
def iL (n d k:Nat):bz n d (some (k:Int))=min k n:=by
 show (if k<0 then (k+(n:Int)).toNat else min (k:Int).toNat n)=min k n;rw [if_neg (by omega),td]
def MH (n d:Nat) (hd:d<=n) (o:Option Int):bz n d o<=n:=by
 cases o with
 |none=>exact hd
 |some v=>
  show (if v<0 then (v+n).toNat else min v.toNat n)<=n
  by_cases a:v<0
  . rw [if_pos a];omega
  . rw [if_neg a];exact Nat.min_le_right _ _
def VP (v:Int) (n d:Nat):(if v<0 then max (v+(n:Int)) 0 else min v (n:Int))=((bz n d (some v):Nat):Int):=by
 show (if v<0 then max (v+n) 0 else min v n)=(((if v<0 then (v+n).toNat else min v.toNat n):Nat):Int)
 by_cases a:v<0
 . simp only [if_pos a];omega
 . simp only [if_neg a];omega
def Y1 (lo a:Option Int) (n:Nat):Ed lo a 1 (n:Int)=(((bz n 0 lo:Nat):Int),((bz n n a:Nat):Int)):=by
 refine Prod.ext ?_ ?_
 . cases lo with
   |none=>rfl
   |some v=>exact VP v n 0
 . cases a with
   |none=>rfl
   |some v=>exact VP v n n
def Yp (i j:Nat):Az (i:Int) (j:Int) 1=j-i:=by
 unfold Az
 split<;>omega
def Qb {v:Value} {o:Option Int} {Q:Option Int->aB->Prop} (p:IsPart v o) (h:Q o s):wpAny (model prog w) A (Builtin.Slice.slicePartIndex v) Q E s:=by
 cases p with
 |none=>exact slicePart_none h
 |int i t=>exact slicePart_int h
def cF {e:Addr} {g i:Value} {lo a:Option Int} {n:Nat} {Q:Int×Int×Nat->aB->Prop} (j:s.heap.IsSliceOf e g i .none) (k:IsPart g lo) (l:IsPart i a)
  (h:Q (((bz n 0 lo:Nat):Int),1,bz n n a-bz n 0 lo) s):wpAny (model prog w) A (Builtin.Slice.sliceApplied (.ref e) (pure (n:Int))) Q E s:=by
 obtain ⟨os,c,m,d⟩:=id j;refine ax (ax (wpAny_field c d rfl (ax (wpAny_field c d rfl (ax (wpAny_field c d rfl (aM ?_)))))));refine ax (slicePart_none ?_);refine ax (Qb k (ax (Qb l (ax (aM ?_)))));show wpAny _ _ (match Ed lo a 1 n with| (lo,a)=>pure (lo,(1:Int),Az lo a 1)) _ _ s;rw [Y1 lo a n];show wpAny _ _ (pure (((bz n 0 lo):Int),(1),Az ((bz n 0 lo):Int) ((bz n n a):Int) 1)) _ _ s;rw [Yp];exact aM h
def Us (a:Array Value) (i k:Nat):((fu k).filterMap λ(m:Nat)=>a[((i:Int)+(m:Int)*1).toNat]?).toArray=((a.toList.drop i).take k).toArray:=by
 have e:(λ(m:Nat)=>a[(i+(m:Int)*1).toNat]?)=λm=>a[i+m]?:=by
  funext m;have:(i+(m:Int)*1).toNat=i+m:=by omega
  rw [this]
 rw [e];have:=pick_run a i k;rw [List.filterMap_map] at this;have e2:((λx=>a[x]?) ∘ λx=>i+x)=λm=>a[i+m]?:=rfl
 rw [e2] at this;rw [this]
def dS {t k:Addr} {a:Array Value} {l m:Value} {lo d:Option Int} {Q:Ws} (e:IsTup s.heap t a) (n:s.heap.IsSliceOf k l m .none) (o:IsPart l lo) (p:IsPart m d)
  (hw: ¬(bz a.size 0 lo=0/\bz a.size a.size d=a.size))
  (h:Q (.ref s.heap.objs.size) {s with heap:=s.heap.push {cls:= .type "tuple",data:= .seq ((a.toList.drop (bz a.size 0 lo)).take (bz a.size a.size d-bz a.size 0 lo)).toArray}})
  (r:a.size<=aR):wpAny (model prog w) A (getItem (.ref t) (.ref k)) Q E s:=by
 have c:sizeOk (.seq ((a.toList.drop (bz a.size 0 lo)).take (bz a.size a.size d-bz a.size 0 lo)).toArray):=by
  show ((a.toList.drop (bz a.size 0 lo)).take (bz a.size a.size d-bz a.size 0 lo)).toArray.size<=aR;rw [cA,g7,nO,fW];omega
 obtain ⟨os,g,i,u⟩:=id n;unfold getItem
 try with_reducible refine iY ?_
 first|refine ax (aM ?_)|skip
 refine ax (wpAny_sequenceKey e.typeIs (by decide) ?_)
 refine ax (AA e.typeIs py
  (te py e.typeIs entry_tuple_getitem ?_ (args_tuple_getitem _ _)))
 show wpAny _ _ (Ee (.ref t)>>=_) _ _ s;refine ax (BR e ?_);refine ax (rP (⟨os,g,i⟩) ?_);refine ax (cF n o p ?_)
 have j: ¬((((bz a.size 0 lo):Int)==0&&(1:Int)==1&&(bz a.size a.size d-bz a.size 0 lo)==a.size)=true):=by
  intro q;rw [fw,fw] at q;have v:=eq_of_beq q.1.1;have y:=eq_of_beq q.2;exact hw ⟨by omega,by omega⟩
 show wpAny _ _ (if (((bz a.size 0 lo):Int)==0&&(1)==1&&(bz a.size a.size d-bz a.size 0 lo)==a.size)=true then _ else _) _ _ s;rw [if_neg j,Us]
 first
  |exact ax (lW (aM ⟨_,rfl,aM h⟩) c)
  |exact ax (lW (ax (aM (aM ⟨_,rfl,aM h⟩))) c)
  |exact ax (ax (lW (aM (aM ⟨_,rfl,aM h⟩)) c))
  |exact ax (ax (lW (aM ⟨_,rfl,aM h⟩) c))
end
end HT
namespace L2
open PySem PySem.Spec PyProof.Rows
abbrev TO:=St->Hp->(Option Int->Hp->Prop)->Prop
def PO (X:Cx) (e:Option Expr) (t:TO):Prop:=
 ∀(a:List (Addr×Obj)) (s:aB) (c:St) (H:Hp) (Q:Option Int->Hp->Prop),aq X a c H s->t c H Q->
  wpAny (model X.prog X.w) X.A (evalPart e X.env) (λu g=> ∃o d,aq X a c d g/\IsPart u o/\Q o d) X.xe s
def vF:TO:=λ_ H Q=>Q none H
def Gx (t:TE):TO:=λa H Q=>t a H λx c=> ∃i,x= .int i/\Q (some i) c
section
variable {X:Cx} {e:Expr} {B:TE} {lo J:Option Expr} {n m:TO} {pos k:Pos}
def vW:PO X none vF:=by
 intro a s c H Q I h;exact aM ⟨none,H,I,.none,h⟩
def vV (h:PE X e B):PO X (some e) (Gx B):=by
 intro a s d H Q I hw;refine bn (h a s d H _ I hw) λu p c=>?_;obtain ⟨x,g,j,l,o⟩:=c
 obtain ⟨i,rfl,q⟩:=o;obtain ⟨t,rfl⟩:=l;exact ⟨some i,g,j,.int i t,q⟩
def nP (X:Cx) (r:V->Option Int->Option Int->Hp->VK->Prop):Prop:=
 ∀(a:List (Addr×Obj)) (s:aB) (c:St) (H:Hp) (x:V) (v d g:Value) (lo J:Option Int) (h:Addr) (Q:VK),aq X a c H s->aG x v->s.heap.IsSliceOf h d g .none->IsPart d lo->IsPart g J->r x lo J H Q->
  ∃T id,typeLookup (.type T) "__getitem__" =pure (some (.builtin id))/\s.TypeIs v T/\wpAny (model X.prog X.w) X.A (getItem v (.ref h)) (EP X a c Q) X.xe s
def nP.or {r c:V->Option Int->Option Int->Hp->VK->Prop} (h:nP X r) (t:nP X c):nP X (λx lo J H Q=>r x lo J H Q\/c x lo J H Q):=by
 intro a s d H x v g i lo J j Q I l o pl p q;rcases q with q|q
 . exact h a s d H x v g i lo J j Q I l o pl p q
 . exact t a s d H x v g i lo J j Q I l o pl p q
def Gy (r:V->Option Int->Option Int->Hp->VK->Prop) (B:TE) (n m:TO):TE:=λa H Q=>B a H λx c=>n a c λl d=>m a d λu g=>r x l u g Q
def Xm {r:V->Option Int->Option Int->Hp->VK->Prop} (p:nP X r) (t:PE X e B) (w:PO X lo n) (y:PO X J m):PE X (.Subscript e (.Slice lo J none k) pos) (Gy r B n m):=by
 intro a s d H Q I h;refine Subscript_ (bn (t a s d H _ I h) λv z c=>?_);obtain ⟨x,E,L,N,O⟩:=c;refine wpAny_Slice (bn (w a z d E _ L O) λi U ⟨l,Y,Z,pl,q2⟩=>bn (y a U d Y _ Z q2) λj g c=>?_);obtain ⟨u,o,I3,pu,q3⟩:=c;refine aM ?_;have I4:aq X a d o {g with heap:=g.heap.push {cls:= .type "slice",data:= .fields #[i,j,.none]}}:=I3.kept λb ob q=>cu _ q
 obtain ⟨T,id,hT,ht,hg⟩:=p a {g with heap:=g.heap.push {cls:= .type "slice",data:= .fields #[i,j,.none]}} d o x v i j l u g.heap.objs.size Q I4 N (Heap.IsSliceOf.new ..) pl pu q3;exact tail_any ht hT hg (by with_unfolding_all rfl)
def i2 (a:List V) (lo J:Option Int):List V:=(a.drop (HT.bz a.length 0 lo)).take (HT.bz a.length a.length J-HT.bz a.length 0 lo)
def JK (a:List V) (lo J:Option Int):(i2 a lo J).length<=a.length:=by
 unfold i2;rw [g7,nO];omega
def tf (K:ay):V->Option Int->Option Int->Hp->VK->Prop:=λx lo J H Q=> ∃a c,x= .ref a/\eI K H a c/\
 ¬(HT.bz c.length 0 lo=0/\HT.bz c.length c.length J=c.length)/\ ∀p,H p=none->Q (.ref p) (aJ H p (.ah (i2 c lo J)))
def pz:nP X (tf X.K):=by
 intro i s y H x v z E lo J L Q I o p t u h;obtain ⟨a,d,rfl,w,hw,q⟩:=h;cases o;obtain ⟨g,r,j,l⟩:=I.tuple w;have c:g.toArray.size=d.length:=by rw [cA];exact r.length.symm
 refine ⟨"tuple",_,py.lookup,j.typeIs,?_⟩;refine HT.dS j p t u (by rw [c];exact hw) ?_ (by rw [c];exact l);rw [c];refine ⟨.ref s.heap.objs.size,_,I.laid (λb ob q=>cu _ q) (a9 _) ?_,rfl,q _ (I.aP.fresh (a9 _))⟩;exact ⟨dE (JK d lo J) l,_,(r.drop (HT.bz d.length 0 lo)).take (HT.bz d.length d.length J-HT.bz d.length 0 lo),IsTup.new _ _⟩
def Ko (K:ay):R2:=λx y H Q=> ∃a b d c,x= .ref a/\y= .ref b/\eI K H a d/\eI K H b c/\d≠[]/\d.length+c.length<=aR/\
 (c=[]->Q (.ref a) H)/\(c≠[]-> ∀p,H p=none->Q (.ref p) (aJ H p (.ah (d++c))))
def aE.f9 {a:List V} {c:List Value} (r:aE a c):c=[]↔a=[]:=by
 cases r with
 |nil=>simp
 |cons _ _=>simp
def uf:b7 X (eU .Add) (Ko X.K):=by
 intro g s U H x y v u Q I l o h;obtain ⟨a,b,Y,Z,rfl,rfl,p,r,t,i,E,L⟩:=h;cases l;cases o;obtain ⟨N,d,O,_⟩:=I.tuple p;obtain ⟨j,c,k,_⟩:=I.tuple r;refine HT.nN O k (λz=>t (d.f9.mp z)) (λz=>⟨.ref a,H,I,rfl,E (c.f9.mp z)⟩) (λz=>?_) (by rw [<-d.length,<-c.length];exact i);refine ⟨.ref s.heap.objs.size,_,I.laid (λb ob q=>cu _ q) (a9 _) ?_,rfl,L (λw=>z (c.f9.mpr w)) _ (I.aP.fresh (a9 _))⟩;exact ⟨by rw [dH];exact i,_,d.append c,IsTup.new _ _⟩
end
def iM (n:Nat) (i:Int):Option Nat:=if 0<=i then (if i<n then some i.toNat else none) else if-(n:Int)<=i then some (i+n).toNat else none
def gy {a:Type} (c:List a) (i:Int):Option a:=(iM c.length i).bind λj=>c[j]?
def K9 {n:Nat} {i:Int} {j:Nat} (h:iM n i=some j):seqIndex? i n=some j/\j<n/\ -(n:Int)<=i/\i<n:=by
 unfold iM at h
 by_cases c:0<=i
 . rw [if_pos c] at h
   by_cases a:i<n
   . rw [if_pos a] at h;have e:=fQ h;exact ⟨by rw [seqIndex_of c a,e],by omega,by omega,a⟩
   . rw [if_neg a] at h;cases h
 . rw [if_neg c] at h
   by_cases a: -(n)<=i
   . rw [if_pos a] at h;have e:=fQ h;exact ⟨by rw [seqIndex_neg (by omega) a,e],by omega,a,by omega⟩
   . rw [if_neg a] at h;cases h
def W0 {c:Type} {a:List c} {i:Int} {v:c} (h:gy a i=some v): ∃j,seqIndex? i a.length=some j/\a[j]?=some v/\j<a.length/\ -(a.length:Int)<=i/\i<a.length:=by
 unfold gy at h
 cases e:iM a.length i with
 |none=>rw [e] at h;cases h
 |some j=>
  rw [e] at h;obtain ⟨d,g,k,l⟩:=K9 e;exact ⟨j,d,h,g,k,l⟩
def dU {c:Type} {a:List c} {j:Nat} {v:c} (h:a[j]?=some v):gy a (j:Int)=some v:=by
 have d:j<a.length:=(fZ.mp h).1
 have e:iM a.length (j:Int)=some j:=by
  unfold iM;rw [if_pos (by omega),if_pos (by omega)];simp
 unfold gy;rw [e];exact h
def Zp (b:Expr):Prop:= ∀o i,subscripted b false o i=operate [o,i] (getItem o i)
def ni (X:Cx) (r:R2):Prop:=
 ∀(value a:Expr) (c:List (Addr×Obj)) (s:aB) (d:St) (H:Hp) (x y:V) (v u:Value) (Q:VK),aq X c d H s->aG x v->aG y u->r x y H Q->
  subscripted a false v u=operate [v,u] (getItem v u)->wpAny (model X.prog X.w) X.A (subscriptTail value a v u) (EP X c d Q) X.xe s
def Ef (X:Cx) (id:String) (r:V->List V->Hp->VK->Prop):Prop:=
 ∀(a:List (Addr×Obj)) (s:aB) (c:St) (H:Hp) (x:V) (d:List V) (v:Value) (e:List Value) (Q:VK),aq X a c H s->aG x v->aE d e->r x d H Q->
  wpAny (model X.prog X.w) X.A (call (.builtin id) (v::e)) (EP X a c Q) X.xe s
section
variable {X:Cx} {a b:Expr} {N L:TE} {pos:Pos}
def ni.or {r e:R2} (h:ni X r) (l:ni X e):ni X (λx y H Q=>r x y H Q\/e x y H Q):=by
 intro value c d s g H x y v u Q I i j q k;rcases q with q|q
 . exact h value c d s g H x y v u Q I i j q k
 . exact l value c d s g H x y v u Q I i j q k
def vZ {r:R2} (d:ni X r) (e:PE X a N) (g:PE X b L) (i:Zp b):PE X (.Subscript a b pos) (rK r N L):=by
 intro c s j H Q I h;exact Subscript_ (pi e g I h λv u k x y l m n o q=>d a b c k j l x y v u Q m n o q (i _ _))
def ti (K:ay):R2:=λx y H Q=> ∃p c i v,x= .ref p/\y= .int i/\dg K H p c/\gy c i=some v/\Q v H
def tj (K:ay):R2:=λx y H Q=> ∃p c i v,x= .ref p/\y= .int i/\eI K H p c/\gy c i=some v/\Q v H
def tm:R2:=λx y H Q=> ∃z i c,x= .str z/\y= .int i/\z.length<=aR/\gy z.cps.toList i=some c/\Q (.str ⟨#[c]⟩) H
def nQ:ni X (ti X.K):=by
 intro value g c s J H x y v u Q I O U h o;obtain ⟨p,xs,i,z,rfl,rfl,Y,Z,q⟩:=h;cases O;obtain ⟨t,rfl⟩:=U;obtain ⟨k,r,l,hz⟩:=I.list Y;obtain ⟨j,e,h2,h3,h4,h5⟩:=W0 Z;obtain ⟨w,B,m⟩:=r.get h2;have hl:=r.length;have hn:=Qj;have d:EP X c J Q w s:=⟨z,H,I,m,q⟩
 by_cases E:0<=i
 . have n:i.toNat=j:=by
    rw [seqIndex_of E h5] at e;exact fQ e
   exact item_listR l.isList E (by omega) (by rw [n];simpa using B) d o
 . have n:(i+(k.toArray.size)).toNat=j:=by
    rw [seqIndex_neg (by omega) h4] at e;rw [cA,<-hl];exact fQ e
   exact subscriptTail_builtinR l.isList.typeIs slot_list_getitem.lookup
    (wpAny_getItem_list_neg l.isList (by omega) (by rw [cA]<;>omega) (by omega) (by rw [n];simpa using B) ⟨rfl,d⟩) o
def pA:ni X (tj X.K):=by
 intro value d c s l H x y v u Q I m n h o;obtain ⟨p,xs,i,z,rfl,rfl,B,E,q⟩:=h;cases m;obtain ⟨t,rfl⟩:=n;obtain ⟨J,r,k,hz⟩:=I.tuple B;obtain ⟨j,O,U,h3,h4,h5⟩:=W0 E;obtain ⟨w,Y,e⟩:=r.get U;have Z:=r.length;have hn:=Qj;have g:EP X c l Q w s:=⟨z,H,I,e,q⟩
 exact subscriptTail_builtinR k.typeIs py.lookup
  (getItem_tuple k (by omega) (by omega) (by rw [cA,<-Z];exact O) (by simpa using Y) ⟨rfl,g⟩) o
def Gz:ni X tm:=by
 intro value d e s B H x y v u Q I k l h m;obtain ⟨z,i,c,rfl,rfl,E,n,q⟩:=h;obtain ⟨t,rfl⟩:=k;obtain ⟨J,rfl⟩:=l;obtain ⟨j,g,o,O,p,r⟩:=W0 n;have w:z.cps.toList.length=z.length:=by simp [Str.length]
 rw [w] at g p r;have U:=Qj
 exact tail_any (typeIs_str s z t) slot_str_getitem.lookup (getItem_str (by
  have e1:decide (i< -(2^63))=false:=decide_eq_false (by omega);have e2:decide (i>=2^63)=false:=decide_eq_false (by omega)
  rw [e1,e2,rQ]) (by rw [g];simpa using o) ⟨.str ⟨#[c]⟩,H,I.tok _,⟨_,rfl⟩,q⟩) m
def Eg (K:ay):R2:=λx y H Q=>ti K x y H Q\/tj K x y H Q\/tm x y H Q
def k9:ni X (Eg X.K):=nQ.or (pA.or Gz)
def Yy (c:List Value) (n j:Nat) (u:Value):to (·.setIfInBounds j u) {cls:= .type "list",data:= .seq c.toArray n}={cls:= .type "list",data:= .seq (c.set j u).toArray n}:=by
 simp [to]
def aq.ag {d:List (Addr×Obj)} {i:St} {H:Hp} {s:aB} {p:Addr} {g:List V} (I:aq X d i H s) (h:H p=some (.ag g)):
  ∃(c:List Value) (n:Nat),aE g c/\s.heap.get? p=some {cls:= .type "list",data:= .seq c.toArray n}/\g.length<=aR:=by
 obtain ⟨z,c,n,r,e⟩:=I.aP p _ h;exact ⟨c,n,r,e,z⟩
def aq.pB {d:List (Addr×Obj)} {k:St} {H:Hp} {s:aB} {p:Addr} {m i:List V} {g c:List Value} {n j:Nat} {f:Obj->Obj} (I:aq X d k H s) (h:H p=some (.ag m))
  (o:s.heap.get? p=some {cls:= .type "list",data:= .seq g.toArray n}) (l:f {cls:= .type "list",data:= .seq g.toArray n}={cls:= .type "list",data:= .seq c.toArray j}) (r:aE i c) (v:i.length<=aR) (t:Nat):
  aq X d k (aJ H p (.ag i)) {s with heap:=s.heap.update p f,toks:=t}:=by
 have e:(s.heap.update p f).get? p=some {cls:= .type "list",data:= .seq c.toArray j}:=by
  rw [BS f o (by rw [l]<;>rfl),l]
 refine I.write (x:=p) (e:=p) (by rw [h];trivial) (.inl rfl) (λb u w q=>(Heap.get?_update_other _ _ (m6 w)).trans q) ⟨_,e⟩ ?_;exact ⟨v,c,j,r,e⟩
def GA:V->V->V->Hp->(Hp->Prop)->Prop:=λo i v H Q=> ∃p c k j,o= .ref p/\i= .int k/\H p=some (.ag c)/\iM c.length k=some j/\Q (aJ H p (.ag (c.set j v)))
def Ue:sM X GA:=by
 intro c s J H o i v ov iv u Q I O U Y h;obtain ⟨p,Z,k,j,rfl,rfl,w,hj,q⟩:=h;cases O;obtain ⟨t,rfl⟩:=U;obtain ⟨d,n,r,g,hz⟩:=I.ag w;obtain ⟨e,h2,y,z⟩:=K9 hj;have l:=r.length;have hn:=Qj
 have B:aq X c J (aJ H p (.ag (Z.set j v))) {s with heap:=s.heap.update p (to (·.setIfInBounds j u))}:=
   I.pB w g (Yy d n j u) (r.set Y j) (by rw [pC];exact hz) s.toks
 by_cases E:0<=k
 . have m:k.toNat=j:=by
    rw [seqIndex_of E z] at e;exact fQ e
   exact PySem.W.ki_setAt g E (by omega) (by rw [cA,<-l];exact z) (by rw [m];exact ⟨_,B,q⟩)
 . have m:(k+(d.toArray.size:Int)).toNat=j:=by
    rw [seqIndex_neg (by omega) y] at e;rw [cA,<-l];exact fQ e
   exact PySem.W.ki_setBack g (by omega) (by rw [cA,<-l];exact y) (by omega) (by rw [m];exact ⟨_,B,q⟩)
def Zy (lo c:Option Int) (n:Nat):(pD lo c none n).1=((HT.bz n 0 lo:Nat):Int)/\(pD lo c none n).2.1=((HT.bz n n c:Nat):Int)/\(pD lo c none n).2.2=1:=by
 refine ⟨?_,?_,rfl⟩
 . cases lo with
   |none=>simp [pD,HT.bz]
   |some i=>
    simp only [pD,HT.bz,BU,show (1)>0 by decide,if_true]
    by_cases h:i<0
    . simp only [h,if_true]<;>omega
    . simp only [h,if_false]<;>omega
 . cases c with
   |none=>simp [pD,HT.bz]
   |some i=>
    simp only [pD,HT.bz,BU,show (1)>0 by decide,if_true]
    by_cases h:i<0
    . simp only [h,if_true]<;>omega
    . simp only [h,if_false]<;>omega
def QH (c:List Value) (lo d:Option Int):slicePick c.toArray lo d none=((c.drop (HT.bz c.length 0 lo)).take (HT.bz c.length c.length d-HT.bz c.length 0 lo)).toArray:=by
 obtain ⟨e,g,h⟩:=Zy lo d c.toArray.size;unfold slicePick;rw [e,g,h];simp only [sliceRange_one,pick_run,cA]<;>rfl
def tq (K:ay):V->Option Int->Option Int->Hp->VK->Prop:=λx lo d H Q=> ∃a c,x= .ref a/\dg K H a c/\ ∀p,H p=none->Q (.ref p) (aJ H p (.ag (i2 c lo d)))
def iN:nP X (tq X.K):=by
 intro e s t H x v u w lo g y Q I j k l m h;obtain ⟨a,c,rfl,n,q⟩:=h;cases j;obtain ⟨o,r,i,p⟩:=I.list n;have d:=r.length;refine ⟨"list",_,slot_list_getitem.lookup,i.isList.typeIs,?_⟩;refine wpAny_getItem_list_slice i.isList k l m .none (by simp) ?_ (by rw [cA]<;>omega);rw [QH,<-d];refine ⟨.ref s.heap.objs.size,_,I.laid (λb ob q=>cu _ q) (a9 _) ?_,rfl,q _ (I.aP.fresh (a9 _))⟩;exact ⟨dE (JK c lo g) p,_,0,(r.drop (HT.bz c.length 0 lo)).take (HT.bz c.length c.length g-HT.bz c.length 0 lo),ej _ rfl⟩
def gj:bf X (.builtin "len") (λj H Q=> ∃p d,j=[.ref p]/\(dg X.K H p d\/eI X.K H p d)/\Q (.int d.length) H):=by
 intro k s n H j o Q I r h;obtain ⟨p,d,rfl,hq,q⟩:=h;obtain ⟨u,rfl,l⟩:=QC r;cases l;have t:=Qj;rcases hq with hq|hq
 . obtain ⟨e,g,i,m⟩:=I.list hq;have c:=g.length;exact Calls.call_len_list i.isList (by simp only [cA]<;>omega) ⟨.int d.length,H,I.tok _,⟨s.toks+1,by rw [cA,c]⟩,q⟩
 . obtain ⟨e,g,i,m⟩:=I.tuple hq;have c:=g.length;exact len_tuple i (by simp only [cA]<;>omega) ⟨.int d.length,H,I.tok _,⟨s.toks+1,by rw [cA,c]⟩,q⟩
def Z8:bf X (.builtin "len") (λc H Q=> ∃z,c=[.str z]/\z.length<=aR/\Q (.int z.length) H):=by
 intro d s e H c g Q I r h;obtain ⟨z,rfl,i,q⟩:=h;obtain ⟨u,rfl,t,rfl⟩:=QC r;have j:=Qj;exact len_str (by omega) ⟨.int z.length,H,I.tok _,⟨_,rfl⟩,q⟩
def bf.or {f:Value} {r e:List V->Hp->VK->Prop} (h:bf X f r) (k:bf X f e):bf X f (λd H Q=>r d H Q\/e d H Q):=by
 intro c s g H d i Q I j q;rcases q with q|q
 . exact h c s g H d i Q I j q
 . exact k c s g H d i Q I j q
def zi:bf X (.type "list") (λE H Q=> ∃p g,E=[.ref p]/\(dg X.K H p g\/eI X.K H p g)/\ ∀l,H l=none->Q (.ref l) (aJ H l (.ag g))):=by
 intro k s O H E Y Q I r h;obtain ⟨p,g,rfl,hq,q⟩:=h;obtain ⟨u,rfl,U⟩:=QC r;cases U
 have m: ∀(c:List Value),aE g c->g.length<=aR-> ∀(d:Heap) i,(∀b J,s.heap.get? b=some J->d.get? b=some J)->
    d.get? s.heap.objs.size=some {cls:= .type "list",dict:=none,data:= .seq c.toArray i,slots:= #[]}->EP X k O Q (.ref s.heap.objs.size) {s with heap:=d}:=λc j t d i v e=>
   ⟨.ref s.heap.objs.size,_,I.laid v (a9 _) (show aT X.prog X.w _ d _ (.ag g) from ⟨t,c,i,j,e⟩),rfl,q _ (I.aP.fresh (a9 _))⟩
 rcases hq with hq|hq
 . obtain ⟨c,j,y,t⟩:=I.list hq;have w:=j.length;obtain ⟨o,z,B,n,hd⟩:=y.isList;exact call_list_seq p (.inl rfl) z B hd (λd i v e=>m c j t d i v e) (by simp only [cA]<;>omega)
 . obtain ⟨c,j,y,t⟩:=I.tuple hq;have w:=j.length;obtain ⟨o,z,B,n,hd⟩:=y;exact call_list_seq p (.inr rfl) z B hd (λd i v e=>m c j t d i v e) (by simp only [cA]<;>omega)
def qS:bf X (.type "tuple") (λn H Q=> ∃p g,n=[.ref p]/\((dg X.K H p g/\ ∀l,H l=none->Q (.ref l) (aJ H l (.ah g)))\/(eI X.K H p g/\Q (.ref p) H))):=by
 intro c s t H n J Q I r h;obtain ⟨p,g,rfl,h⟩:=h;obtain ⟨u,rfl,z⟩:=QC r;cases z;rcases h with ⟨j,q⟩| ⟨j,q⟩
 . obtain ⟨d,k,m,v⟩:=I.list j;have w:=k.length;refine call_tuple_list m.isList (λi B=>?_) (by simp only [cA]<;>omega);have y:aq X c t H {s with heap:=i}:=I.kept (t':=s.toks) B
   have E:aq X c t (aJ H i.objs.size (.ah g)) {s with heap:=i.push {cls:= .type "tuple",data:= .seq d.toArray}}:=
    y.laid (t':=s.toks) (λb o e=>cu _ e) (a9 _) (show aT X.prog X.w _ _ _ (.ah g) from ⟨v,d,k,IsTup.new _ _⟩)
   exact ⟨.ref i.objs.size,_,E,rfl,q _ (y.aP.fresh (a9 _))⟩
 . obtain ⟨d,k,m,v⟩:=I.tuple j;exact call_tuple_same m ⟨.ref p,H,I,rfl,q⟩
def Eh (K:ay) (T:String) (x:V) (H:Hp):Prop:=match x with
 | .str _=>T= "str"
 | .int _=>T= "int"
 | .ref p=>(T= "list" /\ ∃d,dg K H p d)\/(T= "tuple" /\ ∃o,K.lookup p=some o/\o.cls= .type "tuple" /\o.dict=none)\/
  (T= "dict" /\((∃c,H p=some (.dK c))\/ ∃c,H p=some (.dT c)))\/(T= "set" /\ ∃S n,H p=some (.set S n))
 |_=>False
def GB {h:List (Addr×Obj)} {m:St} {H:Hp} {s:aB} {T:String} {x:V} {v:Value} (I:aq X h m H s) (r:aG x v) (j:Eh X.K T x H):
  s.TypeIs v T/\ ∀a,v= .ref a-> ∃ob,s.heap.get? a=some ob/\ob.dict=none:=by
 cases x with
 |str z=>
  obtain ⟨t,rfl⟩:=r;cases (j);exact ⟨typeIs_str s z t,λ_ e=>nomatch e⟩
 |int i=>
  obtain ⟨t,rfl⟩:=r;cases (j);exact ⟨pE s i t,λ_ e=>nomatch e⟩
 |ref p=>
  cases r;rcases j with ⟨rfl,y,q⟩| ⟨rfl,o,d,u,hd⟩| ⟨rfl,d⟩| ⟨rfl,S,n,d⟩
  . obtain ⟨w,_,l,_⟩:=I.list q;refine ⟨l.isList.typeIs,λa e=>?_⟩;cases e;obtain ⟨o,n,e,c,hd,_⟩:=l;exact ⟨o,e,hd⟩
  . refine ⟨⟨o,I.dD p o d,u⟩,λa e=>?_⟩;cases e;exact ⟨o,I.dD _ o d,hd⟩
  . have z: ∃o,s.heap.get? p=some o/\o.ExactDict:=by
     rcases d with ⟨k,d⟩| ⟨k,d⟩
     . obtain ⟨_,_,_,_,o,_,_,e,g,_⟩:=I.aP p _ d;exact ⟨o,e,g⟩
     . obtain ⟨_,_,_,_,o,_,_,e,g,_⟩:=I.aP p _ d;exact ⟨o,e,g⟩
    obtain ⟨o,e,g⟩:=z;refine ⟨⟨o,e,g.1⟩,λa e2=>?_⟩;cases e2;exact ⟨o,e,g.2.1⟩
  . obtain ⟨o,_,_,_,e,g,_⟩:=I.aP p _ d;refine ⟨⟨o,e,g.1⟩,λa e2=>?_⟩;cases e2;exact ⟨o,e,g.2.1⟩
 |_=>exact hJ j
def GC (K:ay) (T:String) (r:V->List V->Hp->VK->Prop) (O:TE) (t:TA):TE:=λc H Q=>O c H λx d=>Eh K T x d/\t c d λe g=>r x e g Q
variable {o e:Expr} {U:List Expr} {O:TE} {t:TA} {name:Str} {Y Z:Pos} {T id:String} {r:V->List V->Hp->VK->Prop}
def Uw (y:PlainAttrs T) (slot:Slot T name id) (l:typeOf (.builtin id)=pure (.type "method_descriptor")) (z:Ef X id r) (B:PE X o O) (E:PA X (e::U) t)
  (g:ng o name X.env (eval o X.env)=eval o X.env:=by rfl)
  (k:((dO Z (bp (e::U) X.env)).all (λx=>!x.1)&&(lF Z (lG [] X.env)).all (λx=>x.1.isSome)
   &&decide ((e::U).length+([]:List hB).length+(if ([]:List hB).isEmpty then 0 else 1)<30))=true:=by rfl)
  (i:(Y.endLine==Z.line)=true:=by rfl) (J:T9 X e U:=by rfl) (d:T8 X Z U:=by rfl):
  PE X (.Call (.Attribute o name Y) (e::U) [] Z) (GC X.K T r O t):=by
 intro c s m H Q I h;refine wpAny_Call_method_late g k i rfl (bn (B c s m H _ I h) λv s1 n=>?_);obtain ⟨x,H1,q,u,ty,q1⟩:=n;obtain ⟨h1,h2⟩:=GB q u ty;refine ⟨T,id,y,slot,l,h1,h2,?_⟩;have w:=E Z c s1 m H1 _ q q1;rw [J] at w ⊢;refine Calls.callWith_builtin (by show (false|| (dO Z (bp U X.env)).any (·.1))=false;rw [d]<;>rfl) (Calls.evalArgs_plain ?_);exact bn w λus s2 ⟨vs,H2,I2,r2,q2⟩=>z c s2 m H2 x vs v us Q I2 u r2 q2
/-xs.append(e),list.index on a j tuple .. are Ef p of 06m-/
end
def Ei (X:Cx) (id:String) (r:V->List V->Hp->VK->Prop):Prop:=
 ∀(a:List (Addr×Obj)) (s:aB) (c:St) (H:Hp) (x:V) (d:List V) (v:Value) (e:List Value) (Q:VK),aq X a c H s->aG x v->aE d e->r x d H Q->
  wpAny (model X.prog X.w) X.A (call (.builtin id) (v::e)) (EP X a c Q) X.xe s
theorem aE.one: ∀ {x:V} {a:List Value},aE [x] a-> ∃u,a=[u]/\aG x u
 |_,_,.cons r .nil=>⟨_,rfl,r⟩
theorem aE.rep {a:List V} {c:List Value} (h:aE a c): ∀k:Nat,aE (eR k a).flatten (eR k c).flatten
 |0=> .nil
 |k+1=>by
  rw [pF,pF,rR,rR];exact aE.append h (aE.rep h k)
theorem Z0 (a:List Value): ∀(k:Nat) (c:List Value),
  List.foldl (λd g=>d++g) c.toArray (eR k a.toArray)=(c++(eR k a).flatten).toArray
 |0,c=>by simp
 |k+1,c=>by
  have e:c.toArray++a.toArray=(c++a).toArray:=by simp
  have e2:(c++a)++(eR k a).flatten=c++(eR (k+1) a).flatten:=by
   rw [pF,rR,ia]
  rw [<-e2,<-Z0 a k (c++a),<-e,pF,List.foldl_cons]
section
variable {X:Cx} {p:List (Addr×Obj)} {i:St} {H:Hp} {s:aB} {l b:Addr} {g j zs:List V}
def aq.tr {c a:List Value} {n:Nat} {f:Array Value->Array Value} {d:Nat} (I:aq X p i H s) (h:H l=some (.ag g))
  (e:s.heap.get? l=some {cls:= .type "list",data:= .seq c.toArray n}) (k:f c.toArray=a.toArray) (m:aE j a) (o:j.length<=aR):
  aq X p i (aJ H l (.ag j)) {s with heap:=s.heap.update l (to f),toks:=d}:=by
 have q:=PySem.IsL.update e f;rw [k] at q;refine I.write (by rw [h];exact trivial) (.inl rfl) (λv u r t=>(Heap.get?_update_other s.heap (to f) (m6 r)).trans t) ⟨_,q⟩ ?_;exact ⟨o,a,_,m,q⟩
def aq.tt {a:List Value} {t':Nat} (I:aq X p i H s) (c:aE j a) (d:j.length<=aR):
  aq X p i (aJ H s.heap.objs.size (.ag j)) {s with heap:=s.heap.push {cls:= .type "list",data:= .seq a.toArray},toks:=t'}:=
 I.laid (λ_ _ q=>cu _ q) (a9 _) ⟨d,a,0,c,ej _ rfl⟩
def aq.fresh (I:aq X p i H s):H s.heap.objs.size=none:=I.aP.fresh (a9 _)
def aq.nR (I:aq X p i H s) (c:H l=some (.ag g)):g.length<=aR/\ ∃(a:List Value) (n:Nat),aE g a/\g.length=a.length/\s.heap.get? l=some {cls:= .type "list",data:= .seq a.toArray n}:=by
 obtain ⟨z,a,n,r,e⟩:=I.aP l _ c;exact ⟨z,a,n,r,r.length,e⟩
end
section
variable {X:Cx}
def vP:V->List V->Hp->VK->Prop:=λx c H Q=> ∃l a y,x= .ref l/\c=[y]/\H l=some (.ag a)/\a.length<aR/\Q .aO (aJ H l (.ag (a++[y])))
def xX:Ei X "list.append" vP:=by
 intro c s k H x m v o Q I g i h;obtain ⟨l,p,y,rfl,rfl,d,t,q⟩:=h;cases g;obtain ⟨u,rfl,j⟩:=i.one;obtain ⟨z,a,n,r,w,e⟩:=I.nR d;refine nS AB ⟨_,e,rfl⟩ F.entry_list_append (F.args_list_append_2 _ _) (PySem.list_append l a.toArray n u (by rw [cA];omega)) ⟨e,?_⟩;refine ⟨.aO,_,I.tr d e (by simp) (r.append (.cons j .nil)) ?_,rfl,q⟩;rw [dH,gz];omega
def lX:R2:=λx y H Q=> ∃l b a c,x= .ref l/\y= .ref b/\H l=some (.ag a)/\H b=some (.ag c)/\a.length+c.length<=aR/\ ∀p,H p=none->Q (.ref p) (aJ H p (.ag (a++c)))
def pG:b7 X (eU .Add) lX:=by
 intro d s t H x y v u Q I g i h;obtain ⟨l,b,w,B,rfl,rfl,j,k,E,q⟩:=h;cases g;cases i;obtain ⟨z,c,n,r,J,e⟩:=I.nR j;obtain ⟨L,a,N,m,o,e2⟩:=I.nR k;refine PySem.P.add_list e e2 ?_ (by rw [cA,cA];omega);have p:c.toArray++a.toArray=(c++a).toArray:=by simp
 rw [p];exact ⟨.ref _,_,I.tt (r.append m) (by rw [dH];omega),rfl,q _ I.fresh⟩
def K3 {c:Type} (a:List c) (k:Nat):(eR k a).flatten.length=k*a.length:=by
 induction k with
 |zero=>simp
 |succ k d=>rw [pF,rR,dH,d,Nat.succ_mul,Nat.add_comm]
end
section
variable {Q:Type} [DecidableEq Q]
def dW (a:List (Q×V)) (k:Q):Option V:=(a.find? λc=>decide (c.1=k)).map (·.2)
def putK (a:List (Q×V)) (k:Q) (v:V):List (Q×V):=
 if (a.any λc=>decide (c.1=k))=true then a.map (λc=>if c.1=k then (c.1,v) else c) else a++[(k,v)]
def QD {p:Q×V} {r:List (Q×V)} {k:Q} (e:p.1=k):dW (p::r) k=some p.2:=by simp [dW,pH,e]
def QE {p:Q×V} {r:List (Q×V)} {k:Q} (e: ¬p.1=k):dW (p::r) k=dW r k:=by simp [dW,pH,e]
theorem W7 (k:Q): ∀a:List (Q×V),(a.any λc=>decide (c.1=k))=(dW a k).isSome
 | []=>rfl
 |p::r=>by
  rw [List.any_cons]
  by_cases e:p.1=k
  . simp only [QD e,decide_eq_true e,Bool.true_or,Option.isSome_some]
  . rw [QE e,decide_eq_false e,Bool.false_or];exact W7 k r
def dq.i3 {o:Option V} {u:Option Value} (r:dq o u):o.isSome=u.isSome:=by
 cases o with
 |none=>cases u with
  |none=>rfl
  |some _=>exact (r).elim
 |some _=>cases u with
  |none=>exact (r).elim
  |some _=>rfl
def KV.val {a:List (Q×V)} {g:List (Q×Value)} (r:KV a g) (k:Q):dq (dW a k) (valueAt g k):=by
 induction r with
 |nil=>exact nL
 | @cons p q ps c h t j=>
  obtain ⟨i,l⟩:=h
  by_cases e:p.1=k
  . have d:=i.symm.trans e;have b:valueAt (q::c) k=some q.2:=by simp [valueAt,pH,d]
    rw [QD e,b];exact l
  . have d: ¬q.1=k:=λz=>e (i.trans z)
    have b:valueAt (q::c) k=valueAt c k:=by simp [valueAt,pH,d]
    rw [QE e,b];exact j
end
def Ej {P:bI} {w:World} {k:aI} {u:Value} (r:aG (kV k) u):(jV P w).is k u=true:=by
 cases k with
 |inl i=>obtain ⟨t,e⟩:=(r);subst e;exact WH P w i t
 |inr x=>obtain ⟨t,e⟩:=(r);subst e;exact WG P w x t
theorem ZV {P:bI} {w:World}: ∀ {ks:List aI} {us:List Value},aE (ks.map kV) us->ItemsAre (jV P w) ks us
 | [],_,r=>by rw [List.map_nil] at r;cases r;exact .nil
 |k::ks,_,r=>by
  cases r with
  |cons h t=>exact .cons (Ej h) (ZV t)
abbrev KT (H:Hp):List (List aI×V)->List (List aI×Addr×Value)->Prop:=iU λp q=>p.1=q.1/\H q.2.1=some (.ah (p.1.map kV))/\aG p.2 q.2.2
def KT.val {H:Hp} {a:List (List aI×V)} {g:List (List aI×Addr×Value)} (r:KT H a g) (k:List aI):dq (dW a k) ((atKey g k).map (·.2)):=by
 induction r with
 |nil=>exact nL
 | @cons p q ps c h t j=>
  obtain ⟨i,_,l⟩:=h
  by_cases e:p.1=k
  . have d:=i.symm.trans e;have b:atKey (q::c) k=some q.2:=by simp [atKey,pH,d]
    rw [QD e,b];exact l
  . have d: ¬q.1=k:=λz=>e (i.trans z)
    have b:atKey (q::c) k=atKey c k:=by simp [atKey,pH,d]
    rw [QE e,b];exact j
def KT.BV {H:Hp} {a:List (List aI×V)} {g:List (List aI×Addr×Value)} (r:KT H a g) (k:List aI) {y:V} {u:Value} (j:aG y u):
  KT H (a.map λd=>if d.1=k then (d.1,y) else d) (g.map (putAt k u)):=by
 induction r with
 |nil=>exact .nil
 | @cons p q ps n h t l=>
  rw [fy,fy];refine .cons ?_ l;obtain ⟨c,i,m⟩:=h;unfold putAt
  by_cases e:p.1=k
  . rw [if_pos e,if_pos (c.symm.trans e)];exact ⟨c,i,j⟩
  . rw [if_neg e,if_neg (λz=>e (c.trans z))];exact ⟨c,i,m⟩
def KT.put {H:Hp} {a:List (List aI×V)} {c:List (List aI×Addr×Value)} (r:KT H a c) (k:List aI) {b:Addr} {y:V} {u:Value} (g:H b=some (.ah (k.map kV))) (d:aG y u):
   KT H (putK a k y) (storedH c k b u):=by
 have e:(a.any λh=>decide (h.1=k))=(atKey c k).isSome:=by
   rw [W7,(r.val k).i3,Option.isSome_map]
 unfold putK storedH;rw [e]
 by_cases q:(atKey c k).isSome=true
 . rw [if_pos q,if_pos q];exact r.BV k d
 . rw [if_neg q,if_neg q];exact Paired.snoc r ⟨rfl,g,d⟩
def KT.keeps {H c:Hp} {a:List (List aI×V)} {d:List (List aI×Addr×Value)} (r:KT H a d) (g: ∀b e,H b=some (.ah e)->c b=some (.ah e)):KT c a d:=
 iU.o6 r λ_ _ z=>⟨z.1,g _ _ z.2.1,z.2.2⟩
section
variable {P:bI} {w:World} {H:Hp} {h:Heap} {a:Addr}
def Ek {u:HO} (ok:cM P w H h) (e:Rd H a u):aT P w H h a u:=e.ok ok
def El {c:List (aI×V)} (ok:cM P w H h) (e:Rd H a (.dK c)):c.length<=aR/\(a==m4)=false/\ ∃d,KV c d/\h.DictOf (jV P w) a d:=
 show aT P w H h a (.dK c) from Ek ok e
def XA {d:List aI} (ok:cM P w H h) (e:H a=some (.ah (d.map kV))):(lP (jV P w)).is h d a:=by
 obtain ⟨_,c,r,o,g,i,n,j⟩:=(ok a _ e)
 exact ⟨o,c.toArray,n,g,i,j,by simpa using ZV r⟩
def Em {c:List (List aI×V)} (ok:cM P w H h) (e:Rd H a (.dT c)):c.length<=aR/\(a==m4)=false/\
  ∃d,KT H c d/\h.DictOfH (lP (jV P w)) a d:=by
 obtain ⟨z,y,d,r,o,i,j,k,n,u,v,B⟩:=(Ek ok e)
 refine ⟨z,y,d,r,o,i,j,k,n,u,v,λx hx=>?_,B⟩
 have all: ∀ {l:List (List aI×V)} {m:List (List aI×Addr×Value)},KT H l m-> ∀x∈m,(lP (jV P w)).is h x.1 x.2.1:=by
  intro l m q
  induction q with
  |nil=>intro x hx;exact nomatch hx
  | @cons p q I J g t E=>
   intro x hx;rcases dP.mp hx with e|hx
   . subst e;exact XA ok (by rw [<-g.1];exact g.2.1)
   . exact E x hx
 exact all r x hx
end
def pI (H:Hp) (a:Addr) (y:V) (r:Option V):Prop:=
 (∃c k,Rd H a (.dK c)/\y=kV k/\r=dW c k)\/ ∃c k b,Rd H a (.dT c)/\y= .ref b/\H b=some (.ah (k.map kV))/\r=dW c k
section
variable {X:Cx} {q:List (Addr×Obj)} {d:St} {H:Hp} {s:aB} {a:Addr} {y v:V} {u r:Value} {o:Option V} {A:bV} {E:Ws}
def aq.big (I:aq X q d H s):m4<s.heap.objs.size:=by
 exact rS (by decide) ((I.mod.glob.keeps I.bk).lt)
def VL {Q:Ws} (L:A.units+1<cLine) (I:aq X q d H s) (g:pI H a y (some v)) (B:aG y u) (h: ∀j J,aq X q d H J->aG v j->Q j J):
   wpAny (model X.prog X.w) A (getItem (.ref a) u) Q E s:=by
 rcases g with ⟨m,k,e,n,l⟩| ⟨m,k,b,e,n,N,l⟩
 . subst n;obtain ⟨z,hd,U,c,t⟩:=El I.aP e;obtain ⟨j,hw,i⟩:=dq.some_of (by rw [l];exact c.val k);exact wpAny_getItem_of (Ej B) t.mapOf hw (h j _ (I.tok _) i)
 . subst n;cases (B);obtain ⟨z,hd,Y,c,t⟩:=Em I.aP e;obtain ⟨j,hw,i⟩:=dq.some_of (by rw [l];exact c.val k);obtain ⟨p,O,w⟩:=lH.mp hw;refine wpAny_getItem_heap (tupleKind_room_in1 L) (XA I.aP N) t O ?_;rw [w];exact h j _ (I.tok _) i
end
def WW {X:Cx} {c:List (Addr×Obj)} {i:St} {H:Hp} {s:aB} {a:Addr} {y:V} {o:Option V} (I:aq X c i H s) (g:pI H a y o):s.TypeIs (.ref a) "dict" :=by
 rcases g with ⟨d,k,e,_,_⟩| ⟨d,k,b,e,_,_,_⟩
 . obtain ⟨_,_,j,_,h⟩:=El I.aP e;exact h.typeIs
 . obtain ⟨_,_,l,_,h⟩:=Em I.aP e;exact h.typeIs
def kq {P:bI} {w:World} {H:Hp} (h:Heap) (a:m4<h.objs.size):aT P w H (h.push {cls:= .type "dict",data:= .dict #[]}) h.objs.size (.dK []):=
 ⟨eQ _,beq_eq_false_iff_ne.mpr (m6 (dN a)),[],.nil,Heap.DictOf.new h⟩
def GD:TE:=λ_ H Q=> ∀p,H p=none->Q (.ref p) (aJ H p (.dK []))
section
variable {X:Cx} {pos:Pos}
def Uu:PE X (.Dict [] [] pos) GD:=λa s c H Q I h=>
 wpAny_Dict_empty ⟨.ref s.heap.objs.size,_,I.laid (λ_ _ q=>cu _ q) (a9 _) (kq s.heap I.big),rfl,h _ (I.aP.fresh (a9 _))⟩
end
structure M1 (X:Cx) (o:Expr) (m:Str) (apos:Pos) (e:Expr) (bD:Pos):Prop where
 ae:ng o m X.env (eval o X.env)=eval o X.env
 GF:((dO bD (bp [e] X.env)).all (λx=>!x.1)&&(lF bD (lG [] X.env)).all (λx=>x.1.isSome)
  &&decide (([e]:List Expr).length+([]:List hB).length+(if ([]:List hB).isEmpty then 0 else 1)<30))=true
 line:(apos.endLine==bD.line)=true
 trees:dO bD (bp [e] X.env)=[(false,eval e X.env)]
structure M2 (X:Cx) (o:Expr) (m:Str) (apos:Pos) (e f:Expr) (bD:Pos):Prop where
 ae:ng o m X.env (eval o X.env)=eval o X.env
 GF:((dO bD (bp [e,f] X.env)).all (λx=>!x.1)&&(lF bD (lG [] X.env)).all (λx=>x.1.isSome)
  &&decide (([e,f]:List Expr).length+([]:List hB).length+(if ([]:List hB).isEmpty then 0 else 1)<30))=true
 line:(apos.endLine==bD.line)=true
 trees:dO bD (bp [e,f] X.env)=[(false,eval e X.env),(false,eval f X.env)]
end L2
namespace Att
open PySem PySem.W PySem.Calls PyProof.Rows
def Jy {P:Params} {h:Heap}: ∀(c:List Int) (d:List Value),WellAll P h d (c.map WData.int)->IntsAre d c:=by
 intro c
 induction c with
 |nil=>
  intro d w;cases w;exact .nil
 |cons n c e=>
  intro d w
  cases w with
  |cons a b=>
   cases a;exact .cons _ _ (e _ b)
def Kh {l:tu} {n:Nat} (u:l.most=some n) {P:Params} {h:Heap} {args:List WData} {c:List Value}
  (e:l.row.toRowW.claim.pre args=true) (m:WellAll P h c args):
  ∃a t g,c=[bP a]/\args=[WData.list (g.map WData.int)]/\h.get? a=some {cls:= .type "list",data:= .seq t.toArray}/\IntsAre t g/\g.length<=n:=by
 have o:=(pre_splitW e).1;have v:l.pre.holds [] {args:=args}=true:=(pre_splitW e).2;obtain ⟨d,r,rfl,w,y⟩:=hasAllW_cons o;obtain rfl:=hasAllW_nil y;obtain ⟨I,rfl,z⟩:=hasW_list w;obtain ⟨g,rfl⟩:=items_int z
 have i:g.length<=n:=by
  have k:(WTm.not (.lt (.lit (.int n)) (.len (.arg 0)))).holds [] {args:=[.list (g.map .int)]}=true:=by
   have k:=(holds_andW v).1;rw [u] at k;exact k
  have p:=condW_of k (w_not (w_lt w_lit (w_len_list (w_arg rfl))));refine rT λq=>?_
  first
   | (rw [decide_eq_true J] at p;exact absurd p (by decide))
   | (simp at p;omega)
 cases m with
 |cons B E=>
  cases E
  cases B with
  |list H j=>exact ⟨_,_,g,rfl,rfl,H,Jy g _ j,i⟩
def Kt (l:tu) (args:List WData):l.row.toRowW.claim.post args (.bool true) args=true:=
 postW_of
  (by first|rfl|decide|simp [WShape.has,WShape.arms,WShape.armsAll])
  (w_eq_bool (w_res rfl) w_lit) rfl
end Att
namespace L2
open PySem PySem.Spec PyProof.Rows
theorem Zs: ∀ {a:List Value} {c:List Int},IntsAre a c->aE (c.map V.int) a
 |_,_,.nil=> .nil
 |_,_,.cons n t h=> .cons ⟨t,rfl⟩ (Zs h)
def pJ (H:Hp):Prop:= ∀b,H b=none\/ ∃o a,H b=some (.bd o (.ag a))
def UR {P:bI} {w:World} {K:ay} {Y mb:Xd} {CX:i0} {k:Nat} {fa a:Addr} {fd:iK} {x:Str} {sp:Sp} {c:aB} {B:List Value} {E:List Int}
  (KX:K.In c.heap) (I:c.heap.Ns bv Y) (i:c.heap.Ns builtinsNs mb) (BW: ∀x:Str,x≠ "__name__" ->mb x=gH x) (J:c.heap.NoLimit) (hg:c.gens= #[])
  (Z:c.heap.get? a=some {cls:= .type "list",data:= .seq B.toArray}) (hi:IntsAre B E) (hl:E.length<=aR) (hr:aH k callerA)
  (F: ∀j:Heap,K.In j->j.Ns bv Y->cE P w K Y j CX k fa fd [x] sp) (y: ∀(s:aB) (u:Value),BindsTo s fd ⟨[u],[]⟩ [(x,u)])
  (GH: ∀H:Hp,pJ H->dg K H a (E.map V.int)->sp [.ref a] H (λv _=>v= .bl true) λ_ _ _=>False)
  (GI: ∀H e l,CX [] H c (λ_ _ _=>False) e l->False):
  lV (model P w) callerA (.call (.ref fa) ⟨[.ref a],[]⟩) (λr l=>r= .ok (.ret (.bool true))/\OldK c.heap l.heap/\l.os=c.os/\m5 l.gens) c:=by
 have rv:=Zs hi;have L:=hi.length
 have t: ∀H:Hp,pJ H->dg K H a (E.map V.int)->cM P w H c.heap->(∀b,H b≠none->b=a)->(H a≠none->K.lookup a=none)->
    lV (model P w) callerA (.call (.ref fa) ⟨[.ref a],[]⟩) (λr l=>r= .ok (.ret (.bool true))/\OldK c.heap l.heap/\l.os=c.os/\m5 l.gens) c:=by
  intro H hO hS N hA hK;have g: ∀ {b:Addr} {o:Obj},c.heap.get? b=some o->H b=none->(gG c.heap H).get? b=some o:=λe n=>UX e n
  have rN: ∀ {b:Addr} {o:Obj} {es:Array DictEntry} {ep:Nat},c.heap.get? b=some o->o.data= .dict es ep->H b=none:=λ{b o es ep} e d=>by
    cases q:H b with
    |none=>rfl
    |some u=>
      have e':=hA b (by rw [q];simp);subst e';rw [Z] at e;cases e;have d':=d;cases d'
  have p: ∀ {b:Addr} {m:Xd},c.heap.Ns b m->(gG c.heap H).Ns b m:=λ{b m} ⟨o,es,ep,e,d,r⟩=>⟨o,es,ep,g e (rN e d),d,r⟩
  have O:K.In (gG c.heap H):=λb o e=>g (KX b o e) (by
    cases q:H b with
    |none=>rfl
    |some u=>
      have e':=hA b (by rw [q];simp);subst e'
      rw [hK (by rw [q];simp)] at e;cases e)
  have hM:Mod K Y (gG c.heap H):=⟨O,p I,⟨mb,p i,BW⟩,let ⟨mc,h1,h2⟩:=J;⟨mc,p h1,h2⟩⟩
  refine rM ((F _ O (p I)).run callerA [] c H ⟨[.ref a],[]⟩ [.ref a] [.ref a] _ _ hr (⟨rfl,hM,λb o e=>uj e,Nat.le_of_eq (Vj _ _),trivial,λb i=>absurd (show b∈([]:List Addr) from i) (by simp),N,.of_eq hg⟩) (y c (.ref a)) (.cons rfl .nil) (GH H hO hS)) λr l h=>?_
  cases r with
  |error e=>exact (GI H e l h).elim
  |ok fl=>
    cases fl with
    |next=>exact hJ h
    |brk=>exact hJ h
    |cont=>exact hJ h
    |ret u=>
      obtain ⟨v,H',os,bare,un,Q,r',q⟩:=h;have q':=q;subst q';obtain rfl:u=iT true:=r';refine ⟨rfl,OldK.of_keep λb o e=>?_,os,bare⟩
      cases q:H b with
      |none=>exact un.keep b o e q (by intro z;exact absurd (show b∈([]:List Addr) from z) (by simp)) (by simp)
      |some u=>
       rcases hO b with z| ⟨ob,xs,z⟩
       . rw [q] at z;cases z
       . have z2:=un.cY b ob _ z;obtain ⟨e1,_⟩:=N b _ z;obtain ⟨e2,_⟩:=Q b _ z2;rw [e] at e1;cases e1;exact e2
 cases hk:K.lookup a with
 |some o=>
  have e:=KX a o hk;rw [Z] at e;cases e;refine t (λ_=>none) (λ_=> .inl rfl) (.inr ⟨_,B.toArray,_,hk,rfl,rfl,rfl,by rw [cA,L];exact hl,by simpa using rv⟩) (λb u z=>by have U:none=some u:=z;cases U) (λb z=>absurd rfl z) λz=>absurd rfl z
 |none=>
  refine t (λb=>if b=a then some (.bd {cls:= .type "list",data:= .seq B.toArray} (.ag (E.map V.int))) else none) (λb=>?_) (.inl (.inr ⟨{cls:= .type "list",data:= .seq B.toArray},if_pos rfl⟩)) (λb u z=>?_) (λb z=>?_) λ_=>hk
  . by_cases i:b=a
    . exact .inr ⟨_,_,if_pos i⟩
    . exact .inl (if_neg i)
  . by_cases i:b=a
    . have U:=(if_pos i).symm.trans z;cases U;subst i;exact ⟨Z,by rw [bB];exact hl,B,_,rv,Z⟩
    . have U:=(if_neg i).symm.trans z;cases U
  . by_cases i:b=a
    . exact i
    . exact absurd (if_neg i) z
end L2
/-MI GJ AC (shape;MJ,My.*are Eo):
 My.MK:a structure of GK addresses GL GN Ep names (classes,rV);My.Txt K t:a structure (Prop) of GK equations over K;
 My.pK:{K} {implicit addresses ..} (e1:nsIn K bv "law" =some (some (.ref f))) (e2:K.lookup f=some ⟨oc,od,.func (fnOf "law" "law" params body scope dV kV doc pm an tw ct),sl⟩) (e3:rO K tw "law" =true) .. : ∃t,My.Txt K t
set_option maxRecDepth 100000 in
set_option maxHeartbeats 0 in
theorem PySem.Challenge.nU:PySem.Challenge.pL.Holds:=by
 w_on;o_law;k_head;(case hw=>w_witness2)
 k_fill
 refine L2.AD (l:=PySem.Challenge.pL) (n:=63) (k:=40) (x:= "script") (CX:=λw=> ..) (sp:=λ_=>g.BX) rfl (by decide) rfl ⟨rfl,by decide,by decide⟩ (λw h Y=>PySem.W.kIn_of Y) ?F ?S ?C
 case F=>
  intro w mg z h y G j
  have T: ∃t,g.Txt (L2.GO y) t:=by
   dsimp only [L2.GO]                          --K aS m E «<heap const>w.params» for k_is;refine' g.pK ?e1 ?e2 ?e3 ..
   (case e1=>PySem.W.k_is)                    --in d order:a name->e c->e i->e o
   (case e2=>PySem.W.k_is)
   ..
  obtain ⟨t,T⟩:=T;have e0:=j.symm.trans (eJ y G T.ML);cases e0                                       --z I d p av c;exact ⟨_,λs u=> .of_eq rfl,λae q nb=>g.pM T q nb⟩     --if «.of_eq rfl» r B v:refine' ⟨_,?b,λae q nb=>g.pM T q nb⟩;exact λs u=> .of_eq rfl
 case S=>exact λw H a ns J L N=> ..
 case C=>exact ..
(d tactic k_is has O namespace:write k_is)-/
namespace L2
open PySem PySem.Spec PyProof.Rows
def Vg (s:Stmt) (j:Nat):Stmt:=match s with
 | .ClassDef _ _ _ a _ _ _ _ _ _ _=>a.getD j (.Pass ⟨0,0,0,0⟩)
 |_=> .Pass ⟨0,0,0,0⟩
def xg (s:Stmt):Arguments:=match s with
 | .FunctionDef _ a _ _ _ _ _ _ _ _=>a
 |_=> {posonlyargs:=[],args:=[],vararg:=none,kwonlyargs:=[],kw_defaults:=[],kwarg:=none,defaults:=[]}
def qr (s:Stmt):List Stmt:=match s with
 | .FunctionDef _ _ b _ _ _ _ _ _ _=>b
 |_=>[]
def jj (s:Stmt):Scope:=match s with
 | .FunctionDef _ _ _ _ _ _ a _ _ _=>a
 |_=> {kind:= .function,names:=[],isGenerator:=false,isCoroutine:=false}
abbrev hD:i0:=λ_ _ _ _ _ _=>False
abbrev E0:XK:=λ_ _ _=>False
def Ux {X:Cx}:Wh hD X E0:=λ_ _ _ _ _ _ _ h=>h.elim
structure iO (K:ay) (x qual:Str) (st:Stmt) (f:Addr) (fd:iK):Prop where
 ex: ∃(oc:Value) (od:Option Addr) (kV doc pm:Value) (an:Option Addr) (tw ct:Value) (Ay:Array (Option Value)),
  fd=nh x qual (xg st) (qr st) (jj st) .none kV doc pm an tw ct/\K.lookup f=some ⟨oc,od,.func fd,Ay⟩/\rO K tw qual=true
 kp:h8 K (.ref f)=true
section
variable {P:bI} {w:World} {K:ay} {mg:Xd} {ae:Heap}
def iO.ok {x a:Str} {st:Stmt} {f:Addr} {l:iK} {N ps:List Str} {k:Nat} {g:Sp} (F:iO K x a st f l) (S:aC N ps (jj st)) (len: ∀d H Q E,g d H Q E->d.length=ps.length)
  (e: ∀(c:Value) (A:bV) (outer:List Env) (s:aB) (H:Hp) (d:List V) (Q:VK) (E:XK),aH k (A.deeper (gx a (jj st) s.heap.objs.size f c))->g d H Q E->
   ∃t,cb (bH hD P w K mg ae N a (jj st) f c A outer s H E).m8 (qr st) t/\t {nx:=λ_ m=>Q .aO m,rt:=Q} (start N d) H):cE P w K mg ae hD (k+1) f l ps g:=by
 obtain ⟨r,u,kV,n,v,y,c,ct,o,rfl,lk,i⟩:=F.ex;refine Ec lk i S len λA outer s H d Q E p j=>?_
 obtain ⟨t,h,q⟩:=e c A outer s H d Q E p j;exact ⟨t,h.m8,q⟩
def iO.binds {x a:Str} {st:Stmt} {f:Addr} {j:iK} {ps:List Str} (F:iO K x a st f j)
  (h: ∀(kV c e:Value) (g:Option Addr) (d ct:Value) (i:List Value),i.length=ps.length->bindArgs (nh x a (xg st) (qr st) (jj st) .none kV c e g d ct) ⟨i,[]⟩=pure (ps.zip i)):Binds K j ps []:=by
 obtain ⟨m,n,kV,c,e,g,d,ct,k,rfl,lk,l⟩:=F.ex;exact .all (h kV c e g d ct)
def vg {x a:Str} {st:Stmt} {f:Addr} {m:Value} {n h:Option Addr} {g:Array (Option Value)} {kV e i d j:Value} (l:K.lookup f=some ⟨m,n,.func (nh x a (xg st) (qr st) (jj st) .none kV e i h d j),g⟩)
 (c:rO K d a=true) (k:h8 K (.ref f)=true):iO K x a st f (nh x a (xg st) (qr st) (jj st) .none kV e i h d j):=⟨⟨m,n,kV,e,i,h,d,j,g,rfl,l,c⟩,k⟩
end
def GP {A:bV} {k:Nat} (a:aH k A):A.units+1<cLine:=AE (Nat.add_le_add_left (by decide) _) a.units
def am (H a:Hp):Prop:= ∀b o,H b=some o->a b=some o
def am.refl (H:Hp):am H H:=λ_ _ h=>h
def am.trans {H d e:Hp} (a:am H d) (b:am d e):am H e:=λc o h=>b c o (a c o h)
def am.free {H a:Hp} (e:am H a) {l:Addr} (h:a l=Option.none):H l=Option.none:=by
 cases q:H l with
 |none=>rfl
 |some o=>
  rw [e l o q] at h;cases h
end L2
set_option autoImplicit true
set_option relaxedAutoImplicit true
namespace M
open PySem PySem.Spec L2
open PyProof.Rows hiding St
def eK {a:Scope} {x:Str} (h:(match a.names.lookup x with|some .local=>true|some .cell=>true|some .free=>true|_=>false)=true):gJ a x:=by
 unfold gJ
 cases e:a.names.lookup x with
 |none=>rw [e] at h;cases h
 |some k=>rw [e] at h;cases k<;>simp at h ⊢
def dI {a:Scope} {x:Str} (h:(match a.names.lookup x with|some .local=>true|some .cell=>true|_=>false)=true):L2.Loc a x:=by
 unfold L2.Loc
 cases e:a.names.lookup x with
 |none=>rw [e] at h;cases h
 |some k=>rw [e] at h;cases k<;>simp at h ⊢
inductive D where
 |aO|bl (b:Bool)|int (i:Int)|str (x:Str)
 |ah (ds:List D)|ag (ds:List D)|aU (ds:List D)|cv (ks:List aI) (vs:List D)|cO (ks:List (List aI)) (vs:List D)|di (c:Str)|eW (ks:List aI) (vs:List D)|dz (ks:List (List aI)) (vs:List D)|obj (c:Str) (ns:List Str) (vs:List D)|mem (B:List NK) (Φ:NK->NV->Prop)|cr (ds:List D)
mutual
def D.gA:D->Bool
 | .aO=>true
 | .bl _=>true
 | .int _=>true
 | .str _=>true
 | .ah a=>D.eX a
 | .ag _=>false
 | .aU _=>false
 | .cv _ _=>false
 | .cO _ _=>false
 | .di _=>true
 | .eW _ _=>false
 | .dz _ _=>false
 | .obj _ _ _=>false
 | .mem _ _=>false
 | .cr _=>false
def D.eX:List D->Bool
 | []=>true
 |d::a=>D.gA d&&D.eX a
end
inductive ao (α:Type) where
 |ok (a:α)
 |exc (c:Str)
 |aj
noncomputable def ao.bind {d e:Type} (r:ao d) (f:d->ao e):ao e:=
 match r with
 | .ok a=>f a
 | .exc c=> .exc c
 | .aj=> .aj
instance:Monad ao where
 pure:=ao.ok
 bind:=ao.bind
def je {d e:Type} {r:ao d} {f:d->ao e} {b:e} (h:(r>>=f)= .ok b): ∃a,r= .ok a/\f a= .ok b:=by
 cases r with
 |ok a=>exact ⟨a,rfl,h⟩
 |exc c=>cases h
 |aj=>cases h
noncomputable def aS {a:Type} (c:Prop) [Decidable c] (r:ao a):ao a:=if c then r else .aj
def ju {e:Type} {c:Prop} [Decidable c] {r:ao e} {a:e} (h:aS c r= .ok a):c/\r= .ok a:=by
 unfold aS at h
 by_cases d:c
 . rw [if_pos d] at h;exact ⟨d,h⟩
 . rw [if_neg d] at h;cases h
def jq {a:Type} {c:Prop} [Decidable c] {r:ao a} (h:c):aS c r=r:=if_pos h
def lY (K:ay) (H:Hp) (a:Addr) (d:List V):Prop:=
 (∃o,H a=some (.bd o (.ag d)))\/
  ∃(o:Obj) (c:Array Value) (n:Nat),K.lookup a=some o/\o.cls= .type "list" /\o.dict=none/\o.data= .seq c n/\c.size<=aR/\aE d c.toList
def lY.lI {K:ay} (h:lY K H a c):dg K H a c:=by
 rcases h with h|h
 . exact .inl (.inr h)
 . exact .inr h
def i4:D->List D
 | .ah a=>a
 |_=>[]
mutual
inductive aA (K:ay):(Addr->Prop)->Hp->V->D->Prop where
 |aO {A H}:aA K A H .aO .aO
 |bl {A H} (b:Bool):aA K A H (.bl b) (.bl b)
 |int {A H} (i:Int):aA K A H (.int i) (.int i)
 |str {A H} (x:Str):x.length<=aR->aA K A H (.str x) (.str x)
 |ah {A H} {a:Addr} {xs:List V} {ds:List D}:H a=some (.ah xs)->ai K A H xs ds->aA K A H (.ref a) (.ah ds)
 |ag {A H} {a:Addr} {xs:List V} {ds:List D}:H a=some (.ag xs)->A a->ai K (λc=>A c/\c≠a) H xs ds->aA K A H (.ref a) (.ag ds)
 |tx {A H} {a:Addr} {xs:List V} {ds:List D}:lY K H a xs->ai K A H xs ds->aA K A H (.ref a) (.aU ds)
 |cv {A H} {a:Addr} {kvs:List (aI×V)} {vs:List V} {ks:List aI} {ds:List D}:H a=some (.dK kvs)->A a->kvs.map (·.1)=ks->kvs.map (·.2)=vs->ai K (λc=>A c/\c≠a) H vs ds->aA K A H (.ref a) (.cv ks ds)
 |cO {A H} {a:Addr} {kvs:List ((List aI)×V)} {vs:List V} {ks:List (List aI)} {ds:List D}:H a=some (.dT kvs)->A a->kvs.map (·.1)=ks->kvs.map (·.2)=vs->ai K (λc=>A c/\c≠a) H vs ds->aA K A H (.ref a) (.cO ks ds)
 |di {A H} {a b C:Addr} {o:Obj} {c:Str}:H a=some (.bd o (.av b))->o.cls= .ref C->bM K bv c=some (some (.ref C))->aA K A H (.ref a) (.di c)
 |eW {A H} {a:Addr} {kvs:List (aI×V)} {vs:List V} {ks:List aI} {ds:List D}:((H a=some (.dK kvs)/\A a)\/ ∃o,H a=some (.bd o (.dK kvs)))->kvs.map (·.1)=ks->kvs.map (·.2)=vs->ai K (λc=>A c/\c≠a) H vs ds->aA K A H (.ref a) (.eW ks ds)
 |dz {A H} {a:Addr} {kvs:List (List aI×V)} {vs:List V} {ks:List (List aI)} {ds:List D}:(∃o,H a=some (.bd o (.dT kvs)))->kvs.map (·.1)=ks->kvs.map (·.2)=vs->ai K (λc=>A c/\c≠a) H vs ds->aA K A H (.ref a) (.dz ks ds)
 |obj {A H} {a C dx:Addr} {fs:List (Str×V)} {vs:List V} {c:Str} {ns:List Str} {ds:List D}:H a=some (.ins C dx fs)->A a->(bM K bv c=some (some (.ref C))/\fs.map (·.1)=ns)->fs.map (·.2)=vs->ai K (λc=>A c/\c≠a) H vs ds->aA K A H (.ref a) (.obj c ns ds)
 |mem {A H} {a:Addr} {B:List NK} {Φ:NK->NV->Prop}:H a=some (.memo B Φ)->A a->aA K A H (.ref a) (.mem B Φ)
 |cr {A H} {a:Addr} {rs:List (Addr×List V)} {ds es:List D}:H a=some (.cr rs)->A a->rs.map (λr=>r.2.length)=ds.map (λd=>(i4 d).length)->ds.flatMap i4=es->ai K (λc=>A c/\c≠a) H (rs.flatMap (·.2)) es->aA K A H (.ref a) (.cr ds)
inductive ai (K:ay):(Addr->Prop)->Hp->List V->List D->Prop where
 |nil {A H}:ai K A H [] []
 |cons {A H} {v:V} {d:D} {vs:List V} {ds:List D}:aA K A H v d->ai K A H vs ds->ai K A H (v::vs) (d::ds)
end
def eL (A:Xc) (H c:Hp):Prop:= ∀a o,H a=some o->(lQ (some o)->A a)->c a=some o
def eL.mono (h:eL A H c) (w: ∀a,B a->A a):eL B H c:=λa o e m=>h a o e λz=>w a (m z)
section
variable {K:ay}
def lY.aV (h:lY K H a c) (st:eL A H H'):lY K H' a c:=by
 rcases h with ⟨o,e⟩|h
 . exact .inl ⟨o,st a _ e (λz=>z.elim)⟩
 . exact .inr h
def ai.aV (r:ai K A H c g):eL A H H'->(∀a,A a->A' a)->ai K A' H' c g:=by
 refine ai.rec (motive_1:=λA H v d _=> ∀B:Addr->Prop,eL A H H'->(∀a,A a->B a)->aA K B H' v d) (λ_ _ _=> .aO) (λb _ _ _=> .bl b) (λi _ _ _=> .int i) (λx h _ _ _=> .str x h) (λe _ r _ s w=> .ah (s _ _ e λz=>z.elim) (r _ s w)) (λe a _ r _ s w=> .ag (s _ _ e λ_=>a) (w _ a) (r _ ?_ ?_)) (λe _ r _ s w=> .tx (e.aV s) (r _ s w)) (λe a k l _ r _ s w=> .cv (s _ _ e λ_=>a) (w _ a) k l (r _ ?_ ?_)) (λe a k l _ r _ s w=> .cO (s _ _ e λ_=>a) (w _ a) k l (r _ ?_ ?_)) (λe k l _ s w=> .di (s _ _ e λz=>z.elim) k l) (λe k l _ r _ s w=> .eW (e.elim (λz=> .inl ⟨s _ _ z.1 λ_=>z.2,w _ z.2⟩) (λz=>z.elim λ_ z=> .inr ⟨_,s _ _ z λz=>z.elim⟩)) k l (r _ ?_ ?_)) (λe k l _ r _ s w=> .dz (e.elim λ_ z=>⟨_,s _ _ z λz=>z.elim⟩) k l (r _ ?_ ?_)) (λe a k l _ r _ s w=> .obj (s _ _ e λ_=>a) (w _ a) k l (r _ ?_ ?_)) (λe a _ s w=> .mem (s _ _ e λ_=>a) (w _ a)) (λe a k l _ r _ s w=> .cr (s _ _ e λ_=>a) (w _ a) k l (r _ ?_ ?_)) (λ_ _ _=> .nil) (λ_ _ h t _ s w=> .cons (h _ s w) (t _ s w)) r A'
 any_goals exact s.mono λ_ z=>z.1
 all_goals exact λ_ z=>⟨w _ z.1,z.2⟩
def aA.aV (r:aA K A H v d) (s:eL A H H') (w: ∀a,A a->A' a):aA K A' H' v d:=by
 cases ai.aV (.cons r .nil) s w;assumption
def am.aV (h:am H H'):eL A H H':=λa o e _=>h a o e
variable {A A':Xc} {H H':Hp}
def aA.ap (r:aA K A H v d) (h:am H H'):aA K A H' v d:=r.aV (am.aV h) λ_ z=>z
def ai.ap (r:ai K A H v d) (h:am H H'):ai K A H' v d:=r.aV (am.aV h) λ_ z=>z
def aA.az (r:aA K A H v d) (w: ∀a,A a->A' a):aA K A' H v d:=r.aV (λ_ _ e _=>e) w
def ai.az (r:ai K A H v d) (w: ∀a,A a->A' a):ai K A' H v d:=r.aV (λ_ _ e _=>e) w
def ai.gA (r:ai K A H c a):D.eX a=true->ai K A' H c a:=by
 refine ai.rec (motive_1:=λ_ H v d _=>d.gA=true->aA K A' H v d) (λ_=> .aO) (λb _=> .bl b) (λi _=> .int i) (λx h _=> .str x h) (λe _ r i=> .ah e (r i)) ?_ ?_ ?_ ?_ (λe k l _=> .di e k l) ?_ ?_ ?_ ?_ ?_ (λ_=> .nil) (λ_ _ h t i=>?_) r
 case refine_10=>simp only [D.eX,fw] at i;exact .cons (h i.1) (t i.2)
 all_goals intros;rename_i i;cases i
def aA.gA (r:aA K A H v d) (i:d.gA=true):aA K A' H v d:=by
 cases ai.gA (.cons r .nil) (by simp [D.eX,i]);assumption
def ai.c6 (r:ai K A H (v::c) e): ∃d a,e=d::a/\aA K A H v d/\ai K A H c a:=by
 cases r with
 |cons r t=>exact ⟨_,_,rfl,r,t⟩
def ai.oJ (r:ai K A H c (d::e)): ∃v a,c=v::a/\aA K A H v d/\ai K A H a e:=by
 cases r with
 |cons r t=>exact ⟨_,_,rfl,r,t⟩
def ai.BY (r:ai K A H a []):a=[]:=by cases r;rfl
def ai.gk (r:ai K A H [] a):a=[]:=by cases r;rfl
def ai.length (r:ai K A H a c):a.length=c.length:=by
 induction a generalizing c with
 |nil=>cases r.gk;rfl
 |cons v a d=>
  obtain ⟨_,_,rfl,_,t⟩:=r.c6;simp [d t]
def ai.get {i:Nat} (r:ai K A H a c) (e:c[i]?=some d): ∃v,a[i]?=some v/\aA K A H v d:=by
 induction a generalizing c i with
 |nil=>cases r.gk;simp at e
 |cons v a g=>
  obtain ⟨_,_,rfl,r,t⟩:=r.c6
  cases i with
  |zero=>simp at e;subst e;exact ⟨_,rfl,r⟩
  |succ i=>simpa using g t (by simpa using e)
def ai.get' {i:Nat} (r:ai K A H a c) (e:a[i]?=some v): ∃d,c[i]?=some d/\aA K A H v d:=by
 induction a generalizing c i with
 |nil=>simp at e
 |cons v a g=>
  obtain ⟨_,_,rfl,r,t⟩:=r.c6
  cases i with
  |zero=>simp at e;subst e;exact ⟨_,rfl,r⟩
  |succ i=>simpa using g t (by simpa using e)
def ai.append (r:ai K A H a c) (s:ai K A H d e):ai K A H (a++d) (c++e):=by
 induction a generalizing c with
 |nil=>cases r.gk;exact s
 |cons v a g=>
  obtain ⟨_,_,rfl,r,t⟩:=r.c6;exact .cons r (g t)
def ai.take (n:Nat) (r:ai K A H a c):ai K A H (a.take n) (c.take n):=by
 induction a generalizing c n with
 |nil=>cases r.gk;simpa using .nil
 |cons v a d=>
  obtain ⟨_,_,rfl,r,t⟩:=r.c6
  cases n with
  |zero=>exact .nil
  |succ n=>exact .cons r (d n t)
def ai.drop (n:Nat) (r:ai K A H a c):ai K A H (a.drop n) (c.drop n):=by
 induction a generalizing c n with
 |nil=>cases r.gk;simpa using .nil
 |cons v a d=>
  cases n with
  |zero=>exact r
  |succ n=>
   obtain ⟨_,_,rfl,r,t⟩:=r.c6;exact d n t
theorem ai.rep (r:ai K A H a c): ∀k:Nat,ai K A H (eR k a).flatten (eR k c).flatten
 |0=> .nil
 |k+1=>by
  rw [pF,pF,rR,rR];exact r.append (ai.rep r k)
def ai.isEmpty (r:ai K A H a c):c.isEmpty=a.isEmpty:=by cases r<;>rfl
def eY (K:ay) (A:Xc) (H:Hp) (v:V):D->Prop
 | .aO=>v= .aO
 | .bl b=>v= .bl b
 | .int i=>v= .int i
 | .str x=>v= .str x/\x.length<=aR
 | .ah g=> ∃a h,v= .ref a/\H a=some (.ah h)/\ai K A H h g
 | .ag g=> ∃a h,v= .ref a/\H a=some (.ag h)/\A a/\ai K (λc=>A c/\c≠a) H h g
 | .aU g=> ∃a h,v= .ref a/\lY K H a h/\ai K A H h g
 | .cv j g=> ∃a e,v= .ref a/\H a=some (.dK e)/\A a/\e.map (·.1)=j/\ai K (λc=>A c/\c≠a) H (e.map (·.2)) g
 | .cO j g=> ∃a e,v= .ref a/\H a=some (.dT e)/\A a/\e.map (·.1)=j/\ai K (λc=>A c/\c≠a) H (e.map (·.2)) g
 | .di c=> ∃a b C o,v= .ref a/\H a=some (.bd o (.av b))/\o.cls= .ref C/\bM K bv c=some (some (.ref C))
 | .eW j g=> ∃a e,v= .ref a/\((H a=some (.dK e)/\A a)\/ ∃o,H a=some (.bd o (.dK e)))/\e.map (·.1)=j/\ai K (λc=>A c/\c≠a) H (e.map (·.2)) g
 | .dz j g=> ∃a e,v= .ref a/\(∃o,H a=some (.bd o (.dT e)))/\e.map (·.1)=j/\ai K (λc=>A c/\c≠a) H (e.map (·.2)) g
 | .obj c l g=> ∃a C dx fs,v= .ref a/\H a=some (.ins C dx fs)/\A a/\bM K bv c=some (some (.ref C))/\fs.map (·.1)=l/\ai K (λc=>A c/\c≠a) H (fs.map (·.2)) g
 | .mem B m=> ∃a,v= .ref a/\H a=some (.memo B m)/\A a
 | .cr g=> ∃a k,v= .ref a/\H a=some (.cr k)/\A a/\k.map (λr=>r.2.length)=g.map (λd=>(i4 d).length)/\ai K (λc=>A c/\c≠a) H (k.flatMap (·.2)) (g.flatMap i4)
def aA.f (r:aA K A H v d):eY K A H v d:=by
 refine aA.casesOn (motive_1:=λA H v d _=>eY K A H v d) r rfl (λ_=>rfl) (λ_=>rfl) (λ_ h=>⟨rfl,h⟩) (λe r=>⟨_,_,rfl,e,r⟩) (λe h r=>⟨_,_,rfl,e,h,r⟩) (λe r=>⟨_,_,rfl,e,r⟩) (λe h k l r=>⟨_,_,rfl,e,h,k,l▸r⟩) (λe h k l r=>⟨_,_,rfl,e,h,k,l▸r⟩) (λe k l=>⟨_,_,_,_,rfl,e,k,l⟩) (λe k l r=>⟨_,_,rfl,e,k,l▸r⟩) (λe k l r=>⟨_,_,rfl,e,k,l▸r⟩) (λe h k l r=>⟨_,_,_,_,rfl,e,h,k.1,k.2,l▸r⟩) (λe h=>⟨_,rfl,e,h⟩) λe h k l r=>⟨_,_,rfl,e,h,k,l▸r⟩
def aA.c7 (r:aA K A H v (.ag e)): ∃a d,v= .ref a/\H a=some (.ag d)/\A a/\ai K (λc=>A c/\c≠a) H d e:=r.f
def aA.fH (r:aA K A H v (.aU d)): ∃a c,v= .ref a/\lY K H a c/\ai K A H c d:=r.f
def aA.cm (r:aA K A H v (.ah d)): ∃a c,v= .ref a/\H a=some (.ah c)/\ai K A H c d:=r.f
def aA.cc (r:aA K A H v (.int i)):v= .int i:=r.f
def aA.oK (r:aA K A H v (.bl b)):v= .bl b:=r.f
def aA.gl (r:aA K A H v (.str x)):v= .str x/\x.length<=aR:=r.f
def aA.tz (r:aA K A H v .aO):v= .aO:=r.f
def ai.low (r:ai K (λc=>A c/\c≠a) H d e):ai K A H d e:=r.az λ_ z=>z.1
def ai.ce (r:ai K A H d g):ai K (λc=>A c/\H c≠none) H d g:=by
 refine ai.rec .aO (λb=> .bl b) (λi=> .int i) (λx h=> .str x h) (λe _ r=> .ah e r) (λe a _ r=> .ag e ⟨a,?_⟩ ?_) (λe _ r=> .tx e r) (λe a k l _ r=> .cv e ⟨a,?_⟩ k l ?_) (λe a k l _ r=> .cO e ⟨a,?_⟩ k l ?_) (λe k l=> .di e k l) (λe k l _ r=> .eW (e.elim (λz=> .inl ⟨z.1,z.2,by simp [z.1]⟩) .inr) k l ?_) (λe k l _ r=> .dz e k l ?_) (λe a k l _ r=> .obj e ⟨a,?_⟩ k l ?_) (λe a=> .mem e ⟨a,by simp [e]⟩) (λe a k l _ r=> .cr e ⟨a,?_⟩ k l ?_) .nil (λ_ _ h t=> .cons h t) r
 any_goals exact r.az λ_ z=>⟨⟨z.1.1,z.2⟩,z.1.2⟩
 all_goals simp [e]
def aA.ce (r:aA K A H v d):aA K (λc=>A c/\H c≠none) H v d:=by
 cases ai.ce (.cons r .nil);assumption
def am.aJ (h:H p=none):am H (L2.aJ H p o):=λb u e=>by rw [jF (jJ e h)];exact e
def ai.laid (r:ai K A H d g) (a:H p=none):ai K (λc=>A c/\c≠p) (L2.aJ H p o) d g:=
 (r.ce.ap (am.aJ a)).az λc z=>⟨z.1,λe=>z.2 (by rw [e];exact a)⟩
end
inductive Slot where
 |un
 |av (d:D)
 |ak (d:D)
abbrev Sl:=List Slot
def jQ (c:Sl) (e:St) (a:Addr):Prop:= ∃(i:Nat) (d:D),c[i]?=some (.av d)/\e[i]?=some (some (.ref a))
abbrev BZ (c:Sl) (d:St):Addr->Prop:=λa=> ¬jQ c d a
abbrev Sf (G:Xc) (c:Sl) (d:St):Addr->Prop:=λa=> ¬jQ c d a/\G a
inductive Top (K:ay) (A:Xc) (H:Hp) (a:Addr):D->Prop where
 |ag {xs:List V} {ds:List D}:H a=some (.ag xs)->ai K A H xs ds->Top K A H a (.ag ds)
 |cv {kvs:List (aI×V)} {vs:List V} {ks:List aI} {ds:List D}:H a=some (.dK kvs)->kvs.map (·.1)=ks->kvs.map (·.2)=vs->ai K A H vs ds->Top K A H a (.cv ks ds)
 |cO {kvs:List ((List aI)×V)} {vs:List V} {ks:List (List aI)} {ds:List D}:H a=some (.dT kvs)->kvs.map (·.1)=ks->kvs.map (·.2)=vs->ai K A H vs ds->Top K A H a (.cO ks ds)
 |obj {C dx:Addr} {fs:List (Str×V)} {vs:List V} {c:Str} {ns:List Str} {ds:List D}:H a=some (.ins C dx fs)->(bM K bv c=some (some (.ref C))/\fs.map (·.1)=ns)->fs.map (·.2)=vs->ai K A H vs ds->Top K A H a (.obj c ns ds)
 |cr {rs:List (Addr×List V)} {ds es:List D}:H a=some (.cr rs)->rs.map (λr=>r.2.length)=ds.map (λd=>(i4 d).length)->ds.flatMap i4=es->ai K A H (rs.flatMap (·.2)) es->Top K A H a (.cr ds)
def Top.rep {K:ay} (t:Top K A H a d) (w: ∀b,A b->i b/\b≠a) (h:i a):aA K i H (.ref a) d:=by
 cases t with
 |ag e r=>exact .ag e h (r.az w)
 |cv e c g r=>exact .cv e h c g (r.az w)
 |cO e c g r=>exact .cO e h c g (r.az w)
 |obj e c g r=>exact .obj e h c g (r.az w)
 |cr e c g r=>exact .cr e h c g (r.az w)
def Top.aV {K:ay} (t:Top K A H a d) (st:eL A H H') (w: ∀b,A b->A' b) (h: ∀o,H a=some o->H' a=some o):Top K A' H' a d:=by
 cases t with
 |ag e r=>exact .ag (h _ e) (r.aV st w)
 |cv e c g r=>exact .cv (h _ e) c g (r.aV st w)
 |cO e c g r=>exact .cO (h _ e) c g (r.aV st w)
 |obj e c g r=>exact .obj (h _ e) c g (r.aV st w)
 |cr e c g r=>exact .cr (h _ e) c g (r.aV st w)
def Top.there {K:ay} (t:Top K A H a d): ∃o,H a=some o/\lQ (some o):=by
 cases t with
 |ag e r=>exact ⟨_,e,trivial⟩
 |cv e _ _ r=>exact ⟨_,e,trivial⟩
 |cO e _ _ r=>exact ⟨_,e,trivial⟩
 |obj e _ _ r=>exact ⟨_,e,trivial⟩
 |cr e _ _ r=>exact ⟨_,e,trivial⟩
structure ar (K:ay) (G:Xc) (H0:Hp) (env:Sl) (σ:St) (H:Hp):Prop where
 len:σ.length=env.length
 ae:am H0 H
 g0: ∀a,H0 a=none->G a
 ak: ∀(i:Nat) (d:D),env[i]?=some (.ak d)-> ∃v,σ[i]?=some (some v)/\aA K (Sf G env σ) H v d
 av: ∀(i:Nat) (d:D),env[i]?=some (.av d)-> ∃a,σ[i]?=some (some (.ref a))/\H0 a=none/\Top K (Sf G env σ) H a d
 lZ: ∀(i j:Nat) (d e:D) (a:Addr),env[i]?=some (.av d)->env[j]?=some (.av e)->σ[i]?=some (some (.ref a))->σ[j]?=some (some (.ref a))->i=j
section
variable {K:ay} {G:Xc} {H0 H H':Hp} {env:Sl} {σ:St}
def ar.ap (e:ar K G H0 env σ H) (h:am H H'):ar K G H0 env σ H' where
 len:=e.len
 ae:=e.ae.trans h
 g0:=e.g0
 ak:=λi d z=>let ⟨v,c,g⟩:=e.ak i d z;⟨v,c,g.ap h⟩
 av:=λi d z=>let ⟨a,c,g,j⟩:=e.av i d z;⟨a,c,g,j.aV (am.aV h) (λ_ z=>z) (λo q=>h _ o q)⟩
 lZ:=e.lZ
def ar.there (e:ar K G H0 env σ H) (o:jQ env σ a): ∃u,H a=some u:=by
 obtain ⟨i,d,g,h⟩:=o;obtain ⟨b,c,_,j⟩:=e.av i d g;rw [h] at c;cases c;obtain ⟨u,k,_⟩:=j.there;exact ⟨u,k⟩
def ar.dX (k:ar K G H0 env σ H) {a:Addr} (o:jQ env σ a) {u:HO} (e:H a=some u):lQ (some u):=by
 obtain ⟨i,d,h,j⟩:=o;obtain ⟨b,c,_,l⟩:=k.av i d h;rw [j] at c;cases c;obtain ⟨n,g,m⟩:=l.there;rw [e] at g;cases g;exact m
def ar.new (k:ar K G H0 env σ H): ∀a,H a=none->Sf G env σ a:=λa z=>⟨λo=>(by
 obtain ⟨u,q⟩:=k.there o
 rw [z] at q;cases q),k.g0 a (am.free k.ae z)⟩
end
inductive Lv where
 |b|s|t
abbrev Any:Addr->Prop:=λ_=>True
def Lv.A (l:Lv) (G:Xc) (env:Sl) (a:St):Addr->Prop:=
 match l with
 | .b=>Any
 | .s=>Sf G env a
 | .t=>Sf G env a
def bg (H:Hp) (v:V):Prop:= ∀a,v= .ref a-> ∀o,H a=some o-> ¬lQ (some o)
def Lv.T (l:Lv) (H:Hp) (v:V):Prop:=
 match l with
 | .t=>bg H v
 |_=>True
def bg.ap (h:am H c) (n:bg c v):bg H v:=λa e o q=>n a e o (h a o q)
def Lv.tD {l:Lv} (h:am H a) (n:l.T a v):l.T H v:=by
 cases l with
 |t=>exact bg.ap h n
 |b=>trivial
 |s=>trivial
def tE (K:ay) (l:Lv) (f:Sl->ao D):TE:=λe H Q=> ∃G g a d,ar K G g a e H/\f a= .ok d/\ ∀v c,am H c->aA K (l.A G a e) c v d->l.T H v->Q v c
def tT (K:ay) (f:Sl->ao Bool):TT:=λd H Q=> ∃G e a b,ar K G e a d H/\f a= .ok b/\ ∀c,am H c->Q b c
def tA (K:ay) (l:Lv) (f:Sl->ao (List D)):TA:=λd H Q=> ∃G h a e,ar K G h a d H/\f a= .ok e/\ ∀g c,am H c->ai K (l.A G a d) c g e->Q g c
@[irreducible] def DE (X:Cx) (l:Lv) (e:Expr) (f:Sl->ao D):Prop:=PE X e (tE X.K l f)
@[irreducible] def DT (X:Cx) (e:Expr) (f:Sl->ao Bool):Prop:=PT X e (tT X.K f)
@[irreducible] def DA (X:Cx) (l:Lv) (a:List Expr) (f:Sl->ao (List D)):Prop:=PA X a (tA X.K l f)
inductive bF where
 |nx (env:Sl)|rt (fr:Bool) (d:D)|bk (env:Sl)|ct (env:Sl)
abbrev TJ:=Sl->ao D
abbrev TH:=Sl->ao Bool
abbrev TF:=Sl->ao bF
abbrev TD:=Sl->ao (List D)
abbrev TC:=List D->ao D
abbrev TB:=D->Sl->ao Sl
structure bt (env:Sl) (σ:St) (H:Hp) (env':Sl) (nj:St) (H':Hp):Prop where
 keep: ∀b o,H b=some o-> ¬jQ env σ b->H' b=some o
 more: ∀b,jQ env' nj b->jQ env σ b\/H b=none
 size: ∀b,H' b=none->H b=none
def l0 (K:ay) (G:Xc) (h:Hp) (g:Sl) (i:St) (H:Hp) (E:Ends) (o:bF):Prop:=
 match o with
 | .nx a=> ∀c e,ar K G h a c e->bt g i H a c e->E.nx c e
 | .bk a=> ∀c e,ar K G h a c e->bt g i H a c e->E.bk c e
 | .ct a=> ∀c e,ar K G h a c e->bt g i H a c e->E.ct c e
 | .rt j d=> ∀v e,am h e->aA K G e v d->(j=true->bg h v)->E.rt v e
def tS (K:ay) (g:TF):TS:=λE c H=> ∃G d a o,ar K G d a c H/\g a= .ok o/\l0 K G d a c H E o
@[irreducible] def DS (X:Cx) (st:Stmt) (g:TF):Prop:=PS X st (tS X.K g)
@[irreducible] def fU (X:Cx) (st:List Stmt) (g:TF):Prop:=cb X st (tS X.K g)
section
variable {X:Cx} {e:Expr} {es:List Expr} {st:Stmt} {j:List Stmt}
def PE.imp (h:PE X e t) (w: ∀a H Q,d a H Q->t a H Q):PE X e d:=λc s a H Q I q=>h c s a H Q I (w a H Q q)
def PT.imp (h:PT X e t) (w: ∀a H Q,d a H Q->t a H Q):PT X e d:=λc s a H Q I q=>h c s a H Q I (w a H Q q)
def PA.imp (h:PA X es t) (w: ∀a H Q,d a H Q->t a H Q):PA X es d:=λpos c s a H Q I q=>h pos c s a H Q I (w a H Q q)
def PS.imp (h:PS X st t) (w: ∀E a H,d E a H->t E a H):PS X st d:=λc s a H E I q=>h c s a H E I (w E a H q)
def cb.imp (h:cb X j t) (w: ∀E a H,d E a H->t E a H):cb X j d:=λc s a H E I q=>h c s a H E I (w E a H q)
end
def bt.refl (h:am H a):bt env c H env c a:=⟨λb o e _=>h b o e,λb o=> .inl o,λb e=>am.free h e⟩
def bt.trans (a:bt env j H d h k) (b:bt d h k g i l):bt env j H g i l where
 keep:=λc o e n=>b.keep c o (a.keep c o e n) λz=>by
  rcases a.more c z with z|z
  . exact n z
  . rw [e] at z;cases z
 more:=λc o=>by
  rcases b.more c o with z|z
  . exact a.more c z
  . exact .inr (a.size c z)
 size:=λc e=>a.size c (b.size c e)
def bt.ap (h:am H d) (b:bt env e d a c g):bt env e H a c g:=(bt.refl h).trans b
section
variable {X:Cx} {e:Expr} {f:TJ}
def Lv.be {l:Lv}: ∀a,l.A G env c a->Any a:=λ_ _=>trivial
def DE.b (h:DE X l e f):DE X .b e f:=by
 with_unfolding_all exact (PE.imp h λi H Q ⟨G,a,env,d,k,c,q⟩=>⟨G,a,env,d,k,c,λv g s r _=>q v g s (r.az Lv.be) trivial⟩)
def DE.s (h:DE X .t e f):DE X .s e f:=by
 with_unfolding_all exact (PE.imp h λi H Q ⟨G,a,env,d,k,c,q⟩=>⟨G,a,env,d,k,c,λv g s r _=>q v g s r trivial⟩)
def Vh {K:ay} (s:am H c) (r:aA K A c v d) (i:d.gA=true):bg H v:=λa e o q m=>by
 subst e;have r:=r.f;cases d<;>try cases i
 . cases r
 . cases r
 . cases r
 . cases r.1
 . obtain ⟨_,_,e1,e,_⟩:=r;cases e1;rw [s _ _ q] at e;cases e;exact m
 . obtain ⟨_,_,_,_,e1,e,_⟩:=r;cases e1;rw [s _ _ q] at e;cases e;exact m
def i5 (f:TJ):Sl->ao D:=λa=>f a>>=λd=>aS (d.gA=true) (.ok d)
def DE.i5 {l l':Lv} (h:DE X l e f):DE X l' e (i5 f):=by
 with_unfolding_all exact (PE.imp h λm H Q=>by
  rintro ⟨G,a,env,d,k,c,q⟩;obtain ⟨n,e1,e2⟩:=je c;obtain ⟨i,g⟩:=ju e2;cases g;refine ⟨G,a,env,d,k,e1,λv j s r _=>q v j s (r.gA i) ?_⟩
  cases l' with
  |t=>exact Vh s r i
  |b=>trivial
  |s=>trivial)
end
def Q3:Expr->Bool
 | .Starred _ _=>false
 |_=>true
def jn (h:Q3 e=true):bp (e::c) a=(false,eval e a)::bp c a:=by
 cases e<;>first|rfl|cases h
def W9 (h:a.all Q3=true):(bp a env).all (λx=>!x.1)=true:=by
 induction a with
 |nil=>rfl
 |cons e r c=>
  rw [rW,fw] at h;rw [jn h.1,rW,c h.2];rfl
def X3 (h:l.all (λx=>!x.1)=true):(dO pos l).all (λx=>!x.1)=true:=by
 induction l with
 |nil=>rfl
 |cons p r a=>
  obtain ⟨s,t⟩:=p;rw [rW,fw] at h;show ((!s)&&(dO pos r).all (λx=>!x.1))=true;rw [a h.2,Bool.and_true];exact h.1
def jB (h:d.all Q3=true):(dO a (bp d c)).any (·.1)=false:=by
 have:=X3 (pos:=a) (W9 (env:=c) h);rw [eD] at this;rw [Ap];intro x e z;have q:=this x e;rw [z] at q;cases q
def yc (h:(e::d).all Q3=true) (g:decide ((e::d).length<30)=true):
  ((
   dO a (bp (e::d) c)).all (λx=>!x.1)&&(lF a (lG [] c)).all (λx=>x.1.isSome)
   &&decide ((e::d).length+([]:List hB).length+(if ([]:List hB).isEmpty then 0 else 1)<30))=true:=by
 have i:(lF a (lG [] c)).all (λx=>x.1.isSome)=true:=rfl;rw [X3 (W9 h),i];simpa using g
section
variable {X:Cx} {e a b c o:Expr} {Z:List Expr} {pos:Pos} {l O L l':Lv} {f U Y J:TJ}
def cI (i:Int):Sl->ao D:=λ_=> .ok (.int i)
def cB (b:Bool):Sl->ao D:=λ_=> .ok (.bl b)
def cN:Sl->ao D:=λ_=> .ok .aO
def cS (x:Str):Sl->ao D:=λ_=> .ok (.str x)
def af (i:Nat):Sl->ao D:=λg=>match g[i]? with
 |some (.ak d)=> .ok d
 |_=> .aj
def cH (i:Nat):Sl->ao D:=λg=>match g[i]? with
 |some (.ak d)=> .ok d
 |some (.av d)=> .ok d
 |_=> .aj
def vM (h:af i g= .ok d):g[i]?=some (.ak d):=by
 unfold af at h
 split at h
 . cases h;assumption
 . cases h
def Wu (h:cH i g= .ok d):g[i]?=some (.ak d)\/g[i]?=some (.av d):=by
 unfold cH at h
 split at h
 . cases h;left;assumption
 . cases h;right;assumption
 . cases h
def ZJ {K:ay} {i:Nat} {a:Addr} (k:ar K G n g h H) (j:g[i]?=some (.av d)) (m:h[i]?=some (some (.ref a))): ∀c,Sf G g h c->c≠a:=λc z e=>z.1 (by rw [e];exact ⟨i,d,j,m⟩)
def dv (i:Nat) (h:X.N[i]?=some x:=by rfl) (j:gJ X.env.scope x:=by exact eK rfl) (hd:Yj x:=by decide)
   (g:Yi x:=by decide):DE X .s (.Name x pos) (af i):=by
 with_unfolding_all exact (
  PE.imp (wx h j hd g) λt H Q=>by
   rintro ⟨G,u,m,d,k,n,q⟩;obtain ⟨v,p,r⟩:=k.ak i d (vM n)
   exact ⟨v,p,q v H (am.refl H) r trivial⟩)
def db (i:Nat) {x:Str} (m:X.N[i]?=some x:=by rfl) (n:gJ X.env.scope x:=by exact eK rfl) (hd:Yj x:=by decide)
   (h:Yi x:=by decide):DE X .b (.Name x pos) (cH i):=by
 with_unfolding_all exact (
  PE.imp (wx m n hd h) λt H Q=>by
   rintro ⟨G,u,p,d,k,r,q⟩;rcases Wu r with z|z
   . obtain ⟨v,g,j⟩:=k.ak i d z;exact ⟨v,g,q v H (am.refl H) (j.az λ_ _=>trivial) trivial⟩
   . obtain ⟨v,g,_,j⟩:=k.av i d z
     exact ⟨_,g,q _ H (am.refl H) (j.rep (λc y=>⟨trivial,ZJ k z g c y⟩) trivial) trivial⟩)
def Sc (K:ay) (v:V) (d:D):Prop:=(∀A H,aA K A H v d)/\ ∀a,v≠ .ref a
def Sc.T {K:ay} (h:Sc K v d):l.T H v:=by
 cases l with
 |t=>exact λa e=>absurd e (h.2 a)
 |b=>trivial
 |s=>trivial
def iP {K:ay} (i:Int):Sc K (.int i) (.int i):=⟨λ_ _=> .int i,λa e=>by cases e⟩
def gB {K:ay} (i:Bool):Sc K (.bl i) (.bl i):=⟨λ_ _=> .bl i,λa e=>by cases e⟩
def GQ {K:ay}:Sc K .aO .aO:=⟨λ_ _=> .aO,λa e=>by cases e⟩
def AF {K:ay} (x:Str) (h:x.length<=aR):Sc K (.str x) (.str x):=⟨λ_ _=> .str x h,λa e=>by cases e⟩
def i6 {v:V} {d:D} (h:PE X e (tC v)) (r:Sc X.K v d):DE X l e (λ_=> .ok d):=by
 with_unfolding_all exact (
  PE.imp h λj H Q=>by
   rintro ⟨G,m,g,n,k,i,q⟩;cases i
   exact q v H (am.refl H) (r.1 _ H) r.T)
def vp {j}:DE X l (.Constant (.int i) j pos) (cI i):=i6 Kv (iP i)
def zr {j}:DE X l (.Constant (.bool i) j pos) (cB i):=i6 FR (gB i)
def yR {j}:DE X l (.Constant .none j pos) cN:=i6 FS GQ
def xH {j} (h:x.length<=aR:=by decide):DE X l (.Constant (.str x) j pos) (cS x):=i6 FT (AF x h)
def GR (d:Gl X x) (g:X.mg x=some (.int i t)) (hd:Yj x:=by decide):DE X l (.Name x pos) (cI i):=
 i6 (QR (v:= .int i) d g ⟨t,rfl⟩ hd) (iP i)
def GS (d:Gl X x) (g:X.mg x=some (.str y t)) (h:y.length<=aR:=by decide) (hd:Yj x:=by decide):DE X l (.Name x pos) (cS y):=
 i6 (QR (v:= .str y) d g ⟨t,rfl⟩ hd) (AF y h)
def eH (K:ay) (r:R2) (g:D->D->ao D):Prop:= ∀(x y:V) (H:Hp) (a b d:D) (Q:VK),aA K Any H x a->aA K Any H y b->g a b= .ok d->(∀v,Sc K v d->Q v H)->r x y H Q
def pN (K:ay) (r:R2) (g:D->D->ao D):Prop:= ∀(A:Xc) (x y:V) (H:Hp) (a b d:D) (Q:VK),aA K A H x a->aA K A H y b->g a b= .ok d->(∀v h,am H h->aA K (λc=>H c=none\/A c) h v d->bg H v->Q v h)->r x y H Q
def al (U Y:TJ) (g:D->D->ao D):Sl->ao D:=λd=>U d>>=λx=>Y d>>=λy=>g x y
def vE {K:ay} (w:eH K r g) (h:tE K l (al U Y g) z H Q):rK r (tE K O U) (tE K L Y) z H Q:=by
 obtain ⟨G,m,i,d,k,j,q⟩:=h;obtain ⟨a,e1,j⟩:=je j;obtain ⟨b,e2,B⟩:=je j;refine ⟨G,m,i,a,k,e1,λx N n E _=>⟨G,m,i,b,k.ap n,e2,λy p t I _=>?_⟩⟩;exact w x y p a b d Q ((E.ap t).az Lv.be) (I.az Lv.be) B λv u=>q v p (n.trans t) (u.1 _ _) u.T
def GU {K:ay} (t:pN K r g) (h:tE K .t (al U Y g) u H Q):rK r (tE K .s U) (tE K .s Y) u H Q:=by
 obtain ⟨G,m,i,d,k,j,q⟩:=h;obtain ⟨a,e1,j⟩:=je j;obtain ⟨b,e2,w⟩:=je j;refine ⟨G,m,i,a,k,e1,λx H1 n B _=>⟨G,m,i,b,k.ap n,e2,λy E p I _=>?_⟩⟩;have sm:=n.trans p;exact t _ x y E a b d Q (B.ap p) I w λv N s3 r3 nt=>q v N (sm.trans s3) (r3.az λc z=>z.elim (λz=>k.new c (am.free sm z)) λz=>z) (nt.ap sm)
def VG (d:b7 X (eU i) r) (j:eH X.K r g) (k:DE X O a U) (m:DE X L b Y):DE X l (.BinOp a i b pos) (al U Y g):=by
 with_unfolding_all exact (
  PE.imp (D9 d k m) λ_ _ _ h=>vE j h)
def jG (d:b7 X (eU i) r) (j:pN X.K r g) (k:DE X .s a U) (m:DE X .s b Y):DE X .t (.BinOp a i b pos) (al U Y g):=by
 with_unfolding_all exact (
  PE.imp (D9 d k m) λ_ _ _ h=>GU j h)
def XT (i:b7 X (f7 d) r) (j:eH X.K r g) (k:DE X O a U) (m:DE X L b Y) (n:rL d b=false:=by first|exact kW _| (with_unfolding_all rfl)):DE X l (.Compare a [d] [b] pos) (al U Y g):=by
 with_unfolding_all exact (
  PE.imp (uc i k m n) λ_ _ _ h=>vE j h)
def aX (f:TJ):Sl->ao Bool:=λg=>f g>>=λd=>match d with
 | .bl b=> .ok b
 |_=> .aj
def GV {b:Bool} (h:aX f g= .ok b):f g= .ok (.bl b):=by
 obtain ⟨d,e1,e2⟩:=je h
 cases d with
 |bl c=>cases e2;exact e1
 |_=>cases e2
def Wm {K:ay} (i: ∀d H Q,tE K l f d H Q->t d H Q) (h:tT K (aX f) d H Q):vD t d H Q:=by
 obtain ⟨G,j,g,b,k,m,q⟩:=h;refine i d H _ ⟨G,j,g,.bl b,k,GV m,λv n s r _=>⟨b,r.oK,q n s⟩⟩
def j9 (i:b7 X (f7 d) r) (j:eH X.K r g) (k:DE X O a U) (m:DE X L b Y) (n:rL d b=false:=by first|exact kW _| (with_unfolding_all rfl)):DT X (.Compare a [d] [b] pos) (aX (al U Y g)):=by
 with_unfolding_all exact (
  PT.imp (vT i k m n) λ_ _ _ h=>Wm (l:= .b) (λ_ _ _ h=>vE j h) h)
def yD (U Y J:TJ) (g h:D->D->ao D):Sl->ao D:=λd=>U d>>=λx=>Y d>>=λy=>g x y>>=λz=>match z with
 | .bl true=>J d>>=λw=>h y w
 | .bl false=> .ok (.bl false)
 |_=> .aj
def W8 {K:ay} (hr:eH K r g) (u:eH K r' g') (h:tE K l (yD U Y J g g') σ H Q):Ka r r' (tE K O U) (tE K L Y) (tE K l3 J) σ H Q:=by
 obtain ⟨G,B,i,d,k,j,q⟩:=h;obtain ⟨a,e1,j⟩:=je j;obtain ⟨b,e2,j⟩:=je j;obtain ⟨z,e3,E⟩:=je j;refine ⟨G,B,i,a,k,e1,λx H1 m r1 _=>⟨G,B,i,b,k.ap m,e2,λy I n N _=>?_⟩⟩;refine hr x y I a b z _ ((r1.ap n).az Lv.be) (N.az Lv.be) e3 λv p=>?_
 cases z with
 |bl t=>
  refine ⟨t,(p.1 Any I).oK,?_⟩
  cases t with
  |false=>
   cases E;rw [if_neg lD];exact q _ I (m.trans n) (.bl false) (gB (K:=K) false).T
  |true=>
   obtain ⟨w,e5,e6⟩:=je E;rw [if_pos rfl];refine ⟨G,B,i,w,(k.ap m).ap n,e5,λy' H4 s4 r4 _=>?_⟩;refine u y y' H4 b w d Q ((N.ap s4).az Lv.be) (r4.az Lv.be) e6 λv p=>q v H4 (m.trans (n.trans s4)) (p.1 _ _) p.T
 |_=>cases E
def XU (m:b7 X (f7 k) r) (n:eH X.K r g) (i:b7 X (f7 d) p) (j:eH X.K p q) (t:DE X O a U) (u:DE X L b Y) (v:DE X y c J)
   (w:lastMarks [k,d] [b,c]=false:=by with_unfolding_all rfl):DE X l (.Compare a [k,d] [b,c] pos) (yD U Y J g q):=by
 with_unfolding_all exact (
  PE.imp (Uv m i t u v w) λ_ _ _ h=>W8 n j h)
def Zh (m:b7 X (f7 k) r) (n:eH X.K r g) (i:b7 X (f7 d) p) (j:eH X.K p q) (t:DE X O a U) (u:DE X L b Y) (v:DE X y c J)
   (w:lastMarks [k,d] [b,c]=false:=by with_unfolding_all rfl):DT X (.Compare a [k,d] [b,c] pos) (aX (yD U Y J g q)):=by
 with_unfolding_all exact (
  PT.imp (Up m i t u v w) λ_ _ _ h=>Wm (l:= .b) (λ_ _ _ h=>W8 n j h) h)
def qY (h:DE X l e f) (d: ∀whole,isTrue e X.env whole=(do let v<-whole;nI e.pos;iW [v] (truthy v)):=by intro _;rfl):DT X e (aX f):=by
 with_unfolding_all exact (
  PT.imp (FU h d) λ_ _ _ h=>Wm (λ_ _ _ h=>h) h)
def Er:D->ao Bool
 | .aO=> .ok false
 | .bl b=> .ok b
 | .int i=> .ok (i !=0)
 | .str x=> .ok ((x.length:Int) !=0)
 | .ah d=> .ok (!d.isEmpty)
 | .ag d=> .ok (!d.isEmpty)
 | .aU d=> .ok (!d.isEmpty)
 | .cv _ _=> .aj
 | .cO _ _=> .aj
 | .di _=> .aj
 | .eW _ _=> .aj
 | .dz _ _=> .aj
 | .obj _ _ _=> .aj
 | .mem _ _=> .aj
 | .cr _=> .aj
def GW {K:ay} {b:Bool} (r:aA K A H v d) (h:Er d= .ok b):pq K v H b:=by
 have r:=r.f;cases d<;>cases h
 . cases r;rfl
 . cases r;rfl
 . cases r;rfl
 . cases r.1;exact ⟨r.2,rfl⟩
 . obtain ⟨_,_,rfl,e,r⟩:=r;exact .inr (.inl ⟨_,.of e,by rw [r.isEmpty]⟩)
 . obtain ⟨_,_,rfl,e,_,r⟩:=r;exact .inl ⟨_,.of e,by rw [r.isEmpty]⟩
 . obtain ⟨_,_,rfl,e,r⟩:=r;exact .inl ⟨_,e.lI,by rw [r.isEmpty]⟩
def pO (f:TJ):Sl->ao Bool:=λd=>f d>>=Er
def GX (h:DE X l e f) (i: ∀whole,isTrue e X.env whole=(do let v<-whole;nI e.pos;iW [v] (truthy v)):=by intro _;rfl):DT X e (pO f):=by
 with_unfolding_all exact (
  PT.imp (Uo h i) λp H Q=>by
   rintro ⟨G,j,g,b,k,m,q⟩;obtain ⟨d,e1,e2⟩:=je m
   exact ⟨G,j,g,d,k,e1,λv n s r _=>⟨b,GW r e2,q n s⟩⟩)
section
variable {g y g2:TH} {rest:List Expr}
def bi (g:TH):Sl->ao Bool:=λd=>g d>>=λb=> .ok (!b)
def qz (h:DT X a g):DT X (.UnaryOp .Not a pos) (bi g):=by
 with_unfolding_all exact (
  PT.imp (FZ h) λn H Q=>by
   rintro ⟨G,j,i,b,k,m,q⟩;obtain ⟨d,e1,e2⟩:=je m;cases e2
   exact ⟨G,j,i,d,k,e1,q⟩)
@[irreducible] def DW (X:Cx) (e:Expr) (f:TH):Prop:=PW X e (tT X.K f)
theorem PW.imp (h:PW X e t) (w: ∀d H Q,j d H Q->t d H Q):PW X e j:=λk i s d H Q I q=>h k i s d H Q I (w d H Q q)
def DW.dt (h:DW X e g):DT X e g:=by
 with_unfolding_all exact (PW.pt h)
def JJ (h:DT X a g):DW X (.BoolOp .And [a] pos) g:=by
 with_unfolding_all exact (vR h)
def wB (h:DT X a g):DW X (.BoolOp .Or [a] pos) g:=by
 with_unfolding_all exact (FW h)
def dJ (y g2:TH):Sl->ao Bool:=λd=>y d>>=λb=>if b=true then g2 d else .ok false
def dY (y g2:TH):Sl->ao Bool:=λd=>y d>>=λb=>if b=true then .ok true else g2 d
def Z1 (j:DT X a y) (m:DW X (.BoolOp .And (b::rest) pos) g2):DW X (.BoolOp .And (a::b::rest) pos) (dJ y g2):=by
 with_unfolding_all exact (
  PW.imp (FX j m) λv H Q=>by
   rintro ⟨G,i,h,r,k,n,q⟩;obtain ⟨d,e1,e2⟩:=je n;refine ⟨G,i,h,d,k,e1,λp s=>?_⟩
   cases d with
   |true=>rw [if_pos rfl] at e2 ⊢;exact ⟨G,i,h,r,k.ap s,e2,λt u=>q t (s.trans u)⟩
   |false=>rw [if_neg lD] at e2 ⊢;cases e2;exact q p s)
def yC (j:DT X a y) (m:DW X (.BoolOp .Or (b::rest) pos) g2):DW X (.BoolOp .Or (a::b::rest) pos) (dY y g2):=by
 with_unfolding_all exact (
  PW.imp (FY j m) λv H Q=>by
   rintro ⟨G,i,h,r,k,n,q⟩;obtain ⟨d,e1,e2⟩:=je n;refine ⟨G,i,h,d,k,e1,λp s=>?_⟩
   cases d with
   |false=>rw [if_neg lD] at e2 ⊢;exact ⟨G,i,h,r,k.ap s,e2,λt u=>q t (s.trans u)⟩
   |true=>rw [if_pos rfl] at e2 ⊢;cases e2;exact q p s)
def nV (f:TJ) (g:TJ) (w:Bool):Sl->ao D:=λh=>f h>>=λd=>match d with
 | .bl b=>if b=w then g h else .ok (.bl b)
 |_=> .aj
def XR {d} (h:DE X l a f):DE X l (.BoolOp d [a] pos) f:=by
 with_unfolding_all exact (F3 h)
def Z3 (j:DE X O a U) (m:DE X l (.BoolOp .And (b::rest) pos) Y):DE X l (.BoolOp .And (a::b::rest) pos) (nV U Y true):=by
 with_unfolding_all exact (
  PE.imp (F4 j m) λI H Q=>by
   rintro ⟨G,i,h,r,k,n,q⟩;obtain ⟨d,e1,e2⟩:=je n;refine ⟨G,i,h,d,k,e1,λv p s u _=>?_⟩
   cases d with
   |bl t=>
    refine ⟨t,u.oK,?_⟩
    cases t with
    |true=>exact ⟨G,i,h,r,k.ap s,e2,λv w z B E=>q v w (s.trans z) B (Lv.tD s E)⟩
    |false=>cases e2;exact q _ p s (.bl false) (gB (K:=X.K) false).T
   |_=>cases e2)
def B0:D->ao D
 | .bl b=> .ok (.bl (!b))
 |_=> .aj
def nW (f:TJ):Sl->ao D:=λd=>f d>>=B0
def vo (h:DE X O a f):DE X l (.UnaryOp .Not a pos) (nW f):=by
 with_unfolding_all exact (
  PE.imp (F5 h) λu H Q=>by
   rintro ⟨G,j,i,r,k,m,q⟩;obtain ⟨d,e1,e2⟩:=je m;refine ⟨G,j,i,d,k,e1,λv n s p _=>?_⟩
   cases d with
   |bl t=>cases e2;exact ⟨t,p.oK,q _ n s (.bl _) (gB (K:=X.K) _).T⟩
   |_=>cases e2)
end
def jb (f:TJ) (g:TD):Sl->ao (List D):=λh=>f h>>=λd=>g h>>=λi=> .ok (d::i)
def aa:Sl->ao (List D):=λ_=> .ok []
def jf:DA X l [] aa:=by
 with_unfolding_all exact (PA.imp wa λi H Q=>by rintro ⟨G,j,g,d,k,h,q⟩;cases h;exact q [] H (am.refl H) .nil)
def ja (p:DE X l e f) (r:DA X l Z g) (t:T9 X e Z:=by exact jn rfl):DA X l (e::Z) (jb f g):=by
 with_unfolding_all exact (
  PA.imp (qc p r t) λI H Q=>by
   rintro ⟨G,j,h,N,k,u,q⟩;obtain ⟨d,e1,e2⟩:=je u;obtain ⟨i,w,y⟩:=je e2;cases y
   exact ⟨G,j,h,d,k,e1,λv H1 m z _=>⟨G,j,h,i,k.ap m,w,λvs B n E=>q _ B (m.trans n) (.cons (z.ap n) E)⟩⟩)
def qm (s:am H g) (d:g p=none):bg H (.ref p):=λa e o q=>by
 cases e;rw [s _ _ q] at d;cases d
def aw (g:TD):Sl->ao D:=λd=>g d>>=λh=>aS (h.length<=aR) (.ok (.ah h))
def bc (g:TD):Sl->ao D:=λd=>g d>>=λh=>aS (h.length<=aR) (.ok (.ag h))
def jt {r} (h:DA X .s Z g):DE X .t (.Tuple Z r pos) (aw g):=by
 with_unfolding_all exact (
  PE.imp (Gu h) λz H Q=>by
   rintro ⟨G,t,i,d,k,u,q⟩;obtain ⟨v,e1,e2⟩:=je u;obtain ⟨w,y⟩:=ju e2;cases y;refine ⟨G,t,i,v,k,e1,λB E m n=>⟨by rw [n.length];exact w,λp j=>?_⟩⟩
   exact q _ _ (m.trans (am.aJ j)) (.ah jr (n.ap (am.aJ j))) (qm m j))
def jU (h:DA X .s Z g):DE X .t (.List Z pos) (bc g):=by
 with_unfolding_all exact (
  PE.imp (Gv h) λy H Q=>by
   rintro ⟨G,r,j,d,k,t,q⟩;obtain ⟨u,e1,e2⟩:=je t;obtain ⟨v,w⟩:=ju e2;cases w;refine ⟨G,r,j,u,k,e1,λz B m n=>⟨by rw [n.length];exact v,λp i=>?_⟩⟩
   exact q _ _ (m.trans (am.aJ i)) (.ag jr (k.new p (am.free m i)) (n.laid i)) (qm m i))
def VZ (K:ay) (r:List V->Hp->VK->Prop) (g:TC):Prop:= ∀(h:List V) (H:Hp) (i:List D) (d:D) (Q:VK),ai K Any H h i->g i= .ok d->(∀v,Sc K v d->Q v H)->r h H Q
def JU (K:ay) (r:List V->Hp->VK->Prop) (g:TC):Prop:= ∀(A:Xc) (i:List V) (H:Hp) (j:List D) (d:D) (Q:VK),ai K A H i j->g j= .ok d->(∀v h,am H h->aA K (λc=>H c=none\/A c) h v d->bg H v->Q v h)->r i H Q
def app (f:TD) (g:TC):Sl->ao D:=λd=>f d>>=g
def GY {K:ay} (p:VZ K r g) (h:tE K l' (app t g) u H Q):tc r (tA K l t) u H Q:=by
 obtain ⟨G,w,i,d,k,y,q⟩:=h;obtain ⟨j,e1,e2⟩:=je y;refine ⟨G,w,i,j,k,e1,λz m B E=>?_⟩;exact p z m j d Q (E.az Lv.be) e2 λv n=>q v m B (n.1 _ _) n.T
def Es {K:ay} (n:JU K r g) (h:tE K .t (app p g) t H Q):tc r (tA K .s p) t H Q:=by
 obtain ⟨G,u,i,d,k,w,q⟩:=h;obtain ⟨m,e1,e2⟩:=je w;refine ⟨G,u,i,m,k,e1,λy B j E=>?_⟩;exact n _ y B m d Q E e2 λv I N r2 nt=>q v I (j.trans N) (r2.az λc z=>z.elim (λz=>k.new c (am.free j z)) λz=>z) (nt.ap j)
def GZ {K:ay} (m:JU K r g) (h:tE K .b (app n g) p H Q):tc r (tA K .b n) p H Q:=by
 obtain ⟨G,t,i,d,k,u,q⟩:=h;obtain ⟨j,e1,e2⟩:=je u;refine ⟨G,t,i,j,k,e1,λw y z B=>?_⟩;exact m _ w y j d Q B e2 λv E I N nt=>q v E (z.trans I) (N.az λc _=>trivial) trivial
section
variable {x:Str} {id T:String} {p:Pos} {r:List V->Hp->VK->Prop} {g:TC} {q:TD}
def jD (j:bf X (.builtin id) r) (k:VZ X.K r g) (m:Gl X x) (n:X.mg x=none) (t:gH x=some (.builtin id))
   (u:DA X l (e::Z) q) (v:x≠ "__name__" :=by decide) (d:Yj x:=by decide)
   (w:T9 X e Z:=by exact jn rfl) (i:T8 X pos Z:=by exact jB rfl):DE X l' (.Call (.Name x p) (e::Z) [] pos) (app q g):=by
 with_unfolding_all exact (
  PE.imp (zv j m n t u v d w i) λ_ _ _ h=>GY k h)
def zg (j:bf X (.type T) r) (k:JU X.K r g) (m:Gl X x) (n:X.mg x=none) (t:gH x=some (.type T))
   (u:DA X .s (e::Z) q) (v:x≠ "__name__" :=by decide) (d:Yj x:=by decide)
   (w:T9 X e Z:=by exact jn rfl) (i:T8 X pos Z:=by exact jB rfl):DE X .t (.Call (.Name x p) (e::Z) [] pos) (app q g):=by
 with_unfolding_all exact (
  PE.imp (Jj j m n t u v d w i) λ_ _ _ h=>Es k h)
def wf (j:bf X (.type T) r) (k:JU X.K r g) (m:Gl X x) (n:X.mg x=none) (t:gH x=some (.type T))
   (u:DA X .b (e::Z) q) (v:x≠ "__name__" :=by decide) (d:Yj x:=by decide)
   (w:T9 X e Z:=by exact jn rfl) (i:T8 X pos Z:=by exact jB rfl):DE X .b (.Call (.Name x p) (e::Z) [] pos) (app q g):=by
 with_unfolding_all exact (
  PE.imp (Jj j m n t u v d w i) λ_ _ _ h=>GZ k h)
end
def l5 (K:ay) (j:Bool) (n:Nat) (F:TC):Sp:=λh H Q _=> ∃B i d,h.length=n/\ai K B H h i/\F i= .ok d/\ ∀v g,am H g->aA K (λa=>H a=none\/B a) g v d->(j=true->bg H v)->Q v g
def j4 (n:Nat) (F:TC) (g:TD):Sl->ao D:=λd=>g d>>=λh=>aS (h.length=n) (F h)
section
variable {CX:i0} {k:Nat} {x:Str} {h:Addr} {fd:iK} {ps:List Str} {p:Pos} {n:Nat} {F:TC} {E:XK} {g:TD} {fr:Bool}
def G0 (G:cE X.prog X.w X.K X.mg X.ae CX k h fd ps (l5 X.K fr n F)) (w:aH k X.A) (y:Gl X x) (B:X.mg x=some (.ref h)) (I:h8 X.K (.ref h)=true) (N:Binds X.K fd ps []) (hx:Wh CX X E)
   (ha:DA X .s (e::Z) g) (i:Yj x:=by decide) (he:T9 X e Z:=by exact jn rfl) (j:T8 X pos Z:=by exact jB rfl):
   DE X .s (.Call (.Name x p) (e::Z) [] pos) (j4 n F g):=by
 with_unfolding_all exact (
  PE.imp (Wy G w y B I N .nil hx ha i he j) λσ H Q=>by
   rintro ⟨GG,H0,m,d,k,ef,q⟩;obtain ⟨r,e1,e2⟩:=je ef;obtain ⟨hn,e3⟩:=ju e2;refine ⟨GG,H0,m,r,k,e1,λvs H1 t u=>?_⟩;show l5 X.K fr n F (vs++[]) H1 Q E;rw [lO]
   exact ⟨_,r,d,by rw [u.length];exact hn,u,e3,λv H2 s2 r2 _=>q v H2 (t.trans s2) (r2.az λc z=>z.elim (λz=>k.new c (am.free t z)) λz=>z) trivial⟩)
def ku (G:cE X.prog X.w X.K X.mg X.ae CX k h fd ps (l5 X.K true n F)) (w:aH k X.A) (y:Gl X x) (B:X.mg x=some (.ref h)) (I:h8 X.K (.ref h)=true) (N:Binds X.K fd ps []) (hx:Wh CX X E)
   (ha:DA X .s (e::Z) g) (i:Yj x:=by decide) (he:T9 X e Z:=by exact jn rfl) (j:T8 X pos Z:=by exact jB rfl):
   DE X .t (.Call (.Name x p) (e::Z) [] pos) (j4 n F g):=by
 with_unfolding_all exact (
  PE.imp (Wy G w y B I N .nil hx ha i he j) λσ H Q=>by
   rintro ⟨GG,H0,m,d,k,ef,q⟩;obtain ⟨t,e1,e2⟩:=je ef;obtain ⟨hn,e3⟩:=ju e2;refine ⟨GG,H0,m,t,k,e1,λvs H1 r u=>?_⟩;show l5 X.K true n F (vs++[]) H1 Q E;rw [lO]
   exact ⟨_,t,d,by rw [u.length];exact hn,u,e3,λv H2 s2 r2 nt=>q v H2 (r.trans s2) (r2.az λc z=>z.elim (λz=>k.new c (am.free r z)) λz=>z) ((nt rfl).ap r)⟩)
end
def aQ:D->D->ao D
 | .ag g,.int i=>match gy g i with
  |some d=> .ok d
  |none=> .aj
 | .aU g,.int i=>match gy g i with
  |some d=> .ok d
  |none=> .aj
 | .ah g,.int i=>match gy g i with
  |some d=> .ok d
  |none=> .aj
 | .str z,.int i=>match gy z.cps.toList i with
  |some c=> .ok (.str ⟨#[c]⟩)
  |none=> .aj
 |_,_=> .aj
def Zo {K:ay} (r:ai K A H k g) (h:gy g i=some d): ∃v,gy k i=some v/\aA K A H v d:=by
 unfold gy at h ⊢;rw [r.length]
 cases e:iM g.length i with
 |none=>rw [e] at h;cases h
 |some j=>rw [e] at h;exact r.get h
def ug (c:Nat):(⟨#[c]⟩:Str).length<=aR:=by show 1<=aR;decide
def Et {a b:D} (k:aA X.K A H x a) (m:aA X.K Any H y b) (h:aQ a b= .ok d) (q: ∀v,aA X.K A H v d->Q v H):Eg X.K x y H Q:=by
 unfold aQ at h
 split at h
 . split at h
   . cases h;cases m.cc;obtain ⟨p,g,rfl,i,_,r⟩:=k.c7;obtain ⟨v,e2,j⟩:=Zo r.low ‹_›;exact .inl ⟨p,g,_,v,rfl,rfl,.of i,e2,q v j⟩
   . cases h
 . split at h
   . cases h;cases m.cc;obtain ⟨p,g,rfl,i,r⟩:=k.fH;obtain ⟨v,e2,j⟩:=Zo r ‹_›;exact .inl ⟨p,g,_,v,rfl,rfl,i.lI,e2,q v j⟩
   . cases h
 . split at h
   . cases h;cases m.cc;obtain ⟨p,g,rfl,i,r⟩:=k.cm;obtain ⟨v,e2,j⟩:=Zo r ‹_›;exact .inr (.inl ⟨p,g,_,v,rfl,rfl,.of i,e2,q v j⟩)
   . cases h
 . split at h
   . cases h;cases m.cc;obtain ⟨rfl,n⟩:=k.gl;exact .inr (.inr ⟨_,_,_,rfl,rfl,n,‹_›,q _ (.str _ (by show 1<=aR;decide))⟩)
   . cases h
 . cases h
def qg (n:DE X .s a U) (p:DE X L b Y) (r:Zp b:=by intro _ _;rfl):DE X .s (.Subscript a b pos) (al U Y aQ):=by
 with_unfolding_all exact (
  PE.imp (vZ k9 n p r) λN H Q=>by
   rintro ⟨G,i,g,d,k,h,q⟩;obtain ⟨t,e1,h⟩:=je h;obtain ⟨u,e2,w⟩:=je h;refine ⟨G,i,g,t,k,e1,λx H1 j z _=>⟨G,i,g,u,k.ap j,e2,λy B m E _=>?_⟩⟩
   exact Et (z.ap m) (E.az Lv.be) w λv I=>q v B (j.trans m) I trivial)
@[irreducible] def DO (X:Cx) (e:Option Expr) (f:Sl->ao (Option Int)):Prop:=PO X e (λh H Q=> ∃G j d i,ar X.K G j d h H/\f d= .ok i/\ ∀g,am H g->Q i g)
theorem PO.imp {e:Option Expr} (h:PO X e t) (w: ∀d H Q,i d H Q->t d H Q):PO X e i:=λg s d H Q I q=>h g s d H Q I (w d H Q q)
def xB:Sl->ao (Option Int):=λ_=> .ok none
def zX:DO X none xB:=by
 with_unfolding_all exact (PO.imp vW λh H Q=>by rintro ⟨G,j,d,i,k,g,q⟩;cases g;exact q H (am.refl H))
def Eu:D->ao (Option Int)
 | .int i=> .ok (some i)
 |_=> .aj
def wE (f:TJ):Sl->ao (Option Int):=λd=>f d>>=Eu
def zW (h:DE X l e f):DO X (some e) (wE f):=by
 with_unfolding_all exact (PO.imp (vV h) λt H Q=>by
  rintro ⟨G,m,g,i,k,n,q⟩;obtain ⟨d,e1,e2⟩:=je n
  cases d with
  |int j=>cases e2;exact ⟨G,m,g,.int j,k,e1,λv p s r _=>⟨j,r.cc,q p s⟩⟩
  |_=>cases e2)
def cutD (d:List D) (lo g:Option Int):List D:=(d.drop (HT.bz d.length 0 lo)).take (HT.bz d.length d.length g-HT.bz d.length 0 lo)
def WY {K:ay} {lo:Option Int} (r:ai K A H d g):ai K A H (i2 d lo h) (cutD g lo h):=by
 unfold i2 cutD;rw [r.length];exact (r.drop _).take _
def qL (f:TJ) (h i:Sl->ao (Option Int)) (g:D->Option Int->Option Int->ao D):Sl->ao D:=λd=>f d>>=λa=>h d>>=λlo=>i d>>=λj=>g a lo j
end
section
variable {K:ay} {G:Xc} {H0 H H1 H':Hp} {env env':Sl} {σ nj:L2.St} {i:Nat} {d:D} {v:V}
def ji {a:Type} {l:List a} {x:a} (h:i≠j):(l.set i x)[j]?=l[j]?:=Ai h
def jp {a:Type} {l:List a} {x y:a} (h:(l.set i x)[i]?=some y):y=x/\i<l.length:=by
 have c:i<l.length:=by
  have:=(fZ.mp h).1;simpa using this
 rw [lT c] at h;exact ⟨(fQ h).symm,c⟩
def Jl {s:Slot} {a:Addr} (h:jQ (env.set i s) (σ.set i (some v)) a):jQ env σ a\/(∃d,s= .av d/\v= .ref a):=by
 obtain ⟨j,d,c,g⟩:=h
 by_cases e:i=j
 . subst e;obtain ⟨k,_⟩:=jp c;obtain ⟨l,_⟩:=jp g;exact .inr ⟨d,k.symm,(fQ l).symm⟩
 . rw [ji e] at c g;exact .inl ⟨j,d,c,g⟩
def ar.en (k:ar K G H0 env σ H) (r:aA K (Sf G env σ) H v d):ar K G H0 (env.set i (.ak d)) (σ.set i (some v)) H:=by
 have w: ∀a,Sf G env σ a->Sf G (env.set i (.ak d)) (σ.set i (some v)) a:=λa n=>⟨λo=>(by
   rcases Jl o with z| ⟨J,z,_⟩
   . exact n.1 z
   . cases z),n.2⟩
 refine ⟨by simp [k.len],k.ae,k.g0,λj e h=>?_,λj e h=>?_,λj m e y a c g p t=>?_⟩
 . by_cases z:i=j
   . subst z;obtain ⟨q,u⟩:=jp h;cases q;exact ⟨v,lT (by rw [k.len];exact u),r.az w⟩
   . rw [ji z] at h ⊢;obtain ⟨l,c,g⟩:=k.ak j e h;exact ⟨l,c,g.az w⟩
 . by_cases z:i=j
   . subst z;obtain ⟨q,u⟩:=jp h;cases q
   . rw [ji z] at h ⊢;obtain ⟨l,c,B,g⟩:=k.av j e h;exact ⟨l,c,B,g.aV (λ_ _ e _=>e) w λ_ e=>e⟩
 . have E:i≠j:=λz=>by subst z;obtain ⟨q,_⟩:=jp c;cases q
   have I:i≠m:=λz=>by subst z;obtain ⟨q,_⟩:=jp g;cases q
   rw [ji E] at c p;rw [ji I] at g t;exact k.lZ j m e y a c g p t
def QT:D->Bool
 | .ag _=>true
 | .cv _ _=>true
 | .cO _ _=>true
 | .obj _ _ _=>true
 | .cr _=>true
 |_=>false
def WB (r:aA K A H v d) (h:QT d=true): ∃a,v= .ref a/\A a/\(∃o,H a=some o/\lQ (some o))/\Top K (λc=>A c/\c≠a) H a d:=by
 have r:=r.f;cases d<;>cases h
 . obtain ⟨_,_,rfl,e,a,r⟩:=r;exact ⟨_,rfl,a,⟨_,e,trivial⟩,.ag e r⟩
 . obtain ⟨_,_,rfl,e,a,k,r⟩:=r;exact ⟨_,rfl,a,⟨_,e,trivial⟩,.cv e k rfl r⟩
 . obtain ⟨_,_,rfl,e,a,k,r⟩:=r;exact ⟨_,rfl,a,⟨_,e,trivial⟩,.cO e k rfl r⟩
 . obtain ⟨_,_,_,_,rfl,e,a,k,l,r⟩:=r;exact ⟨_,rfl,a,⟨_,e,trivial⟩,.obj e ⟨k,l⟩ rfl r⟩
 . obtain ⟨_,_,rfl,e,a,k,r⟩:=r;exact ⟨_,rfl,a,⟨_,e,trivial⟩,.cr e k rfl r⟩
def G1 (s:am H H1) (g:bg H (.ref a)) (h: ∃o,H1 a=some o/\lQ (some o)):H a=none:=by
 cases e:H a with
 |none=>rfl
 |some o=>
  obtain ⟨k,c,j⟩:=h;rw [s a o e] at c;cases c;exact (g a rfl o e j).elim
def ar.B1 (k:ar K G H0 env σ H) (s:am H H1) (r:aA K (Sf G env σ) H1 v d) (Y:bg H v) (hd:QT d=true):ar K G H0 (env.set i (.av d)) (σ.set i (some v)) H1/\ ∃a,v= .ref a/\H a=none:=by
 obtain ⟨a,rfl,ga,mt,top⟩:=WB r hd;have I:=G1 s Y mt;refine ⟨?_,a,rfl,I⟩
 have w: ∀c,(Sf G env σ c/\c≠a)->Sf G (env.set i (.av d)) (σ.set i (some (V.ref a))) c:=λc n=>⟨λo=>(by
   rcases Jl o with z| ⟨d',z,m⟩
   . exact n.1.1 z
   . cases m;exact n.2 rfl),n.1.2⟩
 have B: ∀c,(Sf G env σ c/\H c≠none)->Sf G (env.set i (.av d)) (σ.set i (some (V.ref a))) c:=λc n=>w c ⟨n.1,λe=>n.2 (by rw [e];exact I)⟩
 have Z:=k.ap s;refine ⟨by simp [k.len],Z.ae,k.g0,λj e h=>?_,λj e h=>?_,λj J e O b p l L E=>?_⟩
 . by_cases z:i=j
   . subst z;obtain ⟨q,Q⟩:=jp h;cases q
   . rw [ji z] at h ⊢;obtain ⟨N,p,l⟩:=k.ak j e h;exact ⟨N,p,(l.ce.ap s).az B⟩
 . by_cases z:i=j
   . subst z;obtain ⟨q,Q⟩:=jp h;cases q;exact ⟨a,lT (by rw [k.len];exact Q),am.free k.ae I,top.aV (λ_ _ e _=>e) w λ_ e=>e⟩
   . rw [ji z] at h ⊢;obtain ⟨N,p,h0,l⟩:=k.av j e h;refine ⟨N,p,h0,?_⟩
     cases l with
     |ag e2 g=>exact .ag (s _ _ e2) ((g.ce.ap s).az B)
     |cv e2 t y g=>exact .cv (s _ _ e2) t y ((g.ce.ap s).az B)
     |cO e2 t y g=>exact .cO (s _ _ e2) t y ((g.ce.ap s).az B)
     |obj e2 t y g=>exact .obj (s _ _ e2) t y ((g.ce.ap s).az B)
     |cr e2 t y g=>exact .cr (s _ _ e2) t y ((g.ce.ap s).az B)
 . have new: ∀(j:Nat) (e:D),env[j]?=some (.av e)->σ[j]?=some (some (.ref a))->False:=λj e q1 q2=>by
     obtain ⟨u,q⟩:=k.there ⟨j,e,q1,q2⟩;rw [I] at q;cases q
   by_cases U:i=j
   . subst U
     by_cases m:i=J
     . exact m
     . rw [ji m] at l E;obtain ⟨q,_⟩:=jp L;cases q;exact (new J O l E).elim
   . rw [ji U] at p L
     by_cases m:i=J
     . subst m;obtain ⟨q,_⟩:=jp E;cases q;exact (new j e p L).elim
     . rw [ji m] at l E;exact k.lZ j J e O b p l L E
def bt.set (sm:am H H1) (fresh: ∀a d,s= .av d->v= .ref a->H a=none):bt env σ H (env.set i s) (σ.set i (some v)) H1:=
 ⟨λb o e _=>sm b o e,λb o=>by
  rcases Jl o with z| ⟨c,z,g⟩
  . exact .inl z
  . exact .inr (fresh b c z g),λb e=>am.free sm e⟩
def bt.sf (f:bt env σ H env' nj H'): ∀a,(Sf G env σ a/\H a≠none)->Sf G env' nj a:=λa z=>⟨λo=>(f.more a o).elim z.1.1 z.2,z.1.2⟩
def bt.st (k:ar K G H0 env σ H) (f:bt env σ H env' nj H'):eL (λa=>Sf G env σ a/\H a≠none) H H':=λa o e m=>f.keep a o e λc=>(m (k.dX c e)).1.1 c
def bt.rep (k:ar K G H0 env σ H) (f:bt env σ H env' nj H') (r:aA K (Sf G env σ) H v d):aA K (Sf G env' nj) H' v d:=r.ce.aV (f.st k) f.sf
def bt.B2 (k:ar K G H0 env σ H) (f:bt env σ H env' nj H') (r:ai K (Sf G env σ) H a c):ai K (Sf G env' nj) H' a c:=r.ce.aV (f.st k) f.sf
end
def Wo (d:D):Slot:=if QT d=true then .av d else .ak d
def ar.ie {K:ay} (k:ar K G l env c H) (s:am H g) (r:aA K (Sf G env c) g v d) (m:bg H v):
   ar K G l (env.set i (Wo d)) (c.set i (some v)) g/\bt env c H (env.set i (Wo d)) (c.set i (some v)) g:=by
 unfold Wo
 by_cases h:QT d=true
 . rw [if_pos h];obtain ⟨z,o,j,n⟩:=k.B1 s r m h;refine ⟨z,.set s λa p _ e=>?_⟩;rw [e] at j;cases j;exact n
 . rw [if_neg h];exact ⟨(k.ap s).en r,.set s λ_ _ z _=>by cases z⟩
def cn:Sl->ao bF:=λa=> .ok (.nx a)
def au (e g2:TF):Sl->ao bF:=λc=>e c>>=λo=>match o with
 | .nx a=>g2 a
 | .rt g d=> .ok (.rt g d)
 | .bk a=> .ok (.bk a)
 | .ct a=> .ok (.ct a)
section
variable {X:Cx} {e c tg:Expr} {st:Stmt} {rest u Q:List Stmt} {pos:Pos} {l:Lv} {f:TJ} {g I g2:TF}
def jK:fU X [] cn:=by
 with_unfolding_all exact (cb.imp yt λE a H=>by
  rintro ⟨G,i,d,o,k,h,q⟩;cases h
  exact q a H k (bt.refl (am.refl H)))
def yI {K:ay} (f:bt m p H h n r) (q:l0 K G t m p H E o):l0 K G t h n r E o:=by
 cases o with
 |nx e=>exact λa i j k=>q a i j (f.trans k)
 |bk e=>exact λa i j k=>q a i j (f.trans k)
 |ct e=>exact λa i j k=>q a i j (f.trans k)
 |rt v d=>exact q
def jg (m:DS X st I) (n:fU X rest g2):fU X (st::rest) (au I g2):=by
 with_unfolding_all exact (cb.imp (qA m n) λE y H=>by
  rintro ⟨G,i,h,o,k,p,q⟩;obtain ⟨j,e1,e2⟩:=je p;refine ⟨G,i,h,j,k,e1,?_⟩
  cases j with
  |nx a=>exact λr z t v=>⟨G,i,a,o,t,e2,yI v q⟩
  |rt B d=>cases e2;exact q
  |bk w=>cases e2;exact q
  |ct w=>cases e2;exact q)
def jo (a:DS X st I):fU X [st] I:=by
 with_unfolding_all exact (cb.imp (QM a) λE d H q=>q)
def aZ (f:TJ):Sl->ao bF:=λa=>f a>>=λd=> .ok (.rt true d)
def jN (h:DE X .t e f):DS X (.Return (some e) pos) (aZ f):=by
 with_unfolding_all exact (PS.imp (Kq h) λE t H=>by
  rintro ⟨G,j,i,o,k,m,q⟩;obtain ⟨d,e1,e2⟩:=je m;cases e2
  exact ⟨G,j,i,d,k,e1,λv n s r p=>q v n (k.ae.trans s) (r.az λa z=>z.2) λ_=>bg.ap k.ae p⟩)
def retS (f:TJ):Sl->ao bF:=λa=>f a>>=λd=> .ok (.rt false d)
def Zi (h:DE X .s e f):DS X (.Return (some e) pos) (retS f):=by
 with_unfolding_all exact (PS.imp (Kq h) λE p H=>by
  rintro ⟨G,j,i,o,k,m,q⟩;obtain ⟨d,e1,e2⟩:=je m;cases e2
  exact ⟨G,j,i,d,k,e1,λv n s r t=>q v n (k.ae.trans s) (r.az λa z=>z.2) λz=>by cases z⟩)
def tF (i:Nat):Sl->ao D:=λa=>match a[i]? with
 |some (.av d)=> .ok d
 |some (.ak d)=>aS (d.gA=true) (.ok d)
 |_=> .aj
def WV (i:Nat) {p:Pos} (y:X.N[i]?=some x:=by rfl) (B:gJ X.env.scope x:=by exact eK rfl) (hd:Yj x:=by decide)
    (n:Yi x:=by decide):DS X (.Return (some (.Name x p)) pos) (aZ (tF i)):=by
 with_unfolding_all exact (PS.imp (Kq (wx y B hd n)) λE U H=>by
  rintro ⟨G,Y,J,o,k,L,q⟩;obtain ⟨d,e1,e2⟩:=je L;cases e2;unfold tF at e1
  split at e1
  . rename_i N h;cases e1;obtain ⟨a,j,r,m⟩:=k.av i d h;refine ⟨.ref a,j,q _ H k.ae (m.rep (λc z=>⟨z.2,ZJ k h j c z⟩) (k.g0 a r)) λ_ b e Z t=>?_⟩;cases e;rw [r] at t;cases t
  . rename_i N h;obtain ⟨w,O⟩:=ju e1;cases O;obtain ⟨v,j,m⟩:=k.ak i d h;exact ⟨v,j,q v H k.ae (m.gA w) λ_=>Vh k.ae m w⟩
  . cases e1)
def cp (t:TH) (I g2:TF):Sl->ao bF:=λa=>t a>>=λb=>if b=true then I a else g2 a
def q8 (h:DT X c t) (i:fU X u I) (j:fU X Q g2):DS X (.If c u Q pos) (cp t I g2):=by
 with_unfolding_all exact (PS.imp (Uq h i j) λE n H=>by
  rintro ⟨G,d,a,o,k,m,q⟩;obtain ⟨b,e1,e2⟩:=je m;refine ⟨G,d,a,b,k,e1,λp s=>?_⟩
  cases b with
  |true=>rw [if_pos rfl] at e2 ⊢;exact ⟨G,d,a,o,k.ap s,e2,yI (bt.refl s) q⟩
  |false=>rw [if_neg lD] at e2 ⊢;exact ⟨G,d,a,o,k.ap s,e2,yI (bt.refl s) q⟩)
def cf (i:Nat) (f:TJ):Sl->ao bF:=λa=>f a>>=λd=> .ok (.nx (a.set i (Wo d)))
def wC (i:Nat) {x:Str} {a:Pos} (n:X.N.Nodup) (h:DE X .t e f) (p:X.N[i]?=some x:=by rfl) (t:Loc X.env.scope x:=by exact dI rfl) (w:gw e (some (.Name x a)) pos.line X.env=pure false:=by rfl)
   (y:T7 X x:=by first|exact .inl rfl|exact .inr rfl|assumption):DS X (.Assign [.Name x a] e pos) (cf i f):=by
 with_unfolding_all exact (
  PS.imp (ZE n p t h w y) λE L H=>by
   rintro ⟨G,z,j,o,k,B,q⟩;obtain ⟨d,e1,e2⟩:=je B;cases e2
   exact ⟨G,z,j,d,k,e1,λv J s r m=>q _ J (k.ie s r m).1 (k.ie s r m).2⟩)
def jL (i:Nat) (f:TJ):Sl->ao bF:=λa=>f a>>=λd=> .ok (.nx (a.set i (.ak d)))
def jP (i:Nat) {a:Pos} (m:X.N.Nodup) (h:DE X .s e f) (n:X.N[i]?=some x:=by rfl) (p:Loc X.env.scope x:=by exact dI rfl) (t:gw e (some (.Name x a)) pos.line X.env=pure false:=by rfl)
   (w:T7 X x:=by first|exact .inl rfl|exact .inr rfl|assumption):DS X (.Assign [.Name x a] e pos) (jL i f):=by
 with_unfolding_all exact (
  PS.imp (ZE m n p h t w) λE L H=>by
   rintro ⟨G,y,j,o,k,B,q⟩;obtain ⟨d,e1,e2⟩:=je B;cases e2
   exact ⟨G,y,j,d,k,e1,λv J s r _=>q _ J ((k.ap s).en r) (.set s λ_ _ z _=>by cases z)⟩)
end
def AG (x:Str):It:=⟨λi _=>i<x.cps.size,λi H v a=>a=H/\ ∃c,x.cps[i]?=some c/\v= .str ⟨#[c]⟩,λi _=>x.cps.size<=i⟩
def Ye {K:ay} (g:Addr) (x:Str) (t:Tok):Turn P w K tg (AG x) [g] g (λi h=>h.IsStrIter g "str_ascii_iterator" x t i) where
 mem:=by simp
 obj:=λi h st b j=>by
  have e:b=g:=by simpa using j
  subst e;obtain ⟨o,e,c,d⟩:=st;exact ⟨o,e,λv z=>by rw [d] at z;cases z⟩
 keep:=λi h p st k=>let ⟨o,Y,r⟩:=st;⟨o,k g (by simp) o Y,r⟩
 item:=by
  intro X q hw u Q i a s U H E I m st y;subst q hw u;have n:i<x.cps.size:=y;obtain ⟨B,J,Z,L,N,O⟩:=m g (by simp);refine wpAny_pyNext_ascii_item st (c:=x.cps[i]) (by simp [n]) λp l sb=>?_
  have I1:aq X a U H {s with heap:=p,toks:=s.toks+1}:=I.turned (λb o j e=>(sb.2 b j).trans e) B J L N O;obtain ⟨o,e,c,d⟩:=id l;exact ⟨_,rfl,YM e c d (by decide) ⟨.str ⟨#[x.cps[i]]⟩,H,I1,⟨_,rfl⟩,⟨rfl,_,by simp [n],rfl⟩,l,λb j=>(m b j).1⟩⟩
 done:=by
  intro X q hw u Q i a s U H E I m st y;subst q hw u;have n:=y;obtain ⟨B,J,Z,L,N,O⟩:=m g (by simp);exact wpAny_pyNext_ascii_end (I.ok.hd Q) st (by simp;exact n) λp eb=>⟨rfl,I.turned (λb o j e=>eb b o j e) B J L N O⟩
 self:=λ_ _ _ _ _ st h=>wpAny_pyIter_striter_ascii st h
def Y5 {K:ay} (g:Addr) (x:Str) (t:Tok):Turn P w K tg (AG x) [g] g (λi h=>h.IsStrIter g "str_iterator" x t i) where
 mem:=by simp
 obj:=λi h st b j=>by
  have e:b=g:=by simpa using j
  subst e;obtain ⟨o,e,c,d⟩:=st;exact ⟨o,e,λv z=>by rw [d] at z;cases z⟩
 keep:=λi h p st k=>let ⟨o,Y,r⟩:=st;⟨o,k g (by simp) o Y,r⟩
 item:=by
  intro X q hw u Q i a s U H E I m st y;subst q hw u;have n:i<x.cps.size:=y;obtain ⟨B,J,Z,L,N,O⟩:=m g (by simp);refine wpAny_pyNext_wide_item st (c:=x.cps[i]) (by simp [n]) λp l sb=>?_
  have I1:aq X a U H {s with heap:=p,toks:=s.toks+1}:=I.turned (λb o j e=>(sb.2 b j).trans e) B J L N O;obtain ⟨o,e,c,d⟩:=id l;exact ⟨_,rfl,YM e c d (by decide) ⟨.str ⟨#[x.cps[i]]⟩,H,I1,⟨_,rfl⟩,⟨rfl,_,by simp [n],rfl⟩,l,λb j=>(m b j).1⟩⟩
 done:=by
  intro X q hw u Q i a s U H E I m st y;subst q hw u;have n:=y;obtain ⟨B,J,Z,L,N,O⟩:=m g (by simp);exact wpAny_pyNext_wide_end (I.ok.hd Q) st (by simp;exact n) λp eb=>⟨rfl,I.turned (λb o j e=>eb b o j e) B J L N O⟩
 self:=λ_ _ _ _ _ st h=>wpAny_pyIter_striter_wide st h
def Walk (J:It) (a:List V) (P:Hp->Prop):Prop:= ∀i H,P H->(i<a.length->J.go i H)/\(i<a.length-> ∀x c,J.Al i H x c->c=H/\a[i]?=some x)/\(a.length<=i->J.stop i H)
def Yd (K:ay) (A:Xc) (a H c:Hp) (x:V) (d:D):Prop:=
 (c=H/\aA K A a x d)\/ ∃p e g,H p=none/\x= .ref p/\c=L2.aJ H p (.ah e)/\d= .ah g/\ai K A a e g
def B3 (K:ay) (A:Xc) (e:Hp) (J:It) (a:List D) (P:Hp->Prop):Prop:= ∀i H,P H->(i<a.length->J.go i H)/\(∀d,a[i]?=some d-> ∀x c,J.Al i H x c->Yd K A e H c x d)/\(a.length<=i->J.stop i H)
def Walk.toD {K:ay} (c:ai K A g j k) (w:Walk J j P):B3 K A g J k P:=λi H p=>by
 have t:=c.length;obtain ⟨l,m,n⟩:=w i H p;refine ⟨λh=>l (by omega),λd hd x o y=>?_,λh=>n (by omega)⟩;have u:=(fZ.mp hd).1;obtain ⟨e,q⟩:=m (by omega) x o y;obtain ⟨v,a,r⟩:=c.get' q;rw [hd] at a;cases a;exact .inl ⟨e,r⟩
def tI (K:ay) (f:TD):TI:=λe H R=> ∃G j a h,ar K G j a e H/\f a= .ok h/\
 ∀J c P,am H c->B3 K (Sf G a e) c J h P->P c->(∀d g i,bt a e c d g i->P i)->R J c
@[irreducible] def DI (X:Cx) (a e:Expr) (f:TD):Prop:=PI X a e (tI X.K f)
def JW (z:Str):List D:=z.cps.toList.map λc=> .str ⟨#[c]⟩
def uA:D->ao (List D)
 | .ag a=> .ok a
 | .aU a=> .ok a
 | .ah a=> .ok a
 | .str z=> .ok (JW z)
 |_=> .aj
def Yg (z:Str):List V:=z.cps.toList.map λc=> .str ⟨#[c]⟩
def Kc {K:ay} (z:Str):ai K A H (Yg z) (JW z):=by
 unfold Yg JW;generalize z.cps.toList=l
 induction l with
 |nil=>exact .nil
 |cons c r a=>exact .cons (.str _ (ug c)) a
section
variable {X:Cx} {B e:Expr} {f:TJ} {l:Lv}
def dj (f:TJ):Sl->ao (List D):=λa=>f a>>=uA
def zF (h:DE X .s e f):DI X B e (dj f):=by
 with_unfolding_all exact (by
  rintro Z s σ H R I ⟨G,H0,N,ds,k,ef,q⟩;obtain ⟨d,e1,e2⟩:=je ef;refine bn (h Z s σ H (λv n=>am H n/\aA X.K (Sf G N σ) n v d) I ⟨G,H0,N,d,k,e1,λv E s r _=>⟨s,r⟩⟩) λv u l6=>?_;obtain ⟨x,n,j,r1,sm,rep⟩:=l6
  have k1:=k.ap sm
  cases d with
  |ag ds'=>
   cases e2;obtain ⟨a,g,rfl,L,na,rs⟩:=rep.c7;cases r1;obtain ⟨Y,rv,p,hz⟩:=j.list (.of L);refine pf p.isList ?_;refine ⟨u.heap.objs.size,[u.heap.objs.size],_,_,n,rfl,j.kept λb o e=>cu _ e,Jb a _,⟨_,ej _ rfl,rfl,rfl⟩,λb O=>?_,?_⟩
   . have e:b=u.heap.objs.size:=by simpa using O
     subst e;exact j.f6 (a9 _) (j.aP.fresh (a9 _))
   . refine q _ n (λH=>H a=some (.ag g)) sm (Walk.toD rs.low λi E p=>?_) L (λw Q E fr=>fr.keep a _ L na.1);exact ⟨λm=>⟨g,g[i],.of p,by simp [m]⟩,λ_ x E y=>⟨y.1,y.2 g (.of p)⟩,λm=>⟨g,.of p,m⟩⟩
  |aU ds'=>
   cases e2;obtain ⟨a,g,rfl,L,rs⟩:=rep.fH;cases r1;obtain ⟨Y,rv,p,hz⟩:=j.list L.lI;refine pf p.isList ?_;refine ⟨u.heap.objs.size,[u.heap.objs.size],_,_,n,rfl,j.kept λb o e=>cu _ e,Jb a _,⟨_,ej _ rfl,rfl,rfl⟩,λb O=>?_,?_⟩
   . have e:b=u.heap.objs.size:=by simpa using O
     subst e;exact j.f6 (a9 _) (j.aP.fresh (a9 _))
   . refine q _ n (λH=>lY X.K H a g) sm (Walk.toD rs λi E p=>?_) L (λw Q E fr=>?_)
     . exact ⟨λm=>⟨g,g[i],p.lI,by simp [m]⟩,λ_ x E y=>⟨y.1,y.2 g p.lI⟩,λm=>⟨g,p.lI,m⟩⟩
     . rcases L with ⟨o,eo⟩|z
       . exact .inl ⟨o,fr.keep a _ eo λow=>(k1.dX ow eo).elim⟩
       . exact .inr z
  |ah ds'=>
   cases e2;obtain ⟨a,g,rfl,L,rs⟩:=rep.cm;cases r1;obtain ⟨Y,rv,p,hz⟩:=j.tuple (.of L);refine wpAny_pyIter_tuple (show u.heap.IsTuple a Y.toArray from p) ?_;refine ⟨u.heap.objs.size,[u.heap.objs.size],_,_,n,rfl,j.kept λb o e=>cu _ e,Ya a _,⟨_,ej _ rfl,rfl,rfl⟩,λb O=>?_,?_⟩
   . have e:b=u.heap.objs.size:=by simpa using O
     subst e;exact j.f6 (a9 _) (j.aP.fresh (a9 _))
   . refine q _ n (λH=>H a=some (.ah g)) sm (Walk.toD rs λi E p=>?_) L (λw Q E fr=>fr.keep a _ L λow=>(k1.dX ow L).elim);exact ⟨λm=>⟨g,g[i],.of p,by simp [m]⟩,λ_ x E y=>⟨y.1,y.2 g (.of p)⟩,λm=>⟨g,.of p,m⟩⟩
  |str z=>
   cases e2;obtain ⟨rfl,hz⟩:=rep.gl;obtain ⟨t,rfl⟩:=r1
   have fin: ∀(J:It),J=AG z-> ∃(g:List V) (P:Hp->Prop),ai X.K (Sf G N σ) n g (JW z)/\Walk J g P/\P n/\ ∀w Q E,bt N σ n w Q E->P E:=by
     rintro J rfl;refine ⟨Yg z,λ_=>True,Kc z,λi E _=>?_,trivial,λ_ _ _ _=>trivial⟩;have hl:(Yg z).length=z.cps.size:=by simp [Yg]
     refine ⟨λm=>by rw [hl] at m;exact m,λm x H2 y=>?_,λm=>by rw [hl] at m;exact m⟩;obtain ⟨y1,c,y2,y3⟩:=y;refine ⟨y1,?_⟩;subst y3;simp [Yg,y2]
   obtain ⟨g,P,h1,h2,h3,h4⟩:=fin (AG z) rfl
   cases U:z.cps.all (· <128) with
   |true=>
     refine wpAny_pyIter_ascii U ?_;refine ⟨u.heap.objs.size,[u.heap.objs.size],_,_,n,rfl,j.kept λb o e=>cu _ e,Ye _ z t,⟨_,ej _ rfl,rfl,rfl⟩,λb O=>?_,q _ n P sm (Walk.toD h1 h2) h3 h4⟩;have e:b=u.heap.objs.size:=by simpa using O
     subst e;exact j.f6 (a9 _) (j.aP.fresh (a9 _))
   |false=>
     refine wpAny_pyIter_wide U ?_;refine ⟨u.heap.objs.size,[u.heap.objs.size],_,_,n,rfl,j.kept λb o e=>cu _ e,Y5 _ z t,⟨_,ej _ rfl,rfl,rfl⟩,λb O=>?_,q _ n P sm (Walk.toD h1 h2) h3 h4⟩;have e:b=u.heap.objs.size:=by simpa using O
     subst e;exact j.f6 (a9 _) (j.aP.fresh (a9 _))
  |_=>cases e2)
def zK (lo:Int) (n:Nat):List D:=(fu n).map λ(i:Nat)=> .int (lo+(i:Int))
def YJ (lo:Int) (n:Nat):List V:=(fu n).map λ(i:Nat)=> .int (lo+(i:Int))
def Ve {K:ay} (lo:Int) (n:Nat):ai K A H (YJ lo n) (zK lo n):=by
 unfold YJ zK;generalize fu n=l
 induction l with
 |nil=>exact .nil
 |cons c r a=>exact .cons (.int _) a
def X8 (lo:Int) (n:Nat):Walk (Am lo n) (YJ lo n) (λ_=>True):=λi H _=>by
 have c:(YJ lo n).length=n:=by simp [YJ]
 refine ⟨λa=>by rw [c] at a;exact a,λa x h y=>?_,λa=>by rw [c] at a;exact a⟩;obtain ⟨d,g⟩:=y;refine ⟨d,?_⟩;subst g;rw [c] at a;simp [YJ,a]
def pP:List D->ao (List D)
 | [.int j]=>aS (-(2^62)<=j/\j<2^62) (.ok (zK 0 j.toNat))
 |_=> .aj
def ai.one {K:ay} (r:ai K A H a [d]): ∃v,a=[v]/\aA K A H v d:=by
 cases r with
 |cons h t=>cases t;exact ⟨_,rfl,h⟩
def ai.al {K:ay} (r:ai K A H c [d,g]): ∃v a,c=[v,a]/\aA K A H v d/\aA K A H a g:=by
 cases r with
 |cons h t=>
  obtain ⟨a,rfl,i⟩:=t.one;exact ⟨_,_,rfl,h,i⟩
def PI.imp (h:PI X B e t) (w: ∀a H Q,d a H Q->t a H Q):PI X B e d:=λc s a H Q I q=>h c s a H Q I (w a H Q q)
def fI (c:TD):Sl->ao (List D):=λa=>c a>>=pP
def we {a:Expr} (d:Gl X "range") (g:X.mg "range" =none) (h:DA X l [a] i) (j:bp [a] X.env=[(false,eval a X.env)]:=by rfl):DI X B (.Call (.Name "range" p) [a] [] m) (fI i):=by
 with_unfolding_all exact (
  PI.imp (Ku d g h j) λJ H R=>by
   rintro ⟨G,n,c,L,k,o,q⟩;obtain ⟨t,e1,e2⟩:=je o;refine ⟨G,n,c,t,k,e1,λN u w y=>?_⟩;unfold pP at e2
   split at e2
   . obtain ⟨⟨z,E⟩,I⟩:=ju e2;cases I;obtain ⟨v,rfl,r⟩:=y.one;cases r.cc;exact ⟨_,rfl,z,E,q _ u _ w (Walk.toD (Ve 0 _) (X8 0 _)) trivial λ_ _ _ _=>trivial⟩
   . cases e2)
def tG (K:ay) (t:TB):TG:=λv h H Q=> ∃G i c d a,ar K G i c h H/\aA K (Sf G c h) H v d/\t d c= .ok a/\ ∀g,ar K G i a g H->bt c h H a g H->Q g H
@[irreducible] def DG (X:Cx) (B:Expr) (t:TB):Prop:=PG X B (tG X.K t)
theorem PG.imp (h:PG X B t) (w: ∀v a H Q,d v a H Q->t v a H Q):PG X B d:=λc s a H v u Q I r q=>h c s a H v u Q I r (w v a H Q q)
def gN (i:Nat):D->Sl->ao Sl:=λd a=> .ok (a.set i (.ak d))
def jx (i:Nat) {a:Pos} (g:X.N.Nodup) (h:X.N[i]?=some x:=by rfl) (j:Loc X.env.scope x:=by exact dI rfl)
   (m:T7 X x:=by first|exact .inl rfl|exact .inr rfl|assumption):DG X (.Name x a) (gN i):=by
 with_unfolding_all exact (
  PG.imp (xL g h j m) λv o H Q=>by
   rintro ⟨G,p,n,d,c,k,r,e,q⟩;cases e
   exact q _ (k.en r) (.set (am.refl H) λ_ _ z _=>by cases z))
def g2 (t u:TB):D->Sl->ao Sl:=λd c=>match d with
 | .ah [x,y]=>t x c>>=λa=>u y a
 |_=> .aj
def xf {a:Expr} {k:Nat} {h:Pos} (y:X.bG=true) (z:DG X a t) (E:DG X b u)
   (I:(dh [a,b] X.env).map (·.2)=fT a X.env::(dh [b] X.env).map (·.2):=by rfl) (i:(dh [b] X.env).map (·.2)=fT b X.env::(dh [] X.env).map (·.2):=by rfl)
   (J:(dh [a,b] X.env).length=2:=by rfl) (j:(dh [a,b] X.env).findIdx? (·.1)=none:=by rfl):DG X (.Tuple [a,b] k h) (g2 t u):=by
 with_unfolding_all exact (
  PG.imp (Xl y (zO z (zO E QQ i) I) J j) λv σ H Q=>by
   rintro ⟨G,o,m,d,g,k,r,e,q⟩;unfold g2 at e
   split at e
   . obtain ⟨c,e1,e2⟩:=je e;obtain ⟨a,xs,rfl,L,N⟩:=r.cm;obtain ⟨O,p,rfl,U,Y⟩:=N.al;refine ⟨a,_,rfl,.of L,rfl,O,[p],rfl,G,o,m,_,c,k,U,e1,λZ k1 w=>⟨p,[],rfl,G,o,c,_,g,k1,w.rep k Y,e2,λn k2 f2=>⟨rfl,q n k2 (w.trans f2)⟩⟩⟩
   . cases e)
def eq (f:TJ) (t:TB):Sl->ao bF:=λa=>f a>>=λd=>t d a>>=λc=> .ok (.nx c)
def Qw {a:Pos} (j:DE X .s e f) (m:DG X B t) (n:sO [B] e a.line X.env=pure false:=by rfl) (hw:sP [B] e X.env=pure none:=by rfl)
   (p:(dh [B] X.env).map (·.2)=[fT B X.env]:=by rfl):DS X (.Assign [B] e a) (eq f t):=by
 with_unfolding_all exact (
  PS.imp (Xh j m n hw p) λE L H=>by
   rintro ⟨G,i,c,o,k,u,q⟩;obtain ⟨d,e1,e2⟩:=je u;obtain ⟨g,w,y⟩:=je e2;cases y
   exact ⟨G,i,c,d,k,e1,λv z s r _=>⟨G,i,c,d,g,k.ap s,r,w,λh I J=>q h z I (J.ap s)⟩⟩)
def c8 (c:D->Sl->ao bF):List D->Sl->ao bF
 | [],g=> .ok (.nx g)
 |d::h,g=>c d g>>=λo=>match o with
  | .nx a=>c8 c h a
  | .ct a=>c8 c h a
  | .bk a=> .ok (.nx a)
  | .rt i d=> .ok (.rt i d)
def wD (t:TB) (g:TF):D->Sl->ao bF:=λd a=>t d a>>=g
def dZ (f:TD) (t:TB) (g:TF):Sl->ao bF:=λa=>f a>>=λc=>c8 (wD t g) c a
def yQ (Y:PassesOwn (model X.prog X.w) X.A X.env X.xe) (hc:X.bG=true) (hi:DI X B e fi) (hg:DG X B t) (hb:fU X N g)
   (hs: ∀x,m9 e X.env x=pure x:=by intro _;rfl):DS X (.For B e N [] pos) (dZ fi t g):=by
 with_unfolding_all exact (
  PS.imp (kP Y hc hi hg hb hs) λE σ H=>by
   rintro ⟨G,O,u,o,k,ef,q⟩;obtain ⟨h,e1,e2⟩:=je ef;refine ⟨G,O,u,h,k,e1,λJ H1 P sm wk p0 B4=>?_⟩;have k1:=k.ap sm;have q1:=yI (bt.refl sm) q;refine ⟨λi m j w=>m=h.length-i/\i<=h.length/\ ∃c,ar X.K G O c j w/\bt u σ H1 c j w/\c8 (wD t g) (h.drop i) c= .ok o,⟨h.length,by simp,eQ _,u,k1,bt.refl (am.refl H1),by simpa using e2⟩,?_⟩;rintro i m j w ⟨rfl,hi,c,k',Q,Z⟩;obtain ⟨w1,w2,w3⟩:=wk i w (B4 c j w Q)
   by_cases hd:i<h.length
   . refine .inr ⟨w1 hd,?_⟩;rw [List.drop_eq_getElem_cons hd] at Z;obtain ⟨o1,e3,e4⟩:=je Z;obtain ⟨v,e5,e6⟩:=je e3;refine ⟨λd I=>h.length-(i+1)=h.length-(i+1)/\i+1<=h.length/\ ∃a,ar X.K G O a d I/\bt u σ H1 a d I/\c8 (wD t g) (h.drop (i+1)) a= .ok o,λd I z=>⟨h.length-(i+1),by omega,z⟩,λx I y=>?_⟩
     obtain ⟨U,rd⟩:am w I/\aA X.K (Sf G c j) I x h[i]:=by
      rcases w2 _ (dn hd) x I y with ⟨rfl,rd⟩| ⟨p,vs,es,Y,rfl,rfl,ed,B5⟩
      . exact ⟨am.refl _,Q.rep k1 rd⟩
      . refine ⟨am.aJ Y,?_⟩;rw [ed];exact .ah jr ((Q.B2 k1 B5).ap (am.aJ Y))
     refine ⟨G,O,c,h[i],v,k'.ap U,rd,e5,λAH G2 G3=>⟨G,O,v,o1,G2,e6,?_⟩⟩;have L:=(Q.trans (bt.refl U)).trans G3
     cases o1 with
     |nx a=>exact λd H3 n r=>⟨rfl,hd,a,n,L.trans r,e4⟩
     |ct a=>exact λd H3 n r=>⟨rfl,hd,a,n,L.trans r,e4⟩
     |bk a=>cases e4;exact λd H3 n r=>q1 d H3 n (L.trans r)
     |rt fr dd=>cases e4;exact q1
   . have he:i=h.length:=by omega
     refine .inl ⟨w3 (by omega),?_⟩;rw [List.drop_eq_nil_of_le (by omega)] at Z;cases Z
     exact q1 j w k' Q)
end
def bd (i:Nat) (a:Sl):Sl:=match a[i]? with
 |some (.av d)=>a.set i (.ak d)
 |_=>a
def ZI (h:jQ (bd i c) k a):jQ c k a:=by
 unfold bd at h
 split at h
 . rename_i d hd;obtain ⟨j,e,g,l⟩:=h
   by_cases z:i=j
   . subst z;obtain ⟨q,_⟩:=jp g;cases q
   . rw [ji z] at g;exact ⟨j,e,g,l⟩
 . exact h
def ar.bd {K:ay} (i:Nat) (k:ar K G E env r H):ar K G E (bd i env) r H:=by
 have w: ∀a,Sf G env r a->Sf G (M.bd i env) r a:=λa n=>⟨λo=>n.1 (ZI o),n.2⟩
 cases l:env[i]? with
 |none=>
  have e:M.bd i env=env:=by unfold M.bd;rw [l]
  rw [e];exact k
 |some s=>
  cases s with
  |un=>
   have e:M.bd i env=env:=by unfold M.bd;rw [l]
   rw [e];exact k
  |ak d=>
   have e:M.bd i env=env:=by unfold M.bd;rw [l]
   rw [e];exact k
  |av d=>
   have e:M.bd i env=env.set i (.ak d):=by unfold M.bd;rw [l]
   obtain ⟨a,t,I,J⟩:=k.av i d l
   have y:BZ (M.bd i env) r a:=by
     rintro ⟨j,m,g,p⟩;rw [e] at g
     by_cases z:i=j
     . subst z;obtain ⟨q,_⟩:=jp g;cases q
     . rw [ji z] at g;exact z (k.lZ i j d m a l g t p)
   rw [e] at w y ⊢;refine ⟨by simp [k.len],k.ae,k.g0,λj m h=>?_,λj m h=>?_,λj B L N b g p O Q=>?_⟩
   . by_cases z:i=j
     . subst z;obtain ⟨q,U⟩:=jp h;cases q;exact ⟨_,t,J.rep (λc z=>⟨w c z,ZJ k l t c z⟩) ⟨y,k.g0 a I⟩⟩
     . rw [ji z] at h;obtain ⟨u,v,g2⟩:=k.ak j m h;exact ⟨u,v,g2.az w⟩
   . by_cases z:i=j
     . subst z;obtain ⟨q,U⟩:=jp h;cases q
     . rw [ji z] at h;obtain ⟨u,v,g0,g2⟩:=k.av j m h;exact ⟨u,v,g0,g2.aV (λ_ _ e _=>e) w λ_ e=>e⟩
   . have Y:i≠j:=λz=>by subst z;obtain ⟨q,_⟩:=jp g;cases q
     have Z:i≠B:=λz=>by subst z;obtain ⟨q,_⟩:=jp p;cases q
     rw [ji Y] at g;rw [ji Z] at p;exact k.lZ j B L N b g p O Q
def er (i:Nat) (g:TF):Sl->ao bF:=λa=>g (bd i a)
def ye (i:Nat) {st:Stmt} (h:DS X st g):DS X st (er i g):=by
 with_unfolding_all exact (PS.imp h λE c H=>by
  rintro ⟨G,d,a,o,k,j,q⟩;refine ⟨G,d,bd i a,o,k.bd i,j,?_⟩;have f:bt a c H (bd i a) c H:=⟨λ_ _ e _=>e,λb o=> .inl (ZI o),λ_ e=>e⟩
  exact yI f q)
section
variable {X:Cx}
def yw (k:c[i]?=some (.av d)):jQ (c.set i (.av l)) m a↔jQ c m a:=by
 have n:=(fZ.mp k).1
 constructor
 . rintro ⟨j,e,h,g⟩
   by_cases z:i=j
   . subst z;exact ⟨i,d,k,g⟩
   . rw [ji z] at h;exact ⟨j,e,h,g⟩
 . rintro ⟨j,e,h,g⟩
   by_cases z:i=j
   . subst z;exact ⟨i,l,lT n,g⟩
   . exact ⟨j,e,by rw [ji z];exact h,g⟩
def ar.l7 {K:ay} (k:ar K G Q env d H) (l:env[i]?=some (.av J)) (u:d[i]?=some (some (.ref a))) (U:H a=some Y) (Z:lQ (some Y))
   (top: ∀(L:Xc) (E:Hp),eL (Sf G env d) H E->E a=some o'->(∀b,Sf G env d b->L b)->Top K L E a B):ar K G Q (env.set i (.av B)) d (aJ H a o')/\bt env d H (env.set i (.av B)) d (aJ H a o'):=by
 have hl:=(fZ.mp l).1;have N:jQ env d a:=⟨i,_,l,u⟩
 have st:eL (Sf G env d) H (aJ H a o'):=λc o e m=>by
   rw [jF ?_]
   . exact e
   . rintro rfl;rw [U] at e;cases e;exact (m Z).1 N
 have w: ∀c,Sf G env d c->Sf G (env.set i (.av B)) d c:=λc n=>⟨λo=>n.1 ((yw l).mp o),n.2⟩
 refine ⟨⟨by simp [k.len],λc o e=>?_,k.g0,λj p h=>?_,λj p h=>?_,λj O p d2 b q1 q2 q3 q4=>?_⟩,⟨λc o e n=>?_,λc o=> .inl ((yw l).mp o),λc e=>?_⟩⟩
 . have t:c≠a:=by
     rintro rfl;obtain ⟨b,g,y,_⟩:=k.av i _ l;rw [u] at g;cases g;rw [y] at e;cases e
   rw [jF t];exact k.ae c o e
 . by_cases z:i=j
   . subst z;obtain ⟨q,_⟩:=jp h;cases q
   . rw [ji z] at h;obtain ⟨v,g,I⟩:=k.ak j p h;exact ⟨v,g,I.aV st w⟩
 . by_cases z:i=j
   . subst z;obtain ⟨q,_⟩:=jp h;cases q;obtain ⟨b,g,y,_⟩:=k.av i _ l;rw [u] at g;cases g;exact ⟨a,u,y,top _ _ st jr w⟩
   . rw [ji z] at h;obtain ⟨b,g,y,I⟩:=k.av j p h
     have hb:b≠a:=by
       rintro rfl;exact z (k.lZ i j _ _ b l h u g)
     exact ⟨b,g,y,I.aV st w λo e=>by rw [jF hb];exact e⟩
 . have r: ∀(j:Nat) (p:D),(env.set i (.av B))[j]?=some (.av p)-> ∃J:D,env[j]?=some (.av J):=λj p q=>by
     by_cases z:i=j
     . subst z;exact ⟨_,l⟩
     . rw [ji z] at q;exact ⟨_,q⟩
   obtain ⟨e1,z1⟩:=r j p q1;obtain ⟨e2,z2⟩:=r O d2 q2;exact k.lZ j O e1 e2 b z1 z2 q3 q4
 . have t:c≠a:=by
     rintro rfl;exact n N
   rw [jF t];exact e
 . by_cases t:c=a
   . subst t;rw [jr] at e;cases e
   . rw [jF t] at e;exact e
def ar.write {K:ay} (k:ar K G g env c H) (h:env[i]?=some (.av (.ag m))) (j:c[i]?=some (some (.ref a))) (l:H a=some (.ag n))
  (r:ai K (Sf G env c) H d ds'):ar K G g (env.set i (.av (.ag ds'))) c (aJ H a (.ag d))/\bt env c H (env.set i (.av (.ag ds'))) c (aJ H a (.ag d)):=
 k.l7 h j l trivial λo p st e w=> .ag e (r.aV st w)
def xT {K:ay} {i:Nat} (k:ar K G n c d H) (h:c[i]?=some (.av (.ag j))): ∃a g,d[i]?=some (some (.ref a))/\H a=some (.ag g)/\ai K (Sf G c d) H g j:=by
 obtain ⟨a,l,o,m⟩:=k.av i _ h
 cases m with
 |ag e r=>exact ⟨a,_,l,e,r⟩
variable {e:Expr} {f:TJ} {l:Lv} {pos bD apos p:Pos} {x:Str}
def cq (i:Nat) (a:Sl):ao (List D):=match a[i]? with
 |some (.av (.ag c))=> .ok c
 |_=> .aj
def xU (h:cq i a= .ok c):a[i]?=some (.av (.ag c)):=by
 unfold cq at h
 split at h
 . cases h;assumption
 . cases h
def jZ (i:Nat) (f:TJ):Sl->ao bF:=λa=>cq i a>>=λc=>f a>>=λd=>aS (c.length<aR) (.ok (.nx (a.set i (.av (.ag (c++[d]))))))
def zE (i:Nat) (L:DE X .s e f) (N:X.N[i]?=some x:=by rfl) (O:gJ X.env.scope x:=by exact eK rfl)
   (hd:Yj x:=by decide) (r:Yi x:=by decide)
   (g:ng (.Name x p) "append" X.env (eval (.Name x p) X.env)=eval (.Name x p) X.env:=by rfl)
   (j:((dO bD (bp [e] X.env)).all (λx=>!x.1)&&(lF bD (lG [] X.env)).all (λx=>x.1.isSome)
    &&decide ([e].length+([]:List hB).length+(if ([]:List hB).isEmpty then 0 else 1)<30))=true:=by exact yc rfl rfl)
   (h:(apos.endLine==bD.line)=true:=by rfl) (w:bp [e] X.env=(false,eval e X.env)::bp [] X.env:=by exact jn rfl) (c:(dO bD (bp [] X.env)).any (·.1)=false:=by exact jB rfl)
   (t:gw (.Call (.Attribute (.Name x p) "append" apos) [e] [] bD) none pos.line X.env=pure false:=by rfl):
   DS X (.Expr (.Call (.Attribute (.Name x p) "append" apos) [e] [] bD) pos) (jZ i f):=by
 with_unfolding_all exact (
  PS.imp (QN (Uw AI AB B6 xX (wx N O hd r) (qc L wa w) g j h w c) t) λE Q H=>by
   rintro ⟨G,U,u,o,k,Y,q⟩;obtain ⟨ds,e1,e2⟩:=je Y;obtain ⟨d,Z,e4⟩:=je e2;obtain ⟨hz,e5⟩:=ju e4;cases e5;have y:=xU e1;obtain ⟨a,z,B,I,J⟩:=xT k y;refine ⟨.ref a,B,.inl ⟨rfl,z,.of I⟩,G,U,u,d,k,Z,λv H1 n r1 _=>?_⟩;have m:=n _ _ I;refine ⟨a,z,v,rfl,rfl,m,by rw [J.length];exact hz,?_⟩;have W:=(k.ap n).write y B m ((J.ap n).append (.cons r1 .nil))
   exact q Q _ W.1 (W.2.ap n))
end
def Z4 (I:Nat->aB->Prop)
  (y: ∀n s,I n s->wpAny (model a w) A (pyNext O) (λr e=>match r with
   |none=>R (.ok .next) e
   |some v=>wpAny (model a w) A (letOwnedTupleGo d O v) (λ_ g=>wpAny (model a w) A (fT d k v) (λ_ l=>
    wpAny (model a w) A (forIn H true λc r=>if r=true then do let ok<-isTrue c k (eval c k);pure (pQ ok) else pure (pQ r)) (λok i=>
     if ok=true then wpAny (model a w) A (eval J k) (λx o=>
      wpAny (model a w) A (call (.builtin "list.append") [L,x]) (λ_ p=> ∃m,m<n/\I m p) (λ_ _=>False) o) (λ_ _=>False) i
     else∃m,m<n/\I m i) (λ_ _=>False) l) (λ_ _=>False) g) (λ_ _=>False) e) (λ_ _=>False) s)
  (n:Nat) (h:I n s):lV (model a w) A (.compLoop (.ListComp J [⟨d,iter,H,0⟩] N Q) 0 O L k) R s:=by
 refine codeAny_loop rfl I (λn s U=>?_) n h;refine wpAny_noted ?_;rw [compTurn_list];refine ax (wpAny_standAt (ax (lA (y n s U) (λr e q=>?_) λ_ _ j=>j.elim)))
 cases r with
 |none=>exact aM q
 |some v=>
  refine ax (lA q (λ_ g u=>?_) λ_ _ j=>j.elim);refine ax (lA u (λ_ l z=>ax (lA z (λok i t=>?_) λ_ _ j=>j.elim)) λ_ _ j=>j.elim)
  cases ok with
  |false=>exact aM ⟨rfl,t⟩
  |true=>
   exact ax (ax (lA t (λx o B=>ax (lA B (λ_ p E=>aM (aM ⟨rfl,E⟩)) λ_ _ j=>j.elim)) λ_ _ j=>j.elim))
def VM (X:Cx) (N:List Str) (a:Scope) (c:List (Str×Addr)) (C:Addr) (s:aB) (H:Hp) (d:List Addr):Cx where
 prog:=X.prog
 w:=X.w
 K:=X.K
 mg:=X.mg
 ae:=X.ae
 A:=X.A
 N:=N
 cQ:=s
 gI:=H
 env:=compEnvC a c C X.env
 outer:=X.stack
 stack:=X.stack
 ex:=d
 fn:=λ_=>false
 bG:=true
 pn:=[]
 xe:=λ_ _=>False
@[irreducible] def oM (X:Cx) (d:List Expr) (c:TH):Prop:=
 ∀(a:List (Addr×Obj)) (s:aB) (e:L2.St) (H:Hp) (Q:Bool->Hp->Prop),aq X a e H s->tT X.K c e H Q->
  wpAny (model X.prog X.w) X.A (forIn d true λc r=>if r=true then do let ok<-isTrue c X.env (eval c X.env);pure (pQ ok) else pure (pQ r)) (TP X a e Q) X.xe s
def jX:Sl->ao Bool:=λ_=> .ok true
def qQ:oM X [] jX:=by
 with_unfolding_all exact (λa s e H Q I ⟨G,g,c,b,k,d,q⟩=>by
  cases d
  exact wpAny_tests_nil ⟨H,I,q H (am.refl H)⟩)
def zY (n:Nat) (t:TB) (c:TH) (h:TJ):List D->Sl->ao Sl
 | [],e=> .ok e
 |d::i,e=>t d e>>=λa=>c a>>=λb=>if b=true
  then h a>>=λv=>cq n a>>=λg=>aS (g.length<aR) (zY n t c h i (a.set n (.av (.ag (g++[v])))))
  else zY n t c h i a
def gM (c:Bool) (a:Sl) (j:Nat):Slot:=match a[j]? with
 |some (.ak d)=> .ak d
 |some (.av d)=>if c=true then .ak d else .un
 |_=> .un
def wj (c:Bool) (m:Nat) (d:List Nat) (a:Sl):Sl:=eR m .un++d.map (gM c a)++[.av (.ag [])]
def j8 (h:Bool) (m:Nat) (g:List Nat) (i:TD) (t:TB) (c:TH) (j:TJ):Sl->ao D:=λa=>
 i a>>=λk=>zY (m+g.length) t c j k (wj h m g a)>>=λd=>cq (m+g.length) d>>=λe=>aS (h=true->D.eX e=true) (.ok (.ag e))
def wg (m:Nat) (c:List Nat) (d:L2.St) (a:Addr):L2.St:=eR m none++c.map (λj=>(d[j]?).join)++[some (.ref a)]
theorem zy {a:Env}: ∀ {names:List (Str×NameKind)} {x:Str} {k:NameKind},
  (names.map λ(n,k)=>if (k==pR&&a.scope.kind== .function&&a.kindOf n==some .cell) then (n,pS) else (n,k)).lookup x=some k-> ∃d,(x,d)∈names/\(k=d\/d= .free)
 | [],_,_,h=>by simp at h
 | (n,d)::r,x,k,h=>by
  have c:hZ x ((if (d==pR&&a.scope.kind== .function&&a.kindOf n==some .cell)=true then (n,pS) else (n,d))::(r.map λ(n,k)=>if (k==pR&&a.scope.kind== .function&&a.kindOf n==some .cell) then (n,pS) else (n,k)))=some k:=h
  by_cases i:(d==pR&&a.scope.kind== .function&&a.kindOf n==some .cell)=true
  . rw [if_pos i] at c;simp only [l8] at c
    cases g:x==n with
    |true=>
     rw [g] at c;have e:x=n:=by simpa using g
     subst e;refine ⟨d,dB,.inr ?_⟩;simp at i;exact i.1.1
    |false=>
     rw [g] at c;obtain ⟨j,l,m⟩:=zy c;exact ⟨j,dC _ l,m⟩
  . rw [if_neg i] at c;simp only [l8] at c
    cases g:x==n with
    |true=>
     rw [g] at c;have e:x=n:=by simpa using g
     subst e;cases c;exact ⟨_,dB,.inl rfl⟩
    |false=>
     rw [g] at c;obtain ⟨j,l,m⟩:=zy c;exact ⟨j,dC _ l,m⟩
def oN (z:Option Str) (a:List (Str×Addr)) (C:Addr):List (Str×Addr):=match z with
 |none=>a
 |some y=>(y,C+1)::a
def vS (z:Option Str) (h:Heap):Heap:=match z with
 |none=>h
 |some _=>h.push {cls:= .type "cell",data:= .cell none}
abbrev jC (z:Option Str) (X:Cx) (N:List Str) (a:Scope) (c:List (Str×Addr)) (C:Addr) (s:aB) (H:Hp) (d:List Addr):Cx:={VM X N a (oN z c C) C s H d with fn:=λx=>some x==z}
def pT (h:hZ x (oN z a C)=some c):(z=some x/\c=C+1)\/(z≠some x/\a.lookup x=some c):=by
 cases z with
 |none=>exact .inr ⟨nofun,h⟩
 |some z=>
  have h:hZ x ((z,C+1)::a)=some c:=h;rw [l8] at h
  cases e:x==z with
  |true=>rw [e] at h;cases h;exact .inl ⟨by rw [show x=z by simpa using e],rfl⟩
  |false=>rw [e] at h;exact .inr ⟨λq=>by simp at e;exact e (fQ q).symm,h⟩
def AJ (d:z≠some x) (h:a.lookup x=some c):hZ x (oN z a C)=some c:=by
 cases z with
 |none=>exact h
 |some z=>
  show hZ x ((z,C+1)::a)=some c;rw [l8,show (x==z)=false by simpa using λq=>d (by rw [q])];exact h
def Yu {code:Value}
  (made: ∀n,cellsFrom (n+1) a.names m=oN z m n) (d: ∀h,pushCells h a.names=vS z h)
  (r: ∀l,l.Ns s.heap.objs.size (λ_=>none)->(∀b o,s.heap.get? b=some o->l.get? b=some o)->(∀y,z=some y->l.IsCell (s.heap.objs.size+1) none)->Q (newEnv a s.heap.objs.size globals (oN z m s.heap.objs.size) i j code (some g) c) {s with heap:=l}):
  wpAny M A (newFunctionEnv a globals m [] i j code (some g) c) Q E s:=by
 simp only [newFunctionEnv,Option.isSome_some,if_true];refine ax (wpAny_alloc ?_);refine ax (wpAny_layCells _ (λname k p=>by cases q:k==pS<;>simp [q]) _ _ _ _ ?_);have t:(s.heap.push {cls:= .type "dict",data:= .dict #[]}).objs.size=s.heap.objs.size+1:=sX ..;have u:=made s.heap.objs.size;rw [<-t] at u;rw [u,d];simp;refine aM ?_;have v:=Heap.Ns.new s.heap (.type "dict")
 cases z with
 |none=>exact r _ v (λb o e=>cu _ e) nofun
 |some z=>
  refine r ((s.heap.push {cls:= .type "dict",data:= .dict #[]}).push {cls:= .type "cell",data:= .cell none}) (v.keeps λb o e=>cu _ e) (λb o e=>cu _ (cu _ e)) λ_ _=>⟨_,by rw [<-t];exact ej _ rfl,rfl⟩
structure cK (z:Option Str) (X:Cx) (scope:Scope) (cl:List (Str×Addr)) (N:List Str) (m:Nat) (js:List Nat):Prop where
 B7:closureFor scope X.env=pure cl
 kind:scope.kind= .function
 names: ∀x∈scope.names,x.2= .local->scope.names.lookup x.1=some .local
 pU: ∀y∈scope.names,y.2= .cell->z=some y.1
 made: ∀n,cellsFrom (n+1) scope.names cl=oN z cl n
 pV: ∀h,pushCells h scope.names=vS z h
 zk: ∀y,z=some y->scope.names.lookup y=some .cell
 cls: ∀x c,cl.lookup x=some c->X.env.cells.lookup x=some c
 free: ∀y∈scope.names,y.2= .free-> ∃c,cl.lookup y.1=some c
 nd:N.Nodup
 len:N.length=m+js.length+1
 G4: ∀(k j:Nat),js[k]?=some j-> ∃y,N[m+k]?=some y/\X.N[j]?=some y/\(X.env.scope.names.lookup y=some .cell\/X.env.scope.names.lookup y=some .free)/\scope.names.lookup y=some .free
 last: ∀y,N[m+js.length]?=some y-> ∀p∈scope.names,p.1≠y
section
variable {X:Cx} {tg iter elt:Expr} {ifs:List Expr} {scope:Scope} {cl:List (Str×Addr)} {N:List Str} {m:Nat} {js:List Nat} {pos:Pos} {im:Bool} {z:Option Str}
 {fi:TD} {t:TB} {c:TH} {fe:TJ}
def G5 {Q:L2.St} {C:Addr} {w:List Addr} (S:cK z X scope cl N m js) (B:X.bG=true) (I:aq X k Q H s) (l:s.heap.objs.size<=C) (r: ∀b∈w,eT X k H b) (p: ∀b∈w,b<s.heap.objs.size):
  (jC z X N scope cl C s H w).Ok where
 mod:=I.ok.mod
 kind:=S.kind
 glob:=I.ok.glob
 blt:=I.ok.blt
 above:=l
 inj:=λx y c d a=>by
  have O: ∀u,X.env.cells.lookup u=some (C+1)->False:=λu e=>by
    obtain ⟨v,o,U,_⟩:=I.cell u _ e;exact absurd (bX U) (Nat.not_lt_of_le (dE l (rX _)))
  rcases pT d with ⟨Y,E⟩| ⟨_,J⟩
  . rcases pT a with ⟨L,_⟩| ⟨_,g2⟩
    . rw [Y] at L;exact fQ L
    . rw [E] at g2;exact (O _ (S.cls _ _ g2)).elim
  . rcases pT a with ⟨L,E⟩| ⟨_,g2⟩
    . rw [E] at J;exact (O _ (S.cls _ _ J)).elim
    . exact I.ok.inj x y c (S.cls x c J) (S.cls y c g2)
 has:=λx h=>by
  have mem:z=some x\/ ∃i,(x,i)∈scope.names/\i= .free:=by
    rcases h with h|h<;>obtain ⟨i,d,a⟩:=zy h
    . rcases a with z|z
      . exact .inl (S.pU _ d z.symm)
      . exact .inr ⟨i,d,z⟩
    . rcases a with z|z
      . exact .inr ⟨i,d,z.symm⟩
      . exact .inr ⟨i,d,z⟩
  by_cases j:z=some x
  . subst j;exact ⟨C+1,by show hZ x ((x,C+1)::cl)=_;simp [l8]⟩
  . obtain ⟨i,d,a⟩:=mem.resolve_left j;obtain ⟨c,B⟩:=S.free _ d a;exact ⟨c,AJ j B⟩
 nG:=λx c h a=>by
  have e:some x=z:=by simpa using h
  rcases pT a with ⟨_,rfl⟩| ⟨n,_⟩
  . exact dE l (rX _)
  . exact (n e.symm).elim
 hd:=λ_=>I.ok.hd B
 frames:=I.ok.frames
 oE:= .inl rfl
 oF:=λb g=>⟨λz=>absurd (eE (p b g) (by rw [z];exact l)) (lC _),λx c h=>by
  rcases pT h with ⟨_,rfl⟩| ⟨_,h⟩
  . exact λe=>absurd (p b g) (Nat.not_lt_of_le (by rw [<-e];exact dE l (rX _)))
  . exact (r b g).2.2.2.2.1 x c (S.cls x c h)⟩
 bs:=I.bs
 iV:=dE I.ok.iV I.sz
 fF:=λb o e g=>by
  rcases (r b g).2.2.2.1 with z|z
  . exact I.ok.fF b o e z
  . exact absurd (eE (bX e) (dE I.ok.iV z)) (lC _)
 fX:=λb g z=>by
  rcases dP.mp (I.fY b z) with q|q
  . exact (r b g).2.1 q
  . exact (r b g).2.2.1 q
 dw:=I.stack
 lR:=I.df
def VR (h:gM im a j= .av d):False:=by
 unfold gM at h
 split at h
 . cases h
 . split at h<;>cases h
 . cases h
def YV (h:jQ (wj im m js n) (wg m js o a) b):b=a:=by
 obtain ⟨i,d,h,g⟩:=h
 have p:i=m+js.length:=by
  unfold wj at h
  by_cases l:i<m
  . rw [ia,g8 (by simpa using l),oI] at h
    split at h<;>cases h
  . rw [ia,fA (by simpa using l)] at h;simp at h
    by_cases g:i-m<js.length
    . rw [g8 (by simpa using g),fB] at h
      cases e:js[i-m]? with
      |none=>rw [e] at h;cases h
      |some j=>
        rw [e] at h;have q:=fQ h;exact (VR q).elim
    . rw [fA (by simpa using g)] at h;simp at h
      by_cases r:i-m-js.length=0
      . omega
      . rw [oB (by simp;omega)] at h;cases h
 subst p
 have k:(wg m js o a)[m+js.length]?=some (some (.ref a)):=by
  unfold wg;rw [ia,fA (by simp),fA (by simp)];simp
 rw [k] at g;cases g;rfl
abbrev Gc (im:Bool) (G:Xc) (a:Sl) (d:L2.St):Addr->Prop:=λc=>G c/\(im=false-> ¬jQ a d c)
def ke {K:ay} (k:ar K G Y g n H) (J:H a=none):
   ar K (Gc im G g n) H (wj im m js g) (wg m js n a) (aJ H a (.ag [])):=by
 have l: ∀(i:Nat) (d:D),(wj im m js g)[i]?=some (.av d)->i=m+js.length/\d= .ag []:=λi d h=>by
   unfold wj at h
   by_cases q:i<m
   . rw [ia,g8 (by simpa using q),oI] at h
     split at h<;>cases h
   . rw [ia,fA (by simpa using q)] at h;simp at h
     by_cases p:i-m<js.length
     . rw [g8 (by simpa using p),fB] at h
       cases e:js[i-m]? with
       |none=>rw [e] at h;cases h
       |some j=>
         rw [e] at h;have u:=fQ h;exact (VR u).elim
     . rw [fA (by simpa using p)] at h;simp at h
       by_cases w:i-m-js.length=0
       . rw [w] at h;cases h;exact ⟨by omega,rfl⟩
       . rw [oB (by simp;omega)] at h;cases h
 have y:(wg m js n a)[m+js.length]?=some (some (.ref a)):=by
   unfold wg;rw [ia,fA (by simp),fA (by simp)];simp
 have B: ∀b,jQ (wj im m js g) (wg m js n a) b->b=a:=λb ⟨i,d,q,p⟩=>by
   obtain ⟨rfl,rfl⟩:=l i d q;rw [y] at p;cases p;rfl
 have sm:am H (aJ H a (.ag [])):=am.aJ J;refine ⟨by simp [wj,wg],sm,λc z=>⟨(k.new c z).2,λ_=>(k.new c z).1⟩,λi d h=>?_,λi d h=>?_,λi j d e b q p w I=>(l i d q).1.trans (l j e p).1.symm⟩
 . unfold wj at h
   by_cases q:i<m
   . rw [ia,g8 (by simpa using q),oI] at h
     split at h<;>cases h
   . rw [ia,fA (by simpa using q)] at h;simp at h
     by_cases p:i-m<js.length
     . rw [g8 (by simpa using p),fB] at h
       cases e:js[i-m]? with
       |none=>rw [e] at h;cases h
       |some j=>
         rw [e] at h;have u:=fQ h
         have L:(wg m js n a)[i]?=some ((n[j]?).join):=by
           unfold wg;rw [ia,fA (by simpa using q)];simp;rw [g8 (by simpa using p),fB,e];rfl
         have E: ∀v,n[j]?=some (some v)->aA K (Gc im G g n) H v d-> ∃v,(wg m js n a)[i]?=some (some v)/\aA K (Sf (Gc im G g n) (wj im m js g) (wg m js n a)) (aJ H a (.ag [])) v d:=λv e1 r=>by
           refine ⟨v,by rw [L,e1];rfl,(r.ce.ap sm).az λb z=>⟨λo=>?_,z.1⟩⟩;rw [B b o] at z;exact z.2 J
         unfold gM at u
         split at u
         . rename_i Q hd;cases u;obtain ⟨v,w,I⟩:=k.ak j d hd;exact E v w (I.az λc z=>⟨z.2,λ_=>z.1⟩)
         . rename_i Q hd
           split at u
           . rename_i O;cases u;obtain ⟨v,w,U,I⟩:=k.av j d hd;exact E _ w (I.rep (λc z=>⟨⟨z.2,λ_=>z.1⟩,ZJ k hd w c z⟩) ⟨k.g0 _ U,λz=>by rw [O] at z;cases z⟩)
           . cases u
         . cases u
     . rw [fA (by simpa using p)] at h;simp at h
       by_cases w:i-m-js.length=0
       . rw [w] at h;cases h
       . rw [oB (by simp;omega)] at h;cases h
 . obtain ⟨rfl,rfl⟩:=l i d h;exact ⟨a,y,J,.ag jr .nil⟩
def JL (use:Option (Value->Sem Unit)) (Q':Ws) (im:Bool) (N:List Str) (m:Nat) (js:List Nat) (S:cK z X scope cl N m js) (hc:X.bG=true) (hi:PI X tg iter (tI X.K fi))
   (hb: ∀(C:Addr) (s:aB) (H:Hp) (Z:List Addr),PG (jC z X N scope cl C s H Z) tg (tG X.K t)/\oM (jC z X N scope cl C s H Z) ifs c/\PE (jC z X N scope cl C s H Z) elt (tE X.K .s fe))
   (hs: ∀x,m9 iter X.env x=pure x) {pins:List (Addr×Obj)} {O:L2.St} {H:Hp} (I:aq X pins O H s) (k:ar X.K G H0 w O H) (ef:j8 im m js fi t c fe w= .ok d)
   (B8: ∀(a C:Addr) (s':aB) (L:Hp) (mm:Xd) (r:Flow),s'.heap.Ns C mm->(∀h',nH C s'.heap h'->aq X pins O L {s' with heap:=h'})->eT X pins L C->am H L->aA X.K (Sf G w O) L (.ref a) d->bg H (.ref a)->compPost (model X.prog X.w) X.A X.xe use Q' (.ref a) C (.ok r) s'):
   wpAny (model X.prog X.w) X.A (comprehension (.ListComp elt [⟨tg,iter,ifs,0⟩] scope pos) scope X.env (firstIterPos [⟨tg,iter,ifs,0⟩] pos) (newList []) (firstAsync [⟨tg,iter,ifs,0⟩]) (firstIter [⟨tg,iter,ifs,0⟩] X.env) use) Q' X.xe s:=by
 with_unfolding_all exact (by
  obtain ⟨ds,e1,ef⟩:=je ef;obtain ⟨pW,e2,ef⟩:=je ef;obtain ⟨G6,e3,e4⟩:=je ef;obtain ⟨B9,e4⟩:=ju e4;cases e4;refine wpAny_comprehension_free rfl hs S.B7 S.kind S.names ?_;refine bn (hi pins s O H (λJ H1=> ∃P,am H H1/\B3 X.K (Sf G w O) H1 J ds P/\P H1/\ ∀l E L,bt w O H1 l E L->P L) I ⟨G,H0,w,ds,k,e1,λJ H1 P a b c' d'=>⟨P,a,b,c',d'⟩⟩) λv s1 h1=>bn h1 λGe s2 h2=>?_
  obtain ⟨it,Z,tn,J,Q,rfl,I2,T,sQ,f2,P,sm,wk,p0,B4⟩:=h2;have k2:=k.ap sm;refine lW (Yu S.made S.pV (λpX l9 ma md=>?_));dsimp only at l9 ma md ⊢;have Ca:=I2.aP.fresh (a9 _)
  let a:=s2.heap.objs.size
  have ha:=Ca;have I3:=I2.tt (t':=s2.toks) .nil (eQ _)
  let s3:aB:={s2 with heap:=s2.heap.push {cls:= .type "list",dict:=none,data:= .seq ([]:List Value).toArray}}
  let C:=s3.heap.objs.size
  have f3: ∀b∈Z,eT X pins (aJ Q a (.ag [])) b:=λb g=>by
   obtain ⟨z0,z⟩:=f2 b g;refine ⟨?_,z⟩
   have G7:b≠a:=by
     obtain ⟨o,ho,_⟩:=T.obj 0 _ sQ b g;exact dN (bX ho)
   rw [jF G7];exact z0
  have Cb: ∀b∈Z,b<s3.heap.objs.size:=λb g=>by
   obtain ⟨o,ho,_⟩:=T.obj 0 _ sQ b g;refine eE (bX ho) ?_;rw [sX];exact rX _
  have XO:=G5 S hc I3 (a9 _) f3 Cb;obtain ⟨G8,G9,Ha⟩:=hb C s3 (aJ Q a (.ag [])) Z;have old: ∀b o,s3.heap.get? b=some o->pX.get? b=some o:=λb o e=>ma b o e
  have I4:aq (jC z X N scope cl C s3 (aJ Q a (.ag [])) Z) [] (wg m js O a) (aJ Q a (.ag [])) {s2 with heap:=pX,toks:=s2.toks+([]:List (Str×Value)).length}:=by
   refine ⟨XO,rfl,I3.bare,Un.kept old,⟨_,l9,λi y v' h1 h2 h3=>?_⟩,λy c' h=>?_,I3.aP.fresh (a9 _),λy c' h=>(by
     rcases pT h with ⟨_,rfl⟩| ⟨_,h⟩
     . exact I3.aP.fresh (rX _)
     . exact I3.bW y c' (S.cls y c' h)),λp hp=>absurd hp (by simp [VM]),I3.aP.kept old,?_⟩
   . --a tH name
     have Cc:N[i]?=some y:=h1;unfold wg at h2
     by_cases q1:i<m
     . rw [ia,g8 (by simpa using q1),oI] at h2
       split at h2<;>cases h2
     . rw [ia,fA (by simpa using q1)] at h2;simp at h2
       by_cases q2:i-m<js.length
       . rw [g8 (by simpa using q2),fB] at h2
         cases e:js[i-m]? with
         |none=>rw [e] at h2;cases h2
         |some j=>
           rw [e] at h2;have tJ:(O[j]?).join=some v':=fQ h2
           have hj:O[j]?=some (some v'):=by
             cases z:O[j]? with
             |none=>rw [z] at tJ;cases tJ
             |some w'=>rw [z] at tJ;simp at tJ;rw [tJ]
           obtain ⟨y',g1,g2,g3,g4⟩:=S.G4 (i-m) j e
           have ey:y'=y:=by
             rw [show m+(i-m)=i by omega,Cc] at g1;exact (fQ g1).symm
           subst ey;obtain ⟨mm,hn,hl⟩:=I3.loc
           have Hb:gJ X.env.scope y':=by
             rcases g3 with z|z
             . exact .inr (.inl z)
             . exact .inr (.inr z)
           obtain ⟨u,ru,lk⟩:=hl j y' v' g2 hj Hb;refine ⟨u,ru,.inr ⟨?_,?_⟩⟩
           . rcases h3 with z|z
             . exfalso;obtain ⟨k',m1,m2⟩:=zy z;have AJ:=S.names _ m1;rcases m2 with w'|w'
               . subst w';have:=AJ rfl;rw [g4] at this;cases this
               . subst w'
                 have: ∀ {names:List (Str×NameKind)},names.lookup y'=some .free->(names.map λ(n,k)=>if (k==pR&&X.env.scope.kind== .function&&X.env.kindOf n==some .cell) then (n,pS) else (n,k)).lookup y'≠some .local:=by
                  intro names
                  induction names with
                  |nil=>intro h;cases h
                  |cons p r ih=>
                   obtain ⟨n,kk⟩:=p;intro h h';have tK:hZ y' ((if (kk==pR&&X.env.scope.kind== .function&&X.env.kindOf n==some .cell)=true then (n,pS) else (n,kk))::(r.map λ(n,k)=>if (k==pR&&X.env.scope.kind== .function&&X.env.kindOf n==some .cell) then (n,pS) else (n,k)))=some .local:=h';simp only [l8] at h
                   cases hx:y'==n with
                   |true=>
                    rw [hx] at h;cases h
                    split at tK<;>simp [l8,hx] at tK
                   |false=>
                    rw [hx] at h
                    split at tK<;>(simp only [l8,hx] at tK;exact ih h tK)
                 exact this g4 z
             . exact z
           . rcases lk with ⟨kk,_⟩| ⟨kk,c',rJ,tL⟩
             . exfalso;have Ev:X.env.scope.names.lookup y'=some .local:=kk;rcases g3 with z|z<;>(rw [z] at Ev;cases Ev)
             . obtain ⟨c2,Ew⟩:=S.free (y',.free) (pw g4) rfl
               have:c2=c':=by
                 have:=S.cls _ _ Ew;rw [rJ] at this;exact (fQ this).symm
               subst this;obtain ⟨o,ho,hd⟩:=tL;exact ⟨c2,AJ (λq=>by rw [S.zk _ q] at g4;cases g4) Ew,o,old _ _ ho,hd⟩
       . exfalso
         have tM:i=m+js.length:=by
           have hl:=(fZ.mp Cc).1;rw [S.len] at hl;omega
         subst tM;have no:=S.last y Cc;rcases h3 with z|z|z<;>
         . obtain ⟨k',m1,_⟩:=zy z;exact no _ m1 rfl
   . rcases pT h with ⟨q,rfl⟩| ⟨_,h⟩
     . exact ⟨none,md _ q⟩
     . obtain ⟨v',o,ho,hd⟩:=I3.cell y c' (S.cls y c' h);exact ⟨v',o,old _ _ ho,hd⟩
   . show (wg m js O a).length=N.length;rw [S.len];simp [wg];omega
  have kC:ar X.K (Gc im G w O) Q (wj im m js w) (wg m js O a) (aJ Q a (.ag [])):=ke k2 ha
  have fC: ∀b∈Z,eT (jC z X N scope cl C s3 (aJ Q a (.ag [])) Z) [] (aJ Q a (.ag [])) b:=λb g=>by
   obtain ⟨z0,z1,z2,z3,z4,z5⟩:=f3 b g;exact ⟨z0,(XO.oF b g).1,XO.fX b g,.inl g,(XO.oF b g).2,λp hp=>absurd hp (by simp [VM])⟩
  have stC:=T.keep 0 _ _ sQ λb g o e=>old b o (cu _ e)
  have loop:lV (model X.prog X.w) X.A (.compLoop (.ListComp elt [⟨tg,iter,ifs,0⟩] scope pos) 0 (.ref it) (.ref a) (compEnvC scope (oN z cl C) C X.env))
     (compPost (model X.prog X.w) X.A X.xe use Q' (.ref a) C) {s2 with heap:=pX,toks:=s2.toks+([]:List (Str×Value)).length}:=by
   refine Z4 (λn s'=> ∃i E L l,n=ds.length+1-i/\i<=ds.length/\aq (jC z X N scope cl C s3 (aJ Q a (.ag [])) Z) [] E L s'/\tn i s'.heap/\(∀b∈Z,L b=none)/\(∀b,jQ l E b->b=a)/\
       ar X.K (Gc im G w O) Q l E L/\bt (wj im m js w) (wg m js O a) (aJ Q a (.ag [])) l E L/\zY (m+js.length) t c fe (ds.drop i) l= .ok pW) ?_ (ds.length+1)
     ⟨0,_,_,_,rfl,eQ _,I4,stC,λb g=>(fC b g).1,?_,kC,bt.refl (am.refl _),by simpa using e2⟩
   . rintro n s' ⟨i,E,L,l,rfl,tM,Ic,st,fr,oO,kc,fc,ec⟩;have hP:=B4 w O L (bt.refl kc.ae);obtain ⟨w1,w2,w3⟩:=wk i L hP;have Cd: ∀ {L:Hp},(∀b∈Z,L b=none)-> ∀b∈Z,eT (jC z X N scope cl C s3 (aJ Q a (.ag [])) Z) [] L b:=λhn b g=>⟨hn b g,(fC b g).2⟩
     by_cases dF:i<ds.length
     . have hd:i<ds.length:=by omega
       rw [List.drop_eq_getElem_cons hd] at ec;obtain ⟨Y,e5,ec⟩:=je ec;obtain ⟨b,e6,ec⟩:=je ec;refine bn (T.item (jC z X N scope cl C s3 (aJ Q a (.ag [])) Z) rfl rfl rfl rfl i [] s' E L (λ_ _=>False) Ic (Cd fr) st (w1 dF)) λr s4 l6=>?_;obtain ⟨u,hr,h4⟩:=l6
       subst hr;refine bn h4 λ_ s5 l6=>?_;obtain ⟨x,H5,I5,r5,y5,Ce,BA⟩:=l6
       have Ex: ∀b,(Sf G w O b/\Q b≠none)->Sf (Gc im G w O) l E b:=λb z=>⟨λo=>(by
         rw [oO b o] at z
         exact z.2 ha),z.1.2,λ_=>z.1.1⟩
       obtain ⟨tN,Hc⟩:am L H5/\aA X.K (Sf (Gc im G w O) l E) H5 x ds[i]:=by
         rcases w2 _ (dn hd) x H5 y5 with ⟨rfl,rd⟩| ⟨p,vs,es,hp,rfl,rfl,ed,B5⟩
         . exact ⟨am.refl _,(rd.ce.ap kc.ae).az Ex⟩
         . refine ⟨am.aJ hp,?_⟩;rw [ed];exact .ah jr (((B5.ce.ap kc.ae).az Ex).ap (am.aJ hp))
       have He:=kc.ap tN;have Hf:=I5.pinned (Cd BA) (T.obj _ _ Ce);refine bn (G8 _ s5 E H5 x u (λAH Hn=>Hn=H5/\ar X.K (Gc im G w O) Q Y AH H5/\bt l E H5 Y AH H5) Hf r5 ⟨_,Q,l,ds[i],Y,He,Hc,e5,λAH k1 f1=>⟨rfl,k1,f1⟩⟩) λ_ s6 l6=>?_;obtain ⟨ph,H6,I6,z6,k6,Ey⟩:=l6
       subst z6
       have Cf: ∀b,jQ Y ph b->b=a:=λb o=>by
         rcases Ey.more b o with z|z
         . exact oO b z
         . obtain ⟨uu,hu⟩:=k6.there o;rw [z] at hu;cases hu
       refine bn (G9 _ s6 ph H6 (λb' Hn=>b'=b/\am H6 Hn) I6 ⟨_,Q,Y,b,k6,e6,λHn sn=>⟨rfl,sn⟩⟩) λok s7 l6=>?_;obtain ⟨H7,I7,z7,Ez⟩:=l6
       subst z7;have k7:=k6.ap Ez;have EA:=((fc.trans (bt.refl tN)).trans Ey).trans (bt.refl Ez)
       have out: ∀ {s8:aB} {rY:L2.St} {H8:Hp} {i7:Sl},aq (jC z X N scope cl C s3 (aJ Q a (.ag [])) Z) ([]++ZG Z s5.heap) rY H8 s8->(∀b,jQ i7 rY b->b=a)->ar X.K (Gc im G w O) Q i7 rY H8->
           bt (wj im m js w) (wg m js O a) (aJ Q a (.ag [])) i7 rY H8->zY (m+js.length) t c fe (ds.drop (i+1)) i7= .ok pW->
           ∃mm,mm<ds.length+1-i/\ ∃i E L l,mm=ds.length+1-i/\i<=ds.length/\aq (jC z X N scope cl C s3 (aJ Q a (.ag [])) Z) [] E L s8/\tn i s8.heap/\(∀b∈Z,L b=none)/\(∀b,jQ l E b->b=a)/\
             ar X.K (Gc im G w O) Q l E L/\bt (wj im m js w) (wg m js O a) (aJ Q a (.ag [])) l E L/\zY (m+js.length) t c fe (ds.drop i) l= .ok pW:=by
         intro s8 rY H8 i7 I8 Hg k8 f8 e8;refine ⟨ds.length+1-(i+1),by omega,i+1,rY,H8,i7,rfl,dF,I8.dR,T.keep _ _ _ Ce λb g o e=>(I8.pin (b,o) (hQ _ (hQ _ (xr g e)))).1,λb g=>?_,Hg,k8,f8,e8⟩;obtain ⟨o,e,_⟩:=T.obj _ _ Ce b g;exact (I8.pin (b,o) (hQ _ (hQ _ (xr g e)))).2.1
       cases ok with
       |false=>
         rw [if_neg lD] at ec ⊢;exact out I7 Cf k7 EA ec
       |true=>
         rw [if_pos rfl] at ec ⊢;obtain ⟨vd,e7,ec⟩:=je ec;obtain ⟨acc,e8,ec⟩:=je ec;obtain ⟨hz,ec⟩:=ju ec;refine bn (Ha _ s7 ph H7 (λy Hn=>am H7 Hn/\aA X.K (Sf (Gc im G w O) Y ph) Hn y vd) I7 ⟨_,Q,Y,vd,k7,e7,λy Hn sn rn _=>⟨sn,rn⟩⟩) λyv s8 l6=>?_;obtain ⟨y,H8,I8,ry,EB,Cg⟩:=l6
         have k8:=k7.ap EB;have AK:=xU e8;obtain ⟨a8,EC,ED,EE,EF⟩:=xT k8 AK;have ea:=Cf a8 ⟨_,_,AK,ED⟩;subst ea;have W:=k8.write AK ED EE (EF.append (.cons Cg .nil))
         refine bn (xX _ s8 ph H8 (.ref a) [y] (.ref a) [yv] (λ_ Hn=>Hn=aJ H8 a (.ag (EC++[y]))) I8 rfl (.cons ry .nil)
           ⟨a,EC,y,rfl,rfl,EE,by rw [EF.length];exact hz,rfl⟩) λ_ s9 ⟨_,H9,I9,_,z9⟩=>?_
         subst z9;exact out I9 (λb o=>Cf b ((yw AK).mp o)) W.1 ((EA.trans (bt.refl EB)).trans W.2) ec
     . have he:i=ds.length:=by omega
       rw [List.drop_eq_nil_of_le (by omega)] at ec;cases ec;refine bn (T.done (jC z X N scope cl C s3 (aJ Q a (.ag [])) Z) rfl rfl rfl rfl i [] s' E L (λ_ _=>False) Ic (Cd fr) st (w3 (by omega))) λr s4 ⟨hr,I5⟩=>?_
       subst hr;have Ch:=xU e3;obtain ⟨aF,MM,EG,Hh,EH⟩:=xT kc Ch;have ea:=oO aF ⟨_,_,Ch,EG⟩;subst ea;obtain ⟨mm,hn,_⟩:=I5.loc;refine B8 a C s4 L mm _ hn (λh' rZ=>?_) (I3.f6 (a9 _) I5.free) (sm.trans kc.ae) (.ag Hh (k.new a (am.free sm ha)) ?_) (qm sm ha)
       rotate_left
       . cases AL:im with
         |true=>exact EH.gA (B9 AL)
         |false=>exact EH.az λc z=>⟨⟨z.2.2 AL,z.2.1⟩,ZJ kc Ch EG c z⟩
       have nC: ∀b o,L b=some o->b≠C:=λb o e z=>by
         have:=I5.free;rw [z] at e;have e':L C=none:=this;rw [e] at e';cases e'
       have B:=I5.ae;have Ci: ∀b o,s3.heap.get? b=some o->b≠C:=λb o e=>dN (bX e)
       have U:Un (cJ X.stack) Z (aJ Q a (.ag [])) L s3.heap h':=⟨λb o e n g pY=>(rZ.2 b (Ci b o e)).trans (B.keep b o e n g pY),
         λb o e n g pY=>let ⟨sl,z⟩:=B.slot b o e n g pY;⟨sl,(rZ.2 b (Ci b o e)).trans z⟩,B.free,
         λb o e pY=>let ⟨o',z⟩:=B.there b o e pY;⟨o',(rZ.2 b (Ci b o e)).trans z⟩,B.dr,B.cY,B.du⟩
       refine aq.fR I3 I5.os U (λb o e=>(I5.aP b o e).aV (λc' u rJ qq=>(rZ.2 c' ?_).trans qq) (λ_ z=>z) λ_ _ z=>z) I5.bare (λb g=>?_)
       . rcases rJ with z|z
         . rw [z];exact nC b o e
         . exact nC c' _ z
       . obtain ⟨z0,z1,z2,z3,z4,z5⟩:=f3 b g;exact ⟨z3,z1,z4,z5⟩
   . exact λb o=>YV o
  exact codeAny_compStart_list loop (T.self _ 0 _ _ _ stC loop))
def zG (im:Bool) (N:List Str) (m:Nat) (js:List Nat) (S:cK z X scope cl N m js) (l:X.bG=true) (n:DI X tg iter fi)
   (o: ∀(C:Addr) (s:aB) (H:Hp) (e:List Addr),N.Nodup->DG (jC z X N scope cl C s H e) tg t/\oM (jC z X N scope cl C s H e) ifs c/\DE (jC z X N scope cl C s H e) .s elt fe)
   (p: ∀x,m9 iter X.env x=pure x:=by intro _;rfl):
   DE X .t (.ListComp elt [⟨tg,iter,ifs,0⟩] scope pos) (j8 im m js fi t c fe):=by
 with_unfolding_all exact (by
  rintro g s u H Q I ⟨G,O,v,d,k,w,q⟩;rw [eval_ListComp]
  exact JL none (EP X g u Q) im N m js S l n (λC s H e=>o C s H e S.nd) p I k w λa C U j y r B h E sm rep J=>⟨y,B,λL i=>⟨.ref a,j,h L i,rfl,q _ j sm rep J⟩⟩)
def XN (B:D->Slot) (i:Nat) (hW: ∀ {G:Xc} {J H w:Hp} {g:Sl} {j:L2.St} {v:V} {d:D},ar X.K G J g j H->am H w->aA X.K (Sf G g j) w v d->bg H v->ar X.K G J (g.set i (B d)) (j.set i (some v)) w/\bt g j H (g.set i (B d)) (j.set i (some v)) w) (hN:X.N.Nodup) (im:Bool) (N:List Str) (m:Nat) (js:List Nat) (S:cK z X scope cl N m js) (hc:X.bG=true) (hi:DI X tg iter fi)
   (L: ∀(C:Addr) (s:aB) (H:Hp) (l:List Addr),N.Nodup->DG (jC z X N scope cl C s H l) tg t/\oM (jC z X N scope cl C s H l) ifs c/\DE (jC z X N scope cl C s H l) .s elt fe)
   (O:X.N[i]?=some x) (hx:Loc X.env.scope x) (hf:T7 X x)
   (Q:gw (.ListComp elt [⟨tg,iter,ifs,0⟩] scope pos) (some (.Name x p)) ps.line X.env=pure true) (hs: ∀x,m9 iter X.env x=pure x):
   DS X (.Assign [.Name x p] (.ListComp elt [⟨tg,iter,ifs,0⟩] scope pos) ps) (λg=>j8 im m js fi t c fe g>>=λd=> .ok (.nx (g.set i (B d)))):=by
 with_unfolding_all exact (by
  rintro n s j H E I ⟨G,J,g,o,k,ef,q⟩;obtain ⟨d,e1,e2⟩:=je ef;cases e2;rw [exec_Assign_Name_used _ _ _ _ Q];refine ax (wpAny_standAt (ax ?_));refine ax (bn (JL (some (fT (.Name x p) X.env)) (λ_ y=>SP X n E .next y) im N m js S hc hi (λC s H l=>L C s H l S.nd) hs I k e1 λa C y H' mm r hn u U sm rep nt=>?_) λ_ y hq=>aM (aM hq));have I':=u y.heap ⟨rfl,λ_ _=>rfl⟩;obtain ⟨W1,W2⟩:=hW k sm rep nt;obtain ⟨f0,f1,f2,f3,f4,f5⟩:=U;refine wpAny_assign_Name (Jc I' hN O hx (show aG (.ref a) (.ref a) from rfl) (λs2 I2 h=>?_) hf);obtain ⟨b,h,Y⟩:=h
  have Z:C≠b:=by
   rcases Y with z|z
   . rw [z];exact f1
   . exact λe=>f4 _ _ z e.symm
  refine ⟨mm,hn.sameBut h Z,λh' oO=>⟨_,H',?_,q _ _ W1 W2⟩⟩
  exact I2.turned (λb o L e=>(oO.2 b L).trans e) f0 f1 f3 f4 f5)
def u8 (i:Nat) {p g:Pos} (h:X.N.Nodup) (im:Bool) (N:List Str) (m:Nat) (js:List Nat) (S:cK z X scope cl N m js) (j:X.bG=true) (l:DI X tg iter fi)
  (n: ∀(C:Addr) (s:aB) (H:Hp) (a:List Addr),N.Nodup->DG (jC z X N scope cl C s H a) tg t/\oM (jC z X N scope cl C s H a) ifs c/\DE (jC z X N scope cl C s H a) .s elt fe)
  (d:X.N[i]?=some x:=by rfl) (o:Loc X.env.scope x:=by exact dI rfl) (q:T7 X x:=by first|exact .inl rfl|exact .inr rfl|assumption)
  (e:gw (.ListComp elt [⟨tg,iter,ifs,0⟩] scope pos) (some (.Name x p)) g.line X.env=pure true:=by rfl) (u: ∀x,m9 iter X.env x=pure x:=by intro _;rfl):
  DS X (.Assign [.Name x p] (.ListComp elt [⟨tg,iter,ifs,0⟩] scope pos) g) (cf i (j8 im m js fi t c fe)):=
 XN Wo i (λk s r v=>k.ie s r v) h im N m js S j l n d o q e u
def ko (i:Nat) {p g:Pos} (h:X.N.Nodup) (im:Bool) (N:List Str) (m:Nat) (js:List Nat) (S:cK z X scope cl N m js) (j:X.bG=true) (l:DI X tg iter fi)
  (n: ∀(C:Addr) (s:aB) (H:Hp) (a:List Addr),N.Nodup->DG (jC z X N scope cl C s H a) tg t/\oM (jC z X N scope cl C s H a) ifs c/\DE (jC z X N scope cl C s H a) .s elt fe)
  (d:X.N[i]?=some x:=by rfl) (o:Loc X.env.scope x:=by exact dI rfl) (q:T7 X x:=by first|exact .inl rfl|exact .inr rfl|assumption)
  (e:gw (.ListComp elt [⟨tg,iter,ifs,0⟩] scope pos) (some (.Name x p)) g.line X.env=pure true:=by rfl) (u: ∀x,m9 iter X.env x=pure x:=by intro _;rfl):
  DS X (.Assign [.Name x p] (.ListComp elt [⟨tg,iter,ifs,0⟩] scope pos) g) (jL i (j8 im m js fi t c fe)):=
 XN .ak i (λk s r v=>⟨(k.ap s).en r,.set s λ_ _ z _=>by cases z⟩) h im N m js S j l n d o q e u
end
def wG (n:Nat) (a:List D):Sl:=a.map .ak++eR (n-a.length) .un
def Vw {K:ay} (r:ai K B H k c):ar K (λa=>H a=none\/B a) H (wG N.length c) (start N k) H:=by
 have l:=r.length
 have g: ∀(i:Nat) (d:D),(wG N.length c)[i]?≠some (.av d):=λi d h=>by
   unfold wG at h
   by_cases q:i<c.length
   . rw [g8 (by simpa using q),fB] at h
     cases e:c[i]? with
     |none=>rw [e] at h;cases h
     |some x=>rw [e] at h;cases h
   . rw [fA (by simpa using q),oI] at h
     split at h<;>cases h
 refine ⟨by simp [L2.start,wG,l],am.refl H,λ_ z=> .inl z,λi d h=>?_,λi d h=>(g i d h).elim,λi j d e a h=>(g i d h).elim⟩;unfold wG at h
 by_cases q:i<c.length
 . rw [g8 (by simpa using q),fB] at h
   cases e:c[i]? with
   |none=>rw [e] at h;cases h
   |some x=>
     rw [e] at h;cases h;obtain ⟨v,m,n⟩:=r.get e;refine ⟨v,?_,n.az λa z=>⟨λo=>?_,.inr z⟩⟩
     . unfold L2.start;rw [g8 (by simp;omega),fB,m];rfl
     . obtain ⟨p,t,z,_⟩:=o;exact g p t z
 . rw [fA (by simpa using q),oI] at h
   split at h<;>cases h
section
variable {P:bI} {w:World} {K:ay} {mg:Xd} {ae:Heap}
def Meets (h:Bool) (n:Nat) (g:TF) (e:List D) (d:D):Prop:=(∃a,g (wG n e)= .ok (.rt a d)/\(h=true->a=true))\/(d= .aO/\ ∃c,g (wG n e)= .ok (.nx c))
def uL {st:Stmt} (u:iO K x j st f y) (S:aC N m (jj st))
    (I: ∀(i:Value) (A:bV) (c:List Env) (s:aB) (H:Hp) (E:XK),aH k (A.deeper (gx j (jj st) s.heap.objs.size f i))->fU (bH hD P w K mg ae N j (jj st) f i A c s H E).m8 (qr st) g)
    (J: ∀l d,l.length=m.length->F l= .ok d->Meets L N.length g l d):
    cE P w K mg ae hD (k+1) f y m (l5 K L m.length F):=by
 with_unfolding_all exact (by
  refine u.ok S (λO H Q E ⟨B,l,d,n,_⟩=>n) (λi A c s H O Q E U h=>?_);obtain ⟨B,l,d,n,r,e,q⟩:=h;refine ⟨_,I i A c s H E U,?_⟩;have p:=Vw (N:=N) r;rcases J l d (by rw [<-r.length];exact n) e with ⟨Y,z,Z⟩| ⟨rfl,t,z⟩
  . exact ⟨_,H,_,_,p,z,λv o s r nt=>q v o s r λhh=>nt (Z hh)⟩
  . exact ⟨_,H,_,_,p,z,λnj o k' f'=>q .aO o k'.ae .aO λ_ a e=>by cases e⟩)
end
open PySem.W in
theorem Hi {a:List Int} (h:WData.layableAll [WData.list (a.map WData.int)]=true): ∀n∈a,pZ n<=2^20:=λn c=>by
 have d:=layableW_arg h _ dB;have e:=layableW_item d (.int n) (b8.mpr ⟨n,c,rfl⟩);have g:=(layableW_iff.mp e).2.2;simpa only [WData.weight,pZ] using g
open PySem.W PySem.Calls Att in
theorem WZ {l:tu}
  (U:l.most=some n) (E:d.params.defaults=[])
  (call: ∀(w:World) (e c:aB) (y H:Xd) (k:Addr) (o:Obj) (I z g:Value) (a:Addr) (j:List Value) (m:List Int),
   Ground q h [] Z w e y H c.heap->YP w c.heap->
   c.heap.get? k=some o->o.data= .func (docDef d.name d.params d.body d.scope I z g)->c.heap.CodeRec z d.name->y d.name=some (.ref k)->
   c.heap.get? a=some {cls:= .type "list",data:= .seq j.toArray}->IntsAre j m->m.length<=n->(∀n∈m,pZ n<=2^20)->c.gens= #[]->
   lV (model l.prog w) callerA (.call (.ref k) ⟨[.ref a],[]⟩) (λr B=>r= .ok (.ret (.bool true))/\OldK c.heap B.heap/\B.os=c.os/\m5 B.gens) c):
  WalkO q h Z YP l.row.toRowW d [] (λf j=>PySem.call f j):=by
 intro w e c y H G Y k o I z g dV kV ho hd J O L hg args Q as p t MN N MO;obtain rfl:dV= .none:=Dflts.none O E;obtain rfl:kV= .none:=Dflts.noKw O;obtain ⟨a,j,m,rfl,rfl,u,i,v⟩:=Kh U p N;refine enter_call (rM (call w e c y H k o I z g a j m G Y ho (fd_plain hd) J L u i v (Hi t) hg) λr B hq=>?_);obtain ⟨rfl,h2,h3,h4⟩:=hq;exact ⟨.inl ⟨.bool true,.bool true,[],rfl,λ_=>rfl,.bool true,Kt l _,λ_=>⟨List.Pairwise.nil,λ_ hm=>(nomatch hm)⟩⟩,h2,h3,h4⟩
def UC {K:ay} (c:pJ H) (h:dg K H a d):lY K H a d:=by
 rcases h with (h|h)|h
 . rcases c a with z| ⟨o,e,z⟩
   . rw [z] at h;cases h
   . rw [z] at h;cases h
 . exact .inl h
 . exact .inr h
theorem XF {K:ay}: ∀a:List Int,ai K A H (a.map V.int) (a.map D.int)
 | []=> .nil
 |n::r=> .cons (.int n) (XF r)
def me {l:tu} {K:Params->ay}
  (hn:l.most=some n) (B:n<=aR) (E:d.params.defaults=[]) (hr:aH k callerA)
  (hY: ∀(w:World) (h:Heap),YP w h->(K w.params).In h)
  (hF: ∀(w:World) (p:Xd) (z:Addr) (h:Heap),(K w.params).In h->h.Ns bv p->p d.name=some (.ref z)->
   ∃I:iK,(∀(s:aB) (u:Value),BindsTo s I ⟨[u],[]⟩ [(x,u)])/\
    ∀c:Heap,(K w.params).In c->c.Ns bv p->cE l.prog w (K w.params) p c hD k z I [x] (l5 (K w.params) true 1 F))
  (ht: ∀t:List Int,t.length<=n->(∀i∈t,pZ i<=2^20)->F [.aU (t.map D.int)]= .ok (.bl true)):
  PySem.W.WalkO q J XP YP l.row.toRowW d [] (λf O=>PySem.call f O):=by
 refine WZ hn E λw Q U p mb z o pm cd doc a O t G Y ho hd px L y j g m hg=>?_
 have Z:=hY w _ Y;obtain ⟨I,hb,N⟩:=hF w p z _ Z G.T.g L;refine UR Z G.T.g G.T.b G.T.builtins G.T.nolimit hg y j (dE g B) hr N hb (λH hO hS=>?_) λH e s' h=>h
 exact ⟨Any,_,_,rfl,.cons (.tx (UC hO hS) (XF t)) .nil,ht t g m,λv H' _ r _=>r.oK⟩
section
variable {X:Cx} {K:ay}
def fJ (C:Int->Int->Prop) [∀i j,Decidable (C i j)] (g:Int->Int->D):D->D->ao D
 | .int i,.int j=>aS (C i j) (.ok (g i j))
 |_,_=> .aj
def Vi {C:Int->Int->Prop} [∀i j,Decidable (C i j)] {g:Int->Int->D} {a b d:D} (h:fJ C g a b= .ok d): ∃i j,a= .int i/\b= .int j/\C i j/\d=g i j:=by
 unfold fJ at h
 split at h
 . obtain ⟨c,e⟩:=ju h;cases e;exact ⟨_,_,rfl,rfl,c,rfl⟩
 . cases h
def nX {C c:Int->Int->Prop} [∀i j,Decidable (C i j)] {h:Int->Int->V} {g:Int->Int->D} (w: ∀i j,C i j->c i j) (r: ∀i j,Sc K (h i j) (g i j)):eH K (rI c h) (fJ C g):=by
 intro x y H a b d Q k l e q;obtain ⟨i,j,rfl,rfl,m,rfl⟩:=Vi e;exact ⟨i,j,k.cc,l.cc,w i j m,q _ (r i j)⟩
abbrev J8:Int->Int->Prop:=λ_ _=>True
instance: ∀i j,Decidable (J8 i j):=λ_ _=>inferInstanceAs (Decidable True)
def UI (r: ∀i j,Sc K (h i j) (g i j)):eH K (gZ h) (fJ J8 g):=by
 intro x y H a b d Q c k e q;obtain ⟨i,j,rfl,rfl,l,rfl⟩:=Vi e;exact ⟨i,j,c.cc,k.cc,q _ (r i j)⟩
def AM (h:Sc K v d):bg H v:=λa e=>absurd e (h.2 a)
def bj:D->D->ao D
 | .int i,.int j=> .ok (.int (i+j))
 | .str i,.str j=>aS (i.length+j.length<=aR) (.ok (.str (i++j)))
 | .ag a,.ag b=>aS (a.length+b.length<=aR) (.ok (.ag (a++b)))
 | .ah a,.ah b=>aS (a.isEmpty=false/\a.length+b.length<=aR) (.ok (.ah (a++b)))
 |_,_=> .aj
def qh:b7 X (eU .Add) (λx y H Q=>gZ (λi j=> .int (i+j)) x y H Q\/(∃i j,x= .str i/\y= .str j/\i.length+j.length<=aR/\Q (.str (i++j)) H)\/lX x y H Q\/Ko X.K x y H Q):=
 pk.or (hU.or (pG.or uf))
def ai.len_app (r:ai K A H c a) (s:ai K A H d b) (h:a.length+b.length<=aR):c.length+d.length<=aR:=by rw [r.length,s.length];exact h
def nY {A:Xc} {H:Hp}: ∀c,A c->(H c=none\/A c):=λ_ z=> .inr z
def qW:pN K (λx y H Q=>gZ (λi j=> .int (i+j)) x y H Q\/(∃i j,x= .str i/\y= .str j/\i.length+j.length<=aR/\Q (.str (i++j)) H)\/lX x y H Q\/Ko K x y H Q) bj:=by
 intro A x y H a b d Q u v e q;unfold bj at e
 split at e
 . cases e;exact .inl ⟨_,_,u.cc,v.cc,q _ H (am.refl H) (.int _) (AM (iP (K:=K) _))⟩
 . obtain ⟨w,O⟩:=ju e;cases O;have g: ∀i j:Str,i.length+j.length<=aR->(i++j).length<=aR:=λi j h=>by rw [strLen_append];exact h
   exact .inr (.inl ⟨_,_,u.gl.1,v.gl.1,w,q _ H (am.refl H) (.str _ (g _ _ w)) (AM (AF (K:=K) _ (g _ _ w)))⟩)
 . obtain ⟨B,E⟩:=ju e;cases E;obtain ⟨l,I,rfl,g,_,n⟩:=u.c7;obtain ⟨J,L,rfl,r,_,t⟩:=v.c7;refine .inr (.inr (.inl ⟨l,J,I,L,rfl,rfl,g,r,n.low.len_app t.low B,λp k=>q _ _ (am.aJ k) ?_ (qm (am.refl H) k)⟩));exact .ag jr (.inl k) (((n.low.append t.low).laid k).az λc z=>⟨.inr z.1,z.2⟩)
 . obtain ⟨⟨B,E⟩,U⟩:=ju e;cases U;obtain ⟨l,I,rfl,g,n⟩:=u.cm;obtain ⟨J,L,rfl,r,t⟩:=v.cm;refine .inr (.inr (.inr ⟨l,J,I,L,rfl,rfl,.of g,.of r,λz=>?_,n.len_app t E,λz=>?_,λz p k=>q _ _ (am.aJ k) ?_ (qm (am.refl H) k)⟩))
   . subst z;cases n;cases B
   . subst z;cases t;rw [lO] at q;refine q _ H (am.refl H) (.ah g (n.az nY)) λa e o N m=>?_
     cases e;rw [g] at N;cases N;exact m
   . exact .ah jr (((n.append t).az nY).ap (am.aJ k))
 . cases e
def Hj:eH K (gZ λi j=> .int (i-j)) (fJ J8 λi j=> .int (i-j)):=UI λi j=>iP _
abbrev mf:Int->Int->Prop:=λi j=>pZ i+pZ j<=134217728
def Jn:b7 X (eU .Mult) (rI mf λi j=> .int (i*j)):=nc λ_ _ _ _ _ _ _ a q=>mul_int q (IntMulOk.of_le (a9 _) (a9 _) a)
def ZN:eH K (rI mf λi j=> .int (i*j)) (fJ mf λi j=> .int (i*j)):=nX (λ_ _ h=>h) λi j=>iP _
abbrev tO:Int->Int->Prop:=λ_ j=>0<j/\j<1073741824
def j7:eH K (rI nJ λi j=> .int (i/j)) (fJ tO λi j=> .int (i/j)):=nX (λ_ _ h=>h) λi j=>iP _
abbrev tP:Int->Int->Prop:=λ_ j=>0<j
def qO:eH K (rI (λ_ j=>0<j) λi j=> .int (i%j)) (fJ tP λi j=> .int (i%j)):=nX (λ_ _ h=>h) λi j=>iP _
abbrev p4:Int->Int->Prop:=λi j=>0<=j/\j<=1000000/\i.natAbs<2^64
def KJ:eH K (rI sT λi j=> .int (i^j.toNat)) (fJ p4 λi j=> .int (i^j.toNat)):=nX (λ_ _ h=>h) λi j=>iP _
def EI:eH K (gZ λi j=> .bl (decide (i<j))) (fJ J8 λi j=> .bl (decide (i<j))):=UI λi j=>gB _
def J6:eH K (gZ λi j=> .bl (decide (i<=j))) (fJ J8 λi j=> .bl (decide (i<=j))):=UI λi j=>gB _
def KK:eH K (gZ λi j=> .bl (decide (j<i))) (fJ J8 λi j=> .bl (decide (j<i))):=UI λi j=>gB _
def nk (i j:Str):Bool:=!(BD j i 0 j.length 1).isEmpty
def inD:D->D->ao D
 | .str i,.str j=> .ok (.bl (nk i j))
 |_,_=> .aj
def Hk:eH K (λx y H Q=> ∃i j,x= .str i/\y= .str j/\Q (.bl (!(BD j i 0 j.length 1).isEmpty)) H) inD:=by
 intro x y H a b d Q c g e q;unfold inD at e
 split at e
 . cases e;exact ⟨_,_,c.gl.1,g.gl.1,q _ (gB _)⟩
 . cases e
def bw:List D->ao D
 | [.ag a]=> .ok (.int a.length)
 | [.aU a]=> .ok (.int a.length)
 | [.ah a]=> .ok (.int a.length)
 | [.str z]=> .ok (.int z.length)
 |_=> .aj
def jO:bf X (.builtin "len") (λc H Q=>(∃p a,c=[.ref p]/\(dg X.K H p a\/eI X.K H p a)/\Q (.int a.length) H)\/(∃z,c=[.str z]/\z.length<=aR/\Q (.int z.length) H)):=gj.or Z8
def zh:VZ K (λi H Q=>(∃p a,i=[.ref p]/\(dg K H p a\/eI K H p a)/\Q (.int a.length) H)\/(∃z,i=[.str z]/\z.length<=aR/\Q (.int z.length) H)) bw:=by
 intro i H k d Q r e q;unfold bw at e
 split at e
 . cases e;obtain ⟨v,rfl,c⟩:=r.one;obtain ⟨p,a,rfl,g,_,h⟩:=c.c7;exact .inl ⟨p,a,rfl,.inl (.of g),by rw [h.length];exact q _ (iP _)⟩
 . cases e;obtain ⟨v,rfl,c⟩:=r.one;obtain ⟨p,a,rfl,g,h⟩:=c.fH;exact .inl ⟨p,a,rfl,.inl g.lI,by rw [h.length];exact q _ (iP _)⟩
 . cases e;obtain ⟨v,rfl,c⟩:=r.one;obtain ⟨p,a,rfl,g,h⟩:=c.cm;exact .inl ⟨p,a,rfl,.inr (.of g),by rw [h.length];exact q _ (iP _)⟩
 . cases e;obtain ⟨v,rfl,c⟩:=r.one;obtain ⟨rfl,j⟩:=c.gl;exact .inr ⟨_,rfl,j,q _ (iP _)⟩
 . cases e
def yH:List D->ao D
 | [.ag a]=>(.ok (.ah a))
 | [.ah a]=>(.ok (.ah a))
 |_=> .aj
def Y6 (h:H p=some (.ah c)):bg H (.ref p):=λa e o q m=>by
 cases e;rw [h] at q;cases q;exact m
def yj:JU K (λj H Q=> ∃p a,j=[.ref p]/\((dg K H p a/\ ∀l,H l=none->Q (.ref l) (aJ H l (.ah a)))\/(eI K H p a/\Q (.ref p) H))) yH:=by
 intro A j H k d Q r e q;unfold yH at e
 split at e
 . cases e;obtain ⟨v,rfl,g⟩:=r.one;obtain ⟨p,a,rfl,c,_,h⟩:=g.c7;exact ⟨p,a,rfl,.inl ⟨.of c,λl i=>q _ _ (am.aJ i) (.ah jr ((h.low.az nY).ap (am.aJ i))) (qm (am.refl H) i)⟩⟩
 . cases e;obtain ⟨v,rfl,g⟩:=r.one;obtain ⟨p,a,rfl,c,h⟩:=g.cm;exact ⟨p,a,rfl,.inr ⟨.of c,q _ H (am.refl H) (.ah c (h.az nY)) (Y6 c)⟩⟩
 . cases e
def K2:List D->ao D
 | [.ag a]=>(.ok (.ag a))
 | [.ah a]=>(.ok (.ag a))
 |_=> .aj
def Zm:JU K (λk H Q=> ∃p g,k=[.ref p]/\(dg K H p g\/eI K H p g)/\ ∀l,H l=none->Q (.ref l) (aJ H l (.ag g))) K2:=by
 intro A k H m d Q r e q;unfold K2 at e
 split at e
 . cases e;obtain ⟨v,rfl,h⟩:=r.one;obtain ⟨p,g,rfl,i,_,j⟩:=h.c7;exact ⟨p,g,rfl,.inl (.of i),λl a=>q _ _ (am.aJ a) (.ag jr (.inl a) ((j.low.laid a).az λc z=>⟨.inr z.1,z.2⟩)) (qm (am.refl H) a)⟩
 . cases e;obtain ⟨v,rfl,h⟩:=r.one;obtain ⟨p,g,rfl,i,j⟩:=h.cm;exact ⟨p,g,rfl,.inr (.of i),λl a=>q _ _ (am.aJ a) (.ag jr (.inl a) ((j.laid a).az λc z=>⟨.inr z.1,z.2⟩)) (qm (am.refl H) a)⟩
 . cases e
def Cj:D->Option String
 | .aO=>some "NoneType"
 | .bl _=>some "bool"
 | .int _=>some "int"
 | .str _=>some "str"
 | .ah _=>some "tuple"
 | .ag _=>some "list"
 | .aU _=>none
 | .cv _ _=>some "dict"
 | .cO _ _=>some "dict"
 | .di _=>none
 | .eW _ _=>none
 | .dz _ _=>none
 | .obj _ _ _=>none
 | .mem _ _=>none
 | .cr _=>none
def Hl (r:aA K A H v d) (h:Cj d=some n):ek K H v (.type n):=by
 have r:=r.f;cases d<;>cases h
 . cases r;exact .aO
 . cases r;exact .bl _
 . cases r;exact .int _
 . cases r.1;exact .str _
 . obtain ⟨_,_,rfl,e,_⟩:=r;exact .ah e
 . obtain ⟨_,_,rfl,e,_⟩:=r;exact .ag e
 . obtain ⟨_,_,rfl,e,_⟩:=r;exact .dK e
 . obtain ⟨_,_,rfl,e,_⟩:=r;exact .dT e
def fK (T n:String):Bool:=n==T|| (T== "int" &&n== "bool")
def fL (T:String):Prop:= ∀(K:ay) (n:String),n∈["NoneType", "bool", "int", "str", "tuple", "list", "dict"]->eV K (.type n) (.type T)=some (fK T n)
def Hm (h:Cj d=some n):n∈["NoneType", "bool", "int", "str", "tuple", "list", "dict"]:=by
 cases d<;>first| (cases h;done)| (cases h;decide)
def Jx (h: ∀(K:ay),eV K (.type "NoneType") (.type T)=some (fK T "NoneType")/\eV K (.type "bool") (.type T)=some (fK T "bool")/\eV K (.type "int") (.type T)=some (fK T "int")/\
  eV K (.type "str") (.type T)=some (fK T "str")/\eV K (.type "tuple") (.type T)=some (fK T "tuple")/\eV K (.type "list") (.type T)=some (fK T "list")/\eV K (.type "dict") (.type T)=some (fK T "dict")):fL T:=by
 intro K n a;obtain ⟨c,d,e,g,i,j,k⟩:=h K;simp at a;rcases a with rfl|rfl|rfl|rfl|rfl|rfl|rfl<;>assumption
def UV:fL "int" :=Jx λK=>⟨rfl,rfl,rfl,rfl,rfl,rfl,rfl⟩
def Vc:fL "bool" :=Jx λK=>⟨rfl,rfl,rfl,rfl,rfl,rfl,rfl⟩
def UU:fL "str" :=Jx λK=>⟨rfl,rfl,rfl,rfl,rfl,rfl,rfl⟩
def wd:fL "tuple" :=Jx λK=>⟨rfl,rfl,rfl,rfl,rfl,rfl,rfl⟩
def x4:fL "list" :=Jx λK=>⟨rfl,rfl,rfl,rfl,rfl,rfl,rfl⟩
def i8 (T:String) (d:D):ao D:=match Cj d with
 |some n=> .ok (.bl (fK T n))
 |none=> .aj
def X0 (T:String) (h:fL T):bf X (.builtin "isinstance") (λa H Q=> ∃x d,a=[x,.ty T]/\aA X.K Any H x d/\ ∃b,i8 T d= .ok (.bl b)/\Q (.bl b) H):=by
 rintro c s p H a t Q I r ⟨x,d,i,j,b,e,q⟩;subst i;obtain ⟨u,k,rfl,l,m⟩:=Y3 r;cases (show k=o5 T from m);unfold i8 at e
 split at e
 . rename_i n g;cases e;refine Vb I l (Hl j g) (h X.K n (Hm g)) λo=>⟨.bl _,H,I.tok o,rfl,q⟩
 . cases e
def i9 (T:String) (f:TJ):Sl->ao D:=λa=>f a>>=i8 T
def VI (T:String) (Ty:Str) {l':Lv} {p c g:Pos} (t:fL T) (u:DE X l e f) (w:Gl X "isinstance") (y:X.mg "isinstance" =none) (h:Gl X Ty) (i:X.mg Ty=none) (z:gH Ty=some (.type T))
   (B:Ty≠ "__name__" :=by decide) (hd:Yj Ty:=by decide) (o:bp [e,.Name Ty c] X.env=(false,eval e X.env)::bp [.Name Ty c] X.env:=by exact jn rfl)
   (j:bp [.Name Ty c] X.env=(false,eval (.Name Ty c) X.env)::bp [] X.env:=by exact jn rfl) (m:(dO g (bp [.Name Ty c] X.env)).any (·.1)=false:=by exact jB rfl):
   DE X l' (.Call (.Name "isinstance" p) [e,.Name Ty c] [] g) (i9 T f):=by
 with_unfolding_all exact (
  PE.imp (zv (X0 T t) w y tQ (qc u (qc (Wz (v:= .ty T) h i z rfl B hd) wa j) o) (by decide) (by decide) o m) λN H Q=>by
   rintro ⟨G,E,n,d,k,I,q⟩;obtain ⟨a,e1,e2⟩:=je I;refine ⟨G,E,n,a,k,e1,λv J s r _=>?_⟩
   have L: ∃b,d= .bl b:=by
    unfold i8 at e2
    split at e2
    . cases e2;exact ⟨_,rfl⟩
    . cases e2
   obtain ⟨b,rfl⟩:=L
   exact ⟨v,a,rfl,r.az Lv.be,b,e2,q _ J s (.bl b) (gB (K:=X.K) b).T⟩)
def JP:List D->Option (List Bool)
 | []=>some []
 | .bl b::r=>(JP r).map (b:: ·)
 |_=>none
theorem JO: ∀ {a:List D} {bs:List Bool},JP a=some bs->a=bs.map D.bl
 | [],bs,h=>by cases h;rfl
 |d::r,bs,h=>by
  cases d with
  |bl b=>
   simp only [JP,lH] at h;obtain ⟨c,e,rfl⟩:=h;rw [JO e];rfl
  |_=>cases h
def kF (bs:List Bool):JP (bs.map D.bl)=some bs:=by
 induction bs with
 |nil=>rfl
 |cons b r a=>simp [JP,a]
def eZ:List D->ao D
 | [.ag a]=>match JP a with
  |some bs=> .ok (.bl (bs.all id))
  |none=> .aj
 |_=> .aj
theorem yr: ∀ {bs:List Bool} {a:List V},ai K A H a (bs.map D.bl)->a=bs.map V.bl
 | [],_,.nil=>rfl
 |b::bs,_,.cons h t=>by rw [h.oK,yr t];rfl
theorem yn: ∀ {bs:List Bool} {a:List Value},aE (bs.map V.bl) a->a=bs.map iT
 | [],_,.nil=>rfl
 |b::bs,_,.cons h t=>by
  rw [yn t];have:_=iT b:=h;rw [this];rfl
def xj (y:X.bG=true):bf X (.builtin "all") (λt H Q=> ∃(p:Addr) (bs:List Bool),t=[.ref p]/\dg X.K H p (bs.map V.bl)/\Q (.bl (bs.all id)) H):=by
 rintro w s Z H t us Q I r ⟨p,bs,B,E,q⟩;subst B;obtain ⟨u,rfl,J⟩:=QC r;cases J;obtain ⟨L,N,h,hz⟩:=I.list E;have c:=yn N;subst c;refine call_all_walk (pf h.isList ?_)
 have j:p≠s.heap.objs.size:=by
   obtain ⟨o,n,e,_⟩:=h;exact dN (bX e)
 refine ⟨s.heap.objs.size,_,_,_,_,_,λi=>(bs[i]?).getD true,rfl,Walks.list (show X.A.in1.handled=none from I.ok.hd y) s.heap.objs.size p j (bs.map iT).toArray,⟨⟨_,ej _ rfl,rfl,rfl⟩,h.isList.at λo e=>cu _ e⟩,?_,λh' tk O=>?_⟩
 . intro i v s' Q' E' U k;have a:(bs.map iT)[i]?=some v:=by simpa using U
   rw [fB] at a
   cases e:bs[i]? with
   |none=>rw [e] at a;cases a
   |some b=>
    rw [e] at a;cases a;dsimp only at k;rw [e] at k;exact m7 k
 . have Y:(bs.map iT).toArray.size=bs.length:=by simp
   have e:((fu (bs.map iT).toArray.size).all λi=>(bs[i]?).getD true)=bs.all id:=by
    rw [Y,sJ,eD,eD]
    constructor
    . intro l b m;obtain ⟨i,g,rfl⟩:=List.mem_iff_getElem.mp m;have:=l i (fx.mpr g);rw [dn g] at this;exact this
    . intro l i g;have d:=fx.mp g;rw [dn d];exact l _ (gD d)
   rw [e];refine ⟨.bl _,H,?_,rfl,q⟩
   exact I.kept λb o e=>O b o (by
    intro z;have m:b=s.heap.objs.size:=by simpa using z
    exact absurd (bX e) (by rw [m];exact lC _)) (cu _ e)
def Z7:VZ K (λc H Q=> ∃(p:Addr) (bs:List Bool),c=[.ref p]/\dg K H p (bs.map V.bl)/\Q (.bl (bs.all id)) H) eZ:=by
 intro c H j d Q r e q;unfold eZ at e
 split at e
 . split at e
   . rename_i bs a;cases e;obtain ⟨v,rfl,h⟩:=r.one;obtain ⟨p,k,rfl,i,_,g⟩:=h.c7;rw [JO a] at g;have:=yr g;subst this;exact ⟨p,bs,rfl,.of i,q _ (gB _)⟩
   . cases e
 . cases e
end
end M
namespace M
open PySem PySem.Spec L2
open PyProof.Rows hiding St
open PySem.SeqAt (EqAt RcAt RcNeAt)
mutual
theorem D.ind {P:D->Prop} (h0:P .aO) (h1: ∀b,P (.bl b)) (h2: ∀i,P (.int i)) (h3: ∀x,P (.str x)) (h4: ∀ds,(∀d∈ds,P d)->P (.ah ds)) (h5: ∀ds,(∀d∈ds,P d)->P (.ag ds))
  (h6: ∀ds,(∀d∈ds,P d)->P (.aU ds)) (h7:(∀ks ds,(∀d∈ds,P d)->P (.cv ks ds))/\(∀ks ds,(∀d∈ds,P d)->P (.cO ks ds))/\(∀c,P (.di c))/\(∀ks ds,(∀d∈ds,P d)->P (.eW ks ds))/\(∀ks ds,(∀d∈ds,P d)->P (.dz ks ds))/\(∀c ns ds,(∀d∈ds,P d)->P (.obj c ns ds))/\(∀B Φ,P (.mem B Φ))/\ ∀ds,P (.cr ds)): ∀d,P d
 | .aO=>h0
 | .bl b=>h1 b
 | .int i=>h2 i
 | .str x=>h3 x
 | .ah ds=>h4 ds (D.gm h0 h1 h2 h3 h4 h5 h6 h7 ds)
 | .ag ds=>h5 ds (D.gm h0 h1 h2 h3 h4 h5 h6 h7 ds)
 | .aU ds=>h6 ds (D.gm h0 h1 h2 h3 h4 h5 h6 h7 ds)
 | .cv ks ds=>h7.1 ks ds (D.gm h0 h1 h2 h3 h4 h5 h6 h7 ds)
 | .cO ks ds=>h7.2.1 ks ds (D.gm h0 h1 h2 h3 h4 h5 h6 h7 ds)
 | .di c=>h7.2.2.1 c
 | .eW ks ds=>h7.2.2.2.1 ks ds (D.gm h0 h1 h2 h3 h4 h5 h6 h7 ds)
 | .dz ks ds=>h7.2.2.2.2.1 ks ds (D.gm h0 h1 h2 h3 h4 h5 h6 h7 ds)
 | .obj c ns ds=>h7.2.2.2.2.2.1 c ns ds (D.gm h0 h1 h2 h3 h4 h5 h6 h7 ds)
 | .mem B Φ=>h7.2.2.2.2.2.2.1 B Φ
 | .cr ds=>h7.2.2.2.2.2.2.2 ds
theorem D.gm {P:D->Prop} (g:P .aO) (j: ∀b,P (.bl b)) (k: ∀i,P (.int i)) (l: ∀x,P (.str x)) (m: ∀a,(∀d∈a,P d)->P (.ah a)) (n: ∀a,(∀d∈a,P d)->P (.ag a))
  (o: ∀a,(∀d∈a,P d)->P (.aU a)) (t:(∀e a,(∀d∈a,P d)->P (.cv e a))/\(∀e a,(∀d∈a,P d)->P (.cO e a))/\(∀c,P (.di c))/\(∀e a,(∀d∈a,P d)->P (.eW e a))/\(∀e a,(∀d∈a,P d)->P (.dz e a))/\(∀c ns a,(∀d∈a,P d)->P (.obj c ns a))/\(∀B u,P (.mem B u))/\ ∀a,P (.cr a)): ∀a:List D,∀d∈a,P d
 | [],_,h=>by cases h
 |x::r,d,h=>by
  have p:=D.ind g j k l m n o t x;have q:=D.gm g j k l m n o t r;rcases dP.mp h with z|z
  . rw [z];exact p
  . exact q d z
end
mutual
def D.b9:D->Nat
 | .ah a=>D.cC a+1
 | .ag a=>D.cC a+1
 |_=>0
def D.cC:List D->Nat
 | []=>0
 |d::a=>max (D.b9 d) (D.cC a)
end
mutual
def D.cg:D->Bool
 | .aU _=>false
 | .cv _ _=>false
 | .cO _ _=>false
 | .di _=>false
 | .eW _ _=>false
 | .dz _ _=>false
 | .obj _ _ _=>false
 | .mem _ _=>false
 | .cr _=>false
 | .ah a=>D.bY a
 | .ag a=>D.bY a
 |_=>true
def D.bY:List D->Bool
 | []=>true
 |d::a=>D.cg d&&D.bY a
end
mutual
def da:D->D->Bool
 | .aO,.aO=>true
 | .bl a,.bl b=>a==b
 | .bl a,.int j=>(if a then 1 else 0)==j
 | .int i,.bl b=>i==(if b then 1 else 0)
 | .int i,.int j=>i==j
 | .str x,.str y=>x==y
 | .ah a,.ah b=>cy a b
 | .ag a,.ag b=>cy a b
 |_,_=>false
def cy:List D->List D->Bool
 | [],[]=>true
 |a::c,b::bs=>da a b&&cy c bs
 |_,_=>false
end
def Ho:(∀i,D.cg (.int i)=true)/\(∀x,D.cg (.str x)=true)/\(∀a,D.cg (.ah a)=D.bY a)/\(∀a,D.cg (.ag a)=D.bY a):=by and_intros<;>intros<;>rfl
def WU:(∀i d,da (.int i) (.int d)=(i==d))/\(∀i e,da (.int i) (.str e)=false)/\(∀i a,da (.int i) (.ah a)=false)/\(∀x d,da (.str x) (.int d)=false)/\(∀x e,da (.str x) (.str e)=(x==e))/\(∀x a,da (.str x) (.ah a)=false)/\(∀c d,da (.ah c) (.int d)=false)/\(∀c e,da (.ah c) (.str e)=false)/\(∀c a,da (.ah c) (.ah a)=cy c a)/\(∀c a,da (.ag c) (.ag a)=cy c a):=by and_intros<;>intros<;>rfl
theorem xw: ∀ {a:List D} {d:D},d∈a->D.b9 d<=D.cC a
 |x::r,d,h=>by
  simp only [D.cC];rcases dP.mp h with rfl|h
  . omega
  . have:=xw h;omega
theorem y4: ∀ {c:List D} {d:D},D.bY c=true->d∈c->D.cg d=true
 |x::r,d,a,h=>by
  simp only [D.bY,fw] at a;rcases dP.mp h with rfl|h
  . exact a.1
  . exact y4 a.2 h
theorem wZ: ∀ {a:List D},(∀d∈a,D.cg d=true->da d d=true)->D.bY a=true->cy a a=true
 | [],_,_=>by simp [cy]
 |d::a,h,c=>by
  simp only [D.bY,fw] at c;simp only [cy,fw];exact ⟨h d dB c.1,wZ (λx e=>h x (dC _ e)) c.2⟩
def y7 (d:D):D.cg d=true->da d d=true:=by
 refine D.ind (P:=λd=>D.cg d=true->da d d=true) ?_ ?_ ?_ ?_ ?_ ?_ ?_ ?_ d
 . intro _;rfl
 . intro b _;exact beq_self_eq_true b
 . intro i _;exact beq_self_eq_true i
 . intro x _;exact beq_self_eq_true x
 . intro g e a;exact wZ e a
 . intro g e a;exact wZ e a
 . intro g e a;cases a
 . exact ⟨(by intro h g e a;cases a),(by intro h g e a;cases a),(by intro c a;cases a),(by intro h g e a;cases a),(by intro h g e a;cases a),(by intro c j g e a;cases a),(by intro B k a;cases a),(by intro g a;cases a)⟩
section
variable {K:ay} {H:Hp}
def ai.ig (h: ∀d∈e,∀(A l:Xc) v i,D.cg d=true->D.cg i=true->aA K A H v d->aA K l H v i->d=i) (j:D.bY e=true) (a:D.bY c=true) (r:ai K A H k e) (g:ai K l H k c):e=c:=by
 induction k generalizing e c with
 |nil=>cases r.gk;cases g.gk;rfl
 |cons v k m=>
  obtain ⟨_,_,rfl,r,t⟩:=r.c6;obtain ⟨_,_,rfl,g,n⟩:=g.c6;simp only [D.bY,fw] at j a;rw [h _ dB _ _ _ _ j.1 a.1 r g,m (λd hd=>h d (dC _ hd)) j.2 a.2 t n]
def Qv (h:eY K A H v d/\D.cg d=true):(v= .aO/\d= .aO)\/(∃b,v= .bl b/\d= .bl b)\/(∃b,v= .int b/\d= .int b)\/(∃b,v= .str b/\d= .str b)\/(∃a g i,v= .ref a/\d= .ah i/\H a=some (.ah g)/\ai K A H g i)\/(∃a g i,v= .ref a/\d= .ag i/\H a=some (.ag g)/\ai K (λc=>A c/\c≠a) H g i):=by
 obtain ⟨r,h⟩:=h
 cases d with
 |aO=>exact .inl ⟨r,rfl⟩
 |bl b=>exact .inr (.inl ⟨_,r,rfl⟩)
 |int b=>exact .inr (.inr (.inl ⟨_,r,rfl⟩))
 |str b=>exact .inr (.inr (.inr (.inl ⟨_,r.1,rfl⟩)))
 |ah i=>
  obtain ⟨a,g,r,e,j⟩:=r;exact .inr (.inr (.inr (.inr (.inl ⟨_,_,_,r,rfl,e,j⟩))))
 |ag i=>
  obtain ⟨a,g,r,e,_,j⟩:=r;exact .inr (.inr (.inr (.inr (.inr ⟨_,_,_,r,rfl,e,j⟩))))
 |_=>cases h
def uW (h:eY K A H .aO d/\D.cg d=true): .aO=d:=by
 rcases Qv h with ⟨_,e⟩| ⟨_,z,_⟩| ⟨_,z,_⟩| ⟨_,z,_⟩| ⟨_,_,_,z,_⟩| ⟨_,_,_,z,_⟩
 . exact e.symm
 all_goals cases z
def Hq (h:eY K A H (.bl b) d/\D.cg d=true): .bl b=d:=by
 rcases Qv h with ⟨z,_⟩| ⟨_,z,e⟩| ⟨_,z,_⟩| ⟨_,z,_⟩| ⟨_,_,_,z,_⟩| ⟨_,_,_,z,_⟩<;>cases z;exact e.symm
def uY (h:eY K A H (.int b) d/\D.cg d=true): .int b=d:=by
 rcases Qv h with ⟨z,_⟩| ⟨_,z,_⟩| ⟨_,z,e⟩| ⟨_,z,_⟩| ⟨_,_,_,z,_⟩| ⟨_,_,_,z,_⟩<;>cases z;exact e.symm
def uV (h:eY K A H (.str b) d/\D.cg d=true): .str b=d:=by
 rcases Qv h with ⟨z,_⟩| ⟨_,z,_⟩| ⟨_,z,_⟩| ⟨_,z,e⟩| ⟨_,_,_,z,_⟩| ⟨_,_,_,z,_⟩<;>cases z;exact e.symm
def uU (h:eY K A H (.ref a) d/\D.cg d=true) (g:H a=some (.ah i)): ∃c,d= .ah c/\ai K A H i c:=by
 rcases Qv h with ⟨z,_⟩| ⟨_,z,_⟩| ⟨_,z,_⟩| ⟨_,z,_⟩| ⟨_,_,_,z,e,q,r⟩| ⟨_,_,_,z,e,q,r⟩<;>cases z<;>rw [g] at q<;>cases q;exact ⟨_,e,r⟩
def uX (h:eY K A H (.ref a) d/\D.cg d=true) (i:H a=some (.ag j)): ∃g,d= .ag g/\ai K (λc=>A c/\c≠a) H j g:=by
 rcases Qv h with ⟨z,_⟩| ⟨_,z,_⟩| ⟨_,z,_⟩| ⟨_,z,_⟩| ⟨_,_,_,z,e,q,r⟩| ⟨_,_,_,z,e,q,r⟩<;>cases z<;>rw [i] at q<;>cases q;exact ⟨_,e,r⟩
def aA.inj (d:D): ∀(A j:Xc) v g,D.cg d=true->D.cg g=true->aA K A H v d->aA K j H v g->d=g:=by
 have q: ∀ {v A g y},aA K A H v g->D.cg g=true->v=y->eY K A H y g/\D.cg g=true:=λr h e=>⟨e▸r.f,h⟩
 refine D.ind (P:=λd=> ∀(A j:Xc) v g,D.cg d=true->D.cg g=true->aA K A H v d->aA K j H v g->d=g) ?_ ?_ ?_ ?_ ?_ ?_ ?_ ?_ d
 . intro A j v g _ h r k;exact uW (q k h r.f)
 . intro b A j v g _ h r k;exact Hq (q k h r.f)
 . intro b A j v g _ h r k;exact uY (q k h r.f)
 . intro b A j v g _ h r k;exact uV (q k h r.f.1)
 . intro m n A j v g i l r k;obtain ⟨a,z,rfl,t,u⟩:=r.cm;have o:D.bY m=true:=i;obtain ⟨E,rfl,p⟩:=uU (q k l rfl) t;rw [ai.ig n o l u p]
 . intro m n A j v g i l r k;obtain ⟨a,z,rfl,t,_,u⟩:=r.c7;have o:D.bY m=true:=i;obtain ⟨E,rfl,p⟩:=uX (q k l rfl) t;rw [ai.ig n o l u p]
 . intro m n A j v g i;cases i
 . exact ⟨(by intro w m n A j v g i;cases i),(by intro w m n A j v g i;cases i),(by intro c A j v g i;cases i),(by intro w m n A j v g i;cases i),(by intro w m n A j v g i;cases i),(by intro c ns m n A j v g i;cases i),(by intro B I A j v g i;cases i),(by intro m A j v g i;cases i)⟩
end
def Vv (a b:List D) (j:Nat):Bool:=match a[j]?,b[j]? with
 |some x,some y=>da x y
 |_,_=>true
theorem xu: ∀(a b:List D),a.length=b.length->cy a b=(fu a.length).all (Vv a b)
 | [],[],_=>by simp [cy]
 |x::a,y::b,h=>by
  have c:a.length=b.length:=by simpa using h
  rw [fP,List.range_succ_eq_map,rW,List.all_map];simp only [cy];rw [xu a b c];congr 1
theorem yd: ∀(a b:List D),a.length≠b.length->cy a b=false
 | [],[],h=>absurd rfl h
 | [],y::b,_=>by simp [cy]
 |x::a,[],_=>by simp [cy]
 |x::a,y::b,h=>by
  simp only [cy];rw [yd a b (by simpa using h),iQ]
def XI (a b:List D):cy a b=((fu (min a.length b.length)).all (Vv a b)&&a.length==b.length):=by
 by_cases h:a.length=b.length
 . rw [xu a b h,h];simp
 . rw [yd a b h];simp [h]
section
variable {X:Cx} {Z:List (Addr×Obj)} {Y:L2.St} {H:Hp} {s:aB}
inductive Cm (X:Cx) (H:Hp) (s:aB):Value->D->Prop where
 |aO:Cm X H s .none .aO
 |bl (b:Bool):Cm X H s (.bool b) (.bl b)
 |int (i:Int) (t:Tok):Cm X H s (.int i t) (.int i)
 |str (x:Str) (t:Tok):Cm X H s (.str x t) (.str x)
 |ah {a:Addr} {xs:List V} {oP:List Value} {ds:List D}:H a=some (.ah xs)->s.heap.IsTuple a oP.toArray->aE xs oP->ai X.K Any H xs ds->Cm X H s (.ref a) (.ah ds)
 |ag {a:Addr} {xs:List V} {oP:List Value} {ds:List D}:H a=some (.ag xs)->s.heap.IsList a oP.toArray->aE xs oP->ai X.K Any H xs ds->Cm X H s (.ref a) (.ag ds)
def yg (I:aq X Z Y H s) (r:aA X.K Any H v d) (a:aG v u) (j:D.cg d=true):Cm X H s u d:=by
 have r:=r.f
 cases d with
 |aO=>cases r;cases a;exact .aO
 |bl b=>cases r;cases a;exact .bl b
 |int i=>cases r;obtain ⟨t,rfl⟩:=a;exact .int i t
 |str x=>cases r.1;obtain ⟨t,rfl⟩:=a;exact .str x t
 |ah k=>
  obtain ⟨_,_,rfl,e,c⟩:=r;cases a;obtain ⟨g,h,p,l⟩:=I.tuple (.of e);exact .ah e p h c
 |ag k=>
  obtain ⟨_,_,rfl,e,_,c⟩:=r;cases a;obtain ⟨g,h,p,l⟩:=I.list (.of e);exact .ag e p.isList h c.low
 |_=>cases j
def kf {A:bV} (n:ai X.K Any H w a) (o:ai X.K Any H y b) (p:aE w g) (vb:aE y c)
  (z: ∀d∈a,∀(v i:V) (u h:Value) (l:D),aA X.K Any H v d->aG v u->aA X.K Any H i l->aG i h->D.cg d=true->D.cg l=true->EqAt A.in1 s u h (da d l)) (B:D.bY a=true) (E:D.bY b=true):
  ∀j (r:j<g.toArray.size) (t:j<c.toArray.size),EqAt A.in1 s g.toArray[j] c.toArray[j] (Vv a b j):=by
 intro j r t;have l1:=p.length;have l2:=vb.length;have l3:=n.length;have l4:=o.length;have k:j<a.length:=by simp at r;omega
 have m:j<b.length:=by simp at t;omega
 obtain ⟨v,e1,I⟩:=n.get (dn k);obtain ⟨i,e2,J⟩:=o.get (dn m);obtain ⟨u,L,N⟩:=p.get e1;obtain ⟨h,O,Q⟩:=vb.get e2
 have U:g.toArray[j]=u:=by
  have:=fZ.mp L;obtain ⟨_,q⟩:=this;simpa using q
 have g2:c.toArray[j]=h:=by
  have:=fZ.mp O;obtain ⟨_,q⟩:=this;simpa using q
 rw [U,g2];have e:Vv a b j=da a[j] b[j]:=by unfold Vv;rw [dn k,dn m]
 rw [e];exact z _ (gD k) v i u h _ I N J Q (y4 B (gD k)) (y4 E (gD m))
def Zg (I:aq X Z Y H s) (d:D): ∀(A:bV) (v l:V) (u m:Value) (k:D),A.units+d.b9<cLine->aA X.K Any H v d->aG v u->aA X.K Any H l k->aG l m->D.cg d=true->D.cg k=true->EqAt A s u m (da d k):=by
 refine D.ind (P:=λd=> ∀(A:bV) (v l:V) (u m:Value) (k:D),A.units+d.b9<cLine->aA X.K Any H v d->aG v u->aA X.K Any H l k->aG l m->D.cg d=true->D.cg k=true->EqAt A s u m (da d k)) ?_ ?_ ?_ ?_ ?_ ?_ ?_ ?_ d
 . intro A v l u m k n r o w g h j;cases yg I r o h;have a:A.units<cLine:=by simp only [D.b9] at n;omega
   cases yg I w g j
   . exact EqAt.same _
   . exact EqAt.none_bool _
   . exact EqAt.none_int _ _
   . exact EqAt.none_str _ _
   . exact EqAt.none_tuple (by assumption) a
   . exact EqAt.none_list (by assumption) a
 . intro b A v l u m k n r o w g h j;cases yg I r o h;have a:A.units<cLine:=by simp only [D.b9] at n;omega
   cases yg I w g j
   . exact EqAt.bool_none _
   . exact EqAt.bool_bool _ _
   . exact EqAt.bool_int _ _ _
   . exact EqAt.bool_str _ _ _
   . exact EqAt.bool_tuple _ (by assumption) a
   . exact EqAt.bool_list _ (by assumption) a
 . intro i A v l u m k n r o w g h j;cases yg I r o h;have a:A.units<cLine:=by simp only [D.b9] at n;omega
   cases yg I w g j
   . exact EqAt.int_none _ _
   . exact EqAt.int_bool _ _ _
   . exact EqAt.int_int _ _ _ _
   . exact EqAt.int_str _ _ _ _
   . exact EqAt.int_tuple _ _ (by assumption) a
   . exact EqAt.int_list _ _ (by assumption) a
 . intro x A v l u m k n r o w g h j;cases yg I r o h;have a:A.units<cLine:=by simp only [D.b9] at n;omega
   cases yg I w g j
   . exact EqAt.str_none _ _
   . exact EqAt.str_bool _ _ _
   . exact EqAt.str_int _ _ _ _
   . exact EqAt.str_str _ _ _ _
   . exact EqAt.str_tuple _ _ (by assumption) a
   . exact EqAt.str_list _ _ (by assumption) a
 . intro L Q A v l u m k n r o w g h j;have a:A.units<cLine:=by simp only [D.b9] at n;omega
   have c1:=yg I r o h;have c2:=yg I w g j
   cases c1 with
   |ah e p rv rs=>
     cases c2 with
     |aO=>exact EqAt.tuple_none p a
     |bl b=>exact EqAt.tuple_bool _ p a
     |int i t=>exact EqAt.tuple_int _ _ p a
     |str x t=>exact EqAt.tuple_str _ _ p a
     |ag e2 U E y=>exact EqAt.tuple_list p U a
     | @ah a2 Ck N J e2 U E y=>
      rename_i a1 Cn O
      by_cases z:a1=a2
      . subst z;have ed:=aA.inj _ Any Any _ _ h j (aA.ah e rs) (aA.ah e2 y);rw [<-ed,y7 _ h];exact EqAt.same _
      . have q:=RcAt.tuples p U a (kf rs y rv E (λd hd v l u m k g1 g2 g3 g4 g5 g6=>Q d hd A.in1 v l u m k (by
          have:=xw hd;simp only [D.b9] at n;show A.units+1+d.b9<cLine
          omega) g1 g2 g3 g4 g5 g6) h j)
        have n1:O.toArray.size=L.length:=by rw [cA,<-rv.length,rs.length]
        have n2:N.toArray.size=J.length:=by rw [cA,<-E.length,y.length]
        rw [n1,n2,<-XI] at q;exact Ac z q
 . intro L Q A v l u m k n r o w g h j;have a:A.units<cLine:=by simp only [D.b9] at n;omega
   have c1:=yg I r o h;have c2:=yg I w g j
   cases c1 with
   |ag e p rv rs=>
     cases c2 with
     |aO=>exact EqAt.list_none p a
     |bl b=>exact EqAt.list_bool _ p a
     |int i t=>exact EqAt.list_int _ _ p a
     |str x t=>exact EqAt.list_str _ _ p a
     |ah e2 U E y=>exact EqAt.list_tuple p U a
     | @ag a2 Ck N J e2 U E y=>
      rename_i a1 Cn O;have n1:O.toArray.size=L.length:=by rw [cA,<-rv.length,rs.length]
      have n2:N.toArray.size=J.length:=by rw [cA,<-E.length,y.length]
      by_cases z:a1=a2
      . subst z
        have ed:D.ag L=D.ag J:=by
          rw [e] at e2;cases e2;rw [ai.ig (λd _ A A' v k=>aA.inj d A A' v k) h j rs y]
        rw [<-ed,y7 _ h];exact EqAt.same _
      . simp only [WU]
        by_cases hl:L.length=J.length
        . have q:=RcAt.lists p U (by rw [n1,n2];exact hl) a (kf rs y rv E (λd hd v l u m k g1 g2 g3 g4 g5 g6=>Q d hd A.in1 v l u m k (by
           have:=xw hd;simp only [D.b9] at n;show A.units+1+d.b9<cLine
           omega) g1 g2 g3 g4 g5 g6) h j)
          rw [n1,<-xu L J hl] at q;exact Ac z q
        . rw [yd L J hl];exact Ac z (Co p U (by rw [n1,n2];simp [hl]) a)
 . intro L Q A v l u m k n r o w g h;cases h
 . exact ⟨(by intro ks L Q A v l u m k n r o w g h;cases h),(by intro ks L Q A v l u m k n r o w g h;cases h),(by intro c A v l u m k n r o w g h;cases h),(by intro ks L Q A v l u m k n r o w g h;cases h),(by intro ks L Q A v l u m k n r o w g h;cases h),(by intro c ns L Q A v l u m k n r o w g h;cases h),(by intro B Φ A v l u m k n r o w g h;cases h),(by intro L A v l u m k n r o w g h;cases h)⟩
def Xf (I:aq X Z Y H s) {A:bV} (hu:A.units+d.b9<cLine) (r:aA X.K Any H v d) (ru:aG v u) (r':aA X.K Any H J m) (Q:aG J w) (U:D.cg d=true) (n:D.cg m=true):
  RcAt A s u w (da d m)/\RcNeAt A s u w (!da d m):=by
 have a:A.units<cLine:=by omega
 have c1:=yg I r ru U;have y:=yg I r' Q n
 cases c1 with
 |aO=>
  cases y
  . exact ⟨RcAt.none_none,RcNeAt.none_none⟩
  . exact ⟨RcAt.none_bool _,RcNeAt.none_bool _⟩
  . exact ⟨RcAt.none_int _ _,RcNeAt.none_int _ _⟩
  . exact ⟨RcAt.none_str _ _,RcNeAt.none_str _ _⟩
  . exact ⟨RcAt.none_tuple (by assumption) a,RcNeAt.none_tuple (by assumption) a⟩
  . exact ⟨RcAt.none_list (by assumption) a,RcNeAt.none_list (by assumption) a⟩
 |bl b=>
  cases y
  . exact ⟨RcAt.bool_none _,RcNeAt.bool_none _⟩
  . exact ⟨RcAt.bool_bool _ _,RcNeAt.bool_bool _ _⟩
  . exact ⟨RcAt.bool_int _ _ _,RcNeAt.bool_int _ _ _⟩
  . exact ⟨RcAt.bool_str _ _ _,RcNeAt.bool_str _ _ _⟩
  . exact ⟨RcAt.bool_tuple _ (by assumption) a,RcNeAt.bool_tuple _ (by assumption) a⟩
  . exact ⟨RcAt.bool_list _ (by assumption) a,RcNeAt.bool_list _ (by assumption) a⟩
 |int i t=>
  cases y
  . exact ⟨RcAt.int_none _ _,RcNeAt.int_none _ _⟩
  . exact ⟨RcAt.int_bool _ _ _,RcNeAt.int_bool _ _ _⟩
  . exact ⟨RcAt.int_int _ _ _ _,RcNeAt.int_int _ _ _ _⟩
  . exact ⟨RcAt.int_str _ _ _ _,RcNeAt.int_str _ _ _ _⟩
  . exact ⟨RcAt.int_tuple _ _ (by assumption) a,RcNeAt.int_tuple _ _ (by assumption) a⟩
  . exact ⟨RcAt.int_list _ _ (by assumption) a,RcNeAt.int_list _ _ (by assumption) a⟩
 |str x t=>
  cases y
  . exact ⟨RcAt.str_none _ _,RcNeAt.str_none _ _⟩
  . exact ⟨RcAt.str_bool _ _ _,RcNeAt.str_bool _ _ _⟩
  . exact ⟨RcAt.str_int _ _ _ _,RcNeAt.str_int _ _ _ _⟩
  . exact ⟨RcAt.str_str _ _ _ _,RcNeAt.str_str _ _ _ _⟩
  . exact ⟨RcAt.str_tuple _ _ (by assumption) a,RcNeAt.str_tuple _ _ (by assumption) a⟩
  . exact ⟨RcAt.str_list _ _ (by assumption) a,RcNeAt.str_list _ _ (by assumption) a⟩
 | @ah a1 Cn k z e p L N=>
  cases y with
  |aO=>exact ⟨RcAt.tuple_none p a,RcNeAt.tuple_none p a⟩
  |bl b=>exact ⟨RcAt.tuple_bool _ p a,RcNeAt.tuple_bool _ p a⟩
  |int i t=>exact ⟨RcAt.tuple_int _ _ p a,RcNeAt.tuple_int _ _ p a⟩
  |str x t=>exact ⟨RcAt.tuple_str _ _ p a,RcNeAt.tuple_str _ _ p a⟩
  |ag e2 h c g=>exact ⟨RcAt.tuple_list p h a,RcNeAt.tuple_list p h a⟩
  | @ah a2 Ck l j e2 h c g=>
    have o:k.toArray.size=z.length:=by rw [cA,<-L.length,N.length]
    have B:l.toArray.size=j.length:=by rw [cA,<-c.length,g.length]
    have el:=kf N g L c (λd hd v J u w m g1 g2 g3 g4 g5 g6=>Zg I d A.in1 v J u w m (by
      have:=xw hd;simp only [D.b9] at hu;show A.units+1+d.b9<cLine
      omega) g1 g2 g3 g4 g5 g6) U n
    have q:=RcAt.tuples p h a el;have O:=RcNeAt.tuples p h a el;rw [o,B,<-XI] at q O;exact ⟨q,O⟩
 | @ag a1 Cn k z e p L N=>
  cases y with
  |aO=>exact ⟨RcAt.list_none p a,RcNeAt.list_none p a⟩
  |bl b=>exact ⟨RcAt.list_bool _ p a,RcNeAt.list_bool _ p a⟩
  |int i t=>exact ⟨RcAt.list_int _ _ p a,RcNeAt.list_int _ _ p a⟩
  |str x t=>exact ⟨RcAt.list_str _ _ p a,RcNeAt.list_str _ _ p a⟩
  |ah e2 h c g=>exact ⟨RcAt.list_tuple p h a,RcNeAt.list_tuple p h a⟩
  | @ag a2 Ck l j e2 h c g=>
    have o:k.toArray.size=z.length:=by rw [cA,<-L.length,N.length]
    have B:l.toArray.size=j.length:=by rw [cA,<-c.length,g.length]
    simp only [WU]
    by_cases E:z.length=j.length
    . have el:=kf N g L c (λd hd v J u w m g1 g2 g3 g4 g5 g6=>Zg I d A.in1 v J u w m (by
       have:=xw hd;simp only [D.b9] at hu;show A.units+1+d.b9<cLine
       omega) g1 g2 g3 g4 g5 g6) U n
      have q:=RcAt.lists p h (by rw [o,B];exact E) a el;have O:=RcNeAt.lists p h (by rw [o,B];exact E) a el;rw [o,<-xu z j E] at q O;exact ⟨q,O⟩
    . rw [yd z j E];exact ⟨Co p h (by rw [o,B];simp [E]) a,RcNeAt.lists_lengths p h (by rw [o,B];simp [E]) a⟩
end
section
variable {X:Cx}
def Zv:D->D->Bool
 | .ag a,.ag b=>a.length !=b.length
 |_,_=>false
def Zt (h:Zv a b=true):da a b=false:=by
 unfold Zv at h
 split at h
 . exact yd _ _ (by simpa using h)
 . cases h
def r8 (a b:D):Prop:=(D.cg a=true/\D.cg b=true/\a.b9<=190)\/Zv a b=true
instance (a b:D):Decidable (r8 a b):=inferInstanceAs (Decidable (_\/_))
def nZ (K:ay) (neg:Bool):R2:=λx y H Q=> ∃a b,aA K Any H x a/\aA K Any H y b/\r8 a b/\Q (.bl (if neg then !da a b else da a b)) H
def Zu {t:L2.St} (I:aq X m t H s) (n:A.units<cLine) (r:aA X.K Any H v d) (w:aG v u) (y:aA X.K Any H z B) (g:aG z o) (h:Zv d B=true):
   RcAt A s u o false/\RcNeAt A s u o true:=by
 unfold Zv at h
 split at h
 . obtain ⟨a,O,rfl,E,_,J⟩:=r.c7;obtain ⟨Q,L,rfl,i,_,j⟩:=y.c7;cases w;cases g;obtain ⟨k,N,p,_⟩:=I.list (.of E);obtain ⟨c,l,q,_⟩:=I.list (.of i)
   have e:(k.toArray.size !=c.toArray.size)=true:=by
    rw [cA,cA,<-N.length,<-l.length,J.length,j.length];exact h
   exact ⟨Co p.isList q.isList e n,RcNeAt.lists_lengths p.isList q.isList e n⟩
 . cases h
def wO (l:X.A.units+200<cLine):b7 X (f7 .Eq) (nZ X.K false):=by
 rintro c s m H x y v u Q I d e ⟨a,b,g,h,hc,q⟩;rcases hc with ⟨i,j,hd⟩|hc
 . exact (Xf I (by omega) g d h e i j).1 X.prog X.w X.xe _ ⟨.bl _,H,I,rfl,q⟩
 . have k:Q (.bl false) H:=by have:=Zt hc;simpa [this] using q
   exact (Zu I (by omega) g d h e hc).1 X.prog X.w X.xe _ ⟨.bl _,H,I,rfl,k⟩
def xE (l:X.A.units+200<cLine):b7 X (f7 .NotEq) (nZ X.K true):=by
 rintro c s m H x y v u Q I d e ⟨a,b,g,h,hc,q⟩;rcases hc with ⟨i,j,hd⟩|hc
 . exact (Xf I (by omega) g d h e i j).2 X.prog X.w X.xe _ ⟨.bl _,H,I,rfl,q⟩
 . have k:Q (.bl true) H:=by have:=Zt hc;simpa [this] using q
   exact (Zu I (by omega) g d h e hc).2 X.prog X.w X.xe _ ⟨.bl _,H,I,rfl,k⟩
def eS (a b:D):ao D:=aS (r8 a b) (.ok (.bl (da a b)))
def ei (a b:D):ao D:=aS (r8 a b) (.ok (.bl (!da a b)))
def Jq {K:ay}:eH K (nZ K false) eS:=λx y H a b d Q c g e q=>by
 obtain ⟨h,e2⟩:=ju e;cases e2;exact ⟨a,b,c,g,h,q _ (gB _)⟩
def J5 {K:ay}:eH K (nZ K true) ei:=λx y H a b d Q c g e q=>by
 obtain ⟨h,e2⟩:=ju e;cases e2;exact ⟨a,b,c,g,h,q _ (gB _)⟩
def aH.bQ (r:aH k A):A.units+200<cLine:=by have:=r.un;omega
end
end M
namespace PySem
open Builtin
def qZ:fillsNumberSlot (.type "tuple") "mul" =pure false:=
 fillsNumberSlot_seq tR.lookup (by decide+kernel) F.slot_tuple_rmul.lookup (by decide+kernel)
def wn:seqRepeat? (.type "tuple")=pure (some (.builtin "tuple.__mul__")):=by
 unfold seqRepeat?;rw [seqSlot_of (name:= "__mul__") tR.lookup (by decide+kernel),seqSlot_of (name:= "__rmul__") F.slot_tuple_rmul.lookup (by decide+kernel)];rfl
def zA (a:Int) (t:Tok) (l:Addr) (c:Array Value) (n:Nat) (i:Option Addr) (j:Array (Option Value)):
  Meets (lN.«int.__rmul__» ⟨[.int a t,.ref l],[]⟩) (λ_ R s=>s.heap.get? l=some {cls:= .type "tuple",dict:=i,data:= .seq c n,slots:=j}/\R (.ok (.ret Value.notImplemented)) s):=
 .of_wp λe w A R s h=>by obtain ⟨k,g,d,m,os⟩:=s;obtain ⟨o,h⟩:=h;wp_walk;exact ⟨_,rfl,h⟩
end PySem
namespace M
open PySem PySem.Spec L2
open PyProof.Rows hiding St
section
variable {X:Cx} {K:ay}
def Ze {lo:Option Int} (c:IsTup s.heap t a) (k:s.heap.IsSliceOf l n o .none) (p:IsPart n lo) (q:IsPart o e)
  (hw:HT.bz a.size 0 lo=0/\HT.bz a.size a.size e=a.size) (h:Q (.ref t) s):wpAny (model m w) A (getItem (.ref t) (.ref l)) Q E s:=by
 obtain ⟨os,g,i,r⟩:=id k;have j:s.TypeIs (.ref l) "slice" :=⟨os,g,i⟩
 unfold getItem
 try with_reducible refine iY ?_
 first|refine ax (aM ?_)|skip
 refine ax (wpAny_sequenceKey c.typeIs (by decide) ?_)
 refine ax (AA c.typeIs py
  (te py c.typeIs entry_tuple_getitem ?_ (args_tuple_getitem _ _)))
 show wpAny _ _ (Ee (.ref t)>>=_) _ _ s;refine ax (BR c ?_);refine ax (rP j ?_);rw [if_pos (by decide)];refine ax (HT.cF k p q ?_)
 have d:(((HT.bz a.size 0 lo:Nat):Int)==0&&(1:Int)==1&&(HT.bz a.size a.size e-HT.bz a.size 0 lo)==a.size)=true:=by
  rw [hw.1,hw.2];simp
 show wpAny _ _ (if (((HT.bz a.size 0 lo:Nat):Int)==0&&(1:Int)==1&&(HT.bz a.size a.size e-HT.bz a.size 0 lo)==a.size)=true then _ else _) _ _ s;rw [if_pos d];unfold Builtin.Tuple.tupleIsExact;refine ax (ax (rP c.typeIs (aM ?_)));rw [if_pos (by decide)]
 first
  |exact ax (r9 (ax (aM (aM ⟨_,rfl,aM h⟩))))
  |exact ax (r9 (aM ⟨_,rfl,aM h⟩))
  |exact ax (r9 (ax (aM ⟨_,rfl,aM h⟩)))
def tU (K:ay):V->Option Int->Option Int->Hp->VK->Prop:=λx lo d H Q=> ∃a c,x= .ref a/\eI K H a c/\(HT.bz c.length 0 lo=0/\HT.bz c.length c.length d=c.length)/\Q (.ref a) H
def mh:nP X (tU X.K):=by
 rintro e s o H x v p t lo u w Q I h i j k ⟨a,l,m,n,hw,q⟩;subst m;cases h;obtain ⟨d,r,g,y⟩:=I.tuple n;have c:d.toArray.size=l.length:=by rw [cA];exact r.length.symm
 exact ⟨"tuple",_,py.lookup,g.typeIs,Ze g i j k (by rw [c];exact hw) ⟨.ref a,H,I,rfl,q⟩⟩
def gO (z:Str) (lo a:Option Int):Str:=
 if ((sd lo a 1 z.length).length==z.length)=true then z else ⟨((sd lo a 1 z.length).filterMap (z.cps[·]?)).toArray⟩
def XV (z:Str) (lo a:Option Int):(gO z lo a).length<=z.length:=by
 unfold gO
 split
 . exact a9 _
 . show ((sd lo a 1 z.length).filterMap (z.cps[·]?)).toArray.size<=z.length;rw [cA];exact dE (List.length_filterMap_le _ _) (PyProof.Rows.indices_len_le lo a z.length)
def tV:V->Option Int->Option Int->Hp->VK->Prop:=λx lo a H Q=> ∃z,x= .str z/\z.length<=aR/\Q (.str (gO z lo a)) H
def Kw (h:IsPart v o): ∃p:Option (Int×Tok),v=partValue p/\p.map (·.1)=o:=by
 cases h with
 |none=>exact ⟨none,rfl,rfl⟩
 |int i t=>exact ⟨some (i,t),rfl,rfl⟩
def Hr:nP X tV:=by
 rintro d s r H x v w y lo a B Q I h i j k ⟨z,m,n,q⟩;subst m;obtain ⟨t,rfl⟩:=h;obtain ⟨l,rfl,el⟩:=Kw j;obtain ⟨u,rfl,o⟩:=Kw k;refine ⟨"str",_,F.slot_str_getitem.lookup,typeIs_str s z t,wpAny_getItem_str_slice (st:=none) i rfl ?_⟩;have p:slicePicked z l u none=sd lo a 1 z.length:=by unfold slicePicked;rw [el,o];rfl
 unfold sliceMade;rw [p]
 by_cases c:((sd lo a 1 z.length).length==z.length)=true
 . have e:gO z lo a=z:=by unfold gO;rw [if_pos c]
   rw [e] at q;rw [if_pos (by simpa using c)];exact ⟨.str z,H,I,⟨t,rfl⟩,q⟩
 . have e:gO z lo a=⟨((sd lo a 1 z.length).filterMap (z.cps[·]?)).toArray⟩:=by unfold gO;rw [if_neg c]
   have g:=XV z lo a;rw [e] at q g;rw [if_neg (by simpa using c)];exact ⟨dE g n,.str _,H,I.tok _,⟨_,rfl⟩,q⟩
def gC:D->Option Int->Option Int->ao D
 | .ah c,lo,a=>(.ok (.ah (cutD c lo a)))
 | .ag c,lo,a=>(.ok (.ag (cutD c lo a)))
 | .str z,lo,a=> .ok (.str (gO z lo a))
 |_,_,_=> .aj
def VN {lo:Option Int} (c:HT.bz a.length 0 lo=0) (d:HT.bz a.length a.length e=a.length):cutD a lo e=a:=by
 unfold cutD;rw [c,d];simp
def vG {lo:Option Int} (m:aA X.K A H x a) (k:gC a lo h= .ok d) (q: ∀v n,am H n->aA X.K (λc=>H c=none\/A c) n v d->bg H v->Q v n):
  tf X.K x lo h H Q\/tU X.K x lo h H Q\/tq X.K x lo h H Q\/tV x lo h H Q:=by
 cases a with
 |ah r=>
  cases k;obtain ⟨b,e,rfl,i,j⟩:=m.cm;have l:=j.length
  by_cases hw:HT.bz e.length 0 lo=0/\HT.bz e.length e.length h=e.length
  . refine .inr (.inl ⟨b,e,rfl,.of i,hw,?_⟩);rw [l] at hw;rw [VN hw.1 hw.2] at q;exact q _ H (am.refl H) (.ah i (j.az nY)) (Y6 i)
  . exact .inl ⟨b,e,rfl,.of i,hw,λp g=>q _ _ (am.aJ g) (.ah jr (((WY j).az nY).ap (am.aJ g))) (qm (am.refl H) g)⟩
 |ag r=>
  cases k;obtain ⟨b,e,rfl,i,_,j⟩:=m.c7;exact .inr (.inr (.inl ⟨b,e,rfl,.of i,λp g=>q _ _ (am.aJ g) (.ag jr (.inl g) (((WY j.low).laid g).az λc z=>⟨.inr z.1,z.2⟩)) (qm (am.refl H) g)⟩))
 |str z=>
  cases k;obtain ⟨rfl,o⟩:=m.gl;have l:=dE (XV z lo h) o;exact .inr (.inr (.inr ⟨z,rfl,o,q _ H (am.refl H) (.str _ l) (AM (AF (K:=X.K) _ l))⟩))
 |_=>cases k
def zw {lo:Option Expr} (p:DE X .s e f) (r:DO X lo t) (u:DO X w y):
   DE X .t (.Subscript e (.Slice lo w none Y) B) (qL f t y gC):=by
 with_unfolding_all exact (
  PE.imp (Xm (pz.or (mh.or (iN.or Hr))) p r u) λZ H Q=>by
   rintro ⟨G,i,g,d,k,h,q⟩;obtain ⟨a,e1,h⟩:=je h;obtain ⟨j,e2,h⟩:=je h;obtain ⟨l,E,I⟩:=je h;refine ⟨G,i,g,a,k,e1,λx H1 m J _=>⟨G,i,g,j,k.ap m,e2,λH2 n=>⟨G,i,g,l,(k.ap m).ap n,E,λH3 o=>?_⟩⟩⟩;have sm:=m.trans (n.trans o)
   exact vG ((J.ap n).ap o) I λv L N O U=>q v L (sm.trans N) (O.az λc z=>z.elim (λz=>k.new c (am.free sm z)) λz=>z) (U.ap sm))
def cD:Sl->ao D:=λ_=> .ok (.cv [] [])
def XS:DE X .t (.Dict [] [] c) cD:=by
 with_unfolding_all exact (PE.imp Uu λh H Q=>by
  rintro ⟨G,i,e,d,k,g,q⟩;cases g
  exact λp a=>q _ _ (am.aJ a) (.cv jr (k.new p a) rfl rfl .nil) (qm (am.refl H) a))
def Cp:D->ao D
 | .int i=> .ok (.int (-i))
 |_=> .aj
def jM (f:TJ):Sl->ao D:=λa=>f a>>=Cp
def VH (h:DE X l e f):DE X l' (.UnaryOp .USub e g) (jM f):=by
 with_unfolding_all exact (PE.imp (Gg Gj h) λo H Q=>by
  rintro ⟨G,j,c,d,k,m,q⟩;obtain ⟨a,e1,e2⟩:=je m;refine ⟨G,j,c,a,k,e1,λv n s r _=>?_⟩
  cases a with
  |int i=>cases e2;exact ⟨i,r.cc,q _ n s (.int _) (iP (K:=X.K) _).T⟩
  |_=>cases e2)
end
end M
namespace PySem.AutoSeq1
open PySem Builtin
def ii (l:Addr) (items:Array Value) (n:Nat) (o:Option Addr) (p:Array (Option Value)) (x:Int) (u:Tok) (E:2<=x) (H:x<1000000) (a:items.isEmpty=false) (q:items.size*x.toNat<=aR)
  (c:(List.foldl (λe i=>e++i) #[] (eR x.toNat items)).size<=aR):
  Meets (lN.«tuple.__mul__» ⟨[.ref l,.int x u],[]⟩) (λ_ R s=>s.heap.get? l=some {cls:= .type "tuple",dict:=o,data:= .seq items n,slots:=p}/\
   R (.ok (.ret (bP s.heap.objs.size))) {s with heap:=s.heap.push {cls:=o5 "tuple",data:=Data.seq (List.foldl (λe i=>e++i) #[] (eR x.toNat items))}}):=
 .of_wp λj w A R s h=>by
  obtain ⟨I,g,d,J,os⟩:=s;obtain ⟨k,h⟩:=h;have L:=idx_int;have N:=sub_tuple_tuple
  have m:((items.size:Int)*x)=((items.size*x.toNat:Nat):Int):=by
   have:(x.toNat:Int)=x:=by omega
   rw [Int.natCast_mul,this]
  have O:=nK
  have r: ¬(decide (x< -2^63)||decide (x>=2^63))=true:=by
   intro z;simp at z;omega
  have t: ¬(items.isEmpty||x==1)=true:=by
   rw [a];intro z;simp at z;omega
  have v: ¬(decide (x<=0)||items.isEmpty)=true:=by
   rw [a];intro z;simp at z;omega
  have y: ¬((items.size:Int)*x>(2^63-1)/8):=by rw [m];omega
  have B: ¬Tuple.tupleTooMany ((items.size:Int)*x)=true:=by
   unfold Tuple.tupleTooMany;rw [m];intro z;have:=of_decide_eq_true z;omega
  wp_walk using wpAny_loadPart' k
  rw [if_neg r];refine ax (BR ⟨_,k,rfl,n,rfl⟩ ?_);dsimp only;rw [if_neg t];rw [if_neg v];rw [if_neg y];rw [if_neg B]
  first
   |exact ax (lW (aM ⟨_,rfl,h⟩) c)
   |exact ax (lW (aM h) c)
   | (trace_state;exact ax (lW (ax (aM (aM h))) c))
end PySem.AutoSeq1
namespace M
open PySem PySem.Spec L2
open PyProof.Rows hiding St
section
variable {X:Cx}
def Ym (K:ay):R2:=λx y H Q=> ∃l k a,x= .ref l/\y= .int k/\H l=some (.ah a)/\2<=k/\k<1000000/\a.isEmpty=false/\a.length*k.toNat<=aR/\
 ∀p,H p=none->Q (.ref p) (aJ H p (.ah (eR k.toNat a).flatten))
def n3:b7 X (eU .Mult) (Ym X.K):=by
 intro B s σ H x y v u Q I J L h;obtain ⟨l,k,xs,rfl,rfl,N,O,U,Y,m,q⟩:=h;cases J;obtain ⟨t,rfl⟩:=L;obtain ⟨a,r,⟨ob,e,Z,n,hd⟩,z⟩:=I.tuple (.of N);have E:=r.length;obtain ⟨c2,g,MP,i⟩:=ob;have o:=Z;have p:=hd;subst o p
 have c:List.foldl (λx1 x2=>x1++x2) #[] (eR k.toNat a.toArray)=(eR k.toNat a).flatten.toArray:=by
  have:=Z0 a k.toNat [];rw [List.nil_append] at this;exact this
 have w:a.toArray.isEmpty=false:=by
  cases r with
  |nil=>cases Y
  |cons _ _=>rfl
 have j:a.toArray.size*k.toNat<=aR:=by rw [cA,<-E];exact m
 have d:(eR k.toNat a).flatten.length<=aR:=by rw [K3,Nat.mul_comm,<-E];exact m
 refine Cq (by decide) ⟨_,e,rfl⟩ (λs'=>pE s' k t) qZ F.fills_int_mul se wn F.slot_int_index.lookup
  (nS se (pE s k t) F.entry_int_rmul (F.args_int_rmul_2 _ _) (zA k t l a.toArray n g i)
   ⟨e,rfl,⟨_,e,rfl⟩,nS tR ⟨_,e,rfl⟩ F.entry_tuple_mul (Cr _ _) (AutoSeq1.ii l a.toArray n g i k t O U w j (by rw [c,cA];exact d)) ⟨e,?_⟩⟩)
 rw [c];refine ⟨.ref s.heap.objs.size,_,I.laid (λb ob q=>cu _ q) (a9 _) ?_,rfl,q _ (I.aP.fresh (a9 _))⟩;exact ⟨by rw [K3,Nat.mul_comm];exact m,_,r.rep k.toNat,IsTup.new _ _⟩
def p5:D->D->ao D
 | .ah a,.int k=>aS (2<=k/\k<1000000/\a.isEmpty=false/\a.length*k.toNat<=aR) (.ok (.ah (eR k.toNat a).flatten))
 |_,_=> .aj
def uk {K:ay}:pN K (Ym K) p5:=by
 intro A x y H a b d Q h i e q;unfold p5 at e
 split at e
 . obtain ⟨⟨j,k,l,m⟩,e2⟩:=ju e;cases e2;cases i.cc;obtain ⟨p,n,rfl,o,g⟩:=h.cm;refine ⟨p,_,n,rfl,rfl,o,j,k,by rw [<-g.isEmpty];exact l,by rw [g.length];exact m,λr c=>q _ _ (am.aJ c) (.ah jr ?_) (qm (am.refl H) c)⟩;exact ((g.rep _).az nY).ap (am.aJ c)
 . cases e
end
abbrev tW:D->D->ao D:=fJ J8 λi j=> .int (i-j)
abbrev fb:D->D->ao D:=fJ mf λi j=> .int (i*j)
abbrev bC:D->D->ao D:=fJ tO λi j=> .int (i/j)
abbrev aY:D->D->ao D:=fJ tP λi j=> .int (i%j)
abbrev dA:D->D->ao D:=fJ p4 λi j=> .int (i^j.toNat)
abbrev ltI:D->D->ao D:=fJ J8 λi j=> .bl (decide (i<j))
abbrev hE:D->D->ao D:=fJ J8 λi j=> .bl (decide (i<=j))
abbrev lJ:D->D->ao D:=fJ J8 λi j=> .bl (decide (j<i))
structure Av (P:bI) (w:World) (K:ay) (mg:Xd) (ae:Heap) (k:Nat) (x:Str) (ps:List Str) (fr:Bool) (F:TC):Prop where
 ex: ∃f fd,cE P w K mg ae hD k f fd ps (l5 K fr ps.length F)/\mg x=some (.ref f)/\h8 K (.ref f)=true/\Binds K fd ps []
def Av.mono {K:ay} (h:Av P w K mg ae j x ps c F) (d:j<=k):Av P w K mg ae k x ps c F:=
 let ⟨f,e,a,b⟩:=h.ex
 ⟨f,e,a.mono d,b⟩
section
variable {X:Cx} {k:Nat} {x:Str} {ps:List Str} {Y:Bool} {F:TC} {e:Expr} {Z:List Expr} {p pos:Pos} {g:TD}
def Av.call (A:Av X.prog X.w X.K X.mg X.ae k x ps Y F) (d:aH k X.A) (h:DA X .s (e::Z) g) (i:ps.length=n:=by rfl) (j:Gl X x:=by rfl) (a:Yj x:=by decide)
  (l:T9 X e Z:=by exact jn rfl) (c:T8 X pos Z:=by exact jB rfl):DE X .s (.Call (.Name x p) (e::Z) [] pos) (j4 n F g):=by
 subst i;obtain ⟨f,t,m,o,q,r⟩:=A.ex;exact G0 m d j o q r Ux h a l c
def Av.ci (A:Av X.prog X.w X.K X.mg X.ae k x ps true F) (d:aH k X.A) (h:DA X .s (e::Z) g) (i:ps.length=n:=by rfl) (j:Gl X x:=by rfl) (a:Yj x:=by decide)
  (l:T9 X e Z:=by exact jn rfl) (c:T8 X pos Z:=by exact jB rfl):DE X .t (.Call (.Name x p) (e::Z) [] pos) (j4 n F g):=by
 subst i;obtain ⟨f,t,m,o,q,r⟩:=A.ex;exact ku m d j o q r Ux h a l c
end
def ba (c:Bool) (n:Nat) (g:TF) (e:List D):ao D:=match g (wG n e) with
 | .ok (.rt a d)=>if c=true/\a=false then .aj else .ok d
 | .ok (.nx _)=> .ok .aO
 |_=> .aj
def yq (h:ba i n g j= .ok d):Meets i n g j d:=by
 unfold ba at h
 split at h
 . rename_i a m e
   split at h
   . cases h
   . rename_i k;cases h;refine .inl ⟨a,e,λl=>?_⟩
     cases a with
     |true=>rfl
     |false=>exact absurd ⟨l,rfl⟩ k
 . rename_i c e;cases h;exact .inr ⟨rfl,c,e⟩
 . cases h
section
variable {P:bI} {w:World} {K:ay} {mg:Xd} {ae:Heap}
def Ht {st:Stmt} (j:Bool) (l:iO K x x st f m) (e:mg x=some (.ref f)) (S:aC N n (jj st)) (i:Binds K m n [])
  (o: ∀(c:Value) (A:bV) (a:List Env) (s:aB) (H:Hp) (E:XK),aH k (A.deeper (gx x (jj st) s.heap.objs.size f c))->fU (bH hD P w K mg ae N x (jj st) f c A a s H E).m8 (qr st) g):
  Av P w K mg ae (k+1) x n j (ba j N.length g):=
 ⟨f,m,uL l S o λp d _ h=>yq h,e,l.kp,i⟩
end
def YQ {K:ay} {st:Stmt} (i:Bool) (l:iO K x x st f m) (S:aC N j (jj st))
 (n: ∀(c:Value) (A:bV) (a:List Env) (s:aB) (H:Hp) (E:XK),aH k (A.deeper (gx x (jj st) s.heap.objs.size f c))->fU (bH hD P w K o e N x (jj st) f c A a s H E).m8 (qr st) g):
 cE P w K o e hD (k+1) f m j (l5 K i j.length (ba i N.length g)):=uL l S n λp d _ h=>yq h
def Qy {p m:Pos} (i:Nat) (N:DE X l2 b O) (U:X.N[i]?=some x:=by rfl) (Y:gJ X.env.scope x:=by exact eK rfl)
   (hd:Yj x:=by decide) (n:Yi x:=by decide) (Z:Zp b:=by intro _ _;rfl):DE X .s (.Subscript (.Name x p) b m) (al (cH i) O aQ):=by
 with_unfolding_all exact (
  PE.imp (vZ k9 (wx U Y hd n) N Z) λσ H Q=>by
   rintro ⟨G,E,g,d,k,o,q⟩;obtain ⟨t,e1,o⟩:=je o;obtain ⟨c,e2,a⟩:=je o;rcases Wu e1 with z|z
   . obtain ⟨v,l,I⟩:=k.ak i t z;exact ⟨v,l,G,E,g,c,k,e2,λy u h w _=>Et (I.ap h) (w.az Lv.be) a λv r3=>q v u h r3 trivial⟩
   . obtain ⟨v,l,h0,I⟩:=k.av i t z;refine ⟨_,l,G,E,g,c,k,e2,λy u h w _=>?_⟩;have h3:=(k.ap h).av i t z;obtain ⟨v2,J,_,g2⟩:=h3;rw [l] at J;cases J
     cases g2 with
     |ag e r=>
      cases c with
      |int j=>
       cases (w.az Lv.be).cc;unfold aQ at a;dsimp only at a
       cases B:gy _ j with
       |none=>rw [B] at a;cases a
       |some d'=>
        rw [B] at a;cases a;obtain ⟨L,e6,r6⟩:=Zo r B;exact .inl ⟨_,_,j,L,rfl,rfl,.of e,e6,q L u h r6 trivial⟩
      |_=>cases a
     |cv e _ _ r=>cases c<;>cases a
     |cO e _ _ r=>cases c<;>cases a
     |obj e _ _ r=>cases c<;>cases a
     |cr e _ _ r=>cases c<;>cases a)
def qu:gH "list" =some (.type "list"):=by decide+kernel
def Hu (d:List Str) (EJ a:Scope) (N:List Str) (m:Nat) (c:List Nat):Bool:=(fu c.length).all λk=>match N[m+k]?,(c[k]?).bind (d[·]?) with
 |some y,some e=>y==e&&(EJ.names.lookup y==some .cell||EJ.names.lookup y==some .free)&&a.names.lookup y==some .free
 |_,_=>false
def tX (z:Option Str) (d:List Str) (a scope:Scope) (cl:List (Str×Addr)) (N:List Str) (m:Nat) (c:List Nat):Bool:=
 (scope.names.all λx=>x.2 != .local||scope.names.lookup x.1==some .local)&&(scope.names.all λx=>x.2 != .cell||z==some x.1)&&(match z with
   |some y=>scope.names.lookup y==some .cell
   |none=>true)&&(scope.names.all λy=>y.2 != .free||cl.any λp=>p.1==y.1)&&
  Hu d a scope N m c&&(match N[m+c.length]? with
   |some y=>scope.names.all λp=>p.1 !=y
   |none=>true)&&N.length==m+c.length+1
def YZ {a:List (Str×Addr)} (h:(a.any λp=>p.1==y)=true): ∃c,a.lookup y=some c:=by
 induction a with
 |nil=>cases h
 |cons p r d=>
  obtain ⟨n,c⟩:=p;rw [List.any_cons,sg] at h;simp only [l8]
  cases e:y==n with
  |true=>exact ⟨c,rfl⟩
  |false=>
   rcases h with h|h
   . have:n=y:=by simpa using h
     subst this;simp at e
   . exact d h
def mi (a:List (Str×Addr)):List (Str×Addr)->Prop
 | []=>True
 |p::r=>a.lookup p.1=some p.2/\mi a r
theorem mi.mem: ∀ {c:List (Str×Addr)},mi a c-> ∀p∈c,a.lookup p.1=some p.2
 |_::_,h,p,d=>(dP.mp d).elim (λe=>e▸h.1) (mi.mem h.2 p)
def qR (z:Option Str) {X:Cx} (g:closureFor a X.env=pure i) (l:a.kind= .function) (u:N.Nodup) (o:mi X.env.cells i)
   (h:tX z X.N X.env.scope a i N m v=true) (made: ∀n,cellsFrom (n+1) a.names i=oN z i n:=by intro _;rfl) (d: ∀h,pushCells h a.names=vS z h:=by intro _;rfl):cK z X a i N m v:=by
 simp only [tX,fw,eD,beq_iff_eq] at h;obtain ⟨⟨⟨⟨⟨⟨w,B⟩,r⟩,E⟩,H⟩,t⟩,I⟩:=h;refine ⟨g,l,λx J e=>?_,λy q e=>?_,made,d,λy e=>by rw [e] at r;exact beq_iff_eq.mp r,λx c e=>o.mem (x,c) (pw e),λy q e=>?_,u,I,λk j e=>?_,λy e p L=>?_⟩
 . have:=w x J;rw [e] at this;simpa using this
 . have:=B y q;rw [e] at this;simpa using this
 . have:=E y q;rw [e] at this;exact YZ (by simpa using this)
 . have O:=(fZ.mp e).1;have:=eD.mp H k (fx.mpr O);rw [e] at this;simp at this
   cases e1:N[m+k]? with
   |none=>rw [e1] at this;cases this
   |some y=>
    cases e2:X.N[j]? with
    |none=>rw [e1,e2] at this;cases this
    |some Y=>
     rw [e1,e2] at this;simp at this;obtain ⟨⟨Q,g2⟩,U⟩:=this;subst Q;exact ⟨y,rfl,rfl,g2,U⟩
 . rw [e] at t;have:=eD.mp t p L;simpa using this
end M
namespace M
open PySem PySem.Spec L2
def JG (h:a d c= .ok (.nx e)):c8 a (d::g) c=c8 a g e:=by
 show (a d c>>=_)=_;rw [h];rfl
theorem Z5 {E:D->List D->Sl} (h:D->D) (P:D->Prop)
  (j: ∀x a,cq n (E x a)= .ok a) (k: ∀x a c,(E x a).set n (.av (.ag c))=E x c)
  (l: ∀x d a,t d (E x a)= .ok (E d a)) (m: ∀d a,P d->i (E d a)= .ok (h d)):
  ∀(g:List D) (x:D) (a:List D),(∀d∈g,P d)->a.length+g.length<=aR-> ∃y,zY n t jX i g (E x a)= .ok (E y (a++g.map h))
 | [],x,a,_,_=>⟨x,by simp [zY]⟩
 |d::g,x,a,o,p=>by
  simp at p;obtain ⟨y,q⟩:=Z5 h P j k l m g d (a++[h d]) (λe r=>o e (by simp [r])) (by simp;omega);refine ⟨y,?_⟩
  have u:zY n t jX i (d::g) (E x a)=zY n t jX i g (E d (a++[h d])):=by
   show (t d (E x a)>>=_)=_;rw [l];show (i (E d a)>>=_)=_;rw [m d a (o d (by simp))];rw [j];show aS _ _=_;rw [jq (by omega),k]
  rw [u,q];simp
def Hv {ds:List D} (h:D->D) (P:D->Prop) (m:j a= .ok ds) (k: ∀d∈ds,P d) (o:ds.length<=aR)
  (l: ∀d i,P d->g [.ak d,.av (.ag i)]= .ok (h d)):j8 false 1 [] j (gN 0) jX g a= .ok (.ag (ds.map h)):=by
 show (j a>>=_)=_;rw [m];show (zY 1 (gN 0) jX g ds [.un,.av (.ag [])]>>=_)=_
 cases ds with
 |nil=>rfl
 |cons d ds=>
  simp at o;obtain ⟨y,p⟩:=Z5 (n:=1) (t:=gN 0) h P (λ_ _=>rfl) (λ_ _ _=>rfl) (λ_ _ _=>rfl) l ds d [h d] (λe q=>k e (by simp [q])) (by simp;omega)
  have r:zY 1 (gN 0) jX g (d::ds) [.un,.av (.ag [])]=zY 1 (gN 0) jX g ds [.ak d,.av (.ag [h d])]:=by
   show (g [.ak d,.av (.ag [])]>>=_)=_;rw [l d [] (k d (by simp))];exact jq (c:=([]:List D).length<aR) (by simp;omega)
  rw [r,p];rfl
section
variable {env env':Sl} {f U N f3:TJ} {g Y g2:TF} {t Q O:TH} {Z:TD} {i:Nat} {d:D} {b:Bool}
@[simp] theorem xP {c e:Type} {a:c} {f:c->ao e}:(ao.ok a>>=f)=f a:=rfl
def Cs (g:TF):bF->ao bF
 | .nx e=>g e
 |o=> .ok o
@[simp] theorem vj:au Y g2 env=(Y env>>=Cs g2):=by
 show (Y env>>=_)=_;congr 1;funext o;cases o<;>rfl
@[simp] theorem uO:cf i f env=(f env>>=λd=> .ok (.nx (env.set i (Wo d)))):=rfl
@[simp] theorem U7:jL i f env=(f env>>=λd=> .ok (.nx (env.set i (.ak d)))):=rfl
@[simp] theorem uQ:aZ f env=(f env>>=λd=> .ok (.rt true d)):=rfl
@[simp] theorem uP:retS f env=(f env>>=λd=> .ok (.rt false d)):=rfl
@[simp] theorem vm:cp t Y g2 env=(t env>>=λb=>if b=true then Y env else g2 env):=rfl
@[simp] theorem WT:dJ Q O env=(Q env>>=λb=>if b=true then O env else .ok false):=rfl
@[simp] theorem Vq:dY Q O env=(Q env>>=λb=>if b=true then .ok true else O env):=rfl
@[simp] theorem uR:bi t env=(t env>>=λb=> .ok (!b)):=rfl
def Ct:D->ao Bool
 | .bl b=> .ok b
 |_=> .aj
@[simp] theorem Hw:aX f env=(f env>>=Ct):=rfl
@[simp] theorem Hx {h:D->D->ao D}:al U N h env=(U env>>=λx=>N env>>=λy=>h x y):=rfl
@[simp] theorem U8:jb f Z env=(f env>>=λd=>Z env>>=λa=> .ok (d::a)):=rfl
@[simp] theorem Hy {h:TC}:app Z h env=(Z env>>=h):=rfl
@[simp] theorem U9 {n:Nat} {F:TC}:j4 n F Z env=(Z env>>=λa=>aS (a.length=n) (F a)):=rfl
@[simp] theorem uN:aw Z env=(Z env>>=λa=>aS (a.length<=aR) (.ok (.ah a))):=rfl
@[simp] theorem uS:bc Z env=(Z env>>=λa=>aS (a.length<=aR) (.ok (.ag a))):=rfl
@[simp] theorem Hz:dj f env=(f env>>=uA):=rfl
@[simp] theorem uT {a:TB} {c:TD}:dZ c a g env=(c env>>=λe=>c8 (wD a g) e env):=rfl
@[simp] theorem U6 {c e:Sl->ao (Option Int)} {h:D->Option Int->Option Int->ao D}:qL f c e h env=(f env>>=λa=>c env>>=λlo=>e env>>=λj=>h a lo j):=rfl
@[simp] theorem U2:wE f env=(f env>>=Eu):=rfl
def toK (g:ao D) (w:Bool):D->ao D
 | .bl b=>if b=w then g else .ok (.bl b)
 |_=> .aj
@[simp] theorem vi {w:Bool}:nV U N w env=(U env>>=toK (N env) w):=by
 show (U env>>=_)=_;congr 1
def runK (c:Bool):bF->ao D
 | .rt a d=>if c=true/\a=false then .aj else .ok d
 | .nx _=> .ok .aO
 |_=> .aj
def vk (h:g (wG n a)= .ok o):ba c n g a=runK c o:=by
 unfold ba;rw [h];cases o<;>rfl
end
def dU {c:Type} {a:List c} {k:Nat}:gy a (k:Int)=a[k]?:=by
 unfold gy iM
 by_cases h:k<a.length
 . rw [if_pos (by omega),if_pos (by omega)];simp
 . rw [if_pos (by omega),if_neg (by omega)];simp;omega
section
variable {env env':Sl} {f E H f3:TJ} {g L g2:TF} {t J I:TH} {fa:TD} {i:Nat} {d x y z:D} {b:Bool} {ds:List D}
def jh (a:E env= .ok x) (c:H env= .ok y) (e:h x y= .ok z):al E H h env= .ok z:=by rw [Hx,a,xP,c,xP,e]
def jw (h:f env= .ok d):jL i f env= .ok (.nx (env.set i (.ak d))):=by rw [U7,h];rfl
def zU (h:f env= .ok d):cf i f env= .ok (.nx (env.set i (Wo d))):=by rw [uO,h];rfl
def qk (h:f env= .ok d):aZ f env= .ok (.rt true d):=by rw [uQ,h];rfl
def QL (h:f env= .ok d):retS f env= .ok (.rt false d):=by rw [uP,h];rfl
def jl (h:L env= .ok (.nx env')):au L g2 env=g2 env':=by rw [vj,h];rfl
def qH (h:L env= .ok (.rt a d)):au L g2 env= .ok (.rt a d):=by rw [vj,h];rfl
def bZ (h:t env= .ok true):cp t L g2 env=L env:=by rw [vm,h];rfl
def cj (h:t env= .ok false):cp t L g2 env=g2 env:=by rw [vm,h];rfl
def jd (a:f env= .ok d) (c:fa env= .ok ds):jb f fa env= .ok (d::ds):=by rw [U8,a,xP,c];rfl
def j3 (a:fa env= .ok ds) (c:h ds= .ok d):app fa h env= .ok d:=by rw [Hy,a,xP,c]
def jY (a:fa env= .ok ds) (c:ds.length=n) (e:F ds= .ok d):j4 n F fa env= .ok d:=by rw [U9,a,xP,jq c,e]
def qv (a:fa env= .ok ds) (c:ds.length<=aR):aw fa env= .ok (.ah ds):=by rw [uN,a,xP,jq c]
def x0 (a:fa env= .ok ds) (c:ds.length<=aR):bc fa env= .ok (.ag ds):=by rw [uS,a,xP,jq c]
def jR (h:f env= .ok (.bl b)):aX f env= .ok b:=by rw [Hw,h];rfl
def JZ (a:J env= .ok b) (c:I env= .ok b2):dY J I env= .ok (b||b2):=by rw [Vq,a,xP,c];cases b<;>rfl
def vx (a:J env= .ok b) (c:I env= .ok e):dJ J I env= .ok (b&&e):=by rw [WT,a,xP,c];cases b<;>rfl
def ql (a:J env= .ok b):bi J env= .ok (!b):=by rw [uR,a];rfl
def zc (a:f env= .ok x) (c:e env= .ok lo) (j:k env= .ok l) (m:h x lo l= .ok z):qL f e k h env= .ok z:=by
 rw [U6,a,xP,c,xP,j,xP,m]
def zM (h:f env= .ok (.int j)):wE f env= .ok (some j):=by rw [U2,h];rfl
def yP (h:a env= .ok ds):dZ a c g env=c8 (wD c g) ds env:=by rw [uT,h];rfl
def xF (h:f env= .ok d) (a:uA d= .ok ds):dj f env= .ok ds:=by rw [Hz,h,xP,a]
def vq (h:f env= .ok d) (hd:d.gA=true):i5 f env= .ok d:=by
 show (f env>>=_)=_;rw [h];exact jq hd
end
def XG {C:Int->Int->Prop} [∀i j,Decidable (C i j)] {g:Int->Int->D} {i j:Int} (h:C i j):fJ C g (.int i) (.int j)= .ok (g i j):=if_pos h
def Xk (h:p4 i j):dA (.int i) (.int j)= .ok (.int (i^j.toNat)):=XG h
def HA (h:mf i j):fb (.int i) (.int j)= .ok (.int (i*j)):=XG h
def HB (h:0<j):aY (.int i) (.int j)= .ok (.int (i%j)):=XG h
def qJ (h:0<j/\j<1073741824):bC (.int i) (.int j)= .ok (.int (i/j)):=XG h
def xJ (h:t d a= .ok env'):wD t g d a=g env':=by
 show (t d a>>=g)=_;rw [h];rfl
def qV (h:g (wG n a)= .ok (.rt true d)):ba c n g a= .ok d:=by rw [vk h];simp [runK]
def Kj (h:g (wG n a)= .ok (.rt false d)):ba false n g a= .ok d:=by rw [vk h];simp [runK]
def Jg (h:fa env= .ok [.int j]) (a: -(2^62)<=j/\j<2^62):fI fa env= .ok (zK 0 j.toNat):=by
 show (fa env>>=pP)=_;rw [h];exact jq a
def Vt:eS (.int a) (.int b)= .ok (.bl (a==b)):=by
 unfold eS;rw [jq (by left;simp [Ho,D.b9])];simp [WU]
theorem ya (I:List D->Sl->Prop)
  (g: ∀d e a,I (d::e) a-> ∃c,body d a= .ok (.nx c)/\I e c): ∀(e:List D) (a:Sl),I e a-> ∃c,c8 body e a= .ok (.nx c)/\I [] c
 | [],a,h=>⟨a,rfl,h⟩
 |d::e,a,h=>by
  obtain ⟨e1,i,j⟩:=g d e a h;obtain ⟨e2,k,l⟩:=ya I g e e1 j;exact ⟨e2,by rw [JG i,k],l⟩
def Qq (lo:Int) (n:Nat):zK lo (n+1)= .int lo::zK (lo+1) n:=by
 unfold zK;rw [List.range_succ_eq_map,fy,hG];congr 1
 . simp
 . apply AN;intro i _;simp only [Function.comp_apply];congr 1;omega
def xY (h:d∈zK lo n): ∃k:Int,d= .int k/\lo<=k/\k<lo+n:=by
 unfold zK at h;obtain ⟨i,a,e⟩:=b8.mp h;have:=fx.mp a;exact ⟨_,e.symm,by omega,by omega⟩
def wS (lo:Int) (n:Nat):(zK lo n).length=n:=by simp [zK]
def vw {c:Type} {xs:List c} {i:Int} (d:0<=i) (e:i<xs.length): ∃x,gy xs i=some x/\x∈xs:=by
 obtain ⟨k,rfl⟩:=Int.eq_ofNat_of_zero_le d;have a:k<xs.length:=by omega
 exact ⟨xs[k],by rw [M.dU];exact dn a,gD a⟩
def Cu {ds:List D} {i:Int} (a:0<=i) (e:i<ds.length): ∃d,aQ (.ag ds) (.int i)= .ok d/\d∈ds:=by
 obtain ⟨c,g,h⟩:=vw a e;exact ⟨c,by simp only [aQ];rw [g],h⟩
open Builtin.Int (intBits)
end M
namespace M
open PySem PySem.Spec L2
open PyProof.Rows hiding St
def n4:D->Option aI
 | .int i=>some (.inl i)
 | .str x=>some (.inr x)
 |_=>none
section
variable {K:ay} {A:Xc} {H:Hp}
def uz (r:aA K A H y d) (h:n4 d=some k):y=kV k:=by
 cases d<;>cases h
 . exact r.f
 . exact r.f.1
end
end M
namespace M
open PySem PySem.W PyProof.Rows
structure Ord (lt:Nat->Nat->Bool) (n:Nat):Prop where
 HC: ∀i j,lt i j=true->lt j i=false
 trans: ∀i j k,i<n->j<n->k<n->lt i j=true->lt j k=true->lt i k=true
 total: ∀i j,i<n->j<n->i≠j->lt i j=true\/lt j i=true
section
variable {lt:Nat->Nat->Bool} {n:Nat} (O:Ord lt n)
include O
end
def oQ (h:Heap) (d:Addr) (c:List Value) (e:Nat):Prop:= ∃o a,h.get? d=some o/\o.ExactDict/\o.data= .dict a e/\a.toList.map (·.key)=c
section
variable {prog:bI} {w:World} {A:bV} {E:Ws} {s:aB} {d Y:Addr} {Z:List Value} {U i:Nat}
def oQ.typeIs (x:oQ s.heap d Z U):s.TypeIs (.ref d) "dict" :=let ⟨o,e,a,c,_⟩:=x;⟨o,a,c.1⟩
def kz (hd:(d==m4)=false) (g:oQ s.heap d Z U)
  (j:Q (.ref s.heap.objs.size) {s with heap:=s.heap.push {cls:= .type "dict_keyiterator",data:= .fields #[.ref d,.int 0 0,.int Z.length 0,.int U 0]}}):wpAny (model prog w) A (pyIter (.ref d)) Q E s:=by
 obtain ⟨o,k,h,l,a,c⟩:=id g;have T:=g.typeIs;have e:k.size=Z.length:=by rw [<-c];simp
 refine wpAny_pyIter_slot T PySem.F.slot_dict_iter (te PySem.F.slot_dict_iter T PySem.F.entry_dict_iter ?_ (PySem.F.args_dict_iter_1 _));unfold lN.«dict.__iter__» Builtin.Dict.dictSlotNone;refine ax (ax (wpAny_notOrdered_dict T (show wpAny _ _ (pure (bP d)) _ _ s from aM ?_)));show wpAny _ _ (EK d>>=_) _ _ s;unfold EK;rw [if_neg (by rw [hd];exact lD)];refine ax (aM (ax (wpAny_dictEntries h a (ax (wpAny_dictEpoch h a (ax (lW (aM ⟨_,rfl, "dict_keyiterator",_,⟨_,ej _ rfl,rfl⟩,tY.lookup,?_⟩))))))));simpa [rawInt,e] using j
def kA (a:s.heap.IsKeyIter Y d i Z.length U) (r:oQ s.heap d Z U) (p:Z[i]?=some k)
  (t: ∀q,q.IsKeyIter Y d (i+1) Z.length U->nH Y s.heap q->Q (some k) {s with heap:=q}):wpAny (model prog w) A (pyNext (.ref Y)) Q E s:=by
 obtain ⟨o,m,u,g⟩:=id a;obtain ⟨B,n,h,v,j,c⟩:=id r;have l:n.size=Z.length:=by rw [<-c];simp
 have dF:i<n.size:=by
  rw [l];rcases Nat.lt_or_ge i Z.length with z|z
  . exact z
  . rw [oB z] at p;cases p
 have y:n[i].key=k:=by
  have:(n.toList.map (·.key))[i]?=some k:=by rw [c];exact p
  rw [fB] at this;simpa [dF] using this
 unfold pyNext;refine ax (wpAny_attempt (AA a.typeIs tY (te tY a.typeIs EL ?_ (EM _))));refine ax (aM (ax (ax ?_)))
 first|refine ax (AO a.typeIs (aM (ax (AQ m g ?_))))|refine ax (AR a.typeIs (aM (ax (AQ m g ?_))))
 simp only [show EN "dict_keyiterator" =false by decide,mY,if_false];show wpAny _ _ (if (bP d==rG)=true then _ else _) _ _ s;rw [if_neg (show¬((bP d==rG)=true) by exact lD)];refine ax (aM (ax (wpAny_dictEntries h j ?_)));rw [if_neg (by rw [l];simp)];refine ax (aM (ax (wpAny_dictEpoch h j ?_)));rw [if_neg (by simp)];refine aM ?_;simp only [show¬((i:Int)<0) by omega,if_false,td,gE dF];refine ax ?_
 first|refine ax (AO a.typeIs (aM (ax (Cv a.typeIs ?_))))|refine ax (AR a.typeIs (aM (ax (Cv a.typeIs ?_))))
 show wpAny _ _ (setField (.ref Y) 1 (rawInt ((i:Int)+1))>>=_) _ _ s;refine ax (wpAny_setField m g (by simp) (ax (iY ?_)))
 have e:(s.heap.update Y (Obj.mapFields (·.setIfInBounds 1 (rawInt ((i:Int)+1))))).IsKeyIter Y d (i+1) Z.length U:=
  ⟨_,BS _ m (Obj.isFreed_of_fields (Obj.data_mapFields g _)),(Obj.cls_mapFields ..).trans u,by rw [Obj.data_mapFields g];simp [rawInt]⟩
 refine ax (Cv e.typeIs ?_);rw [y];exact aM (aM ⟨_,rfl,aM (t _ e (AS ..))⟩)
def HD (n:A.handled=none) (a:s.heap.IsKeyIter Y d i Z.length U) (p:oQ s.heap d Z U)
  (q: ∀l,Heap.ExtBut Y s.heap l->Q none {s with heap:=l}) (t:Z.length<=i:=by exact a9 _):wpAny (model prog w) A (pyNext (.ref Y)) Q E s:=by
 obtain ⟨o,h,u,j⟩:=id a;obtain ⟨v,m,e,r,g,c⟩:=id p;have k:m.size=Z.length:=by rw [<-c];simp
 unfold pyNext;refine ax (wpAny_attempt (AA a.typeIs tY (te tY a.typeIs EL ?_ (EM _))));refine ax (aM (ax (ax ?_)))
 first|refine ax (AO a.typeIs (aM (ax (AQ h j ?_))))|refine ax (AR a.typeIs (aM (ax (AQ h j ?_))))
 simp only [show EN "dict_keyiterator" =false by decide,mY,if_false];show wpAny _ _ (if (bP d==rG)=true then _ else _) _ _ s;rw [if_neg (show¬((bP d==rG)=true) by exact lD)];refine ax (aM (ax (wpAny_dictEntries e g ?_)));rw [if_neg (by rw [k];simp)];refine ax (aM (ax (wpAny_dictEpoch e g ?_)));rw [if_neg (by simp)];refine aM ?_;simp only [show¬(((i:Nat):Int)<0) by omega,if_false,td,Array.getElem?_eq_none (show m.size<=i by omega)];refine ax ?_
 first|refine ax (AO a.typeIs (aM ?_))|refine ax (AR a.typeIs (aM ?_))
 show wpAny _ _ (setField (.ref Y) 0 .none>>=_) _ _ s;refine ax (wpAny_setField h j (by simp) ?_);refine ax ?_;simp only [newExc,newTuple];refine ax (lW (ax (wpAny_of_eq (by first|rfl| (simp;rfl)) (lW ?_ (by size_fits)))) (by size_fits));simp only [raiseNew];refine ax (wpAny_handled ?_);rw [show A.in1.handled=none from n];refine ax (aM (wpAny_throw ?_));refine ax (wpAny_isInstance ⟨_,ej _ rfl,rfl⟩ isSubtype_stop ?_);exact aM (q _ (((AS ..).extBut.push _).push _))
end
abbrev Hd:=Str×Int
def dF (a b:Hd):Bool:=if a.1=b.1 then decide (a.2<b.2) else decide (a.1.cps.toList<b.1.cps.toList)
inductive F2 {α β:Type} (R:α->β->Prop):List α->List β->Prop where
 |nil:F2 R [] []
 |cons {a b as bs}:R a b->F2 R as bs->F2 R (a::as) (b::bs)
theorem F2.length {a c:Type} {R:a->c->Prop}: ∀ {d:List a} {bs:List c},F2 R d bs->d.length=bs.length
 |_,_,.nil=>rfl
 |_,_,.cons _ t=>by simp [t.length]
end M
namespace M
open PySem PySem.Spec L2
open PyProof.Rows hiding St
def ZT:List D->Option (List aI)
 | []=>some []
 |d::r=>match n4 d,ZT r with
  |some k,some a=>some (k::a)
  |_,_=>none
def ff:D->Option (List aI)
 | .ah a=>ZT a
 |_=>none
def ij (a:List (List aI)) (k:List aI):Bool:=a.any λx=>decide (x=k)
def Ul (a:List (List aI)) (k:List aI):List (List aI):=if ij a k=true then a else a++[k]
def Um (a:List (List aI)) (c:List D) (k:List aI) (d:D):List D:=if ij a k=true then (a.zip c).map (λp=>if p.1=k then d else p.2) else c++[d]
section
variable {K:ay} {A:Xc} {H:Hp}
theorem Xz: ∀ {e:List V} {a:List D} {c:List aI},ai K A H e a->ZT a=some c->e=c.map kV
 | [],_,c,r,h=>by cases r.gk;cases h;rfl
 |v::e,_,c,r,h=>by
  obtain ⟨d,a,rfl,r,t⟩:=r.c6;unfold ZT at h
  cases e1:n4 d with
  |none=>rw [e1] at h;cases h
  |some k=>
   cases e2:ZT a with
   |none=>rw [e1,e2] at h;cases h
   |some g=>
    rw [e1,e2] at h;cases h;rw [uz r e1,Xz t e2];rfl
def Q8 (r:aA K A H y d) (h:ff d=some k): ∃b,y= .ref b/\H b=some (.ah (k.map kV)):=by
 cases d<;>try cases h
 obtain ⟨_,_,rfl,e,a⟩:=r.f;exact ⟨_,rfl,by rw [e,Xz a h]⟩
def kI (a:List (List aI×V)) (k:List aI):(a.any λc=>decide (c.1=k))=ij (a.map (·.1)) k:=by
 unfold ij;rw [List.any_map];rfl
theorem Zz (k:List aI) (g:aA K A H v d): ∀ {a:List (List aI×V)} {h:List D},ai K A H (a.map (·.2)) h->ai K A H ((a.map (λc=>if c.1=k then (c.1,v) else c)).map (·.2)) (((a.map (·.1)).zip h).map (λp=>if p.1=k then d else p.2))
 | [],_,r=>by cases r.gk;exact .nil
 | (j,n)::a,_,r=>by
  obtain ⟨_,_,rfl,l,m⟩:=r.c6;have i:=Zz k g m
  by_cases e:j=k
  . simp only [fy,Cw,e,if_true];exact .cons g (by simpa [e] using i)
  . simp only [fy,Cw,e,if_false];exact .cons l i
def Uh (k:List aI) (r:ai K A H (a.map (·.2)) e) (c:aA K A H v d):
   (putK a k v).map (·.1)=Ul (a.map (·.1)) k/\ai K A H ((putK a k v).map (·.2)) (Um (a.map (·.1)) e k d):=by
 unfold putK Ul Um;rw [kI]
 by_cases h:ij (a.map (·.1)) k=true
 . rw [if_pos h,if_pos h,if_pos h];refine ⟨?_,Zz k c r⟩;rw [hG];apply AN;intro p _;simp
   split<;>rfl
 . rw [if_neg h,if_neg h,if_neg h];refine ⟨by simp,?_⟩;rw [mj];exact r.append (.cons c .nil)
end
section
variable {X:Cx} {K:ay} {l1 l2:Lv} {e1 e2:Expr} {fk fv:TJ} {pos bD apos p:Pos} {x:Str}
def Eb (a:Hd):D:= .ah [.str a.1,.int a.2]
end
end M
namespace M
open PySem PySem.Spec L2
open PyProof.Rows hiding St
open PySem.SeqAt
section
variable {X:Cx} {K:ay}
theorem Kl {A:Xc} {H:Hp}: ∀ {j:List V} {e:List D} {g:List Value},ai K A H j e->aE j g->g.length=e.length/\ ∀(i:Nat) (u:Value),g[i]?=some u-> ∃x d,e[i]?=some d/\aG x u/\aA K A H x d
 |_,_,_,.nil,.nil=>⟨rfl,λi u h=>by cases h⟩
 |_,_,_,.cons r t,.cons h k=>by
  obtain ⟨a,b⟩:=Kl t k;refine ⟨by simp [a],λi u c=>?_⟩
  cases i with
  |zero=>simp at c;subst c;exact ⟨_,_,rfl,h,r⟩
  |succ i=>simp at c;simpa using b i u c
def n5 (a:List D) (d:D):Bool:=a.any λy=>da y d
def tZ (K:ay) (neg:Bool):R2:=λx y H Q=> ∃p c a d,y= .ref p/\dg K H p c/\ai K Any H c a/\aA K Any H x d/\(D.bY a=true/\D.cg d=true/\D.cC a<=190)/\Q (.bl (if neg then !n5 a d else n5 a d)) H
open Classical in
theorem uF {m:List (Addr×Obj)} {s:aB} {L:L2.St} {H:Hp} (I:aq X m L H s) (hu:X.A.units+200<cLine) {a:List Value} {u:List V} {j:List D} {x:V} {v:Value} {d:D} (N:aG x v) (O:ai X.K Any H u j) (Q:aE u a) (r:aA X.K Any H x d)
   (w:D.bY j=true/\D.cg d=true/\D.cC j<=190): ∃e:Value->Bool,(∀y,y∈a.toArray->EqAt X.A.in1 s y v (e y))/\a.toArray.any e=n5 j d:=by
 obtain ⟨U,n⟩:=Kl O Q;refine ⟨λy=>decide (∃(i:Nat) (c:D),a[i]?=some y/\j[i]?=some c/\da c d=true),λy Y=>?_,?_⟩
 . have o: ∀(i:Nat) (c:D),a[i]?=some y->j[i]?=some c->EqAt X.A.in1 s y v (da c d):=λi c q k=>by
     obtain ⟨B,p,g,E,J⟩:=n i y q;rw [k] at g;cases g;have t:=g9 k;have Z:=xw t
     exact Zg I c X.A.in1 B x y v d (by
      show X.A.units+1+c.b9<cLine
      omega) J E r N (y4 w.1 t) w.2.1
   dsimp only
   by_cases h: ∃(i:Nat) (c:D),a[i]?=some y/\j[i]?=some c/\da c d=true
   . obtain ⟨i,c,q,k,g⟩:=h;have:=o i c q k;rw [g] at this;rw [decide_eq_true (show∃(i:Nat) (c:D),a[i]?=some y/\j[i]?=some c/\da c d=true from ⟨i,c,q,k,g⟩)];exact this
   . rw [decide_eq_false h];obtain ⟨i,l⟩:=n6.mp (show y∈a by simpa using Y);obtain ⟨B,p,g,E,J⟩:=n i y l;have:=o i p l g
     have e:da p d=false:=by
      cases z:da p d with
      |false=>rfl
      |true=>exact absurd ⟨i,p,l,g,z⟩ h
     rw [e] at this;exact this
 . rw [sJ];unfold n5;rw [sh];simp only [List.any_toArray,sh,decide_eq_true_eq]
   constructor
   . rintro ⟨y,_,i,c,_,k,g⟩;exact ⟨c,g9 k,g⟩
   . rintro ⟨c,t,g⟩;obtain ⟨i,l⟩:=n6.mp t
     have dF:i<a.length:=by
      rw [U];exact (fZ.mp l).1
     exact ⟨a[i],gD dF,i,c,dn dF,l,g⟩
def ue (c:X.A.units+200<cLine):b7 X (f7 .NotIn) (tZ X.K true):=by
 intro a s z H x y v u Q I g i h;obtain ⟨p,B,E,d,rfl,j,k,r,l,q⟩:=h;cases i;obtain ⟨m,n,o,J⟩:=I.list j;obtain ⟨e,t,w⟩:=uF I c g k n r l;refine SeqAt.notIn_listAt e o.isList t ⟨.bl _,H,I,rfl,?_⟩;rw [w];exact q
def ik (neg:Bool):D->D->ao D
 |d,.ag a=>aS (D.bY a=true/\D.cg d=true/\D.cC a<=190) (.ok (.bl (if neg then !n5 a d else n5 a d)))
 |_,_=> .aj
def HE (neg:Bool):eH K (tZ K neg) (ik neg):=by
 intro x y H a b d Q c g e q;unfold ik at e
 split at e
 . obtain ⟨h,e2⟩:=ju e;cases e2;obtain ⟨p,i,rfl,j,_,k⟩:=g.c7;exact ⟨p,i,_,_,rfl,.of j,k.az (λ_ _=>trivial),c,h,q _ (gB _)⟩
 . cases e
end
end M
namespace M
open PySem PySem.Spec L2
open PyProof.Rows hiding St
section
variable {X:Cx} {id:String} {r:List V->Hp->VK->Prop} {g:TC} {x:Str} {p pos:Pos} {e:Expr} {Z:List Expr} {Y:TD}
def yf (d:bf X (.builtin id) r) (i:JU X.K r g) (j:Gl X x) (k:X.mg x=none) (l:gH x=some (.builtin id))
   (m:DA X .s (e::Z) Y) (n:x≠ "__name__" :=by decide) (a:Yj x:=by decide)
   (o:T9 X e Z:=by exact jn rfl) (c:T8 X pos Z:=by exact jB rfl):DE X .t (.Call (.Name x p) (e::Z) [] pos) (app Y g):=by
 with_unfolding_all exact (
  PE.imp (zv d j k l m n a o c) λ_ _ _ h=>Es i h)
variable {ex:Expr} {t:TH}
end
end M
namespace M
open PySem PySem.Spec L2
mutual
def bare:D->D
 | .ah (x::a)=> .ah (x::oR a)
 |_=> .int 0
def oR:List D->List D
 | []=>[]
 |d::r=>bare d::oR r
end
theorem Vr: ∀ {a:List D},(∀t∈a,D.cg t=true)->D.bY a=true
 | [],_=>rfl
 |x::r,h=>by simp only [D.bY,fw];exact ⟨h x (by simp),Vr λd hd=>h d (by simp [hd])⟩
theorem VD: ∀ {ts:List D},(∀t∈ts,D.b9 t<=k)->D.cC ts<=k
 | [],_=>by simp [D.cC]
 |x::r,h=>by
  simp only [D.cC];have:=h x (by simp);have:=VD (ts:=r) λd hd=>h d (by simp [hd])
  omega
def ins (l:List Int) (x:Int):List Int:=if x∈l then l else l++[x]
def met (l a:List Int):List Int:=a.foldl ins l
def nM (n:Nat):List Int->List D
 | []=>[]
 |_::r=> .int n::nM (n+1) r
section
variable {ns:List Str}
def Cy (l:List Hd) (a:Hd):List Hd:=if a∈l then l else l++[a]
def il (l a:List Hd):List Hd:=a.foldl Cy l
def y6 {c:Type} {f:c->D} (h: ∀a,D.cg (f a)=true) (l:List c):D.bY (l.map f)=true:=Vr λt d=>by
 obtain ⟨a,_,rfl⟩:=b8.mp d;exact h a
def y8 {c:Type} {f:c->D} (h: ∀a,D.b9 (f a)<=k) (l:List c):D.cC (l.map f)<=k:=VD λt d=>by
 obtain ⟨a,_,rfl⟩:=b8.mp d;exact h a
end
end M
namespace M
open PySem PySem.Spec L2
open PyProof.Rows hiding St
def zj:gH "divmod" =some (.builtin "divmod"):=by decide+kernel
def za:List D->ao D
 | [.int i,.int j]=>aS (0<j/\j<1073741824) (.ok (.ah [.int (i/j),.int (i%j)]))
 |_=> .aj
def xi {K:ay}:JU K (λa H Q=> ∃i j,a=[.int i,.int j]/\nJ i j/\ ∀p,H p=none->Q (.ref p) (aJ H p (.ah [.int (i/j),.int (i%j)]))) za:=by
 intro A a H l d Q r e q;unfold za at e
 split at e
 . obtain ⟨g,e2⟩:=ju e;cases e2;obtain ⟨v,m,rfl,h,k⟩:=r.al;cases h.cc;cases k.cc;exact ⟨_,_,rfl,g,λp c=>q _ _ (am.aJ c) (.ah jr (.cons (.int _) (.cons (.int _) .nil))) (qm (am.refl H) c)⟩
 . cases e
end M
namespace M
open PySem PySem.Spec L2
open Classical in
noncomputable instance HF:DecidableEq D:=λa b=>propDecidable (a=b)
mutual
def nb:D->Bool
 | .int _=>true
 | .str _=>true
 | .ah a=>si a
 |_=>false
def si:List D->Bool
 | []=>true
 |d::r=>nb d&&si r
end
def EO (a:D):Prop:=nb a=true-> ∀b,nb b=true->(da a b=true↔a=b)
theorem XJ: ∀ {c:List D},(∀a∈c,EO a)->si c=true-> ∀bs,si bs=true->(cy c bs=true↔c=bs)
 | [],_,_,[],_=>by simp [cy]
 | [],_,_,b::bs,_=>by simp [cy]
 |a::c,_,_,[],_=>by simp [cy]
 |a::c,h,d,b::bs,e=>by
  simp only [si,fw] at d e;simp only [cy,fw,AT];rw [h a (by simp) d.1 b e.1,XJ (λx g=>h x (by simp [g])) d.2 bs e.2]
def Vu (a:D):EO a:=by
 refine D.ind ?_ ?_ ?_ ?_ ?_ ?_ ?_ ?_ a
 . intro h;simp [nb] at h
 . intro b h;simp [nb] at h
 . intro i _ b e;cases b<;>first| (simp [nb] at e;done)|simp [WU]
 . intro x _ b e;cases b<;>first| (simp [nb] at e;done)|simp [WU]
 . intro d j k b e
   cases b with
   |ah l=>
    simp;exact XJ j (by simpa only [nb] using k) l (by simpa only [nb] using e)
   |int i=>simp [WU]
   |str x=>simp [WU]
   |_=>simp [nb] at e
 . intro d _ h;simp [nb] at h
 . intro d _ h;simp [nb] at h
 . exact ⟨λg d _ h=>by simp [nb] at h,λg d _ h=>by simp [nb] at h,λc h=>by simp [nb] at h,λg d _ h=>by simp [nb] at h,λg d _ h=>by simp [nb] at h,λc m d _ h=>by simp [nb] at h,λB n h=>by simp [nb] at h,λd h=>by simp [nb] at h⟩
end M
namespace M
open PySem PySem.Spec L2
open PyProof.Rows hiding St
def Jr (x:aT P w H h a o): ∃ob,h.get? a=some ob:=by
 cases o with
 |ag d=>obtain ⟨_,_,_,_,e⟩:=x;exact ⟨_,e⟩
 |ah d=>obtain ⟨_,_,_,ob,e,_⟩:=x;exact ⟨_,e⟩
 |dK c=>obtain ⟨_,_,_,_,o,_,_,e,_⟩:=x;exact ⟨_,e⟩
 |dT c=>obtain ⟨_,_,_,_,o,_,_,e,_⟩:=x;exact ⟨_,e⟩
 |set S n=>obtain ⟨o,_,_,_,e,_⟩:=x;exact ⟨_,e⟩
 |ins C dx fs=>obtain ⟨_,_,_,e,_⟩:=x;exact ⟨_,e⟩
 |av y=>exact x
 |xd fs=>obtain ⟨_,⟨_,_,_,e,_⟩,_⟩:=x;exact ⟨_,e⟩
 |Ag lo g=>obtain ⟨_,_,_,e⟩:=x;exact ⟨_,e⟩
 |bd ob u=>obtain ⟨e,_⟩:=x;exact ⟨_,e⟩
 |nF i=>exact ⟨_,(show h.get? a=some _ from x)⟩
 |met f y=>exact ⟨_,(show h.get? a=some _ from x)⟩
 |ext j=>obtain ⟨_,z,_⟩:=x;exact z
 |memo B k=>obtain ⟨_,_,_,_,o,_,_,e,_⟩:=x;exact ⟨_,e⟩
 |cr l=>obtain ⟨_,_,⟨_,e⟩,_⟩:=x;exact ⟨_,e⟩
def fD (P:bI) (w:World):i0:=λc H s E e d=> ∃(a C:Addr) (g:Hp) (B:Heap) (h:Value),e= .ref a/\d.os=s.os/\m5 d.gens/\Un (cJ c) [] H g s.heap d.heap/\cM P w g d.heap/\g a=none/\
 Heap.FlyingW B c a (.ref C) h d.heap/\(∀b,b∉cJ c->((∃o,s.heap.get? b=some o)\/ ∃u,g b=some u)->B.get? b=d.heap.get? b)/\E (.ref C) none g
section
variable {P:bI} {w:World} {K:ay} {mg:Xd} {ae:Heap} {N:List Str} {Q:Str} {U:Scope} {f:Addr} {y:Value} {A:bV} {outer:List Env} {O:aB} {L:Hp} {E:XK}
 {p:List (Addr×Obj)} {m:L2.St} {H:Hp} {s:aB}
def K4 (I:aq (bH (fD P w) P w K mg ae N Q U f y A outer O L E) p m H {s with heap:=h})
   (fl:Heap.FlyingW B outer a cls a0 J) (j: ∀b o,h.get? b=some o->b∉cJ (bH (fD P w) P w K mg ae N Q U f y A outer O L E).stack->((∃o,O.heap.get? b=some o)\/ ∃u,H b=some u)->B.get? b=some o)
   (up: ∀b o,b∈cJ (bH (fD P w) P w K mg ae N Q U f y A outer O L E).stack->h.get? b=some o->(∀vs,o.data≠ .fields vs)-> ∃Y,J.get? b=some {o with slots:=Y}):
   Un (cJ outer) [] L H O.heap J/\cM P w H J/\ ∀b,b∉cJ outer->((∃o,O.heap.get? b=some o)\/ ∃u,H b=some u)->B.get? b=J.get? b:=by
 have Z: ∀b o,O.heap.get? b=some o->b∉cJ outer->b∉cJ (bH (fD P w) P w K mg ae N Q U f y A outer O L E).stack:=λb o q d t=>by
   rcases dP.mp (I.fY b t) with e|e
   . have g:O.heap.objs.size<=b:=by rw [e];exact I.ok.above
     exact lC _ (eE (bX q) g)
   . exact d e
 have rH: ∀b u,H b=some u->b∉cJ (bH (fD P w) P w K mg ae N Q U f y A outer O L E).stack:=λb u q t=>by
   have:=I.df b t;rw [q] at this;cases this
 have k:Un (cJ outer) [] L H O.heap h:=I.ae;have FF:=I.stack
 have sub: ∀b∈cJ outer,b∈cJ (bH (fD P w) P w K mg ae N Q U f y A outer O L E).stack:=λb d=>by
   show b∈cJ (gx Q U O.heap.objs.size f y::outer);unfold cJ at d ⊢;rw [sL]
   split
   . exact d
   . exact dC _ d
 have i: ∀b o,b∈cJ (bH (fD P w) P w K mg ae N Q U f y A outer O L E).stack->h.get? b=some o-> ∃Y,J.get? b=some {o with slots:=Y}:=λb o d q=>by
   obtain ⟨_,l,t0,hd⟩:=FF.mem d;rw [q] at t0;cases t0;exact up b o d q hd
 refine ⟨⟨λb o q n d _=>?_,λb o q n d _=>?_,λb o q n _=>k.free b o q n (by simp),λb o q _=>?_,k.dr,k.cY,k.du⟩,λb u q=>?_,λb d hc=>?_⟩
 . have g:=k.keep b o q n d (by simp);exact fl.1 b o (j b o g (Z b o q d) (.inl ⟨o,q⟩))
 . obtain ⟨Y,g⟩:=k.slot b o q n d (by simp);obtain ⟨HG,h2⟩:=i b _ (sub b d) g;exact ⟨HG,h2⟩
 . obtain ⟨l,g⟩:=k.there b o q (by simp)
   by_cases t:b∈cJ (bH (fD P w) P w K mg ae N Q U f y A outer O L E).stack
   . obtain ⟨Y,h2⟩:=i b l t g;exact ⟨_,h2⟩
   . exact ⟨l,fl.1 b l (j b l g t (.inl ⟨o,q⟩))⟩
 . have h0:=I.aP b u q;refine h0.aV (λc v hc r=>?_) (λ_ z=>z) λ_ _ z=>z
   have ht: ∃u,H c=some u:=by
     rcases hc with z|z
     . rw [z];exact ⟨u,q⟩
     . exact ⟨_,z⟩
   obtain ⟨u',EQ⟩:=ht;exact fl.1 c v (j c v r (rH c u' EQ) (.inr ⟨u',EQ⟩))
 . have ht: ∃o,h.get? b=some o/\b∉cJ (bH (fD P w) P w K mg ae N Q U f y A outer O L E).stack:=by
     rcases hc with ⟨o,q⟩| ⟨u,q⟩
     . obtain ⟨l,g⟩:=k.there b o q (by simp);exact ⟨l,g,Z b o q d⟩
     . obtain ⟨ob,g⟩:=Jr (show aT P w H h b u from I.aP b u q);exact ⟨ob,g,rH b u q⟩
   obtain ⟨o,g,h2⟩:=ht;have h3:=j b o g h2 hc;rw [h3,fl.1 b o h3]
def YF (I:aq (bH (fD P w) P w K mg ae N Q U f y A outer O L E) p m H {s with heap:=h}) (c:Heap.MadeExcOf h s.heap e (.ref C) Y) (l:E (.ref C) none H):
  (bH (fD P w) P w K mg ae N Q U f y A outer O L E).xe (.ref e) s:=by
 have n:=I.stack
 have d:h.FunFrames (PySem.W.hideAll h (cJ (bH (fD P w) P w K mg ae N Q U f y A outer O L E).stack)) (bH (fD P w) P w K mg ae N Q U f y A outer O L E).stack:=
  PySem.W.funFrames_hide n λg r b a=>An.mpr ⟨g,r,a⟩
 have i:H e=none:=by
  cases q:H e with
  |none=>rfl
  |some u=>
   obtain ⟨ob,z⟩:=Jr (show aT P w H h e u from I.aP e u q);rw [c.new] at z;cases z
 refine wpAny_leaves_madeW I.ok.frames rfl (λb o q=>PySem.W.of_hideAll _ q) d c λZ t k ah hn j=>?_
 obtain ⟨v,B,J⟩:=K4 I k (λb o q a _=>PySem.W.hideAll_get _ q a) λb o a q hd=>j b o (c.keeps b o q) hd
 exact ⟨e,C,H,_,_,rfl,I.os,I.bare,v,B,i,k,J,l⟩
def UP (I:aq (bH (fD P w) P w K mg ae N Q U f y A outer O L E) p m H s) (c:fD P w (bH (fD P w) P w K mg ae N Q U f y A outer O L E).stack H s n e r)
  (t: ∀C d,n (.ref C) none d->E (.ref C) none d):(bH (fD P w) P w K mg ae N Q U f y A outer O L E).xe e r:=by
 obtain ⟨a,C,d,B,u,rfl,os,bare,un,i,v,Y,j,k⟩:=c;have J:=I.fR os un i bare λb h=>absurd h (by simp)
 refine wpAny_leaves_onW J.ok.frames rfl Y λh' g l=>?_
 have Z:Un (cJ outer) [] L H O.heap s.heap:=I.ae
 obtain ⟨u1,u2,u3⟩:=K4 J g (λb o q h hc=>by
  rw [j b h ?_,q];rcases hc with ⟨o',z⟩|z
  . obtain ⟨o2,z2⟩:=Z.there b o' z (by simp);exact .inl ⟨o2,z2⟩
  . exact .inr z) λb o h q hd=>l b o q hd
 exact ⟨a,C,d,B,u,rfl,J.os,J.bare,u1,u2,v,g,u3,t C d k⟩
end
abbrev gn (K:ay) (c:Str) (C:Addr):Prop:=bM K bv c=some (some (.ref C))
def XE (K:ay) (c:Str) (H:Hp):XK:=λcls _ a=> ∃C,cls= .ref C/\gn K c C/\am H a
def p6 (X:Cx) (c:Str) (h:L2.St) (H:Hp):Prop:= ∀a d s e g,am H d->aq X a h d s->fD X.prog X.w X.stack d s (XE X.K c d) e g->X.xe e g
def t1 (X:Cx) (c:Str) (d:Hp):Prop:= ∀a g H (s:aB) h e C i,am d H->gn X.K c C->aq X a g H {s with heap:=h}->Heap.MadeExcOf h s.heap e (.ref C) i->X.xe (.ref e) s
structure AU (X:Cx) (c:Str) (H0:Hp):Prop where
 a:t1 X c H0
 b: ∀σ H,am H0 H->p6 X c σ H
def HH (X:Cx) (l:Lv) (f:TJ):TE:=λe H Q=> ∃G h a,ar X.K G h a e H/\
 ((∃d,f a= .ok d/\ ∀v g,am H g->aA X.K (l.A G a e) g v d->l.T H v->Q v g)\/ ∃c,f a= .exc c/\p6 X c e H)
@[irreducible] def n8 (X:Cx) (l:Lv) (e:Expr) (f:TJ):Prop:=PE X e (HH X l f)
def AV {c:Type} (r:ao c):ao c:=match r with
 | .ok a=> .ok a
 |_=> .aj
def KM {d:Type} {r:ao d} {a:d} (h:AV r= .ok a):r= .ok a:=by
 cases r with
 |ok b=>exact h
 |exc c=>cases h
 |aj=>cases h
def KN {a:Type} {r:ao a} (h:AV r= .exc c):False:=by
 cases r<;>cases h
def X2 {e g:Type} {r:ao e} {f:e->ao g} (h:(r>>=f)= .exc c):r= .exc c\/ ∃a,r= .ok a/\f a= .exc c:=by
 cases r with
 |ok a=>exact .inr ⟨a,rfl,h⟩
 |exc d=>cases h;exact .inl rfl
 |aj=>cases h
def ER (f:TJ):Sl->ao D:=λa=>AV (f a)
def HI {c:Array DictEntry} (h:StrKeys c): ∃l:List Str,∀x,x∉l->nsFind c x=none:=by
 have go: ∀r:List DictEntry,(∀e∈r,∃n t,e.key= .str n t)-> ∃l:List Str,∀e∈r,∀x,e.key.isStr x=true->x∈l:=by
   intro r
   induction r with
   |nil=>exact λ_=>⟨[],λ_ h=>by cases h⟩
   |cons e r g=>
    intro h;obtain ⟨l,d⟩:=g λe he=>h e (dC _ he)
    obtain ⟨n,t,i⟩:=h e dB;refine ⟨n::l,λj he x a=>?_⟩;rcases dP.mp he with rfl|he
    . rw [i] at a;exact dP.mpr (.inl (Value.isStr_inj (.str n t) x n a (beq_self_eq_true n)))
    . exact dC _ (d j he x a)
 obtain ⟨l,d⟩:=go c.toList λe he=>h e (Aq.mp he)
 refine ⟨l,λx a=>?_⟩;unfold nsFind findBy;rw [Array.find?_eq_none.mpr λe he=>?_]
 . rfl
 . exact λz=>a (d e (Aq.mpr he) x z)
def uM {K:ay} (p:bI) (M:Mod K U h) (m:gn K c C) (q:t3 K C e a=true):
  ∃j N n r bs d t sub u i v w y z B E k,h.get? C=some (excClassObj n r C N bs j d t sub u i v w y z B E a)/\h.Ns N k/\k "__init__" =none/\OwnTail h e j:=by
 have g:=M.glob;obtain ⟨o,Y,Z,h1,h2,H,I⟩:=g;obtain ⟨mb,J,L⟩:=M.blt;obtain ⟨l,O⟩:=HI H;exact (PySem.W.own_of_in (p:=p) M.oD ⟨M.glob,J,M.nolimit,L,λx _ Q _ _ _=>(I x).symm.trans (O x Q)⟩ m q).obj
def Yl (Q:gn X.K c C) (hm:X.mg c=some (.ref C)) (hq:t3 X.K C bm i=true) (FB:ExcBaseFacts B i n bm)
   (ha:DE X l a f) (t: ∀h,∃d,f h= .ok d) (j:X.bG=true) (hg:Gl X c) (w:Yj c)
   (U:bp [a] X.env=(false,eval a X.env)::bp [] X.env)
   {o:L2.St} (I:aq X g o H s) (k:ar X.K G H0 h o H) (th:t1 X c H):
   wpAny (model X.prog X.w) X.A (exec (.Raise (some (.Call (.Name c np) [a] [] Y)) none pos) X.env) (λfl y=>SP X g E fl y) X.xe s:=by
 with_unfolding_all exact (by
  obtain ⟨d,hd⟩:=t h;obtain ⟨tl,N,nm,qn,bs,m,sn,sub,ab,z,dd,k0,k1,k2,k3,k5,mN,J,hN,L,T⟩:=uM X.prog I.ok.mod Q hq
  refine wpAny_Raise_call_subT (nm:=nm) (q:=qn) (N:=N) (bs:=bs) (hdct:=m) (sn:=sn) (sub:=sub) (ab:=ab) (col:=z) (dd:=dd) (k0:=k0) (k1:=k1) (k2:=k2) (k3:=k3) (k5:=k5)
   FB (T.hasType FB.hasBase) (I.ok.hd j) (by rw [U];rfl) L (yB I hg hm ⟨rfl,?_⟩ w)
  rw [U];refine Calls.evalArgs_plain (Calls.spliced_cons (bn ((show PE X a (tE X.K l f) from ha) g s o H (λv O=>am H O) I ⟨G,H0,h,d,k,hd,λv H' y _ _=>y⟩) λu Z ⟨v,O,p,r,sm⟩=>Calls.spliced_nil ?_))
  exact ⟨rfl,(by decide:1<=aR),p.bk _ _ J,hN.keeps p.bk,T.keeps p.bk,λh' e hx=>th g o O {Z with heap:=h'} Z.heap e C _ sm Q p hx⟩)
def ES (X:Cx) (g:TF):TS:=λE d H=> ∃G e a,ar X.K G e a d H/\((∃o,g a= .ok o/\l0 X.K G e a d H E o)\/ ∃c,g a= .exc c/\p6 X c d H)
@[irreducible] def ET (X:Cx) (st:Stmt) (g:TF):Prop:=PS X st (ES X g)
@[irreducible] def t4 (X:Cx) (st:List Stmt) (g:TF):Prop:=cb X st (ES X g)
section
variable {X:Cx} {e c tg:Expr} {st:Stmt} {rest body orelse:List Stmt} {pos:Pos} {l:Lv} {f:TJ} {g B g2:TF}
def kh (a:ET X st B):t4 X [st] B:=by
 with_unfolding_all exact (cb.imp (QM a) λE d H q=>q)
def kg (i:Nat) {a:Pos} (p:X.N.Nodup) (h:n8 X .s e f) (t:X.N[i]?=some x:=by rfl) (u:Loc X.env.scope x:=by exact dI rfl) (w:gw e (some (.Name x a)) pos.line X.env=pure false:=by rfl)
   (y:T7 X x:=by first|exact .inl rfl|exact .inr rfl|assumption):ET X (.Assign [.Name x a] e pos) (jL i f):=by
 with_unfolding_all exact (
  PS.imp (ZE p t u h w y) λE L H=>by
   rintro ⟨G,n,j,k,q⟩;rcases q with ⟨o,m,q⟩| ⟨c,m,I⟩
   . obtain ⟨d,e1,e2⟩:=je m;cases e2;exact ⟨G,n,j,k,.inl ⟨d,e1,λv J s r _=>q _ J ((k.ap s).en r) (.set s λ_ _ z _=>by cases z)⟩⟩
   . rcases X2 m with e1| ⟨d,e1,e2⟩
     . exact ⟨G,n,j,k,.inr ⟨c,e1,I⟩⟩
     . cases e2)
end
abbrev Cx.kb (X:Cx) (E:Ws) (ps:List (Addr×Obj)):Cx:={X with xe:=E,pn:=X.pn++ps}
abbrev Cx.held (X:Cx) (e:Addr):Cx:={X with xe:=λ_ _=>False,A:=X.A.mark (some (.ref e)),bG:=false}
section
variable {X:Cx} {Z ps:List (Addr×Obj)} {Y:L2.St} {H:Hp} {s:aB} {E:Ws} {e:Addr}
def HJ (ok:X.Ok):(Cx.kb X E ps).Ok:=⟨ok.mod,ok.kind,ok.glob,ok.blt,ok.above,ok.inj,ok.has,ok.nG,ok.hd,ok.frames,ok.oE,ok.oF,ok.bs,ok.iV,ok.fF,ok.fX,ok.dw,ok.lR⟩
def UD (ok:(Cx.kb X E ps).Ok):X.Ok:=⟨ok.mod,ok.kind,ok.glob,ok.blt,ok.above,ok.inj,ok.has,ok.nG,ok.hd,ok.frames,ok.oE,ok.oF,ok.bs,ok.iV,ok.fF,ok.fX,ok.dw,ok.lR⟩
def uE (I:aq X Z Y H s):aq (Cx.kb X E Z) [] Y H s:=⟨HJ I.ok,I.os,I.bare,I.ae,I.loc,I.cell,I.free,I.bW,λp a=>I.pin p (by simpa using a),I.aP,I.len⟩
def wR (I:aq (Cx.kb X E Z) ps Y H s):aq X Z Y H s:=⟨UD I.ok,I.os,I.bare,I.ae,I.loc,I.cell,I.free,I.bW,λp a=>I.pin p (o7 _ a),I.aP,I.len⟩
def yY {D:Ends} (h:SP (Cx.kb X E Z) [] D f d):SP X Z D f d:=by
 cases f with
 |next=>obtain ⟨a,c,I,q⟩:=h;exact ⟨a,c,wR I,q⟩
 |brk=>obtain ⟨a,c,I,q⟩:=h;exact ⟨a,c,wR I,q⟩
 |cont=>obtain ⟨a,c,I,q⟩:=h;exact ⟨a,c,wR I,q⟩
 |ret u=>obtain ⟨v,a,c,I,r,q⟩:=h;exact ⟨v,a,c,wR I,r,q⟩
def uh (ok:X.Ok):(Cx.held X e).Ok:=⟨ok.mod,ok.kind,ok.glob,ok.blt,ok.above,ok.inj,ok.has,ok.nG,(λz=>nomatch z),ok.frames,ok.oE,ok.oF,ok.bs,ok.iV,ok.fF,ok.fX,ok.dw,ok.lR⟩
def Q9 (I:aq X Z Y H s):aq (Cx.held X e) Z Y H s:=⟨uh I.ok,I.os,I.bare,I.ae,I.loc,I.cell,I.free,I.bW,I.pin,I.aP,I.len⟩
def xt (ok:X.Ok) (I:aq (Cx.held X e) Z Y H s):aq X Z Y H s:=⟨ok,I.os,I.bare,I.ae,I.loc,I.cell,I.free,I.bW,I.pin,I.aP,I.len⟩
def Zc (I:aq X Z Y H s) (hN:X.N.Nodup) (U:X.N[i]?=some x) (hk:X.env.scope.names.lookup x=some .local)
   (h: ∀s',aq X Z (Y.set i none) H s'->Q () s'):wpAny M A (do bindName X.env x .none;unbindBehindTheSuite X.env x pos) Q E s:=by
 obtain ⟨m,hn,hl⟩:=id I.loc;have t:(X.env.scope.kind== .class|| (X.env.scope.kind== .module&&X.env.locals !=X.env.globals))=false:=by rw [I.ok.kind];rfl
 have u:i<Y.length:=by rw [I.len];exact (fZ.mp U).1
 have lS:=I.lS
 have g: ∀ {a:Addr} {B:Heap},(∃o,s.heap.get? a=some o/\H a=none)->nH a s.heap B->cM X.prog X.w H B:=λ{a B} ha r b ob e=>by
   obtain ⟨_,_,l⟩:=ha;refine (I.aP b ob e).aV (λc w' hc q=>(r.2 c ?_).trans q) (λ_ q=>q) λ_ _ q=>q
   rintro rfl;rcases hc with rfl|hc
   . rw [l] at e;cases e
   . rw [l] at hc;cases hc
 refine wpAny_nameGoes_keeps hk hn t λB v J r=>?_
 obtain ⟨oL,_,_,L,_⟩:=id hn;refine h _ ⟨I.ok,I.os,I.bare,⟨λb o e n N w=>?_,λb o e n N w=>?_,I.ae.free,λb o e w=>?_,I.ae.dr,I.ae.cY,I.ae.du⟩,⟨_,J,λj y v' e1 e2 e3=>?_⟩,λy c e=>?_,I.free,I.bW,λp hp=>?_,g ⟨oL,L,I.free⟩ r,by simpa using I.len⟩
 . exact (r.2 b (dN (eE (bX e) I.ok.above))).trans (I.ae.keep b o e n N w)
 . obtain ⟨sl,e1⟩:=I.ae.slot b o e n N w;exact ⟨sl,(r.2 b (dN (eE (bX e) I.ok.above))).trans e1⟩
 . obtain ⟨o',e1⟩:=I.ae.there b o e w;exact ⟨o',(r.2 b (dN (eE (bX e) I.ok.above))).trans e1⟩
 . by_cases O:j=i
   . subst O;rw [lT u] at e2;cases e2
   . rw [Ai (m6 O)] at e2;obtain ⟨u',r',q⟩:=hl j y v' e1 e2 e3;refine ⟨u',r',?_⟩;rcases q with ⟨k,e⟩| ⟨k,c,e,z⟩
     . refine .inl ⟨k,?_⟩;have:y≠x:=λe=>O (Q4 hN e1 (e▸U))
       simp [this,e]
     . exact .inr ⟨k,c,e,z.sameBut r (lS y c e)⟩
 . obtain ⟨w',z⟩:=I.cell y c e;exact ⟨w',z.sameBut r (lS y c e)⟩
 . obtain ⟨e,n,ne,nf,d⟩:=I.pin p hp;exact ⟨(r.2 p.1 ne).trans e,n,ne,nf,d⟩
end
def WN {B:Heap} (un:Un (cJ a) [] H j h l) (y:cM P w j l) (O: ∀b∈cJ a,j b=none)
   (e: ∀b,b∉cJ a->((∃o,h.get? b=some o)\/ ∃u,j b=some u)->B.get? b=l.get? b) (Q:l.FunFrames L a) (st:B.StaysIn p) (U:l.UpToSlots p):
   Un (cJ a) [] H j h p/\cM P w j p:=by
 have d: ∀b o,b∈cJ a->l.get? b=some o-> ∃E,p.get? b=some {o with slots:=E}:=λb o g q=>by
   obtain ⟨_,t,m,hd⟩:=Q.mem g;rw [q] at m;cases m;exact U b o q hd
 refine ⟨⟨λb o q n g _=>?_,λb o q n g _=>?_,un.free,λb o q _=>?_,un.dr,un.cY,un.du⟩,λb u q=>?_⟩
 . have k:=un.keep b o q n g (by simp);exact st b o ((e b g (.inl ⟨o,q⟩)).trans k)
 . obtain ⟨E,k⟩:=un.slot b o q n g (by simp);obtain ⟨I,J⟩:=d b _ g k;exact ⟨I,J⟩
 . obtain ⟨t,k⟩:=un.there b o q (by simp)
   by_cases N:b∈cJ a
   . obtain ⟨E,J⟩:=d b t N k;exact ⟨_,J⟩
   . exact ⟨t,st b t ((e b N (.inl ⟨o,q⟩)).trans k)⟩
 . refine (y b u q).aV (λc v Y r=>?_) (λ_ z=>z) λ_ _ z=>z
   have Z: ∃u,j c=some u:=by
     rcases Y with z|z
     . rw [z];exact ⟨u,q⟩
     . exact ⟨_,z⟩
   obtain ⟨u',i⟩:=Z;have nm:c∉cJ a:=λz=>by rw [O c z] at i;cases i
   exact st c v ((e c nm (.inr ⟨u',i⟩)).trans r)
section
variable {K:ay} {G:Xc} {I H:Hp} {env:Sl} {J:L2.St} {j:Nat}
def Jk (o:jQ (env.set j .un) (J.set j g) a):jQ env J a:=by
 obtain ⟨i,d,c,e⟩:=o
 by_cases z:j=i
 . subst z;obtain ⟨q,_⟩:=jp c;cases q
 . rw [ji z] at c e;exact ⟨i,d,c,e⟩
def ar.unset (k:ar K G I env J H):ar K G I (env.set j .un) (J.set j p) H:=by
 have w: ∀a,Sf G env J a->Sf G (env.set j .un) (J.set j p) a:=λa n=>⟨λo=>n.1 (Jk o),n.2⟩
 refine ⟨by simp [k.len],k.ae,k.g0,λi e h=>?_,λi e h=>?_,λi l e r a c d g m=>?_⟩
 . by_cases z:j=i
   . subst z;obtain ⟨q,_⟩:=jp h;cases q
   . rw [ji z] at h ⊢;obtain ⟨t,c,d⟩:=k.ak i e h;exact ⟨t,c,d.az w⟩
 . by_cases z:j=i
   . subst z;obtain ⟨q,_⟩:=jp h;cases q
   . rw [ji z] at h ⊢;obtain ⟨a,c,d,g⟩:=k.av i e h;exact ⟨a,c,d,g.aV (λ_ _ e _=>e) w λ_ q=>q⟩
 . have u:j≠i:=by rintro rfl;obtain ⟨q,_⟩:=jp c;cases q
   have v:j≠l:=by rintro rfl;obtain ⟨q,_⟩:=jp d;cases q
   rw [ji u] at c g;rw [ji v] at d m;exact k.lZ i l e r a c d g m
def bt.unset:bt env J H (env.set j .un) (J.set j a) H:=⟨λ_ _ e _=>e,λb o=> .inl (Jk o),λ_ e=>e⟩
end
def t5 (j:Nat):bF->bF
 | .nx a=> .nx (a.set j .un)
 | .bk a=> .bk (a.set j .un)
 | .ct a=> .ct (a.set j .un)
 | .rt c d=> .rt c d
def io (d:List Str) (g:TF) (j:Nat) (e:TF):Sl->ao bF:=λa=>match g a with
 | .ok o=> .ok o
 | .exc c=>if d.contains c=true then e (a.set j (.ak (.di c)))>>=λo=> .ok (t5 j o) else .aj
 | .aj=> .aj
def HK (un:Un fs [] H g h i) (j:cM P w g i) (t:h.get? a=none) (d:g a=none) (l:i.get? a=some k):
   Un fs [] H (aJ g a (.bd k (.av a))) h i/\cM P w (aJ g a (.bd k (.av a))) i:=by
 refine ⟨⟨un.keep,un.slot,λb o q n y=>?_,un.there,λb p q=>?_,λb o u q=>?_,λb z q=>?_⟩,λb u e=>?_⟩
 . rw [jF (by rintro rfl;rw [t] at q;cases q)];exact un.free b o q n y
 . have:=un.dr b p q;rw [jF (jJ this d)];exact this
 . have:=un.cY b o u q;rw [jF (jJ this d)];exact this
 . obtain ⟨m,e⟩:=un.du b z q;exact ⟨m,by rw [jF (jJ e d)];exact e⟩
 . by_cases r:b=a
   . subst r;rw [jr] at e;cases e;exact ⟨l,k,l⟩
   . rw [jF r] at e;exact (j b u e).aV (λc v _ q=>q) (λc q=>by rw [jF (jJ q d)];exact q) λc p q=>by rw [jF (jJ q d)];exact q
section
open PySem.W PySem.Calls
def uB {K:Frag} {H:Heap->Prop} (o: ∀(M:Model) (h:Heap),K.In h->H h->Looks M h (typeOf x) t) (e:eV K t c=some true):Answers (λs=>K.In s.heap/\H s.heap) x c true:=by
 intro b9 v a w A R s r;obtain ⟨n,g,d,i,os⟩:=s;obtain ⟨⟨X,p⟩,j⟩:=r;have LT:=o (model a w) n X p;unfold eV at e;unfold lN.«isinstance.nested»;refine ax (LT.at ?_)
 by_cases q:(t==c)=true
 . rw [if_pos q]
   first
    | ((repeat lk);exact j i)
    |exact ax (r9 (j i))
    |exact ax (r9 (aM (j i)))
 . rw [if_neg q] at e;rw [if_neg q];obtain ⟨l,m,k⟩:=kit_cls X e;have u:Looks (model a w) n (isInstance x c) true:=LT.andThen k;refine ax (l.at ?_);rw [if_pos (by decide)]
   k_delta "plainIsInstance"
   refine ax (ax (m.at ?_));simp;refine ax (u.at ?_)
   first
    |exact aM (aM (j i))
    | (simp;first|exact aM (aM (j i))|exact aM (j i)|exact ax (aM (aM (j i))))
def Va {K:Frag} {H:Heap->Prop} (d: ∀(M:Model) (h:Heap),K.In h->H h->Looks M h (typeOf x) t)
  (X:K.In s.heap) (p:H s.heap) (e:eV K t c=some true) (g:x≠ .builtin "__main__.__loader__#opaque") (h: ∀i,Q (.bool true) {s with toks:=i}):
  wpAny (model a w) A (call (.builtin "isinstance") [x,c]) Q E s:=
 call_isinstance
  (λa w A R s j=>isinstance_outer (uB d e 0 _ a w A R s j) g) ⟨⟨X,p⟩,h⟩
end
section
variable {X:Cx}
def XZ (d:List Str) {e:Value} (j: ∀u,aG cV u->u=e) (k: ∀c,d.contains c=true-> ∀C,gn X.K c C->eV X.K (.ref C) e=some true):
  bf X (.builtin "isinstance") (λg H Q=> ∃x c,g=[x,cV]/\aA X.K Any H x (.di c)/\d.contains c=true/\Q (.bl true) H):=by
 rintro i s N H g O Q I r ⟨x,c,l,m,n,q⟩;subst l;obtain ⟨u,t,rfl,v,w⟩:=Y3 r;cases j t w
 cases m with
 | @di _ _ a b C o _ y B E=>
  cases (show u=bP a from v);obtain ⟨J,_⟩:=(show aT X.prog X.w H s.heap a (.bd o (.av b)) from I.aP a _ y)
  exact Va (λM h _ p=>by rw [<-B];exact (t6 p).andThen .now) I.dD J (k c n C E) (λz=>nomatch z) λL=>⟨.bl true,H,I.tok L,rfl,q⟩
def p7 (a:List Str):D->ao D
 | .di c=>if a.contains c=true then .ok (.bl true) else .aj
 |_=> .aj
def n9 (c:List Str) (f:TJ):Sl->ao D:=λa=>f a>>=p7 c
def XD (h:p7 e a= .ok d): ∃c,a= .di c/\e.contains c=true/\d= .bl true:=by
 unfold p7 at h
 split at h
 . split at h
   . rename_i g;cases h;exact ⟨_,rfl,g,rfl⟩
   . cases h
 . cases h
def HL (i:List Str) (Ty:Str) {l':Lv} {p g h:Pos} (z: ∀c,i.contains c=true-> ∀C,gn X.K c C->eV X.K (.ref C) (.ref j)=some true) (B:DE X l e f)
   (E:Gl X "isinstance") (I:X.mg "isinstance" =none) (m:Gl X Ty) (n:X.mg Ty=some (.ref j))
   (hd:Yj Ty:=by decide) (y:bp [e,.Name Ty g] X.env=(false,eval e X.env)::bp [.Name Ty g] X.env:=by exact jn rfl)
   (o:bp [.Name Ty g] X.env=(false,eval (.Name Ty g) X.env)::bp [] X.env:=by exact jn rfl) (t:(dO h (bp [.Name Ty g] X.env)).any (·.1)=false:=by exact jB rfl):
   DE X l' (.Call (.Name "isinstance" p) [e,.Name Ty g] [] h) (n9 i f):=by
 with_unfolding_all exact (
  PE.imp (zv (XZ i (cV:= .ref j) (λu r=>r) z) E I tQ (qc B (qc (QR (v:= .ref j) m n rfl hd) wa o) y) (by decide) (by decide) y t) λU H Q=>by
   rintro ⟨G,J,w,d,k,L,q⟩;obtain ⟨a,e1,e2⟩:=je L;refine ⟨G,J,w,a,k,e1,λv N s r _=>?_⟩;obtain ⟨c,rfl,O,rfl⟩:=XD e2
   exact ⟨v,c,rfl,r.az Lv.be,O,q _ N s (.bl true) (gB (K:=X.K) true).T⟩)
def HM (i:List Str) (T:String) (Ty:Str) {l':Lv} {p g h:Pos} (y: ∀c,i.contains c=true-> ∀C,gn X.K c C->eV X.K (.ref C) (.type T)=some true) (z:DE X l e f)
   (B:Gl X "isinstance") (E:X.mg "isinstance" =none) (j:Gl X Ty) (m:X.mg Ty=none) (I:gH Ty=some (.type T)) (J:Ty≠ "__name__" :=by decide)
   (hd:Yj Ty:=by decide) (w:bp [e,.Name Ty g] X.env=(false,eval e X.env)::bp [.Name Ty g] X.env:=by exact jn rfl)
   (n:bp [.Name Ty g] X.env=(false,eval (.Name Ty g) X.env)::bp [] X.env:=by exact jn rfl) (o:(dO h (bp [.Name Ty g] X.env)).any (·.1)=false:=by exact jB rfl):
   DE X l' (.Call (.Name "isinstance" p) [e,.Name Ty g] [] h) (n9 i f):=by
 with_unfolding_all exact (
  PE.imp (zv (XZ i (cV:= .ty T) (λu r=>r) y) B E tQ (qc z (qc (Wz (v:= .ty T) j m I rfl J hd) wa n) w) (by decide) (by decide) w o) λY H Q=>by
   rintro ⟨G,L,t,d,k,N,q⟩;obtain ⟨a,e1,e2⟩:=je N;refine ⟨G,L,t,a,k,e1,λv O s r _=>?_⟩;obtain ⟨c,rfl,U,rfl⟩:=XD e2
   exact ⟨v,c,rfl,r.az Lv.be,U,q _ O s (.bl true) (gB (K:=X.K) true).T⟩)
def YY:gH "dict" =some (.type "dict"):=by decide+kernel
end
end M
namespace PySem.AutoSeq1
open PySem Builtin
def ip (l:Addr) (a:Array Value) (n:Nat) (e:Option Addr) (i:Array (Option Value)) (u:Tok):
  PySem.Meets (lN.«tuple.__mul__» ⟨[.ref l,.int 1 u],[]⟩) (λ_ R s=>s.heap.get? l=some {cls:= .type "tuple",dict:=e,data:= .seq a n,slots:=i}/\R (.ok (.ret (bP l))) s):=
 .of_wp λc w A R s h=>by
  obtain ⟨k,g,d,m,os⟩:=s;obtain ⟨j,h⟩:=h;have o:=idx_int;have p:=sub_tuple_tuple;have q: ¬(decide ((1:Int)< -2^63)||decide ((1:Int)>=2^63))=true:=by decide
  have r:(a.isEmpty|| (1:Int)==1)=true:=by simp
  wp_walk using wpAny_loadPart' j
  exact ⟨_,rfl,h⟩
end PySem.AutoSeq1
namespace M
open PySem PySem.Spec L2
open PyProof.Rows hiding St
section
variable {X:Cx}
def ZB:R2:=λx y H Q=> ∃l k a,x= .ref l/\y= .int k/\H l=some (.ah a)/\k=1/\Q (.ref l) H
def UB:b7 X (eU .Mult) ZB:=by
 intro j s J H x y v u Q I m o h;obtain ⟨l,k,L,rfl,rfl,p,rfl,q⟩:=h;cases m;obtain ⟨t,rfl⟩:=o;obtain ⟨a,r,⟨ob,e,w,n,hd⟩,z⟩:=I.tuple (.of p);obtain ⟨N,c,B,d⟩:=ob;have g:=w;have i:=hd;subst g i
 refine Cq (by decide) ⟨_,e,rfl⟩ (λE=>pE E 1 t) qZ F.fills_int_mul se wn F.slot_int_index.lookup
  (nS se (pE s 1 t) F.entry_int_rmul (F.args_int_rmul_2 _ _) (zA 1 t l a.toArray n c d)
   ⟨e,rfl,⟨_,e,rfl⟩,nS tR ⟨_,e,rfl⟩ F.entry_tuple_mul (Cr _ _) (AutoSeq1.ip l a.toArray n c d t) ⟨e,?_⟩⟩)
 exact ⟨.ref l,H,I,rfl,q⟩
def vL:D->D->ao D
 | .ah a,.int k=>if k=1 then .ok (.ah a) else aS (2<=k/\k<1000000/\a.isEmpty=false/\a.length*k.toNat<=aR) (.ok (.ah (eR k.toNat a).flatten))
 |_,_=> .aj
def UA:b7 X (eU .Mult) (λx y H Q=>Ym X.K x y H Q\/ZB x y H Q):=n3.or UB
def UH {K:ay}:pN K (λx y H Q=>Ym K x y H Q\/ZB x y H Q) vL:=by
 intro A x y H a b d Q g j e q;unfold vL at e
 split at e
 . rename_i r k
   by_cases h:k=1
   . rw [if_pos h] at e;cases e;cases j.cc;have i:=g;obtain ⟨p,t,rfl,l,u⟩:=g.cm;refine .inr ⟨p,k,t,rfl,rfl,l,h,q _ H (am.refl H) (i.az nY) λc e o n m=>?_⟩;cases e;rw [l] at n;cases n;exact m
   . rw [if_neg h] at e;exact .inl (uk A x y H _ _ d Q g j (show p5 (.ah r) (.int k)=_ from e) q)
 . cases e
def yW:gH "ValueError" =some (.type "ValueError"):=by decide+kernel
end
section
variable {X:Cx} {k:Nat} {x:Str} {ps:List Str} {fr:Bool} {F:TC} {e:Expr} {es:List Expr} {p pos:Pos} {g:TD}
def n8.s (h:n8 X .t e f):n8 X .s e f:=by
 with_unfolding_all exact (PE.imp h λi H Q=>by
  rintro ⟨G,a,env,k,q⟩;rcases q with ⟨d,e1,q⟩|z
  . exact ⟨G,a,env,k,.inl ⟨d,e1,λv c s r _=>q v c s r trivial⟩⟩
  . exact ⟨G,a,env,k,.inr z⟩)
end
theorem ai.set {K:ay} {A:Xc} {H:Hp} {v:V} {d:D} (a:aA K A H v d): ∀ {c:List V} {e:List D} (j:Nat),ai K A H c e->ai K A H (c.set j v) (e.set j d)
 |_,_,_,.nil=> .nil
 |_,_,0,.cons _ t=> .cons a t
 |_,_,j+1,.cons h t=> .cons h (ai.set a j t)
def Wq (i:Nat) (e fv:TJ):Sl->ao bF:=λa=>cq i a>>=λc=>fv a>>=λd=>e a>>=λg=>match g with
 | .int n=>match iM c.length n with
  |some j=> .ok (.nx (a.set i (.av (.ag (c.set j d)))))
  |none=> .aj
 |_=> .aj
def XM {X:Cx} {U:Lv} {e1 e2:Expr} {L fv:TJ} {g c p:Pos} {x:Str} (i:Nat) (Y:DE X U e1 L) (Z:DE X .s e2 fv) (hN:X.N[i]?=some x:=by rfl) (z:gJ X.env.scope x:=by exact eK rfl)
   (hd:Yj x:=by decide) (B:Yi x:=by decide)
   (u: ∀v,fT (.Subscript (.Name x p) e1 c) X.env v=(do
    let w<-iW [v] (eval (.Name x p) X.env)
    let I<-iW [v,w] (eval e1 X.env)
    nI c
    iW [v,w,I] (setItem w I v)
    release [v,w,I] []):=by intro _;rfl)
   (hs:sO [.Subscript (.Name x p) e1 c] e2 g.line X.env=pure false:=by rfl) (hw:sP [.Subscript (.Name x p) e1 c] e2 X.env=pure none:=by rfl)
   (h1:(dh [.Subscript (.Name x p) e1 c] X.env).map (·.2)=[fT (.Subscript (.Name x p) e1 c) X.env]:=by rfl):
   DS X (.Assign [.Subscript (.Name x p) e1 c] e2 g) (Wq i L fv):=by
 with_unfolding_all exact (
  PS.imp (Xh Z (F9 (wx hN z hd B) Y Ue u) hs hw h1) λE σ H=>by
   rintro ⟨G,N,h,o,k,l,q⟩;obtain ⟨ds,c1,l⟩:=je l;obtain ⟨d,c2,l⟩:=je l;obtain ⟨kd,c3,e⟩:=je l;have O:=xU c1;obtain ⟨a,xs,u,hx,Q⟩:=xT k O
   cases kd with
   |int n=>
    dsimp only at e
    cases J:iM ds.length n with
    |none=>rw [J] at e;cases e
    |some j=>
     rw [J] at e;cases e;refine ⟨G,N,h,d,k,c2,λv H1 m r1 _=>⟨.ref a,u,G,N,h,.int n,k.ap m,c3,λy H2 r r2 _=>?_⟩⟩;have t:=r _ _ (m _ _ hx);cases (r2.az Lv.be).cc;refine ⟨a,xs,n,j,rfl,rfl,t,by rw [Q.length];exact J,?_⟩;have W:=((k.ap m).ap r).write O u t (ai.set (r1.ap r) j ((Q.ap m).ap r));exact q σ _ W.1 ((W.2.ap r).ap m)
   |_=>cases e)
def vO (K:ay):R2:=λx y H Q=> ∃a b c,x= .ref a/\y= .ref b/\eI K H a []/\eI K H b c/\Q (.ref b) H
def oa:b7 X (eU .Add) (vO X.K):=by
 intro l s U H x y v u Q I p r h;obtain ⟨a,b,Y,rfl,rfl,t,w,q⟩:=h;cases p;cases r;obtain ⟨z,B,E,_⟩:=I.tuple t;obtain ⟨d,Z,J,_⟩:=I.tuple w;cases B;obtain ⟨⟨c,L,data,N⟩,m,o,n,hd⟩:=E;obtain ⟨⟨c2,j,data2,k⟩,e,g,O,i⟩:=J;simp only at o hd g i;subst o hd g i;exact concat_meets ⟨_,m,rfl⟩ ⟨_,e,rfl⟩ noFill_tuple_add seq_tuple_add BO BP (BQ _ _) (tuple_addW0 a b #[] d.toArray n O L j N k rfl) ⟨m,e,⟨.ref b,H,I,rfl,q⟩⟩
def bx:D->D->ao D
 | .ah [],.ah b=> .ok (.ah b)
 |a,b=>bj a b
def qd:b7 X (eU .Add) (λx y H Q=>vO X.K x y H Q\/(gZ (λi j=> .int (i+j)) x y H Q\/(∃i j,x= .str i/\y= .str j/\i.length+j.length<=aR/\Q (.str (i++j)) H)\/lX x y H Q\/Ko X.K x y H Q)):=oa.or qh
def qe {K:ay}:pN K (λx y H Q=>vO K x y H Q\/(gZ (λi j=> .int (i+j)) x y H Q\/(∃i j,x= .str i/\y= .str j/\i.length+j.length<=aR/\Q (.str (i++j)) H)\/lX x y H Q\/Ko K x y H Q)) bx:=by
 intro A x y H a b d Q g h e q;unfold bx at e
 split at e
 . cases e;obtain ⟨l,v,rfl,n,p⟩:=g.cm;obtain ⟨r,t,rfl,c,u⟩:=h.cm;cases p;refine .inl ⟨l,r,t,rfl,rfl,.inl (.of n),.inl (.of c),q _ H (am.refl H) (.ah c (u.az nY)) λa e o k m=>?_⟩;cases e;rw [c] at k;cases k;exact m
 . exact .inr (qW A x y H _ _ d Q g h e q)
inductive HN where
 |nx (env:Sl)|rt (b:Bool) (env:Sl)
abbrev At (c:L2.St) (i:Nat) (a:Addr):Prop:=c[i]?=some (some (V.ref a))
abbrev FI:=List D->List aI->List D->ao (Bool×List aI×List D)
section
variable {X:Cx} {pins:List (Addr×Obj)} {σ:L2.St} {H:Hp} {s:aB} {a:Addr}
def W4 (X:Cx) (a:Addr):Prop:=(∀c,X.gI a≠some (.ah c))/\(∀o u,X.gI a≠some (.bd o u))/\ ∀d,X.gI a≠some (.nF d)
end
section
variable {X:Cx}
def Z9:bf X (.type "int") (λa H Q=> ∃b,a=[.bl b]/\Q (.int (if b=true then 1 else 0)) H):=by
 rintro c s i H a d Q I r ⟨b,e,q⟩;subst e
 obtain ⟨u,rfl,g⟩: ∃u,d=[u]/\aG (.bl b) u:=by
  cases r with|cons h t=>cases t;exact ⟨_,rfl,h⟩
 cases g;exact call_int_bool ⟨.int _,H,I.tok _,⟨_,rfl⟩,q⟩
def Vf:List D->ao D
 | [.bl b]=> .ok (.int (if b=true then 1 else 0))
 |_=> .aj
def VQ {K:ay}:JU K (λa H Q=> ∃b,a=[V.bl b]/\Q (.int (if b=true then 1 else 0)) H) Vf:=by
 intro A a H g d Q r e q;unfold Vf at e
 split at e
 . cases e;obtain ⟨v,rfl,c⟩:=r.one;exact ⟨_,by rw [c.oK],q _ H (am.refl H) (.int _) (AM (iP (K:=K) _))⟩
 . cases e
def Cz:D->Option Int->Option Int->ao D
 | .aU a,lo,c=> .ok (.ag (cutD a lo c))
 |_,_,_=> .aj
def VE {lo:Option Expr} (u:DE X .s e f) (v:DO X lo w) (y:DO X B E):
   DE X .t (.Subscript e (.Slice lo B none Z) I) (qL f w E Cz):=by
 with_unfolding_all exact (
  PE.imp (Xm iN u v y) λσ H Q=>by
   rintro ⟨G,j,g,d,k,h,q⟩;obtain ⟨a,e1,h⟩:=je h;obtain ⟨l,e2,h⟩:=je h;obtain ⟨m,J,r⟩:=je h;refine ⟨G,j,g,a,k,e1,λx H1 n L _=>⟨G,j,g,l,k.ap n,e2,λH2 o=>⟨G,j,g,m,(k.ap n).ap o,J,λN t=>?_⟩⟩⟩;have sm:=n.trans (o.trans t)
   cases a with
   |aU ds=>
    cases r;obtain ⟨b,O,rfl,U,Y⟩:=((L.ap o).ap t).fH;refine ⟨b,O,rfl,U.lI,λp i=>q _ _ (sm.trans (am.aJ i)) (.ag jr (k.new p (am.free sm i)) (((WY Y).laid i).az λc z=>⟨z.1,z.2⟩)) ((qm (am.refl N) i).ap sm)⟩
   |_=>cases r)
end
def CA (a:Addr) (o:Obj) (u:HO) (c:List Addr):It:=
 ⟨λi H=>H a=some (.bd o u)/\i<c.length,λi H x d=>d=H/\ ∃p,c[i]?=some p/\x= .ref p,λi H=>H a=some (.bd o u)/\c.length<=i⟩
section
variable {P:bI} {w:World} {K:ay} {X:Cx} {Z e:Expr}
def Yc (a j:Addr) {o:Obj} (u:HO) {q:Array DictEntry} (g:List Addr) {r:Nat} (hx:o.ExactDict) (hd:o.data= .dict q r) (he:q.toList.map (·.key)=g.map bP):Turn P w K Z (CA a o u g) [j] j (λi h=>h.IsKeyIter j a i g.length r) where
 mem:=by simp
 obj:=λi h st b l=>by
  have e:b=j:=by simpa using l
  subst e;obtain ⟨o,e,c,d⟩:=st;exact ⟨o,e,λv z=>by rw [d] at z;cases z⟩
 keep:=λi h h' st k=>st.at λo e=>k j (by simp) o e
 item:=by
  intro X B hw J hc i n s σ H E I t st L;subst B hw J;obtain ⟨N,y⟩:=L;have O:oQ s.heap a (g.map bP) r:=⟨o,q,(I.aP a _ N).1,hx,hd,he⟩
  obtain ⟨Q,U,f2,Y,f4,f5⟩:=t j (by simp);have p:(g.map bP).length=g.length:=bB ..;refine kA (p.symm▸st) O (k:= .ref g[i]) (by simp [y]) λh' m sb=>?_
  have I1:=I.turned (t':=s.toks) (λb o l e=>(sb.2 b l).trans e) Q U Y f4 f5;rw [p] at m;obtain ⟨o2,e,c,d⟩:=id m;exact ⟨_,rfl,YM e c d (by decide) ⟨.ref g[i],H,I1,rfl,⟨rfl,g[i],by simp [y],rfl⟩,m,λb l=>(t b l).1⟩⟩
 done:=by
  intro X B hw J hc i n s σ H E I t st L;subst B hw J;obtain ⟨N,y⟩:=L;have O:oQ s.heap a (g.map bP) r:=⟨o,q,(I.aP a _ N).1,hx,hd,he⟩
  obtain ⟨Q,U,f2,Y,f4,f5⟩:=t j (by simp);have p:(g.map bP).length=g.length:=bB ..;exact HD (I.ok.hd hc) (p.symm▸st) O (λh' eb=>⟨rfl,I.turned (λb o l e=>eb b o l e) Q U Y f4 f5⟩) (by rw [p];exact y)
 self:=λ_ _ _ _ _ st h=>wpAny_pyIter_keyiter st h
def HP (h:TE):TI:=λi H R=>h i H λx d=> ∃a o c,x= .ref a/\d a=some (.bd o (.dT c))/\ ∀g:List Addr,F2 (λp k=>d p=some (.ah (k.map kV))) g (c.map (·.1))->R (CA a o (.dT c) g) d
theorem ZH: ∀ {a:List (List aI×V)} {c:List (List aI×Addr×Value)},KT H a c->F2 (λp k=>H p=some (.ah (k.map kV))) (c.map (·.2.1)) (a.map (·.1))
 |_,_,.nil=> .nil
 |_,_,.cons h t=> .cons h.2.1 (ZH t)
def vY {n:TE} (u:PE X e n):PI X Z e (HP n):=by
 intro d s y H R I h;refine bn (u d s y H _ I h) λv c l=>?_;obtain ⟨x,z,k,B,E⟩:=l
 obtain ⟨a,o,g,J,L,q⟩:=E;subst J;cases B;obtain ⟨p,hz,lo,m,N,o',r,O,i,t,hd,Q,_⟩:=(show aT X.prog X.w z c.heap a (.bd o (.dT g)) from k.aP a _ L)
 rw [p] at i;cases i;have j:r.toList.map (·.key)=(m.map (·.2.1)).map bP:=by rw [Q,hG,hG];rfl
 have U:oQ c.heap a ((m.map (·.2.1)).map bP) O:=⟨o,r,p,t,hd,j⟩
 refine kz lo U ?_;refine ⟨c.heap.objs.size,[c.heap.objs.size],_,_,_,rfl,k.kept (t':=c.toks) λb o e=>cu _ e,Yc a _ (.dT g) (m.map (·.2.1)) t hd j,⟨_,ej _ rfl,rfl,by simp⟩,λb Y=>?_,q _ (ZH N)⟩;have e:b=c.heap.objs.size:=by simpa using Y
 subst e;exact k.f6 (a9 _) (k.aP.fresh (a9 _))
def kw (k:List aI):Bool:=k.all λx=>match x with| .inl _=>true| .inr z=>decide (z.length<=aR)
def AW:aI->D
 | .inl i=> .int i
 | .inr z=> .str z
def uy (f:TJ):Sl->ao (List D):=λa=>f a>>=λd=>match d with
 | .dz c _=>aS (c.all kw=true) (.ok (c.map λk=> .ah (k.map AW)))
 |_=> .aj
theorem Q7 {A:Xc}: ∀k:List aI,kw k=true->ai K A H (k.map kV) (k.map AW)
 | [],_=> .nil
 | .inl i::r,h=> .cons (.int i) (Q7 r (by simpa [kw] using h))
 | .inr z::r,h=>by
  have a:z.length<=aR/\kw r=true:=by simpa [kw] using h
  exact .cons (.str z a.1) (Q7 r a.2)
theorem Qn {A:Xc}: ∀ {c:List Addr} {a:List (List aI)},F2 (λp k=>H p=some (.ah (k.map kV))) c a->a.all kw=true->ai K A H (c.map V.ref) (a.map λk=> .ah (k.map AW))
 |_,_,.nil,_=> .nil
 |_,_,.cons h t,e=>by
  simp only [rW,fw] at e;exact .cons (.ah h (Q7 _ e.1)) (Qn t e.2)
def u9 {f:TJ} (h:DE X .s e f):DI X Z e (uy f):=by
 with_unfolding_all exact (
  PI.imp (vY h) λσ H R=>by
   rintro ⟨G,E,n,ds,k,I,q⟩;obtain ⟨d,e1,e2⟩:=je I
   cases d with
   |dz ks es=>
    obtain ⟨j,J⟩:=ju e2;cases J;refine ⟨G,E,n,_,k,e1,λv L u N _=>?_⟩;obtain ⟨a,c,rfl,⟨o,l⟩,rfl,rs⟩:=N.f;refine ⟨a,o,c,rfl,l,λr m=>q (CA a o (.dT c) r) L (λt=>t a=some (.bd o (.dT c))) u (Walk.toD (Qn m j) ?_) l λz O t Q=>Q.keep a _ l λU=>?_⟩
    . intro i t m;have B:(r.map V.ref).length=r.length:=bB ..;refine ⟨λg=>⟨m,by rw [B] at g;exact g⟩,λg x H2 y=>?_,λg=>⟨m,by rw [B] at g;exact g⟩⟩;obtain ⟨Y,p,y2,y3⟩:=y;exact ⟨Y,by rw [fB,y2,y3];rfl⟩
    . exact (k.ap u).dX U l
   |_=>cases e2)
end
def gP (f:Str):List Str->List D->Option D
 |n::a,d::c=>if n=f then some d else gP f a c
 |_,_=>none
def Yn (f:Str):List Str->List Str
 | []=>[f]
 |n::a=>if n=f then n::a else n::Yn f a
def Yo (f:Str) (d:D):List Str->List D->List D
 | [],_=>[d]
 |n::c,e::a=>if n=f then d::a else e::Yo f d c a
 |_::_,[]=>[]
theorem Zd {K:ay}: ∀ {fs:List (Str×V)} {a:List D} {d:D},ai K A H (fs.map (·.2)) a->gP f (fs.map (·.1)) a=some d-> ∃v,fs.lookup f=some v/\aA K A H v d
 | [],_,_,_,h=>by simp [gP] at h
 | (n,v)::r,_,d,.cons q t,h=>by
  by_cases e:n=f
  . subst e;simp only [fy,gP,if_pos] at h;cases h;exact ⟨v,by simp [hZ],q⟩
  . simp only [fy,gP,if_neg e] at h;obtain ⟨c,g,i⟩:=Zd t h;exact ⟨c,by rw [l8];simp [show (f==n)=false from by simpa using λz=>e z.symm,g],i⟩
theorem Xg {K:ay} (a:aA K A H v d): ∀ {fs:List (Str×V)} {c:List D},ai K A H (fs.map (·.2)) c->(cw f v fs).map (·.1)=Yn f (fs.map (·.1))/\ai K A H ((cw f v fs).map (·.2)) (Yo f d (fs.map (·.1)) c)
 | [],_,.nil=>⟨rfl,.cons a .nil⟩
 | (n,u)::r,_,.cons q t=>by
  by_cases e:n=f
  . simp only [cw,fy,Yn,Yo,if_pos e];exact ⟨trivial,.cons a t⟩
  . simp only [cw,fy,Yn,Yo,if_neg e];obtain ⟨g,h⟩:=Xg a t;exact ⟨by rw [g],.cons q h⟩
theorem ZR: ∀ {fs:List (Str×V)},(fs.map (·.1)).contains f=false->fs.lookup f=none
 | [],_=>rfl
 | (n,u)::r,h=>by
  simp only [fy,sj,Bool.or_eq_false_iff] at h;rw [l8];simp [h.1,ZR h.2]
def aA.objE {K:ay} (r:aA K A H v (.obj c ns g)): ∃a C dx fs,v= .ref a/\H a=some (.ins C dx fs)/\A a/\bM K bv c=some (some (.ref C))/\fs.map (·.1)=ns/\ai K (λc=>A c/\c≠a) H (fs.map (·.2)) g:=by
 cases r with
 |obj e a d h r=>subst h;exact ⟨_,_,_,_,rfl,e,a,d.1,d.2,r⟩
def Ky {K:ay} {i:Nat} (k:ar K G q d g H) (j:d[i]?=some (.av (.obj c l m))):
  ∃a C dx fs,g[i]?=some (some (.ref a))/\H a=some (.ins C dx fs)/\bM K bv c=some (some (.ref C))/\fs.map (·.1)=l/\ai K (Sf G d g) H (fs.map (·.2)) m:=by
 obtain ⟨a,n,_,o⟩:=k.av i _ j
 cases o with
 |obj e h p r=>subst p;exact ⟨a,_,_,_,n,e,h.1,h.2,r⟩
structure ml (K:ay) (c f:Str):Prop where
 ex: ∃C,bM K bv c=some (some (.ref C))/\gK K C/\c4 K C f
def ml.at {K:ay} (h:ml K c f) (e:bM K bv c=some (some (.ref C))):gK K C/\c4 K C f:=by
 obtain ⟨g,a,d⟩:=h.ex;rw [e] at a;cases a;exact d
def p8 (c f:Str):D->ao D
 | .obj a e g=>aS (a=c) (match gP f e g with
  |some d=> .ok d
  |none=> .aj)
 |_=> .aj
def U0 (h:p8 c f o= .ok d): ∃a g,o= .obj c a g/\gP f a g=some d:=by
 unfold p8 at h
 split at h
 . rename_i k a g;obtain ⟨j,i⟩:=ju h;subst j
   cases e:gP f a g with
   |none=>rw [e] at i;cases i
   |some l=>rw [e] at i;cases i;exact ⟨a,g,rfl,e⟩
 . cases h
def og (c f:Str) (d:TJ):Sl->ao D:=λa=>d a>>=p8 c f
section
variable {X:Cx} {e:Expr} {fo:TJ} {pos p:Pos} {c f:Str}
def VJ (i:Nat) {x:Str} (j:ml X.K c f) (y:X.N[i]?=some x:=by rfl) (B:gJ X.env.scope x:=by exact eK rfl)
   (hd:Yj x:=by decide) (l:Yi x:=by decide)
   (E:ng (.Name x p) f X.env (eval (.Name x p) X.env)=eval (.Name x p) X.env:=by rfl):DE X .s (.Attribute (.Name x p) f pos) (og c f (cH i)):=by
 with_unfolding_all exact (
  PE.imp (Gq (wx y B hd l) E) λN H Q=>by
   rintro ⟨G,O,I,d,k,J,q⟩;obtain ⟨o,e1,e2⟩:=je J;obtain ⟨U,Y,rfl,w⟩:=U0 e2;rcases Wu e1 with z|z
   . obtain ⟨v,m,L⟩:=k.ak i _ z;obtain ⟨a,C,dx,fs,rfl,n,_,g,r,t⟩:=L.objE;subst r;obtain ⟨h,u,g2⟩:=Zd t w;exact ⟨_,m,a,C,dx,fs,h,rfl,n,(j.at g).1,(j.at g).2,u,q h H (am.refl H) (g2.az λ_ z=>z.1) trivial⟩
   . obtain ⟨a,C,dx,fs,m,n,g,r,t⟩:=Ky k z;subst r;obtain ⟨h,u,g2⟩:=Zd t w
     exact ⟨_,m,a,C,dx,fs,h,rfl,n,(j.at g).1,(j.at g).2,u,q h H (am.refl H) g2 trivial⟩)
end
inductive bN where
 |nx (env:Sl)|rt (d:D) (env:Sl)
def kJ (K:ay) (G:Xc) (j:Hp) (i:Nat) (a:Addr) (h:Sl) (k:L2.St) (H:Hp) (E:Ends):bN->Prop
 | .nx c=> ∀e g,ar K G j c e g->At e i a->bt h k H c e g->E.nx e g
 | .rt d c=> ∀v e g,ar K G j c e g->At e i a->bt h k H c e g->aA K (Sf G c e) g v d->E.rt v g
def EU (K:ay) (i:Nat) (g:Sl->ao bN):TS:=λE d H=> ∃G e c o a,ar K G e c d H/\At d i a/\g c= .ok o/\kJ K G e i a c d H E o
@[irreducible] def EV (X:Cx) (i:Nat) (st:Stmt) (g:Sl->ao bN):Prop:=PS X st (EU X.K i g)
@[irreducible] def ky (X:Cx) (i:Nat) (st:List Stmt) (g:Sl->ao bN):Prop:=cb X st (EU X.K i g)
theorem WD {K:ay} (f:bt g n H d h p) (q:kJ K G r i a g n H E o):kJ K G r i a d h p E o:=by
 cases o with
 |nx e=>exact λc j k l m=>q c j k l (f.trans m)
 |rt b e=>exact λv c j k l m t=>q v c j k l (f.trans m) t
section
variable {X:Cx} {i:Nat} {e c0 tg:Expr} {st:Stmt} {rest body orelse:List Stmt} {pos p Y:Pos} {l:Lv} {f:TJ} {g U g2:Sl->ao bN} {c n x:Str}
def p9 (U g2:Sl->ao bN):Sl->ao bN:=λd=>U d>>=λo=>match o with
 | .nx a=>g2 a
 | .rt b e=> .ok (.rt b e)
def kj (a:EV X i st U):ky X i [st] U:=by
 with_unfolding_all exact (cb.imp (QM a) λE d H q=>q)
def EW:Sl->ao bN:=λa=> .ok (.nx a)
def km:ky X i [] EW:=by
 with_unfolding_all exact (cb.imp yt λE d H=>by
  rintro ⟨G,r,h,o,a,k,j,m,q⟩;cases m
  exact q d H k j (bt.refl (am.refl H)))
def iq (i:Nat) (c:Str):Sl->ao (List Str×List D):=λa=>match a[i]? with
 |some (.av (.obj d h j))=>aS (d=c) (.ok (h,j))
 |_=> .aj
def Uy (h:iq i c a= .ok q):a[i]?=some (.av (.obj c q.1 q.2)):=by
 unfold iq at h
 split at h
 . rename_i k m o e;obtain ⟨d,j⟩:=ju h;subst d;cases j;exact e
 . cases h
def vI (i:Nat) (c n:Str) (f:TJ):Sl->ao bN:=λa=>f a>>=λd=>iq i c a>>=λq=>aS (q.1.length<1000) (.ok (.nx (a.set i (.av (.obj c (Yn n q.1) (Yo n d q.1 q.2))))))
def kn (z:ml X.K c n) (h:DE X .s e f) (Z:X.N[i]?=some x:=by rfl) (hv:gJ X.env.scope x:=by exact eK rfl)
   (hd:Yj x:=by decide) (r:Yi x:=by decide)
   (hs:gw e (some (.Attribute (.Name x p) n Y)) pos.line X.env=pure false:=by rfl):EV X i (.Assign [.Attribute (.Name x p) n Y] e pos) (vI i c n f):=by
 with_unfolding_all exact (
  PS.imp (Gr (wx Z hv hd r) h hs) λE σ H=>by
   rintro ⟨G,H0,t,o,a,k,m,j,q⟩;obtain ⟨d,e1,j⟩:=je j;obtain ⟨ns,e2,j⟩:=je j;obtain ⟨B,e3⟩:=ju j;cases e3;have I:=Uy e2;refine ⟨G,H0,t,d,k,e1,λy H1 u r1 _=>?_⟩;obtain ⟨a',C,dx,fs,J,L,v,N,rs⟩:=Ky (k.ap u) I;rw [m] at J;cases J;refine ⟨_,m,a,C,dx,fs,rfl,L,(z.at v).1,(z.at v).2,by rw [<-N,bB] at B;exact B,?_⟩;obtain ⟨O,Q⟩:=Xg r1 rs;rw [N] at O Q;have W:=(k.ap u).l7 (o':= .ins C dx (cw n y fs)) I m L trivial λA' H' st e w=> .obj e ⟨v,O⟩ rfl (Q.aV st w)
   exact q σ _ W.1 m (W.2.ap u))
end
structure hH (P:bI) (w:World) (K:ay) (mg:Xd) (ae:Heap) (k:Nat) (c m:Str) (ps:List Str) (fr:Bool) (F:TC):Prop where
 ex: ∃C f fd,cE P w K mg ae hD k f fd ps (l5 K fr ps.length F)/\bM K bv c=some (some (.ref C))/\gK K C/\Meth K C m f/\Binds K fd ps []
def hH.mono {K:ay} (h:hH P w K mg ae j c m ps d F) (e:j<=k):hH P w K mg ae k c m ps d F:=
 let ⟨C,f,g,a,b⟩:=h.ex
 ⟨C,f,g,a.mono e,b⟩
section
variable {X:Cx} {k n:Nat} {c m:Str} {ps:List Str} {fr:Bool} {F:TC} {o e:Expr} {es:List Expr} {pos apos:Pos} {fo:TJ} {g:TD} {pl:Sem Bool}
def rN:Sl->ao (List D):=λ_=> .ok []
end
section
variable {P:bI} {w:World} {K:ay} {mg:Xd} {ae:Heap}
def HQ {st:Stmt} (l:Bool) (p:iO K m a st f n) (q:bM K bv c=some (some (.ref C))) (r:gK K C) (t:Meth K C m f) (S:aC N o (jj st)) (j:Binds K n o [])
  (u: ∀(i:Value) (A:bV) (e:List Env) (s:aB) (H:Hp) (E:XK),aH k (A.deeper (gx a (jj st) s.heap.objs.size f i))->fU (bH hD P w K mg ae N a (jj st) f i A e s H E).m8 (qr st) g):
  hH P w K mg ae (k+1) c m o l (ba l N.length g):=
 ⟨C,f,n,uL p S u λv d _ h=>yq h,q,r,t,j⟩
end
abbrev FO:=D->List D->ao (D×D)
def zL (n:Nat) (c:D) (a:List D):Sl:= .av c::(a.map .ak++eR (n-a.length-1) .un)
def xq (h:(zL n g a)[j]?=some s):(j=0/\s= .av g)\/(∃c d,j=c+1/\a[c]?=some d/\s= .ak d)\/s= .un:=by
 unfold zL at h
 cases j with
 |zero=>simp at h;exact .inl ⟨rfl,h.symm⟩
 |succ j=>
  rw [oh] at h
  by_cases q:j<a.length
  . rw [g8 (by simpa using q),fB] at h
    cases e:a[j]? with
    |none=>rw [e] at h;cases h
    |some x=>rw [e] at h;cases h;exact .inr (.inl ⟨j,x,rfl,e,rfl⟩)
  . rw [fA (by simpa using q),oI] at h
    split at h
    . cases h;exact .inr (.inr rfl)
    . cases h
def YR {K:ay} {B:Xc} (r:ai K (λc=>B c/\c≠a) H g m) (t:Top K (λc=>B c/\c≠a) H a u) (J:m.length+1<=N.length):
   ar K (λc=>H c=none\/c=a\/B c) (λc=>if c=a then none else H c) (zL N.length u m) (start N (V.ref a::g)) H/\At (start N (V.ref a::g)) 0 a:=by
 have E:=r.length
 have k:At (start N (V.ref a::g)) 0 a:=by
   show (L2.start N (V.ref a::g))[0]?=_;unfold L2.start;simp
 have n: ∀(j:Nat) (v:V),g[j]?=some v->(start N (V.ref a::g))[j+1]?=some (some v):=λj v h=>by
   have L:=(fZ.mp h).1;unfold L2.start;rw [g8 (by simp;omega),fB,oh,h];rfl
 have p: ∀c,jQ (zL N.length u m) (start N (V.ref a::g)) c->c=a:=λc ⟨j,d,q,l⟩=>by
   rcases xq q with ⟨rfl,_⟩| ⟨_,_,_,_,z⟩|z
   . rw [k] at l;cases l;rfl
   . cases z
   . cases z
 have w: ∀c,B c/\c≠a->Sf (λc=>H c=none\/c=a\/B c) (zL N.length u m) (start N (V.ref a::g)) c:=λc z=>⟨λo=>z.2 (p c o),.inr (.inr z.1)⟩
 refine ⟨⟨?_,λc o e=>?_,λc e=>?_,λj d h=>?_,λj d h=>?_,λj y d e b q l O Q=>?_⟩,k⟩
 . simp [L2.start,zL,E];omega
 . split at e
   . cases e
   . exact e
 . split at e
   . rename_i z;exact .inr (.inl z)
   . exact .inl e
 . rcases xq h with ⟨_,z⟩| ⟨y,I,rfl,e,z⟩|z
   . cases z
   . cases z;obtain ⟨v,q,l⟩:=r.get e;exact ⟨v,n y v q,l.az w⟩
   . cases z
 . rcases xq h with ⟨rfl,z⟩| ⟨y,I,_,e,z⟩|z
   . cases z;exact ⟨a,k,if_pos rfl,t.aV (λ_ _ e _=>e) w λ_ e=>e⟩
   . cases z
   . cases z
 . have i: ∀(j:Nat) (d:D),(zL N.length u m)[j]?=some (.av d)->j=0:=λj d h=>by
     rcases xq h with ⟨z,_⟩| ⟨_,_,_,_,z⟩|z
     . exact z
     . cases z
     . cases z
   rw [i j d q,i y e l]
def yU:Sl->ao D
 | .av d::_=> .ok d
 |_=> .aj
def Kf (h:yU a= .ok d):a[0]?=some (.av d):=by
 unfold yU at h
 split at h
 . cases h;rfl
 . cases h
end M
namespace M
open PySem PySem.Spec L2
open PyProof.Rows hiding St
open PySem.SeqAt (EqAt RcAt RcNeAt)
section
variable {X:Cx} {K:ay}
def KS:Ei X "list.insert" (λx d H Q=> ∃l c i y,x= .ref l/\d=[.int i,y]/\H l=some (.ag c)/\0<=i/\i<2^63/\c.length<aR/\Q .aO (aJ H l (.ag (c.take i.toNat++y::c.drop i.toNat)))):=by
 rintro g s E H x d v J Q I j k ⟨l,c,i,y,m,o,h,L,p,N,q⟩;subst m o;cases j
 cases k with
 |cons u t=>
  cases t with
  |cons w t=>
   cases t;obtain ⟨t,rfl⟩:=u;obtain ⟨z,a,n,r,O,e⟩:=I.nR h;refine nS F.slot_list_insert ⟨_,e,rfl⟩ F.entry_list_insert (F.args_list_insert_3 _ _ _) (AutoSeq1.list_insert_list_int_val_1 l a.toArray n i t _ (by rw [fitsIndex_both (by omega) p];simp) (by rw [cA];omega)) ⟨e,?_⟩;refine ⟨.aO,_,I.tr h e ?_ ((r.take _).append (.cons w (r.drop _))) ?_,rfl,q⟩
   . show (((a.toArray.extract 0 (if i<0 then (i+(a.toArray.size:Int)).toNat else min i.toNat a.toArray.size)).push _++a.toArray.extract (if i<0 then (i+(a.toArray.size:Int)).toNat else min i.toNat a.toArray.size)))=_;rw [if_neg (by omega)];apply Array.toList_inj.mp;simp
     by_cases B:i.toNat<=a.length
     . rw [Nat.min_eq_left B];simp [AX]
     . rw [Nat.min_eq_right (by omega)];simp [AX,CB,show a.length<=i.toNat by omega]
   . simp;omega
variable {e1 e2:Expr} {O U:TJ} {N:Lv} {x:Str} {p Y Z pos:Pos}
def Za (i:Nat) (O U:TJ):Sl->ao bF:=λa=>cq i a>>=λc=>O a>>=λj=>U a>>=λd=>match j with
 | .int k=>aS (0<=k/\k<2^63/\c.length<aR) (.ok (.nx (a.set i (.av (.ag (c.take k.toNat++d::c.drop k.toNat))))))
 |_=> .aj
def VB (i:Nat) (h1:DE X N e1 O) (h2:DE X .s e2 U) (hN:X.N[i]?=some x:=by rfl) (hv:gJ X.env.scope x:=by exact eK rfl)
   (hd:Yj x:=by decide) (v:Yi x:=by decide)
   (e:ng (.Name x p) "insert" X.env (eval (.Name x p) X.env)=eval (.Name x p) X.env:=by rfl)
   (h:((dO Z (bp [e1,e2] X.env)).all (λx=>!x.1)&&(lF Z (lG [] X.env)).all (λx=>x.1.isSome)
    &&decide ([e1,e2].length+([]:List hB).length+(if ([]:List hB).isEmpty then 0 else 1)<30))=true:=by exact yc rfl rfl)
   (g:(Y.endLine==Z.line)=true:=by rfl) (B:bp [e1,e2] X.env=(false,eval e1 X.env)::bp [e2] X.env:=by exact jn rfl) (c:(dO Z (bp [e2] X.env)).any (·.1)=false:=by exact jB rfl)
   (w:bp [e2] X.env=(false,eval e2 X.env)::bp [] X.env:=by exact jn rfl)
   (y:gw (.Call (.Attribute (.Name x p) "insert" Y) [e1,e2] [] Z) none pos.line X.env=pure false:=by rfl):
   DS X (.Expr (.Call (.Attribute (.Name x p) "insert" Y) [e1,e2] [] Z) pos) (Za i O U):=by
 with_unfolding_all exact (
  PS.imp (QN (Uw AI PySem.F.slot_list_insert PySem.F.type_list_insert KS (wx hN hv hd v) (qc h1 (qc h2 wa w) B) e h g B c) y) λE σ H=>by
   rintro ⟨G,I,l,o,k,m,q⟩;obtain ⟨J,c1,m⟩:=je m;obtain ⟨j,c2,m⟩:=je m;obtain ⟨d,c3,L⟩:=je m
   cases j with
   |int z=>
    obtain ⟨⟨z1,z2,z3⟩,c5⟩:=ju L;cases c5;have Q:=xU c1;obtain ⟨a,xs,ha,hx,rs⟩:=xT k Q;refine ⟨.ref a,ha,.inl ⟨rfl,xs,.of hx⟩,G,I,l,_,k,c2,λv1 H1 n r1 _=>⟨G,I,l,d,k.ap n,c3,λv2 H2 u r2 _=>?_⟩⟩;have r:=u _ _ (n _ _ hx);cases (r1.az Lv.be).cc;refine ⟨a,xs,z,v2,rfl,rfl,r,z1,z2,by rw [rs.length];exact z3,?_⟩;have t:=(rs.ap n).ap u;have W:=((k.ap n).ap u).write Q ha r (ds':=J.take z.toNat++d::J.drop z.toNat) ((t.take _).append (.cons r2 (t.drop _)));exact q σ _ W.1 ((W.2.ap u).ap n)
   |_=>cases L)
end
end M
namespace M
open PySem PySem.Spec L2
open PyProof.Rows hiding St
section
variable {prog:bI} {w:World} {A:bV} {E:Ws} {s:aB}
def ZS:typeLookup (.type "list") "keys" =pure none:=by rw [typeLookup_type,builtinLookup_eq_fast];kernel_rfl
def K5 (l:s.heap.get? a=some o) (q:o.cls= .type "list") (c:o.dict=none) (hd:o.data= .seq u k) (v:A.handled=none)
  (h: ∀i j,(∀b ob,s.heap.get? b=some ob->i.get? b=some ob)->Q none {s with heap:=i,toks:=j}):wpAny (model prog w) A (getAttr? (.ref a) "keys") Q E s:=by
 obtain ⟨r,g,d,j,os⟩:=s;obtain ⟨z,B,m,n⟩:=o;simp only at q c hd;subst q c hd;have H:(⟨r,g,d,j,os⟩:aB).TypeIs (.ref a) "list" :=⟨_,l,rfl⟩
 have p:(⟨r,g,d,j+1,os⟩:aB).TypeIs (.ref a) "list" :=⟨_,l,rfl⟩
 have I:=sub_AttributeError;have J:=CC.lookup;have L:=CC.bind (.ref a);have N:=am_list_getattr_none;unfold getAttr? getAttrBy? getAttrBy
 repeat (any_goals (first | assumption | ((with_reducible show wpAny _ _ (call (Value.builtin "list.__getattribute__") _ _) _ _ _); refine nS CC p am_entry_list_getattribute (F.args_list_getattribute_2 _ _) (meets_getattribute_miss_list a u k n "keys" _ ZS (by decide)) ⟨l, v, λi y e t => ?_⟩) | wp_step))
 obtain ⟨O,U,Y⟩:=t.there;unfold getattributeRaised
 repeat (any_goals (first|assumption|wp_step))
 exact h i _ t.keeps
def qX:entryFor table "dict.update.loop" =some lN.«dict.update.loop» :=entryFor_of_tree (by kernel_rfl)
def jT:plainId "dict.update.loop" =true:=by decide+kernel
def QS (c:s.heap.get? t=some o) (d:o.cls= .type "tuple") (hd:o.data= .seq a n) (h:Q a.toList s):wpAny (model prog w) A (EX (.ref t)) Q E s:=by
 unfold EX;refine ax (rP (show s.TypeIs (.ref t) "tuple" from ⟨o,c,d⟩) ?_);rw [if_pos (by decide)];refine ax (rE c hd ?_);exact aM h
def Wa (a:Nat->List aI×Addr×Value):Nat->List (List aI×Addr×Value)
 |0=>[]
 |i+1=>storedH (Wa a i) (a i).1 (a i).2.1 (a i).2.2
def Wn (c:List (List aI×Addr×Value)) (k:List aI) (a:Addr) (v:Value):(storedH c k a v).length<=c.length+1:=by
 cases h:atKey c k with
 |none=>rw [storedH_new h];simp
 |some p=>rw [storedH_old h];simp
theorem JN (a:Nat->List aI×Addr×Value): ∀i,(Wa a i).length<=i
 |0=>a9 _
 |i+1=>dE (Wn _ _ _ _) (Nat.succ_le_succ (JN a i))
def Zw {k:List aI} {a:Addr} {N:Nat} (h: ∀x∈d,x.2.1<N) (g:a<N): ∀x∈storedH d k a v,x.2.1<N:=by
 intro x c
 cases q:atKey d k with
 |none=>
  rw [storedH_new q] at c;rcases eG.mp c with z|z
  . exact h x z
  . rw [ir] at z;subst z;exact g
 |some p=>
  rw [storedH_old q] at c;obtain ⟨y,e,rfl⟩:=b8.mp c;unfold putAt
  split
  . exact h y e
  . exact h y e
theorem yE {c:Nat->List aI×Addr×Value} {N:Nat} (h: ∀i,i<n->(c i).2.1<N): ∀i,i<=n-> ∀x∈Wa c i,x.2.1<N
 |0,_,x,a=>by cases a
 |i+1,d,x,a=>Zw (yE h i (by omega)) (h i (by omega)) x a
variable {R:Result->aB->Prop} {I:Addr} {Y Z:List Addr} {G:Array GenState->Array GenState->Prop} {n:Nat} {P:Nat->Value->Prop} {St:Nat->aB->Prop}
def YB (W:WalksS prog w A.in1 I Y Z G n P St) (d:Addr) (L:d∉Y) (j:Nat->List aI×Addr×Value) (q:Heap) (u: ∀i,i<n->gp (jV prog w) q (j i).1 (j i).2.1)
  (N: ∀i v,P i v-> ∃t o m,v= .ref t/\q.get? t=some o/\o.cls= .type "tuple" /\o.data= .seq #[.ref (j i).2.1,(j i).2.2] m)
  (HS:q.objs.size<=d) (O: ∀b∈Z,q.objs.size<=b) (hu:A.in1.units<cLine) (hn:n<=aR):
  ∀(k i:Nat) (s:aB),n-i=k->i<=n->St i s->s.heap.DictOfH (lP (jV prog w)) d (Wa j i)->(∀b o,b<q.objs.size->q.get? b=some o->s.heap.get? b=some o)->
    (∀g,Moved (d::Z) G s g->g.heap.DictOfH (lP (jV prog w)) d (Wa j n)->R (.ok (.ret .none)) g)->
    lV (model prog w) A (.builtin "dict.update.loop" ⟨[.ref d,.ref I,rawInt i,.none],[]⟩) R s:=by
 have HU:d∉Z:=λh=>L (W.sub _ h)
 have y: ∀b∈Z,b∈d::Z:=λb l=>dC _ l
 have Q: ∀i,i<n->(j i).2.1<q.objs.size:=λi U=>by
  obtain ⟨o',a,n',J,g2⟩:=u i U;exact bX J
 have p: ∀ {s g:aB} {xs:List (List aI×Addr×Value)},s.heap.DictOfH (lP (jV prog w)) d xs->(∀x∈xs,x.2.1<q.objs.size)->Moved Z G s g->g.heap.DictOfH (lP (jV prog w)) d xs:=λhS hx r=>by
  obtain ⟨o,es,ep,ho,hc,hd,he,HV,HW⟩:=hS;refine ⟨o,es,ep,r.heap d _ HU ho,hc,hd,he,λx EY=>?_,HW⟩;obtain ⟨o',a,n',J,g2⟩:=(show gp (jV prog w) _ x.1 x.2.1 from HV x EY)
  exact ⟨o',a,n',r.heap _ _ (λz=>absurd (O _ z) (Nat.not_le_of_lt (hx x EY))) J,g2⟩
 intro k
 induction k with
 |zero=>
  intro i s hk U H hS B hR;have CD:i=n:=by omega
  subst CD;refine sk qX ?_;rw [t7 jT _];refine ax (W.done s _ _ H λg r=>?_);refine ax (aM ?_);exact aM (hR g (r.mono y) (p hS (yE Q _ (a9 _)) r))
 |succ k ih=>
  intro i s hk U H hS B hR;have dF:i<n:=by omega
  refine sk qX ?_;rw [t7 jT _];refine ax (W.item i s _ _ dF H λv g hP CF r=>?_);obtain ⟨t,o,m,rfl,ht,hc,hd⟩:=N i v hP;have c: ∀b o,b<q.objs.size->q.get? b=some o->g.heap.get? b=some o:=λb o l e=>r.heap b o (λz=>absurd (O _ z) (Nat.not_le_of_lt l)) (B b o l e)
  have CG:=p hS (yE Q _ U) r;have CH:=c _ _ (bX ht) ht;refine ax (iY ?_);refine ax (wpAny_tryCatch (QS CH hc hd ?_));refine iY ?_
  have CI:(lP (jV prog w)).is g.heap (j i).1 (j i).2.1:=by
    obtain ⟨o',a,n',J,g2⟩:=u i dF;exact ⟨o',a,n',c _ _ (bX J) J,g2⟩
  refine wpAny_dictSet_heap hu CI CG (λh' HX hs=>?_) (dE (JN j i) (dE U hn));refine aM ⟨plainId_quiet jT _,?_⟩;have CJ:=ih (i+1) {g with heap:=h',toks:=g.toks+(lP (jV prog w)).draws (j i).1} (by omega) dF (W.frame _ g _ _ CF (qa _ _) λb l o e=>?_) HX (λb o l e=>?_) λCK CL CM=>?_
  . exact CJ
  . rw [hs.2 b (λh:b=d=>L (by rw [<-h];exact l))];exact e
  . rw [hs.2 b (λh:b=d=>absurd HS (by rw [<-h];exact Nat.not_le_of_lt l))];exact c b o l e
  . refine hR CK (Moved.trans W.gtrans ((r.mono y).then_heap (qa _ _) λb o l e=>?_) CL) CM;rw [hs.2 b (λh:b=d=>l (by rw [h];exact dB))];exact e
def JM (g:Nat->List aI×Addr×Value) (hh:A.handled=none) (J:s.heap.get? l=some N) (O:N.cls= .type "list") (U:N.dict=none) (hd:N.data= .seq a m)
  (k: ∀i,i<a.size->gp (jV prog w) s.heap (g i).1 (g i).2.1)
  (p: ∀i v,a[i]?=some v-> ∃t o m,v= .ref t/\s.heap.get? t=some o/\o.cls= .type "tuple" /\o.data= .seq #[.ref (g i).2.1,(g i).2.2] m) (hu:A.units+2<cLine) (hn:a.size<=aR)
  (h: ∀q tk,(∀b o,s.heap.get? b=some o->q.get? b=some o)->q.DictOfH (lP (jV prog w)) s.heap.objs.size (Wa g a.size)->Q (.ref s.heap.objs.size) {s with heap:=q,toks:=tk}):
  wpAny (model prog w) A (call (.type "dict") [.ref l]) Q E s:=by
 refine callType_codes (Q₁:=λr d=>r= .ref s.heap.objs.size/\d={s with heap:=s.heap.push {cls:= .type "dict",data:= .dict #[]}}) F.kt_called_dict (F.kt_typeCall_dict_1 _) F.entry_dict_init (kt_code_dict_new _ ⟨rfl,rfl⟩) ?_;rintro r d ⟨rfl,rfl⟩;have u: ∀b o,s.heap.get? b=some o->(s.heap.push {cls:= .type "dict",data:= .dict #[]}).get? b=some o:=λb o e=>cu _ e
 have hT:Shared.TypeIs {s with heap:=s.heap.push {cls:= .type "dict",data:= .dict #[]}} (.ref s.heap.objs.size) "dict" :=⟨_,ej _ rfl,rfl⟩
 have HY:Shared.TypeIs {s with heap:=s.heap.push {cls:= .type "dict",data:= .dict #[]}} (.ref l) "list" :=⟨_,u _ _ J,O⟩
 refine ⟨hT,F.args_dict_init_2 _ _,?_⟩;unfold lN.«dict.__init__»;refine ax ?_;unfold Builtin.Dict.selfAndRest;refine ax (wpAny_notOrdered_dict hT ?_);refine aM ?_;show wpAny _ _ (EZ "dict.__init__" s.heap.objs.size (.ref l) [] .none) _ _ _;unfold EZ;refine ax (rP HY ?_);rw [if_pos (by decide)];refine ax (K5 (u _ _ J) O U hd (by simp [hh]) λh1 nq y=>?_);simp;refine ax (r9 ?_);have z:h1.IsList l a:=⟨_,y _ _ (u _ _ J),O,m,hd⟩
 refine ax (pf z ?_);have c:=bX (y _ _ (ej _ rfl));have B:=bX J;have H:=dN (rS B c);refine aM ⟨plainId_quiet jT _,?_⟩;have HZ:A.in1.in1.handled=none:=by simp [hh]
 refine YB ((Walks.list HZ h1.objs.size l H a).toS) s.heap.objs.size (by simp;exact ⟨dN c,Nat.ne_of_gt B⟩) g s.heap k (λi v hv=>p i v hv) (a9 _) (λb j=>by simp at j;subst j;exact Ah c) (by simpa [Around.in1] using hu) hn (a.size-0) 0 _ (by omega) (eQ _)
  ⟨⟨_,ej _ rfl,rfl,rfl⟩,z.push _⟩ ?Ia (λb o j e=>cu _ (y _ _ (u _ _ e))) ?hR
 case Ia=>
  exact ⟨_, #[],0,cu _ (y _ _ (ej _ rfl)),⟨rfl,rfl,rfl⟩,rfl,rfl,(λx hx=>by cases hx),List.nodup_nil⟩
 case hR=>
  intro s' L CG;obtain ⟨q,g',d',CN,Ib⟩:=s';have eg:=L.gens;have ed:=L.drawn;have eo:=L.os;subst eg;subst ed;subst eo;refine ⟨rfl,h q CN (λb o e=>?_) CG⟩;have j:=bX e;exact L.heap b o (by simp;exact ⟨dN j,dN (rS j c)⟩) (cu _ (y _ _ (u _ _ e)))
end
def Ie (a:aH k A):A.units+2<cLine:=AE (Nat.add_le_add_left (by decide:2<=64) _) a.units
section
variable {X:Cx} {K:ay}
inductive qC (H:Hp):List V->List (List aI×V)->Prop where
 |nil:qC H [] []
 |cons {t b:Addr} {k:List aI} {v:V} {r:List V} {ps:List (List aI×V)}:H t=some (.ah [.ref b,v])->H b=some (.ah (k.map kV))->qC H r ps->qC H (.ref t::r) ((k,v)::ps)
def Ji (c:List (List aI×V)):List (List aI×V):=c.foldl (λa p=>putK a p.1 p.2) []
theorem Kr {r:L2.St} (I:aq X g r H s): ∀ {j:List V} {l:List (List aI×V)} {a:List Value},qC H j l->aE j a->
  ∃c:List (List aI×Addr×Value),c.length=a.length/\iU (λ(p:List aI×V) (q:List aI×Addr×Value)=>p.1=q.1/\H q.2.1=some (.ah (p.1.map kV))/\aG p.2 q.2.2) l c/\
   ∀(i:Nat) (v:Value),a[i]?=some v-> ∃q,c[i]?=some q/\ ∃t o m,v= .ref t/\s.heap.get? t=some o/\o.cls= .type "tuple" /\o.data= .seq #[.ref q.2.1,q.2.2] m
 |_,_,_,.nil,.nil=>⟨[],rfl,.nil,λi v h=>by simp at h⟩
 |_,_,_,.cons (t:=t) (b:=b) (k:=k) u w y,.cons z B=>by
  obtain ⟨c,E,J,L⟩:=Kr I y B;obtain ⟨n,d,⟨o,e1,e2,m,N⟩,_⟩:=I.tuple (.inl (.of u))
  cases d with
  |cons O d=>
   cases d with
   |cons Q d=>
    cases d;rename_i U Y;cases (show U=bP b from O);cases z;refine ⟨(k,b,Y)::c,by simp [E],.cons ⟨rfl,w,Q⟩ J,λi v e=>?_⟩
    cases i with
    |zero=>
     simp at e;subst e;exact ⟨_,rfl,t,o,m,rfl,e1,e2,N⟩
    |succ i=>
     simp at e;obtain ⟨q,Z,g2⟩:=L i v e;exact ⟨q,by simpa using Z,g2⟩
theorem yu {e d:Type} {F:e->d->Prop}: ∀ {a:List e} {c:List d},iU F a c-> ∀(i:Nat) (y:d),c[i]?=some y-> ∃x,a[i]?=some x/\F x y
 |_,_,.nil,i,y,h=>by simp at h
 |_,_,.cons r t,0,y,h=>by simp at h;subst h;exact ⟨_,rfl,r⟩
 |_,_,.cons r t,i+1,y,h=>by
  obtain ⟨x,g,j⟩:=yu t i y (by simpa using h);exact ⟨x,by simpa using g,j⟩
theorem X1 (r:iU (λ(p:List aI×V) (q:List aI×Addr×Value)=>p.1=q.1/\H q.2.1=some (.ah (p.1.map kV))/\aG p.2 q.2.2) c a):
  ∀i,i<=a.length->KT H (Ji (c.take i)) (Wa (λj=>a.getD j ([],0,.none)) i)
 |0,_=> .nil
 |i+1,n=>by
  have g:=X1 r i (by omega);obtain ⟨q,e⟩: ∃q,a[i]?=some q:=⟨a[i]'(by omega),dn _⟩
  obtain ⟨p,h,⟨e1,e2,k⟩⟩:=yu r i q e;have l:a.getD i ([],0,.none)=q:=by simp [List.getD,e]
  have m:c.take (i+1)=c.take i++[p]:=by rw [List.take_add_one,h];rfl
  have d:Ji (c.take (i+1))=putK (Ji (c.take i)) p.1 p.2:=by unfold Ji;rw [m,List.foldl_append];rfl
  rw [d];show KT H _ (storedH (Wa (λj=>a.getD j ([],0,.none)) i) (a.getD i ([],0,.none)).1 (a.getD i ([],0,.none)).2.1 (a.getD i ([],0,.none)).2.2);rw [l,<-e1];exact g.put p.1 e2 k
def YX (hc:X.bG=true) (hu:X.A.units+2<cLine):bf X (.type "dict") (λN H Q=> ∃p k m,N=[.ref p]/\H p=some (.ag k)/\qC H k m/\ ∀l,H l=none->Q (.ref l) (aJ H l (.dT (Ji m)))):=by
 rintro O s σ H N us Q I r ⟨p,k,m,ex,hp,t,q⟩;subst ex;obtain ⟨u,rfl,ru⟩:=QC r;cases ru;obtain ⟨w,U,⟨o,n,ho,y,z,hd⟩,hz⟩:=I.list (dg.of hp);obtain ⟨a,Y,B,h3⟩:=Kr I t U;have d:w.toArray.size=a.length:=by rw [cA,Y]
 have E:a.length<=aR:=by rw [Y,<-U.length];exact hz
 refine JM (λj=>a.getD j ([],0,.none)) (I.ok.hd hc) ho y z hd (λi Z=>?_) (λi v hv=>?_) hu (by rw [d];exact E) λh' tk hk dd=>?_
 . obtain ⟨e,h⟩: ∃q,a[i]?=some q:=⟨a[i]'(by rw [d] at Z;exact Z),dn _⟩
   obtain ⟨pp,E1,⟨e1,e2,e3⟩⟩:=yu B i e h;have J:a.getD i ([],0,.none)=e:=by simp [List.getD,h]
   rw [J,<-e1];exact XA I.aP e2
 . obtain ⟨e,h,g⟩:=h3 i v (by rw [<-hv];simp);have J:a.getD i ([],0,.none)=e:=by simp [List.getD,h]
   rw [J];exact g
 . have hl:=I.aP.fresh (a9 _);rw [d] at dd;have L:=X1 B a.length (a9 _);have BN:=Af B;rw [AX (by omega)] at L;have kl:=Af L;have MQ:=JN (λj=>a.getD j ([],0,.none)) a.length;obtain ⟨e,es,ep,h,g2,g3,g4,_,g5⟩:=dd;refine ⟨.ref s.heap.objs.size,_,I.laid hk (a9 _) (show aT X.prog X.w _ h' _ (.dT (Ji m)) from ⟨by omega,beq_eq_false_iff_ne.mpr (m6 (dN I.big)),_,L.keeps λc k ec=>?_,e,es,ep,h,g2,g3,g4,g5⟩),rfl,q _ hl⟩;rw [jF (jJ ec hl)];exact ec
def gQ:List D->Option (List (List aI×D))
 | []=>some []
 | .ah [a,d]::r=>match ff a,gQ r with
  |some k,some q=>some ((k,d)::q)
  |_,_=>none
 |_=>none
theorem Xi: ∀ {j:List V} {g:List D} {a:List (List aI×D)},ai K A H j g->gQ g=some a-> ∃c:List (List aI×V),qC H j c/\c.map (·.1)=a.map (·.1)/\ai K A H (c.map (·.2)) (a.map (·.2))
 |_,[],a,r,h=>by cases r.BY;cases h;exact ⟨[],.nil,rfl,.nil⟩
 |_,d::g,a,r,h=>by
  obtain ⟨v,j,rfl,r,p⟩:=r.oJ
  have ⟨m,o,e⟩: ∃m o,d= .ah [m,o]:=by
    rcases d with _|_|_|_|l|_|_|_|_|_|_|_|_|_|_<;>try cases h
    rcases l with _| ⟨x,_| ⟨y,_|_⟩⟩<;>try cases h
    exact ⟨_,_,rfl⟩
  subst e
  . unfold gQ at h
    cases i:ff m with
    |none=>rw [i] at h;cases h
    |some k=>
     cases n:gQ g with
     |none=>rw [i,n] at h;cases h
     |some q=>
      rw [i,n] at h;cases h;obtain ⟨c,u,g2,w⟩:=Xi p n;obtain ⟨t,N,rfl,z,B⟩:=r.cm;obtain ⟨O,E,rfl,I,J⟩:=B.al;obtain ⟨b,rfl,L⟩:=Q8 I i;exact ⟨(k,E)::c,.cons z L u,by simp [g2],.cons J w⟩
def JY (q:List (List aI)×List D) (p:List aI×D):List (List aI)×List D:=(Ul q.1 p.1,Um q.1 q.2 p.1 p.2)
def XQ:List D->ao D
 | [.ag c]=>match gQ c with
  |some a=> .ok (.cO (a.foldl JY ([],[])).1 (a.foldl JY ([],[])).2)
  |none=> .aj
 |_=> .aj
theorem Qd: ∀ {a:List (List aI×V)} {c:List (List aI×D)} {kvs:List (List aI×V)} {q:List (List aI)×List D},a.map (·.1)=c.map (·.1)->ai K A H (a.map (·.2)) (c.map (·.2))->kvs.map (·.1)=q.1->ai K A H (kvs.map (·.2)) q.2->
  (a.foldl (λkvs p=>putK kvs p.1 p.2) kvs).map (·.1)=(c.foldl JY q).1/\ai K A H ((a.foldl (λkvs p=>putK kvs p.1 p.2) kvs).map (·.2)) (c.foldl JY q).2
 | [],[],kvs,q,_,_,e,g=>⟨e,g⟩
 | [],_::_,_,_,h,_,_,_=>by cases h
 |_::_,[],_,_,h,_,_,_=>by cases h
 | (k,v)::a,(m,d)::c,kvs,q,h,.cons r l,e,g=>by
  simp at h;obtain ⟨rfl,h⟩:=h;obtain ⟨i,j⟩:=Uh k g r;rw [e] at i j;exact Qd (kvs:=putK kvs k v) (q:=JY q (k,d)) h l i j
def kB:JU K (λj H Q=> ∃p a h,j=[.ref p]/\H p=some (.ag a)/\qC H a h/\ ∀l,H l=none->Q (.ref l) (aJ H l (.dT (Ji h)))) XQ:=by
 intro A j H B d Q r e q;unfold XQ at e
 split at e
 . split at e
   . rename_i h i;cases e;obtain ⟨v,rfl,k⟩:=r.one;obtain ⟨p,a,rfl,m,_,n⟩:=k.c7;obtain ⟨o,t,g2,u⟩:=Xi n.low i;obtain ⟨w,y⟩:=Qd (kvs:=[]) (q:=([],[])) g2 u rfl .nil;exact ⟨p,a,o,rfl,m,t,λl g=>q _ _ (am.aJ g) (.cO jr (.inl g) w rfl ((y.laid g).az λc z=>⟨.inr z.1,z.2⟩)) (qm (am.refl H) g)⟩
   . cases e
 . cases e
end
def gq {N P:List Str} {a:Scope} (c:a.kind= .function:=by rfl) (d:a.isCoroutine=false:=by rfl) (e:a.isGenerator=false:=by rfl) (g:N.Nodup:=by decide+kernel) (h:N.take P.length=P:=by rfl) (i: ∀x∈P,a.names.lookup x=some .local\/a.names.lookup x=some .cell:=by decide+kernel) (j: ∀y∈a.names,y.2≠ .free:=by decide+kernel):aC N P a:=⟨c,d,e,g,h,i,j⟩
def Dx (K:ay) (c:Xd) (x:Str) (st:Stmt) (d:List Str):Prop:= ∃f a,iO K x x st f a/\c x=some (.ref f)/\Binds K a d []
def AY (K:ay) (p:Addr) (x q:Str) (st:Stmt):Prop:= ∃(e:Value) (g h:Option Addr) (c:Array (Option Value)) (kV d i a j:Value),
 K.lookup p=some ⟨e,g,.func (nh x q (xg st) (qr st) (jj st) .none kV d i h a j),c⟩/\rO K a q=true
def cR (K:ay) (x:Str) (st:Stmt):Prop:= ∃p:Addr,bM K bv x=some (some (.ref p))/\AY K p x x st/\h8 K (.ref p)=true
def Dm (K:ay) (C:Addr) (m q:Str) (st:Stmt) (c:List Str):Prop:= ∃f a,iO K m q st f a/\Meth K C m f/\Binds K a c []
def oi (K:ay) (C:Addr) (m q:Str) (st:Stmt):Prop:= ∃p:Addr,iZ K (.ref C) m=some (some (.ref p))/\As K (.ref p)=true/\AY K p m q st/\h8 K (.ref p)=true
abbrev Tk (x q:Str) (st:Stmt) (d:List Value) (e:List Str):Prop:= ∀(kV a g:Value) (h:Option Addr) (c i:Value),bindArgs (nh x q (xg st) (qr st) (jj st) .none kV a g h c i) ⟨d,[]⟩=pure (e.zip d)
section
variable {K:ay} {mg:Xd} {x q m:Str} {st:Stmt} {ps:List Str} {h:Heap} {C:Addr}
def AY.fn (l:AY K p x q st) (k:h8 K (.ref p)=true) (j: ∀g,g.length=ps.length->Tk x q st g ps): ∃i,iO K x q st p i/\Binds K i ps []:=by
 obtain ⟨u,v,w,n,kV,o,y,r,ct,l,c⟩:=l;have F:=vg l c k;exact ⟨_,F,F.binds λa b c d e f g t=>j g t a b c d e f⟩
def cR.dx (d:cR K x st) (e:K.In h) (G:h.Ns bv mg) (g: ∀c,c.length=ps.length->Tk x x st c ps):Dx K mg x st ps:=by
 obtain ⟨p,a,l,k⟩:=d;obtain ⟨i,F,B⟩:=l.fn k g;exact ⟨p,i,F,eJ e G a,B⟩
def oi.dm (d:oi K C m q st) (e: ∀c,c.length=ps.length->Tk m q st c ps):Dm K C m q st ps:=by
 obtain ⟨p,a,i,l,k⟩:=d;obtain ⟨g,F,B⟩:=l.fn k e;exact ⟨p,g,F,⟨a,i,k⟩,B⟩
def YC {P:List Value->Prop} {n:Nat} (h: ∀a c,c.length=n->P (a::c)): ∀c,c.length=n+1->P c:=by
 intro c e
 cases c with
 |nil=>cases e
 |cons a r=>exact h a r (Nat.succ.inj e)
def ux {P:List Value->Prop} (h:P []): ∀c,c.length=0->P c:=by
 intro c e
 cases c with
 |nil=>exact h
 |cons a r=>cases e
def nq (h: ∀a,Tk x q st [a] [p]:=by intro _ _ _ _ _ _ _;rfl): ∀c:List Value,c.length=[p].length->Tk x q st c [p]:=YC λa=>ux (h a)
def so (h: ∀a b,Tk x q st [a,b] [p,c]:=by intro _ _ _ _ _ _ _ _;rfl): ∀d:List Value,d.length=[p,c].length->Tk x q st d [p,c]:=YC λa=>YC λb=>ux (h a b)
def CO (h: ∀a b c,Tk x q st [a,b,c] [p,d,e]:=by intro _ _ _ _ _ _ _ _ _;rfl): ∀g:List Value,g.length=[p,d,e].length->Tk x q st g [p,d,e]:=YC λa=>YC λb=>YC λc=>ux (h a b c)
end
section
variable {P:bI} {w:World} {K:ay} {mg:Xd} {ae:Heap}
def xD {st:Stmt} (e:Bool) (d:Dx K mg x st h) (S:aC N h (jj st))
  (i: ∀(f:Addr) (c:Value) (A:bV) (a:List Env) (s:aB) (H:Hp) (E:XK),aH k (A.deeper (gx x (jj st) s.heap.objs.size f c))->fU (bH hD P w K mg ae N x (jj st) f c A a s H E).m8 (qr st) g):
  Av P w K mg ae (k+1) x h e (ba e N.length g):=by
 obtain ⟨f,j,F,m,B⟩:=d;exact Ht e F m S B (i f)
def Ig {st:Stmt} (h:Bool) (d:Dm K C m q st i) (j:bM K bv c=some (some (.ref C))/\gK K C) (S:aC N i (jj st))
  (l: ∀(f:Addr) (e:Value) (A:bV) (a:List Env) (s:aB) (H:Hp) (E:XK),aH k (A.deeper (gx q (jj st) s.heap.objs.size f e))->fU (bH hD P w K mg ae N q (jj st) f e A a s H E).m8 (qr st) g):
  hH P w K mg ae (k+1) c m i h (ba h N.length g):=by
 obtain ⟨f,n,F,m,B⟩:=d;exact HQ h F j.1 j.2 m S B (l f)
end
section
variable {X:Cx} {a b e:Expr} {f Q U:TJ} {pos:Pos} {x:Str}
def vb (i:Nat) (d:X.N[i]?=some x:=by rfl) (g:gJ X.env.scope x:=by exact eK rfl) (hd:Yj x:=by decide) (c:Yi x:=by decide):DE X .b (.Name x pos) (af i):=DE.b (dv i d g hd c)
def ib {j}:DE X .b (.Constant (.int i) j pos) (cI i):=vp
def cT {j}:DE X .s (.Constant (.int i) j pos) (cI i):=vp
def ob (c:b7 X (eU d) r) (h:eH X.K r g) (i:DE X .b a Q) (j:DE X .b b U):DE X .b (.BinOp a d b pos) (al Q U g):=VG c h i j
def dL (c:b7 X (eU d) r) (h:eH X.K r g) (i:DE X .b a Q) (j:DE X .b b U):DE X .s (.BinOp a d b pos) (al Q U g):=VG c h i j
def J7 (c:DE X .b a Q) (d:DE X .b b U):DE X .b (.BinOp a .Mod b pos) (al Q U aY):=VG qN qO c d
def KL (c:DE X .b a Q) (d:DE X .b b U):DE X .b (.BinOp a .Pow b pos) (al Q U dA):=VG KC KJ c d
def gi (c:Gl X x) (d: ∃t,X.mg x=some (.int i t)) (hd:Yj x:=by decide):DE X .b (.Name x pos) (cI i):=d.elim λ_ h=>GR c h hd
def Ih (c:Gl X x) (d: ∃t,X.mg x=some (.str y t)) (g:y.length<=aR:=by decide) (hd:Yj x:=by decide):DE X .b (.Name x pos) (cS y):=d.elim λ_ h=>GS c h g hd
end
def n8.bG (h:n8 X l e f):DE X l e (ER f):=by
 with_unfolding_all exact (PE.imp h λg H Q ⟨G,a,env,d,k,c,q⟩=>⟨G,a,env,k,.inl ⟨d,KM c,q⟩⟩)
section
variable {X:Cx} {k n:Nat} {c m:Str} {ps:List Str} {MR:List D} {N:Bool} {F:TC} {o e c0:Expr} {es:List Expr} {pos pos' apos bD:Pos} {fo f:TJ} {g:TD} {pl:Sem Bool} {i:Nat} {rest body:List Stmt} {O g2:TF} {x:Str}
def AZ (t:TH) (O g2:TF):Sl->ao bF:=λa=>t a>>=λb=>if b=true then O a>>=λo=>match o with
  | .rt N d=> .ok (.rt N d)
  |_=> .aj
 else g2 a
def gR (O g2:TF):Sl->ao bF:=λd=>O d>>=λo=>match o with
 | .nx a=>g2 a
 |_=> .aj
def Xn {h:Sl} {p:L2.St} {i:Nat} {a:Addr} (o:jQ (h.set i .un) p a):jQ h p a:=by
 obtain ⟨j,d,l,r⟩:=o
 by_cases z:i=j
 . subst z;obtain ⟨q,_⟩:=jp l;cases q
 . rw [ji z] at l;exact ⟨j,d,l,r⟩
def ar.drop {K:ay} {G:Xc} {u H:Hp} {env:Sl} {r:L2.St} {i:Nat} (k:ar K G u env r H):ar K G u (env.set i .un) r H:=by
 have w: ∀a,Sf G env r a->Sf G (env.set i .un) r a:=λa n=>⟨λo=>n.1 (Xn o),n.2⟩
 refine ⟨by simp [k.len],k.ae,k.g0,λj d h=>?_,λj d h=>?_,λj y d e a l p t B=>?_⟩
 . have z:i≠j:=by rintro rfl;obtain ⟨q,_⟩:=jp h;cases q
   rw [ji z] at h;obtain ⟨v,l,p⟩:=k.ak j d h;exact ⟨v,l,p.az w⟩
 . have z:i≠j:=by rintro rfl;obtain ⟨q,_⟩:=jp h;cases q
   rw [ji z] at h;obtain ⟨a,l,p,t⟩:=k.av j d h;exact ⟨a,l,p,t.aV (λ_ _ e _=>e) w λ_ e=>e⟩
 . have E:i≠j:=by rintro rfl;obtain ⟨q,_⟩:=jp l;cases q
   have I:i≠y:=by rintro rfl;obtain ⟨q,_⟩:=jp p;cases q
   rw [ji E] at l;rw [ji I] at p;exact k.lZ j y d e a l p t B
end
abbrev FJ:=Sl->ao (D×Sl)
end M
namespace M
open PySem
namespace Tab
open SetTable (Probe runEnd leap bits)
def lK (m:Nat) (p:Probe):Probe:=
 if p.more>0 then {p with j:=p.j+1,more:=p.more-1} else
 {p with j:=(leap m p.i p.perturb).1,more:=runEnd m (leap m p.i p.perturb).1-(leap m p.i p.perturb).1,i:=(leap m p.i p.perturb).1,perturb:=(leap m p.i p.perturb).2}
def t8 (m:Nat) (i q:Nat):Probe:={j:=i,more:=runEnd m i-i,i:=i,perturb:=q,dummy:=none}
def et (m:Nat) (h:Int):Nat->Probe
 |0=>t8 m (bits h%(m+1)) (bits h)
 |n+1=>lK m (et m h n)
def at' (m:Nat) (h:Int) (n:Nat):Nat:=(et m h n).j
def lp (m:Nat) (h:Int):Nat->Nat×Nat
 |0=>(bits h%(m+1),bits h)
 |c+1=>leap m (lp m h c).1 (lp m h c).2
def off (m:Nat) (h:Int):Nat->Nat
 |0=>0
 |c+1=>off m h c+(runEnd m (lp m h c).1-(lp m h c).1)+1
theorem Wv (e:et m h n=t8 m i q): ∀k,k<=runEnd m i-i->et m h (n+k)={j:=i+k,more:=runEnd m i-i-k,i:=i,perturb:=q,dummy:=none}
 |0,_=>by rw [sr,e];rfl
 |k+1,a=>by
  have:=Wv e k (by omega);rw [<-Nat.add_assoc];show lK m (et m h (n+k))=_;rw [this];unfold lK;rw [if_pos (show runEnd m i-i-k>0 by omega)];simp;omega
theorem Kp (m:Nat) (h:Int): ∀c,et m h (off m h c)=t8 m (lp m h c).1 (lp m h c).2
 |0=>rfl
 |c+1=>by
  have e:=Wv (Kp m h c) _ (a9 _);show lK m (et m h (off m h c+(runEnd m (lp m h c).1-(lp m h c).1)))=_;rw [e];unfold lK;rw [if_neg (by simp)];rfl
def Wf (a:k<=runEnd m (lp m h c).1-(lp m h c).1):at' m h (off m h c+k)=(lp m h c).1+k:=by
 unfold at';rw [Wv (Kp m h c) k a]
def Ii (m i:Nat):runEnd m i-i<=9:=by unfold runEnd;split<;>omega
theorem kR (m:Nat) (h:Int): ∀c,off m h c<=10*c
 |0=>a9 _
 |c+1=>by
  have:=kR m h c;have:=Ii m (lp m h c).1;show off m h c+(runEnd m (lp m h c).1-(lp m h c).1)+1<=_;omega
theorem E2 (m:Nat) (h:Int): ∀c,(lp m h c).1<=m
 |0=>CP (Nat.mod_lt _ (A0 _))
 |c+1=>CP (Nat.mod_lt _ (A0 _))
def Ij (h:Int):bits h<2^64:=by
 unfold bits;have a:(0:Int)<=h%(2^64:Int):=nr _ (by decide);have c:h%(2^64:Int)< (2^64:Int):=ss _ (by decide);omega
theorem Qi (m:Nat) (h:Int): ∀c,(lp m h c).2=bits h/32^c
 |0=>by simp [lp]
 |c+1=>by
  show (lp m h c).2/32=_;rw [Qi m h c,Nat.div_div_eq_div_mul,Nat.pow_succ]
def uv (m:Nat) (h:Int) (a:13<=c):(lp m h c).2=0:=by
 rw [Qi];refine Nat.div_eq_of_lt (eE (Ij h) ?_);exact dE (by decide:2^64<=32^13) (Nat.pow_le_pow_right (by decide) a)
def fv (m:Nat):Nat->Nat->Nat
 |0,i=>i
 |d+1,i=>(fv m d i*5+1)%(m+1)
theorem E3 (m:Nat) (h:Int): ∀d,(lp m h (13+d)).1=fv m d (lp m h 13).1
 |0=>rfl
 |d+1=>by
  show (leap m (lp m h (13+d)).1 (lp m h (13+d)).2).1=_;rw [uv m h (by omega)];rw [E3 m h d];rfl
def iR (m:Nat):Prop:= ∀i j,i<=m->j<=m-> ∃d,d<=m/\fv m d i=j
theorem XH (m:Nat) (a i:Nat): ∀b,fv m (a+b) i=fv m b (fv m a i)
 |0=>rfl
 |b+1=>by show (fv m (a+b) i*5+1)%(m+1)=_;rw [XH m a i b];rfl
def Ik (g:fv m (m+1) 0=0) (h: ∀j,j<=m-> ∃d,d<=m/\fv m d 0=j):iR m:=λi j k l=>by
 obtain ⟨a,o,c⟩:=h i k;obtain ⟨b,p,e⟩:=h j l
 by_cases n:a<=b
 . exact ⟨b-a,by omega,by rw [<-c,<-XH,show a+(b-a)=b by omega,e]⟩
 . refine ⟨m+1-a+b,by omega,?_⟩;rw [<-c,<-XH,show a+(m+1-a+b)=m+1+b by omega,XH,g,e]
def CQ (m:Nat):Nat->Nat->List Nat
 |0,_=>[]
 |n+1,i=>i::CQ m n ((i*5+1)%(m+1))
theorem vf (m:Nat) (i:Nat): ∀d,fv m (d+1) i=fv m d ((i*5+1)%(m+1))
 |0=>rfl
 |d+1=>by show (fv m (d+1) i*5+1)%(m+1)=_;rw [vf m i d];rfl
theorem Kz (m:Nat): ∀n i j,j∈CQ m n i-> ∃d,d<n/\fv m d i=j
 |0,_,_,h=>by cases h
 |n+1,i,j,h=>by
  rcases dP.mp h with rfl|h
  . exact ⟨0,A0 _,rfl⟩
  . obtain ⟨d,c,a⟩:=Kz m n _ j h;exact ⟨d+1,by omega,by rw [vf];exact a⟩
def WX (a:fv m (m+1) 0=0) (h:(fu (m+1)).all (λj=>(CQ m (m+1) 0).contains j)=true):iR m:=
 Ik a λj g=>by
  have c:=eD.mp h j (fx.mpr (by omega));obtain ⟨d,i,e⟩:=Kz m _ _ _ (List.contains_iff_mem.mp c);exact ⟨d,by omega,e⟩
def CS:iR 7:=WX (by decide+kernel) (by decide+kernel)
def Il:iR 31:=WX (by decide+kernel) (by decide+kernel)
def Im:iR 127:=WX (by decide+kernel) (by decide+kernel)
def Qm (C:iR m) (h:Int) (a:j<=m): ∃c,c<=m+13/\(lp m h c).1=j:=by
 obtain ⟨d,g,e⟩:=C _ j (E2 m h 13) a;exact ⟨13+d,by omega,by rw [E3,e]⟩
def Yk (C:iR m) (h:Int) (a:j<=m): ∃n,n<=10*(m+13)/\at' m h n=j:=by
 obtain ⟨c,e,d⟩:=Qm C h a;refine ⟨off m h c,dE (kR m h c) (by omega),?_⟩;have:=Wf (m:=m) (h:=h) (c:=c) (eQ _);rw [sr] at this;rw [this,d,sr]
def CU (h:Int) (n:Nat):at' m h n<=m:=by
 suffices c: ∀n,(et m h n).j+(et m h n).more<=m by exact dE (qa _ _) (c n)
 have a: ∀i q,i<=m->(t8 m i q).j+(t8 m i q).more<=m:=λi q d=>by
  show i+(runEnd m i-i)<=m;unfold runEnd;split<;>omega
 intro n
 induction n with
 |zero=>exact a _ _ (E2 m h 0)
 |succ n e=>
  show (lK m (et m h n)).j+(lK m (et m h n)).more<=m;unfold lK
  split
  . show (et m h n).j+1+((et m h n).more-1)<=m;omega
  . exact a _ 0 (CP (Nat.mod_lt _ (A0 _)))
def Qu {m:Nat} (C:iR m) (h:Int) (c:Nat->Prop) [DecidablePred c] {j:Nat} (i:j<=m) (l: ¬c j): ∃n,n<=10*(m+13)/\ ¬c (at' m h n)/\ ∀k,k<n->c (at' m h k):=by
 obtain ⟨n,t,o⟩:=Yk C h i
 suffices p: ∀N,¬c (at' m h N)-> ∃n,n<=N/\ ¬c (at' m h n)/\ ∀k,k<n->c (at' m h k) by
  obtain ⟨e,a,b⟩:=p n (by rw [o];exact l);exact ⟨e,by omega,b⟩
 intro N
 induction N using Nat.strongRecOn with
 |ind N q=>
  intro r
  by_cases d: ∀k,k<N->c (at' m h k)
  . exact ⟨N,a9 _,r,d⟩
  . simp at d;obtain ⟨k,g,d⟩:=d;obtain ⟨e,a,b⟩:=q k g d;exact ⟨e,by omega,b⟩
end Tab
end M
namespace M
open PySem
namespace Tab
variable {L:Bool}
open SetTable (Probe runEnd leap bits below insertAt)
theorem Zn (d:Array Nat) (j:Nat) (o:d.toList.Pairwise (· < ·)): ∀(fuel lo c:Nat),c-lo<=fuel->lo<=c->c<=d.size->(∀k v,k<lo->d[k]?=some v->v<j)->(∀k v,c<=k->d[k]?=some v->j<=v)->
  (∀k v,k<A1 d j fuel lo c->d[k]?=some v->v<j)/\(∀k v,A1 d j fuel lo c<=k->d[k]?=some v->j<=v)/\A1 d j fuel lo c<=d.size
 |0,lo,c,E,H,i,l,m=>by
  obtain rfl:lo=c:=by omega
  exact ⟨l,m,i⟩
 |fuel+1,lo,c,E,H,i,l,m=>by
  unfold A1
  by_cases y:lo<c
  . rw [if_pos y];have h:(lo+c)/2<d.size:=by omega
    have I:d.getD ((lo+c)/2) j=d[(lo+c)/2]:=by rw [t9,gE h];rfl
    have mono: ∀a b p vb,a<b->d[a]?=some p->d[b]?=some vb->p<vb:=λa b p vb q z B=>by
      rw [<-fE] at z B;obtain ⟨r,t⟩:=fZ.mp z;obtain ⟨u,w⟩:=fZ.mp B;rw [<-t,<-w];exact List.pairwise_iff_getElem.mp o a b r u q
    dsimp only;rw [I]
    by_cases n:d[(lo+c)/2]<j
    . rw [if_pos n];refine Zn d j o fuel _ c (by omega) (by omega) i (λk v J e=>?_) m
      by_cases g:k=(lo+c)/2
      . subst g;rw [gE h] at e;cases e;exact n
      . exact rS (mono k _ v _ (by omega) e (gE h)) n
    . rw [if_neg n];refine Zn d j o fuel lo _ (by omega) (by omega) (by omega) l (λk v J e=>?_)
      by_cases g:k=(lo+c)/2
      . subst g;rw [gE h] at e;cases e;omega
      . have:=mono _ k _ v (by omega) (gE h) e;omega
  . rw [if_neg y];obtain rfl:lo=c:=by omega
    exact ⟨l,m,i⟩
def QA (c:a.toList.Pairwise (· < ·)) (j:Nat):(∀k v,k<fg a j->a[k]?=some v->v<j)/\(∀k v,fg a j<=k->a[k]?=some v->j<=v)/\fg a j<=a.size:=
 Zn a j c a.size 0 a.size (by omega) (eQ _) (a9 _) (λk v h _=>absurd h (su _)) λk v h e=>by
  rw [Array.getElem?_eq_none h] at e;cases e
def yk (d:a.toList.Pairwise (· < ·)) (e:a[i]?=some j):fg a j=i:=by
 obtain ⟨k,l,n⟩:=QA d j
 have m:fg a j<=i:=by
  refine rT λh=>?_
  exact absurd (k i j h e) (lC _)
 have c:=(ua.mp e).1;refine Nat.le_antisymm m (rT λh=>?_);have g:fg a j<a.size:=by omega
 have:=l _ _ (a9 _) (gE g)
 have o:a[fg a j]<a[i]:=by
  have:=List.pairwise_iff_getElem.mp d (fg a j) i (by simpa using g) (by simpa using c) h;simpa using this
 rw [gE c] at e;cases e;omega
theorem Kb {t:iu} (a:t.place.toList.Pairwise (· < ·)) (dm:t.dummies= #[]) (j:Nat):t.slot j=match t.place[fg t.place j]? with
  |some v=>if v=j then .live (fg t.place j) else .empty
  |none=> .empty:=by
 unfold SetTable.slot;have hd:SetTable.has t.dummies j=false:=by rw [dm];rfl
 dsimp only;rw [hd]
 cases h:t.place[fg t.place j]? with
 |none=>simp
 |some v=>simp
def Jd {t:iu} (a:t.place.toList.Pairwise (· < ·)) (dm:t.dummies= #[]) (e:t.place[i]?=some j):t.slot j= .live i:=by
 rw [Kb a dm,yk a e,e];simp
def Yf {t:iu} (a:t.place.toList.Pairwise (· < ·)) (dm:t.dummies= #[]) (e:j∉t.place.toList):t.slot j= .empty:=by
 rw [Kb a dm]
 split
 . rename_i v h;rw [if_neg];rintro rfl;rw [<-fE] at h;exact e (g9 h)
 . rfl
structure Tb (L:Bool) (m:Nat) (t:iu) (es:Array (Int×Value)):Prop where
 ld:t.led=L
 mask:t.mask=m
 dm:t.dummies= #[]
 sz:t.place.size=es.size
 up:t.place.toList.Pairwise (· < ·)
 le: ∀j∈t.place.toList,j<=m
 road: ∀(i j:Nat) (e:Int×Value),t.place[i]?=some j->es[i]?=some e-> ∃n,at' m e.1 n=j/\ ∀k,k<n->at' m e.1 k∈t.place.toList
def Tb.fresh (led:Bool):Tb led 7 (.fresh 0 0 led) #[]:=⟨rfl,rfl,rfl,rfl,.nil,(λ_ h=>by cases h),(λi j e h=>by simp [SetTable.fresh] at h)⟩
section
variable {m:Nat} {t:iu} {Z:Array (Int×Value)}
def Tb.el (T:Tb L m t Z) {i:Nat} (h:t.place[i]?=some j): ∃e,Z[i]?=some e:=by
 have:=(ua.mp h).1;exact ⟨_,gE (by rw [<-T.sz];exact this)⟩
def Tb.met (T:Tb L m t Z) {i:Nat} (d:Z[i]?=some e) (c:at' m e.1 N∉t.place.toList): ∃n j,n<N/\at' m e.1 n=j/\t.place[i]?=some j:=by
 have k:=(ua.mp d).1;have a:t.place[i]?=some (t.place[i]'(by rw [T.sz];exact k)):=gE _;obtain ⟨n,g,l⟩:=T.road i _ e a d;refine ⟨n,_,CV (rT λh=>c (l N h)) ?_,g,a⟩;rintro rfl;rw [g] at c;exact c (by rw [<-fE] at a;exact g9 a)
def yL {d:Type} (a:Array d) (x:d) (h:p<=a.size) (i:Nat):(insertAt a p x)[i]?=if i<p then a[i]? else if i=p then some x else a[i-1]?:=by
 rw [<-fE,CW];rw [show a[i]?=a.toList[i]? from fE.symm,show a[i-1]?=a.toList[i-1]? from fE.symm];have g:(a.toList.take p).length=p:=by simp;omega
 by_cases c:i<p
 . rw [if_pos c,g8 (by omega),Ax c]
 . rw [if_neg c,fA (by omega),g]
   by_cases e:i=p
   . subst e;simp
   . rw [if_neg e,show i-p=(i-p-1)+1 by omega,oh,CY,show p+(i-p-1)=i-1 by omega]
def Tb.put (T:Tb L m t Z) (E:at' m h N=j) (U:j∉t.place.toList) (Y: ∀k,k<N->at' m h k∈t.place.toList):Tb L m (t.put j).1 (insertAt Z (t.put j).2 (h,x)):=by
 obtain ⟨b1,H,I⟩:=QA T.up j
 have l: ∀k,k∈(insertAt t.place (fg t.place j) j).toList↔k=j\/k∈t.place.toList:=λk=>by
   rw [CW];have:t.place.toList=t.place.toList.take (fg t.place j)++t.place.toList.drop (fg t.place j):=(CZ _ _).symm
   constructor
   . intro z;rcases eG.mp z with z|z
     . exact .inr (sv z)
     . rcases dP.mp z with z|z
       . exact .inl z
       . exact .inr (sw z)
   . rintro (rfl|z)
     . exact hQ _ dB
     . rw [this] at z;rcases eG.mp z with z|z
       . exact o7 _ z
       . exact hQ _ (dC _ z)
 have hd:(t.put j).1.dummies= #[]:=by
   show (if SetTable.has t.dummies j then _ else t.dummies)= #[];rw [T.dm];rfl
 refine ⟨T.ld,T.mask,hd,?_,?_,?_,?_⟩
 . show (insertAt t.place (fg t.place j) j).size=(insertAt Z (fg t.place j) (h,x)).size;have:=T.sz;rw [<-fW,<-fW,(C0 _ _ _).length_eq,(C0 _ _ _).length_eq];simp [this]
 . show (insertAt t.place (fg t.place j) j).toList.Pairwise (· < ·);rw [CW,List.pairwise_append,List.pairwise_cons];refine ⟨T.up.sublist (List.take_sublist _ _),⟨λv y=>?_,T.up.sublist (List.drop_sublist _ _)⟩,λv y w hw=>?_⟩
   . obtain ⟨q,g⟩:=n6.mp y;rw [CY,fE] at g;have:=H _ _ (qa _ _) g;refine CV this ?_;rintro rfl;exact U (by rw [<-fE] at g;exact g9 g)
   . have p:v<j:=by
       obtain ⟨q,g⟩:=n6.mp y;obtain ⟨q1,q2⟩:=fZ.mp g;have J:q<fg t.place j:=by simp at q1;omega
       rw [Ax J,fE] at g;exact b1 q v J g
     rcases dP.mp hw with rfl|hw
     . exact p
     . obtain ⟨q,g⟩:=n6.mp hw;rw [CY,fE] at g;exact eE p (H _ _ (qa _ _) g)
 . intro k hk;rcases (l k).mp hk with rfl|hk
   . rw [<-E];exact CU h N
   . exact T.le k hk
 . intro i k e hk o;have B:fg t.place j<=Z.size:=by rw [<-T.sz];exact I
   rw [show (t.put j).1.place=insertAt t.place (fg t.place j) j from rfl,yL _ _ I] at hk;rw [show (t.put j).2=fg t.place j from rfl,yL _ _ B] at o
   have r: ∀u,t.place[u]?=some k->Z[u]?=some e-> ∃n,at' m e.1 n=k/\ ∀q,q<n->at' m e.1 q∈(t.put j).1.place.toList:=λu a b=>by
     obtain ⟨n,c,d⟩:=T.road u k e a b;exact ⟨n,c,λq g=>(l _).mpr (.inr (d q g))⟩
   by_cases O:i<fg t.place j
   . rw [if_pos O] at hk o;exact r i hk o
   . rw [if_neg O] at hk o
     by_cases Q:i=fg t.place j
     . rw [if_pos Q] at hk o;cases hk;cases o;exact ⟨N,E,λq g=>(l _).mpr (.inr (Y q g))⟩
     . rw [if_neg Q] at hk o;exact r _ hk o
theorem ut: ∀ {l l':List Nat},l.Nodup->(∀x∈l,x∈l')->l.length<=l'.length
 | [],_,_,_=>eQ _
 |a::l,l',d,h=>by
  obtain ⟨e,g⟩:=oH.mp d;have i:=ut g λx c=>(List.mem_erase_of_ne (by rintro rfl;exact e c)).mpr (h x (dC _ c))
  have j:=List.length_erase_of_mem (h a dB);have k:=C1 (h a dB);rw [fP];omega
def Tb.free (T:Tb L m t Z) (e:Z.size<=m): ∃j,j<=m/\j∉t.place.toList:=by
 refine A2 λh=>?_
 have a: ∀j,j∈fu (m+1)->j∈t.place.toList:=λj c=>A2 λz=>h ⟨j,by have:=fx.mp c;omega,z⟩
 have d:=ut (A3) a;rw [C3,fW,T.sz] at d;omega
end
end Tab
end M
namespace M
open PySem
namespace Tab
variable {L:Bool}
open SetTable (Probe runEnd leap bits below insertAt)
def jQ (a:Array (Option Nat)) (j:Nat):Prop:=(a.getD j (some 0)).isNone=false
instance (ow:Array (Option Nat)):DecidablePred (jQ ow):=λj=>inferInstanceAs (Decidable (_=false))
def Io (m i:Nat):i<=runEnd m i:=by unfold runEnd;split<;>omega
def QZ (m:Nat) (h:Int) (c:Nat):off m h (c+1)=off m h c+(runEnd m (lp m h c).1-(lp m h c).1)+1:=rfl
def UE (m:Nat) (h:Int) (c:a<b):off m h a<off m h b:=by
 induction b with
 |zero=>omega
 |succ b d=>
  rw [QZ]
  by_cases e:a=b
  . subst e;omega
  . have:=d (by omega);omega
theorem Vp (g: ¬jQ e (at' m h N)) (i: ∀k,k<N->jQ e (at' m h k)): ∀(fuel c:Nat),off m h c<=N->N<off m h (c+fuel)->
  ub m e fuel (lp m h c).1 (lp m h c).2=some (at' m h N)
 |0,c,p,j=>by rw [sr] at j;omega
 |fuel+1,c,p,j=>by
  have q:=Io m (lp m h c).1;unfold ub
  by_cases o:N<off m h (c+1)
  . rw [QZ] at o
    have d:at' m h N=(lp m h c).1+(N-off m h c):=by
     rw [<-Wf (by omega)];congr 1;omega
    have l:(fu (runEnd m (lp m h c).1+1-(lp m h c).1)).find? (λk=>(e.getD ((lp m h c).1+k) (some 0)).isNone)=some (N-off m h c):=by
     rw [List.find?_range_eq_some];refine ⟨?_,by rw [fx];omega,λk n=>?_⟩
     . rw [<-d];unfold jQ at g;simpa using g
     . have a:=i (off m h c+k) (by omega);rw [Wf (by omega)] at a;unfold jQ at a;simpa using a
    rw [l,d]
  . have l:(fu (runEnd m (lp m h c).1+1-(lp m h c).1)).find? (λk=>(e.getD ((lp m h c).1+k) (some 0)).isNone)=none:=by
     rw [List.find?_eq_none];intro k n;have n:=fx.mp n;rw [QZ] at o;have a:=i (off m h c+k) (by omega);rw [Wf (by omega)] at a;unfold jQ at a;rw [C4];exact a
    rw [l];exact Vp g i fuel (c+1) (by omega) (by rw [show c+1+fuel=c+(fuel+1) by omega];exact j)
def uJ (C:iR m) (h:Int) (g:j<=m) (i: ¬jQ a j): ∃N,ub m a (nu m) (bits h%(m+1)) (bits h)=some (at' m h N)/\ ¬jQ a (at' m h N)/\ ∀k,k<N->jQ a (at' m h k):=by
 obtain ⟨c,o,n⟩:=Qm C h g;obtain ⟨N,_,l,d⟩:=Qu C h (jQ a) g i;refine ⟨N,?_,l,d⟩
 have p:N<=off m h c:=by
  refine rT λz=>?_
  have:=d _ z;have e:=Wf (m:=m) (h:=h) (c:=c) (eQ _);rw [sr,sr,n] at e;rw [e] at this;exact i this
 have:=UE m h (show c<0+nu m by unfold nu;omega);exact Vp l d (nu m) 0 (eQ _) (by omega)
structure Ow (m:Nat) (hs:List Int) (ow:Array (Option Nat)) (k:Nat):Prop where
 sz:ow.size=m+1
 av: ∀(j q:Nat),ow[j]?=some (some q)->q<k/\ ∃hq,hs[q]?=some hq/\ ∃n,at' m hq n=j/\ ∀r,r<n->jQ ow (at' m hq r)
 all: ∀q,q<k-> ∃j:Nat,ow[j]?=some (some q)
 one: ∀(j j' q:Nat),ow[j]?=some (some q)->ow[j']?=some (some q)->j=j'
def Jm (c:j<a.size):jQ a j↔ ∃q,a[j]?=some (some q):=by
 unfold jQ;rw [t9,gE c];cases h:a[j]<;>simp [h]
def Ow.room (O:Ow m w d k) (y:k<=m): ∃j,j<=m/\ ¬jQ d j:=by
 refine A2 λh=>?_
 have c: ∀j,j<=m-> ∃q,d[j]?=some (some q):=λj g=>by
   have:jQ d j:=A2 λz=>h ⟨j,g,z⟩
   exact (Jm (by rw [O.sz];omega)).mp this
 have p:=ut (l:=(fu (m+1)).map λj=>((d[j]?).getD none).getD 0) (l':=fu k) ?_ ?_
 . rw [bB,C3,C3] at p;omega
 . refine oj.mpr ((A3).imp_of_mem λ{a b} r t i e=>?_);obtain ⟨u,n⟩:=c a (by have:=fx.mp r;omega);obtain ⟨B,o⟩:=c b (by have:=fx.mp t;omega);simp only [n,o,Ae] at e;subst e;exact i (O.one a b u n o)
 . intro x v;obtain ⟨j,g,rfl⟩:=b8.mp v;obtain ⟨q,e⟩:=c j (by have:=fx.mp g;omega);simp only [e,Ae];exact fx.mpr (O.av j q e).1
def Ow.step (O:Ow m p g k) (u:p[k]?=some h) (v: ¬jQ g (at' m h N)) (w: ∀r,r<N->jQ g (at' m h r)):Ow m p (g.setIfInBounds (at' m h N) (some k)) (k+1):=by
 have dF:at' m h N<g.size:=by rw [O.sz];have:=CU (m:=m) h N;omega
 have get: ∀j:Nat,(g.setIfInBounds (at' m h N) (some k))[j]?=if at' m h N=j then some (some k) else g[j]?:=λj=>by
   rw [Array.getElem?_setIfInBounds]
   split
   . rename_i e;subst e;simp [dF]
   . rfl
 have mono: ∀j,jQ g j->jQ (g.setIfInBounds (at' m h N) (some k)) j:=λj l=>by
   unfold jQ at l ⊢;rw [t9] at l ⊢;rw [get];split
   . rfl
   . exact l
 refine ⟨by rw [Array.size_setIfInBounds];exact O.sz,λj q e=>?_,λq t=>?_,λj y q e i=>?_⟩
 . rw [get] at e
   split at e
   . rename_i z;cases e;exact ⟨Au _,h,u,N,z,λr o=>mono _ (w r o)⟩
   . obtain ⟨a,t,b,n,c,d⟩:=O.av j q e;exact ⟨by omega,t,b,n,c,λr o=>mono _ (d r o)⟩
 . by_cases z:q=k
   . subst z;exact ⟨_,by rw [get,if_pos rfl]⟩
   . obtain ⟨j,e⟩:=O.all q (by omega);refine ⟨j,?_⟩;rw [get,if_neg];exact e;intro B;subst B;exact v ((Jm dF).mpr ⟨q,e⟩)
 . rw [get] at e i
   split at e
   . rename_i z
     split at i
     . rename_i E;rw [<-z,<-E]
     . cases e;have:=(O.av _ _ i).1;omega
   . split at i
     . cases i;have:=(O.av _ _ e).1;omega
     . exact O.one j y q e i
theorem k4 (C:iR m) (o:g.length<=m): ∀(l done:List Int) (i:Array (Option Nat)),done++l=g->Ow m g i done.length->
  ∃d,l.foldl (λ(n:Option (Array (Option Nat)×Nat)) h=>do
   let (c,k)<-n
   let j<-ub m c (nu m) (bits h%(m+1)) (bits h)
   pure (c.setIfInBounds j (some k),k+1)) (some (i,done.length))=some (d,g.length)/\Ow m g d g.length
 | [],done,i,e,O=>by
  rw [lO] at e;subst e;exact ⟨i,rfl,O⟩
 |h::l,done,i,e,O=>by
  have w:done.length<g.length:=by rw [<-e];simp
  obtain ⟨j,p,q⟩:=O.room (by omega);obtain ⟨N,r,t,u⟩:=uJ C h p q;have v:=O.step (by rw [<-e];simp) t u;obtain ⟨d,a,b⟩:=k4 C o l (done++[h]) _ (by rw [<-e];simp) (by rw [dH];exact v);refine ⟨d,?_,b⟩;rw [<-a,List.foldl_cons];congr 1;show (ub m i (nu m) (bits h%(m+1)) (bits h)>>=λj=>_)=_;rw [r,dH];rfl
def WM (C:iR m) (g:hs.size<=m): ∃c,SetTable.layClean m hs=some c/\Ow m hs.toList c hs.size:=by
 have i:Ow m hs.toList (Array.replicate (m+1) none) 0:=⟨by simp,λj q e=>by rw [Array.getElem?_replicate] at e;split at e<;>simp at e,λq h=>absurd h (su _),λj k q e=>by rw [Array.getElem?_replicate] at e;split at e<;>simp at e⟩
 obtain ⟨c,a,b⟩:=k4 C (by simpa using g) hs.toList [] _ rfl i;refine ⟨c,?_,by simpa using b⟩;unfold SetTable.layClean;rw [<-Array.foldl_toList];have d:=a;simp only [List.length_nil] at d;rw [d];rfl
theorem yb {a c:Type} {f:a->Option c} {g:a->c}: ∀ {l:List a},(∀x∈l,f x=some (g x))->l.filterMap f=l.map g
 | [],_=>rfl
 |x::l,h=>by rw [sL,h x dB,fy,yb λy d=>h y (dC _ d)]
def Km {m:Nat} (T:Tb L m t o) (hw:ul w-1=z) (C:iR z) (hm:o.size<=z):
   ∃Y order,t.relaid (o.map (·.1)) w=some (Y,order)/\Tb L z Y (order.filterMap (o[·]?))/\(order.filterMap (o[·]?)).toList.Perm o.toList:=by
 obtain ⟨Z,h1,O⟩:=WM C (hs:=o.map (·.1)) (by simpa using hm);rw [Array.size_map] at O;unfold SetTable.relaid SetTable.laid;rw [hw,h1];generalize B:(fu (z+1)).filterMap (λj=>(Z.getD j none).map (j, ·))=l
 have mem: ∀j q,(j,q)∈l↔Z[j]?=some (some q):=λj q=>by
   rw [<-B,An]
   constructor
   . rintro ⟨a,I,e⟩;rw [lH] at e;obtain ⟨b,e1,e2⟩:=e;cases e2;have I:=fx.mp I;rw [t9,gE (by rw [O.sz];exact I)] at e1;rw [gE (by rw [O.sz];exact I)];simpa using e1
   . intro e;have v:=(ua.mp e).1;rw [O.sz] at v;exact ⟨j,fx.mpr v,by rw [t9,e];rfl⟩
 have up:l.Pairwise (λa b=>a.1<b.1):=by
   rw [<-B];refine List.pairwise_filterMap.mpr ((List.pairwise_lt_range).imp λ{a b} J x hx y hy=>?_);rw [lH] at hx hy;obtain ⟨_,_,rfl⟩:=hx;obtain ⟨_,_,rfl⟩:=hy;exact J
 have dF: ∀p∈l,p.2<o.size:=λp r=>(O.av p.1 p.2 ((mem _ _).mp r)).1
 have N:(l.map (·.2)).Perm (fu o.size):=by
   refine (List.perm_ext_iff_of_nodup ?_ A3).mpr λq=>?_
   . refine oj.mpr (up.imp_of_mem λ{a b} I hb J e=>?_);have:=O.one a.1 b.1 a.2 ((mem _ _).mp I) (by rw [e];exact (mem _ _).mp hb);omega
   . rw [fx]
     constructor
     . intro h;obtain ⟨p,r,rfl⟩:=b8.mp h;exact dF p r
     . intro h;obtain ⟨j,e⟩:=O.all q h;exact b8.mpr ⟨(j,q),(mem _ _).mpr e,rfl⟩
 have E:((l.map (·.2)).toArray.filterMap (o[·]?)).toList=(l.map (·.2)).filterMap (o[·]?):=by simp
 have H:((l.map (·.2)).toArray.filterMap (o[·]?)).toList.Perm o.toList:=by
   rw [E];have:=N.filterMap (o[·]?)
   rwa [filterMap_getElem?_range] at this
 have u: ∃g:Nat->Int×Value,(∀q,q<o.size->o[q]?=some (g q))/\(l.map (·.2)).filterMap (o[·]?)=(l.map (·.2)).map g:=by
   refine ⟨λq=>(o[q]?).getD (0,.none),λq Q=>by show o[q]?=some ((o[q]?).getD (0,.none));rw [gE Q];rfl,yb λq Q=>?_⟩;obtain ⟨p,r,rfl⟩:=b8.mp Q;show o[p.2]?=some ((o[p.2]?).getD (0,.none));rw [gE (dF p r)];rfl
 obtain ⟨g,hg,u⟩:=u;refine ⟨{mask:=z,place:=(l.map (·.1)).toArray,dummies:= #[],finger:=t.finger,led:=t.led,moves:=t.movedTo z,plain:=t.plain},(l.map (·.2)).toArray,by rw [<-B];rfl,⟨T.ld,rfl,rfl,?_,?_,?_,?_⟩,H⟩
 . show (l.map (·.1)).toArray.size=_;rw [<-fW (xs:=Array.filterMap _ _),E,u];simp
 . show ((l.map (·.1)).toArray).toList.Pairwise (· < ·);exact oj.mpr up
 . intro j v;obtain ⟨p,r,rfl⟩:=b8.mp (show j∈l.map (·.1) from v);have:=(ua.mp ((mem p.1 p.2).mp r)).1;rw [O.sz] at this;omega
 . intro i j e v U;have v:(l.map (·.1))[i]?=some j:=by rw [<-fE] at v;exact v
   rw [<-fE,E,u,hG,fB] at U;rw [fB] at v
   cases r:l[i]? with
   |none=>rw [r] at v;cases v
   |some p=>
     rw [r] at v U;cases v;cases U;have r:=g9 r;obtain ⟨a,Q,b,n,c,d⟩:=O.av p.1 p.2 ((mem _ _).mp r)
     have e1:Q=(g p.2).1:=by
       rw [fE,Array.getElem?_map,hg _ (dF p r)] at b;simpa using b.symm
     subst e1;refine ⟨n,c,λk hk=>?_⟩;have h3:=d k hk;obtain ⟨q,h4⟩:=(Jm (by rw [O.sz];have:=CU (m:=z) (g p.2).1 k;omega)).mp h3;exact b8.mpr ⟨_,(mem _ _).mpr h4,rfl⟩
end Tab
end M
namespace M
open PySem
namespace Tab
variable {L:Bool}
open SetTable (Probe runEnd leap bits below insertAt)
theorem ZD (m:Nat) (h:Int): ∀n,(et m h n).dummy=none
 |0=>rfl
 |n+1=>by
  show (lK m (et m h n)).dummy=none;unfold lK;split<;>exact ZD m h n
def Ip (t:iu) (p:Probe):t.advance p=lK t.mask p:=by unfold SetTable.advance lK;split<;>rfl
def Ud (t:iu) (h:Int):t.probeStart h=et t.mask h 0:=rfl
section
variable {m:Nat} {t:iu} {Y:Array (Int×Value)}
theorem Xj (T:Tb L m t Y) (H: ∀(i:Nat) (e:Int×Value),Y[i]?=some e->hashAt i=e.1) (h:Int) (I:at' m h N∉t.place.toList) (J: ∀k,k<N->at' m h k∈t.place.toList):
  ∀(F n:Nat),N-n<F->n<=N->
    (oS t hashAt h F (et m h n)=some (.empty (at' m h N) none)/\ ∀q (i:Nat) (e:Int×Value),n<=q->q<N->t.place[i]?=some (at' m h q)->Y[i]?=some e->e.1≠h)\/
    (∃(q i:Nat) (e:Int×Value),n<=q/\q<N/\t.place[i]?=some (at' m h q)/\Y[i]?=some e/\e.1=h/\oS t hashAt h F (et m h n)=some (.candidate (at' m h q) i (et m h (q+1)))/\ ∀r (i:Nat) (e:Int×Value),n<=r->r<q->t.place[i]?=some (at' m h r)->Y[i]?=some e->e.1≠h)
 |0,n,O,_=>absurd O (su _)
 |F+1,n,O,U=>by
  by_cases Q:n=N
  . subst Q;refine .inl ⟨?_,λq i e a b=>by omega⟩;unfold oS;rw [show (et m h n).j=at' m h n from rfl,Yf T.up T.dm I];rw [ZD]
  . obtain ⟨i,l⟩:=n6.mp (J n (by omega));rw [fE] at l;obtain ⟨e,y⟩:=T.el l
    have one: ∀(o:Nat) (j:Int×Value),t.place[o]?=some (at' m h n)->Y[o]?=some j->j=e:=λo j a b=>by
      have:=yk T.up l;have w:=yk T.up a;rw [this] at w;subst w;rw [y] at b;cases b;rfl
    have z:oS t hashAt h (F+1) (et m h n)=if hashAt i==h then some (.candidate (at' m h n) i (et m h (n+1))) else oS t hashAt h F (et m h (n+1)):=by
      rw [oS];rw [show (et m h n).j=at' m h n from rfl,Jd T.up T.dm l];simp only [Ip,T.mask];rfl
    rw [z,H i e y]
    by_cases p:e.1=h
    . refine .inr ⟨n,i,e,a9 _,by omega,l,y,p,by rw [p];simp,λr i e a b=>by omega⟩
    . rw [show (e.1==h)=false by simpa using p];simp only [mY,if_false];rcases Xj T H h I J F (n+1) (by omega) (by omega) with ⟨a,b⟩| ⟨q,o,j,a,b,c,d,f,g,k⟩
      . refine .inl ⟨a,λq i j w B u v=>?_⟩
        by_cases E:q=n
        . subst E;rw [one i j u v];exact p
        . exact b q i j (by omega) B u v
      . refine .inr ⟨q,o,j,by omega,b,c,d,f,g,λr i j w B u v=>?_⟩
        by_cases E:r=n
        . subst E;rw [one i j u v];exact p
        . exact k r i j (by omega) B u v
end
section
variable {prog:bI} {w:World} {K:Type} [DecidableEq K] {Z:KeyKind prog w K} {A:bV} {E:Ws} {s:aB}
def Zk (n:Nat) (h:sx v=true):u5 n v=pure false:=by
 cases v with
 |ref a=>simp [sx] at h
 |_=>first|rfl|simp [u5]| (unfold u5;rfl)
def yh (j:gp Z s.heap p a) (h:Q false s):wpAny (model prog w) A (u5 8 (.ref a)) Q E s:=by
 have k:=j.typeIs;obtain ⟨o,d,n,l,_,hd,m⟩:=j;unfold u5;refine ax (rP k ?_);refine ax (aM ?_);simp;refine ax (rE l hd ?_);dsimp only;refine ax ?_;rw [<-Ab];refine sI _ (λrest r e=>r.1=none/\e=s/\ ∀v∈rest,sx v=true) _ ?_ ?_ _ _ ⟨rfl,rfl,m.byValue⟩
 . rintro v rest r e ⟨g,rfl,c⟩;rw [Zk _ (c v dB)];refine ax (aM ?_);simp;exact aM ⟨rfl,rfl,λu i=>c u (dC _ i)⟩
 . rintro ⟨q,t⟩ e ⟨g,rfl,_⟩;simp only at g;subst g;exact aM h
def WO (n:Nat) (h:sx v=true): ∃b,hashByValue n v=pure b:=by
 cases v with
 |ref a=>simp [sx] at h
 |_=>cases n<;>first|exact ⟨_,rfl⟩| (unfold hashByValue;exact ⟨_,rfl⟩)
def WP (i:gp Z s.heap q a) (h: ∀b,Q b s):wpAny (model prog w) A (hashByValue 8 (.ref a)) Q E s:=by
 have j:=i.typeIs;obtain ⟨o,d,n,k,_,hd,l⟩:=i;unfold hashByValue;refine ax (wpAny_specialOf j F.slot_tuple_hash.lookup ?_);refine ax (rE k hd ?_);refine ax ?_;rw [<-Ab];refine sI _ (λrest r e=>e=s/\ ∀v∈rest,sx v=true) _ ?_ ?_ _ _ ⟨rfl,l.byValue⟩
 . rintro v rest r e ⟨rfl,c⟩;obtain ⟨b,m⟩:=WO 7 (c v dB);rw [m];refine ax (aM ?_)
   cases b with
   |true=>
    simp;exact aM ⟨rfl,λu g=>c u (dC _ g)⟩
   |false=>
    simp;exact aM (aM (h _))
 . rintro ⟨p,t⟩ e ⟨rfl,_⟩
   cases p with
   |none=>exact aM (h _)
   |some b=>exact aM (h _)
def X9 (i:gp Z s.heap n a) (l:List Value) (m: ∀y∈l,∃b k,y= .ref b/\gp Z s.heap k b) (h:Q false s):wpAny (model prog w) A (searchCouldBeSeen (.ref a) l) Q E s:=by
 unfold searchCouldBeSeen;refine ax ?_;refine sI _ (λrest r e=>r.1=none/\e=s/\ ∀y∈rest,∃b k,y= .ref b/\gp Z s.heap k b) _ ?_ ?_ _ _ ⟨rfl,rfl,m⟩
 . rintro y rest r e ⟨g,rfl,c⟩;obtain ⟨b,k,rfl,j⟩:=c y dB;have go: ∀u d,_:=λu (d:u∈rest)=>c u (dC _ d)
   dsimp only
   split
   . exact aM ⟨rfl,rfl,go⟩
   . refine ax (wpAny_eqIsQuiet_tuple i ?_);simp only [Ad,mY,if_false];refine ax (wpAny_eqIsQuiet_tuple j ?_);simp only [Ad,mY,if_false];refine ax (yh i ?_);simp only [mY,if_false];refine ax (yh j ?_);simp only [mY,if_false];exact aM ⟨rfl,rfl,go⟩
 . rintro ⟨o,p⟩ e ⟨g,rfl,_⟩;simp only at g;subst g;exact aM h
end
end Tab
end M
namespace M
open PySem
namespace Tab
variable {L:Bool}
open SetTable (Probe runEnd leap bits below insertAt)
def Sz (m n:Nat):Prop:=(m=7/\n<=4)\/(m=31/\n<=18)\/(m=127/\n<=76)
def Sz.E4 (S:Sz m n):iR m:=by
 rcases S with ⟨rfl,_⟩| ⟨rfl,_⟩| ⟨rfl,_⟩
 . exact CS
 . exact Il
 . exact Im
def Sz.le (S:Sz m n):n<=m/\m<=127/\m%2=1/\n<=76:=by rcases S with ⟨rfl,h⟩| ⟨rfl,h⟩| ⟨rfl,h⟩<;>omega
def Tb.fits (T:Tb L m t a) (h:a.size<=m):t.fits a.size=true:=by
 unfold SetTable.fits SetTable.fill;rw [T.dm,T.sz,T.mask];simpa using h
section
variable {prog:bI} {w:World} {K:Type} [DecidableEq K] {Z:KeyKind prog w K} {A:bV} {E:Ws} {s:aB}
def Kg (hu:A.units<cLine) {B:List (List K×Addr)} (ho:s.heap.get? a=some o) (hd:o.data= .set r ep t) (T:Tb L m t r) (S:Sz m r.size)
  (he:r.toList=B.map λp=>(eu Z p.1,bP p.2)) (hk: ∀p∈B,gp Z s.heap p.1 p.2) (hx:gp Z s.heap c xa)
  (h1:c∈B.map (·.1)->Q (.there none) s) (hN:at' m (eu Z c) N∉t.place.toList) (hb: ∀k,k<N->at' m (eu Z c) k∈t.place.toList) (E5:N<=10*(m+13)) (h2:c∉B.map (·.1)->Q (.free (at' m (eu Z c) N) false) s):
  ∀(F n:Nat) (g:Option Probe),N-n<F->n<=N->g.getD (t.probeStart (eu Z c))=et m (eu Z c) n->
    (∀q (i:Nat) (p:List K×Addr),q<n->t.place[i]?=some (at' m (eu Z c) q)->B[i]?=some p->p.1≠c)->
    wpAny (model prog w) A (setSearchFrom a (.ref xa) (eu Z c) true F g) Q E s:=by
 have hf:=T.fits S.le.1
 have get: ∀(i:Nat) (e:Int×Value),r[i]?=some e-> ∃p,B[i]?=some p/\e=(eu Z p.1,bP p.2):=λi e h=>by
  rw [<-fE,he,fB] at h
  cases u:B[i]? with
  |none=>rw [u] at h;cases h
  |some p=>rw [u] at h;cases h;exact ⟨p,rfl,rfl⟩
 intro F
 induction F with
 |zero=>intro n _ z;exact absurd z (su _)
 |succ F ih=>
  intro n g hF hn oT l;unfold setSearchFrom;refine ax (sy ho hd hf ?_);dsimp only;have Iq:t.gaveWay=false:=by unfold SetTable.gaveWay;rw [T.mask];have:=S.le.2.2.1;simp [this]
  rw [Iq];simp;rw [oT];unfold SetTable.probe;generalize e0:oS t _ (eu Z c) (10*nu t.mask) (et m (eu Z c) n)=R;have e0:oS t (λi=>(r[i]?.map (·.1)).getD 0) (eu Z c) (10*nu t.mask) (et m (eu Z c) n)=R:=e0;rcases Xj T (hashAt:=λi=>(r[i]?.map (·.1)).getD 0) (λi e h=>by simp [h]) _ hN hb (10*nu t.mask) n (by rw [T.mask];unfold nu;omega) hn with ⟨e1,e2⟩| ⟨q,i,e,a1,a2,a3,U,a5,a6,a7⟩
  . rw [e0] at e1;subst e1;dsimp only;refine aM (h2 λz=>?_);obtain ⟨p,u,e3⟩:=b8.mp z;obtain ⟨i,hi⟩:=n6.mp u;have v:r[i]?=some (eu Z p.1,bP p.2):=by rw [<-fE,he,fB,hi];rfl
    subst e3;obtain ⟨n',j,b1,b2,b3⟩:=T.met v hN;subst b2
    by_cases hq:n'<n
    . exact l n' i p hq b3 hi rfl
    . exact e2 n' i _ (by omega) b1 b3 v rfl
  . rw [e0] at a6;subst a6;dsimp only;obtain ⟨p,u,rfl⟩:=get i e U;have Y:=hk p (g9 u);have E6:t.sameMemory t.moves t.mask=some true:=by unfold SetTable.sameMemory;simp
    have next:p.1≠c-> ∀J (H:Nat) (I:List K×Addr),J<q+1->t.place[H]?=some (at' m (eu Z c) J)->B[H]?=some I->I.1≠c:=λE7 J H I g1 g2 g3=>by
      by_cases hq:J<n
      . exact l J H I hq g2 g3
      . by_cases Ir:J=q
        . subst Ir;have:=yk T.up a3;have h4:=yk T.up g2;rw [this] at h4;subst h4;rw [u] at g3;cases g3;exact E7
        . have v:r[H]?=some (eu Z I.1,bP I.2):=by rw [<-fE,he,fB,g3];rfl
          rintro rfl;exact a7 J H _ (by omega) (by omega) g2 v rfl
    split
    . refine ax (X9 hx _ (λy hy=>?_) ?_)
      . obtain ⟨e',O,rfl⟩:=b8.mp hy;have O:e'∈r/\e'.1=eu Z c:=by simpa using O
        have:=Aq.mpr O.1;obtain ⟨H,tM⟩:=n6.mp this;rw [fE] at tM;obtain ⟨I,E1,rfl⟩:=get H e' tM;exact ⟨_,_,rfl,hk I (g9 E1)⟩
      simp;rw [U];dsimp only;refine ax (iY (wpAny_eqBool_tuple hu Y hx ?_));refine ax (sy ho hd hf ?_)
      by_cases d:p.1=c
      . rw [decide_eq_true d];simp;exact aM (h1 (b8.mpr ⟨p,g9 u,d⟩))
      . rw [decide_eq_false d];simp;rw [E6];simp;rw [Jd T.up T.dm a3];dsimp only;rw [U];dsimp only;refine ax (wpAny_isSame_ref_self ?_);simp;exact ih (q+1) _ (by omega) (by omega) rfl (next d)
    . rw [U];dsimp only;refine ax (iY (wpAny_eqBool_tuple hu Y hx ?_));refine ax (sy ho hd hf ?_)
      by_cases d:p.1=c
      . rw [decide_eq_true d];simp;exact aM (h1 (b8.mpr ⟨p,g9 u,d⟩))
      . rw [decide_eq_false d];simp;rw [E6];simp;rw [Jd T.up T.dm a3];dsimp only;rw [U];dsimp only;refine ax (wpAny_isSame_ref_self ?_);simp;exact ih (q+1) _ (by omega) (by omega) rfl (next d)
end
end Tab
end M
namespace M
open PySem
namespace Tab
variable {L:Bool}
open SetTable (Probe runEnd leap bits below insertAt)
def Tb.led (T:Tb L m t a) (b:Bool):Tb L m {t with plain:=b} a:=⟨T.ld,T.mask,T.dm,T.sz,T.up,T.le,T.road⟩
def Ut {j m:Type} {f:j->m} {l n:List m} (p:l.Perm n): ∀c,n=c.map f-> ∃k:List j,l=k.map f/\k.Perm c:=by
 induction p with
 |nil=>intro c e;exact ⟨c,e,.refl _⟩
 |cons x p o=>
  intro c e
  cases c with
  |nil=>cases e
  |cons a c=>
   simp at e;obtain ⟨k,d,g⟩:=o c e.2;exact ⟨a::k,by rw [d,e.1];rfl,g.cons a⟩
 |swap x y l=>
  intro c e
  cases c with
  |nil=>cases e
  |cons a c=>
   cases c with
   |nil=>cases e
   |cons b c=>
    simp at e;obtain ⟨rfl,rfl,rfl⟩:=e;exact ⟨b::a::c,rfl,.swap a b c⟩
 |trans p q h i=>
  intro c e;obtain ⟨r,d,g⟩:=i c e;obtain ⟨t,u,v⟩:=h r d;exact ⟨t,u,v.trans g⟩
section
variable {prog:bI} {w:World} {K:Type} [DecidableEq K] (Z:KeyKind prog w K)
def ent (p:List K×Addr):Int×Value:=(eu Z p.1,bP p.2)
def ee (G:Xc) (h:Heap) (a:Addr) (e:List (List K)):Prop:= ∃(o:Obj) (c:Array (Int×Value)) (g:Nat) (t:iu) (m:Nat) (d:List (List K×Addr)) (L:Bool),h.get? a=some o/\o.ExactSet/\o.data= .set c g t/\Tb L m t c/\Sz m c.size/\c.toList=d.map (ent Z)/\(∀p∈d,gp Z h p.1 p.2/\G p.2)/\(d.map (·.1)).Perm e/\e.Nodup/\L=!w.params.followText "set-order"
variable {Z} {G:Xc} {A:bV} {E:Ws} {s:aB}
def ZU (x:gp Z h k a) (l:h.get? d=some o) (hd:o.data= .set u v t) (m:nH d h p):gp Z p k a:=by
 obtain ⟨j,c,n,g,q,e,r⟩:=x
 have i:a≠d:=by
  rintro rfl;obtain rfl:j=o:=fQ (g.symm.trans l);rw [hd] at e;exact nomatch e
 exact ⟨j,c,n,(m.2 a i).trans g,q,e,r⟩
def Zx {h:Heap} (e:h.get? a=some o) (hd:o.data= .set i g t) (c:Array (Int×Value)) (d:iu):
  (h.update a (u6 c d)).get? a=some {o with data:= .set c (g+1) d}:=by
 have:=BS (u6 c d) e (by rw [putSet_of c d hd];rfl);rw [putSet_of c d hd] at this;exact this
def Uj (l:s.heap.get? a=some o) (hd:o.data= .set d v t) (T:Tb L m t d) (p:d.size<=m) (hw:ul c-1=i) (q:ul c<=aR) (C:iR i) (j:d.size<=i) (r:d.size<=aR)
  (h: ∀e k,Tb L i k e->e.toList.Perm d.toList->Q () {s with heap:=s.heap.update a (u6 e k)}):wpAny (model prog w) A (setRelay a c) Q E s:=by
 obtain ⟨k,order,e1,u,n⟩:=Km T hw C j;have g:(order.filterMap (d[·]?)).size=d.size:=by rw [<-fW,n.length_eq,fW]
 unfold setRelay;refine ax (sy l hd (T.fits p) ?_);dsimp only;rw [if_neg (Nat.not_lt.mpr q)];rw [e1];refine ax ?_;show wpAny _ _ (if (order.filterMap (d[·]?)).size !=d.size then _ else _) _ _ _;rw [g];simp;refine aM ?_;exact wpAny_storeSet_of l hd (h _ _ u n) (by rw [g];exact r)
def Is (hu:A.units<cLine) {a:Addr} {ks:List (List K)} (hS:ee Z G s.heap a ks) (hx:gp Z s.heap v H) (hg:G H) (hn:ks.length<76)
   (h: ∀U b,nH a s.heap U->ee Z G U a (if v∈ks then ks else ks++[v])->Q b {s with heap:=U}):wpAny (model prog w) A (setAddHashed a (.ref H) (eu Z v)) Q E s:=by
 obtain ⟨o,r,ep,t,m,kp,L,ho,hex,hd,T,S,he,hk,pm,nd,ld⟩:=hS;have hf:=T.fits S.le.1;have hlen:r.size=ks.length:=by rw [<-fW,he,bB,<-pm.length_eq,bB]
 unfold setAddHashed setAddHashedIn;refine iY (ax (sy ho hd hf ?_))
 dsimp only;have Iu:byScan (.ref H) r=false:=rfl;rw [Iu];simp only [mY,if_false];obtain ⟨j0,Iv,Iw⟩:=T.free S.le.1;obtain ⟨N,E5,hN,hb⟩:=Qu S.E4 (eu Z v) (λj=>j∈t.place.toList) Iv Iw;unfold setSearch;refine ax (Kg hu ho hd T S he (λp hp=>(hk p hp).1) hx (λCD=>?_) hN hb E5 (λC5=>?_) 100000 0 none (by have:=S.le;omega) (eQ _) (by rw [BU,Ud,T.mask]) (λq i p hq=>absurd hq (su _)))
 . dsimp only;have B:=pm.mem_iff.mp CD;have:=h s.heap false (Heap.SameBut.refl a s.heap) (by rw [if_pos B];exact ⟨o,r,ep,t,m,kp,L,ho,hex,hd,T,S,he,hk,pm,nd,ld⟩);exact aM this
 . dsimp only;have B:v∉ks:=λz=>C5 (pm.mem_iff.mpr z)
   refine ax (sy ho hd hf ?_);dsimp only;have I:=T.put (x:= .ref H) rfl hN hb;generalize MS:t.put (at' m (eu Z v) N)=tp at I ⊢;obtain ⟨J,p1⟩:=tp;dsimp only at I ⊢;generalize C6:insertAt r p1 (eu Z v,bP H)=k at I ⊢
   have l:k.toList.Perm (r.toList++[(eu Z v,bP H)]):=by
     rw [<-C6];have:=C0 r p1 (eu Z v,bP H)
     rwa [Array.toList_push] at this
   have u:k.size=r.size+1:=by rw [<-fW,l.length_eq,dH,fW];rfl
   have hle:k.size<=m:=by
     have:=S.le;rcases S with ⟨rfl,h⟩| ⟨rfl,h⟩| ⟨rfl,h⟩<;>omega
   have O:k.size<=aR:=by rw [nK];have:=S.le;omega
   have keys: ∀(d:Array (Int×Value)),d.toList.Perm (r.toList++[(eu Z v,bP H)])-> ∃Y:List (List K×Addr),d.toList=Y.map (ent Z)/\Y.Perm (kp++[(v,H)]):=λd p2=>by
     rw [he,show [(eu Z v,bP H)]=[(v,H)].map (ent Z) from rfl,<-mj] at p2;exact Ut p2 _ rfl
   have fin: ∀(U:Heap) (d:Array (Int×Value)) (t2:iu) (m2 C7:Nat),nH a s.heap U->U.get? a=some {o with data:= .set d C7 t2}->Tb L m2 t2 d->Sz m2 d.size->d.toList.Perm (r.toList++[(eu Z v,bP H)])->Q true {s with heap:=U}:=λU d t2 m2 C7 sb g T2 S2 p2=>by
     obtain ⟨Y,e2,q2⟩:=keys d p2;refine h U true sb ?_;rw [if_neg B];refine ⟨_,d,C7,t2,m2,Y,L,g,hex,rfl,T2,S2,e2,λp hp=>?_,?_,?_,ld⟩
     . rcases eG.mp (q2.mem_iff.mp hp) with z|z
       . exact ⟨ZU (hk p z).1 ho hd sb,(hk p z).2⟩
       . rw [ir] at z;subst z;exact ⟨ZU hx ho hd sb,hg⟩
     . exact (q2.map _).trans (by rw [mj];exact pm.append_right _)
     . exact A4.mpr ⟨nd,by simp,λx pY y hy e=>by rw [ir] at hy;subst hy;subst e;exact B pY⟩
   have tail: ∀b:Bool,wpAny (model prog w) A (do
       storeSet a k {J with plain:=b}
       if (
         !false&&({J with plain:=b}:iu).tooFull)=true then do
         setRelay a (A5 (r.size+1))
         pure true
         else pure true) Q E s:=λb=>by
     refine ax (wpAny_storeSet_of ho hd ?_ O);have g1:=Zx ho hd k {J with plain:=b};have E8:=AS s.heap a (u6 k {J with plain:=b})
     by_cases c:({J with plain:=b}:iu).tooFull=true
     . rw [c];simp
       have n: ∀m',ul (A5 (r.size+1))-1=m'->ul (A5 (r.size+1))<=128->Sz m' k.size->wpAny (model prog w) A (do
          setRelay a (A5 (r.size+1))
          pure true) Q E {s with heap:=s.heap.update a (u6 k {J with plain:=b})}:=λm' hw hz S'=>by
         refine ax (Uj g1 rfl (I.led b) hle hw (by rw [nK];omega) S'.E4 S'.le.1 O λd t2 T2 p2=>?_);refine aM ?_;have va:d.size=k.size:=by rw [<-fW,p2.length_eq,fW]
         exact fin _ d t2 m' _ (E8.trans (AS _ a _)) (Zx g1 rfl d t2) T2 (by rw [va];exact S') (p2.trans l)
       have hq:m*3<=(r.size+1)*5:=by
         unfold SetTable.tooFull SetTable.fill at c;have h1:=(I.led b).dm;have h2:=(I.led b).sz;have h3:=(I.led b).mask;rw [h1,h2,h3,u] at c;simpa using c
       rcases S with ⟨rfl,h4⟩| ⟨rfl,h4⟩| ⟨rfl,h4⟩
       . have h5:r.size=4:=by omega
         rw [u,h5] at n;rw [h5];exact n 31 (by decide+kernel) (by decide+kernel) (.inr (.inl ⟨rfl,by omega⟩))
       . have h5:r.size=18:=by omega
         rw [u,h5] at n;rw [h5];exact n 127 (by decide+kernel) (by decide+kernel) (.inr (.inr ⟨rfl,by omega⟩))
       . omega
     . rw [C4] at c;rw [c];simp;refine aM (fin _ k _ m _ E8 g1 (I.led b) ?_ l)
       have hq: ¬m*3<=(r.size+1)*5:=by
         unfold SetTable.tooFull SetTable.fill at c;have h1:=(I.led b).dm;have h2:=(I.led b).sz;have h3:=(I.led b).mask;rw [h1,h2,h3,u] at c;simpa using c
       rw [u];rcases S with ⟨rfl,h4⟩| ⟨rfl,h4⟩| ⟨rfl,h4⟩
       . exact .inl ⟨rfl,by omega⟩
       . exact .inr (.inl ⟨rfl,by omega⟩)
       . exact .inr (.inr ⟨rfl,by omega⟩)
   have MT:({J with plain:=J.plain}:iu)=J:=rfl
   split
   . refine ax (WP hx λb=>?_)
     cases b with
     |true=>exact tail J.plain
     |false=>exact tail false
   . refine ax (aM ?_);exact tail J.plain
end
end Tab
end M
namespace M
open PySem
open PyProof.Rows
namespace Tab
variable {L:Bool}
def bR {a:Type} [DecidableEq a] (val:Nat->a):Nat->List a
 |0=>[]
 |i+1=>if val i∈bR val i then bR val i else bR val i++[val i]
section
variable {prog:bI} {w:World} {K:Type} [DecidableEq K] {Z:KeyKind prog w K} {Y:Xc}
def yZ (x:gp Z h k b) (e: ∀o,h.get? b=some o->a.get? b=some o):gp Z a k b:=
 let ⟨o,i,n,c,d⟩:=x
 ⟨o,i,n,e o c,d⟩
def ee.same (x:ee Z Y h a g) (e: ∀b o,(b=a\/Y b)->h.get? b=some o->i.get? b=some o):ee Z Y i a g:=by
 obtain ⟨o,j,k,t,m,kp,L,l,hex,hd,T,S,n,c,q⟩:=x;exact ⟨o,j,k,t,m,kp,L,e a o (.inl rfl) l,hex,hd,T,S,n,λp d=>⟨yZ (c p d).1 λo=>e p.2 o (.inr (c p d).2),(c p d).2⟩,q⟩
variable {A:bV} {R:Result->aB->Prop} {I:Addr} {Q U:List Addr} {G:Array GenState->Array GenState->Prop} {n:Nat} {P:Nat->Value->Prop} {St:Nat->aB->Prop}
def Ix (W:WalksS prog w A.in1 I Q U G n P St) (S:Addr) (p:S∉Q) (hu:A.in1.units<cLine) (val:Nat->List K) (B: ∀b,Y b->b≠S/\b∉U) (hb: ∀i,i<n->(bR val i).length<76):
  ∀(k i:Nat) (s:aB),n-i=k->i<=n->St i s->ee Z Y s.heap S (bR val i)->(∀i v,P i v-> ∃b,v= .ref b/\Y b/\gp Z s.heap (val i) b)->
    (∀a,Moved (S::U) G s a->ee Z Y a.heap S (bR val n)->R (.ok (.ret .none)) a)->
    lV (model prog w) A (.builtin "set.update.loop" ⟨[.ref S,.ref I],[]⟩) R s:=by
 have E:S∉U:=λh=>p (W.sub _ h)
 have up: ∀b∈U,b∈S::U:=λb z=>dC _ z
 have walk: ∀ {s a:aB} {ks:List (List K)},Moved U G s a->ee Z Y s.heap S ks->ee Z Y a.heap S ks:=λd x=>x.same λb o hb e=>d.heap b o (by rcases hb with rfl|hb;exact E;exact (B b hb).2) e
 intro k
 induction k with
 |zero=>
  intro i s hk hi m H J hR;obtain rfl:i=n:=by omega
  refine sk E9 ?_;rw [t7 C8 _];refine ax (W.done s _ _ m λa d=>?_);exact aM (hR a (d.mono up) (walk d H))
 |succ k ih=>
  intro i s hk hi m H J hR;have dF:i<n:=by omega
  refine sk E9 ?_;rw [t7 C8 _];refine ax (W.item i s _ _ dF m λv a hP q d=>?_);obtain ⟨b,rfl,r,N⟩:=J i v hP;have l:=yZ N λo e=>d.heap b o (B b r).2 e
  refine ax (iY ?_);unfold setAdd;refine iY (ax (wpAny_pyHash_tuple hu l ?_))
  have O:=walk d H;refine Is (s:={a with toks:=a.toks+((val i).length+1)}) hu O l r (hb i dF) λh' bb rZ j=>?_
  have mv: ∀c o,c≠S->a.heap.get? c=some o->h'.get? c=some o:=λc o t e=>by rw [rZ.2 c t];exact e
  have Iy:ee Z Y h' S (bR val (i+1)):=by
    rw [bR]
    by_cases d:val i∈bR val i
    . rw [if_pos d] at j ⊢;exact j
    . rw [if_neg d] at j ⊢;exact j
  refine aM ⟨plainId_quiet C8 _,ih (i+1) _ (by omega) dF (W.frame _ a _ _ q (qa _ _) λc t o e=>?_) Iy (λi' v' Iz=>?_) λCK u y=>?_⟩
  . exact mv c o (λz=>p (by rw [<-z];exact t)) e
  . obtain ⟨c,e,g,x⟩:=J i' v' Iz;exact ⟨c,e,g,yZ x λo z=>mv c o (B c g).1 (d.heap c o (B c g).2 z)⟩
  . refine hR CK (Moved.trans W.gtrans ((d.mono up).then_heap (qa _ _) λc o t e=>?_) u) y;exact mv c o (λz=>t (by rw [z];exact dB)) e
end
section
variable {prog:bI} {w:World} {K:Type} [DecidableEq K] {O:KeyKind prog w K} {A:bV} {E:Ws} {s:aB}
def Wp (a:Value)
  (h:Q₁ (.ref s.heap.objs.size) {s with heap:=s.heap.push {cls:= .type "set",dict:=none,data:= .set #[] 0 (.fresh 0 0 (!w.params.followText "set-order"))}}):
  lV (model prog w) A (.call (.builtin "set.__new__") ⟨[.type "set",a],[]⟩) (wants Q₁ E) s:=by
 refine codeAny_of_tree ?_;show wpAny _ A.in1 (checkBuiltinCall "set.__new__" ⟨[.type "set",a],[]⟩>>=λ_=>again (.builtin "set.__new__" ⟨[.type "set",a],[]⟩)) _ _ s;refine ax (wpAny_of_eq (PySem.F.newCall_set_1 a) (aM ⟨plainId_quiet PySem.F.plain_set_new _,sk PySem.F.entry_set_new ?_⟩));rw [t7 PySem.F.plain_set_new _];unfold lN.«set.__new__» Builtin.Frozenset.newClass;have c:=PySem.sub_set_self;obtain ⟨e,g,d,i,os⟩:=s;dsimp only
 wp_walk
 refine wpAny_askSetting (aM ?_);dsimp only;simp only [newObj];exact ax (wpAny_alloc (aM (aM h)))
def IA (c:h.get? a=some o) (d:o.ExactSet) (hd:o.data= .set #[] 0 (.fresh 0 0 led)) (e:led=!w.params.followText "set-order"):ee O G h a []:=
 ⟨o, #[],0,_,7,[],led,c,d,hd,Tb.fresh led,.inl ⟨rfl,by decide⟩,rfl,(λ_ z=>by cases z),.refl _,.nil,e⟩
def lb (hu:A.units+6<cLine) (hh:A.handled=none) (hl:s.heap.IsList l a)
  (hi: ∀(i:Nat) v,a[i]?=some v-> ∃b,v= .ref b/\gp O s.heap (val i) b) (q: ∀i,i<a.size->(bR val i).length<76)
  (h: ∀(j:Heap) (tk:Nat),ee O (λb=>b<s.heap.objs.size/\bP b∈a.toList) j s.heap.objs.size (bR val a.size)->(∀b o,b<s.heap.objs.size->s.heap.get? b=some o->j.get? b=some o)->Q (.ref s.heap.objs.size) {s with heap:=j,toks:=tk}):
  wpAny (model prog w) A (call (.type "set") [.ref l]) Q E s:=by
 obtain ⟨c,tl,IB⟩:=oU.mro;have Fa:=oU.made;have IC:=oU.sub;refine wpAny_call (codeAny_of_tree ?_);refine aM ⟨Code.quiet_builtin _ (by decide+kernel),sk F.entry_type_call ?_⟩;rw [Around.under_plain (weight_type_call_type "set" [.ref l] []) rfl];have h1:=oU.notType;have h2:=oU.canCreate;have MU:=F.typeCall_set_1 (.ref l)
 repeat (any_goals (first|assumption|wp_step))
 refine rM (Wp (.ref l) (E:=E) (Q₁:=λH n=> ∃led:Bool,(led=!w.params.followText "set-order")/\H= .ref s.heap.objs.size/\n={s with heap:=s.heap.push {cls:= .type "set",dict:=none,data:= .set #[] 0 (.fresh 0 0 led)}}) ⟨_,rfl,rfl,rfl⟩) λr n hr=>?_
 cases r with
 |error e=>exact hr
 |ok fl=>
  cases fl with
  |ret H=>
   obtain ⟨led,I,rfl,rfl⟩:=hr;generalize g:({cls:= .type "set",dict:=none,data:= .set #[] 0 (.fresh 0 0 led)}:Obj)=t;have hS:(s.heap.push t).get? s.heap.objs.size=some t:=ej _ (by rw [<-g];rfl);have hT:Shared.TypeIs {s with heap:=s.heap.push t} (.ref s.heap.objs.size) "set" :=⟨_,hS,by rw [<-g]⟩
   have MV:=oU.init.lookup;have MW:=oU.init.bind (.ref s.heap.objs.size)
   repeat (any_goals (first|assumption|wp_step))
   refine rM (codeAny_call_builtin (R:=wants (λr p=>r= .none/\ ∃j tk,p={s with heap:=j,toks:=tk}/\
       ee O (λb=>b<s.heap.objs.size/\bP b∈a.toList) j s.heap.objs.size (bR val a.size)/\(∀b o,b<s.heap.objs.size->s.heap.get? b=some o->j.get? b=some o)) E) oU.init.plain F.entry_set_init (check_set_init_1 hT ?_)) λJ p d=>?_
   . obtain ⟨ol,N,U,nl,Y⟩:=hl;obtain ⟨ID,u,Fb,k⟩:=ol;simp only at U Y;subst U;subst Y;have Z:(s.heap.push t).get? l=some {cls:= .type "list",dict:=u,data:= .seq a nl,slots:=k}:=cu _ N;have IE:=F.sub_list_set;have IF:=F.sub_list_frozenset;have E7:(o5 "list" ==o5 "dict")=false:=by decide
     have Fc:(s.heap.push t).IsList l a:=⟨_,Z,rfl,nl,rfl⟩
     have dF:=bX N;have m:(s.heap.push t).objs.size=s.heap.objs.size+1:=sX _ _
     have Db:ee O (λb=>b<s.heap.objs.size/\bP b∈a.toList) ((s.heap.push t).push {cls:= .type "list_iterator",data:= .fields #[.ref l,.int 0 0]}) s.heap.objs.size []:=
       IA (cu _ hS) (by rw [<-g];exact ⟨rfl,rfl,rfl⟩) (by rw [<-g]) I
     subst g;unfold lN.«set.__init__» noKeywords Builtin.Frozenset.updateFrom;generalize IG:pyIter=PI
     wp_walk
     subst IG;refine pf Fc ?_;refine ax (wpAny_runValue ?_)
     refine Ix ((Walks.list (show A.in1.in1.in1.handled=none by simp [hh]) _ l (by rw [m];exact dN (Dc dF)) a).toS) s.heap.objs.size (by rw [m];simp only [dP,List.not_mem_nil,or_false,not_or];exact ⟨dN (Au _),Nat.ne_of_gt dF⟩) (by simp;omega) val
       (λb q=>by rw [m];simp;exact ⟨dN q.1,dN (Dc q.1)⟩) q (a.size-0) 0 _ rfl (eQ _) ⟨⟨_,ej _ rfl,rfl,rfl⟩,Fc.push _⟩ Db (λi v hv=>?_) λs' hm y=>?_
     . obtain ⟨b,e,x⟩:=hi i v hv;refine ⟨b,e,?_,yZ x λo z=>cu _ (cu _ z)⟩;obtain ⟨o,_,_,ho,_⟩:=x;refine ⟨bX ho,?_⟩;rw [<-e];exact g9 (by rw [fE];exact hv)
     . obtain ⟨j,g',d',CN,Ib⟩:=s';have eg:=hm.gens;have ed:=hm.drawn;have eo:=hm.os;subst eg;subst ed;subst eo;refine aM (aM ⟨rfl,j,CN,rfl,y,λb o q e=>?_⟩);refine hm.heap b o ?_ (cu _ (cu _ e));rw [m];simp;exact ⟨dN q,dN (Dc q)⟩
   . cases J with
     |error e=>exact d
     |ok B=>
       cases B with
       |ret r=>
        obtain ⟨rfl,j,tk,rfl,y,CI⟩:=d
        repeat (any_goals (first|assumption|wp_step))
        exact h _ _ y CI
       |_=>exact d.elim
  |_=>exact hr.elim
end
end Tab
end M
namespace M
open PySem PySem.Spec L2
open PyProof.Rows hiding St
def ew:List D->Option (List (List aI))
 | []=>some []
 |d::r=>match ff d,ew r with
  |some k,some a=>some (k::a)
  |_,_=>none
def nT (a:List (List aI)):Nat:=(Tab.bR (λi=>a.getD i []) a.length).length
theorem JE {a:Type} [DecidableEq a] (val:Nat->a): ∀i,(Tab.bR val i).length<=i
 |0=>a9 _
 |i+1=>by
  have:=JE val i;unfold Tab.bR;split
  . omega
  . rw [dH];simp;omega
theorem Zf {c:Type} [DecidableEq c] (val:Nat->c): ∀i x,x∈Tab.bR val i↔ ∃j,j<i/\val j=x
 |0,x=>by simp [Tab.bR]
 |i+1,x=>by
  have d:=Zf val i
  have g:x∈Tab.bR val (i+1)↔x∈Tab.bR val i\/x=val i:=by
    rw [Tab.bR]
    by_cases h:val i∈Tab.bR val i
    . rw [if_pos h];exact ⟨.inl,λz=>z.elim id λe=>e▸h⟩
    . rw [if_neg h];simp
  rw [g,d]
  constructor
  . rintro (⟨j,a,b⟩|rfl)
    . exact ⟨j,by omega,b⟩
    . exact ⟨i,by omega,rfl⟩
  . rintro ⟨j,a,rfl⟩
    by_cases e:j=i
    . subst e;exact .inr rfl
    . exact .inl ⟨j,by omega,rfl⟩
def Xv (h:c.Nodup):nT c=c.length:=by
 unfold nT
 suffices d: ∀i,i<=c.length->(Tab.bR (λi=>c.getD i []) i).length=i from d _ (a9 _)
 intro i
 induction i with
 |zero=>intro _;rfl
 |succ i e=>
  intro k
  have g:c.getD i []∉Tab.bR (λi=>c.getD i []) i:=λz=>by
   obtain ⟨j,a,b⟩:=(Zf _ _ _).mp z;rw [A6,A6,dn (by omega),dn (by omega)] at b;have:=(List.getElem_inj h).mp b;omega
  rw [Tab.bR,if_neg g,dH,e (by omega)];rfl
def Fd (h: ¬a.Nodup):nT a<a.length:=by
 unfold nT
 suffices k: ∀i,i<=a.length->(Tab.bR (λi=>a.getD i []) i).length=i->(a.take i).Nodup by
  refine CV (JE _ _) λe=>h ?_
  have:=k _ (a9 _) e
  rwa [List.take_length] at this
 intro i
 induction i with
 |zero=>intro _ _;simp
 |succ i l=>
  intro p e;rw [Tab.bR] at e
  split at e
  . have:=JE (λi=>a.getD i []) i;omega
  . rename_i m;rw [dH] at e;have n:=l (by omega) (by simpa using e);rw [List.take_succ,dn (by omega)];refine A4.mpr ⟨n,by simp,λx o y g=>?_⟩;rintro rfl;simp at g;obtain ⟨j,d⟩:=n6.mp o
    have c:j<i:=by
     have:=(fZ.mp d).1;simp at this;omega
    rw [Ax c] at d;refine m ((Zf _ _ _).mpr ⟨j,c,?_⟩);rw [A6,A6,d,dn (by omega),<-g]
def A7 (H:Hp) (x:V) (k:List aI):Prop:= ∃b,x= .ref b/\H b=some (.ah (k.map kV))
theorem Y9 {K:ay}: ∀ {e:List V} {a:List D} {c:List (List aI)},ai K A H e a->ew a=some c->F2 (A7 H) e c
 |_,_,c,.nil,h=>by cases h;exact .nil
 |_,_,c,.cons (d:=d) (ds:=a) r t,h=>by
  unfold ew at h
  cases e1:ff d with
  |none=>rw [e1] at h;cases h
  |some k=>
   cases e2:ew a with
   |none=>rw [e1,e2] at h;cases h
   |some g=>
    rw [e1,e2] at h;cases h;exact .cons (Q8 r e1) (Y9 t e2)
def vl (o:Obj) (n:Nat):Prop:=o.ExactSet/\ ∃(a:Array (Int×Value)) (c:Nat) (t:iu),o.data= .set a c t/\t.fits a.size=true/\a.size=n/\n<=76
section
variable {X:Cx}
theorem K6 {σ:L2.St} (I:aq X pins σ H s): ∀ {ys:List V} {oP:List Value} {ks:List (List aI)},aE ys oP->F2 (A7 H) ys ks-> ∀(i:Nat) v,oP[i]?=some v-> ∃b,v= .ref b/\gp (jV X.prog X.w) s.heap (ks.getD i []) b
 |_,_,_,.nil,.nil,i,v,h=>by simp at h
 |_,_,_,.cons r a,.cons x c,0,v,h=>by
  obtain ⟨b,rfl,d⟩:=x;simp at h;subst h;cases r;exact ⟨b,rfl,XA I.aP d⟩
 |_,_,_,.cons r a,.cons x c,i+1,v,h=>by
  simpa using K6 I a c i v (by simpa using h)
def VS (N:X.bG=true) (hu:X.A.units+200<cLine):bf X (.type "set") (λn H Q=> ∃p d a,n=[.ref p]/\dg X.K H p d/\F2 (A7 H) d a/\a.length<=76/\ ∀l o,H l=none->vl o (nT a)->Q (.ref l) (aJ H l (.bd o (.av l)))):=by
 rintro w s σ H n d Q I r ⟨p,vs,a,O,U,y,Y,q⟩;subst O;obtain ⟨u,rfl,Z⟩:=QC r;cases Z;obtain ⟨g,z,pl,_⟩:=I.list U;have c:g.toArray.size=a.length:=by rw [cA,<-z.length,y.length]
 refine Tab.lb (by omega) (I.ok.hd N) pl.isList (λi v h=>K6 I z y i v (by simpa using h)) (λi hi=>AE (JE _ i) (by omega)) λh' tk B j=>?_
 have hl:=I.aP.fresh (a9 _);rw [c] at B;obtain ⟨o,E,ep,t,m,kp,L,J,hex,hd,T,S,he,MX,pm,nd,ld⟩:=B
 have k:E.size=nT a:=by
  rw [<-fW,he,bB];have:=pm.length_eq;rw [bB] at this;rw [this];rfl
 have hn:nT a<=76:=dE (JE _ _) Y;exact ⟨.ref s.heap.objs.size,_,I.laid (λb o e=>j b o (bX e) e) (a9 _) (show aT X.prog X.w _ h' _ (.bd o (.av _)) from ⟨J,o,J⟩),rfl,q _ o hl ⟨hex,E,ep,t,hd,T.fits S.le.1,k,hn⟩⟩
def VU:bf X (.builtin "len") (λc H Q=> ∃a b o n,c=[.ref a]/\H a=some (.bd o (.av b))/\vl o n/\Q (.int n) H):=by
 rintro d s v H c w Q I r ⟨a,b,o,n,e,g,⟨h,i,y,t,hd,j,k,l⟩,q⟩;subst e;obtain ⟨u,rfl,m⟩:=QC r;cases m;obtain ⟨p,_⟩:=(show aT X.prog X.w H s.heap a (.bd o (.av b)) from I.aP a _ g)
 subst k;exact call_len_set p h hd j (by omega) ⟨.int i.size,H,I.tok _,⟨_,rfl⟩,q⟩
def Ql:D->ao D
 | .ag c=>match ew c with
  |some a=>aS (a.length<=76) (.ok (.int (nT a)))
  |none=> .aj
 |_=> .aj
def Qk (h:Ql a= .ok d): ∃g c,a= .ag g/\ew g=some c/\c.length<=76/\d= .int (nT c):=by
 unfold Ql at h
 split at h
 . rename_i g
   split at h
   . rename_i c e;obtain ⟨i,j⟩:=ju h;cases j;exact ⟨g,c,rfl,e,i,rfl⟩
   . cases h
 . cases h
variable {l1:Lv} {e1:Expr} {f1:TJ} {p1 p3 q1 q3:Pos}
end
section
variable {X:Cx} {K:ay}
def mn:List D->ao D
 | [.ag a]=>match JP a with
  |some bs=> .ok (.bl (bs.any id))
  |none=> .aj
 |_=> .aj
def VW (y:X.bG=true):bf X (.builtin "any") (λt H Q=> ∃(p:Addr) (bs:List Bool),t=[.ref p]/\dg X.K H p (bs.map V.bl)/\Q (.bl (bs.any id)) H):=by
 rintro w s Z H t us Q I r ⟨p,bs,B,E,q⟩;subst B;obtain ⟨u,rfl,J⟩:=QC r;cases J;obtain ⟨L,N,j,hz⟩:=I.list E;have c:=yn N;subst c;refine call_any_walk (pf j.isList ?_)
 have k:p≠s.heap.objs.size:=by
   obtain ⟨o,n,e,_⟩:=j;exact dN (bX e)
 refine ⟨s.heap.objs.size,_,_,_,_,_,λi=>(bs[i]?).getD true,rfl,Walks.list (show X.A.in1.handled=none from I.ok.hd y) s.heap.objs.size p k (bs.map iT).toArray,⟨⟨_,ej _ rfl,rfl,rfl⟩,j.isList.at λo e=>cu _ e⟩,?_,λh' tk O=>?_⟩
 . intro i v s' Q' E' U l;have a:(bs.map iT)[i]?=some v:=by simpa using U
   rw [fB] at a
   cases e:bs[i]? with
   |none=>rw [e] at a;cases a
   |some b=>
    rw [e] at a;cases a;dsimp only at l;rw [e] at l;exact m7 l
 . have Y:(bs.map iT).toArray.size=bs.length:=by simp
   have e:((fu (bs.map iT).toArray.size).any λi=>(bs[i]?).getD true)=bs.any id:=by
    rw [Y,sJ,sh,sh]
    constructor
    . rintro ⟨i,g,h⟩;have d:=fx.mp g;rw [dn d] at h;exact ⟨_,gD d,h⟩
    . rintro ⟨b,m,h⟩;obtain ⟨i,g,rfl⟩:=List.mem_iff_getElem.mp m;exact ⟨i,fx.mpr g,by rw [dn g];exact h⟩
   rw [e];refine ⟨.bl _,H,?_,rfl,q⟩
   exact I.kept λb o e=>O b o (by
    intro z;have m:b=s.heap.objs.size:=by simpa using z
    exact absurd (bX e) (by rw [m];exact lC _)) (cu _ e)
def IH:VZ K (λc H Q=> ∃(p:Addr) (bs:List Bool),c=[.ref p]/\dg K H p (bs.map V.bl)/\Q (.bl (bs.any id)) H) mn:=by
 intro c H j d Q r e q;unfold mn at e
 split at e
 . split at e
   . rename_i bs a;cases e;obtain ⟨v,rfl,h⟩:=r.one;obtain ⟨p,k,rfl,i,_,g⟩:=h.c7;rw [JO a] at g;have:=yr g;subst this;exact ⟨p,bs,rfl,.of i,q _ (gB _)⟩
   . cases e
 . cases e
def fh (a:List (List aI)) (c:List D) (k:List aI):Option D:=((a.zip c).find? λp=>decide (p.1=k)).map (·.2)
theorem Xe: ∀ {a:List (List aI×V)} {c:List D} (k:List aI) {d:D},ai K A H (a.map (·.2)) c->fh (a.map (·.1)) c k=some d-> ∃v,dW a k=some v/\aA K A H v d
 | [],c,k,d,r,h=>by simp [fh] at h
 | (g,v)::a,c,k,d,r,h=>by
  cases r with
  |cons i j=>
   by_cases e:g=k
   . subst e;simp [fh] at h;subst h;exact ⟨v,by simp [dW],i⟩
   . obtain ⟨w,l,m⟩:=Xe k j (by simpa [fh,e] using h);exact ⟨w,by simpa [dW,e] using l,m⟩
def vN:R2:=λx y H Q=> ∃a c b k v,x= .ref a/\Rd H a (.dT c)/\y= .ref b/\H b=some (.ah (k.map kV))/\dW c k=some v/\Q v H
def US (j:X.A.units+1<cLine):ni X vN:=by
 intro value c i s w H x y v u Q I l m h n;obtain ⟨a,d,b,k,z,rfl,o,rfl,p,r,q⟩:=h;obtain rfl:v=bP a:=l;have g:pI H a (.ref b) (some z):=by rw [<-r];exact .inr ⟨d,k,b,o,rfl,p,rfl⟩
 exact tail_any (WW I g) PySem.F.slot_dict_getitem.lookup (VL j I g m λB E t e=>⟨z,H,t,e,q⟩) n
def atT (a:List (List aI)) (c:List D) (e:D):ao D:=match ff e with
 |some k=>match fh a c k with
  |some d=> .ok d
  |none=> .aj
 |none=> .aj
def mo:D->D->ao D
 | .cO a c,d=>atT a c d
 | .dz a c,d=>atT a c d
 |_,_=> .aj
def II (h:atT a c e= .ok d): ∃k,ff e=some k/\fh a c k=some d:=by
 unfold atT at h
 split at h
 . rename_i k g
   split at h
   . rename_i i hd;cases h;exact ⟨k,g,hd⟩
   . cases h
 . cases h
def ui (l:aA K A H x a) (m:aA K Any H y b) (h:mo a b= .ok d) (q: ∀v,aA K A H v d->Q v H):vN x y H Q:=by
 have g: ∀ {p:Addr} {e:List (List aI×V)} {j:List D},Rd H p (.dT e)->ai K (λc=>A c/\c≠p) H (e.map (·.2)) j->atT (e.map (·.1)) j b= .ok d->vN (.ref p) y H Q:=λi r h=>by
  obtain ⟨k,n,hd⟩:=II h;obtain ⟨v,t,u⟩:=Xe k r.low hd;obtain ⟨w,rfl,z⟩:=Q8 m n;exact ⟨_,_,w,k,v,rfl,i,rfl,z,t,q v u⟩
 cases a with
 |cO B j=>
  obtain ⟨a,e,rfl,i,_,rfl,r⟩:=l.f;exact g (.inl i) r h
 |dz B j=>
  obtain ⟨a,e,rfl,⟨o,i⟩,rfl,r⟩:=l.f;exact g (.inr ⟨o,i⟩) r h
 |_=>cases h
variable {a b:Expr} {E J:TJ} {B:Lv} {pos p:Pos}
def IJ (j:X.A.units+1<cLine) (l:DE X .s a E) (m:DE X B b J) (n:Zp b:=by intro _ _;rfl):DE X .s (.Subscript a b pos) (al E J mo):=by
 with_unfolding_all exact (
  PE.imp (vZ (US j) l m n) λL H Q=>by
   rintro ⟨G,g,c,d,k,e,q⟩;obtain ⟨o,e1,e⟩:=je e;obtain ⟨r,e2,t⟩:=je e;refine ⟨G,g,c,o,k,e1,λx N h u _=>⟨G,g,c,r,k.ap h,e2,λy w i z _=>?_⟩⟩
   exact ui (u.ap i) (z.az Lv.be) t λv I=>q v w (h.trans i) I trivial)
end
def vr (X:Cx) (i:Nat) (g:Sl->ao bN):TS:=λE e H=> ∃G h d a,ar X.K G h d e H/\At e i a/\((∃o,g d= .ok o/\kJ X.K G h i a d e H E o)\/ ∃c,g d= .exc c/\AU X c H)
@[irreducible] def om (X:Cx) (i:Nat) (st:Stmt) (g:Sl->ao bN):Prop:=PS X st (vr X i g)
@[irreducible] def W5 (X:Cx) (i:Nat) (st:List Stmt) (g:Sl->ao bN):Prop:=cb X st (vr X i g)
theorem AU.ap (s:am H j) (i:AU X c H):AU X c j:=⟨λa d g k h e C l sm=>i.a a d g k h e C l (s.trans sm),λd g sm=>i.b d g (s.trans sm)⟩
def YW (g:Sl->ao bN):Sl->ao bN:=λa=>AV (g a)
section
variable {X:Cx} {i:Nat} {u:Expr} {st:Stmt} {rest v Q:List Stmt} {pos:Pos} {g y g2:Sl->ao bN} {c:Str}
def ky.x (h:ky X i d g):W5 X i d (YW g):=by
 with_unfolding_all exact (cb.imp h λE l H=>by
  rintro ⟨G,e,env,a,k,j,q⟩;rcases q with ⟨o,e1,q⟩| ⟨c,e1,_⟩
  . exact ⟨G,e,env,o,a,k,j,KM e1,q⟩
  . exact (KN e1).elim)
def YT (n:om X i st y) (p:ky X i rest g2):W5 X i (st::rest) (p9 y (YW g2)):=by
 with_unfolding_all exact (cb.imp (qA n p) λE I H=>by
  rintro ⟨G,j,e,a,k,m,q⟩;rcases q with ⟨o,l,q⟩| ⟨c,l,r⟩
  . obtain ⟨h,e1,e2⟩:=je l;refine ⟨G,j,e,a,k,m,.inl ⟨h,e1,?_⟩⟩
    cases h with
    |nx d=>exact λt J w z B=>⟨G,j,d,o,a,w,z,KM e2,WD B q⟩
    |rt b d=>cases e2;exact q
  . rcases X2 l with e1| ⟨h,e1,e2⟩
    . exact ⟨G,j,e,a,k,m,.inr ⟨c,e1,r⟩⟩
    . cases h with
      |nx d=>exact (KN e2).elim
      |rt b d=>cases e2)
def VA (a:om X i st y):W5 X i [st] y:=by
 with_unfolding_all exact (cb.imp (QM a) λE d H q=>q)
def fj (t:TH) (y g2:Sl->ao bN):Sl->ao bN:=λa=>match t a with
 | .ok b=>if b=true then y a else g2 a
 |_=> .aj
def u4 (n:DT X u t) (p:W5 X i v y) (r:W5 X i Q g2):om X i (.If u v Q pos) (fj t y g2):=by
 with_unfolding_all exact (PS.imp (Uq n p r) λE w H=>by
  rintro ⟨G,h,d,a,k,j,q⟩;have l: ∃b,t d= .ok b/\fj t y g2 d=if b=true then y d else g2 d:=by
   cases e1:t d with
   |ok b=>exact ⟨b,rfl,by unfold fj;rw [e1]⟩
   |_=>
     have z:fj t y g2 d= .aj:=by unfold fj;rw [e1]
     rcases q with ⟨o,e,_⟩| ⟨c,e,_⟩<;>(rw [z] at e;cases e)
  obtain ⟨b,e1,e2⟩:=l;rw [e2] at q;refine ⟨G,h,d,b,k,e1,λB s=>?_⟩
  cases b with
  |true=>
   rw [if_pos rfl] at q ⊢;rcases q with ⟨o,e,q⟩| ⟨c,e,m⟩
   . exact ⟨G,h,d,a,k.ap s,j,.inl ⟨o,e,WD (bt.refl s) q⟩⟩
   . exact ⟨G,h,d,a,k.ap s,j,.inr ⟨c,e,m.ap s⟩⟩
  |false=>
   rw [if_neg lD] at q ⊢;rcases q with ⟨o,e,q⟩| ⟨c,e,m⟩
   . exact ⟨G,h,d,a,k.ap s,j,.inl ⟨o,e,WD (bt.refl s) q⟩⟩
   . exact ⟨G,h,d,a,k.ap s,j,.inr ⟨c,e,m.ap s⟩⟩)
def kO (c:Str):Sl->ao bN:=λ_=> .exc c
def YU {J m:Pos} (L:gn X.K c C) (N:X.mg c=some (.ref C)) (O:t3 X.K C U h=true) (FB:ExcBaseFacts B h p U)
    (Y:DE X l e f) (r: ∀n,∃d,f n= .ok d) (j:X.bG=true:=by rfl) (Z:Gl X c:=by rfl) (t:Yj c:=by decide)
    (he:bp [e] X.env=(false,eval e X.env)::bp [] X.env:=by exact jn rfl):
    om X i (.Raise (some (.Call (.Name c J) [e] [] m)) none pos) (kO c):=by
 with_unfolding_all exact (λz s σ H E I ⟨G,H0,n,a,k,_,q⟩=>by
  rcases q with ⟨o,w,_⟩| ⟨c',w,th⟩
  . cases w
  cases w
  exact Yl L N O FB Y r j Z t he I k th.a)
end
def vu (K:ay) (n:Nat) (F:FO):Sp:=λj H Q E=> ∃(B:Xc) (e:List D) (g:List V) (a:Addr) (h:D),j=V.ref a::g/\g.length=n/\ai K (λc=>B c/\c≠a) H g e/\Top K (λc=>B c/\c≠a) H a h/\
 ((
  ∃r i,F h e= .ok (r,i)/\ ∀v d,(∀c o,c≠a->H c=some o->d c=some o)->Top K (λc=>(H c=none\/B c)/\c≠a) d a i->aA K (λc=>(H c=none\/B c)/\c≠a) d v r->Q v d)\/
  ∃c,F h e= .exc c/\ ∀C d,gn K c C->am H d->E (.ref C) none d)
def QK (N n:Nat) (g:Sl->ao bN):FO:=λh e=>if e.length=n then (match g (zL N h e) with
 | .ok (.nx a)=>(match yU a with| .ok d=> .ok (.aO,d)|_=> .aj)
 | .ok (.rt r a)=>(match yU a with| .ok d=> .ok (r,d)|_=> .aj)
 | .exc c=> .exc c
 | .aj=> .aj) else .aj
section
variable {P:bI} {w:World} {K:ay} {mg:Xd} {ae:Heap}
def uK {st:Stmt} (Fu:iO K m y st f fd) (S:aC N ps (jj st)) (hn:ps.length=n+1) (hN:n+1<=N.length)
   (hb: ∀(u:Value) (A:bV) (l:List Env) (s:aB) (H:Hp) (E:XK),aH k (A.deeper (gx y (jj st) s.heap.objs.size f u))->W5 (bH (fD P w) P w K mg ae N y (jj st) f u A l s H E) 0 (qr st) g):
   cE P w K mg ae (fD P w) (k+1) f fd ps (vu K n (QK N.length n g)):=by
 with_unfolding_all exact (by
 obtain ⟨oc,od,kV,doc,pm,an,u,ct,Ay,rfl,lk,px⟩:=Fu.ex;refine Ec lk px S (λvs H Q E ⟨B,J,us,a,O,ev,hl,_⟩=>by rw [ev,fP,hl,hn]) λA l s H vs Q E hr h=>?_
 obtain ⟨B,J,us,a,O,ev,hl,rs,t,q⟩:=h;refine ⟨_,hb u A l s H E hr,?_⟩;subst ev;have Z:J.length=n:=by rw [<-rs.length];exact hl
 obtain ⟨kk,Fe⟩:=YR (N:=N) rs t (by omega)
 have ne:QK N.length n g O J=(match g (zL N.length O J) with
   | .ok (.nx L)=>(match yU L with| .ok d=> .ok (.aO,d)|_=> .aj)
   | .ok (.rt r L)=>(match yU L with| .ok d=> .ok (r,d)|_=> .aj)
   | .exc c=> .exc c
   | .aj=> .aj):=if_pos Z
 rcases q with ⟨r,d1,eF,q⟩| ⟨c,eF,q⟩
 . have fin: ∀(i:Sl) (j:L2.St) (p:Hp) (v:V),ar K (λc=>H c=none\/c=a\/B c) (λc=>if c=a then none else H c) i j p->At j 0 a->yU i= .ok d1->aA K (Sf (λc=>H c=none\/c=a\/B c) i j) p v r->Q v p:=λi j p v U Y e2 rv=>by
    have hi:=Kf e2;obtain ⟨a2,h1,_,t2⟩:=U.av 0 _ hi;rw [Y] at h1;cases h1
    have ww: ∀c,Sf (λc=>H c=none\/c=a\/B c) i j c->(H c=none\/B c)/\c≠a:=λc z=>by
     have Ff:c≠a:=by
       rintro rfl;exact z.1 ⟨0,_,hi,Y⟩
     refine ⟨?_,Ff⟩;rcases z.2 with z|z|z
     . exact .inl z
     . exact absurd z Ff
     . exact .inr z
    exact q v p (λc o hc e=>U.ae c o (by rw [if_neg hc];exact e)) (t2.aV (λ_ _ e _=>e) ww λ_ e=>e) (rv.az ww)
   rw [ne] at eF
   cases e1:g (zL N.length O J) with
   |exc c=>rw [e1] at eF;cases eF
   |aj=>rw [e1] at eF;cases eF
   |ok o=>
    rw [e1] at eF;refine ⟨_,_,_,a,kk,Fe,.inl ⟨o,e1,?_⟩⟩
    cases o with
    |nx i=>
     cases e2:yU i with
     |ok d=>simp only [e2] at eF;cases eF;exact λj p U Y f'=>fin i j p .aO U Y e2 .aO
     |exc c=>simp only [e2] at eF;cases eF
     |aj=>simp only [e2] at eF;cases eF
    |rt r' i=>
     cases e2:yU i with
     |ok d=>simp only [e2] at eF;cases eF;exact λv j p U Y f' rv=>fin i j p v U Y e2 rv
     |exc c=>simp only [e2] at eF;cases eF
     |aj=>simp only [e2] at eF;cases eF
 . rw [ne] at eF
   have e1:g (zL N.length O J)= .exc c:=by
    cases e1:g (zL N.length O J) with
    |exc c'=>rw [e1] at eF;cases eF;rfl
    |aj=>rw [e1] at eF;cases eF
    |ok o=>
     rw [e1] at eF
     cases o with
     |nx i=>cases e2:yU i<;>(simp only [e2] at eF;cases eF)
     |rt r' i=>cases e2:yU i<;>(simp only [e2] at eF;cases eF)
   refine ⟨_,_,_,a,kk,Fe,.inr ⟨c,e1,λpins σ H1 s1 h e C vs sm hC I hx=>YF I hx (q C H1 hC sm),λσ H1 sm pins H2 s1 e s' Dd I cx=>UP I cx λC p z=>?_⟩⟩;obtain ⟨C',e',hC,s3⟩:=z;cases e'
   exact q C p hC (sm.trans (Dd.trans s3)))
end
structure lc (P:bI) (w:World) (K:ay) (mg:Xd) (ae:Heap) (k:Nat) (c:Str) (n:Nat) (F:FO):Prop where
 ex: ∃C f fd ps,cE P w K mg ae (fD P w) k f fd ps (vu K n F)/\bM K bv c=some (some (.ref C))/\mg c=some (.ref C)/\Mk K C f/\Binds K fd ps []
def xZ (c:Str) (n:Nat) (F:FO) (g:TD):Sl->ao D:=λa=>match g a with
 | .ok e=>if e.length=n then (match F (.obj c [] []) e with
  | .ok (.aO,d)=> .ok d
  | .exc c=> .exc c
  |_=> .aj) else .aj
 |_=> .aj
section
variable {X:Cx} {k n:Nat} {c:Str} {F:FO} {e:Expr} {j:List Expr} {pos p:Pos} {g:TD}
def Ki {q:L2.St} (M:Mk X.K C f) (F:cE X.prog X.w X.K X.mg X.ae J k f L t N) (O:aH (k+1) X.A) (U:Binds X.K L t [])
  (I:aq X d q H s) (r:aE w i)
  (h: ∀x dx,H x=none->H dx=none->dx≠x-> ∃E,N (.ref x::w) (aJ (aJ H dx (.av x)) x (.ins C dx [])) (λv Y=>v= .aO/\Q (.ref x) Y) E/\ ∀y e m,aq X d q (aJ (aJ H dx (.av x)) x (.ins C dx [])) y->J X.stack (aJ (aJ H dx (.av x)) x (.ins C dx [])) y E e m->X.xe e m):
  wpAny (model X.prog X.w) X.A (call (.ref C) i) (EP X d q Q) X.xe s:=by
 obtain ⟨E,z,Z⟩:=h (s.heap.objs.size+1) s.heap.objs.size (I.aP.fresh (rX _)) (I.aP.fresh (a9 _)) (dN (Au _));have o:=aq.made (C:=C) I;have B:aE (V.ref (s.heap.objs.size+1)::w) (bP (s.heap.objs.size+1)::i):= .cons rfl r
 have hl:(bP (s.heap.objs.size+1)::i++[]).length=t.length:=by
  have e:=B.length;rw [F.len _ _ _ _ z] at e;rw [lO];exact e.symm
 have l:=U _ (bP (s.heap.objs.size+1)::i) o.dD hl;rw [lO] at l
 refine wpAny_call (UN (f:=f) I.dD M.makes M.init (beq_iff_eq.mp M.fn) (rM (F.run _ X.stack _ _ ⟨bP (s.heap.objs.size+1)::i,[]⟩ (bP (s.heap.objs.size+1)::i) _ _ E (O.make C i [])
  (o.sZ.make C i []) l B z) λr m a=>?_))
 cases r with
 |error e=>exact Z _ e m o a
 |ok fl=>
  cases fl with
  |ret u=>
   obtain ⟨v,H',I3,rv,ev,q3⟩:=o.after a;subst ev;exact ⟨rv,⟨V.ref (s.heap.objs.size+1),H',I3,rfl,q3⟩⟩
  |next=>exact hJ a
  |brk=>exact hJ a
  |cont=>exact hJ a
def lc.make (A:lc X.prog X.w X.K X.mg X.ae k c n F) (hr:aH (k+1) X.A) (ha:DA X .s (e::j) g) (hg:Gl X c:=by rfl) (Y:Yj c:=by decide)
   (he:T9 X e j:=by exact jn rfl) (Z:T8 X pos j:=by exact jB rfl):
   n8 X .t (.Call (.Name c p) (e::j) [] pos) (xZ c n F g):=by
 obtain ⟨C,f,fd,ps,h1,h2,h3,h4,h5⟩:=A.ex
 with_unfolding_all exact (by
 rintro u s J H Q I ⟨G,H0,env,k,q⟩
 have ns:xZ c n F g env≠ .aj:=by
   intro z;rcases q with ⟨o,a,_⟩| ⟨c,a,_⟩<;>(rw [z] at a;cases a)
 have key: ∃h,g env= .ok h/\h.length=n/\xZ c n F g env=(match F (.obj c [] []) h with
   | .ok (.aO,d)=> .ok d
   | .exc c=> .exc c
   |_=> .aj):=by
   cases e1:g env with
   |ok h=>
     by_cases O:h.length=n
     . exact ⟨h,rfl,O,by unfold xZ;rw [e1];exact if_pos O⟩
     . exact absurd (by unfold xZ;rw [e1];exact if_neg O) ns
   |_=>exact absurd (by unfold xZ;rw [e1]) ns
 obtain ⟨h,e1,O,e2⟩:=key;rw [e2] at q;refine Aw (yB I hg h3 ?_ Y);refine PySem.W.callWith_K (h₀:=X.ae) I.ok.mod.oD h4.kp (bn ((show PA X (e::j) (tA X.K .s g) from ha) pos u s J H (λB w=>am H w/\ai X.K (Sf G env J) w B h) I ⟨G,H0,env,h,k,e1,λB U L r'=>⟨L,r'⟩⟩) λus s1 ⟨B,w,I1,r,i,r1⟩=>⟨I1.dD,?_⟩) he Z;refine Ki h4 h1 hr h5 I1 r λx dx N IK ne=>?_
 have S:am w (aJ (aJ w dx (.av x)) x (.ins C dx [])):=λb o y=>by
   rw [jF (jJ y N),jF (jJ y IK)];exact y
 have kx:=k.new x (am.free i N);have rr:=r1.ce.ap S
 have ae: ∀l,l->(B.length=n/\ai X.K (λb=>Sf G env J b/\b≠x) (aJ (aJ w dx (.av x)) x (.ins C dx [])) B h/\Top X.K (λb=>Sf G env J b/\b≠x) (aJ (aJ w dx (.av x)) x (.ins C dx [])) x (.obj c [] [])/\l):=λl hR=>
   ⟨by rw [r1.length];exact O,rr.az λb z=>⟨z.1,by rintro rfl;exact z.2 N⟩,.obj jr ⟨h2,rfl⟩ rfl .nil,hR⟩
 rcases q with ⟨d,a,q⟩| ⟨c',a,th⟩
 . have eF:F (.obj c [] []) h= .ok (.aO,d):=by
     cases E:F (.obj c [] []) h with
     |ok p=>
       obtain ⟨r0,d1⟩:=p;rw [E] at a;cases r0<;>first| (cases a;rfl)|cases a
     |exc c=>rw [E] at a;cases a
     |aj=>rw [E] at a;cases a
   refine ⟨λ_ _ _=>False,⟨Sf G env J,h,B,x,.obj c [] [],rfl,ae _ (.inl ⟨.aO,d,eF,λv U hs t rv=>⟨rv.tz,?_⟩⟩)⟩,λs2 e L _ cx=>?_⟩
   . have sH:am H U:=λb o y=>hs b o (jJ (i b o y) N) (S b o (i b o y))
     refine q _ U sH (t.rep (λb z=>⟨z.1.elim (λz=>k.new b (am.free i (am.free S z))) λz=>z,z.2⟩) kx) λb y o qb m=>?_
     cases y;rw [i _ _ qb] at N;cases N
   . obtain ⟨_,_,_,_,_,_,_,_,_,_,_,_,_,z⟩:=cx;exact z.elim
 . have eF:F (.obj c [] []) h= .exc c':=by
     cases E:F (.obj c [] []) h with
     |ok p=>
       obtain ⟨r0,d1⟩:=p;rw [E] at a;cases r0<;>cases a
     |exc c=>rw [E] at a;cases a;rfl
     |aj=>rw [E] at a;cases a
   refine ⟨XE X.K c' (aJ (aJ w dx (.av x)) x (.ins C dx [])),⟨Sf G env J,h,B,x,.obj c [] [],rfl,ae _ (.inr ⟨c',eF,λC2 U hC L=>⟨C2,rfl,hC,L⟩⟩)⟩,λs2 e L I2 cx=>th u _ s2 e L (i.trans S) I2 cx⟩)
end
section
variable {P:bI} {w:World} {K:ay} {mg:Xd} {ae:Heap}
def IL {c q:Str} {st:Stmt} {C:Addr} {N h:List Str} {k n:Nat} {g:Sl->ao bN} (d:Dm K C "__init__" q st h) (j:bM K bv c=some (some (.ref C))/\gK K C) (i:mg c=some (.ref C)) (mk:sV K C=true/\h8 K (.ref C)=true) (S:aC N h (jj st)) (l:h.length=n+1) (o:n+1<=N.length)
  (p: ∀(f:Addr) (e:Value) (A:bV) (a:List Env) (s:aB) (H:Hp) (E:XK),aH k (A.deeper (gx q (jj st) s.heap.objs.size f e))->W5 (bH (fD P w) P w K mg ae N q (jj st) f e A a s H E) 0 (qr st) g):
  lc P w K mg ae (k+1) c n (QK N.length n g):=by
 obtain ⟨f,r,F,m,B⟩:=d;exact ⟨C,f,r,h,uK F S l o (p f),j.1,i,⟨mk.1,m.at_,m.fn,mk.2⟩,B⟩
end
mutual
def eM:D->Bool
 | .aU _=>false
 | .ah a=>cG a
 | .ag a=>cG a
 | .cv _ a=>cG a
 | .cO _ a=>cG a
 | .eW _ a=>cG a
 | .dz _ _=>false
 | .obj _ _ a=>cG a
 | .cr _=>false
 |_=>true
def cG:List D->Bool
 | []=>true
 |d::r=>eM d&&cG r
end
def aq.mq {X:Cx} {c:List (Addr×Obj)} {g:L2.St} {H:Hp} {s:aB} {a:Addr} {d:List V} (I:aq X c g H s) (e:H a=some (.ag d)):W4 X a:=by
 refine ⟨λd z=>?_,λo u z=>?_,λps z=>?_⟩
 . rw [I.ae.dr _ _ z] at e;cases e
 . rw [I.ae.cY _ _ _ z] at e;cases e
 . obtain ⟨m,q⟩:=I.ae.du _ _ z;rw [q] at e;cases e
def WJ:List D->ao D
 | [.ag a]=>(.ok (.ag a))
 | [.ah a]=>(.ok (.ag a))
 | [.aU a]=>(.ok (.ag a))
 |_=> .aj
def Zl {K:ay}:JU K (λg H Q=> ∃p a,g=[.ref p]/\(dg K H p a\/eI K H p a)/\ ∀l,H l=none->Q (.ref l) (aJ H l (.ag a))) WJ:=by
 intro A g H m d Q r e q;unfold WJ at e
 split at e
 . exact Zm A g H _ d Q r e q
 . exact Zm A g H _ d Q r e q
 . rename_i n;cases e;obtain ⟨v,rfl,i⟩:=r.one;obtain ⟨p,a,rfl,j,k⟩:=i.fH;exact ⟨p,a,rfl,.inl j.lI,λl h=>q _ _ (am.aJ h) (.ag jr (.inl h) ((k.laid h).az λc z=>⟨.inr z.1,z.2⟩)) (qm (am.refl H) h)⟩
 . cases e
def gr (T:String):D->ao D
 | .aU _=> .ok (.bl (fK T "list"))
 |d=>i8 T d
def xC (T:String) (f:TJ):Sl->ao D:=λa=>f a>>=gr T
section
variable {X:Cx}
def uC {T:String} {a d:D} (h:gr T a= .ok d): ∃b,d= .bl b:=by
 unfold gr at h
 split at h
 . cases h;exact ⟨_,rfl⟩
 . unfold i8 at h
   split at h
   . cases h;exact ⟨_,rfl⟩
   . cases h
def VV (T:String) (h:fL T):bf X (.builtin "isinstance") (λi H Q=> ∃x d,i=[x,.ty T]/\aA X.K Any H x d/\ ∃b,gr T d= .ok (.bl b)/\Q (.bl b) H):=by
 rintro c s m H i p Q I r ⟨x,d,j,k,b,e,q⟩
 by_cases hd: ∃l,d= .aU l
 . obtain ⟨l,rfl⟩:=hd;cases e;subst j;obtain ⟨u,t,rfl,v,w⟩:=Y3 r;cases (show t=o5 T from w);obtain ⟨a,L,rfl,y,_⟩:=k.fH;cases (show u=bP a from v);obtain ⟨B,N,⟨o,n,g,E,_⟩,_⟩:=I.list y.lI;exact lE BJ I.dD ⟨o,g,E⟩ (h X.K "list" (by decide)) (λz=>nomatch z) λJ=>⟨.bl _,H,I.tok J,rfl,q⟩
 . refine X0 T h c s m H i p Q I r ⟨x,d,j,k,b,?_,q⟩;unfold gr at e
   split at e
   . exact (hd ⟨_,rfl⟩).elim
   . exact e
def wq (T:String) (Ty:Str) {l l':Lv} {e:Expr} {f:TJ} {p c g:Pos} (t:fL T) (u:DE X l e f) (w:Gl X "isinstance") (y:X.mg "isinstance" =none) (h:Gl X Ty) (i:X.mg Ty=none) (z:gH Ty=some (.type T))
   (B:Ty≠ "__name__" :=by decide) (hd:Yj Ty:=by decide) (o:bp [e,.Name Ty c] X.env=(false,eval e X.env)::bp [.Name Ty c] X.env:=by exact jn rfl)
   (j:bp [.Name Ty c] X.env=(false,eval (.Name Ty c) X.env)::bp [] X.env:=by exact jn rfl) (m:(dO g (bp [.Name Ty c] X.env)).any (·.1)=false:=by exact jB rfl):
   DE X l' (.Call (.Name "isinstance" p) [e,.Name Ty c] [] g) (xC T f):=by
 with_unfolding_all exact (
  PE.imp (zv (VV T t) w y tQ (qc u (qc (Wz (v:= .ty T) h i z rfl B hd) wa j) o) (by decide) (by decide) o m) λL H Q=>by
   rintro ⟨G,E,n,d,k,I,q⟩;obtain ⟨a,e1,e2⟩:=je I;refine ⟨G,E,n,a,k,e1,λv J s r _=>?_⟩;obtain ⟨b,rfl⟩:=uC e2
   exact ⟨v,a,rfl,r.az Lv.be,b,e2,q _ J s (.bl b) (gB (K:=X.K) b).T⟩)
def kD (d:List Str) (k: ∀u,aG cV u->u=l) (m: ∀c,d.contains c=true-> ∀C,gn X.K c C->eV X.K (.ref C) l=some true):
  bf X (.builtin "isinstance") (λe H Q=> ∃x c g i,e=[x,cV]/\aA X.K Any H x (.obj c g i)/\d.contains c=true/\Q (.bl true) H):=by
 rintro j s N H e O Q I r ⟨x,c,g,i,n,o,t,q⟩;subst n;obtain ⟨u,v,rfl,w,y⟩:=Y3 r;cases k v y
 cases o with
 | @obj _ _ a C dx fs U _ _ _ B _ E _ _=>
  cases (show u=bP a from w);obtain ⟨_,_,_,J,_⟩:=(show aT X.prog X.w H s.heap a (.ins C dx fs) from I.aP a _ B)
  exact Va (λM h _ p=>(t6 p).andThen .now) I.dD J (m c t C E.1) (λz=>nomatch z) λL=>⟨.bl true,H,I.tok L,rfl,q⟩
def qE (a:List Str):D->ao D
 | .obj c _ _=>if a.contains c=true then .ok (.bl true) else .aj
 |_=> .aj
def qI (c:List Str) (f:TJ):Sl->ao D:=λa=>f a>>=qE c
def UT (h:qE e a= .ok d): ∃c g i,a= .obj c g i/\e.contains c=true/\d= .bl true:=by
 unfold qE at h
 split at h
 . split at h
   . rename_i j;cases h;exact ⟨_,_,_,rfl,j,rfl⟩
   . cases h
 . cases h
def IM (i:List Str) (Ty:Str) {l':Lv} {p g h:Pos} (z: ∀c,i.contains c=true-> ∀C,gn X.K c C->eV X.K (.ref C) (.ref j)=some true) (B:DE X l e f)
   (E:Gl X "isinstance") (I:X.mg "isinstance" =none) (m:Gl X Ty) (n:X.mg Ty=some (.ref j))
   (hd:Yj Ty:=by decide) (y:bp [e,.Name Ty g] X.env=(false,eval e X.env)::bp [.Name Ty g] X.env:=by exact jn rfl)
   (o:bp [.Name Ty g] X.env=(false,eval (.Name Ty g) X.env)::bp [] X.env:=by exact jn rfl) (t:(dO h (bp [.Name Ty g] X.env)).any (·.1)=false:=by exact jB rfl):
   DE X l' (.Call (.Name "isinstance" p) [e,.Name Ty g] [] h) (qI i f):=by
 with_unfolding_all exact (
  PE.imp (zv (kD i (cV:= .ref j) (λu r=>r) z) E I tQ (qc B (qc (QR (v:= .ref j) m n rfl hd) wa o) y) (by decide) (by decide) y t) λZ H Q=>by
   rintro ⟨G,J,w,d,k,L,q⟩;obtain ⟨a,e1,e2⟩:=je L;refine ⟨G,J,w,a,k,e1,λv N s r _=>?_⟩;obtain ⟨c,O,U,rfl,Y,rfl⟩:=UT e2
   exact ⟨v,c,O,U,rfl,r.az Lv.be,Y,q _ N s (.bl true) (gB (K:=X.K) true).T⟩)
variable {l:Lv} {e:Expr} {f U f2:TJ} {st:Stmt} {MY:List Stmt}
def WL:D->ao D
 | .aU a=>Ql (.ag a)
 |d=>Ql d
def WK {a d:D} (h:WL a= .ok d): ∃g c,(a= .ag g\/a= .aU g)/\ew g=some c/\c.length<=76/\d= .int (nT c):=by
 unfold WL at h
 split at h
 . obtain ⟨g,c,e,i,j,k⟩:=Qk h;cases e;exact ⟨_,c,.inr rfl,i,j,k⟩
 . obtain ⟨g,c,e,i,j,k⟩:=Qk h;exact ⟨_,c,.inl e,i,j,k⟩
def yK (f:TJ):Sl->ao D:=λa=>f a>>=WL
variable {N:Lv} {e1:Expr} {U:TJ} {Z O Y L:Pos}
def Qx (E:X.bG=true) (I:X.A.units+200<cLine) (J:DE X N e1 U) (j:Gl X "len") (m:X.mg "len" =none) (n:Gl X "set") (r:X.mg "set" =none)
   (g:bp [.Call (.Name "set" Z) [e1] [] Y] X.env=(false,eval (.Call (.Name "set" Z) [e1] [] Y) X.env)::bp [] X.env:=by exact jn rfl)
   (h:bp [e1] X.env=(false,eval e1 X.env)::bp [] X.env:=by exact jn rfl):
   DE X .b (.Call (.Name "len" O) [.Call (.Name "set" Z) [e1] [] Y] [] L) (yK U):=by
 with_unfolding_all exact (
  PE.imp (zv VU j m rfl (qc (Jj (VS E I) n r rfl (qc J wa h) (by decide) (by decide) h rfl) wa g) (by decide) (by decide) g rfl) λσ H Q=>by
   rintro ⟨G,H0,t,d,k,u,q⟩;obtain ⟨a,c1,u⟩:=je u;obtain ⟨ds,y,ea,e1,e2,rfl⟩:=WK u;refine ⟨G,H0,t,_,k,c1,λx1 z s1 B _=>?_⟩
   have v: ∃p c,x1= .ref p/\dg X.K z p c/\F2 (A7 z) c y:=by
    rcases ea with rfl|rfl
    . obtain ⟨p,c,rfl,i,_,w⟩:=(B.az Lv.be).c7;exact ⟨p,c,rfl,.inl (.inl i),Y9 w e1⟩
    . obtain ⟨p,c,rfl,i,w⟩:=(B.az Lv.be).fH;exact ⟨p,c,rfl,i.lI,Y9 w e1⟩
   obtain ⟨p,c,rfl,i,hF⟩:=v;refine ⟨p,c,y,rfl,i,hF,e2,λl o hl hO=>?_⟩
   exact ⟨l,l,o,_,rfl,jr,hO,q _ _ (s1.trans (am.aJ hl)) (.int _) trivial⟩)
end
section
variable {M:Model} {K:ay}
def U1 {cls : Value} {y e : Addr} {h : Heap} (X : K.In h) (LT : qP M h (typeOf (.ref e)) cls) (L : List Value) (B : h.get? y = some { cls := .type "tuple", data := .seq L.toArray }) (p : ∀ c ∈ L, q9 K cls c = some false) :
    qP M h (excMatches (.ref e) (.ref y)) false := by
  intro A Q E s t q
  obtain ⟨a, g, d, v, os⟩ := s
  have k : ∀ b o, h.get? b = some o -> a.get? b = some o := t
  have i : qP M h (isInstance (.ref y) (.type "tuple")) true := ((t6 B).andThen .now).andThen (PySem.W.Looks.of_pure isSubtype_tuple_tuple)
  have w : ∀ c ∈ L, qP M a (isExcClass c) true /\ qP M a (isSubtype cls c) false := λc w => by
    obtain ⟨e1, H⟩ := PySem.W.exm_cls (M := M) X (p c w)
    exact ⟨e1.keeps k, H.keeps k⟩
  have LT := LT.keeps k
  have i := i.keeps k
  have u := k _ _ B
  unfold excMatches
  refine ax (i.at ?_)
  dsimp only
  rw [if_pos rfl]
  first
    | refine ax (rE u rfl ?_)
    | refine ax (ax (rE u rfl (aM ?_)))
  dsimp only [Ae, Option.getD]
  refine ax (aM (ax ?_))
  have j : ∀ (L : List Value) {P : PUnit -> aB -> Prop}, (∀ c ∈ L, qP M a (isExcClass c) true) -> P PUnit.unit ⟨a, g, d, v, os⟩ -> wpAny M A (forIn (m := Sem) L PUnit.unit λc (__s : PUnit) => do
          let __do_lift <- isExcClass c
          if (
            !__do_lift) = true then do
            rule "try.except-non-exception-class"
            raiseErrorWords "TypeError" "catching classes that do not inherit from BaseException is not allowed"
            pure (pQ PUnit.unit)
            else pure (pQ PUnit.unit)) P E ⟨a, g, d, v, os⟩ := by
    intro L
    induction L with
    | nil => intro P _ l; exact aM l
    | cons c r z =>
      intro P h l
      rw [List.forIn_cons]
      refine ax (ax ((h c (by simp)).at ?_))
      exact aM (z (λx p => h x (by simp [p])) l)
  have n : ∀ (L : List Value) {P : Option Bool × Unit -> aB -> Prop}, (∀ c ∈ L, qP M a (isSubtype cls c) false) -> P (none, ()) ⟨a, g, d, v, os⟩ -> wpAny M A (forIn (m := Sem) L ((none : Option Bool), ()) λc __s => do
            let __do_lift <- isSubtype cls c
            if __do_lift = true then pure (ForInStep.done (some true, ())) else pure (pQ (none, ()))) P E ⟨a, g, d, v, os⟩ := by
    intro L
    induction L with
    | nil => intro P _ l; exact aM l
    | cons c r z =>
      intro P h l
      rw [List.forIn_cons]
      refine ax (ax ((h c (by simp)).at ?_))
      exact aM (z (λx p => h x (by simp [p])) l)
  refine j L (λc h => (w c h).1) (ax (LT.at (ax ?_)))
  exact n L (λc h => (w c h).2) (aM q)
end
section
variable {X:Cx}
theorem Xu {a:List (Addr×Obj)} {d:L2.St} {H:Hp} {s:aB} {e:Ws} (I:aq X a d H s) {c:Pos}: ∀(L:List (Str×Addr×Pos)) {Q:List Value->aB->Prop},(∀q∈L,Gl X q.1/\X.mg q.1=some (.ref q.2.1)/\(q.1==("__debug__" :Str))=false)->Q (L.map λq=>bP q.2.1) s->
  wpAny (model X.prog X.w) X.A (spliced (dO c (bp (L.map λq=> .Name q.1 q.2.2) X.env))) Q e s
 | [],Q,_,q=>wpAny_items_nil q
 |p::L,Q,h,q=>by
  obtain ⟨g,i,j⟩:=h p (by simp);exact wpAny_items_cons (yB I g i (Xu I L (λx k=>h x (by simp [k])) q) j)
end
def u7 {X:Cx} {n T:Str} {CT:Addr} {body m:List Stmt} {y:Stmt} {g gs:TF} {np v8 pos N tp:Pos} {kt:Nat} {b1:Stmt} {p:List Stmt} (L:List (Str×Addr×Pos)) (cs:List Str) (j:Nat) (hN:X.N.Nodup) (Y: ∀E' ps,t4 (Cx.kb X E' ps) body g) (hs: ∀e,fU (Cx.held X e) (y::m) gs)
    (hT:X.mg T=some (.ref CT)) (hx: ∀c,cs.contains c=true-> ∀C,gn X.K c C->q9 X.K (.ref C) (.ref CT)=some true)
    (hL: ∀q∈L,Gl X q.1/\X.mg q.1=some (.ref q.2.1)/\(q.1==("__debug__" :Str))=false) (De: ∀c,cs.contains c=true-> ∀C,gn X.K c C-> ∀q∈L,q9 X.K (.ref C) (.ref q.2.1)=some false) (MZ:L.length<=1000)
    (hj:X.N[j]?=some n:=by rfl) (hl:X.env.scope.names.lookup n=some .local:=by rfl) (oT:X.stack=X.env::X.outer:=by rfl) (Ca:X.env.frame=some X.env.locals:=by rfl) (hg:Gl X T:=by rfl) (Df:Yj T:=by decide):
    DS X (.Try body [.ExceptHandler (some (.Tuple (L.map λq=> .Name q.1 q.2.2) kt tp)) none (b1::p) N,.ExceptHandler (some (.Name T np)) (some n) (y::m) v8] [] [] pos) (io cs g j gs):=by
 with_unfolding_all exact (by
  rintro O s σ H E I ⟨G,H0,Q,o,k,U,q⟩
  refine wpAny_Try_except (lA ((Y (λe Dg=>wpAny (model X.prog X.w) X.A (noteFrame e X.env) (λ_ Dh=>wpAny (model X.prog X.w) X.A (setFlight e none) (λ_ Di=>
    wpAny (model X.prog X.w) X.A (handleBy e X.env [.ExceptHandler (some (.Tuple (L.map λq=> .Name q.1 q.2.2) kt tp)) none (b1::p) N,.ExceptHandler (some (.Name T np)) (some n) (y::m) v8]) (SP X O E) X.xe Di) X.xe Dh) X.xe Dg) O) [] s σ H E (uE I) ⟨G,H0,Q,k,?_⟩) (λf s1 hq=>?_) λe s1 h=>h)
  . unfold io at U
    cases eg:g Q with
    |ok o'=>rw [eg] at U;cases U;exact .inl ⟨_,rfl,q⟩
    |aj=>rw [eg] at U;cases U
    |exc c=>
     rw [eg] at U;dsimp only at U
     by_cases hc:cs.contains c=true
     . rw [if_pos hc] at U;obtain ⟨o1,e1,e2⟩:=je U;cases e2;refine .inr ⟨c,rfl,λFg H1 s2 e s' sm I' cx=>?_⟩;have I1:=wR I';obtain ⟨a,C,Z,B,a0,rfl,os,bare,un,aP,ha,fl,A8,C',eC,hC,Dd⟩:=cx;cases eC;have J:=I1.fR os un aP bare λb Y=>absurd Y (by simp)
       have nb:a∉cJ X.stack:=λhm=>by
         obtain ⟨_,o',t0,hd⟩:=J.stack.mem hm;obtain ⟨oe,vs,he,_,hv,_⟩:=fl.first
         rw [he] at t0;cases t0;exact hd _ hv
       have hn:s2.heap.get? a=none:=by
         cases z:s2.heap.get? a with
         |none=>rfl
         |some o'=>
          obtain ⟨ob,IN,_⟩:=fl.there;have:=A8 a nb (.inl ⟨o',z⟩);rw [fl.2.1,IN] at this;cases this
       refine wpAny_looks_onW (by rw [<-oT];exact I.ok.frames) Ca (by rw [<-oT];exact fl) λh2 held Dj=>?_
       refine wpAny_landsW held λh3 r t=>?_
       have Fh:=r;obtain ⟨g1,g2,g3,g4⟩:=r;obtain ⟨V3,W3⟩:=WN un aP J.df A8 J.stack g1 (Dj.trans t);have J3:=I1.fR (s':={s' with heap:=h3}) os V3 W3 bare λb Y=>absurd Y (by simp)
       obtain ⟨M0,wb,IP⟩:=Dk (Heap.TracedW.at g4);refine wpAny_handleBy_cons (codeAny_handlers_test ?_) (by intro q;cases q);refine wpAny_Tuple (Xu (X:=Cx.held X a) (Q9 J3) L hL ⟨by rw [bB,nK];omega,?_⟩);have kp: ∀q o,h3.get? q=some o->(h3.push {cls:= .type "tuple",data:= .seq (L.map λq=>bP q.2.1).toArray}).get? q=some o:=λ_ _ z=>cu _ z
       refine (U1 (cls:= .ref C) (J3.dD.keeps kp) (by rw [<-IP];exact (t6 (kp _ _ wb)).andThen .now) (L.map λq=>bP q.2.1) (ej h3 rfl) (λv hv=>by
         obtain ⟨q,hq,rfl⟩:=b8.mp hv
         exact De c hc C hC q hq)).here ?_
       have Dl:=PySem.W.flying_keeps Fh kp;have Dn:=t.trans (λb o e n=>⟨o.slots,kp b o e⟩);generalize M3:h3.push {cls:= .type "tuple",data:= .seq (L.map λq=>bP q.2.1).toArray}=h9 at*;clear Fh g1 g2 g3 g4 V3 W3 J3 wb kp t;revert Dl Dn;intro r t;obtain ⟨f1,f2,f3,f4⟩:=r;obtain ⟨U3,O3⟩:=WN un aP J.df A8 J.stack f1 (Dj.trans t);have I3:=I1.fR (s':={s' with heap:=h9}) os U3 O3 bare λb Y=>absurd Y (by simp)
       refine wpAny_handleBy_cons (codeAny_handlers_test ?_) (by intro q;cases q);refine yB (Q9 I3) hg hT ?_ Df;obtain ⟨M4,Do,IQ⟩:=Dk (Heap.TracedW.at f4);refine (PySem.W.exm_one I3.dD (by rw [<-IQ];exact (t6 Do).andThen .now) (hx c hc C hC)).here ?_;refine codeAny_handlers_suite_as ?_;refine wpAny_setFlight_noneW f1 f3 (Heap.TracedW.at f4) λh4 IR M5 IS wh=>?_
       have IT:=Dj.trans (t.trans λb o e n=>⟨o.slots,wh b o e n⟩);obtain ⟨U4,O4⟩:=WN un aP J.df A8 J.stack IR IT;obtain ⟨oe,IU,IV⟩:=Dk (Heap.TracedW.at IS);obtain ⟨U5,O5⟩:=HK U4 O4 hn ha IU;have I5:=I1.fR (s':={s' with heap:=h4}) os U5 O5 bare λb Y=>absurd Y (by simp)
       have tN:am H (aJ Z a (.bd oe (.av a))):=(sm.trans Dd).trans (am.aJ ha);have rp:aA X.K (Sf G Q σ) (aJ Z a (.bd oe (.av a))) (.ref a) (.di c):= .di jr IV hC;refine QG (X:=Cx.held X a) (Q9 I5) hN hj (.inl hl) (v:= .ref a) rfl (λs6 I6=>?_) (.inr hl);have kS:=(k.ap tN).en (i:=j) rp;have fS:bt Q σ H (Q.set j (.ak (.di c))) (σ.set j (some (.ref a))) (aJ Z a (.bd oe (.av a))):= .set tN λ_ _ z _=>by cases z
       refine lA ((hs a) O s6 (σ.set j (some (.ref a))) _ ⟨λl Z=>E.nx (l.set j none) Z,E.rt,λl Z=>E.bk (l.set j none) Z,λl Z=>E.ct (l.set j none) Z⟩ I6 ⟨G,H0,_,o1,kS,e1,?_⟩) (λf s7 h7=>?_) λ_ _ z=>hJ z
       . cases o1 with
         |nx wo=>exact λl w k3 f3=>q _ w k3.unset ((fS.trans f3).trans .unset)
         |bk wo=>exact λl w k3 f3=>q _ w k3.unset ((fS.trans f3).trans .unset)
         |ct wo=>exact λl w k3 f3=>q _ w k3.unset ((fS.trans f3).trans .unset)
         |rt fr d=>exact q
       . cases f with
         |next=>
          obtain ⟨l,w,I7,q7⟩:=h7;exact Zc (xt I.ok I7) hN hj hl λs8 I8=>⟨_,w,I8,q7⟩
         |brk=>
          obtain ⟨l,w,I7,q7⟩:=h7;exact Zc (xt I.ok I7) hN hj hl λs8 I8=>⟨_,w,I8,q7⟩
         |cont=>
          obtain ⟨l,w,I7,q7⟩:=h7;exact Zc (xt I.ok I7) hN hj hl λs8 I8=>⟨_,w,I8,q7⟩
         |ret u=>
          obtain ⟨v,l,w,I7,r7,q7⟩:=h7;exact Zc (xt I.ok I7) hN hj hl λs8 I8=>⟨v,_,w,I8,r7,q7⟩
     . rw [if_neg hc] at U;cases U
  . cases f with
    |next=>exact Aj (yY hq)
    |brk=>exact yY hq
    |cont=>exact yY hq
    |ret u=>exact yY hq)
end M
namespace M
open PySem PySem.Spec L2
section
def mr (i:Int):Str:=⟨#[97+i.toNat]⟩
def KZ {i j:Int} (a:0<=i) (c:0<=j) (h:97+i.toNat=97+j.toNat):i=j:=by omega
def IW (a b:Str):(a++b).cps.toList=a.cps.toList++b.cps.toList:=by
 show (a.cps++b.cps).toList=_;simp
def lg (a c:Str) (s:Int) (k:Nat):Str:=a++mr ((s+k)%26)++mr ((s+k/26)%26)++c
def uo {a c:Str} {s:Int} {i j:Nat} (g:0<=s) (k:i<100) (l:j<100) (h:lg a c s i=lg a c s j):i=j:=by
 have d:=congrArg (λz:Str=>z.cps.toList) h;simp only [lg,IW,ia] at d;have e:=List.append_cancel_left d;simp only [mr,List.cons_append,List.nil_append,AT] at e;obtain ⟨e1,e2,_⟩:=e;have m:=KZ (nr _ (by decide)) (nr _ (by decide)) e1;have n:=KZ (nr _ (by decide)) (nr _ (by decide)) e2;omega
end
end M
namespace M
open PySem PySem.Spec L2
open PyProof.Rows hiding St
section
variable {X:Cx} {Z:List (Addr×Obj)} {Y:L2.St} {H U Hs:Hp} {s:aB}
def cU:HO->Bool
 | .ag _=>true
 | .dT _=>true
 |_=>false
def lk:HO->Prop
 | .bd _ u=>cU u=true
 |u=>cU u=true
def aq.re (I:aq X Z Y H s) (a: ∀b,U b=H b\/(W4 X b/\ ∃u g,H b=some u/\U b=some g/\lk u/\aT X.prog X.w H s.heap b g)):aq X Z Y U s:=by
 have e: ∀b,H b=none->U b=none:=λb z=>by
   rcases a b with h| ⟨_,u,_,h,_⟩
   . rw [h];exact z
   . rw [z] at h;cases h
 have j: ∀c b,H c=some (.av b)->U c=some (.av b):=λc b q=>by
   rcases a c with h| ⟨_,u,_,h,_,k,_⟩
   . rw [h];exact q
   . rw [q] at h;cases h;cases k
 have i: ∀c d,H c=some (.ah d)->U c=some (.ah d):=λc d q=>by
   rcases a c with h| ⟨_,u,_,h,_,k,_⟩
   . rw [h];exact q
   . rw [q] at h;cases h;cases k
 refine ⟨I.ok,I.os,I.bare,⟨I.ae.keep,I.ae.slot,λb o q n x=>e b (I.ae.free b o q n x),I.ae.there,λb d q=>i b d (I.ae.dr b d q),λb o v q=>?_,λb ps q=>?_⟩,I.loc,I.cell,e _ I.free,λx c q=>e _ (I.bW x c q),λp m=>?_,λb v q=>?_,I.len⟩
 . rcases a b with h| ⟨l,_⟩
   . rw [h];exact I.ae.cY b o v q
   . exact (l.2.1 _ _ q).elim
 . rcases a b with h| ⟨l,_⟩
   . rw [h];exact I.ae.du b ps q
   . exact (l.2.2 _ q).elim
 . obtain ⟨r,t,w⟩:=I.pin p m;exact ⟨r,e _ t,w⟩
 . rcases a b with h| ⟨_,u,g,_,h,_,ok⟩
   . rw [h] at q;exact (I.aP b v q).aV (λ_ _ _ z=>z) (λc z=>j c _ z) i
   . rw [h] at q;cases q;exact ok.aV (λ_ _ _ z=>z) (λc z=>j c _ z) i
def iw (h:Heap) (c:Addr) (u:HO):HO:=match cU u,h.get? c with
 |true,some o=> .bd o u
 |_,_=>u
def ck (Hs H:Hp) (h:Heap):Hp:=λc=>match Hs c with
 |some u=>some u
 |none=>(H c).map (iw h c)
def Kept (X:Cx) (Hs H:Hp):Prop:= ∀c u,Hs c=some u->H c=some u\/ ∃o,cU u=true/\H c=some (.bd o u)/\W4 X c
def qy:am Hs (ck Hs H h):=λb u e=>by unfold ck;rw [e]
def xG (e:Hs b=none) (q:H b=some u) (n:cU u=false):ck Hs H h b=some u:=by
 unfold ck;rw [e,q];show some (iw h b u)=some u;unfold iw;rw [n]
def kZ (I:aq X Z Y H s) (q:H b=some u) (n:cU u=true): ∃o,s.heap.get? b=some o:=by
 have ok:=I.aP b u q
 cases u with
 |ag c=>exact let ⟨_,_,_,_,e⟩:=ok;⟨_,e⟩
 |dT a=>exact let ⟨_,_,_,_,_,_,_,e,_⟩:=ok;⟨_,e⟩
 |_=>cases n
def Xx (I:aq X Z Y H s) (q:H b=some u) (n:cU u=true):W4 X b:=by
 refine ⟨λa z=>?_,λo v z=>?_,λc z=>?_⟩
 . rw [I.ae.dr _ _ z] at q;cases q;cases n
 . rw [I.ae.cY _ _ _ z] at q;cases q;cases n
 . obtain ⟨m,e⟩:=I.ae.du _ _ z;rw [e] at q;cases q;cases n
def yO (I:aq X Z Y H s) (e:Hs b=none) (q:H b=some u) (n:cU u=true:=by rfl): ∃o,ck Hs H s.heap b=some (.bd o u):=by
 obtain ⟨o,a⟩:=kZ I q n;exact ⟨o,by unfold ck;rw [e,q];show some (iw _ b u)=_;unfold iw;rw [n,a]⟩
def aq.ck (I:aq X Z Y H s) (c:Kept X Hs H):aq X Z Y (ck Hs H s.heap) s:=by
 refine aq.re I λb=>?_
 cases e:Hs b with
 |some u=>
  rw [qy b u e];rcases c b u e with h| ⟨o,n,h,l⟩
  . exact .inl h.symm
  . exact .inr ⟨l,_,_,h,rfl,n,(I.aP b _ h).2⟩
 |none=>
  cases q:H b with
  |none=>exact .inl (by unfold M.ck;rw [e,q];rfl)
  |some u=>
    cases n:cU u with
    |true=>
     obtain ⟨o,a⟩:=kZ I q n;exact .inr ⟨Xx I q n,_,.bd o u,rfl,by unfold M.ck;rw [e,q];show some (iw _ b u)=_;unfold iw;rw [n,a],(by cases u<;>first|exact n|cases n),a,I.aP b _ q⟩
    |false=>exact .inl (xG e q n)
end
mutual
def aK:D->D
 | .ag a=> .aU (aW a)
 | .aU a=> .aU (aW a)
 | .ah a=> .ah (aW a)
 | .cv e a=> .cv e (aW a)
 | .cO e a=> .dz e (aW a)
 | .obj c g a=> .obj c g (aW a)
 |d=>d
def aW:List D->List D
 | []=>[]
 |d::a=>aK d::aW a
end
mutual
def eh:D->Bool
 | .ag a=>cP a
 | .aU a=>cP a
 | .ah a=>cP a
 | .cv _ a=>cP a
 | .cO _ a=>cP a
 | .obj _ _ a=>cP a
 | .eW _ _=>false
 | .dz _ _=>false
 | .cr _=>false
 |_=>true
def cP:List D->Bool
 | []=>true
 |d::a=>eh d&&cP a
end
section
variable {K:ay}
abbrev sA (H:Hp) (a:Addr):Prop:= ∀u,H a=some u->cU u=false
def ai.ms {A:Xc} {H H':Hp} {p:List V} {j:List D} (r:ai K A H p j) (m: ∀a u,A a->H a=some u->cU u=true-> ∃o,H' a=some (.bd o u)) (g: ∀a u,H a=some u->cU u=false->(∀o x,u= .bd o x->cU x=false)->H' a=some u) (L:cP j=true) (N:cG j=true):
   ai K (λa=>A a/\sA H a) H' p (aW j):=by
 have E: ∀ {A:Xc} {a:Addr} {H H':Hp} {p:List V} {j:List D},ai K (λc=>(A c/\c≠a)/\sA H c) H' p j->ai K (λc=>(A c/\sA H c)/\c≠a) H' p j:=λr=>r.az λ_ z=>⟨⟨z.1.1,z.2⟩,z.1.2⟩
 refine ai.rec (motive_1:=λA H v d _=>(∀a u,A a->H a=some u->cU u=true-> ∃o,H' a=some (.bd o u))->(∀a u,H a=some u->cU u=false->(∀o x,u= .bd o x->cU x=false)->H' a=some u)->eh d=true->eM d=true->aA K (λa=>A a/\sA H a) H' v (aK d))
   (motive_2:=λA H p j _=>(∀a u,A a->H a=some u->cU u=true-> ∃o,H' a=some (.bd o u))->(∀a u,H a=some u->cU u=false->(∀o x,u= .bd o x->cU x=false)->H' a=some u)->cP j=true->cG j=true->ai K (λa=>A a/\sA H a) H' p (aW j))
   ?_ ?_ ?_ ?_ ?_ ?_ ?_ ?_ ?_ ?_ ?_ ?_ ?_ ?_ ?_ ?_ ?_ r m g L N
 . exact λ_ _ _ _=> .aO
 . exact λb _ _ _ _=> .bl b
 . exact λi _ _ _ _=> .int i
 . exact λx h _ _ _ _=> .str x h
 . exact λe _ q m g b n=> .ah (g _ _ e rfl λ_ _ z=>by cases z) (q m g b n)
 . intro A H a Y j e t _ q m g b n;obtain ⟨o,I⟩:=m a _ t e rfl;exact .tx (.inl ⟨o,I⟩) ((q (λc w z=>m c w z.1) g b n).az λ_ z=>⟨z.1.1,z.2⟩)
 . exact λ_ _ _ _ _ _ n=>by cases n
 . intro A H a J p O j e t y B _ q m g b n;exact .cv (g _ _ e rfl λ_ _ z=>by cases z) ⟨t,λu z=>by rw [e] at z;cases z;rfl⟩ y B (E (q (λc w z=>m c w z.1) g b n))
 . intro A H a J p O j e t y B _ q m g b n;obtain ⟨o,I⟩:=m a _ t e rfl;exact .dz ⟨o,I⟩ y B (E (q (λc w z=>m c w z.1) g b n))
 . exact λe k l _ g _ _=> .di (g _ _ e rfl λ_ _ z=>by cases z;rfl) k l
 . exact λ_ _ _ _ _ _ _ b=>by cases b
 . exact λ_ _ _ _ _ _ _ b=>by cases b
 . intro A H a C dx fs p c ns j e t y B _ q m g b n;exact .obj (g _ _ e rfl λ_ _ z=>by cases z) ⟨t,λu z=>by rw [e] at z;cases z;rfl⟩ y B (E (q (λc w z=>m c w z.1) g b n))
 . exact λe t _ g _ _=> .mem (g _ _ e rfl λ_ _ z=>by cases z) ⟨t,λu z=>by rw [e] at z;cases z;rfl⟩
 . exact λ_ _ _ _ _ _ _ _ b=>by cases b
 . exact λ_ _ _ _=> .nil
 . intro A H v d p j _ _ Q U m g b n;simp only [cP,fw] at b;simp only [cG,fw] at n;exact .cons (Q m g b.1 n.1) (U m g b.2 n.2)
def aA.ms {A:Xc} {H H':Hp} {v:V} {d:D} (r:aA K A H v d) (c: ∀a u,A a->H a=some u->cU u=true-> ∃o,H' a=some (.bd o u)) (e: ∀a u,H a=some u->cU u=false->(∀o x,u= .bd o x->cU x=false)->H' a=some u) (g:eh d=true) (h:eM d=true):
  aA K (λa=>A a/\sA H a) H' v (aK d):=by
 have:=ai.ms (.cons r .nil) c e (by simp only [cP,g,Bool.and_self]) (by simp only [cG,h,Bool.and_self]);cases this;assumption
def ai.ny {A:Xc} {H q:Hp} {t:List V} {j:List D} (r:ai K A H t j) (h: ∀a u,H a=some u->(∀o x,u= .bd o x->cU x=false)->q a=some u) (n:cG j=true):ai K A q t j:=by
 refine ai.rec (motive_1:=λA H v d _=>(∀a u,H a=some u->(∀o x,u= .bd o x->cU x=false)->q a=some u)->eM d=true->aA K A q v d) (motive_2:=λA H t j _=>(∀a u,H a=some u->(∀o x,u= .bd o x->cU x=false)->q a=some u)->cG j=true->ai K A q t j)
   ?_ ?_ ?_ ?_ ?_ ?_ ?_ ?_ ?_ ?_ ?_ ?_ ?_ ?_ ?_ ?_ ?_ r h n
 . exact λ_ _=> .aO
 . exact λb _ _=> .bl b
 . exact λi _ _=> .int i
 . exact λx h _ _=> .str x h
 . exact λe _ c h n=> .ah (h _ _ e λ_ _ z=>by cases z) (c h n)
 . exact λe g _ c h n=> .ag (h _ _ e λ_ _ z=>by cases z) g (c h n)
 . exact λ_ _ _ _ n=>by cases n
 . exact λe g m p _ c h n=> .cv (h _ _ e λ_ _ z=>by cases z) g m p (c h n)
 . exact λe g m p _ c h n=> .cO (h _ _ e λ_ _ z=>by cases z) g m p (c h n)
 . exact λe k l h _=> .di (h _ _ e λ_ _ z=>by cases z;rfl) k l
 . intro A H a w t I j e m p _ c h n;refine .eW ?_ m p (c h n);rcases e with ⟨e,g⟩| ⟨y,e⟩
   . exact .inl ⟨h _ _ e (λ_ _ z=>by cases z),g⟩
   . exact .inr ⟨y,h _ _ e λ_ _ z=>by cases z;rfl⟩
 . exact λ_ _ _ _ _ _ n=>by cases n
 . exact λe g m p _ c h n=> .obj (h _ _ e λ_ _ z=>by cases z) g m p (c h n)
 . exact λe g h _=> .mem (h _ _ e λ_ _ z=>by cases z) g
 . exact λ_ _ _ _ _ _ _ n=>by cases n
 . exact λ_ _=> .nil
 . intro A H v d t j _ _ B E h n;simp only [cG,fw] at n;exact .cons (B h n.1) (E h n.2)
def aA.ny {A:Xc} {H c:Hp} {v:V} {d:D} (r:aA K A H v d) (h: ∀a u,H a=some u->(∀o x,u= .bd o x->cU x=false)->c a=some u) (n:eM d=true):aA K A c v d:=by
 have:=ai.ny (.cons r .nil) h (by simp only [cG,n,Bool.and_self]);cases this;assumption
end
def aA.rc {K:ay} {A:Xc} {H:Hp} {a:Addr} {d:D} (r:aA K A H (.ref a) d) (n:eM d=true): ∃u,H a=some u/\(∀c,u= .ag c->A a/\ ∃g,ai K A H c g/\cG g=true)/\(∀c,u= .ah c-> ∃g,ai K A H c g/\cG g=true)/\ ∀o c,u≠ .bd o (.ag c):=by
 cases r with
 |ah e r=>exact ⟨_,e,λ_ z=>(by cases z),λc z=>(by cases z;exact ⟨_,r,n⟩),λ_ _ z=>by cases z⟩
 |ag e h r=>exact ⟨_,e,λ_ z=>(by cases z;exact ⟨h,_,r.low,n⟩),λc z=>(by cases z),λ_ _ z=>by cases z⟩
 |tx e r=>cases n
 |cr _ _ _ _ _=>cases n
 |eW e _ _ r=>
  rcases e with ⟨e,_⟩| ⟨_,e⟩
  . exact ⟨_,e,λ_ z=>(by cases z),λc z=>(by cases z),λ_ _ z=>by cases z⟩
  . exact ⟨_,e,λ_ z=>(by cases z),λc z=>(by cases z),λ_ _ z=>by cases z⟩
 |dz _ _ _ _=>cases n
 |cv e _ _ _ _=>exact ⟨_,e,λ_ z=>(by cases z),λc z=>(by cases z),λ_ _ z=>by cases z⟩
 |cO e _ _ _ _=>exact ⟨_,e,λ_ z=>(by cases z),λc z=>(by cases z),λ_ _ z=>by cases z⟩
 |di e _ _=>exact ⟨_,e,λ_ z=>(by cases z),λc z=>(by cases z),λ_ _ z=>by cases z⟩
 |obj e _ _ _ _=>exact ⟨_,e,λ_ z=>(by cases z),λc z=>(by cases z),λ_ _ z=>by cases z⟩
 |mem e _=>exact ⟨_,e,λ_ z=>(by cases z),λc z=>(by cases z),λ_ _ z=>by cases z⟩
theorem ai.rf {K:ay} {A:Xc} {H:Hp} {x:V}: ∀ {a:List V} {c:List D},ai K A H a c->cG c=true->x∈a-> ∃d,aA K A H x d/\eM d=true
 | [],_,_,_,h=>by cases h
 |v::a,c,r,n,h=>by
  obtain ⟨d,j,rfl,g,i⟩:=r.c6;simp only [cG,fw] at n;rcases dP.mp h with e|e
  . subst e;exact ⟨d,g,n.1⟩
  . exact ai.rf i n.2 e
def sB (X:Cx) (c:Hp) (v:V) (H:Hp):Prop:= ∀a,v= .ref a->H a≠none/\ ∀o d,H a=some (.bd o (.ag d))->(c a=none/\W4 X a)/\ ∀t,V.ref t∈d->H t≠none/\ ∀e,H t=some (.ah e)-> ∀l,V.ref l∈e->H l≠none/\ ∀g h,H l=some (.bd g (.ag h))->c l=none/\W4 X l
section
variable {X:Cx} {pins:List (Addr×Obj)} {σ:L2.St} {H H' Hs:Hp} {s:aB} {v:V}
def sB.ap (g:sB X Hs v H) (sm:am H H'):sB X Hs v H':=by
 have back: ∀c u,H c≠none->H' c=some u->H c=some u:=λc u n e=>by
  cases q:H c with
  |none=>exact (n q).elim
  |some w=>rw [sm _ _ q] at e;exact e
 have aV: ∀c,H c≠none->H' c≠none:=λc n e=>n (am.free sm e)
 intro a j;obtain ⟨d,k⟩:=g a j;refine ⟨aV _ d,λo m e=>?_⟩;obtain ⟨p,r⟩:=k o m (back _ _ d e);refine ⟨p,λt y=>?_⟩;obtain ⟨h,z⟩:=r t y;refine ⟨aV _ h,λB e=>λl E=>?_⟩;obtain ⟨i,I⟩:=z B (back _ _ h e) l E;exact ⟨aV _ i,λJ L e=>I J L (back _ _ i e)⟩
def vc {A:Xc} {d:D} (I:aq X pins σ H s) (N:Kept X Hs H) (r:aA X.K A H v d) (n:eM d=true) (w: ∀c i,A c->H c=some (.ag i)->Hs c=none):sB X Hs v (ck Hs H s.heap):=by
 have g: ∀c u,H c=some u->ck Hs H s.heap c≠none:=λc u e z=>by
  cases q:Hs c with
  |some y=>rw [qy c y q] at z;cases z
  |none=>
   cases j:cU u with
   |true=>
     obtain ⟨o,h⟩:=yO I q e j;rw [h] at z;cases z
   |false=>rw [xG q e j] at z;cases z
 have k: ∀c u o i,H c=some u->(∀o i,u≠ .bd o (.ag i))->ck Hs H s.heap c=some (.bd o (.ag i))->Hs c=none/\u= .ag i:=λc u o i e O z=>by
  cases q:Hs c with
  |some y=>
   rw [qy c y q] at z;cases z;rcases N c _ q with h| ⟨_,h,_⟩
   . rw [e] at h;cases h;exact (O _ _ rfl).elim
   . cases h
  |none=>
   cases j:cU u with
   |true=>
     obtain ⟨p,h⟩:=yO I q e j;rw [h] at z;cases z;exact ⟨rfl,rfl⟩
   |false=>rw [xG q e j] at z;cases z;exact (O _ _ rfl).elim
 have B: ∀c u m,H c=some u->ck Hs H s.heap c=some (.ah m)->u= .ah m:=λc u m e z=>by
  cases q:Hs c with
  |some y=>
   rw [qy c y q] at z;cases z;rcases N c _ q with h| ⟨_,h,_⟩
   . rw [e] at h;cases h;rfl
   . cases h
  |none=>
   cases j:cU u with
   |true=>
     obtain ⟨p,h⟩:=yO I q e j;rw [h] at z;cases z
   |false=>rw [xG q e j] at z;cases z;rfl
 rintro a rfl;obtain ⟨u,e,Q,h2,U⟩:=r.rc n;refine ⟨g _ _ e,λo i z=>?_⟩;obtain ⟨q,rfl⟩:=k a u o i e U z;obtain ⟨ha,ds,Y,Z⟩:=Q _ rfl;refine ⟨⟨q,aq.mq I e⟩,λt ht=>?_⟩;obtain ⟨d1,r1,n1⟩:=ai.rf Y Z ht;obtain ⟨u1,e1,_,E,_⟩:=r1.rc n1;refine ⟨g _ _ e1,λm z1 l hl=>?_⟩;have:=B t u1 m e1 z1;subst this;obtain ⟨es,J,L⟩:=E _ rfl;obtain ⟨d2,r2,n2⟩:=ai.rf J L hl;obtain ⟨u2,e2,h4,_,h5⟩:=r2.rc n2;refine ⟨g _ _ e2,λp ys z2=>?_⟩;obtain ⟨q2,rfl⟩:=k l u2 p ys e2 h5 z2;exact ⟨q2,aq.mq I e2⟩
end
def IX (X:Cx) (i:Nat) (g:TF):TS:=λE h H=> ∃G j a d e c v o,ar X.K G j c h H/\am j e/\bt a d e c h H/\h[i]?=some (some v)/\sB X e v H/\g c= .ok o/\l0 X.K G j a d e E o
@[irreducible] def ez (X:Cx) (i:Nat) (st:List Stmt) (g:TF):Prop:=cb X st (IX X i g)
def IY (X:Cx) (t:TS):TS:=λE c H=> ∀a s,aq X a c H s-> ∃d,aq X a c d s/\t E c d
def cb.re {X:Cx} {st:List Stmt} {t:TS} (h:cb X st t):cb X st (IY X t):=λa s c H D I q=>let ⟨d,e,g⟩:=q a s I;h a s c d D e g
def bt.bd {env:Sl} {a:L2.St} {H c:Hp} {h:Heap} {i:Nat} {d:D} {v:V} (sm:am H c):bt env a H (env.set i (.ak d)) (a.set i (some v)) (ck c e h):=
 .set (sm.trans qy) λ_ _ z _=>by cases z
def lh (i j n:Nat) (F:TC) (g:TD) (g2:TF):Sl->ao bF:=λa=>g a>>=λc=>aS (c.length=n/\D.eX c=true) (F c)>>=λd=>match d with
 | .ah [x,y]=>aS (y.gA=true/\eh x=true/\eM x=true/\i<a.length) (g2 ((a.set i (.ak (aK x))).set j (.ak y)))
 |_=> .aj
section
variable {X:Cx} {CX:i0} {k:Nat} {x:Str} {fa:Addr} {fd:iK} {ps:List Str} {p pos bD r pa pb:Pos} {n kx i j:Nat} {F:TC} {E:XK} {g:TD} {g1 g2:TF} {fr:Bool} {e c0:Expr} {es:List Expr} {xa xb:Str} {rest body:List Stmt} {f:TJ}
def Av.lh (A:Av X.prog X.w X.K X.mg X.ae k x ps fr F) (i j:Nat) (hr:aH k X.A) (t:X.bG=true) (hN:X.N.Nodup) (w:DA X .s (e::es) g) (hR:ez X i rest g2) (B:i≠j:=by decide) (J:ps.length=n:=by rfl) (hg:Gl X x:=by rfl) (L:Yj x:=by decide)
   (he:T9 X e es:=by exact jn rfl) (N:T8 X bD es:=by exact jB rfl)
   (hi:X.N[i]?=some xa:=by rfl) (hx:Loc X.env.scope xa:=by exact dI rfl)
   (hf:T7 X xa:=by first|exact .inl rfl|exact .inr rfl|assumption)
   (hj:X.N[j]?=some xb:=by rfl) (O:Loc X.env.scope xb:=by exact dI rfl)
   (h:T7 X xb:=by first|exact .inl rfl|exact .inr rfl|assumption)
   (hs:(dh [.Name xa pa,.Name xb pb] X.env).map (·.2)=fT (.Name xa pa) X.env::(dh [.Name xb pb] X.env).map (·.2):=by rfl)
   (Q:(dh [.Name xb pb] X.env).map (·.2)=fT (.Name xb pb) X.env::(dh [] X.env).map (·.2):=by rfl)
   (U:(dh [.Name xa pa,.Name xb pb] X.env).length=2:=by rfl) (Y:(dh [.Name xa pa,.Name xb pb] X.env).findIdx? (·.1)=none:=by rfl)
   (Z:sO [.Tuple [.Name xa pa,.Name xb pb] kx r] (.Call (.Name x p) (e::es) [] bD) pos.line X.env=pure false:=by rfl) (hw:sP [.Tuple [.Name xa pa,.Name xb pb] kx r] (.Call (.Name x p) (e::es) [] bD) X.env=pure none:=by rfl)
   (h1:(dh [.Tuple [.Name xa pa,.Name xb pb] kx r] X.env).map (·.2)=[fT (.Tuple [.Name xa pa,.Name xb pb] kx r) X.env]:=by rfl):
   fU X (.Assign [.Tuple [.Name xa pa,.Name xb pb] kx r] (.Call (.Name x p) (e::es) [] bD) pos::rest) (M.lh i j n F g g2):=by
 subst J;obtain ⟨f,fd,G,hm,hk,hb⟩:=A.ex
 with_unfolding_all exact (
  cb.imp (qA (Xh (Wy G hr hg hm hk hb .nil Ux w L he N) (Xl t (zO (xL hN hi hx hf) (zO (xL hN hj O h) QQ Q) hs) U Y) Z hw h1) (cb.re hR)) λE σ H=>by
   rintro ⟨GG,H0,env,o,k,ef,q⟩;obtain ⟨ds,e1,e2⟩:=je ef;obtain ⟨d,e3,e4⟩:=je e2;obtain ⟨⟨J,AL⟩,e3⟩:=ju e3;refine ⟨GG,H0,env,ds,k,e1,λvs H1 s1 r1=>?_⟩;have IZ:ai X.K (λ_=>False) H1 vs ds:=r1.gA AL;refine ⟨λ_=>False,ds,d,?_,?_,e3,λv H2 s2 r2 _=>?_⟩
   . rw [lO,r1.length];exact J
   . rw [lO];exact IZ
   . split at e4
     . rename_i dx dy _;obtain ⟨⟨hy,h,l,I0⟩,e5⟩:=ju e4;obtain ⟨a,xs,rfl,w,rs⟩:=r2.cm;obtain ⟨v1,v2,rfl,ra,rb⟩:=rs.al;have sm:=s1.trans s2;refine ⟨a,_,rfl,.of w,rfl,v1,[v2],rfl,v2,[],rfl,rfl,λpins s I=>?_⟩;have kp:Kept X H H2:=λc u e=> .inl (sm c u e)
       have nw: ∀c,(H1 c=none\/False)->H c=none:=λc z=>am.free s1 (z.elim (λz=>z) hJ)
       have rz:=ra.ms (H':=ck H H2 s.heap) (λc xs z q n=>yO I (nw c z) q n) (λc u e n _=>by
        cases q:H c with
        |none=>exact xG q e n
        |some y=>rw [qy c y q,<-sm c y q];exact e) h l
       have k1:=(k.ap qy).en (i:=i) (rz.az λc z=>k.new c (nw c z.1))
       have Dp:=(aA.gA rb hy (A':=λ_=>False)).aV (H':=ck H H2 s.heap) (A':=Sf GG (env.set i (.ak (aK dx))) (σ.set i (some v1))) (λc u e m=>by
        cases q:H c with
        |none=>exact xG q e (by cases u<;>first|rfl|exact (m trivial).elim)
        |some y=>rw [qy c y q,<-sm c y q];exact e) (λ_ z=>z.elim)
       have k2:=k1.en (i:=j) Dp
       exact ⟨_,aq.ck I kp,GG,H0,env,σ,H,_,v1,o,k2,k.ae,(bt.bd (am.refl H)).trans (.set (am.refl _) λ_ _ z _=>by cases z),by
        rw [ji B.symm]
        exact lT (by rw [k.len];exact I0),vc I kp ra l (λc xs z _=>nw c z),e5,q⟩
     . cases e4)
end
section
variable {X:Cx} {p pos bD Q apos J I:Pos} {n u i j:Nat} {g:TD} {B g2:TF} {e l:Expr} {es:List Expr} {x L O:Str} {rest N:List Stmt} {f:TJ}
def ki {t:TH} (y:DT X l t) (z:fU X N B) (U:ez X i rest g2):ez X i (.If l N [] pos::rest) (AZ t B g2):=by
 with_unfolding_all exact (
  cb.imp (qA (Uq y z yt) U) λE σ H=>by
   rintro ⟨G,m,c,r,Y,a,v,o,k,Z,w,hv,gh,ef,q⟩;obtain ⟨b,e1,e2⟩:=je ef;refine ⟨G,m,a,b,k,e1,λH' s=>?_⟩
   cases b with
   |true=>
    rw [if_pos rfl] at e2 ⊢;obtain ⟨o1,e3,h⟩:=je e2
    cases o1 with
    |rt w d=>cases h;exact ⟨G,m,a,_,k.ap s,e3,q⟩
    |nx _=>cases h
    |bk _=>cases h
    |ct _=>cases h
   |false=>
    rw [if_neg lD] at e2 ⊢
    exact ⟨G,m,c,r,Y,a,v,o,k.ap s,Z,w.trans (bt.refl s),hv,gh.ap s,e2,q⟩)
def Dq (t:TH) (B:TF):Sl->ao bF:=λa=>t a>>=λb=>if b=true then B a else .ok (.nx a)
def Vy {t:TH} (w:DT X l t) (y:ez X i N B):ez X i [.If l N [] pos] (Dq t B):=by
 with_unfolding_all exact (
  cb.imp (qA (Uq w (cb.imp y λE h H z=>z) yt) yt) λE h H=>by
   rintro ⟨G,m,a,d,U,c,v,o,k,Y,r,Z,gh,ef,q⟩;obtain ⟨b,e1,e2⟩:=je ef;refine ⟨G,m,c,b,k,e1,λH' s=>?_⟩
   cases b with
   |true=>
    rw [if_pos rfl] at e2 ⊢;exact ⟨G,m,a,d,U,c,v,o,k.ap s,Y,r.trans (bt.refl s),Z,gh.ap s,e2,by cases o<;>exact q⟩
   |false=>
    rw [if_neg lD] at e2 ⊢;cases e2
    exact q h H' (k.ap s) (r.trans (bt.refl s)))
def Vx (j:Nat) (y:X.N.Nodup) (h:DE X .s e f) (U:ez X i rest g2) (c:j≠i:=by decide) (Y:X.N[j]?=some x:=by rfl) (Z:Loc X.env.scope x:=by exact dI rfl) (hs:gw e (some (.Name x J)) pos.line X.env=pure false:=by rfl)
   (hf:T7 X x:=by first|exact .inl rfl|exact .inr rfl|assumption):ez X i (.Assign [.Name x J] e pos::rest) (gR (jL j f) g2):=by
 with_unfolding_all exact (
  cb.imp (qA (ZE y Y Z h hs hf) U) λE σ H=>by
   rintro ⟨G,w,a,m,Hs,t,v,o,k,s0,fr,hv,gh,ef,q⟩;obtain ⟨o1,e1,e2⟩:=je ef;obtain ⟨d,e3,e4⟩:=je e1;cases e4
   exact ⟨G,w,t,d,k,e3,λv' H' s r _=>⟨G,w,a,m,Hs,_,v,o,(k.ap s).en r,s0,fr.trans (.set s λ_ _ z _=>by cases z),by rw [ji c];exact hv,gh.ap s,e2,q⟩⟩)
def kG (c h:Nat) (f:TJ) (g2:TF):Sl->ao bF:=λa=>f a>>=λd=>match d with
 | .ah [x,y]=>g2 ((a.set c (.ak x)).set h (.ak y))
 |_=> .aj
def Vz (c t:Nat) (Z:X.bG=true) (hN:X.N.Nodup) (h:DE X .s e f) (h2:ez X i rest g2) (Dr:c≠i:=by decide) (Ds:t≠i:=by decide)
   (hi:X.N[c]?=some L:=by rfl) (hx:Loc X.env.scope L:=by exact dI rfl)
   (hf:T7 X L:=by first|exact .inl rfl|exact .inr rfl|assumption)
   (hj:X.N[t]?=some O:=by rfl) (Dt:Loc X.env.scope O:=by exact dI rfl)
   (Du:T7 X O:=by first|exact .inl rfl|exact .inr rfl|assumption)
   (hs:(dh [.Name L J,.Name O I] X.env).map (·.2)=fT (.Name L J) X.env::(dh [.Name O I] X.env).map (·.2):=by rfl)
   (va:(dh [.Name O I] X.env).map (·.2)=fT (.Name O I) X.env::(dh [] X.env).map (·.2):=by rfl)
   (Dv:(dh [.Name L J,.Name O I] X.env).length=2:=by rfl) (oT:(dh [.Name L J,.Name O I] X.env).findIdx? (·.1)=none:=by rfl)
   (wp:sO [.Tuple [.Name L J,.Name O I] u Q] e pos.line X.env=pure false:=by rfl) (hw:sP [.Tuple [.Name L J,.Name O I] u Q] e X.env=pure none:=by rfl)
   (h1:(dh [.Tuple [.Name L J,.Name O I] u Q] X.env).map (·.2)=[fT (.Tuple [.Name L J,.Name O I] u Q) X.env]:=by rfl):
   ez X i (.Assign [.Tuple [.Name L J,.Name O I] u Q] e pos::rest) (kG c t f g2):=by
 with_unfolding_all exact (
  cb.imp (qA (Xh h (Xl Z (zO (xL hN hi hx hf) (zO (xL hN hj Dt Du) QQ va) hs) Dv oT) wp hw h1) h2) λE σ H=>by
   rintro ⟨G,H0,r,σs,Hs,m,v,o,k,s0,fr,hv,gh,ef,q⟩;obtain ⟨d,e1,e2⟩:=je ef;refine ⟨G,H0,m,d,k,e1,λw y U r1 _=>?_⟩
   split at e2
   . rename_i dx dy;obtain ⟨a,xs,rfl,ha,rs⟩:=r1.cm;obtain ⟨Y,v2,rfl,ra,rb⟩:=rs.al;refine ⟨a,_,rfl,.of ha,rfl,Y,[v2],rfl,v2,[],rfl,rfl,?_⟩;have k1:=(k.ap U).en (i:=c) ra;have f1:bt m σ H (m.set c (.ak dx)) (σ.set c (some Y)) y:= .set U λ_ _ z _=>by cases z
     have Dp:aA X.K (Sf G (m.set c (.ak dx)) (σ.set c (some Y))) y v2 dy:=(bt.set (s:= .ak dx) (i:=c) (v:=Y) (am.refl y) λ_ _ z _=>by cases z).rep (k.ap U) rb;exact ⟨G,H0,r,σs,Hs,_,v,o,k1.en (i:=t) Dp,s0,(fr.trans f1).trans (.set (am.refl y) λ_ _ z _=>by cases z),by rw [ji Ds,ji Dr];exact hv,gh.ap U,e2,q⟩
   . cases e2)
end
def wr:D->Bool
 | .ah (.int _::_)=>true
 |_=>false
def li:D->Bool
 | .ah [.ah _,.aU e]=>decide (e.length<=1000)&&e.all wr
 |_=>false
def fM:Slot->Bool
 | .un=>true
 | .ak d=>eM d
 | .av d=>eM d
def xQ (i c d:Nat) (a:Sl):Sl:=((a.set i .un).set c .un).set d .un
def dX (i d c:Nat) (g2:TF):Sl->ao bF:=λa=>match a[i]? with
 |some (.ak (.aU e))=>aS (e.length<=1000/\e.all li=true/\(xQ i d c a).all fM=true/\c<a.length) (g2 (xQ i d c a))
 |_=> .aj
def UM {g2:TF} (h:dX i g d g2 a= .ok o): ∃c,a[i]?=some (.ak (.aU c))/\c.length<=1000/\c.all li=true/\(xQ i g d a).all fM=true/\d<a.length/\g2 (xQ i g d a)= .ok o:=by
 unfold dX at h
 split at h
 . rename_i c e;obtain ⟨⟨j,k,l,m⟩,n⟩:=ju h;exact ⟨c,e,j,k,l,m,n⟩
 . cases h
def xc {i d g q:Nat} {c:Sl} {w:Slot} (h:(xQ i d g c)[q]?=some w) (n:w≠ .un):q≠i/\q≠d/\q≠g/\c[q]?=some w:=by
 unfold xQ at h
 have a: ∀ {l:Sl} {j:Nat},(l.set j .un)[q]?=some w->q≠j/\l[q]?=some w:=λ{l j} h=>by
  by_cases e:j=q
  . subst e;obtain ⟨z,_⟩:=jp h;exact (n z).elim
  . rw [ji e] at h;exact ⟨λz=>e z.symm,h⟩
 obtain ⟨k,h⟩:=a h;obtain ⟨m,h⟩:=a h;obtain ⟨o,h⟩:=a h;exact ⟨o,m,k,h⟩
def Bx (X:Cx) (a H:Hp) (c:Addr):Prop:=(a c=none/\W4 X c)/\ ∃o d,H c=some (.bd o (.ag d))
def lj (X:Cx) (e H:Hp) (n:Nat) (a:Hp):Prop:= ∀c,a c=H c\/(Bx X e H c/\ ∃d,a c=some (.ag d)/\d.length<=n)
section
variable {X:Cx} {pins:List (Addr×Obj)} {σ y:L2.St} {H H' Hs H0:Hp} {s:aB} {G:Xc} {env envs:Sl} {σs:L2.St}
def lj.keep (h:lj X Hs H n H') (e:H c=some u) (a: ∀o d,u≠ .bd o (.ag d)):H' c=some u:=by
 rcases h c with z| ⟨⟨_,o,g,q⟩,_⟩
 . rw [z];exact e
 . rw [e] at q;cases q;exact (a _ _ rfl).elim
def lj.app (h:lj X Hs H n H') (b:Bx X Hs H l) (e:zs.length<=m) (a:n<=m):lj X Hs H m (aJ H' l (.ag zs)):=λc=>by
 by_cases z:c=l
 . subst z;exact .inr ⟨b,zs,jr,e⟩
 . rw [jF z];rcases h c with q| ⟨q,d,g,i⟩
   . exact .inl q
   . exact .inr ⟨q,d,g,dE i a⟩
def lj.ws (I:aq X pins y H' s) (h:lj X Hs H n H') (b:Bx X Hs H l) (g: ∀o d,H l=some (.bd o (.ag d))->d.length<=n): ∃a,aq X pins y (aJ H' l (.ag a)) s/\lj X Hs H n (aJ H' l (.ag a))/\a.length<=n:=by
 obtain ⟨⟨m,i⟩,o,d,e⟩:=id b;rcases h l with q| ⟨_,a,q,j⟩
 . rw [e] at q;have ok:=(I.aP l _ q).2
   have k:aq X pins y (aJ H' l (.ag d)) s:=aq.re I λc=>by
    by_cases z:c=l
    . subst z;exact .inr ⟨i,_,_,q,jr,rfl,ok⟩
    . exact .inl (jF z)
   exact ⟨d,k,h.app b (g _ _ e) (a9 _),g _ _ e⟩
 . have e2:aJ H' l (.ag a)=H':=by
    funext c
    by_cases z:c=l
    . subst z;rw [jr];exact q.symm
    . rw [jF z]
   exact ⟨a,by rw [e2];exact I,by rw [e2];exact h,j⟩
def Top.ny {K:ay} {A:Xc} {a:Addr} {d:D} (t:Top K A H a d) (h: ∀a u,H a=some u->(∀o x,u= .bd o x->cU x=false)->H' a=some u) (n:eM d=true):Top K A H' a d:=by
 cases t with
 |ag e r=>exact .ag (h _ _ e λ_ _ z=>by cases z) (r.ny h n)
 |cv e c g r=>exact .cv (h _ _ e λ_ _ z=>by cases z) c g (r.ny h n)
 |cO e c g r=>exact .cO (h _ _ e λ_ _ z=>by cases z) c g (r.ny h n)
 |obj e c g r=>exact .obj (h _ _ e λ_ _ z=>by cases z) c g (r.ny h n)
 |cr e c g r=>cases n
def Top.az {K:ay} {A c:Xc} {a:Addr} {d:D} (t:Top K A H a d) (w: ∀b,A b->c b):Top K c H a d:=t.aV (λ_ _ e _=>e) w λ_ e=>e
def ar.forget (k:ar X.K G H0 env σ H) (Z:am H0 Hs) (J:bt envs σs Hs env σ H) (L:lj X Hs H n H') (hl:y.length=σ.length) (B: ∀q,q≠i->q≠p->q≠r->y[q]?=σ[q]?) (hn:(xQ i p r env).all fM=true):
   ar X.K G H0 (xQ i p r env) y H'/\bt envs σs Hs (xQ i p r env) y H':=by
 have av: ∀c,jQ (xQ i p r env) y c->jQ env σ c:=λc ⟨q,d,N,I⟩=>by
   obtain ⟨j,l,m,g⟩:=xc N (λz=>by cases z);rw [B q j l m] at I;exact ⟨q,d,g,I⟩
 have kp: ∀c u,Hs c=some u->H c=some u->H' c=some u:=λc u e e2=>by
   rcases L c with z| ⟨⟨⟨z,_⟩,_⟩,_⟩
   . rw [z];exact e2
   . rw [z] at e;cases e
 have Q: ∀a u,H a=some u->(∀o x,u= .bd o x->cU x=false)->H' a=some u:=λa u e n=>L.keep e λo xs z=>nomatch n o _ z
 have w: ∀c,Sf G env σ c->Sf G (xQ i p r env) y c:=λc z=>⟨λo=>z.1 (av c o),z.2⟩
 have U: ∀q d,(xQ i p r env)[q]?=some d->fM d=true:=λq d h=>eD.mp hn d (g9 h)
 refine ⟨⟨by rw [hl,k.len];simp [xQ],λc u e=>kp c u (Z c u e) (k.ae c u e),k.g0,λq d h=>?_,λq d h=>?_,λq Y d d' a N I g t=>?_⟩,λb o e nb=>kp b o e (J.keep b o e nb),λb o=>J.more b (av b o),λb e=>?_⟩
 . obtain ⟨j,l,m,g⟩:=xc h (λz=>by cases z);obtain ⟨v,t,E⟩:=k.ak q d g;exact ⟨v,by rw [B q j l m];exact t,(E.ny Q (U q _ h)).az w⟩
 . obtain ⟨j,l,m,g⟩:=xc h (λz=>by cases z);obtain ⟨a,t,E,O⟩:=k.av q d g;exact ⟨a,by rw [B q j l m];exact t,E,(O.ny Q (U q _ h)).az w⟩
 . obtain ⟨j,l,m,E⟩:=xc N (λz=>by cases z);obtain ⟨m1,m2,m3,O⟩:=xc I (λz=>by cases z);rw [B q j l m] at g;rw [B Y m1 m2 m3] at t;exact k.lZ q Y d d' a E O g t
 . refine J.size b ?_;rcases L b with z| ⟨_,zs,z,_⟩
   . rw [<-z];exact e
   . rw [z] at e;cases e
end
section
variable {X:Cx} {pins:List (Addr×Obj)} {σ:L2.St} {H Hs:Hp} {s:aB} {A:Xc} {ds:List D} {v:V} {a:Addr} {xs:List V}
def aq.JH (I:aq X pins σ H s) (h:X.K.lookup a=some o):H a=none:=
 have c:=I.ok.mod.oD a o h
 I.ae.free a o (I.ok.bs a o c).1 (I.ok.bs a o c).2 (I.ok.fF a o c)
def K0 (I:aq X pins σ H s) (h:lY X.K H a xs) (n:H a≠none): ∃o,H a=some (.bd o (.ag xs)):=by
 rcases h with h| ⟨o,_,_,h,_⟩
 . exact h
 . exact (n (aq.JH I h)).elim
def vK (I:aq X pins σ H s) (O:sB X Hs v H) (r:aA X.K A H v (.aU ds)) (Q:ds.all li=true): ∃(a:Addr) (xs:List V) (o:Obj),v= .ref a/\H a=some (.bd o (.ag xs))/\Bx X Hs H a/\xs.length=ds.length/\
   ∀(q:Nat) (x:V),xs[q]?=some x-> ∃t h l j g,x= .ref t/\H t=some (.ah [h,.ref l])/\H l=some (.bd j (.ag g))/\g.length<=1000/\Bx X Hs H l/\l≠a:=by
 obtain ⟨a,xs,rfl,U,N⟩:=r.fH;obtain ⟨Y,Z⟩:=O a rfl;obtain ⟨o,n⟩:=K0 I U Y;obtain ⟨gc,gd⟩:=Z o xs n;refine ⟨a,xs,o,rfl,n,⟨gc,o,xs,n⟩,N.length,λq x p=>?_⟩;obtain ⟨d,hd,rd⟩:=N.get' p;have i:=eD.mp Q d (g9 hd);unfold li at i
 split at i
 . rename_i hh e;simp only [fw,decide_eq_true_eq] at i;obtain ⟨t,vs,rfl,u,rv⟩:=rd.cm;obtain ⟨v1,v2,rfl,r1,r2⟩:=rv.al;obtain ⟨l,g,rfl,w,k⟩:=r2.fH;obtain ⟨ge,gf⟩:=gd t (g9 p);obtain ⟨gg,gi⟩:=gf _ u l (by simp);obtain ⟨j,c⟩:=K0 I w gg;refine ⟨t,v1,l,j,g,rfl,u,c,by rw [k.length];exact i.1,⟨gi j g c,j,g,c⟩,?_⟩;rintro rfl;rw [n] at c;cases c;obtain ⟨d2,y,B⟩:=k.get' p;have E:=eD.mp i.2 d2 (g9 y);unfold wr at E
   split at E
   . obtain ⟨t',JI,e',m,J⟩:=B.cm;cases e';rw [u] at m;cases m;obtain ⟨v',M6,L,r',_⟩:=J.oJ;cases L;cases r'.cc;obtain ⟨_,_,z,_⟩:=r1.cm;cases z
   . cases E
 . cases i
end
section
variable {X:Cx} {p p2 p3 pos wF wH bD d sY apos mu pa pb wW ic sC:Pos} {kx i j1 j2:Nat} {g2:TF} {x xa xb:Str} {rest:List Stmt} {k k3:Int}
def XL (i j1 j2:Nat) (hp:PassesOwn (model X.prog X.w) X.A X.env X.xe) (Fi:X.bG=true) (hN:X.N.Nodup) (h2:fU X rest g2) (Dr:j1≠i:=by decide) (Ds:j2≠i:=by decide)
   (Fj:X.N[i]?=some x:=by rfl) (Fk:gJ X.env.scope x:=by exact eK rfl)
   (hi:X.N[j1]?=some xa:=by rfl) (hx:Loc X.env.scope xa:=by exact dI rfl)
   (hf:T7 X xa:=by first|exact .inl rfl|exact .inr rfl|assumption)
   (hj:X.N[j2]?=some xb:=by rfl) (Dt:Loc X.env.scope xb:=by exact dI rfl) (JV:gJ X.env.scope xb:=by exact eK rfl)
   (Du:T7 X xb:=by first|exact .inl rfl|exact .inr rfl|assumption)
   (hs:(dh [.Name xa pa,.Name xb pb] X.env).map (·.2)=fT (.Name xa pa) X.env::(dh [.Name xb pb] X.env).map (·.2):=by rfl)
   (va:(dh [.Name xb pb] X.env).map (·.2)=fT (.Name xb pb) X.env::(dh [] X.env).map (·.2):=by rfl)
   (Dv:(dh [.Name xa pa,.Name xb pb] X.env).length=2:=by rfl) (oT:(dh [.Name xa pa,.Name xb pb] X.env).findIdx? (·.1)=none:=by rfl)
   (hd:Yj x:=by decide) (px:Yi x:=by decide)
   (Df:Yj xb:=by decide) (Dw:Yi xb:=by decide)
   (J: ∀z,m9 (.Name x p) X.env z=pure z:=by intro _;rfl)
   (L:ng (.Name xb wW) "append" X.env (eval (.Name xb wW) X.env)=eval (.Name xb wW) X.env:=by rfl)
   (n:ng (.Name x p3) "append" X.env (eval (.Name x p3) X.env)=eval (.Name x p3) X.env:=by rfl)
   (Dy:((dO bD (bp [.Constant (.int k) jc ic] X.env)).all (λx=>!x.1)&&(lF bD (lG [] X.env)).all (λx=>x.1.isSome)
     &&decide ([Expr.Constant (.int k) jc ic].length+([]:List hB).length+(if ([]:List hB).isEmpty then 0 else 1)<30))=true:=by exact yc rfl rfl)
   (N:((dO d (bp [.Constant (.int k3) j sC] X.env)).all (λx=>!x.1)&&(lF d (lG [] X.env)).all (λx=>x.1.isSome)
     &&decide ([Expr.Constant (.int k3) j sC].length+([]:List hB).length+(if ([]:List hB).isEmpty then 0 else 1)<30))=true:=by exact yc rfl rfl)
   (O:(apos.endLine==bD.line)=true:=by rfl) (r:(mu.endLine==d.line)=true:=by rfl)
   (u:bp [.Constant (.int k) jc ic] X.env=(false,eval (.Constant (.int k) jc ic) X.env)::bp [] X.env:=by exact jn rfl) (BN:(dO bD (bp [] X.env)).any (·.1)=false:=by exact jB rfl)
   (y:bp [.Constant (.int k3) j sC] X.env=(false,eval (.Constant (.int k3) j sC) X.env)::bp [] X.env:=by exact jn rfl) (Dz:(dO d (bp [] X.env)).any (·.1)=false:=by exact jB rfl)
   (wp:gw (.Call (.Attribute (.Name xb wW) "append" apos) [.Constant (.int k) jc ic] [] bD) none wF.line X.env=pure false:=by rfl)
   (DB:gw (.Call (.Attribute (.Name x p3) "append" mu) [.Constant (.int k3) j sC] [] d) none wH.line X.env=pure false:=by rfl):
   ez X i (.For (.Tuple [.Name xa pa,.Name xb pb] kx sY) (.Name x p) [.Expr (.Call (.Attribute (.Name xb wW) "append" apos) [.Constant (.int k) jc ic] [] bD) wF] [] pos::
     .Expr (.Call (.Attribute (.Name x p3) "append" mu) [.Constant (.int k3) j sC] [] d) wH::rest) (dX i j1 j2 g2):=by
 have hz:3000<aR:=by rw [nK];decide
 with_unfolding_all exact (
  cb.imp (cb.re (qA (kP hp Fi (vX (wx Fj Fk hd px)) (Xl Fi (zO (xL hN hi hx hf) (zO (xL hN hj Dt Du) QQ va) hs) Dv oT)
   (cb.re (qA (QN (Uw AI AB B6 xX (wx hj JV Df Dw) (qc Kv wa u) L Dy O u BN) wp) yt)) J)
   (cb.re (qA (QN (Uw AI AB B6 xX (wx Fj Fk hd px) (qc Kv wa y) n N r y Dz) DB) h2)))) λE σ H ⟨G,H0,envs,σs,Hs,env,v,o,kk,s0,fr,hv,gh,ef,q⟩=>λB s I=>⟨H,I,by
   obtain ⟨ds,he,hlen,DC,De,JX,e2⟩:=UM ef;obtain ⟨v',Fl,rv⟩:=kk.ak i _ he;rw [hv] at Fl;cases Fl;obtain ⟨a,g,oA,rfl,ha,bA,M7,row⟩:=vK I gh rv DC;refine ⟨.ref a,hv,a,rfl,⟨g,.inl (.inr ⟨oA,ha⟩)⟩,λq m Q H'=>m=g.length-q/\q<=g.length/\Q.length=σ.length/\(∀z,z≠j1->z≠j2->Q[z]?=σ[z]?)/\lj X Hs H (1000+q) H'/\H' a=H a,⟨g.length,rfl,eQ _,rfl,λ_ _ _=>rfl,λc=> .inl rfl,rfl⟩,?_⟩;rintro q m Q H' ⟨rfl,hq,U,Y,ch,ea⟩;have sq:dg X.K H' a g:= .inl (.inr ⟨oA,by rw [ea];exact ha⟩)
   by_cases hd:q<g.length
   . refine .inr ⟨⟨g,g[q],sq,by simp [hd]⟩,λZ H2=>g.length-(q+1)=g.length-(q+1)/\q+1<=g.length/\Z.length=σ.length/\(∀z,z≠j1->z≠j2->Z[z]?=σ[z]?)/\lj X Hs H (1000+(q+1)) H2/\H2 a=H a,λZ H2 z=>⟨g.length-(q+1),by omega,z⟩,?_⟩;rintro w H2 ⟨rfl,hw⟩;obtain ⟨t,h,l,o',ys,rfl,ht,La,hy,bl,la⟩:=row q w (hw g sq);have CH:=ch.keep ht (λ_ _ z=>by cases z);refine ⟨t,[h,.ref l],rfl,.of CH,rfl,h,[.ref l],rfl,.ref l,[],rfl,rfl,λB s I=>?_⟩;obtain ⟨zs,I2,DD,Lb⟩:=lj.ws I ch bl (λo Lc z=>by rw [La] at z;cases z;omega);refine ⟨_,I2,.ref l,lT (by rw [pC,U,kk.len];exact JX),.inl ⟨rfl,zs,.of jr⟩,l,zs,.int k,rfl,rfl,jr,by omega,rfl,hd,by rw [pC,pC];exact U,λz z1 z2=>?_,DD.app bl (by rw [dH];simp;omega) (by omega),?_⟩
     . rw [ji (λe=>z2 e.symm),ji (λe=>z1 e.symm)];exact Y z z1 z2
     . rw [jF (λe=>la e.symm),jF (λe=>la e.symm)];exact ea
   . refine .inl ⟨⟨g,sq,by omega⟩,λB s I=>?_⟩;obtain ⟨zs,I2,DD,Lb⟩:=lj.ws I ch bA (λo Lc z=>by rw [ha] at z;cases z;omega);refine ⟨_,I2,.ref a,by rw [Y i Dr.symm Ds.symm];exact hv,.inl ⟨rfl,zs,.of jr⟩,a,zs,.int k3,rfl,rfl,jr,by omega,?_⟩;have fin:=kk.forget s0 fr (DD.app (zs:=zs++[.int k3]) (m:=1000+q+1) bA (by rw [dH];simp;omega) (by omega)) U (λz _ z1 z2=>Y z z1 z2) De
     exact ⟨G,H0,_,o,fin.1,e2,yI fin.2 (by cases o<;>exact q)⟩⟩)
end
def ix (i:Nat) (c m:Str) (n:Nat) (F:TC) (j:TJ) (g2:TF):Sl->ao bF:=λa=>j a>>=λo=>match o with
 | .obj e g h=>aS (e=c/\g.contains m=false/\n=1/\eh (.obj e g h)=true/\eM (.obj e g h)=true) (F [aK (.obj e g h)])>>=λd=>aS (eh d=true/\eM d=true/\i<a.length) (g2 (a.set i (.ak (aK d))))
 |_=> .aj
def Uz {g2:TF} {F:TC} {j:TJ} {c m:Str} (h:ix i c m n F j g2 a= .ok o): ∃e g d,j a= .ok (.obj c e g)/\e.contains m=false/\n=1/\eh (.obj c e g)=true/\eM (.obj c e g)=true/\F [aK (.obj c e g)]= .ok d/\(eh d=true/\eM d=true/\i<a.length)/\g2 (a.set i (.ak (aK d)))= .ok o:=by
 obtain ⟨ob,k,h⟩:=je h
 cases ob with
 |obj y e g=>
  obtain ⟨d,l,p⟩:=je h;obtain ⟨⟨e1,e2,q,r,t⟩,u⟩:=ju l;obtain ⟨v,w⟩:=ju p;subst e1;exact ⟨e,g,d,k,e2,q,r,t,u,v,w⟩
 |_=>cases h
section
variable {X:Cx} {k n:Nat} {c m:Str} {ps:List Str} {fr:Bool} {F:TC} {o:Expr} {pos apos t pa:Pos} {fo:TJ} {g2:TF} {pl:Sem Bool} {rest:List Stmt} {x:Str}
def hH.Fm (A:hH X.prog X.w X.K X.mg X.ae k c m ps fr F) (hr:aH k X.A) (ho:DE X .s o fo)
   (ht:eval (.Call (.Attribute o m apos) [] [] t) X.env=(do
    let ov<-eval o X.env
    nI apos.atName
    let (f,first)<-iW [ov] (getMethod ov m pl)
    callWith t f first (dO t (bp [] X.env)) (lF t (lG [] X.env))):=by rfl):PE X (.Call (.Attribute o m apos) [] [] t) (λr H Q=> ∃G N env d ns p,ar X.K G N env r H/\fo env= .ok (.obj c ns p)/\ns.contains m=false/\ps.length=1/\eh (.obj c ns p)=true/\eM (.obj c ns p)=true/\F [aK (.obj c ns p)]= .ok d/\
    ∀v g j A,am H g->Kept X g j->aA X.K A j v d->(∀b u,j b=some u->cU u=true->g b=none)->(∀b,A b->Sf G env r b)->Q v j):=by
 obtain ⟨C,f,fd,h1,O,h3,h4,h5⟩:=A.ex
 with_unfolding_all exact (by
 rintro w s r H Q I ⟨GG,N,env,d,ns,p,kk,e1,e2,e3,e4,U,e5,q⟩;refine PySem.W.methodCall_KW (bn ((show PE X o (tE X.K .s fo) from ho) w s r H (λv g=>am H g/\aA X.K (Sf GG env r) g v (.obj c ns p)) I ⟨GG,N,env,_,kk,e1,λv H' s' r' _=>⟨s',r'⟩⟩) λu s1 Y=>?_) ht;obtain ⟨x,g,l,rx,B,r1⟩:=Y;have r0:=r1;obtain ⟨a,C',dx,fs,rfl,hx,_,hc,hn,rs⟩:=r1.objE;rw [O] at hc;cases hc;obtain rfl:u=bP a:=rx;refine YN l hx h3 h4 (ZR (by rw [hn];exact e2)) ?_;have Z:Kept X (λ_=>none) g:=λ_ _ z=>by cases z
 have Ld:=aq.ck l Z;have rz:=r0.ms (H':=ck (λ_=>none) g s1.heap) (λc xs z q n=>yO l rfl q n) (λc u e n _=>xG rfl e n) e4 U;refine PySem.W.callWith_K0 (first:=[.ref a]) l.dD h4.kp (kN (us:=[.ref a]) (vs:=[.ref a]) (E:=λ_ _ _=>False) h1 hr h5 .nil Ux Ld (.cons rfl .nil) ?_);refine ⟨_,[_],d,by simp [e3],.cons rz .nil,e5,λv j s3 r3 _=>?_⟩
 have J: ∀b u,g b=some u->cU u=true-> ∃o,j b=some (.bd o u):=λb u e n=>by
   obtain ⟨o,h⟩:=yO (Hs:=λ_=>none) l rfl e n;exact ⟨o,s3 _ _ h⟩
 have L: ∀b u,g b=some u->cU u=false->j b=some u:=λb u e n=>s3 _ _ (xG (Hs:=λ_=>none) rfl e n)
 have aO: ∀b,ck (λ_=>none) g s1.heap b=none->g b=none:=λb z=>by
   cases q:g b with
   |none=>rfl
   |some u=>
    cases i:cU u with
    |true=>
     obtain ⟨o,h⟩:=yO (Hs:=λ_=>none) l rfl q i;rw [h] at z;cases z
    |false=>rw [xG (Hs:=λ_=>none) rfl q i] at z;cases z
 refine q v g j _ B (λb u e=>?_) r3 (λb u e n=>?_) (λb z=>z.elim (λz=>kk.new b (am.free B (aO b z))) λz=>z.1)
 . cases i:cU u with
   |true=>
    obtain ⟨o,h⟩:=J b u e i;exact .inr ⟨o,rfl,h,Xx l e i⟩
   |false=>exact .inl (L b u e i)
 . cases q:g b with
   |none=>rfl
   |some y=>
    cases i:cU y with
    |true=>
     obtain ⟨o,h⟩:=J b y q i;rw [h] at e;cases e;cases n
    |false=>rw [L b y q i] at e;cases e;rw [i] at n;cases n)
def hH.ix (A:hH X.prog X.w X.K X.mg X.ae k c m ps fr F) (i:Nat) (L:aH k X.A) (N:X.N.Nodup) (O:DE X .s o fo) (hR:ez X i rest g2) (Q:ps.length=n:=by rfl) (U:X.N[i]?=some x:=by rfl) (Y:Loc X.env.scope x:=by exact dI rfl)
  (Z:gw (.Call (.Attribute o m apos) [] [] t) (some (.Name x pa)) pos.line X.env=pure false:=by rfl)
  (hf:T7 X x:=by first|exact .inl rfl|exact .inr rfl|assumption)
  (ht:eval (.Call (.Attribute o m apos) [] [] t) X.env=(do
   let j<-eval o X.env
   nI apos.atName
   let (f,first)<-iW [j] (getMethod j m pl)
   callWith t f first (dO t (bp [] X.env)) (lF t (lG [] X.env))):=by rfl):fU X (.Assign [.Name x pa] (.Call (.Attribute o m apos) [] [] t) pos::rest) (M.ix i c m n F fo g2):=by
 subst Q;have pe:=A.Fm L O ht
 with_unfolding_all exact (
 cb.imp (qA (ZE N U Y pe Z hf) (cb.re hR)) λE σ H=>by
  rintro ⟨G,l,env,o,k,ef,q⟩;obtain ⟨ns,vs,d,e1,e2,e3,e4,g,e5,⟨e6,p,e8⟩,e9⟩:=Uz ef;refine ⟨G,l,env,d,ns,vs,k,e1,e2,e3,e4,g,e5,λv a H3 A sm kp r nw wA=>λw s I=>?_⟩
  have rz:=r.ms (H':=ck a H3 s.heap) (λc B z q n=>yO I (nw c B q n) q n) (λc u e n n2=>by
   cases q:a c with
   |none=>exact xG q e n
   |some y=>
    rw [qy c y q];rcases kp c y q with h| ⟨o,J,h,_⟩
    . rw [e] at h;exact h.symm▸rfl
    . rw [e] at h;cases h;rw [n2 _ _ rfl] at J;cases J) e6 p
  have k1:=(k.ap (sm.trans qy)).en (i:=i) (rz.az λc z=>wA c z.1)
  exact ⟨_,aq.ck I kp,G,l,env,σ,a,_,v,o,k1,k.ae.trans sm,bt.bd (am.refl a),lT (by rw [k.len];exact e8),vc I kp r p (λc B _ q=>nw c _ q rfl),e9,yI (bt.refl sm) q⟩)
end
def rg (i:Nat) (g:TF):Sl->ao bF:=λa=>g (a.set i .un)
def u0 {X:Cx} {st:List Stmt} {g:TF} (i:Nat) (h:fU X st g):fU X st (rg i g):=by
 with_unfolding_all exact (cb.imp h λE l H ⟨G,d,c,o,k,j,q⟩=>⟨G,d,c.set i .un,o,k.drop,j,yI ⟨λ_ _ e _=>e,λa z=> .inl (Xn z),λ_ e=>e⟩ q⟩)
mutual
def toPy:D->Option PyData
 | .aO=>some .none
 | .bl b=>some (.bool b)
 | .int i=>some (.int i)
 | .str x=>some (.str x)
 | .ah a=>(dc a).map .tuple
 | .ag a=>(dc a).map .list
 | .aU a=>(dc a).map .list
 | .cv [] []=>some (.dict [])
 |_=>none
def dc:List D->Option (List PyData)
 | []=>some []
 |d::a=>(toPy d).bind λx=>(dc a).map λc=>x::c
end
section
variable {P:bI} {w:World} {h:Heap}
def oV (P:bI) (w:World) (h:Heap) (u:Value) (p:PyData):Prop:= ∃a bs,Reads h u p a/\ReadAtMost h p.depth bs/\ReprK P w bs h p.depth u p.shown
def gS (P:bI) (w:World) (h:Heap) (c:List Value) (a:List PyData):Prop:= ∃d bs,ReadsAll h c a d/\ReadAtMost h (wX a) bs/\ReprAllK P w bs h (wX a) c (A9 a)
def oV.list (d:h.get? a=some o) (g:o.cls= .type "list") (j:o.data= .seq c n) (s:gS P w h c.toList ps):oV P w h (.ref a) (.list ps):=by
 obtain ⟨q,bs,r,p,k⟩:=s;have m:Reads h (.ref a) (.list ps) _:= .list d g j r;refine ⟨_,a::bs,m,.cons m (by simp only [ln];omega) p,?_⟩;simp only [ln,nz];obtain ⟨l⟩:=c
 cases l with
 |nil=>cases r;simp only [A9,listText_nil];exact .listEmpty d g j
 |cons x l=>exact .list d g j (Ba m (by simp only [ln];omega) p) (by simpa using k.length_eq) λi y e=>k.item i y (by simpa using e)
def oV.tuple (e:h.get? a=some o) (g:o.cls= .type "tuple") (i:o.data= .seq c n) (s:gS P w h c.toList ps):oV P w h (.ref a) (.tuple ps):=by
 obtain ⟨l,bs,r,j,k⟩:=s;have d:Reads h (.ref a) (.tuple ps) _:= .tuple e g i r;refine ⟨_,a::bs,d,.cons d (by simp only [ln];omega) j,?_⟩;simp only [ln,nz];exact .tuple e g i (Ba d (by simp only [ln];omega) j) k
def Wt (d:h.get? a=some o) (e:o.cls= .type "dict") (g:o.data= .dict i n) (c:i.toList=[]):Reads h (.ref a) (.dict []) [a]:=
 .dict (kvs:=[]) (as:=[]) (bs:=[]) d e g (by rw [c];exact .nil) (by rw [c];exact .nil)
def oV.dict (c:h.get? a=some o) (e:o.cls= .type "dict") (g:o.data= .dict k n) (i:k.toList=[]) (l:(a==m4)=false):oV P w h (.ref a) (.dict []):=by
 have j:=Wt c e g i;refine ⟨_,[a],j,λb m=>?_,?_⟩
 . have:=ir.mp m;subst this;exact ⟨_,_,j,a9 _⟩
 . have:=ReprK.dict (prog:=P) (w:=w) (as:=[]) (d:=0) (ps:=[]) c e g l (by simp) (by rw [i];exact .nil);simp only [ln,PyData.depthKv,nz,PyData.shownKv];exact this
def gS.cons (s:oV P w h u p) (t:gS P w h e ps):gS P w h (u::e) (p::ps):=by
 obtain ⟨m,bs,r,g,k⟩:=s;obtain ⟨i,a,j,c,l⟩:=t;refine ⟨_,bs++a,.cons r j,?_,?_⟩
 . simp only [wX];exact (g.mono (Nat.le_max_left _ _)).append (c.mono (Nat.le_max_right _ _))
 . simp only [wX,A9];exact .cons ((k.more λb d=>o7 _ d).level_le (Nat.le_max_left _ _)) (l.more_le (λb d=>hQ _ d) (Nat.le_max_right _ _))
end
mutual
def lq:PyData->Bool
 | .int i=>decide (i.natAbs.log2<1920)
 | .str x=>decide ((reprText x).length<=aR)
 | .list a=>fq a
 | .tuple a=>fq a
 |_=>true
def fq:List PyData->Bool
 | []=>true
 |p::a=>lq p&&fq a
end
section
variable {X:Cx}
def ai.rh {A:Xc} {H:Hp} {vs:List V} {ds:List D} {h:Heap} (r:ai X.K A H vs ds) (ok:cM X.prog X.w H h) (oD:X.K.In h) {ps:List PyData} (e:dc ds=some ps) {us:List Value} (rv:aE vs us) (hf:fq ps=true):gS X.prog X.w h us ps:=by
 have m:ReadAtMost h 0 []:=λ_ h=>nomatch h
 refine ai.rec (motive_1:=λA H v d _=>cM X.prog X.w H h-> ∀p u,toPy d=some p->aG v u->lq p=true->oV X.prog X.w h u p)
   (motive_2:=λA H vs ds _=>cM X.prog X.w H h-> ∀ps us,dc ds=some ps->aE vs us->fq ps=true->gS X.prog X.w h us ps)
   ?_ ?_ ?_ ?_ ?_ ?_ ?_ ?_ ?_ ?_ ?_ ?_ ?_ ?_ ?_ ?_ ?_ r ok ps us e rv hf
 . rintro _ _ _ p u e rfl _;cases e;exact ⟨_,[],.none,m,by simp only [nz];exact .of_is ReprIs.none _ _ _⟩
 . rintro _ _ b _ p u e rfl _;cases e;exact ⟨_,[],.bool b,m,by simp only [nz];exact .of_is (ReprIs.bool b) _ _ _⟩
 . rintro _ _ i _ p u e ⟨t,rfl⟩ f;cases e;exact ⟨_,[],.int i t,m,by simp only [nz];exact .of_is (ReprIs.int t (of_decide_eq_true f)) _ _ _⟩
 . rintro _ _ x _ _ p u e ⟨t,rfl⟩ f;cases e;exact ⟨_,[],.str x t,m,by simp only [nz];exact .of_is (ReprIs.str x t (of_decide_eq_true f)) _ _ _⟩
 . rintro A H a q ds e _ g ok p u e2 rfl f;simp only [toPy,lH] at e2;obtain ⟨ps,k,rfl⟩:=e2;obtain ⟨_,c,rv,⟨o,j,w,n,hd⟩⟩:=(show aT X.prog X.w H h a (.ah q) from ok a _ e)
   exact .tuple j w hd (by simpa using g ok ps c k rv f)
 . rintro A H a q ds e _ _ g ok p u e2 rfl f;simp only [toPy,lH] at e2;obtain ⟨ps,k,rfl⟩:=e2;obtain ⟨_,c,n,rv,j⟩:=(show aT X.prog X.w H h a (.ag q) from ok a _ e)
   exact .list j rfl rfl (by simpa using g ok ps c k rv f)
 . rintro A H a q ds e _ g ok p u e2 rfl f;simp only [toPy,lH] at e2;obtain ⟨ps,k,rfl⟩:=e2;rcases e with ⟨o,e⟩| ⟨o,c,n,E,w,_,hd,_,rv⟩
   . obtain ⟨_,_,c,n,rv,j⟩:=(show aT X.prog X.w H h a (.bd o (.ag q)) from ok a _ e)
     exact .list j rfl rfl (by simpa using g ok ps c k rv f)
   . exact .list (oD a o E) w hd (g ok ps c.toList k rv f)
 . rintro A H a y vs I ds e _ J k2 r g ok p u e2 rfl _
   cases I with
   |cons _ _=>simp [toPy] at e2
   |nil=>
     cases ds with
     |cons _ _=>simp [toPy] at e2
     |nil=>
      simp only [toPy,Option.some.injEq] at e2;subst e2;have:y=[]:=by simpa using J
      subst this;obtain ⟨_,L,N,O,o,z,ep,j,Q,hd,_,B,_⟩:=(show aT X.prog X.w H h a (.dK []) from ok a _ e)
      cases O
      have:z.toList=[]:=by cases U:z.toList with
       |nil=>rfl
       |cons b l=>rw [U] at B;cases B
      exact .dict j Q.1 hd this L
 all_goals first| (intros;rename_i e2 _ _;simp [toPy] at e2;done)|skip
 . rintro A H _ ps us e rv _;cases e;cases rv;exact ⟨_,[],.nil,m,.nil⟩
 . rintro A H v d vs ds _ _ Y Z ok ps us e rv f;simp only [dc,Option.bind_eq_some_iff,lH] at e;obtain ⟨p,e1,qs,e2,rfl⟩:=e;simp only [fq,fw] at f
   cases rv with
   |cons r1 r2=>exact .cons (Y ok p _ e1 r1 f.1) (Z ok qs _ e2 r2 f.2)
def lr:D->ao D:=λd=>match toPy d with
 |some p=>aS (lq p=true/\p.depth<=100/\p.shown.length<=aR) (.ok (.str p.shown))
 |none=> .aj
def Ui {d e:D} (h:lr d= .ok e): ∃p,toPy d=some p/\lq p=true/\p.depth<=100/\p.shown.length<=aR/\e= .str p.shown:=by
 unfold lr at h
 split at h
 . rename_i p e;obtain ⟨⟨a,c,g⟩,i⟩:=ju h;cases i;exact ⟨p,e,a,c,g,rfl⟩
 . cases h
def VT (hg:X.A.guards=some []) (hu:X.A.units+200<cLine):bf X (.builtin "repr") (λL H Q=> ∃x d p,L=[x]/\aA X.K Any H x d/\toPy d=some p/\lq p=true/\p.depth<=100/\p.shown.length<=aR/\Q (.str p.shown) H):=by
 rintro j s σ H L us Q I r ⟨x,d,p,rfl,w,e,Y,h2,N,q⟩;obtain ⟨u,rfl,B⟩:=r.one;have c: ∀t,EP X j σ Q (.str p.shown t) {s with toks:=s.toks+1}:=λt=>⟨.str p.shown,H,I.tok _,⟨t,rfl⟩,q⟩
 have fin2: ∀m t E,(∀b o,s.heap.get? b=some o->m.get? b=some o)->EP X j σ Q (.str p.shown t) {s with heap:=m,toks:=E}:=λm t E O=>⟨.str p.shown,H,I.kept O,⟨t,rfl⟩,q⟩
 have hl: ∀ {a:Addr} {h:Array Value} {o:Obj} {n:Nat} {J:List PyData},s.heap.get? a=some o->o.cls= .type "list" ->o.data= .seq h n->gS X.prog X.w s.heap h.toList J->p= .list J->wpAny (model X.prog X.w) X.A (call (.builtin "repr") [.ref a]) (EP X j σ Q) X.xe s:=by
  rintro a h o n J v g2 Z ⟨as,bs,rr,rm,k⟩ rfl;have rd:Reads s.heap (.ref a) (.list J) _:= .list v g2 Z rr;simp only [ln] at h2;simp only [nz] at N c fin2;refine call_repr_slot (by omega) ⟨o,v,g2⟩ PySem.F.slot_list_repr.toG ?_;obtain ⟨l⟩:=h
  cases l with
  |nil=>
   cases rr;simp only [A9,listText_nil] at c;exact call_list_repr_empty ⟨o,v,g2⟩ v Z ⟨_,_,rfl,c _⟩
  |cons x l=>exact call_list_reprK v g2 Z (Ba rd (by simp only [ln];omega) rm) (by simpa using k.length_eq) (λi y e=>k.item i y (by simpa using e)) (show X.A.in1.guards=some [] from hg) (λb _=>Clear.nil b) (by show X.A.units+1+_<cLine;omega) (λ_ _ e=>e) (λm u E O=>⟨_,_,rfl,fin2 m u E O⟩) N
 cases d with
 |aO=>cases e;cases w.tz;cases (show u=rG from B);exact PySem.P.repr_of_none (c _)
 |bl b=>cases e;cases w.oK;cases (show u=iT b from B);exact PySem.P.repr_of_bool (by have:=c s.toks;cases b<;>exact this)
 |int i=>cases e;cases w.cc;obtain ⟨t,rfl⟩:=B;exact PySem.P.repr_of_int (of_decide_eq_true Y) (c _)
 |str z=>cases e;cases w.gl.1;obtain ⟨t,rfl⟩:=B;exact PySem.P.repr_of_str (c _) N
 |ag ds=>
  simp only [toPy,lH] at e;obtain ⟨J,e3,e4⟩:=e;obtain ⟨a,L,rfl,U,_,rs⟩:=w.c7;cases (show u=bP a from B);obtain ⟨_,h,n,rv,ho⟩:=(show aT X.prog X.w H s.heap a (.ag L) from I.aP a _ U)
  exact hl ho rfl rfl (by simpa using rs.rh I.aP I.dD e3 rv (by rw [<-e4] at Y;exact Y)) e4.symm
 |aU ds=>
  simp only [toPy,lH] at e;obtain ⟨J,e3,e4⟩:=e;obtain ⟨a,L,rfl,U,rs⟩:=w.fH;cases (show u=bP a from B);obtain ⟨h,rv,⟨o,n,g,hc,_,hd⟩,_⟩:=I.list U.lI;exact hl g hc hd (by simpa using rs.rh I.aP I.dD e3 rv (by rw [<-e4] at Y;exact Y)) e4.symm
 |ah ds=>
  simp only [toPy,lH] at e;obtain ⟨J,e3,rfl⟩:=e;obtain ⟨a,L,rfl,U,rs⟩:=w.cm;cases (show u=bP a from B);obtain ⟨_,h,rv,⟨o,v,g2,n,Z⟩⟩:=(show aT X.prog X.w H s.heap a (.ah L) from I.aP a _ U)
  obtain ⟨as,bs,rr,rm,k⟩:=rs.rh I.aP I.dD e3 rv Y;have rd:Reads s.heap (.ref a) (.tuple J) _:= .tuple v g2 Z (by simpa using rr);simp only [ln] at h2;simp only [nz] at N fin2;exact call_repr_slot (by omega) ⟨o,v,g2⟩ PySem.F.slot_tuple_repr (call_tuple_reprK v g2 Z (Ba rd (by simp only [ln];omega) rm) (by simpa using k) (show X.A.in1.guards=some [] from hg) (λb _=>Clear.nil b) (by show X.A.units+1+_<cLine;omega) (λ_ _ e=>e) (λm u E O=>⟨_,_,rfl,fin2 m u E O⟩) N)
 |cv ks ds=>
  cases ks with
  |cons _ _=>simp [toPy] at e
  |nil=>
   cases ds with
   |cons _ _=>simp [toPy] at e
   |nil=>
    simp only [toPy,Option.some.injEq] at e;subst e;obtain ⟨a,kvs,rfl,U,_,k1,_⟩:=(show eY X.K Any H x (.cv [] []) from w.f)
    have:kvs=[]:=by simpa using k1
    subst this;cases (show u=bP a from B);obtain ⟨_,hs,JI,kv,o,es,ep,ho,hx,hd,_,hp,_⟩:=(show aT X.prog X.w H s.heap a (.dK []) from I.aP a _ U)
    cases kv
    have he:es.toList=[]:=by cases hq:es.toList with
     |nil=>rfl
     |cons b l=>rw [hq] at hp;cases hp
    simp only [ln,PyData.depthKv] at h2;simp only [nz,PyData.shownKv] at N fin2;exact call_repr_slot (by omega) ⟨o,ho,hx.1⟩ PySem.F.slot_dict_repr (call_dict_reprK (as:=[]) (d:=0) (ps:=[]) ho hx.1 hd hs (by simp) (by rw [he];exact .nil) (show X.A.in1.guards=some [] from hg) (λb _=>Clear.nil b) (by show X.A.units+1+_<cLine;omega) (λ_ _ e=>e) (λm u E O=>⟨_,_,rfl,fin2 m u E O⟩) N)
 |_=>simp [toPy] at e
def ls (f:TJ):Sl->ao D:=λa=>f a>>=lr
def VF {l:Lv} {e:Expr} {f:TJ} {p c:Pos} (g:X.A.guards=some []) (n:X.A.units+200<cLine) (o:DE X l e f) (t:Gl X "repr") (u:X.mg "repr" =none)
   (j:bp [e] X.env=(false,eval e X.env)::bp [] X.env:=by exact jn rfl) (h:(dO c (bp [] X.env)).any (·.1)=false:=by exact jB rfl):
   DE X .s (.Call (.Name "repr" p) [e] [] c) (ls f):=by
 with_unfolding_all exact (
  PE.imp (zv (VT g n) t u PyProof.Rows.boot_repr (qc o wa j) (by decide) (by decide) j h) λJ H Q=>by
   rintro ⟨G,w,i,d,k,y,q⟩;obtain ⟨a,e1,e2⟩:=je y;obtain ⟨p,z,B,E,m,rfl⟩:=Ui e2
   exact ⟨G,w,i,a,k,e1,λv I s r _=>⟨v,a,p,rfl,r.az Lv.be,z,B,E,m,q _ I s (.str _ m) trivial⟩⟩)
def Ur (i:Nat) (hN:X.N.Nodup) (im:Bool) (N:List Str) (m:Nat) (O:List Nat) (S:cK z X g Q N m O) (hc:X.bG=true) (hi:DI X U iter fi)
   (Y: ∀(C:Addr) (s:aB) (H:Hp) (l:List Addr),N.Nodup->DG (jC z X N g Q C s H l) U t/\oM (jC z X N g Q C s H l) n c/\DE (jC z X N g Q C s H l) .s u fe)
   (Z:X.N[i]?=some x) (hx:Loc X.env.scope x) (hf:T7 X x)
   (wp:gw (.ListComp u [⟨U,iter,n,0⟩] g pos) (some (.Name x p)) ps.line X.env=pure true) (hs: ∀x,m9 iter X.env x=pure x):
   PS X (.Assign [.Name x p] (.ListComp u [⟨U,iter,n,0⟩] g pos) ps) (λE J H=> ∃G H0 h d,ar X.K G H0 h J H/\j8 im m O fi t c fe h= .ok d/\ ∀v w,am H w->aA X.K (Sf G h J) w v d->E.nx (J.set i (some v)) w):=by
 with_unfolding_all exact (by
  rintro y s J H E I ⟨G,H0,h,d,k,e1,q⟩;rw [exec_Assign_Name_used _ _ _ _ wp];refine ax (wpAny_standAt (ax ?_));refine ax (bn (JL (some (fT (.Name x p) X.env)) (λ_ L=>SP X y E .next L) im N m O S hc hi (λC s H l=>Y C s H l S.nd) hs I k e1 λa C L w mm r hn B Cb sm rep nt=>?_) λ_ L hq=>aM (aM hq));have I':=B L.heap ⟨rfl,λ_ _=>rfl⟩;obtain ⟨f0,f1,f2,f3,f4,f5⟩:=Cb;refine wpAny_assign_Name (Jc I' hN Z hx (show aG (.ref a) (.ref a) from rfl) (λs2 I2 j=>?_) hf);obtain ⟨b,j,BW⟩:=j
  have Le:C≠b:=by
   rcases BW with z|z
   . rw [z];exact f1
   . exact λe=>f4 _ _ z e.symm
  exact ⟨mm,hn.sameBut j Le,λh' oO=>⟨_,w,I2.turned (λb o Y e=>(oO.2 b Y).trans e) f0 f1 f3 f4 f5,q _ _ sm rep⟩⟩)
def YS {g2:TF} {rest:List Stmt} (j:Nat) (Y:X.N.Nodup) (Q:Bool) (N:List Str) (m:Nat) (l:List Nat) (S:cK z X a n N m l) (Z:X.bG=true) (hi:DI X u iter fi)
   (hb: ∀(C:Addr) (s:aB) (H:Hp) (w:List Addr),N.Nodup->DG (jC z X N a n C s H w) u t/\oM (jC z X N a n C s H w) e c/\DE (jC z X N a n C s H w) .s g fe) (h2:ez X i rest g2) (y:j≠i:=by decide)
   (B:X.N[j]?=some x:=by rfl) (hx:Loc X.env.scope x:=by exact dI rfl) (hf:T7 X x:=by first|exact .inl rfl|exact .inr rfl|assumption)
   (I:gw (.ListComp g [⟨u,iter,e,0⟩] a J) (some (.Name x p)) ps.line X.env=pure true:=by rfl) (hs: ∀x,m9 iter X.env x=pure x:=by intro _;rfl):
   ez X i (.Assign [.Name x p] (.ListComp g [⟨u,iter,e,0⟩] a J) ps::rest) (gR (jL j (j8 Q m l fi t c fe)) g2):=by
 with_unfolding_all exact (
  cb.imp (qA (Ur j Y Q N m l S Z hi hb B hx hf I hs) h2) λE σ H=>by
   rintro ⟨G,U,h,L,Hs,O,v,o,k,s0,fr,hv,gh,ef,q⟩;obtain ⟨o1,e1,e2⟩:=je ef;obtain ⟨d,e3,e4⟩:=je e1;cases e4
   exact ⟨G,U,O,d,k,e3,λv' H' s r=>⟨G,U,h,L,Hs,_,v,o,(k.ap s).en r,s0,fr.trans (.set s λ_ _ z _=>by cases z),by rw [ji y];exact hv,gh.ap s,e2,q⟩⟩)
end
end M
namespace PySem.AutoSeq1
open PySem Builtin
def iy (l:Addr) (items:Array Value) (n:Nat) (e:Option Addr) (i:Array (Option Value)) (u:Tok) (a:items.isEmpty=false):
  PySem.Meets (lN.«tuple.__mul__» ⟨[.ref l,.int 0 u],[]⟩) (λ_ R s=>s.heap.get? l=some {cls:= .type "tuple",dict:=e,data:= .seq items n,slots:=i}/\
   R (.ok (.ret (bP s.heap.objs.size))) {s with heap:=s.heap.push {cls:=o5 "tuple",data:=Data.seq #[]}}):=
 .of_wp λc w A R s h=>by
  obtain ⟨k,g,d,m,os⟩:=s;obtain ⟨j,h⟩:=h;have o:=idx_int;have p:=sub_tuple_tuple;have q: ¬(decide ((0:Int)< -2^63)||decide ((0:Int)>=2^63))=true:=by decide
  have r: ¬(items.isEmpty|| (0:Int)==1)=true:=by rw [a];decide
  have t:(decide ((0:Int)<=0)||items.isEmpty)=true:=by simp
  wp_walk using wpAny_loadPart' j
  exact ⟨_,rfl,h⟩
end PySem.AutoSeq1
namespace M
open PySem PySem.Spec L2
open PyProof.Rows hiding St
section
variable {X:Cx}
def Kn:R2:=λx y H Q=> ∃l a,x= .ref l/\y= .int 0/\H l=some (.ah a)/\a.isEmpty=false/\ ∀p,H p=none->Q (.ref p) (aJ H p (.ah []))
def mw:b7 X (eU .Mult) Kn:=by
 intro k s L H x y v u Q I m o h;obtain ⟨l,N,rfl,rfl,p,w,q⟩:=h;cases m;obtain ⟨t,rfl⟩:=o;obtain ⟨a,r,⟨ob,e,B,n,hd⟩,z⟩:=I.tuple (.of p);obtain ⟨O,c,E,d⟩:=ob;have g:=B;have i:=hd;subst g i
 have j:a.toArray.isEmpty=false:=by
  cases r with
  |nil=>cases w
  |cons _ _=>rfl
 refine Cq (by decide) ⟨_,e,rfl⟩ (λJ=>pE J 0 t) qZ F.fills_int_mul se wn F.slot_int_index.lookup
  (nS se (pE s 0 t) F.entry_int_rmul (F.args_int_rmul_2 _ _) (zA 0 t l a.toArray n c d)
   ⟨e,rfl,⟨_,e,rfl⟩,nS tR ⟨_,e,rfl⟩ F.entry_tuple_mul (Cr _ _) (AutoSeq1.iy l a.toArray n c d t j) ⟨e,?_⟩⟩)
 refine ⟨.ref s.heap.objs.size,_,I.laid (λb ob q=>cu _ q) (a9 _) ?_,rfl,q _ (I.aP.fresh (a9 _))⟩;exact ⟨eQ _,[],.nil,IsTup.new _ _⟩
def ZA (a b:D):ao D:=match a,b with
 | .ah c,.int k=>if k=0 then aS (c.isEmpty=false) (.ok (.ah [])) else vL (.ah c) (.int k)
 |_,_=> .aj
def Xo:b7 X (eU .Mult) (λx y H Q=>Kn x y H Q\/Ym X.K x y H Q\/ZB x y H Q):=mw.or UA
def Xs {K:ay}:pN K (λx y H Q=>Kn x y H Q\/Ym K x y H Q\/ZB x y H Q) ZA:=by
 intro A x y H a b d Q g h e q;unfold ZA at e
 split at e
 . rename_i o k
   by_cases c:k=0
   . rw [if_pos c] at e;obtain ⟨hd,e⟩:=ju e;cases e;cases h.cc;obtain ⟨p,j,rfl,m,n⟩:=g.cm;refine .inl ⟨p,j,rfl,by rw [c],m,by rw [<-n.isEmpty];exact hd,λl i=>q _ _ (am.aJ i) (.ah jr .nil) (qm (am.refl H) i)⟩
   . rw [if_neg c] at e;exact .inr (UH A x y H _ _ d Q g h e q)
 . cases e
end
def dG (a H:Hp):Hp:=λc=>match a c with
 |some u=>some u
 |none=>H c
def Qa {a H:Hp}:am a (dG a H):=λb u e=>by unfold dG;rw [e]
def aq.dG {X:Cx} {a:List (Addr×Obj)} {d:L2.St} {c H:Hp} {s:aB} (I:aq X a d H s) (kp:Kept X c H):aq X a d (dG c H) s:=aq.re I λb=>by
 cases e:c b with
 |none=>exact .inl (by unfold M.dG;rw [e])
 |some u=>
  rcases kp b u e with h| ⟨o,n,h,l⟩
  . exact .inl (by unfold M.dG;rw [e,h])
  . exact .inr ⟨l,_,_,h,by unfold M.dG;rw [e],n,(I.aP b _ h).2⟩
def Yx (c m:Str) (n:Nat) (F:TC) (i:TJ):Sl->ao D:=λg=>i g>>=λo=>match o with
 | .obj a e h=>aS (a=c/\e.contains m=false/\n=1/\eh (.obj a e h)=true/\eM (.obj a e h)=true) (F [aK (.obj a e h)])>>=λd=>aS (eM d=true) (.ok d)
 |_=> .aj
def KU {F:TC} {i:TJ} {c m:Str} (h:Yx c m n F i g= .ok d): ∃a e,i g= .ok (.obj c a e)/\a.contains m=false/\n=1/\eh (.obj c a e)=true/\eM (.obj c a e)=true/\F [aK (.obj c a e)]= .ok d/\eM d=true:=by
 obtain ⟨ob,j,h⟩:=je h
 cases ob with
 |obj v a e=>
  obtain ⟨w,k,l⟩:=je h;obtain ⟨⟨e1,e2,o,p,q⟩,r⟩:=ju k;obtain ⟨t,u⟩:=ju l;cases u;subst e1;exact ⟨a,e,j,e2,o,p,q,r,t⟩
 |_=>cases h
section
variable {X:Cx} {k n:Nat} {c m:Str} {ps:List Str} {B:Bool} {F:TC} {o:Expr} {pos J L pa:Pos} {E:TJ} {pl:Sem Bool}
def hH.mx (A:hH X.prog X.w X.K X.mg X.ae k c m ps B F) (N:aH k X.A) (O:DE X .s o E) (U:ps.length=n:=by rfl)
  (Y:eval (.Call (.Attribute o m J) [] [] L) X.env=(do
   let t<-eval o X.env
   nI J.atName
   let (f,first)<-iW [t] (getMethod t m pl)
   callWith L f first (dO L (bp [] X.env)) (lF L (lG [] X.env))):=by rfl):DE X .s (.Call (.Attribute o m J) [] [] L) (Yx c m n F E):=by
 subst U;have Z:=A.Fm N O Y
 with_unfolding_all exact (by
  rintro i s w H Q I ⟨G,H0,env,d,k,ef,q⟩;obtain ⟨ns,vs,e1,e2,e3,e4,l,e5,e7⟩:=KU ef;refine bn (Z i s w H (λv j=> ∃g A,am H g/\Kept X g j/\aA X.K A j v d/\(∀b,A b->Sf G env w b)) I ⟨G,H0,env,d,ns,vs,k,e1,e2,e3,e4,l,e5,λv g j A sm kp r _ p=>⟨g,A,sm,kp,r,p⟩⟩) λv s1 ⟨x,j,I3,r3,g,A,sm,kp,r,p⟩=>⟨x,dG g j,aq.dG I3 kp,r3,q x _ (sm.trans Qa) ((r.ny (λa u e nf=>?_) e7).az p) trivial⟩
  cases z:g a with
  |none=>unfold dG;rw [z];exact e
  |some y=>
   rw [Qa a y z];rcases kp a y z with h| ⟨o,n,h,_⟩
   . rw [e] at h;exact h.symm▸rfl
   . rw [e] at h;cases h;rw [nf _ _ rfl] at n;cases n)
end
section
variable {f Q N:TJ} {fa:TD} {t Y O:TH} {g ga gb:TF} {env Z:Sl} {d x y z:D} {U:List D} {b:Bool} {i:Nat}
def Jh (h:env[i]?=some (.av d)):cH i env= .ok d:=by unfold cH;rw [h]
def WC (h:env[i]?=some (.av (.ag U))):cq i env= .ok U:=by unfold cq;rw [h]
def Lf {a:TB} {c:TD} {o:bF} (h:c env= .ok U) (e:c8 (wD a g) U env= .ok o):dZ c a g env= .ok o:=(yP h).trans e
def vB {a:TB} {o:bF} (h:a d env= .ok Z) (c:g Z= .ok o):wD a g d env= .ok o:=(xJ h).trans c
def Fn (h:Y env= .ok false):dJ Y O env= .ok false:=by rw [WT,h];rfl
def Y0 (h:Y env= .ok true) (a:O env= .ok b):dJ Y O env= .ok b:=by rw [WT,h];exact a
def ka {a b:Int}:eS (.int a) (.int b)= .ok (.bl (a==b)):=Vt
def xV {a b:Int}:ei (.int a) (.int b)= .ok (.bl (!(a==b))):=by
 unfold ei;rw [jq (show r8 (.int a) (.int b) from .inl ⟨rfl,rfl,by simp [D.b9]⟩)];simp [da]
def Y7 (h:Q env= .ok (.bl true)) (a:N env= .ok d):nV Q N true env= .ok d:=by rw [vi,h];exact a
def Y8 (h:Q env= .ok (.bl false)):nV Q N true env= .ok (.bl false):=by rw [vi,h];rfl
end
end M
namespace G
open PySem PySem.Spec L2 M
open PyProof.Rows hiding St
def top (i:Nat):Stmt:=PySem.Challenge.pw_endwise_k41_no_numbers_paper.main.body.getD i (.Pass ⟨0,0,0,0⟩)
abbrev qM:Stmt:=top 46
abbrev qD:Stmt:=top 47
abbrev zn:Stmt:=top 48
abbrev zx:Stmt:=top 45
abbrev zV:Stmt:=top 43
abbrev wK:Stmt:=top 44
abbrev wJ:Stmt:=top 49
abbrev Je:Stmt:=top 24
abbrev yp:Stmt:=top 23
abbrev Jf:Stmt:=top 25
abbrev wI:Stmt:=top 38
abbrev wl:Stmt:=top 37
abbrev wm:Stmt:=top 36
abbrev qw:Stmt:=Vg (top 35) 0
abbrev xK:Stmt:=top 50
abbrev zo:Stmt:=Vg (top 35) 1
abbrev wM:Stmt:=top 42
abbrev wN:Stmt:=top 51
abbrev QJ:Stmt:=top 52
def qj:Sl->ao bF:=
 (au (eq (af 1) (g2 (gN 4) (gN 5))) (au (cf 3 (bc (jb (aw (jb (cI 0) (jb (af 5) aa))) (jb (aw (jb (jM (cI 1)) (jb (af 5) aa))) (jb (aw (jb (al (al (cI 10) (cI 30) dA) (cI 1) bx) (jb (af 5) aa))) (jb (aw (jb (cB true) (jb (af 5) aa))) (jb (aw (jb cN (jb (af 5) aa))) (jb (aw (jb (cS "1") (jb (af 5) aa))) aa)))))))) (au (er 3 (cf 3 (al (af 3) (bc (jb (aw (jb (af 5) (jb (cI 1) aa))) (jb (aw (jb (af 4) (jb (app (jb (af 5) aa) K2) aa))) (jb (aw (jb (af 4) (jb (al (af 5) (aw (jb (cI 1) aa)) bx) aa))) (jb (bc (jb (af 4) (jb (af 5) aa))) (jb (aw (jb (af 4) aa)) aa)))))) bx))) (au (er 3 (cf 3 (al (af 3) (bc (jb (aw (jb (af 4) (jb (af 5) (jb (cI 1) aa)))) (jb cN (jb (cI 1) (jb (af 5) aa))))) bx))) (au (cp (aX (al (af 2) (cI 0) lJ)) (au (jL 6 (al (al (af 0) (cI 100) bC) (af 2) aY)) (au (dZ (dj (bc (jb (cI 3) (jb (jM (cI 1)) (jb (cB true) (jb cN (jb (cS "1") aa))))))) (gN 7) (jZ 3 (aw (jb (af 4) (jb (al (al (qL (af 5) xB (wE (af 6)) gC) (aw (jb (af 7) aa)) bx) (qL (af 5) (wE (al (af 6) (cI 1) bx)) xB gC) bx) aa))))) (er 3 (cf 3 (al (af 3) (bc (jb (aw (jb (af 4) (jb (qL (af 5) (wE (cI 1)) xB gC) aa))) (jb (aw (jb (af 4) (jb (cI 1) aa))) aa))) bx))))) cn) (retS (al (cH 3) (al (af 0) (app (jb (cH 3) aa) bw) aY) aQ)))))))
def qU:List D->ao D:=ba false 8 (qj)
def zC (a:TC):Sl->ao bF:=
 (au (jL 3 (al (af 0) (cI 6) aY)) (au (jL 4 (al (al (af 0) (cI 6) bC) (app (jb (af 1) aa) bw) aY)) (au (cp (aX (al (af 3) (cI 0) eS)) (au (jL 5 (al (af 1) (al (al (af 0) (cI 60) bC) (app (jb (af 1) aa) bw) aY) aQ)) (aZ (al (al (qL (af 1) xB (wE (af 4)) gC) (bc (jb (af 5) aa)) bx) (qL (af 1) (wE (af 4)) xB gC) bx))) cn) (au (cp (aX (al (af 3) (cI 1) eS)) (au (jL 6 (bc (jb (app (jb (af 1) aa) yH) (jb (bc aa) (jb cN (jb (cI 0) (jb cD (jb (al (af 1) (cI 0) aQ) (jb (bc (jb (af 1) aa)) (jb (aw aa) aa)))))))))) (retS (al (af 6) (al (al (af 0) (cI 6) bC) (cI 8) aY) aQ))) cn) (au (cp (dJ (aX (al (af 3) (cI 2) eS)) (aX (al (af 2) (cI 0) lJ))) (au (jL 7 (al (al (af 0) (cI 60) bC) (af 2) aY)) (aZ (j8 false 2 [7] (dj (af 1)) (g2 (gN 0) (gN 1)) jX (aw (jb (af 0) (jb (al (al (qL (af 1) xB (wE (af 2)) gC) (aw (jb (cI 0) aa)) bx) (qL (af 1) (wE (al (af 2) (cI 1) bx)) xB gC) bx) aa)))))) cn) (au (cp (dJ (aX (al (af 3) (cI 3) eS)) (aX (al (af 2) (cI 3) lJ))) (au (cf 8 (bc aa)) (au (dZ (fI (jb (cI 41) aa)) (gN 9) (jZ 8 (aw (jb (al (cI 1) (af 9) bx) (jb (al (aw (jb (al (af 9) (cI 3) aY) (jb (al (al (af 9) (cI 3) bC) (cI 3) aY) (jb (al (al (af 9) (cI 9) bC) (cI 3) aY) (jb (al (cI 1) (al (af 9) (cI 27) bC) bx) aa))))) (al (aw (jb (cI 1) aa)) (al (af 2) (cI 4) tW) ZA) bx) aa))))) (aZ (tF 8)))) cn) (aZ (al (al (qL (af 1) xB (wE (af 4)) gC) (bc (jb (j4 3 a (jb (al (af 0) (cI 60) bC) (jb (al (af 1) (af 4) aQ) (jb (af 2) aa)))) aa)) bx) (qL (af 1) (wE (al (af 4) (cI 1) bx)) xB gC) bx))))))))
def qG:List D->ao D:=ba false 10 (zC qU)
def wy (a:TC):Sl->ao bF:=
 (au (jL 3 (al (af 0) (cI 4) aY)) (au (cf 4 (bc (jb (aw (jb (af 1) aa)) (jb (aw (jb (af 1) (jb (af 2) (jb (cI 1) aa)))) (jb (bc (jb (af 1) (jb (af 2) aa))) (jb (aw (jb (af 2) (jb (af 1) aa))) (jb (af 1) (jb cN (jb (aw (jb (al (af 1) (cI 0) aQ) (jb (af 2) aa))) (jb (aw (jb (aw aa) (jb (af 2) aa))) aa)))))))))) (au (er 4 (cf 4 (al (af 4) (bc (jb (aw (jb (aw (jb (al (af 1) (cI 0) aQ) (jb (cI 10) aa))) (jb (af 2) aa))) (jb (aw (jb (aw (jb (al (af 1) (cI 0) aQ) (jb (jM (cI 1)) aa))) (jb (af 2) aa))) (jb (aw (jb (app (jb (af 1) aa) K2) (jb (af 2) aa))) (jb (aw (jb (aw (jb (cS "") (jb (al (af 1) (cI 1) aQ) aa))) (jb (af 2) aa))) aa))))) bj))) (au (er 4 (cf 4 (al (af 4) (bc (jb (aw (jb (aw (jb (al (af 1) (cI 0) aQ) (jb (cB true) aa))) (jb (bc (jb (aw (jb (cI 1) (jb (aw (jb (cI 1) aa)) aa))) aa)) aa))) (jb (aw (jb (aw (jb (al (al (af 1) (cI 0) aQ) (cS "abcdefg") bj) (jb (al (af 1) (cI 1) aQ) aa))) (jb (af 2) aa))) aa))) bj))) (au (jZ 4 (aw (jb (aw (jb (al (cS "A") (al (af 1) (cI 0) aQ) bj) (jb (cI 0) aa))) (jb (af 2) aa)))) (au (cp (aX (al (af 3) (cI 0) eS)) (retS (al (cH 4) (al (al (af 0) (cI 4) bC) (app (jb (cH 4) aa) bw) aY) aQ)) cn) (aZ (aw (jb (af 1) (jb (j4 3 a (jb (al (af 0) (cI 4) bC) (jb (af 2) (jb (al (af 1) (cI 1) aQ) aa)))) aa))))))))))
def qB:List D->ao D:=ba false 5 (wy qG)
def zB:Sl->ao bF:=
 (au (cf 2 (bc aa)) (au (cf 3 (bc aa)) (au (dZ (fI (jb (al (af 1) (cI 1) bj) aa)) (gN 4) (au (cf 5 (bc aa)) (au (dZ (fI (jb (af 1) aa)) (gN 6) (au (jL 0 (al (al (al (al (af 0) (cI 48271) fb) (al (cI 5) (af 6) fb) bj) (af 4) bj) (cI 2147483647) aY)) (jZ 5 (al (af 0) (cI 3) aY)))) (au (cp (dJ (aX (al (af 4) (af 1) ltI)) (aX (al (al (cH 5) (af 4) aQ) (cI 0) eS))) (Wq 5 (af 4) (al (cI 1) (al (al (af 0) (cI 3) bC) (cI 2) aY) bj)) cn) (cp (aX (al (app (jb (cH 5) aa) yH) (cH 3) (ik true))) (au (jZ 3 (i5 (app (jb (cH 5) aa) yH))) (jZ 2 (aw (jb (al (bc (jb (cI 1) (jb (al (cI 10) (cI 30) dA) (jb (al (cI 1) (al (al (af 0) (cI 6) bC) (cI 99) aY) bj) aa)))) (al (al (af 0) (cI 600) bC) (cI 3) aY) aQ) (jb (i5 (app (jb (cH 5) aa) yH)) aa))))) cn))))) (aZ (tF 2)))))
def jS:List D->ao D:=ba true 7 (zB)
def zd:Sl->ao bF:=
 (au (jL 2 (cS "abcdefghijklmnopqrstuvwxyz")) (au (jL 3 (cS "")) (au (dZ (fI (jb (af 1) aa)) (gN 4) (au (eq (app (jb (af 0) (jb (cI 26) aa)) za) (g2 (gN 0) (gN 5))) (jL 3 (al (af 3) (al (af 2) (af 5) aQ) bj)))) (retS (af 3)))))
def zf:List D->ao D:=ba false 6 (zd)
def zQ (a:TC):Sl->ao bF:=
 (au (jL 2 (cS "abcdefghijklmnopqrstuvwxyz")) (au (jL 3 (j4 2 a (jb (al (af 0) (cI 16) bC) (jb (al (af 0) (cI 4) aY) aa)))) (au (jL 4 (j4 2 a (jb (al (af 0) (cI 280000) bC) (jb (al (al (af 0) (cI 4) bC) (cI 4) aY) aa)))) (au (jL 5 (al (al (af 0) (cI 16) bC) (cI 26) aY)) (au (cf 6 (bc aa)) (au (dZ (fI (jb (af 1) aa)) (gN 7) (au (eq (app (jb (af 0) (jb (cI 10) aa)) za) (g2 (gN 0) (gN 9))) (au (jL 8 (al (af 3) (al (af 2) (al (al (af 5) (af 7) bj) (cI 26) aY) aQ) bj)) (au (jL 8 (al (al (af 8) (al (af 2) (al (al (af 5) (al (af 7) (cI 26) bC) bj) (cI 26) aY) aQ) bj) (af 4) bj)) (jZ 6 (aw (jb (af 8) (jb (af 9) aa)))))))) (aZ (tF 6))))))))
def qt:List D->ao D:=ba true 10 (zQ zf)
def wT (c:TC) (d:TC) (a:TC):Sl->ao bF:=
 (au (eq (app (jb (af 0) (jb (cI 8) aa)) za) (g2 (gN 0) (gN 2))) (au (eq (app (jb (af 0) (jb (cI 10) aa)) za) (g2 (gN 0) (gN 3))) (au (eq (app (jb (af 0) (jb (cI 61) aa)) za) (g2 (gN 0) (gN 4))) (au (cp (aX (al (af 2) (cI 7) eS)) (jL 3 (cI 60)) cn) (au (cf 1 (j8 false 1 [0] (dj (j4 2 a (jb (af 0) (jb (af 3) aa)))) (gN 0) jX (aw (jb (af 0) (jb (j4 2 d (jb (al (al (af 1) (cI 17) bC) (al (app (jb (al (af 0) (cI 0) aQ) aa) bw) (al (af 0) (cI 1) aQ) fb) bj) (jb (al (af 0) (cI 1) aQ) aa))) aa))))) (au (cp (dJ (aX (al (af 2) (cI 4) ltI)) (aX (al (cH 1) (bc aa) ei))) (au (jL 4 (al (af 4) (app (jb (cH 1) aa) bw) aY)) (au (Wq 1 (af 4) (j4 3 c (jb (af 0) (jb (al (al (cH 1) (af 4) aQ) (cI 0) aQ) (jb (al (al (cH 1) (af 4) aQ) (cI 1) aQ) aa))))) (er 1 (aZ (aw (jb (af 1) (jb (cB false) aa))))))) cn) (au (cp (dJ (aX (al (af 2) (cI 4) eS)) (aX (al (cH 1) (bc aa) ei))) (au (Za 1 (al (af 4) (app (jb (cH 1) aa) bw) aY) (al (cH 1) (al (af 0) (app (jb (cH 1) aa) bw) aY) aQ)) (er 1 (aZ (aw (jb (af 1) (jb (cB false) aa)))))) cn) (au (cp (aX (al (af 2) (cI 5) eS)) (au (jL 5 (j8 false 1 [] (dj (j4 2 a (jb (af 0) (jb (cI 61) aa)))) (gN 0) jX (aw (jb (af 0) (jb (bc (jb (aw (jb (cI 1) (jb (al (aw (jb (cI 1) aa)) (al (af 0) (cI 1) aQ) ZA) aa))) aa)) aa))))) (er 1 (aZ (aw (jb (al (bc (jb (app (jb (af 1) aa) yH) (jb cN (jb (cI 0) (jb (cS "a") (jb cD (jb (cB true) (jb (bc (jb (af 1) aa)) (jb (bc (jb cN aa)) (jb (af 5) aa)))))))))) (al (af 0) (cI 9) aY) aQ) (jb (cB false) aa)))))) cn) (er 1 (aZ (aw (jb (af 1) (jb (cB true) aa)))))))))))))
def zl:List D->ao D:=ba true 6 (wT qB jS qt)
def x6:Sl->ao bF:=
 (au (cp (dY (bi (aX (xC "str" (af 0)))) (bi (aX (yD (cI 1) (app (jb (af 0) aa) bw) (cI 8) hE hE)))) (aZ (cB false)) cn) (aZ (app (jb (j8 false 1 [] (dj (af 0)) (gN 0) jX (al (af 0) (cS "abcdefghijklmnopqrstuvwxyz") inD)) aa) eZ)))
def xp:List D->ao D:=ba true 1 (x6)
def Qt:Sl->ao bF:=
 (aZ (nV (xC "int" (af 0)) (nW (xC "bool" (af 0))) true))
def qK:List D->ao D:=ba true 1 (Qt)
def x8 (a:TC) (c:TC):Sl->ao bF:=
 (au (cp (dY (bi (aX (xC "tuple" (af 0)))) (aX (al (app (jb (af 0) aa) bw) (cI 2) ei))) (aZ (cB false)) cn) (aZ (nV (j4 1 a (jb (al (af 0) (cI 0) aQ) aa)) (nV (j4 1 c (jb (al (af 0) (cI 1) aQ) aa)) (yD (cI 0) (al (af 0) (cI 1) aQ) (cI 9) hE hE) true) true)))
def jI:List D->ao D:=ba true 1 (x8 xp qK)
def zP (a:TC):Sl->ao bF:=
 (au (cp (dY (bi (aX (xC "tuple" (af 0)))) (aX (al (app (jb (af 0) aa) bw) (cI 2) ei))) (aZ (cB false)) cn) (au (cp (dY (bi (aX (j4 1 a (jb (al (af 0) (cI 0) aQ) aa)))) (bi (aX (yD (cI 1) (al (af 0) (cI 0) aQ) (al (cI 10) (cI 30) dA) hE hE)))) (aZ (cB false)) cn) (au (cp (dY (bi (aX (xC "tuple" (al (af 0) (cI 1) aQ)))) (aX (al (app (jb (al (af 0) (cI 1) aQ) aa) bw) (af 1) ei))) (aZ (cB false)) cn) (aZ (app (jb (j8 false 1 [] (dj (al (af 0) (cI 1) aQ)) (gN 0) jX (nV (j4 1 a (jb (af 0) aa)) (yD (cI 0) (af 0) (cI 2) hE hE) true)) aa) eZ)))))
def jz:List D->ao D:=ba true 2 (zP qK)
def x5 (a:TC) (c:TC):Sl->ao bF:=
 (au (cp (dY (bi (aX (xC "tuple" (af 0)))) (dY (aX (al (app (jb (af 0) aa) bw) (cI 2) ei)) (bi (aX (j4 1 a (jb (al (af 0) (cI 0) aQ) aa)))))) (aZ (cB false)) cn) (au (jL 1 (al (af 0) (cI 1) aQ)) (au (cp (dY (bi (aX (xC "list" (af 1)))) (bi (aX (yD (cI 1) (app (jb (af 1) aa) bw) (cI 40) hE hE)))) (aZ (cB false)) cn) (au (jL 2 (al (al (af 0) (cI 0) aQ) (cI 1) aQ)) (au (cp (bi (aX (app (jb (j8 false 1 [2] (dj (af 1)) (gN 0) jX (j4 2 c (jb (af 0) (jb (af 1) aa)))) aa) eZ))) (aZ (cB false)) cn) (au (cp (aX (al (yK (j8 false 2 [] (dj (af 1)) (g2 (gN 0) (gN 1)) jX (af 1))) (app (jb (af 1) aa) bw) ei)) (aZ (cB false)) cn) (aZ (app (jb (j8 false 1 [1] (fI (jb (af 2) aa)) (gN 0) jX (app (jb (j8 false 2 [0] (dj (af 1)) (g2 (gN 0) (gN 1)) jX (al (al (af 1) (af 2) aQ) (cI 0) lJ)) aa) mn)) aa) eZ))))))))
def jm:List D->ao D:=ba true 3 (x5 jI jz)
def x9 (a:TC):Sl->ao bF:=
 (au (cp (dY (bi (aX (xC "list" (af 0)))) (aX (al (app (jb (af 0) aa) bw) (cI 60) lJ))) (aZ (cB false)) cn) (au (cp (bi (aX (app (jb (j8 false 1 [] (dj (af 0)) (gN 0) jX (j4 1 a (jb (af 0) aa))) aa) eZ))) (aZ (cB false)) cn) (aZ (al (yK (j8 false 1 [] (dj (af 0)) (gN 0) jX (al (af 0) (cI 0) aQ))) (app (jb (af 0) aa) bw) eS))))
def jy:List D->ao D:=ba true 1 (x9 jm)
def jE (a:TC):Sl->ao bN:=
 (p9 (fj (bi (aX (j4 1 a (jb (af 1) aa)))) (kO "NoPaper") (YW EW)) (YW (vI 0 "Numbers" "products" (app (jb (j8 false 2 [] (dj (af 1)) (g2 (gN 0) (gN 1)) jX (aw (jb (af 0) (jb (app (jb (af 1) aa) WJ) aa)))) aa) XQ))))
def jv:FO:=QK 2 1 (jE jy)
def JD (a:FO):Sl->ao bF:=
 (au (jL 1 (cI 0)) (au (jL 2 cN) (au (io ["NoPaper"] (jL 2 (xZ "Numbers" 1 a (jb (af 0) aa))) 3 (jL 1 (i5 (app (jb (nV (n9 ["NoPaper"] (af 3)) (n9 ["NoPaper"] (af 3)) true) aa) Vf)))) (aZ (aw (jb (af 1) (jb (af 2) aa)))))))
def zJ:List D->ao D:=ba true 4 (JD jv)
def wz:Sl->ao bF:=
 (aZ (j8 false 1 [0] (uy (og "Numbers" "products" (cH 0))) (gN 0) jX (aw (jb (af 0) (jb (app (jb (al (og "Numbers" "products" (cH 1)) (af 0) mo) aa) WJ) aa)))))
def jH:List D->ao D:=ba true 1 (wz)
def yM:Sl->ao bF:=
 (au (jL 1 (al (al (cI 10) (cI 60) dA) (al (cI 10) (cI 24) dA) fb)) (aZ (al (al (al (al (af 0) (al (cI 10) (cI 60) dA) aY) (cI 41) bj) (al (cI 23) (cI 64) dA) fb) (af 1) aY)))
def zm:List D->ao D:=ba true 2 (yM)
def yN:Sl->ao bF:=
 (au (cp (dY (bi (aX (i9 "list" (af 0)))) (aX (al (af 0) (af 1) ei))) (aZ (cB false)) cn) (au (dZ (dj (af 0)) (gN 2) (cp (dY (bi (aX (i9 "tuple" (af 2)))) (bi (aX (i9 "list" (al (af 2) (cI 1) aQ))))) (aZ (cB false)) cn)) (aZ (cB true))))
def zT:List D->ao D:=ba true 3 (yN)
def Fo (d:TC) (e:TC) (a:TC) (g:TC) (c:TC) (h:FO):Sl->ao bF:=
 (au (dZ (dj (qL (af 0) xB (wE (cI 30)) Cz)) (gN 1) (rg 0 (lh 3 4 1 d (jb (j4 1 g (jb (af 1) aa)) aa) (gR (jL 2 (ls (af 3))) (kG 5 6 (j4 1 e (jb (af 3) aa)) (AZ (dY (aX (al (ls (af 3)) (af 2) ei)) (aX (al (af 5) (app (jb (nW (af 4)) aa) Vf) ei))) (aZ (cB false)) (Dq (pO (af 4)) (gR (jL 7 (j8 false 2 [] (dj (af 3)) (g2 (gN 0) (gN 1)) jX (aw (jb (af 0) (jb (app (jb (af 1) aa) WJ) aa))))) (dX 3 9 10 (au (cp (dY (bi (aX (qI ["Numbers"] (af 6)))) (bi (aX (j4 2 c (jb (Yx "Numbers" "told" 1 a (af 6)) (jb (af 7) aa)))))) (aZ (cB false)) cn) (ix 8 "Numbers" "told" 1 a (af 6) (dX 8 9 10 (cp (bi (aX (j4 2 c (jb (Yx "Numbers" "told" 1 a (af 6)) (jb (af 7) aa))))) (aZ (cB false)) cn))))))))))))) (aZ (al (Yx "Numbers" "told" 1 a (ER (xZ "Numbers" 1 h (jb (bc aa) aa)))) (bc aa) eS)))
def my:List D->ao D:=ba true 11 (Fo zl zJ jH zm zT jv)
structure Gm (K:ay) (TY TL TM TR TU TQ T5 TN TV TW T3 TZ T0 T4 TK:Addr) (mg:Xd):Prop where
 aD:mg "isinstance" =none
 ri:mg "bool" =none
 mz:mg "int" =none
 gT:mg "all" =none
 cL:mg "list" =none
 bJ:mg "len" =none
 oW:mg "set" =none
 dk:mg "range" =none
 w4:mg "any" =none
 bO:mg "tuple" =none
 de:mg "divmod" =none
 w6:mg "str" =none
 rj:mg "dict" =none
 gt:mg "ValueError" =none
 mB:mg "repr" =none
 lu: ∃t,mg "LETTERS" =some (.str "abcdefghijklmnopqrstuvwxyz" t)
 ft: ∃t,mg "MOST_LETTERS" =some (.int 8 t)
 fN: ∃t,mg "MOST_PLACES" =some (.int 9 t)
 eN: ∃t,mg "MOST_NUMBERED" =some (.int 60 t)
 eO: ∃t,mg "MOST_PRODUCTS" =some (.int 40 t)
 gu: ∃t,mg "MOST_POWER" =some (.int 2 t)
 bE:ml K "Numbers" "products"
 fV:mg "NoPaper" =some (.ref TY)
 mC:mg "NoHead" =some (.ref TL)
 mD:mg "NoLine" =some (.ref TM)
 mE:mg "NoName" =some (.ref TR)
 mF:mg "NoPair" =some (.ref TU)
 mG:mg "NoPath" =some (.ref TQ)
 iz:mg "NoReason" =some (.ref T5)
 mH:mg "NoRule" =some (.ref TN)
 mI:mg "NoStep" =some (.ref TV)
 mJ:mg "NoText" =some (.ref TW)
 iA:mg "TooGreat" =some (.ref T3)
 lv:mg "TooLong" =some (.ref TZ)
 lw:mg "TooMany" =some (.ref T0)
 iB:mg "EndError" =some (.ref T4)
 oo:mg "Paper" =some (.ref TK)
 lx:gn K "NoPaper" TY
 ly:t3 K TY [.type "ValueError",.type "Exception",.type "BaseException",.type "object"] "ValueError.__new__" =true
 lz: ∀c,[("NoPaper" :Str)].contains c=true-> ∀C,gn K c C->q9 K (.ref C) (.ref TY)=some true
 gv: ∀c,[("NoPaper" :Str)].contains c=true-> ∀C,gn K c C->eV K (.ref C) (.type "ValueError")=some true
 iC: ∀c,[("NoPaper" :Str)].contains c=true-> ∀C,gn K c C->eV K (.ref C) (.ref T4)=some true
 mK: ∀c,[("Numbers" :Str)].contains c=true-> ∀C,gn K c C->eV K (.ref C) (.ref TK)=some true
 iD: ∀c,[("NoPaper" :Str)].contains c=true-> ∀C,gn K c C-> ∀q∈[TL,TM,TR,TU,TQ,T5,TN,TV,TW,T3,TZ,T0],q9 K (.ref C) (.ref q)=some false
def op:aC ["_law_number", "_law_product", "_law_many", "_law_odd", "_law_size", "_law_powers", "_law_at", "_law_power"] ["_law_number", "_law_product", "_law_many"] (jj qM):=gq
def oX:aC ["_law_number", "_law_products_here", "_law_many", "_law_way", "_law_at", "_law_again", "_law_odd", "_law_gone", "_law_found", "_law_k"] ["_law_number", "_law_products_here", "_law_many"] (jj qD):=gq
def xz:aC ["_law_number", "_law_one", "_law_products_here", "_law_way", "_law_odd"] ["_law_number", "_law_one", "_law_products_here"] (jj zn):=gq
def rk:aC ["_law_number", "_law_many", "_law_found", "_law_seen", "_law_k", "_law_powers", "_law_j"] ["_law_number", "_law_many"] (jj zx):=gq
def rl:aC ["_law_number", "_law_many", "_law_letters_here", "_law_found", "_law_k", "_law_at"] ["_law_number", "_law_many"] (jj zV):=gq
def mL:aC ["_law_number", "_law_many", "_law_letters_here", "_law_front", "_law_behind", "_law_start", "_law_some", "_law_k", "_law_name", "_law_places"] ["_law_number", "_law_many"] (jj wK):=gq
def mM:aC ["_law_number", "_law_paper", "_law_way", "_law_many", "_law_at", "_law_more"] ["_law_number"] (jj wJ):=gq
def Lg:aC ["thing"] ["thing"] (jj Je):=gq
def Lh:aC ["thing"] ["thing"] (jj yp):=gq
def Li:aC ["thing"] ["thing"] (jj Jf):=gq
def Lj:aC ["thing", "count"] ["thing", "count"] (jj wI):=gq
def DF:aC ["thing", "listed", "count"] ["thing"] (jj wl):=gq
def Lk:aC ["thing"] ["thing"] (jj wm):=gq
def Ll:aC ["self", "products"] ["self", "products"] (jj qw):=gq
def sD:aC ["_law_thing_here", "_law_told", "_law_found", "e"] ["_law_thing_here"] (jj xK):=gq
def Lm:aC ["self"] ["self"] (jj zo):=gq
def Fp:aC ["_law_cell", "_law_bound"] ["_law_cell"] (jj wM):=gq
def Fq:aC ["_law_found", "_law_due", "_law_one"] ["_law_found", "_law_due"] (jj wN):=gq
def oq:aC ["_law_script", "_law_cell", "_law_kept", "_law_thing_here", "_law_good", "_law_told", "_law_found", "_law_due", "_law_again", "_law_one", "_law_products_here"] ["_law_script"] (jj QJ):=gq
section
variable (P:bI) (w:World) (K:ay) (mg:Xd) (ae:Heap) (k:Nat)
abbrev qT (f:TC):Prop:=Av P w K mg ae k "_law_odd_product" ["_law_number", "_law_product", "_law_many"] false f
abbrev qF (f:TC):Prop:=Av P w K mg ae k "_law_odd_products" ["_law_number", "_law_products_here", "_law_many"] false f
abbrev zt (f:TC):Prop:=Av P w K mg ae k "_law_odd_entry" ["_law_number", "_law_one", "_law_products_here"] false f
abbrev zI (f:TC):Prop:=Av P w K mg ae k "_law_products" ["_law_number", "_law_many"] true f
abbrev zZ (f:TC):Prop:=Av P w K mg ae k "_law_letters" ["_law_number", "_law_many"] false f
abbrev xm (f:TC):Prop:=Av P w K mg ae k "_law_heads" ["_law_number", "_law_many"] true f
abbrev xl (f:TC):Prop:=Av P w K mg ae k "_law_thing" ["_law_number"] true f
abbrev JS (f:TC):Prop:=Av P w K mg ae k "is_name" ["thing"] true f
abbrev xy (f:TC):Prop:=Av P w K mg ae k "is_whole" ["thing"] true f
abbrev JT (f:TC):Prop:=Av P w K mg ae k "is_head" ["thing"] true f
abbrev xk (f:TC):Prop:=Av P w K mg ae k "is_product" ["thing", "count"] true f
abbrev wu (f:TC):Prop:=Av P w K mg ae k "is_numbered" ["thing"] true f
abbrev wv (f:TC):Prop:=Av P w K mg ae k "are_numbers" ["thing"] true f
abbrev j5 (f:FO):Prop:=lc P w K mg ae k "Numbers" 1 f
abbrev xR (f:TC):Prop:=Av P w K mg ae k "_law_made" ["_law_thing_here"] true f
abbrev zu (f:TC):Prop:=hH P w K mg ae k "Numbers" "told" ["self"] true f
abbrev xn (f:TC):Prop:=Av P w K mg ae k "_law_great" ["_law_cell"] true f
abbrev xo (f:TC):Prop:=Av P w K mg ae k "_law_alike" ["_law_found", "_law_due"] true f
end
section
variable {P:bI} {w:World} {K:ay} {mg:Xd} {ae:Heap} {k:Nat} {C:Addr} {t Q Y N z B O y Z U J L I u v:Addr}
variable (T:Gm K t Q Y N z B O y Z U J L I u v mg)
include T
theorem xM (d:Dx K mg "_law_odd_product" qM ["_law_number", "_law_product", "_law_many"]):
  qT P w K mg ae (k+1) (ba false 8 (qj)):=
 xD false d op λf c A a s H E e=>
  (jg (by exact (Qw (dv 1) (xf rfl (jx 4 op.nd) (jx 5 op.nd)))) (by exact (jg (by exact (wC 3 op.nd (jU (ja (by exact (DE.s (jt (ja cT (ja (dv 5) jf))))) (ja (by exact (DE.s (jt (ja (by exact (VH (l':= .s) ib)) (ja (dv 5) jf))))) (ja (by exact (DE.s (jt (ja (by exact (DE.s (jG qd qe (dL KC KJ ib ib) cT))) (ja (dv 5) jf))))) (ja (by exact (DE.s (jt (ja (zr (l:= .s)) (ja (dv 5) jf))))) (ja (by exact (DE.s (jt (ja (yR (l:= .s)) (ja (dv 5) jf))))) (ja (by exact (DE.s (jt (ja (xH (l:= .s)) (ja (dv 5) jf))))) jf))))))))) (by exact (jg (by exact (ye 3 (wC 3 op.nd (jG qd qe (dv 3) (DE.s (jU (ja (by exact (DE.s (jt (ja (dv 5) (ja cT jf))))) (ja (by exact (DE.s (jt (ja (dv 4) (ja (by exact (DE.s (zg zi Zm rfl T.cL qu (ja (dv 5) jf)))) jf))))) (ja (by exact (DE.s (jt (ja (dv 4) (ja (by exact (DE.s (jG qd qe (dv 5) (DE.s (jt (ja cT jf)))))) jf))))) (ja (by exact (DE.s (jU (ja (dv 4) (ja (dv 5) jf))))) (ja (by exact (DE.s (jt (ja (dv 4) jf)))) jf))))))))))) (by exact (jg (by exact (ye 3 (wC 3 op.nd (jG qd qe (dv 3) (DE.s (jU (ja (by exact (DE.s (jt (ja (dv 4) (ja (dv 5) (ja cT jf)))))) (ja (yR (l:= .s)) (ja cT (ja (dv 5) jf)))))))))) (by exact (jg (by exact (q8 (j9 KF KK (vb 2) ib) (jg (by exact (jP 6 op.nd (dL qN qO (ob j6 j7 (vb 0) ib) (vb 2)))) (by exact (jg (by exact (yQ nA rfl (zF (DE.s (jU (ja cT (ja (by exact (VH (l':= .s) ib)) (ja (zr (l:= .s)) (ja (yR (l:= .s)) (ja (xH (l:= .s)) jf)))))))) (jx 7 op.nd) (jo (zE 3 (DE.s (jt (ja (dv 4) (ja (by exact (DE.s (jG qd qe (DE.s (jG qd qe (DE.s (zw (dv 5) zX (zW (vb 6)))) (DE.s (jt (ja (dv 7) jf))))) (DE.s (zw (dv 5) (zW (DE.b (jG qd qe (dv 6) cT))) zX))))) jf)))))))) (by exact (jo (ye 3 (wC 3 op.nd (jG qd qe (dv 3) (DE.s (jU (ja (by exact (DE.s (jt (ja (dv 4) (ja (by exact (DE.s (zw (dv 5) (zW ib) zX))) jf))))) (ja (by exact (DE.s (jt (ja (dv 4) (ja cT jf))))) jf)))))))))))) jK)) (by exact (jo (Zi (Qy 3 (J7 (vb 0) (jD (l':= .b) jO zh rfl T.bJ gU (ja (db 3) jf))))))))))))))))
theorem xA (d:Dx K mg "_law_odd_products" qD ["_law_number", "_law_products_here", "_law_many"]) (i:qT P w K mg ae k j):
  qF P w K mg ae (k+1) (ba false 10 (zC j)):=
 xD false d oX λf m A e s H E c=>
  (jg (by exact (jP 3 oX.nd (dL qN qO (vb 0) ib))) (by exact (jg (by exact (jP 4 oX.nd (dL qN qO (ob j6 j7 (vb 0) ib) (jD (l':= .b) jO zh rfl T.bJ gU (ja (vb 1) jf))))) (by exact (jg (by exact (q8 (j9 (wO (aH.bQ c)) Jq (vb 3) ib) (jg (by exact (jP 5 oX.nd (qg (dv 1) (J7 (ob j6 j7 (vb 0) ib) (jD (l':= .b) jO zh rfl T.bJ gU (ja (vb 1) jf)))))) (by exact (jo (jN (jG qd qe (DE.s (jG qd qe (DE.s (zw (dv 1) zX (zW (vb 4)))) (DE.s (jU (ja (dv 5) jf))))) (DE.s (zw (dv 1) (zW (vb 4)) zX))))))) jK)) (by exact (jg (by exact (q8 (j9 (wO (aH.bQ c)) Jq (vb 3) ib) (jg (by exact (jP 6 oX.nd (DE.s (jU (ja (by exact (DE.s (zg qS yj rfl T.bO nB (ja (dv 1) jf)))) (ja (DE.s (jU jf)) (ja (yR (l:= .s)) (ja cT (ja (DE.s XS) (ja (by exact (qg (dv 1) ib)) (ja (by exact (DE.s (jU (ja (dv 1) jf)))) (ja (DE.s (jt jf)) jf)))))))))))) (by exact (jo (Zi (qg (dv 6) (J7 (ob j6 j7 (vb 0) ib) ib)))))) jK)) (by exact (jg (by exact (q8 (DW.dt (Z1 (j9 (wO (aH.bQ c)) Jq (vb 3) ib) (JJ (j9 KF KK (vb 2) ib)))) (jg (by exact (jP 7 oX.nd (dL qN qO (ob j6 j7 (vb 0) ib) (vb 2)))) (by exact (jo (jN (zG false ["_law_size", "_law_powers", "_law_gone", "."] 2 [7] (qR none rfl rfl (by decide+kernel) ⟨rfl,trivial⟩ rfl) rfl (zF (dv 1)) (λC g h n a=>⟨(xf rfl (jx 0 a) (jx 1 a)),qQ,(DE.s (jt (ja (dv 0) (ja (by exact (DE.s (jG qd qe (DE.s (jG qd qe (DE.s (zw (dv 1) zX (zW (vb 2)))) (DE.s (jt (ja cT jf))))) (DE.s (zw (dv 1) (zW (DE.b (jG qd qe (dv 2) cT))) zX))))) jf))))⟩)))))) jK)) (by exact (jg (by exact (q8 (DW.dt (Z1 (j9 (wO (aH.bQ c)) Jq (vb 3) ib) (JJ (j9 KF KK (vb 2) ib)))) (jg (by exact (wC 8 oX.nd (jU jf))) (by exact (jg (by exact (yQ nA rfl (we rfl T.dk (ja ib jf)) (jx 9 oX.nd) (jo (zE 8 (DE.s (jt (ja (by exact (DE.s (jG qd qe cT (dv 9)))) (ja (by exact (DE.s (jG qd qe (DE.s (jt (ja (by exact (dL qN qO (vb 9) ib)) (ja (by exact (dL qN qO (ob j6 j7 (vb 9) ib) ib)) (ja (by exact (dL qN qO (ob j6 j7 (vb 9) ib) ib)) (ja (by exact (DE.s (jG qd qe cT (dL j6 j7 (vb 9) ib)))) jf)))))) (DE.s (jG Xo Xs (DE.s (jt (ja cT jf))) (dL Gh Hj (vb 2) ib)))))) jf)))))))) (by exact (jo (WV 8)))))) jK)) (by exact (jo (jN (jG qd qe (DE.s (jG qd qe (DE.s (zw (dv 1) zX (zW (vb 4)))) (DE.s (jU (ja (by exact (by exact Av.call i c (ja (by exact (dL j6 j7 (vb 0) ib)) (ja (by exact (qg (dv 1) (vb 4))) (ja (dv 2) jf))))) jf))))) (DE.s (zw (dv 1) (zW (DE.b (jG qd qe (dv 4) cT))) zX)))))))))))))))))
theorem yx (d:Dx K mg "_law_odd_entry" zn ["_law_number", "_law_one", "_law_products_here"]) (e:qF P w K mg ae k g):
  zt P w K mg ae (k+1) (ba false 5 (wy g)):=
 xD false d xz λf h A a s H E c=>
  (jg (by exact (jP 3 xz.nd (dL qN qO (vb 0) ib))) (by exact (jg (by exact (wC 4 xz.nd (jU (ja (by exact (DE.s (jt (ja (dv 1) jf)))) (ja (by exact (DE.s (jt (ja (dv 1) (ja (dv 2) (ja cT jf)))))) (ja (by exact (DE.s (jU (ja (dv 1) (ja (dv 2) jf))))) (ja (by exact (DE.s (jt (ja (dv 2) (ja (dv 1) jf))))) (ja (dv 1) (ja (yR (l:= .s)) (ja (by exact (DE.s (jt (ja (by exact (qg (dv 1) ib)) (ja (dv 2) jf))))) (ja (by exact (DE.s (jt (ja (DE.s (jt jf)) (ja (dv 2) jf))))) jf))))))))))) (by exact (jg (by exact (ye 4 (wC 4 xz.nd (jG qh qW (dv 4) (DE.s (jU (ja (by exact (DE.s (jt (ja (by exact (DE.s (jt (ja (by exact (qg (dv 1) ib)) (ja cT jf))))) (ja (dv 2) jf))))) (ja (by exact (DE.s (jt (ja (by exact (DE.s (jt (ja (by exact (qg (dv 1) ib)) (ja (by exact (VH (l':= .s) ib)) jf))))) (ja (dv 2) jf))))) (ja (by exact (DE.s (jt (ja (by exact (DE.s (zg zi Zm rfl T.cL qu (ja (dv 1) jf)))) (ja (dv 2) jf))))) (ja (by exact (DE.s (jt (ja (by exact (DE.s (jt (ja (xH (l:= .s)) (ja (by exact (qg (dv 1) ib)) jf))))) (ja (dv 2) jf))))) jf)))))))))) (by exact (jg (by exact (ye 4 (wC 4 xz.nd (jG qh qW (dv 4) (DE.s (jU (ja (by exact (DE.s (jt (ja (by exact (DE.s (jt (ja (by exact (qg (dv 1) ib)) (ja (zr (l:= .s)) jf))))) (ja (by exact (DE.s (jU (ja (by exact (DE.s (jt (ja cT (ja (by exact (DE.s (jt (ja cT jf)))) jf))))) jf)))) jf))))) (ja (by exact (DE.s (jt (ja (by exact (DE.s (jt (ja (by exact (DE.s (jG qh qW (qg (dv 1) ib) (xH (l:= .s))))) (ja (by exact (qg (dv 1) ib)) jf))))) (ja (dv 2) jf))))) jf)))))))) (by exact (jg (by exact (zE 4 (DE.s (jt (ja (by exact (DE.s (jt (ja (by exact (DE.s (jG qh qW (xH (l:= .s)) (qg (dv 1) ib)))) (ja cT jf))))) (ja (dv 2) jf)))))) (by exact (jg (by exact (q8 (j9 (wO (aH.bQ c)) Jq (vb 3) ib) (jo (Zi (Qy 4 (J7 (ob j6 j7 (vb 0) ib) (jD (l':= .b) jO zh rfl T.bJ gU (ja (db 4) jf)))))) jK)) (by exact (jo (jN (jt (ja (dv 1) (ja (by exact (by exact Av.call e c (ja (by exact (dL j6 j7 (vb 0) ib)) (ja (dv 2) (ja (by exact (qg (dv 1) ib)) jf))))) jf)))))))))))))))))
theorem yV (d:Dx K mg "_law_products" zx ["_law_number", "_law_many"]):
  zI P w K mg ae (k+1) (ba true 7 (zB)):=
 xD true d rk λf e A a s H E c=>
  (jg (by exact (wC 2 rk.nd (jU jf))) (by exact (jg (by exact (wC 3 rk.nd (jU jf))) (by exact (jg (by exact (yQ nA rfl (we rfl T.dk (ja (by exact (DE.b (jG qh qW (dv 1) cT))) jf)) (jx 4 rk.nd) (jg (by exact (wC 5 rk.nd (jU jf))) (by exact (jg (by exact (yQ nA rfl (we rfl T.dk (ja (vb 1) jf)) (jx 6 rk.nd) (jg (by exact (jP 0 rk.nd (dL qN qO (DE.b (jG qh qW (DE.s (jG qh qW (dL Jn ZN (vb 0) ib) (dL Jn ZN ib (vb 6)))) (dv 4))) ib))) (by exact (jo (zE 5 (dL qN qO (vb 0) ib))))))) (by exact (jg (by exact (q8 (DW.dt (Z1 (j9 Ea EI (vb 4) (vb 1)) (JJ (j9 (wO (aH.bQ c)) Jq (DE.b (Qy 5 (vb 4))) ib)))) (jo (XM 5 (vb 4) (DE.s (jG qh qW cT (dL qN qO (ob j6 j7 (vb 0) ib) ib))))) jK)) (by exact (jo (q8 (j9 (ue (aH.bQ c)) (HE true) (wf qS yj rfl T.bO nB (ja (db 5) jf)) (db 3)) (jg (by exact (zE 3 (DE.i5 (l':= .s) (wf qS yj rfl T.bO nB (ja (db 5) jf))))) (by exact (jo (zE 2 (DE.s (jt (ja (by exact (qg (DE.s (jU (ja cT (ja (by exact (dL KC KJ ib ib)) (ja (by exact (DE.s (jG qh qW cT (dL qN qO (ob j6 j7 (vb 0) ib) ib)))) jf))))) (J7 (ob j6 j7 (vb 0) ib) ib))) (ja (by exact (DE.i5 (l':= .s) (wf qS yj rfl T.bO nB (ja (db 5) jf)))) jf)))))))) jK)))))))))) (by exact (jo (WV 2))))))))
theorem Jo (d:Dx K mg "_law_letters" zV ["_law_number", "_law_many"]):
  zZ P w K mg ae (k+1) (ba false 6 (zd)):=
 xD false d rl λf c A a s H E e=>
  (jg (by exact (jP 2 rl.nd (xH (l:= .s)))) (by exact (jg (by exact (jP 3 rl.nd (xH (l:= .s)))) (by exact (jg (by exact (yQ nA rfl (we rfl T.dk (ja (vb 1) jf)) (jx 4 rl.nd) (jg (by exact (Qw (DE.s (yf zH xi rfl T.de zj (ja (dv 0) (ja cT jf)))) (xf rfl (jx 0 rl.nd) (jx 5 rl.nd)))) (by exact (jo (jP 3 rl.nd (DE.s (jG qh qW (dv 3) (qg (dv 2) (vb 5)))))))))) (by exact (jo (Zi (dv 3)))))))))
theorem QW (d:Dx K mg "_law_heads" wK ["_law_number", "_law_many"]) (c:zZ P w K mg ae k g):
  xm P w K mg ae (k+1) (ba true 10 (zQ g)):=
 xD true d mL λf h A a s H E e=>
  (jg (by exact (jP 2 mL.nd (xH (l:= .s)))) (by exact (jg (by exact (jP 3 mL.nd (by exact Av.call c e (ja (by exact (dL j6 j7 (vb 0) ib)) (ja (by exact (dL qN qO (vb 0) ib)) jf))))) (by exact (jg (by exact (jP 4 mL.nd (by exact Av.call c e (ja (by exact (dL j6 j7 (vb 0) ib)) (ja (by exact (dL qN qO (ob j6 j7 (vb 0) ib) ib)) jf))))) (by exact (jg (by exact (jP 5 mL.nd (dL qN qO (ob j6 j7 (vb 0) ib) ib))) (by exact (jg (by exact (wC 6 mL.nd (jU jf))) (by exact (jg (by exact (yQ nA rfl (we rfl T.dk (ja (vb 1) jf)) (jx 7 mL.nd) (jg (by exact (Qw (DE.s (yf zH xi rfl T.de zj (ja (dv 0) (ja cT jf)))) (xf rfl (jx 0 mL.nd) (jx 9 mL.nd)))) (by exact (jg (by exact (jP 8 mL.nd (DE.s (jG qh qW (dv 3) (qg (dv 2) (J7 (DE.b (jG qh qW (dv 5) (dv 7))) ib)))))) (by exact (jg (by exact (jP 8 mL.nd (DE.s (jG qh qW (DE.s (jG qh qW (dv 8) (qg (dv 2) (J7 (DE.b (jG qh qW (dv 5) (dL j6 j7 (vb 7) ib))) ib)))) (dv 4))))) (by exact (jo (zE 6 (DE.s (jt (ja (dv 8) (ja (dv 9) jf)))))))))))))) (by exact (jo (WV 6))))))))))))))
theorem QV (d:Dx K mg "_law_thing" wJ ["_law_number"]) (j:zt P w K mg ae k m) (n:zI P w K mg ae k o) (i:xm P w K mg ae k p):
  xl P w K mg ae (k+1) (ba true 6 (wT m o p)):=
 xD true d mM λf q A h s H E c=>
  (jg (by exact (Qw (DE.s (yf zH xi rfl T.de zj (ja (dv 0) (ja cT jf)))) (xf rfl (jx 0 mM.nd) (jx 2 mM.nd)))) (by exact (jg (by exact (Qw (DE.s (yf zH xi rfl T.de zj (ja (dv 0) (ja cT jf)))) (xf rfl (jx 0 mM.nd) (jx 3 mM.nd)))) (by exact (jg (by exact (Qw (DE.s (yf zH xi rfl T.de zj (ja (dv 0) (ja cT jf)))) (xf rfl (jx 0 mM.nd) (jx 4 mM.nd)))) (by exact (jg (by exact (q8 (j9 (wO (aH.bQ c)) Jq (vb 2) ib) (jo (jP 3 mM.nd cT)) jK)) (by exact (jg (by exact (u8 1 mM.nd false ["_law_one", "_law_number", "."] 1 [0] (qR none rfl rfl (by decide+kernel) ⟨rfl,trivial⟩ rfl) rfl (zF (DE.s (by exact Av.ci i c (ja (dv 0) (ja (dv 3) jf))))) (λC e g r a=>⟨(jx 0 a),qQ,(DE.s (jt (ja (dv 0) (ja (by exact (DE.s (by exact Av.ci n c (ja (by exact (DE.s (jG qh qW (dL j6 j7 (vb 1) ib) (dL Jn ZN (jD (l':= .b) jO zh rfl T.bJ gU (ja (by exact (DE.b (qg (dv 0) ib))) jf)) (DE.b (qg (dv 0) ib)))))) (ja (by exact (qg (dv 0) ib)) jf))))) jf))))⟩))) (by exact (jg (by exact (q8 (DW.dt (Z1 (j9 Ea EI (vb 2) ib) (JJ (j9 (xE (aH.bQ c)) J5 (db 1) (DE.b (jU jf)))))) (jg (by exact (jP 4 mM.nd (dL qN qO (vb 4) (jD (l':= .b) jO zh rfl T.bJ gU (ja (db 1) jf))))) (by exact (jg (by exact (XM 1 (vb 4) (by exact Av.call j c (ja (dv 0) (ja (by exact (qg (Qy 1 (vb 4)) ib)) (ja (by exact (qg (Qy 1 (vb 4)) ib)) jf)))))) (by exact (jo (ye 1 (jN (jt (ja (dv 1) (ja (zr (l:= .s)) jf)))))))))) jK)) (by exact (jg (by exact (q8 (DW.dt (Z1 (j9 (wO (aH.bQ c)) Jq (vb 2) ib) (JJ (j9 (xE (aH.bQ c)) J5 (db 1) (DE.b (jU jf)))))) (jg (by exact (VB 1 (by exact (J7 (vb 4) (jD (l':= .b) jO zh rfl T.bJ gU (ja (db 1) jf)))) (by exact (Qy 1 (J7 (vb 0) (jD (l':= .b) jO zh rfl T.bJ gU (ja (db 1) jf))))))) (by exact (jo (ye 1 (jN (jt (ja (dv 1) (ja (zr (l:= .s)) jf)))))))) jK)) (by exact (jg (by exact (q8 (j9 (wO (aH.bQ c)) Jq (vb 2) ib) (jg (by exact (ko 5 mM.nd false ["_law_one", "."] 1 [] (qR none rfl rfl (by decide+kernel) trivial rfl) rfl (zF (DE.s (by exact Av.ci i c (ja (dv 0) (ja cT jf))))) (λC e g r a=>⟨(jx 0 a),qQ,(DE.s (jt (ja (dv 0) (ja (by exact (DE.s (jU (ja (by exact (DE.s (jt (ja cT (ja (by exact (DE.s (jG Xo Xs (DE.s (jt (ja cT jf))) (qg (dv 0) ib)))) jf))))) jf)))) jf))))⟩))) (by exact (jo (ye 1 (jN (jt (ja (by exact (qg (DE.s (jU (ja (by exact (DE.s (zg qS yj rfl T.bO nB (ja (dv 1) jf)))) (ja (yR (l:= .s)) (ja cT (ja (xH (l:= .s)) (ja (DE.s XS) (ja (zr (l:= .s)) (ja (by exact (DE.s (jU (ja (dv 1) jf)))) (ja (by exact (DE.s (jU (ja (yR (l:= .s)) jf)))) (ja (dv 5) jf))))))))))) (J7 (vb 0) ib))) (ja (zr (l:= .s)) jf)))))))) jK)) (by exact (jo (ye 1 (jN (jt (ja (dv 1) (ja (zr (l:= .s)) jf))))))))))))))))))))))
theorem Yq (d:Dx K mg "is_name" Je ["thing"]):
  JS P w K mg ae (k+1) (ba true 1 (x6)):=
 xD true d Lg λf h A c s H E i=>
  (jg (by exact (q8 (DW.dt (yC (qz (qY (wq (l':= .b) "str" "str" UU (vb 0) rfl T.aD rfl T.w6 PyProof.Rows.boot_str))) (wB (qz (Zh J0 J6 J0 J6 ib (jD (l':= .b) jO zh rfl T.bJ gU (ja (vb 0) jf)) (gi rfl T.ft)))))) (jo (jN (zr (l:= .t)))) jK)) (by exact (jo (jN (jD (l':= .t) (xj rfl) Z7 rfl T.gT xI (ja (by exact (DE.b (zG false ["sign", "."] 1 [] (qR none rfl rfl (by decide+kernel) trivial rfl) rfl (zF (dv 0)) (λC e g j a=>⟨(jx 0 a),qQ,(XT (l:= .s) KD Hk (vb 0) (Ih rfl T.lu))⟩)))) jf))))))
theorem WE (d:Dx K mg "is_whole" yp ["thing"]):
  xy P w K mg ae (k+1) (ba true 1 (Qt)):=
 xD true d Lh λf c A a s H E e=>
  (jo (jN (Z3 (wq (l':= .b) "int" "int" UV (vb 0) rfl T.aD rfl T.mz DH) (XR (vo (l:= .t) (wq (l':= .b) "bool" "bool" Vc (vb 0) rfl T.aD rfl T.ri PyProof.Rows.boot_bool))))))
theorem Yr (d:Dx K mg "is_head" Jf ["thing"]) (e:JS P w K mg ae k g) (h:xy P w K mg ae k i):
  JT P w K mg ae (k+1) (ba true 1 (x8 g i)):=
 xD true d Li λf j A a s H E c=>
  (jg (by exact (q8 (DW.dt (yC (qz (qY (wq (l':= .b) "tuple" "tuple" wd (vb 0) rfl T.aD rfl T.bO nB))) (wB (j9 (xE (aH.bQ c)) J5 (jD (l':= .b) jO zh rfl T.bJ gU (ja (vb 0) jf)) ib)))) (jo (jN (zr (l:= .t)))) jK)) (by exact (jo (jN (Z3 (DE.b (by exact Av.ci e c (ja (by exact (qg (dv 0) ib)) jf))) (Z3 (DE.b (by exact Av.ci h c (ja (by exact (qg (dv 0) ib)) jf))) (XR (XU (l:= .t) J0 J6 J0 J6 ib (DE.b (qg (dv 0) ib)) (gi rfl T.fN)))))))))
theorem QU (d:Dx K mg "is_product" wI ["thing", "count"]) (g:xy P w K mg ae k j):
  xk P w K mg ae (k+1) (ba true 2 (zP j)):=
 xD true d Lj λf m A e s H E c=>
  (jg (by exact (q8 (DW.dt (yC (qz (qY (wq (l':= .b) "tuple" "tuple" wd (vb 0) rfl T.aD rfl T.bO nB))) (wB (j9 (xE (aH.bQ c)) J5 (jD (l':= .b) jO zh rfl T.bJ gU (ja (vb 0) jf)) ib)))) (jo (jN (zr (l:= .t)))) jK)) (by exact (jg (by exact (q8 (DW.dt (yC (qz (qY (DE.b (by exact Av.ci g c (ja (by exact (qg (dv 0) ib)) jf))))) (wB (qz (Zh J0 J6 J0 J6 ib (DE.b (qg (dv 0) ib)) (KL ib ib)))))) (jo (jN (zr (l:= .t)))) jK)) (by exact (jg (by exact (q8 (DW.dt (yC (qz (qY (wq (l':= .b) "tuple" "tuple" wd (DE.b (qg (dv 0) ib)) rfl T.aD rfl T.bO nB))) (wB (j9 (xE (aH.bQ c)) J5 (jD (l':= .b) jO zh rfl T.bJ gU (ja (by exact (DE.b (qg (dv 0) ib))) jf)) (vb 1))))) (jo (jN (zr (l:= .t)))) jK)) (by exact (jo (jN (jD (l':= .t) (xj rfl) Z7 rfl T.gT xI (ja (by exact (DE.b (zG false ["power", "."] 1 [] (qR none rfl rfl (by decide+kernel) trivial rfl) rfl (zF (qg (dv 0) ib)) (λC h i n a=>⟨(jx 0 a),qQ,(Z3 (DE.b (by exact Av.ci g c (ja (dv 0) jf))) (XR (XU (l:= .s) J0 J6 J0 J6 ib (vb 0) (gi rfl T.gu))))⟩)))) jf))))))))))
theorem J1 (d:Dx K mg "is_numbered" wl ["thing"]) (j:JT P w K mg ae k m) (n:xk P w K mg ae k o):
  wu P w K mg ae (k+1) (ba true 3 (x5 m o)):=
 xD true d DF λf p A h s H E g=>
  (jg (by exact (q8 (DW.dt (yC (qz (qY (wq (l':= .b) "tuple" "tuple" wd (vb 0) rfl T.aD rfl T.bO nB))) (yC (j9 (xE (aH.bQ g)) J5 (jD (l':= .b) jO zh rfl T.bJ gU (ja (vb 0) jf)) ib) (wB (qz (qY (DE.b (by exact Av.ci j g (ja (by exact (qg (dv 0) ib)) jf))))))))) (jo (jN (zr (l:= .t)))) jK)) (by exact (jg (by exact (jP 1 DF.nd (qg (dv 0) ib))) (by exact (jg (by exact (q8 (DW.dt (yC (qz (qY (wq (l':= .b) "list" "list" x4 (vb 1) rfl T.aD rfl T.cL qu))) (wB (qz (Zh J0 J6 J0 J6 ib (jD (l':= .b) jO zh rfl T.bJ gU (ja (vb 1) jf)) (gi rfl T.eO)))))) (jo (jN (zr (l:= .t)))) jK)) (by exact (jg (by exact (jP 2 DF.nd (qg (qg (dv 0) ib) ib))) (by exact (jg (by exact (q8 (qz (qY (jD (l':= .b) (xj rfl) Z7 rfl T.gT xI (ja (by exact (DE.b (zG false ["found", "count", "."] 1 [2] (qR none rfl rfl (by decide+kernel) ⟨rfl,trivial⟩ rfl) rfl (zF (dv 1)) (λC c e i a=>⟨(jx 0 a),qQ,(DE.s (by exact Av.ci n g (ja (dv 0) (ja (dv 1) jf))))⟩)))) jf)))) (jo (jN (zr (l:= .t)))) jK)) (by exact (jg (by exact (q8 (j9 (xE (aH.bQ g)) J5 (Qx rfl (aH.bQ g) (by exact (DE.b (zG false ["number", "powers", "."] 2 [] (qR none rfl rfl (by decide+kernel) trivial rfl) rfl (zF (dv 1)) (λC c e i a=>⟨(xf rfl (jx 0 a) (jx 1 a)),qQ,(dv 1)⟩)))) rfl T.bJ rfl T.oW) (jD (l':= .b) jO zh rfl T.bJ gU (ja (vb 1) jf))) (jo (jN (zr (l:= .t)))) jK)) (by exact (jo (jN (jD (l':= .t) (xj rfl) Z7 rfl T.gT xI (ja (by exact (DE.b (zG false ["place", "listed", "."] 1 [1] (qR (some "place") rfl rfl (by decide+kernel) ⟨rfl,trivial⟩ rfl) rfl (we rfl T.dk (ja (vb 2) jf)) (λC c e i a=>⟨(jx 0 a),qQ,(jD (l':= .s) (VW rfl) IH rfl T.w4 PyProof.Rows.boot_any (ja (by exact (DE.b (zG false ["number", "powers", "place", "."] 2 [0] (qR none rfl rfl (by decide+kernel) ⟨rfl,trivial⟩ rfl) rfl (zF (dv 1)) (λC c e i a=>⟨(xf rfl (jx 0 a) (jx 1 a)),qQ,(XT (l:= .s) KF KK (DE.b (qg (dv 1) (vb 2))) ib)⟩)))) jf))⟩)))) jf))))))))))))))))
theorem J2 (d:Dx K mg "are_numbers" wm ["thing"]) (i:wu P w K mg ae k j):
  wv P w K mg ae (k+1) (ba true 1 (x9 j)):=
 xD true d Lk λf m A g s H E h=>
  (jg (by exact (q8 (DW.dt (yC (qz (qY (wq (l':= .b) "list" "list" x4 (vb 0) rfl T.aD rfl T.cL qu))) (wB (j9 KF KK (jD (l':= .b) jO zh rfl T.bJ gU (ja (vb 0) jf)) (gi rfl T.eN))))) (jo (jN (zr (l:= .t)))) jK)) (by exact (jg (by exact (q8 (qz (qY (jD (l':= .b) (xj rfl) Z7 rfl T.gT xI (ja (by exact (DE.b (zG false ["found", "."] 1 [] (qR none rfl rfl (by decide+kernel) trivial rfl) rfl (zF (dv 0)) (λC c e n a=>⟨(jx 0 a),qQ,(DE.s (by exact Av.ci i h (ja (dv 0) jf)))⟩)))) jf)))) (jo (jN (zr (l:= .t)))) jK)) (by exact (jo (jN (XT (l:= .t) (wO (aH.bQ h)) Jq (Qx rfl (aH.bQ h) (by exact (DE.b (zG false ["found", "."] 1 [] (qR none rfl rfl (by decide+kernel) trivial rfl) rfl (zF (dv 0)) (λC c e n a=>⟨(jx 0 a),qQ,(qg (dv 0) ib)⟩)))) rfl T.bJ rfl T.oW) (jD (l':= .b) jO zh rfl T.bJ gU (ja (vb 0) jf)))))))))
theorem wP (d:Dm K C "__init__" "Numbers.__init__" qw ["self", "products"]) (m:bM K bv "Numbers" =some (some (.ref C))/\gK K C) (c:mg "Numbers" =some (.ref C)) (mk:sV K C=true/\h8 K (.ref C)=true) (n:wv P w K mg ae k o):
  j5 P w K mg ae (k+1) (QK 2 1 (jE o)):=
 IL d m c mk Ll rfl (by decide) λf p A e s H E g=>
  (YT (by exact (u4 (qz (qY (DE.b (by exact Av.ci n g (ja (dv 1) jf))))) (VA (YU T.lx T.fV T.ly PySem.F.excBase_ValueError (xH (l:= .b)) (λ_=>⟨_,rfl⟩))) (ky.x km))) (by exact (kj (kn (i:=0) T.bE (by exact (DE.s (zg (YX rfl (Ie g)) kB rfl T.rj YY (ja (by exact (DE.s (zG false ["found", "listed", "."] 2 [] (qR none rfl rfl (by decide+kernel) trivial rfl) rfl (zF (dv 1)) (λC h j q a=>⟨(xf rfl (jx 0 a) (jx 1 a)),qQ,(DE.s (jt (ja (dv 0) (ja (by exact (DE.s (zg zi Zl rfl T.cL qu (ja (dv 1) jf)))) jf))))⟩)))) jf))))))))
theorem ZL (d : Dx K mg "_law_made" xK ["_law_thing_here"]) {i : Nat} (m : j5 P w K mg ae i n) (o : i + 1 <= k) :
    xR P w K mg ae (k + 1) (ba true 4 (JD n)) :=
  xD true d sD λf p A c s H E r =>
    (jg (by exact (jP 1 sD.nd cT)) (by exact (jg (by exact (jP 2 sD.nd (yR (l := .s)))) (by exact (jg (by exact (u7 [("NoHead", Q, _), ("NoLine", Y, _), ("NoName", N, _), ("NoPair", z, _), ("NoPath", B, _), ("NoReason", O, _), ("NoRule", y, _), ("NoStep", Z, _), ("NoText", U, _), ("TooGreat", J, _), ("TooLong", L, _), ("TooMany", I, _)] ["NoPaper"] 3 sD.nd (λE' ps => by exact (kh (kg 2 sD.nd (n8.s (by exact lc.make m (r.mono o) (ja (dv 0) jf)))))) (λe => by exact (jo (jP 1 sD.nd (DE.i5 (l' := .s) (wf Z9 VQ rfl T.mz DH (ja (by exact (Z3 (HL (l' := .b) ["NoPaper"] "EndError" T.iC (vb 3) rfl T.aD rfl T.iB) (XR (HM (l' := .b) ["NoPaper"] "ValueError" "ValueError" T.gv (vb 3) rfl T.aD rfl T.gt yW)))) jf)))))) T.fV T.lz (λj a => by
      simp only [dP, List.not_mem_nil, or_false] at a
      rcases a with rfl | rfl | rfl | rfl | rfl | rfl | rfl | rfl | rfl | rfl | rfl | rfl
      . exact ⟨rfl, T.mC, (by decide : (("NoHead" : Str) == "__debug__") = false)⟩
      . exact ⟨rfl, T.mD, (by decide : (("NoLine" : Str) == "__debug__") = false)⟩
      . exact ⟨rfl, T.mE, (by decide : (("NoName" : Str) == "__debug__") = false)⟩
      . exact ⟨rfl, T.mF, (by decide : (("NoPair" : Str) == "__debug__") = false)⟩
      . exact ⟨rfl, T.mG, (by decide : (("NoPath" : Str) == "__debug__") = false)⟩
      . exact ⟨rfl, T.iz, (by decide : (("NoReason" : Str) == "__debug__") = false)⟩
      . exact ⟨rfl, T.mH, (by decide : (("NoRule" : Str) == "__debug__") = false)⟩
      . exact ⟨rfl, T.mI, (by decide : (("NoStep" : Str) == "__debug__") = false)⟩
      . exact ⟨rfl, T.mJ, (by decide : (("NoText" : Str) == "__debug__") = false)⟩
      . exact ⟨rfl, T.iA, (by decide : (("TooGreat" : Str) == "__debug__") = false)⟩
      . exact ⟨rfl, T.lv, (by decide : (("TooLong" : Str) == "__debug__") = false)⟩
      . exact ⟨rfl, T.lw, (by decide : (("TooMany" : Str) == "__debug__") = false)⟩) (λc9 g C9 h j a => T.iD c9 g C9 h j.2.1 (xO (f := λq => q.2.1) a)) (by decide : 12 <= 1000))) (by exact (jo (jN (jt (ja (dv 1) (ja (dv 2) jf)))))))))))
theorem yy (d:Dm K C "told" "Numbers.told" zo ["self"]) (h:bM K bv "Numbers" =some (some (.ref C))/\gK K C):
  zu P w K mg ae (k+1) (ba true 1 (wz)):=
 Ig true d h Lm λf i A c s H E j=>
  (jo (jN (zG false ["found", "self", "."] 1 [0] (qR none rfl rfl (by decide+kernel) ⟨rfl,trivial⟩ rfl) rfl (u9 (by exact (VJ 0 T.bE))) (λC e g l a=>⟨(jx 0 a),qQ,(DE.s (jt (ja (dv 0) (ja (by exact (DE.s (zg zi Zl rfl T.cL qu (ja (by exact (IJ (GP j) (by exact (VJ 1 T.bE)) (vb 0))) jf)))) jf))))⟩))))
theorem QX (d:Dx K mg "_law_great" wM ["_law_cell"]):
  xn P w K mg ae (k+1) (ba true 2 (yM)):=
 xD true d Fp λf c A a s H E e=>
  (jg (by exact (jP 1 Fp.nd (dL Jn ZN (KL ib ib) (KL ib ib)))) (by exact (jo (jN (VG (l:= .t) qN qO (ob Jn ZN (DE.b (jG qh qW (dL qN qO (vb 0) (KL ib ib)) cT)) (KL ib ib)) (vb 1))))))
theorem QY (d:Dx K mg "_law_alike" wN ["_law_found", "_law_due"]):
  xo P w K mg ae (k+1) (ba true 3 (yN)):=
 xD true d Fq λf c A a s H E e=>
  (jg (by exact (q8 (DW.dt (yC (qz (qY (VI (l':= .b) "list" "list" x4 (vb 0) rfl T.aD rfl T.cL qu))) (wB (j9 (xE (aH.bQ e)) J5 (vb 0) (vb 1))))) (jo (jN (zr (l:= .t)))) jK)) (by exact (jg (by exact (yQ nA rfl (zF (dv 0)) (jx 2 Fq.nd) (jo (q8 (DW.dt (yC (qz (qY (VI (l':= .b) "tuple" "tuple" wd (vb 2) rfl T.aD rfl T.bO nB))) (wB (qz (qY (VI (l':= .b) "list" "list" x4 (DE.b (qg (dv 2) ib)) rfl T.aD rfl T.cL qu)))))) (jo (jN (zr (l:= .t)))) jK)))) (by exact (jo (jN (zr (l:= .t))))))))
theorem Ln {f:Addr} {g:iK} (n:iO K "law" "law" QJ f g) (o:xl P w K mg ae k p) (q:xR P w K mg ae k r) (d:zu P w K mg ae k jW) (Wk:xn P w K mg ae k wY) (h:xo P w K mg ae k zS) {i:Nat} (qx:j5 P w K mg ae i jA) (qo:i+1<=k):
  cE P w K mg ae hD (k+1) f g ["_law_script"] (l5 K true 1 (ba true 11 (Fo p r jW wY zS jA))):=
 YQ true n oq λtw A e s H E a=>
  (jg (by exact (yQ nA rfl (zF (DE.s (VE (dv 0) zX (zW ib)))) (jx 1 oq.nd) (u0 0 (by exact (Av.lh o 3 4 a rfl oq.nd (ja (by exact (DE.s (by exact Av.ci Wk a (ja (dv 1) jf)))) jf) (by exact (Vx 2 oq.nd (VF a.gd (aH.bQ a) (vb 3) rfl T.mB) (by exact (Vz 5 6 rfl oq.nd (by exact (DE.s (by exact Av.ci q a (ja (dv 3) jf)))) (by exact (ki (by exact (DW.dt (yC (j9 (xE (aH.bQ a)) J5 (DE.b (VF a.gd (aH.bQ a) (vb 3) rfl T.mB)) (vb 2)) (wB (j9 (xE (aH.bQ a)) J5 (vb 5) (wf Z9 VQ rfl T.mz DH (ja (by exact (vo (l:= .b) (vb 4))) jf))))))) (by exact (jo (jN (zr (l:= .t))))) (by exact (Vy (GX (vb 4)) (by exact (YS 7 oq.nd false ["_law_one", "_law_products_here", "."] 2 [] (qR none rfl rfl (by decide+kernel) trivial rfl) rfl (zF (dv 3)) (λC j m fp c=>⟨(xf rfl (jx 0 c) (jx 1 c)),qQ,(DE.s (jt (ja (dv 0) (ja (by exact (DE.s (zg zi Zl rfl T.cL qu (ja (dv 1) jf)))) jf))))⟩) (by exact (XL 3 9 10 nA rfl oq.nd (by exact (jg (by exact (q8 (DW.dt (yC (qz (qY (IM (l':= .b) ["Numbers"] "Paper" T.mK (vb 6) rfl T.aD rfl T.oo))) (wB (qz (qY (DE.b (by exact Av.ci h a (ja (by exact (by exact hH.mx d a (dv 6))) (ja (dv 7) jf))))))))) (jo (jN (zr (l:= .t)))) jK)) (by exact (hH.ix d 8 a oq.nd (dv 6) (by exact (XL 8 9 10 nA rfl oq.nd (by exact (jo (q8 (qz (qY (DE.b (by exact Av.ci h a (ja (by exact (by exact hH.mx d a (dv 6))) (ja (dv 7) jf)))))) (jo (jN (zr (l:= .t)))) jK)))))))))))))))))))))))))) (by exact (jo (jN (XT (l:= .t) (wO (aH.bQ a)) Jq (DE.b (by exact hH.mx d a (by exact (DE.s (n8.bG (by exact lc.make qx (a.mono qo) (by exact (ja (DE.s (jU jf)) jf)))))))) (DE.b (jU jf)))))))
end
def all_mk {l:tu} {w:World} {K:ay} {h:Heap} {y:Xd} {fa DJ:Addr} (g:K.In h) (G:h.Ns bv y) (Lo:y "law" =some (.ref fa))
  {DK xS:Option Addr} {DL:Array (Option Value)} {DM ym yo yS ro yT:Value} {TY TL TM TR TU TQ T5 TN TV TW T3 TZ T0 T4 TK:Addr} {Q:Addr}
  (d0:cR K "_law_odd_product" qM)
  (d1:cR K "_law_odd_products" qD)
  (d2:cR K "_law_odd_entry" zn)
  (d3:cR K "_law_products" zx)
  (d4:cR K "_law_letters" zV)
  (d5:cR K "_law_heads" wK)
  (d6:cR K "_law_thing" wJ)
  (d7:cR K "is_name" Je)
  (d8:cR K "is_whole" yp)
  (d9:cR K "is_head" Jf)
  (Lp:cR K "is_product" wI)
  (Lq:cR K "is_numbered" wl)
  (Lr:cR K "are_numbers" wm)
  (Ls:oi K Q "__init__" "Numbers.__init__" qw)
  (Lu:cR K "_law_made" xK)
  (Lw:oi K Q "told" "Numbers.told" zo)
  (Lx:cR K "_law_great" wM)
  (Ly:cR K "_law_alike" wN)
  (Lz:bM K bv "law" =some (some (.ref DJ))) (LA:K.lookup DJ=some ⟨DM,DK,.func (nh "law" "law" (xg QJ) (qr QJ) (jj QJ) .none ym yo yS xS ro yT),DL⟩) (LB:rO K ro "law" =true) (LC:h8 K (.ref DJ)=true)
  (z0:bM K bv "isinstance" =some none)
  (z1:bM K bv "bool" =some none)
  (z2:bM K bv "int" =some none)
  (z3:bM K bv "all" =some none)
  (z4:bM K bv "list" =some none)
  (z5:bM K bv "len" =some none)
  (z6:bM K bv "set" =some none)
  (z7:bM K bv "range" =some none)
  (z8:bM K bv "any" =some none)
  (z9:bM K bv "tuple" =some none)
  (LD:bM K bv "divmod" =some none)
  (LF:bM K bv "str" =some none)
  (LG:bM K bv "dict" =some none)
  (LH:bM K bv "ValueError" =some none)
  (LI:bM K bv "repr" =some none)
  (J: ∃t,bM K bv "LETTERS" =some (some (.str "abcdefghijklmnopqrstuvwxyz" t)))
  (u: ∃t,bM K bv "MOST_LETTERS" =some (some (.int 8 t)))
  (z: ∃t,bM K bv "MOST_PLACES" =some (some (.int 9 t)))
  (p: ∃t,bM K bv "MOST_NUMBERED" =some (some (.int 60 t)))
  (r: ∃t,bM K bv "MOST_PRODUCTS" =some (some (.int 40 t)))
  (B: ∃t,bM K bv "MOST_POWER" =some (some (.int 2 t)))
  (xv:bM K bv "Numbers" =some (some (.ref Q))) (Qf:sU K Q Str.empty=true) (Qs:Ar K Q=true) (Qe:BF K Q=true) (Qc:iZ K (.ref Q) "__setattr__" =some (some (.builtin "object.__setattr__")))
  (xN:iZ K (.ref Q) "products" =some none)
  (Yw:sV K Q=true) (YH:h8 K (.ref Q)=true)
  (d:bM K bv "NoPaper" =some (some (.ref TY)))
  (Z:bM K bv "NoHead" =some (some (.ref TL)))
  (mO:bM K bv "NoLine" =some (some (.ref TM)))
  (mP:bM K bv "NoName" =some (some (.ref TR)))
  (mQ:bM K bv "NoPair" =some (some (.ref TU)))
  (mR:bM K bv "NoPath" =some (some (.ref TQ)))
  (E:bM K bv "NoReason" =some (some (.ref T5)))
  (mS:bM K bv "NoRule" =some (some (.ref TN)))
  (mT:bM K bv "NoStep" =some (some (.ref TV)))
  (mU:bM K bv "NoText" =some (some (.ref TW)))
  (H:bM K bv "TooGreat" =some (some (.ref T3)))
  (L:bM K bv "TooLong" =some (some (.ref TZ)))
  (N:bM K bv "TooMany" =some (some (.ref T0)))
  (I:bM K bv "EndError" =some (some (.ref T4)))
  (ot:bM K bv "Paper" =some (some (.ref TK)))
  (O:t3 K TY [.type "ValueError",.type "Exception",.type "BaseException",.type "object"] "ValueError.__new__" =true)
  (n:q9 K (.ref TY) (.ref TY)=some true)
  (i:eV K (.ref TY) (.type "ValueError")=some true)
  (j:eV K (.ref TY) (.ref T4)=some true)
  (o:eV K (.ref Q) (.ref TK)=some true)
  (m: ∀q∈[TL,TM,TR,TU,TQ,T5,TN,TV,TW,T3,TZ,T0],q9 K (.ref TY) (.ref q)=some false)
  : ∃fd:iK,(∀(s:aB) (v:Value),BindsTo s fd ⟨[v],[]⟩ [("_law_script",v)])/\ ∀a:Heap,K.In a->a.Ns bv y->cE l.prog w K y a hD 8 fa fd ["_law_script"] (l5 K true 1 my):=by
 have e:=Lo.symm.trans (eJ g G Lz);cases e
 have T:Gm K TY TL TM TR TU TQ T5 TN TV TW T3 TZ T0 T4 TK y:=⟨iE g G z0,iE g G z1,iE g G z2,iE g G z3,iE g G z4,iE g G z5,iE g G z6,iE g G z7,iE g G z8,iE g G z9,iE g G LD,iE g G LF,iE g G LG,iE g G LH,iE g G LI,J.imp λ_ h=>eJ g G h,u.imp λ_ h=>eJ g G h,z.imp λ_ h=>eJ g G h,p.imp λ_ h=>eJ g G h,r.imp λ_ h=>eJ g G h,B.imp λ_ h=>eJ g G h,⟨Q,xv,⟨Qf,Qs,Qe,Qc⟩,xN⟩,eJ g G d,eJ g G Z,eJ g G mO,eJ g G mP,eJ g G mQ,eJ g G mR,eJ g G E,eJ g G mS,eJ g G mT,eJ g G mU,eJ g G H,eJ g G L,eJ g G N,eJ g G I,eJ g G ot,d,O,(λc Y C hC=>by
   simp only [sj,yX,rQ,beq_iff_eq,sg] at Y;rcases Y with rfl
   . have e:=hC.symm.trans d;cases e
     exact n),(λc Y C hC=>by
   simp only [sj,yX,rQ,beq_iff_eq,sg] at Y;rcases Y with rfl
   . have e:=hC.symm.trans d;cases e
     exact i),(λc Y C hC=>by
   simp only [sj,yX,rQ,beq_iff_eq,sg] at Y;rcases Y with rfl
   . have e:=hC.symm.trans d;cases e
     exact j),(λc Y C hC=>by
   simp only [sj,yX,rQ,beq_iff_eq,sg] at Y;rcases Y with rfl
   . have e:=hC.symm.trans xv;cases e
     exact o),(λc Y C hC=>by
   simp only [sj,yX,rQ,beq_iff_eq,sg] at Y;rcases Y with rfl
   . have e:=hC.symm.trans d;cases e
     exact m)⟩
 have U:=vg (st:=QJ) LA LB LC;have Qz:bM K bv "Numbers" =some (some (.ref Q))/\gK K Q:=⟨xv,Qf,Qs,Qe,Qc⟩
 refine ⟨nh "law" "law" (xg QJ) (qr QJ) (jj QJ) .none ym yo yS xS ro yT,λs v=> .of_eq rfl,λa _ _=>?_⟩;have V0:qT l.prog w K y a 1 qU:=xM (k:=0) T (d0.dx g G CO);have V1:qF l.prog w K y a 2 qG:=xA (k:=1) T (d1.dx g G CO) (V0.mono (by decide));have V2:zt l.prog w K y a 3 qB:=yx (k:=2) T (d2.dx g G CO) (V1.mono (by decide));have V3:zI l.prog w K y a 1 jS:=yV (k:=0) T (d3.dx g G so);have V4:zZ l.prog w K y a 1 zf:=Jo (k:=0) T (d4.dx g G so);have V5:xm l.prog w K y a 2 qt:=QW (k:=1) T (d5.dx g G so) (V4.mono (by decide));have V6:xl l.prog w K y a 4 zl:=QV (k:=3) T (d6.dx g G nq) (V2.mono (by decide)) (V3.mono (by decide)) (V5.mono (by decide));have V7:JS l.prog w K y a 1 xp:=Yq (k:=0) T (d7.dx g G nq);have V8:xy l.prog w K y a 1 qK:=WE (k:=0) T (d8.dx g G nq);have V9:JT l.prog w K y a 2 jI:=Yr (k:=1) T (d9.dx g G nq) (V7.mono (by decide)) (V8.mono (by decide));have LJ:xk l.prog w K y a 2 jz:=QU (k:=1) T (Lp.dx g G so) (V8.mono (by decide));have LK:wu l.prog w K y a 3 jm:=J1 (k:=2) T (Lq.dx g G nq) (V9.mono (by decide)) (LJ.mono (by decide));have LL:wv l.prog w K y a 4 jy:=J2 (k:=3) T (Lr.dx g G nq) (LK.mono (by decide));have Fs:j5 l.prog w K y a 5 jv:=wP (k:=4) T (Ls.dm so) Qz (eJ g G xv) ⟨Yw,YH⟩ (LL.mono (by decide));have LM:xR l.prog w K y a 7 zJ:=ZL (k:=6) T (Lu.dx g G nq) Fs (by decide);have LN:zu l.prog w K y a 1 jH:=yy (k:=0) T (Lw.dm nq) Qz;have LO:xn l.prog w K y a 1 zm:=QX (k:=0) T (Lx.dx g G nq);have LP:xo l.prog w K y a 1 zT:=QY (k:=0) T (Ly.dx g G so);exact Ln (k:=7) T U (V6.mono (by decide)) (LM.mono (by decide)) (LN.mono (by decide)) (LO.mono (by decide)) (LP.mono (by decide)) Fs (by decide)
end G
namespace G
open PySem PySem.Spec L2 M
open Builtin.Int (intBits)
def ze:20000<=aR:=by decide
def jk {k:Nat} (h:k<=20000):k<=aR:=dE h ze
def eP:Str:= "abcdefghijklmnopqrstuvwxyz"
def VC {c d:TJ} {a:Sl} {i j:Int} (e:c a= .ok (.int i)) (g:d a= .ok (.int j)) (h:0<j/\j<1073741824):app (jb c (jb d aa)) za a= .ok (.ah [.int (i/j),.int (i%j)]):=
 j3 (ds:=[.int i,.int j]) (jd e (jd g rfl)) (jq h)
def yF {f:TJ} {c:Sl} {a b:Nat} {x y:D} (h:f c= .ok (.ah [x,y])):eq f (g2 (gN a) (gN b)) c= .ok (.nx ((c.set a (.ak x)).set b (.ak y))):=by
 show (f c>>=_)=_;rw [h];rfl
def qi {c d:TJ} {a:Sl} {i j:Int} (e:c a= .ok (.int i)) (g:d a= .ok (.int j)) (h:0<j):al c d aY a= .ok (.int (i%j)):=jh e g (HB h)
def yG {c d:TJ} {a:Sl} {i j:Int} (e:c a= .ok (.int i)) (g:d a= .ok (.int j)):al c d bj a= .ok (.int (i+j)):=jh e g rfl
def isNm:D->Bool| .str z=>(decide (1<=(z.length:Int))&&decide ((z.length:Int)<=8))&&z.cps.toList.all (λc=>nk ⟨#[c]⟩ eP)|_=>false
def y0 (z:Str):isNm (.str z)=((decide (1<=(z.length:Int))&&decide ((z.length:Int)<=8))&&z.cps.toList.all (λc=>nk ⟨#[c]⟩ eP)):=rfl
def yl {a:Type} (l:List a) (p:a->Bool):eZ [.ag (l.map λc=>D.bl (p c))]= .ok (.bl (l.all p)):=by
 have:l.map (λc=>D.bl (p c))=(l.map p).map D.bl:=by simp
 rw [this];show (match JP ((l.map p).map D.bl) with|some bs=>ao.ok (D.bl (bs.all id))|none=>ao.aj)=_;rw [kF];simp
def Kd (z:Str):(JW z).length=z.length:=by simp [JW,Str.length]
def nw:D->Bool
 | .di _=>false
 | .eW _ _=>false
 | .dz _ _=>false
 | .obj _ _ _=>false
 | .mem _ _=>false
 | .cr _=>false
 |_=>true
def yi {e g h:TJ} {d:Sl} {a b c:D} {i g2:D->D->ao D} {p q:Bool} (k:e d= .ok a) (l:g d= .ok b) (j:h d= .ok c) (e1:i a b= .ok (.bl p)) (e2:g2 b c= .ok (.bl q)):yD e g h i g2 d= .ok (.bl (p&&q)):=by
 unfold yD;simp only [k,l,j,xP,e1];cases p
 . rfl
 . simp only [j,xP,e2,Bb]
def LQ {d:D} (h:nw d=true):xp [d]= .ok (.bl (isNm d)):=by
 cases d with
 |str z=>
  refine qV ?_;show x6 [.ak (.str z)]=_;unfold x6;rw [y0];have t:dY (bi (aX (xC "str" (af 0)))) (bi (aX (yD (cI 1) (app (jb (af 0) aa) bw) (cI 8) hE hE))) [.ak (.str z)]= .ok (false||!(decide (1<=(z.length:Int))&&decide ((z.length:Int)<=8))):=JZ rfl (ql (jR (yi rfl (j3 (jd rfl rfl) rfl) rfl rfl rfl)))
  cases c:(decide (1<=(z.length:Int))&&decide ((z.length:Int)<=8)) with
  |false=>rw [c] at t;exact qH ((bZ t).trans rfl)
  |true=>
   rw [c] at t;have j:(z.length:Int)<=8:=of_decide_eq_true (lL.mp c).2
   have g:j8 false 1 [] (dj (af 0)) (gN 0) jX (al (af 0) (cS "abcdefghijklmnopqrstuvwxyz") inD) [.ak (.str z)]= .ok (.ag ((JW z).map λd=>D.bl (match d with| .str c=>nk c eP|_=>false))):=by
    refine Hv _ (λd=> ∃c,d= .str c) (ds:=JW z) rfl (by intro d hd;obtain ⟨c,_,e⟩:=b8.mp hd;exact ⟨_,e.symm⟩) (by rw [Kd];exact dE (by omega:z.length<=8) (by decide)) ?_;rintro d i ⟨c,e⟩;subst e;rfl
   have a:(JW z).all (λd=>match d with| .str c=>nk c eP|_=>false)=(z.cps.toList.all (λc=>nk ⟨#[c]⟩ eP)):=by
    simp only [JW,List.all_map];rfl
   refine (jl ((cj t).trans rfl)).trans (qk (j3 (jd g rfl) ?_));rw [yl,a];rfl
 |_=>first|rfl|cases h
def iF (z:Str):Prop:= ∀c∈z.cps.toList,nk ⟨#[c]⟩ eP=true
def Q6 {a b:Str} (d:iF a) (e:iF b):iF (a++b):=λc g=>by
 have h:c∈(a.cps++b.cps).toList:=g;rw [DN,eG] at h;exact h.elim (d c) (e c)
def LR:iF eP:=by
 intro c a;have:eP.cps.toList.all (λc=>nk ⟨#[c]⟩ eP)=true:=by decide+kernel
 exact eD.mp this c a
def DP {z:Str} {i:Int} (a:0<=i) (d:i<z.length): ∃c,aQ (.str z) (.int i)= .ok (.str ⟨#[c]⟩)/\c∈z.cps.toList:=by
 obtain ⟨c,e,g⟩:=vw (xs:=z.cps.toList) a (by simpa [Str.length] using d);exact ⟨c,by simp only [aQ];rw [e],g⟩
def uw {c:Nat} (h:c∈eP.cps.toList):iF ⟨#[c]⟩:=λx a=>by
 have:x=c:=by simpa using a
 rw [this];exact LR c h
def uD {z:Str} (a:1<=z.length) (c:z.length<=8) (h:iF z):isNm (.str z)=true:=by
 rw [y0];simp only [fw,decide_eq_true_eq,eD];exact ⟨⟨by omega,by omega⟩,h⟩
def LS:eP.length=26:=by decide
def XC {i:Int} (d:0<=i) (e:i<26):aQ (.str eP) (.int i)= .ok (.str (mr i)):=by
 obtain ⟨n,rfl⟩: ∃n:Nat,i=n:=⟨i.toNat,by omega⟩
 have:n<26:=by omega
 have a: ∀n:Nat,n<26->aQ (.str eP) (.int (n:Int))= .ok (.str (mr (n:Int))):=by
  intro n c
  match n,c with
  |0,_=>rfl|1,_=>rfl|2,_=>rfl|3,_=>rfl|4,_=>rfl|5,_=>rfl|6,_=>rfl|7,_=>rfl|8,_=>rfl|9,_=>rfl|10,_=>rfl|11,_=>rfl|12,_=>rfl
  |13,_=>rfl|14,_=>rfl|15,_=>rfl|16,_=>rfl|17,_=>rfl|18,_=>rfl|19,_=>rfl|20,_=>rfl|21,_=>rfl|22,_=>rfl|23,_=>rfl|24,_=>rfl|25,_=>rfl
  |n+26,h=>exact absurd h (by omega)
 exact a n this
def WI {i:Int} (a:0<=i) (e:i<26):iF (mr i):=by
 obtain ⟨c,d,g⟩:=DP (z:=eP) (i:=i) a (by rw [LS];omega);rw [XC a e] at d;cases d;exact uw g
def add_str {a b:Str} (h:a.length+b.length<=20000):bj (.str a) (.str b)= .ok (.str (a++b)):=jq (jk h)
def len_app (a b:Str):(a++b).length=a.length+b.length:=by
 show (a.cps++b.cps).size=_;rw [Array.size_append];rfl
def zp (i:Int):(mr i).length=1:=rfl
theorem yJ {m:Slot}: ∀(a:List D) (n:Int) (z:Str) (u w:Slot),0<=n->iF z->z.length+a.length<=100-> ∃g c h k,c8 (wD (gN 4) (au (eq (app (jb (af 0) (jb (cI 26) aa)) za) (g2 (gN 0) (gN 5))) (jL 3 (al (af 3) (al (af 2) (af 5) aQ) bj)))) a [.ak (.int n),m,.ak (.str eP),.ak (.str z),u,w]= .ok (.nx [.ak (.int g),m,.ak (.str eP),.ak (.str c),h,k])/\iF c/\c.length=z.length+a.length
 | [],n,z,u,w,_,l,_=>⟨n,z,u,w,rfl,l,rfl⟩
 |d::a,n,z,u,w,t,l,o=>by
  simp only [fP] at o;have p:aQ (.str eP) (.int (n%26))= .ok (.str (mr (n%26))):=XC (by omega) (by omega);obtain ⟨g,c,h,k,e,q,r⟩:=yJ (m:=m) a (n/26) (z++mr (n%26)) (.ak d) (.ak (.int (n%26))) (by omega) (Q6 l (WI (by omega) (by omega))) (by rw [len_app,zp];omega);refine ⟨g,c,h,k,(JG ?_).trans e,q,by rw [r,len_app,zp,fP];omega⟩;rw [xJ (env':=[.ak (.int n),m,.ak (.str eP),.ak (.str z),.ak d,w]) rfl];refine (jl (yF (VC (i:=n) (j:=26) rfl rfl (by decide)))).trans ?_;exact jw (jh rfl (jh rfl rfl p) (add_str (by rw [zp];omega)))
def x3 (n m:Int) (g:0<=n) (l:0<=m/\m<=3): ∃z,zf [.int n,.int m]= .ok (.str z)/\iF z/\z.length<=3:=by
 obtain ⟨o,h,p,q,e,i,a⟩:=yJ (m:= .ak (.int m)) (zK 0 m.toNat) n "" .un .un g (λc k=>by cases k) (by rw [wS];show 0+_<=_;omega);rw [wS] at a;refine ⟨h,Kj ?_,i,by rw [a];show 0+_<=_;omega⟩;show zd [.ak (.int n),.ak (.int m),.un,.un,.un,.un]=_;unfold zd;refine (jl (jw (d:= .str eP) rfl)).trans ((jl (jw (d:= .str "") rfl)).trans ((jl ((yP (Jg (j:=m) (jd rfl rfl) (by omega))).trans e)).trans ?_));exact QL rfl
def b0 (z:Str) (m:Nat):D:= .ah [.str z,.int m]
abbrev lM (h:Str×Nat):D:=b0 h.1 h.2
def Ft:Sl->ao bF:=(au (eq (app (jb (af 0) (jb (cI 10) aa)) za) (g2 (gN 0) (gN 9))) (au (jL 8 (al (af 3) (al (af 2) (al (al (af 5) (af 7) bj) (cI 26) aY) aQ) bj)) (au (jL 8 (al (al (af 8) (al (af 2) (al (al (af 5) (al (af 7) (cI 26) bC) bj) (cI 26) aY) aQ) bj) (af 4) bj)) (jZ 6 (aw (jb (af 8) (jb (af 9) aa)))))))
abbrev DQ (n:Int) (m:Slot) (a c:Str) (s:Int) (d:List (Str×Nat)) (e g h:Slot):Sl:=[.ak (.int n),m,.ak (.str eP),.ak (.str a),.ak (.str c),.ak (.int s),.av (.ag (d.map lM)),e,g,h]
def zb {i:Nat} {f:TJ} {a:Sl} {ds:List D} {d:D} (e:a[i]?=some (.av (.ag ds))) (h:f a= .ok d) (g:ds.length<=10000):jZ i f a= .ok (.nx (a.set i (.av (.ag (ds++[d]))))):=by
 unfold jZ;rw [WC e];show (f a>>=_)=_;rw [h];exact jq (c:=ds.length<aR) (eE (by omega) (jk (k:=20000) (by omega)))
structure HR (fr bh:Str) (s:Int) (hs:List (Str×Nat)):Prop where
 nm:hs.map (·.1)=(fu hs.length).map (lg fr bh s)
 pl: ∀a∈hs,a.2<=9
theorem Qr {m:Slot} {g i:Str} {s:Int} (p:g.length<=3) (q:i.length<=3) (r:0<=s): ∀(c:Nat) (e:List (Str×Nat)) (n:Int) (o k l:Slot),HR g i s e->e.length+c<=100->
  ∃j t y B E,c8 (wD (gN 7) Ft) (zK e.length c) (DQ n m g i s e o k l)= .ok (.nx (DQ t m g i s j y B E))/\HR g i s j/\j.length=e.length+c
 |0,e,n,o,k,l,h,_=>⟨e,n,o,k,l,rfl,h,rfl⟩
 |c+1,e,n,o,k,l,h,Q=>by
  have H:HR g i s (e++[(lg g i s e.length,(n%10).toNat)]):=by
    refine ⟨?_,λa I=>?_⟩
    . rw [mj,dH,gz,List.range_succ,mj,h.nm];rfl
    . rcases eG.mp I with z|z
      . exact h.pl a z
      . rw [ir] at z;subst z;show (n%10).toNat<=9;omega
  obtain ⟨j,t,u,v,w,e2,J,L⟩:=Qr (m:=m) p q r c (e++[(lg g i s e.length,(n%10).toNat)]) (n/10) (.ak (.int e.length)) (.ak (.str (lg g i s e.length))) (.ak (.int (n%10))) H (by rw [dH,gz];omega);rw [dH,gz] at e2 L;refine ⟨j,t,u,v,w,?_,J,by omega⟩;rw [Qq];refine (JG ?_).trans (e2);rw [xJ (env':=DQ n m g i s e (.ak (.int e.length)) k l) rfl];have N:aQ (.str eP) (.int ((s+e.length)%26))= .ok (.str (mr ((s+e.length)%26))):=XC (by omega) (by omega);have O:aQ (.str eP) (.int ((s+(e.length:Int)/26)%26))= .ok (.str (mr ((s+(e.length:Int)/26)%26))):=XC (by omega) (by omega);unfold Ft;refine (jl (yF (VC rfl rfl (by decide)))).trans ?_;refine (jl (jw (jh rfl (jh rfl (qi (jh rfl rfl rfl) rfl (by decide)) N) (add_str (by rw [zp];omega))))).trans ?_;refine (jl (jw (jh (jh rfl (jh rfl (qi (jh rfl (jh rfl rfl (qJ (by decide))) rfl) rfl (by decide)) O) (add_str (by rw [len_app,zp,zp];omega))) rfl (add_str (by rw [len_app,len_app,zp,zp];omega))))).trans ?_;refine (zb (ds:=e.map lM) (d:=b0 (lg g i s e.length) (n%10).toNat) rfl (qv (ds:=[.str (lg g i s e.length),.int ((n%10).toNat:Nat)]) (jd rfl (jd ?_ rfl)) (jk (by simp))) (by rw [bB];omega)).trans ?_
  . rw [show (((n%10).toNat:Nat):Int)=n%10 by omega];rfl
  rw [show e.map lM++[b0 (lg g i s e.length) (n%10).toNat]=(e++[(lg g i s e.length,(n%10).toNat)]).map lM by simp];rfl
structure sE (hs:List (Str×Nat)):Prop where
 nd:hs.Nodup
 nm: ∀a∈hs,2<=a.1.length/\a.1.length<=8/\iF a.1
 pl: ∀a∈hs,a.2<=9
def LU {d g:Str} {s:Int} {c:List (Str×Nat)} (h:HR d g s c) (i:0<=s) (m:d.length<=3) (n:g.length<=3) (o:iF d) (p:iF g) (t:c.length<=100):sE c:=by
 refine ⟨?_,λa j=>?_,h.pl⟩
 . have:(c.map (·.1)).Nodup:=by
     rw [h.nm];refine oj.mpr (List.Pairwise.imp_of_mem ?_ A3);intro a b j q r e;have:=fx.mp j;have:=fx.mp q;exact r (uo i (by omega) (by omega) e)
   exact (oj.mp this).imp λl e=>l (congrArg _ e)
 . have:a.1∈(fu c.length).map (lg d g s):=by rw [<-h.nm];exact xO j
   obtain ⟨k,_,e⟩:=b8.mp this;rw [<-e];unfold lg;refine ⟨?_,?_,Q6 (Q6 (Q6 o (WI (by omega) (by omega))) (WI (by omega) (by omega))) p⟩
   . rw [len_app,len_app,len_app,zp,zp];omega
   . rw [len_app,len_app,len_app,zp,zp];omega
def JA (n m:Int) (r:0<=n) (t:0<=m/\m<=61): ∃a,qt [.int n,.int m]= .ok (.ag (a.map lM))/\sE a/\(a.length:Int)=m:=by
 obtain ⟨i,e1,k,c⟩:=x3 (n/16) (n%4) (by omega) (by omega);obtain ⟨l,e2,o,e⟩:=x3 (n/280000) (n/4%4) (by omega) (by omega);obtain ⟨a,u,v,w,y,p,q,g⟩:=Qr (m:= .ak (.int m)) (s:=n/16%26) c e (by omega) m.toNat [] n .un .un .un ⟨rfl,λ_ h=>by cases h⟩ (by show 0+_<=_;omega);have g:a.length=m.toNat:=by rw [g];show 0+_=_;omega
 refine ⟨a,qV ?_,LU q (by omega) c e k o (by omega),by omega⟩;show zQ zf [.ak (.int n),.ak (.int m),.un,.un,.un,.un,.un,.un,.un,.un]=_;unfold zQ;refine (jl (jw (d:= .str eP) rfl)).trans ?_;refine (jl (jw (d:= .str i) (jY (jd (jh rfl rfl (qJ (by decide))) (jd (qi rfl rfl (by decide)) rfl)) rfl e1))).trans ?_;refine (jl (jw (d:= .str l) (jY (jd (jh rfl rfl (qJ (by decide))) (jd (qi (jh rfl rfl (qJ (by decide))) rfl (by decide)) rfl)) rfl e2))).trans ?_;refine (jl (jw (d:= .int (n/16%26)) (qi (jh rfl rfl (qJ (by decide))) rfl (by decide)))).trans ?_;refine (jl (zU (d:= .ag []) (x0 rfl (jk (by decide))))).trans ?_;refine (jl ((yP (Jg (j:=m) (jd rfl rfl) (by omega))).trans p)).trans ?_;exact qk rfl
def Js {d e:TJ} {c:Sl} {i j:Int} {a b:Nat} (g:d c= .ok (.int i)) (h:e c= .ok (.int j)) (k:i.natAbs<2^a) (l:j.natAbs<2^b) (m:a+b<=134217728):al d e fb c= .ok (.int (i*j)):=
 jh g h (HA (show intBits i+intBits j<=134217728 from dE (Nat.add_le_add (PySem.intBits_le_iff.mpr k) (PySem.intBits_le_iff.mpr l)) m))
abbrev Bc:Sl->ao bF:=(au (jL 0 (al (al (al (al (af 0) (cI 48271) fb) (al (cI 5) (af 6) fb) bj) (af 4) bj) (cI 2147483647) aY)) (jZ 5 (al (af 0) (cI 3) aY)))
abbrev nD (n:Int) (M:Nat) (F S:Slot) (k:Int) (a:List Int) (c:Slot):Sl:=[.ak (.int n),.ak (.int M),F,S,.ak (.int k),.av (.ag (a.map D.int)),c]
def Nb (n:Int):Prop:=0<=n/\n<10^84
def DR:10^84<2^(200+200):=by
 rw [Nat.pow_add,show 10^84=10^42*10^42 from rfl];exact Nat.mul_lt_mul_of_lt_of_le (by decide) (by decide) (by decide)
def vQ (n:Int) (l:Nb n) (M:Nat) (E:M<=9) (F S:Slot) (k:Int) (q:Slot): ∃(r:Int) (c:List Int) (g:Slot),c8 (wD (gN 6) Bc) (zK 0 M) (nD n M F S k [] q)= .ok (.nx (nD r M F S k c g))/\Nb r/\c.length=M/\ ∀x∈c,0<=x/\x<=2:=by
 obtain ⟨t,u,v,c,g,rfl,m,w,_,y⟩:=ya (body:=wD (gN 6) Bc)
  (λo i=> ∃(n:Int) (c:List Int) (g:Slot),i=nD n M F S k c g/\Nb n/\c.length+o.length=M/\(∀d∈o,∃j:Int,d= .int j/\0<=j/\j<10)/\ ∀x∈c,0<=x/\x<=2)
  (by
   rintro d o i ⟨n,c,g,rfl,l,z,hd,B⟩;rw [fP] at z;obtain ⟨j,rfl,H,I⟩:=hd d dB;refine ⟨nD ((n*48271+5*j+k)%2147483647) M F S k (c++[(n*48271+5*j+k)%2147483647%3]) (.ak (.int j)),?_,_,_,_,rfl,⟨by omega,?_⟩,by rw [dH,gz];omega,λd h=>hd d (dC _ h),λx p=>?_⟩
   . rw [xJ rfl];unfold Bc;refine (jl (jw (qi (yG (yG (Js (a:=200+200) (b:=20) rfl rfl (rS (by have:=l.1;have:=l.2;omega) DR) (by decide) (by decide)) (Js (a:=3) (b:=4) rfl rfl (by decide) (by omega) (by decide))) rfl) rfl (by decide)))).trans ?_;refine (zb rfl (qi rfl rfl (by decide)) (by rw [bB];omega)).trans ?_;rw [show c.map D.int++[D.int ((n*48271+5*j+k)%2147483647%3)]=(c++[(n*48271+5*j+k)%2147483647%3]).map D.int by rw [mj];rfl];rfl
   . exact Int.lt_trans (ss _ (by decide)) (by decide)
   . rcases eG.mp p with h|h
     . exact B x h
     . rw [ir] at h;subst h;omega)
  (zK 0 M) _ ⟨n,[],q,rfl,l,by rw [wS];simp,λd hd=>by
   obtain ⟨j,e,a,b⟩:=xY hd
   exact ⟨j,e,a,by omega⟩,λ_ h=>by cases h⟩
 exact ⟨v,c,g,u,m,by simpa using w,y⟩
def tI (a:List Int):D:= .ah (a.map D.int)
theorem xW: ∀a:List Int,si (a.map D.int)=true
 | []=>rfl
 |_::r=>by simp;exact xW r
theorem Jt: ∀ {a b:List Int},a.map D.int=b.map D.int->a=b
 | [],[],_=>rfl
 | [],_::_,h=>by cases h
 |_::_,[],h=>by cases h
 |x::a,y::b,h=>by
  simp at h;rw [h.1,Jt h.2]
def LV (l:List (List Int)) (a:List Int):n5 (l.map tI) (tI a)=decide (a∈l):=by
 unfold n5;rw [sJ,sh,decide_eq_true_iff]
 constructor
 . rintro ⟨y,c,e⟩;obtain ⟨q,d,rfl⟩:=b8.mp c;have:=(Vu (tI q) (by simp only [tI,nb];exact xW q) (tI a) (by simp only [tI,nb];exact xW a)).mp e;exact (Jt (by simpa [tI] using this))▸d
 . intro h;refine ⟨tI a,b8.mpr ⟨a,h,rfl⟩,?_⟩;exact (Vu (tI a) (by simp only [tI,nb];exact xW a) (tI a) (by simp only [tI,nb];exact xW a)).mpr rfl
def Vs (a:List Int):D.cg (tI a)=true:=by simp only [tI,D.cg];exact y6 (λ_=>rfl) a
def vn (a:List Int):D.b9 (tI a)<=1:=by
 simp only [tI,D.b9];have:=y8 (f:=D.int) (k:=0) (λ_=>a9 _) a;omega
def LW (l:List (List Int)) (a:List Int):ik true (tI a) (.ag (l.map tI))= .ok (.bl (!decide (a∈l))):=by
 show aS _ (ao.ok (D.bl (!n5 (l.map tI) (tI a))))=_;rw [jq ⟨y6 Vs l,Vs a,dE (y8 vn l) (by decide)⟩,LV]
def aN (p:Int×List Int):D:= .ah [.int p.1,tI p.2]
structure Pr (M:Nat) (l:List (Int×List Int)):Prop where
 ok: ∀p∈l,(1<=p.1/\p.1<=10^30)/\p.2.length=M/\ ∀x∈p.2,0<=x/\x<=2
 nd:(l.map (·.2)).Nodup
def Met (l:List (Int×List Int)) (j:Nat):Prop:= ∃p∈l,∃x,p.2[j]?=some x/\0<x
def Pr.more {M:Nat} {l:List (Int×List Int)} (h:Pr M l) {n:Int} {ps:List Int} (d:1<=n/\n<=10^30) (g:ps.length=M) (i: ∀x∈ps,0<=x/\x<=2) (j:ps∉l.map (·.2)):Pr M (l++[(n,ps)]):=by
 refine ⟨λp k=>?_,?_⟩
 . rcases eG.mp k with h1|h1
   . exact h.ok p h1
   . rw [ir] at h1;subst h1;exact ⟨d,g,i⟩
 . rw [mj];refine A4.mpr ⟨h.nd,by simp,λa m b c e=>?_⟩;simp at c;subst c;subst e;exact j m
abbrev rq:Sl->ao bF:=(cp (dJ (aX (al (af 4) (af 1) ltI)) (aX (al (al (cH 5) (af 4) aQ) (cI 0) eS))) (Wq 5 (af 4) (al (cI 1) (al (al (af 0) (cI 3) bC) (cI 2) aY) bj)) cn)
def Xb {i:Nat} {e fv:TJ} {a:Sl} {c:List D} {d:D} {k:Int} (g:a[i]?=some (.av (.ag c))) (h:fv a= .ok d) (l:e a= .ok (.int k)) (m:0<=k) (n:k<c.length):Wq i e fv a= .ok (.nx (a.set i (.av (.ag (c.set k.toNat d))))):=by
 unfold Wq;rw [WC g];show (fv a>>=_)=_;rw [h];show (e a>>=_)=_;rw [l];show (match iM c.length k with|some j=>_|none=>_)=_
 have:iM c.length k=some k.toNat:=by
  unfold iM;simp [m,n]
  try omega
 rw [this]
def LX (n:Int) (M k:Nat) (F S:Slot) (a:List Int) (j:a.length=M) (e: ∀x∈a,0<=x/\x<=2) (g:Slot): ∃i:List Int,rq (nD n M F S k a g)= .ok (.nx (nD n M F S k i g))/\i.length=M/\(∀x∈i,0<=x/\x<=2)/\(k<M-> ∃x,i[k]?=some x/\0<x):=by
 unfold rq;have dF:aX (al (af 4) (af 1) ltI) (nD n M F S k a g)= .ok (decide ((k:Int)<M)):=jR (jh rfl rfl rfl)
 by_cases p:k<M
 . have c:k<a.length:=by omega
   rw [decide_eq_true (by omega)] at dF
   have l:aQ (.ag (a.map D.int)) (.int (k:Int))= .ok (.int a[k]):=by
     simp only [aQ];rw [_root_.M.dU,fB,dn c];rfl
   have d:dJ (aX (al (af 4) (af 1) ltI)) (aX (al (al (cH 5) (af 4) aQ) (cI 0) eS)) (nD n M F S k a g)= .ok (true&&a[k]==0):=vx dF (jR (jh (jh rfl rfl l) rfl rfl))
   by_cases o:a[k]=0
   . refine ⟨a.set k (1+n/3%2),?_,by rw [pC];exact j,λx m=>?_,λ_=>⟨1+n/3%2,by rw [lT c],by omega⟩⟩
     . rw [bZ (by rw [d,o];rfl)];refine (Xb (k:=k) rfl (yG rfl (qi (jh rfl rfl (qJ (by decide))) rfl (by decide))) rfl (by omega) (by rw [bB];omega)).trans ?_;rw [td,<-List.map_set (f:=D.int)];rfl
     . rcases List.mem_or_eq_of_mem_set m with h|h
       . exact e x h
       . subst h;omega
   . refine ⟨a,?_,j,e,λ_=>⟨a[k],dn c,?_⟩⟩
     . rw [cj (by rw [d,show (a[k]==0)=false by simpa using o];rfl)];rfl
     . have:=e _ (gD c);omega
 . refine ⟨a,?_,j,e,λz=>absurd z p⟩;rw [decide_eq_false (by omega)] at dF;rw [cj (by show (_>>=_)=_;rw [dF];rfl)];rfl
def kQ:dA (.int 10) (.int 30)= .ok (.int (10^30)):=(Xk (by decide)).trans rfl
def Uc (i m:Int) (a:0<=i) (c:i<3) (d:0<=m/\m<99): ∃r:Int,aQ (.ag [.int 1,.int (10^30),.int (1+m)]) (.int i)= .ok (.int r)/\1<=r/\r<=10^30:=by
 have:i=0\/i=1\/i=2:=by omega
 rcases this with rfl|rfl|rfl
 . exact ⟨1,rfl,by omega,by omega⟩
 . exact ⟨10^30,rfl,by omega,by omega⟩
 . exact ⟨1+m,rfl,by omega,by omega⟩
abbrev ou:Sl->ao D:=app (jb (cH 5) aa) yH
abbrev Bd:Sl->ao D:=(al (bc (jb (cI 1) (jb (al (cI 10) (cI 30) dA) (jb (al (cI 1) (al (al (af 0) (cI 6) bC) (cI 99) aY) bj) aa)))) (al (al (af 0) (cI 600) bC) (cI 3) aY) aQ)
abbrev Be:Sl->ao bF:=au (cf 5 (bc aa)) (au (dZ (fI (jb (af 1) aa)) (gN 6) Bc) (au rq (cp (aX (al ou (cH 3) (ik true))) (au (jZ 3 (i5 ou)) (jZ 2 (aw (jb Bd (jb (i5 ou) aa))))) cn)))
theorem ZW: ∀a:List Int,D.eX (a.map D.int)=true
 | []=>rfl
 |_::r=>by simp;exact ZW r
def vU (n:Int) (U:Nb n) (M k:Nat) (Y:M<=9) (hk:k<=M) (l:List (Int×List Int)) (J:Pr M l) (L:l.length<=k) (il: ∀j,j<k->j<M->Met l j) (Z:0<k->0<l.length) (N z:Slot):
   ∃(O:Int) (u:List (Int×List Int)) (v5 v:Slot),Be [.ak (.int n),.ak (.int M),.av (.ag (l.map aN)),.av (.ag ((l.map (·.2)).map tI)),.ak (.int k),N,z]= .ok (.nx [.ak (.int O),.ak (.int M),.av (.ag (u.map aN)),.av (.ag ((u.map (·.2)).map tI)),.ak (.int k),v5,v])/\Nb O/\Pr M u/\u.length<=k+1/\(∀j,j<k+1->j<M->Met u j)/\0<u.length:=by
 obtain ⟨h,ps,v,e1,w,h1,h2⟩:=vQ n U M Y (.av (.ag (l.map aN))) (.av (.ag ((l.map (·.2)).map tI))) k z;obtain ⟨d,e2,h3,h4,Q⟩:=LX h M k (.av (.ag (l.map aN))) (.av (.ag ((l.map (·.2)).map tI))) ps h1 h2 v
 have B: ∀c:Sl,c[5]?=some (.av (.ag (d.map D.int)))->ou c= .ok (tI d):=λc E=>by
   unfold ou;exact j3 (jd (Jh E) rfl) rfl
 have m:(tI d).gA=true:=by simp only [tI,D.gA];exact ZW d
 have pre: ∀r,(cp (aX (al ou (cH 3) (ik true))) (au (jZ 3 (i5 ou)) (jZ 2 (aw (jb Bd (jb (i5 ou) aa))))) cn (nD h M (.av (.ag (l.map aN))) (.av (.ag ((l.map (·.2)).map tI))) k d v)=r)->Be [.ak (.int n),.ak (.int M),.av (.ag (l.map aN)),.av (.ag ((l.map (·.2)).map tI)),.ak (.int k),N,z]=r:=λr H=>by
   unfold Be;refine (jl rfl).trans ?_;refine (jl ((yP (Jg (j:=M) (jd rfl rfl) (by omega))).trans e1)).trans ?_;exact (jl e2).trans H
 have i:aX (al ou (cH 3) (ik true)) (nD h M (.av (.ag (l.map aN))) (.av (.ag ((l.map (·.2)).map tI))) k d v)= .ok (!decide (d∈l.map (·.2))):=jR (jh (B _ rfl) rfl (LW _ _))
 by_cases y:d∈l.map (·.2)
 . rw [decide_eq_true y] at i;refine ⟨h,l,_,_,pre _ ((cj i)),w,J,by omega,λj hj g=>?_,?_⟩
   . by_cases e:j=k
     . subst e;obtain ⟨p,o,I⟩:=b8.mp y;obtain ⟨x,q,t⟩:=Q g;exact ⟨p,o,x,by rw [I];exact q,t⟩
     . exact il j (by omega) g
   . obtain ⟨p,o,_⟩:=b8.mp y;exact C1 o
 . rw [decide_eq_false y] at i;obtain ⟨r,H,r0,r1⟩:=Uc (h/600%3) (h/6%99) (by omega) (by omega) (by omega)
   have hV: ∀c:Sl,c[0]?=some (.ak (.int h))->Bd c= .ok (.int r):=λc E=>by
     have e0:af 0 c= .ok (.int h):=by unfold af;rw [E]
     unfold Bd;exact jh (x0 (jd rfl (jd (jh rfl rfl kQ) (jd (yG rfl (qi (jh e0 rfl (qJ (by decide))) rfl (by decide))) rfl))) (jk (show 3<=20000 by decide))) (qi (jh e0 rfl (qJ (by decide))) rfl (by decide)) H
   refine ⟨h,l++[(r,d)],.av (.ag (d.map D.int)),v,pre _ ((bZ i).trans ?_),w,J.more ⟨r0,r1⟩ h3 h4 y,by rw [dH];simp;omega,λj hj g=>?_,by rw [dH];simp⟩
   . refine (jl (zb rfl (vq (B _ rfl) m) (by rw [bB,bB];omega))).trans ?_;refine (zb rfl (qv (ds:=[.int r,tI d]) (jd (hV _ rfl) (jd (vq (B _ rfl) m) rfl)) (jk (show 2<=20000 by decide))) (by rw [bB];omega)).trans ?_;rw [mj,mj,mj];rfl
   . by_cases e:j=k
     . subst e;obtain ⟨x,q,t⟩:=Q g;exact ⟨(r,d),hQ _ (ir.mpr rfl),x,q,t⟩
     . obtain ⟨p,a,b⟩:=il j (by omega) g;exact ⟨p,o7 _ a,b⟩
theorem Jz (a:Nat): ∀n,zK (a:Int) n=(List.range' a n).map λ(j:Nat)=>D.int j
 |0=>rfl
 |n+1=>by
  rw [List.range'_succ,fy,<-Jz (a+1) n,Qq];rfl
def Ww (n:Int) (p:Nb n) (M:Nat) (w:M<=9): ∃l:List (Int×List Int),jS [.int n,.int M]= .ok (.ag (l.map aN))/\Pr M l/\l.length<=M+1/\(∀j,j<M->Met l j)/\0<l.length:=by
 obtain ⟨u,y,Y,l,k,q,m,o,rfl,hd,B,E,r,a,il,c⟩:=ya (body:=wD (gN 4) Be)
   (λv i=> ∃(n:Int) (l:List (Int×List Int)) (k:Nat) (q m o:Slot),i=[.ak (.int n),.ak (.int M),.av (.ag (l.map aN)),.av (.ag ((l.map (·.2)).map tI)),q,m,o]/\v=(List.range' k (M+1-k)).map (λ(j:Nat)=>D.int j)/\k<=M+1/\Nb n/\Pr M l/\l.length<=k/\(∀j,j<k->j<M->Met l j)/\(0<k->0<l.length))
   (by
    rintro d v i ⟨n,l,k,q,m,o,rfl,hd,B,p,r,a,il,c⟩
    have g:k<=M:=by
     refine rT λz=>?_
     rw [show M+1-k=0 by omega] at hd;cases hd
    rw [show M+1-k=(M+1-(k+1))+1 by omega,List.range'_succ,fy,AT] at hd;obtain ⟨rfl,hd⟩:=hd;obtain ⟨H,I,w5,J,e,t,L,N,O,Q⟩:=vU n p M k w g l r a il c m o;refine ⟨_,?_,H,I,k+1,.ak (.int k),w5,J,rfl,hd,by omega,t,L,N,O,λ_=>Q⟩;rw [xJ rfl]
    exact e)
   (zK 0 (M+1)) [.ak (.int n),.ak (.int M),.av (.ag []),.av (.ag []),.un,.un,.un] ⟨n,[],0,.un,.un,.un,rfl,Jz 0 (M+1),by omega,p,⟨(λ_ h=>by cases h),.nil⟩,a9 _,(λj h=>absurd h (su _)),λh=>absurd h (lC _)⟩
 have g:k=M+1:=by
   have:=congrArg List.length hd;rw [bB,List.length_range'] at this;simp at this;omega
 subst g;refine ⟨l,?_,r,a,λj U=>il j (by omega) U,c (by omega)⟩;refine qV ?_;unfold zB;refine (jl rfl).trans ?_;refine (jl rfl).trans ?_;refine (jl ((yP ?_).trans y)).trans ?_
 . have:=Jg (fa:=jb (al (af 1) (cI 1) bj) aa) (env:=[.ak (.int n),.ak (.int M),.av (.ag []),.av (.ag []),.un,.un,.un]) (jd (jh rfl rfl rfl) rfl) (by omega)
   rwa [show ((M:Int)+1).toNat=M+1 by omega] at this
 exact qk rfl
theorem XW {c:List Slot} {i:TJ} (h:D->D) (P:D->Prop) (j: ∀d a,P d->i (.ak d::(c++[.av (.ag a)]))= .ok (h d)):
  ∀(g:List D) (x:Slot) (a:List D),(∀d∈g,P d)->a.length+g.length<=aR->
   ∃(y:Slot),zY (1+c.length) (gN 0) jX i g (x::(c++[.av (.ag a)]))= .ok (y::(c++[.av (.ag (a++g.map h))]))
 | [],x,a,_,_=>⟨x,by simp [zY]⟩
 |d::g,x,a,k,l=>by
  simp at l;have m:=j d a (k d (by simp));obtain ⟨y,n⟩:=XW h P j g (.ak d) (a++[h d]) (λe o=>k e (by simp [o])) (by simp;omega);refine ⟨y,?_⟩
  have e1:cq (1+c.length) (.ak d::(c++[.av (.ag a)]))= .ok a:=by
   unfold cq;rw [show (1+c.length)=c.length+1 by omega,oh,fA (a9 _)];simp
  have e2:(Slot.ak d::(c++[Slot.av (.ag a)])).set (1+c.length) (.av (.ag (a++[h d])))= .ak d::(c++[.av (.ag (a++[h d]))]):=by
   rw [show (1+c.length)=c.length+1 by omega,DU,List.set_append_right _ _ (a9 _)];simp
  show (i (.ak d::(c++[.av (.ag a)]))>>=_)=_;rw [m];show (cq (1+c.length) (.ak d::(c++[.av (.ag a)]))>>=_)=_;rw [e1];show aS _ _=_;rw [jq (by omega)];show zY _ _ _ _ g ((Slot.ak d::(c++[Slot.av (.ag a)])).set (1+c.length) (.av (.ag (a++[h d]))))=_;rw [e2,n];simp
def xh {g:List Nat} {j:TD} {k:TJ} {a:Sl} {e:List D} {cs:List Slot} (h:D->D) (P:D->Prop) (m:g.map (gM false a)=cs) (n:j a= .ok e) (o: ∀d∈e,P d) (p:e.length<=aR)
  (q: ∀d l,P d->k (.ak d::(cs++[.av (.ag l)]))= .ok (h d)):j8 false 1 g j (gN 0) jX k a= .ok (.ag (e.map h)):=by
 obtain ⟨y,r⟩:=XW h P q e .un [] o (by simpa using p);have i:g.length=cs.length:=by rw [<-m];simp
 show (j a>>=_)=_;rw [n];show (zY (1+g.length) (gN 0) jX k e (wj false 1 g a)>>=_)=_
 have t:wj false 1 g a= .un::(cs++[.av (.ag [])]):=by
  unfold wj;rw [m];rfl
 rw [t,i,r];show (cq (1+cs.length) (y::(cs++[.av (.ag ([]++e.map h))]))>>=_)=_
 have e1:cq (1+cs.length) (y::(cs++[.av (.ag ([]++e.map h))]))= .ok (e.map h):=by
  unfold cq;rw [show (1+cs.length)=cs.length+1 by omega,oh,fA (a9 _)];simp
 rw [e1];exact jq (c:=false=true->D.eX (e.map h)=true) (λh=>by cases h)
theorem Z6 {g:Type} {c:g->D×D} {d:List Slot} {j:TJ} (h:g->D) (P:g->Prop) (l: ∀q a,P q->j (.ak (c q).1:: .ak (c q).2::(d++[.av (.ag a)]))= .ok (h q)):
  ∀(L:List g) (x i:Slot) (a:List D),(∀q∈L,P q)->a.length+L.length<=aR->
   ∃(y k:Slot),zY (2+d.length) (g2 (gN 0) (gN 1)) jX j (L.map λq=> .ah [(c q).1,(c q).2]) (x::i::(d++[.av (.ag a)]))= .ok (y::k::(d++[.av (.ag (a++L.map h))]))
 | [],x,i,a,_,_=>⟨x,i,by simp [zY]⟩
 |q::L,x,i,a,m,n=>by
  simp at n;have o:=l q a (m q (by simp));obtain ⟨y,k,p⟩:=Z6 h P l L (.ak (c q).1) (.ak (c q).2) (a++[h q]) (λe r=>m e (by simp [r])) (by simp;omega);refine ⟨y,k,?_⟩
  have e1:cq (2+d.length) (.ak (c q).1:: .ak (c q).2::(d++[.av (.ag a)]))= .ok a:=by
   unfold cq;rw [show (2+d.length)=d.length+1+1 by omega,oh,oh,fA (a9 _)];simp
  have e2:(Slot.ak (c q).1::Slot.ak (c q).2::(d++[Slot.av (.ag a)])).set (2+d.length) (.av (.ag (a++[h q])))= .ak (c q).1:: .ak (c q).2::(d++[.av (.ag (a++[h q]))]):=by
   rw [show (2+d.length)=d.length+1+1 by omega,DU,DU,List.set_append_right _ _ (a9 _)];simp
  show (j (.ak (c q).1:: .ak (c q).2::(d++[.av (.ag a)]))>>=_)=_;rw [o];show (cq (2+d.length) (.ak (c q).1:: .ak (c q).2::(d++[.av (.ag a)]))>>=_)=_;rw [e1];show aS _ _=_;rw [jq (by omega)];show zY _ _ _ _ (L.map λq=>D.ah [(c q).1,(c q).2]) ((Slot.ak (c q).1::Slot.ak (c q).2::(d++[Slot.av (.ag a)])).set (2+d.length) (.av (.ag (a++[h q]))))=_;rw [e2,p];simp
def Ja {α:Type} (d:α->D×D) {js:List Nat} {g:TD} {i:TJ} {a:Sl} {L:List α} {cs:List Slot} (h:α->D) (P:α->Prop) (k:js.map (gM false a)=cs) (m:g a= .ok (L.map λq=> .ah [(d q).1,(d q).2])) (n: ∀q∈L,P q) (o:L.length<=aR)
  (p: ∀q j,P q->i (.ak (d q).1:: .ak (d q).2::(cs++[.av (.ag j)]))= .ok (h q)):j8 false 2 js g (g2 (gN 0) (gN 1)) jX i a= .ok (.ag (L.map h)):=by
 obtain ⟨y,l,r⟩:=Z6 h P p L .un .un [] n (by simpa using o);have e:js.length=cs.length:=by rw [<-k];simp
 show (g a>>=_)=_;rw [m];show (zY (2+js.length) (g2 (gN 0) (gN 1)) jX i (L.map λq=>D.ah [(d q).1,(d q).2]) (wj false 2 js a)>>=_)=_
 have t:wj false 2 js a= .un:: .un::(cs++[.av (.ag [])]):=by
  unfold wj;rw [k];rfl
 rw [t,e,r];show (cq (2+cs.length) (y::l::(cs++[.av (.ag ([]++L.map h))]))>>=_)=_
 have e1:cq (2+cs.length) (y::l::(cs++[.av (.ag ([]++L.map h))]))= .ok (L.map h):=by
  unfold cq;rw [show (2+cs.length)=cs.length+1+1 by omega,oh,oh,fA (a9 _)];simp
 rw [e1];exact jq (c:=false=true->D.eX (L.map h)=true) (λh=>by cases h)
def ZK {c d:TH} {a:Sl} (h:c a= .ok true):dY c d a= .ok true:=by rw [Vq,h];rfl
def ox:D->Bool
 | .int _=>true
 |_=>false
def Y2 {d:D} (h:nw d=true):qK [d]= .ok (.bl (ox d)):=by
 cases d with
 |di _=>cases h
 |eW _ _=>cases h
 |dz _ _=>cases h
 |obj _ _ _=>cases h
 |mem _ _=>cases h
 |cr _=>cases h
 |_=>rfl
def zq:D->Bool
 | .int k=>decide (0<=k)&&decide (k<=9)
 |_=>false
def zD:D->Bool
 | .ah [a,b]=>isNm a&&(ox b&&zq b)
 |_=>false
abbrev LY:Sl->ao Bool:=dY (bi (aX (xC "tuple" (af 0)))) (aX (al (app (jb (af 0) aa) bw) (cI 2) ei))
def Kx {d:D} (h:nw d=true) (e: ∀a b,d≠ .ah [a,b]) (r:Sl):LY (.ak d::r)= .ok true:=by
 cases d with
 |ah g=>
  match g,e with
  | [],_=>rfl
  | [_],_=>rfl
  | [a,b],e=>exact (e a b rfl).elim
  |a::b::c::r,_=>
   refine JZ (b:=false) (b2:=true) rfl (jR ((jh (j3 (jd rfl rfl) rfl) rfl xV).trans ?_));have:(((a::b::c::r).length:Int)==2)=false:=by simp;omega
   rw [this];rfl
 |di _=>cases h
 |eW _ _=>cases h
 |dz _ _=>cases h
 |obj _ _ _=>cases h
 |mem _ _=>cases h
 |cr _=>cases h
 |_=>rfl
def JB {a b:D} (i:nw a=true) (j:nw b=true):jI [.ah [a,b]]= .ok (.bl (zD (.ah [a,b]))):=by
 have l:=LQ i;have hw:=Y2 j;have m:al (af 0) (cI 0) aQ [.ak (.ah [a,b])]= .ok a:=jh rfl rfl rfl;have g:al (af 0) (cI 1) aQ [.ak (.ah [a,b])]= .ok b:=jh rfl rfl rfl;refine qV ?_;show x8 xp qK [.ak (.ah [a,b])]=_;unfold x8;refine (jl rfl).trans (qk ?_);have c:j4 1 xp (jb (al (af 0) (cI 0) aQ) aa) [.ak (.ah [a,b])]=_:=jY (jd m rfl) rfl l;have d:j4 1 qK (jb (al (af 0) (cI 1) aQ) aa) [.ak (.ah [a,b])]=_:=jY (jd g rfl) rfl hw;show _=ao.ok (D.bl (isNm a&&(ox b&&zq b)))
 cases h:isNm a with
 |false=>rw [h] at c;exact Y8 c
 |true=>
  rw [h] at c;refine Y7 c ?_;rw [Bb]
  cases e:ox b with
  |false=>rw [e] at d;exact Y8 d
  |true=>
   rw [e] at d;refine Y7 d ?_
   cases b with
   |int k=>
    rw [Bb];exact yi rfl g rfl rfl rfl
   |_=>cases e
def JC {d:D} (h:nw d=true) (c: ∀a b,d≠ .ah [a,b]):jI [d]= .ok (.bl false):=qV (qH ((bZ (Kx h c [])).trans rfl))
def iG:D->Bool
 | .int x=>decide (0<=x)&&decide (x<=2)
 |_=>false
def iH (m:Int):D->Bool
 | .ah [.int a,.ah c]=>(decide (1<=a)&&decide (a<=10^30))&&(decide ((c.length:Int)=m)&&c.all iG)
 |_=>false
def Wx {d:D} {m:Int} (h:nw d=true) (c: ∀a b,d≠ .ah [a,b]):jz [d,.int m]= .ok (.bl false):=qV (qH ((bZ (Kx h c _)).trans rfl))
abbrev LZ:Sl->ao Bool:=dY (bi (aX (j4 1 qK (jb (al (af 0) (cI 0) aQ) aa)))) (bi (aX (yD (cI 1) (al (af 0) (cI 0) aQ) (al (cI 10) (cI 30) dA) hE hE)))
def ZF {a b:D} {m:Int} (h:nw a=true) (i:nw b=true) (p: ∀g,b= .ah g->g.all nw=true/\g.length<=100):jz [.ah [a,b],.int m]= .ok (.bl (iH m (.ah [a,b]))):=by
 refine qV ?_;show zP qK [.ak (.ah [a,b]),.ak (.int m)]=_;unfold zP;refine (jl rfl).trans ?_;have l:al (af 0) (cI 0) aQ [.ak (.ah [a,b]),.ak (.int m)]= .ok a:=jh rfl rfl rfl;have o:al (af 0) (cI 1) aQ [.ak (.ah [a,b]),.ak (.int m)]= .ok b:=jh rfl rfl rfl;have w:=jR (jY (n:=1) (jd l (fa:=aa) rfl) rfl (Y2 h))
 cases a with
 |int a=>
  have t:LZ [.ak (.ah [.int a,b]),.ak (.int m)]= .ok (!true||!(decide (1<=a)&&decide (a<=10^30))):=JZ (ql w) (ql (jR (yi rfl l (jh rfl rfl kQ) rfl rfl)))
  cases c:(decide (1<=a)&&decide (a<=10^30)) with
  |false=>
   rw [c] at t;refine (qH ((bZ t).trans rfl)).trans ?_;cases b<;>simp only [iH,c,pc]
  |true=>
   rw [c] at t;refine (jl ((cj t).trans rfl)).trans ?_
   cases b with
   |ah g=>
    obtain ⟨q,r⟩:=p g rfl;have j:dY (bi (aX (xC "tuple" (al (af 0) (cI 1) aQ)))) (aX (al (app (jb (al (af 0) (cI 1) aQ) aa) bw) (af 1) ei)) [.ak (.ah [.int a,.ah g]),.ak (.int m)]= .ok (false||!((g.length:Int)==m)):=JZ rfl (jR (jh (j3 (jd o rfl) rfl) rfl xV));show _=ao.ok (bF.rt true (D.bl (_&&(decide ((g.length:Int)=m)&&_))));rw [c]
    by_cases e:(g.length:Int)=m
    . rw [show ((g.length:Int)==m)=true by simpa using e] at j;refine (jl ((cj j).trans rfl)).trans ?_;refine qk (j3 (jd (xh (λd=>D.bl (iG d)) (λd=>nw d=true) rfl (xF o rfl) (λd hd=>eD.mp q d hd) (jk (by omega)) (λd k hd=>?_)) rfl) ?_)
      . have w:=jY (n:=1) (env:= .ak d::([]++[.av (.ag k)])) (fa:=jb (af 0) aa) (jd rfl rfl) rfl (Y2 hd)
        cases d with
        |int x=>exact Y7 w (yi rfl rfl rfl rfl rfl)
        |_=>exact Y8 w
      . rw [yl,decide_eq_true e];rfl
    . rw [show ((g.length:Int)==m)=false by simpa using e] at j;rw [decide_eq_false e];exact (qH ((bZ j).trans rfl))
   |di _=>cases i
   |eW _ _=>cases i
   |dz _ _=>cases i
   |obj _ _ _=>cases i
   |mem _ _=>cases i
   |cr _=>cases i
   |_=>exact qH ((bZ (ZK rfl)).trans rfl)
 |di _=>cases h
 |eW _ _=>cases h
 |dz _ _=>cases h
 |obj _ _ _=>cases h
 |mem _ _=>cases h
 |cr _=>cases h
 |_=>exact qH ((bZ (ZK (ql w))).trans rfl)
def any_map {d:Type} (l:List d) (p:d->Bool):mn [.ag (l.map λc=>D.bl (p c))]= .ok (.bl (l.any p)):=by
 have e:JP (l.map λc=>D.bl (p c))=some (l.map p):=by
  induction l with
  |nil=>rfl
  |cons a l g=>simp only [fy,JP,g];rfl
 show (match JP (l.map λc=>D.bl (p c)) with
  |some bs=>ao.ok (D.bl (bs.any id))
  |none=>ao.aj)=_
 rw [e];dsimp only;rw [List.any_map];rfl
theorem Qo: ∀a:List Int,ZT (a.map D.int)=some (a.map gY)
 | []=>rfl
 |x::r=>by
  show (match n4 (.int x),ZT (r.map D.int) with
   |some k,some c=>some (k::c)
   |_,_=>none)=_
  rw [Qo r];rfl
theorem kK: ∀l:List (List Int),ew (l.map tI)=some (l.map λa=>a.map gY)
 | []=>rfl
 |x::r=>by
  show (match ff (tI x),ew (r.map tI) with
   |some k,some c=>some (k::c)
   |_,_=>none)=_
  rw [kK r,show ff (tI x)=ZT (x.map D.int) from rfl,Qo x];rfl
def ur (i:Int):ei (.int i) (.int i)= .ok (.bl false):=(xV).trans (by simp)
def KA {c d:TH} {a:Sl} (h:c a= .ok false):dY c d a=d a:=by rw [Vq,h];rfl
abbrev DV:Sl->ao Bool:=(dY (bi (aX (xC "tuple" (af 0)))) (dY (aX (al (app (jb (af 0) aa) bw) (cI 2) ei)) (bi (aX (j4 1 jI (jb (al (af 0) (cI 0) aQ) aa))))))
def kT {d:D} (t:DV [.ak d,.un,.un]= .ok true):jm [d]= .ok (.bl false):=qV (qH ((bZ t).trans rfl))
def WF {d:D} (h:nw d=true) (e: ∀a b,d≠ .ah [a,b]):jm [d]= .ok (.bl false):=kT (by
 cases d with
 |ah g=>
  match g,e with
  | [],_=>exact (KA rfl).trans (ZK rfl)
  | [_],_=>exact (KA rfl).trans (ZK rfl)
  | [a,b],e=>exact (e a b rfl).elim
  |a::b::c::r,_=>
   refine (KA rfl).trans (ZK (jR ((jh (j3 (jd rfl rfl) rfl) rfl xV).trans ?_)));have:(((a::b::c::r).length:Int)==2)=false:=by simp;omega
   rw [this];rfl
 |di _=>cases h
 |eW _ _=>cases h
 |dz _ _=>cases h
 |obj _ _ _=>cases h
 |mem _ _=>cases h
 |cr _=>cases h
 |_=>exact ZK rfl)
def Q5 {a b:D} {q:Bool} (h:jI [a]= .ok (.bl q)):DV [.ak (.ah [a,b]),.un,.un]= .ok (!q):=(KA rfl).trans ((KA (jR (jh (j3 (jd rfl rfl) rfl) rfl (ur 2)))).trans (ql (jR (jY (jd (jh rfl rfl rfl) rfl) rfl h))))
def KP {a b:D} (h:jI [a]= .ok (.bl false)):jm [.ah [a,b]]= .ok (.bl false):=kT (Q5 h)
abbrev Bf:Sl->ao Bool:=(dY (bi (aX (xC "list" (af 1)))) (bi (aX (yD (cI 1) (app (jb (af 1) aa) bw) (cI 40) hE hE))))
def kU {a b:D} (h:jI [a]= .ok (.bl true)) (t:Bf [.ak (.ah [a,b]),.ak b,.un]= .ok true):jm [.ah [a,b]]= .ok (.bl false):=
 qV ((jl ((cj (Q5 h)).trans rfl)).trans ((jl (jw (jh rfl rfl rfl))).trans (qH ((bZ t).trans rfl))))
def UJ {a b:D} (h:jI [a]= .ok (.bl true)) (c:gr "list" b= .ok (.bl false)):jm [.ah [a,b]]= .ok (.bl false):=kU h (ZK (ql (b:=false) (jR c)))
def KQ {x:Slot} {l:List D}:Bf [x,.ak (.aU l),.un]= .ok (false||!(decide ((1:Int)<=l.length)&&decide ((l.length:Int)<=40))):=JZ rfl (ql (jR (yi rfl (j3 (jd rfl rfl) rfl) rfl rfl rfl)))
def UK {a:D} {l:List D} (h:jI [a]= .ok (.bl true)) (hl:l=[]\/40<l.length):jm [.ah [a,.aU l]]= .ok (.bl false):=kU h (by
 rw [KQ];rcases hl with rfl|hl
 . rfl
 . rw [decide_eq_false (p:=(l.length:Int)<=40) (by omega),iQ];rfl)
abbrev L0:Sl->ao D:=(app (jb (j8 false 1 [2] (dj (af 1)) (gN 0) jX (j4 2 jz (jb (af 0) (jb (af 1) aa)))) aa) eZ)
def kY {x:Slot} {m:Int} {l:List D} (q:D->Bool) (c:l.length<=40) (h: ∀d∈l,jz [d,.int m]= .ok (.bl (q d))):L0 [x,.ak (.aU l),.ak (.int m)]= .ok (.bl (l.all q)):=
 j3 (jd (xh (λd=>D.bl (q d)) (λd=>d∈l) rfl (xF rfl rfl) (λ_ h=>h) (jk (by omega)) (λd a hd=>jY (jd rfl (jd rfl rfl)) rfl (h d hd))) rfl) (yl l q)
def Xt {z:Str} {m:Nat} {l:List D} (h:jI [b0 z m]= .ok (.bl true)) (c:1<=l.length) (d:l.length<=40) {g:TF} {r:ao bF} (a:g [.ak (.ah [b0 z m,.aU l]),.ak (.aU l),.ak (.int m)]=r):
  au (cp DV (aZ (cB false)) cn) (au (jL 1 (al (af 0) (cI 1) aQ)) (au (cp Bf (aZ (cB false)) cn) (au (jL 2 (al (al (af 0) (cI 0) aQ) (cI 1) aQ)) g))) [.ak (.ah [b0 z m,.aU l]),.un,.un]=r:=by
 refine (jl ((cj (Q5 h)).trans rfl)).trans ((jl (jw (jh rfl rfl rfl))).trans ?_)
 have t:Bf [.ak (.ah [b0 z m,.aU l]),.ak (.aU l),.un]= .ok false:=by
  rw [KQ,decide_eq_true (by omega),decide_eq_true (by omega)];rfl
 refine (jl ((cj t).trans rfl)).trans ?_;refine (jl (jw (jh (jh rfl rfl rfl) rfl rfl))).trans ?_;exact a
def KO {z:Str} {m:Nat} {l:List D} (h:jI [b0 z m]= .ok (.bl true)) (c:1<=l.length) (a:l.length<=40) (q:D->Bool) (e: ∀d∈l,jz [d,.int m]= .ok (.bl (q d))) (g:l.all q=false):jm [.ah [b0 z m,.aU l]]= .ok (.bl false):=by
 refine qV (Xt h c a (qH ((bZ ?_).trans rfl)));have:=kY (x:= .ak (.ah [b0 z m,.aU l])) q a e;rw [g] at this;exact ql (jR this)
def YD {l:List (List Int)} (k:l.length<=76): ∃n:Nat,Ql (.ag (l.map tI))= .ok (.int n)/\(n=l.length↔l.Nodup):=by
 have i:(l.map λg=>(g.map gY:List aI)).Nodup↔l.Nodup:=by
   have inj: ∀ {a b:List Int},(a.map gY:List aI)=b.map gY->a=b:=by
     intro a
     induction a with
     |nil=>intro b h;cases b with
      |nil=>rfl
      |cons y b=>cases h
     |cons x a m=>intro b h;cases b with
      |nil=>cases h
      |cons y b=>
       simp at h;rw [h.1,m h.2]
   exact ⟨λh=>(oj.mp h).imp λc e=>c (congrArg _ e),λh=>oj.mpr (h.imp λc e=>c (inj e))⟩
 refine ⟨nT (l.map λg=>(g.map gY:List aI)),?_,?_⟩
 . show (match ew (l.map tI) with
     |some j=>aS (j.length<=76) (ao.ok (D.int (nT j)))
     |none=>ao.aj)=_
   rw [kK];exact jq (by rw [bB];exact k)
 . by_cases d:l.Nodup
   . rw [Xv (i.mpr d),bB];exact ⟨λ_=>d,λ_=>rfl⟩
   . have:=Fd (λz=>d (i.mp z));rw [bB] at this;exact ⟨λe=>by omega,λz=>absurd z d⟩
def mV (m:Nat) (L:List (Int×List Int)):Bool:=(zK 0 m).all λd=>match d with
 | .int j=>L.any λq=>decide (0< (q.2[j.toNat]?).getD 0)
 |_=>false
abbrev L1:Sl->ao D:=(app (jb (j8 false 1 [1] (fI (jb (af 2) aa)) (gN 0) jX (app (jb (j8 false 2 [0] (dj (af 1)) (g2 (gN 0) (gN 1)) jX (al (al (af 1) (af 2) aQ) (cI 0) lJ)) aa) mn)) aa) eZ)
def L3 {x:Slot} {m:Nat} (n:m<=9) {L:List (Int×List Int)} (o:L.length<=40) (ok: ∀p∈L,p.2.length=m):L1 [x,.ak (.aU (L.map aN)),.ak (.int m)]= .ok (.bl (mV m L)):=by
 refine j3 (jd (xh (λd=>D.bl (match d with
   | .int j=>L.any λq=>decide (0< (q.2[j.toNat]?).getD 0)
   |_=>false)) (λd=> ∃j:Nat,j<m/\d= .int j) rfl (Jg (j:=m) (jd rfl rfl) (by omega)) (λd hd=>?_) ?_ (λd a hd=>?_)) rfl) (yl _ _)
 . obtain ⟨k,rfl,r,t⟩:=xY hd;exact ⟨k.toNat,by omega,by rw [show ((k.toNat:Nat):Int)=k by omega]⟩
 . rw [wS];exact jk (by omega)
 . obtain ⟨j,g,rfl⟩:=hd
   have i:j8 false 2 [0] (dj (af 1)) (g2 (gN 0) (gN 1)) jX (al (al (af 1) (af 2) aQ) (cI 0) lJ) (.ak (.int j)::([.ak (.aU (L.map aN))]++[.av (.ag a)]))= .ok (.ag (L.map λq=>D.bl (decide (0< (q.2[j]?).getD 0)))):=Ja (λq:Int×List Int=>(D.int q.1,tI q.2)) (λq=>D.bl (decide (0< (q.2[j]?).getD 0))) (λq=>q∈L) rfl (xF rfl rfl) (λ_ h=>h) (jk (by omega)) (λq a l=>by
    have c:j<q.2.length:=by rw [ok q l];exact g
    have e:aQ (tI q.2) (.int (j:Int))= .ok (.int q.2[j]):=by
     simp only [tI,aQ];rw [M.dU,fB,dn c];rfl
    rw [dn c]
    exact jh (jh rfl rfl e) rfl rfl)
   exact j3 (jd i rfl) (any_map _ _)
def ZP {z:Str} {m:Nat} {L:List (Int×List Int)} (h:jI [b0 z m]= .ok (.bl true)) (i:m<=9) (v:1<=L.length) (j:L.length<=40) (ok: ∀p∈L,jz [aN p,.int m]= .ok (.bl true)/\p.2.length=m):jm [.ah [b0 z m,.aU (L.map aN)]]= .ok (.bl (decide ((L.map (·.2)).Nodup)&&mV m L)):=by
 have k:(L.map aN).length=L.length:=bB ..;refine qV (Xt h (by omega) (by omega) ?_)
 have a:=kY (x:= .ak (.ah [b0 z m,.aU (L.map aN)])) (m:=m) (l:=L.map aN) (λ_=>true) (by omega) λd hd=>by
   obtain ⟨p,g,rfl⟩:=b8.mp hd;exact (ok p g).1
 rw [show (L.map aN).all (λ_=>true)=true by simp] at a;refine (jl ((cj (ql (jR a))).trans rfl)).trans ?_;obtain ⟨n,e1,e2⟩:=YD (l:=L.map (·.2)) (by rw [bB];omega);rw [bB] at e2;have o:j8 false 2 [] (dj (af 1)) (g2 (gN 0) (gN 1)) jX (af 1) [.ak (.ah [b0 z m,.aU (L.map aN)]),.ak (.aU (L.map aN)),.ak (.int m)]= .ok (.ag (L.map λq=>tI q.2)):=Ja (λq:Int×List Int=>(D.int q.1,tI q.2)) (λq=>tI q.2) (λ_=>True) rfl (xF rfl rfl) (λ_ _=>trivial) (jk (by omega)) (λq r _=>rfl)
 have u:yK (j8 false 2 [] (dj (af 1)) (g2 (gN 0) (gN 1)) jX (af 1)) [.ak (.ah [b0 z m,.aU (L.map aN)]),.ak (.aU (L.map aN)),.ak (.int m)]= .ok (.int n):=by
   unfold yK;rw [o];rw [hG] at e1;exact e1
 have t:aX (al (yK (j8 false 2 [] (dj (af 1)) (g2 (gN 0) (gN 1)) jX (af 1))) (app (jb (af 1) aa) bw) ei) [.ak (.ah [b0 z m,.aU (L.map aN)]),.ak (.aU (L.map aN)),.ak (.int m)]= .ok (!((n:Int)==(L.length:Int))):=jR (jh u (j3 (jd rfl rfl) (by show ao.ok (D.int ((L.map aN).length))=_;rw [k])) xV)
 by_cases c:(L.map (·.2)).Nodup
 . rw [show ((n:Int)==(L.length:Int))=true by rw [e2.mpr c];exact beq_self_eq_true _] at t;rw [decide_eq_true c,Bb];exact (jl ((cj t).trans rfl)).trans (qk (L3 i j λp g=>(ok p g).2))
 . rw [show ((n:Int)==(L.length:Int))=false from beq_eq_false_iff_ne.mpr λe=>c (e2.mp (Int.ofNat.inj e))] at t;rw [decide_eq_false c,pc];exact qH ((bZ t).trans rfl)
structure En where
 z:Str
 m:Nat
 l:List (Int×List Int)
structure bu (e:En):Prop where
 nm:2<=e.z.length/\e.z.length<=8/\iF e.z
 m:e.m<=9
 pr:Pr e.m e.l
 len:e.l.length<=e.m+1
 met: ∀j,j<e.m->Met e.l j
 pos:0<e.l.length
def bK (e:En):D:= .ah [b0 e.z e.m,.ag (e.l.map aN)]
def eF (e:En):D:= .ah [b0 e.z e.m,.aU (e.l.map aN)]
def L4 {z:Str} {m:Nat} (a:isNm (.str z)=true) (c:m<=9):jI [b0 z m]= .ok (.bl true):=by
 refine (JB rfl rfl).trans ?_;show ao.ok (D.bl (isNm (.str z)&&(true&&(decide ((0:Int)<=m)&&decide ((m:Int)<=9)))))=_;rw [a,decide_eq_true (by omega),decide_eq_true (by omega)];rfl
def bu.hd {e:En} (ok:bu e):jI [b0 e.z e.m]= .ok (.bl true):=L4 (uD (by have:=ok.nm.1;omega) ok.nm.2.1 ok.nm.2.2) ok.m
def QP {a m:Int} {c:List Int} (g:c.length<=100):jz [.ah [.int a,tI c],.int m]= .ok (.bl ((decide (1<=a)&&decide (a<=10^30))&&(decide ((c.length:Int)=m)&&c.all λx=>decide (0<=x)&&decide (x<=2)))):=by
 refine (ZF rfl rfl λh e=>?_).trans ?_
 . cases e;exact ⟨eD.mpr λd hd=>by obtain ⟨x,_,rfl⟩:=b8.mp hd;rfl,by rw [bB];exact g⟩
 . show ao.ok (D.bl (_&&(decide (((c.map D.int).length:Int)=m)&&(c.map D.int).all iG)))=_;rw [bB,List.all_map];rfl
def QO {p:Int×List Int} {m:Nat} (d:(1<=p.1/\p.1<=10^30)/\p.2.length=m/\ ∀x∈p.2,0<=x/\x<=2) (h:m<=9):jz [aN p,.int m]= .ok (.bl true):=by
 obtain ⟨⟨e,g⟩,i,a⟩:=d;refine (QP (by omega)).trans ?_;rw [decide_eq_true e,decide_eq_true g,decide_eq_true (by omega),eD.mpr λx c=>by rw [decide_eq_true (a x c).1,decide_eq_true (a x c).2];rfl];rfl
def L5 {m:Nat} {L:List (Int×List Int)} (h: ∀j,j<m->Met L j):mV m L=true:=by
 refine eD.mpr λd hd=>?_
 obtain ⟨k,rfl,a,g⟩:=xY hd;obtain ⟨p,c,x,e,a⟩:=h k.toNat (by omega);exact sh.mpr ⟨p,c,by rw [e];simpa using a⟩
def ZO {e:En} (ok:bu e):jm [eF e]= .ok (.bl true):=by
 have:=ok.len;have:=ok.m;have:=ok.pos;refine (ZP ok.hd ok.m (by omega) (by omega) λp a=>⟨QO (ok.pr.ok p a) ok.m,(ok.pr.ok p a).2.1⟩).trans ?_;rw [decide_eq_true ok.pr.nd,L5 ok.met];rfl
abbrev Fv:Sl->ao Bool:=(dY (bi (aX (xC "list" (af 0)))) (aX (al (app (jb (af 0) aa) bw) (cI 60) lJ)))
def L6 {d:D} (h:gr "list" d= .ok (.bl false)):jy [d]= .ok (.bl false):=qV (qH ((bZ (ZK (ql (b:=false) (jR h)))).trans rfl))
def iS {l:List D}:Fv [.ak (.aU l)]= .ok (false||decide ((60:Int)<l.length)):=JZ rfl (jR (jh (j3 (jd rfl rfl) rfl) rfl rfl))
def kH {l:List D} (h:60<l.length):jy [.aU l]= .ok (.bl false):=qV (qH ((bZ (iS.trans (by rw [decide_eq_true (by omega)];rfl))).trans rfl))
abbrev L7:Sl->ao D:=(app (jb (j8 false 1 [] (dj (af 0)) (gN 0) jX (j4 1 jm (jb (af 0) aa))) aa) eZ)
def vy {l:List D} (q:D->Bool) (c:l.length<=60) (h: ∀d∈l,jm [d]= .ok (.bl (q d))):L7 [.ak (.aU l)]= .ok (.bl (l.all q)):=
 j3 (jd (xh (λd=>D.bl (q d)) (λd=>d∈l) rfl (xF rfl rfl) (λ_ h=>h) (jk (by omega)) (λd a hd=>jY (jd rfl rfl) rfl (h d hd))) rfl) (yl l q)
def VY {l:List D} (h:l.length<=60):Fv [.ak (.aU l)]= .ok false:=by rw [iS,decide_eq_false (by omega)];rfl
def L8 {l:List D} (a:l.length<=60) (q:D->Bool) (h: ∀d∈l,jm [d]= .ok (.bl (q d))) (c:l.all q=false):jy [.aU l]= .ok (.bl false):=by
 have:=vy q a h;rw [c] at this;exact qV ((jl ((cj (VY a)).trans rfl)).trans (qH ((bZ (ql (jR this))).trans rfl)))
theorem kL: ∀l:List (Str×Nat),ew (l.map λh=>b0 h.1 h.2)=some (l.map λh=>[mZ h.1,gY (h.2:Int)])
 | []=>rfl
 |x::r=>by
  show (match ff (b0 x.1 x.2),ew (r.map λh=>b0 h.1 h.2) with
   |some k,some a=>some (k::a)
   |_,_=>none)=_
  rw [kL r];rfl
def YE {l:List (Str×Nat)} (i:l.length<=76): ∃n:Nat,Ql (.ag (l.map lM))= .ok (.int n)/\(n=l.length↔l.Nodup):=by
 have d:(l.map λh=>([mZ h.1,gY (h.2:Int)]:List aI)).Nodup↔l.Nodup:=⟨λh=>(oj.mp h).imp λa e=>a (by rw [e]),λh=>oj.mpr (h.imp λa e=>a (by
     simp at e
     exact Prod.ext e.1 (by omega)))⟩
 refine ⟨nT (l.map λh=>([mZ h.1,gY (h.2:Int)]:List aI)),?_,?_⟩
 . show (match ew (l.map λh=>b0 h.1 h.2) with
     |some g=>aS (g.length<=76) (ao.ok (D.int (nT g)))
     |none=>ao.aj)=_
   rw [kL];exact jq (by rw [bB];exact i)
 . by_cases c:l.Nodup
   . rw [Xv (d.mpr c),bB];exact ⟨λ_=>c,λ_=>rfl⟩
   . have:=Fd (λz=>c (d.mp z));rw [bB] at this;exact ⟨λe=>by omega,λz=>absurd z c⟩
abbrev gV (a:List En):List (Str×Nat):=a.map λe=>(e.z,e.m)
def zN:D->D
 | .ah (x::_)=>x
 |_=> .aO
def Wg {c:List En} (ok: ∀e∈c,bu e) (o:c.length<=60):jy [.aU (c.map eF)]= .ok (.bl (decide (gV c).Nodup)):=by
 have i:(c.map eF).length=c.length:=bB ..
 have mem: ∀d∈c.map eF,∃e∈c,d=eF e:=λd hd=>by
   obtain ⟨e,h,rfl⟩:=b8.mp hd;exact ⟨e,h,rfl⟩
 have a:=vy (l:=c.map eF) (λ_=>true) (by omega) λd hd=>by
   obtain ⟨e,h,rfl⟩:=mem d hd;exact ZO (ok e h)
 rw [show (c.map eF).all (λ_=>true)=true by simp] at a;refine qV ((jl ((cj (VY (by omega))).trans rfl)).trans ((jl ((cj (ql (jR a))).trans rfl)).trans ?_));obtain ⟨n,e1,e2⟩:=YE (l:=gV c) (by rw [bB];omega);rw [bB] at e2
 have j:j8 false 1 [] (dj (af 0)) (gN 0) jX (al (af 0) (cI 0) aQ) [.ak (.aU (c.map eF))]= .ok (.ag ((c.map eF).map zN)):=xh zN (λd=> ∃e∈c,d=eF e) rfl (xF rfl rfl) mem (jk (by omega)) (λd k hd=>by
    obtain ⟨p,q,rfl⟩:=hd
    exact jh rfl rfl rfl)
 have m:yK (j8 false 1 [] (dj (af 0)) (gN 0) jX (al (af 0) (cI 0) aQ)) [.ak (.aU (c.map eF))]= .ok (.int n):=by
   unfold yK;rw [j];rw [hG] at e1 ⊢;exact e1
 refine qk ((jh m (j3 (jd rfl rfl) (show bw [.aU (c.map eF)]= .ok (.int c.length) by show ao.ok (D.int ((c.map eF).length))=_;rw [i])) Vt).trans ?_)
 by_cases g:(gV c).Nodup
 . rw [decide_eq_true g,e2.mpr g];simp
 . rw [decide_eq_false g,show ((n:Int)==(c.length:Int))=false from beq_eq_false_iff_ne.mpr λe=>g (e2.mp (Int.ofNat.inj e))]
def Rw (n k:Nat) (d:D):Prop:= ∃p,toPy d=some p/\lq p=true/\p.leavesShort 64=true/\p.depth<=k/\p.bulk<=n
def L9 (n k:Nat) (c:List D):Prop:= ∃a,dc c=some a/\fq a=true/\PyData.leavesShortAll 64 a=true/\wX a<=k/\Bg a<=n
def Fz (n k:Nat) (d:D):Prop:=(eh d=true/\eM d=true)/\Rw n k (aK d)
def br (n k:Nat) (a:List D):Prop:=(cP a=true/\cG a=true)/\L9 n k (aW a)
def Fz.mono {n k n' k':Nat} {d:D} (h:Fz n k d) (i:n<=n') (j:k<=k'):Fz n' k' d:=by
 obtain ⟨a,p,c,e,g,l,m⟩:=h;exact ⟨a,p,c,e,g,by omega,by omega⟩
def br.mono {n k n' k':Nat} {d:List D} (h:br n k d) (i:n<=n') (j:k<=k'):br n' k' d:=by
 obtain ⟨a,p,c,e,g,l,m⟩:=h;exact ⟨a,p,c,e,g,by omega,by omega⟩
def Fz.aO {n k:Nat}:Fz n k .aO:=⟨⟨rfl,rfl⟩,.none,rfl,rfl,rfl,eQ _,eQ _⟩
def Fz.bl {n k:Nat} (b:Bool):Fz n k (.bl b):=⟨⟨rfl,rfl⟩,.bool b,rfl,rfl,rfl,eQ _,eQ _⟩
def Fz.int {n k:Nat} {i:Int} (h:i.natAbs<10^60):Fz n k (.int i):=by
 refine ⟨⟨rfl,rfl⟩,.int i,rfl,decide_eq_true ?_,decide_eq_true ?_,eQ _,eQ _⟩
 . by_cases z:i.natAbs=0
   . rw [z];decide
   . exact (Nat.log2_lt z).mpr (rS h (eE (show 10^60<2^200 by decide) (Nat.pow_le_pow_right (by decide) (by decide))))
 . have e:=int_text_length_le10 (k:=60) (by decide) h;show (Str.ofString (toString i)).length<=64;rw [ofString_length];omega
def Fz.str {n k:Nat} {z:Str} (h: ∀c∈z.cps.toList,c<16^8) (a:z.length<=n) (e:z.length<=1000):Fz n k (.str z):=by
 refine ⟨⟨rfl,rfl⟩,.str z,rfl,decide_eq_true ?_,eD.mpr λc d=>decide_eq_true (h c d),eQ _,a⟩;have:=StrLaws.reprText_len z h;exact dE this (jk (by omega))
def Fz.cv {n k:Nat}:Fz n (k+1) (.cv [] []):=⟨⟨rfl,rfl⟩,.dict [],rfl,rfl,rfl,by simp [ln,PyData.depthKv],by simp [PyData.bulk,PyData.bulkKv]⟩
def br.nil {n k:Nat}:br n k []:=⟨⟨rfl,rfl⟩,[],rfl,rfl,rfl,eQ _,eQ _⟩
def Fz.ah {n k:Nat} {c:List D} (h:br n k c):Fz n (k+1) (.ah c):=by
 obtain ⟨⟨a,b⟩,p,d,e,g,i,j⟩:=h;exact ⟨⟨a,b⟩,.tuple p,by show (dc (aW c)).map _=_;rw [d];rfl,e,g,Nat.succ_le_succ i,j⟩
def Fz.ag {n k:Nat} {c:List D} (h:br n k c):Fz n (k+1) (.ag c):=by
 obtain ⟨⟨a,b⟩,p,d,e,g,i,j⟩:=h;exact ⟨⟨a,b⟩,.list p,by show (dc (aW c)).map _=_;rw [d];rfl,e,g,Nat.succ_le_succ i,j⟩
def br.cons {n m k:Nat} {d:D} {ds:List D} (h:Fz n k d) (l:br m k ds):br (n+1+m) k (d::ds):=by
 obtain ⟨⟨a,b⟩,p,o,q,r,t,y⟩:=h;obtain ⟨⟨u,v⟩,j,c,e,g,i,w⟩:=l;refine ⟨⟨lL.mpr ⟨a,u⟩,lL.mpr ⟨b,v⟩⟩,p::j,?_,lL.mpr ⟨q,e⟩,lL.mpr ⟨r,g⟩,Nat.max_le.mpr ⟨t,i⟩,?_⟩
 . show (toPy (aK d)).bind _=_;rw [o];show (dc (aW ds)).map _=_;rw [c];rfl
 . show p.bulk+1+Bg j<=_;omega
theorem br.app {n m k:Nat}: ∀ {a b:List D},br n k a->br m k b->br (n+m) k (a++b)
 | [],b,_,h=>h.mono (by omega) (a9 _)
 |d::a,b,h,i=>by
  obtain ⟨⟨x,y⟩,ps,c,j,l,o,g⟩:=h;obtain ⟨p,e1,c⟩:=Option.bind_eq_some_iff.mp c;obtain ⟨e,e2,c⟩:=lH.mp c;subst c;obtain ⟨q,t⟩:=lL.mp x;obtain ⟨u,v⟩:=lL.mp y;obtain ⟨w,z⟩:=lL.mp j;obtain ⟨B,E⟩:=lL.mp l;obtain ⟨H,I⟩:=Nat.max_le.mp o;have g:p.bulk+1+Bg e<=n:=g;have r:=br.app (n:=Bg e) (a:=a) ⟨⟨t,v⟩,e,e2,z,E,I,a9 _⟩ i;exact (br.cons (n:=p.bulk) ⟨⟨q,u⟩,p,e1,w,B,H,a9 _⟩ r).mono (by omega) (a9 _)
theorem br.of {n k:Nat}: ∀ {ds:List D},(∀d∈ds,Fz n k d)->br (ds.length*(n+1)) k ds
 | [],_=> .nil
 |d::ds,h=>(br.cons (h d dB) (br.of λe a=>h e (dC _ a))).mono (by rw [fP,Nat.add_mul];omega) (a9 _)
def Fz.oY {n k:Nat} {d:D} (h:Fz n k d) (g:n<=200000) (i:k<=100): ∃s,lr (aK d)= .ok (.str s):=by
 obtain ⟨_,p,a,c,e,j,l⟩:=h;refine ⟨p.shown,?_⟩;unfold lr;rw [a];have:=PyData.shown_le_bulk 64 (by decide) p e;exact jq ⟨c,by omega,dE this (dE (show (64+2)*p.bulk+64<=13200064 by omega) (by decide))⟩
def Fz.nw {n k:Nat} {d:D} (h:Fz n k d):nw (aK d)=true:=by
 obtain ⟨_,p,a,_⟩:=h
 cases e:aK d with
 |di _=>rw [e] at a;cases a
 |eW _ _=>rw [e] at a;cases a
 |dz _ _=>rw [e] at a;cases a
 |obj _ _ _=>rw [e] at a;cases a
 |mem _ _=>rw [e] at a;cases a
 |cr _=>rw [e] at a;cases a
 |_=>rfl
theorem wU {c:Type} {f g:c->D} (h: ∀a,aK (f a)=g a): ∀l:List c,aW (l.map f)=l.map g
 | []=>rfl
 |a::l=>by
  show aK (f a)::aW (l.map f)=_;rw [h,wU h l];rfl
theorem Vo: ∀ {a:List D},(∀d∈a,aK d=d)->aW a=a
 | [],_=>rfl
 |d::a,h=>by
  show aK d::aW a=_;rw [h d dB,Vo λe c=>h e (dC _ c)]
def ZY (a:List Int):aK (tI a)=tI a:=congrArg D.ah (wU (λ_=>rfl) a)
def Vn (p:Int×List Int):aK (aN p)=aN p:=by
 show D.ah [.int p.1,aK (tI p.2)]=_;rw [ZY];rfl
def WR (l:List (Int×List Int)):aW (l.map aN)=l.map aN:=wU Vn l
def vh (e:En):aK (bK e)=eF e:=by
 show D.ah [.ah [.str e.z,.int e.m],.aU (aW (e.l.map aN))]=_;rw [WR];rfl
def WS (a:List En):aW (a.map bK)=a.map eF:=wU vh a
def eA (m:Int) (x:D):Prop:=Fz 40 3 x/\jz [aK x,.int m]= .ok (.bl false)
def UZ {ps:List Int} (c:ps.length<=10) (h: ∀x∈ps,0<=x/\x<=2):Fz 10 1 (tI ps):=by
 refine Fz.ah ((br.of (n:=0) λd hd=>?_).mono (by rw [bB];omega) (a9 _));obtain ⟨x,a,rfl⟩:=b8.mp hd;have:=h x a;exact .int (by omega)
def cz {n m k:Nat} {a b:D} (c:Fz n k a) (d:Fz m k b):Fz (n+m+2) (k+1) (.ah [a,b]):= .ah ((br.cons c (br.cons d (br.nil (n:=0)))).mono (by omega) (a9 _))
def wc {m:Int} {a b d c:D} (h:Fz 40 3 (.ah [a,b])) (g:aK a=d) (i:aK b=c) (j:nw d=true) (k:nw c=true) (l: ∀e,c= .ah e->e.all nw=true/\e.length<=100) (n:iH m (.ah [d,c])=false):eA m (.ah [a,b]):=by
 subst g i;refine ⟨h,(ZF j k l).trans ?_⟩;rw [n]
def wQ {m:Int} {x:D} (h:Fz 40 3 x) (c: ∀a b,aK x≠ .ah [a,b]):eA m x:=⟨h,Wx h.nw c⟩
section
variable {s m:Int} {ps:List Int}
def um (ps:List Int):(ps.map D.int).all nw=true:=eD.mpr λd hd=>by
 obtain ⟨x,_,rfl⟩:=b8.mp hd;rfl
def Ma (c:ps.length<=10): ∀a,tI ps= .ah a->a.all nw=true/\a.length<=100:=λa e=>by
 cases e;exact ⟨um ps,by rw [bB];omega⟩
def Qg (c:ps.length<=10) (h: ∀x∈ps,0<=x/\x<=2) {a:D} (d:Fz 1 1 a) (e:aK a=a) (g: ∀q,iH m (.ah [a,.ah q])=false):eA m (.ah [a,tI ps]):=
 wc ((cz d (UZ c h)).mono (by decide) (by decide)) e (ZY ps) (e▸d.nw) rfl (Ma c) (g _)
def Mb (g:s.natAbs<10^60) (w:ps.length<=9) (h: ∀x∈ps,0<=x/\x<=2) {u v:List D} (j: ∀d∈u,d∈ps.map D.int) (k: ∀d∈v,d∈ps.map D.int) (l:(u++v).length<=9) {x:D} (o:Fz 1 1 x) (p:aK x=x) (q:iG x=false):eA m (.ah [.int s,.ah (u++[x]++v)]):=by
 have r: ∀d∈u++[x]++v,d=x\/d∈ps.map D.int:=λd hd=>by
   rcases eG.mp hd with z|z
   . rcases eG.mp z with z|z
     . exact .inr (j d z)
     . exact .inl (ir.mp z)
   . exact .inr (k d z)
 have a: ∀d∈u++[x]++v,Fz 1 1 d/\aK d=d:=λd hd=>by
   rcases r d hd with rfl|z
   . exact ⟨o,p⟩
   . obtain ⟨i,a,rfl⟩:=b8.mp z;have:=h i a;exact ⟨.int (by omega),rfl⟩
 have c:(u++[x]++v).length<=10:=by simp only [dH,gz] at l ⊢;omega
 have t:Fz 20 2 (.ah (u++[x]++v)):= .ah ((br.of λd hd=>(a d hd).1).mono (by omega) (a9 _));have e1:aK (.ah (u++[x]++v))= .ah (u++[x]++v):=congrArg D.ah (Vo λd hd=>(a d hd).2);refine wc ((cz (n:=0) (Fz.int g) t).mono (by decide) (by decide)) rfl e1 rfl rfl (λy e=>?_) ?_
 . cases e;exact ⟨eD.mpr λd hd=>(a d hd).2▸(a d hd).1.nw,by omega⟩
 . show (_&&(_&&(u++[x]++v).all iG))=false;rw [show (u++[x]++v).all iG=false from Bh.mpr ⟨x,by simp,by rw [q];decide⟩,iQ,iQ]
def xx {a b:List D} (h:a.length+b.length<=20000):bx (.ah a) (.ah b)= .ok (.ah (a++b)):=by
 cases a with
 |nil=>rfl
 |cons x r=>exact jq ⟨rfl,jk h⟩
def wt {a b:List D} (h:a.length+b.length<=20000):bx (.ag a) (.ag b)= .ok (.ag (a++b)):=jq (jk h)
def pick {L:List D} (a:0<L.length) (n:Int): ∃x,aQ (.ag L) (.int (n%(L.length:Int)))= .ok x/\x∈L:=Cu (nr _ (by omega)) (ss _ (by omega))
theorem X6 {a0 a1 a2 a4 a5 a6:Slot} {f:TJ} (h:D->D) (c: ∀x L,f [a0,a1,a2,.av (.ag L),a4,a5,a6,.ak x]= .ok (h x)): ∀(a L:List D) (v:Slot),a.length+L.length<=10000-> ∃w,c8 (wD (gN 7) (jZ 3 f)) a [a0,a1,a2,.av (.ag L),a4,a5,a6,v]= .ok (.nx [a0,a1,a2,.av (.ag (L++a.map h)),a4,a5,a6,w])
 | [],L,v,_=>⟨v,by rw [List.map_nil,lO];rfl⟩
 |x::a,L,v,d=>by
  rw [fP] at d;obtain ⟨w,e⟩:=X6 h c a (L++[h x]) (.ak x) (by rw [dH,gz];omega);refine ⟨w,(JG ?_).trans (e.trans (by rw [ia];rfl))⟩;rw [xJ rfl];exact zb rfl (c x L) (by omega)
end
abbrev mW (a:List Int):List D:=[.ah [.int 0,tI a],.ah [.int (-1),tI a],.ah [.int (10^30+1),tI a],.ah [.bl true,tI a],.ah [.aO,tI a],.ah [.str "1",tI a]]
abbrev nE (s:Int) (a:List Int):List D:=[.ah [tI a,.int 1],.ah [.int s,.ag (a.map D.int)],.ah [.int s,.ah (a.map D.int++[.int 1])],.ag [.int s,tI a],.ah [.int s]]
abbrev oZ (s:Int) (a:List Int):List D:=[.ah [.int s,tI a,.int 1],.aO,.int 1,tI a]
def VO (l:List D) (k:Nat):cutD l none (some (k:Int))=l.take k:=by
 unfold cutD;rw [HT.gL,HT.iL];simp
def y9 (l:List D) (k:Nat):cutD l (some (k:Int)) none=l.drop k:=by
 unfold cutD;rw [HT.gL,HT.iL]
 by_cases h:k<=l.length
 . rw [Nat.min_eq_left h];exact AX (by simp)
 . rw [Nat.min_eq_right (by omega),CB (a9 _),CB (by omega)];simp
abbrev DX (s:Int) (a:List Int) (i:Nat) (x:D):D:= .ah [.int s,.ah ((a.map D.int).take i++[x]++(a.map D.int).drop (i+1))]
abbrev DY (s:Int) (a:List Int):List D:=[.ah [.int s,.ah ((a.map D.int).drop 1)],.ah [.int s,.int 1]]
structure dM (m:Nat) (s:Int) (ps:List Int):Prop where
 s:1<=s/\s<=10^30
 len:ps.length=m
 ps: ∀x∈ps,0<=x/\x<=2
 m:m<=9
section
variable {m:Nat} {s:Int} {ps:List Int}
def dM.sm (k:dM m s ps):s.natAbs<10^60:=by have:=k.s;omega
def dM.fz (k:dM m s ps):Fz 10 1 (tI ps):=UZ (by have:=k.len;have:=k.m;omega) k.ps
def Vl {c:Nat} {n k:Nat} (h:c<16^8) (a:1<=n):Fz n k (.str ⟨#[c]⟩):= .str (λx d=>by rw [show x=c by simpa using d];exact h) a (by decide:1<=1000)
def Mc (k:dM m s ps): ∀x∈mW ps,eA m x:=by
 have a:ps.length<=10:=by have:=k.len;have:=k.m;omega
 refine bo.2 ⟨Qg a k.ps (.int (by decide)) rfl λq=>by simp [iH],bo.2 ⟨Qg a k.ps (.int (by decide)) rfl λq=>by simp [iH],bo.2 ⟨Qg a k.ps (.int (by decide)) rfl λq=>by simp [iH],bo.2 ⟨Qg a k.ps (.bl _) rfl λq=>rfl,bo.2 ⟨Qg a k.ps .aO rfl λq=>rfl,bo.2 ⟨Qg a k.ps (Vl (by decide) (by decide)) rfl λq=>rfl,λ_ h=>nomatch h⟩⟩⟩⟩⟩⟩
def Md (k:dM m s ps): ∀x∈nE s ps,eA m x:=by
 have l:ps.length<=10:=by have:=k.len;have:=k.m;omega
 have g:Fz 10 1 (.ag (ps.map D.int)):=by
  refine Fz.ag ((br.of (n:=0) λd hd=>?_).mono (by rw [bB];omega) (a9 _));obtain ⟨x,a,rfl⟩:=b8.mp hd;have:=k.ps x a;exact .int (by omega)
 have e2:D.ah (ps.map D.int++[.int 1])=tI (ps++[1]):=by show _=D.ah _;rw [mj];rfl
 have i: ∀x∈ps++[1],0<=x/\x<=2:=λx a=>by
  rcases eG.mp a with z|z
  . exact k.ps x z
  . rw [ir] at z;subst z;decide
 have j:(ps++[1]).length=m+1:=by rw [dH,k.len];rfl
 refine bo.2 ⟨wc ((cz k.fz (Fz.int (n:=0) (by decide))).mono (by decide) (by decide)) (ZY ps) rfl rfl rfl (λ_ e=>nomatch e) rfl,bo.2 ⟨wc ((cz (n:=0) (Fz.int k.sm) g).mono (by decide) (by decide)) rfl rfl rfl rfl (λ_ e=>nomatch e) rfl,bo.2 ⟨?_,bo.2 ⟨wQ ((Fz.ag (k:=1) (br.cons (n:=0) (.int k.sm) (br.cons k.fz (br.nil (n:=0))))).mono (by decide) (by decide)) (λ_ _ e=>nomatch e),bo.2 ⟨wQ ((Fz.ah (k:=0) (br.cons (n:=0) (.int k.sm) (br.nil (n:=0)))).mono (by decide) (by decide)) (λ_ _ e=>nomatch e),λ_ h=>nomatch h⟩⟩⟩⟩⟩;rw [e2];have c:decide (((ps++[1]).length:Int)=(m:Int))=false:=decide_eq_false (by rw [j];omega);refine ⟨(cz (n:=0) (Fz.int k.sm) (UZ (by have:=k.m;omega) i)).mono (by decide) (by decide),?_⟩;rw [show aK (.ah [.int s,tI (ps++[1])])= .ah [.int s,tI (ps++[1])] from congrArg (λt=>D.ah [.int s,t]) (ZY _),QP (by have:=k.m;omega),c,pc,iQ]
def Me (k:dM m s ps): ∀x∈oZ s ps,eA m x:=by
 refine bo.2 ⟨wQ ((Fz.ah (k:=1) (br.cons (n:=0) (.int k.sm) (br.cons k.fz (br.cons (n:=0) (.int (by decide)) (br.nil (n:=0)))))).mono (by decide) (by decide)) (λ_ _ e=>nomatch e),bo.2 ⟨wQ .aO (λ_ _ e=>nomatch e),bo.2 ⟨wQ (.int (by decide)) (λ_ _ e=>nomatch e),bo.2 ⟨?_,λ_ h=>nomatch h⟩⟩⟩⟩;have f:=k.fz.mono (n':=40) (k':=3) (by decide) (by decide)
 match ps,f with
 | [a,b],f=>exact wc f rfl rfl rfl rfl (λ_ e=>nomatch e) rfl
 | [],f=>exact wQ f (λ_ _ e=>nomatch e)
 | [_],f=>exact wQ f (λ_ _ e=>nomatch e)
 |_::_::_::_,f=>exact wQ f (λ_ _ e=>nomatch e)
abbrev nc:List D:=[.int 3,.int (-1),.bl true,.aO,.str "1"]
def Mf (k:dM m s ps) (i:Nat): ∀x∈nc.map (DX s ps i),eA m x:=λx c=>by
 obtain ⟨y,d,rfl⟩:=b8.mp c;have a: ∀y∈nc,Fz 1 1 y/\aK y=y/\iG y=false:=bo.2 ⟨⟨.int (by decide),rfl,rfl⟩,bo.2 ⟨⟨.int (by decide),rfl,rfl⟩,bo.2 ⟨⟨.bl _,rfl,rfl⟩,bo.2 ⟨⟨.aO,rfl,rfl⟩,bo.2 ⟨⟨Vl (by decide) (by decide),rfl,rfl⟩,λ_ h=>nomatch h⟩⟩⟩⟩⟩;obtain ⟨e,g,j⟩:=a y d;have l:ps.length<=9:=by have:=k.len;have:=k.m;omega
 exact Mb k.sm l k.ps (λ_ h=>sv h) (λ_ h=>sw h) (by rw [dH,g7,nO,bB];omega) e g j
def Mg (k:dM m s ps) (i:0<m): ∀x∈DY s ps,eA m x:=by
 have c:=k.len
 cases ps with
 |nil=>exact absurd c (by show¬0=m;omega)
 |cons a r=>
  show∀x∈[D.ah [.int s,.ah (r.map D.int)],.ah [.int s,.int 1]],eA m x;have d: ∀x∈r,0<=x/\x<=2:=λx g=>k.ps x (dC _ g)
  rw [fP] at c;refine bo.2 ⟨⟨(cz (n:=0) (Fz.int k.sm) (UZ (ps:=r) (by have:=k.m;omega) d)).mono (by decide) (by decide),?_⟩,bo.2 ⟨wc ((cz (n:=0) (m:=0) (k:=0) (Fz.int k.sm) (.int (by decide))).mono (by decide) (by decide)) rfl rfl rfl rfl (λ_ e=>nomatch e) rfl,λ_ h=>nomatch h⟩⟩;refine (congrArg (λt=>jz [.ah [.int s,t],.int m]) (ZY r)).trans ((QP (by have:=k.m;omega)).trans ?_);rw [decide_eq_false (p:=(r.length:Int)=m) (by omega),pc,iQ]
def Xp {env:Sl} {L:List D} {n:Int} (c:env[0]?=some (.ak (.int n))) (a:env[3]?=some (.av (.ag L))) (d:0<L.length): ∃x,retS (al (cH 3) (al (af 0) (app (jb (cH 3) aa) bw) aY) aQ) env= .ok (.rt false x)/\x∈L:=by
 obtain ⟨x,e,g⟩:=pick d n;exact ⟨x,QL (jh (Jh a) (qi (by unfold af;rw [c]) (j3 (jd (Jh a) rfl) rfl) (by omega)) e),g⟩
def Q0 (k:dM m s ps) (n:Int): ∃x,qU [.int n,aN (s,ps),.int m]= .ok x/\eA m x:=by
 have q:ps.length<=9:=by have:=k.len;have:=k.m;omega
 have pre: ∀ {r},(au (cp (aX (al (af 2) (cI 0) lJ)) (au (jL 6 (al (al (af 0) (cI 100) bC) (af 2) aY)) (au (dZ (dj (bc (jb (cI 3) (jb (jM (cI 1)) (jb (cB true) (jb cN (jb (cS "1") aa))))))) (gN 7) (jZ 3 (aw (jb (af 4) (jb (al (al (qL (af 5) xB (wE (af 6)) gC) (aw (jb (af 7) aa)) bx) (qL (af 5) (wE (al (af 6) (cI 1) bx)) xB gC) bx) aa))))) (er 3 (cf 3 (al (af 3) (bc (jb (aw (jb (af 4) (jb (qL (af 5) (wE (cI 1)) xB gC) aa))) (jb (aw (jb (af 4) (jb (cI 1) aa))) aa))) bx))))) cn) (retS (al (cH 3) (al (af 0) (app (jb (cH 3) aa) bw) aY) aQ)) [.ak (.int n),.ak (aN (s,ps)),.ak (.int m),.av (.ag (mW ps++nE s ps++oZ s ps)),.ak (.int s),.ak (tI ps),.un,.un]=r)->qj [.ak (.int n),.ak (aN (s,ps)),.ak (.int m),.un,.un,.un,.un,.un]=r:=λ{r} h=>by
   unfold qj;refine (jl (yF (x:= .int s) (y:=tI ps) rfl)).trans ?_;refine (jl (zU (d:= .ag (mW ps)) rfl)).trans ?_;refine (jl (zU (d:= .ag (mW ps++nE s ps)) (jh (x:= .ag (mW ps)) (y:= .ag (nE s ps)) rfl (x0 (jd rfl (jd rfl (jd (qv (jd rfl (jd (jh rfl rfl (xx (by rw [bB];simp;omega))) rfl)) (jk (show 2<=20000 by decide))) (jd rfl (jd rfl rfl))))) (jk (show 5<=20000 by decide))) (wt (show 6+5<=20000 by decide))))).trans ?_;refine (jl (zU (d:= .ag (mW ps++nE s ps++oZ s ps)) (jh (x:= .ag (mW ps++nE s ps)) (y:= .ag (oZ s ps)) rfl rfl (wt (show 11+4<=20000 by decide))))).trans ?_;exact h
 have a: ∀x∈mW ps++nE s ps++oZ s ps,eA m x:=λx g=>by
   rcases eG.mp g with z|z
   . rcases eG.mp z with z|z
     . exact Mc k x z
     . exact Md k x z
   . exact Me k x z
 by_cases l:0<m
 . obtain ⟨j,o⟩: ∃j:Nat,n/100%(m:Int)=j:=⟨(n/100%(m:Int)).toNat,(Int.toNat_of_nonneg (nr _ (by omega))).symm⟩
   obtain ⟨w,e⟩:=X6 (a0:= .ak (.int n)) (a1:= .ak (aN (s,ps))) (a2:= .ak (.int m)) (a4:= .ak (.int s)) (a5:= .ak (tI ps)) (a6:= .ak (.int j)) (f:=(aw (jb (af 4) (jb (al (al (qL (af 5) xB (wE (af 6)) gC) (aw (jb (af 7) aa)) bx) (qL (af 5) (wE (al (af 6) (cI 1) bx)) xB gC) bx) aa)))) (DX s ps j) (λx L=>by
       refine qv (jd rfl (jd (jh (jh (x:= .ah ((ps.map D.int).take j)) (zc rfl rfl (zM rfl) (congrArg (λt=>ao.ok (D.ah t)) (VO _ j))) rfl (xx ?_)) (zc rfl (zM (jh rfl rfl rfl)) rfl (congrArg (λt=>ao.ok (D.ah t)) (y9 _ (j+1)))) (xx ?_)) rfl)) (jk (show 2<=20000 by decide))
       . rw [g7,bB,gz];omega
       . rw [dH,g7,nO,bB,gz];omega) nc (mW ps++nE s ps++oZ s ps) .un (show 5+15<=10000 by decide)
   obtain ⟨x,g,c⟩:=Xp (env:=[.ak (.int n),.ak (aN (s,ps)),.ak (.int m),.av (.ag (mW ps++nE s ps++oZ s ps++nc.map (DX s ps j)++DY s ps)),.ak (.int s),.ak (tI ps),.ak (.int j),w]) (n:=n) rfl rfl (by simp);refine ⟨x,Kj (pre ?_),?_⟩
   . refine (jl ((bZ (jR (jh rfl rfl (show lJ (.int m) (.int 0)= .ok (.bl true) from congrArg (λb=>ao.ok (D.bl b)) (decide_eq_true (p:=(0:Int)<m) (by omega)))))).trans ?_)).trans g;refine (jl (jw ((qi (jh rfl rfl (qJ (by decide))) rfl (by omega)).trans (congrArg (λi=>ao.ok (D.int i)) o)))).trans ?_;refine (jl ((yP (ds:=nc) rfl).trans e)).trans ?_;exact zU (jh (y:= .ag (DY s ps)) rfl (x0 (jd (qv (jd rfl (jd (zc rfl rfl rfl (congrArg (λt=>ao.ok (D.ah t)) (y9 _ 1))) rfl)) (jk (show 2<=20000 by decide))) (jd rfl rfl)) (jk (show 2<=20000 by decide))) (wt (by simp)))
   . rcases eG.mp c with z|z
     . rcases eG.mp z with z|z
       . exact a x z
       . exact Mf k j x z
     . exact Mg k l x z
 . obtain ⟨x,g,c⟩:=Xp (env:=[.ak (.int n),.ak (aN (s,ps)),.ak (.int m),.av (.ag (mW ps++nE s ps++oZ s ps)),.ak (.int s),.ak (tI ps),.un,.un]) (n:=n) rfl rfl (by simp);refine ⟨x,Kj (pre ?_),a x c⟩;exact (jl ((cj (jR (jh rfl rfl (show lJ (.int m) (.int 0)= .ok (.bl false) from congrArg (λb=>ao.ok (D.bl b)) (decide_eq_false (p:=(0:Int)<m) (by omega)))))).trans rfl)).trans g
end
def bq:ao D->Bool
 | .ok (.bl b)=>b
 |_=>false
def Qh {z:Str} {m:Nat} {l:List D} (h:jI [b0 z m]= .ok (.bl true)) (c:l.length<=40) (g: ∀d∈l,∃b,jz [d,.int m]= .ok (.bl b)) {x:D} (a:x∈l) (i:jz [x,.int m]= .ok (.bl false)):jm [.ah [b0 z m,.aU l]]= .ok (.bl false):=
 KO h (C1 a) c (λd=>bq (jz [d,.int m])) (λd hd=>by
  obtain ⟨b,e⟩:=g d hd
  rw [e];rfl) (Bh.mpr ⟨x,a,by rw [i];decide⟩)
def X5 {l:List D} (a:l.length<=60) (c: ∀d∈l,∃b,jm [d]= .ok (.bl b)) {x:D} (g:x∈l) (h:jm [x]= .ok (.bl false)):jy [.aU l]= .ok (.bl false):=
 L8 a (λd=>bq (jm [d])) (λd hd=>by
  obtain ⟨b,e⟩:=c d hd
  rw [e];rfl) (Bh.mpr ⟨x,g,by rw [h];decide⟩)
def gW (e:En) (y:D):Prop:=Fz 2000 5 y/\jm [.ah [b0 e.z e.m,aK y]]= .ok (.bl false)
section
variable {e:En}
def bu.pd (ok:bu e) {p:Int×List Int} (a:p∈e.l):dM e.m p.1 p.2:=⟨(ok.pr.ok p a).1,(ok.pr.ok p a).2.1,(ok.pr.ok p a).2.2,ok.m⟩
def dM.Bi {m:Nat} {s:Int} {ps:List Int} (k:dM m s ps):Fz 40 3 (aN (s,ps)):=(cz (n:=0) (Fz.int k.sm) k.fz).mono (by decide) (by decide)
theorem wV: ∀l:List D,(aW l).length=l.length
 | []=>rfl
 |_::l=>congrArg (· +1) (wV l)
theorem JF: ∀a b:List D,aW (a++b)=aW a++aW b
 | [],_=>rfl
 |d::a,b=>congrArg (aK d:: ·) (JF a b)
def KH (ok:bu e) {L:List (Int×List Int)} (c: ∀p∈L,dM e.m p.1 p.2) (g:1<=L.length) (h:L.length<=40) (i:(decide ((L.map (·.2)).Nodup)&&mV e.m L)=false):gW e (.ag (L.map aN)):=by
 refine ⟨Fz.ag ((br.of (n:=40) (k:=3) λd hd=>?_).mono (by rw [bB];omega) (by decide)),?_⟩
 . obtain ⟨p,a,rfl⟩:=b8.mp hd;exact (c p a).Bi
 . show jm [.ah [b0 e.z e.m,.aU (aW (L.map aN))]]=_;rw [WR,ZP ok.hd ok.m g h λp a=>⟨QO ⟨(c p a).s,(c p a).len,(c p a).ps⟩ ok.m,(c p a).len⟩,i]
def Ys (ok:bu e) {p:Int×List Int} (d:p∈e.l) (a:Nat):gW e (.ag ((e.l.map aN).take a++[aN p]++(e.l.map aN).drop a)):=by
 have c:List.Perm (e.l.take a++[p]++e.l.drop a) (p::e.l):=by
   have:=(List.perm_middle (a:=p) (l₁:=e.l.take a) (l₂:=e.l.drop a))
   rw [CZ] at this;simpa using this
 rw [show (e.l.map aN).take a++[aN p]++(e.l.map aN).drop a=(e.l.take a++[p]++e.l.drop a).map aN by simp [List.map_take,List.map_drop]];have:=ok.len;have:=ok.m;have:=ok.pos;have g:=c.length_eq;rw [fP] at g;refine KH ok (λq h=>?_) (by omega) (by omega) ?_
 . rcases dP.mp (c.mem_iff.mp h) with rfl|z
   . exact ok.pd d
   . exact ok.pd z
 . rw [decide_eq_false,pc];intro i;have:=((c.map (·.2)).nodup_iff).mp i;rw [fy] at this;exact (oH.mp this).1 (xO d)
def KI (ok:bu e) {g:Nat} (c:g<e.m):gW e (.ag (e.l.map λp=>aN (p.1,p.2.take g++[0]++p.2.drop (g+1)))):=by
 rw [show (e.l.map λp=>aN (p.1,p.2.take g++[0]++p.2.drop (g+1)))=(e.l.map λp=>(p.1,p.2.take g++[0]++p.2.drop (g+1))).map aN by rw [hG];rfl];have:=ok.len;have:=ok.m;have:=ok.pos
 have a: ∀q∈e.l.map λp=>(p.1,p.2.take g++[0]++p.2.drop (g+1)),dM e.m q.1 q.2/\q.2[g]?=some 0:=λq a=>by
  obtain ⟨p,d,rfl⟩:=b8.mp a;have k:=ok.pd d;have j:=k.len;refine ⟨⟨k.s,?_,λx i=>?_,k.m⟩,?_⟩
  . simp only [dH,g7,nO,gz];omega
  . rcases eG.mp i with z|z
    . rcases eG.mp z with z|z
      . exact k.ps x (sv z)
      . rw [ir] at z;subst z;decide
    . exact k.ps x (sw z)
  . show (p.2.take g++[0]++p.2.drop (g+1))[g]?=_;rw [ia,fA (by rw [g7];omega),g7,show g-min g p.2.length=0 by omega];rfl
 refine KH ok (λq h=>(a q h).1) (by rw [bB];omega) (by rw [bB];omega) ?_
 have:mV e.m (e.l.map λp=>(p.1,p.2.take g++[0]++p.2.drop (g+1)))=false:=by
  refine Bh.mpr ⟨.int g,?_,?_⟩
  . unfold zK;exact b8.mpr ⟨g,fx.mpr c,by simp⟩
  . show¬(List.any _ _=true);rw [C4,Ap];intro q h;rw [td,(a q h).2];decide
 rw [this,iQ]
def Mh (ok:bu e) {x:D} (i:eA e.m x) {u v:List D} (o: ∀d∈u,d∈e.l.map aN) (q: ∀d∈v,d∈e.l.map aN) (r:(u++v).length<=30):gW e (.ag (u++[x]++v)):=by
 have m: ∀d∈u++[x]++v,d=x\/ ∃p∈e.l,d=aN p:=λd hd=>by
   have:d=x\/d∈e.l.map aN:=by
     rcases eG.mp hd with z|z
     . rcases eG.mp z with z|z
       . exact .inr (o d z)
       . exact .inl (ir.mp z)
     . exact .inr (q d z)
   exact this.imp id λz=>by
     obtain ⟨p,c,e⟩:=b8.mp z;exact ⟨p,c,e.symm⟩
 have E:(u++[x]++v).length<=31:=by simp only [dH,gz] at r ⊢;omega
 refine ⟨Fz.ag ((br.of (n:=40) (k:=3) λd hd=>?_).mono (by omega) (by decide)),?_⟩
 . rcases m d hd with rfl| ⟨p,c,rfl⟩
   . exact i.1
   . exact (ok.pd c).Bi
 . have t: ∀ {d} (l:List D),d∈aW l-> ∃g∈l,d=aK g:=by
     intro d l
     induction l with
     |nil=>exact λh=>nomatch h
     |cons a l w=>
       intro h;rcases dP.mp h with z|z
       . exact ⟨a,dB,z⟩
       . obtain ⟨g,y,B⟩:=w z;exact ⟨g,dC _ y,B⟩
   refine Qh ok.hd (by rw [wV];omega) (λd hd=>?_) (x:=aK x) (by rw [JF,JF];exact o7 _ (hQ _ dB)) i.2;obtain ⟨g,j,rfl⟩:=t _ hd;rcases m g j with rfl| ⟨p,c,rfl⟩
   . exact ⟨_,i.2⟩
   . rw [Vn];exact ⟨_,QO (ok.pr.ok p c) ok.m⟩
def yA (ok:bu e) {y:D} (h:Fz 2000 5 y) (a:gr "list" (aK y)= .ok (.bl false)):gW e y:=⟨h,UJ ok.hd a⟩
def ZM (ok:bu e) {l:List D} (h:Fz 2000 5 (.ag l)) (a:l=[]\/40<l.length):gW e (.ag l):=⟨h,UK ok.hd (a.imp (λz=>by rw [z];rfl) λz=>by rw [wV];exact z)⟩
def bu.DZ (ok:bu e):br 410 3 (e.l.map aN):=by
 have:=ok.len;have:=ok.m;refine (br.of (n:=40) λd hd=>?_).mono (by rw [bB];omega) (a9 _);obtain ⟨p,a,rfl⟩:=b8.mp hd;exact (ok.pd a).Bi
def kM (l:List D) (a:Nat):gC (.ag l) none (some (a:Int))= .ok (.ag (l.take a)):=congrArg (λt=>ao.ok (D.ag t)) (VO l a)
def Xa (l:List D) (a:Nat):gC (.ag l) (some (a:Int)) none= .ok (.ag (l.drop a)):=congrArg (λt=>ao.ok (D.ag t)) (y9 l a)
def rA {l:List D} {a:Nat} (h:a<l.length):aQ (.ag l) (.int (a:Int))= .ok l[a]:=by
 simp only [aQ];rw [M.dU,dn h]
def q0 (n:Int) {k:Nat} (c:0<k): ∃a:Nat,n%(k:Int)=a/\a<k:=by
 have d:=nr n (b:=(k:Int)) (by omega);have g:=ss n (b:=(k:Int)) (by omega);exact ⟨(n%(k:Int)).toNat,by omega,by omega⟩
def zz {d g:TJ} {c:Sl} {n:Int} {k a:Nat} (h:d c= .ok (.int n)) (i:g c= .ok (.int k)) (j:0<k) (e:n%(k:Int)=a):al d g aY c= .ok (.int a):=(qi h i (by omega)).trans (by rw [e])
abbrev D0:Sl->ao D:=(aw (jb (al (cI 1) (af 9) bx) (jb (al (aw (jb (al (af 9) (cI 3) aY) (jb (al (al (af 9) (cI 3) bC) (cI 3) aY) (jb (al (al (af 9) (cI 9) bC) (cI 3) aY) (jb (al (cI 1) (al (af 9) (cI 27) bC) bx) aa))))) (al (aw (jb (cI 1) aa)) (al (af 2) (cI 4) tW) ZA) bx) aa)))
def Mi {m:Nat} (a:3<m) (c:m<=9): ∃r,ZA (.ah [.int 1]) (.int ((m:Int)-4))= .ok (.ah r)/\r.length<=5/\ ∀d∈r,d= .int 1:=by
 have:m=4\/m=5\/m=6\/m=7\/m=8\/m=9:=by omega
 rcases this with rfl|rfl|rfl|rfl|rfl|rfl
 . exact ⟨[],rfl,by decide,λ_ h=>nomatch h⟩
 all_goals exact ⟨_,rfl,by decide,λd h=>by simpa using h⟩
def Mj {a0 a1 a3 a4 a5 a6 a7 a8:Slot} {m:Nat} (a:3<m) (c:m<=9) (k:Nat) (i:k<41): ∃x,D0 [a0,a1,.ak (.int m),a3,a4,a5,a6,a7,a8,.ak (.int k)]= .ok x/\Fz 40 3 x:=by
 obtain ⟨r,g,j,h⟩:=Mi a c;refine ⟨_,qv (jd (jh rfl rfl rfl) (jd (jh (qv (jd (qi rfl rfl (by decide)) (jd (qi (jh rfl rfl (qJ (by decide))) rfl (by decide)) (jd (qi (jh rfl rfl (qJ (by decide))) rfl (by decide)) (jd (jh rfl (jh rfl rfl (qJ (by decide))) rfl) rfl)))) (jk (show 4<=20000 by decide))) (jh (qv (jd rfl rfl) (jk (show 1<=20000 by decide))) (jh rfl rfl rfl) g) (xx (show 4+r.length<=20000 by omega))) rfl)) (jk (show 2<=20000 by decide)),?_⟩;exact (cz (n:=0) (m:=9) (k:=1) (Fz.int (by omega)) (Fz.ah (br.app (n:=4) (m:=5) (br.cons (n:=0) (.int (by omega)) (br.cons (n:=0) (.int (by omega)) (br.cons (n:=0) (.int (by omega)) (br.cons (n:=0) (m:=0) (.int (by omega)) .nil)))) ((br.of (n:=0) λd hd=>(by rw [h d hd];exact .int (by decide))).mono (by omega) (a9 _))))).mono (by decide) (by decide)
def vA {a0 a1 a3 a4 a5 a6 a7:Slot} {m:Nat} (k:3<m) (n:m<=9): ∃l w,c8 (wD (gN 9) (jZ 8 D0)) (zK 0 41) [a0,a1,.ak (.int m),a3,a4,a5,a6,a7,.av (.ag []),.un]= .ok (.nx [a0,a1,.ak (.int m),a3,a4,a5,a6,a7,.av (.ag l),w])/\l.length=41/\ ∀d∈l,Fz 40 3 d:=by
 obtain ⟨i,o,l,w,rfl,p,_,q⟩:=ya (body:=wD (gN 9) (jZ 8 D0))
  (λg c=> ∃(l:List D) (w:Slot),c=[a0,a1,.ak (.int m),a3,a4,a5,a6,a7,.av (.ag l),w]/\l.length+g.length=41/\(∀d∈g,∃j:Nat,d= .int j/\j<41)/\ ∀d∈l,Fz 40 3 d)
  (by
   rintro d g c ⟨l,w,rfl,r,hd,t⟩;rw [fP] at r;obtain ⟨j,rfl,u⟩:=hd d dB;obtain ⟨x,v,y⟩:=Mj (a0:=a0) (a1:=a1) (a3:=a3) (a4:=a4) (a5:=a5) (a6:=a6) (a7:=a7) (a8:= .av (.ag l)) k n j u;refine ⟨_,(xJ rfl).trans (zb rfl v (by omega)),l++[x],_,rfl,by rw [dH,gz];omega,λd h=>hd d (dC _ h),λd h=>?_⟩;rcases eG.mp h with z|z
   . exact t d z
   . rw [ir.mp z];exact y)
  (zK 0 41) _ ⟨[],.un,rfl,by rw [wS];rfl,λd hd=>by
   obtain ⟨j,e,a,b⟩:=xY hd
   exact ⟨j.toNat,by rw [e];congr 1;omega,by omega⟩,λ_ h=>by cases h⟩
 exact ⟨l,w,o,by simpa using p,q⟩
abbrev wL (P:List D) (p:D):List D:=[.ah P,.ag [],.aO,.int 0,.cv [] [],p,.ag [.ag P],.ah []]
def Ml (ok:bu e) {p:Int×List Int} (a:p∈e.l): ∀y∈wL (e.l.map aN) (aN p),gW e y:=by
 refine bo.2 ⟨yA ok ((Fz.ah ok.DZ).mono (by decide) (by decide)) rfl,bo.2 ⟨ZM ok (.ag .nil) (.inl rfl),bo.2 ⟨yA ok .aO rfl,bo.2 ⟨yA ok (.int (by decide)) rfl,bo.2 ⟨yA ok .cv rfl,bo.2 ⟨yA ok ((ok.pd a).Bi.mono (by decide) (by decide)) rfl,bo.2 ⟨⟨?_,?_⟩,bo.2 ⟨yA ok (.ah .nil) rfl,λ_ h=>nomatch h⟩⟩⟩⟩⟩⟩⟩⟩
 . exact .ag ((br.cons (n:=410) (m:=0) (k:=4) (Fz.ag ok.DZ) .nil).mono (by decide) (a9 _))
 . refine Qh (x:= .aU (aW (e.l.map aN))) ok.hd (by decide:1<=40) (λd hd=>?_) dB (Wx rfl λ_ _ z=>nomatch z);rcases dP.mp hd with rfl|hd
   . exact ⟨_,Wx rfl λ_ _ z=>nomatch z⟩
   . cases hd
def qp {f:TJ} {a:Sl} {i j:Int} {b:Bool} (h:f a= .ok (.int i)) (c:(i==j)=b):aX (al f (cI j) eS) a= .ok b:=by
 rw [<-c];exact jR (jh h rfl ka)
def ZX {f:TJ} {a:Sl} {i j:Int} {b:Bool} (h:f a= .ok (.int i)) (c:decide (j<i)=b):aX (al f (cI j) lJ) a= .ok b:=by
 rw [<-c];exact jR (jh h rfl rfl)
def J4 (ok:bu e) (n:Int): ∃y,qG [.int n,.ag (e.l.map aN),.int e.m]= .ok y/\gW e y:=by
 have hlen:=ok.len;have m:=ok.pos;have hm:=ok.m;have E:0< (e.l.map aN).length:=by rw [bB];exact m
 obtain ⟨w,hw,M8⟩:=q0 n (k:=6) (by decide);obtain ⟨a,ha,o⟩:=q0 (n/6) E;have aL:a<e.l.length:=by rw [bB] at o;exact o
 have N: ∀ {b:Nat} (h:b< (e.l.map aN).length) (h':b<e.l.length),aQ (.ag (e.l.map aN)) (.int b)= .ok (aN e.l[b]):=λh h'=>(rA h).trans (congrArg ao.ok (List.getElem_map aN))
 have O:e.l[a]∈e.l:=gD aL;have lt:(e.l.map aN).length<=10:=by rw [bB];omega
 have H: ∀ {g r},g [.ak (.int n),.ak (.ag (e.l.map aN)),.ak (.int e.m),.ak (.int w),.ak (.int a),.un,.un,.un,.un,.un]=r->au (jL 3 (al (af 0) (cI 6) aY)) (au (jL 4 (al (al (af 0) (cI 6) bC) (app (jb (af 1) aa) bw) aY)) g) [.ak (.int n),.ak (.ag (e.l.map aN)),.ak (.int e.m),.un,.un,.un,.un,.un,.un,.un]=r:=λ{g r} h=>
   (jl (jw (zz (k:=6) rfl rfl (by decide) hw))).trans ((jl (jw (zz (jh rfl rfl (qJ (by decide))) (j3 (jd rfl rfl) rfl) E ha))).trans h)
 by_cases w0:w=0
 . subst w0;obtain ⟨b,q,u⟩:=q0 (n/60) E;have bL:b<e.l.length:=by rw [bB] at u;exact u
   refine ⟨.ag ((e.l.map aN).take a++[aN e.l[b]]++(e.l.map aN).drop a),qV (H (qH ((bZ (qp rfl rfl)).trans ((jl (jw (d:=aN e.l[b]) (jh rfl (zz (jh rfl rfl (qJ (by decide))) (j3 (jd rfl rfl) rfl) E q) (N u bL)))).trans (qk (jh (jh (zc rfl rfl (zM rfl) (kM _ _)) rfl (wt ?_)) (zc rfl (zM rfl) rfl (Xa _ _)) (wt ?_))))))),Ys ok (gD bL) a⟩
   . rw [g7,gz];omega
   . rw [dH,g7,nO,gz];omega
 have nw {j:Nat} (h:w≠j):((w:Int)==(j:Int))=false:=beq_eq_false_iff_ne.mpr (by omega);have B: ∀ {t b I g r c},aX (al (af 3) (cI t) eS) c= .ok b->b=false->g c=r->au (cp (aX (al (af 3) (cI t) eS)) I cn) g c=r:=λ{t b I g r c} h q J=>(jl ((cj (h.trans (congrArg ao.ok q))).trans rfl)).trans J
 by_cases w1:w=1
 . subst w1;obtain ⟨b,q,M9⟩:=q0 (n/6) (k:=8) (by decide);obtain ⟨y,hy,Q⟩:=Cu (ds:=wL (e.l.map aN) (aN e.l[0])) (i:=(b:Int)) (by omega) (by show (b:Int)<8;omega);exact ⟨y,Kj (H (B (qp rfl rfl) rfl (qH ((bZ (qp rfl rfl)).trans ((jl (jw (d:= .ag (wL (e.l.map aN) (aN e.l[0]))) (x0 (jd rfl (jd rfl (jd rfl (jd rfl (jd rfl (jd (jh rfl rfl (N E m)) rfl)))))) (jk (show 8<=20000 by decide))))).trans (QL (jh rfl (zz (k:=8) (jh rfl rfl (qJ (by decide))) rfl (by decide) q) hy))))))),Ml ok (gD m) y Q⟩
 have U: ∀ {t b Y Z I g r c},aX (al (af 3) (cI t) eS) c= .ok b->Y c= .ok Z->(b&&Z)=false->g c=r->au (cp (dJ (aX (al (af 3) (cI t) eS)) Y) I cn) g c=r:=λ{t b Y Z I g r c} h h2 q J=>(jl ((cj ((vx h h2).trans (congrArg ao.ok q))).trans rfl)).trans J
 by_cases w2:w=2/\0<e.m
 . obtain ⟨rfl,h0⟩:=w2;obtain ⟨g,J,Mm⟩:=q0 (n/60) h0;refine ⟨_,qV (H (B (qp rfl rfl) rfl (B (qp rfl rfl) rfl (qH ((bZ (Y0 (qp rfl rfl) (ZX rfl (decide_eq_true (by omega))))).trans ((jl (jw (zz (jh rfl rfl (qJ (by decide))) rfl h0 J))).trans (qk (Ja (α:=Int×List Int) (λp=>(.int p.1,tI p.2)) (λp=>aN (p.1,p.2.take g++[0]++p.2.drop (g+1))) (λp=>p.2.length<=9) (js:=[7]) (cs:=[.ak (.int g)]) (L:=e.l) rfl rfl (λp hp=>?_) (jk (by omega)) (λp acc hp=>?_))))))))),KI ok Mm⟩
   . have:=(ok.pr.ok p hp).2.1;omega
   . refine qv (jd rfl (jd (jh (x:= .ah ((p.2.map D.int).take g++[.int 0])) (y:= .ah ((p.2.map D.int).drop (g+1))) (jh (x:= .ah ((p.2.map D.int).take g)) (zc rfl rfl (zM rfl) (congrArg (λt=>ao.ok (D.ah t)) (VO _ g))) rfl (xx ?_)) (zc rfl (zM (jh rfl rfl rfl)) rfl (congrArg (λt=>ao.ok (D.ah t)) (y9 _ (g+1)))) ((xx ?_).trans (congrArg (λt=>ao.ok (D.ah t)) ?_))) rfl)) (jk (show 2<=20000 by decide))
     . rw [g7,bB,gz];omega
     . rw [dH,g7,nO,bB,gz];omega
     . simp [List.map_take,List.map_drop]
 have c2:((w:Int)==2&&decide ((0:Int)< (e.m:Int)))=false:=by
   by_cases z:w=2
   . rw [decide_eq_false (by omega),iQ]
   . rw [show ((w:Int)==2)=false from nw (j:=2) z];rfl
 by_cases w3:w=3/\3<e.m
 . obtain ⟨rfl,h3⟩:=w3;obtain ⟨l,v,hl,ll,lf⟩:=vA (a0:= .ak (.int n)) (a1:= .ak (.ag (e.l.map aN))) (a3:= .ak (.int 3)) (a4:= .ak (.int a)) (a5:= .un) (a6:= .un) (a7:= .un) h3 hm;exact ⟨.ag l,qV (H (B (qp rfl rfl) rfl (B (qp rfl rfl) rfl (U (qp rfl rfl) (ZX rfl rfl) c2 (qH ((bZ (Y0 (qp rfl rfl) (ZX rfl (decide_eq_true (by omega))))).trans ((jl (zU (d:= .ag []) rfl)).trans ((jl ((yP (ds:=zK 0 41) rfl).trans hl)).trans (qk rfl))))))))),ZM ok (.ag ((br.of lf).mono (by rw [ll];decide) (by decide))) (.inr (by omega))⟩
 have c3:((w:Int)==3&&decide ((3:Int)< (e.m:Int)))=false:=by
   by_cases z:w=3
   . rw [decide_eq_false (by omega),iQ]
   . rw [show ((w:Int)==3)=false from nw (j:=3) z];rfl
 obtain ⟨x,hx,Mn⟩:=Q0 (ok.pd O) (n/60);refine ⟨.ag ((e.l.map aN).take a++[x]++(e.l.map aN).drop (a+1)),qV (H (B (qp rfl rfl) (nw (j:=0) w0) (B (qp rfl rfl) (nw (j:=1) w1) (U (qp rfl rfl) (ZX rfl rfl) c2 (U (qp rfl rfl) (ZX rfl rfl) c3 (qk (jh (jh (zc rfl rfl (zM rfl) (kM _ _)) (x0 (jd (jY (jd (jh rfl rfl (qJ (by decide))) (jd (jh rfl rfl (N o aL)) (jd rfl rfl))) rfl hx) rfl) (jk (show 1<=20000 by decide))) (wt ?_)) (zc rfl (zM (jh rfl rfl rfl)) rfl (Xa _ (a+1))) (wt ?_)))))))),Mh ok Mn (λd h=>sv h) (λd h=>sw h) ?_⟩
 . rw [g7,gz];omega
 . rw [dH,g7,nO,gz];omega
 . rw [dH,g7,nO];omega
end
def fO (x:D):Prop:=Fz 3000 8 x/\jm [aK x]= .ok (.bl false)
def Mo {c:Nat} {S:Str} (h:nk ⟨#[c]⟩ S=true):c∈S.cps.toList:=by
 obtain ⟨i,g,a⟩:=(PySem.StrLaws.found_iff S ⟨#[c]⟩).mp h;unfold Builtin.Str.subAt at a;have d:=congrArg Array.toList (eq_of_beq a);rw [Array.toList_extract] at d;have e:c∈(List.extract S.cps.toList i (i+(⟨#[c]⟩:Str).length)):=by rw [d];exact dB
 exact sw (sv e)
def Xw {z:Str} (h:iF z): ∀c∈z.cps.toList,c<16^8:=λc a=>
 of_decide_eq_true (eD.mp (show eP.cps.toList.all (λc=>decide (c<16^8))=true by decide+kernel) c (Mo (h c a)))
def Q1 {x:D} (h:Fz 3000 8 x) (c: ∀a b,aK x≠ .ah [a,b]):fO x:=⟨h,WF h.nw c⟩
def Q2 {a b:D} (h:Fz 3000 8 (.ah [a,b])) (c:jI [aK a]= .ok (.bl false)):fO (.ah [a,b]):=⟨h,KP c⟩
abbrev o0 (z:Str) (m:Nat) (P:D):List D:=[.ah [b0 z m],.ah [b0 z m,P,.int 1],.ag [b0 z m,P],.ah [P,b0 z m],b0 z m,.aO,.ah [.str z,P],.ah [.ah [],P]]
abbrev rB (z:Str) (m:Nat) (P:D):List D:=[.ah [.ah [.str z,.int 10],P],.ah [.ah [.str z,.int (-1)],P],.ah [.ag [.str z,.int m],P],.ah [.ah [.str "",.int m],P]]
abbrev zR (z:Str) (m:Nat) (P:D):List D:=[.ah [.ah [.str z,.bl true],.ag [.ah [.int 1,.ah [.int 1]]]],.ah [.ah [.str (z++ "abcdefg"),.int m],P]]
abbrev Fw (z:Str) (P:D):List D:=[.ah [.ah [.str ("A" ++z),.int 0],P]]
section
variable {e:En}
def bu.sF (ok:bu e):Fz 410 4 (.ag (e.l.map aN)):= .ag ok.DZ
def bu.sG (ok:bu e) {n k:Nat} (a:8<=n):Fz n k (.str e.z):=by
 have:=ok.nm.2.1;exact .str (Xw ok.nm.2.2) (by omega) (by omega)
def oy (ok:bu e) {n k:Nat}:Fz n k (.int e.m):= .int (by have:=ok.m;omega)
def bu.rC (ok:bu e):Fz 10 1 (b0 e.z e.m):=(cz (n:=8) (m:=0) (k:=0) (ok.sG (by decide)) (oy ok)).mono (by decide) (by decide)
def Xr (ok:bu e) {a:D} (h:Fz 100 3 a) (c:jI [aK a]= .ok (.bl false)):fO (.ah [a,.ag (e.l.map aN)]):=
 Q2 ((cz (h.mono (n':=100) (k':=4) (a9 _) (by decide)) ok.sF).mono (by decide) (by decide)) c
def Jp (ok:bu e) {a b:D} (c:Fz 20 1 a) (d:Fz 20 1 b) (g:nw (aK a)=true) (i:nw (aK b)=true) (h:zD (.ah [aK a,aK b])=false):fO (.ah [.ah [a,b],.ag (e.l.map aN)]):=
 Xr ok ((cz c d).mono (by decide) (by decide)) ((JB g i).trans (congrArg (λb=>ao.ok (D.bl b)) h))
def Mp (ok:bu e): ∀x∈o0 e.z e.m (.ag (e.l.map aN)),fO x:=by
 refine bo.2 ⟨Q1 ((Fz.ah (br.cons ok.rC (br.nil (n:=0)))).mono (by decide) (by decide)) (λ_ _ z=>nomatch z),bo.2 ⟨Q1 ((Fz.ah (br.cons (ok.rC.mono (n':=10) (k':=4) (by decide) (by decide)) (br.cons ok.sF (br.cons (Fz.int (n:=0) (by decide)) (br.nil (n:=0)))))).mono (by decide) (by decide)) (λ_ _ z=>nomatch z),bo.2 ⟨Q1 ((Fz.ag (br.cons (ok.rC.mono (n':=10) (k':=4) (by decide) (by decide)) (br.cons ok.sF (br.nil (n:=0))))).mono (by decide) (by decide)) (λ_ _ z=>nomatch z),bo.2 ⟨Q2 ((cz ok.sF (ok.rC.mono (n':=10) (k':=4) (by decide) (by decide))).mono (by decide) (by decide)) (JC rfl λ_ _ z=>nomatch z),bo.2 ⟨Q2 (ok.rC.mono (by decide) (by decide)) (JC rfl λ_ _ z=>nomatch z),bo.2 ⟨Q1 .aO (λ_ _ z=>nomatch z),bo.2 ⟨Xr ok (ok.sG (by decide)) (JC rfl λ_ _ z=>nomatch z),bo.2 ⟨Xr ok ((Fz.ah (k:=0) (br.nil (n:=0))).mono (by decide) (by decide)) (JC rfl λ_ _ z=>nomatch z),λ_ h=>nomatch h⟩⟩⟩⟩⟩⟩⟩⟩
def Mq (ok:bu e): ∀x∈rB e.z e.m (.ag (e.l.map aN)),fO x:=by
 refine bo.2 ⟨Jp ok (ok.sG (by decide)) (.int (by decide)) rfl rfl (iQ _),bo.2 ⟨Jp ok (ok.sG (by decide)) (.int (by decide)) rfl rfl (iQ _),bo.2 ⟨Xr ok ((Fz.ag (br.cons (ok.sG (n:=8) (k:=0) (by decide)) (br.cons (oy ok (n:=0)) (br.nil (n:=0))))).mono (by decide) (by decide)) (JC rfl λ_ _ z=>nomatch z),bo.2 ⟨Jp ok (.str (λc a=>nomatch a) (by decide) (by decide)) (oy ok) rfl rfl rfl,λ_ h=>nomatch h⟩⟩⟩⟩
def Mr (ok:bu e): ∀x∈zR e.z e.m (.ag (e.l.map aN)),fO x:=by
 have g:(e.z++ "abcdefg").length=e.z.length+7:=len_app _ _;have d:=ok.nm;refine bo.2 ⟨?_,bo.2 ⟨Jp ok (.str (λc a=>?_) (by omega) (by omega)) (oy ok) rfl rfl ?_,λ_ h=>nomatch h⟩⟩
 . refine Q2 ((cz (k:=4) ((cz (n:=8) (m:=0) (k:=0) (ok.sG (by decide)) (.bl true)).mono (n':=10) (by decide) (by decide)) ((Fz.ag (br.cons (cz (n:=0) (m:=1) (k:=1) (.int (by decide)) (Fz.ah (br.cons (n:=0) (m:=0) (.int (by decide)) .nil))) (br.nil (n:=0)))).mono (n':=10) (by decide) (by decide))).mono (by decide) (by decide)) ((JB rfl rfl).trans (congrArg (λb=>ao.ok (D.bl b)) (iQ _)))
 . have a:c∈(e.z.cps++("abcdefg" :Str).cps).toList:=a;rw [DN] at a;rcases eG.mp a with z|z
   . exact Xw d.2.2 c z
   . exact of_decide_eq_true (eD.mp (show ("abcdefg" :Str).cps.toList.all (λc=>decide (c<16^8))=true by decide+kernel) c z)
 . have:isNm (.str (e.z++ "abcdefg"))=false:=by
     rw [y0,decide_eq_false (p:=((e.z++ "abcdefg").length:Int)<=8) (by omega),iQ];rfl
   show (isNm (.str (e.z++ "abcdefg"))&&_)=false;rw [this];rfl
def Ms (ok:bu e): ∀x∈Fw e.z (.ag (e.l.map aN)),fO x:=by
 have g:=ok.nm;have i:("A" ++e.z).length=1+e.z.length:=len_app _ _
 have a:("A" ++e.z).cps.toList=65::e.z.cps.toList:=by
   show (("A" :Str).cps++e.z.cps).toList=_;rw [DN];rfl
 refine bo.2 ⟨Jp ok (.str (λc d=>?_) (by omega) (by omega)) (.int (by decide)) rfl rfl ?_,λ_ h=>nomatch h⟩
 . rw [a] at d;rcases dP.mp d with rfl|z
   . decide
   . exact Xw g.2.2 c z
 . have:isNm (.str ("A" ++e.z))=false:=by
     rw [y0,a,rW,show nk ⟨#[65]⟩ eP=false by decide+kernel,pc,iQ]
   show (isNm (.str ("A" ++e.z))&&_)=false;rw [this];rfl
def X7 {a b:List D} (h:a.length+b.length<=20000):bj (.ag a) (.ag b)= .ok (.ag (a++b)):=jq (jk h)
def Yt (ok:bu e) (n:Int): ∃x,qB [.int n,b0 e.z e.m,.ag (e.l.map aN)]= .ok x/\fO x:=by
 have q:=ok.nm;obtain ⟨w,hw,j⟩:=q0 n (k:=4) (by decide)
 let P:D:= .ag (e.l.map aN)
 let L:=o0 e.z e.m P++rB e.z e.m P++zR e.z e.m P++Fw e.z P
 have h:0<L.length:=by show 0<15;decide
 have pre: ∀ {g r},g [.ak (.int n),.ak (b0 e.z e.m),.ak P,.ak (.int w),.av (.ag L)]=r->au (jL 3 (al (af 0) (cI 4) aY)) (au (cf 4 (bc (jb (aw (jb (af 1) aa)) (jb (aw (jb (af 1) (jb (af 2) (jb (cI 1) aa)))) (jb (bc (jb (af 1) (jb (af 2) aa))) (jb (aw (jb (af 2) (jb (af 1) aa))) (jb (af 1) (jb cN (jb (aw (jb (al (af 1) (cI 0) aQ) (jb (af 2) aa))) (jb (aw (jb (aw aa) (jb (af 2) aa))) aa)))))))))) (au (er 4 (cf 4 (al (af 4) (bc (jb (aw (jb (aw (jb (al (af 1) (cI 0) aQ) (jb (cI 10) aa))) (jb (af 2) aa))) (jb (aw (jb (aw (jb (al (af 1) (cI 0) aQ) (jb (jM (cI 1)) aa))) (jb (af 2) aa))) (jb (aw (jb (app (jb (af 1) aa) K2) (jb (af 2) aa))) (jb (aw (jb (aw (jb (cS "") (jb (al (af 1) (cI 1) aQ) aa))) (jb (af 2) aa))) aa))))) bj))) (au (er 4 (cf 4 (al (af 4) (bc (jb (aw (jb (aw (jb (al (af 1) (cI 0) aQ) (jb (cB true) aa))) (jb (bc (jb (aw (jb (cI 1) (jb (aw (jb (cI 1) aa)) aa))) aa)) aa))) (jb (aw (jb (aw (jb (al (al (af 1) (cI 0) aQ) (cS "abcdefg") bj) (jb (al (af 1) (cI 1) aQ) aa))) (jb (af 2) aa))) aa))) bj))) (au (jZ 4 (aw (jb (aw (jb (al (cS "A") (al (af 1) (cI 0) aQ) bj) (jb (cI 0) aa))) (jb (af 2) aa)))) g)))) [.ak (.int n),.ak (b0 e.z e.m),.ak P,.un,.un]=r:=λ{g r} l=>by
   refine (jl (jw (zz (k:=4) rfl rfl (by decide) hw))).trans ?_;refine (jl (zU (d:= .ag (o0 e.z e.m P)) rfl)).trans ?_;refine (jl (zU (d:= .ag (o0 e.z e.m P++rB e.z e.m P)) (jh (x:= .ag (o0 e.z e.m P)) (y:= .ag (rB e.z e.m P)) rfl rfl (X7 (show 8+4<=20000 by decide))))).trans ?_;refine (jl (zU (d:= .ag (o0 e.z e.m P++rB e.z e.m P++zR e.z e.m P)) (jh (x:= .ag (o0 e.z e.m P++rB e.z e.m P)) (y:= .ag (zR e.z e.m P)) rfl (x0 (jd rfl (jd (qv (jd (qv (jd (jh (x:= .str e.z) (y:= .str "abcdefg") rfl rfl (add_str (show e.z.length+7<=20000 by omega))) (jd rfl rfl)) (jk (show 2<=20000 by decide))) (jd rfl rfl)) (jk (show 2<=20000 by decide))) rfl)) (jk (show 2<=20000 by decide))) (X7 (show 12+2<=20000 by decide))))).trans ?_;refine (jl (zb (i:=4) (ds:=o0 e.z e.m P++rB e.z e.m P++zR e.z e.m P) (d:= .ah [.ah [.str ("A" ++e.z),.int 0],P]) rfl (qv (jd (qv (jd (jh (x:= .str "A") (y:= .str e.z) rfl rfl (add_str (show 1+e.z.length<=20000 by omega))) (jd rfl rfl)) (jk (show 2<=20000 by decide))) (jd rfl rfl)) (jk (show 2<=20000 by decide))) (show 14<=10000 by decide))).trans ?_;exact l
 by_cases m:w=0
 . subst m;obtain ⟨b,o,a⟩:=q0 (n/4) h;refine ⟨L[b],Kj (pre (qH ((bZ (qp rfl rfl)).trans (QL (jh (Jh rfl) (zz (jh rfl rfl (qJ (by decide))) (j3 (jd (Jh rfl) rfl) rfl) h o) (rA a)))))),?_⟩;have:=gD a;rcases eG.mp this with z|z
   . rcases eG.mp z with z|z
     . rcases eG.mp z with z|z
       . exact Mp ok _ z
       . exact Mq ok _ z
     . exact Mr ok _ z
   . exact Ms ok _ z
 . obtain ⟨y,p,c⟩:=J4 ok (n/4);refine ⟨.ah [b0 e.z e.m,y],qV (pre ((jl ((cj (qp rfl (beq_eq_false_iff_ne.mpr (by omega)))).trans rfl)).trans (qk (qv (jd rfl (jd (jY (jd (jh rfl rfl (qJ (by decide))) (jd rfl (jd rfl rfl))) rfl p) rfl)) (jk (show 2<=20000 by decide)))))),?_⟩;refine ⟨(cz (ok.rC.mono (n':=10) (k':=5) (by decide) (by decide)) c.1).mono (by decide) (by decide),c.2⟩
end
theorem ZQ {d:D}: ∀ {l:List D},d∈aW l-> ∃c∈l,d=aK c
 | [],h=>nomatch h
 |a::l,h=>by
  rcases dP.mp h with z|z
  . exact ⟨a,dB,z⟩
  . obtain ⟨c,e,g⟩:=ZQ z;exact ⟨c,dC _ e,g⟩
theorem ZZ {d:D}: ∀ {l:List D},d∈l->aK d∈aW l
 |a::l,h=>by
  rcases dP.mp h with rfl|z
  . exact dB
  . exact dC _ (ZZ z)
def Mt (d:List D):ei (.ag d) (.ag [])= .ok (.bl (!d.isEmpty)):=by
 cases d with
 |nil=>rfl
 |cons a r=>exact jq (c:=r8 (.ag (a::r)) (.ag [])) (.inr rfl)
structure hI (es:List En):Prop where
 ok: ∀e∈es,bu e
 nd:(gV es).Nodup
def gX (d:D):Prop:=Fz 200000 20 d/\jy [aK d]= .ok (.bl false)
def bu.Fx {e:En} (ok:bu e):Fz 500 6 (bK e):=(cz (ok.rC.mono (n':=10) (k':=4) (by decide) (by decide)) ok.sF).mono (by decide) (by decide)
section
variable {Y:List En}
def hI.num (h:hI Y) {d:D} (hd:d∈Y.map bK):Fz 500 6 d/\jm [aK d]= .ok (.bl true):=by
 obtain ⟨e,a,rfl⟩:=b8.mp hd;exact ⟨(h.ok e a).Fx,by rw [vh];exact ZO (h.ok e a)⟩
def hI.fz (h:hI Y) (a:Y.length<=61):br 31000 6 (Y.map bK):=(br.of λd hd=>(h.num hd).1).mono (by rw [bB];omega) (a9 _)
def UF (h:hI Y) (g:Y.length<=60) {a:Nat} (i:a<Y.length) {x:D} (c:fO x):gX (.ag ((Y.map bK).set a x)):=by
 have mem: ∀d∈(Y.map bK).set a x,d=x\/d∈Y.map bK:=λd hd=>(List.mem_or_eq_of_mem_set hd).symm
 refine ⟨Fz.ag (k:=19) ((br.of (n:=3000) (k:=8) λd hd=>?_).mono (by rw [pC,bB];omega) (by decide)),?_⟩
 . rcases mem d hd with rfl|z
   . exact c.1
   . exact (h.num z).1.mono (by decide) (by decide)
 . refine X5 (l:=aW ((Y.map bK).set a x)) (by rw [wV,pC,bB];exact g) (λd hd=>?_) (x:=aK x) (ZZ (List.mem_set (by rw [bB];exact i) x)) c.2;obtain ⟨j,e,rfl⟩:=ZQ hd;rcases mem j e with rfl|z
   . exact ⟨_,c.2⟩
   . exact ⟨_,(h.num z).2⟩
def UG (h:hI Y) (m:Y.length<=9) {e:En} (i:e∈Y) (a:Nat):gX (.ag ((Y.map bK).take a++bK e::(Y.map bK).drop a)):=by
 have c:List.Perm (Y.take a++e::Y.drop a) (e::Y):=by
   have:=(List.perm_middle (a:=e) (l₁:=Y.take a) (l₂:=Y.drop a))
   rwa [CZ] at this
 rw [show (Y.map bK).take a++bK e::(Y.map bK).drop a=(Y.take a++e::Y.drop a).map bK by simp [List.map_take,List.map_drop]];have j:=c.length_eq;rw [fP] at j
 have ok: ∀x∈Y.take a++e::Y.drop a,bu x:=λx g=>by
   rcases dP.mp (c.mem_iff.mp g) with rfl|z
   . exact h.ok _ i
   . exact h.ok _ z
 refine ⟨Fz.ag (k:=19) ((br.of (n:=500) (k:=6) λd hd=>?_).mono (by rw [bB];omega) (by decide)),?_⟩
 . obtain ⟨x,g,rfl⟩:=b8.mp hd;exact (ok x g).Fx
 . show jy [.aU (aW _)]=_;rw [WS,Wg ok (by omega),decide_eq_false];intro l;have:=((c.map λe:En=>(e.z,e.m)).nodup_iff).mp l;rw [fy] at this;exact (oH.mp this).1 (xO i)
def yz {d:D} (h:Fz 200000 20 d) (a:gr "list" (aK d)= .ok (.bl false)):gX d:=⟨h,L6 a⟩
def Xq {d:D} (h:Fz 190000 19 d) (c: ∀a b,aK d≠ .ah [a,b]):gX (.ag [d]):=⟨.ag ((br.cons h (br.nil (n:=0))).mono (by decide) (a9 _)),X5 (l:=[aK d]) (by decide:1<=60) (λx e=>by
 rw [ir.mp e]
 exact ⟨_,WF h.nw c⟩) (ir.mpr rfl) (WF h.nw c)⟩
abbrev w5 (P M:List D):List D:=[.ah P,.aO,.int 0,.str "a",.cv [] [],.bl true,.ag [.ag P],.ag [.aO],.ag M]
def Mu (h:hI Y) (g:Y.length<=60) {M:List D} (e: ∀d∈M,Fz 100 5 d) (a:M.length=61): ∀x∈w5 (Y.map bK) M,gX x:=by
 have c:=h.fz (by omega);exact bo.2 ⟨yz ((Fz.ah c).mono (by decide) (by decide)) rfl,bo.2 ⟨yz .aO rfl,bo.2 ⟨yz (.int (by decide)) rfl,bo.2 ⟨yz (Vl (by decide) (by decide)) rfl,bo.2 ⟨yz .cv rfl,bo.2 ⟨yz (.bl _) rfl,bo.2 ⟨Xq ((Fz.ag c).mono (by decide) (by decide)) (λ_ _ z=>nomatch z),bo.2 ⟨Xq .aO (λ_ _ z=>nomatch z),bo.2 ⟨⟨.ag ((br.of e).mono (by rw [a];decide) (by decide)),kH (by rw [wV,a];decide)⟩,λ_ h=>nomatch h⟩⟩⟩⟩⟩⟩⟩⟩⟩
end
def rep1 {m:Nat} (h:m<=9):ZA (.ah [.int 1]) (.int (m:Int))= .ok (.ah (eR m (.int 1))):=by
 have:m=0\/m=1\/m=2\/m=3\/m=4\/m=5\/m=6\/m=7\/m=8\/m=9:=by omega
 rcases this with rfl|rfl|rfl|rfl|rfl|rfl|rfl|rfl|rfl|rfl<;>rfl
def Fy:D->D
 | .ah [.str z,.int m]=> .ah [.ah [.str z,.int m],.ag [.ah [.int 1,.ah (eR m.toNat (.int 1))]]]
 |d=>d
def Mv (f:Str×Nat->List (Int×List Int)):D->D
 | .ah [.str z,.int m]=>bK ⟨z,m.toNat,f (z,m.toNat)⟩
 |d=>d
def sE.fz {d:List (Str×Nat)} (h:sE d) {a:Str×Nat} (c:a∈d):Fz 10 1 (lM a):=by
 have:=(h.nm a c).2.1;have:=h.pl a c;exact (cz (n:=8) (m:=0) (k:=0) (.str (Xw (h.nm a c).2.2) (by omega) (by omega)) (.int (by omega))).mono (by decide) (by decide)
def Yv {c:List (Str×Nat)} (h:sE c) (l:c.length<=100) {env:Sl} {fi:TD} (g:fi env= .ok (c.map lM)): ∃M,j8 false 1 [] fi (gN 0) jX (aw (jb (af 0) (jb (bc (jb (aw (jb (cI 1) (jb (al (aw (jb (cI 1) aa)) (al (af 0) (cI 1) aQ) ZA) aa))) aa)) aa))) env= .ok (.ag M)/\M.length=c.length/\ ∀d∈M,Fz 100 5 d:=by
 refine ⟨(c.map lM).map Fy,xh Fy (λd=> ∃a∈c,d=lM a) rfl g (λd hd=>?_) (jk (by rw [bB];omega)) (λd i hd=>?_),by rw [bB,bB],λd hd=>?_⟩
 . obtain ⟨a,e,rfl⟩:=b8.mp hd;exact ⟨a,e,rfl⟩
 . obtain ⟨a,e,rfl⟩:=hd;exact qv (jd rfl (jd (x0 (jd (qv (jd rfl (jd (jh rfl rfl (rep1 (h.pl a e))) rfl)) (jk (show 2<=20000 by decide))) rfl) (jk (show 1<=20000 by decide))) rfl)) (jk (show 2<=20000 by decide))
 . obtain ⟨b,j,rfl⟩:=b8.mp hd;obtain ⟨a,e,rfl⟩:=b8.mp j;have:=h.pl a e;refine (cz (n:=10) (m:=30) (k:=3) ((h.fz e).mono (by decide) (by decide)) (Fz.ag ((br.cons (cz (n:=0) (m:=10) (k:=1) (.int (by decide)) (Fz.ah (k:=0) ((br.of (n:=0) λd hd=>?_).mono (by rw [List.length_replicate];show a.2*1<=10;omega) (a9 _)))) (br.nil (n:=0))).mono (by decide) (by decide)))).mono (by decide) (by decide);rw [(List.mem_replicate.mp hd).2];exact .int (by decide)
def WA {n:Int} (o:Nb n) {g:List (Str×Nat)} (h:sE g) (r:g.length<=100) {env:Sl} {fi:TD} (v:env[0]?=some (.ak (.int n))) (w:fi env= .ok (g.map lM)): ∃i,j8 false 1 [0] fi (gN 0) jX (aw (jb (af 0) (jb (j4 2 jS (jb (al (al (af 1) (cI 17) bC) (al (app (jb (al (af 0) (cI 0) aQ) aa) bw) (al (af 0) (cI 1) aQ) fb) bj) (jb (al (af 0) (cI 1) aQ) aa))) aa))) env= .ok (.ag (i.map bK))/\hI i/\i.length=g.length:=by
 have m: ∀a:Str×Nat,∃l:List (Int×List Int),a∈g->jS [.int (n/17+(a.1.length:Int)*(a.2:Int)),.int a.2]= .ok (.ag (l.map aN))/\Pr a.2 l/\l.length<=a.2+1/\(∀j,j<a.2->Met l j)/\0<l.length:=λa=>by
   by_cases c:a∈g
   . have p:=h.pl a c;have q:=(h.nm a c).2.1;have:(a.1.length:Int)*(a.2:Int)<=8*9:=Int.mul_le_mul (by omega) (by omega) (by omega) (by decide);have:0<=(a.1.length:Int)*(a.2:Int):=Int.mul_nonneg (by omega) (by omega);have:=o.1;have:=o.2;obtain ⟨l,r⟩:=Ww (n/17+(a.1.length:Int)*(a.2:Int)) ⟨by omega,by omega⟩ a.2 p;exact ⟨l,λ_=>r⟩
   . exact ⟨[],λz=>(c z).elim⟩
 obtain ⟨f,u⟩:=Classical.axiomOfChoice m;refine ⟨g.map λa=>⟨a.1,a.2,f a⟩,(xh (Mv f) (λd=> ∃a∈g,d=lM a) (cs:=[.ak (.int n)]) (by show [gM false env 0]=_;unfold gM;rw [v]) w (λd hd=>?_) (jk (by rw [bB];omega)) (λd y hd=>?_)).trans (congrArg (λt=>ao.ok (D.ag t)) ?_),⟨λe B=>?_,?_⟩,bB ..⟩
 . obtain ⟨a,c,rfl⟩:=b8.mp hd;exact ⟨a,c,rfl⟩
 . obtain ⟨a,c,rfl⟩:=hd;have p:=h.pl a c;have q:=(h.nm a c).2.1;exact qv (jd rfl (jd (jY (jd (yG (jh rfl rfl (qJ (by decide))) (Js (a:=10) (b:=10) (j3 (jd (jh rfl rfl rfl) rfl) rfl) (jh rfl rfl rfl) (by omega) (by omega) (by decide))) (jd (jh rfl rfl rfl) rfl)) rfl (u a c).1) rfl)) (jk (show 2<=20000 by decide))
 . rw [hG,hG];exact AN λa _=>rfl
 . obtain ⟨a,c,rfl⟩:=b8.mp B;have k:=u a c;exact ⟨h.nm a c,h.pl a c,k.2.1,k.2.2.1,k.2.2.2.1,k.2.2.2.2⟩
 . show (List.map (λe:En=>(e.z,e.m)) (g.map λa:Str×Nat=>(⟨a.1,a.2,f a⟩:En))).Nodup;rw [hG];rw [show ((λe:En=>(e.z,e.m)) ∘ λa:Str×Nat=>(⟨a.1,a.2,f a⟩:En))=id from rfl,List.map_id];exact h.nd
def KY {f:TJ} {a:Sl} {i j:Int} {b:Bool} (h:f a= .ok (.int i)) (c:decide (i<j)=b):aX (al f (cI j) ltI) a= .ok b:=by
 rw [<-c];exact jR (jh h rfl rfl)
def YK {i:Nat} {e g:TJ} {a:Sl} {c:List D} {d:D} {k:Int} (h:a[i]?=some (.av (.ag c))) (j:e a= .ok (.int k)) (l:g a= .ok d) (m:0<=k) (n:k<2^63) (o:c.length<aR):Za i e g a= .ok (.nx (a.set i (.av (.ag (c.take k.toNat++d::c.drop k.toNat))))):=by
 unfold Za;rw [WC h];show (e a>>=_)=_;rw [j];show (g a>>=_)=_;rw [l];exact jq ⟨m,n,o⟩
def YL {t:TH} {c g:TF} {r:ao bF} {a:Sl} (h:t a= .ok false) (d:g a=r):au (cp t c cn) g a=r:=(jl ((cj h).trans rfl)).trans d
def uG {t:TH} {c g:TF} {a:Sl} {b:Bool} {d:D} (h:t a= .ok true) (e:c a= .ok (.rt b d)):au (cp t c cn) g a= .ok (.rt b d):=qH ((bZ h).trans e)
def Ke {e fv:TJ} {a:Sl} {c:List D} {d:D} {i k:Nat} (g:a[i]?=some (.av (.ag c))) (h:fv a= .ok d) (j:e a= .ok (.int k)) (l:k<c.length):Wq i e fv a= .ok (.nx (a.set i (.av (.ag (c.set k d))))):=Xb g h j (by omega) (by omega)
def Wl {n:Int} (hn:Nb n): ∃d g,zl [.int n]= .ok (.ah [d,.bl g])/\((g=true/\ ∃c,d= .ag (c.map bK)/\hI c/\c.length<=60)\/(g=false/\gX d)):=by
 have n0:=hn.1;have n1:=hn.2;obtain ⟨w,hw,Na⟩:=q0 n (k:=8) (by decide);obtain ⟨q,L,Mw⟩:=q0 (n/8) (k:=10) (by decide);have hw:n%8=w:=hw;have L:n/8%10=q:=L;generalize hx:n/8/10/61=x;generalize hy:n/8/10%61=y;have N:Nb x:=⟨by omega,by omega⟩
 let M:Nat:=if w=7 then 60 else q
 have hM:M<=60/\(w≠7->M<=9):=by
   show (if w=7 then 60 else q)<=60/\(w≠7->(if w=7 then 60 else q)<=9)
   split<;>omega
 obtain ⟨hs,e1,H,hl⟩:=JA x M N.1 (by omega);have Nc:hs.length=M:=by omega
 obtain ⟨c,e2,E,el⟩:=WA (env:=[.ak (.int x),.un,.ak (.int w),.ak (.int M),.ak (.int y),.un]) N H (by omega) rfl (fi:=dj (j4 2 qt (jb (af 0) (jb (af 3) aa)))) (xF (jY (jd rfl (jd rfl rfl)) rfl e1) rfl);have Nd:c.length=M:=by omega
 have O:(c.map bK).length=c.length:=bB ..
 let P:=c.map bK
 let l:Sl:=[.ak (.int x),.av (.ag P),.ak (.int w),.ak (.int M),.ak (.int y),.un]
 have pre: ∀ {g r},g l=r->au (eq (app (jb (af 0) (jb (cI 8) aa)) za) (g2 (gN 0) (gN 2))) (au (eq (app (jb (af 0) (jb (cI 10) aa)) za) (g2 (gN 0) (gN 3))) (au (eq (app (jb (af 0) (jb (cI 61) aa)) za) (g2 (gN 0) (gN 4))) (au (cp (aX (al (af 2) (cI 7) eS)) (jL 3 (cI 60)) cn) (au (cf 1 (j8 false 1 [0] (dj (j4 2 qt (jb (af 0) (jb (af 3) aa)))) (gN 0) jX (aw (jb (af 0) (jb (j4 2 jS (jb (al (al (af 1) (cI 17) bC) (al (app (jb (al (af 0) (cI 0) aQ) aa) bw) (al (af 0) (cI 1) aQ) fb) bj) (jb (al (af 0) (cI 1) aQ) aa))) aa))))) g)))) [.ak (.int n),.un,.un,.un,.un,.un]=r:=λ{g r} hg=>by
   refine (jl (yF (VC rfl rfl (by decide)))).trans ((jl (yF (VC rfl rfl (by decide)))).trans ((jl (yF (VC rfl rfl (by decide)))).trans ?_));rw [hw,L,hx,hy];refine (jl (env':=[.ak (.int x),.un,.ak (.int w),.ak (.int M),.ak (.int y),.un]) ?_).trans ((jl (zU e2)).trans hg)
   by_cases Q:w=7
   . rw [show M=60 from if_pos Q];subst Q;exact (bZ (qp rfl rfl)).trans rfl
   . rw [show M=q from if_neg Q];exact (cj (qp rfl (beq_eq_false_iff_ne.mpr (by omega)))).trans rfl
 have bl:bw [.ag P]= .ok (.int (c.length:Int)):=congrArg (λk:Nat=>ao.ok (D.int k)) O
 have p: ∀ {b},P.isEmpty=b->aX (al (cH 1) (bc aa) ei) l= .ok (!b):=λ{b} h=>by
   rw [<-h];exact jR (jh rfl rfl (Mt P))
 have get: ∀ {k:Nat} (h:k<c.length),aQ (.ag P) (.int (k:Int))= .ok (bK c[k]):=λh=>(rA (by rw [O];exact h)).trans (congrArg ao.ok (List.getElem_map bK))
 have z: ∀ {j:Nat},w≠j->((w:Int)==(j:Int))=false:=λh=>beq_eq_false_iff_ne.mpr (by omega)
 have u: ∀ {g1:TF} {d:D},gX d->wT qB jS qt [.ak (.int n),.un,.un,.un,.un,.un]= .ok (.rt true (.ah [d,.bl false]))-> ∃d g,zl [.int n]= .ok (.ah [d,.bl g])/\((g=true/\ ∃c,d= .ag (c.map bK)/\hI c/\c.length<=60)\/(g=false/\gX d)):=λ{_ d} o h=>⟨d,false,qV h,.inr ⟨rfl,o⟩⟩
 have J:P.isEmpty=decide (c.length=0):=by
   show (c.map bK).isEmpty=_;cases c<;>rfl
 have lp:P.length<=60:=by show (c.map bK).length<=60;omega
 by_cases c1:w<4/\0<c.length
 . obtain ⟨a,U,e⟩:=q0 y c1.2;obtain ⟨v,hv,ov⟩:=Yt (E.ok c[a] (gD e)) x;refine u (g1:=cn) (UF E (by omega) e ov) (pre (uG (Y0 (KY rfl (decide_eq_true (by omega))) (p (J.trans (decide_eq_false (by omega))))) ((jl (jw (zz rfl (j3 (jd (Jh rfl) rfl) bl) c1.2 U))).trans ((jl (Ke (i:=1) (k:=a) (d:=v) rfl (jY (jd rfl (jd (jh (jh (Jh rfl) rfl (get e)) rfl rfl) (jd (jh (jh (Jh rfl) rfl (get e)) rfl rfl) rfl))) rfl hv) rfl (by rw [O];exact e))).trans rfl))))
 have Y:dJ (aX (al (af 2) (cI 4) ltI)) (aX (al (cH 1) (bc aa) ei)) l= .ok false:=by
   by_cases h:w<4
   . exact (Y0 (KY rfl (decide_eq_true (by omega))) (p (J.trans (decide_eq_true (by omega)))))
   . exact Fn (KY rfl (decide_eq_false (by omega)))
 by_cases B:w=4/\0<c.length
 . obtain ⟨a,U,e⟩:=q0 y B.2;obtain ⟨b,Z,I⟩:=q0 x B.2;have:=hM.2 (by omega);refine u (g1:=cn) (UG E (by omega) (gD I) a) (pre (YL Y (uG (Y0 (qp rfl (by rw [B.1];rfl)) (p (J.trans (decide_eq_false (by omega))))) ((jl (YK (i:=1) (k:=a) (d:=bK c[b]) rfl (zz rfl (j3 (jd (Jh rfl) rfl) bl) B.2 U) (jh (Jh rfl) (zz rfl (j3 (jd (Jh rfl) rfl) bl) B.2 Z) (get I)) (by omega) (by omega) (AE lp (eE (show 60<20000 by decide) ze)))).trans rfl))))
 have t2:dJ (aX (al (af 2) (cI 4) eS)) (aX (al (cH 1) (bc aa) ei)) l= .ok false:=by
   by_cases h:w=4
   . exact (Y0 (qp rfl (by rw [h];rfl)) (p (J.trans (decide_eq_true (by omega)))))
   . exact Fn (qp rfl (z (j:=4) h))
 by_cases c3:w=5
 . obtain ⟨oO,e3,H',l3⟩:=JA x 61 N.1 (by decide);obtain ⟨m,e4,lm,fm⟩:=Yv (env:=l) H' (by omega) (fi:=dj (j4 2 qt (jb (af 0) (jb (cI 61) aa)))) (xF (jY (jd rfl (jd rfl rfl)) rfl e3) rfl);obtain ⟨b,Z,Nf⟩:=q0 x (k:=9) (by decide);obtain ⟨t,ht,Mx⟩:=Cu (ds:=w5 P m) (i:=(b:Int)) (by omega) (by show (b:Int)<9;omega);refine u (g1:=cn) (Mu E (by omega) fm (by omega) t Mx) (pre (YL Y (YL t2 (uG (qp rfl (by rw [c3];rfl)) ((jl (jw e4)).trans (qk (qv (jd (jh (x:= .ag (w5 P m)) (x0 rfl (jk (show 9<=20000 by decide))) (zz (k:=9) rfl rfl (by decide) Z) ht) (jd rfl rfl)) (jk (show 2<=20000 by decide)))))))))
 exact ⟨.ag P,true,qV (pre (YL Y (YL t2 (YL (qp rfl (z (j:=5) c3)) rfl)))),.inl ⟨rfl,c,rfl,E,by omega⟩⟩
section
variable {Z:List En}
abbrev kE (e:En):List aI:=[.inr e.z,.inl (e.m:Int)]
def cW (Z:List En):D:= .obj "Numbers" ["products"] [.cO (Z.map kE) (Z.map λe=> .ag (e.l.map aN))]
def oz (Z:List En):D:= .obj "Numbers" ["products"] [.dz (Z.map kE) (Z.map λe=> .aU (e.l.map aN))]
def vJ {d g2:Sl->ao bN} {c a:Sl} (h:d c= .ok (.nx a)):p9 d g2 c=g2 a:=by
 show (d c>>=_)=_;rw [h];rfl
def Uf {f:TJ} {a:Sl} {c n:Str} {i:Nat} {fs:List Str} {e:List D} {d:D} (h:f a= .ok d) (g:a[i]?=some (.av (.obj c fs e))) (j:fs.length<1000):vI i c n f a= .ok (.nx (a.set i (.av (.obj c (Yn n fs) (Yo n d fs e))))):=by
 have k:iq i c a= .ok (fs,e):=by
  unfold iq;rw [g];exact jq rfl
 show (f a>>=λd=>iq i c a>>=_)=_;rw [h];show (iq i c a>>=_)=_;rw [k];exact jq j
def Mz {t:TH} {c g2:Sl->ao bN} {a:Sl} (h:t a= .ok false):fj t c g2 a=g2 a:=by unfold fj;rw [h];rfl
def MA {t:TH} {c g2:Sl->ao bN} {a:Sl} (h:t a= .ok true):fj t c g2 a=c a:=by unfold fj;rw [h];rfl
def XY {g:Sl->ao bN} {a:Sl} {o:bN} (h:g a= .ok o):YW g a= .ok o:=by unfold YW;rw [h];rfl
def Ug {N n:Nat} {g:Sl->ao bN} {e d:D} {c:List D} {a:Sl} (i:c.length=n) (h:g (zL N e c)= .ok (.nx a)) (j:yU a= .ok d):QK N n g e c= .ok (.aO,d):=by
 unfold QK;rw [if_pos i,h];simp only [j]
def Kk {N n:Nat} {g:Sl->ao bN} {d:D} {a:List D} {c:Str} (e:a.length=n) (h:g (zL N d a)= .exc c):QK N n g d a= .exc c:=by
 unfold QK;rw [if_pos e,h]
def UW {d:D} (h:jy [d]= .ok (.bl false)):jv (.obj "Numbers" [] []) [d]= .exc "NoPaper" :=by
 have a:bi (aX (j4 1 jy (jb (af 1) aa))) [.av (.obj "Numbers" [] []),.ak d]= .ok true:=ql (jR (jY (jd rfl rfl) rfl h))
 have e0:jE jy [.av (.obj "Numbers" [] []),.ak d]= .exc "NoPaper" :=by
  unfold jE;show (fj _ _ _ _>>=_)=_;rw [MA a];rfl
 exact Kk rfl e0
def UO {d:D} (h:jy [d]= .ok (.bl false)):zJ [d]= .ok (.ah [.int 1,.aO]):=by
 have c:=UW h
 have mk:jL 2 (xZ "Numbers" 1 jv (jb (af 0) aa)) [.ak d,.ak (.int 0),.ak .aO,.un]= .exc "NoPaper" :=by
  unfold jL xZ;rw [show jb (af 0) aa [.ak d,.ak (.int 0),.ak .aO,.un]= .ok [d] from jd rfl rfl];dsimp only;rw [if_pos (show [d].length=1 from rfl),c];rfl
 refine qV ((jl (jw (d:= .int 0) rfl)).trans ((jl (jw (d:= .aO) rfl)).trans ?_))
 have e: ∀(a:TF) (o:bF),a [.ak d,.ak (.int 0),.ak .aO,.ak (.di "NoPaper")]= .ok o->io ["NoPaper"] (jL 2 (xZ "Numbers" 1 jv (jb (af 0) aa))) 3 a [.ak d,.ak (.int 0),.ak .aO,.un]= .ok (t5 3 o):=λa o g=>by
  unfold io;rw [mk];dsimp only;rw [if_pos (by decide)];show (a [.ak d,.ak (.int 0),.ak .aO,.ak (.di "NoPaper")]>>=_)=_;rw [g];rfl
 exact (jl (e _ (.nx [.ak d,.ak (.int 1),.ak .aO,.ak (.di "NoPaper")]) rfl)).trans (qk (qv (jd rfl (jd rfl rfl)) (jk (show 2<=20000 by decide))))
def uH {a:List (List aI)} {k:List aI} (h:k∉a):ij a k=false:=by
 unfold ij;rw [Ap];intro x c e;exact h (by rw [<-of_decide_eq_true e];exact c)
theorem ZC: ∀(a:List (List aI×D)) (q:List (List aI)×List D),(q.1++a.map (·.1)).Nodup->a.foldl JY q=(q.1++a.map (·.1),q.2++a.map (·.2))
 | [],q,_=>by simp
 |p::a,q,h=>by
  have c:p.1∉q.1:=λz=>by
   rw [fy] at h;exact (A4.mp h).2.2 _ z _ dB rfl
  rw [List.foldl_cons]
  have e:JY q p=(q.1++[p.1],q.2++[p.2]):=by
   unfold JY Ul Um;rw [uH c];rfl
  rw [e,ZC a _ (by simpa using h)];simp
theorem Ks: ∀Z:List En,gQ (Z.map bK)=some (Z.map λe=>(kE e,D.ag (e.l.map aN)))
 | []=>rfl
 |e::Z=>by
  show (match ff (b0 e.z e.m),gQ (Z.map bK) with
   |some k,some q=>some ((k,D.ag (e.l.map aN))::q)
   |_,_=>none)=_
  rw [Ks Z];rfl
def XB (h:(gV Z).Nodup):(Z.map kE).Nodup:=by
 have:Z.map kE=(gV Z).map λh:Str×Nat=>([.inr h.1,.inl (h.2:Int)]:List aI):=by
  show _=(Z.map _).map _;rw [hG];rfl
 rw [this];refine List.Pairwise.map _ (λa b c e=>c ?_) h;obtain ⟨d,g⟩:=a;obtain ⟨i,j⟩:=b;simp only [AT,Sum.inr.injEq,Sum.inl.injEq,and_true] at e;rw [e.1,Int.ofNat.inj e.2]
def kr (h:(gV Z).Nodup):XQ [.ag (Z.map bK)]= .ok (.cO (Z.map kE) (Z.map λe=> .ag (e.l.map aN))):=by
 show (match gQ (Z.map bK) with
  |some a=>ao.ok (D.cO (a.foldl JY ([],[])).1 (a.foldl JY ([],[])).2)
  |none=>ao.aj)=_
 rw [Ks];dsimp only;have e1:(Z.map λe=>(kE e,D.ag (e.l.map aN))).map (·.1)=Z.map kE:=by rw [hG];rfl
 have e2:(Z.map λe=>(kE e,D.ag (e.l.map aN))).map (·.2)=Z.map λe=>D.ag (e.l.map aN):=by rw [hG];rfl
 rw [ZC _ _ (by rw [e1];exact XB h),e1,e2];rfl
def Z2 (g:Z.length<=60) {a:Sl} {c:TJ} (h:c a= .ok (.aU (Z.map eF))):j8 false 2 [] (dj c) (g2 (gN 0) (gN 1)) jX (aw (jb (af 0) (jb (app (jb (af 1) aa) WJ) aa))) a= .ok (.ag (Z.map bK)):=
 Ja (α:=En) (λe=>(b0 e.z e.m,.aU (e.l.map aN))) bK (λ_=>True) (js:=[]) (cs:=[]) rfl (xF h rfl) (λ_ _=>trivial) (jk (by omega)) λe d _=>qv (jd rfl (jd (j3 (jd rfl rfl) rfl) rfl)) (jk (show 2<=20000 by decide))
def KW (E:hI Z) (a:Z.length<=60):zJ [.aU (Z.map eF)]= .ok (.ah [.int 0,cW Z]):=by
 have g:jy [.aU (Z.map eF)]= .ok (.bl true):=by rw [Wg E.ok a,decide_eq_true E.nd]
 have e0:jE jy [.av (.obj "Numbers" [] []),.ak (.aU (Z.map eF))]= .ok (.nx [.av (cW Z),.ak (.aU (Z.map eF))]):=by
  unfold jE;exact (vJ ((Mz (ql (jR (jY (jd rfl rfl) rfl g)))).trans (XY rfl))).trans (XY ((Uf (j3 (jd (Z2 a rfl) rfl) (kr E.nd)) rfl (by decide)).trans rfl))
 have c:jv (.obj "Numbers" [] []) [.aU (Z.map eF)]= .ok (.aO,cW Z):=Ug rfl e0 rfl;generalize D.aU (Z.map eF)=d at c
 have mk:jL 2 (xZ "Numbers" 1 jv (jb (af 0) aa)) [.ak d,.ak (.int 0),.ak .aO,.un]= .ok (.nx [.ak d,.ak (.int 0),.ak (cW Z),.un]):=by
  refine jw (d:=cW Z) ?_;unfold xZ;rw [show jb (af 0) aa [.ak d,.ak (.int 0),.ak .aO,.un]= .ok [d] from jd rfl rfl];dsimp only;rw [if_pos (show [d].length=1 from rfl),c]
 have h: ∀(e:TF),io ["NoPaper"] (jL 2 (xZ "Numbers" 1 jv (jb (af 0) aa))) 3 e [.ak d,.ak (.int 0),.ak .aO,.un]= .ok (.nx [.ak d,.ak (.int 0),.ak (cW Z),.un]):=λe=>by
  unfold io;rw [mk]
 exact qV ((jl (jw (d:= .int 0) rfl)).trans ((jl (jw (d:= .aO) rfl)).trans ((jl (h _)).trans (qk (qv (jd rfl (jd rfl rfl)) (jk (show 2<=20000 by decide)))))))
theorem Y4: ∀ {Z:List En},(Z.map kE).Nodup-> ∀e∈Z,fh (Z.map kE) (Z.map λe=> .aU (e.l.map aN)) (kE e)=some (.aU (e.l.map aN))
 |a::Z,c,e,d=>by
  rw [fy,oH] at c
  have step:fh (kE a::Z.map kE) (.aU (a.l.map aN)::Z.map λe=> .aU (e.l.map aN)) (kE e)=if kE a=kE e then some (.aU (a.l.map aN)) else fh (Z.map kE) (Z.map λe=> .aU (e.l.map aN)) (kE e):=by
    unfold fh;rw [Cw,pH]
    by_cases h:kE a=kE e
    . rw [if_pos h,decide_eq_true h];rfl
    . rw [if_neg h,decide_eq_false h]
  rw [fy,fy,step];rcases dP.mp d with rfl|z
  . rw [if_pos rfl]
  . rw [if_neg (λh:kE a=kE e=>c.1 (by rw [h];exact xO z)),Y4 c.2 e z]
def vC (Z:List En) (k:D):D:= .ah [k,match mo (.dz (Z.map kE) (Z.map λe=> .aU (e.l.map aN))) k with
 | .ok (.aU a)=> .ag a
 |_=> .aO]
def ve (a:(gV Z).Nodup) {e:En} (c:e∈Z):mo (.dz (Z.map kE) (Z.map λe=> .aU (e.l.map aN))) (b0 e.z e.m)= .ok (.aU (e.l.map aN)):=by
 show atT (Z.map kE) (Z.map λe=> .aU (e.l.map aN)) (b0 e.z e.m)=_;unfold atT
 show (match fh (Z.map kE) (Z.map λe=> .aU (e.l.map aN)) (kE e) with
  |some d=>ao.ok d
  |none=>ao.aj)=_
 rw [Y4 (XB a) e c]
def J9 (E:hI Z) (j:Z.length<=60):jH [oz Z]= .ok (.ag (Z.map bK)):=by
 have l: ∀e:En,D.ah ((kE e).map AW)=b0 e.z e.m:=λ_=>rfl
 have c:uy (og "Numbers" "products" (cH 0)) [.ak (oz Z)]= .ok (Z.map λe=>b0 e.z e.m):=by
   show aS _ _=_;rw [jq]
   . rw [hG];rfl
   . rw [eD];intro k h;obtain ⟨e,a,rfl⟩:=b8.mp h;have:=(E.ok e a).nm.2.1;show (decide (e.z.length<=aR)&&true)=true;rw [Bool.and_true];exact decide_eq_true (jk (by omega))
 refine qV (qk ((xh (vC Z) (λd=> ∃e∈Z,d=b0 e.z e.m) (cs:=[.ak (oz Z)]) rfl c (λd hd=>?_) (jk (by rw [bB];omega)) (λd i hd=>?_)).trans (congrArg (λt=>ao.ok (D.ag t)) ?_)))
 . obtain ⟨e,a,rfl⟩:=b8.mp hd;exact ⟨e,a,rfl⟩
 . obtain ⟨e,a,rfl⟩:=hd;have g:=ve E.nd a;refine qv (jd rfl (jd (j3 (jd (jh (x:= .dz (Z.map kE) (Z.map λe=> .aU (e.l.map aN))) rfl rfl g) rfl) ?_) rfl)) (jk (show 2<=20000 by decide));rw [g];rfl
 . rw [hG];refine AN λe a=>?_
   show vC Z (b0 e.z e.m)=_;unfold vC;rw [ve E.nd a];rfl
def uZ (e:En):D.cg (bK e)=true:=by
 have:D.bY (e.l.map aN)=true:=y6 (λp=>by
  show (D.cg (.int p.1)&&(D.cg (tI p.2)&&true))=true
  rw [Vs];rfl) e.l
 show (D.cg (b0 e.z e.m)&&(D.bY (e.l.map aN)&&true))=true;rw [this];rfl
def MB (e:En):D.b9 (bK e)<=10:=by
 have:D.cC (e.l.map aN)<=4:=y8 (λp=>by
  have:=vn p.2;show max 0 (max (D.b9 (tI p.2)) 0)+1<=4
  omega) e.l
 show max (D.b9 (b0 e.z e.m)) (max (D.cC (e.l.map aN)+1) 0)+1<=10;have:D.b9 (b0 e.z e.m)=1:=rfl;omega
theorem QB {a b:Slot}: ∀(Z:List En) (u:Slot),∃c,c8 (wD (gN 2) (cp (dY (bi (aX (i9 "tuple" (af 2)))) (bi (aX (i9 "list" (al (af 2) (cI 1) aQ))))) (aZ (cB false)) cn)) (Z.map bK) [a,b,u]= .ok (.nx [a,b,c])
 | [],u=>⟨u,rfl⟩
 |e::Z,u=>by
  obtain ⟨c,h⟩:=QB (a:=a) (b:=b) Z (.ak (bK e));exact ⟨c,(JG (by rfl)).trans h⟩
def MC (Z:List En):zT [.ag (Z.map bK),.ag (Z.map bK)]= .ok (.bl true):=by
 obtain ⟨d,e⟩:=QB (a:= .ak (.ag (Z.map bK))) (b:= .ak (.ag (Z.map bK))) Z .un;have q:D.cg (.ag (Z.map bK))=true:=y6 uZ Z
 have c:ei (.ag (Z.map bK)) (.ag (Z.map bK))= .ok (.bl false):=by
  unfold ei;rw [jq (.inl ⟨q,q,show D.cC (Z.map bK)+1<=190 by have:=y8 MB Z;omega⟩),y7 _ q];rfl
 exact qV ((jl ((cj (JZ (b:=false) (b2:=false) (ql (b:=true) rfl) (jR (jh rfl rfl c)))).trans rfl)).trans ((jl ((yP rfl).trans e)).trans rfl))
end
def WQ (c:Int): ∃m:Int,zm [.int c]= .ok (.int m)/\Nb m:=by
 have d: ∀u:Slot,al (cI 10) (cI 60) dA [.ak (.int c),u]= .ok (.int (10^60)):=λu=>jh rfl rfl (Xk (i:=10) (j:=60) (by decide))
 have e:al (cI 10) (cI 24) dA [.ak (.int c),.un]= .ok (.int (10^24)):=jh rfl rfl (Xk (i:=10) (j:=24) (by decide));have g: ∀u:Slot,al (cI 23) (cI 64) dA [.ak (.int c),u]= .ok (.int (23^64)):=λu=>jh rfl rfl (Xk (i:=23) (j:=64) (by decide))
 have h:0<=c%10^60:=nr _ (by decide);have k:c%10^60<10^60:=ss _ (by decide);generalize l:c%10^60=x at h k;refine ⟨(x+41)*23^64%(10^60*10^24),qV ?_,nr _ (by decide),Int.lt_of_lt_of_le (ss _ (by decide)) (by decide)⟩;refine (jl (jw (Js (a:=210) (b:=90) (d _) e (by decide) (by decide) (by decide)))).trans ?_;have n:al (af 0) (al (cI 10) (cI 60) dA) aY [.ak (.int c),.ak (.int (10^60*10^24))]= .ok (.int x):=by rw [<-l];exact qi rfl (d _) (by decide)
 exact qk (qi (Js (a:=210) (b:=300) (yG n rfl) (g _) (by omega) (by decide) (by decide)) rfl (by decide))
section
variable {env U:Sl} {f:TJ} {Q g2:TF} {t:TH}
def Wr (h:Q env= .ok (.nx U)):gR Q g2 env=g2 U:=by
 show (Q env>>=_)=_;rw [h];rfl
def X4 {a b:Nat} {x y:D} (h:f env= .ok (.ah [x,y])):kG a b f g2 env=g2 ((env.set a (.ak x)).set b (.ak y)):=by
 show (f env>>=_)=_;rw [h];rfl
def FA (h:t env= .ok false):AZ t Q g2 env=g2 env:=by
 show (t env>>=_)=_;rw [h];rfl
def KB {i j:Nat} {F:TC} {g:TD} {m:Int} {x:D} {b:Bool} (h:g env= .ok [.int m]) (c:F [.int m]= .ok (.ah [x,.bl b])) (a:eh x=true/\eM x=true) (d:i<env.length):lh i j 1 F g g2 env=g2 ((env.set i (.ak (aK x))).set j (.ak (.bl b))):=by
 show (g env>>=_)=_;rw [h];show (aS (([D.int m]:List D).length=1/\D.eX [D.int m]=true) (F [.int m])>>=_)=_;rw [jq ⟨rfl,rfl⟩,c];exact jq ⟨rfl,a.1,a.2,d⟩
def KR {i a b:Nat} {c:List D} (h:env[i]?=some (.ak (.aU c))) (d:c.length<=1000) (e:c.all li=true) (g: ∀s∈xQ i a b env,fM s=true) (j:b<env.length):dX i a b g2 env=g2 (xQ i a b env):=by
 unfold dX;rw [h];exact jq ⟨d,e,eD.mpr g,j⟩
def kX {s:Str}:ei (.str s) (.str s)= .ok (.bl false):=by
 unfold ei;rw [jq (.inl ⟨rfl,rfl,show 0<=190 by decide⟩),y7 _ rfl];rfl
end
section
variable {O:List En}
def Vm (E:hI O):(eh (cW O)=true/\eM (cW O)=true)/\aK (cW O)=oz O:=by
 have:=(br.of (ds:=O.map λe=> .ag (e.l.map aN)) (n:=410) (k:=4) λd hd=>by
  obtain ⟨e,a,rfl⟩:=b8.mp hd
  exact (E.ok e a).sF).1
 refine ⟨⟨lL.mpr ⟨this.1,rfl⟩,lL.mpr ⟨this.2,rfl⟩⟩,?_⟩;show D.obj "Numbers" ["products"] [.dz (O.map kE) (aW (O.map λe=> .ag (e.l.map aN)))]=_;rw [wU (f:=λe:En=> .ag (e.l.map aN)) (g:=λe=> .aU (e.l.map aN)) (λe=>congrArg D.aU (WR e.l))];rfl
def MD (E:hI O) (c:O.length<=60):(O.map eF).length<=1000/\(O.map eF).all li=true:=by
 refine ⟨by rw [bB];omega,eD.mpr λd hd=>?_⟩;obtain ⟨e,a,rfl⟩:=b8.mp hd;have:=(E.ok e a).len;have:=(E.ok e a).m
 exact lL.mpr ⟨decide_eq_true (by rw [bB];omega),eD.mpr λd hd=>by
  obtain ⟨p,_,rfl⟩:=b8.mp hd
  rfl⟩
abbrev FC:Sl->ao D:=Yx "Numbers" "told" 1 jH (af 6)
abbrev rD:Sl->ao Bool:=bi (aX (j4 2 zT (jb FC (jb (af 7) aa))))
def vz (E:hI O) (c:O.length<=60) {a:Sl} (d:af 6 a= .ok (cW O)) (e:af 7 a= .ok (.ag (O.map bK))):rD a= .ok false:=by
 have fz:=Vm E;have g:eM (.ag (O.map bK))=true:=(E.fz (by omega)).1.2
 have h:FC a= .ok (.ag (O.map bK)):=by
  show (af 6 a>>=_)=_;rw [d];show (aS (_/\_/\_/\_/\_) (jH [aK (cW O)])>>=_)=_;rw [jq ⟨rfl,by decide,rfl,fz.1.1,fz.1.2⟩,fz.2,J9 E c];exact jq g
 exact ql (b:=true) (jR (jY (jd h (jd e rfl)) rfl (MC O)))
def ud (E:hI O) (d:O.length<=60) {a:Sl} {i:Nat} {g2:TF} (e:af 6 a= .ok (cW O)) (h:i<a.length):ix i "Numbers" "told" 1 jH (af 6) g2 a=g2 (a.set i (.ak (.aU (O.map eF)))):=by
 have fz:=Vm E;have c:=(E.fz (by omega)).1;show (af 6 a>>=_)=_;rw [e];show (aS (_/\_/\_/\_/\_) (jH [aK (cW O)])>>=_)=_;rw [jq ⟨rfl,by decide,rfl,fz.1.1,fz.1.2⟩,fz.2,J9 E d];show aS _ (g2 (a.set i (.ak (.aU (aW (O.map bK))))))=_;rw [jq ⟨c.1,c.2,h⟩,WS]
end
abbrev Aa:Sl->ao bF:=rg 0 (lh 3 4 1 zl (jb (j4 1 zm (jb (af 1) aa)) aa) (gR (jL 2 (ls (af 3))) (kG 5 6 (j4 1 zJ (jb (af 3) aa)) (AZ (dY (aX (al (ls (af 3)) (af 2) ei)) (aX (al (af 5) (app (jb (nW (af 4)) aa) Vf) ei))) (aZ (cB false)) (Dq (pO (af 4)) (gR (jL 7 (j8 false 2 [] (dj (af 3)) (g2 (gN 0) (gN 1)) jX (aw (jb (af 0) (jb (app (jb (af 1) aa) WJ) aa))))) (dX 3 9 10 (au (cp (dY (bi (aX (qI ["Numbers"] (af 6)))) rD) (aZ (cB false)) cn) (ix 8 "Numbers" "told" 1 jH (af 6) (dX 8 9 10 (cp rD (aZ (cB false)) cn)))))))))))
def UQ (c:Int) {v0 v2 v3 v4 v5 v6 v7 n v9 v10:Slot} (u:fM n=true): ∃B H I w5 J L v N t,Aa [v0,.ak (.int c),v2,v3,v4,v5,v6,v7,n,v9,v10]= .ok (.nx [.un,.ak (.int c),B,H,I,w5,J,L,v,N,t])/\fM v=true:=by
 obtain ⟨m,e1,O⟩:=WQ c;obtain ⟨d,g,e2,Q⟩:=Wl O;have w:jb (j4 1 zm (jb (af 1) aa)) aa [.un,.ak (.int c),v2,v3,v4,v5,v6,v7,n,v9,v10]= .ok [.int m]:=jd (jY (jd rfl rfl) rfl e1) rfl
 have r: ∀ {s:Str} {j:Sl},af 3 j= .ok (aK d)->lr (aK d)= .ok (.str s)->ls (af 3) j= .ok (.str s):=λ{s j} h U=>by
   show (af 3 j>>=_)=_;rw [h];exact U
 rcases Q with ⟨rfl,e,rfl,E,l⟩| ⟨rfl,o⟩
 . have fz:Fz 31000 7 (.ag (e.map bK)):= .ag (E.fz (by omega));obtain ⟨s,p⟩:=fz.oY (by decide) (by decide);have y:aK (.ag (e.map bK))= .aU (e.map eF):=congrArg D.aU (WS e);have k:=MD E l;have z:=(Vm E).1.2;refine ⟨_,_,_,_,_,_,_,_,_,(KB w e2 fz.1 (show 3<11 by decide)).trans ((Wr (jw (r rfl p))).trans ((X4 (jY (jd (d:= .aU (e.map eF)) (by rw [<-y];rfl) rfl) rfl (KW E l))).trans ((FA (JZ (b:=false) (b2:=false) (jR (jh (r rfl p) rfl kX)) rfl)).trans (?_:_=ao.ok (bF.nx [.un,.ak (.int c),.ak (.str s),.un,.ak (.bl true),.ak (.int 0),.ak (cW e),.ak (.ag (e.map bK)),.un,.un,.un]))))),rfl⟩;rw [y];show gR _ _ _=_;refine (Wr (jw (Z2 l rfl))).trans ?_;refine (KR (i:=3) (a:=9) (b:=10) (env:=[.un,.ak (.int c),.ak (.str s),.ak (.aU (e.map eF)),.ak (.bl true),.ak (.int 0),.ak (cW e),.ak (.ag (e.map bK)),n,v9,v10]) rfl k.1 k.2 (show∀q∈([.un,.ak (.int c),.ak (.str s),.un,.ak (.bl true),.ak (.int 0),.ak (cW e),.ak (.ag (e.map bK)),n,.un,.un]:Sl),fM q=true from bo.2 ⟨rfl,bo.2 ⟨rfl,bo.2 ⟨rfl,bo.2 ⟨rfl,bo.2 ⟨rfl,bo.2 ⟨rfl,bo.2 ⟨z,bo.2 ⟨fz.1.2,bo.2 ⟨u,bo.2 ⟨rfl,bo.2 ⟨rfl,λ_ h=>nomatch h⟩⟩⟩⟩⟩⟩⟩⟩⟩⟩⟩) (show 10<11 by decide)).trans ?_;refine (jl ((cj (JZ (b:=false) (b2:=false) (ql (b:=true) rfl) (vz E l rfl rfl))).trans rfl)).trans ((ud E l rfl (show 8<11 by decide)).trans ?_);refine (KR (i:=8) (a:=9) (b:=10) (env:=[.un,.ak (.int c),.ak (.str s),.un,.ak (.bl true),.ak (.int 0),.ak (cW e),.ak (.ag (e.map bK)),.ak (.aU (e.map eF)),.un,.un]) rfl k.1 k.2 (show∀q∈([.un,.ak (.int c),.ak (.str s),.un,.ak (.bl true),.ak (.int 0),.ak (cW e),.ak (.ag (e.map bK)),.un,.un,.un]:Sl),fM q=true from bo.2 ⟨rfl,bo.2 ⟨rfl,bo.2 ⟨rfl,bo.2 ⟨rfl,bo.2 ⟨rfl,bo.2 ⟨rfl,bo.2 ⟨z,bo.2 ⟨fz.1.2,bo.2 ⟨rfl,bo.2 ⟨rfl,bo.2 ⟨rfl,λ_ h=>nomatch h⟩⟩⟩⟩⟩⟩⟩⟩⟩⟩⟩) (show 10<11 by decide)).trans ?_;exact (cj (vz E l rfl rfl)).trans rfl
 . obtain ⟨s,p⟩:=o.1.oY (by decide) (by decide);exact ⟨_,_,_,_,_,_,_,_,_,(KB w e2 o.1.1 (show 3<11 by decide)).trans ((Wr (jw (r rfl p))).trans ((X4 (jY (jd rfl rfl) rfl (UO o.2))).trans ((FA (JZ (b:=false) (b2:=false) (jR (jh (r rfl p) rfl kX)) rfl)).trans rfl))),u⟩
def mX (a:List Int) (y:a.length<=63) (N: ∀i∈a,pZ i<=2^20):my [.aU (a.map D.int)]= .ok (.bl true):=by
 have c:Cz (.aU (a.map D.int)) none (some 30)= .ok (.ag (cutD (a.map D.int) none (some 30))):=rfl;have h: ∀x∈cutD (a.map D.int) none (some 30),x∈a.map D.int:=λx v=>sw (sv v)
 generalize O:D.aU (a.map D.int)=S at*;generalize k:cutD (a.map D.int) none (some 30)=g at*
 obtain ⟨z,E,l,w,m,n,o,p,q,r,t,u,e,rfl,_⟩:=ya (body:=wD (gN 1) Aa)
  (λB j=> ∃(l w m n o p q r t u e:Slot),j=[l,w,m,n,o,p,q,r,t,u,e]/\fM t=true/\ ∀d∈B,∃i:Int,d= .int i)
  (by
   rintro d B j ⟨l,w,m,n,o,p,q,r,t,u,e,rfl,H,hd⟩;obtain ⟨i,rfl⟩:=hd d (by simp);obtain ⟨Q,U,Y,w5,Z,w7,w8,w9,I,J,L⟩:=UQ i (v0:=l) (v2:=m) (v3:=n) (v4:=o) (v5:=p) (v6:=q) (v7:=r) (v9:=u) (v10:=e) H
   exact ⟨_,vB rfl J,_,_,_,_,_,_,_,_,_,_,_,rfl,L,λx v=>hd x (by simp [v])⟩)
  g [.ak S,.un,.un,.un,.un,.un,.un,.un,.un,.un,.un]
  ⟨.ak S,.un,.un,.un,.un,.un,.un,.un,.un,.un,.un,rfl,rfl,λd hd=>by
   obtain ⟨i,_,rfl⟩:=b8.mp (h d hd)
   exact ⟨i,rfl⟩⟩
 exact qV ((jl (Lf (xF (zc rfl rfl rfl c) rfl) E)).trans rfl)
end G
namespace PySem.W.Fast
theorem tw13421470868223648714:True:=⟨⟩
theorem tw11527106233701622926:True:=⟨⟩
theorem tw3795446077942237801:True:=⟨⟩
theorem te15354195475568860083:True:=⟨⟩
theorem tw5089510536226730010:True:=⟨⟩
theorem tw14007567053432393678:True:=⟨⟩
theorem tw9545010825816979263:True:=⟨⟩
theorem tw4964342650746489645:True:=⟨⟩
theorem tw5077075605384782288:True:=⟨⟩
theorem tw12465160973031260664:True:=⟨⟩
theorem tw12318366944655804152:True:=⟨⟩
theorem tw9858314812701694778:True:=⟨⟩
theorem tw12876595241865602407:True:=⟨⟩
theorem tw9549015040197138803:True:=⟨⟩
theorem tw14267582044402919919:True:=⟨⟩
theorem tw2484327153459581527:True:=⟨⟩
theorem tw7125288151350045876:True:=⟨⟩
theorem tw6118038933317240317:True:=⟨⟩
theorem tw3570395105642372378:True:=⟨⟩
theorem tw17981286045777920404:True:=⟨⟩
theorem tw8752005256603358938:True:=⟨⟩
theorem tw12097109915545220446:True:=⟨⟩
theorem tw18245993261791190881:True:=⟨⟩
theorem tw6110370132524885315:True:=⟨⟩
theorem tw8216829753214232685:True:=⟨⟩
theorem tw3043639789816518082:True:=⟨⟩
theorem tw11716772625209171912:True:=⟨⟩
theorem tw8535587365179151641:True:=⟨⟩
theorem tw9311904341834860418:True:=⟨⟩
theorem tw16788534470010979937:True:=⟨⟩
theorem tw14684656698725421139:True:=⟨⟩
theorem tw17341136792224617087:True:=⟨⟩
theorem tw8487644290262278570:True:=⟨⟩
theorem tw17697277342212847512:True:=⟨⟩
theorem tw4368118921026622102:True:=⟨⟩
theorem tw10743103137399436318:True:=⟨⟩
theorem tw2301922560015806577:True:=⟨⟩
theorem tw12183283384826511645:True:=⟨⟩
theorem tw13183834930042659360:True:=⟨⟩
theorem tw7766946827078755979:True:=⟨⟩
theorem tw13388980800264112255:True:=⟨⟩
theorem tw10559511219874440629:True:=⟨⟩
theorem tw1361063633896892697:True:=⟨⟩
theorem tw3102660621238558119:True:=⟨⟩
theorem tw15632105576527269404:True:=⟨⟩
end PySem.W.Fast
open PySem PySem.W PyProof.Rows
set_option maxHeartbeats 0 in
theorem PySem.Challenge.cw_endwise_k41_no_numbers_paper_holds : PySem.Challenge.rw_endwise_k41_no_numbers_paper.Holds := by
  w_on;o_law;k_head;(case hw=>w_witness2)
  k_fill
  refine M.me (l := PySem.Challenge.rw_endwise_k41_no_numbers_paper) (n := 63) (k := 8) (x := "_law_script") (F := G.my) rfl (by decide) rfl ⟨rfl, by decide, by decide, rfl⟩ (fun w h Y => PySem.W.kIn_of Y) ?F G.mX
  case F =>
    intro w mg fa h KX Gn ME
    refine' G.all_mk KX Gn ME _ _ _ _ _ _ _ _ _ _ _ _ _ _ _ _ _ _ _ _ _ _ _ _ _ _ _ _ _ _ _ _ _ _ _ _ _ _ _ _ _ _ _ ?e0 _ _ _ _ _ _ _ _ _ _ _ _ _ _ _ _ _ _ _ _ _ _ _ _ _ _ _ _
    (case e0=>k_is)
    any_goals first|exact ⟨_,by k_is,⟨_,_,_,_,_,_,_,_,_,by k_is,by k_is⟩,by k_is⟩|exact ⟨_,by k_is,by k_is,⟨_,_,_,_,_,_,_,_,_,by k_is,by k_is⟩,by k_is⟩|k_is|exact ⟨_,by k_is⟩|kernel_rfl|k_exc|((repeat refine List.forall_mem_cons.2 ⟨by kernel_rfl,?_⟩);exact fun _ h=>nomatch h)

import PyProof.Rows.All
import Wide.All
import OpenK.AllK
import Wide.FinOn
import Lean
import PyProof.TupleKey
import PyProof.IsRules
import PyProof.DictKeyH
import PyProof.EqAt
import PyProof.EqKinds
import PyProof.TupleCall
import PyProof.Cells
import PyProof.NeKinds
import KE.IntBitsLaws
import KE.KDictList
import KE.KRevIter
import KE.KSortTup
import KE.KDictSum
import PyProof.EnumMake
import PyProof.EnumFor
import PyProof.LayNew
import PyProof.Rows.EnumRows
import PyProof.SumAny
import PyProof.ListRange
import PyProof.FString5
import PyProof.CollectIter
import PyProof.TupleOfSeq
import PyProof.Rows.Tup
import OpenK.KRaise
import PyProof.StationsW
import KE.KTryMore
import PyProof.NsDelKeeps
import KE.KEqDict
import PyProof.ExcArgs
import PyProof.Draws
import PyProof.ZipIter
import PyProof.Rows.ZipGen
import PyProof.DictWalks
import PyProof.Conv_int_bool
import PyProof.Rows.SeqMore
import PyProof.Rows.SetFrom
import PyProof.SetRoads
import PyProof.MeetsSeq2
import PyProof.FactsAll.NoneType_1
import PyProof.DictFindH
import PyProof.DictRoadsH
import PyProof.AttrMissHeap
import KE.KDictOf
import PyProof.Rows.StrJoin2
import PyProof.FactsAll.object_1
import PySem.Challenge.RW_endwise_k31_papers
open Array renaming length_toList -> aar, getElem?_toList -> aas, getElem?_eq_getElem -> aau, getD_eq_getD_getElem? -> abz, getElem?_eq_some_iff -> abB, forIn_toList -> ado, eq_empty_of_size_eq_zero -> adV, getD -> aex, toList_push -> aez, toList_inj -> aeM
open Bool renaming false_ne_true -> aaC, and_eq_true -> aaG, false_eq_true -> aaQ, not_false -> aa7, not_true -> abw, or_eq_true -> acp, not_eq_true -> acy, eq_iff_iff -> acI, and_false -> ac6, or_false -> ady, true_and -> adE, false_and -> aep
open Classical renaming byContradiction -> ach, propDecidable -> ad5
open False renaming elim -> abC
open ForInStep renaming yield -> aco
open Int renaming emod_nonneg -> abu, emod_lt_of_pos -> acf
open List renaming getElem?_eq_getElem -> aac, size_toArray -> aag, getElem?_eq_some_iff -> aam, length_map -> aan, getElem?_append_left -> aaq, mem_cons_of_mem -> aat, getElem?_append_right -> aav, mem_cons_self -> aay, length_append -> aaB, map_cons -> aaE, length_cons -> aaF, mem_cons -> aaJ, mem_map -> aaK, getElem?_eq_none -> aaM, getElem?_map -> aaO, getElem?_set_self -> aaR, mem_append_right -> aaT, mem_range -> aaV, all_eq_true -> aaZ, mem_of_getElem? -> aa0, append_assoc -> aa2, getElem?_set_ne -> aa5, range -> aa6, getElem?_replicate -> aba, mem_iff_getElem? -> abj, lookup_cons -> abl, getD_eq_getElem?_getD -> abo, append_nil -> abq, mem_append -> abr, pairwise_iff_getElem -> abt, getElem_mem -> abv, lookup -> aby, map_map -> abA, length_nil -> abO, mem_singleton -> abS, pairwise_cons -> acd, contains_cons -> ace, nodup_cons -> acl, getElem?_take_of_lt -> acm, pairwise_map -> acr, filterMap_cons -> acs, getElem?_cons_succ -> acv, length_singleton -> acL, find?_cons -> acM, map_append -> acO, ext_getElem? -> acT, contains_nil -> ac1, mem_append_left -> ac3, drop_eq_getElem_cons -> ac7, toArray -> adk, mem_filterMap -> ads, all_cons -> adz, zip_cons_cons -> adB, drop_eq_nil_of_le -> adH, take_of_length_le -> adI, nodup_append -> adN, replicate -> adP, length_take -> adY, nodup_range -> adZ, not_mem_nil -> ad1, any_eq_true -> ad2, of_mem_zip -> aea, map_congr_left -> aeb, nil_append -> aef, length_pos_iff -> aeg, getElem?_drop -> aen, any_eq_false -> aev, length_range -> aeB, any_cons -> aeF, length_drop -> aeK, cons_append -> aeN
open List.Perm renaming refl -> acB
open Nat renaming le_refl -> aah, lt_of_lt_of_le -> aaw, ne_of_lt -> aax, le_trans -> aaN, zero_le -> aa4, lt_irrefl -> abI, le_add_right -> ab8, lt_succ_self -> acw, le_succ -> acN, le_of_not_lt -> ade, not_lt_zero -> adD, add_zero -> adU, lt_of_le_of_lt -> ael, lt_of_le_of_ne -> aem, le_of_lt_succ -> aeA, lt_succ_of_lt -> aeC, le_of_lt -> aeR, lt_trans -> aeV, succ_pos -> aeY
open Ne renaming symm -> acD
open Option renaming map_eq_some_iff -> acE, getD_some -> adX, getD_none -> aeL
open Option.some renaming inj -> aaD
open Or renaming inr -> abf, inl -> abR
open PyProof.Rows renaming boot_tuple -> aaY, slot_tuple_getitem -> aa1, callWith_type1 -> acK, boot_all -> acR, boot_int -> acS, envOfC -> adx, boot_isinstance -> adA, seqObj -> adC, get?_update_seq -> aec, AllBare -> aeD, boot_bool -> aeP, boot_str -> aeZ
open PyProof.Rows.F renaming plain_set_update_loop -> abW, entry_set_update_loop -> ada
open PySem renaming wpAny_bind -> aab, wpAny_pure -> aad, Shared -> aaf, starEach -> aai, sizeLine -> aaj, mainGlobals -> aak, Program -> aaA, tupleKeyHash -> aaP, Around -> aaU, wpAny_holding -> aa3, boot_len -> aa8, bootBuiltins -> aa9, SetTable -> abb, assignEach -> abe, compareOp -> abg, backTo -> abn, IsTupleKey -> abp, wpAny_truthy_bool -> abx, sizeLine_eq -> abD, mem_of_lookup -> abE, wpAny_newObj_type -> abF, FuncData -> abK, keywordEach -> abT, wpAny_typeNameOfWhole_keyiter -> abU, attributeBase -> abV, wpAny_mono -> abX, sysModules -> abY, wpAny_setState_of -> abZ, intKind -> ab0, binaryOp -> ab1, wpAny_call_entry -> ab7, swapsWith -> aca, wpAny_passesOwn -> acj, wpAny_typeNameOf_keyiter -> acq, wpAny_callSpecial?_slot -> act, wpAny_Call_Name_kw -> acF, tupleKind -> acJ, codeAny_builtin -> acP, foldedSetIterable -> acV, wpAny_pyIter_list -> acX, ofAClassStatement -> ac0, wpAny_seqItems -> ac4, carriedByValue -> ac9, wpAny_forIn_list -> adb, backToKw -> adc, Builtin -> adf, Keyword -> adg, codeAny_mono -> adj, holding -> adq, wpAny_execs_nil -> adr, behindInMarks -> adu, codeAny -> adw, sliceBounds -> adL, wpAny_typeOf -> adQ, wpAny_isOneOf_keyiter -> adS, wpAny_isInstance -> adW, wpAny_askSetting -> ad0, wpAny_rule -> ad7, letOwnedTupleGo -> ad8, Operator -> aej, wpAny_fieldsOf -> aer, scanBound -> aey, standAt -> aeE, Paired -> aeI, assign -> aeJ, valueAt -> aeU
open PySem.Around renaming under_plainId -> aci
open PySem.Builtin.Dict renaming updateFrom -> aeG, pairItems -> aeO, showsAll -> aeX
open PySem.Builtin.Dict_items renaming ownsTuple -> ad6
open PySem.Builtin.Frozenset renaming isAnySet -> ab4, difference -> acH, addrOf -> adn, unchanged -> aee, slot1 -> aeH
open PySem.Builtin.Int renaming intBits -> abG
open PySem.Builtin.List renaming listTooLong -> abQ
open PySem.Builtin.Slice renaming slicePlaces -> acg, sliceAdjust -> ac5, sliceApplied -> aeh
open PySem.Builtin.Str renaming strSliceIndices -> abi, occurrences -> adt
open PySem.Builtin.Tuple renaming tupleExact -> acn, tupleItemsOf -> aei, tupleHashOf -> aeo
open PySem.F renaming slot_dict_keyiterator_next -> abd, plainAttrs_list -> acu, called_set -> acQ, excBase_ValueError -> ac2, args_dict_keyiterator_next_1 -> ac8, entry_dict_keyiterator_next -> adh, slot_list_getattribute -> adl, slot_list_append -> adG, slot_list_extend -> ad3
open PySem.Heap renaming get?_push_of_some -> aae, lt_size -> aao, get?_push_size -> aap, get?_update_other -> ab2, SameBut -> ab9, size_push -> adO, get?_update_self -> adR
open PySem.Heap.SameBut renaming update -> adi
open PySem.Heap.TracedAtW renaming there -> ad4
open PySem.MeetsSeq2 renaming wpAny_forIn_array -> aed
open PySem.NameKind renaming free -> acY, cell -> acZ
open PySem.Obj renaming mapSeq -> acA, putSet -> ae0
open PySem.Paired renaming length -> adp
open PySem.PassesOwn renaming never -> abk
open PySem.SetTable renaming below -> aaL, turns -> abM, sizeAbove -> acG, toList_insertAt -> adm, insertAt_perm -> adJ, grown -> aes
open PySem.SetTable.below renaming go -> adM
open PySem.SetTable.layClean renaming free -> ab3
open PySem.SetTable.probe renaming go -> abH
open PySem.Value renaming ref -> aaz, none -> ab5, bool -> acU, type -> adK, isInt_shape -> aet, int -> aeQ
open PySem.W renaming Frag -> aaa, nsIn -> aal, mg_of -> aaH, kitOne -> aaI, mg_none_of -> aaS, findIn -> aaW, keepIn -> aaX, kia_one -> abh, emptyDict -> abm, Looks -> abJ, excIn -> abL, instObj -> abN, makesIn -> abP, plainGet -> ab6, fnOf -> acb, hasDictIn -> ack, exmOne -> acC, plainOver -> acW, codeIn -> adF, plainGet_of -> ad9, callWith_K -> aek, lookIn -> aeq, methodObj -> aeu, kitx_list -> aew, isFn -> aeS, takerIn -> aeT, OpenLaw -> aeW
open PySem.W.Looks renaming ld -> acx
open PySem.pickOrder renaming go -> adT
open True renaming intro -> acz
noncomputable section
set_option compiler.extract_closed false
set_option bootstrap.genMatcherCode false
set_option genSizeOfSpec false
set_option Elab.async false
set_option linter.all false
set_option maxRecDepth 100000
set_option maxHeartbeats 4000000
namespace M
open PySem PyProof.Rows
open PySem.SeqAt (EqAt RcAt)
inductive NK where
 |int (i:Int)|str (x:Str)|tup (l:List NK)
noncomputable instance nkDec:DecidableEq NK:=fun _ _=>ad5 _
mutual
def NK.at (h:Heap):NK->Value->Prop
 | .int i,v=> ∃t,v= .int i t
 | .str x,v=> ∃t,v= .str x t
 | .tup l,v=> ∃a its,v= .ref a/\IsTup h a its/\NK.ats h l its.toList
def NK.ats (h:Heap):List NK->List Value->Prop
 | [],vs=>vs=[]
 |k::l,vs=> ∃u us,vs=u::us/\NK.at h k u/\NK.ats h l us
end
mutual
def NK.dep:NK->Nat
 | .tup l=>NK.deps l+1
 |_=>0
def NK.deps:List NK->Nat
 | []=>0
 |k::l=>max (NK.dep k) (NK.deps l)
end
mutual
def NK.draws:NK->Nat
 | .tup l=>NK.drawss l+1
 |_=>1
def NK.drawss:List NK->Nat
 | []=>0
 |k::l=>NK.draws k+NK.drawss l
end
mutual
def NK.hash (w:World):NK->Int
 | .int i=>hashInt i
 | .str x=>hashStr w x
 | .tup l=>reduceHash (aeo (NK.hashs w l))
def NK.hashs (w:World):List NK->List Int
 | []=>[]
 |k::l=>NK.hash w k::NK.hashs w l
end
def NK.ind {P:NK->Prop} (h1: ∀i,P (.int i)) (h2: ∀x,P (.str x)) (h3: ∀l,(∀k∈l,P k)->P (.tup l)) (k:NK):P k:=
 NK.rec (motive_1:=P) (motive_2:=fun l=> ∀k∈l,P k) h1 h2 h3 (fun _ h=>by cases h) (fun k l hk hl q hq=>by
  rcases aaJ.mp hq with e|e
  · rw [e];exact hk
  · exact hl q e) k
def at_int {h:Heap} {i:Int} {v:Value}:NK.at h (.int i) v↔ ∃t,v= .int i t:=by simp only [NK.at]
def at_str {h:Heap} {x:Str} {v:Value}:NK.at h (.str x) v↔ ∃t,v= .str x t:=by simp only [NK.at]
def at_tup {h:Heap} {l:List NK} {v:Value}:NK.at h (.tup l) v↔ ∃a its,v= .ref a/\IsTup h a its/\NK.ats h l its.toList:=by simp only [NK.at]
def ats_nil {h:Heap} {vs:List Value}:NK.ats h [] vs↔vs=[]:=by simp only [NK.ats]
def ats_cons {h:Heap} {k:NK} {l:List NK} {vs:List Value}:NK.ats h (k::l) vs↔ ∃u us,vs=u::us/\NK.at h k u/\NK.ats h l us:=by simp only [NK.ats]
theorem Qg {h:Heap}: ∀ {l:List NK} {vs:List Value},NK.ats h l vs->vs.length=l.length
 | [],vs,x=>by rw [ats_nil.mp x];rfl
 |k::l,vs,x=>by
  obtain ⟨u,us,rfl,_,y⟩:=ats_cons.mp x;rw [aaF,aaF,Qg y]
theorem Qh {h:Heap}: ∀ {l:List NK} {vs:List Value} {j:Nat} {k:NK} {u:Value},NK.ats h l vs->l[j]?=some k->vs[j]?=some u->NK.at h k u
 | [],vs,j,k,u,x,hk,hu=>by cases hk
 |k'::l,vs,j,k,u,x,hk,hu=>by
  obtain ⟨u',us,rfl,hx,y⟩:=ats_cons.mp x
  cases j with
  |zero=>cases hk;cases hu;exact hx
  |succ j=>exact Qh y hk hu
theorem ZW {k:NK}: ∀ {l:List NK},k∈l->NK.dep k<=NK.deps l
 | [],h=>by cases h
 |k'::l,h=>by
  simp only [NK.deps];rcases aaJ.mp h with e|e
  · rw [e];omega
  · have:=ZW e;omega
def ja5 {h:Heap} (x:NK): ∀(y:NK) (v:Value),NK.at h x v->NK.at h y v->x=y:=by
 induction x using NK.ind with
 |h1 i=>
  intro y v hx hy;obtain ⟨t,rfl⟩:=at_int.mp hx
  cases y with
  |int j=>obtain ⟨t',e⟩:=at_int.mp hy;cases e;rfl
  |str z=>obtain ⟨t',e⟩:=at_str.mp hy;cases e
  |tup l=>obtain ⟨a,its,e,_⟩:=at_tup.mp hy;cases e
 |h2 z=>
  intro y v hx hy;obtain ⟨t,rfl⟩:=at_str.mp hx
  cases y with
  |int j=>obtain ⟨t',e⟩:=at_int.mp hy;cases e
  |str z=>obtain ⟨t',e⟩:=at_str.mp hy;cases e;rfl
  |tup l=>obtain ⟨a,its,e,_⟩:=at_tup.mp hy;cases e
 |h3 l ih=>
  intro y v hx hy;obtain ⟨a,its,rfl,⟨o,ho,_,n,hd⟩,hl⟩:=at_tup.mp hx
  cases y with
  |int j=>obtain ⟨t',e⟩:=at_int.mp hy;cases e
  |str z=>obtain ⟨t',e⟩:=at_str.mp hy;cases e
  |tup m=>
   obtain ⟨a',its',e,⟨o',ho',_,n',hd'⟩,hm⟩:=at_tup.mp hy;cases e;rw [ho] at ho';cases ho';rw [hd] at hd';cases hd';congr 1;apply acT;intro j;have e1:=Qg hl;have e2:=Qg hm
   by_cases hj:j<l.length
   · have hj2:j<m.length:=by omega
     have hj3:j<its.toList.length:=by omega
     rw [aac hj,aac hj2];congr 1;exact ih _ (abv hj) _ _ (Qh hl (aac hj) (aac hj3)) (Qh hm (aac hj2) (aac hj3))
   · rw [aaM (by omega),aaM (by omega)]
theorem ja4 {h h':Heap}: ∀ {l:List NK} {vs:List Value},(∀k∈l,∀v,NK.at h k v->NK.at h' k v)->NK.ats h l vs->NK.ats h' l vs
 | [],vs,_,x=>ats_nil.mpr (ats_nil.mp x)
 |k::l,vs,f,x=>by
  obtain ⟨u,us,e,hx,y⟩:=ats_cons.mp x;exact ats_cons.mpr ⟨u,us,e,f k aay u hx,ja4 (fun q hq=>f q (aat _ hq)) y⟩
def jcy {h h':Heap} (ht: ∀a its,IsTup h a its->IsTup h' a its) (k:NK): ∀v,NK.at h k v->NK.at h' k v:=by
 induction k using NK.ind with
 |h1 i=>exact fun v x=>at_int.mpr (at_int.mp x)
 |h2 z=>exact fun v x=>at_str.mpr (at_str.mp x)
 |h3 l ih=>
  intro v x;obtain ⟨a,its,e,t,y⟩:=at_tup.mp x;exact at_tup.mpr ⟨a,its,e,ht a its t,ja4 ih y⟩
def Za {s:aaf} {a:Addr} {its:Array Value} (h:IsTup s.heap a its):s.TypeIs (.ref a) "tuple" :=let ⟨o,ho,hc,_⟩:=h;⟨o,ho,hc⟩
section
variable {prog:aaA} {w:World}
def jbG (k:NK): ∀(A:aaU) (E:Value->aaf->Prop) (s:aaf) (v:Value) (Q:Int->aaf->Prop),NK.at s.heap k v->A.units+k.dep<cLine->Q (k.hash w) {s with toks:=s.toks+k.draws}->wpAny (model prog w) A (pyHash v) Q E s:=by
 induction k using NK.ind with
 |h1 i=>
  intro A E s v Q x hu q;obtain ⟨t,rfl⟩:=at_int.mp x;simp only [NK.hash,NK.draws] at q;exact wpAny_pyHash_int q
 |h2 z=>
  intro A E s v Q x hu q;obtain ⟨t,rfl⟩:=at_str.mp x;simp only [NK.hash,NK.draws] at q;exact wpAny_pyHash_str q
 |h3 l ih=>
  intro A E s v Q x hu q;obtain ⟨a,its,rfl,t,y⟩:=at_tup.mp x;simp only [NK.dep] at hu;simp only [NK.hash,NK.draws] at q;obtain ⟨o,ho,hc,n,hd⟩:=id t;show wpAny _ _ (pyHashByItsType (.ref a)) _ _ s;refine PySem.W.pyHash_slot (Za t) F.slot_tuple_hash F.entry_tuple_hash (F.args_tuple_hash_1 _) (by decide) (.inr (by omega)) ?_;unfold adf.«tuple.__hash__»;refine aab (aad (aab (wpAny_tupleItemsOf ho hd (aab ?_))));rw [←ado];refine adb _ (fun rest r s'=> ∃done rl,done++rl=l/\NK.ats s.heap rl rest/\r=(NK.hashs w done).toArray/\s'={s with toks:=s.toks+NK.drawss done}) _ ?_ ?_ _ _ ⟨[],l,rfl,y,rfl,rfl⟩
  · rintro u rest r s' ⟨done,rl,hl,ha,rfl,rfl⟩
    cases rl with
    |nil=>have:=ats_nil.mp ha;cases this
    |cons k' rl=>
     obtain ⟨u',us,e,hu1,hu2⟩:=ats_cons.mp ha;obtain ⟨rfl,rfl⟩:=List.cons.inj e;have hm:k'∈l:=by rw [←hl];simp
     have hdep:=ZW hm;refine aab (ih k' hm A.in1 E {s with toks:=s.toks+NK.drawss done} u _ hu1 (by show A.units+1+k'.dep<cLine;omega) ?_);refine aad ⟨done++[k'],rl,by simp [hl],hu2,?_,?_⟩
     · have: ∀d:List NK,NK.hashs w (d++[k'])=NK.hashs w d++[k'.hash w]:=fun d=>by
        induction d with
        |nil=>simp [NK.hashs]
        |cons b d ihd=>simp [NK.hashs,ihd]
       rw [this];simp
     · have: ∀d:List NK,NK.drawss (d++[k'])=NK.drawss d+k'.draws:=fun d=>by
        induction d with
        |nil=>simp [NK.drawss]
        |cons b d ihd=>simp [NK.drawss,ihd];omega
       rw [this,Nat.add_assoc]
  · rintro r s' ⟨done,rl,hl,ha,rfl,rfl⟩
    have e0:rl=[]:=by
     cases rl with
     |nil=>rfl
     |cons k' rl=>obtain ⟨_,_,e,_⟩:=ats_cons.mp ha;cases e
    subst e0;rw [abq] at hl;subst hl;show wpAny _ _ (do ret (←mkInt (aeo (NK.hashs w done).toArray.toList))) _ _ _;refine abX (wpAny_ret_mkInt (Q:=fun v s'=> ∃n t,v= .int n t/\Q (reduceHash n) s') ?_) (fun fin s' ⟨v,e,n,t,e2,q⟩=>⟨n,t,by rw [e,e2],q⟩) (fun _ _ x=>x);refine ⟨_,_,rfl,?_⟩;simpa [Nat.add_assoc] using q
end
def vB {α:Type} [BEq α] [LawfulBEq α] {β:Type} {f:α->β} (hf: ∀a b,f a=f b->a=b) (a b:α) [Decidable (f a=f b)]:(a==b)=decide (f a=f b):=by
 by_cases h:a=b
 · subst h;simp
 · rw [decide_eq_false (fun e=>h (hf _ _ e))];simpa using h
def jeG {s:aaf} (x:NK): ∀(A:aaU) (y:NK) (u v:Value),NK.at s.heap x u->NK.at s.heap y v->A.units+x.dep<cLine->EqAt A s u v (decide (x=y)):=by
 induction x using NK.ind with
 |h1 i=>
  intro A y u v hx hy hu;obtain ⟨t,rfl⟩:=at_int.mp hx;simp only [NK.dep] at hu
  cases y with
  |int j=>
   obtain ⟨t',rfl⟩:=at_int.mp hy;rw [←vB (f:=NK.int) (fun a b e=>by cases e;rfl)];exact EqAt.int_int _ _ _ _
  |str z=>obtain ⟨t',rfl⟩:=at_str.mp hy;rw [decide_eq_false (by intro e;cases e)];exact EqAt.int_str _ _ _ _
  |tup l=>obtain ⟨a,its,rfl,p,_⟩:=at_tup.mp hy;rw [decide_eq_false (by intro e;cases e)];exact EqAt.int_tuple _ _ p (by omega)
 |h2 z=>
  intro A y u v hx hy hu;obtain ⟨t,rfl⟩:=at_str.mp hx;simp only [NK.dep] at hu
  cases y with
  |int j=>obtain ⟨t',rfl⟩:=at_int.mp hy;rw [decide_eq_false (by intro e;cases e)];exact EqAt.str_int _ _ _ _
  |str z'=>
   obtain ⟨t',rfl⟩:=at_str.mp hy;rw [←vB (f:=NK.str) (fun a b e=>by cases e;rfl)];exact EqAt.str_str _ _ _ _
  |tup l=>obtain ⟨a,its,rfl,p,_⟩:=at_tup.mp hy;rw [decide_eq_false (by intro e;cases e)];exact EqAt.str_tuple _ _ p (by omega)
 |h3 l ih=>
  intro A y u v hx hy hu;obtain ⟨a,its,rfl,p,hl⟩:=at_tup.mp hx;simp only [NK.dep] at hu
  cases y with
  |int j=>obtain ⟨t',rfl⟩:=at_int.mp hy;rw [decide_eq_false (by intro e;cases e)];exact EqAt.tuple_int _ _ p (by omega)
  |str z'=>obtain ⟨t',rfl⟩:=at_str.mp hy;rw [decide_eq_false (by intro e;cases e)];exact EqAt.tuple_str _ _ p (by omega)
  |tup m=>
   obtain ⟨a',its',rfl,p',hm⟩:=at_tup.mp hy
   by_cases z:a=a'
   · subst z;rw [decide_eq_true (ja5 _ _ _ hx hy)];exact EqAt.same _
   · have l1:=Qg hl;have l2:=Qg hm
     have q:=RcAt.tuples (A:=A) (e:=fun j=>decide (l[j]?=m[j]?)) p p' (by omega) (fun j h1 h2=>by
      have j1:j<l.length:=by rw [←l1,aar];exact h1
      have j2:j<m.length:=by rw [←l2,aar];exact h2
      have g1:its.toList[j]?=some its[j]:=by rw [aas];exact aau h1
      have g2:its'.toList[j]?=some its'[j]:=by rw [aas];exact aau h2
      have hd:=ZW (abv j1);have:=ih l[j] (abv j1) A.in1 m[j] its[j] its'[j] (Qh hl (aac j1) g1) (Qh hm (aac j2) g2) (by show A.units+1+l[j].dep<cLine;omega);rw [aac j1,aac j2]
      simpa using this)
     have e:((aa6 (min its.size its'.size)).all (fun j=>decide (l[j]?=m[j]?))&&its.size==its'.size)=decide (NK.tup l=NK.tup m):=by
      rw [←aar,←aar,l1,l2];rw [acI,aaG,aaZ,decide_eq_true_iff]
      constructor
      · rintro ⟨h1,h2⟩;have hlen:l.length=m.length:=by simpa using h2
        congr 1;apply acT;intro j
        by_cases hj:j<l.length
        · simpa using h1 j (aaV.mpr (by omega))
        · rw [aaM (by omega),aaM (by omega)]
      · intro h;cases h;exact ⟨fun j _=>by simp,by simp⟩
     rw [←e];exact EqAt.of_refs z q
section
variable {prog:aaA} {w:World} {A:aaU} {E:Value->aaf->Prop} {s:aaf}
def uF (k:NK): ∀(n:Nat) (v:Value) (Q:Bool->aaf->Prop),NK.at s.heap k v->k.dep<=n->Q true s->wpAny (model prog w) A (eqIsQuiet n v) Q E s:=by
 induction k using NK.ind with
 |h1 i=>intro n v Q x _ q;obtain ⟨t,rfl⟩:=at_int.mp x;cases n<;>exact aad q
 |h2 z=>intro n v Q x _ q;obtain ⟨t,rfl⟩:=at_str.mp x;cases n<;>exact aad q
 |h3 l ih=>
  intro n v Q x hn q;obtain ⟨a,its,rfl,p,hl⟩:=at_tup.mp x;simp only [NK.dep] at hn;obtain ⟨n,rfl⟩: ∃m,n=m+1:=⟨n-1,by omega⟩
  obtain ⟨o,ho,hc,nn,hd⟩:=id p;rw [eqIsQuiet.eq_def];refine aab (wpAny_specialOf (Za p) F.slot_tuple_eq.lookup ?_);dsimp only;refine aab (adW (b:=true) (Za p) (by first|rfl|decide|exact isSubtype_type "tuple" _) ?_);simp only [abw,aaQ,if_false];refine aab (ac4 ho hd (aab ?_));simp only [adX];rw [←ado];refine adb _ (fun rest r s'=>r=(none,())/\s'=s/\ ∃rl,NK.ats s.heap rl rest/\ ∀k∈rl,k∈l) _ ?_ ?_ _ _ ⟨rfl,rfl,l,hl,fun _ h=>h⟩
  · rintro u rest r s' ⟨rfl,rfl,rl,ha,hs⟩
    cases rl with
    |nil=>have:=ats_nil.mp ha;cases this
    |cons k' rl=>
     obtain ⟨u',us,e,hu1,hu2⟩:=ats_cons.mp ha;obtain ⟨rfl,rfl⟩:=List.cons.inj e;have hm:=hs k' aay;have hdp:=ZW hm;refine aab (ih k' hm n u _ hu1 (by omega) ?_);simp only [abw,aaQ,if_false];exact aad ⟨rfl,rfl,rl,hu2,fun q hq=>hs q (aat _ hq)⟩
  · rintro r s' ⟨rfl,rfl,_⟩;exact aad q
end
noncomputable def nkKind (prog:aaA) (w:World):HeapKind prog w NK where
 is:=fun h k a=>NK.at h k (.ref a)/\k.dep<=8
 hash:=NK.hash w
 draws:=NK.draws
 room:=fun A=>A.units+8<cLine
 inj:=fun x y=>ja5 _ _ _ x.1 y.1
 keeps:=fun {h h' k a d o es ep} x ho hd hs=>⟨jcy (fun b its ⟨ob,hb,hc,n,hdb⟩=>⟨ob,hs.extBut b ob (fun z=>by
  subst z;rw [ho] at hb;cases hb
  rw [hd] at hdb;cases hdb) hb,hc,n,hdb⟩) k _ x.1,x.2⟩
 pyHash:=fun {A E s k a Q} hr x q=>jbG k A E s _ Q x.1 (by have:=x.2;omega) q
 eqBool:=fun {A E s x y a b Q} hr hx hy q=>jeG x A y _ _ hx.1 hy.1 (by have:=hx.2;omega) _ _ _ _ q
 quiet:=fun {A E s k a Q} x q=>uF k 8 _ Q x.1 x.2 q
end M
section
open PySem
abbrev Yx (x:Str):Prop:=(x==("__debug__" :Str))=false
abbrev Yw (x:Str):Prop:=(x==("__classdict__" :Str))=false
abbrev Xy:=Str->Option Value
abbrev Xx:=Addr->Prop
abbrev Xw:=Value->aaf->Prop
theorem T9 {l:List Str} (h:l.Nodup:=by decide+kernel):l.Nodup:=h
end
namespace L2
open PySem PySem.Spec PyProof.Rows
abbrev Key:=Sum Int Str
def K1:Key->Value->Bool
 | .inl k,v=>Value.isInt k v
 | .inr x,v=>Value.isStrOf x v
def keyH (w:World):Key->Int
 | .inl k=>hashInt k
 | .inr x=>hashStr w x
theorem jW: ∀ {k:Key} {v:Value},K1 k v=true->(∃i t,k=Sum.inl i/\v=aeQ i t)\/(∃x t,k=Sum.inr x/\v=Value.str x t)
 | .inl i,v,h=>by
  obtain ⟨t,e⟩:=aet (k:=i) (v:=v) h;exact .inl ⟨i,t,rfl,e⟩
 | .inr x,v,h=>by
  obtain ⟨t,e⟩:=Value.isStrOf_shape (x:=x) (v:=v) h;exact .inr ⟨x,t,rfl,e⟩
def U2 (i:Int) (t:Tok):K1 (.inl i) (.int i t)=true:=by simp [K1,Value.isInt]
def U1 (x:Str) (t:Tok):K1 (.inr x) (.str x t)=true:=by simp [K1,Value.isStrOf]
def jdH (a b:Int):decide ((Sum.inl a:Key)=Sum.inl b)=(a==b):=by
 by_cases e:a=b
 · subst e;simp
 · have h: ¬(Sum.inl a:Key)=Sum.inl b:=fun q=>e (Sum.inl.inj q)
   rw [decide_eq_false h];exact (beq_eq_false_iff_ne.mpr e).symm
def jdE (a b:Str):decide ((Sum.inr a:Key)=Sum.inr b)=decide (a=b):=by
 by_cases e:a=b
 · subst e;simp
 · have h: ¬(Sum.inr a:Key)=Sum.inr b:=fun q=>e (Sum.inr.inj q)
   rw [decide_eq_false h,decide_eq_false e]
def jdG (a:Int) (b:Str):decide ((Sum.inl a:Key)=Sum.inr b)=false:=decide_eq_false (fun q=>nomatch q)
def jdF (a:Str) (b:Int):decide ((Sum.inr a:Key)=Sum.inl b)=false:=decide_eq_false (fun q=>nomatch q)
def jE (prog:aaA) (w:World):PySem.KeyKind prog w Key where
 is:=K1
 hash:=keyH w
 inj:=fun v a b ha hb=>by
  rcases jW ha with ⟨i,t,rfl,rfl⟩| ⟨x,t,rfl,rfl⟩
  · rcases jW hb with ⟨j,u,rfl,e⟩| ⟨y,u,rfl,e⟩
    · injection e with e1 _;rw [e1]
    · exact nomatch e
  · rcases jW hb with ⟨j,u,rfl,e⟩| ⟨y,u,rfl,e⟩
    · exact nomatch e
    · injection e with e1 _;rw [e1]
 byValue:=fun k v h=>by
  rcases jW h with ⟨i,t,rfl,rfl⟩| ⟨x,t,rfl,rfl⟩<;>rfl
 pyHash:=fun hv h=>by
  rcases jW hv with ⟨i,t,rfl,rfl⟩| ⟨x,t,rfl,rfl⟩
  · exact wpAny_pyHash_int h
  · exact wpAny_pyHash_str h
 eqBool:=fun hu hv h=>by
  rcases jW hu with ⟨i,t,rfl,rfl⟩| ⟨x,t,rfl,rfl⟩
  · rcases jW hv with ⟨j,u,rfl,rfl⟩| ⟨y,u,rfl,rfl⟩
    · rw [jdH] at h;exact wpAny_eqBool_int h
    · rw [jdG] at h;exact SeqAt.EqAt.int_str i t y u _ _ _ _ h
  · rcases jW hv with ⟨j,u,rfl,rfl⟩| ⟨y,u,rfl,rfl⟩
    · rw [jdF] at h;exact SeqAt.EqAt.str_int x t j u _ _ _ _ h
    · rw [jdE] at h;exact wpAny_eqBool_str h
 «strs» :=fun k x t v h=>by
  rcases jW h with ⟨i,u,rfl,e⟩| ⟨y,u,rfl,e⟩
  · exact nomatch e
  · injection e with e1 _;subst e1;cases v<;>rfl
def XY (prog:aaA) (w:World) (i:Int) (t:Tok):(jE prog w).is (.inl i) (.int i t)=true:=U2 i t
def XX (prog:aaA) (w:World) (x:Str) (t:Tok):(jE prog w).is (.inr x) (.str x t)=true:=U1 x t
inductive V where
 |non|bl (b:Bool)|int (i:Int)|str (x:Str)|byt (b:Array UInt8)|flt (b:UInt64)|ref (a:Addr)|ty (n:String)
 deriving DecidableEq
def RelV:V->Value->Prop
 | .non,u=>u=ab5
 | .bl b,u=>u=acU b
 | .int i,u=> ∃t,u=aeQ i t
 | .str x,u=> ∃t,u=Value.str x t
 | .byt b,u=> ∃t,u=Value.bytes b t
 | .flt b,u=> ∃t,u=Value.float b t
 | .ref a,u=>u=aaz a
 | .ty n,u=>u=adK n
abbrev Vals:List V->List Value->Prop:=aeI RelV
def Vals.length {xs:List V} {us:List Value} (r:Vals xs us):xs.length=us.length:=adp r
theorem Vals.get: ∀ {xs:List V} {us:List Value} {i:Nat} {x:V},Vals xs us->xs[i]?=some x-> ∃u,us[i]?=some u/\RelV x u
 |_,_,_,_,.nil,e=>by simp at e
 |_,_,0,_,.cons r _,e=>by simp at e;subst e;exact ⟨_,rfl,r⟩
 |_,_,i+1,x,.cons _ t,e=>by
  obtain ⟨u,h1,h2⟩:=Vals.get (i:=i) (x:=x) t (by simpa using e);exact ⟨u,by simpa using h1,h2⟩
theorem Vals.set {x:V} {u:Value} (r:RelV x u): ∀ {xs:List V} {us:List Value} (i:Nat),Vals xs us->Vals (xs.set i x) (us.set i u)
 |_,_,_,.nil=> .nil
 |_,_,0,.cons _ t=> .cons r t
 |_,_,i+1,.cons q t=> .cons q (Vals.set r i t)
theorem Vals.append: ∀ {xs ys:List V} {us ws:List Value},Vals xs us->Vals ys ws->Vals (xs++ys) (us++ws)
 |_,_,_,_,.nil,s=>s
 |_,_,_,_,.cons r t,s=> .cons r (Vals.append t s)
theorem Vals.take: ∀ {xs:List V} {us:List Value} (n:Nat),Vals xs us->Vals (xs.take n) (us.take n)
 |_,_,0,_=> .nil
 |_,_,_+1,.nil=> .nil
 |_,_,n+1,.cons r t=> .cons r (Vals.take n t)
theorem Vals.drop: ∀ {xs:List V} {us:List Value} (n:Nat),Vals xs us->Vals (xs.drop n) (us.drop n)
 |_,_,0,r=>r
 |_,_,_+1,.nil=> .nil
 |_,_,n+1,.cons _ t=>Vals.drop n t
def RelO:Option V->Option Value->Prop
 |some v,some u=>RelV v u
 |none,none=>True
 |_,_=>False
def KV {κ:Type}:List (κ×V)->List (κ×Value)->Prop:=aeI fun (p:κ×V) (q:κ×Value)=>p.1=q.1/\RelV p.2 q.2
def kV:Key->V
 | .inl i=> .int i
 | .inr x=> .str x
inductive HO where
 |lst (xs:List V)
 |tup (xs:List V)
 |dK (kvs:List (Key×V))|dT (kvs:List (List Key×V))
 |set (S:Int->Bool) (n:Nat)
 |ins (C dx:Addr) (fs:List (Str×V))
 |own (x:Addr)
 |xd (fs:List (Str×V))
 |met (f x:Addr)
 |rng (lo hi:Int)
 |frz (o:Obj) (u:HO)
 |tbl (ps:Array Value)
 |ext (φ:Heap->Prop)
 |memo (B:List M.NK) (Φ:M.NK->Option M.NK->Prop)
abbrev Hp:=Addr->Option HO
def upd (H:Hp) (a:Addr) (o:HO):Hp:=fun b=>if b=a then some o else H b
def jj {H:Hp} {a:Addr} {o:HO}:upd H a o a=some o:=by unfold upd;rw [if_pos rfl]
def jp {H:Hp} {a b:Addr} {o:HO} (h:b≠a):upd H a o b=H b:=by unfold upd;rw [if_neg h]
def jeH {H:Hp} {a b:Addr} {o u:HO} (h:H a=some o) (h':H b=some u) (d:o≠u):a≠b:=by
 intro e;subst e;rw [h] at h';exact d (aaD h')
def jC {H:Hp} {a b:Addr} {o:HO} (h:H a=some o) (h':H b=none):a≠b:=by
 intro e;subst e;rw [h] at h';cases h'
mutual
def NkH (H:Hp):M.NK->V->Prop
 | .int i,v=>v= .int i
 | .str x,v=>v= .str x
 | .tup l,v=> ∃b vs,v= .ref b/\H b=some (.tup vs)/\NkHs H l vs
def NkHs (H:Hp):List M.NK->List V->Prop
 | [],vs=>vs=[]
 |k::l,vs=> ∃u us,vs=u::us/\NkH H k u/\NkHs H l us
end
def NvH (H:Hp):Option M.NK->V->Prop
 |none,v=>v= .non
 |some k,v=>NkH H k v
theorem NkHs.mono {H H':Hp}: ∀ {l:List M.NK} {vs:List V},(∀k∈l,∀v,NkH H k v->NkH H' k v)->NkHs H l vs->NkHs H' l vs
 | [],vs,_,x=>by simp only [NkHs] at x ⊢;exact x
 |k::l,vs,f,x=>by
  simp only [NkHs] at x ⊢;obtain ⟨u,us,e,hx,y⟩:=x;exact ⟨u,us,e,f k aay u hx,NkHs.mono (fun q hq=>f q (aat _ hq)) y⟩
def NkH.mono {H H':Hp} (ht: ∀b xs,H b=some (.tup xs)->H' b=some (.tup xs)) (k:M.NK): ∀v,NkH H k v->NkH H' k v:=by
 induction k using M.NK.ind with
 |h1 i=>intro v x;simp only [NkH] at x ⊢;exact x
 |h2 z=>intro v x;simp only [NkH] at x ⊢;exact x
 |h3 l ih=>
  intro v x;simp only [NkH] at x ⊢;obtain ⟨b,vs,e,hb,y⟩:=x;exact ⟨b,vs,e,ht b vs hb,NkHs.mono ih y⟩
def NvH.mono {H H':Hp} (ht: ∀b xs,H b=some (.tup xs)->H' b=some (.tup xs)) {k:Option M.NK} {v:V} (x:NvH H k v):NvH H' k v:=by
 cases k with
 |none=>exact x
 |some k=>exact NkH.mono ht k v x
section
variable (P:aaA) (w:World)
def ObjOk (H:Hp) (h:Heap) (a:Addr):HO->Prop
 | .lst xs=>xs.length<=aaj/\ ∃(its:List Value) (n:Nat),Vals xs its/\h.get? a=some {cls:= .type "list",data:= .seq its.toArray n}
 | .tup xs=>xs.length<=aaj/\ ∃its:List Value,Vals xs its/\IsTup h a its.toArray
 | .dK kvs=>kvs.length<=aaj/\(a==abY)=false/\ ∃vs,KV kvs vs/\h.DictOf (jE P w) a vs
 | .dT kvs=>kvs.length<=aaj/\(a==abY)=false/\ ∃xs:List (List Key×Addr×Value),
  aeI (fun (p:List Key×V) (q:List Key×Addr×Value)=>p.1=q.1/\H q.2.1=some (.tup (p.1.map kV))/\RelV p.2 q.2.2) kvs xs/\
  ∃o es ep,h.get? a=some o/\o.ExactDict/\o.data= .dict es ep/\es.toList=xs.map (entryOfKey (acJ (jE P w)))/\(xs.map (·.1)).Nodup
 | .set S n=>h.SetOf (ab0 P w) a S n
 | .ins C dx fs=>H dx=some (.own a)/\fs.length<=1000/\dx≠a/\h.get? a=some (abN C dx)/\
  ∃mA,h.Ns1 dx mA/\(∀f,RelO (fs.lookup f) (mA f))/\PySem.Within mA (fs.map (·.1))
 | .own _=> ∃o,h.get? a=some o
 | .xd fs=> ∃mA,h.Ns1 a mA/\ ∀f,RelO (fs.lookup f) (mA f)
 | .rng lo hi=> ∃t u v,h.get? a=some {cls:= .type "range",data:= .fields #[.int lo t,.int hi u,.int 1 v]}
 | .frz o u=>h.get? a=some o/\ObjOk H h a u
 | .tbl ps=>h.get? a=some {cls:= .none,data:= .fields ps}
 | .met f x=>h.get? a=some (aeu (.ref f) (.ref x))
 | .ext φ=>φ h/\(∃o,h.get? a=some o)/\ ∀h1 h2:Heap,φ h1->(∀o,h1.get? a=some o->h2.get? a=some o)->φ h2
 | .memo B Φ=>B.length<aaj/\(a==abY)=false/\ ∃xs:List (M.NK×Addr×Value),(∀x∈xs,x.1∈B/\NkH H x.1 (.ref x.2.1)/\x.1.dep<=8/\ ∃v nv,RelV v x.2.2/\NvH H nv v/\Φ x.1 nv)/\
  ∃o es ep,h.get? a=some o/\o.ExactDict/\o.data= .dict es ep/\es.toList=xs.map (entryOfKey (M.nkKind P w))/\(xs.map (·.1)).Nodup
def HOk (H:Hp) (h:Heap):Prop:= ∀a o,H a=some o->ObjOk P w H h a o
end
section
variable {P:aaA} {w:World} {H H':Hp} {h h':Heap} {a:Addr} {o:HO}
def ObjOk.lt (x:ObjOk P w H h a o):a<h.objs.size:=by
 cases o with
 |lst xs=>obtain ⟨_,_,_,_,e⟩:=x;exact aao e
 |tup xs=>obtain ⟨_,_,_,p⟩:=x;exact p.lt
 |dK kvs=>obtain ⟨_,_,_,_,o,_,_,e,_⟩:=x;exact aao e
 |dT kvs=>obtain ⟨_,_,_,_,o,_,_,e,_⟩:=x;exact aao e
 |set S n=>obtain ⟨o,_,_,_,e,_⟩:=x;exact aao e
 |ins C dx fs=>obtain ⟨_,_,_,e,_⟩:=x;exact aao e
 |own y=>obtain ⟨_,e⟩:=x;exact aao e
 |xd fs=>obtain ⟨_,⟨_,_,_,e,_⟩,_⟩:=x;exact aao e
 |rng lo hi=>obtain ⟨_,_,_,e⟩:=x;exact aao e
 |frz ob u=>obtain ⟨e,_⟩:=x;exact aao e
 |tbl ps=>exact aao (show h.get? a=some _ from x)
 |met f y=>exact aao (show h.get? a=some _ from x)
 |ext φ=>obtain ⟨_,⟨_,e⟩,_⟩:=x;exact aao e
 |memo B Φ=>obtain ⟨_,_,_,_,o,_,_,e,_⟩:=x;exact aao e
theorem aeI.mapP {α β:Type} {F G:α->β->Prop}: ∀ {l₁:List α} {l₂:List β},aeI F l₁ l₂->(∀a b,F a b->G a b)->aeI G l₁ l₂
 |_,_,.nil,_=> .nil
 |_,_,.cons r t,f=> .cons (f _ _ r) (aeI.mapP t f)
def ObjOk.stay (x:ObjOk P w H h a o) (k: ∀b u,(b=a\/H b=some (.own a))->h.get? b=some u->h'.get? b=some u)
  (ho: ∀b,H b=some (.own a)->H' b=some (.own a)) (ht: ∀b xs,H b=some (.tup xs)->H' b=some (.tup xs)):ObjOk P w H' h' a o:=by
 induction o with
 |lst xs=>obtain ⟨z,its,n,r,e⟩:=x;exact ⟨z,its,n,r,k _ _ (.inl rfl) e⟩
 |tup xs=>obtain ⟨z,its,r,ob,e,c⟩:=x;exact ⟨z,its,r,ob,k _ _ (.inl rfl) e,c⟩
 |dK kvs=>obtain ⟨z,y,vs,r,ob,es,ep,e,c⟩:=x;exact ⟨z,y,vs,r,ob,es,ep,k _ _ (.inl rfl) e,c⟩
 |dT kvs=>
  obtain ⟨z,y,xs,r,ob,es,ep,e,c⟩:=x;exact ⟨z,y,xs,aeI.mapP r fun p q z=>⟨z.1,ht _ _ z.2.1,z.2.2⟩,ob,es,ep,k _ _ (.inl rfl) e,c⟩
 |set S n=>obtain ⟨ob,es,ep,t,e,c⟩:=x;exact ⟨ob,es,ep,t,k _ _ (.inl rfl) e,c⟩
 |ins C dx fs=>
  obtain ⟨d,z,ne,e,mA,⟨od,es,ep,e2,c⟩,r⟩:=x;exact ⟨ho _ d,z,ne,k _ _ (.inl rfl) e,mA,⟨od,es,ep,k _ _ (.inr d) e2,c⟩,r⟩
 |own y=>obtain ⟨ob,e⟩:=x;exact ⟨ob,k _ _ (.inl rfl) e⟩
 |xd fs=>obtain ⟨mA,⟨od,es,ep,e,c⟩,r⟩:=x;exact ⟨mA,⟨od,es,ep,k _ _ (.inl rfl) e,c⟩,r⟩
 |rng lo hi=>obtain ⟨t,u,v,e⟩:=x;exact ⟨t,u,v,k _ _ (.inl rfl) e⟩
 |frz ob u ih=>obtain ⟨e,q⟩:=x;exact ⟨k _ _ (.inl rfl) e,ih q⟩
 |tbl ps=>
  have e:h.get? a=some {cls:= .none,data:= .fields ps}:=x;show h'.get? a=some {cls:= .none,data:= .fields ps};exact k a _ (.inl rfl) e
 |met f y=>
  have e:h.get? a=some (aeu (.ref f) (.ref y)):=x;show h'.get? a=some (aeu (.ref f) (.ref y));exact k a _ (.inl rfl) e
 |ext φ=>obtain ⟨p,⟨o,e⟩,st⟩:=x;exact ⟨st _ _ p fun o q=>k _ _ (.inl rfl) q,⟨o,k _ _ (.inl rfl) e⟩,st⟩
 |memo B Φ=>
  obtain ⟨z,y,xs,r,ob,es,ep,e,c⟩:=x;exact ⟨z,y,xs,fun q hq=>let ⟨b1,b2,b3,v,nv,b4,b5,b6⟩:=r q hq;⟨b1,NkH.mono ht _ _ b2,b3,v,nv,b4,NvH.mono ht b5,b6⟩,ob,es,ep,k _ _ (.inl rfl) e,c⟩
def HOk.lt (x:HOk P w H h) (e:H a=some o):a<h.objs.size:=(x a o e).lt
def HOk.fresh (x:HOk P w H h) (e:h.objs.size<=a):H a=none:=by
 cases q:H a with
 |none=>rfl
 |some u=>exact absurd (aaw (x.lt q) e) (abI _)
def HOk.kept (x:HOk P w H h) (k: ∀b u,h.get? b=some u->h'.get? b=some u):HOk P w H h':=fun a o e=>
 (x a o e).stay (fun b u _ q=>k b u q) (fun _ q=>q) fun _ _ q=>q
def HOk.laid (x:HOk P w H h) (k: ∀b u,h.get? b=some u->h'.get? b=some u) (hp:h.objs.size<=a) (new:ObjOk P w (upd H a o) h' a o):HOk P w (upd H a o) h':=fun b u e=>by
 have hn:=x.fresh hp
 by_cases hb:b=a
 · subst hb;rw [jj] at e;cases e;exact new
 · rw [jp hb] at e;exact (x b u e).stay (fun c v _ q=>k c v q) (fun c q=>by rw [jp (jC q hn)];exact q) fun c xs q=>by rw [jp (jC q hn)];exact q
end
def Rd (H:Hp) (a:Addr) (u:HO):Prop:=H a=some u\/ ∃o,H a=some (.frz o u)
def Rd.of {H:Hp} {a:Addr} {u:HO} (h:H a=some u):Rd H a u:= .inl h
def Rd.ok {P:aaA} {w:World} {H:Hp} {h:Heap} {a:Addr} {u:HO} (r:Rd H a u) (x:HOk P w H h):ObjOk P w H h a u:=by
 rcases r with r| ⟨o,r⟩
 · exact x a u r
 · obtain ⟨_,q⟩:=x a _ r;exact q
def Mut:Option HO->Prop
 |some (.lst _)=>True
 |some (.dK _)=>True
 |some (.dT _)=>True
 |some (.set _ _)=>True
 |some (.ins _ _ _)=>True
 |some (.ext _)=>True
 |some (.memo _ _)=>True
 |_=>False
section
variable {P:aaA} {w:World} {H:Hp} {h h':Heap} {x e:Addr} {o':HO}
def HOk.write (ok:HOk P w H h) (mu:Mut (H x)) (he:e=x\/H e=some (.own x)) (k: ∀b u,b≠e->h.get? b=some u->h'.get? b=some u) (heo: ∃u,h'.get? e=some u)
   (new:ObjOk P w (upd H x o') h' x o'):HOk P w (upd H x o') h':=fun b u q=>by
 have nown: ∀c y,H c=some (.own y)->c≠x:=fun c y r z=>by subst z;rw [r] at mu;exact mu
 have ntup: ∀c xs,H c=some (.tup xs)->c≠x:=fun c xs r z=>by subst z;rw [r] at mu;exact mu
 by_cases hb:b=x
 · subst hb;rw [jj] at q;cases q;exact new
 · rw [jp hb] at q
   by_cases hbe:b=e
   · have q':H b=some (.own x):=by
       rcases he with z|z
       · exact absurd (hbe.trans z) hb
       · rw [hbe];exact z
     rw [q] at q';cases q';obtain ⟨v,hv⟩:=heo;exact ⟨v,by rw [hbe];exact hv⟩
   · refine (ok b u q).stay (fun c v hc r=>k c v ?_ r) (fun c r=>by rw [jp (nown c b r)];exact r) fun c xs r=>by rw [jp (ntup c xs r)];exact r
     rcases hc with rfl|hc
     · exact hbe
     · rintro rfl;rcases he with z|z
       · exact nown c b hc z
       · rw [hc] at z;cases z;exact hb rfl
end
structure Un (fs ex:List Addr) (H H':Hp) (h h':Heap):Prop where
 keep: ∀b o,h.get? b=some o->H b=none->b∉fs->b∉ex->h'.get? b=some o
 slot: ∀b o,h.get? b=some o->H b=none->b∈fs->b∉ex-> ∃sl,h'.get? b=some {o with slots:=sl}
 free: ∀b o,h.get? b=some o->H b=none->b∉ex->H' b=none
 there: ∀b o,h.get? b=some o->b∉ex-> ∃o',h'.get? b=some o'
 tups: ∀b xs,H b=some (.tup xs)->H' b=some (.tup xs)
 frzs: ∀b o u,H b=some (.frz o u)->H' b=some (.frz o u)
 tbls: ∀b ps,H b=some (.tbl ps)-> ∃more,H' b=some (.tbl (ps++more))
section
variable {fs fs' ex ex':List Addr} {H H1 H2:Hp} {h h1 h2 h':Heap} {a x e:Addr} {o:HO}
def Un.any (u:Un fs ex H H1 h h1) {b:Addr} {ob:Obj} (q:h.get? b=some ob) (n:H b=none) (hx:b∉ex): ∃sl,h1.get? b=some {ob with slots:=sl}:=by
 by_cases hb:b∈fs
 · exact u.slot b ob q n hb hx
 · exact ⟨ob.slots,u.keep b ob q n hb hx⟩
def Un.kept (k: ∀b u,h.get? b=some u->h'.get? b=some u):Un fs ex H H h h':=
 ⟨fun b ob q _ _ _=>k b ob q,fun b ob q _ _ _=>⟨ob.slots,k b ob q⟩,fun _ _ _ n _=>n,fun b ob q _=>⟨ob,k b ob q⟩,fun _ _ q=>q,fun _ _ _ q=>q,fun _ ps q=>⟨#[],by rw [q];simp⟩⟩
def Un.refl:Un fs ex H H h h:=Un.kept fun _ _ q=>q
def Un.laid (k: ∀b u,h.get? b=some u->h'.get? b=some u) (hp:h.objs.size<=a) (hn:H a=none):Un fs ex H (upd H a o) h h' where
 keep:=fun b u q _ _ _=>k b u q
 slot:=fun b u q _ _ _=>⟨u.slots,k b u q⟩
 free:=fun b u q n _=>by rw [jp (aax (aaw (aao q) hp))];exact n
 there:=fun b u q _=>⟨u,k b u q⟩
 tups:=fun b xs q=>by rw [jp (jC q hn)];exact q
 frzs:=fun b u xs q=>by rw [jp (jC q hn)];exact q
 tbls:=fun b ps q=>⟨#[],by rw [jp (jC q hn),q];simp⟩
def Un.write (mu:Mut (H x)) (he:e=x\/H e=some (.own x)) (k: ∀b u,b≠e->h.get? b=some u->h'.get? b=some u) (heo: ∃u,h'.get? e=some u):Un fs ex H (upd H x o) h h':=by
 have hx: ∀b,H b=none->b≠x:=fun b n z=>by subst z;rw [n] at mu;exact mu
 have hb: ∀b,H b=none->b≠e:=fun b n z=>by
   subst z;rcases he with r|r
   · exact hx b n r
   · rw [n] at r;cases r
 have hm: ∀b u,H b=some u-> ¬Mut (some u)->b≠x:=fun b u q nm z=>by subst z;rw [q] at mu;exact nm mu
 refine ⟨fun b u q n _ _=>k b u (hb b n) q,fun b u q n _ _=>⟨u.slots,k b u (hb b n) q⟩,fun b u q n _=>by rw [jp (hx b n)];exact n,fun b u q _=>?_,
   fun b xs q=>by rw [jp (hm b _ q fun z=>z)];exact q,fun b u xs q=>by rw [jp (hm b _ q fun z=>z)];exact q,fun b ps q=>⟨#[],by rw [jp (hm b _ q fun z=>z),q];simp⟩⟩
 by_cases hbe:b=e
 · subst hbe;exact heo
 · exact ⟨u,k b u hbe q⟩
end
def trk (h:Heap) (H:Hp):List Addr:=(aa6 h.objs.size).filter fun a=>(H a).isSome
def hidT (h:Heap) (H:Hp):Heap:=PySem.W.hideAll h (trk h H)
def kn (h:Heap) (H:Hp):(hidT h H).objs.size=h.objs.size:=PySem.W.hideAll_size _ _
def uS {h:Heap} {H:Hp} {b:Addr} {o:Obj} (e:h.get? b=some o) (n:H b=none):(hidT h H).get? b=some o:=
 PySem.W.hideAll_get _ e fun hm=>by
  have q:(H b).isSome=true:=(List.mem_filter.mp hm).2;rw [n] at q;simp at q
def jbB {h:Heap} {H:Hp} {b:Addr} {o:Obj} (e:(hidT h H).get? b=some o):h.get? b=some o/\H b=none:=by
 have e':h.get? b=some o:=PySem.W.of_hideAll (trk h H) e;refine ⟨e',?_⟩
 cases q:H b with
 |none=>rfl
 |some x=>
  have hm:b∈trk h H:=List.mem_filter.mpr ⟨aaV.mpr (aao e'),by simp [q]⟩;have z:(hidT h H).get? b=none:=PySem.W.hideAll_none (trk h H) hm;rw [z] at e;cases e
def jcF (g h:Heap) (L:Addr):List (Addr×Obj):=(aa6 h.objs.size).filterMap fun a=>if a=L\/(g.get? a).isSome=true then none else (h.get? a).map fun o=>(a,o)
def rest (g h:Heap) (L d:Addr):List (Addr×Obj):=(jcF g h L).filter fun p=>decide (p.1≠d)
structure Mod (K:aaa) (mg:Xy) (base:Heap):Prop where
 kin:K.In base
 glob:base.Ns aak mg
 blt: ∃mb,base.Ns builtinsNs mb/\ ∀x:Str,x≠ "__name__" ->mb x=aa9 x
 nolimit:base.NoLimit
structure Cx where
 prog:aaA
 w:World
 K:aaa
 mg:Str->Option Value
 base:Heap
 A:aaU
 N:List Str
 s₀:aaf
 H₀:Hp
 env:Env
 outer:List Env
 stack:List Env
 ex:List Addr
 fn:Str->Bool
 calm:Bool
 pn:List (Addr×Obj)
 xe:Value->aaf->Prop
abbrev Wm (X:Cx) (e:Expr) (es:List Expr):Prop:=aai (e::es) X.env=(false,eval e X.env)::aai es X.env
abbrev Wl (X:Cx) (p:Pos) (es:List Expr):Prop:=(abn p (aai es X.env)).any (·.1)=false
abbrev VR (X:Cx) (x:Str):Prop:=X.fn x=true\/X.env.scope.names.lookup x=some .local
def frs (l:List Env):List Addr:=l.filterMap (·.frame)
abbrev Cx.fs (X:Cx):List Addr:=frs X.outer
def Vis (sc:Scope) (x:Str):Prop:=sc.names.lookup x=some .local\/sc.names.lookup x=some .cell\/sc.names.lookup x=some .free
def Loc (sc:Scope) (x:Str):Prop:=sc.names.lookup x=some .local\/sc.names.lookup x=some .cell
def Look (env:Env) (h:Heap) (m:Xy) (x:Str) (u:Value):Prop:=
 (env.kindOf x=some .local/\m x=some u)\/((env.kindOf x=some .cell\/env.kindOf x=some .free)/\ ∃c,env.cells.lookup x=some c/\h.IsCell c (some u))
structure Cx.Ok (X:Cx):Prop where
 mod:Mod X.K X.mg X.base
 kind:X.env.scope.kind= .function
 glob:X.env.globals=aak
 blt:X.env.builtins=builtinsNs
 above:X.s₀.heap.objs.size<=X.env.locals
 inj: ∀x y c,X.env.cells.lookup x=some c->X.env.cells.lookup y=some c->x=y
 has: ∀x,(X.env.kindOf x=some .cell\/X.env.kindOf x=some .free)-> ∃c,X.env.cells.lookup x=some c
 cab: ∀x c,X.fn x=true->X.env.cells.lookup x=some c->X.s₀.heap.objs.size<=c
 hd:X.calm=true->X.A.handled=none
 frames:X.A.frames=some X.stack
 stk:X.stack=X.outer\/(X.stack=X.env::X.outer/\X.env.frame=some X.env.locals)
 exf: ∀b∈X.ex,b≠X.env.locals/\ ∀x c,X.env.cells.lookup x=some c->c≠b
 bs: ∀b o,X.base.get? b=some o->X.s₀.heap.get? b=some o/\X.H₀ b=none
 bsz:X.base.objs.size<=X.s₀.heap.objs.size
 noex: ∀b o,X.base.get? b=some o->b∉X.ex
 exfs: ∀b∈X.ex,b∉X.fs
 funs:X.s₀.heap.FunFrames X.base X.outer
 frf: ∀b∈X.fs,X.H₀ b=none
structure Inv (X:Cx) (pins:List (Addr×Obj)) (σ:List (Option V)) (H:Hp) (s:aaf):Prop where
 ok:X.Ok
 os:s.os=X.s₀.os
 bare:aeD s.gens
 base:Un X.fs X.ex X.H₀ H X.s₀.heap s.heap
 loc: ∃m,s.heap.Ns X.env.locals m/\ ∀(i:Nat) (x:Str) (v:V),X.N[i]?=some x->σ[i]?=some (some v)->Vis X.env.scope x-> ∃u,RelV v u/\Look X.env s.heap m x u
 cell: ∀x c,X.env.cells.lookup x=some c-> ∃v,s.heap.IsCell c v
 free:H X.env.locals=none
 freeC: ∀x c,X.env.cells.lookup x=some c->H c=none
 pin: ∀p∈X.pn++pins,s.heap.get? p.1=some p.2/\H p.1=none/\p.1≠X.env.locals/\p.1∉X.fs/\ ∀v,p.2.data≠ .cell v
 hok:HOk X.prog X.w H s.heap
 len:σ.length=X.N.length
section
variable {X:Cx} {pins:List (Addr×Obj)} {σ:List (Option V)} {H H':Hp} {s:aaf} {h':Heap}
def Cx.Ok.nofr (ok:X.Ok) {b:Addr} {o:Obj} (e:X.base.get? b=some o):b∉X.fs:=fun hb=>by
 have:=(ok.funs.mem hb).1;rw [e] at this;cases this
def Inv.bs (I:Inv X pins σ H s): ∀b o,X.base.get? b=some o->s.heap.get? b=some o/\H b=none:=fun b o e=>
 ⟨I.base.keep b o (I.ok.bs b o e).1 (I.ok.bs b o e).2 (I.ok.nofr e) (I.ok.noex b o e),I.base.free b o (I.ok.bs b o e).1 (I.ok.bs b o e).2 (I.ok.noex b o e)⟩
def Inv.bk (I:Inv X pins σ H s): ∀b o,X.base.get? b=some o->s.heap.get? b=some o:=fun b o e=>(I.bs b o e).1
def Inv.mod (I:Inv X pins σ H s):Mod X.K X.mg X.base:=I.ok.mod
def Inv.kIn (I:Inv X pins σ H s):X.K.In s.heap:=I.ok.mod.kin.keeps I.bk
def Inv.lt (I:Inv X pins σ H s):X.env.locals<s.heap.objs.size:=let ⟨_,hn,_⟩:=I.loc;hn.lt
def Inv.sz (I:Inv X pins σ H s):X.s₀.heap.objs.size<=s.heap.objs.size:=aaN I.ok.above (aeR I.lt)
def Inv.nofs (I:Inv X pins σ H s) {a:Addr} (h:s.heap.objs.size<=a):a∉X.fs:=fun hb=>by
 obtain ⟨_,o,ho,_⟩:=I.ok.funs.mem hb;exact absurd (aaw (aao ho) (aaN I.sz h)) (abI _)
def Inv.cne (I:Inv X pins σ H s): ∀x c,X.env.cells.lookup x=some c->c≠X.env.locals:=fun x c e z=>by
 obtain ⟨v,o,ho,hd⟩:=I.cell x c e;obtain ⟨m,⟨o',es,ep,ho',hd',_⟩,_⟩:=I.loc;rw [z,ho'] at ho;cases ho;rw [hd'] at hd;cases hd
def Inv.funs (I:Inv X pins σ H s):s.heap.FunFrames X.base X.outer:=by
 have all: ∀(l:List Env),(∀b∈frs l,b∈X.fs)->X.s₀.heap.FunFrames X.base l->s.heap.FunFrames X.base l:=by
  intro l
  induction l with
  |nil=>intro _ _;trivial
  |cons env r ih=>
   intro hs hl;obtain ⟨hk,⟨L,o,hf,hn,ho,hd⟩,hr⟩:=hl;have hL:L∈X.fs:=hs L (by unfold frs;rw [acs,hf];exact aay);obtain ⟨sl,e⟩:=I.base.slot L o ho (I.ok.frf L hL) hL fun z=>I.ok.exfs L z hL
   exact ⟨hk,⟨L,_,hf,hn,e,hd⟩,ih (fun b hb=>hs b (by unfold frs;rw [acs,hf];exact aat _ hb)) hr⟩
 exact all X.outer (fun _ hb=>hb) I.ok.funs
def Inv.stack (I:Inv X pins σ H s):s.heap.FunFrames X.base X.stack:=by
 rcases I.ok.stk with e| ⟨e,hf⟩
 · rw [e];exact I.funs
 · rw [e];obtain ⟨m,hn,_⟩:=I.loc;refine .cons (by rw [I.ok.kind];decide) hf hn ?_ I.funs;exact Heap.get?_none_of_le (aaN I.ok.bsz I.ok.above)
def Inv.stkSub (I:Inv X pins σ H s): ∀b∈frs X.stack,b∈X.env.locals::X.fs:=fun b hb=>by
 rcases I.ok.stk with e| ⟨e,hf⟩
 · rw [e] at hb;exact aat _ hb
 · rw [e] at hb;unfold frs at hb;rw [acs,hf] at hb;exact hb
def Inv.stkFree (I:Inv X pins σ H s): ∀b∈frs X.stack,H b=none:=fun b hb=>by
 rcases aaJ.mp (I.stkSub b hb) with e|hb
 · rw [e];exact I.free
 · obtain ⟨_,o,ho,_⟩:=I.ok.funs.mem hb;exact I.base.free b o ho (I.ok.frf b hb) fun z=>I.ok.exfs b z hb
def Inv.step {g':Array GenState} {t':Nat} {d':Drawn} {ch:List Addr} (I:Inv X pins σ H s)
   (hch: ∀b∈ch,(b∈X.ex\/X.s₀.heap.objs.size<=b)/\b≠X.env.locals/\(∀x c,X.env.cells.lookup x=some c->c≠b)/\ ∀p∈X.pn++pins,p.1≠b)
   (keep: ∀b o,b≠X.env.locals->b∉X.fs->b∉ch->s.heap.get? b=some o->H b=none->h'.get? b=some o)
   (slot: ∀b o,b≠X.env.locals->b∈X.fs->b∉ch->s.heap.get? b=some o->H b=none-> ∃sl,h'.get? b=some {o with slots:=sl}) (free: ∀b o,b∉ch->s.heap.get? b=some o->H b=none->H' b=none)
   (there: ∀b o,b∉ch->s.heap.get? b=some o-> ∃o',h'.get? b=some o')
   (tups: ∀b xs,H b=some (.tup xs)->H' b=some (.tup xs)) (frzs: ∀b o u,H b=some (.frz o u)->H' b=some (.frz o u)) (tbls: ∀b ps,H b=some (.tbl ps)-> ∃more,H' b=some (.tbl (ps++more)))
   (ns: ∀m,s.heap.Ns X.env.locals m->h'.Ns X.env.locals m) (hok:HOk X.prog X.w H' h') (hg:aeD g'):
   Inv X pins σ H' {s with heap:=h',gens:=g',drawn:=d',toks:=t'}:=by
 have neL: ∀b o,X.s₀.heap.get? b=some o->b≠X.env.locals:=fun b o e=>aax (aaw (aao e) I.ok.above)
 have neC: ∀b o,X.s₀.heap.get? b=some o->b∉X.ex->b∉ch:=fun b o e hx hb=>by
   rcases (hch b hb).1 with z|z
   · exact hx z
   · exact absurd (aaw (aao e) z) (abI _)
 have cellK: ∀x c,X.env.cells.lookup x=some c-> ∀v,s.heap.IsCell c v->h'.IsCell c v:=fun x c e v ⟨o,ho,hd⟩=>by
   have nch:c∉ch:=fun z=>(hch c z).2.2.1 x c e rfl
   by_cases hc:c∈X.fs
   · obtain ⟨sl,q⟩:=slot c o (I.cne x c e) hc nch ho (I.freeC x c e);exact ⟨_,q,hd⟩
   · exact ⟨o,keep c o (I.cne x c e) hc nch ho (I.freeC x c e),hd⟩
 refine ⟨I.ok,I.os,hg,⟨fun b o e n hb hx=>?_,fun b o e n hb hx=>?_,fun b o e n hx=>?_,fun b o e hx=>?_,fun b xs e=>tups b xs (I.base.tups b xs e),fun b o xs e=>frzs b o xs (I.base.frzs b o xs e),fun b ps e=>?_⟩,?_,fun x c e=>?_,?_,fun x c e=>?_,fun p hp=>?_,hok,I.len⟩
 · exact keep b o (neL b o e) hb (neC b o e hx) (I.base.keep b o e n hb hx) (I.base.free b o e n hx)
 · obtain ⟨sl,e1⟩:=I.base.slot b o e n hb hx;obtain ⟨sl',e2⟩:=slot b _ (neL b o e) hb (neC b o e hx) e1 (I.base.free b o e n hx);exact ⟨sl',e2⟩
 · obtain ⟨o',e1⟩:=I.base.there b o e hx;exact free b o' (neC b o e hx) e1 (I.base.free b o e n hx)
 · obtain ⟨o',e1⟩:=I.base.there b o e hx;exact there b o' (neC b o e hx) e1
 · obtain ⟨m1,e1⟩:=I.base.tbls b ps e;obtain ⟨m2,e2⟩:=tbls b _ e1;exact ⟨m1++m2,by rw [e2,Array.append_assoc]⟩
 · obtain ⟨m,hn,hl⟩:=I.loc;refine ⟨m,ns m hn,fun i x v e1 e2 e3=>?_⟩;obtain ⟨u,r,l⟩:=hl i x v e1 e2 e3;refine ⟨u,r,?_⟩;rcases l with l| ⟨k,c,e,z⟩
   · exact .inl l
   · exact .inr ⟨k,c,e,cellK x c e _ z⟩
 · obtain ⟨v,z⟩:=I.cell x c e;exact ⟨v,cellK x c e v z⟩
 · obtain ⟨m,⟨o,_,_,ho,_⟩,_⟩:=I.loc;exact free _ o (fun z=>(hch _ z).2.1 rfl) ho I.free
 · obtain ⟨v,o,ho,hd⟩:=I.cell x c e;exact free c o (fun z=>(hch c z).2.2.1 x c e rfl) ho (I.freeC x c e)
 · obtain ⟨e,n,ne,nf,d⟩:=I.pin p hp;have nch:p.1∉ch:=fun z=>(hch p.1 z).2.2.2 p hp rfl
   exact ⟨keep p.1 p.2 ne nf nch e n,free p.1 p.2 nch e n,ne,nf,d⟩
def Inv.un {t':Nat} (I:Inv X pins σ H s) (u:Un X.fs [] H H' s.heap h') (hok:HOk X.prog X.w H' h'):Inv X pins σ H' {s with heap:=h',toks:=t'}:=by
 obtain ⟨m,⟨o,es,ep,ho,r⟩,_⟩:=id I.loc;obtain ⟨sl,hL⟩:=u.any ho I.free (by simp)
 exact I.step (g':=s.gens) (d':=s.drawn) (ch:=[]) (fun _ z=>nomatch z) (fun b o _ hb _ e n=>u.keep b o e n hb (by simp)) (fun b o _ hb _ e n=>u.slot b o e n hb (by simp)) (fun b o _ e n=>u.free b o e n (by simp)) (fun b o _ e=>u.there b o e (by simp)) u.tups u.frzs u.tbls (fun m' hm=>by
  obtain ⟨o',es',ep',ho',r'⟩:=hm;rw [ho] at ho';cases ho'
  exact ⟨_,es',ep',hL,r'⟩) hok I.bare
def Inv.call {g':Array GenState} {t':Nat} {d':Drawn} {ch:List Addr} (I:Inv X pins σ H s) (u:Un (frs X.stack) ch H H' s.heap h') (hok:HOk X.prog X.w H' h') (hg:aeD g')
  (hch: ∀b∈ch,(b∈X.ex\/X.s₀.heap.objs.size<=b)/\b≠X.env.locals/\(∀x c,X.env.cells.lookup x=some c->c≠b)/\ ∀p∈X.pn++pins,p.1≠b):
  Inv X pins σ H' {s with heap:=h',gens:=g',drawn:=d',toks:=t'}:=by
 obtain ⟨m,⟨o,es,ep,ho,r⟩,_⟩:=id I.loc;obtain ⟨sl,hL⟩:=u.any ho I.free fun z=>(hch _ z).2.1 rfl
 exact I.step (ch:=ch) hch (fun b o hL hb hc e n=>u.keep b o e n (fun z=>(aaJ.mp (I.stkSub b z)).elim hL hb) hc) (fun b o _ _ hc e n=>u.any e n hc) (fun b o hc e n=>u.free b o e n hc) (fun b o hc e=>u.there b o e hc) u.tups u.frzs u.tbls (fun m' hm=>by
  obtain ⟨o',es',ep',ho',r'⟩:=hm;rw [ho] at ho';cases ho'
  exact ⟨_,es',ep',hL,r'⟩) hok hg
def Inv.turned {t':Nat} {it:Addr} (I:Inv X pins σ H s) (k: ∀b o,b≠it->s.heap.get? b=some o->h'.get? b=some o) (hn:H it=none) (hL:it≠X.env.locals)
   (h1:it∈X.ex\/X.s₀.heap.objs.size<=it) (h2: ∀x c,X.env.cells.lookup x=some c->c≠it) (h3: ∀p∈X.pn++pins,p.1≠it):Inv X pins σ H {s with heap:=h',toks:=t'}:=by
 have nit: ∀b u,H b=some u->b≠it:=fun b u e z=>by rw [z,hn] at e;cases e
 refine I.step (g':=s.gens) (d':=s.drawn) (ch:=[it]) (fun b hb=>?_) (fun b o _ _ hc e _=>k b o (fun z=>hc (by simp [z])) e) (fun b o _ _ hc e _=>⟨o.slots,k b o (fun z=>hc (by simp [z])) e⟩) (fun _ _ _ _ n=>n)
   (fun b o hc e=>⟨o,k b o (fun z=>hc (by simp [z])) e⟩) (fun _ _ e=>e) (fun _ _ _ e=>e) (fun b ps e=>⟨#[],by rw [e];simp⟩) (fun m hm=>?_) (fun b u e=>?_) I.bare
 · have e:b=it:=by simpa using hb
   subst e;exact ⟨h1,hL,h2,h3⟩
 · obtain ⟨o,es,ep,ho,r⟩:=hm;exact ⟨o,es,ep,k _ o (acD hL) ho,r⟩
 · refine (I.hok b u e).stay (fun c v hc q=>k c v ?_ q) (fun _ q=>q) fun _ _ q=>q
   rcases hc with z|z
   · rw [z];exact nit b u e
   · exact nit c _ z
def Inv.tok (I:Inv X pins σ H s) (t:Nat):Inv X pins σ H {s with toks:=t}:=I.un (h':=s.heap) (t':=t) Un.refl I.hok
def Inv.kept {t':Nat} (I:Inv X pins σ H s) (k: ∀b u,s.heap.get? b=some u->h'.get? b=some u):Inv X pins σ H {s with heap:=h',toks:=t'}:=I.un (Un.kept k) (I.hok.kept k)
def Inv.laid {a:Addr} {o:HO} {t':Nat} (I:Inv X pins σ H s) (k: ∀b u,s.heap.get? b=some u->h'.get? b=some u) (hp:s.heap.objs.size<=a) (new:ObjOk X.prog X.w (upd H a o) h' a o):
 Inv X pins σ (upd H a o) {s with heap:=h',toks:=t'}:=I.un (Un.laid k hp (I.hok.fresh hp)) (I.hok.laid k hp new)
def Inv.write {x e:Addr} {o:HO} {t':Nat} (I:Inv X pins σ H s) (mu:Mut (H x)) (he:e=x\/H e=some (.own x)) (k: ∀b u,b≠e->s.heap.get? b=some u->h'.get? b=some u) (heo: ∃u,h'.get? e=some u)
 (new:ObjOk X.prog X.w (upd H x o) h' x o):Inv X pins σ (upd H x o) {s with heap:=h',toks:=t'}:=I.un (Un.write mu he k heo) (I.hok.write mu he k heo new)
def Inv.pins_of {pins':List (Addr×Obj)} (I:Inv X pins σ H s) (h: ∀p∈pins',s.heap.get? p.1=some p.2/\H p.1=none/\p.1≠X.env.locals/\p.1∉X.fs/\ ∀v,p.2.data≠ .cell v):Inv X pins' σ H s:=
 ⟨I.ok,I.os,I.bare,I.base,I.loc,I.cell,I.free,I.freeC,fun p hp=>(abr.mp hp).elim (fun z=>I.pin p (ac3 _ z)) (h p),I.hok,I.len⟩
def Zx {N:List Str} (hN:N.Nodup) {i j:Nat} {x:Str} (a:N[i]?=some x) (b:N[j]?=some x):i=j:=by
 obtain ⟨h1,e1⟩:=aam.mp a;obtain ⟨h2,e2⟩:=aam.mp b;exact (List.getElem_inj hN).mp (e1.trans e2.symm)
def Vy {M:Model} {A:aaU} {E:Xw} {i:Nat} {x:Str} {v:V} {u:Value} {Q:Unit->aaf->Prop} (I:Inv X pins σ H s) (hN:X.N.Nodup) (hi:X.N[i]?=some x) (hx:Loc X.env.scope x) (r:RelV v u)
   (h: ∀s',Inv X pins (σ.set i (some v)) H s'->(∃a,ab9 a s.heap s'.heap/\(a=X.env.locals\/X.env.cells.lookup x=some a))->Q () s') (hf:VR X x:=by first|exact .inl rfl|exact .inr rfl|assumption):wpAny M A (storeName X.env x u) Q E s:=by
 obtain ⟨m,hn,hl⟩:=id I.loc;have hcls:(X.env.scope.kind== .class|| (X.env.scope.kind== .module&&X.env.locals !=X.env.globals))=false:=by rw [I.ok.kind];rfl
 have hiσ:i<σ.length:=by rw [I.len];exact (aam.mp hi).1
 have cne:=I.cne
 have tracked: ∀ {a:Addr} {h':Heap},(∃o,s.heap.get? a=some o/\H a=none)->ab9 a s.heap h'->HOk X.prog X.w H h':=fun {a h'} ha hs b ob e=>by
   obtain ⟨_,_,hfree⟩:=ha;refine (I.hok b ob e).stay (fun c w' hc q=>(hs.2 c ?_).trans q) (fun _ q=>q) fun _ _ q=>q
   rintro rfl;rcases hc with rfl|hc
   · rw [hfree] at e;cases e
   · rw [hfree] at hc;cases hc
 rcases hx with hk|hk
 · refine wpAny_storeName_local hk hn (fun h' hn' hs=>?_) hcls;obtain ⟨oL,_,_,hoL,_⟩:=id hn;refine h _ ⟨I.ok,I.os,I.bare,⟨fun b o e n hb hx=>?_,fun b o e n hb hx=>?_,I.base.free,fun b o e hx=>?_,I.base.tups,I.base.frzs,I.base.tbls⟩,⟨_,hn',fun j y v' e1 e2 e3=>?_⟩,fun y c e=>?_,I.free,I.freeC,fun p hp=>?_,tracked ⟨oL,hoL,I.free⟩ hs,by simpa using I.len⟩ ⟨_,hs,.inl rfl⟩
   · exact (hs.2 b (aax (aaw (aao e) I.ok.above))).trans (I.base.keep b o e n hb hx)
   · obtain ⟨sl,e1⟩:=I.base.slot b o e n hb hx;exact ⟨sl,(hs.2 b (aax (aaw (aao e) I.ok.above))).trans e1⟩
   · obtain ⟨o',e1⟩:=I.base.there b o e hx;exact ⟨o',(hs.2 b (aax (aaw (aao e) I.ok.above))).trans e1⟩
   · by_cases hj:j=i
     · subst hj;rw [hi] at e1;cases e1;rw [aaR hiσ] at e2;cases e2;exact ⟨u,r,.inl ⟨hk,by simp⟩⟩
     · rw [aa5 (acD hj)] at e2;obtain ⟨u',r',q⟩:=hl j y v' e1 e2 e3;refine ⟨u',r',?_⟩;rcases q with ⟨k,e⟩| ⟨k,c,e,z⟩
       · refine .inl ⟨k,?_⟩;have:y≠x:=fun e=>hj (Zx hN e1 (e▸hi))
         simp [this,e]
       · exact .inr ⟨k,c,e,z.sameBut hs (cne y c e)⟩
   · obtain ⟨w',z⟩:=I.cell y c e;exact ⟨w',z.sameBut hs (cne y c e)⟩
   · obtain ⟨e,n,ne,nf,d⟩:=I.pin p hp;exact ⟨(hs.2 p.1 ne).trans e,n,ne,nf,d⟩
 · have hfn:X.fn x=true:=by
     rcases hf with z|z
     · exact z
     · rw [z] at hk;cases hk
   obtain ⟨c,hc⟩:=I.ok.has x (.inl hk);obtain ⟨w',z⟩:=I.cell x c hc;refine wpAny_storeName_cell I.ok.kind hk hc z (fun h' hc' hs=>?_);obtain ⟨oc,hoc,hocd⟩:=id z;refine h {s with heap:=h'} ⟨I.ok,I.os,I.bare,⟨fun b o e n hb hx=>?_,fun b o e n hb hx=>?_,I.base.free,fun b o e hx=>?_,I.base.tups,I.base.frzs,I.base.tbls⟩,⟨m,hn.sameBut hs (acD (cne x c hc)),fun j y v' e1 e2 e3=>?_⟩,fun y c' e=>?_,I.free,I.freeC,fun p hp=>?_,tracked ⟨oc,hoc,I.freeC x c hc⟩ hs,by simpa using I.len⟩ ⟨c,hs,.inr hc⟩
   · exact (hs.2 b (aax (aaw (aao e) (I.ok.cab x c hfn hc)))).trans (I.base.keep b o e n hb hx)
   · obtain ⟨sl,e1⟩:=I.base.slot b o e n hb hx;exact ⟨sl,(hs.2 b (aax (aaw (aao e) (I.ok.cab x c hfn hc)))).trans e1⟩
   · obtain ⟨o',e1⟩:=I.base.there b o e hx;exact ⟨o',(hs.2 b (aax (aaw (aao e) (I.ok.cab x c hfn hc)))).trans e1⟩
   · by_cases hj:j=i
     · subst hj;rw [hi] at e1;cases e1;rw [aaR hiσ] at e2;cases e2;exact ⟨u,r,.inr ⟨.inl hk,c,hc,hc'⟩⟩
     · rw [aa5 (acD hj)] at e2;obtain ⟨u',r',q⟩:=hl j y v' e1 e2 e3;refine ⟨u',r',?_⟩;rcases q with q| ⟨k,c',e,z'⟩
       · exact .inl q
       · refine .inr ⟨k,c',e,z'.sameBut hs ?_⟩;rintro rfl;exact hj (Zx hN e1 (I.ok.inj _ _ _ e hc▸hi))
   · by_cases hcc:c'=c
     · subst hcc;exact ⟨_,hc'⟩
     · obtain ⟨w2,z2⟩:=I.cell y c' e;exact ⟨w2,z2.sameBut hs hcc⟩
   · obtain ⟨e,n,ne,nf,d⟩:=I.pin p hp;refine ⟨(hs.2 p.1 ?_).trans e,n,ne,nf,d⟩;intro q;rw [q,hoc] at e;have q':oc=p.2:=aaD e;exact d w' (by rw [←q'];exact hocd)
def y6 {M:Model} {A:aaU} {E:Xw} {i:Nat} {x:Str} {v:V} {u:Value} {Q:Unit->aaf->Prop} (I:Inv X pins σ H s) (hN:X.N.Nodup) (hi:X.N[i]?=some x) (hx:Loc X.env.scope x) (r:RelV v u)
  (h: ∀s',Inv X pins (σ.set i (some v)) H s'->Q () s') (hf:VR X x:=by first|exact .inl rfl|exact .inr rfl|assumption):wpAny M A (storeName X.env x u) Q E s:=
 Vy I hN hi hx r (fun s' I' _=>h s' I') hf
def Inv.call' {s':aaf} {ch:List Addr} (I:Inv X pins σ H s) (ho:s'.os=s.os) (u:Un (frs X.stack) ch H H' s.heap s'.heap) (hok:HOk X.prog X.w H' s'.heap) (hg:aeD s'.gens)
  (hch: ∀b∈ch,(b∈X.ex\/X.s₀.heap.objs.size<=b)/\b≠X.env.locals/\(∀x c,X.env.cells.lookup x=some c->c≠b)/\ ∀p∈X.pn++pins,p.1≠b):Inv X pins σ H' s':=by
 obtain ⟨h',g',d',t',o'⟩:=s';have e:o'=s.os:=ho;subst e;exact I.call (g':=g') (t':=t') (d':=d') u hok hg hch
end
abbrev XK:=Value->Option Addr->Hp->Prop
abbrev St:=List (Option V)
abbrev VK:=V->Hp->Prop
abbrev TE:=St->Hp->VK->Prop
abbrev TT:=St->Hp->(Bool->Hp->Prop)->Prop
abbrev TA:=St->Hp->(List V->Hp->Prop)->Prop
structure Ends where
 nx:St->Hp->Prop
 rt:VK
 bk:St->Hp->Prop:=fun _ _=>False
 ct:St->Hp->Prop:=fun _ _=>False
abbrev TS:=Ends->St->Hp->Prop
def EP (X:Cx) (pins:List (Addr×Obj)) (σ:St) (Q:VK) (u:Value) (s':aaf):Prop:= ∃v H',Inv X pins σ H' s'/\RelV v u/\Q v H'
def TP (X:Cx) (pins:List (Addr×Obj)) (σ:St) (Q:Bool->Hp->Prop) (b:Bool) (s':aaf):Prop:= ∃H',Inv X pins σ H' s'/\Q b H'
def AP (X:Cx) (pins:List (Addr×Obj)) (σ:St) (Q:List V->Hp->Prop) (us:List Value) (s':aaf):Prop:= ∃vs H',Inv X pins σ H' s'/\Vals vs us/\Q vs H'
def SP (X:Cx) (pins:List (Addr×Obj)) (D:Ends) (f:Flow) (s':aaf):Prop:=
 match f with
 | .next=> ∃σ' H',Inv X pins σ' H' s'/\D.nx σ' H'
 | .brk=> ∃σ' H',Inv X pins σ' H' s'/\D.bk σ' H'
 | .cont=> ∃σ' H',Inv X pins σ' H' s'/\D.ct σ' H'
 | .ret u=> ∃v σ' H',Inv X pins σ' H' s'/\RelV v u/\D.rt v H'
def PE (X:Cx) (e:Expr) (t:TE):Prop:=
 ∀(pins:List (Addr×Obj)) (s:aaf) (σ:St) (H:Hp) (Q:VK),Inv X pins σ H s->t σ H Q->wpAny (model X.prog X.w) X.A (eval e X.env) (EP X pins σ Q) X.xe s
def PT (X:Cx) (e:Expr) (t:TT):Prop:=
 ∀(pins:List (Addr×Obj)) (s:aaf) (σ:St) (H:Hp) (Q:Bool->Hp->Prop),Inv X pins σ H s->t σ H Q->wpAny (model X.prog X.w) X.A (isTrue e X.env (eval e X.env)) (TP X pins σ Q) X.xe s
def PW (X:Cx) (e:Expr) (t:TT):Prop:=
 ∀(whole:Sem Value) (pins:List (Addr×Obj)) (s:aaf) (σ:St) (H:Hp) (Q:Bool->Hp->Prop),Inv X pins σ H s->t σ H Q->wpAny (model X.prog X.w) X.A (isTrue e X.env whole) (TP X pins σ Q) X.xe s
def PW.pt {X:Cx} {e:Expr} {t:TT} (h:PW X e t):PT X e t:=h _
def PA (X:Cx) (es:List Expr) (t:TA):Prop:=
 ∀(pos:Pos) (pins:List (Addr×Obj)) (s:aaf) (σ:St) (H:Hp) (Q:List V->Hp->Prop),Inv X pins σ H s->t σ H Q->wpAny (model X.prog X.w) X.A (spliced (abn pos (aai es X.env))) (AP X pins σ Q) X.xe s
def PS (X:Cx) (st:Stmt) (t:TS):Prop:=
 ∀(pins:List (Addr×Obj)) (s:aaf) (σ:St) (H:Hp) (D:Ends),Inv X pins σ H s->t D σ H->wpAny (model X.prog X.w) X.A (exec st X.env) (SP X pins D) X.xe s
def PSs (X:Cx) (st:List Stmt) (t:TS):Prop:=
 ∀(pins:List (Addr×Obj)) (s:aaf) (σ:St) (H:Hp) (D:Ends),Inv X pins σ H s->t D σ H->wpAny (model X.prog X.w) X.A (execs st X.env) (SP X pins D) X.xe s
def thn {α:Type} {t:Sem α} {Q Q':α->aaf->Prop} {M:Model} {A:aaU} {E:Xw} {s:aaf} (h:wpAny M A t Q E s) (hQ: ∀a s,Q a s->Q' a s):wpAny M A t Q' E s:=abX h hQ fun _ _ x=>x
section
variable {X:Cx}
def tVar (i:Nat):TE:=fun σ H Q=> ∃v,σ[i]?=some (some v)/\Q v H
def tC (v:V):TE:=fun _ H Q=>Q v H
def zZ {i:Nat} {x:Str} {pos:Pos} (hN:X.N[i]?=some x) (hv:Vis X.env.scope x) (hd:Yx x:=by decide) (hcd:Yw x:=by decide):PE X (.Name x pos) (tVar i):=by
 intro pins s σ H Q I h;obtain ⟨v,e,h⟩:=h;obtain ⟨m,hn,hl⟩:=I.loc;obtain ⟨u,r,l⟩:=hl i x v hN e hv;have fin:EP X pins σ Q u s:=⟨v,H,I,r,h⟩
 rcases l with ⟨hk,hm⟩| ⟨hk,c,hc,hcell⟩
 · exact wpAny_Name (wpAny_loadName_local I.ok.kind hk hn hm fin) hd
 · rcases hk with hk|hk
   · exact wpAny_Name (wpAny_loadName_cell I.ok.kind hk hc hcell fin) hd
   · exact wpAny_Name (wpAny_loadName_free I.ok.kind hk hc hcell fin hcd) hd
def jaC {i j pos}:PE X (.Constant (.int i) j pos) (tC (.int i)):=fun _ _ _ H _ I h=>wpAny_Constant_int ⟨.int i,H,I.tok _,⟨_,rfl⟩,h⟩
def jeE {b j pos}:PE X (.Constant (.bool b) j pos) (tC (.bl b)):=fun _ _ _ H _ I h=>Constant_bool ⟨.bl b,H,I,rfl,h⟩
def jdi {j pos}:PE X (.Constant .none j pos) (tC .non):=fun _ _ _ H _ I h=>Constant_none ⟨.non,H,I,rfl,h⟩
def jdf {x j pos}:PE X (.Constant (.str x) j pos) (tC (.str x)):=fun _ _ _ H _ I h=>Calls.Constant_str ⟨.str x,H,I.tok _,⟨_,rfl⟩,h⟩
def Gl (X:Cx) (x:Str):Prop:=X.env.kindOf x=some .globalImplicit
def xA {E:Xw} {pins:List (Addr×Obj)} {s:aaf} {σ:St} {H:Hp} {x:Str} {u:Value} {pos:Pos} {Q:Xw} (I:Inv X pins σ H s) (hg:Gl X x) (hm:X.mg x=some u) (h:Q u s)
  (hd:Yx x:=by decide):wpAny (model X.prog X.w) X.A (eval (.Name x pos) X.env) Q E s:=
 Calls.Name_function_global I.ok.kind hg (Calls.loadGlobal_global (by rw [I.ok.glob];exact I.mod.glob.keeps I.bk) hm h) hd
def WJ {E:Xw} {pins:List (Addr×Obj)} {s:aaf} {σ:St} {H:Hp} {x:Str} {u:Value} {pos:Pos} {Q:Xw} (I:Inv X pins σ H s) (hg:Gl X x) (hm:X.mg x=none) (hv:aa9 x=some u) (h:Q u s)
  (hn:x≠ "__name__" :=by decide) (hd:Yx x:=by decide):wpAny (model X.prog X.w) X.A (eval (.Name x pos) X.env) Q E s:=by
 obtain ⟨mb,h1,h2⟩:=I.mod.blt;exact Calls.Name_function_global I.ok.kind hg (Calls.loadGlobal_builtin (by rw [I.ok.glob];exact I.mod.glob.keeps I.bk) hm (by rw [I.ok.blt];exact h1.keeps I.bk) ((h2 x hn).trans hv) h) hd
def Zm {x:Str} {v:V} {u:Value} {pos:Pos} (hg:Gl X x) (hm:X.mg x=some u) (r:RelV v u) (hd:Yx x:=by decide):PE X (.Name x pos) (tC v):=
 fun _ _ _ H _ I h=>xA I hg hm ⟨v,H,I,r,h⟩ hd
def XI {x:Str} {v:V} {u:Value} {pos:Pos} (hg:Gl X x) (hm:X.mg x=none) (hv:aa9 x=some u) (r:RelV v u) (hn:x≠ "__name__" :=by decide) (hd:Yx x:=by decide):PE X (.Name x pos) (tC v):=
 fun _ _ _ H _ I h=>WJ I hg hm hv ⟨v,H,I,r,h⟩ hn hd
variable {a b:Expr} {ta tb:TE} {pos:Pos}
def tB (t:TE):TT:=fun σ H Q=>t σ H fun x H1=> ∃c,x= .bl c/\Q c H1
def jc9 {e:Expr} {t:TE} (h:PE X e t) (he: ∀whole,isTrue e X.env whole=(do let v←whole;aeE e.pos;adq [v] (truthy v)):=by intro _;rfl):PT X e (tB t):=by
 intro pins s σ H Q I hw;refine isTrue_plain (thn (h pins s σ H _ I hw) fun v s1 ⟨x,H1,I1,r1,q1⟩=>?_) (he _);obtain ⟨d,rfl,q⟩:=q1;cases r1;exact abx ⟨H1,I1,q⟩
variable {tA tB':TT} {rest:List Expr}
def tAnd (t u:TT):TT:=fun σ H Q=>t σ H fun c H1=>if c=true then u σ H1 Q else Q false H1
def tOr (t u:TT):TT:=fun σ H Q=>t σ H fun c H1=>if c=true then Q true H1 else u σ H1 Q
def tNot (t:TT):TT:=fun σ H Q=>t σ H fun c H1=>Q (!c) H1
def jbm (ha:PT X a tA):PW X (.BoolOp .And [a] pos) tA:=by
 intro wh pins s σ H Q I h;refine isTrue_and (thn (ha pins s σ H Q I h) fun c s1 e=>?_)
 cases c with
 |true=>exact isTrue_and_nil e
 |false=>exact e
def jc7 (ha:PT X a tA):PW X (.BoolOp .Or [a] pos) tA:=by
 intro wh pins s σ H Q I h;refine isTrue_or (thn (ha pins s σ H Q I h) fun c s1 e=>?_)
 cases c with
 |false=>exact isTrue_or_nil e
 |true=>exact e
def jc8 (ha:PT X a tA) (hb:PW X (.BoolOp .And (b::rest) pos) tB'):PW X (.BoolOp .And (a::b::rest) pos) (tAnd tA tB'):=by
 intro wh pins s σ H Q I h;refine isTrue_and (thn (ha pins s σ H _ I h) fun c s1 ⟨H1,I1,q1⟩=>?_)
 cases c with
 |true=>exact hb wh pins s1 σ H1 Q I1 q1
 |false=>exact ⟨H1,I1,q1⟩
def jeC (ha:PT X a tA) (hb:PW X (.BoolOp .Or (b::rest) pos) tB'):PW X (.BoolOp .Or (a::b::rest) pos) (tOr tA tB'):=by
 intro wh pins s σ H Q I h;refine isTrue_or (thn (ha pins s σ H _ I h) fun c s1 ⟨H1,I1,q1⟩=>?_)
 cases c with
 |true=>exact ⟨H1,I1,q1⟩
 |false=>exact hb wh pins s1 σ H1 Q I1 q1
def jda (ha:PT X a tA):PT X (.UnaryOp .Not a pos) (tNot tA):=by
 intro pins s σ H Q I h;exact isTrue_not (ha pins s σ H (fun c H1=>Q (!c) H1) I h)
def jew (ta tb:TE):TE:=fun σ H Q=>ta σ H fun x H1=> ∃c,x= .bl c/\if c=true then tb σ H1 Q else Q (.bl false) H1
def jep (ta:TE):TE:=fun σ H Q=>ta σ H fun x H1=> ∃c,x= .bl c/\Q (.bl (!c)) H1
def jdg {op} {t:TE} (h:PE X a t):PE X (.BoolOp op [a] pos) t:=fun pins s σ H Q I hw=>BoolOp_one (h pins s σ H Q I hw)
def jdm (ha:PE X a ta) (hb:PE X (.BoolOp .And (b::rest) pos) tb):PE X (.BoolOp .And (a::b::rest) pos) (jew ta tb):=by
 intro pins s σ H Q I h;refine BoolOp_and (thn (ha pins s σ H _ I h) fun v s1 ⟨x,H1,I1,r1,q1⟩=>?_);obtain ⟨c,rfl,q1⟩:=q1;cases r1;refine abx ?_
 cases c with
 |true=>exact hb pins s1 σ H1 Q I1 q1
 |false=>exact ⟨.bl false,H1,I1,rfl,q1⟩
def jdh (ha:PE X a ta):PE X (.UnaryOp .Not a pos) (jep ta):=by
 intro pins s σ H Q I h;refine UnaryOp_ (thn (ha pins s σ H _ I h) fun v s1 ⟨x,H1,I1,r1,q1⟩=>?_);obtain ⟨c,rfl,q1⟩:=q1;cases r1;exact not_of (abx ⟨.bl (!c),H1,I1,rfl,q1⟩)
def tIf (t:TT) (ta tb:TE):TE:=fun σ H Q=>t σ H fun c H1=>if c=true then ta σ H1 Q else tb σ H1 Q
def ui {c:Expr} (hc:PT X c tA) (ha:PE X a ta) (hb:PE X b tb):PE X (.IfExp c a b pos) (tIf tA ta tb):=by
 intro pins s σ H Q I h;refine wpAny_IfExp (thn (hc pins s σ H _ I h) fun d s1 ⟨H1,I1,q1⟩=>?_)
 cases d with
 |true=>exact ha pins s1 σ H1 Q I1 q1
 |false=>exact hb pins s1 σ H1 Q I1 q1
end
def SqL (K:aaa) (H:Hp) (a:Addr) (xs:List V):Prop:=
 Rd H a (.lst xs)\/
  ∃(o:Obj) (its:Array Value) (n:Nat),K.lookup a=some o/\o.cls= .type "list" /\o.dict=none/\o.data= .seq its n/\its.size<=aaj/\Vals xs its.toList
def SqT (K:aaa) (H:Hp) (a:Addr) (xs:List V):Prop:=
 Rd H a (.tup xs)\/
  ∃(o:Obj) (its:Array Value) (n:Nat),K.lookup a=some o/\o.cls= .type "tuple" /\o.data= .seq its n/\its.size<=aaj/\Vals xs its.toList
def absV:Value->Option V
 | .none=>some .non
 | .bool b=>some (.bl b)
 | .int i _=>some (.int i)
 | .str x _=>some (.str x)
 | .bytes b _=>some (.byt b)
 | .float b _=>some (.flt b)
 | .ref a=>some (.ref a)
 | .type n=>some (.ty n)
 |_=>none
def RelV.abs {x:V} {u:Value} (r:RelV x u):absV u=some x:=by
 cases x with
 |non=>cases r;rfl
 |bl _=>cases r;rfl
 |int _=>obtain ⟨t,rfl⟩:=r;rfl
 |str _=>obtain ⟨t,rfl⟩:=r;rfl
 |byt _=>obtain ⟨t,rfl⟩:=r;rfl
 |flt _=>obtain ⟨t,rfl⟩:=r;rfl
 |ref _=>cases r;rfl
 |ty _=>cases r;rfl
def RelV.inj {x y:V} {u:Value} (r:RelV x u) (q:RelV y u):x=y:=aaD (r.abs.symm.trans q.abs)
theorem Vals.inj: ∀ {xs ys:List V} {us:List Value},Vals xs us->Vals ys us->xs=ys
 |_,_,_,.nil,.nil=>rfl
 |_,_,_,.cons r t,.cons r' t'=>by rw [r.inj r',Vals.inj t t']
section
variable {X:Cx} {pins:List (Addr×Obj)} {σ:St} {H:Hp} {s:aaf} {a:Addr} {xs ys:List V}
def SqL.of {K:aaa} (h:H a=some (.lst xs)):SqL K H a xs:= .inl (.inl h)
def SqT.of {K:aaa} (h:H a=some (.tup xs)):SqT K H a xs:= .inl (.inl h)
def Inv.list (I:Inv X pins σ H s) (h:SqL X.K H a xs): ∃its:List Value,Vals xs its/\PlainL s.heap a its.toArray/\xs.length<=aaj:=by
 rcases h with h| ⟨o,its,n,hk,hc,hd,hs,hz,r⟩
 · obtain ⟨z,its,n,r,e⟩:=h.ok I.hok;exact ⟨its,r,⟨_,n,e,rfl,rfl,rfl⟩,z⟩
 · refine ⟨its.toList,r,⟨o,n,I.kIn a o hk,hc,hd,by simpa using hs⟩,?_⟩;have e:=r.length;simp only [aar] at e;omega
def Inv.tuple (I:Inv X pins σ H s) (h:SqT X.K H a xs): ∃its:List Value,Vals xs its/\IsTup s.heap a its.toArray/\xs.length<=aaj:=by
 rcases h with h| ⟨o,its,n,hk,hc,hs,hz,r⟩
 · obtain ⟨z,its,r,p⟩:=h.ok I.hok;exact ⟨its,r,p,z⟩
 · refine ⟨its.toList,r,⟨o,I.kIn a o hk,hc,n,by simpa using hs⟩,?_⟩;have e:=r.length;simp only [aar] at e;omega
def Inv.list_inj (I:Inv X pins σ H s) (h:SqL X.K H a xs) (h':SqL X.K H a ys):xs=ys:=by
 obtain ⟨its,r,⟨o,n,e,_,_,d⟩,_⟩:=I.list h;obtain ⟨its',r',⟨o',n',e',_,_,d'⟩,_⟩:=I.list h';rw [e] at e';cases e';rw [d] at d';injection d' with d1 _;have:its=its':=by simpa using congrArg Array.toList d1
 subst this;exact r.inj r'
def Inv.tuple_inj (I:Inv X pins σ H s) (h:SqT X.K H a xs) (h':SqT X.K H a ys):xs=ys:=by
 obtain ⟨its,r,⟨o,e,_,n,d⟩,_⟩:=I.tuple h;obtain ⟨its',r',⟨o',e',_,n',d'⟩,_⟩:=I.tuple h';rw [e] at e';cases e';rw [d] at d';injection d' with d1 _;have:its=its':=by simpa using congrArg Array.toList d1
 subst this;exact r.inj r'
end
abbrev Cx.wish (X:Cx) (E:Xw):Cx:={X with xe:=E}
abbrev Cx.nox (X:Cx):Cx:=X.wish fun _ _=>False
def Cx.Ok.wish {X:Cx} (ok:X.Ok) (E:Xw):(X.wish E).Ok:=
 ⟨ok.mod,ok.kind,ok.glob,ok.blt,ok.above,ok.inj,ok.has,ok.cab,ok.hd,ok.frames,ok.stk,ok.exf,ok.bs,ok.bsz,ok.noex,ok.exfs,ok.funs,ok.frf⟩
def Cx.Ok.unwish {X:Cx} {E:Xw} (ok:(X.wish E).Ok):X.Ok:=
 ⟨ok.mod,ok.kind,ok.glob,ok.blt,ok.above,ok.inj,ok.has,ok.cab,ok.hd,ok.frames,ok.stk,ok.exf,ok.bs,ok.bsz,ok.noex,ok.exfs,ok.funs,ok.frf⟩
section
variable {X:Cx} {pins:List (Addr×Obj)} {σ:St} {H:Hp} {s:aaf} {E:Xw}
def Inv.wish (I:Inv X pins σ H s) (E:Xw):Inv (X.wish E) pins σ H s:=⟨I.ok.wish E,I.os,I.bare,I.base,I.loc,I.cell,I.free,I.freeC,I.pin,I.hok,I.len⟩
def Inv.unwish (I:Inv (X.wish E) pins σ H s):Inv X pins σ H s:=⟨I.ok.unwish,I.os,I.bare,I.base,I.loc,I.cell,I.free,I.freeC,I.pin,I.hok,I.len⟩
def SP.unwish {D:Ends} {f:Flow} {s':aaf} (h:SP (X.wish E) pins D f s'):SP X pins D f s':=by
 cases f with
 |next=>obtain ⟨σ',H',I,q⟩:=h;exact ⟨σ',H',I.unwish,q⟩
 |brk=>obtain ⟨σ',H',I,q⟩:=h;exact ⟨σ',H',I.unwish,q⟩
 |cont=>obtain ⟨σ',H',I,q⟩:=h;exact ⟨σ',H',I.unwish,q⟩
 |ret u=>obtain ⟨v,σ',H',I,r,q⟩:=h;exact ⟨v,σ',H',I.unwish,r,q⟩
def PSs.nox {st:List Stmt} {t:TS} (h:PSs X.nox st t):PSs X st t:=fun pins s σ H D I hw=>
 abX (h pins s σ H D (I.wish _) hw) (fun _ _ q=>q.unwish) fun _ _ z=>abC z
end
section
variable {X:Cx} {st:Stmt} {rest:List Stmt} {t u:TS} {e:Expr} {te:TE} {pos:Pos}
def jeq:TS:=fun D σ H=>D.nx σ H
def tSeq (t u:TS):TS:=fun D σ H=>t {D with nx:=u D} σ H
def Uh:PSs X [] jeq:=fun _ _ σ H _ I h=>adr ⟨σ,H,I,h⟩
def Zi (h1:PS X st t) (h2:PSs X rest u):PSs X (st::rest) (tSeq t u):=by
 intro pins s σ H D I h;refine wpAny_execs_cons (thn (h1 pins s σ H {D with nx:=u D} I h) fun f s1 q=>?_)
 cases f with
 |next=>
  obtain ⟨σ',H',I',q⟩:=q;exact h2 pins s1 σ' H' D I' q
 |ret v=>exact q
 |brk=>exact q
 |cont=>exact q
def Jw (h1:PS X st t):PSs X [st] t:=by
 intro pins s σ H D I h;refine wpAny_execs_cons (thn (h1 pins s σ H D I h) fun f s1 q=>?_)
 cases f with
 |next=>exact adr q
 |ret v=>exact q
 |brk=>exact q
 |cont=>exact q
def Inv.quiet {pins:List (Addr×Obj)} {σ:St} {H:Hp} {s:aaf} (I:Inv X pins σ H s):interactive X.env=false:=by simp [interactive,I.ok.kind]
def jer (te:TE):TS:=fun D σ H=>te σ H fun _ H1=>D.nx σ H1
def Jx (he:PE X e te) (hs:aca e none pos.line X.env=pure false:=by rfl):PS X (.Expr e pos) (jer te):=by
 intro pins s σ H D I h;exact wpAny_Expr_any (thn (he pins s σ H _ I h) fun v s1 ⟨x,H1,I1,r1,q1⟩=>⟨σ,H1,I1,q1⟩) I.quiet hs
def tRet (te:TE):TS:=fun D σ H=>te σ H D.rt
def Uj (he:PE X e te):PS X (.Return (some e) pos) (tRet te):=by
 intro pins s σ H D I h;exact wpAny_Return_some (thn (he pins s σ H _ I h) fun v s1 ⟨x,H1,I1,r1,q1⟩=>⟨x,σ,H1,I1,r1,q1⟩)
def tIfS (c:TT) (t u:TS):TS:=fun D σ H=>c σ H fun b H1=>if b=true then t D σ H1 else u D σ H1
def jbp {c:Expr} {a b:List Stmt} {tc:TT} (hc:PT X c tc) (ha:PSs X a t) (hb:PSs X b u):PS X (.If c a b pos) (tIfS tc t u):=by
 intro pins s σ H D I h;refine wpAny_If (thn (hc pins s σ H _ I h) fun d s1 ⟨H1,I1,q1⟩=>?_)
 cases d with
 |true=>exact ha pins s1 σ H1 D I1 q1
 |false=>exact hb pins s1 σ H1 D I1 q1
end
abbrev TG:=V->St->Hp->(St->Hp->Prop)->Prop
abbrev TGs:=List V->St->Hp->(St->Hp->Prop)->Prop
def PG (X:Cx) (target:Expr) (t:TG):Prop:=
 ∀(pins:List (Addr×Obj)) (s:aaf) (σ:St) (H:Hp) (v:V) (u:Value) (Q:St->Hp->Prop),Inv X pins σ H s->RelV v u->t v σ H Q->
  wpAny (model X.prog X.w) X.A (aeJ target X.env u) (fun _ s'=> ∃σ' H',Inv X pins σ' H' s'/\Q σ' H') X.xe s
def PGs (X:Cx) (ts:List Expr) (t:TGs):Prop:=
 ∀(pins:List (Addr×Obj)) (s:aaf) (σ:St) (H:Hp) (vs:List V) (us:List Value) (Q:St->Hp->Prop),Inv X pins σ H s->Vals vs us->t vs σ H Q->
  wpAny (model X.prog X.w) X.A (assignInOrder ((abe ts X.env).map (·.2)) us) (fun _ s'=> ∃σ' H',Inv X pins σ' H' s'/\Q σ' H') X.xe s
abbrev TSet:=V->V->V->Hp->(Hp->Prop)->Prop
def PSet (X:Cx) (t:TSet):Prop:=
 ∀(pins:List (Addr×Obj)) (s:aaf) (σ:St) (H:Hp) (o i v:V) (ov iv u:Value) (Q:Hp->Prop),Inv X pins σ H s->RelV o ov->RelV i iv->RelV v u->t o i v H Q->
  wpAny (model X.prog X.w) X.A (setItem ov iv u) (fun _ s'=> ∃H',Inv X pins σ H' s'/\Q H') X.xe s
abbrev TIp:=V->V->Hp->VK->Prop
def PIp (X:Cx) (op:aej) (t:TIp):Prop:=
 ∀(pins:List (Addr×Obj)) (s:aaf) (σ:St) (H:Hp) (x y:V) (v u:Value) (Q:VK),Inv X pins σ H s->RelV x v->RelV y u->t x y H Q->
  wpAny (model X.prog X.w) X.A (inplaceOp op v u) (EP X pins σ Q) X.xe s
section
variable {X:Cx} {pos:Pos}
def jdR (i:Nat):TG:=fun v σ H Q=>Q (σ.set i (some v)) H
def XG {i:Nat} {x:Str} (hN:X.N.Nodup) (hi:X.N[i]?=some x) (hx:Loc X.env.scope x) (hf:VR X x:=by first|exact .inl rfl|exact .inr rfl|assumption):PG X (.Name x pos) (jdR i):=by
 intro pins s σ H v u Q I r h;exact wpAny_assign_Name (y6 I hN hi hx r (fun s' I'=>⟨_,H,I',h⟩) hf)
def gNil:TGs:=fun vs σ H Q=>vs=[]/\Q σ H
def jeO (t:TG) (u:TGs):TGs:=fun vs σ H Q=> ∃v r,vs=v::r/\t v σ H fun σ' H'=>u r σ' H' Q
def Ut:PGs X [] gNil:=by
 intro pins s σ H vs us Q I r h;obtain ⟨e,h⟩:=h;subst e;cases r;exact assignInOrder_nil ⟨σ,H,I,h⟩
def Ja {e:Expr} {es:List Expr} {t:TG} {u:TGs} (h1:PG X e t) (h2:PGs X es u)
  (hs:(abe (e::es) X.env).map (·.2)=aeJ e X.env::(abe es X.env).map (·.2):=by rfl):PGs X (e::es) (jeO t u):=by
 intro pins s σ H vs us Q I r h;obtain ⟨v,vr,e1,h⟩:=h;subst e1
 cases r with
 |cons r rr=>
  rw [hs];refine assignInOrder_cons (thn (h1 pins s σ H _ _ _ I r h) fun _ s1 ⟨σ1,H1,I1,q1⟩=>?_);exact h2 pins s1 σ1 H1 _ _ Q I1 rr q1
def gTup (K:aaa) (n:Nat) (t:TGs):TG:=fun v σ H Q=> ∃a xs,v= .ref a/\SqT K H a xs/\xs.length=n/\t xs σ H Q
def jaB {es:List Expr} {k:Nat} {t:TGs} {n:Nat} (hc:X.calm=true) (h:PGs X es t)
  (hn:(abe es X.env).length=n:=by rfl) (hst:(abe es X.env).findIdx? (·.1)=none:=by rfl):PG X (.Tuple es k pos) (gTup X.K n t):=by
 intro pins s σ H v u Q I r hw;obtain ⟨a,xs,e1,hq,hl,hw⟩:=hw;subst e1;cases r;obtain ⟨its,rv,ht,hz⟩:=I.tuple hq;refine assign_Tuple_tuple (I.ok.hd hc) ht (by simp [hn,←hl,rv.length]) hst fun h' hx=>?_
 have I1:Inv X pins σ H {s with heap:=h'}:=I.kept (t':=s.toks) fun b o e=>hx b o (aax (aao e)) e
 exact h pins _ σ H xs _ Q I1 (by simpa using rv) hw
def gSub (to ti:TE) (t:TSet):TG:=fun v σ H Q=>to σ H fun o H1=>ti σ H1 fun i H2=>t o i v H2 fun H3=>Q σ H3
def jdd {o i:Expr} {to ti:TE} {t:TSet} (ho:PE X o to) (hi:PE X i ti) (hs:PSet X t)
  (ha: ∀v,aeJ (.Subscript o i pos) X.env v=(do
   let ov←adq [v] (eval o X.env)
   let iv←adq [v,ov] (eval i X.env)
   aeE pos
   adq [v,ov,iv] (setItem ov iv v)
   release [v,ov,iv] []):=by intro _;rfl):PG X (.Subscript o i pos) (gSub to ti t):=by
 intro pins s σ H v u Q I r h;rw [ha];refine aab (aa3 (thn (ho pins s σ H _ I h) fun ov s1 ⟨x,H1,I1,r1,q1⟩=>?_));refine aab (aa3 (thn (hi pins s1 σ H1 _ I1 q1) fun iv s2 ⟨y,H2,I2,r2,q2⟩=>?_));refine aab (wpAny_standAt (aab (aa3 (thn (hs pins s2 σ H2 x y v ov iv u _ I2 r1 r2 r q2) fun _ s3 ⟨H3,I3,q3⟩=>?_))));exact wpAny_release ⟨σ,H3,I3,q3⟩
def tAsg (te:TE) (g:TG):TS:=fun D σ H=>te σ H fun x H1=>g x σ H1 D.nx
def Ul {tg e:Expr} {te:TE} {g:TG} (he:PE X e te) (hg:PG X tg g) (hs:swapsWithSole [tg] e pos.line X.env=pure false:=by rfl) (hw:swappedStores [tg] e X.env=pure none:=by rfl)
  (h1:(abe [tg] X.env).map (·.2)=[aeJ tg X.env]:=by rfl):PS X (.Assign [tg] e pos) (tAsg te g):=by
 intro pins s σ H D I h;refine wpAny_Assign_stores (thn (he pins s σ H _ I h) fun v s1 ⟨x,H1,I1,r1,q1⟩=>?_) hs hw;rw [h1];exact thn (hg pins s1 σ H1 x v _ I1 r1 q1) fun _ s2 q=>q
def Ui {i:Nat} {x:Str} {e:Expr} {te:TE} {pos':Pos} (hN:X.N.Nodup) (hi:X.N[i]?=some x) (hx:Loc X.env.scope x) (he:PE X e te) (hs:aca e (some (.Name x pos')) pos.line X.env=pure false:=by rfl) (hf:VR X x:=by first|exact .inl rfl|exact .inr rfl|assumption):
  PS X (.Assign [.Name x pos'] e pos) (tAsg te (jdR i)):=by
 intro pins s σ H D I h;refine wpAny_Assign_Name (thn (he pins s σ H _ I h) fun v s1 ⟨y,H1,I1,r1,q1⟩=>?_) hs;exact y6 I1 hN hi hx r1 (fun s2 I2=>⟨_,H1,I2,q1⟩) hf
def tAug (i:Nat) (te:TE) (ti:TIp):TS:=fun D σ H=> ∃x,σ[i]?=some (some x)/\te σ H fun y H1=>ti x y H1 fun z H2=>D.nx (σ.set i (some z)) H2
def jdc {i:Nat} {x:Str} {e:Expr} {te:TE} {op:aej} {ti:TIp} {pos':Pos} (hN:X.N.Nodup) (hi:X.N[i]?=some x) (hx:Loc X.env.scope x) (he:PE X e te) (ho:PIp X op ti) (hf:VR X x:=by first|exact .inl rfl|exact .inr rfl|assumption):
   PS X (.AugAssign (.Name x pos') op e pos) (tAug i te ti):=by
 intro pins s σ H D I h;obtain ⟨v,e1,h⟩:=h;obtain ⟨m,hn,hl⟩:=I.loc;have vis:Vis X.env.scope x:=by rcases hx with k|k;exact .inl k;exact .inr (.inl k)
 obtain ⟨u,r,l⟩:=hl i x v hi e1 vis;refine wpAny_AugAssign_Name ?_
 have go:wpAny (model X.prog X.w) X.A (eval e X.env) (fun w s₂=>wpAny (model X.prog X.w) X.A (inplaceOp op u w) (fun r s₃=>wpAny (model X.prog X.w) X.A (storeName X.env x r) (fun _=>SP X pins D .next) X.xe s₃) X.xe s₂) X.xe s:=by
   refine thn (he pins s σ H _ I h) fun w s1 ⟨y,H1,I1,r1,q1⟩=>?_
   refine thn (ho pins s1 σ H1 v y u w _ I1 r r1 q1) fun z s2 ⟨zv,H2,I2,r2,q2⟩=>?_
   exact y6 I2 hN hi hx r2 (fun s3 I3=>⟨_,H2,I3,q2⟩) hf
 rcases l with ⟨hk,hm⟩| ⟨hk,c,hc,hcell⟩
 · exact wpAny_loadName_local I.ok.kind hk hn hm go
 · rcases hk with hk|hk
   · exact wpAny_loadName_cell I.ok.kind hk hc hcell go
   · rcases hx with k|k
     · have:X.env.scope.names.lookup x=some .free:=hk;rw [k] at this;cases this
     · have:X.env.scope.names.lookup x=some .free:=hk;rw [k] at this;cases this
def ipI (f:Int->Int->Int):TIp:=fun x y H Q=> ∃i j,x= .int i/\y= .int j/\Q (.int (f i j)) H
def jaM:PIp X .Add (ipI fun i j=>i+j):=by
 intro pins s σ H x y v u Q I r1 r2 h;obtain ⟨i,j,e1,e2,q⟩:=h;subst e1;subst e2;obtain ⟨t,rfl⟩:=r1;obtain ⟨t',rfl⟩:=r2;exact iadd_int ⟨.int _,H,I.tok _,⟨_,rfl⟩,q⟩
def jcT (c:TT) (tb:TS):TS:=fun D σ H=> ∃W:Nat->St->Hp->Prop,(∃m,W m σ H)/\ ∀m σ H,W m σ H->
 c σ H fun b H1=>if b=true then∃N:St->Hp->Prop,(∀σ' H',N σ' H'-> ∃m',m'<m/\W m' σ' H')/\tb {D with nx:=N,ct:=N,bk:=D.nx} σ H1 else D.nx σ H1
def ud {c:Expr} {body:List Stmt} {tc:TT} {tb:TS} (hp:PassesOwn (model X.prog X.w) X.A X.env X.xe) (hc:PT X c tc) (hb:PSs X body tb):PS X (.While c body [] pos) (jcT tc tb):=by
 intro pins s σ H D I h;obtain ⟨W,⟨m0,w0⟩,turn⟩:=h;refine wpAny_While (codeAny_whileLoop (fun n s'=> ∃σ' H',Inv X pins σ' H' s'/\W n σ' H') ?_ m0 ⟨σ,H,I,w0⟩);rintro n s1 ⟨σ1,H1,I1,w1⟩;refine acj hp (thn (hc pins s1 σ1 H1 _ I1 (turn n σ1 H1 w1)) fun b s2 ⟨H2,I2,q2⟩=>?_)
 cases b with
 |true=>
  obtain ⟨N,hN,q2⟩:=q2;rw [if_pos rfl];refine acj hp (thn (hb pins s2 σ1 H2 _ I2 q2) fun f s3 q3=>?_)
  cases f with
  |next=>
   obtain ⟨σ3,H3,I3,n3⟩:=q3;obtain ⟨m',hm,w3⟩:=hN σ3 H3 n3;exact ⟨m',hm,σ3,H3,I3,w3⟩
  |cont=>
   obtain ⟨σ3,H3,I3,n3⟩:=q3;obtain ⟨m',hm,w3⟩:=hN σ3 H3 n3;exact ⟨m',hm,σ3,H3,I3,w3⟩
  |brk=>exact q3
  |ret v=>exact q3
 |false=>
  rw [if_neg aaC];exact adr ⟨σ1,H2,I2,q2⟩
end
structure It where
 go:Nat->Hp->Prop
 yld:Nat->Hp->V->Hp->Prop
 stop:Nat->Hp->Prop
def FpOk (X:Cx) (pins:List (Addr×Obj)) (H:Hp) (b:Addr):Prop:=
 H b=none/\b≠X.env.locals/\b∉X.fs/\(b∈X.ex\/X.s₀.heap.objs.size<=b)/\(∀x c,X.env.cells.lookup x=some c->c≠b)/\ ∀p∈X.pn++pins,p.1≠b
def Inv.fpOk {X:Cx} {pins:List (Addr×Obj)} {σ:St} {H H':Hp} {s:aaf} {b:Addr} (I:Inv X pins σ H s) (hb:s.heap.objs.size<=b) (hn:H' b=none):FpOk X pins H' b:=by
 refine ⟨hn,Nat.ne_of_gt (aaw I.lt hb),I.nofs hb,.inr (aaN I.sz hb),fun x c e z=>?_,fun p hp z=>?_⟩
 · obtain ⟨v,q⟩:=I.cell x c e;exact absurd (aaw q.lt (by rw [z];exact hb)) (abI _)
 · exact absurd (aaw (aao (I.pin p hp).1) (by rw [z];exact hb)) (abI _)
structure Turn (P:aaA) (w:World) (K:aaa) (tg:Expr) (J:It) (fp:List Addr) (it:Addr) (tn:Nat->Heap->Prop):Prop where
 mem:it∈fp
 obj: ∀i h,tn i h-> ∀b∈fp,∃o,h.get? b=some o/\ ∀v,o.data≠ .cell v
 keep: ∀i h h',tn i h->(∀b∈fp,∀o,h.get? b=some o->h'.get? b=some o)->tn i h'
 item: ∀(X:Cx),X.prog=P->X.w=w->X.K=K->X.calm=true-> ∀(i:Nat) (pins:List (Addr×Obj)) (s:aaf) (σ:St) (H:Hp) (E:Xw),Inv X pins σ H s->(∀b∈fp,FpOk X pins H b)->tn i s.heap->J.go i H->
  wpAny (model P w) X.A (pyNext (.ref it)) (fun r s1=> ∃u,r=some u/\
   wpAny (model P w) X.A (ad8 tg (.ref it) u) (fun _ s2=> ∃x H',Inv X pins σ H' s2/\RelV x u/\J.yld i H x H'/\tn (i+1) s2.heap/\ ∀b∈fp,H' b=none) E s1) E s
 done: ∀(X:Cx),X.prog=P->X.w=w->X.K=K->X.calm=true-> ∀(i:Nat) (pins:List (Addr×Obj)) (s:aaf) (σ:St) (H:Hp) (E:Xw),Inv X pins σ H s->(∀b∈fp,FpOk X pins H b)->tn i s.heap->J.stop i H->
  wpAny (model P w) X.A (pyNext (.ref it)) (fun r s1=>r=none/\Inv X pins σ H s1) E s
 self: ∀(A:aaU) (i:Nat) (s:aaf) (Q:Xw) (E:Xw),tn i s.heap->Q (.ref it) s->wpAny (model P w) A (pyIter (.ref it)) Q E s
abbrev TI:=St->Hp->(It->Hp->Prop)->Prop
def PIE (X:Cx) (pins:List (Addr×Obj)) (σ:St) (tg:Expr) (R:It->Hp->Prop) (itv:Value) (s2:aaf):Prop:=
 ∃(it:Addr) (fp:List Addr) (tn:Nat->Heap->Prop) (J:It) (H':Hp),itv= .ref it/\Inv X pins σ H' s2/\Turn X.prog X.w X.K tg J fp it tn/\tn 0 s2.heap/\(∀b∈fp,FpOk X pins H' b)/\R J H'
def PI (X:Cx) (tg iter:Expr) (wi:TI):Prop:=
 ∀(pins:List (Addr×Obj)) (s:aaf) (σ:St) (H:Hp) (R:It->Hp->Prop),Inv X pins σ H s->wi σ H R->
  wpAny (model X.prog X.w) X.A (eval iter X.env) (fun v s1=>wpAny (model X.prog X.w) X.A (pyIter v) (PIE X pins σ tg R) X.xe s1) X.xe s
def ky {M : Model} {A : aaU} {E : Value -> aaf -> Prop} {s : aaf} {tg : Expr} {it : Addr} {u : Value} {o : Obj} {n : String} {vs : Array Value} {Q : Unit -> aaf -> Prop} (ho : s.heap.get? it = some o) (hc : o.cls = .type n) (hd : o.data = .fields vs)
    (hn : ["enumerate", "zip", "dict_itemiterator", "dict_reverseitemiterator", "odict_iterator", "itertools.zip_longest", "itertools.pairwise"].contains n = false) (hQ : Q () s) : wpAny M A (ad8 tg (.ref it) u) Q E s := by
  unfold ad8
  cases tg <;> first
    | exact aad hQ
    | (cases u <;> first
        | exact aad hQ
        | (refine aab (wpAny_load ho ?_)
           rw [hc, hd]
           show wpAny M A (if (["enumerate", "zip", "dict_itemiterator", "dict_reverseitemiterator", "odict_iterator", "itertools.zip_longest", "itertools.pairwise"].contains n && vs[0]? == some (rawInt _)) = true then _ else _) Q E s
           rw [if_neg (by intro h; rw [hn, aep] at h; cases h)]
           exact aad hQ))
def Itl (K:aaa) (a:Addr):It:=
 ⟨fun i H=> ∃xs x,SqL K H a xs/\xs[i]?=some x,fun i H x H'=>H'=H/\ ∀xs,SqL K H a xs->xs[i]?=some x,fun i H=> ∃xs,SqL K H a xs/\xs.length<=i⟩
def Itt (K:aaa) (a:Addr):It:=
 ⟨fun i H=> ∃xs x,SqT K H a xs/\xs[i]?=some x,fun i H x H'=>H'=H/\ ∀xs,SqT K H a xs->xs[i]?=some x,fun i H=> ∃xs,SqT K H a xs/\xs.length<=i⟩
def Itr (lo:Int) (n:Nat):It:=⟨fun i _=>i<n,fun i H x H'=>H'=H/\x= .int (lo+i),fun i _=>n<=i⟩
def Wf {P:aaA} {w:World} {K:aaa} {tg:Expr} (a it:Addr):Turn P w K tg (Itl K a) [it] it (fun i h=>h.IsListIter it a i) where
 mem:=by simp
 obj:=fun i h st b hb=>by
  have e:b=it:=by simpa using hb
  subst e;obtain ⟨o,e,c,d⟩:=st;exact ⟨o,e,fun v z=>by rw [d] at z;cases z⟩
 keep:=fun i h h' st k=>st.at fun o e=>k it (by simp) o e
 item:=by
  intro X hP hw hK hc i pins s σ H E I hf st hg;subst hP hw hK;obtain ⟨xs,x,hq,hx⟩:=hg;obtain ⟨its,rv,p,hz⟩:=I.list hq;obtain ⟨u,hu,ru⟩:=rv.get hx;obtain ⟨f0,f1,f2,f3,f4,f5⟩:=hf it (by simp);refine wpAny_pyNext_list_item st p.isList (x:=u) (by simpa using hu) fun h' st' sb=>?_
  have I1:Inv X pins σ H {s with heap:=h'}:=I.turned (t':=s.toks) (fun b o hb e=>(sb.2 b hb).trans e) f0 f1 f3 f4 f5;obtain ⟨o,e,c,d⟩:=id st';exact ⟨u,rfl,ky (s:={s with heap:=h'}) e c d (by decide) ⟨x,H,I1,ru,⟨rfl,fun ys hy=>by rw [I.list_inj hy hq];exact hx⟩,st',fun b hb=>(hf b hb).1⟩⟩
 done:=by
  intro X hP hw hK hc i pins s σ H E I hf st hg;subst hP hw hK;obtain ⟨xs,hq,hx⟩:=hg;obtain ⟨its,rv,p,hz⟩:=I.list hq;obtain ⟨f0,f1,f2,f3,f4,f5⟩:=hf it (by simp);have hl:=rv.length;exact wpAny_pyNext_list_end (I.ok.hd hc) st p.isList (by simp;omega) fun h' eb=>⟨rfl,I.turned (t':=s.toks) (fun b o hb e=>eb b o hb e) f0 f1 f3 f4 f5⟩
 self:=fun _ _ _ _ _ st h=>wpAny_pyIter_listiter st h
def Ks {P:aaA} {w:World} {K:aaa} {tg:Expr} (a it:Addr):Turn P w K tg (Itt K a) [it] it (fun i h=>h.IsTupleIter it a i) where
 mem:=by simp
 obj:=fun i h st b hb=>by
  have e:b=it:=by simpa using hb
  subst e;obtain ⟨o,e,c,d⟩:=st;exact ⟨o,e,fun v z=>by rw [d] at z;cases z⟩
 keep:=fun i h h' st k=>st.at fun o e=>k it (by simp) o e
 item:=by
  intro X hP hw hK hc i pins s σ H E I hf st hg;subst hP hw hK;obtain ⟨xs,x,hq,hx⟩:=hg;obtain ⟨its,rv,p,hz⟩:=I.tuple hq;obtain ⟨u,hu,ru⟩:=rv.get hx;obtain ⟨f0,f1,f2,f3,f4,f5⟩:=hf it (by simp);refine wpAny_pyNext_tuple_item st (show s.heap.IsTuple a its.toArray from p) (x:=u) (by simpa using hu) fun h' st' sb=>?_
  have I1:Inv X pins σ H {s with heap:=h'}:=I.turned (t':=s.toks) (fun b o hb e=>(sb.2 b hb).trans e) f0 f1 f3 f4 f5;obtain ⟨o,e,c,d⟩:=id st';exact ⟨u,rfl,ky (s:={s with heap:=h'}) e c d (by decide) ⟨x,H,I1,ru,⟨rfl,fun ys hy=>by rw [I.tuple_inj hy hq];exact hx⟩,st',fun b hb=>(hf b hb).1⟩⟩
 done:=by
  intro X hP hw hK hc i pins s σ H E I hf st hg;subst hP hw hK;obtain ⟨xs,hq,hx⟩:=hg;obtain ⟨its,rv,p,hz⟩:=I.tuple hq;obtain ⟨f0,f1,f2,f3,f4,f5⟩:=hf it (by simp);have hl:=rv.length;exact wpAny_pyNext_tuple_end (I.ok.hd hc) st (show s.heap.IsTuple a its.toArray from p) (by simp;omega) fun h' eb=>⟨rfl,I.turned (t':=s.toks) (fun b o hb e=>eb b o hb e) f0 f1 f3 f4 f5⟩
 self:=fun _ _ _ _ _ st h=>wpAny_pyIter_tupleiter st h
def Kt {P:aaA} {w:World} {K:aaa} {tg:Expr} (it:Addr) (lo:Int) (n:Nat):Turn P w K tg (Itr lo n) [it] it (fun i h=>IsRangeIter h it (lo+(i:Nat)*1) ((n:Int)-(i:Nat)) 1) where
 mem:=by simp
 obj:=fun i h st b hb=>by
  have e:b=it:=by simpa using hb
  subst e
  exact ⟨_,st,fun v z=>by
   have z':Data.fields _=Data.cell v:=z
   cases z'⟩
 keep:=fun i h h' st k=>k it (by simp) _ st
 item:=by
  intro X hP hw hK hc i pins s σ H E I hf st hg;subst hP hw hK;obtain ⟨f0,f1,f2,f3,f4,f5⟩:=hf it (by simp);have W:=Walks.range (prog:=X.prog) (w:=X.w) (I.ok.hd hc) it lo 1 n;refine W.item i s _ _ hg st fun v h' tk hv st' kk=>?_
  obtain ⟨t,rfl⟩:=hv;have I1:Inv X pins σ H {s with heap:=h',toks:=tk}:=I.turned (fun b o hb e=>kk b o (by simpa using hb) e) f0 f1 f3 f4 f5;refine ⟨_,rfl,ky (s:={s with heap:=h',toks:=tk}) (n:= "range_iterator") st' rfl rfl (by decide) ⟨.int (lo+i),H,I1,⟨t,?_⟩,⟨rfl,rfl⟩,st',fun b hb=>(hf b hb).1⟩⟩;rw [Int.mul_one]
 done:=by
  intro X hP hw hK hc i pins s σ H E I hf st hg;subst hP hw hK;obtain ⟨f0,f1,f2,f3,f4,f5⟩:=hf it (by simp);exact wpAny_pyNext_range_end (I.ok.hd hc) st (by have:n<=i:=hg;omega) fun h' eb=>⟨rfl,I.turned (t':=s.toks) (fun b o hb e=>eb b o hb e) f0 f1 f3 f4 f5⟩
 self:=fun _ _ _ _ _ st h=>wpAny_pyIter_rangeiter st h
section
variable {X:Cx} {tg:Expr}
def vY {pins:List (Addr×Obj)} {σ:St} {H:Hp} {s:aaf} {R:It->Hp->Prop} {E:Xw} {lo hi:Int} {t u v:Tok} {tk:Nat} (I:Inv X pins σ H s) (h1: -(2^62)<=lo) (h2:lo<2^62) (h3: -(2^62)<=hi) (h4:hi<2^62)
   (q:R (Itr lo (hi-lo).toNat) H):wpAny (model X.prog X.w) X.A (pyIter (.ref s.heap.objs.size)) (PIE X pins σ tg R) E {s with heap:=s.heap.push {cls:= .type "range",data:= .fields #[.int lo t,.int hi u,.int 1 v]},toks:=tk}:=by
 refine wpAny_pyIter_range (IsRange.new ..) (small_one h1 h2 h3 h4) ?_;have I1:Inv X pins σ H {s with heap:=s.heap.push {cls:= .type "range",data:= .fields #[.int lo t,.int hi u,.int 1 v]},toks:=tk}:=I.kept fun b o e=>aae _ e
 refine ⟨(s.heap.push {cls:= .type "range",data:= .fields #[.int lo t,.int hi u,.int 1 v]}).objs.size,[(s.heap.push {cls:= .type "range",data:= .fields #[.int lo t,.int hi u,.int 1 v]}).objs.size],_,_,H,rfl,
   I1.kept (t':=tk) fun b o e=>aae _ e,Kt _ lo (hi-lo).toNat,?_,fun b hb=>?_,q⟩
 · have e1:lo+((0:Nat):Int)*1=lo:=by simp
   have e2:(((hi-lo).toNat:Nat):Int)-((0:Nat):Int)=Builtin.Range.rangeSize lo hi 1:=by rw [rangeSize_one];split<;>omega
   show IsRangeIter _ _ (lo+((0:Nat):Int)*1) ((((hi-lo).toNat:Nat):Int)-((0:Nat):Int)) 1;rw [e1,e2];exact aap _ rfl
 · have e:b=(s.heap.push {cls:= .type "range",data:= .fields #[.int lo t,.int hi u,.int 1 v]}).objs.size:=by simpa using hb
   subst e;exact I1.fpOk (aah _) (I1.hok.fresh (aah _))
def jeN (ta:TA):TI:=fun σ H R=>ta σ H fun vs H1=> ∃j:Int,vs=[.int j]/\ -(2^62)<=j/\j<2^62/\R (Itr 0 j.toNat) H1
def Us {a:Expr} {ta:TA} {p pos:Pos} (hg:Gl X "range") (hm:X.mg "range" =none) (ha:PA X [a] ta) (hs:aai [a] X.env=[(false,eval a X.env)]:=by rfl):PI X tg (.Call (.Name "range" p) [a] [] pos) (jeN ta):=by
 intro pins s σ H R I h;refine Call_ (WJ I hg hm boot_range (acK (thn (ha pos pins s σ H _ I h) fun us s1 ⟨vs,H1,I1,r1,q1⟩=>?_) hs rfl));obtain ⟨j,e,q1,q2,q⟩:=q1;subst e
 cases r1 with
 |cons r rr=>
  cases rr;obtain ⟨t,rfl⟩:=r;exact call_range_1 (vY I1 (by omega) (by omega) q1 q2 (by simpa using q))
def tFor (wi:TI) (g:TG) (tb:TS):TS:=fun D σ H=>wi σ H fun J H1=> ∃W:Nat->Nat->St->Hp->Prop,(∃m,W 0 m σ H1)/\ ∀i m σ H,W i m σ H->
 (J.stop i H/\D.nx σ H)\/(J.go i H/\ ∃N:St->Hp->Prop,(∀σ' H',N σ' H'-> ∃m',m'<m/\W (i+1) m' σ' H')/\ ∀x H',J.yld i H x H'->g x σ H' fun σ2 H2=>tb {D with nx:=N,ct:=N,bk:=D.nx} σ2 H2)
def Wq (fp:List Addr) (h:Heap):List (Addr×Obj):=fp.filterMap fun b=>(h.get? b).map fun o=>(b,o)
def wT {fp:List Addr} {h:Heap} {b:Addr} {o:Obj} (hb:b∈fp) (e:h.get? b=some o):(b,o)∈Wq fp h:=ads.mpr ⟨b,hb,by rw [e];rfl⟩
def UH {fp:List Addr} {h:Heap} {p:Addr×Obj} (hp:p∈Wq fp h):p.1∈fp/\h.get? p.1=some p.2:=by
 obtain ⟨b,hb,e⟩:=ads.mp hp
 cases q:h.get? b with
 |none=>rw [q] at e;cases e
 |some o=>
  rw [q] at e;have e':(b,o)=p:=aaD e;subst e';exact ⟨hb,q⟩
def Inv.pinned {pins:List (Addr×Obj)} {σ:St} {H:Hp} {s:aaf} {fp:List Addr} (I:Inv X pins σ H s) (hf: ∀b∈fp,FpOk X pins H b) (ho: ∀b∈fp,∃o,s.heap.get? b=some o/\ ∀v,o.data≠ .cell v):Inv X (pins++Wq fp s.heap) σ H s:=
 I.pins_of fun p hp=>(abr.mp hp).elim (fun z=>I.pin p (aaT _ z)) fun z=>by
  obtain ⟨hb,e⟩:=UH z;obtain ⟨f0,f1,f2,_⟩:=hf p.1 hb;obtain ⟨o,e',d⟩:=ho p.1 hb;rw [e] at e';cases e';exact ⟨e,f0,f1,f2,d⟩
def Inv.unpinned {pins pl:List (Addr×Obj)} {σ:St} {H:Hp} {s:aaf} (I:Inv X (pins++pl) σ H s):Inv X pins σ H s:=I.pins_of fun p hp=>I.pin p (aaT _ (ac3 _ hp))
def jaA {iter:Expr} {body:List Stmt} {wi:TI} {g:TG} {tb:TS} {pos:Pos} (hp:PassesOwn (model X.prog X.w) X.A X.env X.xe) (hc:X.calm=true) (hi:PI X tg iter wi) (hg:PG X tg g) (hb:PSs X body tb)
   (hs: ∀x,acV iter X.env x=pure x:=by intro _;rfl):PS X (.For tg iter body [] pos) (tFor wi g tb):=by
 intro pins s σ H D I h;refine wpAny_For (thn (hi pins s σ H _ I h) fun v s1 h1=>thn h1 fun itv s2 h2=>?_) hs;obtain ⟨it,fp,tn,J,H2,e,I2,T,st2,f2,W,⟨m0,w0⟩,turn⟩:=h2;subst e;have stat: ∀ {H':Hp},(∀b∈fp,H' b=none)-> ∀b∈fp,FpOk X pins H' b:=fun hn b hb=>⟨hn b hb,(f2 b hb).2⟩
 refine codeAny_forLoop_any (fun n s'=> ∃i σ' H',Inv X pins σ' H' s'/\tn i s'.heap/\(∀b∈fp,H' b=none)/\W i n σ' H') ?_ m0 ⟨0,σ,H2,I2,st2,fun b hb=>(f2 b hb).1,w0⟩;rintro n s3 ⟨i,σ3,H3,I3,st3,fr3,w3⟩;rcases turn i n σ3 H3 w3 with ⟨stop,qn⟩| ⟨go,N,hN,step⟩
 · refine acj hp (thn (T.done X rfl rfl rfl hc i pins s3 σ3 H3 X.xe I3 (stat fr3) st3 stop) fun r s4 ⟨hr,I4⟩=>?_);subst hr;exact adr ⟨σ3,H3,I4,qn⟩
 · refine acj hp (thn (T.item X rfl rfl rfl hc i pins s3 σ3 H3 X.xe I3 (stat fr3) st3 go) fun r s4 ⟨u,hr,h4⟩=>?_);subst hr;refine acj hp (thn h4 fun _ s5 ⟨x,H5,I5,r5,y5,st5,fr5⟩=>?_);have I5':=I5.pinned (stat fr5) (T.obj _ _ st5);refine acj hp (thn (hg _ s5 σ3 H5 x u _ I5' r5 (step x H5 y5)) fun _ s6 ⟨σ6,H6,I6,q6⟩=>?_);refine acj hp (thn (hb _ s6 σ6 H6 _ I6 q6) fun f s7 q7=>?_)
   have again: ∀ {σ7:St} {H7:Hp},Inv X (pins++Wq fp s5.heap) σ7 H7 s7->N σ7 H7-> ∃m,m<n/\ ∃i σ' H',Inv X pins σ' H' s7/\tn i s7.heap/\(∀b∈fp,H' b=none)/\W i m σ' H':=fun {σ7 H7} I7 n7=>by
    obtain ⟨m',hm,w7⟩:=hN σ7 H7 n7;refine ⟨m',hm,i+1,σ7,H7,I7.unpinned,T.keep _ _ _ st5 fun b hb o e=>(I7.pin (b,o) (aaT _ (aaT _ (wT hb e)))).1,fun b hb=>?_,w7⟩;obtain ⟨o,e,d⟩:=T.obj _ _ st5 b hb;exact (I7.pin (b,o) (aaT _ (aaT _ (wT hb e)))).2.1
   cases f with
   |next=>obtain ⟨σ7,H7,I7,n7⟩:=q7;exact again I7 n7
   |cont=>obtain ⟨σ7,H7,I7,n7⟩:=q7;exact again I7 n7
   |brk=>obtain ⟨σ7,H7,I7,q7⟩:=q7;exact ⟨σ7,H7,I7.unpinned,q7⟩
   |ret v=>obtain ⟨x7,σ7,H7,I7,r7,q7⟩:=q7;exact ⟨x7,σ7,H7,I7.unpinned,r7,q7⟩
end
abbrev R2:=V->V->Hp->VK->Prop
def OpR (X:Cx) (f:Value->Value->Sem Value) (r:R2):Prop:=
 ∀(pins:List (Addr×Obj)) (s:aaf) (σ:St) (H:Hp) (x y:V) (v u:Value) (Q:VK),Inv X pins σ H s->RelV x v->RelV y u->r x y H Q->
  wpAny (model X.prog X.w) X.A (f v u) (EP X pins σ Q) X.xe s
def UnR (X:Cx) (f:Value->Sem Value) (r:V->Hp->VK->Prop):Prop:=
 ∀(pins:List (Addr×Obj)) (s:aaf) (σ:St) (H:Hp) (x:V) (v:Value) (Q:VK),Inv X pins σ H s->RelV x v->r x H Q->
  wpAny (model X.prog X.w) X.A (f v) (EP X pins σ Q) X.xe s
def CallR (X:Cx) (f:Value) (r:List V->Hp->VK->Prop):Prop:=
 ∀(pins:List (Addr×Obj)) (s:aaf) (σ:St) (H:Hp) (xs:List V) (us:List Value) (Q:VK),Inv X pins σ H s->Vals xs us->r xs H Q->
  wpAny (model X.prog X.w) X.A (call f us) (EP X pins σ Q) X.xe s
def TruR (X:Cx) (r:V->Hp->(Bool->Hp->Prop)->Prop):Prop:=
 ∀(pins:List (Addr×Obj)) (s:aaf) (σ:St) (H:Hp) (x:V) (v:Value) (Q:Bool->Hp->Prop),Inv X pins σ H s->RelV x v->r x H Q->
  wpAny (model X.prog X.w) X.A (truthy v) (TP X pins σ Q) X.xe s
def tOp (r:R2) (ta tb:TE):TE:=fun σ H Q=>ta σ H fun x H1=>tb σ H1 fun y H2=>r x y H2 Q
def tUn (r:V->Hp->VK->Prop) (ta:TE):TE:=fun σ H Q=>ta σ H fun x H1=>r x H1 Q
def rI (C:Int->Int->Prop) (g:Int->Int->V):R2:=fun x y H Q=> ∃i j,x= .int i/\y= .int j/\C i j/\Q (g i j) H
def rI0 (g:Int->Int->V):R2:=fun x y H Q=> ∃i j,x= .int i/\y= .int j/\Q (g i j) H
def rU (g:Int->V):V->Hp->VK->Prop:=fun x H Q=> ∃i,x= .int i/\Q (g i) H
section
variable {X:Cx} {a b c:Expr} {ta tb tc:TE} {pos:Pos}
def binT (ha:PE X a ta) (hb:PE X b tb) {pins:List (Addr×Obj)} {s:aaf} {σ:St} {H:Hp} {R:V->V->Hp->Prop} (I:Inv X pins σ H s)
  (h:ta σ H fun x H1=>tb σ H1 fun y H2=>R x y H2) {Q:Xw} {f:Value->Value->Sem Value}
  (hf: ∀v u s2 x y H2,Inv X pins σ H2 s2->RelV x v->RelV y u->R x y H2->wpAny (model X.prog X.w) X.A (f v u) Q X.xe s2):
  wpAny (model X.prog X.w) X.A (eval a X.env) (fun v s₁=>wpAny (model X.prog X.w) X.A (eval b X.env) (fun u s₂=>wpAny (model X.prog X.w) X.A (f v u) Q X.xe s₂) X.xe s₁) X.xe s:=by
 refine thn (ha pins s σ H _ I h) fun v s1 ⟨x,H1,I1,r1,q1⟩=>?_
 refine thn (hb pins s1 σ H1 _ I1 q1) fun u s2 ⟨y,H2,I2,r2,q2⟩=>?_
 exact hf v u s2 x y H2 I2 r1 r2 q2
def ug {op:aej} {r:R2} (ho:OpR X (ab1 op) r) (ha:PE X a ta) (hb:PE X b tb):PE X (.BinOp a op b pos) (tOp r ta tb):=by
 intro pins s σ H Q I h;exact wpAny_BinOp (binT ha hb I h fun v u s2 x y H2 I2 rx ry q=>ho pins s2 σ H2 x y v u Q I2 rx ry q)
def jeD {op:UnaryOp} {r:V->Hp->VK->Prop} (ho:UnR X (unaryOp op) r) (ha:PE X a ta):PE X (.UnaryOp op a pos) (tUn r ta):=by
 intro pins s σ H Q I h;exact UnaryOp_ (thn (ha pins s σ H _ I h) fun v s1 ⟨x,H1,I1,r1,q1⟩=>ho pins s1 σ H1 x v Q I1 r1 q1)
def opI {f:Value->Value->Sem Value} {C:Int->Int->Prop} {g:Int->Int->Int}
  (rule: ∀(i j:Int) (t u:Tok) (s:aaf) (Q:Xw) (E:Xw),C i j->Q (.int (g i j) s.toks) {s with toks:=s.toks+1}->wpAny (model X.prog X.w) X.A (f (.int i t) (.int j u)) Q E s):
  OpR X f (rI C fun i j=> .int (g i j)):=by
 intro pins s σ H x y v u Q I rx ry h;obtain ⟨i,j,rfl,rfl,hc,q⟩:=h;obtain ⟨t,rfl⟩:=rx;obtain ⟨t',rfl⟩:=ry;exact rule i j t t' s _ _ hc ⟨.int (g i j),H,I.tok _,⟨_,rfl⟩,q⟩
def opI0 {f:Value->Value->Sem Value} {g:Int->Int->Int}
  (rule: ∀(i j:Int) (t u:Tok) (s:aaf) (Q:Xw) (E:Xw),Q (.int (g i j) s.toks) {s with toks:=s.toks+1}->wpAny (model X.prog X.w) X.A (f (.int i t) (.int j u)) Q E s):
  OpR X f (rI0 fun i j=> .int (g i j)):=by
 intro pins s σ H x y v u Q I rx ry h;obtain ⟨i,j,rfl,rfl,q⟩:=h;obtain ⟨t,rfl⟩:=rx;obtain ⟨t',rfl⟩:=ry;exact rule i j t t' s _ _ ⟨.int (g i j),H,I.tok _,⟨_,rfl⟩,q⟩
def opB0 {f:Value->Value->Sem Value} {g:Int->Int->Bool}
  (rule: ∀(i j:Int) (t u:Tok) (s:aaf) (Q:Xw) (E:Xw),Q (.bool (g i j)) s->wpAny (model X.prog X.w) X.A (f (.int i t) (.int j u)) Q E s):
  OpR X f (rI0 fun i j=> .bl (g i j)):=by
 intro pins s σ H x y v u Q I rx ry h;obtain ⟨i,j,rfl,rfl,q⟩:=h;obtain ⟨t,rfl⟩:=rx;obtain ⟨t',rfl⟩:=ry;exact rule i j t t' s _ _ ⟨.bl (g i j),H,I,rfl,q⟩
def CDiv (i j:Int):Prop:=0<j/\j<1073741824
def CPow (i j:Int):Prop:=0<=j/\j<=1000000/\i.natAbs<2^64
def op_add:OpR X (ab1 .Add) (rI0 fun i j=> .int (i+j)):=opI0 fun _ _ _ _ _ _ _ q=>add_int q
def jdn:OpR X (ab1 .Sub) (rI0 fun i j=> .int (i-j)):=opI0 fun _ _ _ _ _ _ _ q=>sub_int q
def yt:OpR X (ab1 .FloorDiv) (rI CDiv fun i j=> .int (i/j)):=opI fun i j _ _ _ _ _ hc q=>by
 have h1:(0:Int)<j:=hc.1;have h2:j<1073741824:=hc.2;exact floordiv_int (by omega) (by rw [Int.fdiv_eq_ediv_of_nonneg i (by omega)];exact q) (.inl (PyProof.noPylong_small (by omega)))
def JD:OpR X (ab1 .Mod) (rI (fun _ j=>0<j) fun i j=> .int (i%j)):=opI fun i j _ _ _ _ _ hc q=>by
 have h1:(0:Int)<j:=hc;exact mod_int' (by omega) (by rw [Int.fmod_eq_emod_of_nonneg i (by omega)];exact q)
def jdo:OpR X (ab1 .Pow) (rI CPow fun i j=> .int (i^j.toNat)):=opI fun _ _ _ _ _ _ _ hc q=>pow_int_small hc.1 hc.2.1 hc.2.2 q
def unI {f:Value->Sem Value} {g:Int->Int}
  (rule: ∀(i:Int) (t:Tok) (s:aaf) (Q:Xw) (E:Xw),Q (.int (g i) s.toks) {s with toks:=s.toks+1}->wpAny (model X.prog X.w) X.A (f (.int i t)) Q E s):
  UnR X f (rU fun i=> .int (g i)):=by
 intro pins s σ H x v Q I rx h;obtain ⟨i,rfl,q⟩:=h;obtain ⟨t,rfl⟩:=rx;exact rule i t s _ _ ⟨.int (g i),H,I.tok _,⟨_,rfl⟩,q⟩
def jcN:UnR X (unaryOp .USub) (rU fun i=> .int (-i)):=unI fun _ _ _ _ _ q=>neg_int q
end
def scal:V->V->Bool
 | .non,.non=>true| .non,.int _=>true| .int _,.non=>true| .non,.bl _=>true| .bl _,.non=>true| .non,.str _=>true| .str _,.non=>true
 | .int _,.int _=>true| .bl _,.bl _=>true| .str _,.str _=>true| .byt _,.byt _=>true
 | .int _,.str _=>true| .str _,.int _=>true| .bl _,.str _=>true| .str _,.bl _=>true
 |_,_=>false
def rEq:R2:=fun x y H Q=>scal x y=true/\Q (.bl (decide (x=y))) H
def jcg {i j:Int}:decide (V.int i=V.int j)=(i==j):=by
 rw [acI];simp
def jd3 {i j:Bool}:decide (V.bl i=V.bl j)=(i==j):=by
 rw [acI];simp
def jcf {i j:Str}:decide (V.str i=V.str j)=(i==j):=by
 rw [acI];simp
def jch {i j:Array UInt8}:decide (V.byt i=V.byt j)=(i.toList==j.toList):=by
 rw [acI];cases i;cases j;simp
section
variable {X:Cx} {a b c:Expr} {ta tb tc:TE} {pos:Pos}
def qZ {pins:List (Addr×Obj)} {σ:St} {H:Hp} {s:aaf} {Q:VK} {k k':Bool} (I:Inv X pins σ H s) (q:Q (.bl k) H) (e:k=k'):EP X pins σ Q (.bool k') s:=by
 subst e;exact ⟨.bl k,H,I,rfl,q⟩
def jeF:OpR X (abg .Eq) rEq:=by
 intro pins s σ H x y v u Q I rx ry h;obtain ⟨hs,q⟩:=h
 cases x with
 |non=>
  cases rx
  cases y with
  |non=>cases ry;exact PySem.EqNone.eq_none_none (qZ I q (by simp))
  |bl j=>cases ry;exact PySem.EqNone.eq_none_bool (qZ I q (by simp))
  |int j=>obtain ⟨t',rfl⟩:=ry;exact PySem.EqNone.eq_none_int (qZ I q (by simp))
  |str j=>obtain ⟨t',rfl⟩:=ry;exact PySem.EqNone.eq_none_str (qZ I q (by simp))
  |_=>exact absurd (show false=true from hs) aaC
 |bl i=>
  cases rx
  cases y with
  |non=>cases ry;exact PySem.EqNone.eq_bool_none (qZ I q (by simp))
  |bl j=>cases ry;exact eq_bool (qZ I q jd3)
  |str j=>obtain ⟨t',rfl⟩:=ry;exact PySem.EqMixed.eq_bool_str (qZ I q (by simp))
  |_=>exact absurd (show false=true from hs) aaC
 |int i=>
  obtain ⟨t,rfl⟩:=rx
  cases y with
  |non=>cases ry;exact PySem.EqNone.eq_int_none (qZ I q (by simp))
  |int j=>obtain ⟨t',rfl⟩:=ry;exact eq_int (qZ I q jcg)
  |str j=>obtain ⟨t',rfl⟩:=ry;exact PySem.EqMixed.eq_int_str (qZ I q (by simp))
  |_=>exact absurd (show false=true from hs) aaC
 |str i=>
  obtain ⟨t,rfl⟩:=rx
  cases y with
  |non=>cases ry;exact PySem.EqNone.eq_str_none (qZ I q (by simp))
  |bl j=>cases ry;exact PySem.EqMixed.eq_str_bool (qZ I q (by simp))
  |int j=>obtain ⟨t',rfl⟩:=ry;exact PySem.EqMixed.eq_str_int (qZ I q (by simp))
  |str j=>obtain ⟨t',rfl⟩:=ry;exact eq_str (qZ I q jcf)
  |_=>exact absurd (show false=true from hs) aaC
 |byt i=>
  obtain ⟨t,rfl⟩:=rx
  cases y with
  |byt j=>obtain ⟨t',rfl⟩:=ry;exact PySem.W.eq_bytes (qZ I q jch)
  |_=>exact absurd (show false=true from hs) aaC
 |_=>cases y<;>exact absurd (show false=true from hs) aaC
def Ww:OpR X (abg .LtE) (rI0 fun i j=> .bl (decide (i<=j))):=opB0 fun _ _ _ _ _ _ _ q=>le_int q
def uv:OpR X (abg .Gt) (rI0 fun i j=> .bl (decide (j<i))):=opB0 fun _ _ _ _ _ _ _ q=>gt_int q
def UE:OpR X (abg .In) (fun x y H Q=> ∃i j,x= .str i/\y= .str j/\Q (.bl (!(adt j i 0 j.length 1).isEmpty)) H):=by
 intro pins s σ H x y v u Q I rx ry h;obtain ⟨i,j,rfl,rfl,q⟩:=h;obtain ⟨t,rfl⟩:=rx;obtain ⟨t',rfl⟩:=ry;exact in_str (qZ I q rfl)
def OpR.or {f:Value->Value->Sem Value} {r r':R2} (h:OpR X f r) (h':OpR X f r'):OpR X f (fun x y H Q=>r x y H Q\/r' x y H Q):=by
 intro pins s σ H x y v u Q I rx ry q;rcases q with q|q
 · exact h pins s σ H x y v u Q I rx ry q
 · exact h' pins s σ H x y v u Q I rx ry q
def UJ (b:Expr) {op:CmpOp} (h:op≠ .In:=by decide) (h2:op≠ .NotIn:=by decide):adu op b=false:=by
 have e1:(op==CmpOp.In)=false:=by cases op<;>first|rfl|exact absurd rfl h
 have e2:(op==CmpOp.NotIn)=false:=by cases op<;>first|rfl|exact absurd rfl h2
 cases b<;>simp [adu,e1,e2]
def Uu {op:CmpOp} {r:R2} (ho:OpR X (abg op) r) (ha:PE X a ta) (hb:PE X b tb) (hm:adu op b=false):PE X (.Compare a [op] [b] pos) (tOp r ta tb):=by
 intro pins s σ H Q I h;exact wpAny_Compare1 (binT ha hb I h fun v u s2 x y H2 I2 rx ry q=>ho pins s2 σ H2 x y v u Q I2 rx ry q) hm
def ja9 (t:TE):TT:=fun σ H Q=>t σ H fun x H'=> ∃k,x= .bl k/\Q k H'
def jbo {op:CmpOp} {r:R2} (ho:OpR X (abg op) r) (ha:PE X a ta) (hb:PE X b tb) (hm:adu op b=false):PT X (.Compare a [op] [b] pos) (ja9 (tOp r ta tb)):=by
 intro pins s σ H Q I h
 refine wpAny_isTrue_Compare1 (thn (ha pins s σ H _ I h) fun v s1 ⟨x,H1,I1,r1,q1⟩=>thn (hb pins s1 σ H1 _ I1 q1) fun u s2 ⟨y,H2,I2,r2,q2⟩=>
  thn (ho pins s2 σ H2 x y v u _ I2 r1 r2 q2) fun c s3 ⟨z,H3,I3,r3,k,e,q3⟩=>?_) hm
 subst e;cases r3;exact abx ⟨H3,I3,q3⟩
def Vw (r r':R2) (ta tb tc:TE):TE:=fun σ H Q=>ta σ H fun x H1=>tb σ H1 fun y H2=>r x y H2 fun z H3=> ∃k,z= .bl k/\
 (if k=true then tc σ H3 fun w' H4=>r' y w' H4 Q else Q (.bl false) H3)
def ul {op op':CmpOp} {r r':R2} (ho:OpR X (abg op) r) (ho':OpR X (abg op') r') (ha:PE X a ta) (hb:PE X b tb) (hc:PE X c tc)
  (hm:lastMarks [op,op'] [b,c]=false:=by with_unfolding_all rfl):PE X (.Compare a [op,op'] [b,c] pos) (Vw r r' ta tb tc):=by
 intro pins s σ H Q I h
 refine Compare_chain (thn (ha pins s σ H _ I h) fun v s1 ⟨x,H1,I1,r1,q1⟩=>chain_link (thn (hb pins s1 σ H1 _ I1 q1) fun u s2 ⟨y,H2,I2,r2,q2⟩=>
  thn (ho pins s2 σ H2 x y v u _ I2 r1 r2 q2) fun d s3 ⟨z,H3,I3,r3,k,e,q3⟩=>?_)) hm
 subst e;cases r3;refine abx ?_
 cases k with
 |false=>exact ite_ff ⟨.bl false,H3,I3,rfl,q3⟩
 |true=>exact ite_tt (chain_last (thn (hc pins s3 σ H3 _ I3 q3) fun w' s4 ⟨z',H4,I4,r4,q4⟩=>ho' pins s4 σ H4 y z' u w' Q I4 r2 r4 q4))
def uc {op op':CmpOp} {r r':R2} (ho:OpR X (abg op) r) (ho':OpR X (abg op') r') (ha:PE X a ta) (hb:PE X b tb) (hc:PE X c tc)
  (hm:lastMarks [op,op'] [b,c]=false:=by with_unfolding_all rfl):PT X (.Compare a [op,op'] [b,c] pos) (ja9 (Vw r r' ta tb tc)):=by
 intro pins s σ H Q I h
 refine isTrue_chain (thn (ha pins s σ H _ I h) fun v s1 ⟨x,H1,I1,r1,q1⟩=>test_link (thn (hb pins s1 σ H1 _ I1 q1) fun u s2 ⟨y,H2,I2,r2,q2⟩=>
  thn (ho pins s2 σ H2 x y v u _ I2 r1 r2 q2) fun d s3 ⟨z,H3,I3,r3,k,e,q3⟩=>?_)) hm
 subst e;cases r3;refine abx ?_
 cases k with
 |false=>
  obtain ⟨k',e',q'⟩:=q3;cases e';exact ite_ff ⟨H3,I3,q'⟩
 |true=>
  refine ite_tt (test_last (thn (hc pins s3 σ H3 _ I3 q3) fun w' s4 ⟨z',H4,I4,r4,q4⟩=>thn (ho' pins s4 σ H4 y z' u w' _ I4 r2 r4 q4) fun d' s5 ⟨z2,H5,I5,r5,k2,e2,q5⟩=>?_));subst e2;cases r5;exact abx ⟨H5,I5,q5⟩
def TruV (K:aaa) (x:V) (H:Hp) (k:Bool):Prop:=
 match x with
 | .non=>k=false
 | .bl b=>k=b
 | .int i=>k=(i !=0)
 | .str y=>y.length<=aaj/\k=((y.length:Int) !=0)
 | .byt y=>y.size<=aaj/\k=((y.size:Int) !=0)
 | .ref p=>(∃xs,SqL K H p xs/\k=!xs.isEmpty)\/(∃xs,SqT K H p xs/\k=!xs.isEmpty)\/ ∃kvs,H p=some (.dK kvs)/\k=!kvs.isEmpty
 |_=>False
def K2 {κ:Type} {kvs:List (κ×V)} {vs:List (κ×Value)} (r:KV kvs vs):(!vs.isEmpty)=!kvs.isEmpty:=by
 cases r<;>rfl
def QM {xs:List V} {its:List Value} (r:Vals xs its):(!its.toArray.isEmpty)=!xs.isEmpty:=by
 cases r<;>simp
def JP:(aaj:Nat)<2^63:=by rw [abD];decide
def jcQ:TruR X (fun x H Q=> ∃k,TruV X.K x H k/\Q k H):=by
 intro pins s σ H x v Q I rx h;obtain ⟨k,e,q⟩:=h;have hl:=JP;have hs:aaj=16777216:=abD
 cases x with
 |non=>
  cases rx;have e':k=false:=e;subst e';exact truthy_none ⟨H,I,q⟩
 |bl b=>
  cases rx;have e':k=b:=e;subst e';exact abx ⟨H,I,q⟩
 |int i=>
  obtain ⟨t,rfl⟩:=rx;have e':k=(i !=0):=e;subst e';exact PySem.P.truthy_int ⟨H,I,q⟩
 |str y=>
  obtain ⟨t,rfl⟩:=rx;obtain ⟨hy,e'⟩:y.length<=aaj/\k=((y.length:Int) !=0):=e;subst e';exact PySem.P.truthy_str (by omega) ⟨H,I.tok _,q⟩
 |byt y=>
  obtain ⟨t,rfl⟩:=rx;obtain ⟨hy,e'⟩:y.size<=aaj/\k=((y.size:Int) !=0):=e;subst e';exact PySem.W.truthy_bytes (by omega) ⟨H,I.tok _,q⟩
 |ref p=>
  cases rx;have e':(∃xs,SqL X.K H p xs/\k=!xs.isEmpty)\/(∃xs,SqT X.K H p xs/\k=!xs.isEmpty)\/ ∃kvs,H p=some (.dK kvs)/\k=!kvs.isEmpty:=e;rcases e' with ⟨xs,hx,e'⟩| ⟨xs,hx,e'⟩| ⟨kvs,hx,e'⟩
  · subst e';obtain ⟨its,r,pl,hz⟩:=I.list hx;have hlen:=r.length;exact wpAny_truthy_list pl.isList (by simp only [aag];omega) ⟨H,I.tok _,by rw [QM r];exact q⟩
  · subst e';obtain ⟨its,r,pl,hz⟩:=I.tuple hx;have hlen:=r.length;exact truthy_tuple pl (by simp only [aag];omega) ⟨H,I.tok _,by rw [QM r];exact q⟩
  · subst e';obtain ⟨hz,hS,vs,r,m⟩:kvs.length<=aaj/\(p==abY)=false/\ ∃vs,KV kvs vs/\s.heap.DictOf (jE X.prog X.w) p vs:=I.hok p _ hx;have hlen:kvs.length=vs.length:=adp r;exact wpAny_truthy_dict hS m (by omega) ⟨H,I.tok _,by rw [K2 r];exact q⟩
 |_=>exact (show False from e).elim
def v0 (ha:PE X a ta) (he: ∀whole,isTrue a X.env whole=(do let v←whole;aeE a.pos;adq [v] (truthy v))):
  PT X a (fun σ H Q=>ta σ H fun x H'=> ∃k,TruV X.K x H' k/\Q k H'):=by
 intro pins s σ H Q I h;exact isTrue_plain (thn (ha pins s σ H _ I h) fun v s1 ⟨x,H1,I1,r1,q1⟩=>jcQ pins s1 σ H1 x v Q I1 r1 q1) (he _)
def op_add_str:OpR X (ab1 .Add) (fun x y H Q=> ∃i j,x= .str i/\y= .str j/\i.length+j.length<=aaj/\Q (.str (i++j)) H):=by
 intro pins s σ H x y v u Q I rx ry h;obtain ⟨i,j,rfl,rfl,hz,q⟩:=h;obtain ⟨t,rfl⟩:=rx;obtain ⟨t',rfl⟩:=ry;exact add_str (fun t' tk=>⟨.str (i++j),H,I.tok _,⟨_,rfl⟩,q⟩) hz
def xm {x:V} {us:List Value} (r:Vals [x] us): ∃u,us=[u]/\RelV x u:=by
 cases r with
 |cons r1 r2=>cases r2;exact ⟨_,rfl,r1⟩
def Vo {x y:V} {us:List Value} (r:Vals [x,y] us): ∃u w',us=[u,w']/\RelV x u/\RelV y w':=by
 cases r with
 |cons r1 r2=>
  cases r2 with
  |cons r3 r4=>cases r4;exact ⟨_,_,rfl,r1,r3⟩
def W6:CallR X (.type "str") (fun xs H Q=> ∃i,xs=[.int i]/\i.natAbs.log2<1920/\Q (.str (toString i)) H):=by
 intro pins s σ H xs us Q I r h;obtain ⟨i,rfl,hz,q⟩:=h;obtain ⟨u,rfl,t,rfl⟩:=xm r;exact PySem.P.str_of_int hz ⟨.str _,H,I.tok _,⟨_,rfl⟩,q⟩
def zq:CallR X (.builtin "divmod") (fun xs H Q=> ∃i j,xs=[.int i,.int j]/\CDiv i j/\ ∀p,H p=none->Q (.ref p) (upd H p (.tup [.int (i/j),.int (i%j)]))):=by
 intro pins s σ H xs us Q I r h;obtain ⟨i,j,rfl,⟨h1,h2⟩,q⟩:=h;obtain ⟨u,w',rfl,⟨t,rfl⟩,⟨t',rfl⟩⟩:=Vo r;refine divmod_int (by omega) ?_ (.inl (PyProof.noPylong_small (by omega)));rw [Int.fdiv_eq_ediv_of_nonneg i (by omega),Int.fmod_eq_emod_of_nonneg i (by omega)];have hn:H s.heap.objs.size=none:=I.hok.fresh (aah _);refine ⟨.ref s.heap.objs.size,_,?_,rfl,q _ hn⟩;refine I.laid (fun b o e=>aae _ e) (aah _) ⟨by simp only [aaF,abO];rw [abD];decide,[.int (i/j) s.toks,.int (i%j) (s.toks+1)],.cons ⟨_,rfl⟩ (.cons ⟨_,rfl⟩ .nil),?_⟩;exact ⟨_,aap s.heap rfl,rfl,0,rfl⟩
end
structure ObjM (h:Heap) (x dx C:Addr) (mA:Xy):Prop where
 obj:h.get? x=some (abN C dx)
 ns:h.Ns1 dx mA
 ne:dx≠x
def UT {h:Heap} {dx:Addr} {mA:Xy} (n:h.Ns1 dx mA): ∃od,h.get? dx=some od/\ ∀name,aeq name od=some (mA name):=by
 obtain ⟨o,es,ep,ho,hd,hk,_,hm⟩:=n;refine ⟨o,ho,fun name=>?_⟩;have e:=hm name;unfold nsFind findBy at e;rw [←Array.find?_toList] at e;unfold aeq;rw [hd];dsimp only
 split
 · rename_i y q;rw [q] at e;exact congrArg some e
 · rename_i q;rw [q] at e
   have a:es.toList.any (·.refKey)=false:=by
    rw [aev];intro y hy;obtain ⟨z,t,hkey⟩:=hk y (Array.mem_toList_iff.mp hy);simp [DictEntry.refKey,hkey]
   have a': ¬es.toList.any (·.refKey)=true:=by rw [a];exact aaC
   rw [if_neg a'];exact congrArg some e
def ObjM.look {h:Heap} {x dx C:Addr} {mA:Xy} (I:ObjM h x dx C mA): ∃od,PySem.W.InstAt h x (abN C dx) C (some od)/\ ∀name,aeq name od=some (mA name):=
 let ⟨od,ho,hl⟩:=UT I.ns
 ⟨od,⟨I.obj,rfl,rfl,ho⟩,hl⟩
section
variable {prog:aaA} {w:World} {A:aaU} {E:Xw} {s:aaf} {K:aaa} {x dx C f:Addr} {mA:Xy} {name:Str} {v:Value}
def jbX {expr:Bool} {Q:Xw} (X:K.In s.heap) (I:ObjM s.heap x dx C mA) (hg:ab6 K C name=true) (hh:ack K C=true)
  (ha:aaW K (.ref C) name=some none) (hv:mA name=some v) (hv':PySem.W.handedIn v=true) (h:Q v {s with toks:=s.toks+1}):
  wpAny (model prog w) A (getAttr (.ref x) name expr) Q E s:=by
 obtain ⟨od,J,hl⟩:=I.look;exact PySem.W.get_value X J (ad9 hg).1 (PySem.W.findObj_own hh ha rfl (by rw [hl,hv])) hv' h
def uV {pl:Sem Bool} {Q:Value×List Value->aaf->Prop} (X:K.In s.heap) (I:ObjM s.heap x dx C mA) (hg:ab6 K C name=true)
  (hf:aaW K (.ref C) name=some (some (.ref f))) (ht:aeS K (.ref f)=true) (hv:mA name=none) (h:Q (.ref f,[.ref x]) s):
  wpAny (model prog w) A (getMethod (.ref x) name pl) Q E s:=by
 obtain ⟨od,J,hl⟩:=I.look;exact PySem.W.method_fn X J (ad9 hg).1 (ad9 hg).2 hf (beq_iff_eq.mp ht) (by show (aeq name od).map (·.isSome)=some false;rw [hl,hv];rfl) h
def jbf {ns:List Str} {Q:Unit->aaf->Prop} (X:K.In s.heap) (I:ObjM s.heap x dx C mA)
  (hs:aaW K (.ref C) "__setattr__" =some (some (.builtin "object.__setattr__"))) (hp:acW K C=true) (ht:aeT K C name=some none) (hh:ack K C=true)
  (hw:PySem.Within mA ns) (hsz:ns.length<=aaj)
  (h: ∀h',ObjM h' x dx C (fun y=>if y=name then some v else mA y)->ab9 dx s.heap h'->Q () {s with heap:=h',toks:=s.toks+2}):
  wpAny (model prog w) A (setAttr (.ref x) name v) Q E s:=by
 obtain ⟨od,J,hl⟩:=I.look;refine PySem.W.set_plain X J hs (PySem.W.osa_open (s:={s with toks:=s.toks+1}) (r:=none) X J hp ht fun b=>?_);obtain ⟨cd,hc,hd'⟩:=PySem.W.any_some hh;have hx:s.heap.get? x=some ⟨.ref C,some dx,.plain, #[]⟩:=I.obj;refine aab (aad (aab (aab (wpAny_loadPart hx (aab (PySem.W.Looks.here (s:={s with toks:=s.toks+1}) (PySem.W.looks_clsIn X hc) ?_))))));rw [hd'];refine aad (a:=some dx) (aab (aad (aab ?_)));refine wpAny_nsSet1 (s:={s with toks:=s.toks+1}) I.ns fun h' hn2 hs2=>?_
 obtain ⟨oD,esD,epD,hoD,hdD,hcD⟩:=hn2.count (PySem.Within.cons name v hw);refine aab (wpAny_lookBehind hoD (by rw [hdD];exact pastItsLine_dict (aaN hcD (by rw [aaF];omega))) ?_);exact aad (h _ ⟨(hs2.2 _ (acD I.ne)).trans I.obj,hn2,I.ne⟩ hs2)
def uH {R:Result->aaf->Prop} {vs:List Value} {kw:List (Str×Value)} (X:K.In s.heap) (hm:abP K C=true)
  (hi:aaW K (.ref C) "__init__" =some (some (.ref f))) (hf:PySem.W.typeIn K (.ref f)=some (.type "function"))
  (h:adw (model prog w) (A.under (.builtin "type.__call__" ⟨.ref C::vs,kw⟩)) (.call (.ref f) ⟨.ref (s.heap.objs.size+1)::vs,kw⟩) (PySem.W.InitBack (s.heap.objs.size+1) R)
   {s with heap:=(s.heap.push abm).push (abN C s.heap.objs.size)}):
  adw (model prog w) A (.call (.ref C) ⟨vs,kw⟩) R s:=by
 obtain ⟨hh,g,d,t,os⟩:=s;exact PySem.W.make_core (PySem.W.makes_of X hm) (PySem.W.looks_findIn X hi) (fun self=>PySem.W.bind_fn X self hf) (.inl rfl) h
def UP {R:Result->aaf->Prop} (X:K.In s.heap) (hm:abP K C=true)
  (hi:aaW K (.ref C) "__init__" =some (some (.builtin "object.__init__")))
  (hb: ∀self,abJ (model prog w) s.heap (bindSpecial (.builtin "object.__init__") self) (.builtin "object.__init__",[self]))
  (h:adw (model prog w) (A.under (.builtin "type.__call__" ⟨[.ref C],[]⟩)) (.call (.builtin "object.__init__") ⟨[.ref (s.heap.objs.size+1)],[]⟩) (PySem.W.InitBack (s.heap.objs.size+1) R)
   {s with heap:=(s.heap.push abm).push (abN C s.heap.objs.size)}):
  adw (model prog w) A (.call (.ref C) ⟨[],[]⟩) R s:=by
 obtain ⟨hh,g,d,t,os⟩:=s;exact PySem.W.make_core (PySem.W.makes_of X hm) (PySem.W.looks_findIn X hi) hb (.inr ⟨rfl,rfl⟩) h
end
def putF (f:Str) (v:V):List (Str×V)->List (Str×V)
 | []=>[(f,v)]
 | (g,x)::r=>if g=f then (g,v)::r else (g,x)::putF f v r
theorem JN (f g:Str) (v:V): ∀fs:List (Str×V),(putF f v fs).lookup g=if g=f then some v else fs.lookup g
 | []=>by
  show aby g [(f,v)]=_
  by_cases h:g=f
  · have hb:(g==f)=true:=beq_iff_eq.mpr h;simp only [aby,hb,if_pos h]
  · have hb:(g==f)=false:=beq_eq_false_iff_ne.mpr h;simp only [aby,hb,if_neg h]
 | (k,x)::r=>by
  have ih:=JN f g v r;rw [show putF f v ((k,x)::r)=(if k=f then (k,v)::r else (k,x)::putF f v r) from rfl]
  by_cases hk:k=f
  · rw [if_pos hk]
    by_cases h:g=k
    · have hb:(g==k)=true:=beq_iff_eq.mpr h;simp only [aby,hb,if_pos (h.trans hk)]
    · have hb:(g==k)=false:=beq_eq_false_iff_ne.mpr h;simp only [aby,hb,if_neg (fun e:g=f=>h (e.trans hk.symm))]
  · rw [if_neg hk]
    by_cases h:g=k
    · have hb:(g==k)=true:=beq_iff_eq.mpr h;simp only [aby,hb,if_neg (fun e:g=f=>hk (h.symm.trans e))]
    · have hb:(g==k)=false:=beq_eq_false_iff_ne.mpr h;simp only [aby,hb];exact ih
theorem JS (f:Str) (v:V): ∀fs:List (Str×V),f∈(putF f v fs).map (·.1)/\ ∀g,g∈fs.map (·.1)->g∈(putF f v fs).map (·.1)
 | []=>⟨by simp [putF],fun g h=>by simp at h⟩
 | (k,x)::r=>by
  obtain ⟨i1,i2⟩:=JS f v r;rw [show putF f v ((k,x)::r)=(if k=f then (k,v)::r else (k,x)::putF f v r) from rfl]
  by_cases hk:k=f
  · rw [if_pos hk];subst hk;exact ⟨by simp,fun g h=>by simpa using h⟩
  · rw [if_neg hk];refine ⟨?_,fun g h=>?_⟩
    · rw [aaE];exact aat _ i1
    · rw [aaE] at h ⊢;rcases aaJ.mp h with e|e
      · exact aaJ.mpr (.inl e)
      · exact aat _ (i2 g e)
theorem JR (f:Str) (v:V): ∀fs:List (Str×V),(putF f v fs).length<=fs.length+1
 | []=>by simp [putF]
 | (k,x)::r=>by
  have ih:=JR f v r;rw [show putF f v ((k,x)::r)=(if k=f then (k,v)::r else (k,x)::putF f v r) from rfl]
  by_cases hk:k=f
  · rw [if_pos hk,aaF,aaF];omega
  · rw [if_neg hk,aaF,aaF];omega
def RelO.some_of {v:V} {o:Option Value} (r:RelO (some v) o): ∃u,o=some u/\RelV v u:=by
 cases o with
 |none=>exact (show False from r).elim
 |some u=>exact ⟨u,rfl,r⟩
def RelO.none_of {o:Option Value} (r:RelO none o):o=none:=by
 cases o with
 |none=>rfl
 |some u=>exact (show False from r).elim
def ku {v:V} {u:Value} (r:RelV v u):PySem.W.handedIn u=true:=by
 cases v with
 |non=>cases (show u=ab5 from r);rfl
 |bl b=>cases (show u=acU b from r);rfl
 |int i=>obtain ⟨t,e⟩:=(show∃t,u=aeQ i t from r);cases e;rfl
 |str x=>obtain ⟨t,e⟩:=(show∃t,u=Value.str x t from r);cases e;rfl
 |byt b=>obtain ⟨t,e⟩:=(show∃t,u=Value.bytes b t from r);cases e;rfl
 |flt b=>obtain ⟨t,e⟩:=(show∃t,u=Value.float b t from r);cases e;rfl
 |ref a=>cases (show u=aaz a from r);rfl
 |ty n=>cases (show u=adK n from r);rfl
section
variable {P:aaA} {w:World} {H H':Hp} {h h':Heap} {a C dx:Addr} {fs fs':List (Str×V)}
def ZI (hok:HOk P w H h) (e:H a=some (.ins C dx fs)): ∃mA,ObjM h a dx C mA/\(∀f,RelO (fs.lookup f) (mA f))/\PySem.Within mA (fs.map (·.1))/\fs.length<=1000/\H dx=some (.own a):=by
 obtain ⟨d,z,ne,ob,mA,n,r,q⟩:=(show ObjOk P w H h a (.ins C dx fs) from hok a _ e)
 exact ⟨mA,⟨ob,n,ne⟩,r,q,z,d⟩
end
structure Cls (K:aaa) (C:Addr):Prop where
 pg:ab6 K C Str.empty=true
 hd:ack K C=true
 po:acW K C=true
 sa:aaW K (.ref C) "__setattr__" =some (some (.builtin "object.__setattr__"))
def Cls.get {K:aaa} {C:Addr} (c:Cls K C) (f:Str):ab6 K C f=true:=c.pg
def NoAttr (K:aaa) (C:Addr) (f:Str):Prop:=aaW K (.ref C) f=some none
def NoAttr.taker {K:aaa} {C:Addr} {f:Str} (n:NoAttr K C f):aeT K C f=some none:=by
 unfold aeT;rw [show aaW K (.ref C) f=some none from n];rfl
structure Meth (K:aaa) (C:Addr) (m:Str) (f:Addr):Prop where
 at_:aaW K (.ref C) m=some (some (.ref f))
 fn:aeS K (.ref f)=true
 kp:aaX K (.ref f)=true
section
variable {X:Cx} {pins:List (Addr×Obj)} {σ:St} {H:Hp} {s:aaf} {a C dx:Addr} {fs:List (Str×V)} {f:Str} {v:V} {A:aaU} {E:Xw}
def K5 {b:Bool} {Q:Xw} (I:Inv X pins σ H s) (e:H a=some (.ins C dx fs)) (c:Cls X.K C) (n:NoAttr X.K C f) (l:fs.lookup f=some v)
  (h: ∀u s',Inv X pins σ H s'->RelV v u->Q u s'):wpAny (model X.prog X.w) A (getAttr (.ref a) f b) Q E s:=by
 obtain ⟨mA,O,r,_,_,_⟩:=ZI I.hok e;obtain ⟨u,hu,ru⟩:=RelO.some_of (v:=v) (o:=mA f) (by rw [←l];exact r f);exact jbX I.kIn O (c.get f) c.hd n hu (ku ru) (h u _ (I.tok _) ru)
def QO {m:Str} {g:Addr} {pl:Sem Bool} {Q:Value×List Value->aaf->Prop} (I:Inv X pins σ H s) (e:H a=some (.ins C dx fs)) (c:Cls X.K C) (k:Meth X.K C m g) (l:fs.lookup m=none)
  (h:Q (.ref g,[.ref a]) s):wpAny (model X.prog X.w) A (getMethod (.ref a) m pl) Q E s:=by
 obtain ⟨mA,O,r,_,_,_⟩:=ZI I.hok e;have hn:mA m=none:=RelO.none_of (by rw [←l];exact r m);exact uV I.kIn O (c.get m) k.at_ k.fn hn h
def Ky {y:V} {u:Value} {Q:Unit->aaf->Prop} (I:Inv X pins σ H s) (e:H a=some (.ins C dx fs)) (c:Cls X.K C) (n:NoAttr X.K C f) (hl:fs.length<1000) (ry:RelV y u)
   (h: ∀s',Inv X pins σ (upd H a (.ins C dx (putF f y fs))) s'->Q () s'):wpAny (model X.prog X.w) A (setAttr (.ref a) f u) Q E s:=by
 obtain ⟨mA,O,r,wi,_,ho⟩:=ZI I.hok e;have hz:(fs.map (·.1)).length<=aaj:=by rw [aan,abD];omega
 refine jbf I.kIn O c.sa c.po n.taker c.hd wi hz fun h' O' sb=>h _ ?_
 have hd: ∃o,h'.get? dx=some o:=let ⟨o,_,_,e',_⟩:=O'.ns;⟨o,e'⟩
 refine I.write (x:=a) (e:=dx) (by rw [e];exact acz) (.inr ho) (fun b q hb z=>(sb.2 b hb).trans z) hd ?_;refine ⟨by rw [jp O.ne];exact ho,?_,O.ne,O'.obj,_,O'.ns,fun g=>?_,fun g hg=>?_⟩
 · have:=JR f y fs;omega
 · show RelO ((putF f y fs).lookup g) (if g=f then some u else mA g);rw [JN]
   by_cases q:g=f
   · rw [if_pos q,if_pos q];exact ry
   · rw [if_neg q,if_neg q];exact r g
 · by_cases q:g=f
   · rw [q];exact (JS f y fs).1
   · refine (JS f y fs).2 g (wi g fun z=>hg ?_);show (if g=f then some u else mA g)=none;rw [if_neg q];exact z
def Inv.made (I:Inv X pins σ H s):Inv X pins σ (upd (upd H s.heap.objs.size (.own (s.heap.objs.size+1))) (s.heap.objs.size+1) (.ins C s.heap.objs.size []))
  {s with heap:=(s.heap.push abm).push (abN C s.heap.objs.size)}:=by
 have e1:(s.heap.push abm).get? s.heap.objs.size=some abm:=aap s.heap rfl
 have e2:((s.heap.push abm).push (abN C s.heap.objs.size)).get? (s.heap.objs.size+1)=some (abN C s.heap.objs.size):=by
  have:=aap (s.heap.push abm) (o:=abN C s.heap.objs.size) rfl
  rwa [adO] at this
 have e3:(s.heap.push abm).Ns s.heap.objs.size (fun _=>none):=⟨abm, #[],_,e1,rfl,(fun e he=>absurd he (by simp)),fun _=>rfl⟩
 have I1:=I.laid (a:=s.heap.objs.size) (o:= .own (s.heap.objs.size+1)) (h':=s.heap.push abm) (t':=s.toks) (fun b u q=>aae _ q) (aah _) ⟨_,e1⟩;refine I1.laid (a:=s.heap.objs.size+1) (o:= .ins C s.heap.objs.size []) (t':=s.toks) (fun b u q=>aae _ q) (Nat.le_of_eq (adO _ _)) ?_;have ne:s.heap.objs.size≠s.heap.objs.size+1:=aax (acw _);refine ⟨by rw [jp ne,jj],aa4 _,ne,e2,fun _=>none,(Heap.Ns1.of_empty e3).at fun o q=>aae _ q,fun _=>acz,fun y hy=>absurd rfl hy⟩
def jcw {prog:aaA} {w:World} {env:Env} {e:Expr} {f:Str} {pos:Pos} {s:aaf} {Q:Xw} (hb:abV e f env (eval e env)=eval e env)
  (h:wpAny (model prog w) A (eval e env) (fun o s₁=>wpAny (model prog w) A (getAttr o f true) Q E s₁) E s):wpAny (model prog w) A (eval (.Attribute e f pos) env) Q E s:=
 Attribute_any_ h (by rw [arm_eval_Attribute,hb])
end
def tFld (K:aaa) (ta:TE) (f:Str):TE:=fun σ H Q=>ta σ H fun x H1=> ∃a C dx fs v,x= .ref a/\H1 a=some (.ins C dx fs)/\Cls K C/\NoAttr K C f/\fs.lookup f=some v/\Q v H1
def sFld (K:aaa) (ta tv:TE) (f:Str):TS:=fun D σ H=>tv σ H fun y H1=>ta σ H1 fun x H2=> ∃a C dx fs,x= .ref a/\H2 a=some (.ins C dx fs)/\Cls K C/\NoAttr K C f/\fs.length<1000/\
 D.nx σ (upd H2 a (.ins C dx (putF f y fs)))
section
variable {X:Cx} {o e value:Expr} {f:Str} {pos pos' tpos:Pos} {ta tv:TE}
def jdl (he:PE X e ta) (hb:abV e f X.env (eval e X.env)=eval e X.env):PE X (.Attribute e f pos) (tFld X.K ta f):=by
 intro pins s σ H Q I h;refine jcw hb (thn (he pins s σ H _ I h) fun u s1 ⟨x,H1,I1,rx,a,C,dx,fs,v,ex,ea,c,n,l,q⟩=>?_);subst ex;obtain rfl:u=aaz a:=rx;exact K5 I1 ea c n l fun u' s2 I2 ru=>⟨v,H1,I2,ru,q⟩
def jdb (ha:PE X o ta) (hv:PE X value tv) (hs:aca value (some (.Attribute o f pos')) pos.line X.env=pure false):PS X (.Assign [.Attribute o f pos'] value pos) (sFld X.K ta tv f):=by
 intro pins s σ H D I h;refine plainObj_wpAny_Assign_Attribute (thn (hv pins s σ H _ I h) fun u s1 ⟨y,H1,I1,ry,q⟩=>thn (ha pins s1 σ H1 _ I1 q) fun ov s2 ⟨x,H2,I2,rx,a,C,dx,fs,ex,ea,c,n,l,q2⟩=>?_) hs;subst ex;obtain rfl:ov=aaz a:=rx;exact Ky I2 ea c n l ry fun s3 I3=>⟨σ,_,I3,q2⟩
end
section
variable {X:Cx} {pins:List (Addr×Obj)} {σ:St} {H:Hp} {s:aaf} {A:aaU} {E:Xw} {Q:Xw} {c:Value} {b:Bool}
inductive TyOf (K:aaa) (H:Hp):V->Value->Prop where
 |non:TyOf K H .non (.type "NoneType")
 |bl (x:Bool):TyOf K H (.bl x) (.type "bool")
 |int (i:Int):TyOf K H (.int i) (.type "int")
 |str (x:Str):TyOf K H (.str x) (.type "str")
 |flt (x:UInt64):TyOf K H (.flt x) (.type "float")
 |lst {a:Addr} {xs:List V} (e:H a=some (.lst xs)):TyOf K H (.ref a) (.type "list")
 |frz {a:Addr} {o:Obj} {xs:List V} (e:H a=some (.frz o (.lst xs))):TyOf K H (.ref a) (.type "list")
 |tup {a:Addr} {xs:List V} (e:H a=some (.tup xs)):TyOf K H (.ref a) (.type "tuple")
 |dK {a:Addr} {kvs:List (Key×V)} (e:H a=some (.dK kvs)):TyOf K H (.ref a) (.type "dict")
 |dT {a:Addr} {kvs:List (List Key×V)} (e:H a=some (.dT kvs)):TyOf K H (.ref a) (.type "dict")
 |ins {a C dx:Addr} {fs:List (Str×V)} (e:H a=some (.ins C dx fs)) (cl:Cls K C) (ha:aaW K (.ref C) "__class__" =some (some (.builtin "object.__class__")))
  (hn:PySem.W.specialIn K (.builtin "object.__class__") "__get__" =some (some (.builtin "getset_descriptor.__get__"))) (htk:PySem.W.takesIn K (.builtin "object.__class__")=some true)
  (hm:PySem.W.mroIn K C (.type "object")=some true):TyOf K H (.ref a) (.ref C)
def ka {x:V} {u t:Value} (I:Inv X pins σ H s) (rx:RelV x u) (ty:TyOf X.K H x t) (e:aaI X.K t c=some b) (h: ∀tk,Q (.bool b) {s with toks:=tk}):
  wpAny (model X.prog X.w) A (call (.builtin "isinstance") [u,c]) Q E s:=by
 cases ty with
 |non=>cases (show u=ab5 from rx);exact abh PySem.W.kitx_none I.kIn acz e (fun z=>nomatch z) h
 |bl y=>cases (show u=acU y from rx);exact abh PySem.W.kitx_bool I.kIn acz e (fun z=>nomatch z) h
 |int i=>obtain ⟨t,q⟩:=(show∃t,u=aeQ i t from rx);cases q;exact abh PySem.W.kitx_int I.kIn acz e (fun z=>nomatch z) h
 |str y=>obtain ⟨t,q⟩:=(show∃t,u=Value.str y t from rx);cases q;exact abh PySem.W.kitx_str I.kIn acz e (fun z=>nomatch z) h
 |flt y=>obtain ⟨t,q⟩:=(show∃t,u=Value.float y t from rx);cases q;exact abh PySem.W.kitx_float I.kIn acz e (fun z=>nomatch z) h
 | @lst a xs ea=>
  cases (show u=aaz a from rx);obtain ⟨_,_,n,_,h1⟩:=(show ObjOk X.prog X.w H s.heap a (.lst xs) from I.hok a _ ea)
  exact abh aew I.kIn ⟨_,h1,rfl⟩ e (fun z=>nomatch z) h
 | @frz a ob xs ea=>
  cases (show u=aaz a from rx);obtain ⟨_,_,_,n,_,h1⟩:=(show ObjOk X.prog X.w H s.heap a (.frz ob (.lst xs)) from I.hok a _ ea)
  exact abh aew I.kIn ⟨_,h1,rfl⟩ e (fun z=>nomatch z) h
 | @tup a xs ea=>
  cases (show u=aaz a from rx);obtain ⟨_,_,_,p⟩:=(show ObjOk X.prog X.w H s.heap a (.tup xs) from I.hok a _ ea)
  obtain ⟨o,h1,h2,_⟩:=p;exact abh PySem.W.kitx_tuple I.kIn ⟨o,h1,h2⟩ e (fun z=>nomatch z) h
 | @dK a kvs ea=>
  cases (show u=aaz a from rx);obtain ⟨_,_,vs,_,p⟩:=(show ObjOk X.prog X.w H s.heap a (.dK kvs) from I.hok a _ ea)
  obtain ⟨o,es,ep,h1,h2,_⟩:=p;exact abh PySem.W.kitx_dict I.kIn ⟨o,h1,h2.1⟩ e (fun z=>nomatch z) h
 | @dT a kvs ea=>
  cases (show u=aaz a from rx);obtain ⟨_,_,xs,_,o,es,ep,h1,h2,_⟩:=(show ObjOk X.prog X.w H s.heap a (.dT kvs) from I.hok a _ ea)
  exact abh PySem.W.kitx_dict I.kIn ⟨o,h1,h2.1⟩ e (fun z=>nomatch z) h
 | @ins a C dx fs ea cl ha hn htk hm=>
  cases (show u=aaz a from rx);obtain ⟨mA,O,_⟩:=ZI I.hok ea;obtain ⟨od,J,_⟩:=O.look;exact abh (PySem.W.kitx_own (cl.get _) cl.hd ha hn htk hm) I.kIn J e (fun z=>nomatch z) h
end
structure Room (k:Nat) (A:aaU):Prop where
 hd:A.handled=none
 dp:A.depth+3*k+5<recursionLimit
 un:A.units+16*k+200<cLine
def Room.mono {j k:Nat} {A:aaU} (r:Room k A) (h:j<=k):Room j A:=⟨r.hd,by have:=r.dp;omega,by have:=r.un;omega⟩
def Room.deeper {k:Nat} {A:aaU} (r:Room (k+1) A) (env:Env):Room k (A.deeper env):=
 ⟨r.hd,by have:=r.dp;show A.depth+1+3*k+5<_;omega,by have:=r.un;show A.units+3+16*k+200<_;omega⟩
def KY {A:aaU} {C:Addr} {us:List Value} {kw:List (Str×Value)}:(A.under (.builtin "type.__call__" ⟨.ref C::us,kw⟩)).depth=A.depth+1:=by
 first|rfl|simp [Around.under,Code.weight,Code.isCreation,Code.isGuard,Code.isCaller,Code.frames,Code.isFrame,guardIds]
def KW {A:aaU} {C:Addr} {us:List Value} {kw:List (Str×Value)}:(A.under (.builtin "type.__call__" ⟨.ref C::us,kw⟩)).units=A.units+1:=by
 first|rfl|simp [Around.under,Code.cUnits,Code.frames,Code.isFrame]
def Room.make {k:Nat} {A:aaU} (r:Room (k+1) A) (C:Addr) (us:List Value) (kw:List (Str×Value)):Room k (A.under (.builtin "type.__call__" ⟨.ref C::us,kw⟩)):=
 ⟨r.hd,by have:=r.dp;rw [KY];omega,by have:=r.un;rw [KW];omega⟩
def Room.depth {k:Nat} {A:aaU} (r:Room k A):A.depth<recursionLimit:=by have:=r.dp;omega
def Room.units {k:Nat} {A:aaU} (r:Room k A):A.units+64<cLine:=by have:=r.un;omega
def tNil:TA:=fun _ H Q=>Q [] H
def jes (ta:TE) (tr:TA):TA:=fun σ H Q=>ta σ H fun x H1=>tr σ H1 fun xs H2=>Q (x::xs) H2
section
variable {X:Cx} {e:Expr} {es:List Expr} {te:TE} {t:TA} {pos:Pos}
def qS:PA X [] tNil:=fun _ _ _ _ H Q I h=>Calls.spliced_nil ⟨[],H,I,.nil,h⟩
def jM (ha:PE X e te) (hr:PA X es t) (hs:Wm X e es:=by rfl):PA X (e::es) (jes te t):=by
 intro pos pins s σ H Q I h;rw [hs];show wpAny _ _ (spliced ((false,eval e X.env)::abn pos (aai es X.env))) _ _ s;refine Calls.spliced_cons (thn (ha pins s σ H _ I h) fun u s1 ⟨x,H1,I1,r1,q1⟩=>?_);exact thn (hr pos pins s1 σ H1 _ I1 q1) fun us s2 ⟨xs,H2,I2,r2,q2⟩=>⟨x::xs,H2,I2,.cons r1 r2,q2⟩
def tTup (t:TA):TE:=fun σ H Q=>t σ H fun xs H1=>xs.length<=aaj/\ ∀p,H1 p=none->Q (.ref p) (upd H1 p (.tup xs))
def tLst (t:TA):TE:=fun σ H Q=>t σ H fun xs H1=>xs.length<=aaj/\ ∀p,H1 p=none->Q (.ref p) (upd H1 p (.lst xs))
def jde {x1} (h:PA X es t):PE X (.Tuple es x1 pos) (tTup t):=by
 intro pins s σ H Q I hq;refine wpAny_Tuple_spliced (thn (h pos pins s σ H _ I hq) fun us s1 ⟨xs,H1,I1,r,z,q⟩=>⟨by rw [←r.length];exact z,?_⟩);have hf:H1 s1.heap.objs.size=none:=I1.hok.fresh (aah _);refine ⟨.ref s1.heap.objs.size,upd H1 s1.heap.objs.size (.tup xs),I1.laid (t':=s1.toks) (fun b u e=>aae _ e) (aah _) ?_,rfl,q _ hf⟩;exact ⟨z,us,r,⟨_,aap _ rfl,rfl,_,rfl⟩⟩
def jdj (h:PA X es t):PE X (.List es pos) (tLst t):=by
 intro pins s σ H Q I hq;refine wpAny_List_spliced (thn (h pos pins s σ H _ I hq) fun us s1 ⟨xs,H1,I1,r,z,q⟩=>⟨by rw [←r.length];exact z,?_⟩);have hf:H1 s1.heap.objs.size=none:=I1.hok.fresh (aah _);refine ⟨.ref s1.heap.objs.size,upd H1 s1.heap.objs.size (.lst xs),I1.laid (t':=s1.toks) (fun b u e=>aae _ e) (aah _) ?_,rfl,q _ hf⟩;exact ⟨z,us,0,r,aap _ rfl⟩
end
abbrev Sp:=List V->Hp->VK->XK->Prop
abbrev CXT:=List Env->Hp->aaf->XK->Value->aaf->Prop
structure Env0 (P:aaA) (w:World) (K:aaa) (mg:Xy) (base:Heap) (A:aaU) (outer:List Env) (s:aaf) (H:Hp):Prop where
 frames:A.frames=some outer
 mod:Mod K mg base
 bs: ∀b o,base.get? b=some o->s.heap.get? b=some o/\H b=none
 bsz:base.objs.size<=s.heap.objs.size
 funs:s.heap.FunFrames base outer
 frf: ∀b∈frs outer,H b=none
 hok:HOk P w H s.heap
 bare:aeD s.gens
def CE (outer:List Env) (P:aaA) (w:World) (H:Hp) (s:aaf) (Q:VK) (u:Value) (s':aaf):Prop:=
 ∃v H',s'.os=s.os/\aeD s'.gens/\Un (frs outer) [] H H' s.heap s'.heap/\HOk P w H' s'.heap/\RelV v u/\Q v H'
def CR (CX:CXT) (outer:List Env) (P:aaA) (w:World) (H:Hp) (s:aaf) (Q:VK) (E:XK) (r:Result) (s':aaf):Prop:=
 match r with
 | .ok (.ret u)=>CE outer P w H s Q u s'
 | .ok _=>False
 | .error e=>CX outer H s E e s'
structure FnOk (P:aaA) (w:World) (K:aaa) (mg:Xy) (base:Heap) (CX:CXT) (k:Nat) (f:Addr) (fd:abK) (ps:List Str) (sp:Sp):Prop where
 len: ∀vs H Q E,sp vs H Q E->vs.length=ps.length
 run: ∀(A:aaU) (outer:List Env) (s:aaf) (H:Hp) (args:Args) (us:List Value) (vs:List V) (Q:VK) (E:XK),Room k A->Env0 P w K mg base A outer s H->BindsTo s fd args (ps.zip us)->Vals vs us->sp vs H Q E->
  adw (model P w) A (.call (.ref f) args) (CR CX outer P w H s Q E) s
def FnOk.mono {P:aaA} {w:World} {K:aaa} {mg:Xy} {base:Heap} {CX:CXT} {j k:Nat} {f:Addr} {fd:abK} {ps:List Str} {sp:Sp} (F:FnOk P w K mg base CX j f fd ps sp) (h:j<=k):
 FnOk P w K mg base CX k f fd ps sp:=⟨F.len,fun A outer s H args us vs Q E hr=>F.run A outer s H args us vs Q E (hr.mono h)⟩
def Env0.make {P:aaA} {w:World} {K:aaa} {mg:Xy} {base:Heap} {A:aaU} {outer:List Env} {s:aaf} {H:Hp} (e:Env0 P w K mg base A outer s H) (C:Addr) (us:List Value) (kw:List (Str×Value)):
 Env0 P w K mg base (A.under (.builtin "type.__call__" ⟨.ref C::us,kw⟩)) outer s H:=⟨by first|exact e.frames| (simpa [Around.under,Code.envs,Code.isFrame,pushEnvs] using e.frames),e.mod,e.bs,e.bsz,e.funs,e.frf,e.hok,e.bare⟩
section
variable {X:Cx} {pins:List (Addr×Obj)} {σ:St} {H:Hp} {s s':aaf}
def Inv.env0 (I:Inv X pins σ H s):Env0 X.prog X.w X.K X.mg X.base X.A X.stack s H:=
 ⟨I.ok.frames,I.ok.mod,I.bs,aaN I.ok.bsz I.sz,I.stack,I.stkFree,I.hok,I.bare⟩
def Inv.after {Q:VK} {u:Value} (I:Inv X pins σ H s) (h:CE X.stack X.prog X.w H s Q u s'):EP X pins σ Q u s':=by
 obtain ⟨v,H',os,bare,un,hok,r,q⟩:=h;obtain ⟨hh,g,d,t,os'⟩:=s';obtain rfl:os'=s.os:=os;exact ⟨v,H',I.call (h':=hh) (g':=g) (d':=d) (t':=t) (ch:=[]) un hok bare (fun b z=>absurd z (by simp)),r,q⟩
end
def jet (sp:Sp) (dvs:List V) (E:XK) (t:TA):TE:=fun σ H Q=>t σ H fun vs H1=>sp (vs++dvs) H1 Q E
def jcU (C:Addr) (m:Str) (sp:Sp) (dvs:List V) (E:XK) (ta:TE) (t:TA):TE:=fun σ H Q=>ta σ H fun x H1=> ∃a dx fs,x= .ref a/\H1 a=some (.ins C dx fs)/\fs.lookup m=none/\
 t σ H1 fun vs H2=>sp (x::(vs++dvs)) H2 Q E
def Binds (K:aaa) (fd:abK) (ps:List Str) (ds:List Value):Prop:=
 ∀(s:aaf) (us:List Value),K.In s.heap->(us++ds).length=ps.length->BindsTo s fd ⟨us,[]⟩ (ps.zip (us++ds))
def Binds.all {K:aaa} {fd:abK} {ps:List Str} (h: ∀us:List Value,us.length=ps.length->bindArgs fd ⟨us,[]⟩=pure (ps.zip us)):Binds K fd ps []:=fun s us _ hl=>by
 rw [abq] at hl ⊢;exact .of_eq (h us hl)
def Qi (CX:CXT) (X:Cx) (E:XK):Prop:= ∀(pins:List (Addr×Obj)) (σ:St) (H:Hp) (s:aaf) (e:Value) (s':aaf),Inv X pins σ H s->CX X.stack H s E e s'->X.xe e s'
section
variable {X:Cx} {CX:CXT} {k:Nat} {f C:Addr} {fd:abK} {ps:List Str} {sp:Sp} {dvs:List V} {ds:List Value} {E:XK} {x m:Str} {p pos apos:Pos} {e o:Expr} {es:List Expr} {ta:TE} {t:TA}
def VU {pins:List (Addr×Obj)} {σ:St} {H:Hp} {s:aaf} {Q:VK} {us:List Value} {vs:List V} (F:FnOk X.prog X.w X.K X.mg X.base CX k f fd ps sp) (hr:Room k X.A) (hb:Binds X.K fd ps ds) (hd:Vals dvs ds) (hx:Qi CX X E)
  (I:Inv X pins σ H s) (r:Vals vs us) (h:sp (vs++dvs) H Q E):wpAny (model X.prog X.w) X.A (call (.ref f) us) (EP X pins σ Q) X.xe s:=by
 have r2:Vals (vs++dvs) (us++ds):=r.append hd;have hl:(us++ds).length=ps.length:=by rw [←r2.length];exact F.len _ _ _ _ h
 refine wpAny_call (adj (F.run X.A X.stack s H ⟨us,[]⟩ (us++ds) (vs++dvs) Q E hr I.env0 (hb s us I.kIn hl) r2 h) fun r s' hq=>?_)
 cases r with
 |error e=>exact hx pins σ H s e s' I hq
 |ok fl=>
  cases fl with
  |ret u=>exact I.after hq
  |next=>exact abC hq
  |brk=>exact abC hq
  |cont=>exact abC hq
def XH (F:FnOk X.prog X.w X.K X.mg X.base CX k f fd ps sp) (hr:Room k X.A) (hg:Gl X x) (hm:X.mg x=some (.ref f)) (hk:aaX X.K (.ref f)=true) (hb:Binds X.K fd ps ds) (hd:Vals dvs ds) (hx:Qi CX X E)
  (ha:PA X (e::es) t) (hdb:Yx x:=by decide) (he:Wm X e es:=by rfl) (hpl:Wl X pos es:=by rfl):
  PE X (.Call (.Name x p) (e::es) [] pos) (jet sp dvs E t):=by
 intro pins s σ H Q I h;refine acF (xA I hg hm ?_ hdb);refine aek (h₀:=X.base) I.ok.mod.kin hk (thn (ha pos pins s σ H _ I h) fun us s1 ⟨vs,H1,I1,r,q⟩=>⟨I1.kIn,?_⟩) he hpl;exact VU F hr hb hd hx I1 r q
def jbs {pl:Sem Bool} (he:PE X o ta) (c:Cls X.K C) (hm:Meth X.K C m f) (F:FnOk X.prog X.w X.K X.mg X.base CX k f fd ps sp) (hr:Room k X.A) (hb:Binds X.K fd ps ds) (hd:Vals dvs ds) (hx:Qi CX X E) (ha:PA X (e::es) t)
  (hst:Wm X e es:=by rfl) (hpl:Wl X pos es:=by rfl)
  (ht:eval (.Call (.Attribute o m apos) (e::es) [] pos) X.env=(do
   let ov←eval o X.env
   aeE apos.atName
   let (f,first)←adq [ov] (getMethod ov m pl)
   callWith pos f first (abn pos (aai (e::es) X.env)) (adc pos (abT [] X.env))):=by rfl):
  PE X (.Call (.Attribute o m apos) (e::es) [] pos) (jcU C m sp dvs E ta t):=by
 intro pins s σ H Q I h;refine PySem.W.methodCall_KW (pl:=pl) (thn (he pins s σ H _ I h) fun u s1 ⟨x,H1,I1,rx,a,dx,fs,ex,ea,l,q⟩=>?_) ht;subst ex;obtain rfl:u=aaz a:=rx;refine QO I1 ea c hm l ?_;refine aek (first:=[.ref a]) (h₀:=X.base) I.ok.mod.kin hm.kp (thn (ha pos pins s1 σ H1 _ I1 q) fun us s2 ⟨vs,H2,I2,r,q2⟩=>⟨I2.kIn,?_⟩) hst hpl;exact VU (us:= .ref a::us) (vs:= .ref a::vs) F hr hb hd hx I2 (.cons rfl r) q2
def uh {pl:Sem Bool} (he:PE X o ta) (c:Cls X.K C) (hm:Meth X.K C m f) (F:FnOk X.prog X.w X.K X.mg X.base CX k f fd ps sp) (hr:Room k X.A) (hb:Binds X.K fd ps ds) (hd:Vals dvs ds) (hx:Qi CX X E)
  (ht:eval (.Call (.Attribute o m apos) [] [] pos) X.env=(do
   let ov←eval o X.env
   aeE apos.atName
   let (f,first)←adq [ov] (getMethod ov m pl)
   callWith pos f first (abn pos (aai [] X.env)) (adc pos (abT [] X.env))):=by rfl):
  PE X (.Call (.Attribute o m apos) [] [] pos) (jcU C m sp dvs E ta tNil):=by
 intro pins s σ H Q I h;refine PySem.W.methodCall_KW (pl:=pl) (thn (he pins s σ H _ I h) fun u s1 ⟨x,H1,I1,rx,a,dx,fs,ex,ea,l,q⟩=>?_) ht;subst ex;obtain rfl:u=aaz a:=rx;refine QO I1 ea c hm l ?_;exact PySem.W.callWith_K0 (first:=[.ref a]) I1.kIn hm.kp (VU (us:=[.ref a]) (vs:=[.ref a]) F hr hb hd hx I1 (.cons rfl .nil) q)
structure Mk (K:aaa) (C f:Addr):Prop where
 makes:abP K C=true
 init:aaW K (.ref C) "__init__" =some (some (.ref f))
 fn:aeS K (.ref f)=true
 kp:aaX K (.ref C)=true
end
structure FnScope (N P:List Str) (sc:Scope):Prop where
 kind:sc.kind= .function
 co:sc.isCoroutine=false
 gen:sc.isGenerator=false
 nd:N.Nodup
 pre:N.take P.length=P
 par: ∀x∈P,sc.names.lookup x=some .local\/sc.names.lookup x=some .cell
 nofree: ∀y∈sc.names,y.2≠ .free
theorem Xe {kindOf:Str->Option NameKind} {x:Str}: ∀ {binds:List (Str×Value)} {m:Xy},(∀v,(x,v)∉binds)->bindL kindOf binds m x=m x
 | [],_,_=>rfl
 | (n,v)::r,m,h=>by
  unfold bindL;rw [Xe fun w hw=>h w (aat _ hw)]
  split
  · have:x≠n:=by rintro rfl;exact h v aay
    simp [this]
  · rfl
theorem Xg {kindOf:Str->Option NameKind} {x:Str}: ∀ {binds:List (Str×Value)} {m:Xy},(∀v,(x,v)∉binds)->bindC kindOf binds m x=m x
 | [],_,_=>rfl
 | (n,v)::r,m,h=>by
  unfold bindC;rw [Xg fun w hw=>h w (aat _ hw)]
  split
  · rfl
  · have:x≠n:=by rintro rfl;exact h v aay
    simp [this]
theorem Xf {kindOf:Str->Option NameKind} {x:Str} {v:Value}: ∀ {P:List Str} {vs:List Value} {i:Nat} {m:Xy},P.Nodup->P[i]?=some x->vs[i]?=some v->kindOf x=some .local->
  bindL kindOf (P.zip vs) m x=some v
 | [],_,_,_,_,h,_,_=>by simp at h
 |_::_,[],_,_,_,_,h,_=>by simp at h
 |p::P,w::vs,0,m,nd,h1,h2,hk=>by
  simp at h1 h2;subst h1;subst h2;show bindL kindOf ((p,w)::P.zip vs) m p=_;unfold bindL;rw [Xe fun v hv=>(acl.mp nd).1 (aea hv).1,if_pos hk];simp
 |p::P,w::vs,i+1,m,nd,h1,h2,hk=>by
  show bindL kindOf ((p,w)::P.zip vs) m x=_;unfold bindL;exact Xf (i:=i) (acl.mp nd).2 (by simpa using h1) (by simpa using h2) hk
theorem Xh {kindOf:Str->Option NameKind} {x:Str} {v:Value}: ∀ {P:List Str} {vs:List Value} {i:Nat} {m:Xy},P.Nodup->P[i]?=some x->vs[i]?=some v->kindOf x≠some .local->
  bindC kindOf (P.zip vs) m x=some v
 | [],_,_,_,_,h,_,_=>by simp at h
 |_::_,[],_,_,_,_,h,_=>by simp at h
 |p::P,w::vs,0,m,nd,h1,h2,hk=>by
  simp at h1 h2;subst h1;subst h2;show bindC kindOf ((p,w)::P.zip vs) m p=_;unfold bindC;rw [Xg fun v hv=>(acl.mp nd).1 (aea hv).1,if_neg hk];simp
 |p::P,w::vs,i+1,m,nd,h1,h2,hk=>by
  show bindC kindOf ((p,w)::P.zip vs) m x=_;unfold bindC;exact Xh (i:=i) (acl.mp nd).2 (by simpa using h1) (by simpa using h2) hk
def start (N:List Str) (vs:List V):St:=vs.map some++adP (N.length-vs.length) none
def cxOf (CX:CXT) (P:aaA) (w:World) (K:aaa) (mg:Xy) (base:Heap) (N:List Str) (qual:Str) (scope:Scope) (f:Addr) (cd:Value) (A:aaU) (outer:List Env) (s:aaf) (H:Hp) (E:XK):Cx where
 prog:=P
 w:=w
 K:=K
 mg:=mg
 base:=base
 A:=A.deeper (adx qual scope s.heap.objs.size f cd)
 N:=N
 s₀:=s
 H₀:=H
 env:=adx qual scope s.heap.objs.size f cd
 outer:=outer
 stack:=adx qual scope s.heap.objs.size f cd::outer
 ex:=[]
 calm:=true
 fn:=fun _=>true
 pn:=[]
 xe:=fun e s'=>wpAny (model P w) (A.deeper (adx qual scope s.heap.objs.size f cd)) (leaving (adx qual scope s.heap.objs.size f cd) e) (fun _ s''=>CX outer H s E e s'') (fun e' s''=>CX outer H s E e' s'') s'
def Kd {sc:Scope} {n:Nat} {x:Str} (h:sc.names.lookup x=some .cell): ∃c,(cellsFrom n sc.names []).lookup x=some c:=by
 have q:=PySem.W.cellsFrom_some sc.names n [] (.inl h);exact Option.isSome_iff_exists.mp q
def kf {CX:CXT} {P:aaA} {w:World} {K:aaa} {mg:Xy} {base:Heap} {N ps:List Str} {qual:Str} {scope:Scope} {f:Addr} {cd:Value} {A:aaU} {outer:List Env} {s s1:aaf} {H:Hp} {E:XK} {us:List Value} {vs:List V}
   (S:FnScope N ps scope) (hd:A.handled=none) (e0:Env0 P w K mg base A outer s H) (hl:vs.length=ps.length) (r:Vals vs us)
   (x:InCallC s s.heap.objs.size (bindL (adx qual scope s.heap.objs.size f cd).kindOf (ps.zip us) fun _=>none) (cellsFrom (s.heap.objs.size+1) scope.names []) (bindC (adx qual scope s.heap.objs.size f cd).kindOf (ps.zip us) fun _=>none) s1):
   Inv (cxOf CX P w K mg base N qual scope f cd A outer s H E) [] (start N vs) H s1:=by
 have hpl:ps.length<=N.length:=by have:=congrArg List.length S.pre;rw [adY] at this;omega
 obtain ⟨h1,tk,rfl,hk⟩:=x.done;have noA: ∀b:Addr,b∉(cxOf CX P w K mg base N qual scope f cd A outer s H E).ex:=fun b z=>absurd (show b∈([]:List Addr) from z) (by simp)
 refine ⟨⟨e0.mod,S.kind,rfl,rfl,aah _,fun y z c h1 h2=>?_,fun y hy=>?_,fun y c _ h=>?_,fun _=>hd,Around.frames_deeper e0.frames,.inr ⟨rfl,rfl⟩,fun b z=>absurd z (noA b),e0.bs,e0.bsz,fun b _ _=>noA b,fun b z=>absurd z (noA b),e0.funs,e0.frf⟩,
   rfl,e0.bare,Un.kept hk,⟨_,x.toInCall.ns,fun i y v h1 h2 h3=>?_⟩,fun y c h=>⟨_,x.cell y c h⟩,e0.hok.fresh (aah _),fun y c h=>?_,fun p hp=>absurd (show p∈([]:List (Addr×Obj)) from hp) (by simp),e0.hok.kept hk,?_⟩
 · exact name_of_addr x.apart (abE h1) (abE h2)
 · have hy:scope.names.lookup y=some .cell\/scope.names.lookup y=some .free:=hy;rcases hy with hy|hy
   · exact Kd hy
   · exact absurd rfl (S.nofree _ (abE hy))
 · exact aeR (x.above y c (abE h))
 · have hi:i<vs.length:=by
     unfold start at h2
     by_cases hi:i<vs.length
     · exact hi
     · rw [aav (by simpa using hi)] at h2;rw [aba] at h2
       split at h2<;>cases h2
   have ha:vs[i]?=some v:=by
     unfold start at h2;rw [aaq (by simpa using hi),aaO] at h2
     cases e:vs[i]? with
     |none=>rw [e] at h2;cases h2
     |some a=>rw [e] at h2;cases h2;rfl
   obtain ⟨u,hu,rv⟩:=r.get ha
   have hp:ps[i]?=some y:=by
     rw [←S.pre,acm (by omega)];exact h1
   have ndP:ps.Nodup:=by rw [←S.pre];exact S.nd.sublist (List.take_sublist _ _)
   refine ⟨u,rv,?_⟩;rcases S.par y (aa0 hp) with k|k
   · exact .inl ⟨k,Xf ndP hp hu k⟩
   · obtain ⟨c,e⟩:=Kd (n:=s.heap.objs.size+1) k;refine .inr ⟨.inl k,c,e,?_⟩;have q:=x.cell y c e;rw [Xh ndP hp hu (by show scope.names.lookup y≠_;rw [k];decide)] at q;exact q
 · exact e0.hok.fresh (aeR (x.above y c (abE h)))
 · unfold start;show _=N.length;rw [aaB,aan,List.length_replicate];omega
def jb1 {CX:CXT} {P:aaA} {w:World} {K:aaa} {mg:Xy} {base:Heap} {k:Nat} {f:Addr} {name qual:Str} {params:Arguments} {body:List Stmt} {scope:Scope} {dV kV doc pm cdv ct oc:Value} {an od:Option Addr}
  {osl:Array (Option Value)} {N ps:List Str} {sp:Sp} (lk:K.lookup f=some ⟨oc,od,.func (acb name qual params body scope dV kV doc pm an cdv ct),osl⟩) (hcd:adF K cdv qual=true) (S:FnScope N ps scope)
  (len: ∀vs H Q E,sp vs H Q E->vs.length=ps.length)
  (hbody: ∀(A:aaU) (outer:List Env) (s:aaf) (H:Hp) (vs:List V) (Q:VK) (E:XK),Room k (A.deeper (adx qual scope s.heap.objs.size f cdv))->sp vs H Q E->
    ∃t,PSs (cxOf CX P w K mg base N qual scope f cdv A outer s H E) body t/\t {nx:=fun _ H'=>Q .non H',rt:=Q} (start N vs) H):
  FnOk P w K mg base CX (k+1) f (acb name qual params body scope dV kV doc pm an cdv ct) ps sp:=by
 refine ⟨len,fun A outer s H args us vs Q E hr e0 hb r hsp=>?_⟩;have hl:=len _ _ _ _ hsp;have KX:K.In s.heap:=e0.mod.kin.keeps fun b o e=>(e0.bs b o e).1
 have lim:s.heap.NoLimit:=e0.mod.nolimit.keeps fun b o e=>(e0.bs b o e).1
 have hkind: ∀y∈ps.zip us,scope.names.lookup y.1=some .local\/(scope.names.lookup y.1=some .cell/\((cellsFrom (s.heap.objs.size+1) scope.names []).lookup y.1).isSome=true):=fun ⟨n,v⟩ hy=>by
  rcases S.par n (aea hy).1 with q|q
  · exact .inl q
  · exact .inr ⟨q,PySem.W.cellsFrom_some _ _ _ (.inl q)⟩
 refine codeAny_call_function hr.depth (KX _ _ lk) rfl S.co S.gen rfl (PySem.W.codeRec_of KX hcd) (hb _ _ _ _ ?_);refine wpAny_newFunctionEnv_cells S.kind hkind fun env he s1 x=>?_
 subst he;refine ⟨lim.keeps x.toInCall.keep,codeAny_func ?_⟩;obtain ⟨t,ht,hq⟩:=hbody A outer s H vs Q E (hr.deeper _) hsp;have I:Inv (cxOf CX P w K mg base N qual scope f cdv A outer s H E) [] (start N vs) H s1:=kf S hr.hd e0 hl r x;refine abX (ht [] s1 (start N vs) H _ I hq) (fun fl s' hs=>?_) fun e s' hs=>hs
 have fin: ∀ {σ':St} {H':Hp} {v:V} {u:Value},Inv (cxOf CX P w K mg base N qual scope f cdv A outer s H E) [] σ' H' s'->RelV v u->Q v H'->CE outer P w H s Q u s':=
  fun {σ' H' v u} J rv q=>⟨v,H',J.os,J.bare,J.base,J.hok,rv,q⟩
 cases fl with
 |ret u=>
  obtain ⟨v,σ',H',J,rv,q⟩:=hs;exact fin J rv q
 |next=>
  obtain ⟨σ',H',J,q⟩:=hs;exact fin (v:=V.non) (u:=ab5) J rfl q
 |brk=>
  obtain ⟨_,_,_,q⟩:=hs;exact abC q
 |cont=>
  obtain ⟨_,_,_,q⟩:=hs;exact abC q
section
variable {X:Cx} {x:Str} {p pos:Pos} {e:Expr} {es:List Expr} {t:TA} {id T:String} {r:List V->Hp->VK->Prop}
def tCB (r:List V->Hp->VK->Prop) (t:TA):TE:=fun σ H Q=>t σ H fun vs H1=>r vs H1 Q
def zd (hc:CallR X (.builtin id) r) (hg:Gl X x) (hm:X.mg x=none) (hv:aa9 x=some (.builtin id)) (ha:PA X (e::es) t) (hn:x≠ "__name__" :=by decide) (hdb:Yx x:=by decide)
  (he:Wm X e es:=by rfl) (hpl:Wl X pos es:=by rfl):PE X (.Call (.Name x p) (e::es) [] pos) (tCB r t):=by
 intro pins s σ H Q I h;refine acF (WJ I hg hm hv ?_ hn hdb);exact PyProof.Rows.callWith_builtin1 (thn (ha pos pins s σ H _ I h) fun us s1 ⟨vs,H1,I1,r1,q1⟩=>hc pins s1 σ H1 vs us Q I1 r1 q1) he hpl
def wa (hc:CallR X (.type T) r) (hg:Gl X x) (hm:X.mg x=none) (hv:aa9 x=some (.type T)) (ha:PA X (e::es) t) (hn:x≠ "__name__" :=by decide) (hdb:Yx x:=by decide)
  (he:Wm X e es:=by rfl) (hpl:Wl X pos es:=by rfl):PE X (.Call (.Name x p) (e::es) [] pos) (tCB r t):=by
 intro pins s σ H Q I h;refine acF (WJ I hg hm hv ?_ hn hdb);exact acK (thn (ha pos pins s σ H _ I h) fun us s1 ⟨vs,H1,I1,r1,q1⟩=>hc pins s1 σ H1 vs us Q I1 r1 q1) he hpl
end
end L2
namespace HT
open PySem PyProof.Rows
section
variable {prog:aaA} {w:World} {A:aaU} {E:Xw} {s:aaf}
def cat_tup {t b:Addr} {vs ws:List Value} {Q:Xw} (ht:IsTup s.heap t vs.toArray) (hb:IsTup s.heap b ws.toArray) (hv:vs≠[])
   (h1:ws=[]->Q (.ref t) s) (h2:ws≠[]->Q (.ref s.heap.objs.size) {s with heap:=s.heap.push {cls:= .type "tuple",data:= .seq (vs++ws).toArray}})
   (hsz:vs.length+ws.length<=aaj):wpAny (model prog w) A (ab1 .Add (.ref t) (.ref b)) Q E s:=by
 obtain ⟨⟨cls,dd,data,sl⟩,ho,hc,n,hd⟩:=id ht;obtain ⟨⟨cls2,dd2,data2,sl2⟩,ho2,hc2,n2,hd2⟩:=id hb;simp only at hc hd hc2 hd2;subst hc hd hc2 hd2;have e:vs.toArray++ws.toArray=(vs++ws).toArray:=by simp
 by_cases hw:ws=[]
 · exact concat_meets ⟨_,ho,rfl⟩ ⟨_,ho2,rfl⟩ noFill_tuple_add seq_tuple_add PySem.F.slot_tuple_add PySem.F.entry_tuple_add (PySem.F.args_tuple_add_2 _ _)
    (tuple_addW1 t b vs.toArray ws.toArray n n2 dd dd2 sl sl2 (by simpa using hv) (by simp [hw])) ⟨ho,ho2,h1 hw⟩
 · refine concat_meets ⟨_,ho,rfl⟩ ⟨_,ho2,rfl⟩ noFill_tuple_add seq_tuple_add PySem.F.slot_tuple_add PySem.F.entry_tuple_add (PySem.F.args_tuple_add_2 _ _)
    (tuple_addW2 t b vs.toArray ws.toArray n n2 dd dd2 sl sl2 (by simpa using hv) (by simpa using hw) (by rw [aag,aag];exact hsz)) ⟨ho,ho2,?_⟩
   rw [e];exact h2 hw
def sIx (n d:Nat):Option Int->Nat
 |none=>d
 |some v=>if v<0 then (v+(n:Int)).toNat else min v.toNat n
def jc1 (n d:Nat) (hd:d<=n) (o:Option Int):sIx n d o<=n:=by
 cases o with
 |none=>exact hd
 |some v=>
  show (if v<0 then (v+(n:Int)).toNat else min v.toNat n)<=n
  by_cases hv:v<0
  · rw [if_pos hv];omega
  · rw [if_neg hv];exact Nat.min_le_right _ _
def vt (v:Int) (n d:Nat):(if v<0 then max (v+(n:Int)) 0 else min v (n:Int))=((sIx n d (some v):Nat):Int):=by
 show (if v<0 then max (v+(n:Int)) 0 else min v (n:Int))=(((if v<0 then (v+(n:Int)).toNat else min v.toNat n):Nat):Int)
 by_cases hv:v<0
 · simp only [if_pos hv];omega
 · simp only [if_neg hv];omega
def Vh (lo hi:Option Int) (n:Nat):ac5 lo hi 1 (n:Int)=(((sIx n 0 lo:Nat):Int),((sIx n n hi:Nat):Int)):=by
 have h1: ¬((1:Int)<0):=by omega
 unfold ac5;simp only [h1,if_false];refine Prod.ext ?_ ?_
 · cases lo with
   |none=>rfl
   |some v=>exact vt v n 0
 · cases hi with
   |none=>rfl
   |some v=>exact vt v n n
def KL (i j:Nat):acg (i:Int) (j:Int) 1=j-i:=by
 unfold acg;have h1:(1:Int)>0:=by omega
 simp only [h1,if_true,Int.ediv_one]
 split<;>omega
def QA {v:Value} {o:Option Int} {Q:Option Int->aaf->Prop} (p:IsPart v o) (h:Q o s):wpAny (model prog w) A (Builtin.Slice.slicePartIndex v) Q E s:=by
 cases p with
 |none=>exact slicePart_none h
 |int i t=>exact slicePart_int h
def sliceApplied_gen {sl:Addr} {vl vu:Value} {lo hi:Option Int} {n:Nat} {Q:Int×Int×Nat->aaf->Prop} (hs:s.heap.IsSliceOf sl vl vu .none) (pl:IsPart vl lo) (pu:IsPart vu hi)
  (h:Q (((sIx n 0 lo:Nat):Int),1,sIx n n hi-sIx n 0 lo) s):wpAny (model prog w) A (aeh (.ref sl) (pure (n:Int))) Q E s:=by
 obtain ⟨os,hos,hcs,hds⟩:=id hs;unfold aeh Builtin.Slice.sliceFields;refine aab (aab (wpAny_field hos hds (x:=vl) rfl (aab (wpAny_field hos hds (x:=vu) rfl (aab (wpAny_field hos hds (x:= .none) rfl (aad ?_)))))));refine aab (slicePart_none ?_);show wpAny _ _ (if ((1:Int)==0)=true then _ else _) _ _ s;rw [if_neg (by decide)];refine aab (QA pl (aab (QA pu (aab (aad ?_)))));show wpAny _ _ (match ac5 lo hi 1 (n:Int) with| (lo,hi)=>pure (lo,(1:Int),acg lo hi 1)) _ _ s;rw [Vh lo hi n];show wpAny _ _ (pure (((sIx n 0 lo:Nat):Int),(1:Int),acg ((sIx n 0 lo:Nat):Int) ((sIx n n hi:Nat):Int) 1)) _ _ s;rw [KL];exact aad h
def ue (xs:Array Value) (i k:Nat):((aa6 k).filterMap fun (m:Nat)=>xs[((i:Int)+(m:Int)*1).toNat]?).toArray=((xs.toList.drop i).take k).toArray:=by
 have e:(fun (m:Nat)=>xs[((i:Int)+(m:Int)*1).toNat]?)=fun m=>xs[i+m]?:=by
  funext m;have:((i:Int)+(m:Int)*1).toNat=i+m:=by omega
  rw [this]
 rw [e];have:=pick_run xs i k;rw [List.filterMap_map] at this;have e2:((fun x=>xs[x]?) ∘ fun x=>i+x)=fun m=>xs[i+m]?:=rfl
 rw [e2] at this;rw [this]
def getItem_tuple_cut {t sl:Addr} {items:Array Value} {vl vu:Value} {lo hi:Option Int} {Q:Xw} (ht:IsTup s.heap t items) (hs:s.heap.IsSliceOf sl vl vu .none) (pl:IsPart vl lo) (pu:IsPart vu hi)
  (hw: ¬(sIx items.size 0 lo=0/\sIx items.size items.size hi=items.size))
  (h:Q (.ref s.heap.objs.size) {s with heap:=s.heap.push {cls:= .type "tuple",data:= .seq ((items.toList.drop (sIx items.size 0 lo)).take (sIx items.size items.size hi-sIx items.size 0 lo)).toArray}})
  (hsz:items.size<=aaj):wpAny (model prog w) A (getItem (.ref t) (.ref sl)) Q E s:=by
 have htake:sizeOk (.seq ((items.toList.drop (sIx items.size 0 lo)).take (sIx items.size items.size hi-sIx items.size 0 lo)).toArray):=by
  show ((items.toList.drop (sIx items.size 0 lo)).take (sIx items.size items.size hi-sIx items.size 0 lo)).toArray.size<=aaj;rw [aag,adY,aeK,aar];omega
 have hj:sIx items.size items.size hi<=items.size:=jc1 _ _ (aah _) hi;obtain ⟨os,hos,hcs,hds⟩:=id hs;have hTs:s.TypeIs (.ref sl) "slice" :=⟨os,hos,hcs⟩
 unfold getItem
 try with_reducible refine aa3 ?_
 first|refine aab (aad ?_)|skip
 refine aab (wpAny_sequenceKey ht.typeIs (by decide) ?_)
 refine aab (act (name:=Str.ofString "__getitem__") ht.typeIs aa1
  (ab7 aa1 ht.typeIs entry_tuple_getitem ?_ (args_tuple_getitem _ _)))
 show wpAny _ _ (aei (.ref t)>>=_) _ _ s;refine aab (tupleItemsOf_ ht ?_);refine aab (adQ hTs ?_);rw [if_pos (by decide)];refine aab (sliceApplied_gen hs pl pu ?_)
 have hno: ¬((((sIx items.size 0 lo:Nat):Int)==0&&(1:Int)==1&&(sIx items.size items.size hi-sIx items.size 0 lo)==items.size)=true):=by
  intro q;rw [aaG,aaG] at q;have q1:((sIx items.size 0 lo:Nat):Int)=0:=eq_of_beq q.1.1;have q2:sIx items.size items.size hi-sIx items.size 0 lo=items.size:=eq_of_beq q.2;exact hw ⟨by omega,by omega⟩
 show wpAny _ _ (if (((sIx items.size 0 lo:Nat):Int)==0&&(1:Int)==1&&(sIx items.size items.size hi-sIx items.size 0 lo)==items.size)=true then _ else _) _ _ s;rw [if_neg hno,ue]
 first
  |exact aab (m:=acn _) (abF (aad ⟨_,rfl,aad h⟩) htake)
  |exact aab (m:=acn _) (abF (aab (aad (aad ⟨_,rfl,aad h⟩))) htake)
  |exact aab (aab (m:=acn _) (abF (aad (aad ⟨_,rfl,aad h⟩)) htake))
  |exact aab (aab (m:=acn _) (abF (aad ⟨_,rfl,aad h⟩) htake))
end
end HT
namespace L2
open PySem PySem.Spec PyProof.Rows
abbrev TO:=St->Hp->(Option Int->Hp->Prop)->Prop
def PO (X:Cx) (e:Option Expr) (t:TO):Prop:=
 ∀(pins:List (Addr×Obj)) (s:aaf) (σ:St) (H:Hp) (Q:Option Int->Hp->Prop),Inv X pins σ H s->t σ H Q->
  wpAny (model X.prog X.w) X.A (evalPart e X.env) (fun u s'=> ∃o H',Inv X pins σ H' s'/\IsPart u o/\Q o H') X.xe s
def jbb:TO:=fun _ H Q=>Q none H
def jem (t:TE):TO:=fun σ H Q=>t σ H fun x H1=> ∃i,x= .int i/\Q (some i) H1
section
variable {X:Cx} {e:Expr} {te:TE} {lo hi:Option Expr} {tl th:TO} {pos p2:Pos}
def jbr:PO X none jbb:=by
 intro pins s σ H Q I h;rw [evalPart_none];exact aad ⟨none,H,I,.none,h⟩
def jbq (h:PE X e te):PO X (some e) (jem te):=by
 intro pins s σ H Q I hw;rw [evalPart_some];refine thn (h pins s σ H _ I hw) fun u s1 ⟨x,H1,I1,r1,q1⟩=>?_
 obtain ⟨i,rfl,q⟩:=q1;obtain ⟨t,rfl⟩:=r1;exact ⟨some i,H1,I1,.int i t,q⟩
def SlR (X:Cx) (r:V->Option Int->Option Int->Hp->VK->Prop):Prop:=
 ∀(pins:List (Addr×Obj)) (s:aaf) (σ:St) (H:Hp) (x:V) (v vl vu:Value) (lo hi:Option Int) (sl:Addr) (Q:VK),Inv X pins σ H s->RelV x v->s.heap.IsSliceOf sl vl vu .none->IsPart vl lo->IsPart vu hi->r x lo hi H Q->
  ∃T id,typeLookup (.type T) "__getitem__" =pure (some (.builtin id))/\s.TypeIs v T/\wpAny (model X.prog X.w) X.A (getItem v (.ref sl)) (EP X pins σ Q) X.xe s
def SlR.or {r r':V->Option Int->Option Int->Hp->VK->Prop} (h:SlR X r) (h':SlR X r'):SlR X (fun x lo hi H Q=>r x lo hi H Q\/r' x lo hi H Q):=by
 intro pins s σ H x v vl vu lo hi sl Q I rx hs pl pu q;rcases q with q|q
 · exact h pins s σ H x v vl vu lo hi sl Q I rx hs pl pu q
 · exact h' pins s σ H x v vl vu lo hi sl Q I rx hs pl pu q
def tSl (r:V->Option Int->Option Int->Hp->VK->Prop) (te:TE) (tl th:TO):TE:=fun σ H Q=>te σ H fun x H1=>tl σ H1 fun l H2=>th σ H2 fun u H3=>r x l u H3 Q
def YE {r:V->Option Int->Option Int->Hp->VK->Prop} (hr:SlR X r) (he:PE X e te) (hl:PO X lo tl) (hu:PO X hi th):PE X (.Subscript e (.Slice lo hi none p2) pos) (tSl r te tl th):=by
 intro pins s σ H Q I h;refine Subscript_ (thn (he pins s σ H _ I h) fun v s1 ⟨x,H1,I1,r1,q1⟩=>?_);refine wpAny_Slice (thn (hl pins s1 σ H1 _ I1 q1) fun vl s2 ⟨l,H2,I2,pl,q2⟩=>thn (hu pins s2 σ H2 _ I2 q2) fun vu s3 ⟨u,H3,I3,pu,q3⟩=>?_);rw [evalPart_none];refine aad ?_;have I4:Inv X pins σ H3 {s3 with heap:=s3.heap.push {cls:= .type "slice",data:= .fields #[vl,vu,.none]}}:=I3.kept (t':=s3.toks) fun b ob q=>aae _ q
 obtain ⟨T,id,hT,ht,hg⟩:=hr pins {s3 with heap:=s3.heap.push {cls:= .type "slice",data:= .fields #[vl,vu,.none]}} σ H3 x v vl vu l u s3.heap.objs.size Q I4 r1 (Heap.IsSliceOf.new ..) pl pu q3;show wpAny (model X.prog X.w) X.A (subscriptTail e (.Slice lo hi none p2) v (.ref s3.heap.objs.size)) (EP X pins σ Q) X.xe {s3 with heap:=s3.heap.push {cls:= .type "slice",data:= .fields #[vl,vu,.none]}};exact tail_any (ops:=[.ref s3.heap.objs.size,v]) ht hT hg (by with_unfolding_all rfl)
def cutV (xs:List V) (lo hi:Option Int):List V:=(xs.drop (HT.sIx xs.length 0 lo)).take (HT.sIx xs.length xs.length hi-HT.sIx xs.length 0 lo)
def Qa (xs:List V) (lo hi:Option Int):(cutV xs lo hi).length<=xs.length:=by
 unfold cutV;rw [adY,aeK];omega
def rSlT (K:aaa):V->Option Int->Option Int->Hp->VK->Prop:=fun x lo hi H Q=> ∃a xs,x= .ref a/\SqT K H a xs/\
 ¬(HT.sIx xs.length 0 lo=0/\HT.sIx xs.length xs.length hi=xs.length)/\ ∀p,H p=none->Q (.ref p) (upd H p (.tup (cutV xs lo hi)))
def sl_tup:SlR X (rSlT X.K):=by
 intro pins s σ H x v vl vu lo hi sl Q I rx hs pl pu h;obtain ⟨a,xs,rfl,hx,hw,q⟩:=h;cases rx;obtain ⟨its,r,ht,hz⟩:=I.tuple hx;have hlen:its.toArray.size=xs.length:=by rw [aag];exact r.length.symm
 refine ⟨"tuple",_,aa1.lookup,ht.typeIs,?_⟩;refine HT.getItem_tuple_cut ht hs pl pu (by rw [hlen];exact hw) ?_ (by rw [hlen];exact hz);rw [hlen];refine ⟨.ref s.heap.objs.size,_,I.laid (t':=s.toks) (o:= .tup (cutV xs lo hi)) (fun b ob q=>aae _ q) (aah _) ?_,rfl,q _ (I.hok.fresh (aah _))⟩;exact ⟨aaN (Qa xs lo hi) hz,_,(r.drop (HT.sIx xs.length 0 lo)).take (HT.sIx xs.length xs.length hi-HT.sIx xs.length 0 lo),IsTup.new _ _⟩
def jbk (K:aaa):R2:=fun x y H Q=> ∃a b xs ys,x= .ref a/\y= .ref b/\SqT K H a xs/\SqT K H b ys/\xs≠[]/\xs.length+ys.length<=aaj/\
 (ys=[]->Q (.ref a) H)/\(ys≠[]-> ∀p,H p=none->Q (.ref p) (upd H p (.tup (xs++ys))))
def Vals.nil_iff {xs:List V} {us:List Value} (r:Vals xs us):us=[]↔xs=[]:=by
 cases r with
 |nil=>simp
 |cons _ _=>simp
def jbx:OpR X (ab1 .Add) (jbk X.K):=by
 intro pins s σ H x y v u Q I rx ry h;obtain ⟨a,b,xs,ys,rfl,rfl,ha,hb,hx,hz,q1,q2⟩:=h;cases rx;cases ry;obtain ⟨its,r1,p1,_⟩:=I.tuple ha;obtain ⟨its2,r2,p2,_⟩:=I.tuple hb;refine HT.cat_tup p1 p2 (fun z=>hx (r1.nil_iff.mp z)) (fun z=>⟨.ref a,H,I,rfl,q1 (r2.nil_iff.mp z)⟩) (fun z=>?_) (by rw [←r1.length,←r2.length];exact hz);refine ⟨.ref s.heap.objs.size,_,I.laid (t':=s.toks) (o:= .tup (xs++ys)) (fun b ob q=>aae _ q) (aah _) ?_,rfl,q2 (fun w=>z (r2.nil_iff.mpr w)) _ (I.hok.fresh (aah _))⟩;exact ⟨by rw [aaB];exact hz,_,r1.append r2,IsTup.new _ _⟩
end
def ixN (n:Nat) (i:Int):Option Nat:=if 0<=i then (if i<n then some i.toNat else none) else if-(n:Int)<=i then some (i+n).toNat else none
def atI {α:Type} (xs:List α) (i:Int):Option α:=(ixN xs.length i).bind fun j=>xs[j]?
def U8 {n:Nat} {i:Int} {j:Nat} (h:ixN n i=some j):seqIndex? i n=some j/\j<n/\ -(n:Int)<=i/\i<n:=by
 unfold ixN at h
 by_cases h0:0<=i
 · rw [if_pos h0] at h
   by_cases h1:i<n
   · rw [if_pos h1] at h;have e:i.toNat=j:=aaD h;exact ⟨by rw [seqIndex_of h0 h1,e],by omega,by omega,h1⟩
   · rw [if_neg h1] at h;cases h
 · rw [if_neg h0] at h
   by_cases h1: -(n:Int)<=i
   · rw [if_pos h1] at h;have e:(i+n).toNat=j:=aaD h;exact ⟨by rw [seqIndex_neg (by omega) h1,e],by omega,h1,by omega⟩
   · rw [if_neg h1] at h;cases h
def Yj {α:Type} {xs:List α} {i:Int} {v:α} (h:atI xs i=some v): ∃j,seqIndex? i xs.length=some j/\xs[j]?=some v/\j<xs.length/\ -(xs.length:Int)<=i/\i<xs.length:=by
 unfold atI at h
 cases e:ixN xs.length i with
 |none=>rw [e] at h;cases h
 |some j=>
  rw [e] at h;obtain ⟨h1,h2,h3,h4⟩:=U8 e;exact ⟨j,h1,h,h2,h3,h4⟩
def atI_nat {α:Type} {xs:List α} {j:Nat} {v:α} (h:xs[j]?=some v):atI xs (j:Int)=some v:=by
 have hj:j<xs.length:=(aam.mp h).1
 have e:ixN xs.length (j:Int)=some j:=by
  unfold ixN;rw [if_pos (by omega),if_pos (by omega)];simp
 unfold atI;rw [e];exact h
def Yk (b:Expr):Prop:= ∀o i,subscripted b false o i=operate [o,i] (getItem o i)
def IxR (X:Cx) (r:R2):Prop:=
 ∀(value slice:Expr) (pins:List (Addr×Obj)) (s:aaf) (σ:St) (H:Hp) (x y:V) (v u:Value) (Q:VK),Inv X pins σ H s->RelV x v->RelV y u->r x y H Q->
  subscripted slice false v u=operate [v,u] (getItem v u)->wpAny (model X.prog X.w) X.A (subscriptTail value slice v u) (EP X pins σ Q) X.xe s
def MtR (X:Cx) (id:String) (r:V->List V->Hp->VK->Prop):Prop:=
 ∀(pins:List (Addr×Obj)) (s:aaf) (σ:St) (H:Hp) (x:V) (xs:List V) (v:Value) (us:List Value) (Q:VK),Inv X pins σ H s->RelV x v->Vals xs us->r x xs H Q->
  wpAny (model X.prog X.w) X.A (call (.builtin id) (v::us)) (EP X pins σ Q) X.xe s
section
variable {X:Cx} {a b:Expr} {ta tb:TE} {pos:Pos}
def IxR.or {r r':R2} (h:IxR X r) (h':IxR X r'):IxR X (fun x y H Q=>r x y H Q\/r' x y H Q):=by
 intro value slice pins s σ H x y v u Q I rx ry q hs;rcases q with q|q
 · exact h value slice pins s σ H x y v u Q I rx ry q hs
 · exact h' value slice pins s σ H x y v u Q I rx ry q hs
def MtR.or {id:String} {r r':V->List V->Hp->VK->Prop} (h:MtR X id r) (h':MtR X id r'):MtR X id (fun x xs H Q=>r x xs H Q\/r' x xs H Q):=by
 intro pins s σ H x xs v us Q I rx rs q;rcases q with q|q
 · exact h pins s σ H x xs v us Q I rx rs q
 · exact h' pins s σ H x xs v us Q I rx rs q
def jdk {r:R2} (hr:IxR X r) (ha:PE X a ta) (hb:PE X b tb) (hs:Yk b):PE X (.Subscript a b pos) (tOp r ta tb):=by
 intro pins s σ H Q I h;exact Subscript_ (binT ha hb I h fun v u s2 x y H2 I2 rx ry q=>hr a b pins s2 σ H2 x y v u Q I2 rx ry q (hs _ _))
def rIxL (K:aaa):R2:=fun x y H Q=> ∃p xs i v,x= .ref p/\y= .int i/\SqL K H p xs/\atI xs i=some v/\Q v H
def rIxT (K:aaa):R2:=fun x y H Q=> ∃p xs i v,x= .ref p/\y= .int i/\SqT K H p xs/\atI xs i=some v/\Q v H
def rIxS:R2:=fun x y H Q=> ∃z i c,x= .str z/\y= .int i/\z.length<=aaj/\atI z.cps.toList i=some c/\Q (.str ⟨#[c]⟩) H
def ix_list:IxR X (rIxL X.K):=by
 intro value slice pins s σ H x y v u Q I rx ry h hs;obtain ⟨p,xs,i,z,rfl,rfl,hq,he,q⟩:=h;cases rx;obtain ⟨t,rfl⟩:=ry;obtain ⟨its,r,pl,hz⟩:=I.list hq;obtain ⟨j,h1,h2,h3,h4,h5⟩:=Yj he;obtain ⟨w,ew,rw'⟩:=r.get h2;have hl:=r.length;have hn:=JP;have fin:EP X pins σ Q w s:=⟨z,H,I,rw',q⟩
 by_cases h0:0<=i
 · have hj:i.toNat=j:=by
    rw [seqIndex_of h0 h5] at h1;exact aaD h1
   exact item_listR pl.isList h0 (by omega) (by rw [hj];simpa using ew) fin hs
 · have hj:(i+(its.toArray.size:Int)).toNat=j:=by
    rw [seqIndex_neg (by omega) h4] at h1;rw [aag,←hl];exact aaD h1
   exact subscriptTail_builtinR (x:=w) pl.isList.typeIs slot_list_getitem.lookup
    (wpAny_getItem_list_neg (Q:=fun r s'=>r=w/\EP X pins σ Q r s') pl.isList (by omega) (by rw [aag]<;>omega) (by omega) (by rw [hj];simpa using ew) ⟨rfl,fin⟩) hs
def ix_tup:IxR X (rIxT X.K):=by
 intro value slice pins s σ H x y v u Q I rx ry h hs;obtain ⟨p,xs,i,z,rfl,rfl,hq,he,q⟩:=h;cases rx;obtain ⟨t,rfl⟩:=ry;obtain ⟨its,r,pl,hz⟩:=I.tuple hq;obtain ⟨j,h1,h2,h3,h4,h5⟩:=Yj he;obtain ⟨w,ew,rw'⟩:=r.get h2;have hl:=r.length;have hn:=JP;have fin:EP X pins σ Q w s:=⟨z,H,I,rw',q⟩
 exact subscriptTail_builtinR (x:=w) pl.typeIs aa1.lookup
  (getItem_tuple (j:=j) (Q:=fun r s'=>r=w/\EP X pins σ Q r s') pl (by omega) (by omega) (by rw [aag,←hl];exact h1) (by simpa using ew) ⟨rfl,fin⟩) hs
def jdI:IxR X rIxS:=by
 intro value slice pins s σ H x y v u Q I rx ry h hs;obtain ⟨z,i,c,rfl,rfl,hz,he,q⟩:=h;obtain ⟨t,rfl⟩:=rx;obtain ⟨t',rfl⟩:=ry;obtain ⟨j,h1,h2,h3,h4,h5⟩:=Yj he;have hl:z.cps.toList.length=z.length:=by simp [Str.length]
 rw [hl] at h1 h4 h5;have hn:=JP
 exact tail_any (typeIs_str s z t) slot_str_getitem.lookup (getItem_str (c:=c) (by
  have e1:decide (i< -(2^63:Int))=false:=decide_eq_false (by omega);have e2:decide (i>=2^63)=false:=decide_eq_false (by omega)
  rw [e1,e2,ady]) (by rw [h1];simpa using h2) ⟨.str ⟨#[c]⟩,H,I.tok _,⟨_,rfl⟩,q⟩) hs
def rIx (K:aaa):R2:=fun x y H Q=>rIxL K x y H Q\/rIxT K x y H Q\/rIxS x y H Q
def jaL:IxR X (rIx X.K):=ix_list.or (ix_tup.or jdI)
def KU (its:List Value) (n j:Nat) (u:Value):acA (·.setIfInBounds j u) {cls:= .type "list",data:= .seq its.toArray n}={cls:= .type "list",data:= .seq (its.set j u).toArray n}:=by
 simp [acA]
def Inv.lst {pins:List (Addr×Obj)} {σ:St} {H:Hp} {s:aaf} {p:Addr} {xs:List V} (I:Inv X pins σ H s) (h:H p=some (.lst xs)):
  ∃(its:List Value) (n:Nat),Vals xs its/\s.heap.get? p=some {cls:= .type "list",data:= .seq its.toArray n}/\xs.length<=aaj:=by
 obtain ⟨z,its,n,r,e⟩:=I.hok p _ h;exact ⟨its,n,r,e,z⟩
def Inv.lstUpd {pins:List (Addr×Obj)} {σ:St} {H:Hp} {s:aaf} {p:Addr} {xs ys:List V} {its its':List Value} {n n':Nat} {f:Obj->Obj} (I:Inv X pins σ H s) (h:H p=some (.lst xs))
  (ho:s.heap.get? p=some {cls:= .type "list",data:= .seq its.toArray n}) (hf:f {cls:= .type "list",data:= .seq its.toArray n}={cls:= .type "list",data:= .seq its'.toArray n'}) (r:Vals ys its') (hz:ys.length<=aaj) (t:Nat):
  Inv X pins σ (upd H p (.lst ys)) {s with heap:=s.heap.update p f,toks:=t}:=by
 have e:(s.heap.update p f).get? p=some {cls:= .type "list",data:= .seq its'.toArray n'}:=by
  rw [adR f ho (by rw [hf]<;>rfl),hf]
 refine I.write (x:=p) (e:=p) (by rw [h];trivial) (.inl rfl) (fun b u hb q=>(ab2 _ _ (acD hb)).trans q) ⟨_,e⟩ ?_;exact ⟨hz,its',n',r,e⟩
def jeB:V->V->V->Hp->(Hp->Prop)->Prop:=fun o i v H Q=> ∃p xs k j,o= .ref p/\i= .int k/\H p=some (.lst xs)/\ixN xs.length k=some j/\Q (upd H p (.lst (xs.set j v)))
def vR:PSet X jeB:=by
 intro pins s σ H o i v ov iv u Q I ro ri rv h;obtain ⟨p,xs,k,j,rfl,rfl,hp,hj,q⟩:=h;cases ro;obtain ⟨t,rfl⟩:=ri;obtain ⟨its,n,r,ho,hz⟩:=I.lst hp;obtain ⟨h1,h2,h3,h4⟩:=U8 hj;have hl:=r.length;have hn:=JP
 have I':Inv X pins σ (upd H p (.lst (xs.set j v))) {s with heap:=s.heap.update p (acA (·.setIfInBounds j u))}:=
   I.lstUpd hp ho (KU its n j u) (r.set rv j) (by rw [List.length_set];exact hz) s.toks
 by_cases h0:0<=k
 · have hk:k.toNat=j:=by
    rw [seqIndex_of h0 h4] at h1;exact aaD h1
   exact PySem.W.ki_setAt ho h0 (by omega) (by rw [aag,←hl];exact h4) (by rw [hk];exact ⟨_,I',q⟩)
 · have hk:(k+(its.toArray.size:Int)).toNat=j:=by
    rw [seqIndex_neg (by omega) h3] at h1;rw [aag,←hl];exact aaD h1
   exact PySem.W.ki_setBack ho (by omega) (by rw [aag,←hl];exact h3) (by omega) (by rw [hk];exact ⟨_,I',q⟩)
def Wj (lo hi:Option Int) (n:Nat):(adL lo hi none n).1=((HT.sIx n 0 lo:Nat):Int)/\(adL lo hi none n).2.1=((HT.sIx n n hi:Nat):Int)/\(adL lo hi none n).2.2=1:=by
 refine ⟨?_,?_,rfl⟩
 · cases lo with
   |none=>simp [adL,HT.sIx]
   |some i=>
    simp only [adL,HT.sIx,aeL,show (1:Int)>0 by decide,if_true]
    by_cases h:i<0
    · simp only [h,if_true]<;>omega
    · simp only [h,if_false]<;>omega
 · cases hi with
   |none=>simp [adL,HT.sIx]
   |some i=>
    simp only [adL,HT.sIx,aeL,show (1:Int)>0 by decide,if_true]
    by_cases h:i<0
    · simp only [h,if_true]<;>omega
    · simp only [h,if_false]<;>omega
def Zc (its:List Value) (lo hi:Option Int):slicePick its.toArray lo hi none=((its.drop (HT.sIx its.length 0 lo)).take (HT.sIx its.length its.length hi-HT.sIx its.length 0 lo)).toArray:=by
 obtain ⟨h1,h2,h3⟩:=Wj lo hi its.toArray.size;unfold slicePick;rw [h1,h2,h3];simp only [sliceRange_one,pick_run,aag]<;>rfl
def rSlL (K:aaa):V->Option Int->Option Int->Hp->VK->Prop:=fun x lo hi H Q=> ∃a xs,x= .ref a/\SqL K H a xs/\ ∀p,H p=none->Q (.ref p) (upd H p (.lst (cutV xs lo hi)))
def sl_list:SlR X (rSlL X.K):=by
 intro pins s σ H x v vl vu lo hi sl Q I rx hs pl pu h;obtain ⟨a,xs,rfl,hx,q⟩:=h;cases rx;obtain ⟨its,r,ht,hz⟩:=I.list hx;have hlen:=r.length;refine ⟨"list",_,slot_list_getitem.lookup,ht.isList.typeIs,?_⟩;refine wpAny_getItem_list_slice ht.isList hs pl pu .none (by simp) ?_ (by rw [aag]<;>omega);rw [Zc,←hlen];refine ⟨.ref s.heap.objs.size,_,I.laid (t':=s.toks) (o:= .lst (cutV xs lo hi)) (fun b ob q=>aae _ q) (aah _) ?_,rfl,q _ (I.hok.fresh (aah _))⟩;exact ⟨aaN (Qa xs lo hi) hz,_,0,(r.drop (HT.sIx xs.length 0 lo)).take (HT.sIx xs.length xs.length hi-HT.sIx xs.length 0 lo),aap _ rfl⟩
def call_len_seq:CallR X (.builtin "len") (fun xs H Q=> ∃p ys,xs=[.ref p]/\(SqL X.K H p ys\/SqT X.K H p ys)/\Q (.int ys.length) H):=by
 intro pins s σ H xs us Q I r h;obtain ⟨p,ys,rfl,hq,q⟩:=h;obtain ⟨u,rfl,rx⟩:=xm r;cases rx;have hn:=JP;rcases hq with hq|hq
 · obtain ⟨its,r',pl,hz⟩:=I.list hq;have hlen:=r'.length;exact Calls.call_len_list pl.isList (by simp only [aag]<;>omega) ⟨.int ys.length,H,I.tok _,⟨s.toks+1,by rw [aag,hlen]⟩,q⟩
 · obtain ⟨its,r',pl,hz⟩:=I.tuple hq;have hlen:=r'.length;exact len_tuple pl (by simp only [aag]<;>omega) ⟨.int ys.length,H,I.tok _,⟨s.toks+1,by rw [aag,hlen]⟩,q⟩
def W9:CallR X (.builtin "len") (fun xs H Q=> ∃z,xs=[.str z]/\z.length<=aaj/\Q (.int z.length) H):=by
 intro pins s σ H xs us Q I r h;obtain ⟨z,rfl,hz,q⟩:=h;obtain ⟨u,rfl,t,rfl⟩:=xm r;have hn:=JP;exact len_str (by omega) ⟨.int z.length,H,I.tok _,⟨_,rfl⟩,q⟩
def CallR.or {f:Value} {r r':List V->Hp->VK->Prop} (h:CallR X f r) (h':CallR X f r'):CallR X f (fun xs H Q=>r xs H Q\/r' xs H Q):=by
 intro pins s σ H xs us Q I rs q;rcases q with q|q
 · exact h pins s σ H xs us Q I rs q
 · exact h' pins s σ H xs us Q I rs q
def qU:CallR X (.type "list") (fun xs H Q=> ∃p ys,xs=[.ref p]/\(SqL X.K H p ys\/SqT X.K H p ys)/\ ∀l,H l=none->Q (.ref l) (upd H l (.lst ys))):=by
 intro pins s σ H xs us Q I r h;obtain ⟨p,ys,rfl,hq,q⟩:=h;obtain ⟨u,rfl,rx⟩:=xm r;cases rx
 have fin: ∀(its:List Value),Vals ys its->ys.length<=aaj-> ∀(h':Heap) (c':Nat),(∀b o',s.heap.get? b=some o'->h'.get? b=some o')->
    h'.get? s.heap.objs.size=some {cls:= .type "list",dict:=none,data:= .seq its.toArray c',slots:= #[]}->EP X pins σ Q (.ref s.heap.objs.size) {s with heap:=h'}:=fun its r' hz h' c' kp e=>
   ⟨.ref s.heap.objs.size,_,I.laid (t':=s.toks) kp (aah _) (show ObjOk X.prog X.w _ h' _ (.lst ys) from ⟨hz,its,c',r',e⟩),rfl,q _ (I.hok.fresh (aah _))⟩
 rcases hq with hq|hq
 · obtain ⟨its,r',pl,hz⟩:=I.list hq;have hlen:=r'.length;obtain ⟨o,ho,hc,n,hd⟩:=pl.isList;exact call_list_seq p (.inl rfl) ho hc hd (fun h' c' kp e=>fin its r' hz h' c' kp e) (by simp only [aag]<;>omega)
 · obtain ⟨its,r',pl,hz⟩:=I.tuple hq;have hlen:=r'.length;obtain ⟨o,ho,hc,n,hd⟩:=pl;exact call_list_seq p (.inr rfl) ho hc hd (fun h' c' kp e=>fin its r' hz h' c' kp e) (by simp only [aag]<;>omega)
def Z2:CallR X (.type "tuple") (fun xs H Q=> ∃p ys,xs=[.ref p]/\((SqL X.K H p ys/\ ∀l,H l=none->Q (.ref l) (upd H l (.tup ys)))\/(SqT X.K H p ys/\Q (.ref p) H))):=by
 intro pins s σ H xs us Q I r h;obtain ⟨p,ys,rfl,h⟩:=h;obtain ⟨u,rfl,rx⟩:=xm r;cases rx;rcases h with ⟨hq,q⟩| ⟨hq,q⟩
 · obtain ⟨its,r',pl,hz⟩:=I.list hq;have hlen:=r'.length;refine call_tuple_list pl.isList (fun h' kp=>?_) (by simp only [aag]<;>omega);have I1:Inv X pins σ H {s with heap:=h'}:=I.kept (t':=s.toks) kp
   have I2:Inv X pins σ (upd H h'.objs.size (.tup ys)) {s with heap:=h'.push {cls:= .type "tuple",data:= .seq its.toArray}}:=
    I1.laid (t':=s.toks) (fun b o e=>aae _ e) (aah _) (show ObjOk X.prog X.w _ _ _ (.tup ys) from ⟨hz,its,r',IsTup.new _ _⟩)
   exact ⟨.ref h'.objs.size,_,I2,rfl,q _ (I1.hok.fresh (aah _))⟩
 · obtain ⟨its,r',pl,hz⟩:=I.tuple hq;exact call_tuple_same pl ⟨.ref p,H,I,rfl,q⟩
def tyV (K:aaa) (T:String) (x:V) (H:Hp):Prop:=match x with
 | .str _=>T= "str"
 | .int _=>T= "int"
 | .ref p=>(T= "list" /\ ∃xs,SqL K H p xs)\/(T= "tuple" /\ ∃o,K.lookup p=some o/\o.cls= .type "tuple" /\o.dict=none)\/
  (T= "dict" /\((∃kvs,H p=some (.dK kvs))\/ ∃kvs,H p=some (.dT kvs)))\/(T= "set" /\ ∃S n,H p=some (.set S n))
 |_=>False
def jcP {pins:List (Addr×Obj)} {σ:St} {H:Hp} {s:aaf} {T:String} {x:V} {v:Value} (I:Inv X pins σ H s) (r:RelV x v) (ty:tyV X.K T x H):
  s.TypeIs v T/\ ∀a,v= .ref a-> ∃ob,s.heap.get? a=some ob/\ob.dict=none:=by
 cases x with
 |str z=>
  obtain ⟨t,rfl⟩:=r;cases (show T= "str" from ty);exact ⟨typeIs_str s z t,fun _ e=>nomatch e⟩
 |int i=>
  obtain ⟨t,rfl⟩:=r;cases (show T= "int" from ty);exact ⟨typeIs_int s i t,fun _ e=>nomatch e⟩
 |ref p=>
  cases r;rcases ty with ⟨rfl,xs,hq⟩| ⟨rfl,o,hk,hc,hd⟩| ⟨rfl,hk⟩| ⟨rfl,S,n,hk⟩
  · obtain ⟨its,_,pl,_⟩:=I.list hq;refine ⟨pl.isList.typeIs,fun a e=>?_⟩;cases e;obtain ⟨o,n,e,c,hd,_⟩:=pl;exact ⟨o,e,hd⟩
  · refine ⟨⟨o,I.kIn p o hk,hc⟩,fun a e=>?_⟩;cases e;exact ⟨o,I.kIn _ o hk,hd⟩
  · have z: ∃o,s.heap.get? p=some o/\o.ExactDict:=by
     rcases hk with ⟨kvs,hk⟩| ⟨kvs,hk⟩
     · obtain ⟨_,_,_,_,o,_,_,e,ex,_⟩:=I.hok p _ hk;exact ⟨o,e,ex⟩
     · obtain ⟨_,_,_,_,o,_,_,e,ex,_⟩:=I.hok p _ hk;exact ⟨o,e,ex⟩
    obtain ⟨o,e,ex⟩:=z;refine ⟨⟨o,e,ex.1⟩,fun a e2=>?_⟩;cases e2;exact ⟨o,e,ex.2.1⟩
  · obtain ⟨o,_,_,_,e,ex,_⟩:=I.hok p _ hk;refine ⟨⟨o,e,ex.1⟩,fun a e2=>?_⟩;cases e2;exact ⟨o,e,ex.2.1⟩
 |_=>exact abC ty
def tBM (K:aaa) (T:String) (r:V->List V->Hp->VK->Prop) (to:TE) (t:TA):TE:=fun σ H Q=>to σ H fun x H1=>tyV K T x H1/\t σ H1 fun xs H2=>r x xs H2 Q
variable {o e:Expr} {es:List Expr} {to:TE} {t:TA} {name:Str} {apos cpos:Pos} {T id:String} {r:V->List V->Hp->VK->Prop}
def um (pa:PlainAttrs T) (slot:Slot T name id) (hty:typeOf (.builtin id)=pure (.type "method_descriptor")) (hm:MtR X id r) (ho:PE X o to) (ha:PA X (e::es) t)
  (hbase:abV o name X.env (eval o X.env)=eval o X.env:=by rfl)
  (hfew:((abn cpos (aai (e::es) X.env)).all (fun x=>!x.1)&&(adc cpos (abT [] X.env)).all (fun x=>x.1.isSome)
   &&decide ((e::es).length+([]:List adg).length+(if ([]:List adg).isEmpty then 0 else 1)<30))=true:=by rfl)
  (hline:(apos.endLine==cpos.line)=true:=by rfl) (hs:Wm X e es:=by rfl) (hplain:Wl X cpos es:=by rfl):
  PE X (.Call (.Attribute o name apos) (e::es) [] cpos) (tBM X.K T r to t):=by
 intro pins s σ H Q I h;refine wpAny_Call_method_late hbase hfew hline rfl (thn (ho pins s σ H _ I h) fun v s1 ⟨x,H1,I1,r1,ty,q1⟩=>?_);obtain ⟨h1,h2⟩:=jcP I1 r1 ty;refine ⟨T,id,pa,slot,hty,h1,h2,?_⟩;have hA:=ha cpos pins s1 σ H1 _ I1 q1;rw [hs] at hA ⊢;refine Calls.callWith_builtin (by show (false|| (abn cpos (aai es X.env)).any (·.1))=false;rw [hplain]<;>rfl) (Calls.evalArgs_plain ?_);exact thn hA fun us s2 ⟨vs,H2,I2,r2,q2⟩=>hm pins s2 σ H2 x vs v us Q I2 r1 r2 q2
/-xs.append(e),list.index on a module's tuple .. are MtR facts of 06m-/
end
def MtM (X:Cx) (id:String) (r:V->List V->Hp->VK->Prop):Prop:=
 ∀(pins:List (Addr×Obj)) (s:aaf) (σ:St) (H:Hp) (x:V) (xs:List V) (v:Value) (us:List Value) (Q:VK),Inv X pins σ H s->RelV x v->Vals xs us->r x xs H Q->
  wpAny (model X.prog X.w) X.A (call (.builtin id) (v::us)) (EP X pins σ Q) X.xe s
theorem Vals.one: ∀ {x:V} {us:List Value},Vals [x] us-> ∃u,us=[u]/\RelV x u
 |_,_,.cons r .nil=>⟨_,rfl,r⟩
section
variable {X:Cx} {pins:List (Addr×Obj)} {σ:St} {H:Hp} {s:aaf} {l b:Addr} {xs ys zs:List V}
def Inv.lset {its its':List Value} {n:Nat} {f:Array Value->Array Value} {t':Nat} (I:Inv X pins σ H s) (hH:H l=some (.lst xs))
  (e:s.heap.get? l=some {cls:= .type "list",data:= .seq its.toArray n}) (hf:f its.toArray=its'.toArray) (hv:Vals ys its') (hz:ys.length<=aaj):
  Inv X pins σ (upd H l (.lst ys)) {s with heap:=s.heap.update l (acA f),toks:=t'}:=by
 have q:=PySem.IsL.update e f;rw [hf] at q;refine I.write (x:=l) (e:=l) (by rw [hH];exact trivial) (.inl rfl) (fun b' u hb hu=>(ab2 s.heap (acA f) (acD hb)).trans hu) ⟨_,q⟩ ?_;exact ⟨hz,its',_,hv,q⟩
def Inv.lnew {its:List Value} {t':Nat} (I:Inv X pins σ H s) (hv:Vals ys its) (hz:ys.length<=aaj):
  Inv X pins σ (upd H s.heap.objs.size (.lst ys)) {s with heap:=s.heap.push {cls:= .type "list",data:= .seq its.toArray},toks:=t'}:=
 I.laid (fun _ _ q=>aae _ q) (aah _) ⟨hz,its,0,hv,aap _ rfl⟩
def Inv.fresh (I:Inv X pins σ H s):H s.heap.objs.size=none:=I.hok.fresh (aah _)
def Inv.lstM (I:Inv X pins σ H s) (hH:H l=some (.lst xs)):xs.length<=aaj/\ ∃(its:List Value) (n:Nat),Vals xs its/\xs.length=its.length/\s.heap.get? l=some {cls:= .type "list",data:= .seq its.toArray n}:=by
 obtain ⟨z,its,n,r,e⟩:=I.hok l _ hH;exact ⟨z,its,n,r,r.length,e⟩
def YG {n:Nat} (h:n<=aaj):abQ n=false:=by
 unfold abQ;exact decide_eq_false (by omega)
end
section
variable {X:Cx}
def jbl:V->List V->Hp->VK->Prop:=fun x vs H Q=> ∃l xs y,x= .ref l/\vs=[y]/\H l=some (.lst xs)/\xs.length<aaj/\Q .non (upd H l (.lst (xs++[y])))
def JM:MtM X "list.append" jbl:=by
 intro pins s σ H x vs v us Q I rx rv h;obtain ⟨l,xs,y,rfl,rfl,hH,hz,q⟩:=h;cases rx;obtain ⟨u,rfl,ru⟩:=rv.one;obtain ⟨z,its,n,r,hl,e⟩:=I.lstM hH;refine call_meets adG ⟨_,e,rfl⟩ F.entry_list_append (F.args_list_append_2 _ _) (PySem.list_append l its.toArray n u (by rw [aag];omega)) ⟨e,?_⟩;refine ⟨.non,_,I.lset (its':=its++[u]) hH e (by simp) (r.append (.cons ru .nil)) ?_,rfl,q⟩;rw [aaB,acL];omega
def jbj:V->List V->Hp->VK->Prop:=fun x vs H Q=> ∃l b xs zs,x= .ref l/\vs=[.ref b]/\H l=some (.lst xs)/\H b=some (.lst zs)/\xs.length+zs.length<=aaj/\Q .non (upd H l (.lst (xs++zs)))
def UO:MtM X "list.extend" jbj:=by
 intro pins s σ H x vs v us Q I rx rv h;obtain ⟨l,b,xs,zs,rfl,rfl,hH,hB,hz,q⟩:=h;cases rx;obtain ⟨u,rfl,ru⟩:=rv.one;cases ru;obtain ⟨z,its,n,r,hl,e⟩:=I.lstM hH;obtain ⟨z2,its2,n2,r2,hl2,e2⟩:=I.lstM hB;have hsz:its.toArray.size+its2.toArray.size<=aaj:=by rw [aag,aag];omega
 have hlong: ¬(!its.toArray.isEmpty&&abQ (its.toArray.size+its2.toArray.size))=true:=by
  rw [YG hsz,ac6];exact aaC
 refine call_meets ad3 ⟨_,e,rfl⟩ F.entry_list_extend (F.args_list_extend_2 _ _)
  (AutoSeq1.list_extend_list_list_0 l its.toArray n b its2.toArray n2 hlong (by rw [aag];omega) (by omega)) ⟨e,e2,?_⟩
 refine ⟨.non,_,I.lset (its':=its++its2) hH e (by simp) (r.append r2) ?_,rfl,q⟩;rw [aaB];omega
def rCat:R2:=fun x y H Q=> ∃l b xs zs,x= .ref l/\y= .ref b/\H l=some (.lst xs)/\H b=some (.lst zs)/\xs.length+zs.length<=aaj/\ ∀p,H p=none->Q (.ref p) (upd H p (.lst (xs++zs)))
def op_cat:OpR X (ab1 .Add) rCat:=by
 intro pins s σ H x y v u Q I rx ry h;obtain ⟨l,b,xs,zs,rfl,rfl,hH,hB,hz,q⟩:=h;cases rx;cases ry;obtain ⟨z,its,n,r,hl,e⟩:=I.lstM hH;obtain ⟨z2,its2,n2,r2,hl2,e2⟩:=I.lstM hB;refine PySem.P.add_list e e2 ?_ (by rw [aag,aag];omega);have ea:its.toArray++its2.toArray=(its++its2).toArray:=by simp
 rw [ea];exact ⟨.ref _,_,I.lnew (t':=s.toks) (r.append r2) (by rw [aaB];omega),rfl,q _ I.fresh⟩
end
section
variable {κ:Type} [DecidableEq κ]
def valV (kvs:List (κ×V)) (k:κ):Option V:=(kvs.find? fun kv=>decide (kv.1=k)).map (·.2)
def putK (kvs:List (κ×V)) (k:κ) (v:V):List (κ×V):=
 if (kvs.any fun kv=>decide (kv.1=k))=true then kvs.map (fun kv=>if kv.1=k then (kv.1,v) else kv) else kvs++[(k,v)]
def Q7 {p:κ×V} {r:List (κ×V)} {k:κ} (e:p.1=k):valV (p::r) k=some p.2:=by simp [valV,acM,e]
def Q8 {p:κ×V} {r:List (κ×V)} {k:κ} (e: ¬p.1=k):valV (p::r) k=valV r k:=by simp [valV,acM,e]
theorem Q9 (k:κ): ∀kvs:List (κ×V),(kvs.any fun kv=>decide (kv.1=k))=(valV kvs k).isSome
 | []=>rfl
 |p::r=>by
  rw [aeF]
  by_cases e:p.1=k
  · simp only [Q7 e,decide_eq_true e,Bool.true_or,Option.isSome_some]
  · rw [Q8 e,decide_eq_false e,Bool.false_or];exact Q9 k r
def JQ (kvs:List (κ×V)) (k:κ) (v:V):(putK kvs k v).length<=kvs.length+1:=by
 unfold putK
 split
 · rw [aan];omega
 · rw [aaB,aaF,abO];omega
def RelO.isSome_eq {o:Option V} {u:Option Value} (r:RelO o u):o.isSome=u.isSome:=by
 cases o with
 |none=>cases u with
  |none=>rfl
  |some _=>exact (show False from r).elim
 |some _=>cases u with
  |none=>exact (show False from r).elim
  |some _=>rfl
def KV.val {kvs:List (κ×V)} {vs:List (κ×Value)} (r:KV kvs vs) (k:κ):RelO (valV kvs k) (aeU vs k):=by
 unfold KV at r
 induction r with
 |nil=>exact acz
 | @cons p q ps qs h t ih=>
  obtain ⟨h1,h2⟩:=h
  by_cases e:p.1=k
  · have e':q.1=k:=h1.symm.trans e;have b:aeU (q::qs) k=some q.2:=by simp [aeU,acM,e']
    rw [Q7 e,b];exact h2
  · have e': ¬q.1=k:=fun z=>e (h1.trans z)
    have b:aeU (q::qs) k=aeU qs k:=by simp [aeU,acM,e']
    rw [Q8 e,b];exact ih
def KV.any {kvs:List (κ×V)} {vs:List (κ×Value)} (r:KV kvs vs) (k:κ):(kvs.any fun kv=>decide (kv.1=k))=vs.any fun kv=>decide (kv.1=k):=by
 unfold KV at r
 induction r with
 |nil=>rfl
 |cons h t ih=>rw [aeF,aeF,ih,h.1]
def KV.repl {kvs:List (κ×V)} {vs:List (κ×Value)} (r:KV kvs vs) (k:κ) {y:V} {u:Value} (ry:RelV y u):
  KV (kvs.map fun kv=>if kv.1=k then (kv.1,y) else kv) (vs.map fun kv=>if kv.1=k then (kv.1,u) else kv):=by
 unfold KV at r ⊢
 induction r with
 |nil=>exact .nil
 | @cons p q ps qs h t ih=>
  rw [aaE,aaE];refine .cons ?_ ih;obtain ⟨h1,h2⟩:=h
  by_cases e:p.1=k
  · rw [if_pos e,if_pos (h1.symm.trans e)];exact ⟨h1,ry⟩
  · rw [if_neg e,if_neg (fun z=>e (h1.trans z))];exact ⟨h1,h2⟩
def KV.put {kvs:List (κ×V)} {vs:List (κ×Value)} (r:KV kvs vs) (k:κ) {y:V} {u:Value} (ry:RelV y u):KV (putK kvs k y) (stored vs k u):=by
 unfold putK stored;rw [r.any k]
 by_cases e:(vs.any fun kv=>decide (kv.1=k))=true
 · rw [if_pos e,if_pos e];exact r.repl k ry
 · rw [if_neg e,if_neg e];exact Paired.snoc r ⟨rfl,ry⟩
def KV.keys {kvs:List (κ×V)} {vs:List (κ×Value)} (r:KV kvs vs):kvs.map (·.1)=vs.map (·.1):=by
 unfold KV at r
 induction r with
 |nil=>rfl
 |cons h t ih=>rw [aaE,aaE,ih,h.1]
def KV.length {kvs:List (κ×V)} {vs:List (κ×Value)} (r:KV kvs vs):kvs.length=vs.length:=adp r
end
def jbN {P:aaA} {w:World} {k:Key} {u:Value} (r:RelV (kV k) u):(jE P w).is k u=true:=by
 cases k with
 |inl i=>obtain ⟨t,e⟩:=(show∃t,u=aeQ i t from r);subst e;exact XY P w i t
 |inr x=>obtain ⟨t,e⟩:=(show∃t,u=Value.str x t from r);subst e;exact XX P w x t
theorem WM {P:aaA} {w:World}: ∀ {ks:List Key} {us:List Value},Vals (ks.map kV) us->ItemsAre (jE P w) ks us
 | [],_,r=>by rw [List.map_nil] at r;cases r;exact .nil
 |k::ks,_,r=>by
  rw [aaE] at r
  cases r with
  |cons h t=>exact .cons (jbN h) (WM t)
abbrev KT (H:Hp):List (List Key×V)->List (List Key×Addr×Value)->Prop:=aeI fun p q=>p.1=q.1/\H q.2.1=some (.tup (p.1.map kV))/\RelV p.2 q.2.2
def KT.val {H:Hp} {kvs:List (List Key×V)} {xs:List (List Key×Addr×Value)} (r:KT H kvs xs) (k:List Key):RelO (valV kvs k) ((atKey xs k).map (·.2)):=by
 induction r with
 |nil=>exact acz
 | @cons p q ps qs h t ih=>
  obtain ⟨h1,_,h2⟩:=h
  by_cases e:p.1=k
  · have e':q.1=k:=h1.symm.trans e;have b:atKey (q::qs) k=some q.2:=by simp [atKey,acM,e']
    rw [Q7 e,b];exact h2
  · have e': ¬q.1=k:=fun z=>e (h1.trans z)
    have b:atKey (q::qs) k=atKey qs k:=by simp [atKey,acM,e']
    rw [Q8 e,b];exact ih
def KT.repl {H:Hp} {kvs:List (List Key×V)} {xs:List (List Key×Addr×Value)} (r:KT H kvs xs) (k:List Key) {y:V} {u:Value} (ry:RelV y u):
  KT H (kvs.map fun kv=>if kv.1=k then (kv.1,y) else kv) (xs.map (putAt k u)):=by
 induction r with
 |nil=>exact .nil
 | @cons p q ps qs h t ih=>
  rw [aaE,aaE];refine .cons ?_ ih;obtain ⟨h1,h2,h3⟩:=h;unfold putAt
  by_cases e:p.1=k
  · rw [if_pos e,if_pos (h1.symm.trans e)];exact ⟨h1,h2,ry⟩
  · rw [if_neg e,if_neg (fun z=>e (h1.trans z))];exact ⟨h1,h2,h3⟩
def KT.put {H:Hp} {kvs:List (List Key×V)} {xs:List (List Key×Addr×Value)} (r:KT H kvs xs) (k:List Key) {b:Addr} {y:V} {u:Value} (hb:H b=some (.tup (k.map kV))) (ry:RelV y u):
   KT H (putK kvs k y) (storedH xs k b u):=by
 have e:(kvs.any fun kv=>decide (kv.1=k))=(atKey xs k).isSome:=by
   rw [Q9,(r.val k).isSome_eq,Option.isSome_map]
 unfold putK storedH;rw [e]
 by_cases q:(atKey xs k).isSome=true
 · rw [if_pos q,if_pos q];exact r.repl k ry
 · rw [if_neg q,if_neg q];exact Paired.snoc r ⟨rfl,hb,ry⟩
def KT.keeps {H H':Hp} {kvs:List (List Key×V)} {xs:List (List Key×Addr×Value)} (r:KT H kvs xs) (ht: ∀b ys,H b=some (.tup ys)->H' b=some (.tup ys)):KT H' kvs xs:=
 aeI.mapP r fun _ _ z=>⟨z.1,ht _ _ z.2.1,z.2.2⟩
section
variable {P:aaA} {w:World} {H:Hp} {h:Heap} {a:Addr}
def jc5 {u:HO} (ok:HOk P w H h) (e:Rd H a u):ObjOk P w H h a u:=e.ok ok
def jd1 {kvs:List (Key×V)} (ok:HOk P w H h) (e:Rd H a (.dK kvs)):kvs.length<=aaj/\(a==abY)=false/\ ∃vs,KV kvs vs/\h.DictOf (jE P w) a vs:=
 show ObjOk P w H h a (.dK kvs) from jc5 ok e
def jaf {kvs:List (Key×V)} (ok:HOk P w H h) (e:H a=some (.dK kvs)):kvs.length<=aaj/\(a==abY)=false/\ ∃vs,KV kvs vs/\h.DictOf (jE P w) a vs:=jd1 ok (.inl e)
def WK {ks:List Key} (ok:HOk P w H h) (e:H a=some (.tup (ks.map kV))):(acJ (jE P w)).is h ks a:=by
 obtain ⟨_,its,r,o,h1,h2,n,h3⟩:=(show ObjOk P w H h a (.tup (ks.map kV)) from ok a _ e)
 exact ⟨o,its.toArray,n,h1,h2,h3,by simpa using WM r⟩
def jdW {kvs:List (List Key×V)} (ok:HOk P w H h) (e:Rd H a (.dT kvs)):kvs.length<=aaj/\(a==abY)=false/\
  ∃xs,KT H kvs xs/\h.DictOfH (acJ (jE P w)) a xs:=by
 obtain ⟨z,y,xs,r,o,es,ep,h1,h2,h3,h4,h5⟩:=(show ObjOk P w H h a (.dT kvs) from jc5 ok e)
 refine ⟨z,y,xs,r,o,es,ep,h1,h2,h3,h4,fun x hx=>?_,h5⟩
 have all: ∀ {l:List (List Key×V)} {m:List (List Key×Addr×Value)},KT H l m-> ∀x∈m,(acJ (jE P w)).is h x.1 x.2.1:=by
  intro l m q
  induction q with
  |nil=>intro x hx;exact nomatch hx
  | @cons p q ps qs hq t ih=>
   intro x hx;rcases aaJ.mp hx with e|hx
   · subst e;exact WK ok (by rw [←hq.1];exact hq.2.1)
   · exact ih x hx
 exact all r x hx
def jeP {kvs:List (List Key×V)} (ok:HOk P w H h) (e:H a=some (.dT kvs)):kvs.length<=aaj/\(a==abY)=false/\
 ∃xs,KT H kvs xs/\h.DictOfH (acJ (jE P w)) a xs:=jdW ok (.inl e)
end
def DGet (H:Hp) (a:Addr) (y:V) (r:Option V):Prop:=
 (∃kvs k,Rd H a (.dK kvs)/\y=kV k/\r=valV kvs k)\/ ∃kvs k b,Rd H a (.dT kvs)/\y= .ref b/\H b=some (.tup (k.map kV))/\r=valV kvs k
def DPut (H:Hp) (a:Addr) (y v:V) (H':Hp):Prop:=
 (∃kvs k,H a=some (.dK kvs)/\y=kV k/\kvs.length<aaj/\H'=upd H a (.dK (putK kvs k v)))\/
 ∃kvs k b,H a=some (.dT kvs)/\y= .ref b/\H b=some (.tup (k.map kV))/\kvs.length<aaj/\H'=upd H a (.dT (putK kvs k v))
def DGet.t {H:Hp} {a b:Addr} {kvs:List (List Key×V)} {k:List Key} (e:H a=some (.dT kvs)) (eb:H b=some (.tup (k.map kV))):DGet H a (.ref b) (valV kvs k):= .inr ⟨kvs,k,b,.inl e,rfl,eb,rfl⟩
def DPut.k {H:Hp} {a:Addr} {kvs:List (Key×V)} {k:Key} {v:V} (e:H a=some (.dK kvs)) (hl:kvs.length<aaj):DPut H a (kV k) v (upd H a (.dK (putK kvs k v))):= .inl ⟨kvs,k,e,rfl,hl,rfl⟩
def DPut.t {H:Hp} {a b:Addr} {kvs:List (List Key×V)} {k:List Key} {v:V} (e:H a=some (.dT kvs)) (eb:H b=some (.tup (k.map kV))) (hl:kvs.length<aaj):
 DPut H a (.ref b) v (upd H a (.dT (putK kvs k v))):= .inr ⟨kvs,k,b,e,rfl,eb,hl,rfl⟩
section
variable {X:Cx} {pins:List (Addr×Obj)} {σ:St} {H:Hp} {s:aaf} {a:Addr} {y v:V} {u r:Value} {o:Option V} {A:aaU} {E:Xw}
def Inv.big (I:Inv X pins σ H s):abY<s.heap.objs.size:=by
 have h:aak<s.heap.objs.size:=(I.mod.glob.keeps I.bk).lt;exact aeV (by decide) h
def jco {Q:Xw} (hu:A.units+1<cLine) (I:Inv X pins σ H s) (g:DGet H a y o) (ry:RelV y u) (h: ∀s',Inv X pins σ H s'->Q (.bool (!o.isSome)) s'):
   wpAny (model X.prog X.w) A (abg .NotIn u (.ref a)) Q E s:=by
 rcases g with ⟨kvs,k,e,ey,l⟩| ⟨kvs,k,b,e,ey,eb,l⟩
 · subst ey;obtain ⟨z,hd,vs,rel,dd⟩:=jd1 I.hok e;refine wpAny_notIn_of (jbN ry) hd dd.mapOf ?_;rw [←(rel.val k).isSome_eq,←l];exact h _ (I.tok _)
 · subst ey;cases (show u=aaz b from ry);obtain ⟨z,hd,xs,rel,dd⟩:=jdW I.hok e;refine wpAny_notIn_heap (tupleKind_room_in1 hu) (WK I.hok eb) hd dd ?_;have q:=(rel.val k).isSome_eq;rw [Option.isSome_map] at q;rw [←q,←l];exact h _ (I.tok _)
def vk {h':Heap} {t':Nat} {ob:HO} (I:Inv X pins σ H s) (mu:Mut (H a)) (hs:ab9 a s.heap h') (he: ∃q,h'.get? a=some q) (new:ObjOk X.prog X.w (upd H a ob) h' a ob):
  Inv X pins σ (upd H a ob) {s with heap:=h',toks:=t'}:=
 I.write (x:=a) (e:=a) mu (.inl rfl) (fun b q hb z=>(hs.2 b hb).trans z) he new
def jd2 {P:aaA} {w:World} {H':Hp} {h':Heap} {kvs:List (Key×V)} {vs:List (Key×Value)} (z:kvs.length<=aaj) (hd:(a==abY)=false) (rel:KV kvs vs) (dd:h'.DictOf (jE P w) a vs):
 ObjOk P w H' h' a (.dK kvs):=⟨z,hd,vs,rel,dd⟩
def vm {H':Hp} {Q:Unit->aaf->Prop} (hu:A.units+1<cLine) (I:Inv X pins σ H s) (g:DPut H a y v H') (ry:RelV y u) (rv:RelV v r) (h: ∀s',Inv X pins σ H' s'->Q () s'):
   wpAny (model X.prog X.w) A (setItem (.ref a) u r) Q E s:=by
 rcases g with ⟨kvs,k,e,ey,l,eH⟩| ⟨kvs,k,b,e,ey,eb,l,eH⟩
 · subst ey eH;obtain ⟨z,hd,vs,rel,dd⟩:=jaf I.hok e;have hz:vs.length<=aaj:=by rw [←rel.length];exact z
   have hl:(putK kvs k v).length<=aaj:=by have:=JQ kvs k v;omega
   refine wpAny_setItem_pairs (hsz:=hz) (jbN ry) dd fun h' dd' hs=>h _ ?_
   have he: ∃q,h'.get? a=some q:=let ⟨q,_,_,hq,_⟩:=dd';⟨q,hq⟩
   exact vk I (by rw [e];exact acz) hs he (jd2 hl hd (rel.put k rv) dd')
 · subst ey eH;cases (show u=aaz b from ry);obtain ⟨z,hd,xs,rel,dd⟩:=jeP I.hok e;have hz:xs.length<=aaj:=by rw [←adp rel];exact z
   have hl:(putK kvs k v).length<=aaj:=by have:=JQ kvs k v;omega
   refine wpAny_setItem_heap (hsz:=hz) (tupleKind_room_in1 hu) (WK I.hok eb) dd fun h' dd' hs=>h _ ?_
   obtain ⟨q,es,ep,hq,h2,h3,h4,_,h5⟩:=dd';refine vk I (by rw [e];exact acz) hs ⟨q,hq⟩ ⟨hl,hd,_,(rel.put k eb rv).keeps fun c ys ec=>?_,q,es,ep,hq,h2,h3,h4,h5⟩;rw [jp (jeH ec e (fun z=>nomatch z))];exact ec
end
def jey (td ty tv:TE):TS:=fun D σ H=>tv σ H fun v H1=>td σ H1 fun x H2=>ty σ H2 fun y H3=> ∃a H4,x= .ref a/\DPut H3 a y v H4/\D.nx σ H4
section
variable {X:Cx} {o i e value:Expr} {pos pos' tpos:Pos} {td ty tv:TE}
def Uk (hu:X.A.units+1<cLine) (ho:PE X o td) (hi:PE X i ty) (hv:PE X value tv) (hs:aca value (some (.Subscript o i pos')) pos.line X.env=pure false):
  PS X (.Assign [.Subscript o i pos'] value pos) (jey td ty tv):=by
 intro pins s σ H D I h;refine wpAny_Assign_Subscript (thn (hv pins s σ H _ I h) fun r s1 ⟨v,H1,I1,rv,q1⟩=>thn (ho pins s1 σ H1 _ I1 q1) fun u s2 ⟨x,H2,I2,rx,q2⟩=>thn (hi pins s2 σ H2 _ I2 q2) fun iv s3 ⟨y,H3,I3,ry,a,H4,ex,g,q3⟩=>?_) hs;subst ex;obtain rfl:u=aaz a:=rx;exact vm hu I3 g ry rv fun s4 I4=>⟨σ,H4,I4,q3⟩
end
def jag {P:aaA} {w:World} {H:Hp} (h:Heap) (hb:abY<h.objs.size):ObjOk P w H (h.push {cls:= .type "dict",data:= .dict #[]}) h.objs.size (.dK []):=
 ⟨aa4 _,beq_eq_false_iff_ne.mpr (acD (aax hb)),[],.nil,Heap.DictOf.new h⟩
def u6 {P:aaA} {w:World} {H:Hp} (h:Heap) (hb:abY<h.objs.size):ObjOk P w H (h.push {cls:= .type "dict",data:= .dict #[]}) h.objs.size (.dT []):=
 ⟨aa4 _,beq_eq_false_iff_ne.mpr (acD (aax hb)),[],.nil,_, #[],0,aap _ rfl,⟨rfl,rfl,rfl⟩,rfl,rfl,List.nodup_nil⟩
def jcW:TE:=fun _ H Q=> ∀p,H p=none->Q (.ref p) (upd H p (.dK []))
def jcV:TE:=fun _ H Q=> ∀p,H p=none->Q (.ref p) (upd H p (.dT []))
section
variable {X:Cx} {pos:Pos}
def uk:PE X (.Dict [] [] pos) jcW:=fun pins s σ H Q I h=>
 wpAny_Dict_empty ⟨.ref s.heap.objs.size,_,I.laid (a:=s.heap.objs.size) (o:= .dK []) (t':=s.toks) (fun _ _ q=>aae _ q) (aah _) (jag s.heap I.big),rfl,h _ (I.hok.fresh (aah _))⟩
def uj:PE X (.Dict [] [] pos) jcV:=fun pins s σ H Q I h=>
 wpAny_Dict_empty ⟨.ref s.heap.objs.size,_,I.laid (a:=s.heap.objs.size) (o:= .dT []) (t':=s.toks) (fun _ _ q=>aae _ q) (aah _) (u6 s.heap I.big),rfl,h _ (I.hok.fresh (aah _))⟩
end
structure M1 (X:Cx) (o:Expr) (m:Str) (apos:Pos) (e:Expr) (cpos:Pos):Prop where
 base:abV o m X.env (eval o X.env)=eval o X.env
 few:((abn cpos (aai [e] X.env)).all (fun x=>!x.1)&&(adc cpos (abT [] X.env)).all (fun x=>x.1.isSome)
  &&decide (([e]:List Expr).length+([]:List adg).length+(if ([]:List adg).isEmpty then 0 else 1)<30))=true
 line:(apos.endLine==cpos.line)=true
 trees:abn cpos (aai [e] X.env)=[(false,eval e X.env)]
structure M2 (X:Cx) (o:Expr) (m:Str) (apos:Pos) (e f:Expr) (cpos:Pos):Prop where
 base:abV o m X.env (eval o X.env)=eval o X.env
 few:((abn cpos (aai [e,f] X.env)).all (fun x=>!x.1)&&(adc cpos (abT [] X.env)).all (fun x=>x.1.isSome)
  &&decide (([e,f]:List Expr).length+([]:List adg).length+(if ([]:List adg).isEmpty then 0 else 1)<30))=true
 line:(apos.endLine==cpos.line)=true
 trees:abn cpos (aai [e,f] X.env)=[(false,eval e X.env),(false,eval f X.env)]
end L2
namespace Att
open PySem PySem.W PySem.Calls PyProof.Rows
def JV {P:Params} {h:Heap}: ∀(ns:List Int) (vs:List Value),WellAll P h vs (ns.map WData.int)->IntsAre vs ns:=by
 intro ns
 induction ns with
 |nil=>
  intro vs w;rw [List.map_nil] at w;cases w;exact .nil
 |cons n ns ih=>
  intro vs w;rw [aaE] at w
  cases w with
  |cons a b=>
   cases a;exact .cons _ _ (ih _ b)
def VQ {l:aeW} {n:Nat} (hn:l.most=some n) {P:Params} {h:Heap} {args:List WData} {vals:List Value}
  (hpre:l.row.toRowW.claim.pre args=true) (hwl:WellAll P h vals args):
  ∃a vs ns,vals=[aaz a]/\args=[WData.list (ns.map WData.int)]/\h.get? a=some {cls:= .type "list",data:= .seq vs.toArray}/\IntsAre vs ns/\ns.length<=n:=by
 have hsh:WShape.hasAll [] args [.list .int]=true:=(pre_splitW hpre).1;have hc:l.pre.holds [] {args:=args}=true:=(pre_splitW hpre).2;obtain ⟨d,r,rfl,h1,h2⟩:=hasAllW_cons hsh;obtain rfl:=hasAllW_nil h2;obtain ⟨xs,rfl,h3⟩:=hasW_list h1;obtain ⟨ns,rfl⟩:=items_int h3
 have hlen:ns.length<=n:=by
  unfold OpenLaw.pre at hc
  have h4:(WTm.not (.lt (.lit (.int (n:Int))) (.len (.arg 0)))).holds [] {args:=[.list (ns.map .int)]}=true:=by
   have h4:=(holds_andW hc).1;rw [hn] at h4;exact h4
  have h5:=condW_of h4 (w_not (w_lt w_lit (w_len_list (w_arg rfl))));rw [aan] at h5;refine ade fun q=>?_
  have q':(n:Int)< ((ns.length:Nat):Int):=by omega
  first
   | (rw [decide_eq_true q'] at h5;exact absurd h5 (by decide))
   | (simp at h5;omega)
 cases hwl with
 |cons w1 w2=>
  cases w2
  cases w1 with
  |list ho hall=>exact ⟨_,_,ns,rfl,rfl,ho,JV ns _ hall,hlen⟩
def Ur (l:aeW) (args:List WData):l.row.toRowW.claim.post args (.bool true) args=true:=
 postW_of (r:=l.row.toRowW) (X:=(true==true))
  (show WShape.has [] (.bool true) .bool=true by first|rfl|decide|simp [WShape.has,WShape.arms,WShape.armsAll])
  (show (WTm.eq .res (.lit (.bool true))).value [] {args:=args,res:=some (.bool true),after:=args}=some (.bool (true==true)) from w_eq_bool (w_res rfl) w_lit) rfl
end Att
namespace L2
open PySem PySem.Spec PyProof.Rows
theorem Wb: ∀ {vs:List Value} {ns:List Int},IntsAre vs ns->Vals (ns.map V.int) vs
 |_,_,.nil=> .nil
 |_,_,.cons n t h=> .cons ⟨t,rfl⟩ (Wb h)
def Only (H:Hp):Prop:= ∀b,H b=none\/ ∃o xs,H b=some (.frz o (.lst xs))
def uL {P:aaA} {w:World} {K:aaa} {mg mb:Xy} {CX:CXT} {k:Nat} {fa a:Addr} {fd:abK} {x:Str} {sp:Sp} {s₁:aaf} {vs:List Value} {ns:List Int}
  (KX:K.In s₁.heap) (hns:s₁.heap.Ns aak mg) (hb:s₁.heap.Ns builtinsNs mb) (hbb: ∀x:Str,x≠ "__name__" ->mb x=aa9 x) (hlim:s₁.heap.NoLimit) (hg:s₁.gens= #[])
  (ha:s₁.heap.get? a=some {cls:= .type "list",data:= .seq vs.toArray}) (hi:IntsAre vs ns) (hl:ns.length<=aaj) (hr:Room k callerA)
  (F: ∀base:Heap,K.In base->base.Ns aak mg->FnOk P w K mg base CX k fa fd [x] sp) (hbind: ∀(s:aaf) (u:Value),BindsTo s fd ⟨[u],[]⟩ [(x,u)])
  (hsp: ∀H:Hp,Only H->SqL K H a (ns.map V.int)->sp [.ref a] H (fun v _=>v= .bl true) fun _ _ _=>False)
  (hCX: ∀H e s',CX [] H s₁ (fun _ _ _=>False) e s'->False):
  adw (model P w) callerA (.call (.ref fa) ⟨[.ref a],[]⟩) (fun r s'=>r= .ok (.ret (.bool true))/\OldK s₁.heap s'.heap/\s'.os=s₁.os/\aeD s'.gens) s₁:=by
 have rv:=Wb hi;have lenV:=hi.length
 have core: ∀H:Hp,Only H->SqL K H a (ns.map V.int)->HOk P w H s₁.heap->(∀b,H b≠none->b=a)->(H a≠none->K.lookup a=none)->
    adw (model P w) callerA (.call (.ref fa) ⟨[.ref a],[]⟩) (fun r s'=>r= .ok (.ret (.bool true))/\OldK s₁.heap s'.heap/\s'.os=s₁.os/\aeD s'.gens) s₁:=by
  intro H hO hS hok hA hK;have base_of: ∀ {b:Addr} {o:Obj},s₁.heap.get? b=some o->H b=none->(hidT s₁.heap H).get? b=some o:=fun e n=>uS e n
  have noA: ∀ {b:Addr} {o:Obj} {es:Array DictEntry} {ep:Nat},s₁.heap.get? b=some o->o.data= .dict es ep->H b=none:=fun {b o es ep} e d=>by
    cases q:H b with
    |none=>rfl
    |some u=>
      have e':b=a:=hA b (by rw [q];simp);subst e';rw [ha] at e;cases e;have d':Data.seq vs.toArray _=Data.dict es ep:=d;cases d'
  have nsK: ∀ {b:Addr} {m:Xy},s₁.heap.Ns b m->(hidT s₁.heap H).Ns b m:=fun {b m} ⟨o,es,ep,e,d,r⟩=>⟨o,es,ep,base_of e (noA e d),d,r⟩
  have hKb:K.In (hidT s₁.heap H):=fun b o e=>base_of (KX b o e) (by
    cases q:H b with
    |none=>rfl
    |some u=>
      have e':b=a:=hA b (by rw [q];simp);subst e'
      rw [hK (by rw [q];simp)] at e;cases e)
  have hM:Mod K mg (hidT s₁.heap H):=⟨hKb,nsK hns,⟨mb,nsK hb,hbb⟩,let ⟨mc,h1,h2⟩:=hlim;⟨mc,nsK h1,h2⟩⟩
  have e0:Env0 P w K mg (hidT s₁.heap H) callerA [] s₁ H:=⟨rfl,hM,fun b o e=>jbB e,Nat.le_of_eq (kn _ _),trivial,fun b hb=>absurd (show b∈([]:List Addr) from hb) (by simp),hok,.of_eq hg⟩
  refine adj ((F _ hKb (nsK hns)).run callerA [] s₁ H ⟨[.ref a],[]⟩ [.ref a] [.ref a] _ _ hr e0 (hbind s₁ (.ref a)) (.cons rfl .nil) (hsp H hO hS)) fun r s' h=>?_
  cases r with
  |error e=>exact (hCX H e s' h).elim
  |ok fl=>
    cases fl with
    |next=>exact abC h
    |brk=>exact abC h
    |cont=>exact abC h
    |ret u=>
      obtain ⟨v,H',os,bare,un,hok',r',q⟩:=h;have q':v= .bl true:=q;subst q';obtain rfl:u=acU true:=r';refine ⟨rfl,OldK.of_keep fun b o e=>?_,os,bare⟩
      cases q:H b with
      |none=>exact un.keep b o e q (by intro z;exact absurd (show b∈([]:List Addr) from z) (by simp)) (by simp)
      |some u=>
       rcases hO b with z| ⟨ob,xs,z⟩
       · rw [q] at z;cases z
       · have z2:=un.frzs b ob _ z;obtain ⟨e1,_⟩:=hok b _ z;obtain ⟨e2,_⟩:=hok' b _ z2;rw [e] at e1;cases e1;exact e2
 cases hk:K.lookup a with
 |some o=>
  have e:=KX a o hk;rw [ha] at e;cases e;refine core (fun _=>none) (fun _=> .inl rfl) (.inr ⟨_,vs.toArray,_,hk,rfl,rfl,rfl,by rw [aag,lenV];exact hl,by simpa using rv⟩) (fun b u z=>by have z':(none:Option HO)=some u:=z;cases z') (fun b z=>absurd rfl z) fun z=>absurd rfl z
 |none=>
  refine core (fun b=>if b=a then some (.frz {cls:= .type "list",data:= .seq vs.toArray} (.lst (ns.map V.int))) else none) (fun b=>?_) (.inl (.inr ⟨{cls:= .type "list",data:= .seq vs.toArray},if_pos rfl⟩)) (fun b u z=>?_) (fun b z=>?_) fun _=>hk
  · by_cases hb:b=a
    · exact .inr ⟨_,_,if_pos hb⟩
    · exact .inl (if_neg hb)
  · by_cases hb:b=a
    · have z':=(if_pos hb).symm.trans z;cases z';subst hb;exact ⟨ha,by rw [aan];exact hl,vs,_,rv,ha⟩
    · have z':=(if_neg hb).symm.trans z;cases z'
  · by_cases hb:b=a
    · exact hb
    · exact absurd (if_neg hb) z
end L2
/-THE LAST THEOREM (shape;LID,My.*are yours):
 My.Adr:a structure of the addresses that your layer names (classes,functions);My.Txt K t:a structure (Prop) of the equations over K;
 My.txt_mk:{K} {implicit addresses ..} (e1:nsIn K aak "law" =some (some (.ref f))) (e2:K.lookup f=some ⟨oc,od,.func (fnOf "law" "law" params body scope dV kV doc pm an cdv ct),sl⟩) (e3:adF K cdv "law" =true) .. : ∃t,My.Txt K t
set_option maxRecDepth 100000 in
set_option maxHeartbeats 0 in
theorem PySem.Challenge.cw_LID_holds:PySem.Challenge.rw_LID.Holds:=by
 w_on;o_law;k_head;(case hw=>w_witness2)
 k_fill
 refine L2.walk_of (l:=PySem.Challenge.rw_LID) (n:=63) (k:=40) (x:= "script") (CX:=fun w=> ..) (sp:=fun _=>My.sp_law) rfl (by decide) rfl ⟨rfl,by decide,by decide⟩ (fun w h Y=>PySem.W.kIn_of Y) ?F ?S ?C
 case F=>
  intro w mg fa h KX G hmg
  have T: ∃t,My.Txt (L2.KOf KX) t:=by
   dsimp only [L2.KOf]                          --K must stand as «<heap const>w.params» for k_is;refine' My.txt_mk ?e1 ?e2 ?e3 ..
   (case e1=>PySem.W.k_is)                    --in the order:a name->its address->its object->its parts
   (case e2=>PySem.W.k_is)
   ..
  obtain ⟨t,T⟩:=T;have e0:=hmg.symm.trans (aaH KX G T.law);cases e0                                       --fa is the law's own address;exact ⟨_,fun s u=> .of_eq rfl,fun base kb nb=>My.law_fn T kb nb⟩     --if «.of_eq rfl» comes too early:refine' ⟨_,?b,fun base kb nb=>My.law_fn T kb nb⟩;exact fun s u=> .of_eq rfl
 case S=>exact fun w H a ns hl hO hS=> ..
 case C=>exact ..
(the tactic k_is has no namespace:write k_is)-/
namespace L2
open PySem PySem.Spec PyProof.Rows
def wA (s:Stmt) (j:Nat):Stmt:=match s with
 | .ClassDef _ _ _ body _ _ _ _ _ _ _=>body.getD j (.Pass ⟨0,0,0,0⟩)
 |_=> .Pass ⟨0,0,0,0⟩
def wK (s:Stmt):Arguments:=match s with
 | .FunctionDef _ a _ _ _ _ _ _ _ _=>a
 |_=> {posonlyargs:=[],args:=[],vararg:=none,kwonlyargs:=[],kw_defaults:=[],kwarg:=none,defaults:=[]}
def jY (s:Stmt):List Stmt:=match s with
 | .FunctionDef _ _ b _ _ _ _ _ _ _=>b
 |_=>[]
def jf (s:Stmt):Scope:=match s with
 | .FunctionDef _ _ _ _ _ _ sc _ _ _=>sc
 |_=> {kind:= .function,names:=[],isGenerator:=false,isCoroutine:=false}
abbrev CX0:CXT:=fun _ _ _ _ _ _=>False
abbrev E0:XK:=fun _ _ _=>False
def Uv {X:Cx}:Qi CX0 X E0:=fun _ _ _ _ _ _ _ h=>h.elim
structure Fun (K:aaa) (x qual:Str) (st:Stmt) (f:Addr) (fd:abK):Prop where
 ex: ∃(oc:Value) (od:Option Addr) (kV doc pm:Value) (an:Option Addr) (cdv ct:Value) (osl:Array (Option Value)),
  fd=acb x qual (wK st) (jY st) (jf st) .none kV doc pm an cdv ct/\K.lookup f=some ⟨oc,od,.func fd,osl⟩/\adF K cdv qual=true
 kp:aaX K (.ref f)=true
section
variable {P:aaA} {w:World} {K:aaa} {mg:Xy} {base:Heap}
def Fun.ok {x qual:Str} {st:Stmt} {f:Addr} {fd:abK} {N ps:List Str} {k:Nat} {sp:Sp} (F:Fun K x qual st f fd) (S:FnScope N ps (jf st)) (len: ∀vs H Q E,sp vs H Q E->vs.length=ps.length)
  (hbody: ∀(cdv:Value) (A:aaU) (outer:List Env) (s:aaf) (H:Hp) (vs:List V) (Q:VK) (E:XK),Room k (A.deeper (adx qual (jf st) s.heap.objs.size f cdv))->sp vs H Q E->
   ∃t,PSs (cxOf CX0 P w K mg base N qual (jf st) f cdv A outer s H E).nox (jY st) t/\t {nx:=fun _ H'=>Q .non H',rt:=Q} (start N vs) H):FnOk P w K mg base CX0 (k+1) f fd ps sp:=by
 obtain ⟨oc,od,kV,doc,pm,an,cdv,ct,osl,rfl,lk,hcd⟩:=F.ex;refine jb1 lk hcd S len fun A outer s H vs Q E hr hsp=>?_
 obtain ⟨t,h,q⟩:=hbody cdv A outer s H vs Q E hr hsp;exact ⟨t,h.nox,q⟩
def Fun.binds {x qual:Str} {st:Stmt} {f:Addr} {fd:abK} {ps:List Str} (F:Fun K x qual st f fd)
  (h: ∀(kV doc pm:Value) (an:Option Addr) (cdv ct:Value) (us:List Value),us.length=ps.length->bindArgs (acb x qual (wK st) (jY st) (jf st) .none kV doc pm an cdv ct) ⟨us,[]⟩=pure (ps.zip us)):Binds K fd ps []:=by
 obtain ⟨oc,od,kV,doc,pm,an,cdv,ct,osl,rfl,lk,hcd⟩:=F.ex;exact .all (h kV doc pm an cdv ct)
def jaP {x qual:Str} {st:Stmt} {f:Addr} {oc:Value} {od an:Option Addr} {osl:Array (Option Value)} {kV doc pm cdv ct:Value} (l:K.lookup f=some ⟨oc,od,.func (acb x qual (wK st) (jY st) (jf st) .none kV doc pm an cdv ct),osl⟩)
 (c:adF K cdv qual=true) (k:aaX K (.ref f)=true):Fun K x qual st f (acb x qual (wK st) (jY st) (jf st) .none kV doc pm an cdv ct):=⟨⟨oc,od,kV,doc,pm,an,cdv,ct,osl,rfl,l,c⟩,k⟩
end
def jbU {A:aaU} {k:Nat} (hr:Room k A):A.units+1<cLine:=ael (Nat.add_le_add_left (by decide:1<=64) _) hr.units
def Same (H H':Hp):Prop:= ∀b o,H b=some o->H' b=some o
def Same.refl (H:Hp):Same H H:=fun _ _ h=>h
def Same.trans {H H1 H2:Hp} (a:Same H H1) (b:Same H1 H2):Same H H2:=fun c o h=>b c o (a c o h)
def Same.free {H H':Hp} (e:Same H H') {l:Addr} (h:H' l=Option.none):H l=Option.none:=by
 cases q:H l with
 |none=>rfl
 |some o=>
  rw [e l o q] at h;cases h
end L2
namespace M
open PySem PySem.Spec L2
open PyProof.Rows hiding St
inductive D where
 |non|bl (b:Bool)|int (i:Int)|str (x:Str)
 |tup (ds:List D)|lst (ds:List D)|scr (ds:List D)|dic (ks:List Key) (vs:List D)|dit (ks:List (List Key)) (vs:List D)|exn (c:Str)|fdc (ks:List Key) (vs:List D)|hdc (ks:List Key) (vs:List D)|obj (c:Str) (ns:List Str) (vs:List D)|mem (B:List NK) (Φ:NK->Option NK->Prop)
mutual
def D.imm:D->Bool
 | .non=>true
 | .bl _=>true
 | .int _=>true
 | .str _=>true
 | .tup ds=>D.imms ds
 | .lst _=>false
 | .scr _=>false
 | .dic _ _=>false
 | .dit _ _=>false
 | .exn _=>true
 | .fdc _ _=>false
 | .hdc _ _=>false
 | .obj _ _ _=>false
 | .mem _ _=>false
def D.imms:List D->Bool
 | []=>true
 |d::ds=>D.imm d&&D.imms ds
end
inductive Res (α:Type) where
 |ok (a:α)
 |exc (c:Str)
 |stuck
noncomputable def Res.bind {α β:Type} (r:Res α) (f:α->Res β):Res β:=
 match r with
 | .ok a=>f a
 | .exc c=> .exc c
 | .stuck=> .stuck
instance:Monad Res where
 pure:=Res.ok
 bind:=Res.bind
def jc {α β:Type} {r:Res α} {f:α->Res β} {b:β} (h:(r>>=f)= .ok b): ∃a,r= .ok a/\f a= .ok b:=by
 cases r with
 |ok a=>exact ⟨a,rfl,h⟩
 |exc c=>cases h
 |stuck=>cases h
noncomputable def must {α:Type} (c:Prop) [Decidable c] (r:Res α):Res α:=if c then r else .stuck
def jl {α:Type} {c:Prop} [Decidable c] {r:Res α} {a:α} (h:must c r= .ok a):c/\r= .ok a:=by
 unfold must at h
 by_cases hc:c
 · rw [if_pos hc] at h;exact ⟨hc,h⟩
 · rw [if_neg hc] at h;cases h
def jt {α:Type} {c:Prop} [Decidable c] {r:Res α} (h:c):must c r=r:=if_pos h
def LsK (K:aaa) (H:Hp) (a:Addr) (xs:List V):Prop:=
 (∃o,H a=some (.frz o (.lst xs)))\/
  ∃(o:Obj) (its:Array Value) (n:Nat),K.lookup a=some o/\o.cls= .type "list" /\o.dict=none/\o.data= .seq its n/\its.size<=aaj/\Vals xs its.toList
def LsK.sql {K:aaa} {H:Hp} {a:Addr} {xs:List V} (h:LsK K H a xs):SqL K H a xs:=by
 rcases h with h|h
 · exact .inl (.inr h)
 · exact .inr h
mutual
inductive Rep (K:aaa):(Addr->Prop)->Hp->V->D->Prop where
 |non {A H}:Rep K A H .non .non
 |bl {A H} (b:Bool):Rep K A H (.bl b) (.bl b)
 |int {A H} (i:Int):Rep K A H (.int i) (.int i)
 |str {A H} (x:Str):x.length<=aaj->Rep K A H (.str x) (.str x)
 |tup {A H} {a:Addr} {xs:List V} {ds:List D}:H a=some (.tup xs)->Reps K A H xs ds->Rep K A H (.ref a) (.tup ds)
 |lst {A H} {a:Addr} {xs:List V} {ds:List D}:H a=some (.lst xs)->A a->Reps K (fun c=>A c/\c≠a) H xs ds->Rep K A H (.ref a) (.lst ds)
 |lsk {A H} {a:Addr} {xs:List V} {ds:List D}:LsK K H a xs->Reps K A H xs ds->Rep K A H (.ref a) (.scr ds)
 |dic {A H} {a:Addr} {kvs:List (Key×V)} {vs:List V} {ks:List Key} {ds:List D}:H a=some (.dK kvs)->A a->kvs.map (·.1)=ks->kvs.map (·.2)=vs->Reps K (fun c=>A c/\c≠a) H vs ds->Rep K A H (.ref a) (.dic ks ds)
 |dit {A H} {a:Addr} {kvs:List ((List Key)×V)} {vs:List V} {ks:List (List Key)} {ds:List D}:H a=some (.dT kvs)->A a->kvs.map (·.1)=ks->kvs.map (·.2)=vs->Reps K (fun c=>A c/\c≠a) H vs ds->Rep K A H (.ref a) (.dit ks ds)
 |exn {A H} {a b C:Addr} {o:Obj} {c:Str}:H a=some (.frz o (.own b))->o.cls= .ref C->aal K aak c=some (some (.ref C))->Rep K A H (.ref a) (.exn c)
 |fdc {A H} {a:Addr} {kvs:List (Key×V)} {vs:List V} {ks:List Key} {ds:List D}:((H a=some (.dK kvs)/\A a)\/ ∃o,H a=some (.frz o (.dK kvs)))->kvs.map (·.1)=ks->kvs.map (·.2)=vs->Reps K (fun c=>A c/\c≠a) H vs ds->Rep K A H (.ref a) (.fdc ks ds)
 |hdc {A H} {a:Addr} {kvs:List (Key×V)} {vs:List V} {ks:List Key} {ds:List D}:(∃o,H a=some (.frz o (.dK kvs)))->kvs.map (·.1)=ks->kvs.map (·.2)=vs->Reps K (fun c=>A c/\c≠a) H vs ds->Rep K A H (.ref a) (.hdc ks ds)
 |obj {A H} {a C dx:Addr} {fs:List (Str×V)} {vs:List V} {c:Str} {ns:List Str} {ds:List D}:H a=some (.ins C dx fs)->A a->(aal K aak c=some (some (.ref C))/\fs.map (·.1)=ns)->fs.map (·.2)=vs->Reps K (fun c=>A c/\c≠a) H vs ds->Rep K A H (.ref a) (.obj c ns ds)
 |mem {A H} {a:Addr} {B:List NK} {Φ:NK->Option NK->Prop}:H a=some (.memo B Φ)->A a->Rep K A H (.ref a) (.mem B Φ)
inductive Reps (K:aaa):(Addr->Prop)->Hp->List V->List D->Prop where
 |nil {A H}:Reps K A H [] []
 |cons {A H} {v:V} {d:D} {vs:List V} {ds:List D}:Rep K A H v d->Reps K A H vs ds->Reps K A H (v::vs) (d::ds)
end
def Stay (A:Xx) (H H':Hp):Prop:= ∀a o,H a=some o->(Mut (some o)->A a)->H' a=some o
def Stay.mono {A B:Xx} {H H':Hp} (h:Stay A H H') (w: ∀a,B a->A a):Stay B H H':=fun a o e m=>h a o e fun z=>w a (m z)
section
variable {K:aaa}
def LsK.stay {A:Xx} {H H':Hp} {a:Addr} {xs:List V} (h:LsK K H a xs) (st:Stay A H H'):LsK K H' a xs:=by
 rcases h with ⟨o,e⟩|h
 · exact .inl ⟨o,st a _ e (fun z=>z.elim)⟩
 · exact .inr h
def Reps.stay {A A':Xx} {H H':Hp} {vs:List V} {ds:List D} (r:Reps K A H vs ds):Stay A H H'->(∀a,A a->A' a)->Reps K A' H' vs ds:=by
 refine Reps.rec (motive_1:=fun A H v d _=> ∀B:Addr->Prop,Stay A H H'->(∀a,A a->B a)->Rep K B H' v d) (fun _ _ _=> .non) (fun b _ _ _=> .bl b) (fun i _ _ _=> .int i) (fun x h _ _ _=> .str x h) (fun e _ r _ s w=> .tup (s _ _ e fun z=>z.elim) (r _ s w)) (fun e a _ r _ s w=> .lst (s _ _ e fun _=>a) (w _ a) (r _ ?_ ?_)) (fun e _ r _ s w=> .lsk (e.stay s) (r _ s w)) (fun e a k l _ r _ s w=> .dic (s _ _ e fun _=>a) (w _ a) k l (r _ ?_ ?_)) (fun e a k l _ r _ s w=> .dit (s _ _ e fun _=>a) (w _ a) k l (r _ ?_ ?_)) (fun e k l _ s w=> .exn (s _ _ e fun z=>z.elim) k l) (fun e k l _ r _ s w=> .fdc (e.elim (fun z=> .inl ⟨s _ _ z.1 fun _=>z.2,w _ z.2⟩) (fun z=>z.elim fun _ z=> .inr ⟨_,s _ _ z fun z=>z.elim⟩)) k l (r _ ?_ ?_)) (fun e k l _ r _ s w=> .hdc (e.elim fun _ z=>⟨_,s _ _ z fun z=>z.elim⟩) k l (r _ ?_ ?_)) (fun e a k l _ r _ s w=> .obj (s _ _ e fun _=>a) (w _ a) k l (r _ ?_ ?_)) (fun e a _ s w=> .mem (s _ _ e fun _=>a) (w _ a)) (fun _ _ _=> .nil) (fun _ _ h t _ s w=> .cons (h _ s w) (t _ s w)) r A'
 any_goals exact s.mono fun _ z=>z.1
 all_goals exact fun _ z=>⟨w _ z.1,z.2⟩
def Rep.stay {A A':Xx} {H H':Hp} {v:V} {d:D} (r:Rep K A H v d) (s:Stay A H H') (w: ∀a,A a->A' a):Rep K A' H' v d:=by
 cases Reps.stay (.cons r .nil) s w;assumption
def Same.stay {A:Xx} {H H':Hp} (h:Same H H'):Stay A H H':=fun a o e _=>h a o e
variable {A A':Xx} {H H':Hp}
def Rep.grow {v:V} {d:D} (r:Rep K A H v d) (h:Same H H'):Rep K A H' v d:=r.stay (Same.stay h) fun _ z=>z
def Reps.grow {v:List V} {d:List D} (r:Reps K A H v d) (h:Same H H'):Reps K A H' v d:=r.stay (Same.stay h) fun _ z=>z
def Rep.weak {v:V} {d:D} (r:Rep K A H v d) (w: ∀a,A a->A' a):Rep K A' H v d:=r.stay (fun _ _ e _=>e) w
def Reps.weak {v:List V} {d:List D} (r:Reps K A H v d) (w: ∀a,A a->A' a):Reps K A' H v d:=r.stay (fun _ _ e _=>e) w
def Reps.imm {A A':Xx} {H:Hp} {vs:List V} {ds:List D} (r:Reps K A H vs ds):D.imms ds=true->Reps K A' H vs ds:=by
 refine Reps.rec (motive_1:=fun _ H v d _=>d.imm=true->Rep K A' H v d) (fun _=> .non) (fun b _=> .bl b) (fun i _=> .int i) (fun x h _=> .str x h) (fun e _ r i=> .tup e (r (by simpa only [D.imm] using i))) ?_ ?_ ?_ ?_ (fun e k l _=> .exn e k l) ?_ ?_ ?_ ?_ (fun _=> .nil) (fun _ _ h t i=>?_) r
 case refine_9=>simp only [D.imms,aaG] at i;exact .cons (h i.1) (t i.2)
 all_goals intros;rename_i i;simp [D.imm] at i
def Rep.imm {A A':Xx} {H:Hp} {v:V} {d:D} (r:Rep K A H v d) (i:d.imm=true):Rep K A' H v d:=by
 cases Reps.imm (.cons r .nil) (by simp [D.imms,i]);assumption
def Reps.length {A:Xx} {H:Hp} {vs:List V} {ds:List D} (r:Reps K A H vs ds):vs.length=ds.length:=by
 induction vs generalizing ds with
 |nil=>cases r;rfl
 |cons v vs ih=>
  cases r with
  |cons _ t=>simp [ih t]
def Reps.get {A:Xx} {H:Hp} {vs:List V} {ds:List D} {i:Nat} {d:D} (r:Reps K A H vs ds) (e:ds[i]?=some d): ∃v,vs[i]?=some v/\Rep K A H v d:=by
 induction vs generalizing ds i with
 |nil=>cases r;simp at e
 |cons v vs ih=>
  cases r with
  |cons r t=>
   cases i with
   |zero=>simp at e;subst e;exact ⟨_,rfl,r⟩
   |succ i=>simpa using ih t (by simpa using e)
def Reps.get' {A:Xx} {H:Hp} {vs:List V} {ds:List D} {i:Nat} {v:V} (r:Reps K A H vs ds) (e:vs[i]?=some v): ∃d,ds[i]?=some d/\Rep K A H v d:=by
 induction vs generalizing ds i with
 |nil=>simp at e
 |cons v vs ih=>
  cases r with
  |cons r t=>
   cases i with
   |zero=>simp at e;subst e;exact ⟨_,rfl,r⟩
   |succ i=>simpa using ih t (by simpa using e)
def Reps.append {A:Xx} {H:Hp} {vs ws:List V} {ds es:List D} (r:Reps K A H vs ds) (s:Reps K A H ws es):Reps K A H (vs++ws) (ds++es):=by
 induction vs generalizing ds with
 |nil=>cases r;exact s
 |cons v vs ih=>
  cases r with
  |cons r t=>exact .cons r (ih t)
def Reps.take {A:Xx} {H:Hp} {vs:List V} {ds:List D} (n:Nat) (r:Reps K A H vs ds):Reps K A H (vs.take n) (ds.take n):=by
 induction vs generalizing ds n with
 |nil=>cases r;simpa using .nil
 |cons v vs ih=>
  cases r with
  |cons r t=>
   cases n with
   |zero=>exact .nil
   |succ n=>exact .cons r (ih n t)
def Reps.drop {A:Xx} {H:Hp} {vs:List V} {ds:List D} (n:Nat) (r:Reps K A H vs ds):Reps K A H (vs.drop n) (ds.drop n):=by
 induction vs generalizing ds n with
 |nil=>cases r;simpa using .nil
 |cons v vs ih=>
  cases n with
  |zero=>exact r
  |succ n=>
   cases r with
   |cons r t=>exact ih n t
def Reps.isEmpty {xs:List V} {ds:List D} (r:Reps K A H xs ds):ds.isEmpty=xs.isEmpty:=by cases r<;>rfl
def Rep.lstE {v:V} {ds:List D} (r:Rep K A H v (.lst ds)): ∃a xs,v= .ref a/\H a=some (.lst xs)/\A a/\Reps K (fun c=>A c/\c≠a) H xs ds:=by
 cases r with
 |lst e h r=>exact ⟨_,_,rfl,e,h,r⟩
def Rep.scrE {v:V} {ds:List D} (r:Rep K A H v (.scr ds)): ∃a xs,v= .ref a/\LsK K H a xs/\Reps K A H xs ds:=by
 cases r with
 |lsk e r=>exact ⟨_,_,rfl,e,r⟩
def Rep.tupE {v:V} {ds:List D} (r:Rep K A H v (.tup ds)): ∃a xs,v= .ref a/\H a=some (.tup xs)/\Reps K A H xs ds:=by
 cases r with
 |tup e r=>exact ⟨_,_,rfl,e,r⟩
def Rep.intE {v:V} {i:Int} (r:Rep K A H v (.int i)):v= .int i:=by cases r;rfl
def Rep.blE {v:V} {b:Bool} (r:Rep K A H v (.bl b)):v= .bl b:=by cases r;rfl
def Rep.strE {v:V} {x:Str} (r:Rep K A H v (.str x)):v= .str x/\x.length<=aaj:=by cases r;exact ⟨rfl,by assumption⟩
def Rep.nonE {v:V} (r:Rep K A H v .non):v= .non:=by cases r;rfl
def Reps.low {a:Addr} {vs:List V} {ds:List D} (r:Reps K (fun c=>A c/\c≠a) H vs ds):Reps K A H vs ds:=r.weak fun _ z=>z.1
def Reps.inDom {A:Xx} {H:Hp} {vs:List V} {ds:List D} (r:Reps K A H vs ds):Reps K (fun c=>A c/\H c≠none) H vs ds:=by
 refine Reps.rec .non (fun b=> .bl b) (fun i=> .int i) (fun x h=> .str x h) (fun e _ r=> .tup e r) (fun e a _ r=> .lst e ⟨a,?_⟩ ?_) (fun e _ r=> .lsk e r) (fun e a k l _ r=> .dic e ⟨a,?_⟩ k l ?_) (fun e a k l _ r=> .dit e ⟨a,?_⟩ k l ?_) (fun e k l=> .exn e k l) (fun e k l _ r=> .fdc (e.elim (fun z=> .inl ⟨z.1,z.2,by simp [z.1]⟩) .inr) k l ?_) (fun e k l _ r=> .hdc e k l ?_) (fun e a k l _ r=> .obj e ⟨a,?_⟩ k l ?_) (fun e a=> .mem e ⟨a,by simp [e]⟩) .nil (fun _ _ h t=> .cons h t) r
 any_goals exact r.weak fun _ z=>⟨⟨z.1.1,z.2⟩,z.1.2⟩
 all_goals simp [e]
def Rep.inDom {A:Xx} {H:Hp} {v:V} {d:D} (r:Rep K A H v d):Rep K (fun c=>A c/\H c≠none) H v d:=by
 cases Reps.inDom (.cons r .nil);assumption
def Same.upd {H:Hp} {p:Addr} {o:HO} (h:H p=none):Same H (L2.upd H p o):=fun b u e=>by rw [jp (jC e h)];exact e
def Reps.laid {p:Addr} {o:HO} {vs:List V} {ds:List D} (r:Reps K A H vs ds) (hp:H p=none):Reps K (fun c=>A c/\c≠p) (L2.upd H p o) vs ds:=
 (r.inDom.grow (Same.upd hp)).weak fun c z=>⟨z.1,fun e=>z.2 (by rw [e];exact hp)⟩
end
inductive Slot where
 |un
 |own (d:D)
 |shr (d:D)
abbrev Sl:=List Slot
def jL (env:Sl) (σ:St) (a:Addr):Prop:= ∃(i:Nat) (d:D),env[i]?=some (.own d)/\σ[i]?=some (some (.ref a))
abbrev NotO (env:Sl) (σ:St):Addr->Prop:=fun a=> ¬jL env σ a
abbrev Sf (G:Xx) (env:Sl) (σ:St):Addr->Prop:=fun a=> ¬jL env σ a/\G a
inductive Top (K:aaa) (A:Xx) (H:Hp) (a:Addr):D->Prop where
 |lst {xs:List V} {ds:List D}:H a=some (.lst xs)->Reps K A H xs ds->Top K A H a (.lst ds)
 |dic {kvs:List (Key×V)} {vs:List V} {ks:List Key} {ds:List D}:H a=some (.dK kvs)->kvs.map (·.1)=ks->kvs.map (·.2)=vs->Reps K A H vs ds->Top K A H a (.dic ks ds)
 |dit {kvs:List ((List Key)×V)} {vs:List V} {ks:List (List Key)} {ds:List D}:H a=some (.dT kvs)->kvs.map (·.1)=ks->kvs.map (·.2)=vs->Reps K A H vs ds->Top K A H a (.dit ks ds)
 |obj {C dx:Addr} {fs:List (Str×V)} {vs:List V} {c:Str} {ns:List Str} {ds:List D}:H a=some (.ins C dx fs)->(aal K aak c=some (some (.ref C))/\fs.map (·.1)=ns)->fs.map (·.2)=vs->Reps K A H vs ds->Top K A H a (.obj c ns ds)
def Top.rep {K:aaa} {A A':Xx} {H:Hp} {a:Addr} {d:D} (t:Top K A H a d) (w: ∀b,A b->A' b/\b≠a) (ha:A' a):Rep K A' H (.ref a) d:=by
 cases t with
 |lst e r=>exact .lst e ha (r.weak w)
 |dic e k1 k2 r=>exact .dic e ha k1 k2 (r.weak w)
 |dit e k1 k2 r=>exact .dit e ha k1 k2 (r.weak w)
 |obj e k1 k2 r=>exact .obj e ha k1 k2 (r.weak w)
def Top.stay {K:aaa} {A A':Xx} {H H':Hp} {a:Addr} {d:D} (t:Top K A H a d) (st:Stay A H H') (w: ∀b,A b->A' b) (ha: ∀o,H a=some o->H' a=some o):Top K A' H' a d:=by
 cases t with
 |lst e r=>exact .lst (ha _ e) (r.stay st w)
 |dic e k1 k2 r=>exact .dic (ha _ e) k1 k2 (r.stay st w)
 |dit e k1 k2 r=>exact .dit (ha _ e) k1 k2 (r.stay st w)
 |obj e k1 k2 r=>exact .obj (ha _ e) k1 k2 (r.stay st w)
def Top.there {K:aaa} {A:Xx} {H:Hp} {a:Addr} {d:D} (t:Top K A H a d): ∃o,H a=some o/\Mut (some o):=by
 cases t with
 |lst e r=>exact ⟨_,e,trivial⟩
 |dic e _ _ r=>exact ⟨_,e,trivial⟩
 |dit e _ _ r=>exact ⟨_,e,trivial⟩
 |obj e _ _ r=>exact ⟨_,e,trivial⟩
structure EnvOk (K:aaa) (G:Xx) (H0:Hp) (env:Sl) (σ:St) (H:Hp):Prop where
 len:σ.length=env.length
 base:Same H0 H
 g0: ∀a,H0 a=none->G a
 shr: ∀(i:Nat) (d:D),env[i]?=some (.shr d)-> ∃v,σ[i]?=some (some v)/\Rep K (Sf G env σ) H v d
 own: ∀(i:Nat) (d:D),env[i]?=some (.own d)-> ∃a,σ[i]?=some (some (.ref a))/\H0 a=none/\Top K (Sf G env σ) H a d
 dis: ∀(i j:Nat) (d e:D) (a:Addr),env[i]?=some (.own d)->env[j]?=some (.own e)->σ[i]?=some (some (.ref a))->σ[j]?=some (some (.ref a))->i=j
section
variable {K:aaa} {G:Xx} {H0 H H':Hp} {env:Sl} {σ:St}
def EnvOk.grow (e:EnvOk K G H0 env σ H) (h:Same H H'):EnvOk K G H0 env σ H' where
 len:=e.len
 base:=e.base.trans h
 g0:=e.g0
 shr:=fun i d z=>let ⟨v,h1,h2⟩:=e.shr i d z;⟨v,h1,h2.grow h⟩
 own:=fun i d z=>let ⟨a,h1,h2,h3⟩:=e.own i d z;⟨a,h1,h2,h3.stay (Same.stay h) (fun _ z=>z) (fun o q=>h _ o q)⟩
 dis:=e.dis
def EnvOk.there (e:EnvOk K G H0 env σ H) {a:Addr} (o:jL env σ a): ∃u,H a=some u:=by
 obtain ⟨i,d,h1,h2⟩:=o;obtain ⟨b,h3,_,h4⟩:=e.own i d h1;rw [h2] at h3;cases h3;obtain ⟨u,h5,_⟩:=h4.there;exact ⟨u,h5⟩
def EnvOk.mutO (k:EnvOk K G H0 env σ H) {a:Addr} (o:jL env σ a) {u:HO} (e:H a=some u):Mut (some u):=by
 obtain ⟨i,d,h1,h2⟩:=o;obtain ⟨b,h3,_,h4⟩:=k.own i d h1;rw [h2] at h3;cases h3;obtain ⟨u',h5,m⟩:=h4.there;rw [e] at h5;cases h5;exact m
def EnvOk.new (k:EnvOk K G H0 env σ H): ∀a,H a=none->Sf G env σ a:=fun a z=>⟨fun o=>(by
 obtain ⟨u,q⟩:=k.there o
 rw [z] at q;cases q),k.g0 a (Same.free k.base z)⟩
end
inductive Lv where
 |b|s|t
abbrev Any:Addr->Prop:=fun _=>True
def Lv.A (l:Lv) (G:Xx) (env:Sl) (σ:St):Addr->Prop:=
 match l with
 | .b=>Any
 | .s=>Sf G env σ
 | .t=>Sf G env σ
def NewTop (H:Hp) (v:V):Prop:= ∀a,v= .ref a-> ∀o,H a=some o-> ¬Mut (some o)
def Lv.T (l:Lv) (H:Hp) (v:V):Prop:=
 match l with
 | .t=>NewTop H v
 |_=>True
def NewTop.grow {H H':Hp} {v:V} (h:Same H H') (n:NewTop H' v):NewTop H v:=fun a e o q=>n a e o (h a o q)
def Lv.Tgrow {l:Lv} {H H':Hp} {v:V} (h:Same H H') (n:l.T H' v):l.T H v:=by
 cases l with
 |t=>exact NewTop.grow h n
 |b=>trivial
 |s=>trivial
def tE (K:aaa) (l:Lv) (f:Sl->Res D):TE:=fun σ H Q=> ∃G H0 env d,EnvOk K G H0 env σ H/\f env= .ok d/\ ∀v H',Same H H'->Rep K (l.A G env σ) H' v d->l.T H v->Q v H'
def tT (K:aaa) (f:Sl->Res Bool):TT:=fun σ H Q=> ∃G H0 env b,EnvOk K G H0 env σ H/\f env= .ok b/\ ∀H',Same H H'->Q b H'
def tA (K:aaa) (l:Lv) (f:Sl->Res (List D)):TA:=fun σ H Q=> ∃G H0 env ds,EnvOk K G H0 env σ H/\f env= .ok ds/\ ∀vs H',Same H H'->Reps K (l.A G env σ) H' vs ds->Q vs H'
@[irreducible] def DE (X:Cx) (l:Lv) (e:Expr) (f:Sl->Res D):Prop:=PE X e (tE X.K l f)
@[irreducible] def DT (X:Cx) (e:Expr) (f:Sl->Res Bool):Prop:=PT X e (tT X.K f)
@[irreducible] def DA (X:Cx) (l:Lv) (es:List Expr) (f:Sl->Res (List D)):Prop:=PA X es (tA X.K l f)
inductive Out where
 |nx (env:Sl)|rt (fr:Bool) (d:D)|bk (env:Sl)|ct (env:Sl)
abbrev TL:=Sl->Res D
abbrev TK:=Sl->Res Bool
abbrev TJ:=Sl->Res Out
abbrev TH:=Sl->Res (List D)
abbrev TF:=List D->Res D
abbrev TD:=D->Sl->Res Sl
structure Frm (env:Sl) (σ:St) (H:Hp) (env':Sl) (σ':St) (H':Hp):Prop where
 keep: ∀b o,H b=some o-> ¬jL env σ b->H' b=some o
 more: ∀b,jL env' σ' b->jL env σ b\/H b=none
 size: ∀b,H' b=none->H b=none
def Post (K:aaa) (G:Xx) (H0:Hp) (env:Sl) (σ:St) (H:Hp) (E:Ends) (o:Out):Prop:=
 match o with
 | .nx env'=> ∀σ' H',EnvOk K G H0 env' σ' H'->Frm env σ H env' σ' H'->E.nx σ' H'
 | .bk env'=> ∀σ' H',EnvOk K G H0 env' σ' H'->Frm env σ H env' σ' H'->E.bk σ' H'
 | .ct env'=> ∀σ' H',EnvOk K G H0 env' σ' H'->Frm env σ H env' σ' H'->E.ct σ' H'
 | .rt fr d=> ∀v H',Same H0 H'->Rep K G H' v d->(fr=true->NewTop H0 v)->E.rt v H'
def tS (K:aaa) (g:TJ):TS:=fun E σ H=> ∃G H0 env o,EnvOk K G H0 env σ H/\g env= .ok o/\Post K G H0 env σ H E o
@[irreducible] def DS (X:Cx) (st:Stmt) (g:TJ):Prop:=PS X st (tS X.K g)
@[irreducible] def DSs (X:Cx) (st:List Stmt) (g:TJ):Prop:=PSs X st (tS X.K g)
section
variable {X:Cx} {e:Expr} {es:List Expr} {st:Stmt} {sts:List Stmt}
def PE.imp {t t':TE} (h:PE X e t) (w: ∀σ H Q,t' σ H Q->t σ H Q):PE X e t':=fun pins s σ H Q I q=>h pins s σ H Q I (w σ H Q q)
def PT.imp {t t':TT} (h:PT X e t) (w: ∀σ H Q,t' σ H Q->t σ H Q):PT X e t':=fun pins s σ H Q I q=>h pins s σ H Q I (w σ H Q q)
def PA.imp {t t':TA} (h:PA X es t) (w: ∀σ H Q,t' σ H Q->t σ H Q):PA X es t':=fun pos pins s σ H Q I q=>h pos pins s σ H Q I (w σ H Q q)
def PS.imp {t t':TS} (h:PS X st t) (w: ∀E σ H,t' E σ H->t E σ H):PS X st t':=fun pins s σ H E I q=>h pins s σ H E I (w E σ H q)
def PSs.imp {t t':TS} (h:PSs X sts t) (w: ∀E σ H,t' E σ H->t E σ H):PSs X sts t':=fun pins s σ H E I q=>h pins s σ H E I (w E σ H q)
end
def Frm.refl {env:Sl} {σ:St} {H H':Hp} (h:Same H H'):Frm env σ H env σ H':=⟨fun b o e _=>h b o e,fun b o=> .inl o,fun b e=>Same.free h e⟩
def Frm.trans {env env1 env2:Sl} {σ σ1 σ2:St} {H H1 H2:Hp} (a:Frm env σ H env1 σ1 H1) (b:Frm env1 σ1 H1 env2 σ2 H2):Frm env σ H env2 σ2 H2 where
 keep:=fun c o e n=>b.keep c o (a.keep c o e n) fun z=>by
  rcases a.more c z with z|z
  · exact n z
  · rw [e] at z;cases z
 more:=fun c o=>by
  rcases b.more c o with z|z
  · exact a.more c z
  · exact .inr (a.size c z)
 size:=fun c e=>a.size c (b.size c e)
def Frm.grow {env env1:Sl} {σ σ1:St} {H Hm H1:Hp} (h:Same H Hm) (b:Frm env σ Hm env1 σ1 H1):Frm env σ H env1 σ1 H1:=(Frm.refl h).trans b
section
variable {X:Cx} {e:Expr} {f:TL}
def Lv.weak_b {l:Lv} {G:Xx} {env:Sl} {σ:St}: ∀a,l.A G env σ a->Any a:=fun _ _=>trivial
def DE.b {l:Lv} (h:DE X l e f):DE X .b e f:=by
 with_unfolding_all exact (PE.imp h fun σ H Q ⟨G,H0,env,d,k,ef,q⟩=>⟨G,H0,env,d,k,ef,fun v H' s r _=>q v H' s (r.weak Lv.weak_b) trivial⟩)
def DE.s (h:DE X .t e f):DE X .s e f:=by
 with_unfolding_all exact (PE.imp h fun σ H Q ⟨G,H0,env,d,k,ef,q⟩=>⟨G,H0,env,d,k,ef,fun v H' s r _=>q v H' s r trivial⟩)
def kj {K:aaa} {A:Xx} {H H':Hp} {v:V} {d:D} (s:Same H H') (r:Rep K A H' v d) (i:d.imm=true):NewTop H v:=fun a e o q m=>by
 subst e
 cases r with
 |tup e _=>rw [s _ _ q] at e;cases e;exact m
 |lst _ _ _=>simp [D.imm] at i
 |lsk _ _=>simp [D.imm] at i
 |dic _ _ _ _ _=>simp [D.imm] at i
 |dit _ _ _ _ _=>simp [D.imm] at i
 |obj _ _ _ _ _=>simp [D.imm] at i
 |fdc _ _ _ _=>simp [D.imm] at i
 |hdc _ _ _ _=>simp [D.imm] at i
 |mem _ _=>simp [D.imm] at i
 |exn e _ _=>rw [s _ _ q] at e;cases e;exact m
def chk (f:TL):Sl->Res D:=fun env=>f env>>=fun d=>must (d.imm=true) (.ok d)
def DE.chk {l l':Lv} (h:DE X l e f):DE X l' e (chk f):=by
 with_unfolding_all exact (PE.imp h fun σ H Q=>by
  rintro ⟨G,H0,env,d,k,ef,q⟩;obtain ⟨d',e1,e2⟩:=jc ef;obtain ⟨i,e3⟩:=jl e2;cases e3;refine ⟨G,H0,env,d,k,e1,fun v H' s r _=>q v H' s (r.imm i) ?_⟩
  cases l' with
  |t=>exact kj s r i
  |b=>trivial
  |s=>trivial)
end
def Zw:Expr->Bool
 | .Starred _ _=>false
 |_=>true
def ji {e:Expr} {es:List Expr} {env:Env} (h:Zw e=true):aai (e::es) env=(false,eval e env)::aai es env:=by
 cases e<;>first|rfl|cases h
def Ys {es:List Expr} {env:Env} (h:es.all Zw=true):(aai es env).all (fun x=>!x.1)=true:=by
 induction es with
 |nil=>rfl
 |cons e r ih=>
  rw [adz,aaG] at h;rw [ji h.1,adz,ih h.2];rfl
def Kk {pos:Pos} {l:List (Bool×Sem Value)} (h:l.all (fun x=>!x.1)=true):(abn pos l).all (fun x=>!x.1)=true:=by
 induction l with
 |nil=>rfl
 |cons p r ih=>
  obtain ⟨s,t⟩:=p;rw [adz,aaG] at h;show ((!s)&&(abn pos r).all (fun x=>!x.1))=true;rw [ih h.2,Bool.and_true];exact h.1
def jx {pos:Pos} {es:List Expr} {env:Env} (h:es.all Zw=true):(abn pos (aai es env)).any (·.1)=false:=by
 have:=Kk (pos:=pos) (Ys (env:=env) h);rw [aaZ] at this;rw [aev];intro x hx z;have q:=this x hx;rw [z] at q;cases q
def x0 {cpos:Pos} {e:Expr} {es:List Expr} {env:Env} (h:(e::es).all Zw=true) (hl:decide ((e::es).length<30)=true):
  ((abn cpos (aai (e::es) env)).all (fun x=>!x.1)&&(adc cpos (abT [] env)).all (fun x=>x.1.isSome)
   &&decide ((e::es).length+([]:List adg).length+(if ([]:List adg).isEmpty then 0 else 1)<30))=true:=by
 have hk:(adc cpos (abT [] env)).all (fun x=>x.1.isSome)=true:=rfl;rw [Kk (Ys h),hk];simpa using hl
section
variable {X:Cx} {e a b c o:Expr} {es:List Expr} {pos:Pos} {l l1 l2 l':Lv} {f f1 f2 f3:TL}
def cI (i:Int):Sl->Res D:=fun _=> .ok (.int i)
def cB (b:Bool):Sl->Res D:=fun _=> .ok (.bl b)
def cN:Sl->Res D:=fun _=> .ok .non
def cS (x:Str):Sl->Res D:=fun _=> .ok (.str x)
def rdS (i:Nat):Sl->Res D:=fun env=>match env[i]? with
 |some (.shr d)=> .ok d
 |_=> .stuck
def rdB (i:Nat):Sl->Res D:=fun env=>match env[i]? with
 |some (.shr d)=> .ok d
 |some (.own d)=> .ok d
 |_=> .stuck
def VZ {i:Nat} {env:Sl} {d:D} (h:rdS i env= .ok d):env[i]?=some (.shr d):=by
 unfold rdS at h
 split at h
 · cases h;assumption
 · cases h
def XB {i:Nat} {env:Sl} {d:D} (h:rdB i env= .ok d):env[i]?=some (.shr d)\/env[i]?=some (.own d):=by
 unfold rdB at h
 split at h
 · cases h;left;assumption
 · cases h;right;assumption
 · cases h
def Wu {K:aaa} {G:Xx} {H0 H:Hp} {env:Sl} {σ:L2.St} {i:Nat} {d:D} {a:Addr} (k:EnvOk K G H0 env σ H) (h1:env[i]?=some (.own d)) (h2:σ[i]?=some (some (.ref a))): ∀c,Sf G env σ c->c≠a:=fun c z e=>z.1 (by rw [e];exact ⟨i,d,h1,h2⟩)
def dv (i:Nat) {x:Str} (hN:X.N[i]?=some x:=by rfl) (hv:Vis X.env.scope x:=by first|exact abR rfl|exact abf (abR rfl)|exact abf (abf rfl)) (hd:Yx x:=by decide)
   (hcd:Yw x:=by decide):DE X .s (.Name x pos) (rdS i):=by
 with_unfolding_all exact (
  PE.imp (zZ hN hv hd hcd) fun σ H Q=>by
   rintro ⟨G,H0,env,d,k,ef,q⟩;obtain ⟨v,h1,h2⟩:=k.shr i d (VZ ef)
   exact ⟨v,h1,q v H (Same.refl H) h2 trivial⟩)
def db (i:Nat) {x:Str} (hN:X.N[i]?=some x:=by rfl) (hv:Vis X.env.scope x:=by first|exact abR rfl|exact abf (abR rfl)|exact abf (abf rfl)) (hd:Yx x:=by decide)
   (hcd:Yw x:=by decide):DE X .b (.Name x pos) (rdB i):=by
 with_unfolding_all exact (
  PE.imp (zZ hN hv hd hcd) fun σ H Q=>by
   rintro ⟨G,H0,env,d,k,ef,q⟩;rcases XB ef with z|z
   · obtain ⟨v,h1,h2⟩:=k.shr i d z;exact ⟨v,h1,q v H (Same.refl H) (h2.weak fun _ _=>trivial) trivial⟩
   · obtain ⟨v,h1,_,h2⟩:=k.own i d z
     exact ⟨_,h1,q _ H (Same.refl H) (h2.rep (fun c y=>⟨trivial,Wu k z h1 c y⟩) trivial) trivial⟩)
def Sc (K:aaa) (v:V) (d:D):Prop:=(∀A H,Rep K A H v d)/\ ∀a,v≠ .ref a
def Sc.T {K:aaa} {v:V} {d:D} {H:Hp} (h:Sc K v d):l.T H v:=by
 cases l with
 |t=>exact fun a e=>absurd e (h.2 a)
 |b=>trivial
 |s=>trivial
def jfg {K:aaa} (i:Int):Sc K (.int i) (.int i):=⟨fun _ _=> .int i,fun a e=>by cases e⟩
def jfd {K:aaa} (i:Bool):Sc K (.bl i) (.bl i):=⟨fun _ _=> .bl i,fun a e=>by cases e⟩
def jfs {K:aaa}:Sc K .non .non:=⟨fun _ _=> .non,fun a e=>by cases e⟩
def jfv {K:aaa} (x:Str) (h:x.length<=aaj):Sc K (.str x) (.str x):=⟨fun _ _=> .str x h,fun a e=>by cases e⟩
def de_c {v:V} {d:D} (h:PE X e (tC v)) (r:Sc X.K v d):DE X l e (fun _=> .ok d):=by
 with_unfolding_all exact (
  PE.imp h fun σ H Q=>by
   rintro ⟨G,H0,env,d',k,ef,q⟩;cases ef
   exact q v H (Same.refl H) (r.1 _ H) r.T)
def ja0 {i:Int} {j}:DE X l (.Constant (.int i) j pos) (cI i):=de_c jaC (jfg i)
def j9 {i:Bool} {j}:DE X l (.Constant (.bool i) j pos) (cB i):=de_c jeE (jfd i)
def W1 {j}:DE X l (.Constant .none j pos) cN:=de_c jdi jfs
def qm {x:Str} {j} (h:x.length<=aaj:=by decide):DE X l (.Constant (.str x) j pos) (cS x):=de_c jdf (jfv x h)
def vh {x:Str} {i:Int} {t:Tok} (hg:Gl X x) (hm:X.mg x=some (.int i t)) (hd:Yx x:=by decide):DE X l (.Name x pos) (cI i):=
 de_c (Zm (v:= .int i) hg hm ⟨t,rfl⟩ hd) (jfg i)
def jck {x y:Str} {t:Tok} (hg:Gl X x) (hm:X.mg x=some (.str y t)) (hl:y.length<=aaj:=by decide) (hd:Yx x:=by decide):DE X l (.Name x pos) (cS y):=
 de_c (Zm (v:= .str y) hg hm ⟨t,rfl⟩ hd) (jfv y hl)
def OpS (K:aaa) (r:R2) (g:D->D->Res D):Prop:= ∀(x y:V) (H:Hp) (a b d:D) (Q:VK),Rep K Any H x a->Rep K Any H y b->g a b= .ok d->(∀v,Sc K v d->Q v H)->r x y H Q
def OpD (K:aaa) (r:R2) (g:D->D->Res D):Prop:= ∀(A:Xx) (x y:V) (H:Hp) (a b d:D) (Q:VK),Rep K A H x a->Rep K A H y b->g a b= .ok d->(∀v H',Same H H'->Rep K (fun c=>H c=none\/A c) H' v d->NewTop H v->Q v H')->r x y H Q
def two (f1 f2:TL) (g:D->D->Res D):Sl->Res D:=fun env=>f1 env>>=fun x=>f2 env>>=fun y=>g x y
def jba {K:aaa} {r:R2} {g:D->D->Res D} (hr:OpS K r g) {σ:L2.St} {H:Hp} {Q:VK} (h:tE K l (two f1 f2 g) σ H Q):tOp r (tE K l1 f1) (tE K l2 f2) σ H Q:=by
 obtain ⟨G,H0,env,d,k,ef,q⟩:=h;obtain ⟨a,e1,ef⟩:=jc ef;obtain ⟨b,e2,e3⟩:=jc ef;refine ⟨G,H0,env,a,k,e1,fun x H1 s1 r1 _=>⟨G,H0,env,b,k.grow s1,e2,fun y H2 s2 r2 _=>?_⟩⟩;exact hr x y H2 a b d Q ((r1.grow s2).weak Lv.weak_b) (r2.weak Lv.weak_b) e3 fun v sc=>q v H2 (s1.trans s2) (sc.1 _ _) sc.T
def jen {K:aaa} {r:R2} {g:D->D->Res D} (hr:OpD K r g) {σ:L2.St} {H:Hp} {Q:VK} (h:tE K .t (two f1 f2 g) σ H Q):tOp r (tE K .s f1) (tE K .s f2) σ H Q:=by
 obtain ⟨G,H0,env,d,k,ef,q⟩:=h;obtain ⟨a,e1,ef⟩:=jc ef;obtain ⟨b,e2,e3⟩:=jc ef;refine ⟨G,H0,env,a,k,e1,fun x H1 s1 r1 _=>⟨G,H0,env,b,k.grow s1,e2,fun y H2 s2 r2 _=>?_⟩⟩;have sm:=s1.trans s2;exact hr _ x y H2 a b d Q (r1.grow s2) r2 e3 fun v H3 s3 r3 nt=>q v H3 (sm.trans s3) (r3.weak fun c z=>z.elim (fun z=>k.new c (Same.free sm z)) fun z=>z) (nt.grow sm)
def jeo {K:aaa} {r:R2} {g:D->D->Res D} (hr:OpD K r g) {σ:L2.St} {H:Hp} {Q:VK} (h:tE K .b (two f1 f2 g) σ H Q):tOp r (tE K .b f1) (tE K .b f2) σ H Q:=by
 obtain ⟨G,H0,env,d,k,ef,q⟩:=h;obtain ⟨a,e1,ef⟩:=jc ef;obtain ⟨b,e2,e3⟩:=jc ef;refine ⟨G,H0,env,a,k,e1,fun x H1 s1 r1 _=>⟨G,H0,env,b,k.grow s1,e2,fun y H2 s2 r2 _=>?_⟩⟩;have sm:=s1.trans s2;exact hr _ x y H2 a b d Q (r1.grow s2) r2 e3 fun v H3 s3 r3 nt=>q v H3 (sm.trans s3) (r3.weak fun c _=>trivial) trivial
def k9 {op:aej} {r:R2} {g:D->D->Res D} (ho:OpR X (ab1 op) r) (hr:OpS X.K r g) (ha:DE X l1 a f1) (hb:DE X l2 b f2):DE X l (.BinOp a op b pos) (two f1 f2 g):=by
 with_unfolding_all exact (
  PE.imp (ug ho ha hb) fun _ _ _ h=>jba hr h)
def zE {op:aej} {r:R2} {g:D->D->Res D} (ho:OpR X (ab1 op) r) (hr:OpD X.K r g) (ha:DE X .s a f1) (hb:DE X .s b f2):DE X .t (.BinOp a op b pos) (two f1 f2 g):=by
 with_unfolding_all exact (
  PE.imp (ug ho ha hb) fun _ _ _ h=>jen hr h)
def jd4 {op:aej} {r:R2} {g:D->D->Res D} (ho:OpR X (ab1 op) r) (hr:OpD X.K r g) (ha:DE X .b a f1) (hb:DE X .b b f2):DE X .b (.BinOp a op b pos) (two f1 f2 g):=by
 with_unfolding_all exact (
  PE.imp (ug ho ha hb) fun _ _ _ h=>jeo hr h)
def Ka {op:CmpOp} {r:R2} {g:D->D->Res D} (ho:OpR X (abg op) r) (hr:OpS X.K r g) (ha:DE X l1 a f1) (hb:DE X l2 b f2) (hm:adu op b=false:=by first|exact UJ _| (with_unfolding_all rfl)):DE X l (.Compare a [op] [b] pos) (two f1 f2 g):=by
 with_unfolding_all exact (
  PE.imp (Uu ho ha hb hm) fun _ _ _ h=>jba hr h)
def asB (f:TL):Sl->Res Bool:=fun env=>f env>>=fun d=>match d with
 | .bl b=> .ok b
 |_=> .stuck
def jcB {env:Sl} {b:Bool} (h:asB f env= .ok b):f env= .ok (.bl b):=by
 obtain ⟨d,e1,e2⟩:=jc h
 cases d with
 |bl c=>cases e2;exact e1
 |_=>cases e2
def Xr {K:aaa} {t:TE} (ht: ∀σ H Q,tE K l f σ H Q->t σ H Q) {σ:L2.St} {H:Hp} {Q:Bool->Hp->Prop} (h:tT K (asB f) σ H Q):ja9 t σ H Q:=by
 obtain ⟨G,H0,env,b,k,ef,q⟩:=h;refine ht σ H _ ⟨G,H0,env,.bl b,k,jcB ef,fun v H' s r _=>⟨b,r.blE,q H' s⟩⟩
def qe {op:CmpOp} {r:R2} {g:D->D->Res D} (ho:OpR X (abg op) r) (hr:OpS X.K r g) (ha:DE X l1 a f1) (hb:DE X l2 b f2) (hm:adu op b=false:=by first|exact UJ _| (with_unfolding_all rfl)):DT X (.Compare a [op] [b] pos) (asB (two f1 f2 g)):=by
 with_unfolding_all exact (
  PT.imp (jbo ho ha hb hm) fun _ _ _ h=>Xr (l:= .b) (fun _ _ _ h=>jba hr h) h)
def Qb (f1 f2 f3:TL) (g g':D->D->Res D):Sl->Res D:=fun env=>f1 env>>=fun x=>f2 env>>=fun y=>g x y>>=fun z=>match z with
 | .bl true=>f3 env>>=fun w=>g' y w
 | .bl false=> .ok (.bl false)
 |_=> .stuck
def Yr {K:aaa} {l3:Lv} {r r':R2} {g g':D->D->Res D} (hr:OpS K r g) (hr':OpS K r' g') {σ:L2.St} {H:Hp} {Q:VK} (h:tE K l (Qb f1 f2 f3 g g') σ H Q):Vw r r' (tE K l1 f1) (tE K l2 f2) (tE K l3 f3) σ H Q:=by
 obtain ⟨G,H0,env,d,k,ef,q⟩:=h;obtain ⟨a,e1,ef⟩:=jc ef;obtain ⟨b,e2,ef⟩:=jc ef;obtain ⟨z,e3,e4⟩:=jc ef;refine ⟨G,H0,env,a,k,e1,fun x H1 s1 r1 _=>⟨G,H0,env,b,k.grow s1,e2,fun y H2 s2 r2 _=>?_⟩⟩;refine hr x y H2 a b z _ ((r1.grow s2).weak Lv.weak_b) (r2.weak Lv.weak_b) e3 fun v sc=>?_
 cases z with
 |bl t=>
  refine ⟨t,(sc.1 Any H2).blE,?_⟩
  cases t with
  |false=>
   cases e4;rw [if_neg aaC];exact q _ H2 (s1.trans s2) (.bl false) (jfd (K:=K) false).T
  |true=>
   obtain ⟨w,e5,e6⟩:=jc e4;rw [if_pos rfl];refine ⟨G,H0,env,w,(k.grow s1).grow s2,e5,fun y' H4 s4 r4 _=>?_⟩;refine hr' y y' H4 b w d Q ((r2.grow s4).weak Lv.weak_b) (r4.weak Lv.weak_b) e6 fun v sc=>q v H4 (s1.trans (s2.trans s4)) (sc.1 _ _) sc.T
 |_=>cases e4
def ZY {op op':CmpOp} {l3:Lv} {r r':R2} {g g':D->D->Res D} (ho:OpR X (abg op) r) (hr:OpS X.K r g) (ho':OpR X (abg op') r') (hr':OpS X.K r' g') (ha:DE X l1 a f1) (hb:DE X l2 b f2) (hc:DE X l3 c f3)
   (hm:lastMarks [op,op'] [b,c]=false:=by with_unfolding_all rfl):DE X l (.Compare a [op,op'] [b,c] pos) (Qb f1 f2 f3 g g'):=by
 with_unfolding_all exact (
  PE.imp (ul ho ho' ha hb hc hm) fun _ _ _ h=>Yr hr hr' h)
def u7 {op op':CmpOp} {l3:Lv} {r r':R2} {g g':D->D->Res D} (ho:OpR X (abg op) r) (hr:OpS X.K r g) (ho':OpR X (abg op') r') (hr':OpS X.K r' g') (ha:DE X l1 a f1) (hb:DE X l2 b f2) (hc:DE X l3 c f3)
   (hm:lastMarks [op,op'] [b,c]=false:=by with_unfolding_all rfl):DT X (.Compare a [op,op'] [b,c] pos) (asB (Qb f1 f2 f3 g g')):=by
 with_unfolding_all exact (
  PT.imp (uc ho ho' ha hb hc hm) fun _ _ _ h=>Xr (l:= .b) (fun _ _ _ h=>Yr hr hr' h) h)
def j4 (h:DE X l e f) (he: ∀whole,isTrue e X.env whole=(do let v←whole;aeE e.pos;adq [v] (truthy v)):=by intro _;rfl):DT X e (asB f):=by
 with_unfolding_all exact (
  PT.imp (jc9 h he) fun _ _ _ h=>Xr (fun _ _ _ h=>h) h)
def tru:D->Res Bool
 | .non=> .ok false
 | .bl b=> .ok b
 | .int i=> .ok (i !=0)
 | .str x=> .ok ((x.length:Int) !=0)
 | .tup ds=> .ok (!ds.isEmpty)
 | .lst ds=> .ok (!ds.isEmpty)
 | .scr ds=> .ok (!ds.isEmpty)
 | .dic _ _=> .stuck
 | .dit _ _=> .stuck
 | .exn _=> .stuck
 | .fdc _ _=> .stuck
 | .hdc _ _=> .stuck
 | .obj _ _ _=> .stuck
 | .mem _ _=> .stuck
def jek {K:aaa} {A:Xx} {H:Hp} {v:V} {d:D} {b:Bool} (r:Rep K A H v d) (h:tru d= .ok b):TruV K v H b:=by
 cases r with
 |non=>cases h;rfl
 |bl c=>cases h;rfl
 |int i=>cases h;rfl
 |str x hx=>cases h;exact ⟨hx,rfl⟩
 |tup e r=>cases h;exact .inr (.inl ⟨_,.of e,by rw [r.isEmpty]⟩)
 |lst e _ r=>cases h;exact .inl ⟨_,.of e,by rw [r.isEmpty]⟩
 |lsk e r=>cases h;exact .inl ⟨_,e.sql,by rw [r.isEmpty]⟩
 |dic _ _ _ _ _=>cases h
 |dit _ _ _ _ _=>cases h
 |exn _ _ _=>cases h
 |fdc _ _ _ _=>cases h
 |hdc _ _ _ _=>cases h
 |obj _ _ _ _ _=>cases h
 |mem _ _=>cases h
def truF (f:TL):Sl->Res Bool:=fun env=>f env>>=tru
def jaX (h:DE X l e f) (he: ∀whole,isTrue e X.env whole=(do let v←whole;aeE e.pos;adq [v] (truthy v)):=by intro _;rfl):DT X e (truF f):=by
 with_unfolding_all exact (
  PT.imp (v0 h he) fun σ H Q=>by
   rintro ⟨G,H0,env,b,k,ef,q⟩;obtain ⟨d,e1,e2⟩:=jc ef
   exact ⟨G,H0,env,d,k,e1,fun v H' s r _=>⟨b,jek r e2,q H' s⟩⟩)
section
variable {g g1 g2:TK} {rest:List Expr}
def notB (g:TK):Sl->Res Bool:=fun env=>g env>>=fun b=> .ok (!b)
def qx (h:DT X a g):DT X (.UnaryOp .Not a pos) (notB g):=by
 with_unfolding_all exact (
  PT.imp (jda h) fun σ H Q=>by
   rintro ⟨G,H0,env,b,k,ef,q⟩;obtain ⟨d,e1,e2⟩:=jc ef;cases e2
   exact ⟨G,H0,env,d,k,e1,q⟩)
@[irreducible] def DW (X:Cx) (e:Expr) (f:TK):Prop:=PW X e (tT X.K f)
theorem PW.imp {t t':TT} (h:PW X e t) (w: ∀σ H Q,t' σ H Q->t σ H Q):PW X e t':=fun wh pins s σ H Q I q=>h wh pins s σ H Q I (w σ H Q q)
def DW.dt (h:DW X e g):DT X e g:=by
 with_unfolding_all exact (PW.pt h)
def Yc (h:DT X a g):DW X (.BoolOp .And [a] pos) g:=by
 with_unfolding_all exact (jbm h)
def we (h:DT X a g):DW X (.BoolOp .Or [a] pos) g:=by
 with_unfolding_all exact (jc7 h)
def andB (g1 g2:TK):Sl->Res Bool:=fun env=>g1 env>>=fun b=>if b=true then g2 env else .ok false
def orB (g1 g2:TK):Sl->Res Bool:=fun env=>g1 env>>=fun b=>if b=true then .ok true else g2 env
def kP (h1:DT X a g1) (h2:DW X (.BoolOp .And (b::rest) pos) g2):DW X (.BoolOp .And (a::b::rest) pos) (andB g1 g2):=by
 with_unfolding_all exact (
  PW.imp (jc8 h1 h2) fun σ H Q=>by
   rintro ⟨G,H0,env,r,k,ef,q⟩;obtain ⟨d,e1,e2⟩:=jc ef;refine ⟨G,H0,env,d,k,e1,fun H' s=>?_⟩
   cases d with
   |true=>rw [if_pos rfl] at e2 ⊢;exact ⟨G,H0,env,r,k.grow s,e2,fun H2 s2=>q H2 (s.trans s2)⟩
   |false=>rw [if_neg aaC] at e2 ⊢;cases e2;exact q H' s)
def xF (h1:DT X a g1) (h2:DW X (.BoolOp .Or (b::rest) pos) g2):DW X (.BoolOp .Or (a::b::rest) pos) (orB g1 g2):=by
 with_unfolding_all exact (
  PW.imp (jeC h1 h2) fun σ H Q=>by
   rintro ⟨G,H0,env,r,k,ef,q⟩;obtain ⟨d,e1,e2⟩:=jc ef;refine ⟨G,H0,env,d,k,e1,fun H' s=>?_⟩
   cases d with
   |false=>rw [if_neg aaC] at e2 ⊢;exact ⟨G,H0,env,r,k.grow s,e2,fun H2 s2=>q H2 (s.trans s2)⟩
   |true=>rw [if_pos rfl] at e2 ⊢;cases e2;exact q H' s)
def toB (f:TL) (g:TL) (w:Bool):Sl->Res D:=fun env=>f env>>=fun d=>match d with
 | .bl b=>if b=w then g env else .ok (.bl b)
 |_=> .stuck
def yS {op} (h:DE X l a f):DE X l (.BoolOp op [a] pos) f:=by
 with_unfolding_all exact (jdg h)
def x6 (h1:DE X l1 a f1) (h2:DE X l (.BoolOp .And (b::rest) pos) f2):DE X l (.BoolOp .And (a::b::rest) pos) (toB f1 f2 true):=by
 with_unfolding_all exact (
  PE.imp (jdm h1 h2) fun σ H Q=>by
   rintro ⟨G,H0,env,r,k,ef,q⟩;obtain ⟨d,e1,e2⟩:=jc ef;refine ⟨G,H0,env,d,k,e1,fun v H' s rr _=>?_⟩
   cases d with
   |bl t=>
    refine ⟨t,rr.blE,?_⟩
    cases t with
    |true=>exact ⟨G,H0,env,r,k.grow s,e2,fun v H2 s2 r2 nt=>q v H2 (s.trans s2) r2 (Lv.Tgrow s nt)⟩
    |false=>cases e2;exact q _ H' s (.bl false) (jfd (K:=X.K) false).T
   |_=>cases e2)
def notD:D->Res D
 | .bl b=> .ok (.bl (!b))
 |_=> .stuck
def notF (f:TL):Sl->Res D:=fun env=>f env>>=notD
def vc (h:DE X l1 a f):DE X l (.UnaryOp .Not a pos) (notF f):=by
 with_unfolding_all exact (
  PE.imp (jdh h) fun σ H Q=>by
   rintro ⟨G,H0,env,r,k,ef,q⟩;obtain ⟨d,e1,e2⟩:=jc ef;refine ⟨G,H0,env,d,k,e1,fun v H' s rr _=>?_⟩
   cases d with
   |bl t=>cases e2;exact ⟨t,rr.blE,q _ H' s (.bl _) (jfd (K:=X.K) _).T⟩
   |_=>cases e2)
def ifD (g:TK) (f1 f2:TL):Sl->Res D:=fun env=>g env>>=fun b=>if b=true then f1 env else f2 env
def vg (hc:DT X c g) (h1:DE X l a f1) (h2:DE X l b f2):DE X l (.IfExp c a b pos) (ifD g f1 f2):=by
 with_unfolding_all exact (
  PE.imp (ui hc h1 h2) fun σ H Q=>by
   rintro ⟨G,H0,env,r,k,ef,q⟩;obtain ⟨d,e1,e2⟩:=jc ef;refine ⟨G,H0,env,d,k,e1,fun H' s=>?_⟩
   cases d with
   |true=>rw [if_pos rfl] at e2 ⊢;exact ⟨G,H0,env,r,k.grow s,e2,fun v H2 s2 r2 nt=>q v H2 (s.trans s2) r2 (Lv.Tgrow s nt)⟩
   |false=>rw [if_neg aaC] at e2 ⊢;exact ⟨G,H0,env,r,k.grow s,e2,fun v H2 s2 r2 nt=>q v H2 (s.trans s2) r2 (Lv.Tgrow s nt)⟩)
end
def jb (f:TL) (g:TH):Sl->Res (List D):=fun env=>f env>>=fun d=>g env>>=fun ds=> .ok (d::ds)
def nil1:Sl->Res (List D):=fun _=> .ok []
def jd:DA X l [] nil1:=by
 with_unfolding_all exact (PA.imp qS fun σ H Q=>by rintro ⟨G,H0,env,d,k,ef,q⟩;cases ef;exact q [] H (Same.refl H) .nil)
def ja {g:TH} (ha:DE X l e f) (hr:DA X l es g) (hs:Wm X e es:=by exact ji rfl):DA X l (e::es) (jb f g):=by
 with_unfolding_all exact (
  PA.imp (jM ha hr hs) fun σ H Q=>by
   rintro ⟨G,H0,env,ds,k,ef,q⟩;obtain ⟨d,e1,e2⟩:=jc ef;obtain ⟨ds',e3,e4⟩:=jc e2;cases e4
   exact ⟨G,H0,env,d,k,e1,fun v H1 s1 r1 _=>⟨G,H0,env,ds',k.grow s1,e3,fun vs H2 s2 r2=>q _ H2 (s1.trans s2) (.cons (r1.grow s2) r2)⟩⟩)
def jQ {H H1:Hp} {p:Addr} (s:Same H H1) (hp:H1 p=none):NewTop H (.ref p):=fun a e o q=>by
 cases e;rw [s _ _ q] at hp;cases hp
def tupF (g:TH):Sl->Res D:=fun env=>g env>>=fun ds=>must (ds.length<=aaj) (.ok (.tup ds))
def lstF (g:TH):Sl->Res D:=fun env=>g env>>=fun ds=>must (ds.length<=aaj) (.ok (.lst ds))
def jG {x1} {g:TH} (h:DA X .s es g):DE X .t (.Tuple es x1 pos) (tupF g):=by
 with_unfolding_all exact (
  PE.imp (jde h) fun σ H Q=>by
   rintro ⟨G,H0,env,d,k,ef,q⟩;obtain ⟨ds,e1,e2⟩:=jc ef;obtain ⟨hz,e3⟩:=jl e2;cases e3;refine ⟨G,H0,env,ds,k,e1,fun vs H1 s1 r1=>⟨by rw [r1.length];exact hz,fun p hp=>?_⟩⟩
   exact q _ _ (s1.trans (Same.upd hp)) (.tup jj (r1.grow (Same.upd hp))) (jQ s1 hp))
def qf {g:TH} (h:DA X .s es g):DE X .t (.List es pos) (lstF g):=by
 with_unfolding_all exact (
  PE.imp (jdj h) fun σ H Q=>by
   rintro ⟨G,H0,env,d,k,ef,q⟩;obtain ⟨ds,e1,e2⟩:=jc ef;obtain ⟨hz,e3⟩:=jl e2;cases e3;refine ⟨G,H0,env,ds,k,e1,fun vs H1 s1 r1=>⟨by rw [r1.length];exact hz,fun p hp=>?_⟩⟩
   exact q _ _ (s1.trans (Same.upd hp)) (.lst jj (k.new p (Same.free s1 hp)) (r1.laid hp)) (jQ s1 hp))
def jay (K:aaa) (r:List V->Hp->VK->Prop) (g:TF):Prop:= ∀(xs:List V) (H:Hp) (ds:List D) (d:D) (Q:VK),Reps K Any H xs ds->g ds= .ok d->(∀v,Sc K v d->Q v H)->r xs H Q
def xP (K:aaa) (r:List V->Hp->VK->Prop) (g:TF):Prop:= ∀(A:Xx) (xs:List V) (H:Hp) (ds:List D) (d:D) (Q:VK),Reps K A H xs ds->g ds= .ok d->(∀v H',Same H H'->Rep K (fun c=>H c=none\/A c) H' v d->NewTop H v->Q v H')->r xs H Q
def app (f:TH) (g:TF):Sl->Res D:=fun env=>f env>>=g
def jeu {K:aaa} {r:List V->Hp->VK->Prop} {g:TF} {fa:TH} (hr:jay K r g) {σ:L2.St} {H:Hp} {Q:VK} (h:tE K l' (app fa g) σ H Q):tCB r (tA K l fa) σ H Q:=by
 obtain ⟨G,H0,env,d,k,ef,q⟩:=h;obtain ⟨ds,e1,e2⟩:=jc ef;refine ⟨G,H0,env,ds,k,e1,fun vs H1 s1 r1=>?_⟩;exact hr vs H1 ds d Q (r1.weak Lv.weak_b) e2 fun v sc=>q v H1 s1 (sc.1 _ _) sc.T
def jcX {K:aaa} {r:List V->Hp->VK->Prop} {g:TF} {fa:TH} (hr:xP K r g) {σ:L2.St} {H:Hp} {Q:VK} (h:tE K .t (app fa g) σ H Q):tCB r (tA K .s fa) σ H Q:=by
 obtain ⟨G,H0,env,d,k,ef,q⟩:=h;obtain ⟨ds,e1,e2⟩:=jc ef;refine ⟨G,H0,env,ds,k,e1,fun vs H1 s1 r1=>?_⟩;exact hr _ vs H1 ds d Q r1 e2 fun v H2 s2 r2 nt=>q v H2 (s1.trans s2) (r2.weak fun c z=>z.elim (fun z=>k.new c (Same.free s1 z)) fun z=>z) (nt.grow s1)
def jev {K:aaa} {r:List V->Hp->VK->Prop} {g:TF} {fa:TH} (hr:xP K r g) {σ:L2.St} {H:Hp} {Q:VK} (h:tE K .b (app fa g) σ H Q):tCB r (tA K .b fa) σ H Q:=by
 obtain ⟨G,H0,env,d,k,ef,q⟩:=h;obtain ⟨ds,e1,e2⟩:=jc ef;refine ⟨G,H0,env,ds,k,e1,fun vs H1 s1 r1=>?_⟩;exact hr _ vs H1 ds d Q r1 e2 fun v H2 s2 r2 nt=>q v H2 (s1.trans s2) (r2.weak fun c _=>trivial) trivial
section
variable {x:Str} {id T:String} {p:Pos} {r:List V->Hp->VK->Prop} {g:TF} {fa:TH}
def jK (hc:CallR X (.builtin id) r) (hr:jay X.K r g) (hg:Gl X x) (hm:X.mg x=none) (hv:aa9 x=some (.builtin id))
   (ha:DA X l (e::es) fa) (hn:x≠ "__name__" :=by decide) (hdb:Yx x:=by decide)
   (he:Wm X e es:=by exact ji rfl) (hpl:Wl X pos es:=by exact jx rfl):DE X l' (.Call (.Name x p) (e::es) [] pos) (app fa g):=by
 with_unfolding_all exact (
  PE.imp (zd hc hg hm hv ha hn hdb he hpl) fun _ _ _ h=>jeu hr h)
def qT (hc:CallR X (.type T) r) (hr:xP X.K r g) (hg:Gl X x) (hm:X.mg x=none) (hv:aa9 x=some (.type T))
   (ha:DA X .s (e::es) fa) (hn:x≠ "__name__" :=by decide) (hdb:Yx x:=by decide)
   (he:Wm X e es:=by exact ji rfl) (hpl:Wl X pos es:=by exact jx rfl):DE X .t (.Call (.Name x p) (e::es) [] pos) (app fa g):=by
 with_unfolding_all exact (
  PE.imp (wa hc hg hm hv ha hn hdb he hpl) fun _ _ _ h=>jcX hr h)
def yE (hc:CallR X (.type T) r) (hr:xP X.K r g) (hg:Gl X x) (hm:X.mg x=none) (hv:aa9 x=some (.type T))
   (ha:DA X .b (e::es) fa) (hn:x≠ "__name__" :=by decide) (hdb:Yx x:=by decide)
   (he:Wm X e es:=by exact ji rfl) (hpl:Wl X pos es:=by exact jx rfl):DE X .b (.Call (.Name x p) (e::es) [] pos) (app fa g):=by
 with_unfolding_all exact (
  PE.imp (wa hc hg hm hv ha hn hdb he hpl) fun _ _ _ h=>jev hr h)
end
def spF (K:aaa) (fr:Bool) (n:Nat) (F:TF):Sp:=fun vs H Q _=> ∃B ds d,vs.length=n/\Reps K B H vs ds/\F ds= .ok d/\ ∀v H',Same H H'->Rep K (fun a=>H a=none\/B a) H' v d->(fr=true->NewTop H v)->Q v H'
def jA (n:Nat) (F:TF) (g:TH):Sl->Res D:=fun env=>g env>>=fun ds=>must (ds.length=n) (F ds)
section
variable {CX:CXT} {k:Nat} {x:Str} {fa:Addr} {fd:abK} {ps:List Str} {p:Pos} {n:Nat} {F:TF} {E:XK} {g:TH} {fr:Bool}
def jcl (G:FnOk X.prog X.w X.K X.mg X.base CX k fa fd ps (spF X.K fr n F)) (hr:Room k X.A) (hg:Gl X x) (hm:X.mg x=some (.ref fa)) (hk:aaX X.K (.ref fa)=true) (hb:Binds X.K fd ps []) (hx:Qi CX X E)
   (ha:DA X .s (e::es) g) (hdb:Yx x:=by decide) (he:Wm X e es:=by exact ji rfl) (hpl:Wl X pos es:=by exact jx rfl):
   DE X .s (.Call (.Name x p) (e::es) [] pos) (jA n F g):=by
 with_unfolding_all exact (
  PE.imp (XH G hr hg hm hk hb .nil hx ha hdb he hpl) fun σ H Q=>by
   rintro ⟨GG,H0,env,d,k,ef,q⟩;obtain ⟨ds,e1,e2⟩:=jc ef;obtain ⟨hn,e3⟩:=jl e2;refine ⟨GG,H0,env,ds,k,e1,fun vs H1 s1 r1=>?_⟩;show spF X.K fr n F (vs++[]) H1 Q E;rw [abq]
   exact ⟨_,ds,d,by rw [r1.length];exact hn,r1,e3,fun v H2 s2 r2 _=>q v H2 (s1.trans s2) (r2.weak fun c z=>z.elim (fun z=>k.new c (Same.free s1 z)) fun z=>z) trivial⟩)
def jal (G:FnOk X.prog X.w X.K X.mg X.base CX k fa fd ps (spF X.K true n F)) (hr:Room k X.A) (hg:Gl X x) (hm:X.mg x=some (.ref fa)) (hk:aaX X.K (.ref fa)=true) (hb:Binds X.K fd ps []) (hx:Qi CX X E)
   (ha:DA X .s (e::es) g) (hdb:Yx x:=by decide) (he:Wm X e es:=by exact ji rfl) (hpl:Wl X pos es:=by exact jx rfl):
   DE X .t (.Call (.Name x p) (e::es) [] pos) (jA n F g):=by
 with_unfolding_all exact (
  PE.imp (XH G hr hg hm hk hb .nil hx ha hdb he hpl) fun σ H Q=>by
   rintro ⟨GG,H0,env,d,k,ef,q⟩;obtain ⟨ds,e1,e2⟩:=jc ef;obtain ⟨hn,e3⟩:=jl e2;refine ⟨GG,H0,env,ds,k,e1,fun vs H1 s1 r1=>?_⟩;show spF X.K true n F (vs++[]) H1 Q E;rw [abq]
   exact ⟨_,ds,d,by rw [r1.length];exact hn,r1,e3,fun v H2 s2 r2 nt=>q v H2 (s1.trans s2) (r2.weak fun c z=>z.elim (fun z=>k.new c (Same.free s1 z)) fun z=>z) ((nt rfl).grow s1)⟩)
end
def ixD:D->D->Res D
 | .lst ds,.int i=>match atI ds i with
  |some d=> .ok d
  |none=> .stuck
 | .scr ds,.int i=>match atI ds i with
  |some d=> .ok d
  |none=> .stuck
 | .tup ds,.int i=>match atI ds i with
  |some d=> .ok d
  |none=> .stuck
 | .str z,.int i=>match atI z.cps.toList i with
  |some c=> .ok (.str ⟨#[c]⟩)
  |none=> .stuck
 |_,_=> .stuck
def Z5 {K:aaa} {A:Xx} {H:Hp} {xs:List V} {ds:List D} {i:Int} {d:D} (r:Reps K A H xs ds) (h:atI ds i=some d): ∃v,atI xs i=some v/\Rep K A H v d:=by
 unfold atI at h ⊢;rw [r.length]
 cases e:ixN ds.length i with
 |none=>rw [e] at h;cases h
 |some j=>rw [e] at h;exact r.get h
def jby (c:Nat):(⟨#[c]⟩:Str).length<=aaj:=by show 1<=aaj;decide
def jdt {A:Xx} {x y:V} {H:Hp} {a b d:D} {Q:VK} (ra:Rep X.K A H x a) (rb:Rep X.K Any H y b) (h:ixD a b= .ok d) (q: ∀v,Rep X.K A H v d->Q v H):rIx X.K x y H Q:=by
 cases b with
 |int i=>
  cases rb.intE
  cases a with
  |lst ds=>
   unfold ixD at h;dsimp only at h
   cases e:atI ds i with
   |none=>rw [e] at h;cases h
   |some d'=>
    rw [e] at h;cases h;obtain ⟨p,xs,rfl,hq,_,r⟩:=ra.lstE;obtain ⟨v,e2,r2⟩:=Z5 r.low e;exact .inl ⟨p,xs,i,v,rfl,rfl,.of hq,e2,q v r2⟩
  |scr ds=>
   unfold ixD at h;dsimp only at h
   cases e:atI ds i with
   |none=>rw [e] at h;cases h
   |some d'=>
    rw [e] at h;cases h;obtain ⟨p,xs,rfl,hq,r⟩:=ra.scrE;obtain ⟨v,e2,r2⟩:=Z5 r e;exact .inl ⟨p,xs,i,v,rfl,rfl,hq.sql,e2,q v r2⟩
  |tup ds=>
   unfold ixD at h;dsimp only at h
   cases e:atI ds i with
   |none=>rw [e] at h;cases h
   |some d'=>
    rw [e] at h;cases h;obtain ⟨p,xs,rfl,hq,r⟩:=ra.tupE;obtain ⟨v,e2,r2⟩:=Z5 r e;exact .inr (.inl ⟨p,xs,i,v,rfl,rfl,.of hq,e2,q v r2⟩)
  |str z=>
   unfold ixD at h;dsimp only at h
   cases e:atI z.cps.toList i with
   |none=>rw [e] at h;cases h
   |some c=>
    rw [e] at h;cases h;obtain ⟨rfl,hz⟩:=ra.strE;exact .inr (.inr ⟨z,i,c,rfl,rfl,hz,e,q _ (.str _ (by show 1<=aaj;decide))⟩)
  |_=>cases h
 |_=>cases a<;>cases h
def qg (ha:DE X .s a f1) (hb:DE X l2 b f2) (hs:Yk b:=by intro _ _;rfl):DE X .s (.Subscript a b pos) (two f1 f2 ixD):=by
 with_unfolding_all exact (
  PE.imp (jdk jaL ha hb hs) fun σ H Q=>by
   rintro ⟨G,H0,env,d,k,ef,q⟩;obtain ⟨a',e1,ef⟩:=jc ef;obtain ⟨b',e2,e3⟩:=jc ef;refine ⟨G,H0,env,a',k,e1,fun x H1 s1 r1 _=>⟨G,H0,env,b',k.grow s1,e2,fun y H2 s2 r2 _=>?_⟩⟩
   exact jdt (r1.grow s2) (r2.weak Lv.weak_b) e3 fun v r3=>q v H2 (s1.trans s2) r3 trivial)
@[irreducible] def DO (X:Cx) (e:Option Expr) (f:Sl->Res (Option Int)):Prop:=PO X e (fun σ H Q=> ∃G H0 env i,EnvOk X.K G H0 env σ H/\f env= .ok i/\ ∀H',Same H H'->Q i H')
theorem PO.imp {e:Option Expr} {t t':TO} (h:PO X e t) (w: ∀σ H Q,t' σ H Q->t σ H Q):PO X e t':=fun pins s σ H Q I q=>h pins s σ H Q I (w σ H Q q)
def KQ:Sl->Res (Option Int):=fun _=> .ok none
def kY:DO X none KQ:=by
 with_unfolding_all exact (PO.imp jbr fun σ H Q=>by rintro ⟨G,H0,env,i,k,ef,q⟩;cases ef;exact q H (Same.refl H))
def asI:D->Res (Option Int)
 | .int i=> .ok (some i)
 |_=> .stuck
def VA (f:TL):Sl->Res (Option Int):=fun env=>f env>>=asI
def kX (h:DE X l e f):DO X (some e) (VA f):=by
 with_unfolding_all exact (PO.imp (jbq h) fun σ H Q=>by
  rintro ⟨G,H0,env,i,k,ef,q⟩;obtain ⟨d,e1,e2⟩:=jc ef
  cases d with
  |int j=>cases e2;exact ⟨G,H0,env,.int j,k,e1,fun v H' s r _=>⟨j,r.intE,q H' s⟩⟩
  |_=>cases e2)
def cutD (ds:List D) (lo hi:Option Int):List D:=(ds.drop (HT.sIx ds.length 0 lo)).take (HT.sIx ds.length ds.length hi-HT.sIx ds.length 0 lo)
def Yg {K:aaa} {A:Xx} {H:Hp} {xs:List V} {ds:List D} {lo hi:Option Int} (r:Reps K A H xs ds):Reps K A H (cutV xs lo hi) (cutD ds lo hi):=by
 unfold cutV cutD;rw [r.length];exact (r.drop _).take _
def yN (f:TL) (fl fh:Sl->Res (Option Int)) (g:D->Option Int->Option Int->Res D):Sl->Res D:=fun env=>f env>>=fun a=>fl env>>=fun lo=>fh env>>=fun hi=>g a lo hi
end
section
variable {K:aaa} {G:Xx} {H0 H H1 H':Hp} {env env':Sl} {σ σ':L2.St} {i:Nat} {d:D} {v:V}
def jm {α:Type} {l:List α} {i j:Nat} {x:α} (h:i≠j):(l.set i x)[j]?=l[j]?:=aa5 h
def jo {α:Type} {l:List α} {i:Nat} {x y:α} (h:(l.set i x)[i]?=some y):y=x/\i<l.length:=by
 have hl:i<l.length:=by
  have:=(aam.mp h).1;simpa using this
 rw [aaR hl] at h;exact ⟨(aaD h).symm,hl⟩
def Jz {s:Slot} {a:Addr} (h:jL (env.set i s) (σ.set i (some v)) a):jL env σ a\/(∃d,s= .own d/\v= .ref a):=by
 obtain ⟨j,d,h1,h2⟩:=h
 by_cases e:i=j
 · subst e;obtain ⟨q1,_⟩:=jo h1;obtain ⟨q2,_⟩:=jo h2;exact .inr ⟨d,q1.symm,(aaD q2).symm⟩
 · rw [jm e] at h1 h2;exact .inl ⟨j,d,h1,h2⟩
def EnvOk.setS (k:EnvOk K G H0 env σ H) (r:Rep K (Sf G env σ) H v d):EnvOk K G H0 (env.set i (.shr d)) (σ.set i (some v)) H:=by
 have w: ∀a,Sf G env σ a->Sf G (env.set i (.shr d)) (σ.set i (some v)) a:=fun a n=>⟨fun o=>(by
   rcases Jz o with z| ⟨d',z,_⟩
   · exact n.1 z
   · cases z),n.2⟩
 refine ⟨by simp [k.len],k.base,k.g0,fun j e h=>?_,fun j e h=>?_,fun j j' e e' a h1 h2 h3 h4=>?_⟩
 · by_cases z:i=j
   · subst z;obtain ⟨q,hl⟩:=jo h;cases q;exact ⟨v,aaR (by rw [k.len];exact hl),r.weak w⟩
   · rw [jm z] at h ⊢;obtain ⟨v',h1,h2⟩:=k.shr j e h;exact ⟨v',h1,h2.weak w⟩
 · by_cases z:i=j
   · subst z;obtain ⟨q,hl⟩:=jo h;cases q
   · rw [jm z] at h ⊢;obtain ⟨v',h1,h0,h2⟩:=k.own j e h;exact ⟨v',h1,h0,h2.stay (fun _ _ e _=>e) w fun _ e=>e⟩
 · have n1:i≠j:=fun z=>by subst z;obtain ⟨q,_⟩:=jo h1;cases q
   have n2:i≠j':=fun z=>by subst z;obtain ⟨q,_⟩:=jo h2;cases q
   rw [jm n1] at h1 h3;rw [jm n2] at h2 h4;exact k.dis j j' e e' a h1 h2 h3 h4
def yr:D->Bool
 | .lst _=>true
 | .dic _ _=>true
 | .dit _ _=>true
 | .obj _ _ _=>true
 |_=>false
def JB {A:Xx} (r:Rep K A H v d) (h:yr d=true): ∃a,v= .ref a/\A a/\(∃o,H a=some o/\Mut (some o))/\Top K (fun c=>A c/\c≠a) H a d:=by
 cases r with
 |lst e a r=>exact ⟨_,rfl,a,⟨_,e,trivial⟩,.lst e r⟩
 |dic e a k1 k2 r=>exact ⟨_,rfl,a,⟨_,e,trivial⟩,.dic e k1 k2 r⟩
 |dit e a k1 k2 r=>exact ⟨_,rfl,a,⟨_,e,trivial⟩,.dit e k1 k2 r⟩
 |obj e a k1 k2 r=>exact ⟨_,rfl,a,⟨_,e,trivial⟩,.obj e k1 k2 r⟩
 |_=>cases h
def jaG {a:Addr} (s:Same H H1) (nt:NewTop H (.ref a)) (h: ∃o,H1 a=some o/\Mut (some o)):H a=none:=by
 cases e:H a with
 |none=>rfl
 |some o=>
  obtain ⟨o',h1,h2⟩:=h;rw [s a o e] at h1;cases h1;exact (nt a rfl o e h2).elim
def EnvOk.setN (k:EnvOk K G H0 env σ H) (s:Same H H1) (r:Rep K (Sf G env σ) H1 v d) (nt:NewTop H v) (hd:yr d=true):EnvOk K G H0 (env.set i (.own d)) (σ.set i (some v)) H1/\ ∃a,v= .ref a/\H a=none:=by
 obtain ⟨a,rfl,ga,mt,top⟩:=JB r hd;have fa:=jaG s nt mt;refine ⟨?_,a,rfl,fa⟩
 have w: ∀c,(Sf G env σ c/\c≠a)->Sf G (env.set i (.own d)) (σ.set i (some (V.ref a))) c:=fun c n=>⟨fun o=>(by
   rcases Jz o with z| ⟨d',z,z2⟩
   · exact n.1.1 z
   · cases z2;exact n.2 rfl),n.1.2⟩
 have w2: ∀c,(Sf G env σ c/\H c≠none)->Sf G (env.set i (.own d)) (σ.set i (some (V.ref a))) c:=fun c n=>w c ⟨n.1,fun e=>n.2 (by rw [e];exact fa)⟩
 have k1:=k.grow s;refine ⟨by simp [k.len],k1.base,k.g0,fun j e h=>?_,fun j e h=>?_,fun j j' e e' b h1 h2 h3 h4=>?_⟩
 · by_cases z:i=j
   · subst z;obtain ⟨q,hl⟩:=jo h;cases q
   · rw [jm z] at h ⊢;obtain ⟨v',h1,h2⟩:=k.shr j e h;exact ⟨v',h1,(h2.inDom.grow s).weak w2⟩
 · by_cases z:i=j
   · subst z;obtain ⟨q,hl⟩:=jo h;cases q;exact ⟨a,aaR (by rw [k.len];exact hl),Same.free k.base fa,top.stay (fun _ _ e _=>e) w fun _ e=>e⟩
   · rw [jm z] at h ⊢;obtain ⟨v',h1,h0,h2⟩:=k.own j e h;refine ⟨v',h1,h0,?_⟩
     cases h2 with
     |lst e2 r2=>exact .lst (s _ _ e2) ((r2.inDom.grow s).weak w2)
     |dic e2 k2 k3 r2=>exact .dic (s _ _ e2) k2 k3 ((r2.inDom.grow s).weak w2)
     |dit e2 k2 k3 r2=>exact .dit (s _ _ e2) k2 k3 ((r2.inDom.grow s).weak w2)
     |obj e2 k2 k3 r2=>exact .obj (s _ _ e2) k2 k3 ((r2.inDom.grow s).weak w2)
 · have new: ∀(j:Nat) (e:D),env[j]?=some (.own e)->σ[j]?=some (some (.ref a))->False:=fun j e q1 q2=>by
     obtain ⟨u,q⟩:=k.there ⟨j,e,q1,q2⟩;rw [fa] at q;cases q
   by_cases z1:i=j
   · subst z1
     by_cases z2:i=j'
     · exact z2
     · rw [jm z2] at h2 h4;obtain ⟨q,_⟩:=jo h3;cases q;exact (new j' e' h2 h4).elim
   · rw [jm z1] at h1 h3
     by_cases z2:i=j'
     · subst z2;obtain ⟨q,_⟩:=jo h4;cases q;exact (new j e h1 h3).elim
     · rw [jm z2] at h2 h4;exact k.dis j j' e e' b h1 h2 h3 h4
def Frm.set {s:Slot} (sm:Same H H1) (fresh: ∀a d,s= .own d->v= .ref a->H a=none):Frm env σ H (env.set i s) (σ.set i (some v)) H1:=
 ⟨fun b o e _=>sm b o e,fun b o=>by
  rcases Jz o with z| ⟨d',z,z2⟩
  · exact .inl z
  · exact .inr (fresh b d' z z2),fun b e=>Same.free sm e⟩
def Frm.sf (f:Frm env σ H env' σ' H'): ∀a,(Sf G env σ a/\H a≠none)->Sf G env' σ' a:=fun a z=>⟨fun o=>(f.more a o).elim z.1.1 z.2,z.1.2⟩
def Frm.st (k:EnvOk K G H0 env σ H) (f:Frm env σ H env' σ' H'):Stay (fun a=>Sf G env σ a/\H a≠none) H H':=fun a o e m=>f.keep a o e fun ow=>(m (k.mutO ow e)).1.1 ow
def Frm.rep (k:EnvOk K G H0 env σ H) (f:Frm env σ H env' σ' H') (r:Rep K (Sf G env σ) H v d):Rep K (Sf G env' σ') H' v d:=r.inDom.stay (f.st k) f.sf
def Frm.reps (k:EnvOk K G H0 env σ H) (f:Frm env σ H env' σ' H') {vs:List V} {ds:List D} (r:Reps K (Sf G env σ) H vs ds):Reps K (Sf G env' σ') H' vs ds:=r.inDom.stay (f.st k) f.sf
end
def xn (d:D):Slot:=if yr d=true then .own d else .shr d
def EnvOk.setNew {K:aaa} {G:Xx} {H0 H H1:Hp} {env:Sl} {σ:L2.St} {i:Nat} {d:D} {v:V} (k:EnvOk K G H0 env σ H) (s:Same H H1) (r:Rep K (Sf G env σ) H1 v d) (nt:NewTop H v):
   EnvOk K G H0 (env.set i (xn d)) (σ.set i (some v)) H1/\Frm env σ H (env.set i (xn d)) (σ.set i (some v)) H1:=by
 unfold xn
 by_cases h:yr d=true
 · rw [if_pos h];obtain ⟨z,a',e',fa⟩:=k.setN s r nt h;refine ⟨z,.set s fun a d' _ e=>?_⟩;rw [e] at e';cases e';exact fa
 · rw [if_neg h];exact ⟨(k.grow s).setS r,.set s fun _ _ z _=>by cases z⟩
def nxO:Sl->Res Out:=fun env=> .ok (.nx env)
def jdY (f:TL):Sl->Res Out:=fun env=>f env>>=fun _=> .ok (.nx env)
def augI (h:Int->Int->Int) (a b:D):Res D:=match a,b with
 | .int m,.int n=> .ok (.int (h m n))
 |_,_=> .stuck
def seqO (g1 g2:TJ):Sl->Res Out:=fun env=>g1 env>>=fun o=>match o with
 | .nx env'=>g2 env'
 | .rt fr d=> .ok (.rt fr d)
 | .bk env'=> .ok (.bk env')
 | .ct env'=> .ok (.ct env')
section
variable {X:Cx} {e c tg:Expr} {st:Stmt} {rest body orelse:List Stmt} {pos:Pos} {l:Lv} {f:TL} {g g1 g2:TJ}
def jJ:DSs X [] nxO:=by
 with_unfolding_all exact (PSs.imp Uh fun E σ H=>by
  rintro ⟨G,H0,env,o,k,ef,q⟩;cases ef
  exact q σ H k (Frm.refl (Same.refl H)))
def yO {K:aaa} {G:Xx} {H0 H H':Hp} {env env':Sl} {σ σ':L2.St} {E:Ends} {o:Out} (f:Frm env σ H env' σ' H') (q:Post K G H0 env σ H E o):Post K G H0 env' σ' H' E o:=by
 cases o with
 |nx e=>exact fun σ2 H2 k2 f2=>q σ2 H2 k2 (f.trans f2)
 |bk e=>exact fun σ2 H2 k2 f2=>q σ2 H2 k2 (f.trans f2)
 |ct e=>exact fun σ2 H2 k2 f2=>q σ2 H2 k2 (f.trans f2)
 |rt fr d=>exact q
def je (h1:DS X st g1) (h2:DSs X rest g2):DSs X (st::rest) (seqO g1 g2):=by
 with_unfolding_all exact (PSs.imp (Zi h1 h2) fun E σ H=>by
  rintro ⟨G,H0,env,o,k,ef,q⟩;obtain ⟨o1,e1,e2⟩:=jc ef;refine ⟨G,H0,env,o1,k,e1,?_⟩
  cases o1 with
  |nx env1=>exact fun σ' H' k' f'=>⟨G,H0,env1,o,k',e2,yO f' q⟩
  |rt fr d=>cases e2;exact q
  |bk e'=>cases e2;exact q
  |ct e'=>cases e2;exact q)
def jh (h1:DS X st g1):DSs X [st] g1:=by
 with_unfolding_all exact (PSs.imp (Jw h1) fun E σ H q=>q)
def retO (f:TL):Sl->Res Out:=fun env=>f env>>=fun d=> .ok (.rt true d)
def jw (h:DE X .t e f):DS X (.Return (some e) pos) (retO f):=by
 with_unfolding_all exact (PS.imp (Uj h) fun E σ H=>by
  rintro ⟨G,H0,env,o,k,ef,q⟩;obtain ⟨d,e1,e2⟩:=jc ef;cases e2
  exact ⟨G,H0,env,d,k,e1,fun v H' s r nt=>q v H' (k.base.trans s) (r.weak fun a z=>z.2) fun _=>NewTop.grow k.base nt⟩)
def retS (f:TL):Sl->Res Out:=fun env=>f env>>=fun d=> .ok (.rt false d)
def kU (h:DE X .s e f):DS X (.Return (some e) pos) (retS f):=by
 with_unfolding_all exact (PS.imp (Uj h) fun E σ H=>by
  rintro ⟨G,H0,env,o,k,ef,q⟩;obtain ⟨d,e1,e2⟩:=jc ef;cases e2
  exact ⟨G,H0,env,d,k,e1,fun v H' s r nt=>q v H' (k.base.trans s) (r.weak fun a z=>z.2) fun z=>by cases z⟩)
def rdO (i:Nat):Sl->Res D:=fun env=>match env[i]? with
 |some (.own d)=> .ok d
 |some (.shr d)=>must (d.imm=true) (.ok d)
 |_=> .stuck
def Ye (i:Nat) {x:Str} {p:Pos} (hN:X.N[i]?=some x:=by rfl) (hv:Vis X.env.scope x:=by first|exact abR rfl|exact abf (abR rfl)|exact abf (abf rfl)) (hd:Yx x:=by decide)
    (hcd:Yw x:=by decide):DS X (.Return (some (.Name x p)) pos) (retO (rdO i)):=by
 with_unfolding_all exact (PS.imp (Uj (zZ hN hv hd hcd)) fun E σ H=>by
  rintro ⟨G,H0,env,o,k,ef,q⟩;obtain ⟨d,e1,e2⟩:=jc ef;cases e2;unfold rdO at e1
  split at e1
  · rename_i d' hs;cases e1;obtain ⟨a,h1,h0,h2⟩:=k.own i d hs;refine ⟨.ref a,h1,q _ H k.base (h2.rep (fun c z=>⟨z.2,Wu k hs h1 c z⟩) (k.g0 a h0)) fun _ b e o' q'=>?_⟩;cases e;rw [h0] at q';cases q'
  · rename_i d' hs;obtain ⟨hm,e3⟩:=jl e1;cases e3;obtain ⟨v,h1,h2⟩:=k.shr i d hs;exact ⟨v,h1,q v H k.base (h2.imm hm) fun _=>kj k.base h2 hm⟩
  · cases e1)
def ifO (t:TK) (g1 g2:TJ):Sl->Res Out:=fun env=>t env>>=fun b=>if b=true then g1 env else g2 env
def zo {t:TK} (hc:DT X c t) (h1:DSs X body g1) (h2:DSs X orelse g2):DS X (.If c body orelse pos) (ifO t g1 g2):=by
 with_unfolding_all exact (PS.imp (jbp hc h1 h2) fun E σ H=>by
  rintro ⟨G,H0,env,o,k,ef,q⟩;obtain ⟨b,e1,e2⟩:=jc ef;refine ⟨G,H0,env,b,k,e1,fun H' s=>?_⟩
  cases b with
  |true=>rw [if_pos rfl] at e2 ⊢;exact ⟨G,H0,env,o,k.grow s,e2,yO (Frm.refl s) q⟩
  |false=>rw [if_neg aaC] at e2 ⊢;exact ⟨G,H0,env,o,k.grow s,e2,yO (Frm.refl s) q⟩)
def setO (i:Nat) (f:TL):Sl->Res Out:=fun env=>f env>>=fun d=> .ok (.nx (env.set i (xn d)))
def J7 (i:Nat) {x:Str} {pos':Pos} (hN:X.N.Nodup) (h:DE X .t e f) (hi:X.N[i]?=some x:=by rfl) (hx:Loc X.env.scope x:=by first|exact abR rfl|exact abf rfl) (hs:aca e (some (.Name x pos')) pos.line X.env=pure false:=by rfl)
   (hf:VR X x:=by first|exact .inl rfl|exact .inr rfl|assumption):DS X (.Assign [.Name x pos'] e pos) (setO i f):=by
 with_unfolding_all exact (
  PS.imp (Ui hN hi hx h hs hf) fun E σ H=>by
   rintro ⟨G,H0,env,o,k,ef,q⟩;obtain ⟨d,e1,e2⟩:=jc ef;cases e2
   exact ⟨G,H0,env,d,k,e1,fun v H' s r nt=>q _ H' (k.setNew s r nt).1 (k.setNew s r nt).2⟩)
def jB (i:Nat) (f:TL):Sl->Res Out:=fun env=>f env>>=fun d=> .ok (.nx (env.set i (.shr d)))
def jD (i:Nat) {x:Str} {pos':Pos} (hN:X.N.Nodup) (h:DE X .s e f) (hi:X.N[i]?=some x:=by rfl) (hx:Loc X.env.scope x:=by first|exact abR rfl|exact abf rfl) (hs:aca e (some (.Name x pos')) pos.line X.env=pure false:=by rfl)
   (hf:VR X x:=by first|exact .inl rfl|exact .inr rfl|assumption):DS X (.Assign [.Name x pos'] e pos) (jB i f):=by
 with_unfolding_all exact (
  PS.imp (Ui hN hi hx h hs hf) fun E σ H=>by
   rintro ⟨G,H0,env,o,k,ef,q⟩;obtain ⟨d,e1,e2⟩:=jc ef;cases e2
   exact ⟨G,H0,env,d,k,e1,fun v H' s r _=>q _ H' ((k.grow s).setS r) (.set s fun _ _ z _=>by cases z)⟩)
def jaY (i:Nat) {x:Str} {pos':Pos} {op:aej} {h:Int->Int->Int} (hN:X.N.Nodup) (he:DE X l e f) (ho:PIp X op (ipI h)) (hi:X.N[i]?=some x:=by rfl) (hx:Loc X.env.scope x:=by first|exact abR rfl|exact abf rfl)
   (hf:VR X x:=by first|exact .inl rfl|exact .inr rfl|assumption):
   DS X (.AugAssign (.Name x pos') op e pos) (jB i (two (rdS i) f (augI h))):=by
 with_unfolding_all exact (
  PS.imp (jdc hN hi hx he ho hf) fun E σ H=>by
   rintro ⟨G,H0,env,o,k,ef,q⟩;obtain ⟨d,e1,e2⟩:=jc ef;obtain ⟨a,e3,e4⟩:=jc e1;obtain ⟨b,e5,e6⟩:=jc e4;cases e2;obtain ⟨v,h1,h2⟩:=k.shr i a (VZ e3);refine ⟨v,h1,G,H0,env,b,k,e5,fun w H' s r _=>?_⟩
   cases a with
   |int m=>
    cases b with
    |int n=>
     cases e6;cases h2.intE;cases r.intE;exact ⟨m,n,rfl,rfl,q _ H' ((k.grow s).setS (.int _)) (.set s fun _ _ z _=>by cases z)⟩
    |_=>cases e6
   |_=>cases e6)
def jcb (h:DE X l e f) (hs:aca e none pos.line X.env=pure false:=by rfl):DS X (.Expr e pos) (jdY f):=by
 with_unfolding_all exact (PS.imp (Jx h hs) fun E σ H=>by
  rintro ⟨G,H0,env,o,k,ef,q⟩;obtain ⟨d,e1,e2⟩:=jc ef;cases e2
  exact ⟨G,H0,env,d,k,e1,fun v H' s r _=>q σ H' (k.grow s) (Frm.refl s)⟩)
end
def Its (x:Str):It:=⟨fun i _=>i<x.cps.size,fun i H v H'=>H'=H/\ ∃c,x.cps[i]?=some c/\v= .str ⟨#[c]⟩,fun i _=>x.cps.size<=i⟩
def Ku {P:aaA} {w:World} {K:aaa} {tg:Expr} (it:Addr) (x:Str) (t:Tok):Turn P w K tg (Its x) [it] it (fun i h=>h.IsStrIter it "str_ascii_iterator" x t i) where
 mem:=by simp
 obj:=fun i h st b hb=>by
  have e:b=it:=by simpa using hb
  subst e;obtain ⟨o,e,c,d⟩:=st;exact ⟨o,e,fun v z=>by rw [d] at z;cases z⟩
 keep:=fun i h h' st k=>let ⟨o,ho,r⟩:=st;⟨o,k it (by simp) o ho,r⟩
 item:=by
  intro X hP hw hK hc i pins s σ H E I hf st hg;subst hP hw hK;have hi:i<x.cps.size:=hg;obtain ⟨f0,f1,f2,f3,f4,f5⟩:=hf it (by simp);refine wpAny_pyNext_ascii_item st (c:=x.cps[i]) (by simp [hi]) fun h' st' sb=>?_
  have I1:Inv X pins σ H {s with heap:=h',toks:=s.toks+1}:=I.turned (fun b o hb e=>(sb.2 b hb).trans e) f0 f1 f3 f4 f5;obtain ⟨o,e,c,d⟩:=id st';exact ⟨_,rfl,ky e c d (by decide) ⟨.str ⟨#[x.cps[i]]⟩,H,I1,⟨_,rfl⟩,⟨rfl,_,by simp [hi],rfl⟩,st',fun b hb=>(hf b hb).1⟩⟩
 done:=by
  intro X hP hw hK hc i pins s σ H E I hf st hg;subst hP hw hK;have hi:=hg;obtain ⟨f0,f1,f2,f3,f4,f5⟩:=hf it (by simp);exact wpAny_pyNext_ascii_end (I.ok.hd hc) st (by simp;exact hi) fun h' eb=>⟨rfl,I.turned (fun b o hb e=>eb b o hb e) f0 f1 f3 f4 f5⟩
 self:=fun _ _ _ _ _ st h=>wpAny_pyIter_striter_ascii st h
def Vp {P:aaA} {w:World} {K:aaa} {tg:Expr} (it:Addr) (x:Str) (t:Tok):Turn P w K tg (Its x) [it] it (fun i h=>h.IsStrIter it "str_iterator" x t i) where
 mem:=by simp
 obj:=fun i h st b hb=>by
  have e:b=it:=by simpa using hb
  subst e;obtain ⟨o,e,c,d⟩:=st;exact ⟨o,e,fun v z=>by rw [d] at z;cases z⟩
 keep:=fun i h h' st k=>let ⟨o,ho,r⟩:=st;⟨o,k it (by simp) o ho,r⟩
 item:=by
  intro X hP hw hK hc i pins s σ H E I hf st hg;subst hP hw hK;have hi:i<x.cps.size:=hg;obtain ⟨f0,f1,f2,f3,f4,f5⟩:=hf it (by simp);refine wpAny_pyNext_wide_item st (c:=x.cps[i]) (by simp [hi]) fun h' st' sb=>?_
  have I1:Inv X pins σ H {s with heap:=h',toks:=s.toks+1}:=I.turned (fun b o hb e=>(sb.2 b hb).trans e) f0 f1 f3 f4 f5;obtain ⟨o,e,c,d⟩:=id st';exact ⟨_,rfl,ky e c d (by decide) ⟨.str ⟨#[x.cps[i]]⟩,H,I1,⟨_,rfl⟩,⟨rfl,_,by simp [hi],rfl⟩,st',fun b hb=>(hf b hb).1⟩⟩
 done:=by
  intro X hP hw hK hc i pins s σ H E I hf st hg;subst hP hw hK;have hi:=hg;obtain ⟨f0,f1,f2,f3,f4,f5⟩:=hf it (by simp);exact wpAny_pyNext_wide_end (I.ok.hd hc) st (by simp;exact hi) fun h' eb=>⟨rfl,I.turned (fun b o hb e=>eb b o hb e) f0 f1 f3 f4 f5⟩
 self:=fun _ _ _ _ _ st h=>wpAny_pyIter_striter_wide st h
def Walk (J:It) (xs:List V) (P:Hp->Prop):Prop:= ∀i H,P H->(i<xs.length->J.go i H)/\(i<xs.length-> ∀x H',J.yld i H x H'->H'=H/\xs[i]?=some x)/\(xs.length<=i->J.stop i H)
def Yd (K:aaa) (A:Xx) (H1 H H':Hp) (x:V) (d:D):Prop:=
 (H'=H/\Rep K A H1 x d)\/ ∃p vs es,H p=none/\x= .ref p/\H'=L2.upd H p (.tup vs)/\d= .tup es/\Reps K A H1 vs es
def jcJ (K:aaa) (A:Xx) (H1:Hp) (J:It) (ds:List D) (P:Hp->Prop):Prop:= ∀i H,P H->(i<ds.length->J.go i H)/\(∀d,ds[i]?=some d-> ∀x H',J.yld i H x H'->Yd K A H1 H H' x d)/\(ds.length<=i->J.stop i H)
def Walk.toD {K:aaa} {A:Xx} {H1:Hp} {J:It} {xs:List V} {ds:List D} {P:Hp->Prop} (rs:Reps K A H1 xs ds) (w:Walk J xs P):jcJ K A H1 J ds P:=fun i H p=>by
 have hl:=rs.length;obtain ⟨w1,w2,w3⟩:=w i H p;refine ⟨fun h=>w1 (by omega),fun d hd x H' y=>?_,fun h=>w3 (by omega)⟩;have hi:=(aam.mp hd).1;obtain ⟨e,hx⟩:=w2 (by omega) x H' y;obtain ⟨d',hd',r⟩:=rs.get' hx;rw [hd] at hd';cases hd';exact .inl ⟨e,r⟩
def tI (K:aaa) (f:TH):TI:=fun σ H R=> ∃G H0 env ds,EnvOk K G H0 env σ H/\f env= .ok ds/\
 ∀J H1 P,Same H H1->jcJ K (Sf G env σ) H1 J ds P->P H1->(∀env' σ' H',Frm env σ H1 env' σ' H'->P H')->R J H1
@[irreducible] def DI (X:Cx) (tg e:Expr) (f:TH):Prop:=PI X tg e (tI X.K f)
def Qq (z:Str):List D:=z.cps.toList.map fun c=> .str ⟨#[c]⟩
def uN:D->Res (List D)
 | .lst ds=> .ok ds
 | .scr ds=> .ok ds
 | .tup ds=> .ok ds
 | .str z=> .ok (Qq z)
 |_=> .stuck
def Kx (z:Str):List V:=z.cps.toList.map fun c=> .str ⟨#[c]⟩
def VJ {K:aaa} {A:Xx} {H:Hp} (z:Str):Reps K A H (Kx z) (Qq z):=by
 unfold Kx Qq;generalize z.cps.toList=l
 induction l with
 |nil=>exact .nil
 |cons c r ih=>exact .cons (.str _ (jby c)) ih
section
variable {X:Cx} {tg e:Expr} {f:TL} {l:Lv}
def itF (f:TL):Sl->Res (List D):=fun env=>f env>>=uN
def q8 (h:DE X .s e f):DI X tg e (itF f):=by
 with_unfolding_all exact (by
  rintro pins s σ H R I ⟨G,H0,env,ds,k,ef,q⟩;obtain ⟨d,e1,e2⟩:=jc ef;refine thn (h pins s σ H (fun v H1=>Same H H1/\Rep X.K (Sf G env σ) H1 v d) I ⟨G,H0,env,d,k,e1,fun v H' s r _=>⟨s,r⟩⟩) fun v s1 ⟨x,H1,I1,r1,sm,rep⟩=>?_
  have k1:=k.grow sm
  cases d with
  |lst ds'=>
   cases e2;obtain ⟨a,xs,rfl,ha,na,rs⟩:=rep.lstE;cases r1;obtain ⟨its,rv,p,hz⟩:=I1.list (.of ha);refine acX p.isList ?_;refine ⟨s1.heap.objs.size,[s1.heap.objs.size],_,_,H1,rfl,I1.kept fun b o e=>aae _ e,Wf a _,⟨_,aap _ rfl,rfl,rfl⟩,fun b hb=>?_,?_⟩
   · have e:b=s1.heap.objs.size:=by simpa using hb
     subst e;exact I1.fpOk (aah _) (I1.hok.fresh (aah _))
   · refine q _ H1 (fun H=>H a=some (.lst xs)) sm (Walk.toD rs.low fun i H' p=>?_) ha (fun env' σ' H' fr=>fr.keep a _ ha na.1);exact ⟨fun hi=>⟨xs,xs[i],.of p,by simp [hi]⟩,fun _ x H' y=>⟨y.1,y.2 xs (.of p)⟩,fun hi=>⟨xs,.of p,hi⟩⟩
  |scr ds'=>
   cases e2;obtain ⟨a,xs,rfl,ha,rs⟩:=rep.scrE;cases r1;obtain ⟨its,rv,p,hz⟩:=I1.list ha.sql;refine acX p.isList ?_;refine ⟨s1.heap.objs.size,[s1.heap.objs.size],_,_,H1,rfl,I1.kept fun b o e=>aae _ e,Wf a _,⟨_,aap _ rfl,rfl,rfl⟩,fun b hb=>?_,?_⟩
   · have e:b=s1.heap.objs.size:=by simpa using hb
     subst e;exact I1.fpOk (aah _) (I1.hok.fresh (aah _))
   · refine q _ H1 (fun H=>LsK X.K H a xs) sm (Walk.toD rs fun i H' p=>?_) ha (fun env' σ' H' fr=>?_)
     · exact ⟨fun hi=>⟨xs,xs[i],p.sql,by simp [hi]⟩,fun _ x H' y=>⟨y.1,y.2 xs p.sql⟩,fun hi=>⟨xs,p.sql,hi⟩⟩
     · rcases ha with ⟨o,eo⟩|z
       · exact .inl ⟨o,fr.keep a _ eo fun ow=>(k1.mutO ow eo).elim⟩
       · exact .inr z
  |tup ds'=>
   cases e2;obtain ⟨a,xs,rfl,ha,rs⟩:=rep.tupE;cases r1;obtain ⟨its,rv,p,hz⟩:=I1.tuple (.of ha);refine wpAny_pyIter_tuple (show s1.heap.IsTuple a its.toArray from p) ?_;refine ⟨s1.heap.objs.size,[s1.heap.objs.size],_,_,H1,rfl,I1.kept fun b o e=>aae _ e,Ks a _,⟨_,aap _ rfl,rfl,rfl⟩,fun b hb=>?_,?_⟩
   · have e:b=s1.heap.objs.size:=by simpa using hb
     subst e;exact I1.fpOk (aah _) (I1.hok.fresh (aah _))
   · refine q _ H1 (fun H=>H a=some (.tup xs)) sm (Walk.toD rs fun i H' p=>?_) ha (fun env' σ' H' fr=>fr.keep a _ ha fun ow=>(k1.mutO ow ha).elim);exact ⟨fun hi=>⟨xs,xs[i],.of p,by simp [hi]⟩,fun _ x H' y=>⟨y.1,y.2 xs (.of p)⟩,fun hi=>⟨xs,.of p,hi⟩⟩
  |str z=>
   cases e2;obtain ⟨rfl,hz⟩:=rep.strE;obtain ⟨t,rfl⟩:=r1
   have fin: ∀(J:It),J=Its z-> ∃(xs:List V) (P:Hp->Prop),Reps X.K (Sf G env σ) H1 xs (Qq z)/\Walk J xs P/\P H1/\ ∀env' σ' H',Frm env σ H1 env' σ' H'->P H':=by
     rintro J rfl;refine ⟨Kx z,fun _=>True,VJ z,fun i H' _=>?_,trivial,fun _ _ _ _=>trivial⟩;have hl:(Kx z).length=z.cps.size:=by simp [Kx]
     refine ⟨fun hi=>by rw [hl] at hi;exact hi,fun hi x H2 y=>?_,fun hi=>by rw [hl] at hi;exact hi⟩;obtain ⟨y1,c,y2,y3⟩:=y;refine ⟨y1,?_⟩;subst y3;simp [Kx,y2]
   obtain ⟨xs,P,h1,h2,h3,h4⟩:=fin (Its z) rfl
   cases hall:z.cps.all (· <128) with
   |true=>
     refine wpAny_pyIter_ascii hall ?_;refine ⟨s1.heap.objs.size,[s1.heap.objs.size],_,_,H1,rfl,I1.kept fun b o e=>aae _ e,Ku _ z t,⟨_,aap _ rfl,rfl,rfl⟩,fun b hb=>?_,q _ H1 P sm (Walk.toD h1 h2) h3 h4⟩;have e:b=s1.heap.objs.size:=by simpa using hb
     subst e;exact I1.fpOk (aah _) (I1.hok.fresh (aah _))
   |false=>
     refine wpAny_pyIter_wide hall ?_;refine ⟨s1.heap.objs.size,[s1.heap.objs.size],_,_,H1,rfl,I1.kept fun b o e=>aae _ e,Vp _ z t,⟨_,aap _ rfl,rfl,rfl⟩,fun b hb=>?_,q _ H1 P sm (Walk.toD h1 h2) h3 h4⟩;have e:b=s1.heap.objs.size:=by simpa using hb
     subst e;exact I1.fpOk (aah _) (I1.hok.fresh (aah _))
  |_=>cases e2)
def JW (lo:Int) (n:Nat):List D:=(aa6 n).map fun (i:Nat)=> .int (lo+(i:Int))
def K3 (lo:Int) (n:Nat):List V:=(aa6 n).map fun (i:Nat)=> .int (lo+(i:Int))
def kg {K:aaa} {A:Xx} {H:Hp} (lo:Int) (n:Nat):Reps K A H (K3 lo n) (JW lo n):=by
 unfold K3 JW;generalize aa6 n=l
 induction l with
 |nil=>exact .nil
 |cons c r ih=>exact .cons (.int _) ih
def Kq (lo:Int) (n:Nat):Walk (Itr lo n) (K3 lo n) (fun _=>True):=fun i H _=>by
 have hl:(K3 lo n).length=n:=by simp [K3]
 refine ⟨fun hi=>by rw [hl] at hi;exact hi,fun hi x H2 y=>?_,fun hi=>by rw [hl] at hi;exact hi⟩;obtain ⟨y1,y2⟩:=y;refine ⟨y1,?_⟩;subst y2;rw [hl] at hi;simp [K3,hi]
def rng1:List D->Res (List D)
 | [.int j]=>must (-(2^62)<=j/\j<2^62) (.ok (JW 0 j.toNat))
 |_=> .stuck
def Reps.one {K:aaa} {A:Xx} {H:Hp} {vs:List V} {d:D} (r:Reps K A H vs [d]): ∃v,vs=[v]/\Rep K A H v d:=by
 cases r with
 |cons h t=>cases t;exact ⟨_,rfl,h⟩
def Reps.two {K:aaa} {A:Xx} {H:Hp} {vs:List V} {d d':D} (r:Reps K A H vs [d,d']): ∃v v',vs=[v,v']/\Rep K A H v d/\Rep K A H v' d':=by
 cases r with
 |cons h t=>
  obtain ⟨v',rfl,h'⟩:=t.one;exact ⟨_,_,rfl,h,h'⟩
def PI.imp {t t':TI} (h:PI X tg e t) (w: ∀σ H Q,t' σ H Q->t σ H Q):PI X tg e t':=fun pins s σ H Q I q=>h pins s σ H Q I (w σ H Q q)
def rngF (fa:TH):Sl->Res (List D):=fun env=>fa env>>=rng1
def W0 {a:Expr} {p pos:Pos} {fa:TH} (hg:Gl X "range") (hm:X.mg "range" =none) (ha:DA X l [a] fa) (hs:aai [a] X.env=[(false,eval a X.env)]:=by rfl):DI X tg (.Call (.Name "range" p) [a] [] pos) (rngF fa):=by
 with_unfolding_all exact (
  PI.imp (Us hg hm ha hs) fun σ H R=>by
   rintro ⟨G,H0,env,ds,k,ef,q⟩;obtain ⟨as,e1,e2⟩:=jc ef;refine ⟨G,H0,env,as,k,e1,fun vs H1 s1 r1=>?_⟩;unfold rng1 at e2
   split at e2
   · obtain ⟨⟨h1,h2⟩,e3⟩:=jl e2;cases e3;obtain ⟨v,rfl,r⟩:=r1.one;cases r.intE;exact ⟨_,rfl,h1,h2,q _ H1 _ s1 (Walk.toD (kg 0 _) (Kq 0 _)) trivial fun _ _ _ _=>trivial⟩
   · cases e2)
def tG (K:aaa) (t:TD):TG:=fun v σ H Q=> ∃G H0 env d env',EnvOk K G H0 env σ H/\Rep K (Sf G env σ) H v d/\t d env= .ok env'/\ ∀σ',EnvOk K G H0 env' σ' H->Frm env σ H env' σ' H->Q σ' H
@[irreducible] def DG (X:Cx) (tg:Expr) (t:TD):Prop:=PG X tg (tG X.K t)
theorem PG.imp {t t':TG} (h:PG X tg t) (w: ∀v σ H Q,t' v σ H Q->t v σ H Q):PG X tg t':=fun pins s σ H v u Q I r q=>h pins s σ H v u Q I r (w v σ H Q q)
def gN (i:Nat):D->Sl->Res Sl:=fun d env=> .ok (env.set i (.shr d))
def ju (i:Nat) {x:Str} {pos:Pos} (hN:X.N.Nodup) (hi:X.N[i]?=some x:=by rfl) (hx:Loc X.env.scope x:=by first|exact abR rfl|exact abf rfl)
   (hf:VR X x:=by first|exact .inl rfl|exact .inr rfl|assumption):DG X (.Name x pos) (gN i):=by
 with_unfolding_all exact (
  PG.imp (XG hN hi hx hf) fun v σ H Q=>by
   rintro ⟨G,H0,env,d,env',k,r,e,q⟩;cases e
   exact q _ (k.setS r) (.set (Same.refl H) fun _ _ z _=>by cases z))
def g2 (t u:TD):D->Sl->Res Sl:=fun d env=>match d with
 | .tup [x,y]=>t x env>>=fun env'=>u y env'
 |_=> .stuck
def wJ {a b:Expr} {k:Nat} {pos:Pos} {t u:TD} (hc:X.calm=true) (h1:DG X a t) (h2:DG X b u)
   (hs:(abe [a,b] X.env).map (·.2)=aeJ a X.env::(abe [b] X.env).map (·.2):=by rfl) (hs2:(abe [b] X.env).map (·.2)=aeJ b X.env::(abe [] X.env).map (·.2):=by rfl)
   (hn:(abe [a,b] X.env).length=2:=by rfl) (hst:(abe [a,b] X.env).findIdx? (·.1)=none:=by rfl):DG X (.Tuple [a,b] k pos) (g2 t u):=by
 with_unfolding_all exact (
  PG.imp (jaB hc (Ja h1 (Ja h2 Ut hs2) hs) hn hst) fun v σ H Q=>by
   rintro ⟨G,H0,env,d,env',k,r,e,q⟩;unfold g2 at e
   split at e
   · obtain ⟨env1,e1,e2⟩:=jc e;obtain ⟨a,xs,rfl,ha,rs⟩:=r.tupE;obtain ⟨v1,v2,rfl,r1,r2⟩:=rs.two;refine ⟨a,_,rfl,.of ha,rfl,v1,[v2],rfl,G,H0,env,_,env1,k,r1,e1,fun σ1 k1 f1=>⟨v2,[],rfl,G,H0,env1,_,env',k1,f1.rep k r2,e2,fun σ2 k2 f2=>⟨rfl,q σ2 k2 (f1.trans f2)⟩⟩⟩
   · cases e)
def asgO (f:TL) (t:TD):Sl->Res Out:=fun env=>f env>>=fun d=>t d env>>=fun env'=> .ok (.nx env')
def QY {pos:Pos} {t:TD} (he:DE X .s e f) (hg:DG X tg t) (hs:swapsWithSole [tg] e pos.line X.env=pure false:=by rfl) (hw:swappedStores [tg] e X.env=pure none:=by rfl)
   (h1:(abe [tg] X.env).map (·.2)=[aeJ tg X.env]:=by rfl):DS X (.Assign [tg] e pos) (asgO f t):=by
 with_unfolding_all exact (
  PS.imp (Ul he hg hs hw h1) fun E σ H=>by
   rintro ⟨G,H0,env,o,k,ef,q⟩;obtain ⟨d,e1,e2⟩:=jc ef;obtain ⟨env',e3,e4⟩:=jc e2;cases e4
   exact ⟨G,H0,env,d,k,e1,fun v H' s r _=>⟨G,H0,env,d,env',k.grow s,r,e3,fun σ' k' f'=>q σ' H' k' (f'.grow s)⟩⟩)
def forD (body:D->Sl->Res Out):List D->Sl->Res Out
 | [],env=> .ok (.nx env)
 |d::ds,env=>body d env>>=fun o=>match o with
  | .nx env'=>forD body ds env'
  | .ct env'=>forD body ds env'
  | .bk env'=> .ok (.nx env')
  | .rt fr d=> .ok (.rt fr d)
def yW (t:TD) (g:TJ):D->Sl->Res Out:=fun d env=>t d env>>=g
def forO (f:TH) (t:TD) (g:TJ):Sl->Res Out:=fun env=>f env>>=fun ds=>forD (yW t g) ds env
def wI {pos:Pos} {body:List Stmt} {fi:TH} {t:TD} {g:TJ} (hp:PassesOwn (model X.prog X.w) X.A X.env X.xe) (hc:X.calm=true) (hi:DI X tg e fi) (hg:DG X tg t) (hb:DSs X body g)
   (hs: ∀x,acV e X.env x=pure x:=by intro _;rfl):DS X (.For tg e body [] pos) (forO fi t g):=by
 with_unfolding_all exact (
  PS.imp (jaA hp hc hi hg hb hs) fun E σ H=>by
   rintro ⟨G,H0,env,o,k,ef,q⟩;obtain ⟨ds,e1,e2⟩:=jc ef;refine ⟨G,H0,env,ds,k,e1,fun J H1 P sm wk p0 pst=>?_⟩;have k1:=k.grow sm;have q1:=yO (Frm.refl sm) q;refine ⟨fun i m σ' H'=>m=ds.length-i/\i<=ds.length/\ ∃env',EnvOk X.K G H0 env' σ' H'/\Frm env σ H1 env' σ' H'/\forD (yW t g) (ds.drop i) env'= .ok o,⟨ds.length,by simp,aa4 _,env,k1,Frm.refl (Same.refl H1),by simpa using e2⟩,?_⟩;rintro i m σ' H' ⟨rfl,hi,env',k',f',e'⟩;obtain ⟨w1,w2,w3⟩:=wk i H' (pst env' σ' H' f')
   by_cases hd:i<ds.length
   · refine .inr ⟨w1 hd,?_⟩;rw [ac7 hd] at e';obtain ⟨o1,e3,e4⟩:=jc e';obtain ⟨env1,e5,e6⟩:=jc e3;refine ⟨fun σ2 H2=>ds.length-(i+1)=ds.length-(i+1)/\i+1<=ds.length/\ ∃env2,EnvOk X.K G H0 env2 σ2 H2/\Frm env σ H1 env2 σ2 H2/\forD (yW t g) (ds.drop (i+1)) env2= .ok o,fun σ2 H2 z=>⟨ds.length-(i+1),by omega,z⟩,fun x H2 y=>?_⟩
     obtain ⟨sm2,rd⟩:Same H' H2/\Rep X.K (Sf G env' σ') H2 x ds[i]:=by
      rcases w2 _ (aac hd) x H2 y with ⟨rfl,rd⟩| ⟨p,vs,es,hp,rfl,rfl,ed,rds⟩
      · exact ⟨Same.refl _,f'.rep k1 rd⟩
      · refine ⟨Same.upd hp,?_⟩;rw [ed];exact .tup jj ((f'.reps k1 rds).grow (Same.upd hp))
     refine ⟨G,H0,env',ds[i],env1,k'.grow sm2,rd,e5,fun σ1 kk1 ff1=>⟨G,H0,env1,o1,kk1,e6,?_⟩⟩;have fr1:=(f'.trans (Frm.refl sm2)).trans ff1
     cases o1 with
     |nx env2=>exact fun σ2 H3 kk2 ff2=>⟨rfl,hd,env2,kk2,fr1.trans ff2,e4⟩
     |ct env2=>exact fun σ2 H3 kk2 ff2=>⟨rfl,hd,env2,kk2,fr1.trans ff2,e4⟩
     |bk env2=>cases e4;exact fun σ2 H3 kk2 ff2=>q1 σ2 H3 kk2 (fr1.trans ff2)
     |rt fr dd=>cases e4;exact q1
   · have he:i=ds.length:=by omega
     refine .inl ⟨w3 (by omega),?_⟩;rw [adH (by omega)] at e';cases e'
     exact q1 σ' H' k' f')
def Qw (n:Nat) (t:TK) (g:TJ):Sl->Res Out:=fun env=>match n with
 |0=> .stuck
 |n+1=>t env>>=fun b=>if b=true then g env>>=fun o=>match o with
   | .nx env'=>Qw n t g env'
   | .ct env'=>Qw n t g env'
   | .bk env'=> .ok (.nx env')
   | .rt fr d=> .ok (.rt fr d)
  else .ok (.nx env)
def jac (n:Nat) {pos:Pos} {c:Expr} {body:List Stmt} {t:TK} {g:TJ} (hp:PassesOwn (model X.prog X.w) X.A X.env X.xe) (hc:DT X c t) (hb:DSs X body g):DS X (.While c body [] pos) (Qw n t g):=by
 with_unfolding_all exact (
  PS.imp (ud hp hc hb) fun E σ H=>by
   rintro ⟨G,H0,env,o,k,ef,q⟩;refine ⟨fun m σ' H'=> ∃env',EnvOk X.K G H0 env' σ' H'/\Frm env σ H env' σ' H'/\Qw m t g env'= .ok o,⟨n,env,k,Frm.refl (Same.refl H),ef⟩,?_⟩;rintro m σ' H' ⟨env',k',f',e'⟩
   cases m with
   |zero=>cases e'
   |succ m=>
    obtain ⟨b,e1,e2⟩:=jc e';refine ⟨G,H0,env',b,k',e1,fun H1 s1=>?_⟩
    cases b with
    |false=>
     rw [if_neg aaC] at e2 ⊢;cases e2;exact q σ' H1 (k'.grow s1) (f'.trans (Frm.refl s1))
    |true=>
     rw [if_pos rfl] at e2 ⊢;obtain ⟨o1,e3,e4⟩:=jc e2;refine ⟨fun σ2 H2=> ∃env2,EnvOk X.K G H0 env2 σ2 H2/\Frm env σ H env2 σ2 H2/\Qw m t g env2= .ok o,fun σ2 H2 z=>⟨m,acw m,z⟩,G,H0,env',o1,k'.grow s1,e3,?_⟩;have fr1:=f'.trans (Frm.refl s1)
     cases o1 with
     |nx env2=>exact fun σ2 H3 kk2 ff2=>⟨env2,kk2,fr1.trans ff2,e4⟩
     |ct env2=>exact fun σ2 H3 kk2 ff2=>⟨env2,kk2,fr1.trans ff2,e4⟩
     |bk env2=>cases e4;exact fun σ2 H3 kk2 ff2=>q σ2 H3 kk2 (fr1.trans ff2)
     |rt fr dd=>cases e4;exact q)
end
def frz (i:Nat) (env:Sl):Sl:=match env[i]? with
 |some (.own d)=>env.set i (.shr d)
 |_=>env
def Wt {i:Nat} {env:Sl} {σ:L2.St} {a:Addr} (h:jL (frz i env) σ a):jL env σ a:=by
 unfold frz at h
 split at h
 · rename_i d hd;obtain ⟨j,e,h1,h2⟩:=h
   by_cases z:i=j
   · subst z;obtain ⟨q,_⟩:=jo h1;cases q
   · rw [jm z] at h1;exact ⟨j,e,h1,h2⟩
 · exact h
def EnvOk.frz {K : aaa} {G : Addr -> Prop} {H0 H : Hp} {env : Sl} {σ : L2.St} (i : Nat) (k : EnvOk K G H0 env σ H) : EnvOk K G H0 (frz i env) σ H := by
  have w : ∀ a, Sf G env σ a -> Sf G (M.frz i env) σ a := fun a n => ⟨fun o => n.1 (Wt o), n.2⟩
  cases hi : env[i]? with
  | none => have e : M.frz i env = env := by unfold M.frz; rw [hi]
            rw [e]; exact k
  | some s =>
    cases s with
    | un => have e : M.frz i env = env := by unfold M.frz; rw [hi]
            rw [e]; exact k
    | shr d => have e : M.frz i env = env := by unfold M.frz; rw [hi]
               rw [e]; exact k
    | own d =>
      have e : M.frz i env = env.set i (.shr d) := by unfold M.frz; rw [hi]
      obtain ⟨a, h1, h0, h2⟩ := k.own i d hi
      have na : NotO (M.frz i env) σ a := by
        rintro ⟨j, d', q1, q2⟩
        rw [e] at q1
        by_cases z : i = j
        · subst z
          obtain ⟨q, _⟩ := jo q1
          cases q
        · rw [jm z] at q1
          exact z (k.dis i j d d' a hi q1 h1 q2)
      rw [e] at w na ⊢
      refine ⟨by simp [k.len], k.base, k.g0, fun j d' h => ?_, fun j d' h => ?_, fun j j' d1 d2 b q1 q2 q3 q4 => ?_⟩
      · by_cases z : i = j
        · subst z
          obtain ⟨q, hl⟩ := jo h
          cases q
          exact ⟨_, h1, h2.rep (fun c z => ⟨w c z, Wu k hi h1 c z⟩) ⟨na, k.g0 a h0⟩⟩
        · rw [jm z] at h
          obtain ⟨v', g1, g2⟩ := k.shr j d' h
          exact ⟨v', g1, g2.weak w⟩
      · by_cases z : i = j
        · subst z
          obtain ⟨q, hl⟩ := jo h
          cases q
        · rw [jm z] at h
          obtain ⟨v', g1, g0, g2⟩ := k.own j d' h
          exact ⟨v', g1, g0, g2.stay (fun _ _ e _ => e) w fun _ e => e⟩
      · have n1 : i ≠ j := fun z => by subst z; obtain ⟨q, _⟩ := jo q1; cases q
        have n2 : i ≠ j' := fun z => by subst z; obtain ⟨q, _⟩ := jo q2; cases q
        rw [jm n1] at q1
        rw [jm n2] at q2
        exact k.dis j j' d1 d2 b q1 q2 q3 q4
def frzO (i:Nat) (g:TJ):Sl->Res Out:=fun env=>g (frz i env)
def QX (i:Nat) {X:Cx} {st:Stmt} {g:TJ} (h:DS X st g):DS X st (frzO i g):=by
 with_unfolding_all exact (PS.imp h fun E σ H=>by
  rintro ⟨G,H0,env,o,k,ef,q⟩;refine ⟨G,H0,frz i env,o,k.frz i,ef,?_⟩;have f:Frm env σ H (frz i env) σ H:=⟨fun _ _ e _=>e,fun b o=> .inl (Wt o),fun _ e=>e⟩
  exact yO f q)
end M
namespace PySem.AutoSeq1
open PySem Builtin
def list_extend_tupleG (l:Addr) (items:Array Value) (n:Nat) (b:Addr) (items2:Array Value) (n2:Nat) (dd:Option Addr) (sl:Array (Option Value)) (hs0: ¬(!items.isEmpty&&abQ (items.size+items2.size))=true) (hs1:items.size<=aaj) (hs2:items.size+items2.size<=aaj+1):
  Meets (adf.«list.extend» ⟨[.ref l,.ref b],[]⟩) (fun _ R s=>s.heap.get? l=some {cls:= .type "list",dict:=none,data:= .seq items n,slots:= #[]}/\s.heap.get? b=some {cls:= .type "tuple",dict:=dd,data:= .seq items2 n2,slots:=sl}/\R (.ok (.ret ab5)) {s with heap:=s.heap.update l (acA fun x=>x++items2),toks:=s.toks}):=
 .of_wp fun prog w A R s h=>by
  obtain ⟨hp,g,d,tk,os⟩:=s;obtain ⟨hl,hb,h⟩:=h;have f1:=idx_int;have f2:=sub_tuple_tuple;have f3:=sub_list_list;have f4:=sub_tuple_list;have f5:=sub_list_tuple;
  have hz':(items++items2).size<=aaj+1:=by rw [Array.size_append];exact hs2
  wp_walk using (wpAny_updateSeq hl rfl),wpAny_loadPart' hl,wpAny_loadPart' hb;exact ⟨_,rfl,h⟩
end PySem.AutoSeq1
namespace M
open PySem PySem.Spec L2
open PyProof.Rows hiding St
section
variable {X:Cx}
def vZ:V->List V->Hp->VK->Prop:=fun x vs H Q=> ∃l b xs zs,x= .ref l/\vs=[.ref b]/\H l=some (.lst xs)/\H b=some (.tup zs)/\xs.length+zs.length<=aaj/\Q .non (upd H l (.lst (xs++zs)))
def KS:MtM X "list.extend" vZ:=by
 intro pins s σ H x vs v us Q I rx rv h;obtain ⟨l,b,xs,zs,rfl,rfl,hH,hB,hz,q⟩:=h;cases rx;obtain ⟨u,rfl,ru⟩:=rv.one;cases ru;obtain ⟨z,its,n,r,hl,e⟩:=I.lstM hH;obtain ⟨its2,r2,⟨ob,e2,hc,n2,hd⟩,z2⟩:=I.tuple (.of hB);have hl2:=r2.length;obtain ⟨c2,dd2,dt2,sl2⟩:=ob;have hc':=hc;have hd':=hd;subst hc' hd';have hsz:its.toArray.size+its2.toArray.size<=aaj:=by rw [aag,aag];omega
 have hlong: ¬(!its.toArray.isEmpty&&abQ (its.toArray.size+its2.toArray.size))=true:=by
  rw [YG hsz,ac6];exact aaC
 refine call_meets ad3 ⟨_,e,rfl⟩ F.entry_list_extend (F.args_list_extend_2 _ _)
  (AutoSeq1.list_extend_tupleG l its.toArray n b its2.toArray n2 dd2 sl2 hlong (by rw [aag];omega) (by omega)) ⟨e,e2,?_⟩
 refine ⟨.non,_,I.lset hH e (by simp) (r.append r2) ?_,rfl,q⟩;rw [aaB];omega
def yq {env:Sl} {σ:L2.St} {i:Nat} {d d':D} {a:Addr} (hi:env[i]?=some (.own d)):jL (env.set i (.own d')) σ a↔jL env σ a:=by
 have hl:=(aam.mp hi).1
 constructor
 · rintro ⟨j,e,h1,h2⟩
   by_cases z:i=j
   · subst z;exact ⟨i,d,hi,h2⟩
   · rw [jm z] at h1;exact ⟨j,e,h1,h2⟩
 · rintro ⟨j,e,h1,h2⟩
   by_cases z:i=j
   · subst z;exact ⟨i,d',aaR hl,h2⟩
   · exact ⟨j,e,by rw [jm z];exact h1,h2⟩
def EnvOk.writeG {K:aaa} {G:Xx} {H0 H:Hp} {env:Sl} {σ:L2.St} {i:Nat} {d0 d':D} {a:Addr} {o0 o':HO} (k:EnvOk K G H0 env σ H) (hi:env[i]?=some (.own d0)) (ha:σ[i]?=some (some (.ref a))) (hx:H a=some o0) (hm:Mut (some o0))
   (top: ∀(A':Xx) (H':Hp),Stay (Sf G env σ) H H'->H' a=some o'->(∀b,Sf G env σ b->A' b)->Top K A' H' a d'):EnvOk K G H0 (env.set i (.own d')) σ (upd H a o')/\Frm env σ H (env.set i (.own d')) σ (upd H a o'):=by
 have hl:=(aam.mp hi).1;have ow:jL env σ a:=⟨i,_,hi,ha⟩
 have st:Stay (Sf G env σ) H (upd H a o'):=fun c o e m=>by
   rw [jp ?_]
   · exact e
   · rintro rfl;rw [hx] at e;cases e;exact (m hm).1 ow
 have w: ∀c,Sf G env σ c->Sf G (env.set i (.own d')) σ c:=fun c n=>⟨fun o=>n.1 ((yq hi).mp o),n.2⟩
 refine ⟨⟨by simp [k.len],fun c o e=>?_,k.g0,fun j d1 h=>?_,fun j d1 h=>?_,fun j j' d1 d2 b q1 q2 q3 q4=>?_⟩,⟨fun c o e n=>?_,fun c o=> .inl ((yq hi).mp o),fun c e=>?_⟩⟩
 · have hc:c≠a:=by
     rintro rfl;obtain ⟨b,h1,h0,_⟩:=k.own i _ hi;rw [ha] at h1;cases h1;rw [h0] at e;cases e
   rw [jp hc];exact k.base c o e
 · by_cases z:i=j
   · subst z;obtain ⟨q,_⟩:=jo h;cases q
   · rw [jm z] at h;obtain ⟨v,h1,h2⟩:=k.shr j d1 h;exact ⟨v,h1,h2.stay st w⟩
 · by_cases z:i=j
   · subst z;obtain ⟨q,_⟩:=jo h;cases q;obtain ⟨b,h1,h0,_⟩:=k.own i _ hi;rw [ha] at h1;cases h1;exact ⟨a,ha,h0,top _ _ st jj w⟩
   · rw [jm z] at h;obtain ⟨b,h1,h0,h2⟩:=k.own j d1 h
     have hb:b≠a:=by
       rintro rfl;exact z (k.dis i j _ _ b hi h ha h1)
     exact ⟨b,h1,h0,h2.stay st w fun o e=>by rw [jp hb];exact e⟩
 · have real: ∀(j:Nat) (d1:D),(env.set i (.own d'))[j]?=some (.own d1)-> ∃d0:D,env[j]?=some (.own d0):=fun j d1 q=>by
     by_cases z:i=j
     · subst z;exact ⟨_,hi⟩
     · rw [jm z] at q;exact ⟨_,q⟩
   obtain ⟨e1,z1⟩:=real j d1 q1;obtain ⟨e2,z2⟩:=real j' d2 q2;exact k.dis j j' e1 e2 b z1 z2 q3 q4
 · have hc:c≠a:=by
     rintro rfl;exact n ow
   rw [jp hc];exact e
 · by_cases hc:c=a
   · subst hc;rw [jj] at e;cases e
   · rw [jp hc] at e;exact e
def EnvOk.write {K:aaa} {G:Xx} {H0 H:Hp} {env:Sl} {σ:L2.St} {i:Nat} {ds ds':List D} {a:Addr} {xs xs':List V} (k:EnvOk K G H0 env σ H) (hi:env[i]?=some (.own (.lst ds))) (ha:σ[i]?=some (some (.ref a))) (hx:H a=some (.lst xs))
  (r:Reps K (Sf G env σ) H xs' ds'):EnvOk K G H0 (env.set i (.own (.lst ds'))) σ (upd H a (.lst xs'))/\Frm env σ H (env.set i (.own (.lst ds'))) σ (upd H a (.lst xs')):=
 k.writeG hi ha hx trivial fun A' H' st e w=> .lst e (r.stay st w)
def wl {K:aaa} {G:Xx} {H0 H:Hp} {env:Sl} {σ:L2.St} {i:Nat} {ds:List D} (k:EnvOk K G H0 env σ H) (hi:env[i]?=some (.own (.lst ds))): ∃a xs,σ[i]?=some (some (.ref a))/\H a=some (.lst xs)/\Reps K (Sf G env σ) H xs ds:=by
 obtain ⟨a,h1,h0,h2⟩:=k.own i _ hi
 cases h2 with
 |lst e r=>exact ⟨a,_,h1,e,r⟩
variable {e:Expr} {f:TL} {l:Lv} {pos cpos apos p:Pos} {x:Str}
def ownL (i:Nat) (env:Sl):Res (List D):=match env[i]? with
 |some (.own (.lst ds))=> .ok ds
 |_=> .stuck
def wS {i:Nat} {env:Sl} {ds:List D} (h:ownL i env= .ok ds):env[i]?=some (.own (.lst ds)):=by
 unfold ownL at h
 split at h
 · cases h;assumption
 · cases h
def zO (i:Nat) (f:TL):Sl->Res Out:=fun env=>ownL i env>>=fun ds=>f env>>=fun d=>must (ds.length<aaj) (.ok (.nx (env.set i (.own (.lst (ds++[d]))))))
def J8 (i:Nat) (he:DE X .s e f) (hN:X.N[i]?=some x:=by rfl) (hv:Vis X.env.scope x:=by first|exact abR rfl|exact abf (abR rfl)|exact abf (abf rfl))
   (hd:Yx x:=by decide) (hcd:Yw x:=by decide)
   (hbase:abV (.Name x p) "append" X.env (eval (.Name x p) X.env)=eval (.Name x p) X.env:=by rfl)
   (hfew:((abn cpos (aai [e] X.env)).all (fun x=>!x.1)&&(adc cpos (abT [] X.env)).all (fun x=>x.1.isSome)
    &&decide ([e].length+([]:List adg).length+(if ([]:List adg).isEmpty then 0 else 1)<30))=true:=by exact x0 rfl rfl)
   (hline:(apos.endLine==cpos.line)=true:=by rfl) (hs:aai [e] X.env=(false,eval e X.env)::aai [] X.env:=by exact ji rfl) (hplain:(abn cpos (aai [] X.env)).any (·.1)=false:=by exact jx rfl)
   (hsw:aca (.Call (.Attribute (.Name x p) "append" apos) [e] [] cpos) none pos.line X.env=pure false:=by rfl):
   DS X (.Expr (.Call (.Attribute (.Name x p) "append" apos) [e] [] cpos) pos) (zO i f):=by
 with_unfolding_all exact (
  PS.imp (Jx (um acu adG PySem.F.type_list_append JM (zZ hN hv hd hcd) (jM he qS hs) hbase hfew hline hs hplain) hsw) fun E σ H=>by
   rintro ⟨G,H0,env,o,k,ef,q⟩;obtain ⟨ds,e1,e2⟩:=jc ef;obtain ⟨d,e3,e4⟩:=jc e2;obtain ⟨hz,e5⟩:=jl e4;cases e5;have hi:=wS e1;obtain ⟨a,xs,ha,hx,rs⟩:=wl k hi;refine ⟨.ref a,ha,.inl ⟨rfl,xs,.of hx⟩,G,H0,env,d,k,e3,fun v H1 s1 r1 _=>?_⟩;have hx1:=s1 _ _ hx;refine ⟨a,xs,v,rfl,rfl,hx1,by rw [rs.length];exact hz,?_⟩;have W:=(k.grow s1).write hi ha hx1 ((rs.grow s1).append (.cons r1 .nil))
   exact q σ _ W.1 (W.2.grow s1))
def X7 (i:Nat) (f:TL):Sl->Res Out:=fun env=>ownL i env>>=fun ds=>f env>>=fun d=>match d with
 | .lst es=>must (ds.length+es.length<=aaj) (.ok (.nx (env.set i (.own (.lst (ds++es))))))
 | .tup es=>must (ds.length+es.length<=aaj) (.ok (.nx (env.set i (.own (.lst (ds++es))))))
 |_=> .stuck
def WX (i:Nat) (he:DE X .s e f) (hN:X.N[i]?=some x:=by rfl) (hv:Vis X.env.scope x:=by first|exact abR rfl|exact abf (abR rfl)|exact abf (abf rfl))
   (hd:Yx x:=by decide) (hcd:Yw x:=by decide)
   (hbase:abV (.Name x p) "extend" X.env (eval (.Name x p) X.env)=eval (.Name x p) X.env:=by rfl)
   (hfew:((abn cpos (aai [e] X.env)).all (fun x=>!x.1)&&(adc cpos (abT [] X.env)).all (fun x=>x.1.isSome)
    &&decide ([e].length+([]:List adg).length+(if ([]:List adg).isEmpty then 0 else 1)<30))=true:=by exact x0 rfl rfl)
   (hline:(apos.endLine==cpos.line)=true:=by rfl) (hs:aai [e] X.env=(false,eval e X.env)::aai [] X.env:=by exact ji rfl) (hplain:(abn cpos (aai [] X.env)).any (·.1)=false:=by exact jx rfl)
   (hsw:aca (.Call (.Attribute (.Name x p) "extend" apos) [e] [] cpos) none pos.line X.env=pure false:=by rfl):
   DS X (.Expr (.Call (.Attribute (.Name x p) "extend" apos) [e] [] cpos) pos) (X7 i f):=by
 with_unfolding_all exact (
  PS.imp (Jx (um acu ad3 PySem.F.type_list_extend (MtR.or UO KS) (zZ hN hv hd hcd) (jM he qS hs) hbase hfew hline hs hplain) hsw) fun E σ H=>by
   rintro ⟨G,H0,env,o,k,ef,q⟩;obtain ⟨ds,e1,e2⟩:=jc ef;obtain ⟨d,e3,e4⟩:=jc e2;have hi:=wS e1;obtain ⟨a,xs,ha,hx,rs⟩:=wl k hi;refine ⟨.ref a,ha,.inl ⟨rfl,xs,.of hx⟩,G,H0,env,d,k,e3,fun v H1 s1 r1 _=>?_⟩;have hx1:=s1 _ _ hx
   cases d with
   |lst es=>
    obtain ⟨hz,e5⟩:=jl e4;cases e5;obtain ⟨b,ys,rfl,hb,_,ry⟩:=r1.lstE;have ry':=ry.low;refine .inl ⟨a,b,xs,ys,rfl,rfl,hx1,hb,by rw [rs.length,ry.length];exact hz,?_⟩;have W:=(k.grow s1).write hi ha hx1 ((rs.grow s1).append ry');exact q σ _ W.1 (W.2.grow s1)
   |tup es=>
    obtain ⟨hz,e5⟩:=jl e4;cases e5;obtain ⟨b,ys,rfl,hb,ry⟩:=r1.tupE;have ry':=ry;refine .inr ⟨a,b,xs,ys,rfl,rfl,hx1,hb,by rw [rs.length,ry.length];exact hz,?_⟩;have W:=(k.grow s1).write hi ha hx1 ((rs.grow s1).append ry');exact q σ _ W.1 (W.2.grow s1)
   |_=>cases e4)
end
def W2 {prog:aaA} {w:World} {A:aaU} {R:Result->aaf->Prop} {s:aaf} {elt target iter:Expr} {ifs:List Expr} {scope:Scope} {pos:Pos} {it acc:Value} {env:Env} (I:Nat->aaf->Prop)
  (turn: ∀n s,I n s->wpAny (model prog w) A (pyNext it) (fun r s₁=>match r with
   |none=>R (.ok .next) s₁
   |some v=>wpAny (model prog w) A (ad8 target it v) (fun _ s₁'=>wpAny (model prog w) A (aeJ target env v) (fun _ s₂=>
    wpAny (model prog w) A (forIn ifs true fun c r=>if r=true then do let ok←isTrue c env (eval c env);pure (aco ok) else pure (aco r)) (fun ok s₃=>
     if ok=true then wpAny (model prog w) A (eval elt env) (fun x s₄=>
      wpAny (model prog w) A (call (.builtin "list.append") [acc,x]) (fun _ s₅=> ∃m,m<n/\I m s₅) (fun _ _=>False) s₄) (fun _ _=>False) s₃
     else∃m,m<n/\I m s₃) (fun _ _=>False) s₂) (fun _ _=>False) s₁') (fun _ _=>False) s₁) (fun _ _=>False) s)
  (n:Nat) (h:I n s):adw (model prog w) A (.compLoop (.ListComp elt [⟨target,iter,ifs,0⟩] scope pos) 0 it acc env) R s:=by
 refine codeAny_loop rfl I (fun n s hI=>?_) n h;refine wpAny_noted ?_;rw [compTurn_list];refine aab (wpAny_standAt (aab (abX (turn n s hI) (fun r s₁ h₁=>?_) fun _ _ h'=>h'.elim)))
 cases r with
 |none=>exact aad h₁
 |some v=>
  refine aab (abX h₁ (fun _ s₁' h₁'=>?_) fun _ _ h'=>h'.elim);refine aab (abX h₁' (fun _ s₂ h₂=>aab (abX h₂ (fun ok s₃ h₃=>?_) fun _ _ h'=>h'.elim)) fun _ _ h'=>h'.elim)
  cases ok with
  |false=>exact aad ⟨rfl,h₃⟩
  |true=>
   exact aab (aab (abX h₃ (fun x s₄ h₄=>aab (abX h₄ (fun _ s₅ h₅=>aad (aad ⟨rfl,h₅⟩)) fun _ _ h'=>h'.elim)) fun _ _ h'=>h'.elim))
def vn (X:Cx) (N:List Str) (scope:Scope) (cl:List (Str×Addr)) (C:Addr) (s:aaf) (H:Hp) (fp:List Addr):Cx where
 prog:=X.prog
 w:=X.w
 K:=X.K
 mg:=X.mg
 base:=X.base
 A:=X.A
 N:=N
 s₀:=s
 H₀:=H
 env:=compEnvC scope cl C X.env
 outer:=X.stack
 stack:=X.stack
 ex:=fp
 fn:=fun _=>false
 calm:=true
 pn:=[]
 xe:=fun _ _=>False
@[irreducible] def DTs (X:Cx) (ifs:List Expr) (c:TK):Prop:=
 ∀(pins:List (Addr×Obj)) (s:aaf) (σ:L2.St) (H:Hp) (Q:Bool->Hp->Prop),Inv X pins σ H s->tT X.K c σ H Q->
  wpAny (model X.prog X.w) X.A (forIn ifs true fun c r=>if r=true then do let ok←isTrue c X.env (eval c X.env);pure (aco ok) else pure (aco r)) (TP X pins σ Q) X.xe s
def zc:Sl->Res Bool:=fun _=> .ok true
def xG {X:Cx}:DTs X [] zc:=by
 with_unfolding_all exact (fun pins s σ H Q I ⟨G,H0,env,b,k,ef,q⟩=>by
  cases ef
  exact wpAny_tests_nil ⟨H,I,q H (Same.refl H)⟩)
def wt (n:Nat) (t:TD) (c:TK) (fe:TL):List D->Sl->Res Sl
 | [],env=> .ok env
 |d::ds,env=>t d env>>=fun env1=>c env1>>=fun b=>if b=true
  then fe env1>>=fun v=>ownL n env1>>=fun acc=>must (acc.length<aaj) (wt n t c fe ds (env1.set n (.own (.lst (acc++[v])))))
  else wt n t c fe ds env1
def capS (im:Bool) (env:Sl) (j:Nat):Slot:=match env[j]? with
 |some (.shr d)=> .shr d
 |some (.own d)=>if im=true then .shr d else .un
 |_=> .un
def x8 (im:Bool) (m:Nat) (js:List Nat) (env:Sl):Sl:=adP m .un++js.map (capS im env)++[.own (.lst [])]
def xJ (im:Bool) (m:Nat) (js:List Nat) (fi:TH) (t:TD) (c:TK) (fe:TL):Sl->Res D:=fun env=>
 fi env>>=fun ds=>wt (m+js.length) t c fe ds (x8 im m js env)>>=fun env'=>ownL (m+js.length) env'>>=fun acc=>must (im=true->D.imms acc=true) (.ok (.lst acc))
def wf (m:Nat) (js:List Nat) (σ:L2.St) (a:Addr):L2.St:=adP m none++js.map (fun j=>(σ[j]?).join)++[some (.ref a)]
theorem zh {env:Env}: ∀ {names:List (Str×NameKind)} {x:Str} {k:NameKind},
  (names.map fun (n,k)=>if (k==acY&&env.scope.kind== .function&&env.kindOf n==some .cell) then (n,acZ) else (n,k)).lookup x=some k-> ∃k',(x,k')∈names/\(k=k'\/k'= .free)
 | [],_,_,h=>by simp at h
 | (n,k')::r,x,k,h=>by
  have h':aby x ((if (k'==acY&&env.scope.kind== .function&&env.kindOf n==some .cell)=true then (n,acZ) else (n,k'))::(r.map fun (n,k)=>if (k==acY&&env.scope.kind== .function&&env.kindOf n==some .cell) then (n,acZ) else (n,k)))=some k:=h
  by_cases hc:(k'==acY&&env.scope.kind== .function&&env.kindOf n==some .cell)=true
  · rw [if_pos hc] at h';simp only [abl] at h'
    cases hx:x==n with
    |true=>
     rw [hx] at h';have e:x=n:=by simpa using hx
     subst e;refine ⟨k',aay,.inr ?_⟩;simp at hc;exact hc.1.1
    |false=>
     rw [hx] at h';obtain ⟨k2,h1,h2⟩:=zh h';exact ⟨k2,aat _ h1,h2⟩
  · rw [if_neg hc] at h';simp only [abl] at h'
    cases hx:x==n with
    |true=>
     rw [hx] at h';have e:x=n:=by simpa using hx
     subst e;cases h';exact ⟨_,aay,.inl rfl⟩
    |false=>
     rw [hx] at h';obtain ⟨k2,h1,h2⟩:=zh h';exact ⟨k2,aat _ h1,h2⟩
def clZ (z:Option Str) (cl:List (Str×Addr)) (C:Addr):List (Str×Addr):=match z with
 |none=>cl
 |some y=>(y,C+1)::cl
def jbn (z:Option Str) (h:Heap):Heap:=match z with
 |none=>h
 |some _=>h.push {cls:= .type "cell",data:= .cell none}
abbrev qk (z:Option Str) (X:Cx) (N:List Str) (scope:Scope) (cl:List (Str×Addr)) (C:Addr) (s:aaf) (H:Hp) (fp:List Addr):Cx:={vn X N scope (clZ z cl C) C s H fp with fn:=fun x=>some x==z}
def lk1 {cl:List (Str×Addr)} {z:Option Str} {x:Str} {c C:Addr} (h:aby x (clZ z cl C)=some c):(z=some x/\c=C+1)\/(z≠some x/\cl.lookup x=some c):=by
 cases z with
 |none=>exact .inr ⟨nofun,h⟩
 |some z=>
  have h:aby x ((z,C+1)::cl)=some c:=h;rw [abl] at h
  cases e:x==z with
  |true=>rw [e] at h;cases h;exact .inl ⟨by rw [show x=z by simpa using e],rfl⟩
  |false=>rw [e] at h;exact .inr ⟨fun q=>by simp at e;exact e (aaD q).symm,h⟩
def lk2 {cl:List (Str×Addr)} {z:Option Str} {x:Str} {c C:Addr} (hn:z≠some x) (h:cl.lookup x=some c):aby x (clZ z cl C)=some c:=by
 cases z with
 |none=>exact h
 |some z=>
  show aby x ((z,C+1)::cl)=some c;rw [abl,show (x==z)=false by simpa using fun q=>hn (by rw [q])];exact h
def KR {M:Model} {A:aaU} {E:Xw} {s:aaf} {scope:Scope} {globals:Addr} {cl:List (Str×Addr)} {qual:Str} {func:Option Addr} {code:Value} {around:Env} {builtins:Addr} {z:Option Str} {Q:Env->aaf->Prop}
  (made: ∀n,cellsFrom (n+1) scope.names cl=clZ z cl n) (pushed: ∀h,pushCells h scope.names=jbn z h)
  (hQ: ∀h',h'.Ns s.heap.objs.size (fun _=>none)->(∀b o,s.heap.get? b=some o->h'.get? b=some o)->(∀y,z=some y->h'.IsCell (s.heap.objs.size+1) none)->Q (newEnv scope s.heap.objs.size globals (clZ z cl s.heap.objs.size) qual func code (some around) builtins) {s with heap:=h'}):
  wpAny M A (newFunctionEnv scope globals cl [] qual func code (some around) builtins) Q E s:=by
 simp only [newFunctionEnv,Option.isSome_some,if_true];refine aab (wpAny_alloc ?_);refine aab (wpAny_layCells _ (fun name kind cells=>by cases hkc:kind==acZ<;>simp [hkc]) _ _ _ _ ?_);have hz:(s.heap.push {cls:= .type "dict",data:= .dict #[]}).objs.size=s.heap.objs.size+1:=adO ..;have hc:=made s.heap.objs.size;rw [←hz] at hc;rw [hc,pushed];simp;refine aad ?_;have ns:=Heap.Ns.new s.heap (.type "dict")
 cases z with
 |none=>exact hQ _ ns (fun b o e=>aae _ e) nofun
 |some z=>
  refine hQ ((s.heap.push {cls:= .type "dict",data:= .dict #[]}).push {cls:= .type "cell",data:= .cell none}) (ns.keeps fun b o e=>aae _ e) (fun b o e=>aae _ (aae _ e)) fun _ _=>⟨_,by rw [←hz];exact aap _ rfl,rfl⟩
structure CompSc (z:Option Str) (X:Cx) (scope:Scope) (cl:List (Str×Addr)) (N:List Str) (m:Nat) (js:List Nat):Prop where
 clos:closureFor scope X.env=pure cl
 kind:scope.kind= .function
 names: ∀x∈scope.names,x.2= .local->scope.names.lookup x.1=some .local
 nocell: ∀y∈scope.names,y.2= .cell->z=some y.1
 made: ∀n,cellsFrom (n+1) scope.names cl=clZ z cl n
 pushed: ∀h,pushCells h scope.names=jbn z h
 zk: ∀y,z=some y->scope.names.lookup y=some .cell
 cls: ∀x c,cl.lookup x=some c->X.env.cells.lookup x=some c
 free: ∀y∈scope.names,y.2= .free-> ∃c,cl.lookup y.1=some c
 nd:N.Nodup
 len:N.length=m+js.length+1
 cap: ∀(k j:Nat),js[k]?=some j-> ∃y,N[m+k]?=some y/\X.N[j]?=some y/\(X.env.scope.names.lookup y=some .cell\/X.env.scope.names.lookup y=some .free)/\scope.names.lookup y=some .free
 last: ∀y,N[m+js.length]?=some y-> ∀p∈scope.names,p.1≠y
section
variable {X:Cx} {tg iter elt:Expr} {ifs:List Expr} {scope:Scope} {cl:List (Str×Addr)} {N:List Str} {m:Nat} {js:List Nat} {pos:Pos} {im:Bool} {z:Option Str}
 {fi:TH} {t:TD} {c:TK} {fe:TL}
def jcq {pins:List (Addr×Obj)} {σ:L2.St} {H:Hp} {s:aaf} {C:Addr} {fp:List Addr} (S:CompSc z X scope cl N m js) (hc:X.calm=true) (I:Inv X pins σ H s) (hC:s.heap.objs.size<=C) (hf: ∀b∈fp,FpOk X pins H b) (hfp: ∀b∈fp,b<s.heap.objs.size):
  (qk z X N scope cl C s H fp).Ok where
 mod:=I.ok.mod
 kind:=S.kind
 glob:=I.ok.glob
 blt:=I.ok.blt
 above:=hC
 inj:=fun x y c h1 h2=>by
  have no: ∀u,X.env.cells.lookup u=some (C+1)->False:=fun u e=>by
    obtain ⟨v,o,ho,_⟩:=I.cell u _ e;exact absurd (aao ho) (Nat.not_lt_of_le (aaN hC (acN _)))
  rcases lk1 h1 with ⟨ex,ec⟩| ⟨_,g1⟩
  · rcases lk1 h2 with ⟨ey,_⟩| ⟨_,g2⟩
    · rw [ex] at ey;exact aaD ey
    · rw [ec] at g2;exact (no _ (S.cls _ _ g2)).elim
  · rcases lk1 h2 with ⟨ey,ec⟩| ⟨_,g2⟩
    · rw [ec] at g1;exact (no _ (S.cls _ _ g1)).elim
    · exact I.ok.inj x y c (S.cls x c g1) (S.cls y c g2)
 has:=fun x h=>by
  have mem:z=some x\/ ∃k',(x,k')∈scope.names/\k'= .free:=by
    rcases h with h|h<;>obtain ⟨k',h1,h2⟩:=zh h
    · rcases h2 with z|z
      · exact .inl (S.nocell _ h1 z.symm)
      · exact .inr ⟨k',h1,z⟩
    · rcases h2 with z|z
      · exact .inr ⟨k',h1,z.symm⟩
      · exact .inr ⟨k',h1,z⟩
  by_cases hxz:z=some x
  · subst hxz;exact ⟨C+1,by show aby x ((x,C+1)::cl)=_;simp [abl]⟩
  · obtain ⟨k',h1,h2⟩:=mem.resolve_left hxz;obtain ⟨c,hc⟩:=S.free _ h1 h2;exact ⟨c,lk2 hxz hc⟩
 cab:=fun x c h h2=>by
  have e:some x=z:=by simpa using h
  rcases lk1 h2 with ⟨_,rfl⟩| ⟨n,_⟩
  · exact aaN hC (acN _)
  · exact (n e.symm).elim
 hd:=fun _=>I.ok.hd hc
 frames:=I.ok.frames
 stk:= .inl rfl
 exf:=fun b hb=>⟨fun z=>absurd (aaw (hfp b hb) (by rw [z];exact hC)) (abI _),fun x c h=>by
  rcases lk1 h with ⟨_,rfl⟩| ⟨_,h⟩
  · exact fun e=>absurd (hfp b hb) (Nat.not_lt_of_le (by rw [←e];exact aaN hC (acN _)))
  · exact (hf b hb).2.2.2.2.1 x c (S.cls x c h)⟩
 bs:=I.bs
 bsz:=aaN I.ok.bsz I.sz
 noex:=fun b o e hb=>by
  rcases (hf b hb).2.2.2.1 with z|z
  · exact I.ok.noex b o e z
  · exact absurd (aaw (aao e) (aaN I.ok.bsz z)) (abI _)
 exfs:=fun b hb z=>by
  rcases aaJ.mp (I.stkSub b z) with q|q
  · exact (hf b hb).2.1 q
  · exact (hf b hb).2.2.1 q
 funs:=I.stack
 frf:=I.stkFree
def vw {env:Sl} {j:Nat} {d:D} (h:capS im env j= .own d):False:=by
 unfold capS at h
 split at h
 · cases h
 · split at h<;>cases h
 · cases h
def Va {env:Sl} {σ:L2.St} {a b:Addr} (h:jL (x8 im m js env) (wf m js σ a) b):b=a:=by
 obtain ⟨i,d,h,h2⟩:=h
 have hi:i=m+js.length:=by
  unfold x8 at h
  by_cases h1:i<m
  · rw [aa2,aaq (by simpa using h1),aba] at h
    split at h<;>cases h
  · rw [aa2,aav (by simpa using h1)] at h;simp at h
    by_cases h2:i-m<js.length
    · rw [aaq (by simpa using h2),aaO] at h
      cases e:js[i-m]? with
      |none=>rw [e] at h;cases h
      |some j=>
        rw [e] at h;have h':=aaD h;exact (vw h').elim
    · rw [aav (by simpa using h2)] at h;simp at h
      by_cases h3:i-m-js.length=0
      · omega
      · rw [aaM (by simp;omega)] at h;cases h
 subst hi
 have at_n:(wf m js σ a)[m+js.length]?=some (some (.ref a)):=by
  unfold wf;rw [aa2,aav (by simp),aav (by simp)];simp
 rw [at_n] at h2;cases h2;rfl
abbrev Gc (im:Bool) (G:Xx) (env:Sl) (σ:L2.St):Addr->Prop:=fun c=>G c/\(im=false-> ¬jL env σ c)
def u4 {K:aaa} {G:Xx} {H0 H:Hp} {env:Sl} {σ:L2.St} {a:Addr} (k:EnvOk K G H0 env σ H) (ha:H a=none):
   EnvOk K (Gc im G env σ) H (x8 im m js env) (wf m js σ a) (upd H a (.lst [])):=by
 have own1: ∀(i:Nat) (d:D),(x8 im m js env)[i]?=some (.own d)->i=m+js.length/\d= .lst []:=fun i d h=>by
   unfold x8 at h
   by_cases h1:i<m
   · rw [aa2,aaq (by simpa using h1),aba] at h
     split at h<;>cases h
   · rw [aa2,aav (by simpa using h1)] at h;simp at h
     by_cases h2:i-m<js.length
     · rw [aaq (by simpa using h2),aaO] at h
       cases e:js[i-m]? with
       |none=>rw [e] at h;cases h
       |some j=>
         rw [e] at h;have h':=aaD h;exact (vw h').elim
     · rw [aav (by simpa using h2)] at h;simp at h
       by_cases h3:i-m-js.length=0
       · rw [h3] at h;cases h;exact ⟨by omega,rfl⟩
       · rw [aaM (by simp;omega)] at h;cases h
 have at_n:(wf m js σ a)[m+js.length]?=some (some (.ref a)):=by
   unfold wf;rw [aa2,aav (by simp),aav (by simp)];simp
 have owned: ∀b,jL (x8 im m js env) (wf m js σ a) b->b=a:=fun b ⟨i,d,h1,h2⟩=>by
   obtain ⟨rfl,rfl⟩:=own1 i d h1;rw [at_n] at h2;cases h2;rfl
 have sm:Same H (upd H a (.lst [])):=Same.upd ha;refine ⟨by simp [x8,wf],sm,fun c z=>⟨(k.new c z).2,fun _=>(k.new c z).1⟩,fun i d h=>?_,fun i d h=>?_,fun i j d e b h1 h2 h3 h4=>(own1 i d h1).1.trans (own1 j e h2).1.symm⟩
 · unfold x8 at h
   by_cases h1:i<m
   · rw [aa2,aaq (by simpa using h1),aba] at h
     split at h<;>cases h
   · rw [aa2,aav (by simpa using h1)] at h;simp at h
     by_cases h2:i-m<js.length
     · rw [aaq (by simpa using h2),aaO] at h
       cases e:js[i-m]? with
       |none=>rw [e] at h;cases h
       |some j=>
         rw [e] at h;have h':=aaD h
         have hσ:(wf m js σ a)[i]?=some ((σ[j]?).join):=by
           unfold wf;rw [aa2,aav (by simpa using h1)];simp;rw [aaq (by simpa using h2),aaO,e];rfl
         have fin: ∀v,σ[j]?=some (some v)->Rep K (Gc im G env σ) H v d-> ∃v,(wf m js σ a)[i]?=some (some v)/\Rep K (Sf (Gc im G env σ) (x8 im m js env) (wf m js σ a)) (upd H a (.lst [])) v d:=fun v e1 r=>by
           refine ⟨v,by rw [hσ,e1];rfl,(r.inDom.grow sm).weak fun b z=>⟨fun o=>?_,z.1⟩⟩;rw [owned b o] at z;exact z.2 ha
         unfold capS at h'
         split at h'
         · rename_i d' hd;cases h';obtain ⟨v,h3,h4⟩:=k.shr j d hd;exact fin v h3 (h4.weak fun c z=>⟨z.2,fun _=>z.1⟩)
         · rename_i d' hd
           split at h'
           · rename_i hi';cases h';obtain ⟨v,h3,h0,h4⟩:=k.own j d hd;exact fin _ h3 (h4.rep (fun c z=>⟨⟨z.2,fun _=>z.1⟩,Wu k hd h3 c z⟩) ⟨k.g0 _ h0,fun z=>by rw [hi'] at z;cases z⟩)
           · cases h'
         · cases h'
     · rw [aav (by simpa using h2)] at h;simp at h
       by_cases h3:i-m-js.length=0
       · rw [h3] at h;cases h
       · rw [aaM (by simp;omega)] at h;cases h
 · obtain ⟨rfl,rfl⟩:=own1 i d h;exact ⟨a,at_n,ha,.lst jj .nil⟩
def vq (use:Option (Value->Sem Unit)) (Q':Xw) (im:Bool) (N:List Str) (m:Nat) (js:List Nat) (S:CompSc z X scope cl N m js) (hc:X.calm=true) (hi:PI X tg iter (tI X.K fi))
   (hb: ∀(C:Addr) (s:aaf) (H:Hp) (fp:List Addr),PG (qk z X N scope cl C s H fp) tg (tG X.K t)/\DTs (qk z X N scope cl C s H fp) ifs c/\PE (qk z X N scope cl C s H fp) elt (tE X.K .s fe))
   (hs: ∀x,acV iter X.env x=pure x) {pins:List (Addr×Obj)} {s:aaf} {σ:L2.St} {H:Hp} {G:Xx} {H0:Hp} {env:Sl} {d:D} (I:Inv X pins σ H s) (k:EnvOk X.K G H0 env σ H) (ef:xJ im m js fi t c fe env= .ok d)
   (hend: ∀(a C:Addr) (s':aaf) (H':Hp) (mm:Xy) (r:Flow),s'.heap.Ns C mm->(∀h',ab9 C s'.heap h'->Inv X pins σ H' {s' with heap:=h'})->FpOk X pins H' C->Same H H'->Rep X.K (Sf G env σ) H' (.ref a) d->NewTop H (.ref a)->compPost (model X.prog X.w) X.A X.xe use Q' (.ref a) C (.ok r) s'):
   wpAny (model X.prog X.w) X.A (comprehension (.ListComp elt [⟨tg,iter,ifs,0⟩] scope pos) scope X.env (firstIterPos [⟨tg,iter,ifs,0⟩] pos) (newList []) (firstAsync [⟨tg,iter,ifs,0⟩]) (firstIter [⟨tg,iter,ifs,0⟩] X.env) use) Q' X.xe s:=by
 with_unfolding_all exact (by
  obtain ⟨ds,e1,ef⟩:=jc ef;obtain ⟨envF,e2,ef⟩:=jc ef;obtain ⟨accF,e3,e4⟩:=jc ef;obtain ⟨himF,e4⟩:=jl e4;cases e4;refine wpAny_comprehension_free rfl hs S.clos S.kind S.names ?_;refine thn (hi pins s σ H (fun J H1=> ∃P,Same H H1/\jcJ X.K (Sf G env σ) H1 J ds P/\P H1/\ ∀env' σ' H',Frm env σ H1 env' σ' H'->P H') I ⟨G,H0,env,ds,k,e1,fun J H1 P a b c' d'=>⟨P,a,b,c',d'⟩⟩) fun v s1 h1=>thn h1 fun itv s2 h2=>?_
  obtain ⟨it,fp,tn,J,H2,rfl,I2,T,st2,f2,P,sm,wk,p0,pst⟩:=h2;have k2:=k.grow sm;refine abF (KR S.made S.pushed (fun h₁ hns₁ hkp₁ hcl₁=>?_));dsimp only at hns₁ hkp₁ hcl₁ ⊢;have hfr:=I2.hok.fresh (aah _)
  let a:=s2.heap.objs.size
  have ha:=hfr;have I3:=I2.lnew (t':=s2.toks) .nil (aa4 _)
  let s3:aaf:={s2 with heap:=s2.heap.push {cls:= .type "list",dict:=none,data:= .seq ([]:List Value).toArray}}
  let C:=s3.heap.objs.size
  have f3: ∀b∈fp,FpOk X pins (upd H2 a (.lst [])) b:=fun b hb'=>by
   obtain ⟨z0,z⟩:=f2 b hb';refine ⟨?_,z⟩
   have hb2:b≠a:=by
     obtain ⟨o,ho,_⟩:=T.obj 0 _ st2 b hb';exact aax (aao ho)
   rw [jp hb2];exact z0
  have hfp: ∀b∈fp,b<s3.heap.objs.size:=fun b hb'=>by
   obtain ⟨o,ho,_⟩:=T.obj 0 _ st2 b hb';refine aaw (aao ho) ?_;rw [adO];exact acN _
  have XO:=jcq S hc I3 (aah _) f3 hfp;obtain ⟨DGt,DTc,DEe⟩:=hb C s3 (upd H2 a (.lst [])) fp;have old: ∀b o,s3.heap.get? b=some o->h₁.get? b=some o:=fun b o e=>hkp₁ b o e
  have I4:Inv (qk z X N scope cl C s3 (upd H2 a (.lst [])) fp) [] (wf m js σ a) (upd H2 a (.lst [])) {s2 with heap:=h₁,toks:=s2.toks+([]:List (Str×Value)).length}:=by
   refine ⟨XO,rfl,I3.bare,Un.kept old,⟨_,hns₁,fun i y v' h1 h2 h3=>?_⟩,fun y c' h=>?_,I3.hok.fresh (aah _),fun y c' h=>(by
     rcases lk1 h with ⟨_,rfl⟩| ⟨_,h⟩
     · exact I3.hok.fresh (acN _)
     · exact I3.freeC y c' (S.cls y c' h)),fun p hp=>absurd hp (by simp [vn]),I3.hok.kept old,?_⟩
   · --a captured name
     have hN1:N[i]?=some y:=h1;unfold wf at h2
     by_cases q1:i<m
     · rw [aa2,aaq (by simpa using q1),aba] at h2
       split at h2<;>cases h2
     · rw [aa2,aav (by simpa using q1)] at h2;simp at h2
       by_cases q2:i-m<js.length
       · rw [aaq (by simpa using q2),aaO] at h2
         cases e:js[i-m]? with
         |none=>rw [e] at h2;cases h2
         |some j=>
           rw [e] at h2;have h2':(σ[j]?).join=some v':=aaD h2
           have hj:σ[j]?=some (some v'):=by
             cases z:σ[j]? with
             |none=>rw [z] at h2';cases h2'
             |some w'=>rw [z] at h2';simp at h2';rw [h2']
           obtain ⟨y',g1,g2,g3,g4⟩:=S.cap (i-m) j e
           have ey:y'=y:=by
             rw [show m+(i-m)=i by omega,hN1] at g1;exact (aaD g1).symm
           subst ey;obtain ⟨mm,hn,hl⟩:=I3.loc
           have vis:Vis X.env.scope y':=by
             rcases g3 with z|z
             · exact .inr (.inl z)
             · exact .inr (.inr z)
           obtain ⟨u,ru,lk⟩:=hl j y' v' g2 hj vis;refine ⟨u,ru,.inr ⟨?_,?_⟩⟩
           · rcases h3 with z|z
             · exfalso;obtain ⟨k',m1,m2⟩:=zh z;have lk2:=S.names _ m1;rcases m2 with w'|w'
               · subst w';have:=lk2 rfl;rw [g4] at this;cases this
               · subst w'
                 have: ∀ {names:List (Str×NameKind)},names.lookup y'=some .free->(names.map fun (n,k)=>if (k==acY&&X.env.scope.kind== .function&&X.env.kindOf n==some .cell) then (n,acZ) else (n,k)).lookup y'≠some .local:=by
                  intro names
                  induction names with
                  |nil=>intro h;cases h
                  |cons p r ih=>
                   obtain ⟨n,kk⟩:=p;intro h h';have h'':aby y' ((if (kk==acY&&X.env.scope.kind== .function&&X.env.kindOf n==some .cell)=true then (n,acZ) else (n,kk))::(r.map fun (n,k)=>if (k==acY&&X.env.scope.kind== .function&&X.env.kindOf n==some .cell) then (n,acZ) else (n,k)))=some .local:=h';simp only [abl] at h
                   cases hx:y'==n with
                   |true=>
                    rw [hx] at h;cases h
                    split at h''<;>simp [abl,hx] at h''
                   |false=>
                    rw [hx] at h
                    split at h''<;>(simp only [abl,hx] at h'';exact ih h h'')
                 exact this g4 z
             · exact z
           · rcases lk with ⟨kk,_⟩| ⟨kk,c',hc',cell'⟩
             · exfalso;have kk':X.env.scope.names.lookup y'=some .local:=kk;rcases g3 with z|z<;>(rw [z] at kk';cases kk')
             · obtain ⟨c2,hc2⟩:=S.free (y',.free) (abE g4) rfl
               have:c2=c':=by
                 have:=S.cls _ _ hc2;rw [hc'] at this;exact (aaD this).symm
               subst this;obtain ⟨o,ho,hd⟩:=cell';exact ⟨c2,lk2 (fun q=>by rw [S.zk _ q] at g4;cases g4) hc2,o,old _ _ ho,hd⟩
       · exfalso
         have hi':i=m+js.length:=by
           have hl:=(aam.mp hN1).1;rw [S.len] at hl;omega
         subst hi';have no:=S.last y hN1;rcases h3 with z|z|z<;>
         · obtain ⟨k',m1,_⟩:=zh z;exact no _ m1 rfl
   · rcases lk1 h with ⟨q,rfl⟩| ⟨_,h⟩
     · exact ⟨none,hcl₁ _ q⟩
     · obtain ⟨v',o,ho,hd⟩:=I3.cell y c' (S.cls y c' h);exact ⟨v',o,old _ _ ho,hd⟩
   · show (wf m js σ a).length=N.length;rw [S.len];simp [wf];omega
  have kC:EnvOk X.K (Gc im G env σ) H2 (x8 im m js env) (wf m js σ a) (upd H2 a (.lst [])):=u4 k2 ha
  have fC: ∀b∈fp,FpOk (qk z X N scope cl C s3 (upd H2 a (.lst [])) fp) [] (upd H2 a (.lst [])) b:=fun b hb'=>by
   obtain ⟨z0,z1,z2,z3,z4,z5⟩:=f3 b hb';exact ⟨z0,(XO.exf b hb').1,XO.exfs b hb',.inl hb',(XO.exf b hb').2,fun p hp=>absurd hp (by simp [vn])⟩
  have stC:=T.keep 0 _ _ st2 fun b hb' o e=>old b o (aae _ e)
  have loop:adw (model X.prog X.w) X.A (.compLoop (.ListComp elt [⟨tg,iter,ifs,0⟩] scope pos) 0 (.ref it) (.ref a) (compEnvC scope (clZ z cl C) C X.env))
     (compPost (model X.prog X.w) X.A X.xe use Q' (.ref a) C) {s2 with heap:=h₁,toks:=s2.toks+([]:List (Str×Value)).length}:=by
   refine W2 (fun n s'=> ∃i σ' H' env',n=ds.length+1-i/\i<=ds.length/\Inv (qk z X N scope cl C s3 (upd H2 a (.lst [])) fp) [] σ' H' s'/\tn i s'.heap/\(∀b∈fp,H' b=none)/\(∀b,jL env' σ' b->b=a)/\
       EnvOk X.K (Gc im G env σ) H2 env' σ' H'/\Frm (x8 im m js env) (wf m js σ a) (upd H2 a (.lst [])) env' σ' H'/\wt (m+js.length) t c fe (ds.drop i) env'= .ok envF) ?_ (ds.length+1)
     ⟨0,_,_,_,rfl,aa4 _,I4,stC,fun b hb'=>(fC b hb').1,?_,kC,Frm.refl (Same.refl _),by simpa using e2⟩
   · rintro n s' ⟨i,σ',H',env',rfl,hi',Ic,st,fr,hs',kc,fc,ec⟩;have hP:=pst env σ H' (Frm.refl kc.base);obtain ⟨w1,w2,w3⟩:=wk i H' hP;have fpk: ∀ {H':Hp},(∀b∈fp,H' b=none)-> ∀b∈fp,FpOk (qk z X N scope cl C s3 (upd H2 a (.lst [])) fp) [] H' b:=fun hn b hb'=>⟨hn b hb',(fC b hb').2⟩
     by_cases hlt:i<ds.length
     · have hd:i<ds.length:=by omega
       rw [ac7 hd] at ec;obtain ⟨env1,e5,ec⟩:=jc ec;obtain ⟨b,e6,ec⟩:=jc ec;refine thn (T.item (qk z X N scope cl C s3 (upd H2 a (.lst [])) fp) rfl rfl rfl rfl i [] s' σ' H' (fun _ _=>False) Ic (fpk fr) st (w1 hlt)) fun r s4 ⟨u,hr,h4⟩=>?_
       subst hr;refine thn h4 fun _ s5 ⟨x,H5,I5,r5,y5,st5,fr5⟩=>?_
       have wkA: ∀b,(Sf G env σ b/\H2 b≠none)->Sf (Gc im G env σ) env' σ' b:=fun b z=>⟨fun o=>(by
         rw [hs' b o] at z
         exact z.2 ha),z.1.2,fun _=>z.1.1⟩
       obtain ⟨sm5,rd'⟩:Same H' H5/\Rep X.K (Sf (Gc im G env σ) env' σ') H5 x ds[i]:=by
         rcases w2 _ (aac hd) x H5 y5 with ⟨rfl,rd⟩| ⟨p,vs,es,hp,rfl,rfl,ed,rds⟩
         · exact ⟨Same.refl _,(rd.inDom.grow kc.base).weak wkA⟩
         · refine ⟨Same.upd hp,?_⟩;rw [ed];exact .tup jj (((rds.inDom.grow kc.base).weak wkA).grow (Same.upd hp))
       have kc5:=kc.grow sm5;have I5':=I5.pinned (fpk fr5) (T.obj _ _ st5);refine thn (DGt _ s5 σ' H5 x u (fun σ1 Hn=>Hn=H5/\EnvOk X.K (Gc im G env σ) H2 env1 σ1 H5/\Frm env' σ' H5 env1 σ1 H5) I5' r5 ⟨_,H2,env',ds[i],env1,kc5,rd',e5,fun σ1 k1 f1=>⟨rfl,k1,f1⟩⟩) fun _ s6 ⟨σ6,H6,I6,z6,k6,ff6⟩=>?_
       subst z6
       have ow6: ∀b,jL env1 σ6 b->b=a:=fun b o=>by
         rcases ff6.more b o with z|z
         · exact hs' b z
         · obtain ⟨uu,hu⟩:=k6.there o;rw [z] at hu;cases hu
       refine thn (DTc _ s6 σ6 H6 (fun b' Hn=>b'=b/\Same H6 Hn) I6 ⟨_,H2,env1,b,k6,e6,fun Hn sn=>⟨rfl,sn⟩⟩) fun ok s7 ⟨H7,I7,z7,sm7⟩=>?_
       subst z7;have k7:=k6.grow sm7;have fr7:=((fc.trans (Frm.refl sm5)).trans ff6).trans (Frm.refl sm7)
       have out: ∀ {s8:aaf} {σ8:L2.St} {H8:Hp} {env8:Sl},Inv (qk z X N scope cl C s3 (upd H2 a (.lst [])) fp) ([]++Wq fp s5.heap) σ8 H8 s8->(∀b,jL env8 σ8 b->b=a)->EnvOk X.K (Gc im G env σ) H2 env8 σ8 H8->
           Frm (x8 im m js env) (wf m js σ a) (upd H2 a (.lst [])) env8 σ8 H8->wt (m+js.length) t c fe (ds.drop (i+1)) env8= .ok envF->
           ∃mm,mm<ds.length+1-i/\ ∃i σ' H' env',mm=ds.length+1-i/\i<=ds.length/\Inv (qk z X N scope cl C s3 (upd H2 a (.lst [])) fp) [] σ' H' s8/\tn i s8.heap/\(∀b∈fp,H' b=none)/\(∀b,jL env' σ' b->b=a)/\
             EnvOk X.K (Gc im G env σ) H2 env' σ' H'/\Frm (x8 im m js env) (wf m js σ a) (upd H2 a (.lst [])) env' σ' H'/\wt (m+js.length) t c fe (ds.drop i) env'= .ok envF:=by
         intro s8 σ8 H8 env8 I8 ow8 k8 f8 e8;refine ⟨ds.length+1-(i+1),by omega,i+1,σ8,H8,env8,rfl,hlt,I8.unpinned,T.keep _ _ _ st5 fun b hb' o e=>(I8.pin (b,o) (aaT _ (aaT _ (wT hb' e)))).1,fun b hb'=>?_,ow8,k8,f8,e8⟩;obtain ⟨o,e,_⟩:=T.obj _ _ st5 b hb';exact (I8.pin (b,o) (aaT _ (aaT _ (wT hb' e)))).2.1
       cases ok with
       |false=>
         rw [if_neg aaC] at ec ⊢;exact out I7 ow6 k7 fr7 ec
       |true=>
         rw [if_pos rfl] at ec ⊢;obtain ⟨vd,e7,ec⟩:=jc ec;obtain ⟨acc,e8,ec⟩:=jc ec;obtain ⟨hz,ec⟩:=jl ec;refine thn (DEe _ s7 σ6 H7 (fun y Hn=>Same H7 Hn/\Rep X.K (Sf (Gc im G env σ) env1 σ6) Hn y vd) I7 ⟨_,H2,env1,vd,k7,e7,fun y Hn sn rn _=>⟨sn,rn⟩⟩) fun yv s8 ⟨y,H8,I8,ry,sm8,rep8⟩=>?_
         have k8:=k7.grow sm8;have hi8:=wS e8;obtain ⟨a8,xs8,ha8,hx8,rs8⟩:=wl k8 hi8;have ea:=ow6 a8 ⟨_,_,hi8,ha8⟩;subst ea;have W:=k8.write hi8 ha8 hx8 (rs8.append (.cons rep8 .nil))
         refine thn (JM _ s8 σ6 H8 (.ref a) [y] (.ref a) [yv] (fun _ Hn=>Hn=upd H8 a (.lst (xs8++[y]))) I8 rfl (.cons ry .nil)
           ⟨a,xs8,y,rfl,rfl,hx8,by rw [rs8.length];exact hz,rfl⟩) fun _ s9 ⟨_,H9,I9,_,z9⟩=>?_
         subst z9;exact out I9 (fun b o=>ow6 b ((yq hi8).mp o)) W.1 ((fr7.trans (Frm.refl sm8)).trans W.2) ec
     · have he:i=ds.length:=by omega
       rw [adH (by omega)] at ec;cases ec;refine thn (T.done (qk z X N scope cl C s3 (upd H2 a (.lst [])) fp) rfl rfl rfl rfl i [] s' σ' H' (fun _ _=>False) Ic (fpk fr) st (w3 (by omega))) fun r s4 ⟨hr,I5⟩=>?_
       subst hr;have hiF:=wS e3;obtain ⟨aF,xsF,haF,hxF,rsF⟩:=wl kc hiF;have ea:=hs' aF ⟨_,_,hiF,haF⟩;subst ea;obtain ⟨mm,hn,_⟩:=I5.loc;refine hend a C s4 H' mm _ hn (fun h' hsb=>?_) (I3.fpOk (aah _) I5.free) (sm.trans kc.base) (.lst hxF (k.new a (Same.free sm ha)) ?_) (jQ sm ha)
       rotate_left
       · cases him:im with
         |true=>exact rsF.imm (himF him)
         |false=>exact rsF.weak fun c z=>⟨⟨z.2.2 him,z.2.1⟩,Wu kc hiF haF c z⟩
       have nC: ∀b o,H' b=some o->b≠C:=fun b o e z=>by
         have:=I5.free;rw [z] at e;have e':H' C=none:=this;rw [e] at e';cases e'
       have B:=I5.base;have ltC: ∀b o,s3.heap.get? b=some o->b≠C:=fun b o e=>aax (aao e)
       have U:Un (frs X.stack) fp (upd H2 a (.lst [])) H' s3.heap h':=⟨fun b o e n hb' hx'=>(hsb.2 b (ltC b o e)).trans (B.keep b o e n hb' hx'),
         fun b o e n hb' hx'=>let ⟨sl,z⟩:=B.slot b o e n hb' hx';⟨sl,(hsb.2 b (ltC b o e)).trans z⟩,B.free,
         fun b o e hx'=>let ⟨o',z⟩:=B.there b o e hx';⟨o',(hsb.2 b (ltC b o e)).trans z⟩,B.tups,B.frzs,B.tbls⟩
       refine Inv.call' I3 I5.os U (fun b o e=>(I5.hok b o e).stay (fun c' u hc' qq=>(hsb.2 c' ?_).trans qq) (fun _ z=>z) fun _ _ z=>z) I5.bare (fun b hb'=>?_)
       · rcases hc' with z|z
         · rw [z];exact nC b o e
         · exact nC c' _ z
       · obtain ⟨z0,z1,z2,z3,z4,z5⟩:=f3 b hb';exact ⟨z3,z1,z4,z5⟩
   · exact fun b o=>Va o
  exact codeAny_compStart_list loop (T.self _ 0 _ _ _ stC loop))
def xH (im:Bool) (N:List Str) (m:Nat) (js:List Nat) (S:CompSc z X scope cl N m js) (hc:X.calm=true) (hi:DI X tg iter fi)
   (hb: ∀(C:Addr) (s:aaf) (H:Hp) (fp:List Addr),N.Nodup->DG (qk z X N scope cl C s H fp) tg t/\DTs (qk z X N scope cl C s H fp) ifs c/\DE (qk z X N scope cl C s H fp) .s elt fe)
   (hs: ∀x,acV iter X.env x=pure x:=by intro _;rfl):
   DE X .t (.ListComp elt [⟨tg,iter,ifs,0⟩] scope pos) (xJ im m js fi t c fe):=by
 with_unfolding_all exact (by
  rintro pins s σ H Q I ⟨G,H0,env,d,k,ef,q⟩;rw [eval_ListComp]
  exact vq none (EP X pins σ Q) im N m js S hc hi (fun C s H fp=>hb C s H fp S.nd) hs I k ef fun a C s' H' mm r hn hinv hfp sm rep nt=>⟨mm,hn,fun h' hsb=>⟨.ref a,H',hinv h' hsb,rfl,q _ H' sm rep nt⟩⟩)
end
def ze (n:Nat) (ds:List D):Sl:=ds.map .shr++adP (n-ds.length) .un
def WV {K:aaa} {B:Xx} {N:List Str} {vs:List V} {ds:List D} {H:Hp} (r:Reps K B H vs ds):EnvOk K (fun a=>H a=none\/B a) H (ze N.length ds) (start N vs) H:=by
 have hl:=r.length
 have no: ∀(i:Nat) (d:D),(ze N.length ds)[i]?≠some (.own d):=fun i d h=>by
   unfold ze at h
   by_cases q:i<ds.length
   · rw [aaq (by simpa using q),aaO] at h
     cases e:ds[i]? with
     |none=>rw [e] at h;cases h
     |some x=>rw [e] at h;cases h
   · rw [aav (by simpa using q),aba] at h
     split at h<;>cases h
 refine ⟨by simp [L2.start,ze,hl],Same.refl H,fun _ z=> .inl z,fun i d h=>?_,fun i d h=>(no i d h).elim,fun i j d e a h=>(no i d h).elim⟩;unfold ze at h
 by_cases q:i<ds.length
 · rw [aaq (by simpa using q),aaO] at h
   cases e:ds[i]? with
   |none=>rw [e] at h;cases h
   |some x=>
     rw [e] at h;cases h;obtain ⟨v,h1,h2⟩:=r.get e;refine ⟨v,?_,h2.weak fun a z=>⟨fun o=>?_,.inr z⟩⟩
     · unfold L2.start;rw [aaq (by simp;omega),aaO,h1];rfl
     · obtain ⟨i',d',z,_⟩:=o;exact no i' d' z
 · rw [aav (by simpa using q),aba] at h
   split at h<;>cases h
section
variable {P:aaA} {w:World} {K:aaa} {mg:Xy} {base:Heap}
def Meets (fr:Bool) (n:Nat) (g:TJ) (ds:List D) (d:D):Prop:=(∃fr',g (ze n ds)= .ok (.rt fr' d)/\(fr=true->fr'=true))\/(d= .non/\ ∃env',g (ze n ds)= .ok (.nx env'))
def jb0 {x qual:Str} {st:Stmt} {f:Addr} {fd:abK} {N ps:List Str} {k:Nat} {fr:Bool} {F:TF} {g:TJ} (Fu:Fun K x qual st f fd) (S:FnScope N ps (jf st))
    (hb: ∀(cdv:Value) (A:aaU) (outer:List Env) (s:aaf) (H:Hp) (E:XK),Room k (A.deeper (adx qual (jf st) s.heap.objs.size f cdv))->DSs (cxOf CX0 P w K mg base N qual (jf st) f cdv A outer s H E).nox (jY st) g)
    (hF: ∀ds d,ds.length=ps.length->F ds= .ok d->Meets fr N.length g ds d):
    FnOk P w K mg base CX0 (k+1) f fd ps (spF K fr ps.length F):=by
 with_unfolding_all exact (by
  refine Fu.ok S (fun vs H Q E ⟨B,ds,d,hl,_⟩=>hl) (fun cdv A outer s H vs Q E hr h=>?_);obtain ⟨B,ds,d,hl,r,e,q⟩:=h;refine ⟨_,hb cdv A outer s H E hr,?_⟩;have kk:=WV (N:=N) r;rcases hF ds d (by rw [←r.length];exact hl) e with ⟨fr',z,hf⟩| ⟨rfl,env',z⟩
  · exact ⟨_,H,_,_,kk,z,fun v H' s r nt=>q v H' s r fun hh=>nt (hf hh)⟩
  · exact ⟨_,H,_,_,kk,z,fun σ' H' k' f'=>q .non H' k'.base .non fun _ a e=>by cases e⟩)
end
open PySem.W in
theorem jct {ns:List Int} (h:WData.layableAll [WData.list (ns.map WData.int)]=true): ∀n∈ns,abG n<=2^20:=fun n hn=>by
 have h1:=layableW_arg h _ aay;have h2:=layableW_item h1 (.int n) (aaK.mpr ⟨n,hn,rfl⟩);have h3:=(layableW_iff.mp h2).2.2;simpa only [WData.weight,abG] using h3
open PySem.W PySem.Calls Att in
theorem Yi {l:aeW} {n:Nat} {q:aaA} {loose:List Str} {XP:(Str->Option Value)->Heap->Prop} {YP:World->Heap->Prop} {d:DefRec}
  (hn:l.most=some n) (hdf:d.params.defaults=[])
  (call: ∀(w:World) (s₀ s₁:aaf) (mg mb:Xy) (fa:Addr) (o:Obj) (pm cd doc:Value) (a:Addr) (vs:List Value) (ns:List Int),
   Ground q loose [] XP w s₀ mg mb s₁.heap->YP w s₁.heap->
   s₁.heap.get? fa=some o->o.data= .func (docDef d.name d.params d.body d.scope pm cd doc)->s₁.heap.CodeRec cd d.name->mg d.name=some (.ref fa)->
   s₁.heap.get? a=some {cls:= .type "list",data:= .seq vs.toArray}->IntsAre vs ns->ns.length<=n->(∀n∈ns,abG n<=2^20)->s₁.gens= #[]->
   adw (model l.prog w) callerA (.call (.ref fa) ⟨[.ref a],[]⟩) (fun r s'=>r= .ok (.ret (.bool true))/\OldK s₁.heap s'.heap/\s'.os=s₁.os/\aeD s'.gens) s₁):
  WalkO q loose XP YP l.row.toRowW d [] (fun f vs=>PySem.call f vs):=by
 intro w s₀ s₁ mg mb G Y fa o pm cd doc dV kV ho hd hcd hD hmg hg args vals as hpre hlay hrd hwl hlo;obtain rfl:dV= .none:=Dflts.none hD hdf;obtain rfl:kV= .none:=Dflts.noKw hD;obtain ⟨a,vs,ns,rfl,rfl,hobj,hints,hlen⟩:=VQ hn hpre hwl;refine enter_call (adj (call w s₀ s₁ mg mb fa o pm cd doc a vs ns G Y ho (fd_plain hd) hcd hmg hobj hints hlen (jct hlay) hg) fun r s' hq=>?_);obtain ⟨rfl,h2,h3,h4⟩:=hq;exact ⟨.inl ⟨.bool true,.bool true,[],rfl,fun _=>rfl,.bool true,Ur l _,fun _=>⟨List.Pairwise.nil,fun _ hm=>(nomatch hm)⟩⟩,h2,h3,h4⟩
def ux {K:aaa} {H:Hp} {a:Addr} {xs:List V} (hO:Only H) (h:SqL K H a xs):LsK K H a xs:=by
 rcases h with (h|h)|h
 · rcases hO a with z| ⟨o,ys,z⟩
   · rw [z] at h;cases h
   · rw [z] at h;cases h
 · exact .inl h
 · exact .inr h
theorem YR {K:aaa} {A:Xx} {H:Hp}: ∀ns:List Int,Reps K A H (ns.map V.int) (ns.map D.int)
 | []=> .nil
 |n::r=> .cons (.int n) (YR r)
def walk_law {l:aeW} {n k:Nat} {q:aaA} {loose:List Str} {XP:(Str->Option Value)->Heap->Prop} {YP:World->Heap->Prop} {d:DefRec} {K:Params->aaa} {F:TF} {x:Str}
  (hn:l.most=some n) (hn2:n<=aaj) (hdf:d.params.defaults=[]) (hr:Room k callerA)
  (hY: ∀(w:World) (h:Heap),YP w h->(K w.params).In h)
  (hF: ∀(w:World) (mg:Xy) (fa:Addr) (h:Heap),(K w.params).In h->h.Ns aak mg->mg d.name=some (.ref fa)->
   ∃fd:abK,(∀(s:aaf) (u:Value),BindsTo s fd ⟨[u],[]⟩ [(x,u)])/\
    ∀base:Heap,(K w.params).In base->base.Ns aak mg->FnOk l.prog w (K w.params) mg base CX0 k fa fd [x] (spF (K w.params) true 1 F))
  (ht: ∀ns:List Int,ns.length<=n->(∀i∈ns,abG i<=2^20)->F [.scr (ns.map D.int)]= .ok (.bl true)):
  PySem.W.WalkO q loose XP YP l.row.toRowW d [] (fun f vs=>PySem.call f vs):=by
 refine Yi hn hdf fun w s₀ s₁ mg mb fa o pm cd doc a vs ns G Y ho hd hcd hmg hobj hints hlen hbits hg=>?_
 have KX:=hY w _ Y;obtain ⟨fd,hb,hFn⟩:=hF w mg fa _ KX G.T.g hmg;refine uL KX G.T.g G.T.b G.T.builtins G.T.nolimit hg hobj hints (aaN hlen hn2) hr hFn hb (fun H hO hS=>?_) fun H e s' h=>h
 exact ⟨Any,_,_,rfl,.cons (.lsk (ux hO hS) (YR ns)) .nil,ht ns hlen hbits,fun v H' _ r _=>r.blE⟩
section
variable {X:Cx} {K:aaa}
def iOp (C:Int->Int->Prop) [∀i j,Decidable (C i j)] (g:Int->Int->D):D->D->Res D
 | .int i,.int j=>must (C i j) (.ok (g i j))
 |_,_=> .stuck
def km {C:Int->Int->Prop} [∀i j,Decidable (C i j)] {g:Int->Int->D} {a b d:D} (h:iOp C g a b= .ok d): ∃i j,a= .int i/\b= .int j/\C i j/\d=g i j:=by
 unfold iOp at h
 split at h
 · obtain ⟨h1,h2⟩:=jl h;cases h2;exact ⟨_,_,rfl,rfl,h1,rfl⟩
 · cases h
def od_I {C C':Int->Int->Prop} [∀i j,Decidable (C i j)] {h:Int->Int->V} {g:Int->Int->D} (w: ∀i j,C i j->C' i j) (r: ∀i j,Sc K (h i j) (g i j)):OpS K (rI C' h) (iOp C g):=by
 intro x y H a b d Q ra rb e q;obtain ⟨i,j,rfl,rfl,hc,rfl⟩:=km e;exact ⟨i,j,ra.intE,rb.intE,w i j hc,q _ (r i j)⟩
abbrev Xj:Int->Int->Prop:=fun _ _=>True
instance: ∀i j,Decidable (Xj i j):=fun _ _=>inferInstanceAs (Decidable True)
def jbE {h:Int->Int->V} {g:Int->Int->D} (r: ∀i j,Sc K (h i j) (g i j)):OpS K (rI0 h) (iOp Xj g):=by
 intro x y H a b d Q ra rb e q;obtain ⟨i,j,rfl,rfl,hc,rfl⟩:=km e;exact ⟨i,j,ra.intE,rb.intE,q _ (r i j)⟩
def jfw {v:V} {d:D} {H:Hp} (h:Sc K v d):NewTop H v:=fun a e=>absurd e (h.2 a)
def addD:D->D->Res D
 | .int i,.int j=> .ok (.int (i+j))
 | .str i,.str j=>must (i.length+j.length<=aaj) (.ok (.str (i++j)))
 | .lst a,.lst b=>must (a.length+b.length<=aaj) (.ok (.lst (a++b)))
 | .tup a,.tup b=>must (a.isEmpty=false/\a.length+b.length<=aaj) (.ok (.tup (a++b)))
 |_,_=> .stuck
def qh:OpR X (ab1 .Add) (fun x y H Q=>rI0 (fun i j=> .int (i+j)) x y H Q\/(∃i j,x= .str i/\y= .str j/\i.length+j.length<=aaj/\Q (.str (i++j)) H)\/rCat x y H Q\/jbk X.K x y H Q):=
 op_add.or (op_add_str.or (op_cat.or jbx))
def Reps.len_app {A:Xx} {H:Hp} {xs ys:List V} {a b:List D} (r:Reps K A H xs a) (s:Reps K A H ys b) (h:a.length+b.length<=aaj):xs.length+ys.length<=aaj:=by rw [r.length,s.length];exact h
def orA {A:Xx} {H:Hp}: ∀c,A c->(H c=none\/A c):=fun _ z=> .inr z
def zi:OpD K (fun x y H Q=>rI0 (fun i j=> .int (i+j)) x y H Q\/(∃i j,x= .str i/\y= .str j/\i.length+j.length<=aaj/\Q (.str (i++j)) H)\/rCat x y H Q\/jbk K x y H Q) addD:=by
 intro A x y H a b d Q ra rb e q;unfold addD at e
 split at e
 · cases e;exact .inl ⟨_,_,ra.intE,rb.intE,q _ H (Same.refl H) (.int _) (jfw (jfg (K:=K) _))⟩
 · obtain ⟨h1,h2⟩:=jl e;cases h2;have hl: ∀i j:Str,i.length+j.length<=aaj->(i++j).length<=aaj:=fun i j h=>by rw [strLen_append];exact h
   exact .inr (.inl ⟨_,_,ra.strE.1,rb.strE.1,h1,q _ H (Same.refl H) (.str _ (hl _ _ h1)) (jfw (jfv (K:=K) _ (hl _ _ h1)))⟩)
 · obtain ⟨h3,h4⟩:=jl e;cases h4;obtain ⟨l,xs,rfl,hl,_,rx⟩:=ra.lstE;obtain ⟨l',ys,rfl,hl',_,ry⟩:=rb.lstE;refine .inr (.inr (.inl ⟨l,l',xs,ys,rfl,rfl,hl,hl',rx.low.len_app ry.low h3,fun p hp=>q _ _ (Same.upd hp) ?_ (jQ (Same.refl H) hp)⟩));exact .lst jj (.inl hp) (((rx.low.append ry.low).laid hp).weak fun c z=>⟨.inr z.1,z.2⟩)
 · obtain ⟨⟨h3,h4⟩,h5⟩:=jl e;cases h5;obtain ⟨l,xs,rfl,hl,rx⟩:=ra.tupE;obtain ⟨l',ys,rfl,hl',ry⟩:=rb.tupE;refine .inr (.inr (.inr ⟨l,l',xs,ys,rfl,rfl,.of hl,.of hl',fun z=>?_,rx.len_app ry h4,fun z=>?_,fun z p hp=>q _ _ (Same.upd hp) ?_ (jQ (Same.refl H) hp)⟩))
   · subst z;cases rx;cases h3
   · subst z;cases ry;rw [abq] at q;refine q _ H (Same.refl H) (.tup hl (rx.weak orA)) fun a e o q' m=>?_
     cases e;rw [hl] at q';cases q';exact m
   · exact .tup jj (((rx.append ry).weak orA).grow (Same.upd hp))
 · cases e
def jdu:OpS K (rI0 fun i j=> .int (i-j)) (iOp Xj fun i j=> .int (i-j)):=jbE fun i j=>jfg _
abbrev MulC:Int->Int->Prop:=fun i j=>abG i+abG j<=134217728
def UD:OpR X (ab1 .Mult) (rI MulC fun i j=> .int (i*j)):=opI fun _ _ _ _ _ _ _ hc q=>mul_int q (IntMulOk.of_le (aah _) (aah _) hc)
def jaE:OpS K (rI MulC fun i j=> .int (i*j)) (iOp MulC fun i j=> .int (i*j)):=od_I (fun _ _ h=>h) fun i j=>jfg _
abbrev DivC:Int->Int->Prop:=fun _ j=>0<j/\j<1073741824
def yu:OpS K (rI CDiv fun i j=> .int (i/j)) (iOp DivC fun i j=> .int (i/j)):=od_I (fun _ _ h=>h) fun i j=>jfg _
abbrev PosC:Int->Int->Prop:=fun _ j=>0<j
def JK:OpS K (rI (fun _ j=>0<j) fun i j=> .int (i%j)) (iOp PosC fun i j=> .int (i%j)):=od_I (fun _ _ h=>h) fun i j=>jfg _
abbrev PowC:Int->Int->Prop:=fun i j=>0<=j/\j<=1000000/\i.natAbs<2^64
def jdv:OpS K (rI CPow fun i j=> .int (i^j.toNat)) (iOp PowC fun i j=> .int (i^j.toNat)):=od_I (fun _ _ h=>h) fun i j=>jfg _
def WB:OpS K (rI0 fun i j=> .bl (decide (i<=j))) (iOp Xj fun i j=> .bl (decide (i<=j))):=jbE fun i j=>jfd _
def uB:OpS K (rI0 fun i j=> .bl (decide (j<i))) (iOp Xj fun i j=> .bl (decide (j<i))):=jbE fun i j=>jfd _
def inS (i j:Str):Bool:=!(adt j i 0 j.length 1).isEmpty
def inD:D->D->Res D
 | .str i,.str j=> .ok (.bl (inS i j))
 |_,_=> .stuck
def jdy:OpS K (fun x y H Q=> ∃i j,x= .str i/\y= .str j/\Q (.bl (!(adt j i 0 j.length 1).isEmpty)) H) inD:=by
 intro x y H a b d Q ra rb e q;unfold inD at e
 split at e
 · cases e;exact ⟨_,_,ra.strE.1,rb.strE.1,q _ (jfd _)⟩
 · cases e
def lenD:List D->Res D
 | [.lst ds]=> .ok (.int ds.length)
 | [.scr ds]=> .ok (.int ds.length)
 | [.tup ds]=> .ok (.int ds.length)
 | [.str z]=> .ok (.int z.length)
 |_=> .stuck
def jO:CallR X (.builtin "len") (fun xs H Q=>(∃p ys,xs=[.ref p]/\(SqL X.K H p ys\/SqT X.K H p ys)/\Q (.int ys.length) H)\/(∃z,xs=[.str z]/\z.length<=aaj/\Q (.int z.length) H)):=call_len_seq.or W9
def zp:jay K (fun xs H Q=>(∃p ys,xs=[.ref p]/\(SqL K H p ys\/SqT K H p ys)/\Q (.int ys.length) H)\/(∃z,xs=[.str z]/\z.length<=aaj/\Q (.int z.length) H)) lenD:=by
 intro xs H ds d Q r e q;unfold lenD at e
 split at e
 · cases e;obtain ⟨v,rfl,r1⟩:=r.one;obtain ⟨p,ys,rfl,hp,_,ry⟩:=r1.lstE;exact .inl ⟨p,ys,rfl,.inl (.of hp),by rw [ry.length];exact q _ (jfg _)⟩
 · cases e;obtain ⟨v,rfl,r1⟩:=r.one;obtain ⟨p,ys,rfl,hp,ry⟩:=r1.scrE;exact .inl ⟨p,ys,rfl,.inl hp.sql,by rw [ry.length];exact q _ (jfg _)⟩
 · cases e;obtain ⟨v,rfl,r1⟩:=r.one;obtain ⟨p,ys,rfl,hp,ry⟩:=r1.tupE;exact .inl ⟨p,ys,rfl,.inr (.of hp),by rw [ry.length];exact q _ (jfg _)⟩
 · cases e;obtain ⟨v,rfl,r1⟩:=r.one;obtain ⟨rfl,hz⟩:=r1.strE;exact .inr ⟨_,rfl,hz,q _ (jfg _)⟩
 · cases e
def Qz:List D->Res D
 | [.lst ds]=>(.ok (.tup ds))
 | [.tup ds]=>(.ok (.tup ds))
 |_=> .stuck
def Vs {H:Hp} {p:Addr} {xs:List V} (h:H p=some (.tup xs)):NewTop H (.ref p):=fun a e o q m=>by
 cases e;rw [h] at q;cases q;exact m
def jaq:xP K (fun xs H Q=> ∃p ys,xs=[.ref p]/\((SqL K H p ys/\ ∀l,H l=none->Q (.ref l) (upd H l (.tup ys)))\/(SqT K H p ys/\Q (.ref p) H))) Qz:=by
 intro A xs H ds d Q r e q;unfold Qz at e
 split at e
 · cases e;obtain ⟨v,rfl,r1⟩:=r.one;obtain ⟨p,ys,rfl,hp,_,ry⟩:=r1.lstE;exact ⟨p,ys,rfl,.inl ⟨.of hp,fun l hl=>q _ _ (Same.upd hl) (.tup jj ((ry.low.weak orA).grow (Same.upd hl))) (jQ (Same.refl H) hl)⟩⟩
 · cases e;obtain ⟨v,rfl,r1⟩:=r.one;obtain ⟨p,ys,rfl,hp,ry⟩:=r1.tupE;exact ⟨p,ys,rfl,.inr ⟨.of hp,q _ H (Same.refl H) (.tup hp (ry.weak orA)) (Vs hp)⟩⟩
 · cases e
def K0:List D->Res D
 | [.lst ds]=>(.ok (.lst ds))
 | [.tup ds]=>(.ok (.lst ds))
 |_=> .stuck
def Qc:xP K (fun xs H Q=> ∃p ys,xs=[.ref p]/\(SqL K H p ys\/SqT K H p ys)/\ ∀l,H l=none->Q (.ref l) (upd H l (.lst ys))) K0:=by
 intro A xs H ds d Q r e q;unfold K0 at e
 split at e
 · cases e;obtain ⟨v,rfl,r1⟩:=r.one;obtain ⟨p,ys,rfl,hp,_,ry⟩:=r1.lstE;exact ⟨p,ys,rfl,.inl (.of hp),fun l hl=>q _ _ (Same.upd hl) (.lst jj (.inl hl) ((ry.low.laid hl).weak fun c z=>⟨.inr z.1,z.2⟩)) (jQ (Same.refl H) hl)⟩
 · cases e;obtain ⟨v,rfl,r1⟩:=r.one;obtain ⟨p,ys,rfl,hp,ry⟩:=r1.tupE;exact ⟨p,ys,rfl,.inr (.of hp),fun l hl=>q _ _ (Same.upd hl) (.lst jj (.inl hl) ((ry.laid hl).weak fun c z=>⟨.inr z.1,z.2⟩)) (jQ (Same.refl H) hl)⟩
 · cases e
def tyN:D->Option String
 | .non=>some "NoneType"
 | .bl _=>some "bool"
 | .int _=>some "int"
 | .str _=>some "str"
 | .tup _=>some "tuple"
 | .lst _=>some "list"
 | .scr _=>none
 | .dic _ _=>some "dict"
 | .dit _ _=>some "dict"
 | .exn _=>none
 | .fdc _ _=>none
 | .hdc _ _=>none
 | .obj _ _ _=>none
 | .mem _ _=>none
def jej {A:Xx} {H:Hp} {v:V} {d:D} {n:String} (r:Rep K A H v d) (h:tyN d=some n):TyOf K H v (.type n):=by
 cases r with
 |non=>cases h;exact .non
 |bl b=>cases h;exact .bl b
 |int i=>cases h;exact .int i
 |str x _=>cases h;exact .str x
 |tup e _=>cases h;exact .tup e
 |lst e _ _=>cases h;exact .lst e
 |lsk _ _=>cases h
 |dic e _ _ _ _=>cases h;exact .dK e
 |dit e _ _ _ _=>cases h;exact .dT e
 |exn _ _ _=>cases h
 |fdc _ _ _ _=>cases h
 |hdc _ _ _ _=>cases h
 |obj _ _ _ _ _=>cases h
 |mem _ _=>cases h
def isTy (T n:String):Bool:=n==T|| (T== "int" &&n== "bool")
def IsTy (T:String):Prop:= ∀(K:aaa) (n:String),n∈["NoneType", "bool", "int", "str", "tuple", "list", "dict"]->aaI K (.type n) (.type T)=some (isTy T n)
def jcO {d:D} {n:String} (h:tyN d=some n):n∈["NoneType", "bool", "int", "str", "tuple", "list", "dict"]:=by
 cases d<;>first| (cases h;done)| (cases h;decide)
def JT {T:String} (h: ∀(K:aaa),aaI K (.type "NoneType") (.type T)=some (isTy T "NoneType")/\aaI K (.type "bool") (.type T)=some (isTy T "bool")/\aaI K (.type "int") (.type T)=some (isTy T "int")/\
  aaI K (.type "str") (.type T)=some (isTy T "str")/\aaI K (.type "tuple") (.type T)=some (isTy T "tuple")/\aaI K (.type "list") (.type T)=some (isTy T "list")/\aaI K (.type "dict") (.type T)=some (isTy T "dict")):IsTy T:=by
 intro K n hn;obtain ⟨h1,h2,h3,h4,h5,h6,h7⟩:=h K;simp at hn;rcases hn with rfl|rfl|rfl|rfl|rfl|rfl|rfl<;>assumption
def YQ:IsTy "int" :=JT fun K=>⟨rfl,rfl,rfl,rfl,rfl,rfl,rfl⟩
def WN:IsTy "bool" :=JT fun K=>⟨rfl,rfl,rfl,rfl,rfl,rfl,rfl⟩
def uQ:IsTy "str" :=JT fun K=>⟨rfl,rfl,rfl,rfl,rfl,rfl,rfl⟩
def j8:IsTy "tuple" :=JT fun K=>⟨rfl,rfl,rfl,rfl,rfl,rfl,rfl⟩
def xW:IsTy "list" :=JT fun K=>⟨rfl,rfl,rfl,rfl,rfl,rfl,rfl⟩
def isiD (T:String) (d:D):Res D:=match tyN d with
 |some n=> .ok (.bl (isTy T n))
 |none=> .stuck
def Kh (T:String) (h:IsTy T):CallR X (.builtin "isinstance") (fun xs H Q=> ∃x d,xs=[x,.ty T]/\Rep X.K Any H x d/\ ∃b,isiD T d= .ok (.bl b)/\Q (.bl b) H):=by
 rintro pins s σ H xs us Q I r ⟨x,d,ex,rp,b,e,q⟩;subst ex;obtain ⟨u,w',rfl,r1,r2⟩:=Vo r;cases (show w'=adK T from r2);unfold isiD at e
 split at e
 · rename_i n hn;cases e;refine ka I r1 (jej rp hn) (h X.K n (jcO hn)) fun tk=>⟨.bl _,H,I.tok tk,rfl,q⟩
 · cases e
def isiF (T:String) (f:TL):Sl->Res D:=fun env=>f env>>=isiD T
def za (T:String) (Ty:Str) {l l':Lv} {e:Expr} {f:TL} {p p2 pos:Pos} (ht:IsTy T) (he:DE X l e f) (hg:Gl X "isinstance") (hm:X.mg "isinstance" =none) (hg2:Gl X Ty) (hm2:X.mg Ty=none) (hv:aa9 Ty=some (.type T))
   (hn:Ty≠ "__name__" :=by decide) (hd:Yx Ty:=by decide) (hs:aai [e,.Name Ty p2] X.env=(false,eval e X.env)::aai [.Name Ty p2] X.env:=by exact ji rfl)
   (hs2:aai [.Name Ty p2] X.env=(false,eval (.Name Ty p2) X.env)::aai [] X.env:=by exact ji rfl) (hpl:(abn pos (aai [.Name Ty p2] X.env)).any (·.1)=false:=by exact jx rfl):
   DE X l' (.Call (.Name "isinstance" p) [e,.Name Ty p2] [] pos) (isiF T f):=by
 with_unfolding_all exact (
  PE.imp (zd (Kh T ht) hg hm adA (jM he (jM (XI (v:= .ty T) hg2 hm2 hv rfl hn hd) qS hs2) hs) (by decide) (by decide) hs hpl) fun σ H Q=>by
   rintro ⟨G,H0,env,d,k,ef,q⟩;obtain ⟨a,e1,e2⟩:=jc ef;refine ⟨G,H0,env,a,k,e1,fun v H' s r _=>?_⟩
   have hb: ∃b,d= .bl b:=by
    unfold isiD at e2
    split at e2
    · cases e2;exact ⟨_,rfl⟩
    · cases e2
   obtain ⟨b,rfl⟩:=hb
   exact ⟨v,a,rfl,r.weak Lv.weak_b,b,e2,q _ H' s (.bl b) (jfd (K:=X.K) b).T⟩)
def Yh:List D->Option (List Bool)
 | []=>some []
 | .bl b::r=>(Yh r).map (b:: ·)
 |_=>none
theorem Xd: ∀ {ds:List D} {bs:List Bool},Yh ds=some bs->ds=bs.map D.bl
 | [],bs,h=>by cases h;rfl
 |d::r,bs,h=>by
  cases d with
  |bl b=>
   simp only [Yh,acE] at h;obtain ⟨bs',h1,rfl⟩:=h;rw [Xd h1];rfl
  |_=>cases h
def jaw (bs:List Bool):Yh (bs.map D.bl)=some bs:=by
 induction bs with
 |nil=>rfl
 |cons b r ih=>simp [Yh,ih]
def allD:List D->Res D
 | [.lst ds]=>match Yh ds with
  |some bs=> .ok (.bl (bs.all id))
  |none=> .stuck
 |_=> .stuck
theorem QC {A:Xx} {H:Hp}: ∀ {bs:List Bool} {xs:List V},Reps K A H xs (bs.map D.bl)->xs=bs.map V.bl
 | [],_,.nil=>rfl
 |b::bs,_,.cons h t=>by rw [h.blE,QC t];rfl
theorem Qx: ∀ {bs:List Bool} {us:List Value},Vals (bs.map V.bl) us->us=bs.map acU
 | [],_,.nil=>rfl
 |b::bs,_,.cons h t=>by
  rw [Qx t];have:_=acU b:=h;rw [this];rfl
def yb (hc:X.calm=true):CallR X (.builtin "all") (fun xs H Q=> ∃(p:Addr) (bs:List Bool),xs=[.ref p]/\SqL X.K H p (bs.map V.bl)/\Q (.bl (bs.all id)) H):=by
 rintro pins s σ H xs us Q I r ⟨p,bs,ex,hq,q⟩;subst ex;obtain ⟨u,rfl,ru⟩:=xm r;cases ru;obtain ⟨its,rv,pl,hz⟩:=I.list hq;have hits:=Qx rv;subst hits;refine call_all_walk (acX pl.isList ?_)
 have hne:p≠s.heap.objs.size:=by
   obtain ⟨o,n,e,_⟩:=pl;exact aax (aao e)
 refine ⟨s.heap.objs.size,_,_,_,_,_,fun i=>(bs[i]?).getD true,rfl,Walks.list (show X.A.in1.handled=none from I.ok.hd hc) s.heap.objs.size p hne (bs.map acU).toArray,⟨⟨_,aap _ rfl,rfl,rfl⟩,pl.isList.at fun o e=>aae _ e⟩,?_,fun h' tk kk=>?_⟩
 · intro i v s' Q' E' hP hQ;have hP':(bs.map acU)[i]?=some v:=by simpa using hP
   rw [aaO] at hP'
   cases e:bs[i]? with
   |none=>rw [e] at hP';cases hP'
   |some b=>
    rw [e] at hP';cases hP';dsimp only at hQ;rw [e] at hQ;exact abx hQ
 · have hn:(bs.map acU).toArray.size=bs.length:=by simp
   have e:((aa6 (bs.map acU).toArray.size).all fun i=>(bs[i]?).getD true)=bs.all id:=by
    rw [hn,acI,aaZ,aaZ]
    constructor
    · intro hh b hb;obtain ⟨i,hi,rfl⟩:=List.mem_iff_getElem.mp hb;have:=hh i (aaV.mpr hi);rw [aac hi] at this;exact this
    · intro hh i hi;have hi':=aaV.mp hi;rw [aac hi'];exact hh _ (abv hi')
   rw [e];refine ⟨.bl _,H,?_,rfl,q⟩
   exact I.kept fun b o e=>kk b o (by
    intro z;have hb:b=s.heap.objs.size:=by simpa using z
    exact absurd (aao e) (by rw [hb];exact abI _)) (aae _ e)
def Ke:jay K (fun xs H Q=> ∃(p:Addr) (bs:List Bool),xs=[.ref p]/\SqL K H p (bs.map V.bl)/\Q (.bl (bs.all id)) H) allD:=by
 intro xs H ds d Q r e q;unfold allD at e
 split at e
 · split at e
   · rename_i bs hbs;cases e;obtain ⟨v,rfl,r1⟩:=r.one;obtain ⟨p,ys,rfl,hp,_,ry⟩:=r1.lstE;rw [Xd hbs] at ry;have:=QC ry;subst this;exact ⟨p,bs,rfl,.of hp,q _ (jfd _)⟩
   · cases e
 · cases e
end
end M
namespace M
open PySem PySem.Spec L2
open PyProof.Rows hiding St
open PySem.SeqAt (EqAt RcAt RcNeAt)
mutual
theorem D.ind {P:D->Prop} (h0:P .non) (h1: ∀b,P (.bl b)) (h2: ∀i,P (.int i)) (h3: ∀x,P (.str x)) (h4: ∀ds,(∀d∈ds,P d)->P (.tup ds)) (h5: ∀ds,(∀d∈ds,P d)->P (.lst ds))
  (h6: ∀ds,(∀d∈ds,P d)->P (.scr ds)) (h7:(∀ks ds,(∀d∈ds,P d)->P (.dic ks ds))/\(∀ks ds,(∀d∈ds,P d)->P (.dit ks ds))/\(∀c,P (.exn c))/\(∀ks ds,(∀d∈ds,P d)->P (.fdc ks ds))/\(∀ks ds,(∀d∈ds,P d)->P (.hdc ks ds))/\(∀c ns ds,(∀d∈ds,P d)->P (.obj c ns ds))/\ ∀B Φ,P (.mem B Φ)): ∀d,P d
 | .non=>h0
 | .bl b=>h1 b
 | .int i=>h2 i
 | .str x=>h3 x
 | .tup ds=>h4 ds (D.inds h0 h1 h2 h3 h4 h5 h6 h7 ds)
 | .lst ds=>h5 ds (D.inds h0 h1 h2 h3 h4 h5 h6 h7 ds)
 | .scr ds=>h6 ds (D.inds h0 h1 h2 h3 h4 h5 h6 h7 ds)
 | .dic ks ds=>h7.1 ks ds (D.inds h0 h1 h2 h3 h4 h5 h6 h7 ds)
 | .dit ks ds=>h7.2.1 ks ds (D.inds h0 h1 h2 h3 h4 h5 h6 h7 ds)
 | .exn c=>h7.2.2.1 c
 | .fdc ks ds=>h7.2.2.2.1 ks ds (D.inds h0 h1 h2 h3 h4 h5 h6 h7 ds)
 | .hdc ks ds=>h7.2.2.2.2.1 ks ds (D.inds h0 h1 h2 h3 h4 h5 h6 h7 ds)
 | .obj c ns ds=>h7.2.2.2.2.2.1 c ns ds (D.inds h0 h1 h2 h3 h4 h5 h6 h7 ds)
 | .mem B Φ=>h7.2.2.2.2.2.2 B Φ
theorem D.inds {P:D->Prop} (h0:P .non) (h1: ∀b,P (.bl b)) (h2: ∀i,P (.int i)) (h3: ∀x,P (.str x)) (h4: ∀ds,(∀d∈ds,P d)->P (.tup ds)) (h5: ∀ds,(∀d∈ds,P d)->P (.lst ds))
  (h6: ∀ds,(∀d∈ds,P d)->P (.scr ds)) (h7:(∀ks ds,(∀d∈ds,P d)->P (.dic ks ds))/\(∀ks ds,(∀d∈ds,P d)->P (.dit ks ds))/\(∀c,P (.exn c))/\(∀ks ds,(∀d∈ds,P d)->P (.fdc ks ds))/\(∀ks ds,(∀d∈ds,P d)->P (.hdc ks ds))/\(∀c ns ds,(∀d∈ds,P d)->P (.obj c ns ds))/\ ∀B Φ,P (.mem B Φ)): ∀ds:List D,∀d∈ds,P d
 | [],_,h=>by cases h
 |x::r,d,h=>by
  have p:=D.ind h0 h1 h2 h3 h4 h5 h6 h7 x;have q:=D.inds h0 h1 h2 h3 h4 h5 h6 h7 r;rcases aaJ.mp h with z|z
  · rw [z];exact p
  · exact q d z
end
mutual
def D.dep:D->Nat
 | .tup ds=>D.deps ds+1
 | .lst ds=>D.deps ds+1
 |_=>0
def D.deps:List D->Nat
 | []=>0
 |d::ds=>max (D.dep d) (D.deps ds)
end
mutual
def D.eqb:D->Bool
 | .scr _=>false
 | .dic _ _=>false
 | .dit _ _=>false
 | .exn _=>false
 | .fdc _ _=>false
 | .hdc _ _=>false
 | .obj _ _ _=>false
 | .mem _ _=>false
 | .tup ds=>D.eqbs ds
 | .lst ds=>D.eqbs ds
 |_=>true
def D.eqbs:List D->Bool
 | []=>true
 |d::ds=>D.eqb d&&D.eqbs ds
end
mutual
def eqD:D->D->Bool
 | .non,.non=>true
 | .bl a,.bl b=>a==b
 | .bl a,.int j=>(if a then 1 else 0)==j
 | .int i,.bl b=>i==(if b then 1 else 0)
 | .int i,.int j=>i==j
 | .str x,.str y=>x==y
 | .tup a,.tup b=>eqDs a b
 | .lst a,.lst b=>eqDs a b
 |_,_=>false
def eqDs:List D->List D->Bool
 | [],[]=>true
 |a::as,b::bs=>eqD a b&&eqDs as bs
 |_,_=>false
end
theorem x5: ∀ {ds:List D} {d:D},d∈ds->D.dep d<=D.deps ds
 |x::r,d,h=>by
  simp only [D.deps];rcases aaJ.mp h with rfl|h
  · omega
  · have:=x5 h;omega
theorem Jh: ∀ {ds:List D} {d:D},D.eqbs ds=true->d∈ds->D.eqb d=true
 |x::r,d,hb,h=>by
  simp only [D.eqbs,aaG] at hb;rcases aaJ.mp h with rfl|h
  · exact hb.1
  · exact Jh hb.2 h
theorem wH: ∀ {ds:List D},(∀d∈ds,D.eqb d=true->eqD d d=true)->D.eqbs ds=true->eqDs ds ds=true
 | [],_,_=>by simp [eqDs]
 |d::ds,h,hb=>by
  simp only [D.eqbs,aaG] at hb;simp only [eqDs,aaG];exact ⟨h d aay hb.1,wH (fun x hx=>h x (aat _ hx)) hb.2⟩
def Y5 (d:D):D.eqb d=true->eqD d d=true:=by
 refine D.ind (P:=fun d=>D.eqb d=true->eqD d d=true) ?_ ?_ ?_ ?_ ?_ ?_ ?_ ?_ d
 · intro _;simp [eqD]
 · intro b _;simp [eqD]
 · intro i _;simp [eqD]
 · intro x _;simp [eqD]
 · intro ds ih hb;simp only [eqD];exact wH ih (by simpa only [D.eqb] using hb)
 · intro ds ih hb;simp only [eqD];exact wH ih (by simpa only [D.eqb] using hb)
 · intro ds ih hb;simp [D.eqb] at hb
 · exact ⟨by intro ks ds ih hb;simp [D.eqb] at hb,by intro ks ds ih hb;simp [D.eqb] at hb,by intro c hb;simp [D.eqb] at hb,by intro ks ds ih hb;simp [D.eqb] at hb,by intro ks ds ih hb;simp [D.eqb] at hb,by intro c ns ds ih hb;simp [D.eqb] at hb,by intro B Φ hb;simp [D.eqb] at hb⟩
section
variable {K:aaa} {H:Hp}
def Reps.inj_of {A A':Xx} {vs:List V} {ds ds':List D} (h: ∀d∈ds,∀(A A':Xx) v d',D.eqb d=true->D.eqb d'=true->Rep K A H v d->Rep K A' H v d'->d=d') (hb:D.eqbs ds=true) (hb':D.eqbs ds'=true) (r:Reps K A H vs ds) (r':Reps K A' H vs ds'):ds=ds':=by
 induction vs generalizing ds ds' with
 |nil=>cases r;cases r';rfl
 |cons v vs ih=>
  cases r with
  |cons r t=>
   cases r' with
   |cons r' t'=>
    simp only [D.eqbs,aaG] at hb hb';rw [h _ aay _ _ _ _ hb.1 hb'.1 r r',ih (fun d hd=>h d (aat _ hd)) hb.2 hb'.2 t t']
def Rep.inj (d:D): ∀(A A':Xx) v d',D.eqb d=true->D.eqb d'=true->Rep K A H v d->Rep K A' H v d'->d=d':=by
 refine D.ind (P:=fun d=> ∀(A A':Xx) v d',D.eqb d=true->D.eqb d'=true->Rep K A H v d->Rep K A' H v d'->d=d') ?_ ?_ ?_ ?_ ?_ ?_ ?_ ?_ d
 · intro A A' v d' _ _ r r';cases r.nonE;cases r';rfl
 · intro b A A' v d' _ _ r r';cases r.blE;cases r';rfl
 · intro b A A' v d' _ _ r r';cases r.intE;cases r';rfl
 · intro b A A' v d' _ _ r r';cases r.strE.1;cases r';rfl
 · intro ds ih A A' v d' hb hd' r r';obtain ⟨a,xs,rfl,ha,rs⟩:=r.tupE;have hb':D.eqbs ds=true:=by simpa only [D.eqb] using hb
   cases r' with
   |tup e rs'=>
    rw [ha] at e;cases e;rw [Reps.inj_of ih hb' (by simpa only [D.eqb] using hd') rs rs']
   |lst e _ _=>rw [ha] at e;cases e
   |lsk e _=>simp [D.eqb] at hd'
   |dic e _ _ _ _=>rw [ha] at e;cases e
   |dit e _ _ _ _=>rw [ha] at e;cases e
   |exn e _ _=>rw [ha] at e;cases e
   |fdc e _ _ _=>rcases e with ⟨e,_⟩| ⟨o,e⟩<;>(rw [ha] at e;cases e)
   |hdc e _ _ _=>obtain ⟨o,e⟩:=e;rw [ha] at e;cases e
   |obj e _ _ _ _=>rw [ha] at e;cases e
   |mem e _=>rw [ha] at e;cases e
 · intro ds ih A A' v d' hb hd' r r';obtain ⟨a,xs,rfl,ha,_,rs⟩:=r.lstE;have hb':D.eqbs ds=true:=by simpa only [D.eqb] using hb
   cases r' with
   |tup e rs'=>rw [ha] at e;cases e
   |lst e _ rs'=>
    rw [ha] at e;cases e;rw [Reps.inj_of ih hb' (by simpa only [D.eqb] using hd') rs rs']
   |lsk e _=>simp [D.eqb] at hd'
   |dic e _ _ _ _=>rw [ha] at e;cases e
   |dit e _ _ _ _=>rw [ha] at e;cases e
   |exn e _ _=>rw [ha] at e;cases e
   |fdc e _ _ _=>rcases e with ⟨e,_⟩| ⟨o,e⟩<;>(rw [ha] at e;cases e)
   |hdc e _ _ _=>obtain ⟨o,e⟩:=e;rw [ha] at e;cases e
   |obj e _ _ _ _=>rw [ha] at e;cases e
   |mem e _=>rw [ha] at e;cases e
 · intro ds ih A A' v d' hb;simp [D.eqb] at hb
 · exact ⟨by intro ks ds ih A A' v d' hb;simp [D.eqb] at hb,by intro ks ds ih A A' v d' hb;simp [D.eqb] at hb,by intro c A A' v d' hb;simp [D.eqb] at hb,by intro ks ds ih A A' v d' hb;simp [D.eqb] at hb,by intro ks ds ih A A' v d' hb;simp [D.eqb] at hb,by intro c ns ds ih A A' v d' hb;simp [D.eqb] at hb,by intro B Φ A A' v d' hb;simp [D.eqb] at hb⟩
end
def kN (a b:List D) (j:Nat):Bool:=match a[j]?,b[j]? with
 |some x,some y=>eqD x y
 |_,_=>true
theorem wW: ∀(a b:List D),a.length=b.length->eqDs a b=(aa6 a.length).all (kN a b)
 | [],[],_=>by simp [eqDs]
 |x::a,y::b,h=>by
  have hl:a.length=b.length:=by simpa using h
  rw [aaF,List.range_succ_eq_map,adz,List.all_map];simp only [eqDs];rw [wW a b hl];congr 1
theorem x4: ∀(a b:List D),a.length≠b.length->eqDs a b=false
 | [],[],h=>absurd rfl h
 | [],y::b,_=>by simp [eqDs]
 |x::a,[],_=>by simp [eqDs]
 |x::a,y::b,h=>by
  simp only [eqDs];rw [x4 a b (by simpa using h),ac6]
def Y4 (a b:List D):eqDs a b=((aa6 (min a.length b.length)).all (kN a b)&&a.length==b.length):=by
 by_cases h:a.length=b.length
 · rw [wW a b h,h];simp
 · rw [x4 a b h];simp [h]
section
variable {X:Cx} {pins:List (Addr×Obj)} {σ:L2.St} {H:Hp} {s:aaf}
inductive Cm (X:Cx) (H:Hp) (s:aaf):Value->D->Prop where
 |non:Cm X H s .none .non
 |bl (b:Bool):Cm X H s (.bool b) (.bl b)
 |int (i:Int) (t:Tok):Cm X H s (.int i t) (.int i)
 |str (x:Str) (t:Tok):Cm X H s (.str x t) (.str x)
 |tup {a:Addr} {xs:List V} {its:List Value} {ds:List D}:H a=some (.tup xs)->s.heap.IsTuple a its.toArray->Vals xs its->Reps X.K Any H xs ds->Cm X H s (.ref a) (.tup ds)
 |lst {a:Addr} {xs:List V} {its:List Value} {ds:List D}:H a=some (.lst xs)->s.heap.IsList a its.toArray->Vals xs its->Reps X.K Any H xs ds->Cm X H s (.ref a) (.lst ds)
def x9 (I:Inv X pins σ H s) {v:V} {u:Value} {d:D} (r:Rep X.K Any H v d) (ru:RelV v u) (hb:D.eqb d=true):Cm X H s u d:=by
 cases r with
 |non=>cases ru;exact .non
 |bl b=>cases ru;exact .bl b
 |int i=>obtain ⟨t,rfl⟩:=ru;exact .int i t
 |str x _=>obtain ⟨t,rfl⟩:=ru;exact .str x t
 |tup e rs=>
  cases ru;obtain ⟨its,rv,p,hz⟩:=I.tuple (.of e);exact .tup e p rv rs
 |lst e _ rs=>
  cases ru;obtain ⟨its,rv,p,hz⟩:=I.list (.of e);exact .lst e p.isList rv rs.low
 |lsk _ _=>simp [D.eqb] at hb
 |dic _ _ _ _ _=>simp [D.eqb] at hb
 |dit _ _ _ _ _=>simp [D.eqb] at hb
 |exn _ _ _=>simp [D.eqb] at hb
 |fdc _ _ _ _=>simp [D.eqb] at hb
 |hdc _ _ _ _=>simp [D.eqb] at hb
 |obj _ _ _ _ _=>simp [D.eqb] at hb
 |mem _ _=>simp [D.eqb] at hb
def u5 {A:aaU} {xs ys:List V} {its its2:List Value} {a b:List D} (ra:Reps X.K Any H xs a) (rb:Reps X.K Any H ys b) (va:Vals xs its) (vb:Vals ys its2)
  (ih: ∀d∈a,∀(v v':V) (u u':Value) (d':D),Rep X.K Any H v d->RelV v u->Rep X.K Any H v' d'->RelV v' u'->D.eqb d=true->D.eqb d'=true->EqAt A.in1 s u u' (eqD d d')) (ha:D.eqbs a=true) (hb:D.eqbs b=true):
  ∀j (h1:j<its.toArray.size) (h2:j<its2.toArray.size),EqAt A.in1 s its.toArray[j] its2.toArray[j] (kN a b j):=by
 intro j h1 h2;have l1:=va.length;have l2:=vb.length;have l3:=ra.length;have l4:=rb.length;have j1:j<a.length:=by simp at h1;omega
 have j2:j<b.length:=by simp at h2;omega
 obtain ⟨v,e1,r1⟩:=ra.get (aac j1);obtain ⟨v',e2,r2⟩:=rb.get (aac j2);obtain ⟨u,e3,r3⟩:=va.get e1;obtain ⟨u',e4,r4⟩:=vb.get e2
 have g1:its.toArray[j]=u:=by
  have:=aam.mp e3;obtain ⟨_,q⟩:=this;simpa using q
 have g2:its2.toArray[j]=u':=by
  have:=aam.mp e4;obtain ⟨_,q⟩:=this;simpa using q
 rw [g1,g2];have e:kN a b j=eqD a[j] b[j]:=by unfold kN;rw [aac j1,aac j2]
 rw [e];exact ih _ (abv j1) v v' u u' _ r1 r3 r2 r4 (Jh ha (abv j1)) (Jh hb (abv j2))
def ZQ (I:Inv X pins σ H s) (d:D): ∀(A:aaU) (v v':V) (u u':Value) (d':D),A.units+d.dep<cLine->Rep X.K Any H v d->RelV v u->Rep X.K Any H v' d'->RelV v' u'->D.eqb d=true->D.eqb d'=true->EqAt A s u u' (eqD d d'):=by
 refine D.ind (P:=fun d=> ∀(A:aaU) (v v':V) (u u':Value) (d':D),A.units+d.dep<cLine->Rep X.K Any H v d->RelV v u->Rep X.K Any H v' d'->RelV v' u'->D.eqb d=true->D.eqb d'=true->EqAt A s u u' (eqD d d')) ?_ ?_ ?_ ?_ ?_ ?_ ?_ ?_ d
 · intro A v v' u u' d' hu r ru r' ru' hb hb';cases x9 I r ru hb;have hu':A.units<cLine:=by simp only [D.dep] at hu;omega
   cases x9 I r' ru' hb'<;>simp only [eqD]
   · exact EqAt.same _
   · exact EqAt.none_bool _
   · exact EqAt.none_int _ _
   · exact EqAt.none_str _ _
   · exact EqAt.none_tuple (by assumption) hu'
   · exact EqAt.none_list (by assumption) hu'
 · intro b A v v' u u' d' hu r ru r' ru' hb hb';cases x9 I r ru hb;have hu':A.units<cLine:=by simp only [D.dep] at hu;omega
   cases x9 I r' ru' hb'<;>simp only [eqD]
   · exact EqAt.bool_none _
   · exact EqAt.bool_bool _ _
   · exact EqAt.bool_int _ _ _
   · exact EqAt.bool_str _ _ _
   · exact EqAt.bool_tuple _ (by assumption) hu'
   · exact EqAt.bool_list _ (by assumption) hu'
 · intro i A v v' u u' d' hu r ru r' ru' hb hb';cases x9 I r ru hb;have hu':A.units<cLine:=by simp only [D.dep] at hu;omega
   cases x9 I r' ru' hb'<;>simp only [eqD]
   · exact EqAt.int_none _ _
   · exact EqAt.int_bool _ _ _
   · exact EqAt.int_int _ _ _ _
   · exact EqAt.int_str _ _ _ _
   · exact EqAt.int_tuple _ _ (by assumption) hu'
   · exact EqAt.int_list _ _ (by assumption) hu'
 · intro x A v v' u u' d' hu r ru r' ru' hb hb';cases x9 I r ru hb;have hu':A.units<cLine:=by simp only [D.dep] at hu;omega
   cases x9 I r' ru' hb'<;>simp only [eqD]
   · exact EqAt.str_none _ _
   · exact EqAt.str_bool _ _ _
   · exact EqAt.str_int _ _ _ _
   · exact EqAt.str_str _ _ _ _
   · exact EqAt.str_tuple _ _ (by assumption) hu'
   · exact EqAt.str_list _ _ (by assumption) hu'
 · intro ds ih A v v' u u' d' hu r ru r' ru' hb hb';have hu':A.units<cLine:=by simp only [D.dep] at hu;omega
   have c1:=x9 I r ru hb;have c2:=x9 I r' ru' hb'
   cases c1 with
   |tup e p rv rs=>
     cases c2 with
     |non=>simp only [eqD];exact EqAt.tuple_none p hu'
     |bl b=>simp only [eqD];exact EqAt.tuple_bool _ p hu'
     |int i t=>simp only [eqD];exact EqAt.tuple_int _ _ p hu'
     |str x t=>simp only [eqD];exact EqAt.tuple_str _ _ p hu'
     |lst e2 p2 rv2 rs2=>simp only [eqD];exact EqAt.tuple_list p p2 hu'
     | @tup a2 xs2 its2 ds2 e2 p2 rv2 rs2=>
      rename_i a1 xs1 its1
      by_cases z:a1=a2
      · subst z;have ed:=Rep.inj _ Any Any _ _ hb hb' (Rep.tup e rs) (Rep.tup e2 rs2);rw [←ed,Y5 _ hb];exact EqAt.same _
      · have q:=RcAt.tuples p p2 hu' (u5 rs rs2 rv rv2 (fun d hd v v' u u' d' g1 g2 g3 g4 g5 g6=>ih d hd A.in1 v v' u u' d' (by
          have:=x5 hd;simp only [D.dep] at hu;show A.units+1+d.dep<cLine
          omega) g1 g2 g3 g4 g5 g6) (by simpa only [D.eqb] using hb) (by simpa only [D.eqb] using hb'))
        have n1:its1.toArray.size=ds.length:=by rw [aag,←rv.length,rs.length]
        have n2:its2.toArray.size=ds2.length:=by rw [aag,←rv2.length,rs2.length]
        rw [n1,n2,←Y4] at q;simp only [eqD];exact EqAt.of_refs z q
 · intro ds ih A v v' u u' d' hu r ru r' ru' hb hb';have hu':A.units<cLine:=by simp only [D.dep] at hu;omega
   have c1:=x9 I r ru hb;have c2:=x9 I r' ru' hb'
   cases c1 with
   |lst e p rv rs=>
     cases c2 with
     |non=>simp only [eqD];exact EqAt.list_none p hu'
     |bl b=>simp only [eqD];exact EqAt.list_bool _ p hu'
     |int i t=>simp only [eqD];exact EqAt.list_int _ _ p hu'
     |str x t=>simp only [eqD];exact EqAt.list_str _ _ p hu'
     |tup e2 p2 rv2 rs2=>simp only [eqD];exact EqAt.list_tuple p p2 hu'
     | @lst a2 xs2 its2 ds2 e2 p2 rv2 rs2=>
      rename_i a1 xs1 its1;have n1:its1.toArray.size=ds.length:=by rw [aag,←rv.length,rs.length]
      have n2:its2.toArray.size=ds2.length:=by rw [aag,←rv2.length,rs2.length]
      by_cases z:a1=a2
      · subst z
        have ed:D.lst ds=D.lst ds2:=by
          rw [e] at e2;cases e2;rw [Reps.inj_of (fun d _ A A' v d'=>Rep.inj d A A' v d') (by simpa only [D.eqb] using hb) (by simpa only [D.eqb] using hb') rs rs2]
        rw [←ed,Y5 _ hb];exact EqAt.same _
      · simp only [eqD]
        by_cases hl:ds.length=ds2.length
        · have q:=RcAt.lists p p2 (by rw [n1,n2];exact hl) hu' (u5 rs rs2 rv rv2 (fun d hd v v' u u' d' g1 g2 g3 g4 g5 g6=>ih d hd A.in1 v v' u u' d' (by
           have:=x5 hd;simp only [D.dep] at hu;show A.units+1+d.dep<cLine
           omega) g1 g2 g3 g4 g5 g6) (by simpa only [D.eqb] using hb) (by simpa only [D.eqb] using hb'))
          rw [n1,←wW ds ds2 hl] at q;exact EqAt.of_refs z q
        · rw [x4 ds ds2 hl];exact EqAt.of_refs z (RcAt.lists_lengths p p2 (by rw [n1,n2];simp [hl]) hu')
 · intro ds ih A v v' u u' d' hu r ru r' ru' hb;simp [D.eqb] at hb
 · exact ⟨by intro ks ds ih A v v' u u' d' hu r ru r' ru' hb;simp [D.eqb] at hb,by intro ks ds ih A v v' u u' d' hu r ru r' ru' hb;simp [D.eqb] at hb,by intro c A v v' u u' d' hu r ru r' ru' hb;simp [D.eqb] at hb,by intro ks ds ih A v v' u u' d' hu r ru r' ru' hb;simp [D.eqb] at hb,by intro ks ds ih A v v' u u' d' hu r ru r' ru' hb;simp [D.eqb] at hb,by intro c ns ds ih A v v' u u' d' hu r ru r' ru' hb;simp [D.eqb] at hb,by intro B Φ A v v' u u' d' hu r ru r' ru' hb;simp [D.eqb] at hb⟩
def YA (I:Inv X pins σ H s) {A:aaU} {v v':V} {u u':Value} {d d':D} (hu:A.units+d.dep<cLine) (r:Rep X.K Any H v d) (ru:RelV v u) (r':Rep X.K Any H v' d') (ru':RelV v' u') (hb:D.eqb d=true) (hb':D.eqb d'=true):
  RcAt A s u u' (eqD d d')/\RcNeAt A s u u' (!eqD d d'):=by
 have hu':A.units<cLine:=by omega
 have c1:=x9 I r ru hb;have c2:=x9 I r' ru' hb'
 cases c1 with
 |non=>
  cases c2<;>simp only [eqD,abw,aa7]
  · exact ⟨RcAt.none_none,RcNeAt.none_none⟩
  · exact ⟨RcAt.none_bool _,RcNeAt.none_bool _⟩
  · exact ⟨RcAt.none_int _ _,RcNeAt.none_int _ _⟩
  · exact ⟨RcAt.none_str _ _,RcNeAt.none_str _ _⟩
  · exact ⟨RcAt.none_tuple (by assumption) hu',RcNeAt.none_tuple (by assumption) hu'⟩
  · exact ⟨RcAt.none_list (by assumption) hu',RcNeAt.none_list (by assumption) hu'⟩
 |bl b=>
  cases c2<;>simp only [eqD,abw,aa7]
  · exact ⟨RcAt.bool_none _,RcNeAt.bool_none _⟩
  · exact ⟨RcAt.bool_bool _ _,RcNeAt.bool_bool _ _⟩
  · exact ⟨RcAt.bool_int _ _ _,RcNeAt.bool_int _ _ _⟩
  · exact ⟨RcAt.bool_str _ _ _,RcNeAt.bool_str _ _ _⟩
  · exact ⟨RcAt.bool_tuple _ (by assumption) hu',RcNeAt.bool_tuple _ (by assumption) hu'⟩
  · exact ⟨RcAt.bool_list _ (by assumption) hu',RcNeAt.bool_list _ (by assumption) hu'⟩
 |int i t=>
  cases c2<;>simp only [eqD,abw,aa7]
  · exact ⟨RcAt.int_none _ _,RcNeAt.int_none _ _⟩
  · exact ⟨RcAt.int_bool _ _ _,RcNeAt.int_bool _ _ _⟩
  · exact ⟨RcAt.int_int _ _ _ _,RcNeAt.int_int _ _ _ _⟩
  · exact ⟨RcAt.int_str _ _ _ _,RcNeAt.int_str _ _ _ _⟩
  · exact ⟨RcAt.int_tuple _ _ (by assumption) hu',RcNeAt.int_tuple _ _ (by assumption) hu'⟩
  · exact ⟨RcAt.int_list _ _ (by assumption) hu',RcNeAt.int_list _ _ (by assumption) hu'⟩
 |str x t=>
  cases c2<;>simp only [eqD,abw,aa7]
  · exact ⟨RcAt.str_none _ _,RcNeAt.str_none _ _⟩
  · exact ⟨RcAt.str_bool _ _ _,RcNeAt.str_bool _ _ _⟩
  · exact ⟨RcAt.str_int _ _ _ _,RcNeAt.str_int _ _ _ _⟩
  · exact ⟨RcAt.str_str _ _ _ _,RcNeAt.str_str _ _ _ _⟩
  · exact ⟨RcAt.str_tuple _ _ (by assumption) hu',RcNeAt.str_tuple _ _ (by assumption) hu'⟩
  · exact ⟨RcAt.str_list _ _ (by assumption) hu',RcNeAt.str_list _ _ (by assumption) hu'⟩
 | @tup a1 xs1 its1 ds e p rv rs=>
  cases c2 with
  |non=>simp only [eqD,aa7];exact ⟨RcAt.tuple_none p hu',RcNeAt.tuple_none p hu'⟩
  |bl b=>simp only [eqD,aa7];exact ⟨RcAt.tuple_bool _ p hu',RcNeAt.tuple_bool _ p hu'⟩
  |int i t=>simp only [eqD,aa7];exact ⟨RcAt.tuple_int _ _ p hu',RcNeAt.tuple_int _ _ p hu'⟩
  |str x t=>simp only [eqD,aa7];exact ⟨RcAt.tuple_str _ _ p hu',RcNeAt.tuple_str _ _ p hu'⟩
  |lst e2 p2 rv2 rs2=>simp only [eqD,aa7];exact ⟨RcAt.tuple_list p p2 hu',RcNeAt.tuple_list p p2 hu'⟩
  | @tup a2 xs2 its2 ds2 e2 p2 rv2 rs2=>
    have n1:its1.toArray.size=ds.length:=by rw [aag,←rv.length,rs.length]
    have n2:its2.toArray.size=ds2.length:=by rw [aag,←rv2.length,rs2.length]
    have el:=u5 rs rs2 rv rv2 (fun d hd v v' u u' d' g1 g2 g3 g4 g5 g6=>ZQ I d A.in1 v v' u u' d' (by
      have:=x5 hd;simp only [D.dep] at hu;show A.units+1+d.dep<cLine
      omega) g1 g2 g3 g4 g5 g6) (by simpa only [D.eqb] using hb) (by simpa only [D.eqb] using hb')
    have q:=RcAt.tuples p p2 hu' el;have q2:=RcNeAt.tuples p p2 hu' el;rw [n1,n2,←Y4] at q q2;simp only [eqD];exact ⟨q,q2⟩
 | @lst a1 xs1 its1 ds e p rv rs=>
  cases c2 with
  |non=>simp only [eqD,aa7];exact ⟨RcAt.list_none p hu',RcNeAt.list_none p hu'⟩
  |bl b=>simp only [eqD,aa7];exact ⟨RcAt.list_bool _ p hu',RcNeAt.list_bool _ p hu'⟩
  |int i t=>simp only [eqD,aa7];exact ⟨RcAt.list_int _ _ p hu',RcNeAt.list_int _ _ p hu'⟩
  |str x t=>simp only [eqD,aa7];exact ⟨RcAt.list_str _ _ p hu',RcNeAt.list_str _ _ p hu'⟩
  |tup e2 p2 rv2 rs2=>simp only [eqD,aa7];exact ⟨RcAt.list_tuple p p2 hu',RcNeAt.list_tuple p p2 hu'⟩
  | @lst a2 xs2 its2 ds2 e2 p2 rv2 rs2=>
    have n1:its1.toArray.size=ds.length:=by rw [aag,←rv.length,rs.length]
    have n2:its2.toArray.size=ds2.length:=by rw [aag,←rv2.length,rs2.length]
    simp only [eqD]
    by_cases hl:ds.length=ds2.length
    · have el:=u5 rs rs2 rv rv2 (fun d hd v v' u u' d' g1 g2 g3 g4 g5 g6=>ZQ I d A.in1 v v' u u' d' (by
       have:=x5 hd;simp only [D.dep] at hu;show A.units+1+d.dep<cLine
       omega) g1 g2 g3 g4 g5 g6) (by simpa only [D.eqb] using hb) (by simpa only [D.eqb] using hb')
      have q:=RcAt.lists p p2 (by rw [n1,n2];exact hl) hu' el;have q2:=RcNeAt.lists p p2 (by rw [n1,n2];exact hl) hu' el;rw [n1,←wW ds ds2 hl] at q q2;exact ⟨q,q2⟩
    · rw [x4 ds ds2 hl];exact ⟨RcAt.lists_lengths p p2 (by rw [n1,n2];simp [hl]) hu',RcNeAt.lists_lengths p p2 (by rw [n1,n2];simp [hl]) hu'⟩
end
section
variable {X:Cx}
def Qy:D->D->Bool
 | .lst a,.lst b=>a.length !=b.length
 |_,_=>false
def Wd {a b:D} (h:Qy a b=true):eqD a b=false:=by
 unfold Qy at h
 split at h
 · simp only [eqD];exact x4 _ _ (by simpa using h)
 · cases h
def EqC (a b:D):Prop:=(D.eqb a=true/\D.eqb b=true/\a.dep<=190)\/Qy a b=true
instance (a b:D):Decidable (EqC a b):=inferInstanceAs (Decidable (_\/_))
def rEqD (K:aaa) (neg:Bool):R2:=fun x y H Q=> ∃a b,Rep K Any H x a/\Rep K Any H y b/\EqC a b/\Q (.bl (if neg then !eqD a b else eqD a b)) H
def We {pins:List (Addr×Obj)} {σ:L2.St} {H:Hp} {s:aaf} (I:Inv X pins σ H s) {A:aaU} {v v':V} {u u':Value} {d d':D} (hu:A.units<cLine) (r:Rep X.K Any H v d) (ru:RelV v u) (r':Rep X.K Any H v' d') (ru':RelV v' u') (h:Qy d d'=true):
   RcAt A s u u' false/\RcNeAt A s u u' true:=by
 unfold Qy at h
 split at h
 · obtain ⟨a,xs,rfl,ha,_,rs⟩:=r.lstE;obtain ⟨a',xs',rfl,ha',_,rs'⟩:=r'.lstE;cases ru;cases ru';obtain ⟨its,rv,p,_⟩:=I.list (.of ha);obtain ⟨its',rv',p',_⟩:=I.list (.of ha')
   have e:(its.toArray.size !=its'.toArray.size)=true:=by
    rw [aag,aag,←rv.length,←rv'.length,rs.length,rs'.length];exact h
   exact ⟨RcAt.lists_lengths p.isList p'.isList e hu,RcNeAt.lists_lengths p.isList p'.isList e hu⟩
 · cases h
def JE (hu:X.A.units+200<cLine):OpR X (abg .Eq) (rEqD X.K false):=by
 rintro pins s σ H x y v u Q I rx ry ⟨a,b,ra,rb,hc,q⟩;rcases hc with ⟨ha,hb,hd⟩|hc
 · exact (YA I (by omega) ra rx rb ry ha hb).1 X.prog X.w X.xe _ ⟨.bl _,H,I,rfl,q⟩
 · have q':Q (.bl false) H:=by have:=Wd hc;simpa [this] using q
   exact (We I (by omega) ra rx rb ry hc).1 X.prog X.w X.xe _ ⟨.bl _,H,I,rfl,q'⟩
def JC (hu:X.A.units+200<cLine):OpR X (abg .NotEq) (rEqD X.K true):=by
 rintro pins s σ H x y v u Q I rx ry ⟨a,b,ra,rb,hc,q⟩;rcases hc with ⟨ha,hb,hd⟩|hc
 · exact (YA I (by omega) ra rx rb ry ha hb).2 X.prog X.w X.xe _ ⟨.bl _,H,I,rfl,q⟩
 · have q':Q (.bl true) H:=by have:=Wd hc;simpa [this] using q
   exact (We I (by omega) ra rx rb ry hc).2 X.prog X.w X.xe _ ⟨.bl _,H,I,rfl,q'⟩
def eqR (a b:D):Res D:=must (EqC a b) (.ok (.bl (eqD a b)))
def neR (a b:D):Res D:=must (EqC a b) (.ok (.bl (!eqD a b)))
def XV {K:aaa}:OpS K (rEqD K false) eqR:=fun x y H a b d Q ra rb e q=>by
 obtain ⟨h1,e2⟩:=jl e;cases e2;exact ⟨a,b,ra,rb,h1,q _ (jfd _)⟩
def XU {K:aaa}:OpS K (rEqD K true) neR:=fun x y H a b d Q ra rb e q=>by
 obtain ⟨h1,e2⟩:=jl e;cases e2;exact ⟨a,b,ra,rb,h1,q _ (jfd _)⟩
def Room.u200 {k:Nat} {A:aaU} (r:Room k A):A.units+200<cLine:=by have:=r.un;omega
end
end M
namespace M
open PySem PySem.Spec L2
open PyProof.Rows hiding St
section
variable {X:Cx} {K:aaa}
def ZM {prog:aaA} {w:World} {A:aaU} {E:Xw} {s:aaf} {t sl:Addr} {items:Array Value} {vl vu:Value} {lo hi:Option Int} {Q:Xw} (ht:IsTup s.heap t items) (hs:s.heap.IsSliceOf sl vl vu .none) (pl:IsPart vl lo) (pu:IsPart vu hi)
  (hw:HT.sIx items.size 0 lo=0/\HT.sIx items.size items.size hi=items.size) (h:Q (.ref t) s):wpAny (model prog w) A (getItem (.ref t) (.ref sl)) Q E s:=by
 obtain ⟨os,hos,hcs,hds⟩:=id hs;have hTs:s.TypeIs (.ref sl) "slice" :=⟨os,hos,hcs⟩
 unfold getItem
 try with_reducible refine aa3 ?_
 first|refine aab (aad ?_)|skip
 refine aab (wpAny_sequenceKey ht.typeIs (by decide) ?_)
 refine aab (act ht.typeIs aa1
  (ab7 aa1 ht.typeIs entry_tuple_getitem ?_ (args_tuple_getitem _ _)))
 show wpAny _ _ (aei (.ref t)>>=_) _ _ s;refine aab (tupleItemsOf_ ht ?_);refine aab (adQ hTs ?_);rw [if_pos (by decide)];refine aab (HT.sliceApplied_gen hs pl pu ?_)
 have hyes:(((HT.sIx items.size 0 lo:Nat):Int)==0&&(1:Int)==1&&(HT.sIx items.size items.size hi-HT.sIx items.size 0 lo)==items.size)=true:=by
  rw [hw.1,hw.2];simp
 show wpAny _ _ (if (((HT.sIx items.size 0 lo:Nat):Int)==0&&(1:Int)==1&&(HT.sIx items.size items.size hi-HT.sIx items.size 0 lo)==items.size)=true then _ else _) _ _ s;rw [if_pos hyes];unfold Builtin.Tuple.tupleIsExact;refine aab (aab (adQ ht.typeIs (aad ?_)));rw [if_pos (by decide)]
 first
  |exact aab (ad7 (aab (aad (aad ⟨_,rfl,aad h⟩))))
  |exact aab (ad7 (aad ⟨_,rfl,aad h⟩))
  |exact aab (ad7 (aab (aad ⟨_,rfl,aad h⟩)))
def rSlW (K:aaa):V->Option Int->Option Int->Hp->VK->Prop:=fun x lo hi H Q=> ∃a xs,x= .ref a/\SqT K H a xs/\(HT.sIx xs.length 0 lo=0/\HT.sIx xs.length xs.length hi=xs.length)/\Q (.ref a) H
def sl_whole:SlR X (rSlW X.K):=by
 rintro pins s σ H x v vl vu lo hi sl Q I rx hs pl pu ⟨a,xs,ex,hx,hw,q⟩;subst ex;cases rx;obtain ⟨its,r,ht,hz⟩:=I.tuple hx;have hlen:its.toArray.size=xs.length:=by rw [aag];exact r.length.symm
 exact ⟨"tuple",_,aa1.lookup,ht.typeIs,ZM ht hs pl pu (by rw [hlen];exact hw) ⟨.ref a,H,I,rfl,q⟩⟩
def cutS (z:Str) (lo hi:Option Int):Str:=
 if ((abi lo hi 1 z.length).length==z.length)=true then z else ⟨((abi lo hi 1 z.length).filterMap (z.cps[·]?)).toArray⟩
def Kb (z:Str) (lo hi:Option Int):(cutS z lo hi).length<=z.length:=by
 unfold cutS
 split
 · exact aah _
 · show ((abi lo hi 1 z.length).filterMap (z.cps[·]?)).toArray.size<=z.length;rw [aag];exact aaN (List.length_filterMap_le _ _) (PyProof.Rows.indices_len_le lo hi z.length)
def rSlS:V->Option Int->Option Int->Hp->VK->Prop:=fun x lo hi H Q=> ∃z,x= .str z/\z.length<=aaj/\Q (.str (cutS z lo hi)) H
def Uw {v:Value} {o:Option Int} (h:IsPart v o): ∃p:Option (Int×Tok),v=partValue p/\p.map (·.1)=o:=by
 cases h with
 |none=>exact ⟨none,rfl,rfl⟩
 |int i t=>exact ⟨some (i,t),rfl,rfl⟩
def jcZ:SlR X rSlS:=by
 rintro pins s σ H x v vl vu lo hi sl Q I rx hs pl pu ⟨z,ex,hz,q⟩;subst ex;obtain ⟨t,rfl⟩:=rx;obtain ⟨l,rfl,el⟩:=Uw pl;obtain ⟨u,rfl,eu⟩:=Uw pu;refine ⟨"str",_,F.slot_str_getitem.lookup,typeIs_str s z t,wpAny_getItem_str_slice (st:=none) hs rfl ?_⟩;have hp:slicePicked z l u none=abi lo hi 1 z.length:=by unfold slicePicked;rw [el,eu];rfl
 unfold sliceMade;rw [hp]
 by_cases hc:((abi lo hi 1 z.length).length==z.length)=true
 · have e:cutS z lo hi=z:=by unfold cutS;rw [if_pos hc]
   rw [e] at q;rw [if_pos (by simpa using hc)];exact ⟨.str z,H,I,⟨t,rfl⟩,q⟩
 · have e:cutS z lo hi=⟨((abi lo hi 1 z.length).filterMap (z.cps[·]?)).toArray⟩:=by unfold cutS;rw [if_neg hc]
   have hl:=Kb z lo hi;rw [e] at q hl;rw [if_neg (by simpa using hc)];exact ⟨aaN hl hz,.str _,H,I.tok _,⟨_,rfl⟩,q⟩
def slD:D->Option Int->Option Int->Res D
 | .tup ds,lo,hi=>(.ok (.tup (cutD ds lo hi)))
 | .lst ds,lo,hi=>(.ok (.lst (cutD ds lo hi)))
 | .str z,lo,hi=> .ok (.str (cutS z lo hi))
 |_,_,_=> .stuck
def vo {ds:List D} {lo hi:Option Int} (h1:HT.sIx ds.length 0 lo=0) (h2:HT.sIx ds.length ds.length hi=ds.length):cutD ds lo hi=ds:=by
 unfold cutD;rw [h1,h2];simp
def jbe {A:Xx} {x:V} {H:Hp} {a d:D} {lo hi:Option Int} {Q:VK} (r3:Rep X.K A H x a) (e4:slD a lo hi= .ok d) (q: ∀v H',Same H H'->Rep X.K (fun c=>H c=none\/A c) H' v d->NewTop H v->Q v H'):
  rSlT X.K x lo hi H Q\/rSlW X.K x lo hi H Q\/rSlL X.K x lo hi H Q\/rSlS x lo hi H Q:=by
 cases a with
 |tup ds=>
  cases e4;obtain ⟨b,xs,rfl,hb,rs⟩:=r3.tupE;have hl:=rs.length
  by_cases hw:HT.sIx xs.length 0 lo=0/\HT.sIx xs.length xs.length hi=xs.length
  · refine .inr (.inl ⟨b,xs,rfl,.of hb,hw,?_⟩);rw [hl] at hw;rw [vo hw.1 hw.2] at q;exact q _ H (Same.refl H) (.tup hb (rs.weak orA)) (Vs hb)
  · exact .inl ⟨b,xs,rfl,.of hb,hw,fun p hp=>q _ _ (Same.upd hp) (.tup jj (((Yg rs).weak orA).grow (Same.upd hp))) (jQ (Same.refl H) hp)⟩
 |lst ds=>
  cases e4;obtain ⟨b,xs,rfl,hb,_,rs⟩:=r3.lstE;exact .inr (.inr (.inl ⟨b,xs,rfl,.of hb,fun p hp=>q _ _ (Same.upd hp) (.lst jj (.inl hp) (((Yg rs.low).laid hp).weak fun c z=>⟨.inr z.1,z.2⟩)) (jQ (Same.refl H) hp)⟩))
 |str z=>
  cases e4;obtain ⟨rfl,hz⟩:=r3.strE;have hl:=aaN (Kb z lo hi) hz;exact .inr (.inr (.inr ⟨z,rfl,hz,q _ H (Same.refl H) (.str _ hl) (jfw (jfv (K:=X.K) _ hl))⟩))
 |_=>cases e4
def jaj {e:Expr} {lo hi:Option Expr} {p2 pos:Pos} {f:TL} {fl fh:Sl->Res (Option Int)} (he:DE X .s e f) (hl:DO X lo fl) (hh:DO X hi fh):
   DE X .t (.Subscript e (.Slice lo hi none p2) pos) (yN f fl fh slD):=by
 with_unfolding_all exact (
  PE.imp (YE (sl_tup.or (sl_whole.or (sl_list.or jcZ))) he hl hh) fun σ H Q=>by
   rintro ⟨G,H0,env,d,k,ef,q⟩;obtain ⟨a,e1,ef⟩:=jc ef;obtain ⟨lo',e2,ef⟩:=jc ef;obtain ⟨hi',e3,e4⟩:=jc ef;refine ⟨G,H0,env,a,k,e1,fun x H1 s1 r1 _=>⟨G,H0,env,lo',k.grow s1,e2,fun H2 s2=>⟨G,H0,env,hi',(k.grow s1).grow s2,e3,fun H3 s3=>?_⟩⟩⟩;have sm:=s1.trans (s2.trans s3)
   exact jbe ((r1.grow s2).grow s3) e4 fun v H4 s4 r4 nt=>q v H4 (sm.trans s4) (r4.weak fun c z=>z.elim (fun z=>k.new c (Same.free sm z)) fun z=>z) (nt.grow sm))
def cD:Sl->Res D:=fun _=> .ok (.dic [] [])
def Y9 {pos:Pos}:DE X .t (.Dict [] [] pos) cD:=by
 with_unfolding_all exact (PE.imp uk fun σ H Q=>by
  rintro ⟨G,H0,env,d,k,ef,q⟩;cases ef
  exact fun p hp=>q _ _ (Same.upd hp) (.dic jj (k.new p hp) rfl rfl .nil) (jQ (Same.refl H) hp))
def negD:D->Res D
 | .int i=> .ok (.int (-i))
 |_=> .stuck
def negF (f:TL):Sl->Res D:=fun env=>f env>>=negD
def ve {l l':Lv} {e:Expr} {pos:Pos} {f:TL} (h:DE X l e f):DE X l' (.UnaryOp .USub e pos) (negF f):=by
 with_unfolding_all exact (PE.imp (jeD jcN h) fun σ H Q=>by
  rintro ⟨G,H0,env,d,k,ef,q⟩;obtain ⟨a,e1,e2⟩:=jc ef;refine ⟨G,H0,env,a,k,e1,fun v H' s r _=>?_⟩
  cases a with
  |int i=>cases e2;exact ⟨i,r.intE,q _ H' s (.int _) (jfg (K:=X.K) _).T⟩
  |_=>cases e2)
end
abbrev subI:D->D->Res D:=iOp Xj fun i j=> .int (i-j)
abbrev mulI:D->D->Res D:=iOp MulC fun i j=> .int (i*j)
abbrev divI:D->D->Res D:=iOp DivC fun i j=> .int (i/j)
abbrev modI:D->D->Res D:=iOp PosC fun i j=> .int (i%j)
abbrev powI:D->D->Res D:=iOp PowC fun i j=> .int (i^j.toNat)
abbrev leI:D->D->Res D:=iOp Xj fun i j=> .bl (decide (i<=j))
abbrev gtI:D->D->Res D:=iOp Xj fun i j=> .bl (decide (j<i))
structure Av (P:aaA) (w:World) (K:aaa) (mg:Xy) (base:Heap) (k:Nat) (x:Str) (ps:List Str) (fr:Bool) (F:TF):Prop where
 ex: ∃f fd,FnOk P w K mg base CX0 k f fd ps (spF K fr ps.length F)/\mg x=some (.ref f)/\aaX K (.ref f)=true/\Binds K fd ps []
def Av.mono {P:aaA} {w:World} {K:aaa} {mg:Xy} {base:Heap} {j k:Nat} {x:Str} {ps:List Str} {fr:Bool} {F:TF} (h:Av P w K mg base j x ps fr F) (hj:j<=k):Av P w K mg base k x ps fr F:=
 let ⟨f,fd,a,b⟩:=h.ex
 ⟨f,fd,a.mono hj,b⟩
section
variable {X:Cx} {k:Nat} {x:Str} {ps:List Str} {fr:Bool} {F:TF} {e:Expr} {es:List Expr} {p pos:Pos} {g:TH}
def Av.call {n:Nat} (A:Av X.prog X.w X.K X.mg X.base k x ps fr F) (hr:Room k X.A) (ha:DA X .s (e::es) g) (hn:ps.length=n:=by rfl) (hg:Gl X x:=by rfl) (hdb:Yx x:=by decide)
  (he:Wm X e es:=by exact ji rfl) (hpl:Wl X pos es:=by exact jx rfl):DE X .s (.Call (.Name x p) (e::es) [] pos) (jA n F g):=by
 subst hn;obtain ⟨f,fd,h1,h2,h3,h4⟩:=A.ex;exact jcl h1 hr hg h2 h3 h4 Uv ha hdb he hpl
def Av.callT {n:Nat} (A:Av X.prog X.w X.K X.mg X.base k x ps true F) (hr:Room k X.A) (ha:DA X .s (e::es) g) (hn:ps.length=n:=by rfl) (hg:Gl X x:=by rfl) (hdb:Yx x:=by decide)
  (he:Wm X e es:=by exact ji rfl) (hpl:Wl X pos es:=by exact jx rfl):DE X .t (.Call (.Name x p) (e::es) [] pos) (jA n F g):=by
 subst hn;obtain ⟨f,fd,h1,h2,h3,h4⟩:=A.ex;exact jal h1 hr hg h2 h3 h4 Uv ha hdb he hpl
end
def runF (fr:Bool) (n:Nat) (g:TJ) (ds:List D):Res D:=match g (ze n ds) with
 | .ok (.rt fr' d)=>if fr=true/\fr'=false then .stuck else .ok d
 | .ok (.nx _)=> .ok .non
 |_=> .stuck
def yn {fr:Bool} {n:Nat} {g:TJ} {ds:List D} {d:D} (h:runF fr n g ds= .ok d):Meets fr n g ds d:=by
 unfold runF at h
 split at h
 · rename_i fr' d' e
   split at h
   · cases h
   · rename_i hn;cases h;refine .inl ⟨fr',e,fun hf=>?_⟩
     cases fr' with
     |true=>rfl
     |false=>exact absurd ⟨hf,rfl⟩ hn
 · rename_i env' e;cases h;exact .inr ⟨rfl,env',e⟩
 · cases h
section
variable {P:aaA} {w:World} {K:aaa} {mg:Xy} {base:Heap}
def jeS {x:Str} {st:Stmt} {f:Addr} {fd:abK} {N ps:List Str} {k:Nat} (fr:Bool) {g:TJ} (Fu:Fun K x x st f fd) (hmg:mg x=some (.ref f)) (S:FnScope N ps (jf st)) (hbi:Binds K fd ps [])
  (hb: ∀(cdv:Value) (A:aaU) (outer:List Env) (s:aaf) (H:Hp) (E:XK),Room k (A.deeper (adx x (jf st) s.heap.objs.size f cdv))->DSs (cxOf CX0 P w K mg base N x (jf st) f cdv A outer s H E).nox (jY st) g):
  Av P w K mg base (k+1) x ps fr (runF fr N.length g):=
 ⟨f,fd,jb0 Fu S hb fun ds d _ h=>yn h,hmg,Fu.kp,hbi⟩
def jcv {x:Str} {st:Stmt} {f:Addr} {fd:abK} {ps:List Str} {k:Nat} (fr:Bool) (Fu:Fun K x x st f fd) (hmg:mg x=some (.ref f)) (hbi:Binds K fd ps []):Av P w K mg base k x ps fr (fun _=> .stuck):=
 ⟨f,fd,⟨fun vs H Q E ⟨B,ds,d,hl,_⟩=>hl,fun A outer s H args us vs Q E _ _ _ _ ⟨B,ds,d,_,_,e,_⟩=>by cases e⟩,hmg,Fu.kp,hbi⟩
end
def K6 {P:aaA} {w:World} {K:aaa} {mg:Xy} {base:Heap} {x:Str} {st:Stmt} {f:Addr} {fd:abK} {N ps:List Str} {k:Nat} (fr:Bool) {g:TJ} (Fu:Fun K x x st f fd) (S:FnScope N ps (jf st))
 (hb: ∀(cdv:Value) (A:aaU) (outer:List Env) (s:aaf) (H:Hp) (E:XK),Room k (A.deeper (adx x (jf st) s.heap.objs.size f cdv))->DSs (cxOf CX0 P w K mg base N x (jf st) f cdv A outer s H E).nox (jY st) g):
 FnOk P w K mg base CX0 (k+1) f fd ps (spF K fr ps.length (runF fr N.length g)):=jb0 Fu S hb fun ds d _ h=>yn h
def Y8 {X:Cx} {l2:Lv} {b:Expr} {f2:TL} {p pos:Pos} (i:Nat) {x:Str} (hb:DE X l2 b f2) (hN:X.N[i]?=some x:=by rfl) (hv:Vis X.env.scope x:=by first|exact abR rfl|exact abf (abR rfl)|exact abf (abf rfl))
   (hd:Yx x:=by decide) (hcd:Yw x:=by decide) (hs:Yk b:=by intro _ _;rfl):DE X .s (.Subscript (.Name x p) b pos) (two (rdB i) f2 ixD):=by
 with_unfolding_all exact (
  PE.imp (jdk jaL (zZ hN hv hd hcd) hb hs) fun σ H Q=>by
   rintro ⟨G,H0,env,d,k,ef,q⟩;obtain ⟨a',e1,ef⟩:=jc ef;obtain ⟨b',e2,e3⟩:=jc ef;rcases XB e1 with z|z
   · obtain ⟨v,h1,h2⟩:=k.shr i a' z;exact ⟨v,h1,G,H0,env,b',k,e2,fun y H2 s2 r2 _=>jdt (h2.grow s2) (r2.weak Lv.weak_b) e3 fun v r3=>q v H2 s2 r3 trivial⟩
   · obtain ⟨v,h1,h0,h2⟩:=k.own i a' z;refine ⟨_,h1,G,H0,env,b',k,e2,fun y H2 s2 r2 _=>?_⟩;have h3:=(k.grow s2).own i a' z;obtain ⟨v2,g1,_,g2⟩:=h3;rw [h1] at g1;cases g1
     cases g2 with
     |lst e r=>
      cases b' with
      |int j=>
       cases (r2.weak Lv.weak_b).intE;unfold ixD at e3;dsimp only at e3
       cases e5:atI _ j with
       |none=>rw [e5] at e3;cases e3
       |some d'=>
        rw [e5] at e3;cases e3;obtain ⟨v',e6,r6⟩:=Z5 r e5;exact .inl ⟨_,_,j,v',rfl,rfl,.of e,e6,q v' H2 s2 r6 trivial⟩
      |_=>cases e3
     |dic e _ _ r=>cases b'<;>cases e3
     |dit e _ _ r=>cases b'<;>cases e3
     |obj e _ _ r=>cases b'<;>cases e3)
def jU:aa9 "list" =some (.type "list"):=by decide+kernel
def jeR (N0:List Str) (sc0 scope:Scope) (N:List Str) (m:Nat) (js:List Nat):Bool:=(aa6 js.length).all fun k=>match N[m+k]?,(js[k]?).bind (N0[·]?) with
 |some y,some y'=>y==y'&&(sc0.names.lookup y==some .cell||sc0.names.lookup y==some .free)&&scope.names.lookup y==some .free
 |_,_=>false
def scOk (z:Option Str) (N0:List Str) (sc0 scope:Scope) (cl:List (Str×Addr)) (N:List Str) (m:Nat) (js:List Nat):Bool:=
 (scope.names.all fun x=>x.2 != .local||scope.names.lookup x.1==some .local)&&(scope.names.all fun x=>x.2 != .cell||z==some x.1)&&(match z with
   |some y=>scope.names.lookup y==some .cell
   |none=>true)&&(scope.names.all fun y=>y.2 != .free||cl.any fun p=>p.1==y.1)&&
  jeR N0 sc0 scope N m js&&(match N[m+js.length]? with
   |some y=>scope.names.all fun p=>p.1 !=y
   |none=>true)&&N.length==m+js.length+1
def Vg {cl:List (Str×Addr)} {y:Str} (h:(cl.any fun p=>p.1==y)=true): ∃c,cl.lookup y=some c:=by
 induction cl with
 |nil=>cases h
 |cons p r ih=>
  obtain ⟨n,c⟩:=p;rw [aeF,acp] at h;simp only [abl]
  cases e:y==n with
  |true=>exact ⟨c,rfl⟩
  |false=>
   rcases h with h|h
   · have:n=y:=by simpa using h
     subst this;simp at e
   · exact ih h
def AllC (cells:List (Str×Addr)):List (Str×Addr)->Prop
 | []=>True
 |p::r=>cells.lookup p.1=some p.2/\AllC cells r
theorem AllC.mem {cells:List (Str×Addr)}: ∀ {cl:List (Str×Addr)},AllC cells cl-> ∀p∈cl,cells.lookup p.1=some p.2
 |_::_,h,p,hp=>(aaJ.mp hp).elim (fun e=>e▸h.1) (AllC.mem h.2 p)
def xI (z:Option Str) {X:Cx} {scope:Scope} {cl:List (Str×Addr)} {N:List Str} {m:Nat} {js:List Nat} (clos:closureFor scope X.env=pure cl) (kind:scope.kind= .function) (nd:N.Nodup) (cl2:AllC X.env.cells cl)
   (h:scOk z X.N X.env.scope scope cl N m js=true) (made: ∀n,cellsFrom (n+1) scope.names cl=clZ z cl n:=by intro _;rfl) (pushed: ∀h,pushCells h scope.names=jbn z h:=by intro _;rfl):CompSc z X scope cl N m js:=by
 simp only [scOk,aaG,aaZ,beq_iff_eq] at h;obtain ⟨⟨⟨⟨⟨⟨h1,h2⟩,h7⟩,h3⟩,h4⟩,h5⟩,h6⟩:=h;refine ⟨clos,kind,fun x hx e=>?_,fun y hy e=>?_,made,pushed,fun y e=>by rw [e] at h7;exact beq_iff_eq.mp h7,fun x c e=>cl2.mem (x,c) (abE e),fun y hy e=>?_,nd,h6,fun k j e=>?_,fun y e p hp=>?_⟩
 · have:=h1 x hx;rw [e] at this;simpa using this
 · have:=h2 y hy;rw [e] at this;simpa using this
 · have:=h3 y hy;rw [e] at this;exact Vg (by simpa using this)
 · have hk:=(aam.mp e).1;have:=aaZ.mp h4 k (aaV.mpr hk);rw [e] at this;simp at this
   cases e1:N[m+k]? with
   |none=>rw [e1] at this;cases this
   |some y=>
    cases e2:X.N[j]? with
    |none=>rw [e1,e2] at this;cases this
    |some y'=>
     rw [e1,e2] at this;simp at this;obtain ⟨⟨g1,g2⟩,g3⟩:=this;subst g1;exact ⟨y,rfl,rfl,g2,g3⟩
 · rw [e] at h5;have:=aaZ.mp h5 p hp;simpa using this
end M
namespace M
open PySem PySem.Spec L2
def ZO {body:D->Sl->Res Out} {d:D} {ds:List D} {env env':Sl} (h:body d env= .ok (.nx env')):forD body (d::ds) env=forD body ds env':=by
 show (body d env>>=_)=_;rw [h];rfl
theorem W4 {n:Nat} {t:TD} {fe:TL} {E:D->List D->Sl} (h:D->D) (P:D->Prop)
  (hn: ∀x acc,ownL n (E x acc)= .ok acc) (hs: ∀x acc acc',(E x acc).set n (.own (.lst acc'))=E x acc')
  (ht: ∀x d acc,t d (E x acc)= .ok (E d acc)) (hf: ∀d acc,P d->fe (E d acc)= .ok (h d)):
  ∀(ds:List D) (x:D) (acc:List D),(∀d∈ds,P d)->acc.length+ds.length<=aaj-> ∃y,wt n t zc fe ds (E x acc)= .ok (E y (acc++ds.map h))
 | [],x,acc,_,_=>⟨x,by simp [wt]⟩
 |d::ds,x,acc,hP,hl=>by
  simp at hl;obtain ⟨y,hy⟩:=W4 h P hn hs ht hf ds d (acc++[h d]) (fun e he=>hP e (by simp [he])) (by simp;omega);refine ⟨y,?_⟩
  have h1:wt n t zc fe (d::ds) (E x acc)=wt n t zc fe ds (E d (acc++[h d])):=by
   show (t d (E x acc)>>=_)=_;rw [ht];show (fe (E d acc)>>=_)=_;rw [hf d acc (hP d (by simp))];rw [hn];show must _ _=_;rw [jt (by omega),hs]
  rw [h1,hy];simp
def jea {fi:TH} {fe:TL} {env:Sl} {ds:List D} (h:D->D) (P:D->Prop) (hi:fi env= .ok ds) (hP: ∀d∈ds,P d) (hl:ds.length<=aaj)
  (hf: ∀d acc,P d->fe [.shr d,.own (.lst acc)]= .ok (h d)):xJ false 1 [] fi (gN 0) zc fe env= .ok (.lst (ds.map h)):=by
 show (fi env>>=_)=_;rw [hi];show (wt 1 (gN 0) zc fe ds [.un,.own (.lst [])]>>=_)=_
 cases ds with
 |nil=>rfl
 |cons d ds=>
  simp at hl;obtain ⟨y,hy⟩:=W4 (n:=1) (t:=gN 0) h P (fun _ _=>rfl) (fun _ _ _=>rfl) (fun _ _ _=>rfl) hf ds d [h d] (fun e he=>hP e (by simp [he])) (by simp;omega)
  have h1:wt 1 (gN 0) zc fe (d::ds) [.un,.own (.lst [])]=wt 1 (gN 0) zc fe ds [.shr d,.own (.lst [h d])]:=by
   show (fe [.shr d,.own (.lst [])]>>=_)=_;rw [hf d [] (hP d (by simp))];exact jt (c:=([]:List D).length<aaj) (by simp;omega)
  rw [h1,hy];rfl
variable {env env':Sl} {f f1 f2 f3:TL} {g g1 g2:TJ} {t t1 t2:TK} {fa:TH} {i:Nat} {d:D} {b:Bool}
@[simp] theorem wG {α β:Type} {a:α} {f:α->Res β}:(Res.ok a>>=f)=f a:=rfl
@[simp] theorem jaU {α β:Type} {c:Prop} [Decidable c] {a b:Res α} {f:α->Res β}:((if c then a else b)>>=f)=if c then a>>=f else b>>=f:=by split<;>rfl
def outK (g:TJ):Out->Res Out
 | .nx e=>g e
 |o=> .ok o
@[simp] theorem UA:outK g (.nx env)=g env:=rfl
@[simp] theorem Uz {fr:Bool}:outK g (.rt fr d)= .ok (.rt fr d):=rfl
@[simp] theorem Y0:seqO g1 g2 env=(g1 env>>=outK g2):=by
 show (g1 env>>=_)=_;congr 1;funext o;cases o<;>rfl
@[simp] theorem jb4:setO i f env=(f env>>=fun d=> .ok (.nx (env.set i (xn d)))):=rfl
@[simp] theorem uZ:jB i f env=(f env>>=fun d=> .ok (.nx (env.set i (.shr d)))):=rfl
@[simp] theorem X8:retO f env=(f env>>=fun d=> .ok (.rt true d)):=rfl
@[simp] theorem jb5:retS f env=(f env>>=fun d=> .ok (.rt false d)):=rfl
@[simp] theorem jaT:nxO env= .ok (.nx env):=rfl
@[simp] theorem Y1:ifO t g1 g2 env=(t env>>=fun b=>if b=true then g1 env else g2 env):=rfl
@[simp] theorem jb7:andB t1 t2 env=(t1 env>>=fun b=>if b=true then t2 env else .ok false):=rfl
@[simp] theorem kG:orB t1 t2 env=(t1 env>>=fun b=>if b=true then .ok true else t2 env):=rfl
@[simp] theorem X9:notB t env=(t env>>=fun b=> .ok (!b)):=rfl
def asBD:D->Res Bool
 | .bl b=> .ok b
 |_=> .stuck
@[simp] theorem vE:asBD (.bl b)= .ok b:=rfl
@[simp] theorem kK:asB f env=(f env>>=asBD):=rfl
@[simp] theorem kE {h:D->D->Res D}:two f1 f2 h env=(f1 env>>=fun x=>f2 env>>=fun y=>h x y):=rfl
@[simp] theorem jdS {j:Int}:cI j env= .ok (.int j):=rfl
@[simp] theorem jdT:cB b env= .ok (.bl b):=rfl
@[simp] theorem ZP:jb f fa env=(f env>>=fun d=>fa env>>=fun ds=> .ok (d::ds)):=rfl
@[simp] theorem kH:nil1 env= .ok []:=rfl
@[simp] theorem kL {h:TF}:app fa h env=(fa env>>=h):=rfl
@[simp] theorem u0 {n:Nat} {F:TF}:jA n F fa env=(fa env>>=fun ds=>must (ds.length=n) (F ds)):=rfl
@[simp] theorem jb3:tupF fa env=(fa env>>=fun ds=>must (ds.length<=aaj) (.ok (.tup ds))):=rfl
@[simp] theorem jb6:lstF fa env=(fa env>>=fun ds=>must (ds.length<=aaj) (.ok (.lst ds))):=rfl
@[simp] theorem kJ {T:String}:isiF T f env=(f env>>=isiD T):=rfl
@[simp] theorem jaV:ifD t f1 f2 env=(t env>>=fun b=>if b=true then f1 env else f2 env):=rfl
@[simp] theorem kI:itF f env=(f env>>=uN):=rfl
@[simp] theorem Ya {tt:TD} {fi:TH}:forO fi tt g env=(fi env>>=fun ds=>forD (yW tt g) ds env):=rfl
@[simp] theorem uY {fl fh:Sl->Res (Option Int)} {h:D->Option Int->Option Int->Res D}:yN f fl fh h env=(f env>>=fun a=>fl env>>=fun lo=>fh env>>=fun hi=>h a lo hi):=rfl
@[simp] theorem jaS:rdS i env=match env[i]? with|some (.shr d)=> .ok d|_=> .stuck:=rfl
def toK (g:Res D) (w:Bool):D->Res D
 | .bl b=>if b=w then g else .ok (.bl b)
 |_=> .stuck
@[simp] theorem jaR {w:Bool}:toB f1 f2 w env=(f1 env>>=toK (f2 env) w):=by
 show (f1 env>>=_)=_;congr 1
def chK (f:Res D) (g':D->D->Res D) (y:D):D->Res D
 | .bl true=>f>>=fun w=>g' y w
 | .bl false=> .ok (.bl false)
 |_=> .stuck
@[simp] theorem ja2 {r:Res D} {h:D->D->Res D} {y:D}:chK r h y (.bl b)=if b=true then r>>=fun w=>h y w else .ok (.bl false):=by cases b<;>rfl
@[simp] theorem Y2 {h h':D->D->Res D}:Qb f1 f2 f3 h h' env=(f1 env>>=fun x=>f2 env>>=fun y=>h x y>>=chK (f3 env) h' y):=by
 show (f1 env>>=_)=_;congr 1
@[simp] theorem jaW {C:Int->Int->Prop} [∀i j,Decidable (C i j)] {h:Int->Int->D} {m n:Int}:iOp C h (.int m) (.int n)=if C m n then .ok (h m n) else .stuck:=rfl
def runK (fr:Bool):Out->Res D
 | .rt fr' d=>if fr=true/\fr'=false then .stuck else .ok d
 | .nx _=> .ok .non
 |_=> .stuck
def kF {fr:Bool} {n:Nat} {ds:List D} {o:Out} (h:g (ze n ds)= .ok o):runF fr n g ds=runK fr o:=by
 unfold runF;rw [h];cases o<;>rfl
def Qu:D->Bool| .scr _=>false| .exn _=>false| .fdc _ _=>false| .hdc _ _=>false| .obj _ _ _=>false| .mem _ _=>false|_=>true
def atI_nat {α:Type} {xs:List α} {k:Nat}:atI xs (k:Int)=xs[k]?:=by
 unfold atI ixN
 by_cases h:k<xs.length
 · rw [if_pos (by omega),if_pos (by omega)];simp
 · rw [if_pos (by omega),if_neg (by omega)];simp;omega
section
variable {env env':Sl} {f f1 f2 f3:TL} {g g1 g2:TJ} {t t1 t2:TK} {fa:TH} {i:Nat} {d x y z:D} {b:Bool} {ds:List D}
def jq {h:D->D->Res D} (h1:f1 env= .ok x) (h2:f2 env= .ok y) (h3:h x y= .ok z):two f1 f2 h env= .ok z:=by rw [kE,h1,wG,h2,wG,h3]
def jy (h:f env= .ok d):jB i f env= .ok (.nx (env.set i (.shr d))):=by rw [uZ,h];rfl
def Zd (h:f env= .ok d):setO i f env= .ok (.nx (env.set i (xn d))):=by rw [jb4,h];rfl
def qX (h:f env= .ok d):retO f env= .ok (.rt true d):=by rw [X8,h];rfl
def XA (h:f env= .ok d):retS f env= .ok (.rt false d):=by rw [jb5,h];rfl
def jn (h:g1 env= .ok (.nx env')):seqO g1 g2 env=g2 env':=by rw [Y0,h];rfl
def QB {fr:Bool} (h:g1 env= .ok (.rt fr d)):seqO g1 g2 env= .ok (.rt fr d):=by rw [Y0,h];rfl
def if_t (h:t env= .ok true):ifO t g1 g2 env=g1 env:=by rw [Y1,h];rfl
def if_f (h:t env= .ok false):ifO t g1 g2 env=g2 env:=by rw [Y1,h];rfl
def jg (h1:f env= .ok d) (h2:fa env= .ok ds):jb f fa env= .ok (d::ds):=by rw [ZP,h1,wG,h2];rfl
def zF {h:TF} (h1:fa env= .ok ds) (h2:h ds= .ok d):app fa h env= .ok d:=by rw [kL,h1,wG,h2]
def qd {n:Nat} {F:TF} (h1:fa env= .ok ds) (hn:ds.length=n) (h2:F ds= .ok d):jA n F fa env= .ok d:=by rw [u0,h1,wG,jt hn,h2]
def xg (h1:fa env= .ok ds) (hn:ds.length<=aaj):tupF fa env= .ok (.tup ds):=by rw [jb3,h1,wG,jt hn]
def WE (h1:fa env= .ok ds) (hn:ds.length<=aaj):lstF fa env= .ok (.lst ds):=by rw [jb6,h1,wG,jt hn]
def zb (h:f env= .ok (.bl b)):asB f env= .ok b:=by rw [kK,h];rfl
def Wv {b2:Bool} (h1:t1 env= .ok b) (h2:t2 env= .ok b2):orB t1 t2 env= .ok (b||b2):=by rw [kG,h1,wG,h2];cases b<;>rfl
def Km {b2:Bool} (h1:t1 env= .ok b) (h2:t2 env= .ok b2):andB t1 t2 env= .ok (b&&b2):=by rw [jb7,h1,wG,h2];cases b<;>rfl
def xz (h1:t1 env= .ok b):notB t1 env= .ok (!b):=by rw [X9,h1];rfl
def Yu {fl fh:Sl->Res (Option Int)} {h:D->Option Int->Option Int->Res D} {lo hi:Option Int} (h1:f env= .ok x) (h2:fl env= .ok lo) (h3:fh env= .ok hi) (h4:h x lo hi= .ok z):yN f fl fh h env= .ok z:=by
 rw [uY,h1,wG,h2,wG,h3,wG,h4]
def YY {tt:TD} {fi:TH} (h:fi env= .ok ds):forO fi tt g env=forD (yW tt g) ds env:=by rw [Ya,h];rfl
def YN (h:f env= .ok d) (h2:uN d= .ok ds):itF f env= .ok ds:=by rw [kI,h,wG,h2]
def ja1 (h:f env= .ok d) (hd:d.imm=true):chk f env= .ok d:=by
 show (f env>>=_)=_;rw [h];exact jt hd
end
def YT {C:Int->Int->Prop} [∀i j,Decidable (C i j)] {g:Int->Int->D} {i j:Int} (h:C i j):iOp C g (.int i) (.int j)= .ok (g i j):=if_pos h
def Uq {i j:Int} (h:PowC i j):powI (.int i) (.int j)= .ok (.int (i^j.toNat)):=YT h
def jdB {i j:Int} (h:MulC i j):mulI (.int i) (.int j)= .ok (.int (i*j)):=YT h
def jaI {i j:Int} (h:0<j):modI (.int i) (.int j)= .ok (.int (i%j)):=YT h
def J9 {i j:Int} (h:0<j/\j<1073741824):divI (.int i) (.int j)= .ok (.int (i/j)):=YT h
def Xp {t:TD} {g:TJ} {d:D} {env env':Sl} (h:t d env= .ok env'):yW t g d env=g env':=by
 show (t d env>>=g)=_;rw [h];rfl
def yZ {fr:Bool} {n:Nat} {g:TJ} {ds:List D} {d:D} (h:g (ze n ds)= .ok (.rt true d)):runF fr n g ds= .ok d:=by rw [kF h];simp [runK]
def jc4 {n:Nat} {g:TJ} {ds:List D} {d:D} (h:g (ze n ds)= .ok (.rt false d)):runF false n g ds= .ok d:=by rw [kF h];simp [runK]
def VW {fa:TH} {env:Sl} {j:Int} (h:fa env= .ok [.int j]) (hb: -(2^62)<=j/\j<2^62):rngF fa env= .ok (JW 0 j.toNat):=by
 show (fa env>>=rng1)=_;rw [h];exact jt hb
def vG {a b:List D} (h2:a.length+b.length<=aaj):addD (.lst a) (.lst b)= .ok (.lst (a++b)):=jt h2
def jb8 {a b:Int}:eqR (.int a) (.int b)= .ok (.bl (a==b)):=by
 unfold eqR;rw [jt (by left;simp [D.eqb,D.dep])];simp [eqD]
theorem YZ {body:D->Sl->Res Out} (I:List D->Sl->Prop)
  (hb: ∀d ds env,I (d::ds) env-> ∃env',body d env= .ok (.nx env')/\I ds env'): ∀(ds:List D) (env:Sl),I ds env-> ∃env',forD body ds env= .ok (.nx env')/\I [] env'
 | [],env,h=>⟨env,rfl,h⟩
 |d::ds,env,h=>by
  obtain ⟨e1,h1,h2⟩:=hb d ds env h;obtain ⟨e2,h3,h4⟩:=YZ I hb ds e1 h2;exact ⟨e2,by rw [ZO h1,h3],h4⟩
def WP (lo:Int) (n:Nat):(JW lo n).length=n:=by simp [JW]
def ja6 {α:Type} {xs:List α} {i:Int} (h0:0<=i) (h1:i<xs.length): ∃x,atI xs i=some x/\x∈xs:=by
 obtain ⟨k,rfl⟩:=Int.eq_ofNat_of_zero_le h0;have hk:k<xs.length:=by omega
 exact ⟨xs[k],by rw [M.atI_nat];exact aac hk,abv hk⟩
open Builtin.Int (intBits)
end M
namespace M
open PySem PySem.Spec L2
open PyProof.Rows hiding St
def keyD:D->Option Key
 | .int i=>some (.inl i)
 | .str x=>some (.inr x)
 |_=>none
def hasK (ks:List Key) (k:Key):Bool:=ks.any fun x=>decide (x=k)
def valD (ks:List Key) (ds:List D) (k:Key):Option D:=((ks.zip ds).find? fun p=>decide (p.1=k)).map (·.2)
def Ue (ks:List Key) (k:Key):List Key:=if hasK ks k=true then ks else ks++[k]
def Uf (ks:List Key) (ds:List D) (k:Key) (d:D):List D:=if hasK ks k=true then (ks.zip ds).map (fun p=>if p.1=k then d else p.2) else ds++[d]
section
variable {K:aaa} {A:Xx} {H:Hp}
def U6 {y:V} {d:D} {k:Key} (r:Rep K A H y d) (h:keyD d=some k):y=kV k:=by
 cases r with
 |int i=>cases h;rfl
 |str x _=>cases h;rfl
 |_=>cases h
theorem VX: ∀ {kvs:List (Key×V)} {ds:List D} (k:Key),Reps K A H (kvs.map (·.2)) ds->(∀d,valD (kvs.map (·.1)) ds k=some d-> ∃v,valV kvs k=some v/\Rep K A H v d)/\(valD (kvs.map (·.1)) ds k=none->valV kvs k=none)
 | [],ds,k,r=>⟨fun d h=>by simp [valD] at h,fun _=>rfl⟩
 | (k',v)::kvs,ds,k,r=>by
  cases r with
  | @cons _ _ _ d' _ ds' r1 r2=>
   have ih:=VX k r2
   by_cases hk:k'=k
   · subst hk;have e1:valD ((((k',v)::kvs)).map (·.1)) (d'::ds') k'=some d':=by simp [valD]
     have e2:valV ((k',v)::kvs) k'=some v:=by simp [valV]
     rw [e1,e2];exact ⟨fun d h=>by cases h;exact ⟨v,rfl,r1⟩,fun h=>by cases h⟩
   · have e1:valD ((((k',v)::kvs)).map (·.1)) (d'::ds') k=valD (kvs.map (·.1)) ds' k:=by simp [valD,hk]
     have e2:valV ((k',v)::kvs) k=valV kvs k:=by simp [valV,hk]
     rw [e1,e2];exact ih
def jcD (kvs:List (Key×V)) (k:Key):(kvs.any fun kv=>decide (kv.1=k))=hasK (kvs.map (·.1)) k:=by
 unfold hasK;rw [List.any_map];rfl
theorem Yy {v:V} {d:D} (k:Key) (rv:Rep K A H v d): ∀ {kvs:List (Key×V)} {ds:List D},Reps K A H (kvs.map (·.2)) ds->Reps K A H ((kvs.map (fun kv=>if kv.1=k then (kv.1,v) else kv)).map (·.2)) (((kvs.map (·.1)).zip ds).map (fun p=>if p.1=k then d else p.2))
 | [],_,.nil=> .nil
 | (k',v')::kvs,_,.cons r1 r2=>by
  have ih:=Yy k rv r2
  by_cases hk:k'=k
  · simp only [aaE,adB,hk,if_true];exact .cons rv (by simpa [hk] using ih)
  · simp only [aaE,adB,hk,if_false];exact .cons r1 ih
def jbi {v:V} {d:D} {kvs:List (Key×V)} {ds:List D} (k:Key) (r:Reps K A H (kvs.map (·.2)) ds) (rv:Rep K A H v d):
   (putK kvs k v).map (·.1)=Ue (kvs.map (·.1)) k/\Reps K A H ((putK kvs k v).map (·.2)) (Uf (kvs.map (·.1)) ds k d):=by
 unfold putK Ue Uf;rw [jcD]
 by_cases h:hasK (kvs.map (·.1)) k=true
 · rw [if_pos h,if_pos h,if_pos h];refine ⟨?_,Yy k rv r⟩;rw [abA];apply aeb;intro p _;simp
   split<;>rfl
 · rw [if_neg h,if_neg h,if_neg h];refine ⟨by simp,?_⟩;rw [acO];exact r.append (.cons rv .nil)
def Rep.dicE {v:V} {ks:List Key} {ds:List D} (r:Rep K A H v (.dic ks ds)): ∃a kvs,v= .ref a/\H a=some (.dK kvs)/\A a/\kvs.map (·.1)=ks/\Reps K (fun c=>A c/\c≠a) H (kvs.map (·.2)) ds:=by
 cases r with
 |dic e a k1 k2 r=>subst k2;exact ⟨_,_,rfl,e,a,k1,r⟩
end
def uo {K:aaa} {G:Xx} {H0 H:Hp} {env:Sl} {σ:L2.St} {i:Nat} {ks:List Key} {ds:List D} (k:EnvOk K G H0 env σ H) (hi:env[i]?=some (.own (.dic ks ds))): ∃a kvs,σ[i]?=some (some (.ref a))/\H a=some (.dK kvs)/\kvs.map (·.1)=ks/\Reps K (Sf G env σ) H (kvs.map (·.2)) ds:=by
 obtain ⟨a,h1,h0,h2⟩:=k.own i _ hi
 cases h2 with
 |dic e k1 k2 r=>subst k2;exact ⟨a,_,h1,e,k1,r⟩
def ownK (i:Nat) (env:Sl):Res (List Key×List D):=match env[i]? with
 |some (.own (.dic ks ds))=> .ok (ks,ds)
 |_=> .stuck
def ur {i:Nat} {env:Sl} {p:List Key×List D} (h:ownK i env= .ok p):env[i]?=some (.own (.dic p.1 p.2)):=by
 unfold ownK at h
 split at h
 · cases h;assumption
 · cases h
def EnvOk.putD {K:aaa} {G:Xx} {H0 H:Hp} {env:Sl} {σ:L2.St} {i:Nat} {ks:List Key} {ds:List D} {a:Addr} {kvs:List (Key×V)} {v:V} {d:D} {kk:Key} (k:EnvOk K G H0 env σ H) (hi:env[i]?=some (.own (.dic ks ds))) (ha:σ[i]?=some (some (.ref a))) (hx:H a=some (.dK kvs)) (hk:kvs.map (·.1)=ks)
  (r:Reps K (Sf G env σ) H (kvs.map (·.2)) ds) (rv:Rep K (Sf G env σ) H v d):EnvOk K G H0 (env.set i (.own (.dic (Ue ks kk) (Uf ks ds kk d)))) σ (upd H a (.dK (putK kvs kk v)))/\Frm env σ H (env.set i (.own (.dic (Ue ks kk) (Uf ks ds kk d)))) σ (upd H a (.dK (putK kvs kk v))):=by
 subst hk;obtain ⟨p1,p2⟩:=jbi kk r rv;exact k.writeG hi ha hx trivial fun A' H' st e w=> .dic e p1 rfl (p2.stay st w)
section
variable {X:Cx} {K:aaa} {l1 l2:Lv} {e1 e2:Expr} {fk fv:TL} {pos cpos apos p:Pos} {x:Str}
def jd0 (i:Nat) (fk fv:TL):Sl->Res Out:=fun env=>ownK i env>>=fun q=>fv env>>=fun d=>fk env>>=fun kd=>match keyD kd with
 |some k=>must (q.1.length<aaj) (.ok (.nx (env.set i (.own (.dic (Ue q.1 k) (Uf q.1 q.2 k d))))))
 |none=> .stuck
def jcc (i:Nat) (hu:X.A.units+1<cLine) (hk:DE X l1 e1 fk) (hv:DE X .s e2 fv) (hN:X.N[i]?=some x:=by rfl) (hvs:Vis X.env.scope x:=by first|exact abR rfl|exact abf (abR rfl)|exact abf (abf rfl))
   (hd:Yx x:=by decide) (hcd:Yw x:=by decide)
   (hs:aca e2 (some (.Subscript (.Name x p) e1 apos)) pos.line X.env=pure false:=by rfl):
   DS X (.Assign [.Subscript (.Name x p) e1 apos] e2 pos) (jd0 i fk fv):=by
 with_unfolding_all exact (
  PS.imp (Uk hu (zZ hN hvs hd hcd) hk hv hs) fun E σ H=>by
   rintro ⟨G,H0,env,o,k,ef,q⟩;obtain ⟨ks,c1,ef⟩:=jc ef;obtain ⟨d,c2,ef⟩:=jc ef;obtain ⟨kd,c3,c4⟩:=jc ef;have hi:=ur c1;obtain ⟨a,kvs,ha,hx,hkk,rs⟩:=uo k hi
   cases hkey:keyD kd with
   |none=>rw [hkey] at c4;cases c4
   |some kk=>
    rw [hkey] at c4;obtain ⟨hz,c5⟩:=jl c4;cases c5;refine ⟨G,H0,env,d,k,c2,fun v H1 s1 r1 _=>⟨.ref a,ha,G,H0,env,kd,k.grow s1,c3,fun y H2 s2 r2 _=>?_⟩⟩;have hx2:=s2 _ _ (s1 _ _ hx);have hy:=U6 (r2.weak Lv.weak_b) hkey;subst hy;have hl:kvs.length<aaj:=by rw [←hkk,aan] at hz;exact hz
    refine ⟨a,_,rfl,DPut.k hx2 hl,?_⟩;have W:=((k.grow s1).grow s2).putD (kk:=kk) hi ha hx2 hkk ((rs.grow s1).grow s2) (r1.grow s2)
    exact q σ _ W.1 ((W.2.grow s2).grow s1))
def kD:Key->D
 | .inl i=> .int i
 | .inr x=> .str x
theorem U7 {P:aaA} {w:World}: ∀ {ks:List (Key×Value)} {its:List Value},its.length=ks.length->(∀(j:Nat) (v:Value),its[j]?=some v-> ∃k x,ks[j]?=some (k,x)/\(jE P w).is k v=true)->Vals (ks.map fun q=>kV q.1) its
 | [],[],_,_=> .nil
 | [],_::_,h,_=>by simp at h
 |_::_,[],h,_=>by simp at h
 | (k,x)::ks,v::its,h,hv=>by
  obtain ⟨k',x',e,hk⟩:=hv 0 v rfl;simp at e;obtain ⟨rfl,rfl⟩:=e;refine .cons ?_ (U7 (by simpa using h) fun j u hu=>hv (j+1) u (by simpa using hu))
  cases k with
  |inl i=>
   obtain ⟨t,rfl⟩:=aet hk;exact ⟨t,rfl⟩
  |inr z=>
   obtain ⟨t,rfl⟩:=Value.isStrOf_shape hk;exact ⟨t,rfl⟩
def Vd (hc:X.calm=true):CallR X (.type "list") (fun xs H Q=> ∃a kvs,xs=[.ref a]/\H a=some (.dK kvs)/\ ∀l,H l=none->Q (.ref l) (upd H l (.lst (kvs.map fun q=>kV q.1)))):=by
 intro pins s σ H xs us Q I r h;obtain ⟨a,kvs,rfl,ha,q⟩:=h;obtain ⟨u,rfl,rx⟩:=xm r;cases rx;obtain ⟨hz,hd,vs,rel,dd⟩:=jaf I.hok ha;have hvl:vs.length<=aaj:=by rw [←rel.length];exact hz
 obtain ⟨ep,hat⟩:=dd.dictAt;refine PySem.W.kdl_call (PySem.W.kdl_dict hd) (I.ok.hd hc) hat hvl fun h' tk acc' c' hk hS hacc=>?_
 have hv:=U7 (by rw [aar];exact hacc.1) fun j v e=>hacc.2 j v (by rw [←aas];exact e)
 have hkeys:(vs.map fun q=>kV q.1)=(kvs.map fun q=>kV q.1):=by
  have:=rel.keys;have h2:=congrArg (List.map kV) this;simp at h2;exact h2.symm
 rw [hkeys] at hv;refine ⟨.ref s.heap.objs.size,_,I.laid hk (aah _) (show ObjOk X.prog X.w _ h' _ (.lst (kvs.map fun q=>kV q.1)) from ⟨by rw [aan];exact hz,acc'.toList,c',hv,by rw [Array.toArray_toList];exact hS⟩),rfl,q _ (I.hok.fresh (aah _))⟩
def jbM:List D->Res D
 | [.dic ks _]=>must ((ks.all fun k=>match k with| .inl _=>true| .inr _=>false)=true) (.ok (.lst (ks.map kD)))
 |_=> .stuck
def jat:xP K (fun xs H Q=> ∃a kvs,xs=[.ref a]/\H a=some (.dK kvs)/\ ∀l,H l=none->Q (.ref l) (upd H l (.lst (kvs.map fun q=>kV q.1)))) jbM:=by
 intro A xs H ds d Q r e q;unfold jbM at e
 split at e
 · rename_i ks vs;obtain ⟨hall,e2⟩:=jl e;cases e2;obtain ⟨v,rfl,r1⟩:=r.one;obtain ⟨p,kvs,rfl,hp,_,rfl,_⟩:=r1.dicE;refine ⟨p,kvs,rfl,hp,fun l hl=>q _ _ (Same.upd hl) (.lst jj (.inl hl) ?_) (jQ (Same.refl H) hl)⟩
   have key: ∀(kvs:List (Key×V)),((kvs.map (·.1)).all fun k=>match k with| .inl _=>true| .inr _=>false)=true-> ∀(A':Xx) (H':Hp),Reps K A' H' (kvs.map fun q=>kV q.1) ((kvs.map (·.1)).map kD):=by
    intro kvs
    induction kvs with
    |nil=>intro _ A' H';exact .nil
    |cons q r ih=>
     intro h A' H';simp only [aaE,adz,aaG] at h;obtain ⟨k,v⟩:=q
     cases k with
     |inl i=>exact .cons (.int i) (ih h.2 A' H')
     |inr z=>cases h.1
   exact key kvs hall _ _
 · cases e
end
end M
namespace M
open PySem PySem.W PyProof.Rows
def Wk {α:Type} (lt:Nat->Nat->Bool) (n:Nat) (R:α->Prop):KasT α->Prop
 | .ret a=>R a
 | .ask i j k=>i<n/\j<n/\Wk lt n R (k (lt i j))
theorem Wk.bind {α β:Type} {lt:Nat->Nat->Bool} {n:Nat} {R:α->Prop} {R':β->Prop} {f:α->KasT β} (hf: ∀a,R a->Wk lt n R' (f a)): ∀ {t:KasT α},Wk lt n R t->Wk lt n R' (t.bind f)
 | .ret a,h=>hf a h
 | .ask i j k,h=>⟨h.1,h.2.1,Wk.bind hf h.2.2⟩
theorem Wk.imp {α:Type} {lt:Nat->Nat->Bool} {n:Nat} {R R':α->Prop} (hr: ∀a,R a->R' a): ∀ {t:KasT α},Wk lt n R t->Wk lt n R' t
 | .ret a,h=>hr a h
 | .ask i j k,h=>⟨h.1,h.2.1,Wk.imp hr h.2.2⟩
theorem jaK {α:Type} {lt:Nat->Nat->Bool} {n:Nat} {R:α->Prop} {Q:α->aaf->Prop} {P:aaf->Prop} {cmp:Nat->Nat->(Bool->aaf->Prop)->aaf->Prop}
  (hc: ∀i j C s,i<n->j<n->P s->(∀s',P s'->C (lt i j) s')->cmp i j C s) (hQ: ∀a s,R a->P s->Q a s): ∀(t:KasT α) (s:aaf),Wk lt n R t->P s->t.kasWp cmp Q s
 | .ret a,s,h,hs=>hQ a s h hs
 | .ask i j k,s,h,hs=>hc i j _ s h.1 h.2.1 hs fun s' hs'=>jaK hc hQ _ s' h.2.2 hs'
structure Ord (lt:Nat->Nat->Bool) (n:Nat):Prop where
 asym: ∀i j,lt i j=true->lt j i=false
 trans: ∀i j k,i<n->j<n->k<n->lt i j=true->lt j k=true->lt i k=true
 total: ∀i j,i<n->j<n->i≠j->lt i j=true\/lt j i=true
abbrev at0 (p:Array Nat) (i:Nat):Nat:=p.getD i 0
structure Pm (p:Array Nat) (n:Nat):Prop where
 size:p.size=n
 perm:p.toList.Perm (aa6 n)
def xK {p:Array Nat} {i:Nat} (h:i<p.size):p[i]?=some (at0 p i):=by
 rw [aau h];simp [at0,aex,h]
def Pm.lt {p:Array Nat} {n i:Nat} (h:Pm p n) (hi:i<n):at0 p i<n:=by
 have hi':i<p.size:=by rw [h.size];exact hi
 have:at0 p i∈p.toList:=by simp [at0,aex,hi']
 exact aaV.mp (h.perm.mem_iff.mp this)
def Pm.ne {p:Array Nat} {n i j:Nat} (h:Pm p n) (hi:i<n) (hj:j<n) (hij:i≠j):at0 p i≠at0 p j:=by
 have nd:=h.perm.nodup_iff.mpr adZ;have hi':i<p.toList.length:=by simp [h.size,hi]
 have hj':j<p.toList.length:=by simp [h.size,hj]
 intro e;have e1:at0 p i=p.toList[i]:=by simp [at0,aex,h.size,hi]
 have e2:at0 p j=p.toList[j]:=by simp [at0,aex,h.size,hj]
 rw [e1,e2] at e;have pw:=abt.mp nd;rcases Nat.lt_or_gt_of_ne hij with z|z
 · exact pw i j hi' hj' z e
 · exact pw j i hj' hi' z e.symm
def Pm.of {p q:Array Nat} {n:Nat} (h:Pm p n) (hs:q.size=p.size) (hp:q.Perm p):Pm q n:=⟨by rw [hs,h.size],(Array.perm_iff_toList_perm.mp hp).trans h.perm⟩
def Pm.rev {p:Array Nat} {n:Nat} (h:Pm p n) (i j:Nat):Pm (kas_rev p i j) n:=h.of (mirror_size _ _ _ _) (mirror_perm _ _ _ _)
def vD {p:Array Nat} {n j k:Nat} (h:Pm p n) (hj:j<=n) (hk:k<n):at0 (kas_rev p 0 j) k=if k<j then at0 p (j-1-k) else at0 p k:=by
 have hR:=h.rev 0 j;have e:=getElem?_mirror_all (i:=0) (by rw [h.size];exact hj) k;have e1:=xK (by rw [hR.size];exact hk);unfold kas_rev at e1;rw [e] at e1;simp only [aa4,true_and,Nat.zero_add] at e1
 split at e1
 · rename_i hkj;rw [if_pos hkj];rw [xK (by rw [h.size];omega)] at e1;exact (aaD e1).symm
 · rename_i hkj;rw [if_neg hkj];rw [xK (by rw [h.size];exact hk)] at e1;exact (aaD e1).symm
section
variable {lt:Nat->Nat->Bool} {n:Nat} (O:Ord lt n)
def Up (lt:Nat->Nat->Bool) (p:Array Nat) (k:Nat):Prop:= ∀i j,i<j->j<k->lt (at0 p i) (at0 p j)=true
def Down (lt:Nat->Nat->Bool) (p:Array Nat) (k:Nat):Prop:= ∀i j,i<j->j<k->lt (at0 p j) (at0 p i)=true
include O
theorem Up.snoc {p:Array Nat} {k:Nat} (hp:Pm p n) (hk:k+1<n) (h:Up lt p (k+1)) (hl:lt (at0 p k) (at0 p (k+1))=true):Up lt p (k+2):=fun i j hij hj=>by
 by_cases e:j=k+1
 · subst e
   by_cases e2:i=k
   · subst e2;exact hl
   · exact O.trans _ _ _ (hp.lt (by omega)) (hp.lt (by omega)) (hp.lt hk) (h i k (by omega) (by omega)) hl
 · exact h i j hij (by omega)
theorem Down.snoc {p:Array Nat} {k:Nat} (hp:Pm p n) (hk:k+1<n) (h:Down lt p (k+1)) (hl:lt (at0 p (k+1)) (at0 p k)=true):Down lt p (k+2):=fun i j hij hj=>by
 by_cases e:j=k+1
 · subst e
   by_cases e2:i=k
   · subst e2;exact hl
   · exact O.trans _ _ _ (hp.lt hk) (hp.lt (by omega)) (hp.lt (by omega)) hl (h i k (by omega) (by omega))
 · exact h i j hij (by omega)
theorem jcK {p:Array Nat} {i j:Nat} (hp:Pm p n) (hi:i<n) (hj:j<n) (hij:i≠j) (h:lt (at0 p i) (at0 p j)=false):lt (at0 p j) (at0 p i)=true:=by
 rcases O.total _ _ (hp.lt hi) (hp.lt hj) (hp.ne hi hj hij) with z|z
 · rw [h] at z;cases z
 · exact z
theorem jcA {p:Array Nat} (hp:Pm p n): ∀(f m:Nat),1<=m->m+f=n->Up lt p m->Wk lt n (fun r=>m<=r/\r<=n/\Up lt p r/\(r<n->lt (at0 p r) (at0 p (r-1))=true)) (kas_asc p f m)
 |0,m,h1,h2,h=>⟨aah _,by omega,h,fun z=>by omega⟩
 |f+1,m,h1,h2,h=>by
  refine ⟨hp.lt (by omega),hp.lt (by omega),?_⟩
  cases hc:lt (p.getD m 0) (p.getD (m-1) 0) with
  |true=>
   exact ⟨aah _,by omega,h,fun _=>hc⟩
  |false=>
   have hup:Up lt p (m+1):=by
    have e:m=(m-1)+1:=by omega
    have hl:=jcK O hp (by omega) (by omega) (by omega) hc;rw [e] at h ⊢;exact Up.snoc O hp (by omega) h (by rw [←e];exact hl)
   have ih:=jcA hp f (m+1) (by omega) (by omega) hup;exact Wk.imp (fun r ⟨a,b,c,d⟩=>⟨by omega,b,c,d⟩) ih
theorem jaZ {p:Array Nat} (hp:Pm p n): ∀(f m:Nat),1<=m->m+f=n->Down lt p m->Wk lt n (fun r=>r.1=p/\m<=r.2.1/\r.2.1<=n/\Down lt p r.2.1/\r.2.2=0) (kas_desc f p m 0)
 |0,m,h1,h2,h=>⟨rfl,aah _,(show m<=n by omega),h,rfl⟩
 |f+1,m,h1,h2,h=>by
  refine ⟨hp.lt (by omega),hp.lt (by omega),?_⟩
  cases hc:lt (p.getD m 0) (p.getD (m-1) 0) with
  |true=>
   have hdn:Down lt p (m+1):=by
    have e:m=(m-1)+1:=by omega
    have hl:=hc;rw [e] at h ⊢;exact Down.snoc O hp (by omega) h (by rw [←e];exact hl)
   have ih:=jaZ hp f (m+1) (by omega) (by omega) hdn;exact Wk.imp (fun r ⟨a,b,c,d,e⟩=>⟨a,by omega,c,d,e⟩) ih
  |false=>
   have hl:=jcK O hp (by omega) (by omega) (by omega) hc;refine ⟨hp.lt (by omega),hp.lt (by omega),?_⟩;show Wk lt n _ (if lt (at0 p (m-1)) (at0 p m)=true then _ else _);rw [if_pos hl];exact ⟨rfl,aah _,(show m<=n by omega),h,rfl⟩
theorem Down.rev {p:Array Nat} {k:Nat} (hp:Pm p n) (hk:k<=n) (h:Down lt p k):Up lt (kas_rev p 0 k) k:=fun i j hij hj=>by
 rw [vD hp hk (by omega),vD hp hk (by omega),if_pos (by omega),if_pos hj];exact h _ _ (by omega) (by omega)
theorem jcR {p:Array Nat} {k:Nat} (hp:Pm p n) (h1:1<=k) (hk:k<=n) (h:Down lt p k):Wk lt n (fun r=>1<=r.1/\r.1<=n/\Pm r.2 n/\Up lt r.2 r.1) (kas_tail3 k n p):=by
 unfold kas_tail3;refine Wk.bind (fun r ⟨a,b,c,_⟩=>?_) (jcA O (hp.rev 0 k) (n-k) k h1 (by omega) (Down.rev O hp hk h));exact ⟨by omega,b,hp.rev 0 k,c⟩
theorem jcp {p:Array Nat} (hp:Pm p n) (hn:1<=n):Wk lt n (fun r=>1<=r.1/\r.1<=n/\Pm r.2 n/\Up lt r.2 r.1) (kas_count n p):=by
 unfold kas_count;refine Wk.bind (fun r ⟨a,b,c,d⟩=>?_) (jcA O hp (n-1) 1 (aah _) (by omega) (fun i j hij hj=>by omega))
 by_cases e:r=n
 · subst e;rw [if_pos (by simp)];exact ⟨a,b,hp,c⟩
 · rw [if_neg (by simpa using e)]
   by_cases h1:r>1
   · rw [if_pos h1];refine ⟨hp.lt (by omega),hp.lt (by omega),?_⟩;have:lt (p.getD 0 0) (p.getD (r-1) 0)=true:=c 0 (r-1) (by omega) (by omega);show Wk lt n _ (if lt (p.getD 0 0) (p.getD (r-1) 0)=true then _ else _);rw [if_pos this];exact ⟨a,b,hp,c⟩
   · rw [if_neg h1];have hr:r=1:=by omega
     subst hr;unfold kas_descPart
     have hd:Down lt p 2:=fun i j hij hj=>by
      have:i=0/\j=1:=by omega
      obtain ⟨rfl,rfl⟩:=this;exact d (by omega)
     refine Wk.bind (fun q ⟨q1,q2,q3,q4,q5⟩=>?_) (jaZ O hp (n-2) 2 (by omega) (by omega) hd);rw [if_neg (by omega),q1];exact jcR O hp (by omega) q3 q4
theorem XF {p:Array Nat} {k:Nat} (hp:Pm p n) (hk:k<n) (hu:Up lt p k): ∀(f l r:Nat),l<=r->r<=k->r-l<=f->(∀i,i<l->lt (at0 p i) (at0 p k)=true)->(∀i,r<=i->i<k->lt (at0 p k) (at0 p i)=true)->
  Wk lt n (fun m=>m<=k/\(∀i,i<m->lt (at0 p i) (at0 p k)=true)/\ ∀i,m<=i->i<k->lt (at0 p k) (at0 p i)=true) (kas_place p k f l r)
 |0,l,r,h1,h2,h3,hl,hr=>⟨by omega,hl,fun i a b=>hr i (by omega) b⟩
 |f+1,l,r,h1,h2,h3,hl,hr=>by
  unfold kas_place
  by_cases e:l>=r
  · rw [if_pos e];exact ⟨by omega,hl,fun i a b=>hr i (by omega) b⟩
  · rw [if_neg e];have hm:(l+r)/2<r:=by omega
    refine ⟨hp.lt hk,hp.lt (by omega),?_⟩
    cases hc:lt (p.getD k 0) (p.getD ((l+r)/2) 0) with
    |true=>
     refine XF hp hk hu f l ((l+r)/2) (by omega) (by omega) (by omega) hl fun i a b=>?_
     by_cases e2:i=(l+r)/2
     · rw [e2];exact hc
     · exact O.trans _ _ _ (hp.lt hk) (hp.lt (show (l+r)/2<n by omega)) (hp.lt (by omega)) hc (hu _ _ (by omega) b)
    |false=>
     have hl2:=jcK O hp hk (by omega) (by omega) hc;refine XF hp hk hu f ((l+r)/2+1) r (by omega) h2 (by omega) (fun i a=>?_) hr
     by_cases e2:i=(l+r)/2
     · rw [e2];exact hl2
     · exact O.trans _ _ _ (hp.lt (by omega)) (hp.lt (show (l+r)/2<n by omega)) (hp.lt hk) (hu _ _ (by omega) (by omega)) hl2
theorem Q1 {p:Array Nat} {k l i:Nat} (hp:Pm p n) (hk:k<n) (hl:l<=k) (hi:i<n):at0 (bubble p k (k-l)) i=if i=l then at0 p k else if l<i/\i<=k then at0 p (i-1) else at0 p i:=by
 have hB:Pm (bubble p k (k-l)) n:=hp.of (bubble_size _ _ _) (bubble_perm _ _ _);have e:=getElem?_bubble (by rw [hp.size];exact hk) (k-l) (by omega) i;rw [xK (by rw [hB.size];exact hi)] at e;have ekl:k-(k-l)=l:=by omega
 rw [ekl] at e
 split at e
 · rename_i z;rw [if_pos z];rw [xK (by rw [hp.size];exact hk)] at e;exact aaD e
 · rename_i z;rw [if_neg z]
   split at e
   · rename_i z2;rw [if_pos z2];rw [xK (by rw [hp.size];omega)] at e;exact aaD e
   · rename_i z2;rw [if_neg z2];rw [xK (by rw [hp.size];exact hi)] at e;exact aaD e
theorem jeb : ∀ (f : Nat) (p : Array Nat) (k : Nat), Pm p n -> k + f = n -> Up lt p k -> Wk lt n (fun q => Pm q n /\ Up lt q n) (kas_bin f p k)
  | 0, p, k, hp, hk, h => ⟨hp, by have : k = n := by omega
                                  rw [this] at h; exact h⟩
  | f + 1, p, k, hp, hk, h => by
    unfold kas_bin
    refine Wk.bind (fun l ⟨a, b, c⟩ => ?_) (XF O hp (by omega) h k 0 k (by omega) (aah _) (by omega) (fun i z => by omega) (fun i z w => by omega))
    refine jeb f _ (k + 1) (hp.of (bubble_size _ _ _) (bubble_perm _ _ _)) (by omega) fun i j hij hj => ?_
    rw [Q1 O hp (by omega) a (by omega), Q1 O hp (by omega) a (by omega)]
    by_cases e1 : i = l
    · rw [if_pos e1, if_neg (by omega), if_pos (by omega)]
      exact c _ (by omega) (by omega)
    · rw [if_neg e1]
      by_cases e2 : l < i /\ i <= k
      · rw [if_pos e2, if_neg (by omega), if_pos (by omega)]
        exact h _ _ (by omega) (by omega)
      · rw [if_neg e2]
        by_cases e3 : j = l
        · rw [if_pos e3]; exact b _ (by omega)
        · rw [if_neg e3]
          by_cases e4 : l < j /\ j <= k
          · rw [if_pos e4]
            by_cases e5 : i = j - 1
            · omega
            · exact h _ _ (by omega) (by omega)
          · rw [if_neg e4]; exact h _ _ hij (by omega)
theorem jcY (hn:1<=n):Wk lt n (fun q=>Pm q n/\Up lt q n) (kas_sort n):=by
 have hp:Pm (adk (aa6 n)) n:=⟨by simp,by simp⟩
 unfold kas_sort;refine Wk.bind (fun r ⟨a,b,c,d⟩=>?_) (jcp O hp hn)
 by_cases e:r.1<n
 · rw [if_pos e];have:max r.1 1=r.1:=by omega
   rw [this];exact jeb O _ _ _ c (by omega) d
 · rw [if_neg e];have:r.1=n:=by omega
   rw [this] at d;exact ⟨c,d⟩
end
section
variable {prog:aaA} {w:World} {A:aaU} {E:Xw} {s:aaf} {a:Addr} {vs:List Value} {n:Nat}
def zf (h:Heap) (a:Addr) (vs:List Value):Heap:=((h.update a (acA fun _=>(#[]:Array Value))).push (adC "tuple" vs.toArray 0)).push (adC "list" #[] 0)
def XL (vs:List Value) (p:Array Nat):List Value:=p.toList.map fun i=>vs.getD i ab5
def yg {h:Heap} {b:Addr} {o:Obj} (hb:b≠a) (e:h.get? b=some o):(zf h a vs).get? b=some o:=
 aae _ (aae _ ((ab2 _ _ (acD hb)).trans e))
def ZB {P:PySem.Fin->aaf->Prop} {lt:Nat->Nat->Bool} (O:Ord lt vs.length) (κ:SortKind) (ho:s.heap.get? a=some (adC "list" vs.toArray n)) (h2:2<=vs.length) (h64:vs.length<64)
  (hk: ∀Q:SortKind->aaf->Prop,Q κ {s with heap:=zf s.heap a vs}->wpAny (model prog w) A (keyKind' vs.toArray) Q (fun _ _=>False) {s with heap:=zf s.heap a vs})
  (hc: ∀i j C,i<vs.length->j<vs.length->C (lt i j) {s with heap:=zf s.heap a vs}->kas_ask prog w A κ vs i j C {s with heap:=zf s.heap a vs})
  (h: ∀p h' c,Pm p vs.length->Up lt p vs.length->(∀b o,b≠a->s.heap.get? b=some o->h'.get? b=some o)->h'.get? a=some (adC "list" (adk (XL vs p)) c)->P (.done (.ret .none)) {s with heap:=h'}):
  wpAny (model prog w) A (adf.«list.sort» ⟨[.ref a],[]⟩) P E s:=by
 obtain ⟨c1,b1⟩: ∃c1,(s.heap.update a (acA fun _=>(#[]:Array Value))).get? a=some (adC "list" #[] c1):=⟨_,aec ho fun _=> #[]⟩
 have b2:(zf s.heap a vs).get? a=some (adC "list" #[] c1):=aae _ (aae _ b1);have big:vs.length<=aaj:=by rw [abD];omega
 have walk:(kas_sort vs.length).kasWp (kas_ask prog w A κ vs) (fun p t=>t={s with heap:=zf s.heap a vs}/\Pm p vs.length/\Up lt p vs.length) {s with heap:=zf s.heap a vs}:=
  jaK (P:=fun t=>t={s with heap:=zf s.heap a vs}) (fun i j C t hi hj ht hC=>by subst ht;exact hc i j C hi hj (hC _ rfl)) (fun p t hp ht=>⟨ht,hp⟩) _ _ (jcY O (by omega)) rfl
 rw [list_sort_plain];refine aab (listItems_at ho rfl (aab (listUpdate_at ho rfl (aab (seqEpoch_at b1 rfl (aab (wpAny_newTuple (aab (wpAny_newList (aa3 ?_) (aa4 _))) (by show vs.length<=aaj;exact big))))) (by rw [aag];exact big) (aa4 _))));dsimp only;have small: ¬vs.toArray.size<2:=by rw [aag];omega
 rw [if_neg small,if_neg small];refine aab (abX (hk (fun κ' t=>κ'=κ/\t={s with heap:=zf s.heap a vs}) ⟨rfl,rfl⟩) (fun κ' t hkt=>?_) fun _ _ z=>z.elim);obtain ⟨rfl,rfl⟩:=hkt;refine aab (abX (kat_run (Q:=fun st t=> ∃p:Array Nat,p.size=vs.length/\arrOf st=p.map (kas_item (vs.toArray.zip vs.toArray))/\failedOf st=none/\t={s with heap:=zf s.heap a vs}/\Pm p vs.length/\Up lt p vs.length) rfl h2 h64 (fun p st t z1 z2 z3 z4=>⟨p,z1,z2,z3,z4⟩) walk) ?_ fun _ _ z=>z);rintro ⟨⟨⟩,st⟩ t ⟨p,hp,har,hf,rfl,hpm,hup⟩;dsimp only;have hsz:(adk (XL vs p)).size<=aaj:=by rw [aag];unfold XL;rw [aan,aar,hp];exact big
 rw [kat_snds rfl har];obtain ⟨c2,hc2⟩: ∃c2,((zf s.heap a vs).update a (acA fun _=>adk (XL vs p))).get? a=some (adC "list" (adk (XL vs p)) c2):=⟨_,aec b2 fun _=>adk (XL vs p)⟩
 refine aab (seqEpoch_at b2 rfl (aab (listUpdate_at b2 rfl ?_ (aa4 _) (Nat.le_succ_of_le hsz))));rw [hf];simp;exact aad (h p _ c2 hpm hup (fun b o hb e=>(ab2 _ _ (acD hb)).trans (yg hb e)) hc2)
end
def DAt (h:Heap) (d:Addr) (ks:List Value) (ep:Nat):Prop:= ∃o es,h.get? d=some o/\o.ExactDict/\o.data= .dict es ep/\es.toList.map (·.key)=ks
section
variable {prog:aaA} {w:World} {A:aaU} {E:Xw} {s:aaf} {d it:Addr} {ks:List Value} {ep i:Nat}
def DAt.typeIs (x:DAt s.heap d ks ep):s.TypeIs (.ref d) "dict" :=let ⟨o,es,ho,hc,_⟩:=x;⟨o,ho,hc.1⟩
def DAt.at {h h':Heap} (x:DAt h d ks ep) (e: ∀o,h.get? d=some o->h'.get? d=some o):DAt h' d ks ep:=let ⟨o,es,ho,r⟩:=x;⟨o,es,e _ ho,r⟩
def DAt.lt {h:Heap} (x:DAt h d ks ep):d<h.objs.size:=let ⟨_,_,ho,_⟩:=x;aao ho
def jam {Q:Xw} (hd:(d==abY)=false) (hm:DAt s.heap d ks ep)
  (hQ:Q (.ref s.heap.objs.size) {s with heap:=s.heap.push {cls:= .type "dict_keyiterator",data:= .fields #[.ref d,.int 0 0,.int ks.length 0,.int ep 0]}}):wpAny (model prog w) A (pyIter (.ref d)) Q E s:=by
 obtain ⟨o,es,ho,hc,hdat,hkeys⟩:=id hm;have T:=hm.typeIs;have hsz:es.size=ks.length:=by rw [←hkeys];simp
 refine wpAny_pyIter_slot T PySem.F.slot_dict_iter (ab7 PySem.F.slot_dict_iter T PySem.F.entry_dict_iter ?_ (PySem.F.args_dict_iter_1 _));unfold adf.«dict.__iter__» Builtin.Dict.dictSlotNone;refine aab (aab (wpAny_notOrdered_dict T (show wpAny _ _ (pure (aaz d)) _ _ s from aad ?_)));show wpAny _ _ (aeX d>>=_) _ _ s;unfold aeX;rw [if_neg (by rw [hd];exact aaC)];refine aab (aad (aab (wpAny_dictEntries ho hdat (aab (wpAny_dictEpoch ho hdat (aab (abF (aad ⟨_,rfl, "dict_keyiterator",_,⟨_,aap _ rfl,rfl⟩,abd.lookup,?_⟩))))))));simpa [rawInt,hsz] using hQ
def jan {Q:Option Value->aaf->Prop} {k:Value} (hit:s.heap.IsKeyIter it d i ks.length ep) (hm:DAt s.heap d ks ep) (hx:ks[i]?=some k)
  (hQ: ∀h',h'.IsKeyIter it d (i+1) ks.length ep->ab9 it s.heap h'->Q (some k) {s with heap:=h'}):wpAny (model prog w) A (pyNext (.ref it)) Q E s:=by
 obtain ⟨o,ho,hc,hf⟩:=id hit;obtain ⟨od,es,hod,hcd,hdd,hkeys⟩:=id hm;have hsz:es.size=ks.length:=by rw [←hkeys];simp
 have hlt:i<es.size:=by
  rw [hsz];rcases Nat.lt_or_ge i ks.length with z|z
  · exact z
  · rw [aaM z] at hx;cases hx
 have hk:es[i].key=k:=by
  have:(es.toList.map (·.key))[i]?=some k:=by rw [hkeys];exact hx
  rw [aaO] at this;simpa [hlt] using this
 unfold pyNext;refine aab (wpAny_attempt (act hit.typeIs abd (ab7 abd hit.typeIs adh ?_ (ac8 _))));refine aab (aad (aab (aab ?_)))
 first|refine aab (abU hit.typeIs (aad (aab (aer ho hf ?_))))|refine aab (acq hit.typeIs (aad (aab (aer ho hf ?_))))
 simp only [show ad6 "dict_keyiterator" =false by decide,aaQ,if_false];show wpAny _ _ (if (aaz d==ab5)=true then _ else _) _ _ s;rw [if_neg (show¬((aaz d==ab5)=true) by exact aaC)];refine aab (aad (aab (wpAny_dictEntries hod hdd ?_)));rw [if_neg (by rw [hsz];simp)];refine aab (aad (aab (wpAny_dictEpoch hod hdd ?_)));rw [if_neg (by simp)];refine aad ?_;simp only [show¬((i:Int)<0) by omega,if_false,Int.toNat_natCast,aau hlt];refine aab ?_
 first|refine aab (abU hit.typeIs (aad (aab (adS hit.typeIs ?_))))|refine aab (acq hit.typeIs (aad (aab (adS hit.typeIs ?_))))
 show wpAny _ _ (setField (.ref it) 1 (rawInt ((i:Int)+1))>>=_) _ _ s;refine aab (wpAny_setField ho hf (by simp) (aab (aa3 ?_)))
 have hit2:(s.heap.update it (Obj.mapFields (·.setIfInBounds 1 (rawInt ((i:Int)+1))))).IsKeyIter it d (i+1) ks.length ep:=
  ⟨_,adR _ ho (Obj.isFreed_of_fields (Obj.data_mapFields hf _)),(Obj.cls_mapFields ..).trans hc,by rw [Obj.data_mapFields hf];simp [rawInt]⟩
 refine aab (adS hit2.typeIs ?_);rw [hk];exact aad (aad ⟨_,rfl,aad (hQ _ hit2 (adi ..))⟩)
def jcn {Q:Option Value->aaf->Prop} (hh:A.handled=none) (hit:s.heap.IsKeyIter it d ks.length ks.length ep) (hm:DAt s.heap d ks ep)
  (hQ: ∀h',Heap.ExtBut it s.heap h'->Q none {s with heap:=h'}):wpAny (model prog w) A (pyNext (.ref it)) Q E s:=by
 obtain ⟨o,ho,hc,hf⟩:=id hit;obtain ⟨od,es,hod,hcd,hdd,hkeys⟩:=id hm;have hsz:es.size=ks.length:=by rw [←hkeys];simp
 unfold pyNext;refine aab (wpAny_attempt (act hit.typeIs abd (ab7 abd hit.typeIs adh ?_ (ac8 _))));refine aab (aad (aab (aab ?_)))
 first|refine aab (abU hit.typeIs (aad (aab (aer ho hf ?_))))|refine aab (acq hit.typeIs (aad (aab (aer ho hf ?_))))
 simp only [show ad6 "dict_keyiterator" =false by decide,aaQ,if_false];show wpAny _ _ (if (aaz d==ab5)=true then _ else _) _ _ s;rw [if_neg (show¬((aaz d==ab5)=true) by exact aaC)];refine aab (aad (aab (wpAny_dictEntries hod hdd ?_)));rw [if_neg (by rw [hsz];simp)];refine aab (aad (aab (wpAny_dictEpoch hod hdd ?_)));rw [if_neg (by simp)];refine aad ?_;simp only [show¬(((ks.length:Nat):Int)<0) by omega,if_false,Int.toNat_natCast,Array.getElem?_eq_none (show es.size<=ks.length by omega)];refine aab ?_
 first|refine aab (abU hit.typeIs (aad ?_))|refine aab (acq hit.typeIs (aad ?_))
 show wpAny _ _ (setField (.ref it) 0 .none>>=_) _ _ s;refine aab (wpAny_setField ho hf (by simp) ?_);refine aab ?_;simp only [newExc,newTuple];refine aab (abF (aab (wpAny_of_eq (by first|rfl| (simp;rfl)) (abF ?_ (by size_fits)))) (by size_fits));simp only [raiseNew];refine aab (wpAny_handled ?_);rw [show A.in1.handled=none from hh];refine aab (aad (wpAny_throw ?_));refine aab (adW ⟨_,aap _ rfl,rfl⟩ isSubtype_stop ?_);exact aad (hQ _ (((adi ..).extBut.push _).push _))
def vj (lo:(d==abY)=false):KdlSrc prog w "dict" d d ks.length (fun i v=>ks[i]?=some v) (fun h=>DAt h d ks ep) where
 type:=fun _ hm=>hm.typeIs
 there:=fun _ hm=>⟨hm.lt,hm.lt⟩
 keep:=fun _ _ hm hk=>hm.at fun o e=>hk d (.inl rfl) o e
 notList:=by decide
 notTuple:=by decide
 hint:=fun _ _ _ _ hm hq=>kdl_hint_dict hm.typeIs hq
 iter:=fun A s hh hm=>⟨_,(fun i h=>h.IsKeyIter s.heap.objs.size d i ks.length ep/\DAt h d ks ep),(fun _ _ hq=>jam lo hm hq),{
  sub:=fun b hb=>by simp at hb;simp [hb]
  frame:=fun _ _ _ st hk=>⟨let ⟨o,ho,r⟩:=st.1;⟨o,hk _ (by simp) o ho,r⟩,st.2.at fun o e=>hk d (by simp) o e⟩
  item:=fun i t Q E hi st hQ=>by
   have hx:ks[i]?=some ks[i]:=by simp [hi]
   exact jan st.1 st.2 hx fun h' hit' hs'=>hQ _ h' t.toks hx ⟨hit',st.2.at fun o e=>hs'.extBut d o (aax hm.lt) e⟩ fun b o hb e=>hs'.extBut b o (fun z=>hb (by simp [z])) e
  done:=fun t Q E st hQ=>jcn hh st.1 st.2 fun h' he'=>hQ h' t.toks fun b o hb e=>he' b o (fun z=>hb (by simp [z])) e
  self:=fun _ _ _ _ st hQ=>wpAny_pyIter_keyiter st.1 hQ},⟨⟨_,aap _ rfl,rfl,rfl⟩,hm.at fun o e=>aae _ e⟩⟩
end
abbrev Hd:=Str×Int
def hlt (a b:Hd):Bool:=if a.1=b.1 then decide (a.2<b.2) else decide (a.1.cps.toList<b.1.cps.toList)
def jbc {a b:Str} (h:a.cps.toList=b.cps.toList):a=b:=by
 cases a;cases b;simp;exact aeM.mp h
def YU {a b:Hd} (h:hlt a b=true):hlt b a=false:=by
 unfold hlt at h ⊢
 by_cases e:a.1=b.1
 · rw [if_pos e] at h;rw [if_pos e.symm];simp at h;simp;omega
 · rw [if_neg e] at h;rw [if_neg fun z=>e z.symm];simp at h;simp;exact List.lt_asymm h
def WR {a b c:Hd} (h1:hlt a b=true) (h2:hlt b c=true):hlt a c=true:=by
 unfold hlt at h1 h2 ⊢
 by_cases e:a.1=b.1
 · rw [if_pos e] at h1
   by_cases e2:b.1=c.1
   · rw [if_pos e2] at h2;rw [if_pos (e.trans e2)];simp at h1 h2 ⊢;omega
   · rw [if_neg e2] at h2;rw [if_neg (by rw [e];exact e2),e];exact h2
 · rw [if_neg e] at h1;simp at h1
   by_cases e2:b.1=c.1
   · rw [if_pos e2] at h2;rw [if_neg (by rw [←e2];exact e),←e2];simpa using h1
   · rw [if_neg e2] at h2;simp at h2;have h3:=List.lt_trans h1 h2;have e3:a.1≠c.1:=fun z=>List.lt_irrefl _ (by rw [z] at h3;exact h3)
     rw [if_neg e3];simpa using h3
def WS {a b:Hd} (h:a≠b):hlt a b=true\/hlt b a=true:=by
 unfold hlt
 by_cases e:a.1=b.1
 · have e2:a.2≠b.2:=fun z=>h (Prod.ext e z)
   rw [if_pos e,if_pos e.symm];simp;omega
 · rw [if_neg e,if_neg fun z=>e z.symm];simp only [decide_eq_true_eq];have:a.1.cps.toList≠b.1.cps.toList:=fun z=>e (jbc z)
   by_cases z:a.1.cps.toList<b.1.cps.toList
   · exact .inl z
   · exact .inr (Std.lt_of_le_of_ne z (acD this))
def hltI (hs:List Hd) (i j:Nat):Bool:=match hs[i]?,hs[j]? with
 |some a,some b=>hlt a b
 |_,_=>false
def UB {hs:List Hd} (nd:hs.Nodup):Ord (hltI hs) hs.length where
 asym:=fun i j h=>by
  unfold hltI at h ⊢
  cases hi:hs[i]? with
  |none=>rw [hi] at h;cases h
  |some a=>
    cases hj:hs[j]? with
    |none=>rfl
    |some b=>rw [hi,hj] at h;exact YU h
 trans:=fun i j k hi hj hk h1 h2=>by
  unfold hltI at h1 h2 ⊢;rw [aac hi,aac hj] at h1;rw [aac hj,aac hk] at h2;rw [aac hi,aac hk];exact WR h1 h2
 total:=fun i j hi hj hij=>by
  unfold hltI;rw [aac hi,aac hj];refine WS fun e=>?_
  have pw:=abt.mp nd;rcases Nat.lt_or_gt_of_ne hij with z|z
  · exact pw i j hi hj z e
  · exact pw j i hj hi z e.symm
def IsHd (h:Heap) (v:Value) (a:Hd):Prop:= ∃b o n t u,v= .ref b/\h.get? b=some o/\o.cls= .type "tuple" /\o.data= .seq #[.str a.1 t,.int a.2 u] n
section
variable {prog:aaA} {w:World} {A:aaU} {E:Xw} {s:aaf}
def jdP {x y:Addr} {ox oy:Obj} {a b:Hd} {n m:Nat} {t u t' u':Tok} {Q:Bool->aaf->Prop} (hx:s.heap.get? x=some ox) (dx:ox.data= .seq #[.str a.1 t,.int a.2 u] n) (hy:s.heap.get? y=some oy) (dy:oy.data= .seq #[.str b.1 t',.int b.2 u'] m) (h:Q (hlt a b) s):
   wpAny (model prog w) A (keyLt' (tuples' true) (.ref x) (.ref y)) Q E s:=by
 refine kat_lt hx dx hy dy ?_;refine kat_cons (eqBool_str (kat_go (fun e=>kat_yes (kat_cons (wpAny_eqBool_int (kat_go (fun e2=>kat_yes (kat_nil ?_)) fun e2=>kat_no (kat_one _ _ (wpAny_lt_int ?_)))))) fun e=>kat_no (oneLt_str ?_)))
 · have h1:a.1=b.1:=by simpa using e
   have h2:a.2=b.2:=by simpa using e2
   have:hlt a b=false:=by unfold hlt;rw [if_pos h1];simp [h2]
   rw [this] at h;exact h
 · have h1:a.1=b.1:=by simpa using e
   have:hlt a b=decide (a.2<b.2):=by unfold hlt;rw [if_pos h1]
   rw [this] at h;exact (show Q (decide (a.2<b.2)) s from h)
 · have h1:a.1≠b.1:=by simpa using e
   have:hlt a b=decide (a.1.cps.toList<b.1.cps.toList):=by unfold hlt;rw [if_neg h1]
   rw [this] at h;exact h
def IsHd.keep {h h':Heap} {v:Value} {a:Hd} (x:IsHd h v a) (k: ∀b o,h.get? b=some o->o.cls= .type "tuple" ->h'.get? b=some o):IsHd h' v a:=
 let ⟨b,o,n,t,u,e,ho,hc,hd⟩:=x;⟨b,o,n,t,u,e,k b o ho hc,hc,hd⟩
inductive AreHd (h:Heap):List Value->List Hd->Prop where
 |nil:AreHd h [] []
 |cons {v:Value} {a:Hd} {vs:List Value} {hs:List Hd}:IsHd h v a->AreHd h vs hs->AreHd h (v::vs) (a::hs)
theorem AreHd.length {h:Heap}: ∀ {vs:List Value} {hs:List Hd},AreHd h vs hs->vs.length=hs.length
 |_,_,.nil=>rfl
 |_,_,.cons _ t=>by simp [t.length]
theorem AreHd.keep {h h':Heap} (k: ∀b o,h.get? b=some o->o.cls= .type "tuple" ->h'.get? b=some o): ∀ {vs:List Value} {hs:List Hd},AreHd h vs hs->AreHd h' vs hs
 |_,_,.nil=> .nil
 |_,_,.cons x t=> .cons (x.keep k) (t.keep k)
theorem AreHd.get {h:Heap}: ∀ {vs:List Value} {hs:List Hd} {i:Nat} {a:Hd},AreHd h vs hs->hs[i]?=some a->IsHd h (vs.getD i ab5) a
 |_,_,0,a,.cons x t,e=>by simp at e;subst e;simpa using x
 |_,_,i+1,a,.cons x t,e=>by simpa using t.get (by simpa using e)
theorem AreHd.tups {h:Heap}: ∀ {vs:List Value} {hs:List Hd},AreHd h vs hs-> ∃fs,KatTups h vs fs/\fs.length=vs.length/\ ∀f∈fs,∃z t,f= .str z t
 |_,_,.nil=>⟨[],KatTups.nil,rfl,fun _ z=>nomatch z⟩
 |_,_,.cons x r=>by
  obtain ⟨fs,k1,k2,k3⟩:=r.tups;obtain ⟨b,o,n,t,u,rfl,ho,hc,hd⟩:=x
  exact ⟨_::fs,KatTups.cons ho hc hd rfl k1,by simp [k2],fun f hf=>by
   rcases aaJ.mp hf with rfl|hf
   · exact ⟨_,_,rfl⟩
   · exact k3 f hf⟩
def US {M:Model} {h:Heap} {z:Str} {t:Tok}:Looks M h (typeOf (.str z t)) (.type "str"):=Looks.of_pure rfl
def Kv {P:PySem.Fin->aaf->Prop} {a:Addr} {vs:List Value} {hs:List Hd} {n:Nat} (ho:s.heap.get? a=some (adC "list" vs.toArray n)) (hv:AreHd s.heap vs hs) (nd:hs.Nodup) (h2:2<=vs.length) (h64:vs.length<64)
   (h: ∀p h' c,Pm p vs.length->Up (hltI hs) p vs.length->(∀b o,b≠a->s.heap.get? b=some o->h'.get? b=some o)->h'.get? a=some (adC "list" (adk (XL vs p)) c)->P (.done (.ret .none)) {s with heap:=h'}):
   wpAny (model prog w) A (adf.«list.sort» ⟨[.ref a],[]⟩) P E s:=by
 have hl:=hv.length
 have keep: ∀b o,s.heap.get? b=some o->o.cls= .type "tuple" ->(zf s.heap a vs).get? b=some o:=fun b o e hc=>yg (fun z=>by
   subst z;rw [ho] at e;cases e;simp [adC] at hc) e
 have hv2:=hv.keep keep;obtain ⟨fs,k1,k2,k3⟩:=hv2.tups;refine ZB (by rw [hl];exact UB nd) (tuples' (adK "str" !=adK "tuple")) ho h2 h64 (fun Q q=>?_) (fun i j C hi hj hC=>?_) h
 · exact kat_kind k1 (by omega) (fun f hf=>by obtain ⟨z,t,rfl⟩:=k3 f hf;exact US) rfl q
 · have hi':i<hs.length:=by omega
   have hj':j<hs.length:=by omega
   obtain ⟨b,o,m,t,u,e1,ho1,_,hd1⟩:=hv2.get (aac hi');obtain ⟨b',o',m',t',u',e2,ho2,_,hd2⟩:=hv2.get (aac hj');show wpAny _ _ (keyLt' _ (vs.getD i ab5) (vs.getD j ab5)) C _ _;rw [e1,e2];refine jdP ho1 hd1 ho2 hd2 ?_;have:hltI hs i j=hlt hs[i] hs[j]:=by unfold hltI;rw [aac hi',aac hj']
   rw [←this];exact hC
end
section
variable {prog:aaA} {w:World} {A:aaU} {E:Xw} {s:aaf} {a:Addr} {vs:List Value} {n:Nat}
def vN {P:PySem.Fin->aaf->Prop} (ho:s.heap.get? a=some (adC "list" vs.toArray n)) (h2:vs.length<2)
  (h: ∀h' c,(∀b o,b≠a->s.heap.get? b=some o->h'.get? b=some o)->h'.get? a=some (adC "list" vs.toArray c)->P (.done (.ret .none)) {s with heap:=h'}):
  wpAny (model prog w) A (adf.«list.sort» ⟨[.ref a],[]⟩) P E s:=by
 obtain ⟨c1,b1⟩: ∃c1,(s.heap.update a (acA fun _=>(#[]:Array Value))).get? a=some (adC "list" #[] c1):=⟨_,aec ho fun _=> #[]⟩
 have b2:(zf s.heap a vs).get? a=some (adC "list" #[] c1):=aae _ (aae _ b1);have big:vs.length<=aaj:=by rw [abD];omega
 rw [list_sort_plain];refine aab (listItems_at ho rfl (aab (listUpdate_at ho rfl (aab (seqEpoch_at b1 rfl (aab (wpAny_newTuple (aab (wpAny_newList (aa3 ?_) (aa4 _))) (by show vs.length<=aaj;exact big))))) (by rw [aag];exact big) (aa4 _))));dsimp only;have small:vs.toArray.size<2:=by rw [aag];omega
 rw [if_pos small,if_pos small];refine aab (aad (aab (aad ?_)));dsimp only
 have hout:(arrOf (SortSt.mk' general' (vs.toArray.zip vs.toArray) #[] 7 none)).map (·.2)=vs.toArray:=by
  apply aeM.mp;simp [List.map_snd_zip]
 rw [hout];obtain ⟨c2,hc2⟩: ∃c2,((zf s.heap a vs).update a (acA fun _=>vs.toArray)).get? a=some (adC "list" vs.toArray c2):=⟨_,aec b2 fun _=>vs.toArray⟩
 refine aab (seqEpoch_at b2 rfl (aab (listUpdate_at b2 rfl ?_ (aa4 _) (by rw [aag];exact Nat.le_succ_of_le big))));simp;exact aad (h _ c2 (fun b o hb e=>(ab2 _ _ (acD hb)).trans (yg hb e)) hc2)
end
def insH (a:Hd):List Hd->List Hd
 | []=>[a]
 |b::r=>if hlt a b=true then a::b::r else b::insH a r
def Jj (hs:List Hd):List Hd:=hs.foldr insH []
theorem JX (a:Hd): ∀l,(insH a l).Perm (a::l)
 | []=>acB _
 |b::r=>by
  unfold insH
  split
  · exact acB _
  · exact ((JX a r).cons b).trans (List.Perm.swap a b r)
theorem zW: ∀hs,(Jj hs).Perm hs
 | []=>acB _
 |a::r=>(JX a (Jj r)).trans ((zW r).cons a)
theorem kh {a:Hd}: ∀ {l:List Hd},l.Pairwise (fun x y=>hlt x y=true)->a∉l->(insH a l).Pairwise (fun x y=>hlt x y=true)
 | [],_,_=>by simp [insH]
 |b::r,h,hn=>by
  have h':=acd.mp h;unfold insH
  by_cases e:hlt a b=true
  · rw [if_pos e];refine acd.mpr ⟨fun c hc=>?_,h⟩;rcases aaJ.mp hc with z|z
    · rw [z];exact e
    · exact WR e (h'.1 c z)
  · rw [if_neg e];have hab:a≠b:=fun z=>hn (by simp [z])
    have hba:=(WS hab).resolve_left e;refine acd.mpr ⟨fun c hc=>?_,kh h'.2 fun z=>hn (by simp [z])⟩;rcases aaJ.mp ((JX a r).mem_iff.mp hc) with z|z
    · rw [z];exact hba
    · exact h'.1 c z
theorem Yt: ∀ {hs:List Hd},hs.Nodup->(Jj hs).Pairwise (fun x y=>hlt x y=true)
 | [],_=>List.Pairwise.nil
 |a::r,h=>by
  have h':=acl.mp h;exact kh (Yt h'.2) fun z=>h'.1 ((zW r).mem_iff.mp z)
theorem Wc: ∀ {l m:List Hd},l.Pairwise (fun x y=>hlt x y=true)->m.Pairwise (fun x y=>hlt x y=true)->l.Perm m->l=m
 | [],m,_,_,p=>(List.nil_perm.mp p).symm
 |a::l,[],_,_,p=>by have:=p.length_eq;simp at this
 |a::l,b::m,hl,hm,p=>by
  have hl':=acd.mp hl;have hm':=acd.mp hm
  have e:a=b:=by
   by_cases z:a=b
   · exact z
   · have h1:a∈b::m:=p.mem_iff.mp (by simp);have h2:b∈a::l:=p.mem_iff.mpr (by simp);have h1':=(aaJ.mp h1).resolve_left z;have h2':=(aaJ.mp h2).resolve_left fun y=>z y.symm
     have x1:=hl'.1 b h2';have x2:=hm'.1 a h1';rw [YU x1] at x2;cases x2
  subst e;rw [Wc hl'.2 hm'.2 (List.perm_cons a|>.mp p)]
inductive F2 {α β:Type} (R:α->β->Prop):List α->List β->Prop where
 |nil:F2 R [] []
 |cons {a b as bs}:R a b->F2 R as bs->F2 R (a::as) (b::bs)
theorem F2.length {α β:Type} {R:α->β->Prop}: ∀ {as:List α} {bs:List β},F2 R as bs->as.length=bs.length
 |_,_,.nil=>rfl
 |_,_,.cons _ t=>by simp [t.length]
theorem F2.get {α β:Type} {R:α->β->Prop} {a0:α} {b0:β}: ∀ {as:List α} {bs:List β} {i:Nat},F2 R as bs->i<bs.length->R (as.getD i a0) (bs.getD i b0)
 |_,_,0,.cons x t,_=>by simpa using x
 |_,_,i+1,.cons x t,h=>by simpa using t.get (by simpa using h)
theorem F2.map {α β γ:Type} {R:α->β->Prop} {f:γ->α} {g:γ->β}: ∀ {l:List γ},(∀x∈l,R (f x) (g x))->F2 R (l.map f) (l.map g)
 | [],_=> .nil
 |x::l,h=> .cons (h x (by simp)) (F2.map fun y hy=>h y (by simp [hy]))
def Uy {hs:List Hd} {p:Array Nat} (nd:hs.Nodup) (hp:Pm p hs.length) (hu:Up (hltI hs) p hs.length):p.toList.map (fun i=>hs.getD i ("",0))=Jj hs:=by
 have hmem: ∀i∈p.toList,i<hs.length:=fun i hi=>aaV.mp (hp.perm.mem_iff.mp hi)
 refine Wc ?_ (Yt nd) ?_
 · rw [acr,abt];intro i j hi hj hij;have hl:p.toList.length=hs.length:=by rw [aar,hp.size]
   have:=hu i j hij (by omega);have e1:at0 p i=p.toList[i]:=by simp [at0,aex,hp.size,show i<hs.length by omega]
   have e2:at0 p j=p.toList[j]:=by simp [at0,aex,hp.size,show j<hs.length by omega]
   rw [e1,e2] at this;have b1:=hmem _ (abv hi);have b2:=hmem _ (abv hj);unfold hltI at this;rw [aac b1,aac b2] at this;rw [abo,abo,aac b1,aac b2];exact this
 · have h1:=hp.perm.map (fun i=>hs.getD i (("" :Str),(0:Int)))
   have h2:(aa6 hs.length).map (fun i=>hs.getD i ("",0))=hs:=by
    apply acT;intro i
    by_cases hi:i<hs.length
    · simp [hi]
    · rw [aaM (by simp;omega),aaM (by omega)]
   rw [h2] at h1;exact h1.trans (zW hs).symm
def Vz {hs:List Hd} (h:hs.length<2):Jj hs=hs:=by
 match hs,h with
 | [],_=>rfl
 | [a],_=>rfl
section
variable {prog:aaA} {w:World} {A:aaU} {E:Xw} {s:aaf} {a:Addr} {vs:List Value} {n:Nat}
def vO {P:PySem.Fin->aaf->Prop} {hs:List Hd} (ho:s.heap.get? a=some (adC "list" vs.toArray n)) (hv:AreHd s.heap vs hs) (nd:hs.Nodup) (h64:vs.length<64)
   (h: ∀(us:List Value) h' c,(∀R:Value->Hd->Prop,F2 R vs hs->F2 R us (Jj hs))->(∀b o,b≠a->s.heap.get? b=some o->h'.get? b=some o)->h'.get? a=some (adC "list" us.toArray c)->P (.done (.ret .none)) {s with heap:=h'}):
   wpAny (model prog w) A (adf.«list.sort» ⟨[.ref a],[]⟩) P E s:=by
 have hl:=hv.length
 by_cases h2:vs.length<2
 · exact vN ho h2 fun h' c k e=>h vs h' c (fun R r=>by rw [Vz (by omega)];exact r) k e
 · refine Kv ho hv nd (by omega) h64 fun p h' c hp hu k e=>h _ h' c (fun R r=>?_) k e
   rw [hl] at hp hu;rw [←Uy nd hp hu];exact F2.map fun i hi=>r.get (aaV.mp (hp.perm.mem_iff.mp hi))
end
section
variable {prog:aaA} {w:World} {A:aaU} {E:Xw} {t:aaf} {vs:List Value} {hs:List Hd}
def Xt {Q:Xw} (hv:AreHd t.heap vs hs) (nd:hs.Nodup) (h64:vs.length<64)
  (h: ∀(us:List Value) h' c,(∀R:Value->Hd->Prop,F2 R vs hs->F2 R us (Jj hs))->(∀b o,t.heap.get? b=some o->h'.get? b=some o)->h'.get? t.heap.objs.size=some (adC "list" us.toArray c)->Q (.ref t.heap.objs.size) {t with heap:=h'}):
  wpAny (model prog w) A (newList vs>>=fun l=>adq [l] (call (.builtin "list.sort") [l] [])>>=fun _=>ret l) (fun fin s'=> ∃v,fin= .done (.ret v)/\Q v s') E t:=by
 have hoL:(t.heap.push (adC "list" vs.toArray 0)).get? t.heap.objs.size=some (adC "list" vs.toArray 0):=aap _ rfl;refine aab (wpAny_newList (aab (aa3 ?_)) (by rw [abD];omega));refine ab7 slot_list_sort ⟨_,hoL,rfl⟩ entry_list_sort ?_ (args_list_sort _);refine vO hoL (hv.keep fun b o e _=>aae _ e) nd h64 fun us h' c r k e=>⟨_,rfl,aad ⟨_,rfl,h us h' c r (fun b o e2=>k b o (fun z=>?_) (aae _ e2)) e⟩⟩
 exact abI _ (by have:=aao e2;rw [z] at this;exact this)
end
end M
namespace M
open PySem PySem.Spec L2
open PyProof.Rows hiding St
section
variable {X:Cx}
def HdV (H:Hp) (x:V) (a:Hd):Prop:= ∃b,x= .ref b/\H b=some (.tup [.str a.1,.int a.2])
theorem jdO {pins:List (Addr×Obj)} {σ:L2.St} {H:Hp} {s:aaf} (I:Inv X pins σ H s): ∀ {ys:List V} {its:List Value} {hs:List Hd},Vals ys its->F2 (HdV H) ys hs->AreHd s.heap its hs/\F2 (fun v a=> ∃b,v=aaz b/\H b=some (.tup [.str a.1,.int a.2])) its hs
 |_,_,_,.nil,.nil=>⟨.nil,.nil⟩
 |_,_,_,.cons r rs,.cons x xs=>by
  obtain ⟨h1,h2⟩:=jdO I rs xs;obtain ⟨b,rfl,hb⟩:=x;cases r;obtain ⟨_,its,rv,o,ho,hc,n,hd⟩:=(show ObjOk X.prog X.w H s.heap b (.tup _) from I.hok b _ hb)
  cases rv with
  |cons q1 q2=>
   cases q2 with
   |cons q3 q4=>
    cases q4;obtain ⟨t,rfl⟩:=q1;obtain ⟨u,rfl⟩:=q3;exact ⟨.cons ⟨b,o,n,t,u,rfl,ho,hc,hd⟩ h1,.cons ⟨b,rfl,hb⟩ h2⟩
theorem ja3 {H:Hp}: ∀ {us:List Value} {hs:List Hd},F2 (fun v a=> ∃b,v=aaz b/\H b=some (.tup [.str a.1,.int a.2])) us hs-> ∃xs,Vals xs us/\F2 (HdV H) xs hs
 |_,_,.nil=>⟨[],.nil,.nil⟩
 |_,_,.cons ⟨b,e,hb⟩ t=>by
  obtain ⟨xs,h1,h2⟩:=ja3 t;subst e;exact ⟨.ref b::xs,.cons rfl h1,.cons ⟨b,rfl,hb⟩ h2⟩
end
def U0:List D->Option (List Key)
 | []=>some []
 |d::r=>match keyD d,U0 r with
  |some k,some ks=>some (k::ks)
  |_,_=>none
def keyT:D->Option (List Key)
 | .tup ds=>U0 ds
 |_=>none
def hasT (ks:List (List Key)) (k:List Key):Bool:=ks.any fun x=>decide (x=k)
def Uc (ks:List (List Key)) (k:List Key):List (List Key):=if hasT ks k=true then ks else ks++[k]
def Ud (ks:List (List Key)) (ds:List D) (k:List Key) (d:D):List D:=if hasT ks k=true then (ks.zip ds).map (fun p=>if p.1=k then d else p.2) else ds++[d]
section
variable {K:aaa} {A:Xx} {H:Hp}
theorem YL: ∀ {vs:List V} {ds:List D} {ks:List Key},Reps K A H vs ds->U0 ds=some ks->vs=ks.map kV
 |_,_,ks,.nil,h=>by cases h;rfl
 |_,_,ks,.cons r t,h=>by
  rename_i v d vs ds;unfold U0 at h
  cases e1:keyD d with
  |none=>rw [e1] at h;cases h
  |some k=>
   cases e2:U0 ds with
   |none=>rw [e1,e2] at h;cases h
   |some r'=>
    rw [e1,e2] at h;cases h;rw [U6 r e1,YL t e2];rfl
def Jd {y:V} {d:D} {k:List Key} (r:Rep K A H y d) (h:keyT d=some k): ∃b,y= .ref b/\H b=some (.tup (k.map kV)):=by
 cases r with
 |tup e rs=>exact ⟨_,rfl,by rw [e,YL rs h]⟩
 |_=>cases h
def Kl (kvs:List (List Key×V)) (k:List Key):(kvs.any fun kv=>decide (kv.1=k))=hasT (kvs.map (·.1)) k:=by
 unfold hasT;rw [List.any_map];rfl
theorem Wn {v:V} {d:D} (k:List Key) (rv:Rep K A H v d): ∀ {kvs:List (List Key×V)} {ds:List D},Reps K A H (kvs.map (·.2)) ds->Reps K A H ((kvs.map (fun kv=>if kv.1=k then (kv.1,v) else kv)).map (·.2)) (((kvs.map (·.1)).zip ds).map (fun p=>if p.1=k then d else p.2))
 | [],_,.nil=> .nil
 | (k',v')::kvs,_,.cons r1 r2=>by
  have ih:=Wn k rv r2
  by_cases hk:k'=k
  · simp only [aaE,adB,hk,if_true];exact .cons rv (by simpa [hk] using ih)
  · simp only [aaE,adB,hk,if_false];exact .cons r1 ih
def Yz {v:V} {d:D} {kvs:List (List Key×V)} {ds:List D} (k:List Key) (r:Reps K A H (kvs.map (·.2)) ds) (rv:Rep K A H v d):
   (putK kvs k v).map (·.1)=Uc (kvs.map (·.1)) k/\Reps K A H ((putK kvs k v).map (·.2)) (Ud (kvs.map (·.1)) ds k d):=by
 unfold putK Uc Ud;rw [Kl]
 by_cases h:hasT (kvs.map (·.1)) k=true
 · rw [if_pos h,if_pos h,if_pos h];refine ⟨?_,Wn k rv r⟩;rw [abA];apply aeb;intro p _;simp
   split<;>rfl
 · rw [if_neg h,if_neg h,if_neg h];refine ⟨by simp,?_⟩;rw [acO];exact r.append (.cons rv .nil)
def Rep.ditE {v:V} {ks:List (List Key)} {ds:List D} (r:Rep K A H v (.dit ks ds)): ∃a kvs,v= .ref a/\H a=some (.dT kvs)/\A a/\kvs.map (·.1)=ks/\Reps K (fun c=>A c/\c≠a) H (kvs.map (·.2)) ds:=by
 cases r with
 |dit e a k1 k2 r=>subst k2;exact ⟨_,_,rfl,e,a,k1,r⟩
end
def jbu {K:aaa} {G:Xx} {H0 H:Hp} {env:Sl} {σ:L2.St} {i:Nat} {ks:List (List Key)} {ds:List D} (k:EnvOk K G H0 env σ H) (hi:env[i]?=some (.own (.dit ks ds))): ∃a kvs,σ[i]?=some (some (.ref a))/\H a=some (.dT kvs)/\kvs.map (·.1)=ks/\Reps K (Sf G env σ) H (kvs.map (·.2)) ds:=by
 obtain ⟨a,h1,h0,h2⟩:=k.own i _ hi
 cases h2 with
 |dit e k1 k2 r=>subst k2;exact ⟨a,_,h1,e,k1,r⟩
def ownT (i:Nat) (env:Sl):Res (List (List Key)×List D):=match env[i]? with
 |some (.own (.dit ks ds))=> .ok (ks,ds)
 |_=> .stuck
def uq {i:Nat} {env:Sl} {p:List (List Key)×List D} (h:ownT i env= .ok p):env[i]?=some (.own (.dit p.1 p.2)):=by
 unfold ownT at h
 split at h
 · cases h;assumption
 · cases h
section
variable {X:Cx} {K:aaa} {l1 l2:Lv} {e1 e2:Expr} {fk fv:TL} {pos cpos apos p:Pos} {x:Str}
def cDT:Sl->Res D:=fun _=> .ok (.dit [] [])
def vi:DE X .t (.Dict [] [] pos) cDT:=by
 with_unfolding_all exact (PE.imp uj fun σ H Q=>by
  rintro ⟨G,H0,env,d,k,ef,q⟩;cases ef
  exact fun p hp=>q _ _ (Same.upd hp) (.dit jj (k.new p hp) rfl rfl .nil) (jQ (Same.refl H) hp))
def jdZ (i:Nat) (fk fv:TL):Sl->Res Out:=fun env=>ownT i env>>=fun q=>fv env>>=fun d=>fk env>>=fun kd=>match keyT kd with
 |some k=>must (q.1.length<aaj) (.ok (.nx (env.set i (.own (.dit (Uc q.1 k) (Ud q.1 q.2 k d))))))
 |none=> .stuck
def jae (i:Nat) (hu:X.A.units+1<cLine) (hk:DE X l1 e1 fk) (hv:DE X .s e2 fv) (hN:X.N[i]?=some x:=by rfl) (hvs:Vis X.env.scope x:=by first|exact abR rfl|exact abf (abR rfl)|exact abf (abf rfl))
   (hd:Yx x:=by decide) (hcd:Yw x:=by decide)
   (hs:aca e2 (some (.Subscript (.Name x p) e1 apos)) pos.line X.env=pure false:=by rfl):
   DS X (.Assign [.Subscript (.Name x p) e1 apos] e2 pos) (jdZ i fk fv):=by
 with_unfolding_all exact (
  PS.imp (Uk hu (zZ hN hvs hd hcd) hk hv hs) fun E σ H=>by
   rintro ⟨G,H0,env,o,k,ef,q⟩;obtain ⟨ks,c1,ef⟩:=jc ef;obtain ⟨d,c2,ef⟩:=jc ef;obtain ⟨kd,c3,c4⟩:=jc ef;have hi:=uq c1;obtain ⟨a,kvs,ha,hx,hkk,rs⟩:=jbu k hi
   cases hkey:keyT kd with
   |none=>rw [hkey] at c4;cases c4
   |some kk=>
    rw [hkey] at c4;obtain ⟨hz,c5⟩:=jl c4;cases c5;refine ⟨G,H0,env,d,k,c2,fun v H1 s1 r1 _=>⟨.ref a,ha,G,H0,env,kd,k.grow s1,c3,fun y H2 s2 r2 _=>?_⟩⟩;have hx2:=s2 _ _ (s1 _ _ hx);obtain ⟨b,rfl,hb⟩:=Jd (r2.weak Lv.weak_b) hkey;have hl:kvs.length<aaj:=by rw [←hkk,aan] at hz;exact hz
    refine ⟨a,_,rfl,DPut.t hx2 hb hl,?_⟩;obtain ⟨p1,p2⟩:=Yz kk ((rs.grow s1).grow s2) (r1.grow s2);rw [hkk] at p1 p2;have W:=((k.grow s1).grow s2).writeG hi ha hx2 trivial fun A' H' st e w=> .dit e p1 rfl (p2.stay st w)
    exact q σ _ W.1 ((W.2.grow s2).grow s1))
def hdD (a:Hd):D:= .tup [.str a.1,.int a.2]
def Yv (hs:List Hd):Bool:=hs.all fun a=>decide (a.1.length<=aaj)
theorem X3 {A:Xx} {H:Hp}: ∀ {vs:List V} {hs:List Hd},F2 (HdV H) vs hs->(∀a∈hs,a.1.length<=aaj)->Reps K A H vs (hs.map hdD)
 |_,_,.nil,_=> .nil
 |_,_,.cons ⟨b,e,hb⟩ t,h=>by
  subst e;exact .cons (.tup hb (.cons (.str _ (h _ (by simp))) (.cons (.int _) .nil))) (X3 t fun a ha=>h a (by simp [ha]))
end
def hdK (a:Hd):List Key:=[.inr a.1,.inl a.2]
section
variable {X:Cx} {K:aaa}
theorem yp {H:Hp}: ∀ {kvs:List (List Key×V)} {xs:List (List Key×Addr×Value)} {hs:List Hd},KT H kvs xs->kvs.map (·.1)=hs.map hdK->F2 (HdV H) (xs.map fun q=>V.ref q.2.1) hs
 |_,_,hs,.nil,e=>by
  cases hs with
  |nil=>exact .nil
  |cons a r=>cases e
 |_,_,hs,.cons h t,e=>by
  cases hs with
  |nil=>cases e
  |cons a r=>
   simp at e;refine .cons ⟨_,rfl,?_⟩ (yp t e.2);rw [h.2.1,e.1];rfl
theorem Jt: ∀(l:List Addr),Vals (l.map V.ref) (l.map aaz)
 | []=> .nil
 |a::l=> .cons rfl (Jt l)
def W7 (hc:X.calm=true):CallR X (.builtin "sorted") (fun xs H Q=> ∃a kvs hs,xs=[.ref a]/\H a=some (.dT kvs)/\kvs.map (·.1)=hs.map hdK/\hs.Nodup/\hs.length<64/\ ∀l us,H l=none->F2 (HdV H) us (Jj hs)->Q (.ref l) (upd H l (.lst us))):=by
 intro pins s σ H xs us Q I r h;obtain ⟨a,kvs,hs,rfl,ha,hk,nd,h64,q⟩:=h;obtain ⟨u,rfl,rx⟩:=xm r;cases rx;obtain ⟨hz,lo,ys,hp,o,es,ep,ho,hx,hd,he,_⟩:=(show ObjOk X.prog X.w H s.heap a (.dT kvs) from I.hok a _ ha)
 have hF:=yp hp hk
 have hV:Vals (ys.map fun q=>V.ref q.2.1) (ys.map fun q=>aaz q.2.1):=by
  have:=Jt (ys.map fun q=>q.2.1);simpa [abA,Function.comp_def] using this
 obtain ⟨hA,hR⟩:=jdO I hV hF;have hlen:ys.length=hs.length:=by simpa using hF.length
 have hD:DAt s.heap a (ys.map fun q=>aaz q.2.1) ep:=⟨o,es,ho,hx,hd,by rw [he,abA];rfl⟩
 refine Calls.call_function_entry kind_sorted plain_sorted entry_sorted (args_sorted1 _) ?_;unfold adf.«sorted»;refine aab (aad (aab (PySem.W.kdu_collect (vj lo) (show X.A.in1.handled=none from I.ok.hd hc) hD (by rw [aan,abD];omega) fun h' tk acc hkp hacc=>?_)))
 have hacc2:acc.toList=ys.map fun q=>aaz q.2.1:=by
  apply acT;intro i;have hl:acc.toList.length=(ys.map fun q=>aaz q.2.1).length:=by rw [aar];exact hacc.1
  by_cases hi:i<acc.toList.length
  · rw [aac hi];exact (hacc.2 i _ (by rw [←aas];exact aac hi)).symm
  · rw [aaM (by omega),aaM (by omega)]
 rw [hacc2];refine Xt (hA.keep fun b o e _=>hkp b o e) nd (by rw [aan];omega) fun us h2 c hRR k e=>?_
 obtain ⟨zs,v1,v2⟩:=ja3 (hRR _ hR);have I1:Inv X pins σ H {s with heap:=h',toks:=tk}:=I.kept hkp
 have hl2:zs.length<=aaj:=by
  have a1:=v2.length;have a2:=(zW hs).length_eq;rw [abD];omega
 exact ⟨.ref _,_,I1.laid k (aah _) (show ObjOk X.prog X.w _ h2 _ (.lst zs) from ⟨hl2,us,c,v1,e⟩),rfl,q _ zs (I1.hok.fresh (aah _)) v2⟩
def uU:List Key->Option Hd
 | [.inr z,.inl k]=>some (z,k)
 |_=>none
def wB:List (List Key)->Option (List Hd)
 | []=>some []
 |d::r=>match uU d,wB r with
  |some a,some as=>some (a::as)
  |_,_=>none
theorem JZ: ∀ {ks:List (List Key)} {hs:List Hd},wB ks=some hs->ks=hs.map hdK
 | [],hs,h=>by cases h;rfl
 |d::r,hs,h=>by
  unfold wB at h
  cases e1:uU d with
  |none=>rw [e1] at h;cases h
  |some a=>
   cases e2:wB r with
   |none=>rw [e1,e2] at h;cases h
   |some as=>
    rw [e1,e2] at h;cases h;rw [JZ e2];unfold uU at e1
    split at e1
    · cases e1;rfl
    · cases e1
def Xu:List D->Res D
 | [.dit ks _]=>match wB ks with
  |some hs=>must (hs.Nodup/\hs.length<64/\Yv hs=true) (.ok (.lst ((Jj hs).map hdD)))
  |none=> .stuck
 |_=> .stuck
def Vb:xP K (fun xs H Q=> ∃a kvs hs,xs=[.ref a]/\H a=some (.dT kvs)/\kvs.map (·.1)=hs.map hdK/\hs.Nodup/\hs.length<64/\ ∀l us,H l=none->F2 (HdV H) us (Jj hs)->Q (.ref l) (upd H l (.lst us))) Xu:=by
 intro A xs H ds d Q r e q;unfold Xu at e
 split at e
 · rename_i ks vs
   cases eh:wB ks with
   |none=>rw [eh] at e;cases e
   |some hs=>
    rw [eh] at e;obtain ⟨⟨nd,h64,hsh⟩,e2⟩:=jl e;cases e2;obtain ⟨v,rfl,r1⟩:=r.one;obtain ⟨p,kvs,rfl,hp,_,hkk,_⟩:=r1.ditE;refine ⟨p,kvs,hs,rfl,hp,by rw [hkk];exact JZ eh,nd,h64,fun l us hl hu=>q _ _ (Same.upd hl) (.lst jj (.inl hl) ?_) (jQ (Same.refl H) hl)⟩
    have hs2: ∀a∈Jj hs,a.1.length<=aaj:=fun a ha=>by
     have:=aaZ.mp hsh a ((zW hs).mem_iff.mp ha);simpa using this
    exact ((X3 (A:=fun _=>False) hu hs2).grow (Same.upd hl)).weak fun c z=>z.elim
 · cases e
end
section
variable {prog:aaA} {w:World} {A:aaU} {E:Xw} {s:aaf}
theorem Yq: ∀ {is:List Int} {us:List Value},Vals (is.map V.int) us->us.length=is.length/\ ∀i v,us[i]?=some v-> ∃t,v=aeQ (is.getD i 0) t
 | [],_,.nil=>⟨rfl,fun i v h=>by cases h⟩
 |i::is,_,.cons h t=>by
  obtain ⟨a,b⟩:=Yq t;refine ⟨by simp [a],fun j v hv=>?_⟩
  cases j with
  |zero=>
   simp at hv;subst hv;obtain ⟨t,e⟩:=h;exact ⟨t,by rw [e];rfl⟩
  |succ j=>simp at hv;simpa using b j v hv
end
def WO:List D->Option (List Int)
 | []=>some []
 | .int b::r=>(WO r).map (b:: ·)
 |_=>none
theorem yx: ∀ {ds:List D} {bs:List Int},WO ds=some bs->ds=bs.map D.int
 | [],bs,h=>by cases h;rfl
 |d::r,bs,h=>by
  cases d with
  |int b=>
   simp only [WO,acE] at h;obtain ⟨bs',h1,rfl⟩:=h;rw [yx h1];rfl
  |_=>cases h
section
variable {X:Cx} {K:aaa} {l l' l2:Lv}
theorem Js {A:Xx} {H:Hp}: ∀ {bs:List Int} {xs:List V},Reps K A H xs (bs.map D.int)->xs=bs.map V.int
 | [],_,.nil=>rfl
 |b::bs,_,.cons h t=>by rw [h.intE,Js t];rfl
variable {x:Str} {p pos kpos:Pos} {e e2:Expr} {fa f2:TL}
end
def Xc:aa9 "sorted" =some (.builtin "sorted"):=by decide+kernel
section
variable {X:Cx} {id:String} {r:List V->Hp->VK->Prop} {g:TF} {x:Str} {p pos:Pos} {e:Expr} {es:List Expr} {fa:TH}
def wZ (hc:CallR X (.builtin id) r) (hr:xP X.K r g) (hg:Gl X x) (hm:X.mg x=none) (hv:aa9 x=some (.builtin id))
   (ha:DA X .s (e::es) fa) (hn:x≠ "__name__" :=by decide) (hdb:Yx x:=by decide)
   (he:Wm X e es:=by exact ji rfl) (hpl:Wl X pos es:=by exact jx rfl):DE X .t (.Call (.Name x p) (e::es) [] pos) (app fa g):=by
 with_unfolding_all exact (
  PE.imp (zd hc hg hm hv ha hn hdb he hpl) fun _ _ _ h=>jcX hr h)
variable {ex:Expr} {t:TK}
end
end M
namespace M
open PySem PySem.Spec L2
mutual
def bare:D->D
 | .tup (x::ts)=> .tup (x::bares ts)
 |_=> .int 0
def bares:List D->List D
 | []=>[]
 |d::r=>bare d::bares r
end
theorem Yb: ∀ {ts:List D},(∀t∈ts,D.eqb t=true)->D.eqbs ts=true
 | [],_=>rfl
 |x::r,h=>by simp only [D.eqbs,aaG];exact ⟨h x (by simp),Yb fun d hd=>h d (by simp [hd])⟩
theorem ZV {k:Nat}: ∀ {ts:List D},(∀t∈ts,D.dep t<=k)->D.deps ts<=k
 | [],_=>by simp [D.deps]
 |x::r,h=>by
  simp only [D.deps];have:=h x (by simp);have:=ZV (ts:=r) fun d hd=>h d (by simp [hd])
  omega
theorem J6: ∀ {ts:List D},(∀t∈ts,eqD t t=true)->eqDs ts ts=true
 | [],_=>by simp [eqDs]
 |x::r,h=>by simp only [eqDs,aaG];exact ⟨h x (by simp),J6 fun d hd=>h d (by simp [hd])⟩
def ins (l:List Int) (x:Int):List Int:=if x∈l then l else l++[x]
def met (l xs:List Int):List Int:=xs.foldl ins l
def dvs (n:Nat):List Int->List D
 | []=>[]
 |_::r=> .int n::dvs (n+1) r
section
variable {ns:List Str}
def Y3 {α:Type} {f:α->D} (h: ∀a,D.eqb (f a)=true) (l:List α):D.eqbs (l.map f)=true:=Yb fun t ht=>by
 obtain ⟨a,_,rfl⟩:=aaK.mp ht;exact h a
def jai {α:Type} {f:α->D} {k:Nat} (h: ∀a,D.dep (f a)<=k) (l:List α):D.deps (l.map f)<=k:=ZV fun t ht=>by
 obtain ⟨a,_,rfl⟩:=aaK.mp ht;exact h a
end
end M
namespace M
open PySem PySem.Spec L2
open PyProof.Rows hiding St
def qV:aa9 "divmod" =some (.builtin "divmod"):=by decide+kernel
def qy:List D->Res D
 | [.int i,.int j]=>must (0<j/\j<1073741824) (.ok (.tup [.int (i/j),.int (i%j)]))
 |_=> .stuck
def wL {K:aaa}:xP K (fun xs H Q=> ∃i j,xs=[.int i,.int j]/\CDiv i j/\ ∀p,H p=none->Q (.ref p) (upd H p (.tup [.int (i/j),.int (i%j)]))) qy:=by
 intro A xs H ds d Q r e q;unfold qy at e
 split at e
 · obtain ⟨hc,e2⟩:=jl e;cases e2;obtain ⟨v,v',rfl,r1,r2⟩:=r.two;cases r1.intE;cases r2.intE;exact ⟨_,_,rfl,hc,fun p hp=>q _ _ (Same.upd hp) (.tup jj (.cons (.int _) (.cons (.int _) .nil))) (jQ (Same.refl H) hp)⟩
 · cases e
section
variable {X:Cx} {pins:List (Addr×Obj)} {σ:L2.St} {H:Hp} {s:aaf}
def JU {t':Nat} {h':Heap} {i1 i2:Addr} (I:Inv X pins σ H s) (k: ∀b o,b≠i1->b≠i2->s.heap.get? b=some o->h'.get? b=some o) (f1:FpOk X pins H i1) (f2:FpOk X pins H i2):Inv X pins σ H {s with heap:=h',toks:=t'}:=by
 obtain ⟨a0,a1,_,a3,a4,a5⟩:=f1;obtain ⟨b0,b1,_,b3,b4,b5⟩:=f2;have n1: ∀b u,H b=some u->b≠i1:=fun b u e z=>by rw [z,a0] at e;cases e
 have n2: ∀b u,H b=some u->b≠i2:=fun b u e z=>by rw [z,b0] at e;cases e
 have kk: ∀b o,b∉[i1,i2]->s.heap.get? b=some o->h'.get? b=some o:=fun b o hc e=>k b o (fun z=>hc (by simp [z])) (fun z=>hc (by simp [z])) e
 refine I.step (fun b hb=>?_) (fun b o _ _ hc e _=>kk b o hc e) (fun b o _ _ hc e _=>⟨o.slots,kk b o hc e⟩) (fun _ _ _ _ n=>n)
   (fun b o hc e=>⟨o,kk b o hc e⟩) (fun _ _ e=>e) (fun _ _ _ e=>e) (fun b ps e=>⟨#[],by rw [e];simp⟩) (fun m hm=>?_) (fun b u e=>?_) I.bare
 · simp at hb;rcases hb with rfl|rfl
   · exact ⟨a3,a1,a4,a5⟩
   · exact ⟨b3,b1,b4,b5⟩
 · obtain ⟨o,es,ep,ho,r⟩:=hm;exact ⟨o,es,ep,k _ o (acD a1) (acD b1) ho,r⟩
 · refine (I.hok b u e).stay (fun c v hc q=>k c v ?_ ?_ q) (fun _ q=>q) fun _ _ q=>q
   · rcases hc with z|z
     · rw [z];exact n1 b u e
     · exact n1 c _ z
   · rcases hc with z|z
     · rw [z];exact n2 b u e
     · exact n2 c _ z
end
def ItE (K:aaa) (a:Addr) (xs:List V):It:=⟨fun i H=>SqL K H a xs/\i<xs.length,fun i H v H'=> ∃p x,H p=none/\xs[i]?=some x/\v= .ref p/\H'=upd H p (.tup [.int (i:Int),x]),fun i H=>SqL K H a xs/\xs.length<=i⟩
def Vr {P:aaA} {w:World} {K:aaa} {elts:List Expr} {n:Nat} {pos:Pos} (a it e:Addr) (xs:List V) (hei:e≠it):Turn P w K (.Tuple elts n pos) (ItE K a xs) [e,it] e (fun i h=>(∃old,IsEnum h e it (i:Int) old)/\h.IsListIter it a i) where
 mem:=by simp
 obj:=fun i h st b hb=>by
  obtain ⟨⟨old,he⟩,o,ho,hc,hd⟩:=st;simp at hb;rcases hb with rfl|rfl
  · exact ⟨_,he,fun v z=>by cases z⟩
  · exact ⟨o,ho,fun v z=>by rw [hd] at z;cases z⟩
 keep:=fun i h h' st k=>by
  obtain ⟨⟨old,he⟩,hit⟩:=st;exact ⟨⟨old,k e (by simp) _ he⟩,hit.at fun o x=>k it (by simp) o x⟩
 item:=by
  intro X hP hw hK hc i pins s σ H E I hf st hg;subst hP hw hK;obtain ⟨hq,hi⟩:=hg;obtain ⟨its,rv,p,hz⟩:=I.list hq;have hx:=aac hi;obtain ⟨u,hu,ru⟩:=rv.get hx;obtain ⟨⟨old,he⟩,hit⟩:=st;have fe:=hf e (by simp);have fi:=hf it (by simp);refine wpAny_pyNext_enum_item he hit p.isList (by simpa using hu) hei fun h' ho hit' hT hsz hk=>?_
  refine ⟨_,rfl,wpAny_letOwnedTupleGo_enum ho fun h'' he' hs'=>?_⟩;have helt:=aao he;have hilt:it<s.heap.objs.size:=by obtain ⟨_,x,_⟩:=hit;exact aao x
  have hfr:=I.hok.fresh (aah _)
  have I1:Inv X pins σ (upd H s.heap.objs.size (.tup [.int (i:Int),xs[i]])) {s with heap:=s.heap.push {cls:= .type "tuple",data:= .seq #[.int i s.toks,u]}}:=
    I.laid (fun b o e=>aae _ e) (aah _) ⟨aaN (show 2<=20 by decide) (by decide),[.int i s.toks,u],.cons ⟨_,rfl⟩ (.cons ru .nil),⟨_,aap _ rfl,rfl,_,rfl⟩⟩
  have fe1:FpOk X pins (upd H s.heap.objs.size (.tup [.int (i:Int),xs[i]])) e:=⟨by rw [jp (aax helt)];exact fe.1,fe.2⟩
  have fi1:FpOk X pins (upd H s.heap.objs.size (.tup [.int (i:Int),xs[i]])) it:=⟨by rw [jp (aax hilt)];exact fi.1,fi.2⟩
  have I2:=JU (t':=s.toks+1) I1 (fun b o hbe hbi eo=>by
    refine (hs'.2 b hbe).trans ?_
    by_cases hb:b=s.heap.objs.size
    · subst hb;rw [aap _ rfl] at eo;rw [←eo];exact hT
    · have eo':s.heap.get? b=some o:=by
       rcases Heap.get?_push_cases eo with ⟨z,_⟩|z
       · exact absurd z hb
       · exact z
      exact hk b o hbe hbi eo') fe1 fi1
  refine ⟨.ref s.heap.objs.size,_,I2,rfl,⟨_,_,hfr,hx,rfl,rfl⟩,⟨⟨_,by simpa using he'⟩,hit'.at fun o y=>(hs'.2 it hei.symm).trans y⟩,fun b hb=>?_⟩;simp at hb;rcases hb with rfl|rfl
  · exact fe1.1
  · exact fi1.1
 done:=by
  intro X hP hw hK hc i pins s σ H E I hf st hg;subst hP hw hK;obtain ⟨hq,hi⟩:=hg;obtain ⟨its,rv,p,hz⟩:=I.list hq;obtain ⟨⟨old,he⟩,hit⟩:=st;have hl:=rv.length;refine wpAny_pyNext_enum_end (I.ok.hd hc) he hit p.isList (by simp;omega) fun h' eb=>⟨rfl,JU I (fun b o hbe hbi eo=>eb b o hbi eo) (hf e (by simp)) (hf it (by simp))⟩
 self:=fun _ _ _ _ _ st h=>let ⟨⟨_,he⟩,_⟩:=st;wpAny_pyIter_enum he h
section
variable {X:Cx} {elts:List Expr} {n:Nat} {tpos p pos:Pos} {e:Expr} {f:TL}
def jZ:Nat->List D->List D
 |_,[]=>[]
 |k,d::r=> .tup [.int (k:Int),d]::jZ (k+1) r
theorem Wr: ∀(k:Nat) (ds:List D),(jZ k ds).length=ds.length
 |_,[]=>rfl
 |k,d::r=>by simp [jZ,Wr (k+1) r]
theorem Ws: ∀(k i:Nat) (ds:List D),(jZ k ds)[i]?=(ds[i]?).map fun d=> .tup [.int ((k+i:Nat):Int),d]
 |k,i,[]=>by simp [jZ]
 |k,0,d::r=>by simp [jZ]
 |k,i+1,d::r=>by
  simp only [jZ,acv];rw [Ws (k+1) i r];congr 1;funext d;congr 3;omega
def kO (f:TL):Sl->Res (List D):=fun env=>f env>>=fun d=>match d with
 | .lst ds=> .ok (jZ 0 ds)
 | .scr ds=> .ok (jZ 0 ds)
 |_=> .stuck
def jce (hg:Gl X "enumerate") (hm:X.mg "enumerate" =none) (h:DE X .s e f) (hs:aai [e] X.env=[(false,eval e X.env)]:=by rfl):DI X (.Tuple elts n tpos) (.Call (.Name "enumerate" p) [e] [] pos) (kO f):=by
 have hE:PE X e (tE X.K .s f):=by with_unfolding_all exact h
 with_unfolding_all exact (show PI X (.Tuple elts n tpos) (.Call (.Name "enumerate" p) [e] [] pos) (tI X.K (kO f)) from by
  rintro pins s σ H R I ⟨G,H0,env,ds,k,ef,q⟩;obtain ⟨d,e1,e2⟩:=jc ef
  have hA:PA X [e] (tA X.K .s fun env=>f env>>=fun d=> .ok [d]):=by
   have:=jM hE qS hs;rintro ps pins s σ H Q I ⟨G,H0,env,ds,k,ef,q⟩;obtain ⟨d,c1,c2⟩:=jc ef;cases c2;exact this ps pins s σ H Q I ⟨G,H0,env,d,k,c1,fun v H1 s1 r1 _=>q [v] H1 s1 (.cons r1 .nil)⟩
  refine Call_ (WJ I hg hm boot_enumerate (acK (thn (hA pos pins s σ H (fun vs H1=> ∃v,vs=[v]/\Same H H1/\Rep X.K (Sf G env σ) H1 v d) I ⟨G,H0,env,[d],k,by show (f env>>=_)=_;rw [e1];rfl,fun vs H1 s1 r1=>by obtain ⟨v,rfl,r⟩:=r1.one;exact ⟨v,rfl,s1,r⟩⟩) fun us s1 ⟨vs,H1,I1,r1,v,ev,sm,rep⟩=>?_) hs rfl));subst ev;obtain ⟨u,rfl,ru⟩:=xm r1;have k1:=k.grow sm
  have main: ∀(a:Addr) (xs:List V) (es:List D) (P:Hp->Prop),u= .ref a->SqL X.K H1 a xs->Reps X.K (Sf G env σ) H1 xs es->ds=jZ 0 es->P H1->(∀H',P H'->SqL X.K H' a xs)->(∀env' σ' H',Frm env σ H1 env' σ' H'->P H')->wpAny (model X.prog X.w) X.A (call (.type "enumerate") [u]) (fun v s1=>wpAny (model X.prog X.w) X.A (pyIter v) (PIE X pins σ (.Tuple elts n tpos) R) X.xe s1) X.xe s1:=by
   intro a xs es P eu hq rs eds p0 pq pst;subst eu;obtain ⟨its,rv,pl,hz⟩:=I1.list hq;refine call_enumerate_list pl.isList fun h' he hit hsz hk=>wpAny_pyIter_enum he ?_
   have I2:=I1.kept (t':=s1.toks) hk;refine ⟨s1.heap.objs.size+1,[s1.heap.objs.size+1,s1.heap.objs.size],_,_,H1,rfl,I2,Vr a s1.heap.objs.size (s1.heap.objs.size+1) xs (Nat.succ_ne_self _),⟨⟨_,he⟩,hit⟩,fun b hb=>?_,?_⟩
   · simp at hb;rcases hb with rfl|rfl
     · exact I1.fpOk (acN _) (I1.hok.fresh (acN _))
     · exact I1.fpOk (aah _) (I1.hok.fresh (aah _))
   · refine q _ H1 P sm (fun i H' pp=>?_) p0 pst;have hl:=rs.length;subst eds;rw [Wr];refine ⟨fun hi=>⟨pq H' pp,by omega⟩,fun d hd x H2 y=>?_,fun hi=>⟨pq H' pp,by omega⟩⟩;obtain ⟨p,x',hp,hx',rfl,rfl⟩:=y;obtain ⟨d',hd',rd⟩:=rs.get' hx';rw [Ws,hd'] at hd;cases hd;exact .inr ⟨p,_,_,hp,rfl,rfl,rfl,.cons (by rw [Nat.zero_add];exact .int _) (.cons rd .nil)⟩
  cases d with
  |lst es=>
   cases e2;obtain ⟨a,xs,rfl,ha,na,rs⟩:=rep.lstE;exact main a xs es (fun H=>H a=some (.lst xs)) ru (.of ha) rs.low rfl ha (fun H' z=> .of z) fun env' σ' H' fr=>fr.keep a _ ha na.1
  |scr es=>
   cases e2;obtain ⟨a,xs,rfl,ha,rs⟩:=rep.scrE;refine main a xs es (fun H=>LsK X.K H a xs) ru ha.sql rs rfl ha (fun H' z=>z.sql) fun env' σ' H' fr=>?_
   rcases ha with ⟨o,eo⟩|z
   · exact .inl ⟨o,fr.keep a _ eo fun ow=>(k1.mutO ow eo).elim⟩
   · exact .inr z
  |_=>cases e2)
end
end M
namespace M
open PySem PySem.Spec L2
open Classical in
noncomputable instance decD:DecidableEq D:=fun a b=>ad5 (a=b)
end M
namespace M
open PySem PySem.Spec L2
open PyProof.Rows hiding St
def JL {P:aaA} {w:World} {H:Hp} {h:Heap} {a:Addr} {o:HO} (x:ObjOk P w H h a o): ∃ob,h.get? a=some ob:=by
 cases o with
 |lst xs=>obtain ⟨_,_,_,_,e⟩:=x;exact ⟨_,e⟩
 |tup xs=>obtain ⟨_,_,_,ob,e,_⟩:=x;exact ⟨_,e⟩
 |dK kvs=>obtain ⟨_,_,_,_,o,_,_,e,_⟩:=x;exact ⟨_,e⟩
 |dT kvs=>obtain ⟨_,_,_,_,o,_,_,e,_⟩:=x;exact ⟨_,e⟩
 |set S n=>obtain ⟨o,_,_,_,e,_⟩:=x;exact ⟨_,e⟩
 |ins C dx fs=>obtain ⟨_,_,_,e,_⟩:=x;exact ⟨_,e⟩
 |own y=>exact x
 |xd fs=>obtain ⟨_,⟨_,_,_,e,_⟩,_⟩:=x;exact ⟨_,e⟩
 |rng lo hi=>obtain ⟨_,_,_,e⟩:=x;exact ⟨_,e⟩
 |frz ob u=>obtain ⟨e,_⟩:=x;exact ⟨_,e⟩
 |tbl ps=>exact ⟨_,(show h.get? a=some _ from x)⟩
 |met f y=>exact ⟨_,(show h.get? a=some _ from x)⟩
 |ext φ=>obtain ⟨_,z,_⟩:=x;exact z
 |memo B Φ=>obtain ⟨_,_,_,_,o,_,_,e,_⟩:=x;exact ⟨_,e⟩
def CX1 (P:aaA) (w:World):CXT:=fun outer H s E e s'=> ∃(a C:Addr) (H':Hp) (B:Heap) (a0:Value),e= .ref a/\s'.os=s.os/\aeD s'.gens/\Un (frs outer) [] H H' s.heap s'.heap/\HOk P w H' s'.heap/\H' a=none/\
 Heap.FlyingW B outer a (.ref C) a0 s'.heap/\(∀b,b∉frs outer->((∃o,s.heap.get? b=some o)\/ ∃u,H' b=some u)->B.get? b=s'.heap.get? b)/\E (.ref C) none H'
section
variable {P:aaA} {w:World} {K:aaa} {mg:Xy} {base:Heap} {N:List Str} {qual:Str} {scope:Scope} {f:Addr} {cd:Value} {A:aaU} {outer:List Env} {s0:aaf} {H0:Hp} {E:XK}
 {pins:List (Addr×Obj)} {σ:L2.St} {H:Hp} {s:aaf}
def UX {h h' B:Heap} {a:Addr} {cls a0:Value} (I:Inv (cxOf (CX1 P w) P w K mg base N qual scope f cd A outer s0 H0 E) pins σ H {s with heap:=h})
   (fl:Heap.FlyingW B outer a cls a0 h') (inB: ∀b o,h.get? b=some o->b∉frs (cxOf (CX1 P w) P w K mg base N qual scope f cd A outer s0 H0 E).stack->((∃o,s0.heap.get? b=some o)\/ ∃u,H b=some u)->B.get? b=some o)
   (up: ∀b o,b∈frs (cxOf (CX1 P w) P w K mg base N qual scope f cd A outer s0 H0 E).stack->h.get? b=some o->(∀vs,o.data≠ .fields vs)-> ∃sl,h'.get? b=some {o with slots:=sl}):
   Un (frs outer) [] H0 H s0.heap h'/\HOk P w H h'/\ ∀b,b∉frs outer->((∃o,s0.heap.get? b=some o)\/ ∃u,H b=some u)->B.get? b=h'.get? b:=by
 have nfr: ∀b o,s0.heap.get? b=some o->b∉frs outer->b∉frs (cxOf (CX1 P w) P w K mg base N qual scope f cd A outer s0 H0 E).stack:=fun b o q hb hm=>by
   rcases aaJ.mp (I.stkSub b hm) with e|e
   · have h1:s0.heap.objs.size<=b:=by rw [e];exact I.ok.above
     exact abI _ (aaw (aao q) h1)
   · exact hb e
 have trk: ∀b u,H b=some u->b∉frs (cxOf (CX1 P w) P w K mg base N qual scope f cd A outer s0 H0 E).stack:=fun b u q hm=>by
   have:=I.stkFree b hm;rw [q] at this;cases this
 have B0:Un (frs outer) [] H0 H s0.heap h:=I.base;have FF:=I.stack
 have sub: ∀b∈frs outer,b∈frs (cxOf (CX1 P w) P w K mg base N qual scope f cd A outer s0 H0 E).stack:=fun b hb=>by
   show b∈frs (adx qual scope s0.heap.objs.size f cd::outer);unfold frs at hb ⊢;rw [acs]
   split
   · exact hb
   · exact aat _ hb
 have slotOf: ∀b o,b∈frs (cxOf (CX1 P w) P w K mg base N qual scope f cd A outer s0 H0 E).stack->h.get? b=some o-> ∃sl,h'.get? b=some {o with slots:=sl}:=fun b o hb q=>by
   obtain ⟨_,o',ho',hd⟩:=FF.mem hb;rw [q] at ho';cases ho';exact up b o hb q hd
 refine ⟨⟨fun b o q n hb _=>?_,fun b o q n hb _=>?_,fun b o q n _=>B0.free b o q n (by simp),fun b o q _=>?_,B0.tups,B0.frzs,B0.tbls⟩,fun b u q=>?_,fun b hb hc=>?_⟩
 · have h1:=B0.keep b o q n hb (by simp);exact fl.1 b o (inB b o h1 (nfr b o q hb) (.inl ⟨o,q⟩))
 · obtain ⟨sl,h1⟩:=B0.slot b o q n hb (by simp);obtain ⟨sl',h2⟩:=slotOf b _ (sub b hb) h1;exact ⟨sl',h2⟩
 · obtain ⟨o',h1⟩:=B0.there b o q (by simp)
   by_cases hm:b∈frs (cxOf (CX1 P w) P w K mg base N qual scope f cd A outer s0 H0 E).stack
   · obtain ⟨sl,h2⟩:=slotOf b o' hm h1;exact ⟨_,h2⟩
   · exact ⟨o',fl.1 b o' (inB b o' h1 hm (.inl ⟨o,q⟩))⟩
 · have h0:=I.hok b u q;refine h0.stay (fun c v hc r=>?_) (fun _ z=>z) fun _ _ z=>z
   have ht: ∃u,H c=some u:=by
     rcases hc with z|z
     · rw [z];exact ⟨u,q⟩
     · exact ⟨_,z⟩
   obtain ⟨u',hu'⟩:=ht;exact fl.1 c v (inB c v r (trk c u' hu') (.inr ⟨u',hu'⟩))
 · have ht: ∃o,h.get? b=some o/\b∉frs (cxOf (CX1 P w) P w K mg base N qual scope f cd A outer s0 H0 E).stack:=by
     rcases hc with ⟨o,q⟩| ⟨u,q⟩
     · obtain ⟨o',h1⟩:=B0.there b o q (by simp);exact ⟨o',h1,nfr b o q hb⟩
     · obtain ⟨ob,h1⟩:=JL (show ObjOk P w H h b u from I.hok b u q);exact ⟨ob,h1,trk b u q⟩
   obtain ⟨o,h1,h2⟩:=ht;have h3:=inB b o h1 h2 hc;rw [h3,fl.1 b o h3]
def QK {h:Heap} {e C:Addr} {vs:List Value} (I:Inv (cxOf (CX1 P w) P w K mg base N qual scope f cd A outer s0 H0 E) pins σ H {s with heap:=h}) (hx:Heap.MadeExcOf h s.heap e (.ref C) vs) (hE:E (.ref C) none H):
  (cxOf (CX1 P w) P w K mg base N qual scope f cd A outer s0 H0 E).xe (.ref e) s:=by
 have FF:=I.stack
 have FF2:h.FunFrames (PySem.W.hideAll h (frs (cxOf (CX1 P w) P w K mg base N qual scope f cd A outer s0 H0 E).stack)) (cxOf (CX1 P w) P w K mg base N qual scope f cd A outer s0 H0 E).stack:=
  PySem.W.funFrames_hide FF fun env he b hb=>ads.mpr ⟨env,he,hb⟩
 have hen:H e=none:=by
  cases q:H e with
  |none=>rfl
  |some u=>
   obtain ⟨ob,z⟩:=JL (show ObjOk P w H h e u from I.hok e u q);rw [hx.new] at z;cases z
 refine wpAny_leaves_madeW I.ok.frames rfl (fun b o q=>PySem.W.of_hideAll _ q) FF2 hx fun h' t fl tup hn ups=>?_
 obtain ⟨u1,u2,u3⟩:=UX I fl (fun b o q hb _=>PySem.W.hideAll_get _ q hb) fun b o hb q hd=>ups b o (hx.keeps b o q) hd
 exact ⟨e,C,H,_,_,rfl,I.os,I.bare,u1,u2,hen,fl,u3,hE⟩
def YK {E1:XK} {e:Value} {s':aaf} (I:Inv (cxOf (CX1 P w) P w K mg base N qual scope f cd A outer s0 H0 E) pins σ H s) (c:CX1 P w (cxOf (CX1 P w) P w K mg base N qual scope f cd A outer s0 H0 E).stack H s E1 e s')
  (hE: ∀C H',E1 (.ref C) none H'->E (.ref C) none H'):(cxOf (CX1 P w) P w K mg base N qual scope f cd A outer s0 H0 E).xe e s':=by
 obtain ⟨a,C,H',B,a0,rfl,os,bare,un,hok,ha,fl,cov,hE1⟩:=c;have J:=I.call' os un hok bare fun b hb=>absurd hb (by simp)
 refine wpAny_leaves_onW J.ok.frames rfl fl fun h' fl' ups=>?_
 have B0:Un (frs outer) [] H0 H s0.heap s.heap:=I.base
 obtain ⟨u1,u2,u3⟩:=UX J fl' (fun b o q hb hc=>by
  rw [cov b hb ?_,q];rcases hc with ⟨o',z⟩|z
  · obtain ⟨o2,z2⟩:=B0.there b o' z (by simp);exact .inl ⟨o2,z2⟩
  · exact .inr z) fun b o hb q hd=>ups b o q hd
 exact ⟨a,C,H',B,a0,rfl,J.os,J.bare,u1,u2,ha,fl',u3,hE C H' hE1⟩
end
abbrev NmC (K:aaa) (c:Str) (C:Addr):Prop:=aal K aak c=some (some (.ref C))
def XE (K:aaa) (c:Str) (H:Hp):XK:=fun cls _ H'=> ∃C,cls= .ref C/\NmC K c C/\Same H H'
def ThrB (X:Cx) (c:Str) (σ:L2.St) (H:Hp):Prop:= ∀pins H1 s e s',Same H H1->Inv X pins σ H1 s->CX1 X.prog X.w X.stack H1 s (XE X.K c H1) e s'->X.xe e s'
def ThrA (X:Cx) (c:Str) (H0:Hp):Prop:= ∀pins σ H (s:aaf) h e C vs,Same H0 H->NmC X.K c C->Inv X pins σ H {s with heap:=h}->Heap.MadeExcOf h s.heap e (.ref C) vs->X.xe (.ref e) s
structure Thr (X:Cx) (c:Str) (H0:Hp):Prop where
 a:ThrA X c H0
 b: ∀σ H,Same H0 H->ThrB X c σ H
def tEX (X:Cx) (l:Lv) (f:TL):TE:=fun σ H Q=> ∃G H0 env,EnvOk X.K G H0 env σ H/\
 ((∃d,f env= .ok d/\ ∀v H',Same H H'->Rep X.K (l.A G env σ) H' v d->l.T H v->Q v H')\/ ∃c,f env= .exc c/\ThrB X c σ H)
def tSX (X:Cx) (g:TJ):TS:=fun E σ H=> ∃G H0 env,EnvOk X.K G H0 env σ H/\((∃o,g env= .ok o/\Post X.K G H0 env σ H E o)\/ ∃c,g env= .exc c/\Thr X c H0)
@[irreducible] def DEX (X:Cx) (l:Lv) (e:Expr) (f:TL):Prop:=PE X e (tEX X l f)
@[irreducible] def DSX (X:Cx) (st:Stmt) (g:TJ):Prop:=PS X st (tSX X g)
@[irreducible] def DSsX (X:Cx) (st:List Stmt) (g:TJ):Prop:=PSs X st (tSX X g)
def nx1 {α:Type} (r:Res α):Res α:=match r with
 | .ok a=> .ok a
 |_=> .stuck
def WC {α:Type} {r:Res α} {a:α} (h:nx1 r= .ok a):r= .ok a:=by
 cases r with
 |ok b=>exact h
 |exc c=>cases h
 |stuck=>cases h
def XW {α:Type} {r:Res α} {c:Str} (h:nx1 r= .exc c):False:=by
 cases r<;>cases h
def Kj {α β:Type} {r:Res α} {f:α->Res β} {c:Str} (h:(r>>=f)= .exc c):r= .exc c\/ ∃a,r= .ok a/\f a= .exc c:=by
 cases r with
 |ok a=>exact .inr ⟨a,rfl,h⟩
 |exc d=>cases h;exact .inl rfl
 |stuck=>cases h
def jcs (g:TJ):Sl->Res Out:=fun env=>nx1 (g env)
def Qd (f:TL):Sl->Res D:=fun env=>nx1 (f env)
section
variable {X:Cx} {e c tg:Expr} {st:Stmt} {rest body orelse:List Stmt} {pos:Pos} {l:Lv} {f:TL} {g g1 g2:TJ}
def DSs.x {sts:List Stmt} (h:DSs X sts g):DSsX X sts (jcs g):=by
 with_unfolding_all exact (PSs.imp h fun E σ H=>by
  rintro ⟨G,H0,env,k,q⟩;rcases q with ⟨o,e1,q⟩| ⟨c,e1,_⟩
  · exact ⟨G,H0,env,o,k,WC e1,q⟩
  · exact (XW e1).elim)
def ZT (h1:DSX X st g1):DSsX X [st] g1:=by
 with_unfolding_all exact (PSs.imp (Jw h1) fun E σ H q=>q)
def ifX (t:TK) (g1 g2:TJ):Sl->Res Out:=fun env=>match t env with
 | .ok b=>if b=true then g1 env else g2 env
 |_=> .stuck
def jdX {t:TK} (hc:DT X c t) (h1:DSsX X body g1) (h2:DSsX X orelse g2):DSX X (.If c body orelse pos) (ifX t g1 g2):=by
 with_unfolding_all exact (PS.imp (jbp hc h1 h2) fun E σ H=>by
  rintro ⟨G,H0,env,k,q⟩;have key: ∃b,t env= .ok b/\ifX t g1 g2 env=if b=true then g1 env else g2 env:=by
   cases e1:t env with
   |ok b=>exact ⟨b,rfl,by unfold ifX;rw [e1]⟩
   |_=>
     have z:ifX t g1 g2 env= .stuck:=by unfold ifX;rw [e1]
     rcases q with ⟨o,ef,_⟩| ⟨c,ef,_⟩<;>(rw [z] at ef;cases ef)
  obtain ⟨b,e1,e2⟩:=key;rw [e2] at q;refine ⟨G,H0,env,b,k,e1,fun H' s=>?_⟩
  cases b with
  |true=>
   rw [if_pos rfl] at q ⊢;rcases q with ⟨o,ef,q⟩| ⟨c,ef,th⟩
   · exact ⟨G,H0,env,k.grow s,.inl ⟨o,ef,yO (Frm.refl s) q⟩⟩
   · exact ⟨G,H0,env,k.grow s,.inr ⟨c,ef,th⟩⟩
  |false=>
   rw [if_neg aaC] at q ⊢;rcases q with ⟨o,ef,q⟩| ⟨c,ef,th⟩
   · exact ⟨G,H0,env,k.grow s,.inl ⟨o,ef,yO (Frm.refl s) q⟩⟩
   · exact ⟨G,H0,env,k.grow s,.inr ⟨c,ef,th⟩⟩)
end
def spX (K:aaa) (fr:Bool) (n:Nat) (F:TF):Sp:=fun vs H Q E=> ∃B ds,vs.length=n/\Reps K B H vs ds/\
 ((∃d,F ds= .ok d/\ ∀v H',Same H H'->Rep K (fun a=>H a=none\/B a) H' v d->(fr=true->NewTop H v)->Q v H')\/
  ∃c,F ds= .exc c/\ ∀C H',NmC K c C->Same H H'->E (.ref C) none H')
structure AvX (P:aaA) (w:World) (K:aaa) (mg:Xy) (base:Heap) (k:Nat) (x:Str) (ps:List Str) (fr:Bool) (F:TF):Prop where
 ex: ∃f fd,FnOk P w K mg base (CX1 P w) k f fd ps (spX K fr ps.length F)/\mg x=some (.ref f)/\aaX K (.ref f)=true/\Binds K fd ps []
def AvX.mono {P:aaA} {w:World} {K:aaa} {mg:Xy} {base:Heap} {j k:Nat} {x:Str} {ps:List Str} {fr:Bool} {F:TF} (h:AvX P w K mg base j x ps fr F) (hj:j<=k):AvX P w K mg base k x ps fr F:=
 let ⟨f,fd,a,b⟩:=h.ex
 ⟨f,fd,a.mono hj,b⟩
def runX (fr:Bool) (n:Nat) (g:TJ) (ds:List D):Res D:=match g (ze n ds) with
 | .ok (.rt fr' d)=>if fr=true/\fr'=false then .stuck else .ok d
 | .ok (.nx _)=> .ok .non
 | .exc c=> .exc c
 |_=> .stuck
def vV {fr:Bool} {n:Nat} {g:TJ} {ds:List D} {c:Str} (h:runX fr n g ds= .exc c):g (ze n ds)= .exc c:=by
 unfold runX at h
 split at h
 · split at h<;>cases h
 · cases h
 · cases h;assumption
 · cases h
def KF {fr:Bool} {n:Nat} {g:TJ} {ds:List D} {d:D} (h:runX fr n g ds= .ok d):Meets fr n g ds d:=by
 unfold runX at h
 split at h
 · rename_i fr' d' e
   split at h
   · cases h
   · rename_i hn;cases h;refine .inl ⟨fr',e,fun hf=>?_⟩
     cases fr' with
     |true=>rfl
     |false=>exact absurd ⟨hf,rfl⟩ hn
 · rename_i env' e;cases h;exact .inr ⟨rfl,env',e⟩
 · cases h
 · cases h
section
variable {P:aaA} {w:World} {K:aaa} {mg:Xy} {base:Heap}
def jed {x:Str} {st:Stmt} {f:Addr} {fd:abK} {N ps:List Str} {k:Nat} (fr:Bool) {g:TJ} (Fu:Fun K x x st f fd) (hmg:mg x=some (.ref f)) (S:FnScope N ps (jf st)) (hbi:Binds K fd ps [])
   (hb: ∀(cdv:Value) (A:aaU) (outer:List Env) (s:aaf) (H:Hp) (E:XK),Room k (A.deeper (adx x (jf st) s.heap.objs.size f cdv))->DSsX (cxOf (CX1 P w) P w K mg base N x (jf st) f cdv A outer s H E) (jY st) g):
   AvX P w K mg base (k+1) x ps fr (runX fr N.length g):=by
 refine ⟨f,fd,?_,hmg,Fu.kp,hbi⟩
 with_unfolding_all exact (by
 obtain ⟨oc,od,kV,doc,pm,an,cdv,ct,osl,rfl,lk,hcd⟩:=Fu.ex;refine jb1 lk hcd S (fun vs H Q E ⟨B,ds,hl,_⟩=>hl) fun A outer s H vs Q E hr h=>?_
 obtain ⟨B,ds,hl,r,q⟩:=h;refine ⟨_,hb cdv A outer s H E hr,?_⟩;have kk:=WV (N:=N) r;rcases q with ⟨d,e,q⟩| ⟨c,e,q⟩
 · rcases KF e with ⟨fr',z,hf⟩| ⟨rfl,env',z⟩
   · exact ⟨_,H,_,kk,.inl ⟨_,z,fun v H' s r nt=>q v H' s r fun hh=>nt (hf hh)⟩⟩
   · exact ⟨_,H,_,kk,.inl ⟨_,z,fun σ' H' k' f'=>q .non H' k'.base .non fun _ a e=>by cases e⟩⟩
 · refine ⟨_,H,_,kk,.inr ⟨c,vV e,fun pins σ H1 s1 h e C vs sm hC I hx=>QK I hx (q C H1 hC sm),fun σ H1 sm pins H2 s1 e s' sm2 I cx=>YK I cx fun C H' z=>?_⟩⟩;obtain ⟨C',e',hC,s3⟩:=z;cases e'
   exact q C H' hC (sm.trans (sm2.trans s3)))
end
def jaz (c:Str):Sl->Res Out:=fun _=> .exc c
def jb2 {K:aaa} {h:Heap} {C:Addr} {bmB:List Value} {newId:String} (X:K.In h) (q:abL K C bmB newId=true):
   ∃bm N nm qn bs hdct sn sub ab col dd k0 k1 k2 k3 k5 mN,h.get? C=some (excClassObj nm qn C N bs bm hdct sn sub ab col dd k0 k1 k2 k3 k5 newId)/\h.Ns N mN/\mN "__init__" =none/\OwnTail h bmB bm:=by
 unfold abL at q
 split at q
 · rename_i dd cd sl ho
   split at q
   · rename_i C' bm k0 k1 k2 k3 n k5 hm hs;simp at q;obtain ⟨⟨⟨⟨⟨rfl,rfl⟩,hdel⟩,ht⟩,hok⟩,hni⟩:=q;obtain ⟨nm,bs,mro,ns,qn,hd,sn,sub,ab,col,del⟩:=cd;dsimp only at hm hdel hok hni;subst hm hdel
     have hsl:sl= #[k0,k1,k2,k3,some (.builtin n),k5]:=by
      obtain ⟨l⟩:=sl;simp only at hs;rw [hs]
     subst hsl;exact ⟨bm,ns,nm,qn,bs,hd,sn,sub,ab,col,dd,k0,k1,k2,k3,k5,_,X _ _ ho,.of_isNs (PySem.W.isNs_of_in X hok),PySem.W.nsMap_none_of_in X hok hni,PySem.W.tail_of_in X ht⟩
   · cases q
 · cases q
def QF {X:Cx} {c:Str} {C:Addr} {bm:List Value} {B newId initId:String} {e₀:Expr} {l:Lv} {np cpos pos:Pos} {f:TL} (hC:NmC X.K c C) (hm:X.mg c=some (.ref C)) (hq:abL X.K C bm newId=true) (FB:ExcBaseFacts B newId initId bm)
   (ha:DE X l e₀ f) (hok: ∀env,∃d,f env= .ok d) (hcalm:X.calm=true) (hg:Gl X c) (hdb:Yx c)
   (he:aai [e₀] X.env=(false,eval e₀ X.env)::aai [] X.env)
   {pins:List (Addr×Obj)} {s:aaf} {σ:L2.St} {H:Hp} {E:Ends} {G:Xx} {H0:Hp} {env:Sl} (I:Inv X pins σ H s) (k:EnvOk X.K G H0 env σ H) (th:ThrA X c H):
   wpAny (model X.prog X.w) X.A (exec (.Raise (some (.Call (.Name c np) [e₀] [] cpos)) none pos) X.env) (fun fl s'=>SP X pins E fl s') X.xe s:=by
 with_unfolding_all exact (by
  obtain ⟨d,hd⟩:=hok env;obtain ⟨tl,N,nm,qn,bs,hdct,sn,sub,ab,col,dd,k0,k1,k2,k3,k5,mN,hCo,hN,hni,T⟩:=jb2 I.ok.mod.kin hq
  refine wpAny_Raise_call_subT (nm:=nm) (q:=qn) (N:=N) (bs:=bs) (hdct:=hdct) (sn:=sn) (sub:=sub) (ab:=ab) (col:=col) (dd:=dd) (k0:=k0) (k1:=k1) (k2:=k2) (k3:=k3) (k5:=k5)
   FB (T.hasType FB.hasBase) (I.ok.hd hcalm) (by rw [he];rfl) hni (xA I hg hm ⟨rfl,?_⟩ hdb)
  rw [he];refine Calls.evalArgs_plain (Calls.spliced_cons (thn ((show PE X e₀ (tE X.K l f) from ha) pins s σ H (fun v H1=>Same H H1) I ⟨G,H0,env,d,k,hd,fun v H' s' _ _=>s'⟩) fun u s1 ⟨v,H1,I1,r,sm⟩=>Calls.spliced_nil ?_))
  exact ⟨rfl,(by decide:1<=aaj),I1.bk _ _ hCo,hN.keeps I1.bk,T.keeps I1.bk,fun h' e hx=>th pins σ H1 {s1 with heap:=h'} s1.heap e C _ sm hC I1 hx⟩)
def kQ {X:Cx} {c:Str} {C:Addr} {bm:List Value} {B newId initId:String} {e₀:Expr} {l:Lv} {np cpos pos:Pos} {f:TL} (hC:NmC X.K c C) (hm:X.mg c=some (.ref C)) (hq:abL X.K C bm newId=true) (FB:ExcBaseFacts B newId initId bm)
    (ha:DE X l e₀ f) (hok: ∀env,∃d,f env= .ok d) (hcalm:X.calm=true:=by rfl) (hg:Gl X c:=by rfl) (hdb:Yx c:=by decide)
    (he:aai [e₀] X.env=(false,eval e₀ X.env)::aai [] X.env:=by exact ji rfl):
    DSX X (.Raise (some (.Call (.Name c np) [e₀] [] cpos)) none pos) (jaz c):=by
 with_unfolding_all exact (by
  rintro pins s σ H E I ⟨G,H0,env,k,q⟩;rcases q with ⟨o,ef,_⟩| ⟨c',ef,th⟩
  · cases ef
  cases ef
  exact QF hC hm hq FB ha hok hcalm hg hdb he I k fun pins σ H1 s1 h e C vs sm=>th.a pins σ H1 s1 h e C vs (k.base.trans sm))
def tSY (X:Cx) (g:TJ):TS:=fun E σ H=> ∃G H0 env,EnvOk X.K G H0 env σ H/\((∃o,g env= .ok o/\Post X.K G H0 env σ H E o)\/ ∃c,g env= .exc c/\ThrB X c σ H)
@[irreducible] def DSY (X:Cx) (st:Stmt) (g:TJ):Prop:=PS X st (tSY X g)
@[irreducible] def DSsY (X:Cx) (st:List Stmt) (g:TJ):Prop:=PSs X st (tSY X g)
section
variable {X:Cx} {e c tg:Expr} {st:Stmt} {rest body orelse:List Stmt} {pos:Pos} {l:Lv} {f:TL} {g g1 g2:TJ}
def u9 (h1:DSY X st g1):DSsY X [st] g1:=by
 with_unfolding_all exact (PSs.imp (Jw h1) fun E σ H q=>q)
def u8 (i:Nat) {x:Str} {pos':Pos} (hN:X.N.Nodup) (h:DEX X .s e f) (hi:X.N[i]?=some x:=by rfl) (hx:Loc X.env.scope x:=by first|exact abR rfl|exact abf rfl) (hs:aca e (some (.Name x pos')) pos.line X.env=pure false:=by rfl)
   (hf:VR X x:=by first|exact .inl rfl|exact .inr rfl|assumption):DSY X (.Assign [.Name x pos'] e pos) (jB i f):=by
 with_unfolding_all exact (
  PS.imp (Ui hN hi hx h hs hf) fun E σ H=>by
   rintro ⟨G,H0,env,k,q⟩;rcases q with ⟨o,ef,q⟩| ⟨c,ef,th⟩
   · obtain ⟨d,e1,e2⟩:=jc ef;cases e2;exact ⟨G,H0,env,k,.inl ⟨d,e1,fun v H' s r _=>q _ H' ((k.grow s).setS r) (.set s fun _ _ z _=>by cases z)⟩⟩
   · rcases Kj ef with e1| ⟨d,e1,e2⟩
     · exact ⟨G,H0,env,k,.inr ⟨c,e1,th⟩⟩
     · cases e2)
end
abbrev Cx.tryX (X:Cx) (E:Xw) (ps:List (Addr×Obj)):Cx:={X with xe:=E,pn:=X.pn++ps}
abbrev Cx.held (X:Cx) (e:Addr):Cx:={X with xe:=fun _ _=>False,A:=X.A.mark (some (.ref e)),calm:=false}
section
variable {X:Cx} {pins ps:List (Addr×Obj)} {σ:L2.St} {H:Hp} {s:aaf} {E:Xw} {e:Addr}
def jdr (ok:X.Ok):(Cx.tryX X E ps).Ok:=⟨ok.mod,ok.kind,ok.glob,ok.blt,ok.above,ok.inj,ok.has,ok.cab,ok.hd,ok.frames,ok.stk,ok.exf,ok.bs,ok.bsz,ok.noex,ok.exfs,ok.funs,ok.frf⟩
def uy (ok:(Cx.tryX X E ps).Ok):X.Ok:=⟨ok.mod,ok.kind,ok.glob,ok.blt,ok.above,ok.inj,ok.has,ok.cab,ok.hd,ok.frames,ok.stk,ok.exf,ok.bs,ok.bsz,ok.noex,ok.exfs,ok.funs,ok.frf⟩
def jbS (I:Inv X pins σ H s):Inv (Cx.tryX X E pins) [] σ H s:=⟨jdr I.ok,I.os,I.bare,I.base,I.loc,I.cell,I.free,I.freeC,fun p hp=>I.pin p (by simpa using hp),I.hok,I.len⟩
def wz (I:Inv (Cx.tryX X E pins) ps σ H s):Inv X pins σ H s:=⟨uy I.ok,I.os,I.bare,I.base,I.loc,I.cell,I.free,I.freeC,fun p hp=>I.pin p (ac3 _ hp),I.hok,I.len⟩
def y7 {D:Ends} {f:Flow} {s':aaf} (h:SP (Cx.tryX X E pins) [] D f s'):SP X pins D f s':=by
 cases f with
 |next=>obtain ⟨σ',H',I,q⟩:=h;exact ⟨σ',H',wz I,q⟩
 |brk=>obtain ⟨σ',H',I,q⟩:=h;exact ⟨σ',H',wz I,q⟩
 |cont=>obtain ⟨σ',H',I,q⟩:=h;exact ⟨σ',H',wz I,q⟩
 |ret u=>obtain ⟨v,σ',H',I,r,q⟩:=h;exact ⟨v,σ',H',wz I,r,q⟩
def jbz (ok:X.Ok):(Cx.held X e).Ok:=⟨ok.mod,ok.kind,ok.glob,ok.blt,ok.above,ok.inj,ok.has,ok.cab,(fun z=>nomatch z),ok.frames,ok.stk,ok.exf,ok.bs,ok.bsz,ok.noex,ok.exfs,ok.funs,ok.frf⟩
def ZH (I:Inv X pins σ H s):Inv (Cx.held X e) pins σ H s:=⟨jbz I.ok,I.os,I.bare,I.base,I.loc,I.cell,I.free,I.freeC,I.pin,I.hok,I.len⟩
def wU (ok:X.Ok) (I:Inv (Cx.held X e) pins σ H s):Inv X pins σ H s:=⟨ok,I.os,I.bare,I.base,I.loc,I.cell,I.free,I.freeC,I.pin,I.hok,I.len⟩
def ZK {M:Model} {A:aaU} {E:Xw} {i:Nat} {x:Str} {pos:Pos} {Q:Unit->aaf->Prop} (I:Inv X pins σ H s) (hN:X.N.Nodup) (hi:X.N[i]?=some x) (hk:X.env.scope.names.lookup x=some .local)
   (h: ∀s',Inv X pins (σ.set i none) H s'->Q () s'):wpAny M A (do bindName X.env x .none;unbindBehindTheSuite X.env x pos) Q E s:=by
 obtain ⟨m,hn,hl⟩:=id I.loc;have hcls:(X.env.scope.kind== .class|| (X.env.scope.kind== .module&&X.env.locals !=X.env.globals))=false:=by rw [I.ok.kind];rfl
 have hiσ:i<σ.length:=by rw [I.len];exact (aam.mp hi).1
 have cne:=I.cne
 have tracked: ∀ {a:Addr} {h':Heap},(∃o,s.heap.get? a=some o/\H a=none)->ab9 a s.heap h'->HOk X.prog X.w H h':=fun {a h'} ha hs b ob e=>by
   obtain ⟨_,_,hfree⟩:=ha;refine (I.hok b ob e).stay (fun c w' hc q=>(hs.2 c ?_).trans q) (fun _ q=>q) fun _ _ q=>q
   rintro rfl;rcases hc with rfl|hc
   · rw [hfree] at e;cases e
   · rw [hfree] at hc;cases hc
 refine wpAny_nameGoes_keeps hk hn hcls fun h' v hn' hs=>?_
 obtain ⟨oL,_,_,hoL,_⟩:=id hn;refine h _ ⟨I.ok,I.os,I.bare,⟨fun b o e n hb hx=>?_,fun b o e n hb hx=>?_,I.base.free,fun b o e hx=>?_,I.base.tups,I.base.frzs,I.base.tbls⟩,⟨_,hn',fun j y v' e1 e2 e3=>?_⟩,fun y c e=>?_,I.free,I.freeC,fun p hp=>?_,tracked ⟨oL,hoL,I.free⟩ hs,by simpa using I.len⟩
 · exact (hs.2 b (aax (aaw (aao e) I.ok.above))).trans (I.base.keep b o e n hb hx)
 · obtain ⟨sl,e1⟩:=I.base.slot b o e n hb hx;exact ⟨sl,(hs.2 b (aax (aaw (aao e) I.ok.above))).trans e1⟩
 · obtain ⟨o',e1⟩:=I.base.there b o e hx;exact ⟨o',(hs.2 b (aax (aaw (aao e) I.ok.above))).trans e1⟩
 · by_cases hj:j=i
   · subst hj;rw [aaR hiσ] at e2;cases e2
   · rw [aa5 (acD hj)] at e2;obtain ⟨u',r',q⟩:=hl j y v' e1 e2 e3;refine ⟨u',r',?_⟩;rcases q with ⟨k,e⟩| ⟨k,c,e,z⟩
     · refine .inl ⟨k,?_⟩;have:y≠x:=fun e=>hj (Zx hN e1 (e▸hi))
       simp [this,e]
     · exact .inr ⟨k,c,e,z.sameBut hs (cne y c e)⟩
 · obtain ⟨w',z⟩:=I.cell y c e;exact ⟨w',z.sameBut hs (cne y c e)⟩
 · obtain ⟨e,n,ne,nf,d⟩:=I.pin p hp;exact ⟨(hs.2 p.1 ne).trans e,n,ne,nf,d⟩
end
def X2 {P:aaA} {w:World} {base:Heap} {outer:List Env} {H H':Hp} {h h1 h' B:Heap} (un:Un (frs outer) [] H H' h h1) (hok:HOk P w H' h1) (fr: ∀b∈frs outer,H' b=none)
   (cov: ∀b,b∉frs outer->((∃o,h.get? b=some o)\/ ∃u,H' b=some u)->B.get? b=h1.get? b) (FF:h1.FunFrames base outer) (st:B.StaysIn h') (up:h1.UpToSlots h'):
   Un (frs outer) [] H H' h h'/\HOk P w H' h':=by
 have slotOf: ∀b o,b∈frs outer->h1.get? b=some o-> ∃sl,h'.get? b=some {o with slots:=sl}:=fun b o hb q=>by
   obtain ⟨_,o',ho',hd⟩:=FF.mem hb;rw [q] at ho';cases ho';exact up b o q hd
 refine ⟨⟨fun b o q n hb _=>?_,fun b o q n hb _=>?_,un.free,fun b o q _=>?_,un.tups,un.frzs,un.tbls⟩,fun b u q=>?_⟩
 · have h2:=un.keep b o q n hb (by simp);exact st b o ((cov b hb (.inl ⟨o,q⟩)).trans h2)
 · obtain ⟨sl,h2⟩:=un.slot b o q n hb (by simp);obtain ⟨sl',h3⟩:=slotOf b _ hb h2;exact ⟨sl',h3⟩
 · obtain ⟨o',h2⟩:=un.there b o q (by simp)
   by_cases hm:b∈frs outer
   · obtain ⟨sl,h3⟩:=slotOf b o' hm h2;exact ⟨_,h3⟩
   · exact ⟨o',st b o' ((cov b hm (.inl ⟨o,q⟩)).trans h2)⟩
 · refine (hok b u q).stay (fun c v hc r=>?_) (fun _ z=>z) fun _ _ z=>z
   have ht: ∃u,H' c=some u:=by
     rcases hc with z|z
     · rw [z];exact ⟨u,q⟩
     · exact ⟨_,z⟩
   obtain ⟨u',hu'⟩:=ht;have nm:c∉frs outer:=fun z=>by rw [fr c z] at hu';cases hu'
   exact st c v ((cov c nm (.inr ⟨u',hu'⟩)).trans r)
section
variable {K:aaa} {G:Xx} {H0 H:Hp} {env:Sl} {σ:L2.St} {j:Nat}
def Jy {a:Addr} (o:jL (env.set j .un) (σ.set j none) a):jL env σ a:=by
 obtain ⟨i,d,h1,h2⟩:=o
 by_cases z:j=i
 · subst z;obtain ⟨q,_⟩:=jo h1;cases q
 · rw [jm z] at h1 h2;exact ⟨i,d,h1,h2⟩
def EnvOk.unset (k:EnvOk K G H0 env σ H):EnvOk K G H0 (env.set j .un) (σ.set j none) H:=by
 have w: ∀a,Sf G env σ a->Sf G (env.set j .un) (σ.set j none) a:=fun a n=>⟨fun o=>n.1 (Jy o),n.2⟩
 refine ⟨by simp [k.len],k.base,k.g0,fun i e h=>?_,fun i e h=>?_,fun i i' e e' a h1 h2 h3 h4=>?_⟩
 · by_cases z:j=i
   · subst z;obtain ⟨q,_⟩:=jo h;cases q
   · rw [jm z] at h ⊢;obtain ⟨v',h1,h2⟩:=k.shr i e h;exact ⟨v',h1,h2.weak w⟩
 · by_cases z:j=i
   · subst z;obtain ⟨q,_⟩:=jo h;cases q
   · rw [jm z] at h ⊢;obtain ⟨a,h1,h2,h3⟩:=k.own i e h;exact ⟨a,h1,h2,h3.stay (fun _ _ e _=>e) w fun _ q=>q⟩
 · have n1:j≠i:=by rintro rfl;obtain ⟨q,_⟩:=jo h1;cases q
   have n2:j≠i':=by rintro rfl;obtain ⟨q,_⟩:=jo h2;cases q
   rw [jm n1] at h1 h3;rw [jm n2] at h2 h4;exact k.dis i i' e e' a h1 h2 h3 h4
def Frm.unset:Frm env σ H (env.set j .un) (σ.set j none) H:=⟨fun _ _ e _=>e,fun b o=> .inl (Jy o),fun _ e=>e⟩
end
def outU (j:Nat):Out->Out
 | .nx env=> .nx (env.set j .un)
 | .bk env=> .bk (env.set j .un)
 | .ct env=> .ct (env.set j .un)
 | .rt fr d=> .rt fr d
def tryO (cs:List Str) (g:TJ) (j:Nat) (gs:TJ):Sl->Res Out:=fun env=>match g env with
 | .ok o=> .ok o
 | .exc c=>if cs.contains c=true then gs (env.set j (.shr (.exn c)))>>=fun o=> .ok (outU j o) else .stuck
 | .stuck=> .stuck
def jcM {P:aaA} {w:World} {fs:List Addr} {H H':Hp} {h h':Heap} {a:Addr} {oe:Obj} (un:Un fs [] H H' h h') (hok:HOk P w H' h') (hn:h.get? a=none) (ha:H' a=none) (he:h'.get? a=some oe):
   Un fs [] H (upd H' a (.frz oe (.own a))) h h'/\HOk P w (upd H' a (.frz oe (.own a))) h':=by
 refine ⟨⟨un.keep,un.slot,fun b o q n hx=>?_,un.there,fun b xs q=>?_,fun b o u q=>?_,fun b ps q=>?_⟩,fun b u e=>?_⟩
 · rw [jp (by rintro rfl;rw [hn] at q;cases q)];exact un.free b o q n hx
 · have:=un.tups b xs q;rw [jp (jC this ha)];exact this
 · have:=un.frzs b o u q;rw [jp (jC this ha)];exact this
 · obtain ⟨m,e⟩:=un.tbls b ps q;exact ⟨m,by rw [jp (jC e ha)];exact e⟩
 · by_cases hb:b=a
   · subst hb;rw [jj] at e;cases e;exact ⟨he,oe,he⟩
   · rw [jp hb] at e;exact (hok b u e).stay (fun c v _ q=>q) (fun c q=>by rw [jp (jC q ha)];exact q) fun c xs q=>by rw [jp (jC q ha)];exact q
section
open PySem.W PySem.Calls
def jbO {K:Frag} {x t c:Value} {H:Heap->Prop} (ty: ∀(M:Model) (h:Heap),K.In h->H h->Looks M h (typeOf x) t) (e:aaI K t c=some true):Answers (fun s=>K.In s.heap/\H s.heap) x c true:=by
 intro dep tk prog w A R s hs;obtain ⟨h0,g,d,tt,os⟩:=s;obtain ⟨⟨X,p⟩,hq⟩:=hs;have LT:=ty (model prog w) h0 X p;unfold aaI at e;unfold adf.«isinstance.nested»;refine aab (LT.at ?_)
 by_cases q:(t==c)=true
 · rw [if_pos q]
   first
    | ((repeat lk);exact hq tt)
    |exact aab (ad7 (hq tt))
    |exact aab (ad7 (aad (hq tt)))
 · rw [if_neg q] at e;rw [if_neg q];obtain ⟨hty,his,hsub⟩:=kit_cls X e;have LI:Looks (model prog w) h0 (isInstance x c) true:=LT.andThen hsub;refine aab (hty.at ?_);rw [if_pos (by decide)]
   k_delta "plainIsInstance"
   refine aab (aab (his.at ?_));simp;refine aab (LI.at ?_)
   first
    |exact aad (aad (hq tt))
    | (simp;first|exact aad (aad (hq tt))|exact aad (hq tt)|exact aab (aad (aad (hq tt))))
def U9 {prog:aaA} {w:World} {A:aaU} {E:Xw} {s:aaf} {Q:Xw} {K:Frag} {x t c:Value} {H:Heap->Prop} (ty: ∀(M:Model) (h:Heap),K.In h->H h->Looks M h (typeOf x) t)
  (X:K.In s.heap) (p:H s.heap) (e:aaI K t c=some true) (hx:x≠ .builtin "__main__.__loader__#opaque") (h: ∀tk,Q (.bool true) {s with toks:=tk}):
  wpAny (model prog w) A (call (.builtin "isinstance") [x,c]) Q E s:=
 call_isinstance
  (fun prog w A R s hs=>isinstance_outer (jbO ty e 0 _ prog w A R s hs) hx) ⟨⟨X,p⟩,h⟩
end
section
variable {X:Cx}
def Kg (cs:List Str) {cV:V} {cv:Value} (hr: ∀u,RelV cV u->u=cv) (hk: ∀c,cs.contains c=true-> ∀C,NmC X.K c C->aaI X.K (.ref C) cv=some true):
  CallR X (.builtin "isinstance") (fun xs H Q=> ∃x c,xs=[x,cV]/\Rep X.K Any H x (.exn c)/\cs.contains c=true/\Q (.bl true) H):=by
 rintro pins s σ H xs us Q I r ⟨x,c,ex,rp,hc,q⟩;subst ex;obtain ⟨u,w',rfl,r1,r2⟩:=Vo r;cases hr w' r2
 cases rp with
 | @exn _ _ a b C o _ ha hC hn=>
  cases (show u=aaz a from r1);obtain ⟨ho,_⟩:=(show ObjOk X.prog X.w H s.heap a (.frz o (.own b)) from I.hok a _ ha)
  exact U9 (fun M h _ p=>by rw [←hC];exact (acx p).andThen .now) I.kIn ho (hk c hc C hn) (fun z=>nomatch z) fun tk=>⟨.bl true,H,I.tok tk,rfl,q⟩
def isxD (cs:List Str):D->Res D
 | .exn c=>if cs.contains c=true then .ok (.bl true) else .stuck
 |_=> .stuck
def isxF (cs:List Str) (f:TL):Sl->Res D:=fun env=>f env>>=isxD cs
def YO {cs:List Str} {a d:D} (h:isxD cs a= .ok d): ∃c,a= .exn c/\cs.contains c=true/\d= .bl true:=by
 unfold isxD at h
 split at h
 · split at h
   · rename_i hc;cases h;exact ⟨_,rfl,hc,rfl⟩
   · cases h
 · cases h
def jd5 (cs:List Str) (Ty:Str) {CT:Addr} {l l':Lv} {e:Expr} {f:TL} {p p2 pos:Pos} (hk: ∀c,cs.contains c=true-> ∀C,NmC X.K c C->aaI X.K (.ref C) (.ref CT)=some true) (he:DE X l e f)
   (hg:Gl X "isinstance") (hm:X.mg "isinstance" =none) (hg2:Gl X Ty) (hm2:X.mg Ty=some (.ref CT))
   (hd:Yx Ty:=by decide) (hs:aai [e,.Name Ty p2] X.env=(false,eval e X.env)::aai [.Name Ty p2] X.env:=by exact ji rfl)
   (hs2:aai [.Name Ty p2] X.env=(false,eval (.Name Ty p2) X.env)::aai [] X.env:=by exact ji rfl) (hpl:(abn pos (aai [.Name Ty p2] X.env)).any (·.1)=false:=by exact jx rfl):
   DE X l' (.Call (.Name "isinstance" p) [e,.Name Ty p2] [] pos) (isxF cs f):=by
 with_unfolding_all exact (
  PE.imp (zd (Kg cs (cV:= .ref CT) (fun u r=>r) hk) hg hm adA (jM he (jM (Zm (v:= .ref CT) hg2 hm2 rfl hd) qS hs2) hs) (by decide) (by decide) hs hpl) fun σ H Q=>by
   rintro ⟨G,H0,env,d,k,ef,q⟩;obtain ⟨a,e1,e2⟩:=jc ef;refine ⟨G,H0,env,a,k,e1,fun v H' s r _=>?_⟩;obtain ⟨c,rfl,hc,rfl⟩:=YO e2
   exact ⟨v,c,rfl,r.weak Lv.weak_b,hc,q _ H' s (.bl true) (jfd (K:=X.K) true).T⟩)
def jcj (cs:List Str) (T:String) (Ty:Str) {l l':Lv} {e:Expr} {f:TL} {p p2 pos:Pos} (hk: ∀c,cs.contains c=true-> ∀C,NmC X.K c C->aaI X.K (.ref C) (.type T)=some true) (he:DE X l e f)
   (hg:Gl X "isinstance") (hm:X.mg "isinstance" =none) (hg2:Gl X Ty) (hm2:X.mg Ty=none) (hv:aa9 Ty=some (.type T)) (hn:Ty≠ "__name__" :=by decide)
   (hd:Yx Ty:=by decide) (hs:aai [e,.Name Ty p2] X.env=(false,eval e X.env)::aai [.Name Ty p2] X.env:=by exact ji rfl)
   (hs2:aai [.Name Ty p2] X.env=(false,eval (.Name Ty p2) X.env)::aai [] X.env:=by exact ji rfl) (hpl:(abn pos (aai [.Name Ty p2] X.env)).any (·.1)=false:=by exact jx rfl):
   DE X l' (.Call (.Name "isinstance" p) [e,.Name Ty p2] [] pos) (isxF cs f):=by
 with_unfolding_all exact (
  PE.imp (zd (Kg cs (cV:= .ty T) (fun u r=>r) hk) hg hm adA (jM he (jM (XI (v:= .ty T) hg2 hm2 hv rfl hn hd) qS hs2) hs) (by decide) (by decide) hs hpl) fun σ H Q=>by
   rintro ⟨G,H0,env,d,k,ef,q⟩;obtain ⟨a,e1,e2⟩:=jc ef;refine ⟨G,H0,env,a,k,e1,fun v H' s r _=>?_⟩;obtain ⟨c,rfl,hc,rfl⟩:=YO e2
   exact ⟨v,c,rfl,r.weak Lv.weak_b,hc,q _ H' s (.bl true) (jfd (K:=X.K) true).T⟩)
def Vf:aa9 "dict" =some (.type "dict"):=by decide+kernel
end
def K8:List Key->List D->List Key->List D->Bool
 |k::ks,d::ds,ks',ds'=>(match valD ks' ds' k with|some e=>eqD d e|none=>false)&&K8 ks ds ks' ds'
 |_,_,_,_=>true
def DicC (ds ds':List D):Prop:=D.eqbs ds=true/\D.eqbs ds'=true/\D.deps ds<=190
instance (a b:List D):Decidable (DicC a b):=inferInstanceAs (Decidable (_/\_))
section
variable {X:Cx} {pins:List (Addr×Obj)} {σ:L2.St} {H:Hp} {s:aaf}
def jbV (I:Inv X pins σ H s) {A:aaU} {kvs':List (Key×V)} {vs':List (Key×Value)} {ds':List D} (kv':KV kvs' vs') (r':Reps X.K Any H (kvs'.map (·.2)) ds') (hb':D.eqbs ds'=true):
  ∀ {kvs:List (Key×V)} {vs:List (Key×Value)} {ds:List D},KV kvs vs->Reps X.K Any H (kvs.map (·.2)) ds->D.eqbs ds=true->A.units+D.deps ds<cLine->PySem.W.KeqHits A s vs' vs (K8 (kvs.map (·.1)) ds (kvs'.map (·.1)) ds'):=by
 intro kvs vs ds kv;unfold KV at kv
 induction kv generalizing ds with
 |nil=>intro r _ _;cases r;exact .nil
 | @cons p q ps qs h t ih=>
  intro r hb hu;obtain ⟨k,v⟩:=p;obtain ⟨k2,u⟩:=q;obtain ⟨rfl,ru⟩:=h
  cases r with
  | @cons _ _ _ d _ ds2 r1 r2=>
   simp only [D.eqbs,aaG] at hb;simp only [D.deps] at hu;have ihh:=ih r2 hb.2 (by omega);have hv:=kv'.val k;obtain ⟨g1,g2⟩:=VX k r';show PySem.W.KeqHits A s vs' ((k,u)::qs) ((match valD (kvs'.map (·.1)) ds' k with|some e=>eqD d e|none=>false)&&K8 (ps.map (·.1)) ds2 (kvs'.map (·.1)) ds')
   cases e:valD (kvs'.map (·.1)) ds' k with
   |none=>
    rw [g2 e] at hv
    have hn:aeU vs' k=none:=by
     cases z:aeU vs' k with
     |none=>rfl
     |some y=>rw [z] at hv;exact hv.elim
    exact .miss hn
   |some d'=>
    obtain ⟨v',e1,r1'⟩:=g1 d' e;rw [e1] at hv
    cases z:aeU vs' k with
    |none=>rw [z] at hv;exact hv.elim
    |some y=>
     rw [z] at hv
     have hd':d'∈ds':=by
      unfold valD at e
      cases z2:((kvs'.map (·.1)).zip ds').find? fun p=>decide (p.1=k) with
      |none=>rw [z2] at e;cases e
      |some pr=>rw [z2] at e;cases e;exact (aea (List.mem_of_find?_eq_some z2)).2
     exact .hit z (ZQ I d A v v' u y d' (by omega) r1 ru r1' hv hb.1 (Jh hb' hd')) ihh
def rDic (K:aaa) (neg:Bool):R2:=fun x y H Q=> ∃a b kvs kvs' ds ds',x= .ref a/\y= .ref b/\H a=some (.dK kvs)/\H b=some (.dK kvs')/\Reps K Any H (kvs.map (·.2)) ds/\Reps K Any H (kvs'.map (·.2)) ds'/\DicC ds ds'/\
 Q (.bl (if neg=true then !(kvs.length==kvs'.length&&K8 (kvs.map (·.1)) ds (kvs'.map (·.1)) ds') else (kvs.length==kvs'.length&&K8 (kvs.map (·.1)) ds (kvs'.map (·.1)) ds'))) H
def uw (hu:X.A.units+200<cLine):OpR X (abg .NotEq) (rDic X.K true):=by
 rintro pins s σ H x y v u Q I rx ry ⟨a,b,kvs,kvs',ds,ds',ex,ey,ha,hb,r,r',⟨c1,c2,c3⟩,q⟩;subst ex ey;cases rx;cases ry;obtain ⟨_,z1,vs,kv,dd⟩:=jaf I.hok ha;obtain ⟨_,z2,vs',kv',dd'⟩:=jaf I.hok hb;refine PySem.W.keq_ne z1 z2 dd dd' (by omega) (fun _=>jbV I kv' r' c2 kv r c1 ?_) ⟨.bl _,H,I,rfl,?_⟩
 · have:X.A.in1.units=X.A.units+1:=rfl;omega
 · rw [←kv.length,←kv'.length];exact q
end
def jbH:D->D->Res D
 | .dic ks ds,.dic ks' ds'=>must (DicC ds ds') (.ok (.bl (!(ks.length==ks'.length&&K8 ks ds ks' ds'))))
 |_,_=> .stuck
def uC {K:aaa}:OpS K (rDic K true) jbH:=fun x y H a b d Q ra rb e q=>by
 unfold jbH at e
 split at e
 · obtain ⟨h1,e2⟩:=jl e;cases e2;obtain ⟨p,kvs,rfl,hp,_,rfl,r⟩:=ra.dicE;obtain ⟨p',kvs',rfl,hp',_,rfl,r'⟩:=rb.dicE;refine ⟨p,p',kvs,kvs',_,_,rfl,rfl,hp,hp',r.low,r'.low,h1,?_⟩;have:=q _ (jfd _);simpa using this
 · cases e
section
variable {X:Cx}
def jaa:DSsX X [] (jcs nxO):=DSs.x jJ
def y4:aa9 "ValueError" =some (.type "ValueError"):=by decide+kernel
end
section
variable {X:Cx} {k:Nat} {x:Str} {ps:List Str} {fr:Bool} {F:TF} {e:Expr} {es:List Expr} {p pos:Pos} {g:TH}
def DEX.s {f:TL} (h:DEX X .t e f):DEX X .s e f:=by
 with_unfolding_all exact (PE.imp h fun σ H Q=>by
  rintro ⟨G,H0,env,k,q⟩;rcases q with ⟨d,e1,q⟩|z
  · exact ⟨G,H0,env,k,.inl ⟨d,e1,fun v H' s r _=>q v H' s r trivial⟩⟩
  · exact ⟨G,H0,env,k,.inr z⟩)
end
def yV (t:TD) (g:TJ):D->Sl->Res Out:=fun d env=>match t d env with
 | .ok env'=>g env'
 |_=> .stuck
def forX (f:TH) (t:TD) (g:TJ):Sl->Res Out:=fun env=>match f env with
 | .ok ds=>forD (yV t g) ds env
 |_=> .stuck
def jb9 {X:Cx} {tg e:Expr} {pos:Pos} {body:List Stmt} {fi:TH} {t:TD} {g:TJ} (hp:PassesOwn (model X.prog X.w) X.A X.env X.xe) (hc:X.calm=true) (hi:DI X tg e fi) (hg:DG X tg t) (hb:DSsX X body g)
   (hs: ∀x,acV e X.env x=pure x:=by intro _;rfl):DSX X (.For tg e body [] pos) (forX fi t g):=by
 with_unfolding_all exact (
  PS.imp (jaA hp hc hi hg hb hs) fun E σ H=>by
   rintro ⟨G,H0,env,k,q⟩;have key: ∃ds,fi env= .ok ds/\forX fi t g env=forD (yV t g) ds env:=by
     cases e1:fi env with
     |ok ds=>exact ⟨ds,rfl,by unfold forX;rw [e1]⟩
     |_=>
       have z:forX fi t g env= .stuck:=by unfold forX;rw [e1]
       rcases q with ⟨o,ef,_⟩| ⟨c,ef,_⟩<;>(rw [z] at ef;cases ef)
   obtain ⟨ds,e1,e2⟩:=key;rw [e2] at q;generalize hres:forD (yV t g) ds env=res at q;refine ⟨G,H0,env,ds,k,e1,fun J H1 P sm wk p0 pst=>?_⟩;have k1:=k.grow sm
   have q1:(∃o,res= .ok o/\Post X.K G H0 env σ H1 E o)\/ ∃c,res= .exc c/\Thr X c H0:=by
     rcases q with ⟨o,ef,q⟩|z
     · exact .inl ⟨o,ef,yO (Frm.refl sm) q⟩
     · exact .inr z
   refine ⟨fun i m σ' H'=>m=ds.length-i/\i<=ds.length/\ ∃env',EnvOk X.K G H0 env' σ' H'/\Frm env σ H1 env' σ' H'/\forD (yV t g) (ds.drop i) env'=res,⟨ds.length,by simp,aa4 _,env,k1,Frm.refl (Same.refl H1),by simpa using hres⟩,?_⟩;rintro i m σ' H' ⟨rfl,hi,env',k',f',e'⟩;obtain ⟨w1,w2,w3⟩:=wk i H' (pst env' σ' H' f')
   by_cases hd:i<ds.length
   · refine .inr ⟨w1 hd,?_⟩;rw [ac7 hd] at e'
     have e3:(yV t g ds[i] env'>>=fun o=>match o with
       | .nx env'=>forD (yV t g) (ds.drop (i+1)) env'
       | .ct env'=>forD (yV t g) (ds.drop (i+1)) env'
       | .bk env'=> .ok (.nx env')
       | .rt fr d=> .ok (.rt fr d))=res:=e'
     have key2: ∃env1,t ds[i] env'= .ok env1/\yV t g ds[i] env'=g env1:=by
       cases e5:t ds[i] env' with
       |ok env1=>exact ⟨env1,rfl,by unfold yV;rw [e5]⟩
       |_=>
         have z:yV t g ds[i] env'= .stuck:=by unfold yV;rw [e5]
         rw [z] at e3;have z2:=e3.symm;rcases q1 with ⟨o,ef,_⟩| ⟨c,ef,_⟩<;>(rw [z2] at ef;cases ef)
     obtain ⟨env1,e5,e6⟩:=key2;rw [e6] at e3;refine ⟨fun σ2 H2=>ds.length-(i+1)=ds.length-(i+1)/\i+1<=ds.length/\ ∃env2,EnvOk X.K G H0 env2 σ2 H2/\Frm env σ H1 env2 σ2 H2/\forD (yV t g) (ds.drop (i+1)) env2=res,fun σ2 H2 z=>⟨ds.length-(i+1),by omega,z⟩,fun x H2 y=>?_⟩
     obtain ⟨sm2,rd⟩:Same H' H2/\Rep X.K (Sf G env' σ') H2 x ds[i]:=by
       rcases w2 _ (aac hd) x H2 y with ⟨rfl,rd⟩| ⟨p,vs,es,hp,rfl,rfl,ed,rds⟩
       · exact ⟨Same.refl _,f'.rep k1 rd⟩
       · refine ⟨Same.upd hp,?_⟩;rw [ed];exact .tup jj ((f'.reps k1 rds).grow (Same.upd hp))
     refine ⟨G,H0,env',ds[i],env1,k'.grow sm2,rd,e5,fun σ1 kk1 ff1=>⟨G,H0,env1,kk1,?_⟩⟩;have fr1:=(f'.trans (Frm.refl sm2)).trans ff1
     cases eg:g env1 with
     |stuck=>
       rw [eg] at e3;have z2:=e3.symm;rcases q1 with ⟨o,ef,_⟩| ⟨c,ef,_⟩<;>(rw [z2] at ef;cases ef)
     |exc c1=>
       rw [eg] at e3;have z2:=e3.symm;rcases q1 with ⟨o,ef,_⟩| ⟨c,ef,th⟩
       · rw [z2] at ef;cases ef
       · rw [z2] at ef;cases ef;exact .inr ⟨c1,rfl,th⟩
     |ok o1=>
       rw [eg] at e3;refine .inl ⟨o1,rfl,?_⟩
       cases o1 with
       |nx env2=>exact fun σ2 H3 kk2 ff2=>⟨rfl,hd,env2,kk2,fr1.trans ff2,e3⟩
       |ct env2=>exact fun σ2 H3 kk2 ff2=>⟨rfl,hd,env2,kk2,fr1.trans ff2,e3⟩
       |bk env2=>
         have z2:=e3.symm;rcases q1 with ⟨o,ef,q1⟩| ⟨c,ef,_⟩
         · rw [z2] at ef;cases ef;exact fun σ2 H3 kk2 ff2=>q1 σ2 H3 kk2 (fr1.trans ff2)
         · rw [z2] at ef;cases ef
       |rt fr dd=>
         have z2:=e3.symm;rcases q1 with ⟨o,ef,q1⟩| ⟨c,ef,_⟩
         · rw [z2] at ef;cases ef;exact q1
         · rw [z2] at ef;cases ef
   · have he:i=ds.length:=by omega
     refine .inl ⟨w3 (by omega),?_⟩;rw [adH (by omega)] at e';have z2:=e'.symm;rcases q1 with ⟨o,ef,q1⟩| ⟨c,ef,_⟩
     · rw [z2] at ef;cases ef;exact q1 σ' H' k' f'
     · rw [z2] at ef;cases ef)
def AvX.av {P:aaA} {w:World} {K:aaa} {mg:Xy} {base:Heap} {k:Nat} {x:Str} {ps:List Str} {fr:Bool} {F:TF} (h:AvX P w K mg base k x ps fr F):Av P w K mg base k x ps fr (fun ds=>nx1 (F ds)):=by
 obtain ⟨f,fd,G,b⟩:=h.ex;refine ⟨f,fd,⟨fun vs H Q E ⟨B,ds,d,hl,_⟩=>hl,fun A outer s H args us vs Q E hr he hb hv hs=>?_⟩,b⟩;obtain ⟨B,ds,d,hl,r,e,q⟩:=hs;refine adj (G.run A outer s H args us vs Q (fun _ _ _=>False) hr he hb hv ⟨B,ds,hl,r,.inl ⟨d,WC e,q⟩⟩) fun r s' hq=>?_
 cases r with
 |error e=>
  obtain ⟨_,_,_,_,_,_,_,_,_,_,_,_,_,z⟩:=hq;exact z.elim
 |ok fl=>cases fl<;>exact hq
theorem Reps.set {K:aaa} {A:Xx} {H:Hp} {v:V} {d:D} (rv:Rep K A H v d): ∀ {xs:List V} {ds:List D} (j:Nat),Reps K A H xs ds->Reps K A H (xs.set j v) (ds.set j d)
 |_,_,_,.nil=> .nil
 |_,_,0,.cons _ t=> .cons rv t
 |_,_,j+1,.cons h t=> .cons h (Reps.set rv j t)
def Kz (i:Nat) (fk fv:TL):Sl->Res Out:=fun env=>ownL i env>>=fun ds=>fv env>>=fun d=>fk env>>=fun kd=>match kd with
 | .int n=>match ixN ds.length n with
  |some j=> .ok (.nx (env.set i (.own (.lst (ds.set j d)))))
  |none=> .stuck
 |_=> .stuck
def jad {X:Cx} {l1:Lv} {e1 e2:Expr} {fk fv:TL} {pos apos p:Pos} {x:Str} (i:Nat) (hk:DE X l1 e1 fk) (hv:DE X .s e2 fv) (hN:X.N[i]?=some x:=by rfl) (hvs:Vis X.env.scope x:=by first|exact abR rfl|exact abf (abR rfl)|exact abf (abf rfl))
   (hd:Yx x:=by decide) (hcd:Yw x:=by decide)
   (ha: ∀v,aeJ (.Subscript (.Name x p) e1 apos) X.env v=(do
    let ov←adq [v] (eval (.Name x p) X.env)
    let iv←adq [v,ov] (eval e1 X.env)
    aeE apos
    adq [v,ov,iv] (setItem ov iv v)
    release [v,ov,iv] []):=by intro _;rfl)
   (hs:swapsWithSole [.Subscript (.Name x p) e1 apos] e2 pos.line X.env=pure false:=by rfl) (hw:swappedStores [.Subscript (.Name x p) e1 apos] e2 X.env=pure none:=by rfl)
   (h1:(abe [.Subscript (.Name x p) e1 apos] X.env).map (·.2)=[aeJ (.Subscript (.Name x p) e1 apos) X.env]:=by rfl):
   DS X (.Assign [.Subscript (.Name x p) e1 apos] e2 pos) (Kz i fk fv):=by
 with_unfolding_all exact (
  PS.imp (Ul hv (jdd (zZ hN hvs hd hcd) hk vR ha) hs hw h1) fun E σ H=>by
   rintro ⟨G,H0,env,o,k,ef,q⟩;obtain ⟨ds,c1,ef⟩:=jc ef;obtain ⟨d,c2,ef⟩:=jc ef;obtain ⟨kd,c3,c4⟩:=jc ef;have hi:=wS c1;obtain ⟨a,xs,ha,hx,rs⟩:=wl k hi
   cases kd with
   |int n=>
    dsimp only at c4
    cases e5:ixN ds.length n with
    |none=>rw [e5] at c4;cases c4
    |some j=>
     rw [e5] at c4;cases c4;refine ⟨G,H0,env,d,k,c2,fun v H1 s1 r1 _=>⟨.ref a,ha,G,H0,env,.int n,k.grow s1,c3,fun y H2 s2 r2 _=>?_⟩⟩;have hx2:=s2 _ _ (s1 _ _ hx);cases (r2.weak Lv.weak_b).intE;refine ⟨a,xs,n,j,rfl,rfl,hx2,by rw [rs.length];exact e5,?_⟩;have W:=((k.grow s1).grow s2).write hi ha hx2 (Reps.set (r1.grow s2) j ((rs.grow s1).grow s2));exact q σ _ W.1 ((W.2.grow s2).grow s1)
   |_=>cases c4)
section
variable {X:Cx} {K:aaa}
def jdq:OpR X (abg .Is) (fun x y H Q=> ∃a b,x= .bl a/\y= .bl b/\Q (.bl (a==b)) H):=by
 rintro pins s σ H x y v u Q I rx ry ⟨a,b,ex,ey,q⟩;subst ex ey;cases rx;cases ry;exact wpAny_is_plain (by cases a<;>cases b<;>rfl) ⟨.bl _,H,I,by cases a<;>cases b<;>rfl,q⟩
def isB:D->D->Res D
 | .bl a,.bl b=> .ok (.bl (a==b))
 |_,_=> .stuck
def jdx:OpS K (fun x y H Q=> ∃a b,x= .bl a/\y= .bl b/\Q (.bl (a==b)) H) isB:=by
 intro x y H a b d Q ra rb e q;unfold isB at e
 split at e
 · cases e;cases ra.blE;cases rb.blE;exact ⟨_,_,rfl,rfl,q _ (jfd _)⟩
 · cases e
end
inductive OutI where
 |nx (env:Sl)|rt (b:Bool) (env:Sl)
abbrev At (σ:L2.St) (i:Nat) (a:Addr):Prop:=σ[i]?=some (some (V.ref a))
abbrev FI:=List D->List Key->List D->Res (Bool×List Key×List D)
section
variable {X:Cx} {pins:List (Addr×Obj)} {σ:L2.St} {H:Hp} {s:aaf} {a:Addr}
def jeh (X:Cx) (a:Addr):Prop:=(∀xs,X.H₀ a≠some (.tup xs))/\(∀o u,X.H₀ a≠some (.frz o u))/\ ∀ps,X.H₀ a≠some (.tbl ps)
def Inv.swap {u u':HO} (I:Inv X pins σ H s) (e:H a=some u) (l:jeh X a) (nt: ∀xs,u≠ .tup xs) (no: ∀x,u≠ .own x) (new:ObjOk X.prog X.w H s.heap a u'):Inv X pins σ (upd H a u') s:=by
 have ne: ∀b,H b=none->b≠a:=fun b z w=>by subst w;rw [e] at z;cases z
 have ho: ∀c b,H c=some (.own b)->upd H a u' c=some (.own b):=fun c b q=>by
   rw [jp];exact q;intro z;subst z;rw [e] at q;cases q;exact no _ rfl
 have ht: ∀c xs,H c=some (.tup xs)->upd H a u' c=some (.tup xs):=fun c xs q=>by
   rw [jp];exact q;intro z;subst z;rw [e] at q;cases q;exact nt _ rfl
 refine ⟨I.ok,I.os,I.bare,⟨I.base.keep,I.base.slot,fun b o q n x=>?_,I.base.there,fun b xs q=>?_,fun b o v q=>?_,fun b ps q=>?_⟩,I.loc,I.cell,?_,fun x c q=>?_,fun p hp=>?_,fun b v q=>?_,I.len⟩
 · have z:=I.base.free b o q n x;rw [jp (ne b z)];exact z
 · exact ht b xs (I.base.tups b xs q)
 · rw [jp (fun z=>by subst z;exact l.2.1 _ _ q)];exact I.base.frzs b o v q
 · rw [jp (fun z=>by subst z;exact l.2.2 _ q)];exact I.base.tbls b ps q
 · rw [jp (ne _ I.free)];exact I.free
 · rw [jp (ne _ (I.freeC x c q))];exact I.freeC x c q
 · obtain ⟨p1,p2,p3⟩:=I.pin p hp;exact ⟨p1,by rw [jp (ne _ p2)];exact p2,p3⟩
 · by_cases hb:b=a
   · subst hb;rw [jj] at q;cases q;exact new.stay (fun _ _ _ z=>z) (fun c z=>ho c _ z) ht
   · rw [jp hb] at q;exact (I.hok b v q).stay (fun _ _ _ z=>z) (fun c z=>ho c _ z) ht
end
section
variable {X:Cx}
def Xa:CallR X (.type "int") (fun xs H Q=> ∃b,xs=[.bl b]/\Q (.int (if b=true then 1 else 0)) H):=by
 rintro pins s σ H xs us Q I r ⟨b,ex,q⟩;subst ex
 obtain ⟨u,rfl,r1⟩: ∃u,us=[u]/\RelV (.bl b) u:=by
  cases r with|cons h t=>cases t;exact ⟨_,rfl,h⟩
 cases r1;exact call_int_bool ⟨.int _,H,I.tok _,⟨_,rfl⟩,q⟩
def WQ:List D->Res D
 | [.bl b]=> .ok (.int (if b=true then 1 else 0))
 |_=> .stuck
def vv {K:aaa}:xP K (fun xs H Q=> ∃b,xs=[V.bl b]/\Q (.int (if b=true then 1 else 0)) H) WQ:=by
 intro A xs H ds d Q r e q;unfold WQ at e
 split at e
 · cases e;obtain ⟨v,rfl,r1⟩:=r.one;exact ⟨_,by rw [r1.blE],q _ H (Same.refl H) (.int _) (jfw (jfg (K:=K) _))⟩
 · cases e
def slS:D->Option Int->Option Int->Res D
 | .scr ds,lo,hi=> .ok (.lst (cutD ds lo hi))
 |_,_,_=> .stuck
def k4 {e:Expr} {lo hi:Option Expr} {p2 pos:Pos} {f:TL} {fl fh:Sl->Res (Option Int)} (he:DE X .s e f) (hl:DO X lo fl) (hh:DO X hi fh):
   DE X .t (.Subscript e (.Slice lo hi none p2) pos) (yN f fl fh slS):=by
 with_unfolding_all exact (
  PE.imp (YE sl_list he hl hh) fun σ H Q=>by
   rintro ⟨G,H0,env,d,k,ef,q⟩;obtain ⟨a,e1,ef⟩:=jc ef;obtain ⟨lo',e2,ef⟩:=jc ef;obtain ⟨hi',e3,e4⟩:=jc ef;refine ⟨G,H0,env,a,k,e1,fun x H1 s1 r1 _=>⟨G,H0,env,lo',k.grow s1,e2,fun H2 s2=>⟨G,H0,env,hi',(k.grow s1).grow s2,e3,fun H3 s3=>?_⟩⟩⟩;have sm:=s1.trans (s2.trans s3)
   cases a with
   |scr ds=>
    cases e4;obtain ⟨b,xs,rfl,hb,rs⟩:=((r1.grow s2).grow s3).scrE;refine ⟨b,xs,rfl,hb.sql,fun p hp=>q _ _ (sm.trans (Same.upd hp)) (.lst jj (k.new p (Same.free sm hp)) (((Yg rs).laid hp).weak fun c z=>⟨z.1,z.2⟩)) ((jQ (Same.refl H3) hp).grow sm)⟩
   |_=>cases e4)
end
section
variable {X:Cx} {e:Expr}
def scal:D->Bool
 | .non=>true
 | .bl _=>true
 | .int _=>true
 |_=>false
end
def getN (f:Str):List Str->List D->Option D
 |n::ns,d::ds=>if n=f then some d else getN f ns ds
 |_,_=>none
def KJ (f:Str):List Str->List Str
 | []=>[f]
 |n::ns=>if n=f then n::ns else n::KJ f ns
def KK (f:Str) (d:D):List Str->List D->List D
 | [],_=>[d]
 |n::ns,e::es=>if n=f then d::es else e::KK f d ns es
 |_::_,[]=>[]
theorem ZL {K:aaa} {A:Xx} {H:Hp} {f:Str}: ∀ {fs:List (Str×V)} {ds:List D} {d:D},Reps K A H (fs.map (·.2)) ds->getN f (fs.map (·.1)) ds=some d-> ∃v,fs.lookup f=some v/\Rep K A H v d
 | [],_,_,_,h=>by simp [getN] at h
 | (n,v)::r,_,d,.cons q t,h=>by
  by_cases e:n=f
  · subst e;simp only [aaE,getN,if_pos] at h;cases h;exact ⟨v,by simp [aby],q⟩
  · simp only [aaE,getN,if_neg e] at h;obtain ⟨v',h1,h2⟩:=ZL t h;exact ⟨v',by rw [abl];simp [show (f==n)=false from by simpa using fun z=>e z.symm,h1],h2⟩
theorem YB {K:aaa} {A:Xx} {H:Hp} {f:Str} {v:V} {d:D} (rv:Rep K A H v d): ∀ {fs:List (Str×V)} {ds:List D},Reps K A H (fs.map (·.2)) ds->(putF f v fs).map (·.1)=KJ f (fs.map (·.1))/\Reps K A H ((putF f v fs).map (·.2)) (KK f d (fs.map (·.1)) ds)
 | [],_,.nil=>⟨rfl,.cons rv .nil⟩
 | (n,u)::r,_,.cons q t=>by
  by_cases e:n=f
  · simp only [putF,aaE,KJ,KK,if_pos e];exact ⟨trivial,.cons rv t⟩
  · simp only [putF,aaE,KJ,KK,if_neg e];obtain ⟨h1,h2⟩:=YB rv t;exact ⟨by rw [h1],.cons q h2⟩
theorem JO {f:Str}: ∀ {fs:List (Str×V)},(fs.map (·.1)).contains f=false->fs.lookup f=none
 | [],_=>rfl
 | (n,u)::r,h=>by
  simp only [aaE,ace,Bool.or_eq_false_iff] at h;rw [abl];simp [h.1,JO h.2]
def Rep.objE {K:aaa} {A:Xx} {H:Hp} {v:V} {c:Str} {ns:List Str} {ds:List D} (r:Rep K A H v (.obj c ns ds)): ∃a C dx fs,v= .ref a/\H a=some (.ins C dx fs)/\A a/\aal K aak c=some (some (.ref C))/\fs.map (·.1)=ns/\Reps K (fun c=>A c/\c≠a) H (fs.map (·.2)) ds:=by
 cases r with
 |obj e a k1 k2 r=>subst k2;exact ⟨_,_,_,_,rfl,e,a,k1.1,k1.2,r⟩
def Ux {K:aaa} {G:Xx} {H0 H:Hp} {env:Sl} {σ:L2.St} {i:Nat} {c:Str} {ns:List Str} {ds:List D} (k:EnvOk K G H0 env σ H) (hi:env[i]?=some (.own (.obj c ns ds))):
  ∃a C dx fs,σ[i]?=some (some (.ref a))/\H a=some (.ins C dx fs)/\aal K aak c=some (some (.ref C))/\fs.map (·.1)=ns/\Reps K (Sf G env σ) H (fs.map (·.2)) ds:=by
 obtain ⟨a,h1,_,h2⟩:=k.own i _ hi
 cases h2 with
 |obj e k1 k2 r=>subst k2;exact ⟨a,_,_,_,h1,e,k1.1,k1.2,r⟩
structure FldN (K:aaa) (c f:Str):Prop where
 ex: ∃C,aal K aak c=some (some (.ref C))/\Cls K C/\NoAttr K C f
def FldN.at {K:aaa} {c f:Str} {C:Addr} (h:FldN K c f) (e:aal K aak c=some (some (.ref C))):Cls K C/\NoAttr K C f:=by
 obtain ⟨C',h1,h2⟩:=h.ex;rw [e] at h1;cases h1;exact h2
def fldD (c f:Str):D->Res D
 | .obj c' ns ds=>must (c'=c) (match getN f ns ds with
  |some d=> .ok d
  |none=> .stuck)
 |_=> .stuck
def uW {c f:Str} {o d:D} (h:fldD c f o= .ok d): ∃ns ds,o= .obj c ns ds/\getN f ns ds=some d:=by
 unfold fldD at h
 split at h
 · rename_i c' ns ds;obtain ⟨hc,h2⟩:=jl h;subst hc
   cases e:getN f ns ds with
   |none=>rw [e] at h2;cases h2
   |some d'=>rw [e] at h2;cases h2;exact ⟨ns,ds,rfl,e⟩
 · cases h
def fldF (c f:Str) (fo:TL):Sl->Res D:=fun env=>fo env>>=fldD c f
section
variable {X:Cx} {e:Expr} {fo:TL} {pos p:Pos} {c f:Str}
def ZX (i:Nat) {x:Str} (hf:FldN X.K c f) (hN:X.N[i]?=some x:=by rfl) (hv:Vis X.env.scope x:=by first|exact abR rfl|exact abf (abR rfl)|exact abf (abf rfl))
   (hd:Yx x:=by decide) (hcd:Yw x:=by decide)
   (hb:abV (.Name x p) f X.env (eval (.Name x p) X.env)=eval (.Name x p) X.env:=by rfl):DE X .s (.Attribute (.Name x p) f pos) (fldF c f (rdB i)):=by
 with_unfolding_all exact (
  PE.imp (jdl (zZ hN hv hd hcd) hb) fun σ H Q=>by
   rintro ⟨G,H0,env,d,k,ef,q⟩;obtain ⟨o,e1,e2⟩:=jc ef;obtain ⟨ns,ds,rfl,e3⟩:=uW e2;rcases XB e1 with z|z
   · obtain ⟨v,h1,h2⟩:=k.shr i _ z;obtain ⟨a,C,dx,fs,rfl,ha,_,hc,hn,rs⟩:=h2.objE;subst hn;obtain ⟨v',g1,g2⟩:=ZL rs e3;exact ⟨_,h1,a,C,dx,fs,v',rfl,ha,(hf.at hc).1,(hf.at hc).2,g1,q v' H (Same.refl H) (g2.weak fun _ z=>z.1) trivial⟩
   · obtain ⟨a,C,dx,fs,h1,ha,hc,hn,rs⟩:=Ux k z;subst hn;obtain ⟨v',g1,g2⟩:=ZL rs e3
     exact ⟨_,h1,a,C,dx,fs,v',rfl,ha,(hf.at hc).1,(hf.at hc).2,g1,q v' H (Same.refl H) g2 trivial⟩)
end
inductive OutO where
 |nx (env:Sl)|rt (d:D) (env:Sl)
def jax (K:aaa) (G:Xx) (H0:Hp) (i:Nat) (a:Addr) (env:Sl) (σ:L2.St) (H:Hp) (E:Ends):OutO->Prop
 | .nx env'=> ∀σ' H',EnvOk K G H0 env' σ' H'->At σ' i a->Frm env σ H env' σ' H'->E.nx σ' H'
 | .rt d env'=> ∀v σ' H',EnvOk K G H0 env' σ' H'->At σ' i a->Frm env σ H env' σ' H'->Rep K (Sf G env' σ') H' v d->E.rt v H'
def tSO (K:aaa) (i:Nat) (g:Sl->Res OutO):TS:=fun E σ H=> ∃G H0 env o a,EnvOk K G H0 env σ H/\At σ i a/\g env= .ok o/\jax K G H0 i a env σ H E o
@[irreducible] def DSO (X:Cx) (i:Nat) (st:Stmt) (g:Sl->Res OutO):Prop:=PS X st (tSO X.K i g)
@[irreducible] def DSsO (X:Cx) (i:Nat) (st:List Stmt) (g:Sl->Res OutO):Prop:=PSs X st (tSO X.K i g)
theorem Zo {K:aaa} {G:Xx} {H0 H H':Hp} {env env':Sl} {σ σ':L2.St} {i:Nat} {a:Addr} {E:Ends} {o:OutO} (f:Frm env σ H env' σ' H') (q:jax K G H0 i a env σ H E o):jax K G H0 i a env' σ' H' E o:=by
 cases o with
 |nx e=>exact fun σ2 H2 k2 a2 f2=>q σ2 H2 k2 a2 (f.trans f2)
 |rt b e=>exact fun v σ2 H2 k2 a2 f2 r2=>q v σ2 H2 k2 a2 (f.trans f2) r2
section
variable {X:Cx} {i:Nat} {e c0 tg:Expr} {st:Stmt} {rest body orelse:List Stmt} {pos p apos:Pos} {l:Lv} {f:TL} {g g1 g2:Sl->Res OutO} {c n x:Str}
def seqJ (g1 g2:Sl->Res OutO):Sl->Res OutO:=fun env=>g1 env>>=fun o=>match o with
 | .nx env'=>g2 env'
 | .rt b e=> .ok (.rt b e)
def kR (h1:DSO X i st g1) (h2:DSsO X i rest g2):DSsO X i (st::rest) (seqJ g1 g2):=by
 with_unfolding_all exact (PSs.imp (Zi h1 h2) fun E σ H=>by
  rintro ⟨G,H0,env,o,a,k,ha,ef,q⟩;obtain ⟨o1,e1,e2⟩:=jc ef;refine ⟨G,H0,env,o1,a,k,ha,e1,?_⟩
  cases o1 with
  |nx env1=>exact fun σ' H' k' a' f'=>⟨G,H0,env1,o,a,k',a',e2,Zo f' q⟩
  |rt b env1=>cases e2;exact q)
def Y6 (h1:DSO X i st g1):DSsO X i [st] g1:=by
 with_unfolding_all exact (PSs.imp (Jw h1) fun E σ H q=>q)
def nxJ:Sl->Res OutO:=fun env=> .ok (.nx env)
def Y7:DSsO X i [] nxJ:=by
 with_unfolding_all exact (PSs.imp Uh fun E σ H=>by
  rintro ⟨G,H0,env,o,a,k,ha,ef,q⟩;cases ef
  exact q σ H k ha (Frm.refl (Same.refl H)))
def ownJ (i:Nat) (c:Str):Sl->Res (List Str×List D):=fun env=>match env[i]? with
 |some (.own (.obj c' ns ds))=>must (c'=c) (.ok (ns,ds))
 |_=> .stuck
def ut {q:List Str×List D} {env:Sl} (h:ownJ i c env= .ok q):env[i]?=some (.own (.obj c q.1 q.2)):=by
 unfold ownJ at h
 split at h
 · rename_i c' ns ds e;obtain ⟨hc,h2⟩:=jl h;subst hc;cases h2;exact e
 · cases h
def VN (i:Nat) (c n:Str) (f:TL):Sl->Res OutO:=fun env=>f env>>=fun d=>ownJ i c env>>=fun q=>must (q.1.length<1000) (.ok (.nx (env.set i (.own (.obj c (KJ n q.1) (KK n d q.1 q.2))))))
def ZU (hf:FldN X.K c n) (h:DE X .s e f) (hN:X.N[i]?=some x:=by rfl) (hv:Vis X.env.scope x:=by first|exact abR rfl|exact abf (abR rfl)|exact abf (abf rfl))
   (hd:Yx x:=by decide) (hcd:Yw x:=by decide)
   (hs:aca e (some (.Attribute (.Name x p) n apos)) pos.line X.env=pure false:=by rfl):DSO X i (.Assign [.Attribute (.Name x p) n apos] e pos) (VN i c n f):=by
 with_unfolding_all exact (
  PS.imp (jdb (zZ hN hv hd hcd) h hs) fun E σ H=>by
   rintro ⟨G,H0,env,o,a,k,ha,ef,q⟩;obtain ⟨d,e1,ef⟩:=jc ef;obtain ⟨ns,e2,ef⟩:=jc ef;obtain ⟨hz,e3⟩:=jl ef;cases e3;have hi:=ut e2;refine ⟨G,H0,env,d,k,e1,fun y H1 s1 r1 _=>?_⟩;obtain ⟨a',C,dx,fs,h1,hx,hc,hn,rs⟩:=Ux (k.grow s1) hi;rw [ha] at h1;cases h1;refine ⟨_,ha,a,C,dx,fs,rfl,hx,(hf.at hc).1,(hf.at hc).2,by rw [←hn,aan] at hz;exact hz,?_⟩;obtain ⟨p1,p2⟩:=YB r1 rs;rw [hn] at p1 p2;have W:=(k.grow s1).writeG (o':= .ins C dx (putF n y fs)) hi ha hx trivial fun A' H' st e w=> .obj e ⟨hc,p1⟩ rfl (p2.stay st w)
   exact q σ _ W.1 ha (W.2.grow s1))
end
structure AvM (P:aaA) (w:World) (K:aaa) (mg:Xy) (base:Heap) (k:Nat) (c m:Str) (ps:List Str) (fr:Bool) (F:TF):Prop where
 ex: ∃C f fd,FnOk P w K mg base CX0 k f fd ps (spF K fr ps.length F)/\aal K aak c=some (some (.ref C))/\Cls K C/\Meth K C m f/\Binds K fd ps []
def AvM.mono {P:aaA} {w:World} {K:aaa} {mg:Xy} {base:Heap} {j k:Nat} {c m:Str} {ps:List Str} {fr:Bool} {F:TF} (h:AvM P w K mg base j c m ps fr F) (hj:j<=k):AvM P w K mg base k c m ps fr F:=
 let ⟨C,f,fd,a,b⟩:=h.ex
 ⟨C,f,fd,a.mono hj,b⟩
def qv (c m:Str) (n:Nat) (F:TF) (fo:TL) (g:TH):Sl->Res D:=fun env=>fo env>>=fun o=>match o with
 | .obj c' ns vs=>must (c'=c/\ns.contains m=false) (g env>>=fun ds=>must (ds.length+1=n) (F (.obj c' ns vs::ds)))
 |_=> .stuck
def WD {c m:Str} {n:Nat} {F:TF} {fo:TL} {g:TH} {env:Sl} {d:D} (h:qv c m n F fo g env= .ok d): ∃ns vs ds,fo env= .ok (.obj c ns vs)/\ns.contains m=false/\g env= .ok ds/\ds.length+1=n/\F (.obj c ns vs::ds)= .ok d:=by
 obtain ⟨o,h1,h⟩:=jc h
 cases o with
 |obj c' ns vs=>
  obtain ⟨⟨hc,h2⟩,h'⟩:=jl h;subst hc;obtain ⟨ds,h3,h''⟩:=jc h';obtain ⟨h4,h5⟩:=jl h'';exact ⟨ns,vs,ds,h1,h2,h3,h4,h5⟩
 |_=>cases h
section
variable {X:Cx} {k n:Nat} {c m:Str} {ps:List Str} {fr:Bool} {F:TF} {o e:Expr} {es:List Expr} {pos apos:Pos} {fo:TL} {g:TH} {pl:Sem Bool}
def AvM.callT (A:AvM X.prog X.w X.K X.mg X.base k c m ps true F) (hr:Room k X.A) (ho:DE X .s o fo) (ha:DA X .s (e::es) g) (hn:ps.length=n:=by rfl)
  (hst:Wm X e es:=by exact ji rfl) (hpl:Wl X pos es:=by exact jx rfl)
  (ht:eval (.Call (.Attribute o m apos) (e::es) [] pos) X.env=(do
   let ov←eval o X.env
   aeE apos.atName
   let (f,first)←adq [ov] (getMethod ov m pl)
   callWith pos f first (abn pos (aai (e::es) X.env)) (adc pos (abT [] X.env))):=by rfl):DE X .t (.Call (.Attribute o m apos) (e::es) [] pos) (qv c m n F fo g):=by
 subst hn;obtain ⟨C,f,fd,h1,h2,h3,h4,h5⟩:=A.ex
 with_unfolding_all exact (
 PE.imp (jbs ho h3 h4 h1 hr h5 .nil Uv ha hst hpl ht) fun σ H Q=>by
  rintro ⟨GG,H0,env,d,k,ef,q⟩;obtain ⟨ns,vs,ds,e1,e2,e3,e4,e5⟩:=WD ef;refine ⟨GG,H0,env,_,k,e1,fun v H1 s1 r1 _=>?_⟩;obtain ⟨a,C',dx,fs,rfl,hx,_,hc,hn,rs⟩:=r1.objE;rw [h2] at hc;cases hc;refine ⟨a,dx,fs,rfl,hx,JO (by rw [hn];exact e2),GG,H0,env,ds,k.grow s1,e3,fun ws H2 s2 r2=>?_⟩;show spF X.K true ps.length F (.ref a::(ws++[])) H2 Q (fun _ _ _=>False);rw [abq]
  exact ⟨_,_::ds,d,by simp [r2.length,e4],.cons (r1.grow s2) r2,e5,fun v H3 s3 r3 nt=>q v H3 (s1.trans (s2.trans s3)) (r3.weak fun c z=>z.elim (fun z=>k.new c (Same.free s1 (Same.free s2 z))) fun z=>z) (((nt rfl).grow s2).grow s1)⟩)
def noA:Sl->Res (List D):=fun _=> .ok []
def AvM.call0T (A:AvM X.prog X.w X.K X.mg X.base k c m ps true F) (hr:Room k X.A) (ho:DE X .s o fo) (hn:ps.length=n:=by rfl)
  (ht:eval (.Call (.Attribute o m apos) [] [] pos) X.env=(do
   let ov←eval o X.env
   aeE apos.atName
   let (f,first)←adq [ov] (getMethod ov m pl)
   callWith pos f first (abn pos (aai [] X.env)) (adc pos (abT [] X.env))):=by rfl):DE X .t (.Call (.Attribute o m apos) [] [] pos) (qv c m n F fo noA):=by
 subst hn;obtain ⟨C,f,fd,h1,h2,h3,h4,h5⟩:=A.ex
 with_unfolding_all exact (
 PE.imp (uh ho h3 h4 h1 hr h5 .nil Uv ht) fun σ H Q=>by
  rintro ⟨GG,H0,env,d,k,ef,q⟩;obtain ⟨ns,vs,ds,e1,e2,e3,e4,e5⟩:=WD ef;cases e3;refine ⟨GG,H0,env,_,k,e1,fun v H1 s1 r1 _=>?_⟩;obtain ⟨a,C',dx,fs,rfl,hx,_,hc,hn,rs⟩:=r1.objE;rw [h2] at hc;cases hc;refine ⟨a,dx,fs,rfl,hx,JO (by rw [hn];exact e2),?_⟩
  exact ⟨_,[_],d,by simp [←e4],.cons r1 .nil,e5,fun v H3 s3 r3 nt=>q v H3 (s1.trans s3) (r3.weak fun c z=>z.elim (fun z=>k.new c (Same.free s1 z)) fun z=>z) ((nt rfl).grow s1)⟩)
end
section
variable {P:aaA} {w:World} {K:aaa} {mg:Xy} {base:Heap}
def jee {c m qual:Str} {st:Stmt} {C f:Addr} {fd:abK} {N ps:List Str} {k:Nat} (fr:Bool) {g:TJ} (Fu:Fun K m qual st f fd) (hC:aal K aak c=some (some (.ref C))) (cl:Cls K C) (me:Meth K C m f) (S:FnScope N ps (jf st)) (hbi:Binds K fd ps [])
  (hb: ∀(cdv:Value) (A:aaU) (outer:List Env) (s:aaf) (H:Hp) (E:XK),Room k (A.deeper (adx qual (jf st) s.heap.objs.size f cdv))->DSs (cxOf CX0 P w K mg base N qual (jf st) f cdv A outer s H E).nox (jY st) g):
  AvM P w K mg base (k+1) c m ps fr (runF fr N.length g):=
 ⟨C,f,fd,jb0 Fu S hb fun ds d _ h=>yn h,hC,cl,me,hbi⟩
end
abbrev FO:=D->List D->Res (D×D)
def zu (n:Nat) (d0:D) (ds:List D):Sl:= .own d0::(ds.map .shr++adP (n-ds.length-1) .un)
def wR {n:Nat} {d0:D} {ds:List D} {j:Nat} {s:Slot} (h:(zu n d0 ds)[j]?=some s):(j=0/\s= .own d0)\/(∃j' d,j=j'+1/\ds[j']?=some d/\s= .shr d)\/s= .un:=by
 unfold zu at h
 cases j with
 |zero=>simp at h;exact .inl ⟨rfl,h.symm⟩
 |succ j=>
  rw [acv] at h
  by_cases q:j<ds.length
  · rw [aaq (by simpa using q),aaO] at h
    cases e:ds[j]? with
    |none=>rw [e] at h;cases h
    |some x=>rw [e] at h;cases h;exact .inr (.inl ⟨j,x,rfl,e,rfl⟩)
  · rw [aav (by simpa using q),aba] at h
    split at h
    · cases h;exact .inr (.inr rfl)
    · cases h
def K7 {K:aaa} {B:Xx} {N:List Str} {us:List V} {ds:List D} {a:Addr} {d0:D} {H:Hp} (r:Reps K (fun c=>B c/\c≠a) H us ds) (t:Top K (fun c=>B c/\c≠a) H a d0) (hN:ds.length+1<=N.length):
   EnvOk K (fun c=>H c=none\/c=a\/B c) (fun c=>if c=a then none else H c) (zu N.length d0 ds) (start N (V.ref a::us)) H/\At (start N (V.ref a::us)) 0 a:=by
 have hl:=r.length
 have hat:At (start N (V.ref a::us)) 0 a:=by
   show (L2.start N (V.ref a::us))[0]?=_;unfold L2.start;simp
 have hget: ∀(j:Nat) (v:V),us[j]?=some v->(start N (V.ref a::us))[j+1]?=some (some v):=fun j v h=>by
   have hj:=(aam.mp h).1;unfold L2.start;rw [aaq (by simp;omega),aaO,acv,h];rfl
 have own1: ∀c,jL (zu N.length d0 ds) (start N (V.ref a::us)) c->c=a:=fun c ⟨j,d,h1,h2⟩=>by
   rcases wR h1 with ⟨rfl,_⟩| ⟨_,_,_,_,z⟩|z
   · rw [hat] at h2;cases h2;rfl
   · cases z
   · cases z
 have w: ∀c,B c/\c≠a->Sf (fun c=>H c=none\/c=a\/B c) (zu N.length d0 ds) (start N (V.ref a::us)) c:=fun c z=>⟨fun o=>z.2 (own1 c o),.inr (.inr z.1)⟩
 refine ⟨⟨?_,fun c o e=>?_,fun c e=>?_,fun j d h=>?_,fun j d h=>?_,fun j j' d e b h1 h2 h3 h4=>?_⟩,hat⟩
 · simp [L2.start,zu,hl];omega
 · split at e
   · cases e
   · exact e
 · split at e
   · rename_i z;exact .inr (.inl z)
   · exact .inl e
 · rcases wR h with ⟨_,z⟩| ⟨j',d',rfl,e,z⟩|z
   · cases z
   · cases z;obtain ⟨v,h1,h2⟩:=r.get e;exact ⟨v,hget j' v h1,h2.weak w⟩
   · cases z
 · rcases wR h with ⟨rfl,z⟩| ⟨j',d',_,e,z⟩|z
   · cases z;exact ⟨a,hat,if_pos rfl,t.stay (fun _ _ e _=>e) w fun _ e=>e⟩
   · cases z
   · cases z
 · have real: ∀(j:Nat) (d:D),(zu N.length d0 ds)[j]?=some (.own d)->j=0:=fun j d h=>by
     rcases wR h with ⟨z,_⟩| ⟨_,_,_,_,z⟩|z
     · exact z
     · cases z
     · cases z
   rw [real j d h1,real j' e h2]
def yX:Sl->Res D
 | .own d::_=> .ok d
 |_=> .stuck
def VO {env:Sl} {d:D} (h:yX env= .ok d):env[0]?=some (.own d):=by
 unfold yX at h
 split at h
 · cases h;rfl
 · cases h
section
variable {prog:aaA} {w:World} {A:aaU} {E:Xw} {s:aaf}
structure SetI (h:Heap) (a:Addr) (es:Array (Int×Value)) (ep:Nat) (t:abb):Prop where
 ex: ∃o,h.get? a=some o/\o.ExactSet/\o.data= .set es ep t
 el: ∀e∈es.toList,∃k tk,e.2= .int k tk/\e.1=hashInt k
 bd:es.size<aey
 ft:t.fits es.size=true
def SetI.of {a:Addr} {S:Int->Bool} {n:Nat} {h:Heap} (hS:h.SetOf (ab0 prog w) a S n): ∃es ep t,SetI h a es ep t/\es.size=n/\(∀k,S k=true↔ ∃e∈es.toList,(ab0 prog w).is k e.2=true):=by
 obtain ⟨o,es,ep,t,ho,hx,hd,hel,hm,hb,hf,hn⟩:=hS;refine ⟨es,ep,t,⟨⟨o,ho,hx,hd⟩,fun e he=>?_,hb,hf⟩,hn,hm⟩;obtain ⟨⟨k,h1,h2⟩,_⟩:=hel e he;obtain ⟨tk,h3⟩:=aet h1;exact ⟨k,tk,h3,h2⟩
def SetI.state {a:Addr} {es:Array (Int×Value)} {ep:Nat} {t:abb} (h:SetI s.heap a es ep t) {Q:(Array (Int×Value)×Nat×abb)->aaf->Prop} (hq:Q (es,ep,t) s):wpAny (model prog w) A (setState a) Q E s:=by
 obtain ⟨o,ho,_,hd⟩:=h.ex;exact abZ ho hd h.ft hq
def Ju {es:Array (Int×Value)} (hel: ∀e∈es.toList,∃k tk,e.2= .int k tk/\e.1=hashInt k) {β:Type} {b0:β} {f:Int×Value->β->Sem (ForInStep β)} {Q:β->aaf->Prop}
   (hf: ∀h k tk,f (h,.int k tk) b0=pure (.yield b0)) (hq:Q b0 s):wpAny (model prog w) A (forIn es b0 f) Q E s:=by
 refine aed f (fun rest b s'=>b=b0/\s'=s/\ ∀e∈rest,e∈es.toList) Q ?_ ?_ es b0 ⟨rfl,rfl,fun _ h=>h⟩
 · rintro ⟨h,x⟩ rest b s' ⟨rfl,rfl,hm⟩;obtain ⟨k,tk,e1,e2⟩:=hel _ (hm _ aay);dsimp only at e1;subst e1;rw [hf];exact aad ⟨rfl,rfl,fun e he=>hm e (aat _ he)⟩
 · rintro b s' ⟨rfl,rfl,_⟩;exact hq
def KI {a b c:Addr} {e1 e2 e3:Array (Int×Value)} {p1 p2 p3:Nat} {t1 t2 t3:abb} (h1:SetI s.heap a e1 p1 t1) (h2:SetI s.heap b e2 p2 t2) (h3:SetI s.heap c e3 p3 t3) {Q:Bool->aaf->Prop} (hq:Q true s):
  wpAny (model prog w) A (setsQuiet [a,b,c]) Q E s:=by
 unfold setsQuiet setEntries;simp;refine aab (h1.state ?_);refine aab (Ju h1.el (fun _ _ _=>rfl) ?_);dsimp only;simp;refine aab (h2.state ?_);refine aab (Ju h2.el (fun _ _ _=>rfl) ?_);dsimp only;simp;refine aab (h3.state ?_);refine aab (Ju h3.el (fun _ _ _=>rfl) ?_);dsimp only;simp;exact aad hq
theorem Zk {α:Type} (next:Nat->Nat): ∀(fuel k:Nat) (left:List α) (out:Array α) (x:α),x∈(adT next fuel k left out).toList->x∈left\/x∈out.toList
 |0,_,_,out,x,h=> .inr h
 |fuel+1,k,left,out,x,h=>by
  unfold adT at h
  split at h
  · rename_i y e;rcases Zk next fuel (k+1) _ _ x h with z|z
    · exact .inl (List.mem_of_mem_eraseIdx z)
    · rw [aez,abr] at z;rcases z with z|z
      · exact .inr z
      · rw [abS] at z;subst z;exact .inl (aa0 e)
  · exact .inr h
def SetI.keep {h h':Heap} {a:Addr} {es:Array (Int×Value)} {ep:Nat} {t:abb} (x:SetI h a es ep t) (k: ∀o,h.get? a=some o->h'.get? a=some o):SetI h' a es ep t:=
 let ⟨o,h1,h2⟩:=x.ex
 ⟨⟨o,k o h1,h2⟩,x.el,x.bd,x.ft⟩
def wc (k:Int) (tk:Tok):(ab0 prog w).is k (.int k tk)=true:=by
 with_unfolding_all exact (beq_self_eq_true k)
def vF {a:Addr} (hT:s.TypeIs (.ref a) "set") {Q:Bool->aaf->Prop} (h:Q true s):wpAny (model prog w) A (ab4 (.ref a)) Q E s:=by
 unfold ab4;unfold orM;refine aab (adW hT F.sub_set_set ?_);exact aad h
def ZS:entryFor table "set.__sub__" =some adf.«frozenset.__sub__» :=
 entryFor_alias (id':= "frozenset.__sub__") (by kernel_rfl) rfl (by decide+kernel) (by kernel_rfl)
end
def SetI.setOf {prog:aaA} {w:World} {h:Heap} {a:Addr} {pf:Nat} {tf:abb} (x:SetI h a #[] pf tf):h.SetOf (ab0 prog w) a (fun _=>false) 0:=by
 obtain ⟨o,h1,h2,h3⟩:=x.ex;exact ⟨o, #[],pf,tf,h1,h2,h3,fun e he=>by simp at he,fun k=>by simp,by decide,x.ft,rfl⟩
def dd (ns:List Int):List Int:=firstMet (fun i=>ns.getD i 0) ns.length
def jd7 (ns:List Int) (k:Int):(dd ns).any (· ==k)=ns.any (· ==k):=by
 unfold dd;rw [firstMet_any];congr 1;apply List.ext_getElem
 · simp
 · intro i h1 h2;simp [aac h2]
section
variable {X:Cx}
theorem YS: ∀ {is:List Int} {us:List Value},Vals (is.map V.int) us->IntsAre us is
 | [],_,.nil=> .nil
 |i::is,_,.cons h t=>by
  obtain ⟨k,rfl⟩:=h;exact .cons i k (YS t)
def W8 (hc:X.calm=true):CallR X (.type "set") (fun xs H Q=> ∃(p:Addr) (is:List Int),xs=[.ref p]/\SqL X.K H p (is.map V.int)/\is.length+1<aey/\ ∀l,H l=none->Q (.ref l) (upd H l (.set (fun k=>is.any (· ==k)) (dd is).length))):=by
 rintro pins s σ H xs us Q I r ⟨p,is,ex,hq,hz,q⟩;subst ex;obtain ⟨u,rfl,ru⟩:=xm r;cases ru;obtain ⟨its,rv,pl,_⟩:=I.list hq;obtain ⟨v1,v2⟩:=Yq rv;refine call_set_list (I.ok.hd hc) pl.isList (by simpa using YS rv) (by simp;rw [v1];exact hz) fun h' tk hS hk=>?_
 have hl:=I.hok.fresh (aah _)
 have hS':h'.SetOf (ab0 X.prog X.w) s.heap.objs.size (fun k=>is.any (· ==k)) (dd is).length:=by
  refine SetOf_congr hS (fun k=>?_) ?_
  · simp only [aag,v1];exact jd7 is k
  · simp only [aag,v1];rfl
 exact ⟨.ref s.heap.objs.size,_,I.laid (fun b o e=>hk b o (aao e) e) (aah _) (show ObjOk X.prog X.w _ h' _ (.set _ _) from hS'),rfl,q _ hl⟩
def vy:CallR X (.builtin "len") (fun xs H Q=> ∃a S n,xs=[.ref a]/\H a=some (.set S n)/\Q (.int n) H):=by
 rintro pins s σ H xs us Q I r ⟨a,S,n,ex,ha,q⟩;subst ex;obtain ⟨u,rfl,ru⟩:=xm r;cases ru;have hA:=I.hok a _ ha;obtain ⟨o,es,ep,t,ho,hx,hd,hel,hm,hb,hf,hn⟩:=hA;subst hn;have h1:aey=4096:=rfl;exact call_len_set ho hx hd hf (by rw [h1] at hb;omega) ⟨.int es.size,H,I.tok _,⟨_,rfl⟩,q⟩
variable {l1 l2:Lv} {e1 e2:Expr} {f1 f2:TL} {p1 p2 p3 q1 q2 q3 pos:Pos}
end
end M
namespace M
open PySem PySem.Spec L2
open PyProof.Rows hiding St
open PySem.SeqAt (EqAt RcAt RcNeAt)
section
variable {X:Cx} {K:aaa}
def UN:MtM X "list.insert" (fun x vs H Q=> ∃l xs i y,x= .ref l/\vs=[.int i,y]/\H l=some (.lst xs)/\0<=i/\i<2^63/\xs.length<aaj/\Q .non (upd H l (.lst (xs.take i.toNat++y::xs.drop i.toNat)))):=by
 rintro pins s σ H x vs v us Q I rx rv ⟨l,xs,i,y,ex,ev,hH,h1,h2,hz,q⟩;subst ex ev;cases rx
 cases rv with
 |cons r1 t=>
  cases t with
  |cons r2 t=>
   cases t;obtain ⟨t,rfl⟩:=r1;obtain ⟨z,its,n,r,hl,e⟩:=I.lstM hH;refine call_meets F.slot_list_insert ⟨_,e,rfl⟩ F.entry_list_insert (F.args_list_insert_3 _ _ _) (AutoSeq1.list_insert_list_int_val_1 l its.toArray n i t _ (by rw [fitsIndex_both (by omega) h2];simp) (by rw [aag];omega)) ⟨e,?_⟩;refine ⟨.non,_,I.lset hH e ?_ ((r.take _).append (.cons r2 (r.drop _))) ?_,rfl,q⟩
   · show (((its.toArray.extract 0 (if i<0 then (i+(its.toArray.size:Int)).toNat else min i.toNat its.toArray.size)).push _++its.toArray.extract (if i<0 then (i+(its.toArray.size:Int)).toNat else min i.toNat its.toArray.size)))=_;rw [if_neg (by omega)];apply aeM.mp;simp
     by_cases hi:i.toNat<=its.length
     · rw [Nat.min_eq_left hi];simp [adI]
     · rw [Nat.min_eq_right (by omega)];simp [adI,List.drop_of_length_le,show its.length<=i.toNat by omega]
   · simp;omega
variable {e1 e2:Expr} {f1 f2:TL} {l1:Lv} {x:Str} {p apos cpos pos:Pos}
def yy (i:Nat) (f1 f2:TL):Sl->Res Out:=fun env=>ownL i env>>=fun ds=>f1 env>>=fun j=>f2 env>>=fun d=>match j with
 | .int k=>must (0<=k/\k<2^63/\ds.length<aaj) (.ok (.nx (env.set i (.own (.lst (ds.take k.toNat++d::ds.drop k.toNat))))))
 |_=> .stuck
def kW (i:Nat) (h1:DE X l1 e1 f1) (h2:DE X .s e2 f2) (hN:X.N[i]?=some x:=by rfl) (hv:Vis X.env.scope x:=by first|exact abR rfl|exact abf (abR rfl)|exact abf (abf rfl))
   (hd:Yx x:=by decide) (hcd:Yw x:=by decide)
   (hbase:abV (.Name x p) "insert" X.env (eval (.Name x p) X.env)=eval (.Name x p) X.env:=by rfl)
   (hfew:((abn cpos (aai [e1,e2] X.env)).all (fun x=>!x.1)&&(adc cpos (abT [] X.env)).all (fun x=>x.1.isSome)
    &&decide ([e1,e2].length+([]:List adg).length+(if ([]:List adg).isEmpty then 0 else 1)<30))=true:=by exact x0 rfl rfl)
   (hline:(apos.endLine==cpos.line)=true:=by rfl) (hs:aai [e1,e2] X.env=(false,eval e1 X.env)::aai [e2] X.env:=by exact ji rfl) (hplain:(abn cpos (aai [e2] X.env)).any (·.1)=false:=by exact jx rfl)
   (hs2:aai [e2] X.env=(false,eval e2 X.env)::aai [] X.env:=by exact ji rfl)
   (hsw:aca (.Call (.Attribute (.Name x p) "insert" apos) [e1,e2] [] cpos) none pos.line X.env=pure false:=by rfl):
   DS X (.Expr (.Call (.Attribute (.Name x p) "insert" apos) [e1,e2] [] cpos) pos) (yy i f1 f2):=by
 with_unfolding_all exact (
  PS.imp (Jx (um acu PySem.F.slot_list_insert PySem.F.type_list_insert UN (zZ hN hv hd hcd) (jM h1 (jM h2 qS hs2) hs) hbase hfew hline hs hplain) hsw) fun E σ H=>by
   rintro ⟨G,H0,env,o,k,ef,q⟩;obtain ⟨ds,c1,ef⟩:=jc ef;obtain ⟨j,c2,ef⟩:=jc ef;obtain ⟨d,c3,c4⟩:=jc ef
   cases j with
   |int kk=>
    obtain ⟨⟨z1,z2,z3⟩,c5⟩:=jl c4;cases c5;have hi:=wS c1;obtain ⟨a,xs,ha,hx,rs⟩:=wl k hi;refine ⟨.ref a,ha,.inl ⟨rfl,xs,.of hx⟩,G,H0,env,_,k,c2,fun v1 H1 s1 r1 _=>⟨G,H0,env,d,k.grow s1,c3,fun v2 H2 s2 r2 _=>?_⟩⟩;have hx2:=s2 _ _ (s1 _ _ hx);cases (r1.weak Lv.weak_b).intE;refine ⟨a,xs,kk,v2,rfl,rfl,hx2,z1,z2,by rw [rs.length];exact z3,?_⟩;have rs2:=(rs.grow s1).grow s2;have W:=((k.grow s1).grow s2).write hi ha hx2 (ds':=ds.take kk.toNat++d::ds.drop kk.toNat) ((rs2.take _).append (.cons r2 (rs2.drop _)));exact q σ _ W.1 ((W.2.grow s2).grow s1)
   |_=>cases c4)
end
end M
namespace M
open PySem PySem.Spec L2
open PyProof.Rows hiding St
section
variable {prog:aaA} {w:World} {A:aaU} {E:Xw} {s:aaf}
def WF:typeLookup (.type "list") "keys" =pure none:=by rw [typeLookup_type,builtinLookup_eq_fast];kernel_rfl
def UY {a:Addr} {o:Obj} {xs:Array Value} {k:Nat} {Q:Option Value->aaf->Prop} (ho:s.heap.get? a=some o) (hc:o.cls= .type "list") (hdd:o.dict=none) (hd:o.data= .seq xs k) (hA:A.handled=none)
  (h: ∀h' tk,(∀b ob,s.heap.get? b=some ob->h'.get? b=some ob)->Q none {s with heap:=h',toks:=tk}):wpAny (model prog w) A (getAttr? (.ref a) "keys") Q E s:=by
 obtain ⟨hp,g,d,tk,os⟩:=s;obtain ⟨oc,od,odata,osl⟩:=o;simp only at hc hdd hd;subst hc hdd hd;have hT:(⟨hp,g,d,tk,os⟩:aaf).TypeIs (.ref a) "list" :=⟨_,ho,rfl⟩
 have hT':(⟨hp,g,d,tk+1,os⟩:aaf).TypeIs (.ref a) "list" :=⟨_,ho,rfl⟩
 have f1:=sub_AttributeError;have f3:=adl.lookup;have f4:=adl.bind (.ref a);have f5:=am_list_getattr_none;unfold getAttr? getAttrBy? getAttrBy
 repeat (any_goals (first | assumption | ((with_reducible show wpAny _ _ (call (Value.builtin "list.__getattribute__") _ _) _ _ _); refine call_meets adl hT' am_entry_list_getattribute (F.args_list_getattribute_2 _ _) (meets_getattribute_miss_list a xs k osl "keys" _ WF (by decide)) ⟨ho, hA, fun h' tk' e hx => ?_⟩) | wp_step))
 obtain ⟨t',u',he⟩:=hx.there;unfold getattributeRaised
 repeat (any_goals (first|assumption|wp_step))
 exact h h' _ hx.keeps
def qF:entryFor table "dict.update.loop" =some adf.«dict.update.loop» :=entryFor_of_tree (by kernel_rfl)
def jP:plainId "dict.update.loop" =true:=by decide+kernel
def Zn {t:Addr} {o:Obj} {n:Nat} {its:Array Value} {Q:List Value->aaf->Prop} (ho:s.heap.get? t=some o) (hc:o.cls= .type "tuple") (hd:o.data= .seq its n) (h:Q its.toList s):wpAny (model prog w) A (aeO (.ref t)) Q E s:=by
 unfold aeO;refine aab (adQ (show s.TypeIs (.ref t) "tuple" from ⟨o,ho,hc⟩) ?_);rw [if_pos (by decide)];refine aab (ac4 ho hd ?_);exact aad h
def Xb (pr:Nat->List Key×Addr×Value):Nat->List (List Key×Addr×Value)
 |0=>[]
 |i+1=>storedH (Xb pr i) (pr i).1 (pr i).2.1 (pr i).2.2
def Xs (xs:List (List Key×Addr×Value)) (k:List Key) (a:Addr) (v:Value):(storedH xs k a v).length<=xs.length+1:=by
 cases h:atKey xs k with
 |none=>rw [storedH_new h];simp
 |some p=>rw [storedH_old h];simp
theorem Qf (pr:Nat->List Key×Addr×Value): ∀i,(Xb pr i).length<=i
 |0=>aah _
 |i+1=>aaN (Xs _ _ _ _) (Nat.succ_le_succ (Qf pr i))
def Wh {xs:List (List Key×Addr×Value)} {k:List Key} {a:Addr} {v:Value} {N:Nat} (h: ∀x∈xs,x.2.1<N) (ha:a<N): ∀x∈storedH xs k a v,x.2.1<N:=by
 intro x hx
 cases q:atKey xs k with
 |none=>
  rw [storedH_new q] at hx;rcases abr.mp hx with z|z
  · exact h x z
  · rw [abS] at z;subst z;exact ha
 |some p=>
  rw [storedH_old q] at hx;obtain ⟨y,hy,rfl⟩:=aaK.mp hx;unfold putAt
  split
  · exact h y hy
  · exact h y hy
theorem yF {pr:Nat->List Key×Addr×Value} {N n:Nat} (h: ∀i,i<n->(pr i).2.1<N): ∀i,i<=n-> ∀x∈Xb pr i,x.2.1<N
 |0,_,x,hx=>by cases hx
 |i+1,hi,x,hx=>Wh (yF h i (by omega)) (h i (by omega)) x hx
variable {R:Result->aaf->Prop} {I:Addr} {fp wr:List Addr} {G:Array GenState->Array GenState->Prop} {n:Nat} {P:Nat->Value->Prop} {St:Nat->aaf->Prop}
def KZ (W:WalksS prog w A.in1 I fp wr G n P St) (d:Addr) (hdf:d∉fp) (pr:Nat->List Key×Addr×Value) (h0:Heap) (hkey: ∀i,i<n->abp (jE prog w) h0 (pr i).1 (pr i).2.1)
  (hval: ∀i v,P i v-> ∃t o m,v= .ref t/\h0.get? t=some o/\o.cls= .type "tuple" /\o.data= .seq #[.ref (pr i).2.1,(pr i).2.2] m)
  (hdw:h0.objs.size<=d) (hIw: ∀b∈wr,h0.objs.size<=b) (hu:A.in1.units<cLine) (hn:n<=aaj):
  ∀(k i:Nat) (s:aaf),n-i=k->i<=n->St i s->s.heap.DictOfH (acJ (jE prog w)) d (Xb pr i)->(∀b o,b<h0.objs.size->h0.get? b=some o->s.heap.get? b=some o)->
    (∀s',Moved (d::wr) G s s'->s'.heap.DictOfH (acJ (jE prog w)) d (Xb pr n)->R (.ok (.ret .none)) s')->
    adw (model prog w) A (.builtin "dict.update.loop" ⟨[.ref d,.ref I,rawInt i,.none],[]⟩) R s:=by
 have hSw:d∉wr:=fun h=>hdf (W.sub _ h)
 have hsub: ∀b∈wr,b∈d::wr:=fun b hb=>aat _ hb
 have hka: ∀i,i<n->(pr i).2.1<h0.objs.size:=fun i hi=>by
  obtain ⟨o',items,n',g1,g2⟩:=hkey i hi;exact aao g1
 have dkeep: ∀ {s s':aaf} {xs:List (List Key×Addr×Value)},s.heap.DictOfH (acJ (jE prog w)) d xs->(∀x∈xs,x.2.1<h0.objs.size)->Moved wr G s s'->s'.heap.DictOfH (acJ (jE prog w)) d xs:=fun hS hx hm=>by
  obtain ⟨o,es,ep,ho,hc,hd,he,his,hnd⟩:=hS;refine ⟨o,es,ep,hm.heap d _ hSw ho,hc,hd,he,fun x hxx=>?_,hnd⟩;obtain ⟨o',items,n',g1,g2⟩:=(show abp (jE prog w) _ x.1 x.2.1 from his x hxx)
  exact ⟨o',items,n',hm.heap _ _ (fun z=>absurd (hIw _ z) (Nat.not_le_of_lt (hx x hxx))) g1,g2⟩
 intro k
 induction k with
 |zero=>
  intro i s hk hi hst hS hold hR;have hin:i=n:=by omega
  subst hin;refine acP qF ?_;rw [aci jP _];refine aab (W.done s _ _ hst fun s' hm=>?_);refine aab (aad ?_);exact aad (hR s' (hm.mono hsub) (dkeep hS (yF hka _ (aah _)) hm))
 |succ k ih=>
  intro i s hk hi hst hS hold hR;have hlt:i<n:=by omega
  refine acP qF ?_;rw [aci jP _];refine aab (W.item i s _ _ hlt hst fun v s' hP hst' hm=>?_);obtain ⟨t,o,m,rfl,ht,hc,hd⟩:=hval i v hP;have hold': ∀b o,b<h0.objs.size->h0.get? b=some o->s'.heap.get? b=some o:=fun b o hb e=>hm.heap b o (fun z=>absurd (hIw _ z) (Nat.not_le_of_lt hb)) (hold b o hb e)
  have hS':=dkeep hS (yF hka _ hi) hm;have ht':=hold' _ _ (aao ht) ht;refine aab (aa3 ?_);refine aab (wpAny_tryCatch (Zn ht' hc hd ?_));refine aa3 ?_
  have hk':(acJ (jE prog w)).is s'.heap (pr i).1 (pr i).2.1:=by
    obtain ⟨o',items,n',g1,g2⟩:=hkey i hlt;exact ⟨o',items,n',hold' _ _ (aao g1) g1,g2⟩
  refine wpAny_dictSet_heap hu hk' hS' (fun h' dd' hs=>?_) (aaN (Qf pr i) (aaN hi hn));refine aad ⟨plainId_quiet jP _,?_⟩;have hrun:=ih (i+1) {s' with heap:=h',toks:=s'.toks+(acJ (jE prog w)).draws (pr i).1} (by omega) hlt (W.frame _ s' _ _ hst' (ab8 _ _) fun b hb o e=>?_) dd' (fun b o hb e=>?_) fun s'' hm'' hS''=>?_
  · exact hrun
  · rw [hs.2 b (fun h:b=d=>hdf (by rw [←h];exact hb))];exact e
  · rw [hs.2 b (fun h:b=d=>absurd hdw (by rw [←h];exact Nat.not_le_of_lt hb))];exact hold' b o hb e
  · refine hR s'' (Moved.trans W.gtrans ((hm.mono hsub).then_heap (ab8 _ _) fun b o hb e=>?_) hm'') hS'';rw [hs.2 b (fun h:b=d=>hb (by rw [h];exact aay))];exact e
def Qe {l:Addr} {ol:Obj} {its:Array Value} {m:Nat} {Q:Xw} (pr:Nat->List Key×Addr×Value) (hh:A.handled=none) (ho:s.heap.get? l=some ol) (hc:ol.cls= .type "list") (hdd:ol.dict=none) (hd:ol.data= .seq its m)
  (hkey: ∀i,i<its.size->abp (jE prog w) s.heap (pr i).1 (pr i).2.1)
  (hval: ∀i v,its[i]?=some v-> ∃t o m,v= .ref t/\s.heap.get? t=some o/\o.cls= .type "tuple" /\o.data= .seq #[.ref (pr i).2.1,(pr i).2.2] m) (hu:A.units+2<cLine) (hn:its.size<=aaj)
  (h: ∀h' tk,(∀b o,s.heap.get? b=some o->h'.get? b=some o)->h'.DictOfH (acJ (jE prog w)) s.heap.objs.size (Xb pr its.size)->Q (.ref s.heap.objs.size) {s with heap:=h',toks:=tk}):
  wpAny (model prog w) A (call (.type "dict") [.ref l]) Q E s:=by
 refine callType_codes (Q₁:=fun obj s₁=>obj= .ref s.heap.objs.size/\s₁={s with heap:=s.heap.push {cls:= .type "dict",data:= .dict #[]}}) F.kt_called_dict (F.kt_typeCall_dict_1 _) F.entry_dict_init (kt_code_dict_new _ ⟨rfl,rfl⟩) ?_;rintro obj s₁ ⟨rfl,rfl⟩;have kp: ∀b o,s.heap.get? b=some o->(s.heap.push {cls:= .type "dict",data:= .dict #[]}).get? b=some o:=fun b o e=>aae _ e
 have hT:Shared.TypeIs {s with heap:=s.heap.push {cls:= .type "dict",data:= .dict #[]}} (.ref s.heap.objs.size) "dict" :=⟨_,aap _ rfl,rfl⟩
 have hTl:Shared.TypeIs {s with heap:=s.heap.push {cls:= .type "dict",data:= .dict #[]}} (.ref l) "list" :=⟨_,kp _ _ ho,hc⟩
 refine ⟨hT,F.args_dict_init_2 _ _,?_⟩;unfold adf.«dict.__init__»;refine aab ?_;unfold Builtin.Dict.selfAndRest;refine aab (wpAny_notOrdered_dict hT ?_);refine aad ?_;show wpAny _ _ (aeG "dict.__init__" s.heap.objs.size (.ref l) [] .none) _ _ _;unfold aeG;refine aab (adQ hTl ?_);rw [if_pos (by decide)];refine aab (UY (kp _ _ ho) hc hdd hd (by simp [hh]) fun h1 tk1 k1=>?_);simp;refine aab (ad7 ?_);have hl1:h1.IsList l its:=⟨_,k1 _ _ (kp _ _ ho),hc,m,hd⟩
 refine aab (acX hl1 ?_);have hz1:=aao (k1 _ _ (aap _ rfl));have hlS:=aao ho;have hneI:=aax (aeV hlS hz1);refine aad ⟨plainId_quiet jP _,?_⟩;have hh3:A.in1.in1.handled=none:=by simp [hh]
 refine KZ ((Walks.list hh3 h1.objs.size l hneI its).toS) s.heap.objs.size (by simp;exact ⟨aax hz1,Nat.ne_of_gt hlS⟩) pr s.heap hkey (fun i v hv=>hval i v hv) (aah _) (fun b hb=>by simp at hb;subst hb;exact aeR hz1) (by simpa [Around.in1] using hu) hn (its.size-0) 0 _ (by omega) (aa4 _)
  ⟨⟨_,aap _ rfl,rfl,rfl⟩,hl1.push _⟩ ?hd0 (fun b o hb e=>aae _ (k1 _ _ (kp _ _ e))) ?hR
 case hd0=>
  exact ⟨_, #[],0,aae _ (k1 _ _ (aap _ rfl)),⟨rfl,rfl,rfl⟩,rfl,rfl,(fun x hx=>by cases hx),List.nodup_nil⟩
 case hR=>
  intro s' hm hS';obtain ⟨h',g',d',tk',os'⟩:=s';have eg:=hm.gens;have ed:=hm.drawn;have eo:=hm.os;subst eg;subst ed;subst eo;refine ⟨rfl,h h' tk' (fun b o e=>?_) hS'⟩;have hb:=aao e;exact hm.heap b o (by simp;exact ⟨aax hb,aax (aeV hb hz1)⟩) (aae _ (k1 _ _ (kp _ _ e)))
end
def jdM {A:aaU} {k:Nat} (hr:Room k A):A.units+2<cLine:=ael (Nat.add_le_add_left (by decide:2<=64) _) hr.units
section
variable {X:Cx} {K:aaa}
inductive Prs (H:Hp):List V->List (List Key×V)->Prop where
 |nil:Prs H [] []
 |cons {t b:Addr} {k:List Key} {v:V} {r:List V} {ps:List (List Key×V)}:H t=some (.tup [.ref b,v])->H b=some (.tup (k.map kV))->Prs H r ps->Prs H (.ref t::r) ((k,v)::ps)
def Jv (ps:List (List Key×V)):List (List Key×V):=ps.foldl (fun kvs p=>putK kvs p.1 p.2) []
theorem Um {pins:List (Addr×Obj)} {σ:L2.St} {H:Hp} {s:aaf} (I:Inv X pins σ H s): ∀ {ys:List V} {ps:List (List Key×V)} {its:List Value},Prs H ys ps->Vals ys its->
  ∃qs:List (List Key×Addr×Value),qs.length=its.length/\aeI (fun (p:List Key×V) (q:List Key×Addr×Value)=>p.1=q.1/\H q.2.1=some (.tup (p.1.map kV))/\RelV p.2 q.2.2) ps qs/\
   ∀(i:Nat) (v:Value),its[i]?=some v-> ∃q,qs[i]?=some q/\ ∃t o m,v= .ref t/\s.heap.get? t=some o/\o.cls= .type "tuple" /\o.data= .seq #[.ref q.2.1,q.2.2] m
 |_,_,_,.nil,.nil=>⟨[],rfl,.nil,fun i v h=>by simp at h⟩
 |_,_,_,.cons (t:=t) (b:=b) (k:=k) ht hb hr,.cons r1 rr=>by
  obtain ⟨qs,h1,h2,h3⟩:=Um I hr rr;obtain ⟨its2,r2,⟨o,e1,e2,m,e3⟩,_⟩:=I.tuple (.inl (.of ht))
  cases r2 with
  |cons ra r2=>
   cases r2 with
   |cons rb r2=>
    cases r2;rename_i ua ub;cases (show ua=aaz b from ra);cases r1;refine ⟨(k,b,ub)::qs,by simp [h1],.cons ⟨rfl,hb,rb⟩ h2,fun i v hv=>?_⟩
    cases i with
    |zero=>
     simp at hv;subst hv;exact ⟨_,rfl,t,o,m,rfl,e1,e2,e3⟩
    |succ i=>
     simp at hv;obtain ⟨q,g1,g2⟩:=h3 i v hv;exact ⟨q,by simpa using g1,g2⟩
theorem yo {α β:Type} {F:α->β->Prop}: ∀ {l₁:List α} {l₂:List β},aeI F l₁ l₂-> ∀(i:Nat) (y:β),l₂[i]?=some y-> ∃x,l₁[i]?=some x/\F x y
 |_,_,.nil,i,y,h=>by simp at h
 |_,_,.cons r t,0,y,h=>by simp at h;subst h;exact ⟨_,rfl,r⟩
 |_,_,.cons r t,i+1,y,h=>by
  obtain ⟨x,h1,h2⟩:=yo t i y (by simpa using h);exact ⟨x,by simpa using h1,h2⟩
theorem Ki {H:Hp} {ps:List (List Key×V)} {qs:List (List Key×Addr×Value)} (r:aeI (fun (p:List Key×V) (q:List Key×Addr×Value)=>p.1=q.1/\H q.2.1=some (.tup (p.1.map kV))/\RelV p.2 q.2.2) ps qs):
  ∀i,i<=qs.length->KT H (Jv (ps.take i)) (Xb (fun j=>qs.getD j ([],0,.none)) i)
 |0,_=> .nil
 |i+1,hi=>by
  have ih:=Ki r i (by omega);obtain ⟨q,hq⟩: ∃q,qs[i]?=some q:=⟨qs[i]'(by omega),aac _⟩
  obtain ⟨p,hp,⟨e1,e2,e3⟩⟩:=yo r i q hq;have hg:qs.getD i ([],0,.none)=q:=by simp [List.getD,hq]
  have ht:ps.take (i+1)=ps.take i++[p]:=by rw [List.take_add_one,hp];rfl
  have hpa:Jv (ps.take (i+1))=putK (Jv (ps.take i)) p.1 p.2:=by unfold Jv;rw [ht,List.foldl_append];rfl
  rw [hpa];show KT H _ (storedH (Xb (fun j=>qs.getD j ([],0,.none)) i) (qs.getD i ([],0,.none)).1 (qs.getD i ([],0,.none)).2.1 (qs.getD i ([],0,.none)).2.2);rw [hg,←e1];exact ih.put p.1 e2 e3
def Ve (hc:X.calm=true) (hu:X.A.units+2<cLine):CallR X (.type "dict") (fun xs H Q=> ∃p ys ps,xs=[.ref p]/\H p=some (.lst ys)/\Prs H ys ps/\ ∀l,H l=none->Q (.ref l) (upd H l (.dT (Jv ps)))):=by
 rintro pins s σ H xs us Q I r ⟨p,ys,ps,ex,hp,hps,q⟩;subst ex;obtain ⟨u,rfl,ru⟩:=xm r;cases ru;obtain ⟨its,rv,⟨o,n,ho,hcl,hdd,hd⟩,hz⟩:=I.list (SqL.of hp);obtain ⟨qs,h1,h2,h3⟩:=Um I hps rv;have hsz:its.toArray.size=qs.length:=by rw [aag,h1]
 have hql:qs.length<=aaj:=by rw [h1,←rv.length];exact hz
 refine Qe (fun j=>qs.getD j ([],0,.none)) (I.ok.hd hc) ho hcl hdd hd (fun i hi=>?_) (fun i v hv=>?_) hu (by rw [hsz];exact hql) fun h' tk hk dd=>?_
 · obtain ⟨qq,hq⟩: ∃q,qs[i]?=some q:=⟨qs[i]'(by rw [hsz] at hi;exact hi),aac _⟩
   obtain ⟨pp,hp',⟨e1,e2,e3⟩⟩:=yo h2 i qq hq;have hg:qs.getD i ([],0,.none)=qq:=by simp [List.getD,hq]
   rw [hg,←e1];exact WK I.hok e2
 · obtain ⟨qq,hq,g⟩:=h3 i v (by rw [←hv];simp);have hg:qs.getD i ([],0,.none)=qq:=by simp [List.getD,hq]
   rw [hg];exact g
 · have hl:=I.hok.fresh (aah _);rw [hsz] at dd;have kt:=Ki h2 qs.length (aah _);have hpl:=adp h2;rw [adI (by omega)] at kt;have kl:=adp kt;have hbl:=Qf (fun j=>qs.getD j ([],0,.none)) qs.length;obtain ⟨qq,es,ep,hq,g2,g3,g4,_,g5⟩:=dd;refine ⟨.ref s.heap.objs.size,_,I.laid hk (aah _) (show ObjOk X.prog X.w _ h' _ (.dT (Jv ps)) from ⟨by omega,beq_eq_false_iff_ne.mpr (acD (aax I.big)),_,kt.keeps fun c ys ec=>?_,qq,es,ep,hq,g2,g3,g4,g5⟩),rfl,q _ hl⟩;rw [jp (jC ec hl)];exact ec
def prsD:List D->Option (List (List Key×D))
 | []=>some []
 | .tup [kd,d]::r=>match keyT kd,prsD r with
  |some k,some q=>some ((k,d)::q)
  |_,_=>none
 |_=>none
theorem YC {A:Xx} {H:Hp}: ∀ {vs:List V} {ds:List D} {ps:List (List Key×D)},Reps K A H vs ds->prsD ds=some ps-> ∃qs:List (List Key×V),Prs H vs qs/\qs.map (·.1)=ps.map (·.1)/\Reps K A H (qs.map (·.2)) (ps.map (·.2))
 |_,[],ps,.nil,h=>by simp [prsD] at h;subst h;exact ⟨[],.nil,rfl,.nil⟩
 |_,d::ds,ps,.cons r rs,h=>by
  unfold prsD at h
  split at h
  · rename_i e;cases e
  · rename_i kd d' r' e;cases e
    cases hk:keyT kd with
    |none=>rw [hk] at h;cases h
    |some k=>
     cases hq:prsD ds with
     |none=>rw [hk,hq] at h;cases h
     |some q=>
      rw [hk,hq] at h;cases h;obtain ⟨qs,g1,g2,g3⟩:=YC rs hq;obtain ⟨t,xs,rfl,ht,rx⟩:=r.tupE;obtain ⟨v1,v2,rfl,r1,r2⟩:=rx.two;obtain ⟨b,rfl,hb⟩:=Jd r1 hk;exact ⟨(k,v2)::qs,.cons ht hb g1,by simp [g2],.cons r2 g3⟩
  · cases h
def Qr (q:List (List Key)×List D) (p:List Key×D):List (List Key)×List D:=(Uc q.1 p.1,Ud q.1 q.2 p.1 p.2)
def WZ:List D->Res D
 | [.lst ds]=>match prsD ds with
  |some ps=> .ok (.dit (ps.foldl Qr ([],[])).1 (ps.foldl Qr ([],[])).2)
  |none=> .stuck
 |_=> .stuck
theorem QG {A:Xx} {H:Hp}: ∀ {qs:List (List Key×V)} {ps:List (List Key×D)} {kvs:List (List Key×V)} {q:List (List Key)×List D},qs.map (·.1)=ps.map (·.1)->Reps K A H (qs.map (·.2)) (ps.map (·.2))->kvs.map (·.1)=q.1->Reps K A H (kvs.map (·.2)) q.2->
  (qs.foldl (fun kvs p=>putK kvs p.1 p.2) kvs).map (·.1)=(ps.foldl Qr q).1/\Reps K A H ((qs.foldl (fun kvs p=>putK kvs p.1 p.2) kvs).map (·.2)) (ps.foldl Qr q).2
 | [],[],kvs,q,_,_,h1,h2=>⟨h1,h2⟩
 | [],_::_,_,_,h,_,_,_=>by cases h
 |_::_,[],_,_,h,_,_,_=>by cases h
 | (k,v)::qs,(k',d)::ps,kvs,q,h,.cons r rs,h1,h2=>by
  simp at h;obtain ⟨rfl,h⟩:=h;obtain ⟨p1,p2⟩:=Yz k h2 r;rw [h1] at p1 p2;exact QG (kvs:=putK kvs k v) (q:=Qr q (k,d)) h rs p1 p2
def jau:xP K (fun xs H Q=> ∃p ys ps,xs=[.ref p]/\H p=some (.lst ys)/\Prs H ys ps/\ ∀l,H l=none->Q (.ref l) (upd H l (.dT (Jv ps)))) WZ:=by
 intro A xs H ds d Q r e q;unfold WZ at e
 split at e
 · split at e
   · rename_i ps hps;cases e;obtain ⟨v,rfl,r1⟩:=r.one;obtain ⟨p,ys,rfl,hp,_,ry⟩:=r1.lstE;obtain ⟨qs,g1,g2,g3⟩:=YC ry.low hps;obtain ⟨a1,a2⟩:=QG (kvs:=[]) (q:=([],[])) g2 g3 rfl .nil;exact ⟨p,ys,qs,rfl,hp,g1,fun l hl=>q _ _ (Same.upd hl) (.dit jj (.inl hl) a1 rfl ((a2.laid hl).weak fun c z=>⟨.inr z.1,z.2⟩)) (jQ (Same.refl H) hl)⟩
   · cases e
 · cases e
end
section
variable {X:Cx}
def dupL (i:Nat):Sl->Res D:=fun env=>match env[i]? with
 |some (.own (.lst ds))=> .ok (.lst ds)
 |some (.shr (.lst ds))=> .ok (.lst ds)
 |_=> .stuck
def jak (i:Nat) {x:Str} {p p2 pos:Pos} (hg:Gl X "list") (hm:X.mg "list" =none) (hN:X.N[i]?=some x:=by rfl) (hv:Vis X.env.scope x:=by first|exact abR rfl|exact abf (abR rfl)|exact abf (abf rfl)) (hd:Yx x:=by decide)
   (hcd:Yw x:=by decide) (hs:aai [.Name x p2] X.env=(false,eval (.Name x p2) X.env)::aai [] X.env:=by exact ji rfl):DE X .t (.Call (.Name "list" p) [.Name x p2] [] pos) (dupL i):=by
 with_unfolding_all exact (
  PE.imp (wa qU hg hm jU (jM (zZ hN hv hd hcd) qS hs) (by decide) (by decide) hs (by exact jx rfl)) fun σ H Q=>by
   rintro ⟨G,H0,env,d,k,ef,q⟩;unfold dupL at ef
   split at ef
   · rename_i ds e;cases ef;obtain ⟨a,xs,ha,hx,rs⟩:=wl k e;exact ⟨_,ha,a,xs,rfl,.inl (.of hx),fun l hl=>q _ _ (Same.upd hl) (.lst jj (k.new l hl) (rs.laid hl)) (jQ (Same.refl H) hl)⟩
   · rename_i ds e;cases ef;obtain ⟨v,h1,h2⟩:=k.shr i _ e;obtain ⟨a,xs,rfl,hx,_,rs⟩:=h2.lstE;exact ⟨_,h1,a,xs,rfl,.inl (.of hx),fun l hl=>q _ _ (Same.upd hl) (.lst jj (k.new l hl) (rs.low.laid hl)) (jQ (Same.refl H) hl)⟩
   · cases ef)
end
def fsc {N P:List Str} {sc:Scope} (h1:sc.kind= .function:=by rfl) (h2:sc.isCoroutine=false:=by rfl) (h3:sc.isGenerator=false:=by rfl) (h4:N.Nodup:=by decide+kernel) (h5:N.take P.length=P:=by rfl) (h6: ∀x∈P,sc.names.lookup x=some .local\/sc.names.lookup x=some .cell:=by decide+kernel) (h7: ∀y∈sc.names,y.2≠ .free:=by decide+kernel):FnScope N P sc:=⟨h1,h2,h3,h4,h5,h6,h7⟩
def Dx (K:aaa) (mg:Xy) (x:Str) (st:Stmt) (ps:List Str):Prop:= ∃f fd,Fun K x x st f fd/\mg x=some (.ref f)/\Binds K fd ps []
def LkF (K:aaa) (p:Addr) (x q:Str) (st:Stmt):Prop:= ∃(oc:Value) (od an:Option Addr) (osl:Array (Option Value)) (kV doc pm cdv ct:Value),
 K.lookup p=some ⟨oc,od,.func (acb x q (wK st) (jY st) (jf st) .none kV doc pm an cdv ct),osl⟩/\adF K cdv q=true
def DefN (K:aaa) (x:Str) (st:Stmt):Prop:= ∃p:Addr,aal K aak x=some (some (.ref p))/\LkF K p x x st/\aaX K (.ref p)=true
def Dm (K:aaa) (C:Addr) (m q:Str) (st:Stmt) (ps:List Str):Prop:= ∃f fd,Fun K m q st f fd/\Meth K C m f/\Binds K fd ps []
def DefM (K:aaa) (C:Addr) (m q:Str) (st:Stmt):Prop:= ∃p:Addr,aaW K (.ref C) m=some (some (.ref p))/\aeS K (.ref p)=true/\LkF K p m q st/\aaX K (.ref p)=true
abbrev Tk (x q:Str) (st:Stmt) (us:List Value) (ps:List Str):Prop:= ∀(kV doc pm:Value) (an:Option Addr) (cdv ct:Value),bindArgs (acb x q (wK st) (jY st) (jf st) .none kV doc pm an cdv ct) ⟨us,[]⟩=pure (ps.zip us)
section
variable {K:aaa} {mg:Xy} {x q m:Str} {st:Stmt} {ps:List Str} {h:Heap} {C:Addr}
def LkF.fn {p:Addr} (l:LkF K p x q st) (k:aaX K (.ref p)=true) (hb: ∀us,us.length=ps.length->Tk x q st us ps): ∃fd,Fun K x q st p fd/\Binds K fd ps []:=by
 obtain ⟨oc,od,an,osl,kV,doc,pm,cdv,ct,l,c⟩:=l;have F:=jaP l c k;exact ⟨_,F,F.binds fun a b c d e f us hl=>hb us hl a b c d e f⟩
def DefN.dx (d:DefN K x st) (KX:K.In h) (G:h.Ns aak mg) (hb: ∀us,us.length=ps.length->Tk x x st us ps):Dx K mg x st ps:=by
 obtain ⟨p,a,l,k⟩:=d;obtain ⟨fd,F,B⟩:=l.fn k hb;exact ⟨p,fd,F,aaH KX G a,B⟩
def DefM.dm (d:DefM K C m q st) (hb: ∀us,us.length=ps.length->Tk m q st us ps):Dm K C m q st ps:=by
 obtain ⟨p,a,i,l,k⟩:=d;obtain ⟨fd,F,B⟩:=l.fn k hb;exact ⟨p,fd,F,⟨a,i,k⟩,B⟩
theorem tk1 {x q:Str} {st:Stmt} {p:Str} (h: ∀a,Tk x q st [a] [p]:=by intro _ _ _ _ _ _ _;rfl): ∀us:List Value,us.length=[p].length->Tk x q st us [p]
 | [a],_=>h a
theorem tk2 {x q:Str} {st:Stmt} {p p2:Str} (h: ∀a b,Tk x q st [a,b] [p,p2]:=by intro _ _ _ _ _ _ _ _;rfl): ∀us:List Value,us.length=[p,p2].length->Tk x q st us [p,p2]
 | [a,b],_=>h a b
theorem tk3 {x q:Str} {st:Stmt} {p p2 p3:Str} (h: ∀a b c,Tk x q st [a,b,c] [p,p2,p3]:=by intro _ _ _ _ _ _ _ _ _;rfl): ∀us:List Value,us.length=[p,p2,p3].length->Tk x q st us [p,p2,p3]
 | [a,b,c],_=>h a b c
end
section
variable {P:aaA} {w:World} {K:aaa} {mg:Xy} {base:Heap}
def zr {x:Str} {st:Stmt} {N ps:List Str} {k:Nat} (fr:Bool) {g:TJ} (d:Dx K mg x st ps) (S:FnScope N ps (jf st))
  (hb: ∀(f:Addr) (cdv:Value) (A:aaU) (outer:List Env) (s:aaf) (H:Hp) (E:XK),Room k (A.deeper (adx x (jf st) s.heap.objs.size f cdv))->DSs (cxOf CX0 P w K mg base N x (jf st) f cdv A outer s H E).nox (jY st) g):
  Av P w K mg base (k+1) x ps fr (runF fr N.length g):=by
 obtain ⟨f,fd,F,m,B⟩:=d;exact jeS fr F m S B (hb f)
def jec {x:Str} {st:Stmt} {N ps:List Str} {k:Nat} (fr:Bool) {g:TJ} (d:Dx K mg x st ps) (S:FnScope N ps (jf st))
  (hb: ∀(f:Addr) (cdv:Value) (A:aaU) (outer:List Env) (s:aaf) (H:Hp) (E:XK),Room k (A.deeper (adx x (jf st) s.heap.objs.size f cdv))->DSsX (cxOf (CX1 P w) P w K mg base N x (jf st) f cdv A outer s H E) (jY st) g):
  AvX P w K mg base (k+1) x ps fr (runX fr N.length g):=by
 obtain ⟨f,fd,F,m,B⟩:=d;exact jed fr F m S B (hb f)
def Q0 {c m q:Str} {st:Stmt} {C:Addr} {N ps:List Str} {k:Nat} (fr:Bool) {g:TJ} (d:Dm K C m q st ps) (hC:aal K aak c=some (some (.ref C))/\Cls K C) (S:FnScope N ps (jf st))
  (hb: ∀(f:Addr) (cdv:Value) (A:aaU) (outer:List Env) (s:aaf) (H:Hp) (E:XK),Room k (A.deeper (adx q (jf st) s.heap.objs.size f cdv))->DSs (cxOf CX0 P w K mg base N q (jf st) f cdv A outer s H E).nox (jY st) g):
  AvM P w K mg base (k+1) c m ps fr (runF fr N.length g):=by
 obtain ⟨f,fd,F,m,B⟩:=d;exact jee fr F hC.1 hC.2 m S B (hb f)
def jeT {x:Str} {st:Stmt} {ps:List Str} {k:Nat} (fr:Bool) (d:Dx K mg x st ps):Av P w K mg base k x ps fr (fun _=> .stuck):=by
 obtain ⟨f,fd,F,m,B⟩:=d;exact jcv fr F m B
end
section
variable {X:Cx} {a b e:Expr} {f f1 f2:TL} {pos:Pos} {x:Str}
def vb (i:Nat) {x:Str} (hN:X.N[i]?=some x:=by rfl) (hv:Vis X.env.scope x:=by first|exact abR rfl|exact abf (abR rfl)|exact abf (abf rfl)) (hd:Yx x:=by decide) (hcd:Yw x:=by decide):DE X .b (.Name x pos) (rdS i):=DE.b (dv i hN hv hd hcd)
def ib {i:Int} {j}:DE X .b (.Constant (.int i) j pos) (cI i):=ja0
def i_s {i:Int} {j}:DE X .s (.Constant (.int i) j pos) (cI i):=ja0
def ob {op:aej} {r:R2} {g:D->D->Res D} (ho:OpR X (ab1 op) r) (hr:OpS X.K r g) (ha:DE X .b a f1) (hb:DE X .b b f2):DE X .b (.BinOp a op b pos) (two f1 f2 g):=k9 ho hr ha hb
def o_s {op:aej} {r:R2} {g:D->D->Res D} (ho:OpR X (ab1 op) r) (hr:OpS X.K r g) (ha:DE X .b a f1) (hb:DE X .b b f2):DE X .s (.BinOp a op b pos) (two f1 f2 g):=k9 ho hr ha hb
def Qt (ha:DE X .b a f1) (hb:DE X .b b f2):DE X .b (.BinOp a .Mod b pos) (two f1 f2 modI):=k9 JD JK ha hb
def uE (ha:DE X .b a f1) (hb:DE X .b b f2):DE X .b (.BinOp a .Pow b pos) (two f1 f2 powI):=k9 jdo jdv ha hb
def gi {x:Str} {i:Int} (hg:Gl X x) (hm: ∃t,X.mg x=some (.int i t)) (hd:Yx x:=by decide):DE X .b (.Name x pos) (cI i):=hm.elim fun _ h=>vh hg h hd
def gis {x:Str} {i:Int} (hg:Gl X x) (hm: ∃t,X.mg x=some (.int i t)) (hd:Yx x:=by decide):DE X .s (.Name x pos) (cI i):=hm.elim fun _ h=>vh hg h hd
def gst {x y:Str} (hg:Gl X x) (hm: ∃t,X.mg x=some (.str y t)) (hl:y.length<=aaj:=by decide) (hd:Yx x:=by decide):DE X .b (.Name x pos) (cS y):=hm.elim fun _ h=>jck hg h hl hd
end
def DEX.calm {X:Cx} {l:Lv} {e:Expr} {f:TL} (h:DEX X l e f):DE X l e (Qd f):=by
 with_unfolding_all exact (PE.imp h fun σ H Q ⟨G,H0,env,d,k,ef,q⟩=>⟨G,H0,env,k,.inl ⟨d,WC ef,q⟩⟩)
abbrev FJ:=Sl->Res (D×Sl)
variable {X:Cx} {K:aaa}
def Vx:List D->Res D
 | [.int i]=>must (i.natAbs.log2<1920/\(Str.ofString (toString i)).length<=aaj) (.ok (.str (toString i)))
 |_=> .stuck
def jcr:xP K (fun xs H Q=> ∃i,xs=[V.int i]/\i.natAbs.log2<1920/\Q (.str (toString i)) H) Vx:=by
 intro A xs H ds d Q r e q;unfold Vx at e
 split at e
 · obtain ⟨h,e⟩:=jl e;cases e;obtain ⟨v,rfl,r1⟩:=r.one;exact ⟨_,by rw [r1.intE],h.1,q _ H (Same.refl H) (.str _ h.2) (fun a z=>nomatch z)⟩
 · cases e
end M
namespace M
open PySem
namespace Tab
open SetTable (Probe runEnd leap bits)
def adv (m:Nat) (p:Probe):Probe:=
 if p.more>0 then {p with j:=p.j+1,more:=p.more-1} else
 {p with j:=(leap m p.i p.perturb).1,more:=runEnd m (leap m p.i p.perturb).1-(leap m p.i p.perturb).1,i:=(leap m p.i p.perturb).1,perturb:=(leap m p.i p.perturb).2}
def beg (m:Nat) (i q:Nat):Probe:={j:=i,more:=runEnd m i-i,i:=i,perturb:=q,dummy:=none}
def pth (m:Nat) (h:Int):Nat->Probe
 |0=>beg m (bits h%(m+1)) (bits h)
 |n+1=>adv m (pth m h n)
def at' (m:Nat) (h:Int) (n:Nat):Nat:=(pth m h n).j
def lp (m:Nat) (h:Int):Nat->Nat×Nat
 |0=>(bits h%(m+1),bits h)
 |c+1=>leap m (lp m h c).1 (lp m h c).2
def off (m:Nat) (h:Int):Nat->Nat
 |0=>0
 |c+1=>off m h c+(runEnd m (lp m h c).1-(lp m h c).1)+1
theorem XD {m:Nat} {h:Int} {n i q:Nat} (e:pth m h n=beg m i q): ∀k,k<=runEnd m i-i->pth m h (n+k)={j:=i+k,more:=runEnd m i-i-k,i:=i,perturb:=q,dummy:=none}
 |0,_=>by rw [adU,e];rfl
 |k+1,hk=>by
  have:=XD e k (by omega);rw [←Nat.add_assoc];show adv m (pth m h (n+k))=_;rw [this];unfold adv;rw [if_pos (show runEnd m i-i-k>0 by omega)];simp;omega
theorem Ug (m:Nat) (h:Int): ∀c,pth m h (off m h c)=beg m (lp m h c).1 (lp m h c).2
 |0=>rfl
 |c+1=>by
  have e:=XD (Ug m h c) _ (aah _);show adv m (pth m h (off m h c+(runEnd m (lp m h c).1-(lp m h c).1)))=_;rw [e];unfold adv;rw [if_neg (by simp)];rfl
def Xi {m:Nat} {h:Int} {c k:Nat} (hk:k<=runEnd m (lp m h c).1-(lp m h c).1):at' m h (off m h c+k)=(lp m h c).1+k:=by
 unfold at';rw [XD (Ug m h c) k hk]
def jc2 (m i:Nat):runEnd m i-i<=9:=by unfold runEnd;split<;>omega
theorem jaD (m:Nat) (h:Int): ∀c,off m h c<=10*c
 |0=>aah _
 |c+1=>by
  have:=jaD m h c;have:=jc2 m (lp m h c).1;show off m h c+(runEnd m (lp m h c).1-(lp m h c).1)+1<=_;omega
theorem jdC (m:Nat) (h:Int): ∀c,(lp m h c).1<=m
 |0=>aeA (Nat.mod_lt _ (aeY _))
 |c+1=>aeA (Nat.mod_lt _ (aeY _))
def jcu (h:Int):bits h<2^64:=by
 unfold bits;have h1:(0:Int)<=h%(2^64:Int):=abu _ (by decide);have h2:h%(2^64:Int)< (2^64:Int):=acf _ (by decide);omega
theorem QH (m:Nat) (h:Int): ∀c,(lp m h c).2=bits h/32^c
 |0=>by simp [lp]
 |c+1=>by
  show (lp m h c).2/32=_;rw [QH m h c,Nat.div_div_eq_div_mul,Nat.pow_succ]
def jbJ (m:Nat) (h:Int) {c:Nat} (hc:13<=c):(lp m h c).2=0:=by
 rw [QH];refine Nat.div_eq_of_lt (aaw (jcu h) ?_);exact aaN (by decide:2^64<=32^13) (Nat.pow_le_pow_right (by decide) hc)
def fv (m:Nat):Nat->Nat->Nat
 |0,i=>i
 |d+1,i=>(fv m d i*5+1)%(m+1)
theorem jdD (m:Nat) (h:Int): ∀d,(lp m h (13+d)).1=fv m d (lp m h 13).1
 |0=>rfl
 |d+1=>by
  show (leap m (lp m h (13+d)).1 (lp m h (13+d)).2).1=_;rw [jbJ m h (by omega)];rw [jdD m h d];rfl
def Cyc (m:Nat):Prop:= ∀i j,i<=m->j<=m-> ∃d,d<=m/\fv m d i=j
theorem YX (m:Nat) (a i:Nat): ∀b,fv m (a+b) i=fv m b (fv m a i)
 |0=>rfl
 |b+1=>by show (fv m (a+b) i*5+1)%(m+1)=_;rw [YX m a i b];rfl
def jd8 {m:Nat} (h0:fv m (m+1) 0=0) (h: ∀j,j<=m-> ∃d,d<=m/\fv m d 0=j):Cyc m:=fun i j hi hj=>by
 obtain ⟨a,ha,ea⟩:=h i hi;obtain ⟨b,hb,eb⟩:=h j hj
 by_cases hab:a<=b
 · exact ⟨b-a,by omega,by rw [←ea,←YX,show a+(b-a)=b by omega,eb]⟩
 · refine ⟨m+1-a+b,by omega,?_⟩;rw [←ea,←YX,show a+(m+1-a+b)=m+1+b by omega,YX,h0,eb]
def orb (m:Nat):Nat->Nat->List Nat
 |0,_=>[]
 |n+1,i=>i::orb m n ((i*5+1)%(m+1))
theorem jaO (m:Nat) (i:Nat): ∀d,fv m (d+1) i=fv m d ((i*5+1)%(m+1))
 |0=>rfl
 |d+1=>by show (fv m (d+1) i*5+1)%(m+1)=_;rw [jaO m i d];rfl
theorem UC (m:Nat): ∀n i j,j∈orb m n i-> ∃d,d<n/\fv m d i=j
 |0,_,_,h=>by cases h
 |n+1,i,j,h=>by
  rcases aaJ.mp h with rfl|h
  · exact ⟨0,aeY _,rfl⟩
  · obtain ⟨d,h1,h2⟩:=UC m n _ j h;exact ⟨d+1,by omega,by rw [jaO];exact h2⟩
def Yf {m:Nat} (h0:fv m (m+1) 0=0) (h:(aa6 (m+1)).all (fun j=>(orb m (m+1) 0).contains j)=true):Cyc m:=
 jd8 h0 fun j hj=>by
  have h1:=aaZ.mp h j (aaV.mpr (by omega));obtain ⟨d,h2,h3⟩:=UC m _ _ _ (List.contains_iff_mem.mp h1);exact ⟨d,by omega,h3⟩
def cyc7:Cyc 7:=Yf (by decide+kernel) (by decide+kernel)
def jeQ:Cyc 31:=Yf (by decide+kernel) (by decide+kernel)
def jd9:Cyc 127:=Yf (by decide+kernel) (by decide+kernel)
def QL {m:Nat} (C:Cyc m) (h:Int) {j:Nat} (hj:j<=m): ∃c,c<=m+13/\(lp m h c).1=j:=by
 obtain ⟨d,h1,h2⟩:=C _ j (jdC m h 13) hj;exact ⟨13+d,by omega,by rw [jdD,h2]⟩
def KG {m:Nat} (C:Cyc m) (h:Int) {j:Nat} (hj:j<=m): ∃n,n<=10*(m+13)/\at' m h n=j:=by
 obtain ⟨c,h1,h2⟩:=QL C h hj;refine ⟨off m h c,aaN (jaD m h c) (by omega),?_⟩;have:=Xi (m:=m) (h:=h) (c:=c) (aa4 _);rw [adU] at this;rw [this,h2,adU]
def jcx {m:Nat} (h:Int) (n:Nat):at' m h n<=m:=by
 suffices hs: ∀n,(pth m h n).j+(pth m h n).more<=m by exact aaN (ab8 _ _) (hs n)
 have hb: ∀i q,i<=m->(beg m i q).j+(beg m i q).more<=m:=fun i q hi=>by
  show i+(runEnd m i-i)<=m;unfold runEnd;split<;>omega
 intro n
 induction n with
 |zero=>exact hb _ _ (jdC m h 0)
 |succ n ih=>
  show (adv m (pth m h n)).j+(adv m (pth m h n)).more<=m;unfold adv
  split
  · show (pth m h n).j+1+((pth m h n).more-1)<=m;omega
  · exact hb _ 0 (aeA (Nat.mod_lt _ (aeY _)))
def QU {m:Nat} (C:Cyc m) (h:Int) (occ:Nat->Prop) [DecidablePred occ] {j:Nat} (hj:j<=m) (hf: ¬occ j): ∃n,n<=10*(m+13)/\ ¬occ (at' m h n)/\ ∀k,k<n->occ (at' m h k):=by
 obtain ⟨n,h1,h2⟩:=KG C h hj
 suffices hs: ∀N,¬occ (at' m h N)-> ∃n,n<=N/\ ¬occ (at' m h n)/\ ∀k,k<n->occ (at' m h k) by
  obtain ⟨n',a,b⟩:=hs n (by rw [h2];exact hf);exact ⟨n',by omega,b⟩
 intro N
 induction N using Nat.strongRecOn with
 |ind N ih=>
  intro hN
  by_cases hk: ∀k,k<N->occ (at' m h k)
  · exact ⟨N,aah _,hN,hk⟩
  · simp at hk;obtain ⟨k,hkN,hk⟩:=hk;obtain ⟨n',a,b⟩:=ih k hkN hk;exact ⟨n',by omega,b⟩
end Tab
end M
namespace M
open PySem
namespace Tab
variable {L:Bool}
open SetTable (Probe runEnd leap bits below insertAt)
theorem Z3 (xs:Array Nat) (j:Nat) (up:xs.toList.Pairwise (· < ·)): ∀(fuel lo hi:Nat),hi-lo<=fuel->lo<=hi->hi<=xs.size->(∀k v,k<lo->xs[k]?=some v->v<j)->(∀k v,hi<=k->xs[k]?=some v->j<=v)->
  (∀k v,k<adM xs j fuel lo hi->xs[k]?=some v->v<j)/\(∀k v,adM xs j fuel lo hi<=k->xs[k]?=some v->j<=v)/\adM xs j fuel lo hi<=xs.size
 |0,lo,hi,h1,h2,h3,h4,h5=>by
  obtain rfl:lo=hi:=by omega
  exact ⟨h4,h5,h3⟩
 |fuel+1,lo,hi,h1,h2,h3,h4,h5=>by
  unfold adM
  by_cases hl:lo<hi
  · rw [if_pos hl];have hm:(lo+hi)/2<xs.size:=by omega
    have hg:xs.getD ((lo+hi)/2) j=xs[(lo+hi)/2]:=by rw [abz,aau hm];rfl
    have mono: ∀a b va vb,a<b->xs[a]?=some va->xs[b]?=some vb->va<vb:=fun a b va vb hab ha hb=>by
      rw [←aas] at ha hb;obtain ⟨ha1,ha2⟩:=aam.mp ha;obtain ⟨hb1,hb2⟩:=aam.mp hb;rw [←ha2,←hb2];exact abt.mp up a b ha1 hb1 hab
    dsimp only;rw [hg]
    by_cases hc:xs[(lo+hi)/2]<j
    · rw [if_pos hc];refine Z3 xs j up fuel _ hi (by omega) (by omega) h3 (fun k v hk e=>?_) h5
      by_cases hk2:k=(lo+hi)/2
      · subst hk2;rw [aau hm] at e;cases e;exact hc
      · exact aeV (mono k _ v _ (by omega) e (aau hm)) hc
    · rw [if_neg hc];refine Z3 xs j up fuel lo _ (by omega) (by omega) (by omega) h4 (fun k v hk e=>?_)
      by_cases hk2:k=(lo+hi)/2
      · subst hk2;rw [aau hm] at e;cases e;omega
      · have:=mono _ k _ v (by omega) (aau hm) e;omega
  · rw [if_neg hl];obtain rfl:lo=hi:=by omega
    exact ⟨h4,h5,h3⟩
def QZ {xs:Array Nat} (up:xs.toList.Pairwise (· < ·)) (j:Nat):(∀k v,k<aaL xs j->xs[k]?=some v->v<j)/\(∀k v,aaL xs j<=k->xs[k]?=some v->j<=v)/\aaL xs j<=xs.size:=
 Z3 xs j up xs.size 0 xs.size (by omega) (aa4 _) (aah _) (fun k v h _=>absurd h (adD _)) fun k v h e=>by
  rw [Array.getElem?_eq_none h] at e;cases e
def yc {xs:Array Nat} (up:xs.toList.Pairwise (· < ·)) {j i:Nat} (e:xs[i]?=some j):aaL xs j=i:=by
 obtain ⟨h1,h2,h3⟩:=QZ up j
 have hi:aaL xs j<=i:=by
  refine ade fun h=>?_
  exact absurd (h1 i j h e) (abI _)
 have hi2:=(abB.mp e).1;refine Nat.le_antisymm hi (ade fun h=>?_);have hb:aaL xs j<xs.size:=by omega
 have:=h2 _ _ (aah _) (aau hb)
 have h4:xs[aaL xs j]<xs[i]:=by
  have:=abt.mp up (aaL xs j) i (by simpa using hb) (by simpa using hi2) h;simpa using this
 rw [aau hi2] at e;cases e;omega
theorem VB {t:abb} (up:t.place.toList.Pairwise (· < ·)) (dm:t.dummies= #[]) (j:Nat):t.slot j=match t.place[aaL t.place j]? with
  |some v=>if v=j then .live (aaL t.place j) else .empty
  |none=> .empty:=by
 unfold SetTable.slot;have hd:SetTable.has t.dummies j=false:=by rw [dm];rfl
 dsimp only;rw [hd]
 cases h:t.place[aaL t.place j]? with
 |none=>simp
 |some v=>simp
def Jk {t:abb} (up:t.place.toList.Pairwise (· < ·)) (dm:t.dummies= #[]) {i j:Nat} (e:t.place[i]?=some j):t.slot j= .live i:=by
 rw [VB up dm,yc up e,e];simp
def Kw {t:abb} (up:t.place.toList.Pairwise (· < ·)) (dm:t.dummies= #[]) {j:Nat} (e:j∉t.place.toList):t.slot j= .empty:=by
 rw [VB up dm]
 split
 · rename_i v h;rw [if_neg];rintro rfl;rw [←aas] at h;exact e (aa0 h)
 · rfl
structure Tb (L:Bool) (m:Nat) (t:abb) (es:Array (Int×Value)):Prop where
 ld:t.led=L
 mask:t.mask=m
 dm:t.dummies= #[]
 sz:t.place.size=es.size
 up:t.place.toList.Pairwise (· < ·)
 le: ∀j∈t.place.toList,j<=m
 road: ∀(i j:Nat) (e:Int×Value),t.place[i]?=some j->es[i]?=some e-> ∃n,at' m e.1 n=j/\ ∀k,k<n->at' m e.1 k∈t.place.toList
def Tb.fresh (led:Bool):Tb led 7 (.fresh 0 0 led) #[]:=⟨rfl,rfl,rfl,rfl,.nil,(fun _ h=>by cases h),(fun i j e h=>by simp [SetTable.fresh] at h)⟩
section
variable {m:Nat} {t:abb} {es:Array (Int×Value)}
def Tb.el (T:Tb L m t es) {i j:Nat} (h:t.place[i]?=some j): ∃e,es[i]?=some e:=by
 have:=(abB.mp h).1;exact ⟨_,aau (by rw [←T.sz];exact this)⟩
def Tb.met (T:Tb L m t es) {i:Nat} {e:Int×Value} (he:es[i]?=some e) {N:Nat} (hN:at' m e.1 N∉t.place.toList): ∃n j,n<N/\at' m e.1 n=j/\t.place[i]?=some j:=by
 have hi:=(abB.mp he).1;have hj:t.place[i]?=some (t.place[i]'(by rw [T.sz];exact hi)):=aau _;obtain ⟨n,h1,h2⟩:=T.road i _ e hj he;refine ⟨n,_,aem (ade fun h=>hN (h2 N h)) ?_,h1,hj⟩;rintro rfl;rw [h1] at hN;exact hN (by rw [←aas] at hj;exact aa0 hj)
def yQ {α:Type} (xs:Array α) {p:Nat} (x:α) (hp:p<=xs.size) (i:Nat):(insertAt xs p x)[i]?=if i<p then xs[i]? else if i=p then some x else xs[i-1]?:=by
 rw [←aas,adm];rw [show xs[i]?=xs.toList[i]? from aas.symm,show xs[i-1]?=xs.toList[i-1]? from aas.symm];have hl:(xs.toList.take p).length=p:=by simp;omega
 by_cases h1:i<p
 · rw [if_pos h1,aaq (by omega),acm h1]
 · rw [if_neg h1,aav (by omega),hl]
   by_cases h2:i=p
   · subst h2;simp
   · rw [if_neg h2,show i-p=(i-p-1)+1 by omega,acv,aen,show p+(i-p-1)=i-1 by omega]
def Tb.put (T:Tb L m t es) {h:Int} {x:Value} {N j:Nat} (hj:at' m h N=j) (hf:j∉t.place.toList) (ho: ∀k,k<N->at' m h k∈t.place.toList):Tb L m (t.put j).1 (insertAt es (t.put j).2 (h,x)):=by
 obtain ⟨b1,b2,b3⟩:=QZ T.up j
 have hmem: ∀k,k∈(insertAt t.place (aaL t.place j) j).toList↔k=j\/k∈t.place.toList:=fun k=>by
   rw [adm];have:t.place.toList=t.place.toList.take (aaL t.place j)++t.place.toList.drop (aaL t.place j):=(List.take_append_drop _ _).symm
   constructor
   · intro z;rcases abr.mp z with z|z
     · exact .inr (List.mem_of_mem_take z)
     · rcases aaJ.mp z with z|z
       · exact .inl z
       · exact .inr (List.mem_of_mem_drop z)
   · rintro (rfl|z)
     · exact aaT _ aay
     · rw [this] at z;rcases abr.mp z with z|z
       · exact ac3 _ z
       · exact aaT _ (aat _ z)
 have hd:(t.put j).1.dummies= #[]:=by
   show (if SetTable.has t.dummies j then _ else t.dummies)= #[];rw [T.dm];rfl
 refine ⟨T.ld,T.mask,hd,?_,?_,?_,?_⟩
 · show (insertAt t.place (aaL t.place j) j).size=(insertAt es (aaL t.place j) (h,x)).size;have:=T.sz;rw [←aar,←aar,(adJ _ _ _).length_eq,(adJ _ _ _).length_eq];simp [this]
 · show (insertAt t.place (aaL t.place j) j).toList.Pairwise (· < ·);rw [adm,List.pairwise_append,acd];refine ⟨T.up.sublist (List.take_sublist _ _),⟨fun v hv=>?_,T.up.sublist (List.drop_sublist _ _)⟩,fun v hv w hw=>?_⟩
   · obtain ⟨q,hq⟩:=abj.mp hv;rw [aen,aas] at hq;have:=b2 _ _ (ab8 _ _) hq;refine aem this ?_;rintro rfl;exact hf (by rw [←aas] at hq;exact aa0 hq)
   · have hvj:v<j:=by
       obtain ⟨q,hq⟩:=abj.mp hv;obtain ⟨q1,q2⟩:=aam.mp hq;have q3:q<aaL t.place j:=by simp at q1;omega
       rw [acm q3,aas] at hq;exact b1 q v q3 hq
     rcases aaJ.mp hw with rfl|hw
     · exact hvj
     · obtain ⟨q,hq⟩:=abj.mp hw;rw [aen,aas] at hq;exact aaw hvj (b2 _ _ (ab8 _ _) hq)
 · intro k hk;rcases (hmem k).mp hk with rfl|hk
   · rw [←hj];exact jcx h N
   · exact T.le k hk
 · intro i k e hk he;have hb4:aaL t.place j<=es.size:=by rw [←T.sz];exact b3
   rw [show (t.put j).1.place=insertAt t.place (aaL t.place j) j from rfl,yQ _ _ b3] at hk;rw [show (t.put j).2=aaL t.place j from rfl,yQ _ _ hb4] at he
   have old: ∀i',t.place[i']?=some k->es[i']?=some e-> ∃n,at' m e.1 n=k/\ ∀q,q<n->at' m e.1 q∈(t.put j).1.place.toList:=fun i' a b=>by
     obtain ⟨n,c,d⟩:=T.road i' k e a b;exact ⟨n,c,fun q hq=>(hmem _).mpr (.inr (d q hq))⟩
   by_cases h1:i<aaL t.place j
   · rw [if_pos h1] at hk he;exact old i hk he
   · rw [if_neg h1] at hk he
     by_cases h2:i=aaL t.place j
     · rw [if_pos h2] at hk he;cases hk;cases he;exact ⟨N,hj,fun q hq=>(hmem _).mpr (.inr (ho q hq))⟩
     · rw [if_neg h2] at hk he;exact old _ hk he
theorem jbI: ∀ {l l':List Nat},l.Nodup->(∀x∈l,x∈l')->l.length<=l'.length
 | [],_,_,_=>aa4 _
 |a::l,l',nd,h=>by
  obtain ⟨n1,n2⟩:=acl.mp nd;have h1:=jbI n2 fun x hx=>(List.mem_erase_of_ne (by rintro rfl;exact n1 hx)).mpr (h x (aat _ hx))
  have h2:=List.length_erase_of_mem (h a aay);have h3:=List.length_pos_of_mem (h a aay);rw [aaF];omega
def Tb.free (T:Tb L m t es) (hs:es.size<=m): ∃j,j<=m/\j∉t.place.toList:=by
 refine ach fun h=>?_
 have hall: ∀j,j∈aa6 (m+1)->j∈t.place.toList:=fun j hj=>ach fun z=>h ⟨j,by have:=aaV.mp hj;omega,z⟩
 have h1:=jbI (adZ) hall;rw [aeB,aar,T.sz] at h1;omega
end
end Tab
end M
namespace M
open PySem
namespace Tab
variable {L:Bool}
open SetTable (Probe runEnd leap bits below insertAt)
def jL (ow:Array (Option Nat)) (j:Nat):Prop:=(ow.getD j (some 0)).isNone=false
instance (ow:Array (Option Nat)):DecidablePred (jL ow):=fun j=>inferInstanceAs (Decidable (_=false))
def jc3 (m i:Nat):i<=runEnd m i:=by unfold runEnd;split<;>omega
def Zu (m:Nat) (h:Int) (c:Nat):off m h (c+1)=off m h c+(runEnd m (lp m h c).1-(lp m h c).1)+1:=rfl
def uA (m:Nat) (h:Int) {a b:Nat} (hab:a<b):off m h a<off m h b:=by
 induction b with
 |zero=>omega
 |succ b ih=>
  rw [Zu]
  by_cases e:a=b
  · subst e;omega
  · have:=ih (by omega);omega
theorem kA {m:Nat} {h:Int} {ow:Array (Option Nat)} {N:Nat} (hN: ¬jL ow (at' m h N)) (hb: ∀k,k<N->jL ow (at' m h k)): ∀(fuel c:Nat),off m h c<=N->N<off m h (c+fuel)->
  ab3 m ow fuel (lp m h c).1 (lp m h c).2=some (at' m h N)
 |0,c,h1,h2=>by rw [adU] at h2;omega
 |fuel+1,c,h1,h2=>by
  have hr:=jc3 m (lp m h c).1;unfold ab3
  by_cases hc:N<off m h (c+1)
  · rw [Zu] at hc
    have hat:at' m h N=(lp m h c).1+(N-off m h c):=by
     rw [←Xi (by omega)];congr 1;omega
    have hf:(aa6 (runEnd m (lp m h c).1+1-(lp m h c).1)).find? (fun k=>(ow.getD ((lp m h c).1+k) (some 0)).isNone)=some (N-off m h c):=by
     rw [List.find?_range_eq_some];refine ⟨?_,by rw [aaV];omega,fun k hk=>?_⟩
     · rw [←hat];unfold jL at hN;simpa using hN
     · have h3:=hb (off m h c+k) (by omega);rw [Xi (by omega)] at h3;unfold jL at h3;simpa using h3
    rw [hf,hat]
  · have hf:(aa6 (runEnd m (lp m h c).1+1-(lp m h c).1)).find? (fun k=>(ow.getD ((lp m h c).1+k) (some 0)).isNone)=none:=by
     rw [List.find?_eq_none];intro k hk;have hk:=aaV.mp hk;rw [Zu] at hc;have h3:=hb (off m h c+k) (by omega);rw [Xi (by omega)] at h3;unfold jL at h3;rw [acy];exact h3
    rw [hf];exact kA hN hb fuel (c+1) (by omega) (by rw [show c+1+fuel=c+(fuel+1) by omega];exact h2)
def jbY {m:Nat} (C:Cyc m) (h:Int) {ow:Array (Option Nat)} {j:Nat} (hj:j<=m) (hf: ¬jL ow j): ∃N,ab3 m ow (abM m) (bits h%(m+1)) (bits h)=some (at' m h N)/\ ¬jL ow (at' m h N)/\ ∀k,k<N->jL ow (at' m h k):=by
 obtain ⟨c,h1,h2⟩:=QL C h hj;obtain ⟨N,_,h3,h4⟩:=QU C h (jL ow) hj hf;refine ⟨N,?_,h3,h4⟩
 have hc:N<=off m h c:=by
  refine ade fun z=>?_
  have:=h4 _ z;have e:=Xi (m:=m) (h:=h) (c:=c) (aa4 _);rw [adU,adU,h2] at e;rw [e] at this;exact hf this
 have:=uA m h (show c<0+abM m by unfold abM;omega);exact kA h3 h4 (abM m) 0 (aa4 _) (by omega)
structure Ow (m:Nat) (hs:List Int) (ow:Array (Option Nat)) (k:Nat):Prop where
 sz:ow.size=m+1
 own: ∀(j q:Nat),ow[j]?=some (some q)->q<k/\ ∃hq,hs[q]?=some hq/\ ∃n,at' m hq n=j/\ ∀r,r<n->jL ow (at' m hq r)
 all: ∀q,q<k-> ∃j:Nat,ow[j]?=some (some q)
 one: ∀(j j' q:Nat),ow[j]?=some (some q)->ow[j']?=some (some q)->j=j'
def JA {ow:Array (Option Nat)} {j:Nat} (hj:j<ow.size):jL ow j↔ ∃q,ow[j]?=some (some q):=by
 unfold jL;rw [abz,aau hj];cases h:ow[j]<;>simp [h]
def Ow.room {m:Nat} {hs:List Int} {ow:Array (Option Nat)} {k:Nat} (O:Ow m hs ow k) (hk:k<=m): ∃j,j<=m/\ ¬jL ow j:=by
 refine ach fun h=>?_
 have hall: ∀j,j<=m-> ∃q,ow[j]?=some (some q):=fun j hj=>by
   have:jL ow j:=ach fun z=>h ⟨j,hj,z⟩
   exact (JA (by rw [O.sz];omega)).mp this
 have hL:=jbI (l:=(aa6 (m+1)).map fun j=>((ow[j]?).getD none).getD 0) (l':=aa6 k) ?_ ?_
 · rw [aan,aeB,aeB] at hL;omega
 · refine acr.mpr ((adZ).imp_of_mem fun {a b} ha hb hab e=>?_);obtain ⟨qa,ea⟩:=hall a (by have:=aaV.mp ha;omega);obtain ⟨qb,eb⟩:=hall b (by have:=aaV.mp hb;omega);simp only [ea,eb,adX] at e;subst e;exact hab (O.one a b qa ea eb)
 · intro x hx;obtain ⟨j,hj,rfl⟩:=aaK.mp hx;obtain ⟨q,e⟩:=hall j (by have:=aaV.mp hj;omega);simp only [e,adX];exact aaV.mpr (O.own j q e).1
def Ow.step {m:Nat} {hs:List Int} {ow:Array (Option Nat)} {k N:Nat} {h:Int} (O:Ow m hs ow k) (hh:hs[k]?=some h) (hN: ¬jL ow (at' m h N)) (hb: ∀r,r<N->jL ow (at' m h r)):Ow m hs (ow.setIfInBounds (at' m h N) (some k)) (k+1):=by
 have hlt:at' m h N<ow.size:=by rw [O.sz];have:=jcx (m:=m) h N;omega
 have get: ∀j:Nat,(ow.setIfInBounds (at' m h N) (some k))[j]?=if at' m h N=j then some (some k) else ow[j]?:=fun j=>by
   rw [Array.getElem?_setIfInBounds]
   split
   · rename_i e;subst e;simp [hlt]
   · rfl
 have mono: ∀j,jL ow j->jL (ow.setIfInBounds (at' m h N) (some k)) j:=fun j hj=>by
   unfold jL at hj ⊢;rw [abz] at hj ⊢;rw [get];split
   · rfl
   · exact hj
 refine ⟨by rw [Array.size_setIfInBounds];exact O.sz,fun j q e=>?_,fun q hq=>?_,fun j j' q e e'=>?_⟩
 · rw [get] at e
   split at e
   · rename_i z;cases e;exact ⟨acw _,h,hh,N,z,fun r hr=>mono _ (hb r hr)⟩
   · obtain ⟨a,hq,b,n,c,d⟩:=O.own j q e;exact ⟨by omega,hq,b,n,c,fun r hr=>mono _ (d r hr)⟩
 · by_cases z:q=k
   · subst z;exact ⟨_,by rw [get,if_pos rfl]⟩
   · obtain ⟨j,e⟩:=O.all q (by omega);refine ⟨j,?_⟩;rw [get,if_neg];exact e;intro ej;subst ej;exact hN ((JA hlt).mpr ⟨q,e⟩)
 · rw [get] at e e'
   split at e
   · rename_i z
     split at e'
     · rename_i z';rw [←z,←z']
     · cases e;have:=(O.own _ _ e').1;omega
   · split at e'
     · cases e';have:=(O.own _ _ e).1;omega
     · exact O.one j j' q e e'
theorem jaJ {m:Nat} (C:Cyc m) {hs:List Int} (hm:hs.length<=m): ∀(l done:List Int) (ow:Array (Option Nat)),done++l=hs->Ow m hs ow done.length->
  ∃ow',l.foldl (fun (acc:Option (Array (Option Nat)×Nat)) h=>do
   let (owner,k)←acc
   let j←ab3 m owner (abM m) (bits h%(m+1)) (bits h)
   pure (owner.setIfInBounds j (some k),k+1)) (some (ow,done.length))=some (ow',hs.length)/\Ow m hs ow' hs.length
 | [],done,ow,e,O=>by
  rw [abq] at e;subst e;exact ⟨ow,rfl,O⟩
 |h::l,done,ow,e,O=>by
  have hl:done.length<hs.length:=by rw [←e];simp
  obtain ⟨j,hj,hf⟩:=O.room (by omega);obtain ⟨N,h1,h2,h3⟩:=jbY C h hj hf;have O':=O.step (by rw [←e];simp) h2 h3;obtain ⟨ow',a,b⟩:=jaJ C hm l (done++[h]) _ (by rw [←e];simp) (by rw [aaB];exact O');refine ⟨ow',?_,b⟩;rw [←a,List.foldl_cons];congr 1;show (ab3 m ow (abM m) (bits h%(m+1)) (bits h)>>=fun j=>_)=_;rw [h1,aaB];rfl
def X1 {m:Nat} (C:Cyc m) {hs:Array Int} (hm:hs.size<=m): ∃ow,SetTable.layClean m hs=some ow/\Ow m hs.toList ow hs.size:=by
 have O0:Ow m hs.toList (Array.replicate (m+1) none) 0:=⟨by simp,fun j q e=>by rw [Array.getElem?_replicate] at e;split at e<;>simp at e,fun q h=>absurd h (adD _),fun j j' q e=>by rw [Array.getElem?_replicate] at e;split at e<;>simp at e⟩
 obtain ⟨ow,a,b⟩:=jaJ C (by simpa using hm) hs.toList [] _ rfl O0;refine ⟨ow,?_,by simpa using b⟩;unfold SetTable.layClean;rw [←Array.foldl_toList];have a':=a;simp only [abO] at a';rw [a'];rfl
theorem xZ {α β:Type} {f:α->Option β} {g:α->β}: ∀ {l:List α},(∀x∈l,f x=some (g x))->l.filterMap f=l.map g
 | [],_=>rfl
 |x::l,h=>by rw [acs,h x aay,aaE,xZ fun y hy=>h y (aat _ hy)]
def VY {m m':Nat} {t:abb} {es:Array (Int×Value)} {wanted:Nat} (T:Tb L m t es) (hw:acG wanted-1=m') (C:Cyc m') (hm:es.size<=m'):
   ∃t' order,t.relaid (es.map (·.1)) wanted=some (t',order)/\Tb L m' t' (order.filterMap (es[·]?))/\(order.filterMap (es[·]?)).toList.Perm es.toList:=by
 obtain ⟨ow,h1,O⟩:=X1 C (hs:=es.map (·.1)) (by simpa using hm);rw [Array.size_map] at O;unfold SetTable.relaid SetTable.laid;rw [hw,h1];generalize hlv:(aa6 (m'+1)).filterMap (fun j=>(ow.getD j none).map (j, ·))=live
 have mem: ∀j q,(j,q)∈live↔ow[j]?=some (some q):=fun j q=>by
   rw [←hlv,ads]
   constructor
   · rintro ⟨a,ha,e⟩;rw [acE] at e;obtain ⟨b,e1,e2⟩:=e;cases e2;have ha:=aaV.mp ha;rw [abz,aau (by rw [O.sz];exact ha)] at e1;rw [aau (by rw [O.sz];exact ha)];simpa using e1
   · intro e;have hj:=(abB.mp e).1;rw [O.sz] at hj;exact ⟨j,aaV.mpr hj,by rw [abz,e];rfl⟩
 have up:live.Pairwise (fun a b=>a.1<b.1):=by
   rw [←hlv];refine List.pairwise_filterMap.mpr ((List.pairwise_lt_range).imp fun {a b} hab x hx y hy=>?_);rw [acE] at hx hy;obtain ⟨_,_,rfl⟩:=hx;obtain ⟨_,_,rfl⟩:=hy;exact hab
 have hlt: ∀p∈live,p.2<es.size:=fun p hp=>(O.own p.1 p.2 ((mem _ _).mp hp)).1
 have hord:(live.map (·.2)).Perm (aa6 es.size):=by
   refine (List.perm_ext_iff_of_nodup ?_ adZ).mpr fun q=>?_
   · refine acr.mpr (up.imp_of_mem fun {a b} ha hb hab e=>?_);have:=O.one a.1 b.1 a.2 ((mem _ _).mp ha) (by rw [e];exact (mem _ _).mp hb);omega
   · rw [aaV]
     constructor
     · intro h;obtain ⟨p,hp,rfl⟩:=aaK.mp h;exact hlt p hp
     · intro h;obtain ⟨j,e⟩:=O.all q h;exact aaK.mpr ⟨(j,q),(mem _ _).mpr e,rfl⟩
 have hes:((live.map (·.2)).toArray.filterMap (es[·]?)).toList=(live.map (·.2)).filterMap (es[·]?):=by simp
 have hperm:((live.map (·.2)).toArray.filterMap (es[·]?)).toList.Perm es.toList:=by
   rw [hes];have:=hord.filterMap (es[·]?)
   rwa [filterMap_getElem?_range] at this
 have hmap: ∃g:Nat->Int×Value,(∀q,q<es.size->es[q]?=some (g q))/\(live.map (·.2)).filterMap (es[·]?)=(live.map (·.2)).map g:=by
   refine ⟨fun q=>(es[q]?).getD (0,.none),fun q hq=>by show es[q]?=some ((es[q]?).getD (0,.none));rw [aau hq];rfl,xZ fun q hq=>?_⟩;obtain ⟨p,hp,rfl⟩:=aaK.mp hq;show es[p.2]?=some ((es[p.2]?).getD (0,.none));rw [aau (hlt p hp)];rfl
 obtain ⟨g,hg,hmap⟩:=hmap;refine ⟨{mask:=m',place:=(live.map (·.1)).toArray,dummies:= #[],finger:=t.finger,led:=t.led,moves:=t.movedTo m',plain:=t.plain},(live.map (·.2)).toArray,by rw [←hlv];rfl,⟨T.ld,rfl,rfl,?_,?_,?_,?_⟩,hperm⟩
 · show (live.map (·.1)).toArray.size=_;rw [←aar (xs:=Array.filterMap _ _),hes,hmap];simp
 · show ((live.map (·.1)).toArray).toList.Pairwise (· < ·);exact acr.mpr up
 · intro j hj;obtain ⟨p,hp,rfl⟩:=aaK.mp (show j∈live.map (·.1) from hj);have:=(abB.mp ((mem p.1 p.2).mp hp)).1;rw [O.sz] at this;omega
 · intro i j e hj he;have hj:(live.map (·.1))[i]?=some j:=by rw [←aas] at hj;exact hj
   rw [←aas,hes,hmap,abA,aaO] at he;rw [aaO] at hj
   cases hp:live[i]? with
   |none=>rw [hp] at hj;cases hj
   |some p=>
     rw [hp] at hj he;cases hj;cases he;have hp:=aa0 hp;obtain ⟨a,hq,b,n,c,d⟩:=O.own p.1 p.2 ((mem _ _).mp hp)
     have e1:hq=(g p.2).1:=by
       rw [aas,Array.getElem?_map,hg _ (hlt p hp)] at b;simpa using b.symm
     subst e1;refine ⟨n,c,fun k hk=>?_⟩;have h3:=d k hk;obtain ⟨q,h4⟩:=(JA (by rw [O.sz];have:=jcx (m:=m') (g p.2).1 k;omega)).mp h3;exact aaK.mpr ⟨_,(mem _ _).mpr h4,rfl⟩
end Tab
end M
namespace M
open PySem
namespace Tab
variable {L:Bool}
open SetTable (Probe runEnd leap bits below insertAt)
theorem Wp (m:Nat) (h:Int): ∀n,(pth m h n).dummy=none
 |0=>rfl
 |n+1=>by
  show (adv m (pth m h n)).dummy=none;unfold adv;split<;>exact Wp m h n
def jeg (t:abb) (p:Probe):t.advance p=adv t.mask p:=by unfold SetTable.advance adv;split<;>rfl
def vM (t:abb) (h:Int):t.probeStart h=pth t.mask h 0:=rfl
section
variable {m:Nat} {t:abb} {es:Array (Int×Value)}
theorem YD (T:Tb L m t es) {hashAt:Nat->Int} (hA: ∀(i:Nat) (e:Int×Value),es[i]?=some e->hashAt i=e.1) (h:Int) {N:Nat} (hN:at' m h N∉t.place.toList) (hb: ∀k,k<N->at' m h k∈t.place.toList):
  ∀(F n:Nat),N-n<F->n<=N->
    (abH t hashAt h F (pth m h n)=some (.empty (at' m h N) none)/\ ∀q (i:Nat) (e:Int×Value),n<=q->q<N->t.place[i]?=some (at' m h q)->es[i]?=some e->e.1≠h)\/
    (∃(q i:Nat) (e:Int×Value),n<=q/\q<N/\t.place[i]?=some (at' m h q)/\es[i]?=some e/\e.1=h/\abH t hashAt h F (pth m h n)=some (.candidate (at' m h q) i (pth m h (q+1)))/\ ∀r (i:Nat) (e:Int×Value),n<=r->r<q->t.place[i]?=some (at' m h r)->es[i]?=some e->e.1≠h)
 |0,n,h1,_=>absurd h1 (adD _)
 |F+1,n,h1,h2=>by
  by_cases hn:n=N
  · subst hn;refine .inl ⟨?_,fun q i e a b=>by omega⟩;unfold abH;rw [show (pth m h n).j=at' m h n from rfl,Kw T.up T.dm hN];rw [Wp]
  · obtain ⟨i,hi⟩:=abj.mp (hb n (by omega));rw [aas] at hi;obtain ⟨e,he⟩:=T.el hi
    have one: ∀(i':Nat) (e':Int×Value),t.place[i']?=some (at' m h n)->es[i']?=some e'->e'=e:=fun i' e' a b=>by
      have:=yc T.up hi;have h3:=yc T.up a;rw [this] at h3;subst h3;rw [he] at b;cases b;rfl
    have hgo:abH t hashAt h (F+1) (pth m h n)=if hashAt i==h then some (.candidate (at' m h n) i (pth m h (n+1))) else abH t hashAt h F (pth m h (n+1)):=by
      rw [abH];rw [show (pth m h n).j=at' m h n from rfl,Jk T.up T.dm hi];simp only [jeg,T.mask];rfl
    rw [hgo,hA i e he]
    by_cases hh:e.1=h
    · refine .inr ⟨n,i,e,aah _,by omega,hi,he,hh,by rw [hh];simp,fun r i e a b=>by omega⟩
    · rw [show (e.1==h)=false by simpa using hh];simp only [aaQ,if_false];rcases YD T hA h hN hb F (n+1) (by omega) (by omega) with ⟨a,b⟩| ⟨q,i',e',a,b,c,d,f,g,k⟩
      · refine .inl ⟨a,fun q i e' h3 h4 h5 h6=>?_⟩
        by_cases hq:q=n
        · subst hq;rw [one i e' h5 h6];exact hh
        · exact b q i e' (by omega) h4 h5 h6
      · refine .inr ⟨q,i',e',by omega,b,c,d,f,g,fun r i e' h3 h4 h5 h6=>?_⟩
        by_cases hq:r=n
        · subst hq;rw [one i e' h5 h6];exact hh
        · exact k r i e' (by omega) h4 h5 h6
end
section
variable {prog:aaA} {w:World} {K:Type} [DecidableEq K] {knd:KeyKind prog w K} {A:aaU} {E:Xw} {s:aaf}
def ZZ (n:Nat) {v:Value} (h:ac9 v=true):ac0 n v=pure false:=by
 cases v with
 |ref a=>simp [ac9] at h
 |_=>first|rfl|simp [ac0]| (unfold ac0;rfl)
def ya {ks:List K} {a:Addr} {Q:Bool->aaf->Prop} (hk:abp knd s.heap ks a) (h:Q false s):wpAny (model prog w) A (ac0 8 (.ref a)) Q E s:=by
 have hT:=hk.typeIs;obtain ⟨o,items,n,ho,_,hd,hi⟩:=hk;unfold ac0;refine aab (adQ hT ?_);refine aab (aad ?_);simp;refine aab (ac4 ho hd ?_);dsimp only;refine aab ?_;rw [←ado];refine adb _ (fun rest r s'=>r.1=none/\s'=s/\ ∀v∈rest,ac9 v=true) _ ?_ ?_ _ _ ⟨rfl,rfl,hi.byValue⟩
 · rintro v rest r s' ⟨hr,rfl,hall⟩;rw [ZZ _ (hall v aay)];refine aab (aad ?_);simp;exact aad ⟨rfl,rfl,fun u hu'=>hall u (aat _ hu')⟩
 · rintro ⟨r1,r2⟩ s' ⟨hr,rfl,_⟩;simp only at hr;subst hr;exact aad h
def X4 (n:Nat) {v:Value} (h:ac9 v=true): ∃b,hashByValue n v=pure b:=by
 cases v with
 |ref a=>simp [ac9] at h
 |_=>cases n<;>first|exact ⟨_,rfl⟩| (unfold hashByValue;exact ⟨_,rfl⟩)
def X5 {ks:List K} {a:Addr} {Q:Bool->aaf->Prop} (hk:abp knd s.heap ks a) (h: ∀b,Q b s):wpAny (model prog w) A (hashByValue 8 (.ref a)) Q E s:=by
 have hT:=hk.typeIs;obtain ⟨o,items,n,ho,_,hd,hi⟩:=hk;unfold hashByValue;refine aab (wpAny_specialOf hT F.slot_tuple_hash.lookup ?_);refine aab (ac4 ho hd ?_);refine aab ?_;rw [←ado];refine adb _ (fun rest r s'=>s'=s/\ ∀v∈rest,ac9 v=true) _ ?_ ?_ _ _ ⟨rfl,hi.byValue⟩
 · rintro v rest r s' ⟨rfl,hall⟩;obtain ⟨b,hb⟩:=X4 7 (hall v aay);rw [hb];refine aab (aad ?_)
   cases b with
   |true=>
    simp;exact aad ⟨rfl,fun u hu'=>hall u (aat _ hu')⟩
   |false=>
    simp;exact aad (aad (h _))
 · rintro ⟨r1,r2⟩ s' ⟨rfl,_⟩
   cases r1 with
   |none=>exact aad (h _)
   |some b=>exact aad (h _)
def Kr {ks:List K} {a:Addr} (hk:abp knd s.heap ks a) (l:List Value) (hl: ∀y∈l,∃b k,y= .ref b/\abp knd s.heap k b) {Q:Bool->aaf->Prop} (h:Q false s):wpAny (model prog w) A (searchCouldBeSeen (.ref a) l) Q E s:=by
 unfold searchCouldBeSeen;refine aab ?_;refine adb _ (fun rest r s'=>r.1=none/\s'=s/\ ∀y∈rest,∃b k,y= .ref b/\abp knd s.heap k b) _ ?_ ?_ _ _ ⟨rfl,rfl,hl⟩
 · rintro y rest r s' ⟨hr,rfl,hall⟩;obtain ⟨b,k,rfl,hb⟩:=hall y aay;have go: ∀u hu',_:=fun u (hu':u∈rest)=>hall u (aat _ hu')
   dsimp only
   split
   · exact aad ⟨rfl,rfl,go⟩
   · refine aab (wpAny_eqIsQuiet_tuple hk ?_);simp only [abw,aaQ,if_false];refine aab (wpAny_eqIsQuiet_tuple hb ?_);simp only [abw,aaQ,if_false];refine aab (ya hk ?_);simp only [aaQ,if_false];refine aab (ya hb ?_);simp only [aaQ,if_false];exact aad ⟨rfl,rfl,go⟩
 · rintro ⟨r1,r2⟩ s' ⟨hr,rfl,_⟩;simp only at hr;subst hr;exact aad h
end
end Tab
end M
namespace M
open PySem
namespace Tab
variable {L:Bool}
open SetTable (Probe runEnd leap bits below insertAt)
def Sz (m n:Nat):Prop:=(m=7/\n<=4)\/(m=31/\n<=18)\/(m=127/\n<=76)
def Sz.cyc {m n:Nat} (S:Sz m n):Cyc m:=by
 rcases S with ⟨rfl,_⟩| ⟨rfl,_⟩| ⟨rfl,_⟩
 · exact cyc7
 · exact jeQ
 · exact jd9
def Sz.le {m n:Nat} (S:Sz m n):n<=m/\m<=127/\m%2=1/\n<=76:=by rcases S with ⟨rfl,h⟩| ⟨rfl,h⟩| ⟨rfl,h⟩<;>omega
def Tb.fits {m:Nat} {t:abb} {es:Array (Int×Value)} (T:Tb L m t es) (h:es.size<=m):t.fits es.size=true:=by
 unfold SetTable.fits SetTable.fill;rw [T.dm,T.sz,T.mask];simpa using h
section
variable {prog:aaA} {w:World} {K:Type} [DecidableEq K] {knd:KeyKind prog w K} {A:aaU} {E:Xw} {s:aaf}
def VP (hu:A.units<cLine) {a:Addr} {o:Obj} {es:Array (Int×Value)} {ep:Nat} {t:abb} {m:Nat} {kp:List (List K×Addr)} (ho:s.heap.get? a=some o) (hd:o.data= .set es ep t) (T:Tb L m t es) (S:Sz m es.size)
  (he:es.toList=kp.map fun p=>(aaP knd p.1,aaz p.2)) (hk: ∀p∈kp,abp knd s.heap p.1 p.2) {k0:List K} {xa:Addr} (hx:abp knd s.heap k0 xa) {Q:SetFound->aaf->Prop}
  (h1:k0∈kp.map (·.1)->Q (.there none) s) {N:Nat} (hN:at' m (aaP knd k0) N∉t.place.toList) (hb: ∀k,k<N->at' m (aaP knd k0) k∈t.place.toList) (hN2:N<=10*(m+13)) (h2:k0∉kp.map (·.1)->Q (.free (at' m (aaP knd k0) N) false) s):
  ∀(F n:Nat) (stand:Option Probe),N-n<F->n<=N->stand.getD (t.probeStart (aaP knd k0))=pth m (aaP knd k0) n->
    (∀q (i:Nat) (p:List K×Addr),q<n->t.place[i]?=some (at' m (aaP knd k0) q)->kp[i]?=some p->p.1≠k0)->
    wpAny (model prog w) A (setSearchFrom a (.ref xa) (aaP knd k0) true F stand) Q E s:=by
 have hf:=T.fits S.le.1
 have get: ∀(i:Nat) (e:Int×Value),es[i]?=some e-> ∃p,kp[i]?=some p/\e=(aaP knd p.1,aaz p.2):=fun i e h=>by
  rw [←aas,he,aaO] at h
  cases hp:kp[i]? with
  |none=>rw [hp] at h;cases h
  |some p=>rw [hp] at h;cases h;exact ⟨p,rfl,rfl⟩
 intro F
 induction F with
 |zero=>intro n _ z;exact absurd z (adD _)
 |succ F ih=>
  intro n stand hF hn hst hseen;unfold setSearchFrom;refine aab (abZ ho hd hf ?_);dsimp only;have hgw:t.gaveWay=false:=by unfold SetTable.gaveWay;rw [T.mask];have:=S.le.2.2.1;simp [this]
  rw [hgw];simp;rw [hst];unfold SetTable.probe;generalize e0:abH t _ (aaP knd k0) (10*abM t.mask) (pth m (aaP knd k0) n)=R;have e0:abH t (fun i=>(es[i]?.map (·.1)).getD 0) (aaP knd k0) (10*abM t.mask) (pth m (aaP knd k0) n)=R:=e0;rcases YD T (hashAt:=fun i=>(es[i]?.map (·.1)).getD 0) (fun i e h=>by simp [h]) _ hN hb (10*abM t.mask) n (by rw [T.mask];unfold abM;omega) hn with ⟨e1,e2⟩| ⟨q,i,e,a1,a2,a3,a4,a5,a6,a7⟩
  · rw [e0] at e1;subst e1;dsimp only;refine aad (h2 fun z=>?_);obtain ⟨p,hp,e3⟩:=aaK.mp z;obtain ⟨i,hi⟩:=abj.mp hp;have hei:es[i]?=some (aaP knd p.1,aaz p.2):=by rw [←aas,he,aaO,hi];rfl
    subst e3;obtain ⟨n',j,b1,b2,b3⟩:=T.met hei hN;subst b2
    by_cases hq:n'<n
    · exact hseen n' i p hq b3 hi rfl
    · exact e2 n' i _ (by omega) b1 b3 hei rfl
  · rw [e0] at a6;subst a6;dsimp only;obtain ⟨p,hp,rfl⟩:=get i e a4;have hpk:=hk p (aa0 hp);have hmv:t.sameMemory t.moves t.mask=some true:=by unfold SetTable.sameMemory;simp
    have next:p.1≠k0-> ∀q' (i':Nat) (p':List K×Addr),q'<q+1->t.place[i']?=some (at' m (aaP knd k0) q')->kp[i']?=some p'->p'.1≠k0:=fun hne q' i' p' g1 g2 g3=>by
      by_cases hq:q'<n
      · exact hseen q' i' p' hq g2 g3
      · by_cases hq2:q'=q
        · subst hq2;have:=yc T.up a3;have h4:=yc T.up g2;rw [this] at h4;subst h4;rw [hp] at g3;cases g3;exact hne
        · have hei:es[i']?=some (aaP knd p'.1,aaz p'.2):=by rw [←aas,he,aaO,g3];rfl
          rintro rfl;exact a7 q' i' _ (by omega) (by omega) g2 hei rfl
    split
    · refine aab (Kr hx _ (fun y hy=>?_) ?_)
      · obtain ⟨e',he',rfl⟩:=aaK.mp hy;have he':e'∈es/\e'.1=aaP knd k0:=by simpa using he'
        have:=Array.mem_toList_iff.mpr he'.1;obtain ⟨i',hi'⟩:=abj.mp this;rw [aas] at hi';obtain ⟨p',hp',rfl⟩:=get i' e' hi';exact ⟨_,_,rfl,hk p' (aa0 hp')⟩
      simp;rw [a4];dsimp only;refine aab (aa3 (wpAny_eqBool_tuple hu hpk hx ?_));refine aab (abZ ho hd hf ?_)
      by_cases hkk:p.1=k0
      · rw [decide_eq_true hkk];simp;exact aad (h1 (aaK.mpr ⟨p,aa0 hp,hkk⟩))
      · rw [decide_eq_false hkk];simp;rw [hmv];simp;rw [Jk T.up T.dm a3];dsimp only;rw [a4];dsimp only;refine aab (wpAny_isSame_ref_self ?_);simp;exact ih (q+1) _ (by omega) (by omega) rfl (next hkk)
    · rw [a4];dsimp only;refine aab (aa3 (wpAny_eqBool_tuple hu hpk hx ?_));refine aab (abZ ho hd hf ?_)
      by_cases hkk:p.1=k0
      · rw [decide_eq_true hkk];simp;exact aad (h1 (aaK.mpr ⟨p,aa0 hp,hkk⟩))
      · rw [decide_eq_false hkk];simp;rw [hmv];simp;rw [Jk T.up T.dm a3];dsimp only;rw [a4];dsimp only;refine aab (wpAny_isSame_ref_self ?_);simp;exact ih (q+1) _ (by omega) (by omega) rfl (next hkk)
end
end Tab
end M
namespace M
open PySem
namespace Tab
variable {L:Bool}
open SetTable (Probe runEnd leap bits below insertAt)
def Tb.led {m:Nat} {t:abb} {es:Array (Int×Value)} (T:Tb L m t es) (b:Bool):Tb L m {t with plain:=b} es:=⟨T.ld,T.mask,T.dm,T.sz,T.up,T.le,T.road⟩
def uf {α β:Type} {f:α->β} {l l':List β} (p:l.Perm l'): ∀k',l'=k'.map f-> ∃k:List α,l=k.map f/\k.Perm k':=by
 induction p with
 |nil=>intro k' e;exact ⟨k',e,.refl _⟩
 |cons x p ih=>
  intro k' e
  cases k' with
  |nil=>cases e
  |cons a k'=>
   simp at e;obtain ⟨k,h1,h2⟩:=ih k' e.2;exact ⟨a::k,by rw [h1,e.1];rfl,h2.cons a⟩
 |swap x y l=>
  intro k' e
  cases k' with
  |nil=>cases e
  |cons a k'=>
   cases k' with
   |nil=>cases e
   |cons b k'=>
    simp at e;obtain ⟨rfl,rfl,rfl⟩:=e;exact ⟨b::a::k',rfl,.swap a b k'⟩
 |trans p q ih1 ih2=>
  intro k' e;obtain ⟨k1,h1,h2⟩:=ih2 k' e;obtain ⟨k2,h3,h4⟩:=ih1 k1 h1;exact ⟨k2,h3,h4.trans h2⟩
section
variable {prog:aaA} {w:World} {K:Type} [DecidableEq K] (knd:KeyKind prog w K)
def ent (p:List K×Addr):Int×Value:=(aaP knd p.1,aaz p.2)
def SetT (G:Xx) (h:Heap) (a:Addr) (ks:List (List K)):Prop:= ∃(o:Obj) (es:Array (Int×Value)) (ep:Nat) (t:abb) (m:Nat) (kp:List (List K×Addr)) (L:Bool),h.get? a=some o/\o.ExactSet/\o.data= .set es ep t/\Tb L m t es/\Sz m es.size/\es.toList=kp.map (ent knd)/\(∀p∈kp,abp knd h p.1 p.2/\G p.2)/\(kp.map (·.1)).Perm ks/\ks.Nodup/\L=!w.params.followText "set-order"
variable {knd} {G:Xx} {A:aaU} {E:Xw} {s:aaf}
def WL {h h':Heap} {ks:List K} {a d:Addr} {o:Obj} {es:Array (Int×Value)} {ep:Nat} {t:abb} (x:abp knd h ks a) (ho:h.get? d=some o) (hd:o.data= .set es ep t) (hs:ab9 d h h'):abp knd h' ks a:=by
 obtain ⟨o',items,n,ho',hc,hd',hi⟩:=x
 have hne:a≠d:=by
  rintro rfl;obtain rfl:o'=o:=aaD (ho'.symm.trans ho);rw [hd] at hd';exact nomatch hd'
 exact ⟨o',items,n,(hs.2 a hne).trans ho',hc,hd',hi⟩
def Wi {h:Heap} {a:Addr} {o:Obj} {es:Array (Int×Value)} {ep:Nat} {t:abb} (ho:h.get? a=some o) (hd:o.data= .set es ep t) (es':Array (Int×Value)) (t':abb):
  (h.update a (ae0 es' t')).get? a=some {o with data:= .set es' (ep+1) t'}:=by
 have:=adR (ae0 es' t') ho (by rw [putSet_of es' t' hd];rfl);rw [putSet_of es' t' hd] at this;exact this
def vX {a:Addr} {o:Obj} {es:Array (Int×Value)} {ep:Nat} {t:abb} {m m' wanted:Nat} (ho:s.heap.get? a=some o) (hd:o.data= .set es ep t) (T:Tb L m t es) (hm:es.size<=m) (hw:acG wanted-1=m') (hz:acG wanted<=aaj) (C:Cyc m') (hm':es.size<=m') (hl:es.size<=aaj) {Q:Unit->aaf->Prop}
  (h: ∀es' t',Tb L m' t' es'->es'.toList.Perm es.toList->Q () {s with heap:=s.heap.update a (ae0 es' t')}):wpAny (model prog w) A (setRelay a wanted) Q E s:=by
 obtain ⟨t',order,e1,T',pm⟩:=VY T hw C hm';have hsz:(order.filterMap (es[·]?)).size=es.size:=by rw [←aar,pm.length_eq,aar]
 unfold setRelay;refine aab (abZ ho hd (T.fits hm) ?_);dsimp only;rw [if_neg (Nat.not_lt.mpr hz)];rw [e1];refine aab ?_;show wpAny _ _ (if (order.filterMap (es[·]?)).size !=es.size then _ else _) _ _ _;rw [hsz];simp;refine aad ?_;exact wpAny_storeSet_of ho hd (h _ _ T' pm) (by rw [hsz];exact hl)
def jcG (hu:A.units<cLine) {a:Addr} {ks:List (List K)} (hS:SetT knd G s.heap a ks) {k0:List K} {xa:Addr} (hx:abp knd s.heap k0 xa) (hg:G xa) (hn:ks.length<76) {Q:Bool->aaf->Prop}
   (h: ∀h' b,ab9 a s.heap h'->SetT knd G h' a (if k0∈ks then ks else ks++[k0])->Q b {s with heap:=h'}):wpAny (model prog w) A (setAddHashed a (.ref xa) (aaP knd k0)) Q E s:=by
 obtain ⟨o,es,ep,t,m,kp,L,ho,hex,hd,T,S,he,hk,pm,nd,ld⟩:=hS;have hf:=T.fits S.le.1;have hlen:es.size=ks.length:=by rw [←aar,he,aan,←pm.length_eq,aan]
 unfold setAddHashed setAddHashedIn;refine aa3 (aab (abZ ho hd hf ?_));dsimp only;have hbs:byScan (.ref xa) es=false:=rfl;rw [hbs];simp only [aaQ,if_false];obtain ⟨j0,hj0,hf0⟩:=T.free S.le.1;obtain ⟨N,hN2,hN,hb⟩:=QU S.cyc (aaP knd k0) (fun j=>j∈t.place.toList) hj0 hf0;unfold setSearch;refine aab (VP hu ho hd T S he (fun p hp=>(hk p hp).1) hx (fun hin=>?_) hN hb hN2 (fun hout=>?_) 100000 0 none (by have:=S.le;omega) (aa4 _) (by rw [aeL,vM,T.mask]) (fun q i p hq=>absurd hq (adD _)))
 · dsimp only;have hmem:=pm.mem_iff.mp hin;have:=h s.heap false (Heap.SameBut.refl a s.heap) (by rw [if_pos hmem];exact ⟨o,es,ep,t,m,kp,L,ho,hex,hd,T,S,he,hk,pm,nd,ld⟩);exact aad this
 · dsimp only;have hmem:k0∉ks:=fun z=>hout (pm.mem_iff.mpr z)
   refine aab (abZ ho hd hf ?_);dsimp only;have T1:=T.put (x:= .ref xa) rfl hN hb;generalize htp:t.put (at' m (aaP knd k0) N)=tp at T1 ⊢;obtain ⟨t1,p1⟩:=tp;dsimp only at T1 ⊢;generalize hes1:insertAt es p1 (aaP knd k0,aaz xa)=es1 at T1 ⊢
   have hperm1:es1.toList.Perm (es.toList++[(aaP knd k0,aaz xa)]):=by
     rw [←hes1];have:=adJ es p1 (aaP knd k0,aaz xa)
     rwa [aez] at this
   have hsz1:es1.size=es.size+1:=by rw [←aar,hperm1.length_eq,aaB,aar];rfl
   have hle:es1.size<=m:=by
     have:=S.le;rcases S with ⟨rfl,h⟩| ⟨rfl,h⟩| ⟨rfl,h⟩<;>omega
   have hline:es1.size<=aaj:=by rw [abD];have:=S.le;omega
   have keys: ∀(es2:Array (Int×Value)),es2.toList.Perm (es.toList++[(aaP knd k0,aaz xa)])-> ∃kp2:List (List K×Addr),es2.toList=kp2.map (ent knd)/\kp2.Perm (kp++[(k0,xa)]):=fun es2 p2=>by
     rw [he,show [(aaP knd k0,aaz xa)]=[(k0,xa)].map (ent knd) from rfl,←acO] at p2;exact uf p2 _ rfl
   have fin: ∀(h':Heap) (es2:Array (Int×Value)) (t2:abb) (m2 ep2:Nat),ab9 a s.heap h'->h'.get? a=some {o with data:= .set es2 ep2 t2}->Tb L m2 t2 es2->Sz m2 es2.size->es2.toList.Perm (es.toList++[(aaP knd k0,aaz xa)])->Q true {s with heap:=h'}:=fun h' es2 t2 m2 ep2 sb g T2 S2 p2=>by
     obtain ⟨kp2,e2,q2⟩:=keys es2 p2;refine h h' true sb ?_;rw [if_neg hmem];refine ⟨_,es2,ep2,t2,m2,kp2,L,g,hex,rfl,T2,S2,e2,fun p hp=>?_,?_,?_,ld⟩
     · rcases abr.mp (q2.mem_iff.mp hp) with z|z
       · exact ⟨WL (hk p z).1 ho hd sb,(hk p z).2⟩
       · rw [abS] at z;subst z;exact ⟨WL hx ho hd sb,hg⟩
     · exact (q2.map _).trans (by rw [acO];exact pm.append_right _)
     · exact adN.mpr ⟨nd,by simp,fun x hx' y hy e=>by rw [abS] at hy;subst hy;subst e;exact hmem hx'⟩
   have tail: ∀b:Bool,wpAny (model prog w) A (do
       storeSet a es1 {t1 with plain:=b}
       if (!false&&({t1 with plain:=b}:abb).tooFull)=true then do
          setRelay a (aes (es.size+1))
          pure true
         else pure true) Q E s:=fun b=>by
     refine aab (wpAny_storeSet_of ho hd ?_ hline);have g1:=Wi ho hd es1 {t1 with plain:=b};have sb1:=adi s.heap a (ae0 es1 {t1 with plain:=b})
     by_cases hfull:({t1 with plain:=b}:abb).tooFull=true
     · rw [hfull];simp
       have relay: ∀m',acG (aes (es.size+1))-1=m'->acG (aes (es.size+1))<=128->Sz m' es1.size->wpAny (model prog w) A (do
          setRelay a (aes (es.size+1))
          pure true) Q E {s with heap:=s.heap.update a (ae0 es1 {t1 with plain:=b})}:=fun m' hw hz S'=>by
         refine aab (vX g1 rfl (T1.led b) hle hw (by rw [abD];omega) S'.cyc S'.le.1 hline fun es2 t2 T2 p2=>?_);refine aad ?_;have hs2:es2.size=es1.size:=by rw [←aar,p2.length_eq,aar]
         exact fin _ es2 t2 m' _ (sb1.trans (adi _ a _)) (Wi g1 rfl es2 t2) T2 (by rw [hs2];exact S') (p2.trans hperm1)
       have hq:m*3<=(es.size+1)*5:=by
         unfold SetTable.tooFull SetTable.fill at hfull;have h1:=(T1.led b).dm;have h2:=(T1.led b).sz;have h3:=(T1.led b).mask;rw [h1,h2,h3,hsz1] at hfull;simpa using hfull
       rcases S with ⟨rfl,h4⟩| ⟨rfl,h4⟩| ⟨rfl,h4⟩
       · have h5:es.size=4:=by omega
         rw [hsz1,h5] at relay;rw [h5];exact relay 31 (by decide+kernel) (by decide+kernel) (.inr (.inl ⟨rfl,by omega⟩))
       · have h5:es.size=18:=by omega
         rw [hsz1,h5] at relay;rw [h5];exact relay 127 (by decide+kernel) (by decide+kernel) (.inr (.inr ⟨rfl,by omega⟩))
       · omega
     · rw [acy] at hfull;rw [hfull];simp;refine aad (fin _ es1 _ m _ sb1 g1 (T1.led b) ?_ hperm1)
       have hq: ¬m*3<=(es.size+1)*5:=by
         unfold SetTable.tooFull SetTable.fill at hfull;have h1:=(T1.led b).dm;have h2:=(T1.led b).sz;have h3:=(T1.led b).mask;rw [h1,h2,h3,hsz1] at hfull;simpa using hfull
       rw [hsz1];rcases S with ⟨rfl,h4⟩| ⟨rfl,h4⟩| ⟨rfl,h4⟩
       · exact .inl ⟨rfl,by omega⟩
       · exact .inr (.inl ⟨rfl,by omega⟩)
       · exact .inr (.inr ⟨rfl,by omega⟩)
   have t1e:({t1 with plain:=t1.plain}:abb)=t1:=rfl
   split
   · refine aab (X5 hx fun b=>?_)
     cases b with
     |true=>exact tail t1.plain
     |false=>exact tail false
   · refine aab (aad ?_);exact tail t1.plain
end
end Tab
end M
namespace M
open PySem
open PyProof.Rows
namespace Tab
variable {L:Bool}
def fstT {α:Type} [DecidableEq α] (val:Nat->α):Nat->List α
 |0=>[]
 |i+1=>if val i∈fstT val i then fstT val i else fstT val i++[val i]
section
variable {prog:aaA} {w:World} {K:Type} [DecidableEq K] {knd:KeyKind prog w K} {Gd:Xx}
def Jc {h h':Heap} {k:List K} {b:Addr} (x:abp knd h k b) (e: ∀o,h.get? b=some o->h'.get? b=some o):abp knd h' k b:=
 let ⟨o,i,n,h1,h2⟩:=x
 ⟨o,i,n,e o h1,h2⟩
def SetT.same {h h':Heap} {a:Addr} {ks:List (List K)} (x:SetT knd Gd h a ks) (e: ∀b o,(b=a\/Gd b)->h.get? b=some o->h'.get? b=some o):SetT knd Gd h' a ks:=by
 obtain ⟨o,es,ep,t,m,kp,L,ho,hex,hd,T,S,he,hk,pm⟩:=x;exact ⟨o,es,ep,t,m,kp,L,e a o (.inl rfl) ho,hex,hd,T,S,he,fun p hp=>⟨Jc (hk p hp).1 fun o=>e p.2 o (.inr (hk p hp).2),(hk p hp).2⟩,pm⟩
variable {A:aaU} {R:Result->aaf->Prop} {I:Addr} {fp wr:List Addr} {G:Array GenState->Array GenState->Prop} {n:Nat} {P:Nat->Value->Prop} {St:Nat->aaf->Prop}
def jeJ (W:WalksS prog w A.in1 I fp wr G n P St) (S:Addr) (hSf:S∉fp) (hu:A.in1.units<cLine) (val:Nat->List K) (hG: ∀b,Gd b->b≠S/\b∉wr) (hb: ∀i,i<n->(fstT val i).length<76):
  ∀(k i:Nat) (s:aaf),n-i=k->i<=n->St i s->SetT knd Gd s.heap S (fstT val i)->(∀i v,P i v-> ∃b,v= .ref b/\Gd b/\abp knd s.heap (val i) b)->
    (∀s',Moved (S::wr) G s s'->SetT knd Gd s'.heap S (fstT val n)->R (.ok (.ret .none)) s')->
    adw (model prog w) A (.builtin "set.update.loop" ⟨[.ref S,.ref I],[]⟩) R s:=by
 have hSw:S∉wr:=fun h=>hSf (W.sub _ h)
 have up: ∀b∈wr,b∈S::wr:=fun b z=>aat _ z
 have walk: ∀ {s s':aaf} {ks:List (List K)},Moved wr G s s'->SetT knd Gd s.heap S ks->SetT knd Gd s'.heap S ks:=fun hm x=>x.same fun b o hb e=>hm.heap b o (by rcases hb with rfl|hb;exact hSw;exact (hG b hb).2) e
 intro k
 induction k with
 |zero=>
  intro i s hk hi hst hS hK hR;obtain rfl:i=n:=by omega
  refine acP ada ?_;rw [aci abW _];refine aab (W.done s _ _ hst fun s' hm=>?_);exact aad (hR s' (hm.mono up) (walk hm hS))
 |succ k ih=>
  intro i s hk hi hst hS hK hR;have hlt:i<n:=by omega
  refine acP ada ?_;rw [aci abW _];refine aab (W.item i s _ _ hlt hst fun v s' hP hst' hm=>?_);obtain ⟨b,rfl,hGb,hkb⟩:=hK i v hP;have hkb':=Jc hkb fun o e=>hm.heap b o (hG b hGb).2 e
  refine aab (aa3 ?_);unfold setAdd;refine aa3 (aab (wpAny_pyHash_tuple hu hkb' ?_));have hS1:=walk hm hS;refine jcG (s:={s' with toks:=s'.toks+((val i).length+1)}) hu hS1 hkb' hGb (hb i hlt) fun h' bb hsb hS2=>?_
  have mv: ∀c o,c≠S->s'.heap.get? c=some o->h'.get? c=some o:=fun c o hc e=>by rw [hsb.2 c hc];exact e
  have hS3:SetT knd Gd h' S (fstT val (i+1)):=by
    rw [fstT]
    by_cases hm:val i∈fstT val i
    · rw [if_pos hm] at hS2 ⊢;exact hS2
    · rw [if_neg hm] at hS2 ⊢;exact hS2
  refine aad ⟨plainId_quiet abW _,ih (i+1) _ (by omega) hlt (W.frame _ s' _ _ hst' (ab8 _ _) fun c hc o e=>?_) hS3 (fun i' v' hP'=>?_) fun s'' hm'' hS''=>?_⟩
  · exact mv c o (fun z=>hSf (by rw [←z];exact hc)) e
  · obtain ⟨c,e,g,x⟩:=hK i' v' hP';exact ⟨c,e,g,Jc x fun o z=>mv c o (hG c g).1 (hm.heap c o (hG c g).2 z)⟩
  · refine hR s'' (Moved.trans W.gtrans ((hm.mono up).then_heap (ab8 _ _) fun c o hc e=>?_) hm'') hS'';exact mv c o (fun z=>hc (by rw [z];exact aay)) e
end
section
variable {prog:aaA} {w:World} {K:Type} [DecidableEq K] {knd:KeyKind prog w K} {A:aaU} {E:Xw} {s:aaf}
def Xv (a:Value) {Q₁:Xw}
  (h:Q₁ (.ref s.heap.objs.size) {s with heap:=s.heap.push {cls:= .type "set",dict:=none,data:= .set #[] 0 (.fresh 0 0 (!w.params.followText "set-order"))}}):
  adw (model prog w) A (.call (.builtin "set.__new__") ⟨[.type "set",a],[]⟩) (wants Q₁ E) s:=by
 refine codeAny_of_tree ?_;show wpAny _ A.in1 (checkBuiltinCall "set.__new__" ⟨[.type "set",a],[]⟩>>=fun _=>again (.builtin "set.__new__" ⟨[.type "set",a],[]⟩)) _ _ s;refine aab (wpAny_of_eq (PySem.F.newCall_set_1 a) (aad ⟨plainId_quiet PySem.F.plain_set_new _,acP PySem.F.entry_set_new ?_⟩));rw [aci PySem.F.plain_set_new _];unfold adf.«set.__new__» Builtin.Frozenset.newClass;have hsub:=PySem.sub_set_self;obtain ⟨hp,g,d,tk,os⟩:=s;dsimp only
 wp_walk
 refine ad0 (aad ?_);dsimp only;simp only [newObj];exact aab (wpAny_alloc (aad (aad h)))
def jdV {h:Heap} {a:Addr} {o:Obj} {led:Bool} {G:Xx} (ho:h.get? a=some o) (hx:o.ExactSet) (hd:o.data= .set #[] 0 (.fresh 0 0 led)) (hl:led=!w.params.followText "set-order"):SetT knd G h a []:=
 ⟨o, #[],0,_,7,[],led,ho,hx,hd,Tb.fresh led,.inl ⟨rfl,by decide⟩,rfl,(fun _ z=>by cases z),.refl _,.nil,hl⟩
def call_setT (hu:A.units+6<cLine) (hh:A.handled=none) {l:Addr} {items:Array Value} {val:Nat->List K} {Q:Xw} (hl:s.heap.IsList l items)
  (hi: ∀(i:Nat) v,items[i]?=some v-> ∃b,v= .ref b/\abp knd s.heap (val i) b) (hb: ∀i,i<items.size->(fstT val i).length<76)
  (h: ∀(h':Heap) (tk:Nat),SetT knd (fun b=>b<s.heap.objs.size/\aaz b∈items.toList) h' s.heap.objs.size (fstT val items.size)->(∀b o,b<s.heap.objs.size->s.heap.get? b=some o->h'.get? b=some o)->Q (.ref s.heap.objs.size) {s with heap:=h',toks:=tk}):
  wpAny (model prog w) A (call (.type "set") [.ref l]) Q E s:=by
 obtain ⟨c,tl,hmro⟩:=acQ.mro;have hmade:=acQ.made;have hsub:=acQ.sub;refine wpAny_call (codeAny_of_tree ?_);refine aad ⟨Code.quiet_builtin _ (by decide+kernel),acP F.entry_type_call ?_⟩;rw [Around.under_plain (weight_type_call_type "set" [.ref l] []) rfl];have h1:=acQ.notType;have h2:=acQ.canCreate;have hct:=F.typeCall_set_1 (.ref l)
 repeat (any_goals (first|assumption|wp_step))
 refine adj (Xv (.ref l) (E:=E) (Q₁:=fun obj s₁=> ∃led:Bool,(led=!w.params.followText "set-order")/\obj= .ref s.heap.objs.size/\s₁={s with heap:=s.heap.push {cls:= .type "set",dict:=none,data:= .set #[] 0 (.fresh 0 0 led)}}) ⟨_,rfl,rfl,rfl⟩) fun r s₁ hr=>?_
 cases r with
 |error e=>exact hr
 |ok fl=>
  cases fl with
  |ret obj=>
   obtain ⟨led,hled,rfl,rfl⟩:=hr;generalize hso:({cls:= .type "set",dict:=none,data:= .set #[] 0 (.fresh 0 0 led)}:Obj)=so;have hS:(s.heap.push so).get? s.heap.objs.size=some so:=aap _ (by rw [←hso];rfl);have hT:Shared.TypeIs {s with heap:=s.heap.push so} (.ref s.heap.objs.size) "set" :=⟨_,hS,by rw [←hso]⟩
   have hli:=acQ.init.lookup;have hbi:=acQ.init.bind (.ref s.heap.objs.size)
   repeat (any_goals (first|assumption|wp_step))
   refine adj (codeAny_call_builtin (R:=wants (fun r s₂=>r= .none/\ ∃h' tk,s₂={s with heap:=h',toks:=tk}/\
       SetT knd (fun b=>b<s.heap.objs.size/\aaz b∈items.toList) h' s.heap.objs.size (fstT val items.size)/\(∀b o,b<s.heap.objs.size->s.heap.get? b=some o->h'.get? b=some o)) E) acQ.init.plain F.entry_set_init (check_set_init_1 hT ?_)) fun r₂ s₂ hr₂=>?_
   · obtain ⟨ol,hol,hcl,nl,hdl⟩:=hl;obtain ⟨ocls,odict,odata,oslots⟩:=ol;simp only at hcl hdl;subst hcl;subst hdl;have hol':(s.heap.push so).get? l=some {cls:= .type "list",dict:=odict,data:= .seq items nl,slots:=oslots}:=aae _ hol;have hsls:=F.sub_list_set;have hslf:=F.sub_list_frozenset;have hne:(adK "list" ==adK "dict")=false:=by decide
     have hl1:(s.heap.push so).IsList l items:=⟨_,hol',rfl,nl,rfl⟩
     have hlt:=aao hol;have hsz:(s.heap.push so).objs.size=s.heap.objs.size+1:=adO _ _
     have hset:SetT knd (fun b=>b<s.heap.objs.size/\aaz b∈items.toList) ((s.heap.push so).push {cls:= .type "list_iterator",data:= .fields #[.ref l,.int 0 0]}) s.heap.objs.size []:=
       jdV (aae _ hS) (by rw [←hso];exact ⟨rfl,rfl,rfl⟩) (by rw [←hso]) hled
     subst hso;unfold adf.«set.__init__» noKeywords Builtin.Frozenset.updateFrom;generalize hPI:pyIter=PI
     wp_walk
     subst hPI;refine acX hl1 ?_;refine aab (wpAny_runValue ?_)
     refine jeJ ((Walks.list (show A.in1.in1.in1.handled=none by simp [hh]) _ l (by rw [hsz];exact aax (aeC hlt)) items).toS) s.heap.objs.size (by rw [hsz];simp only [aaJ,ad1,or_false,not_or];exact ⟨aax (acw _),Nat.ne_of_gt hlt⟩) (by simp;omega) val
       (fun b hb=>by rw [hsz];simp;exact ⟨aax hb.1,aax (aeC hb.1)⟩) hb (items.size-0) 0 _ rfl (aa4 _) ⟨⟨_,aap _ rfl,rfl,rfl⟩,hl1.push _⟩ hset (fun i v hv=>?_) fun s' hm hS'=>?_
     · obtain ⟨b,e,x⟩:=hi i v hv;refine ⟨b,e,?_,Jc x fun o z=>aae _ (aae _ z)⟩;obtain ⟨o,_,_,ho,_⟩:=x;refine ⟨aao ho,?_⟩;rw [←e];exact aa0 (by rw [aas];exact hv)
     · obtain ⟨h',g',d',tk',os'⟩:=s';have eg:=hm.gens;have ed:=hm.drawn;have eo:=hm.os;subst eg;subst ed;subst eo;refine aad (aad ⟨rfl,h',tk',rfl,hS',fun b o hb e=>?_⟩);refine hm.heap b o ?_ (aae _ (aae _ e));rw [hsz];simp;exact ⟨aax hb,aax (aeC hb)⟩
   · cases r₂ with
     |error e=>exact hr₂
     |ok fl₂=>
       cases fl₂ with
       |ret r=>
        obtain ⟨rfl,h',tk,rfl,hS',hk'⟩:=hr₂
        repeat (any_goals (first|assumption|wp_step))
        exact h _ _ hS' hk'
       |_=>exact hr₂.elim
  |_=>exact hr.elim
end
end Tab
end M
namespace M
open PySem PySem.W PyProof.Rows
namespace Tab
section
variable {prog:aaA} {w:World} {A:aaU} {E:Xw} {s:aaf}
theorem kM {α:Type}: ∀ {l:List α} {i:Nat} {x:α},l[i]?=some x->(x::l.eraseIdx i).Perm l
 | [],i,x,h=>by simp at h
 |a::l,0,x,h=>by simp at h;subst h;exact acB _
 |a::l,i+1,x,h=>by
  have ih:=kM (l:=l) (i:=i) (x:=x) (by simpa using h);rw [List.eraseIdx_cons_succ];exact (List.Perm.swap a x _).trans (ih.cons a)
theorem Zk {α:Type} (next:Nat->Nat): ∀(fuel k:Nat) (left:List α) (out:Array α),left.length<=fuel->(adT next fuel k left out).toList.Perm (out.toList++left)
 |0,k,left,out,h=>by
  cases List.length_eq_zero_iff.mp (Nat.le_zero.mp h);simp [adT]
 |fuel+1,k,[],out,h=>by simp [adT]
 |fuel+1,k,x::left,out,h=>by
  have hi:next k%(x::left).length< (x::left).length:=Nat.mod_lt _ (by simp);obtain ⟨y,hy⟩: ∃y,(x::left)[next k%(x::left).length]?=some y:=⟨_,aac hi⟩
  rw [adT,hy];dsimp only;refine (Zk next fuel (k+1) _ _ (by rw [List.length_eraseIdx_of_lt hi];simp at h ⊢;omega)).trans ?_;rw [aez,aa2];exact List.Perm.append_left _ (kM hy)
def pick_perm {α:Type} (next:Nat->Nat) (xs:Array α):(pickOrder next xs).toList.Perm xs.toList:=by
 have:=Zk next xs.size 0 xs.toList #[] (by simp);simpa [pickOrder] using this
variable {a:Addr} {es:Array (Int×Value)} {ep:Nat} {t:abb}
end
end Tab
end M
namespace M
open PySem PySem.Spec L2
open PyProof.Rows hiding St
def tksD:List D->Option (List (List Key))
 | []=>some []
 |d::r=>match keyT d,tksD r with
  |some k,some ks=>some (k::ks)
  |_,_=>none
def nT (ks:List (List Key)):Nat:=(Tab.fstT (fun i=>ks.getD i []) ks.length).length
theorem J2 {α:Type} [DecidableEq α] (val:Nat->α): ∀i,(Tab.fstT val i).length<=i
 |0=>aah _
 |i+1=>by
  have:=J2 val i;unfold Tab.fstT;split
  · omega
  · rw [aaB];simp;omega
theorem ZN {α:Type} [DecidableEq α] (val:Nat->α): ∀i x,x∈Tab.fstT val i↔ ∃j,j<i/\val j=x
 |0,x=>by simp [Tab.fstT]
 |i+1,x=>by
  have ih:=ZN val i
  have h1:x∈Tab.fstT val (i+1)↔x∈Tab.fstT val i\/x=val i:=by
    rw [Tab.fstT]
    by_cases h:val i∈Tab.fstT val i
    · rw [if_pos h];exact ⟨.inl,fun z=>z.elim id fun e=>e▸h⟩
    · rw [if_neg h];simp
  rw [h1,ih]
  constructor
  · rintro (⟨j,a,b⟩|rfl)
    · exact ⟨j,by omega,b⟩
    · exact ⟨i,by omega,rfl⟩
  · rintro ⟨j,a,rfl⟩
    by_cases e:j=i
    · subst e;exact .inr rfl
    · exact .inl ⟨j,by omega,rfl⟩
def uG {ks:List (List Key)} (h:ks.Nodup):nT ks=ks.length:=by
 unfold nT
 suffices hs: ∀i,i<=ks.length->(Tab.fstT (fun i=>ks.getD i []) i).length=i from hs _ (aah _)
 intro i
 induction i with
 |zero=>intro _;rfl
 |succ i ih=>
  intro hi
  have hn:ks.getD i []∉Tab.fstT (fun i=>ks.getD i []) i:=fun z=>by
   obtain ⟨j,a,b⟩:=(ZN _ _ _).mp z;rw [abo,abo,aac (by omega),aac (by omega)] at b;have:=(List.getElem_inj h).mp b;omega
  rw [Tab.fstT,if_neg hn,aaB,ih (by omega)];rfl
def jeI {ks:List (List Key)} (h: ¬ks.Nodup):nT ks<ks.length:=by
 unfold nT
 suffices hs: ∀i,i<=ks.length->(Tab.fstT (fun i=>ks.getD i []) i).length=i->(ks.take i).Nodup by
  refine aem (J2 _ _) fun e=>h ?_
  have:=hs _ (aah _) e
  rwa [List.take_length] at this
 intro i
 induction i with
 |zero=>intro _ _;simp
 |succ i ih=>
  intro hi e;rw [Tab.fstT] at e
  split at e
  · have:=J2 (fun i=>ks.getD i []) i;omega
  · rename_i hn;rw [aaB] at e;have h1:=ih (by omega) (by simpa using e);rw [List.take_succ,aac (by omega)];refine adN.mpr ⟨h1,by simp,fun x hx y hy=>?_⟩;rintro rfl;simp at hy;obtain ⟨j,hj⟩:=abj.mp hx
    have hji:j<i:=by
     have:=(aam.mp hj).1;simp at this;omega
    rw [acm hji] at hj;refine hn ((ZN _ _ _).mpr ⟨j,hji,?_⟩);rw [abo,abo,hj,aac (by omega),←hy]
def KyV (H:Hp) (x:V) (k:List Key):Prop:= ∃b,x= .ref b/\H b=some (.tup (k.map kV))
theorem Vv {K:aaa} {A:Xx} {H:Hp}: ∀ {vs:List V} {ds:List D} {ks:List (List Key)},Reps K A H vs ds->tksD ds=some ks->F2 (KyV H) vs ks
 |_,_,ks,.nil,h=>by cases h;exact .nil
 |_,_,ks,.cons (d:=d) (ds:=ds) r t,h=>by
  unfold tksD at h
  cases e1:keyT d with
  |none=>rw [e1] at h;cases h
  |some k=>
   cases e2:tksD ds with
   |none=>rw [e1,e2] at h;cases h
   |some r'=>
    rw [e1,e2] at h;cases h;exact .cons (Jd r e1) (Vv t e2)
def LenO (o:Obj) (n:Nat):Prop:=o.ExactSet/\ ∃(es:Array (Int×Value)) (ep:Nat) (t:abb),o.data= .set es ep t/\t.fits es.size=true/\es.size=n/\n<=76
section
variable {X:Cx}
theorem UZ {pins:List (Addr×Obj)} {σ:L2.St} {H:Hp} {s:aaf} (I:Inv X pins σ H s): ∀ {ys:List V} {its:List Value} {ks:List (List Key)},Vals ys its->F2 (KyV H) ys ks-> ∀(i:Nat) v,its[i]?=some v-> ∃b,v= .ref b/\abp (jE X.prog X.w) s.heap (ks.getD i []) b
 |_,_,_,.nil,.nil,i,v,h=>by simp at h
 |_,_,_,.cons r rs,.cons x xs,0,v,h=>by
  obtain ⟨b,rfl,hb⟩:=x;simp at h;subst h;cases r;exact ⟨b,rfl,WK I.hok hb⟩
 |_,_,_,.cons r rs,.cons x xs,i+1,v,h=>by
  simpa using UZ I rs xs i v (by simpa using h)
def vx (hc:X.calm=true) (hu:X.A.units+200<cLine):CallR X (.type "set") (fun xs H Q=> ∃p us ks,xs=[.ref p]/\SqL X.K H p us/\F2 (KyV H) us ks/\ks.length<=76/\ ∀l o,H l=none->LenO o (nT ks)->Q (.ref l) (upd H l (.frz o (.own l)))):=by
 rintro pins s σ H xs us Q I r ⟨p,vs,ks,ex,hq,hk,hz,q⟩;subst ex;obtain ⟨u,rfl,ru⟩:=xm r;cases ru;obtain ⟨its,rv,pl,_⟩:=I.list hq;have hlen:its.toArray.size=ks.length:=by rw [aag,←rv.length,hk.length]
 refine Tab.call_setT (by omega) (I.ok.hd hc) pl.isList (fun i v h=>UZ I rv hk i v (by simpa using h)) (fun i hi=>ael (J2 _ i) (by omega)) fun h' tk hS hkp=>?_
 have hl:=I.hok.fresh (aah _);rw [hlen] at hS;obtain ⟨o,es,ep,t,m,kp,L,ho,hex,hd,T,S,he,hkk,pm,nd,ld⟩:=hS
 have hsz:es.size=nT ks:=by
  rw [←aar,he,aan];have:=pm.length_eq;rw [aan] at this;rw [this];rfl
 have hn:nT ks<=76:=aaN (J2 _ _) hz;exact ⟨.ref s.heap.objs.size,_,I.laid (fun b o e=>hkp b o (aao e) e) (aah _) (show ObjOk X.prog X.w _ h' _ (.frz o (.own _)) from ⟨ho,o,ho⟩),rfl,q _ o hl ⟨hex,es,ep,t,hd,T.fits S.le.1,hsz,hn⟩⟩
def vz:CallR X (.builtin "len") (fun xs H Q=> ∃a b o n,xs=[.ref a]/\H a=some (.frz o (.own b))/\LenO o n/\Q (.int n) H):=by
 rintro pins s σ H xs us Q I r ⟨a,b,o,n,ex,ha,⟨hx,es,ep,t,hd,hf,hn,h76⟩,q⟩;subst ex;obtain ⟨u,rfl,ru⟩:=xm r;cases ru;obtain ⟨ho,_⟩:=(show ObjOk X.prog X.w H s.heap a (.frz o (.own b)) from I.hok a _ ha)
 subst hn;exact call_len_set ho hx hd hf (by omega) ⟨.int es.size,H,I.tok _,⟨_,rfl⟩,q⟩
def QJ:D->Res D
 | .lst ds=>match tksD ds with
  |some ks=>must (ks.length<=76) (.ok (.int (nT ks)))
  |none=> .stuck
 |_=> .stuck
def QI {a d:D} (h:QJ a= .ok d): ∃ds ks,a= .lst ds/\tksD ds=some ks/\ks.length<=76/\d= .int (nT ks):=by
 unfold QJ at h
 split at h
 · rename_i ds
   split at h
   · rename_i ks e;obtain ⟨h1,h2⟩:=jl h;cases h2;exact ⟨ds,ks,rfl,e,h1,rfl⟩
   · cases h
 · cases h
variable {l1:Lv} {e1:Expr} {f1:TL} {p1 p3 q1 q3:Pos}
end
section
variable {X:Cx} {K:aaa}
def jc6:R2:=fun x y H Q=> ∃a kvs b k,y= .ref a/\H a=some (.dT kvs)/\x= .ref b/\H b=some (.tup (k.map kV))/\Q (.bl (!(valV kvs k).isSome)) H
def jbw (hu:X.A.units+1<cLine):OpR X (abg .NotIn) jc6:=by
 rintro pins s σ H x y v u Q I rx ry ⟨a,kvs,b,k,ey,ha,ex,hb,q⟩;subst ey;subst ex;obtain rfl:u=aaz a:=ry;exact jco hu I (DGet.t ha hb) rx fun s' I'=>⟨.bl _,H,I',rfl,q⟩
def ninT:D->D->Res D
 |kd,.dit ks _=>match keyT kd with
  |some k=> .ok (.bl (!hasT ks k))
  |none=> .stuck
 |_,_=> .stuck
def jbD:OpS K jc6 ninT:=by
 intro x y H a b d Q ra rb e q;unfold ninT at e
 split at e
 · obtain ⟨p,kvs,rfl,hp,_,rfl,r⟩:=rb.ditE
   split at e
   · rename_i k hk;cases e;obtain ⟨b',rfl,hb⟩:=Jd ra hk;refine ⟨p,kvs,b',k,rfl,hp,rfl,hb,?_⟩;rw [←Q9,Kl];exact q _ (jfd _)
   · cases e
 · cases e
variable {a b:Expr} {f1 f2:TL} {l2:Lv} {pos p:Pos}
end
def tSOX (X:Cx) (i:Nat) (g:Sl->Res OutO):TS:=fun E σ H=> ∃G H0 env a,EnvOk X.K G H0 env σ H/\At σ i a/\((∃o,g env= .ok o/\jax X.K G H0 i a env σ H E o)\/ ∃c,g env= .exc c/\Thr X c H)
@[irreducible] def DSOX (X:Cx) (i:Nat) (st:Stmt) (g:Sl->Res OutO):Prop:=PS X st (tSOX X i g)
@[irreducible] def Yl (X:Cx) (i:Nat) (st:List Stmt) (g:Sl->Res OutO):Prop:=PSs X st (tSOX X i g)
theorem Thr.grow {X:Cx} {c:Str} {H H':Hp} (s:Same H H') (th:Thr X c H):Thr X c H':=⟨fun pins σ H1 s1 h e C vs sm=>th.a pins σ H1 s1 h e C vs (s.trans sm),fun σ H1 sm=>th.b σ H1 (s.trans sm)⟩
def W5 (g:Sl->Res OutO):Sl->Res OutO:=fun env=>nx1 (g env)
section
variable {X:Cx} {i:Nat} {c0:Expr} {st:Stmt} {rest body orelse:List Stmt} {pos:Pos} {g g1 g2:Sl->Res OutO} {c:Str}
def DSsO.x {sts:List Stmt} (h:DSsO X i sts g):Yl X i sts (W5 g):=by
 with_unfolding_all exact (PSs.imp h fun E σ H=>by
  rintro ⟨G,H0,env,a,k,ha,q⟩;rcases q with ⟨o,e1,q⟩| ⟨c,e1,_⟩
  · exact ⟨G,H0,env,o,a,k,ha,WC e1,q⟩
  · exact (XW e1).elim)
def QV (h1:DSOX X i st g1) (h2:DSsO X i rest g2):Yl X i (st::rest) (seqJ g1 (W5 g2)):=by
 with_unfolding_all exact (PSs.imp (Zi h1 h2) fun E σ H=>by
  rintro ⟨G,H0,env,a,k,ha,q⟩;rcases q with ⟨o,ef,q⟩| ⟨c,ef,th⟩
  · obtain ⟨o1,e1,e2⟩:=jc ef;refine ⟨G,H0,env,a,k,ha,.inl ⟨o1,e1,?_⟩⟩
    cases o1 with
    |nx env1=>exact fun σ' H' k' a' f'=>⟨G,H0,env1,o,a,k',a',WC e2,Zo f' q⟩
    |rt b env1=>cases e2;exact q
  · rcases Kj ef with e1| ⟨o1,e1,e2⟩
    · exact ⟨G,H0,env,a,k,ha,.inr ⟨c,e1,th⟩⟩
    · cases o1 with
      |nx env1=>exact (XW e2).elim
      |rt b env1=>cases e2)
def WW (h1:DSOX X i st g1):Yl X i [st] g1:=by
 with_unfolding_all exact (PSs.imp (Jw h1) fun E σ H q=>q)
def ifJX (t:TK) (g1 g2:Sl->Res OutO):Sl->Res OutO:=fun env=>match t env with
 | .ok b=>if b=true then g1 env else g2 env
 |_=> .stuck
def kT {t:TK} (hc:DT X c0 t) (h1:Yl X i body g1) (h2:Yl X i orelse g2):DSOX X i (.If c0 body orelse pos) (ifJX t g1 g2):=by
 with_unfolding_all exact (PS.imp (jbp hc h1 h2) fun E σ H=>by
  rintro ⟨G,H0,env,a,k,ha,q⟩;have key: ∃b,t env= .ok b/\ifJX t g1 g2 env=if b=true then g1 env else g2 env:=by
   cases e1:t env with
   |ok b=>exact ⟨b,rfl,by unfold ifJX;rw [e1]⟩
   |_=>
     have z:ifJX t g1 g2 env= .stuck:=by unfold ifJX;rw [e1]
     rcases q with ⟨o,ef,_⟩| ⟨c,ef,_⟩<;>(rw [z] at ef;cases ef)
  obtain ⟨b,e1,e2⟩:=key;rw [e2] at q;refine ⟨G,H0,env,b,k,e1,fun H' s=>?_⟩
  cases b with
  |true=>
   rw [if_pos rfl] at q ⊢;rcases q with ⟨o,ef,q⟩| ⟨c,ef,th⟩
   · exact ⟨G,H0,env,a,k.grow s,ha,.inl ⟨o,ef,Zo (Frm.refl s) q⟩⟩
   · exact ⟨G,H0,env,a,k.grow s,ha,.inr ⟨c,ef,th.grow s⟩⟩
  |false=>
   rw [if_neg aaC] at q ⊢;rcases q with ⟨o,ef,q⟩| ⟨c,ef,th⟩
   · exact ⟨G,H0,env,a,k.grow s,ha,.inl ⟨o,ef,Zo (Frm.refl s) q⟩⟩
   · exact ⟨G,H0,env,a,k.grow s,ha,.inr ⟨c,ef,th.grow s⟩⟩)
def Ub (c:Str):Sl->Res OutO:=fun _=> .exc c
def QW {C:Addr} {bm:List Value} {B newId initId:String} {e₀:Expr} {l:Lv} {np cpos:Pos} {f:TL} (hC:NmC X.K c C) (hm:X.mg c=some (.ref C)) (hq:abL X.K C bm newId=true) (FB:ExcBaseFacts B newId initId bm)
    (ha:DE X l e₀ f) (hok: ∀env,∃d,f env= .ok d) (hcalm:X.calm=true:=by rfl) (hg:Gl X c:=by rfl) (hdb:Yx c:=by decide)
    (he:aai [e₀] X.env=(false,eval e₀ X.env)::aai [] X.env:=by exact ji rfl):
    DSOX X i (.Raise (some (.Call (.Name c np) [e₀] [] cpos)) none pos) (Ub c):=by
 with_unfolding_all exact (fun pins s σ H E I ⟨G,H0,env,a,k,_,q⟩=>by
  rcases q with ⟨o,ef,_⟩| ⟨c',ef,th⟩
  · cases ef
  cases ef
  exact QF hC hm hq FB ha hok hcalm hg hdb he I k th.a)
end
def spJX (K:aaa) (n:Nat) (F:FO):Sp:=fun vs H Q E=> ∃(B:Xx) (ds:List D) (us:List V) (a:Addr) (d0:D),vs=V.ref a::us/\us.length=n/\Reps K (fun c=>B c/\c≠a) H us ds/\Top K (fun c=>B c/\c≠a) H a d0/\
 ((∃r d1,F d0 ds= .ok (r,d1)/\ ∀v H',(∀c o,c≠a->H c=some o->H' c=some o)->Top K (fun c=>(H c=none\/B c)/\c≠a) H' a d1->Rep K (fun c=>(H c=none\/B c)/\c≠a) H' v r->Q v H')\/
  ∃c,F d0 ds= .exc c/\ ∀C H',NmC K c C->Same H H'->E (.ref C) none H')
def Jr (N n:Nat) (g:Sl->Res OutO):FO:=fun d0 ds=>if ds.length=n then (match g (zu N d0 ds) with
 | .ok (.nx env)=>(match yX env with| .ok d=> .ok (.non,d)|_=> .stuck)
 | .ok (.rt r env)=>(match yX env with| .ok d=> .ok (r,d)|_=> .stuck)
 | .exc c=> .exc c
 | .stuck=> .stuck) else .stuck
section
variable {P:aaA} {w:World} {K:aaa} {mg:Xy} {base:Heap}
def jbZ {m qual:Str} {st:Stmt} {f:Addr} {fd:abK} {N ps:List Str} {k n:Nat} {g:Sl->Res OutO} (Fu:Fun K m qual st f fd) (S:FnScope N ps (jf st)) (hn:ps.length=n+1) (hN:n+1<=N.length)
   (hb: ∀(cdv:Value) (A:aaU) (outer:List Env) (s:aaf) (H:Hp) (E:XK),Room k (A.deeper (adx qual (jf st) s.heap.objs.size f cdv))->Yl (cxOf (CX1 P w) P w K mg base N qual (jf st) f cdv A outer s H E) 0 (jY st) g):
   FnOk P w K mg base (CX1 P w) (k+1) f fd ps (spJX K n (Jr N.length n g)):=by
 with_unfolding_all exact (by
 obtain ⟨oc,od,kV,doc,pm,an,cdv,ct,osl,rfl,lk,hcd⟩:=Fu.ex;refine jb1 lk hcd S (fun vs H Q E ⟨B,ds,us,a,d0,ev,hl,_⟩=>by rw [ev,aaF,hl,hn]) fun A outer s H vs Q E hr h=>?_
 obtain ⟨B,ds,us,a,d0,ev,hl,rs,t,q⟩:=h;refine ⟨_,hb cdv A outer s H E hr,?_⟩;subst ev;have hlen:ds.length=n:=by rw [←rs.length];exact hl
 obtain ⟨kk,hat⟩:=K7 (N:=N) rs t (by omega)
 have ne:Jr N.length n g d0 ds=(match g (zu N.length d0 ds) with
   | .ok (.nx env)=>(match yX env with| .ok d=> .ok (.non,d)|_=> .stuck)
   | .ok (.rt r env)=>(match yX env with| .ok d=> .ok (r,d)|_=> .stuck)
   | .exc c=> .exc c
   | .stuck=> .stuck):=if_pos hlen
 rcases q with ⟨r,d1,eF,q⟩| ⟨c,eF,q⟩
 · have fin: ∀(env':Sl) (σ':L2.St) (H':Hp) (v:V),EnvOk K (fun c=>H c=none\/c=a\/B c) (fun c=>if c=a then none else H c) env' σ' H'->At σ' 0 a->yX env'= .ok d1->Rep K (Sf (fun c=>H c=none\/c=a\/B c) env' σ') H' v r->Q v H':=fun env' σ' H' v k' a' e2 rv=>by
    have hi:=VO e2;obtain ⟨a2,h1,_,t2⟩:=k'.own 0 _ hi;rw [a'] at h1;cases h1
    have ww: ∀c,Sf (fun c=>H c=none\/c=a\/B c) env' σ' c->(H c=none\/B c)/\c≠a:=fun c z=>by
     have hca:c≠a:=by
       rintro rfl;exact z.1 ⟨0,_,hi,a'⟩
     refine ⟨?_,hca⟩;rcases z.2 with z|z|z
     · exact .inl z
     · exact absurd z hca
     · exact .inr z
    exact q v H' (fun c o hc e=>k'.base c o (by rw [if_neg hc];exact e)) (t2.stay (fun _ _ e _=>e) ww fun _ e=>e) (rv.weak ww)
   rw [ne] at eF
   cases e1:g (zu N.length d0 ds) with
   |exc c=>rw [e1] at eF;cases eF
   |stuck=>rw [e1] at eF;cases eF
   |ok o=>
    rw [e1] at eF;refine ⟨_,_,_,a,kk,hat,.inl ⟨o,e1,?_⟩⟩
    cases o with
    |nx env'=>
     cases e2:yX env' with
     |ok d=>simp only [e2] at eF;cases eF;exact fun σ' H' k' a' f'=>fin env' σ' H' .non k' a' e2 .non
     |exc c=>simp only [e2] at eF;cases eF
     |stuck=>simp only [e2] at eF;cases eF
    |rt r' env'=>
     cases e2:yX env' with
     |ok d=>simp only [e2] at eF;cases eF;exact fun v σ' H' k' a' f' rv=>fin env' σ' H' v k' a' e2 rv
     |exc c=>simp only [e2] at eF;cases eF
     |stuck=>simp only [e2] at eF;cases eF
 · rw [ne] at eF
   have e1:g (zu N.length d0 ds)= .exc c:=by
    cases e1:g (zu N.length d0 ds) with
    |exc c'=>rw [e1] at eF;cases eF;rfl
    |stuck=>rw [e1] at eF;cases eF
    |ok o=>
     rw [e1] at eF
     cases o with
     |nx env'=>cases e2:yX env'<;>(simp only [e2] at eF;cases eF)
     |rt r' env'=>cases e2:yX env'<;>(simp only [e2] at eF;cases eF)
   refine ⟨_,_,_,a,kk,hat,.inr ⟨c,e1,fun pins σ H1 s1 h e C vs sm hC I hx=>QK I hx (q C H1 hC sm),fun σ H1 sm pins H2 s1 e s' sm2 I cx=>YK I cx fun C H' z=>?_⟩⟩;obtain ⟨C',e',hC,s3⟩:=z;cases e'
   exact q C H' hC (sm.trans (sm2.trans s3)))
end
structure AvKX (P:aaA) (w:World) (K:aaa) (mg:Xy) (base:Heap) (k:Nat) (c:Str) (n:Nat) (F:FO):Prop where
 ex: ∃C f fd ps,FnOk P w K mg base (CX1 P w) k f fd ps (spJX K n F)/\aal K aak c=some (some (.ref C))/\mg c=some (.ref C)/\Mk K C f/\Binds K fd ps []
def zl (c:Str) (n:Nat) (F:FO) (g:TH):Sl->Res D:=fun env=>match g env with
 | .ok ds=>if ds.length=n then (match F (.obj c [] []) ds with
  | .ok (.non,d)=> .ok d
  | .exc c=> .exc c
  |_=> .stuck) else .stuck
 |_=> .stuck
section
variable {X:Cx} {k n:Nat} {c:Str} {F:FO} {e:Expr} {es:List Expr} {pos p:Pos} {g:TH}
def VT {CX:CXT} {C f:Addr} {fd:abK} {ps:List Str} {sp:Sp} {pins:List (Addr×Obj)} {σ:L2.St} {H:Hp} {s:aaf} {Q:VK} {us:List Value} {vs:List V} (M:Mk X.K C f) (F:FnOk X.prog X.w X.K X.mg X.base CX k f fd ps sp) (hr:Room (k+1) X.A) (hb:Binds X.K fd ps [])
  (I:Inv X pins σ H s) (r:Vals vs us)
  (h: ∀x dx,H x=none->H dx=none->dx≠x-> ∃E,sp (.ref x::vs) (upd (upd H dx (.own x)) x (.ins C dx [])) (fun v H2=>v= .non/\Q (.ref x) H2) E/\ ∀s2 e s',Inv X pins σ (upd (upd H dx (.own x)) x (.ins C dx [])) s2->CX X.stack (upd (upd H dx (.own x)) x (.ins C dx [])) s2 E e s'->X.xe e s'):
  wpAny (model X.prog X.w) X.A (call (.ref C) us) (EP X pins σ Q) X.xe s:=by
 obtain ⟨E,hq,hx⟩:=h (s.heap.objs.size+1) s.heap.objs.size (I.hok.fresh (acN _)) (I.hok.fresh (aah _)) (aax (acw _));have I2:=Inv.made (C:=C) I;have r2:Vals (V.ref (s.heap.objs.size+1)::vs) (aaz (s.heap.objs.size+1)::us):= .cons rfl r
 have hl:(aaz (s.heap.objs.size+1)::us++[]).length=ps.length:=by
  have e:=r2.length;rw [F.len _ _ _ _ hq] at e;rw [abq];exact e.symm
 have hb':=hb _ (aaz (s.heap.objs.size+1)::us) I2.kIn hl;rw [abq] at hb'
 refine wpAny_call (uH (f:=f) I.kIn M.makes M.init (beq_iff_eq.mp M.fn) (adj (F.run _ X.stack _ _ ⟨aaz (s.heap.objs.size+1)::us,[]⟩ (aaz (s.heap.objs.size+1)::us) _ _ E (hr.make C us [])
  (I2.env0.make C us []) hb' r2 hq) fun r s' hq'=>?_))
 cases r with
 |error e=>exact hx _ e s' I2 hq'
 |ok fl=>
  cases fl with
  |ret u=>
   obtain ⟨v,H',I3,rv,ev,q3⟩:=I2.after hq';subst ev;exact ⟨rv,⟨V.ref (s.heap.objs.size+1),H',I3,rfl,q3⟩⟩
  |next=>exact abC hq'
  |brk=>exact abC hq'
  |cont=>exact abC hq'
def AvKX.make (A:AvKX X.prog X.w X.K X.mg X.base k c n F) (hr:Room (k+1) X.A) (ha:DA X .s (e::es) g) (hg:Gl X c:=by rfl) (hdb:Yx c:=by decide)
   (he:Wm X e es:=by exact ji rfl) (hpl:Wl X pos es:=by exact jx rfl):
   DEX X .t (.Call (.Name c p) (e::es) [] pos) (zl c n F g):=by
 obtain ⟨C,f,fd,ps,h1,h2,h3,h4,h5⟩:=A.ex
 with_unfolding_all exact (by
 rintro pins s σ H Q I ⟨G,H0,env,k,q⟩
 have ns:zl c n F g env≠ .stuck:=by
   intro z;rcases q with ⟨o,ef,_⟩| ⟨c,ef,_⟩<;>(rw [z] at ef;cases ef)
 have key: ∃ds,g env= .ok ds/\ds.length=n/\zl c n F g env=(match F (.obj c [] []) ds with
   | .ok (.non,d)=> .ok d
   | .exc c=> .exc c
   |_=> .stuck):=by
   cases e1:g env with
   |ok ds=>
     by_cases hl:ds.length=n
     · exact ⟨ds,rfl,hl,by unfold zl;rw [e1];exact if_pos hl⟩
     · exact absurd (by unfold zl;rw [e1];exact if_neg hl) ns
   |_=>exact absurd (by unfold zl;rw [e1]) ns
 obtain ⟨ds,e1,hl,e2⟩:=key;rw [e2] at q;refine acF (xA I hg h3 ?_ hdb);refine aek (h₀:=X.base) I.ok.mod.kin h4.kp (thn ((show PA X (e::es) (tA X.K .s g) from ha) pos pins s σ H (fun vs H1=>Same H H1/\Reps X.K (Sf G env σ) H1 vs ds) I ⟨G,H0,env,ds,k,e1,fun vs H' s' r'=>⟨s',r'⟩⟩) fun us s1 ⟨vs,H1,I1,r,s1',r1⟩=>⟨I1.kIn,?_⟩) he hpl;refine VT h4 h1 hr h5 I1 r fun x dx hx hdx ne=>?_
 have S:Same H1 (upd (upd H1 dx (.own x)) x (.ins C dx [])):=fun b o eb=>by
   rw [jp (jC eb hx),jp (jC eb hdx)];exact eb
 have kx:=k.new x (Same.free s1' hx);have rr:=r1.inDom.grow S
 have base: ∀Rest,Rest->(vs.length=n/\Reps X.K (fun b=>Sf G env σ b/\b≠x) (upd (upd H1 dx (.own x)) x (.ins C dx [])) vs ds/\Top X.K (fun b=>Sf G env σ b/\b≠x) (upd (upd H1 dx (.own x)) x (.ins C dx [])) x (.obj c [] [])/\Rest):=fun Rest hR=>
   ⟨by rw [r1.length];exact hl,rr.weak fun b z=>⟨z.1,by rintro rfl;exact z.2 hx⟩,.obj jj ⟨h2,rfl⟩ rfl .nil,hR⟩
 rcases q with ⟨d,ef,q⟩| ⟨c',ef,th⟩
 · have eF:F (.obj c [] []) ds= .ok (.non,d):=by
     cases e3:F (.obj c [] []) ds with
     |ok p=>
       obtain ⟨r0,d1⟩:=p;rw [e3] at ef;cases r0<;>first| (cases ef;rfl)|cases ef
     |exc c=>rw [e3] at ef;cases ef
     |stuck=>rw [e3] at ef;cases ef
   refine ⟨fun _ _ _=>False,⟨Sf G env σ,ds,vs,x,.obj c [] [],rfl,base _ (.inl ⟨.non,d,eF,fun v H' hs t rv=>⟨rv.nonE,?_⟩⟩)⟩,fun s2 e s' _ cx=>?_⟩
   · have sH:Same H H':=fun b o eb=>hs b o (jC (s1' b o eb) hx) (S b o (s1' b o eb))
     refine q _ H' sH (t.rep (fun b z=>⟨z.1.elim (fun z=>k.new b (Same.free s1' (Same.free S z))) fun z=>z,z.2⟩) kx) fun b eb o qb m=>?_
     cases eb;rw [s1' _ _ qb] at hx;cases hx
   · obtain ⟨_,_,_,_,_,_,_,_,_,_,_,_,_,z⟩:=cx;exact z.elim
 · have eF:F (.obj c [] []) ds= .exc c':=by
     cases e3:F (.obj c [] []) ds with
     |ok p=>
       obtain ⟨r0,d1⟩:=p;rw [e3] at ef;cases r0<;>cases ef
     |exc c=>rw [e3] at ef;cases ef;rfl
     |stuck=>rw [e3] at ef;cases ef
   refine ⟨XE X.K c' (upd (upd H1 dx (.own x)) x (.ins C dx [])),⟨Sf G env σ,ds,vs,x,.obj c [] [],rfl,base _ (.inr ⟨c',eF,fun C2 H' hC s'=>⟨C2,rfl,hC,s'⟩⟩)⟩,fun s2 e s' I2 cx=>th pins _ s2 e s' (s1'.trans S) I2 cx⟩)
end
section
variable {P:aaA} {w:World} {K:aaa} {mg:Xy} {base:Heap}
def vC {c q:Str} {st:Stmt} {C:Addr} {N ps:List Str} {k n:Nat} {g:Sl->Res OutO} (d:Dm K C "__init__" q st ps) (hC:aal K aak c=some (some (.ref C))/\Cls K C) (hmg:mg c=some (.ref C)) (mk:abP K C=true/\aaX K (.ref C)=true) (S:FnScope N ps (jf st)) (hn:ps.length=n+1) (hN:n+1<=N.length)
  (hb: ∀(f:Addr) (cdv:Value) (A:aaU) (outer:List Env) (s:aaf) (H:Hp) (E:XK),Room k (A.deeper (adx q (jf st) s.heap.objs.size f cdv))->Yl (cxOf (CX1 P w) P w K mg base N q (jf st) f cdv A outer s H E) 0 (jY st) g):
  AvKX P w K mg base (k+1) c n (Jr N.length n g):=by
 obtain ⟨f,fd,F,m,B⟩:=d;exact ⟨C,f,fd,ps,jbZ F S hn hN (hb f),hC.1,hmg,⟨mk.1,m.at_,m.fn,mk.2⟩,B⟩
end
mutual
def noS:D->Bool
 | .scr _=>false
 | .tup ds=>noSs ds
 | .lst ds=>noSs ds
 | .dic _ ds=>noSs ds
 | .dit _ ds=>noSs ds
 | .fdc _ ds=>noSs ds
 | .hdc _ ds=>noSs ds
 | .obj _ _ ds=>noSs ds
 |_=>true
def noSs:List D->Bool
 | []=>true
 |d::r=>noS d&&noSs r
end
section
variable {K:aaa} {o:Obj} {ys:List V} {p:Addr}
def Reps.thaw {A:Xx} {H:Hp} {vs:List V} {ds:List D} (r:Reps K A H vs ds):H p=some (.frz o (.lst ys))->noSs ds=true->Reps K (fun c=>A c/\c≠p) (upd H p (.lst ys)) vs ds:=by
 have sw: ∀ {A:Xx} {a:Addr} {H:Hp} {vs:List V} {ds:List D},Reps K (fun c=>(A c/\c≠a)/\c≠p) H vs ds->Reps K (fun c=>(A c/\c≠p)/\c≠a) H vs ds:=fun r=>r.weak fun _ z=>⟨⟨z.1.1,z.2⟩,z.1.2⟩
 have ne: ∀ {a:Addr} {H:Hp} {u:HO},H p=some (.frz o (.lst ys))->H a=some u->(∀o',u≠ .frz o' (.lst ys))->a≠p:=fun h1 h2 h3 z=>by
   subst z;rw [h1] at h2;cases h2;exact h3 _ rfl
 have at_: ∀ {a:Addr} {H:Hp} {u:HO},H a=some u->a≠p->upd H p (.lst ys) a=some u:=fun e n=>by rw [jp n];exact e
 refine Reps.rec (motive_1:=fun A H v d _=>H p=some (.frz o (.lst ys))->noS d=true->Rep K (fun c=>A c/\c≠p) (upd H p (.lst ys)) v d) (motive_2:=fun A H vs ds _=>H p=some (.frz o (.lst ys))->noSs ds=true->Reps K (fun c=>A c/\c≠p) (upd H p (.lst ys)) vs ds)
   ?_ ?_ ?_ ?_ ?_ ?_ ?_ ?_ ?_ ?_ ?_ ?_ ?_ ?_ ?_ ?_ r
 · exact fun _ _=> .non
 · exact fun b _ _=> .bl b
 · exact fun i _ _=> .int i
 · exact fun x h _ _=> .str x h
 · exact fun e _ ih hp n=> .tup (at_ e (ne hp e fun _ z=>by cases z)) (ih hp (by simpa only [noS] using n))
 · exact fun e ha _ ih hp n=>have h:=ne hp e fun _ z=>by cases z
     .lst (at_ e h) ⟨ha,h⟩ (sw (ih hp (by simpa only [noS] using n)))
 · exact fun _ _ _ _ n=>by simp only [noS] at n;cases n
 · exact fun e ha k1 k2 _ ih hp n=>have h:=ne hp e fun _ z=>by cases z
     .dic (at_ e h) ⟨ha,h⟩ k1 k2 (sw (ih hp (by simpa only [noS] using n)))
 · exact fun e ha k1 k2 _ ih hp n=>have h:=ne hp e fun _ z=>by cases z
     .dit (at_ e h) ⟨ha,h⟩ k1 k2 (sw (ih hp (by simpa only [noS] using n)))
 · exact fun e k l hp _=> .exn (at_ e (ne hp e fun _ z=>by cases z)) k l
 · intro A H a kvs vs ks ds e k1 k2 _ ih hp n;refine .fdc ?_ k1 k2 (sw (ih hp (by simpa only [noS] using n)));rcases e with ⟨e,ha⟩| ⟨o',e⟩
   · have h:=ne hp e fun _ z=>by cases z
     exact .inl ⟨at_ e h,ha,h⟩
   · exact .inr ⟨o',at_ e (ne hp e fun _ z=>by cases z)⟩
 · intro A H a kvs vs ks ds e k1 k2 _ ih hp n;obtain ⟨o',e⟩:=e;exact .hdc ⟨o',at_ e (ne hp e fun _ z=>by cases z)⟩ k1 k2 (sw (ih hp (by simpa only [noS] using n)))
 · exact fun e ha k1 k2 _ ih hp n=>have h:=ne hp e fun _ z=>by cases z
     .obj (at_ e h) ⟨ha,h⟩ k1 k2 (sw (ih hp (by simpa only [noS] using n)))
 · exact fun e ha hp _=>have h:=ne hp e fun _ z=>by cases z
     .mem (at_ e h) ⟨ha,h⟩
 · exact fun _ _=> .nil
 · intro A H v d vs ds _ _ i1 i2 hp n;simp only [noSs,aaG] at n;exact .cons (i1 hp n.1) (i2 hp n.2)
def Rep.thaw {A:Xx} {H:Hp} {v:V} {d:D} (r:Rep K A H v d) (h:H p=some (.frz o (.lst ys))) (n:noS d=true):Rep K (fun c=>A c/\c≠p) (upd H p (.lst ys)) v d:=by
 cases Reps.thaw (.cons r .nil) h (by simp only [noSs,n,Bool.and_self]);assumption
end
section
variable {K:aaa} {G:Xx} {H0 H:Hp} {env:Sl} {σ:L2.St} {i:Nat} {a:Addr} {xs:List V} {ds:List D} {o:Obj}
def EnvOk.lendL (k:EnvOk K G H0 env σ H) (hi:env[i]?=some (.own (.lst ds))) (ha:σ[i]?=some (some (.ref a))) (hx:H a=some (.lst xs)) (h0:H0 a=none) (rs:Reps K (Sf G env σ) H xs ds):EnvOk K G H0 (env.set i (.shr (.scr ds))) σ (upd H a (.frz o (.lst xs))):=by
 have own: ∀ {c:Addr},jL (env.set i (.shr (.scr ds))) σ c->jL env σ c:=fun ⟨j,d,h1,h2⟩=>by
   by_cases e:i=j
   · subst e;rw [aaR (by exact (aam.mp hi).1)] at h1;cases h1
   · rw [aa5 e] at h1;exact ⟨j,d,h1,h2⟩
 have oa:jL env σ a:=⟨i,_,hi,ha⟩
 have st:Stay (Sf G env σ) H (upd H a (.frz o (.lst xs))):=fun c u e m=>by
   by_cases hc:c=a
   · subst hc;rw [hx] at e;cases e;exact ((m trivial).1 oa).elim
   · rw [jp hc];exact e
 have up: ∀c,Sf G env σ c->Sf G (env.set i (.shr (.scr ds))) σ c:=fun c z=>⟨fun w=>z.1 (own w),z.2⟩
 refine ⟨by rw [List.length_set];exact k.len,fun b u q=>?_,k.g0,fun j d h=>?_,fun j d h=>?_,fun j j' d e c h1 h2 h3 h4=>?_⟩
 · have hb:b≠a:=fun z=>by subst z;rw [h0] at q;cases q
   rw [jp hb];exact k.base b u q
 · by_cases e:i=j
   · subst e;rw [aaR (by exact (aam.mp hi).1)] at h;cases h;exact ⟨_,ha,.lsk (.inl ⟨o,jj⟩) (rs.stay st up)⟩
   · rw [aa5 e] at h;obtain ⟨v,h1,h2⟩:=k.shr j d h;exact ⟨v,h1,h2.stay st up⟩
 · by_cases e:i=j
   · subst e;rw [aaR (by exact (aam.mp hi).1)] at h;cases h
   · rw [aa5 e] at h;obtain ⟨b,h1,h2,h3⟩:=k.own j d h;have hb:b≠a:=fun z=>by subst z;exact e (k.dis i j _ _ _ hi h ha h1)
     exact ⟨b,h1,h2,h3.stay st up fun u q=>by rw [jp hb];exact q⟩
 · by_cases e1:i=j
   · subst e1;rw [aaR (by exact (aam.mp hi).1)] at h1;cases h1
   · by_cases e2:i=j'
     · subst e2;rw [aaR (by exact (aam.mp hi).1)] at h2;cases h2
     · rw [aa5 e1] at h1;rw [aa5 e2] at h2;exact k.dis j j' _ _ _ h1 h2 h3 h4
end
def Rep.noFrz {K:aaa} {A:Xx} {H:Hp} {a:Addr} {d:D} {o:Obj} {ys:List V} (r:Rep K A H (.ref a) d) (h:H a=some (.frz o (.lst ys))) (n:noS d=true):False:=by
 cases r with
 |tup e _=>rw [h] at e;cases e
 |lst e _ _=>rw [h] at e;cases e
 |lsk e _=>simp only [noS] at n;cases n
 |dic e _ _ _ _=>rw [h] at e;cases e
 |dit e _ _ _ _=>rw [h] at e;cases e
 |exn e _ _=>rw [h] at e;cases e
 |fdc e _ _ _=>
  rcases e with ⟨e,_⟩| ⟨_,e⟩
  · rw [h] at e;cases e
  · rw [h] at e;cases e
 |hdc e _ _ _=>
  obtain ⟨_,e⟩:=e;rw [h] at e;cases e
 |obj e _ _ _ _=>rw [h] at e;cases e
 |mem e _=>rw [h] at e;cases e
def Inv.looseL {X:Cx} {pins:List (Addr×Obj)} {σ:L2.St} {H:Hp} {s:aaf} {a:Addr} {xs:List V} (I:Inv X pins σ H s) (e:H a=some (.lst xs)):jeh X a:=by
 refine ⟨fun xs z=>?_,fun o u z=>?_,fun ps z=>?_⟩
 · rw [I.base.tups _ _ z] at e;cases e
 · rw [I.base.frzs _ _ _ z] at e;cases e
 · obtain ⟨m,q⟩:=I.base.tbls _ _ z;rw [q] at e;cases e
def ZC (i:Nat) (f:TL):Sl->Res D:=fun env=>match env[i]? with
 |some (.own (.lst ds))=>f (env.set i (.shr (.scr ds)))>>=fun d=>must (noS d=true) (.ok d)
 |_=> .stuck
section
variable {X:Cx} {e:Expr} {f:TL}
def UV (i:Nat) {l:Lv} (hl:l= .s\/l= .t) (h:DE X l e f):DE X l e (ZC i f):=by
 with_unfolding_all exact (by
  rintro pins s σ H Q I ⟨G,H0,env,d,k,ef,q⟩;unfold ZC at ef
  split at ef
  · rename_i ds hi;obtain ⟨d',e1,e2⟩:=jc ef;obtain ⟨n,e3⟩:=jl e2;cases e3;obtain ⟨a,ha,h0,tp⟩:=k.own i _ hi
    cases tp with
    | @lst xs _ hx rs=>
    obtain ⟨z,its,nn,rv,hlen,ho⟩:=I.lstM hx;generalize ({cls:= .type "list",data:= .seq its.toArray nn}:Obj)=oL at ho;have lo:=Inv.looseL I hx;have I1:=Inv.swap I hx lo (fun _ z=>by cases z) (fun _ z=>by cases z) (show ObjOk X.prog X.w H s.heap a (.frz oL (.lst xs)) from ⟨ho,I.hok a _ hx⟩);have k1:=k.lendL (o:=oL) hi ha hx h0 rs;refine thn (h pins s σ _ (fun v H1=>Same _ H1/\Rep X.K (l.A G (env.set i (.shr (.scr ds))) σ) H1 v d/\l.T _ v) I1 ⟨G,H0,_,d,k1,e1,fun v H' s r t=>⟨s,r,t⟩⟩) fun v s1 ⟨x,H1,I2,r1,sm,rep,nt⟩=>?_
    have hf:=sm _ _ jj;have I3:=Inv.swap I2 hf lo (fun _ z=>by cases z) (fun _ z=>by cases z) (show ObjOk X.prog X.w H1 s1.heap a (.lst xs) from (I2.hok a _ hf).2);refine ⟨x,_,I3,r1,q x _ (fun b u w=>?_) ?_ ?_⟩
    · by_cases hb:b=a
      · subst hb;rw [hx] at w;cases w;exact jj
      · rw [jp hb];exact sm b u (by rw [jp hb];exact w)
    · have rr:=rep.thaw hf n
      have up: ∀c,Sf G (env.set i (.shr (.scr ds))) σ c/\c≠a->Sf G env σ c:=fun c w=>⟨fun ⟨j,d',h1,h2⟩=>by
        by_cases e:i=j
        · subst e;rw [ha] at h2;cases h2;exact w.2 rfl
        · exact w.1.1 ⟨j,d',by rw [aa5 e];exact h1,h2⟩,w.1.2⟩
      rcases hl with rfl|rfl<;>exact rr.weak up
    · rcases hl with rfl|rfl
      · trivial
      · intro b eb u w
        by_cases hb:b=a
        · subst hb;subst eb;exact (rep.noFrz hf n).elim
        · exact nt b eb u (by rw [jp hb];exact w)
  · cases ef)
def DE.lendS (i:Nat) (h:DE X .s e f):DE X .s e (ZC i f):=UV i (.inl rfl) h
end
def jbL:List D->Res D
 | [.lst ds]=>(.ok (.lst ds))
 | [.tup ds]=>(.ok (.lst ds))
 | [.scr ds]=>(.ok (.lst ds))
 |_=> .stuck
def jas {K:aaa}:xP K (fun xs H Q=> ∃p ys,xs=[.ref p]/\(SqL K H p ys\/SqT K H p ys)/\ ∀l,H l=none->Q (.ref l) (upd H l (.lst ys))) jbL:=by
 intro A xs H ds d Q r e q;unfold jbL at e
 split at e
 · exact Qc A xs H _ d Q r e q
 · exact Qc A xs H _ d Q r e q
 · rename_i es;cases e;obtain ⟨v,rfl,r1⟩:=r.one;obtain ⟨p,ys,rfl,hp,ry⟩:=r1.scrE;exact ⟨p,ys,rfl,.inl hp.sql,fun l hl=>q _ _ (Same.upd hl) (.lst jj (.inl hl) ((ry.laid hl).weak fun c z=>⟨.inr z.1,z.2⟩)) (jQ (Same.refl H) hl)⟩
 · cases e
def isiS (T:String):D->Res D
 | .scr _=> .ok (.bl (isTy T "list"))
 |d=>isiD T d
def ke (T:String) (f:TL):Sl->Res D:=fun env=>f env>>=isiS T
section
variable {X:Cx}
def jbP {T:String} {a d:D} (h:isiS T a= .ok d): ∃b,d= .bl b:=by
 unfold isiS at h
 split at h
 · cases h;exact ⟨_,rfl⟩
 · unfold isiD at h
   split at h
   · cases h;exact ⟨_,rfl⟩
   · cases h
def vA (T:String) (h:IsTy T):CallR X (.builtin "isinstance") (fun xs H Q=> ∃x d,xs=[x,.ty T]/\Rep X.K Any H x d/\ ∃b,isiS T d= .ok (.bl b)/\Q (.bl b) H):=by
 rintro pins s σ H xs us Q I r ⟨x,d,ex,rp,b,e,q⟩
 by_cases hd: ∃ds,d= .scr ds
 · obtain ⟨ds,rfl⟩:=hd;cases e;subst ex;obtain ⟨u,w',rfl,r1,r2⟩:=Vo r;cases (show w'=adK T from r2);obtain ⟨a,ys,rfl,hl,_⟩:=rp.scrE;cases (show u=aaz a from r1);obtain ⟨its,rv,⟨o,n,g,hc,_⟩,_⟩:=I.list hl.sql;exact abh aew I.kIn ⟨o,g,hc⟩ (h X.K "list" (by decide)) (fun z=>nomatch z) fun tk=>⟨.bl _,H,I.tok tk,rfl,q⟩
 · refine Kh T h pins s σ H xs us Q I r ⟨x,d,ex,rp,b,?_,q⟩;unfold isiS at e
   split at e
   · exact (hd ⟨_,rfl⟩).elim
   · exact e
def vf (T:String) (Ty:Str) {l l':Lv} {e:Expr} {f:TL} {p p2 pos:Pos} (ht:IsTy T) (he:DE X l e f) (hg:Gl X "isinstance") (hm:X.mg "isinstance" =none) (hg2:Gl X Ty) (hm2:X.mg Ty=none) (hv:aa9 Ty=some (.type T))
   (hn:Ty≠ "__name__" :=by decide) (hd:Yx Ty:=by decide) (hs:aai [e,.Name Ty p2] X.env=(false,eval e X.env)::aai [.Name Ty p2] X.env:=by exact ji rfl)
   (hs2:aai [.Name Ty p2] X.env=(false,eval (.Name Ty p2) X.env)::aai [] X.env:=by exact ji rfl) (hpl:(abn pos (aai [.Name Ty p2] X.env)).any (·.1)=false:=by exact jx rfl):
   DE X l' (.Call (.Name "isinstance" p) [e,.Name Ty p2] [] pos) (ke T f):=by
 with_unfolding_all exact (
  PE.imp (zd (vA T ht) hg hm adA (jM he (jM (XI (v:= .ty T) hg2 hm2 hv rfl hn hd) qS hs2) hs) (by decide) (by decide) hs hpl) fun σ H Q=>by
   rintro ⟨G,H0,env,d,k,ef,q⟩;obtain ⟨a,e1,e2⟩:=jc ef;refine ⟨G,H0,env,a,k,e1,fun v H' s r _=>?_⟩;obtain ⟨b,rfl⟩:=jbP e2
   exact ⟨v,a,rfl,r.weak Lv.weak_b,b,e2,q _ H' s (.bl b) (jfd (K:=X.K) b).T⟩)
end
section
variable {prog:aaA} {w:World} {A:aaU} {E:Xw} {s:aaf}
def VM {a:Addr} {ea:Array (Int×Value)} {pa:Nat} {ta:abb} (hA:SetI s.heap a ea pa ta) (hc:w.params.followText "set-order" =true\/((!ta.plain&&decide (ea.size>1))=false/\(!ta.led&&decide (ea.size>1))=false)) {Q:Array (Int×Value)->aaf->Prop}
  (h: ∀ws:Array (Int×Value),ws.toList.Perm ea.toList->Q ws s):wpAny (model prog w) A (setWalk a) Q E s:=by
 unfold setWalk setsByText;refine aab (hA.state ?_);dsimp only;simp;refine aab (ad0 ?_);dsimp only
 cases ht:(model prog w).w.params.followText "set-order" with
 |true=>
  simp;refine aab (ad0 (aad (h _ (Tab.pick_perm _ _))))
 |false=>
  simp;rcases hc with hc| ⟨h1,h2⟩
  · rw [show (model prog w).w.params.followText "set-order" =w.params.followText "set-order" from rfl,hc] at ht;cases ht
  · show wpAny _ _ (if (!ta.plain&&decide (ea.size>1))=true then _ else _) _ _ _;rw [h1];simp;show wpAny _ _ ((if (!ta.led&&decide (ea.size>1))=true then unsupported "set:maker-not-led" else pure ())>>=fun _=>pure ea) _ _ _;rw [h2];simp;exact aad (h _ (acB _))
def Wa {a o f:Addr} {ea eo:Array (Int×Value)} {pa po pf:Nat} {ta to_ tf:abb} (hA:SetI s.heap a ea pa ta) (hO:SetI s.heap o eo po to_) (hF:SetI s.heap f #[] pf tf) {Q:Array (Int×Value)->aaf->Prop}
   (h: ∀(ws:Array (Int×Value)) (h':Heap),ws.toList.Perm ea.toList->(∀b ob,b≠f->s.heap.get? b=some ob->h'.get? b=some ob)->(∃pf' tf',SetI h' f #[] pf' tf')->Q ws {s with heap:=h'}):
   wpAny (model prog w) A (setWalkUnseen a [o,f] (some f)) Q E s:=by
 unfold setWalkUnseen setsByText;refine aab (hA.state ?_);dsimp only;simp only [bind_assoc,pure_bind];refine aab (ad0 ?_);dsimp only;have fin: ∀ws:Array (Int×Value),ws.toList.Perm ea.toList->Q ws s:=fun ws z=>h ws s.heap z (fun _ _ _ e=>e) ⟨_,_,hF⟩
 by_cases hc:((model prog w).w.params.followText "set-order" ||ta.led&&ta.plain||decide (ea.size<=1))=true
 · rw [if_pos hc];refine VM hA ?_ fun ws hw=>fin ws hw
   simp at hc;rcases hc with (hc| ⟨h1,h2⟩)|hc
   · exact .inl hc
   · exact .inr ⟨by simp [h2],by simp [h1]⟩
   · have: ¬(ea.size>1):=by omega
     exact .inr ⟨by simp [this],by simp [this]⟩
 · rw [if_neg hc];refine aab (KI hA hO hF ?_);simp;refine aab (ad7 ?_);refine aab (hF.state ?_);dsimp only
   split
   · obtain ⟨ob,ho,hx,hd⟩:=hF.ex;refine aab (wpAny_storeSet_of ho hd ?_ (by simp));refine aad (h ea _ (acB _) (fun b ob hb e=>Heap.get?_update_of_ne _ (acD hb) e) ?_)
     have hft:({tf with led:=tf.led&&ta.led,plain:=tf.plain&&ta.plain}:abb).fits (#[]:Array (Int×Value)).size=true:=by
      have:=hF.ft;cases tf;exact this
     obtain ⟨g1,_⟩:=SetOf_store (knd:=ab0 prog w) (S':=fun _=>false) ho hx hd (fun e he=>by simp at he) (fun k=>by simp) (by decide) hft;exact ⟨_,_,⟨⟨_,g1,hx,rfl⟩,fun e he=>by simp at he,by decide,hft⟩⟩
   · exact aad (fin _ (acB _))
def WY {id:String} {a o:Addr} {SA SO:Int->Bool} {na no:Nat} (hA:s.heap.SetOf (ab0 prog w) a SA na) (hO:s.heap.SetOf (ab0 prog w) o SO no) (hn: ¬na/4>no) {Q:Xw}
   (h: ∀(h':Heap),(∀b ob,b<s.heap.objs.size->s.heap.get? b=some ob->h'.get? b=some ob)->(∃n',h'.SetOf (ab0 prog w) s.heap.objs.size (fun k=>SA k&&!SO k) n')->Q (.ref s.heap.objs.size) {s with heap:=h'}):
   wpAny (model prog w) A (acH id a (.ref o)) Q E s:=by
 have tA:=hA.typeIs;have tO:=hO.typeIs;obtain ⟨ea,pa,ta,iA,rfl,mA⟩:=SetI.of hA;obtain ⟨eo,po,to_,iO,rfl,mO⟩:=SetI.of hO;unfold acH Builtin.Frozenset.sizeOf adn setEntries Builtin.Frozenset.baseOf setEpoch;dsimp only;refine aab (vF tO ?_);simp only [abw,aaQ,if_false,pure_bind,bind_assoc,aep,if_true];refine aab (iO.state ?_);refine aab (iA.state ?_);dsimp only;rw [if_neg hn];refine aab (adW tA F.sub_set_set ?_);simp only [if_true];refine aab (wpAny_newSet_of (knd:=ab0 prog w) fun led hS=>?_);simp only [pure_bind];obtain ⟨er,pr,tr,iR,hz,_⟩:=SetI.of hS;have her:=adV hz;subst her;have kp: ∀b ob,s.heap.get? b=some ob->(s.heap.push {cls:= .type "set",dict:=none,data:= .set #[] 0 (.fresh 0 0 led)}).get? b=some ob:=fun b ob e=>aae _ e
 have iA1:=iA.keep (kp a);have iO1:=iO.keep (kp o);have lA:=let ⟨_,e,_⟩:=iA.ex;aao e;have lO:=let ⟨_,e,_⟩:=iO.ex;aao e;refine aab (iA1.state ?_);refine aab (aa3 ?_);refine aab (Wa iA1 iO1 iR fun ws h' hw hk ⟨pf',tf',iF⟩=>?_);have iA2:=iA1.keep fun ob e=>hk _ _ (aax lA) e
 have hO2:h'.SetOf (ab0 prog w) o SO eo.size:=by
   obtain ⟨ob,es,ep,t,ho,hx,hd,rest⟩:=hO;exact ⟨ob,es,ep,t,hk _ _ (aax lO) (kp _ _ ho),hx,hd,rest⟩
 have hwm: ∀e∈ws.toList,e∈ea.toList:=fun e he=>hw.mem_iff.mp he
 have hin: ∀k,SA k=true->SO k=false->(fun _=>false:Int->Bool) k=true\/ ∃e∈ws.toList,(ab0 prog w).is k e.2=true:=fun k z _=>by
   obtain ⟨e,he,hi⟩:=(mA k).mp z;exact .inr ⟨e,hw.mem_iff.mpr he,hi⟩
 refine aab (aed _ (fun rest b s'=> ∃(h2:Heap) (S:Int->Bool) (n':Nat),s'={s with heap:=h2}/\(∀b ob,b≠s.heap.objs.size->h'.get? b=some ob->h2.get? b=some ob)/\h2.SetOf (ab0 prog w) s.heap.objs.size S n'/\n'+rest.length<=ea.size/\(∀e∈rest,e∈ea.toList)/\
    (∀k,S k=true->SA k=true/\SO k=false)/\(∀k,SA k=true->SO k=false->S k=true\/ ∃e∈rest,(ab0 prog w).is k e.2=true)) _ ?_ ?_ ws _ ⟨h',fun _=>false,0,rfl,fun _ _ _ e=>e,SetI.setOf iF,by have:=hw.length_eq;rw [aar,aar] at this;rw [aar];omega,hwm,(fun k z=>nomatch z),hin⟩)
 · rintro ⟨hh,x⟩ rest b s' ⟨h2,S,n',rfl,hk2,hS2,hle,hm,c1,c2⟩;have hme:=hm _ aay;obtain ⟨k,tk,e1,e2⟩:=iA.el _ hme;dsimp only at e1 e2;subst e1;subst e2;simp only [aaF] at hle;have hSA:SA k=true:=(mA k).mpr ⟨_,hme,wc k tk⟩
   have hO3:h2.SetOf (ab0 prog w) o SO eo.size:=by
    obtain ⟨ob,es,ep,t,ho,hx,hd,rest⟩:=hO2;exact ⟨ob,es,ep,t,hk2 _ _ (aax lO) ho,hx,hd,rest⟩
   have un: ∀ {h3:Heap} {Q:Unit->aaf->Prop},(∀ob,h2.get? a=some ob->h3.get? a=some ob)->Q () {s with heap:=h3}->wpAny (model prog w) A (aee id a pa) Q E {s with heap:=h3}:=fun hh3 q=>by
    unfold aee setEpoch;simp only [bind_assoc,pure_bind];refine aab ((iA2.keep fun ob e=>hh3 ob (hk2 _ _ (aax lA) e)).state ?_);dsimp only;simp only [bne_self_eq_false,aaQ,if_false];exact aad q
   refine aab (aa3 ?_);refine aab (wpAny_setFind_of (knd:=ab0 prog w) (wc k tk) rfl hO3 fun r hr=>?_);rw [hr]
   cases hSO:SO k with
   |true=>
    simp only [pure_bind,abw,aaQ,if_false];refine aad ?_;refine aab (un (fun _ e=>e) ?_);refine aad ⟨h2,S,n',rfl,hk2,hS2,by omega,fun e he=>hm e (aat _ he),c1,fun k' z1 z2=>?_⟩;rcases c2 k' z1 z2 with z| ⟨e,he,hi⟩
    · exact .inl z
    · rcases aaJ.mp he with z|z
      · subst z;have:k'=k:=(ab0 prog w).inj _ _ _ hi (wc k tk);subst this;rw [hSO] at z2;cases z2
      · exact .inr ⟨e,z,hi⟩
   |false=>
    simp only [pure_bind,aa7,if_true];refine aab (wpAny_setAddHashed_of (knd:=ab0 prog w) (wc k tk) rfl hS2 (by have:=iA.bd;omega) fun h3 sb hS3=>?_);refine aad ?_;refine aab (un (fun ob e=>by rw [sb.2 _ (aax lA)];exact e) ?_);refine aad ⟨h3,_,_,rfl,fun b ob hb e=>by rw [sb.2 _ hb];exact hk2 b ob hb e,hS3,by split<;>omega,fun e he=>hm e (aat _ he),fun k' z=>?_,fun k' z1 z2=>?_⟩
    · rw [acp,decide_eq_true_eq] at z;rcases z with z|z
      · exact c1 k' z
      · subst z;exact ⟨hSA,hSO⟩
    · rcases c2 k' z1 z2 with z| ⟨e,he,hi⟩
      · exact .inl (by rw [z];rfl)
      · rcases aaJ.mp he with z|z
        · subst z;have:k'=k:=(ab0 prog w).inj _ _ _ hi (wc k tk);subst this;exact .inl (by simp)
        · exact .inr ⟨e,z,hi⟩
 · rintro b s' ⟨h2,S,n',rfl,hk2,hS2,_,_,c1,c2⟩;refine aad (aad (h h2 (fun b ob hb e=>hk2 b ob (aax hb) (hk b ob (aax hb) (kp b ob e))) ⟨n',SetOf_congr hS2 (fun k=>?_) rfl⟩))
   cases e:S k with
   |true=>
    obtain ⟨z1,z2⟩:=c1 k e;rw [z1,z2];rfl
   |false=>
    cases e1:SA k with
    |false=>rfl
    |true=>
      cases e2:SO k with
      |true=>rfl
      |false=>
        rcases c2 k e1 e2 with z| ⟨_,he,_⟩
        · rw [e] at z;cases z
        · cases he
def jex {a o:Addr} {SA SO:Int->Bool} {na no:Nat} (hA:s.heap.SetOf (ab0 prog w) a SA na) (hO:s.heap.SetOf (ab0 prog w) o SO no) (hn: ¬na/4>no) {Q:Xw}
  (h: ∀(h':Heap),(∀b ob,b<s.heap.objs.size->s.heap.get? b=some ob->h'.get? b=some ob)->(∃n',h'.SetOf (ab0 prog w) s.heap.objs.size (fun k=>SA k&&!SO k) n')->Q (.ref s.heap.objs.size) {s with heap:=h'}):
  wpAny (model prog w) A (ab1 .Sub (.ref a) (.ref o)) Q E s:=by
 refine wpAny_binaryOp_same hA.typeIs hO.typeIs F.fills_set_sub F.slot_set_sub (ab7 F.slot_set_sub hA.typeIs ZS ?_ (F.args_set_sub_2 _ _))
 show wpAny _ _ (do
  let (self,other)←aeH "__sub__" ⟨[.ref a,.ref o],[]⟩
  let (l,r):=(self,other)
  if !(←ab4 l<&&>ab4 r) then rule s!"frozenset.{"__sub__"}.declined";return←ret .notImplemented
  ret (←acH s!"frozenset.{"__sub__"}" (←adn l) r)) _ _ _
 unfold aeH slotArgs;simp only [List.isEmpty_nil,abw,aaQ,if_false,bind_assoc,aaF,abO,bne_self_eq_false,pure_bind];unfold andM;simp only [bind_assoc];refine aab (vF hA.typeIs ?_);dsimp;refine aab (vF hO.typeIs ?_);simp;unfold adn;simp;refine aab (WY hA hO hn fun h' hk hi=>?_);exact aad ⟨_,rfl,by simp,h h' hk hi⟩
end
def Vi {prog:aaA} {w:World} {h:Heap} {a:Addr} {S:Int->Bool} {n:Nat} (x:h.SetOf (ab0 prog w) a S n):n=0↔ ∀k,S k=false:=by
 obtain ⟨o,es,ep,t,ho,hx,hd,hel,hm,hb,hf,hn⟩:=x
 constructor
 · intro z k;have he:=adV (hn.trans z);subst he
   cases e:S k with
   |false=>rfl
   |true=>
     obtain ⟨_,h1,_⟩:=(hm k).mp e;simp at h1
 · intro z;rw [←hn];rcases Nat.eq_zero_or_pos es.size with c|c
   · exact c
   · have hmem:es[0]∈es.toList:=by simp
     obtain ⟨⟨k,h1,_⟩,_⟩:=hel _ hmem;have:=(hm k).mpr ⟨_,hmem,h1⟩;rw [z k] at this;cases this
section
variable {X:Cx}
def jbv:OpR X (ab1 .Sub) (fun x y H Q=> ∃a b S n S' n',x= .ref a/\y= .ref b/\H a=some (.set S n)/\H b=some (.set S' n')/\ ¬n/4>n'/\ ∀l m,H l=none->(m=0↔ ∀k,(S k&&!S' k)=false)->Q (.ref l) (upd H l (.set (fun k=>S k&&!S' k) m))):=by
 rintro pins s σ H x y v u Q I rx ry ⟨a,b,S,n,S',n',ex,ey,ha,hb,hn,q⟩;subst ex;subst ey;cases rx;cases ry;have hA:=I.hok a _ ha;have hB:=I.hok b _ hb;refine jex hA hB hn fun h' hk ⟨m,hi⟩=>?_
 have hl:=I.hok.fresh (aah _);exact ⟨.ref s.heap.objs.size,_,I.laid (fun b o e=>hk b o (aao e) e) (aah _) (show ObjOk X.prog X.w _ h' _ (.set _ _) from hi),rfl,q _ m hl (Vi hi)⟩
def subZ (a b:D):Res D:=match a,b with
 | .lst x,.lst y=>match WO x,WO y with
  |some u,some v=>must (u.length+1<aey/\v.length+1<aey/\ ¬(dd u).length/4>(dd v).length) (.ok (.bl (decide (∀i∈u,i∈v))))
  |_,_=> .stuck
 |_,_=> .stuck
def vL {a b d:D} (h:subZ a b= .ok d): ∃u v:List Int,a= .lst (u.map D.int)/\b= .lst (v.map D.int)/\(u.length+1<aey/\v.length+1<aey/\ ¬(dd u).length/4>(dd v).length)/\d= .bl (decide (∀i∈u,i∈v)):=by
 unfold subZ at h
 split at h
 · rename_i x y
   split at h
   · rename_i u v e1 e2;obtain ⟨h1,h2⟩:=jl h;cases h2;exact ⟨u,v,by rw [yx e1],by rw [yx e2],h1,rfl⟩
   · cases h
 · cases h
variable {l l1 l2:Lv} {e1 e2:Expr} {f1 f2:TL} {p1 p2 p3 q1 q2 q3 pos pos2 p4:Pos} {j:Nat}
def jci (hc:X.calm=true) (h1:DE X l1 e1 f1) (h2:DE X l2 e2 f2) (hgl:Gl X "len") (hml:X.mg "len" =none) (hgs:Gl X "set") (hms:X.mg "set" =none)
   (he0:aai [.BinOp (.Call (.Name "set" p1) [e1] [] q1) .Sub (.Call (.Name "set" p2) [e2] [] q2) pos] X.env=(false,eval (.BinOp (.Call (.Name "set" p1) [e1] [] q1) .Sub (.Call (.Name "set" p2) [e2] [] q2) pos) X.env)::aai [] X.env:=by exact ji rfl)
   (he1:aai [e1] X.env=(false,eval e1 X.env)::aai [] X.env:=by exact ji rfl) (he2:aai [e2] X.env=(false,eval e2 X.env)::aai [] X.env:=by exact ji rfl):
   DE X l (.Compare (.Call (.Name "len" p3) [.BinOp (.Call (.Name "set" p1) [e1] [] q1) .Sub (.Call (.Name "set" p2) [e2] [] q2) pos] [] q3) [.Eq] [.Constant (.int 0) j p4] pos2) (two f1 f2 subZ):=by
 with_unfolding_all exact (
  PE.imp (Uu jeF (zd vy hgl hml rfl (jM (ug jbv (wa (W8 hc) hgs hms rfl (jM h1 qS he1) (by decide) (by decide) he1 rfl) (wa (W8 hc) hgs hms rfl (jM h2 qS he2) (by decide) (by decide) he2 rfl)) qS he0) (by decide) (by decide) he0 rfl) jaC (UJ _)) fun σ H Q=>by
   rintro ⟨G,H0,env,d,k,ef,q⟩;obtain ⟨a,c1,ef⟩:=jc ef;obtain ⟨b,c2,c3⟩:=jc ef;obtain ⟨u,v,rfl,rfl,⟨z1,z2,z4⟩,rfl⟩:=vL c3;refine ⟨G,H0,env,_,k,c1,fun x1 H1 s1 r1 _=>?_⟩;obtain ⟨p,xs,rfl,hp,_,rs⟩:=(r1.weak Lv.weak_b).lstE;have ex:=Js rs;subst ex;refine ⟨p,u,rfl,.inl (.inl hp),z1,fun l hl=>?_⟩;have S1:=Same.upd (o:=HO.set (fun k=>u.any (· ==k)) (dd u).length) hl;refine ⟨G,H0,env,_,(k.grow s1).grow S1,c2,fun x2 H2 s2 r2 _=>?_⟩;obtain ⟨p',xs,rfl,hp',_,rs'⟩:=(r2.weak Lv.weak_b).lstE;have ex:=Js rs';subst ex;refine ⟨p',v,rfl,.inl (.inl hp'),z2,fun l' hl'=>?_⟩;have S2:=Same.upd (o:=HO.set (fun k=>v.any (· ==k)) (dd v).length) hl';refine ⟨l,l',_,_,_,_,rfl,rfl,S2 _ _ (s2 _ _ jj),jj,z4,fun l2 m hl2 hm=>?_⟩;have S3:=Same.upd (o:=HO.set (fun k=>u.any (· ==k)&&!v.any (· ==k)) m) hl2;refine ⟨l2,_,m,rfl,jj,?_⟩
   have key:decide (V.int (m:Int)=V.int 0)=decide (∀i∈u,i∈v):=by
    refine decide_eq_decide.mpr ⟨fun z i hi=>?_,fun z=>?_⟩
    · have hm0:m=0:=by injection z with z;omega
      have:=hm.mp hm0 i;have hu:(u.any fun x=>x==i)=true:=ad2.mpr ⟨i,hi,by simp⟩;rw [hu] at this;simp only [adE,Bool.not_eq_false'] at this;obtain ⟨y,hy,e⟩:=ad2.mp this;rw [←eq_of_beq e];exact hy
    · have:m=0:=hm.mpr fun k=>by
       cases e:(u.any fun x=>x==k) with
       |false=>rfl
       |true=>
        obtain ⟨y,hy,e2⟩:=ad2.mp e;rw [eq_of_beq e2] at hy;have:(v.any fun x=>x==k)=true:=ad2.mpr ⟨k,z k hy,by simp⟩;rw [this];rfl
      rw [this];rfl
   refine ⟨rfl,?_⟩;have qq:=q (.bl (decide (V.int (m:Int)=V.int 0))) _ (s1.trans (S1.trans (s2.trans (S2.trans S3)))) (by rw [key];exact .bl _) (jfd (K:=X.K) _).T
   exact qq)
end
section
def jcE {K:aaa} {A:Xx} {H H':Hp} {v:V} {d:D} (s:Same H H') (r:Rep K A H' v d) (w: ∀a,A a->H a=none) (h:yr d=true):NewTop H v:=fun a e o q m=>by
 obtain ⟨b,rfl,ab,_⟩:=JB r h;cases e;rw [w _ ab] at q;cases q
def Zb:D->Slot
 | .lst ds=> .own (.lst ds)
 |d=> .shr d
def vQ (d:D):(Zb d=xn d/\yr d=true)\/Zb d= .shr d:=by
 cases d with
 |lst ds=>exact .inl ⟨rfl,rfl⟩
 |_=>exact .inr rfl
def asgN (i j n:Nat) (F:TF) (g:TH):Sl->Res Out:=fun env=>g env>>=fun ds=>must (ds.length=n/\D.imms ds=true) (F ds)>>=fun d=>match d with
 | .tup [x,y]=>must (y.imm=true) (.ok (.nx ((env.set i (Zb x)).set j (.shr y))))
 |_=> .stuck
variable {X:Cx} {CX:CXT} {k:Nat} {x:Str} {fa:Addr} {fd:abK} {ps:List Str} {p pos cpos tpos pa pb:Pos} {n kx:Nat} {F:TF} {E:XK} {g:TH} {fr:Bool} {e:Expr} {es:List Expr} {xa xb:Str}
def Av.asgN (A:Av X.prog X.w X.K X.mg X.base k x ps fr F) (i j:Nat) (hr:Room k X.A) (hcl:X.calm=true) (hN:X.N.Nodup) (ha:DA X .s (e::es) g) (hn:ps.length=n:=by rfl) (hg:Gl X x:=by rfl) (hdb:Yx x:=by decide)
   (he:Wm X e es:=by exact ji rfl) (hpl:Wl X cpos es:=by exact jx rfl)
   (hi:X.N[i]?=some xa:=by rfl) (hx:Loc X.env.scope xa:=by first|exact abR rfl|exact abf rfl)
   (hf:VR X xa:=by first|exact .inl rfl|exact .inr rfl|assumption)
   (hj:X.N[j]?=some xb:=by rfl) (hxb:Loc X.env.scope xb:=by first|exact abR rfl|exact abf rfl)
   (hfb:VR X xb:=by first|exact .inl rfl|exact .inr rfl|assumption)
   (hs:(abe [.Name xa pa,.Name xb pb] X.env).map (·.2)=aeJ (.Name xa pa) X.env::(abe [.Name xb pb] X.env).map (·.2):=by rfl)
   (hs2:(abe [.Name xb pb] X.env).map (·.2)=aeJ (.Name xb pb) X.env::(abe [] X.env).map (·.2):=by rfl)
   (hn2:(abe [.Name xa pa,.Name xb pb] X.env).length=2:=by rfl) (hst:(abe [.Name xa pa,.Name xb pb] X.env).findIdx? (·.1)=none:=by rfl)
   (hsw:swapsWithSole [.Tuple [.Name xa pa,.Name xb pb] kx tpos] (.Call (.Name x p) (e::es) [] cpos) pos.line X.env=pure false:=by rfl) (hw:swappedStores [.Tuple [.Name xa pa,.Name xb pb] kx tpos] (.Call (.Name x p) (e::es) [] cpos) X.env=pure none:=by rfl)
   (h1:(abe [.Tuple [.Name xa pa,.Name xb pb] kx tpos] X.env).map (·.2)=[aeJ (.Tuple [.Name xa pa,.Name xb pb] kx tpos) X.env]:=by rfl):
   DS X (.Assign [.Tuple [.Name xa pa,.Name xb pb] kx tpos] (.Call (.Name x p) (e::es) [] cpos) pos) (M.asgN i j n F g):=by
 subst hn;obtain ⟨f,fd,G,hm,hk,hb⟩:=A.ex
 with_unfolding_all exact (
  PS.imp (Ul (XH G hr hg hm hk hb .nil Uv ha hdb he hpl) (jaB hcl (Ja (XG hN hi hx hf) (Ja (XG hN hj hxb hfb) Ut hs2) hs) hn2 hst) hsw hw h1) fun E σ H=>by
   rintro ⟨GG,H0,env,o,k,ef,q⟩;obtain ⟨ds,e1,e2⟩:=jc ef;obtain ⟨d,e3,e4⟩:=jc e2;obtain ⟨⟨hn,him⟩,e3⟩:=jl e3;refine ⟨GG,H0,env,ds,k,e1,fun vs H1 s1 r1=>?_⟩;have r1':Reps X.K (fun _=>False) H1 vs ds:=r1.imm him;refine ⟨fun _=>False,ds,d,?_,?_,e3,fun v H2 s2 r2 _=>?_⟩
   · rw [abq,r1.length];exact hn
   · rw [abq];exact r1'
   · split at e4
     · rename_i dx dy _;obtain ⟨hy,e5⟩:=jl e4;cases e5;obtain ⟨a,xs,rfl,ha,rs⟩:=r2.tupE;obtain ⟨v1,v2,rfl,ra,rb⟩:=rs.two;have sm:=s1.trans s2;have w: ∀c,(H1 c=none\/False)->Sf GG env σ c:=fun c z=>k.new c (Same.free s1 (z.elim (fun z=>z) abC))
       have key:EnvOk X.K GG H0 (env.set i (Zb dx)) (σ.set i (some v1)) H2/\Frm env σ H (env.set i (Zb dx)) (σ.set i (some v1)) H2:=by
        rcases vQ dx with ⟨hs,ho⟩|hs
        · rw [hs];exact k.setNew sm (ra.weak w) (jcE sm ra (fun c z=>Same.free s1 (z.elim (fun z=>z) abC)) ho)
        · rw [hs];exact ⟨(k.grow sm).setS (ra.weak w),.set sm fun _ _ z _=>by cases z⟩
       refine ⟨a,_,rfl,.of ha,rfl,v1,[v2],rfl,v2,[],rfl,rfl,?_⟩;have k2:=key.1.setS (i:=j) (Rep.imm rb hy);exact q _ _ k2 (key.2.trans (.set (s:= .shr dy) (Same.refl _) fun _ _ z _=>by cases z))
     · cases e4)
end
section
variable {X:Cx}
def jav (cs:List Str) {cV:V} {cv:Value} (hr: ∀u,RelV cV u->u=cv) (hk: ∀c,cs.contains c=true-> ∀C,NmC X.K c C->aaI X.K (.ref C) cv=some true):
  CallR X (.builtin "isinstance") (fun xs H Q=> ∃x c ns ds,xs=[x,cV]/\Rep X.K Any H x (.obj c ns ds)/\cs.contains c=true/\Q (.bl true) H):=by
 rintro pins s σ H xs us Q I r ⟨x,c,ns,ds,ex,rp,hc,q⟩;subst ex;obtain ⟨u,w',rfl,r1,r2⟩:=Vo r;cases hr w' r2
 cases rp with
 | @obj _ _ a C dx fs vs _ _ _ ha _ hC _ _=>
  cases (show u=aaz a from r1);obtain ⟨_,_,_,ho,_⟩:=(show ObjOk X.prog X.w H s.heap a (.ins C dx fs) from I.hok a _ ha)
  exact U9 (fun M h _ p=>(acx p).andThen .now) I.kIn ho (hk c hc C hC.1) (fun z=>nomatch z) fun tk=>⟨.bl true,H,I.tok tk,rfl,q⟩
def isoD (cs:List Str):D->Res D
 | .obj c _ _=>if cs.contains c=true then .ok (.bl true) else .stuck
 |_=> .stuck
def isoF (cs:List Str) (f:TL):Sl->Res D:=fun env=>f env>>=isoD cs
def uO {cs:List Str} {a d:D} (h:isoD cs a= .ok d): ∃c ns ds,a= .obj c ns ds/\cs.contains c=true/\d= .bl true:=by
 unfold isoD at h
 split at h
 · split at h
   · rename_i hc;cases h;exact ⟨_,_,_,rfl,hc,rfl⟩
   · cases h
 · cases h
def jd6 (cs:List Str) (Ty:Str) {CT:Addr} {l l':Lv} {e:Expr} {f:TL} {p p2 pos:Pos} (hk: ∀c,cs.contains c=true-> ∀C,NmC X.K c C->aaI X.K (.ref C) (.ref CT)=some true) (he:DE X l e f)
   (hg:Gl X "isinstance") (hm:X.mg "isinstance" =none) (hg2:Gl X Ty) (hm2:X.mg Ty=some (.ref CT))
   (hd:Yx Ty:=by decide) (hs:aai [e,.Name Ty p2] X.env=(false,eval e X.env)::aai [.Name Ty p2] X.env:=by exact ji rfl)
   (hs2:aai [.Name Ty p2] X.env=(false,eval (.Name Ty p2) X.env)::aai [] X.env:=by exact ji rfl) (hpl:(abn pos (aai [.Name Ty p2] X.env)).any (·.1)=false:=by exact jx rfl):
   DE X l' (.Call (.Name "isinstance" p) [e,.Name Ty p2] [] pos) (isoF cs f):=by
 with_unfolding_all exact (
  PE.imp (zd (jav cs (cV:= .ref CT) (fun u r=>r) hk) hg hm adA (jM he (jM (Zm (v:= .ref CT) hg2 hm2 rfl hd) qS hs2) hs) (by decide) (by decide) hs hpl) fun σ H Q=>by
   rintro ⟨G,H0,env,d,k,ef,q⟩;obtain ⟨a,e1,e2⟩:=jc ef;refine ⟨G,H0,env,a,k,e1,fun v H' s r _=>?_⟩;obtain ⟨c,ns,ds,rfl,hc,rfl⟩:=uO e2
   exact ⟨v,c,ns,ds,rfl,r.weak Lv.weak_b,hc,q _ H' s (.bl true) (jfd (K:=X.K) true).T⟩)
variable {l:Lv} {e:Expr} {f f1 f2:TL} {st:Stmt} {sts:List Stmt}
def DE.fork (c:Sl->Bool) (h1:DE X l e f1) (h2:DE X l e f2):DE X l e (fun env=>if c env=true then f1 env else f2 env):=by
 with_unfolding_all exact (by
  rintro pins s σ H Q I ⟨G,H0,env,d,k,ef,q⟩;dsimp only at ef
  by_cases hc:c env=true
  · rw [if_pos hc] at ef;exact h1 pins s σ H Q I ⟨G,H0,env,d,k,ef,q⟩
  · rw [if_neg hc] at ef
    exact h2 pins s σ H Q I ⟨G,H0,env,d,k,ef,q⟩)
def ZD (i:Nat) (f:TL):Sl->Res D:=fun env=>if (match env[i]? with|some (.own _)=>true|_=>false)=true then ZC i f env else f env
def DE.lendBS (i:Nat) (h:DE X .s e f):DE X .s e (ZD i f):=DE.fork _ (DE.lendS i h) h
def jab:DSs X sts (fun _=> .stuck):=by
 with_unfolding_all exact (by
  rintro pins s σ H E I ⟨G,H0,env,o,k,ef,q⟩
  cases ef)
end
end M
namespace M
open PySem PySem.Spec L2 PySem.W PySem.Calls
open PyProof.Rows hiding St
structure MkB (K:aaa) (C:Addr):Prop where
 makes:abP K C=true
 init:aaW K (.ref C) "__init__" =some (some (.builtin "object.__init__"))
 obj:PySem.W.subIn K (.ref C) (.type "object")=some true
 kp:aaX K (.ref C)=true
section
variable {X:Cx} {C:Addr}
def uD {prog:aaA} {w:World} {A:aaU} {K:aaa} {s:aaf} {a:Addr} {o:Obj} {R:Result->aaf->Prop} (X:K.In s.heap) (ho:s.heap.get? a=some o) (hc:o.cls= .ref C) (hb:PySem.W.subIn K (.ref C) (.type "object")=some true) (hq:R (.ok (.ret .none)) s):
  adw (model prog w) A (.call (.builtin "object.__init__") ⟨[.ref a],[]⟩) R s:=by
 have L0:abJ (model prog w) s.heap (typeOf (.ref a)) (.ref C):=hc▸(acx ho).andThen .now;have L1:abJ (model prog w) s.heap (isSubtype (.ref C) (.type "object")) true:=looks_subIn X hb;have LI:abJ (model prog w) s.heap (isInstance (.ref a) (.type "object")) true:=L0.andThen L1;have hk:builtinKind "object.__init__" =some .slot:=by kernel_rfl
 have hsp:splitId "object.__init__" =some ("object", "__init__"):=by kernel_rfl
 have ha2:=PySem.F.args_object_init_1 (.ref a);obtain ⟨hh,g,d,t,os⟩:=s;refine codeAny_call_builtin PySem.F.slot_object_init.plain PySem.F.entry_object_init ?_;simp only [checkBuiltinCall,hk,hsp];refine aab (LI.at ?_);simp
 have fin:wpAny (model prog w) A.in1 (adf.«object.__init__» ⟨[.ref a],[]⟩) (fun fin s'=>match fin with| .done f=>R (.ok f) s'| .again c'=>c'.quiet=true/\adw (model prog w) A c' R s') (fun e s'=>R (.error e) s') ⟨hh,g,d,t,os⟩:=by
  unfold adf.«object.__init__»;simp;exact aad hq
 cases hsig:Manifest.signature? "object.__init__" with
 |none=>exact aad fin
 |some sig=>
  simp only [argsOk,hsig] at ha2;have h2:=ha2;show wpAny _ _ (Bind.checkArgs "object.__init__" sig ⟨[.ref a],[]⟩) _ _ _;rw [h2];exact aad fin
def vU {pins:List (Addr×Obj)} {σ:L2.St} {H:Hp} {s:aaf} {Q:VK} (Mb:MkB X.K C) (I:Inv X pins σ H s)
   (h: ∀x dx,H x=none->H dx=none->dx≠x->Q (.ref x) (upd (upd H dx (.own x)) x (.ins C dx []))):
   wpAny (model X.prog X.w) X.A (call (.ref C) []) (EP X pins σ Q) X.xe s:=by
 have hq:=h (s.heap.objs.size+1) s.heap.objs.size (I.hok.fresh (acN _)) (I.hok.fresh (aah _)) (aax (acw _));have I2:=Inv.made (C:=C) I;obtain ⟨_,_,_,ho,_⟩:=(show ObjOk X.prog X.w _ _ (s.heap.objs.size+1) (.ins C s.heap.objs.size []) from I2.hok _ _ jj)
 refine wpAny_call (UP I.kIn Mb.makes Mb.init (fun self=>?_) ?_)
 · rw [PySem.F.slot_object_init.bind self];exact .now
 · exact uD (C:=C) I2.kIn ho rfl Mb.obj ⟨rfl,⟨V.ref (s.heap.objs.size+1),_,I2,rfl,hq⟩⟩
def jbt {x:Str} {p pos:Pos} (Mb:MkB X.K C) (hg:Gl X x) (hm:X.mg x=some (.ref C)) (hdb:Yx x:=by decide):
  PE X (.Call (.Name x p) [] [] pos) (fun σ H Q=> ∀y dx,H y=none->H dx=none->dx≠y->Q (.ref y) (upd (upd H dx (.own y)) y (.ins C dx []))):=by
 intro pins s σ H Q I h;refine acF (xA I hg hm ?_ hdb);exact PySem.W.callWith_K0 I.kIn Mb.kp (vU Mb I h)
def jcm {x c:Str} {p pos:Pos} (Mb:MkB X.K C) (hc:NmC X.K c C) (hg:Gl X x) (hm:X.mg x=some (.ref C)) (hdb:Yx x:=by decide):
   DE X .t (.Call (.Name x p) [] [] pos) (fun _=> .ok (.obj c [] [])):=by
 with_unfolding_all exact (
  PE.imp (jbt Mb hg hm hdb) fun σ H Q ⟨G,H0,env,d,k,ef,q⟩ y dx hy hdx hne=>by
   cases ef;have s1:Same H (upd (upd H dx (.own y)) y (.ins C dx [])):=(Same.upd hdx).trans (Same.upd (by rw [jp (acD hne)];exact hy))
   exact q _ _ s1 (.obj jj (k.new y hy) ⟨hc,rfl⟩ rfl .nil) (jQ (Same.refl H) hy))
end
end M
namespace M
open PySem PySem.Spec L2
open PyProof.Rows hiding St
section
variable {X:Cx} {e o:Expr} {f g:TL} {pos apos cpos:Pos}
def appT (g f:TL):Sl->Res Out:=fun env=>g env>>=fun l=>f env>>=fun d=>match l with
 | .lst ds=>must (ds.length<aaj) (.ok (.nx env))
 |_=> .stuck
def jcd (ho:DE X .t o g) (he:DE X .s e f)
   (hbase:abV o "append" X.env (eval o X.env)=eval o X.env:=by rfl)
   (hfew:((abn cpos (aai [e] X.env)).all (fun x=>!x.1)&&(adc cpos (abT [] X.env)).all (fun x=>x.1.isSome)
     &&decide ([e].length+([]:List adg).length+(if ([]:List adg).isEmpty then 0 else 1)<30))=true:=by exact x0 rfl rfl)
   (hline:(apos.endLine==cpos.line)=true:=by rfl) (hs:aai [e] X.env=(false,eval e X.env)::aai [] X.env:=by exact ji rfl) (hplain:(abn cpos (aai [] X.env)).any (·.1)=false:=by exact jx rfl)
   (hsw:aca (.Call (.Attribute o "append" apos) [e] [] cpos) none pos.line X.env=pure false:=by rfl):
   DS X (.Expr (.Call (.Attribute o "append" apos) [e] [] cpos) pos) (appT g f):=by
 with_unfolding_all exact (
  PS.imp (Jx (um acu adG PySem.F.type_list_append JM ho (jM he qS hs) hbase hfew hline hs hplain) hsw) fun E σ H=>by
   rintro ⟨G,H0,env,o,k,ef,q⟩;obtain ⟨l,e1,e2⟩:=jc ef;obtain ⟨d,e3,e4⟩:=jc e2
   split at e4
   · obtain ⟨hz,e5⟩:=jl e4;cases e5;refine ⟨G,H0,env,_,k,e1,fun v H1 s1 r1 nt=>?_⟩
     cases r1 with
     | @lst _ _ a xs ds hx ga rs=>
      refine ⟨.inl ⟨rfl,xs,.of hx⟩,G,H0,env,d,k.grow s1,e3,fun v2 H2 s2 r2 _=>?_⟩;have hx2:=s2 _ _ hx;refine ⟨a,xs,v2,rfl,rfl,hx2,by rw [rs.length];exact hz,?_⟩;have fa:H a=none:=jaG (s1.trans s2) nt ⟨_,hx2,trivial⟩
      have sm:Same H (upd H2 a (.lst (xs++[v2]))):=fun b u hb=>by
       rw [jp (by rintro rfl;rw [fa] at hb;cases hb)];exact s2 _ _ (s1 _ _ hb)
      exact q σ _ (k.grow sm) (.refl sm)
   · cases e4)
end
section
variable {X:Cx} {K:aaa}
def Vc (hc:X.calm=true):CallR X (.type "list") (fun xs H Q=> ∃a kvs hs,xs=[.ref a]/\H a=some (.dT kvs)/\kvs.map (·.1)=hs.map hdK/\hs.length<=1000/\ ∀l us,H l=none->F2 (HdV H) us hs->Q (.ref l) (upd H l (.lst us))):=by
 intro pins s σ H xs us Q I r h;obtain ⟨a,kvs,hs,rfl,ha,hk,h64,q⟩:=h;obtain ⟨u,rfl,rx⟩:=xm r;cases rx;obtain ⟨hz,lo,ys,hp,o,es,ep,ho,hx,hd,he,_⟩:=(show ObjOk X.prog X.w H s.heap a (.dT kvs) from I.hok a _ ha)
 have hF:=yp hp hk
 have hV:Vals (ys.map fun q=>V.ref q.2.1) (ys.map fun q=>aaz q.2.1):=by
  have:=Jt (ys.map fun q=>q.2.1);simpa [abA,Function.comp_def] using this
 have hlen:ys.length=hs.length:=by simpa using hF.length
 have hD:DAt s.heap a (ys.map fun q=>aaz q.2.1) ep:=⟨o,es,ho,hx,hd,by rw [he,abA];rfl⟩
 refine PySem.W.kdl_call (vj lo) (I.ok.hd hc) hD (by rw [aan,abD];omega) fun h' tk acc c' hkp hS hacc=>?_
 have hacc2:acc.toList=ys.map fun q=>aaz q.2.1:=by
  apply acT;intro i;have hl:acc.toList.length=(ys.map fun q=>aaz q.2.1).length:=by rw [aar];exact hacc.1
  by_cases hi:i<acc.toList.length
  · rw [aac hi];exact (hacc.2 i _ (by rw [←aas];exact aac hi)).symm
  · rw [aaM (by omega),aaM (by omega)]
 refine ⟨.ref s.heap.objs.size,_,I.laid hkp (aah _) (show ObjOk X.prog X.w _ h' _ (.lst (ys.map fun q=>V.ref q.2.1)) from ⟨by rw [aan,abD];omega,acc.toList,c',by rw [hacc2];exact hV,by rw [Array.toArray_toList];exact hS⟩),rfl,q _ _ (I.hok.fresh (aah _)) hF⟩
def uI:List D->Res D
 | [.dit ks _]=>match wB ks with
  |some hs=>must (hs.length<=1000/\Yv hs=true) (.ok (.lst (hs.map hdD)))
  |none=> .stuck
 |_=> .stuck
def jar:xP K (fun xs H Q=> ∃a kvs hs,xs=[.ref a]/\H a=some (.dT kvs)/\kvs.map (·.1)=hs.map hdK/\hs.length<=1000/\ ∀l us,H l=none->F2 (HdV H) us hs->Q (.ref l) (upd H l (.lst us))) uI:=by
 intro A xs H ds d Q r e q;unfold uI at e
 split at e
 · rename_i ks vs
   cases eh:wB ks with
   |none=>rw [eh] at e;cases e
   |some hs=>
    rw [eh] at e;obtain ⟨⟨h64,hsh⟩,e2⟩:=jl e;cases e2;obtain ⟨v,rfl,r1⟩:=r.one;obtain ⟨p,kvs,rfl,hp,_,hkk,_⟩:=r1.ditE;refine ⟨p,kvs,hs,rfl,hp,by rw [hkk];exact JZ eh,h64,fun l us hl hu=>q _ _ (Same.upd hl) (.lst jj (.inl hl) ?_) (jQ (Same.refl H) hl)⟩
    have hs2: ∀a∈hs,a.1.length<=aaj:=fun a ha=>by
     have:=aaZ.mp hsh a ha;simpa using this
    exact ((X3 (A:=fun _=>False) hu hs2).grow (Same.upd hl)).weak fun c z=>z.elim
 · cases e
end
section
variable {X:Cx}
def ZE:D->Res D
 | .scr ds=>QJ (.lst ds)
 |d=>QJ d
def X0 {a d:D} (h:ZE a= .ok d): ∃ds ks,(a= .lst ds\/a= .scr ds)/\tksD ds=some ks/\ks.length<=76/\d= .int (nT ks):=by
 unfold ZE at h
 split at h
 · obtain ⟨ds,ks,e,h1,h2,h3⟩:=QI h;cases e;exact ⟨_,ks,.inr rfl,h1,h2,h3⟩
 · obtain ⟨ds,ks,e,h1,h2,h3⟩:=QI h;exact ⟨_,ks,.inl e,h1,h2,h3⟩
def WI (f:TL):Sl->Res D:=fun env=>f env>>=ZE
variable {l1:Lv} {e1:Expr} {f1:TL} {p1 p3 q1 q3:Pos}
def K9 (hc:X.calm=true) (hu:X.A.units+200<cLine) (h1:DE X l1 e1 f1) (hgl:Gl X "len") (hml:X.mg "len" =none) (hgs:Gl X "set") (hms:X.mg "set" =none)
   (he0:aai [.Call (.Name "set" p1) [e1] [] q1] X.env=(false,eval (.Call (.Name "set" p1) [e1] [] q1) X.env)::aai [] X.env:=by exact ji rfl)
   (he1:aai [e1] X.env=(false,eval e1 X.env)::aai [] X.env:=by exact ji rfl):
   DE X .b (.Call (.Name "len" p3) [.Call (.Name "set" p1) [e1] [] q1] [] q3) (WI f1):=by
 with_unfolding_all exact (
  PE.imp (zd vz hgl hml rfl (jM (wa (vx hc hu) hgs hms rfl (jM h1 qS he1) (by decide) (by decide) he1 rfl) qS he0) (by decide) (by decide) he0 rfl) fun σ H Q=>by
   rintro ⟨G,H0,env,d,k,ef,q⟩;obtain ⟨a,c1,ef⟩:=jc ef;obtain ⟨ds,ks,ea,e1,e2,rfl⟩:=X0 ef;refine ⟨G,H0,env,_,k,c1,fun x1 H1 s1 r1 _=>?_⟩
   have key: ∃p xs,x1= .ref p/\SqL X.K H1 p xs/\F2 (KyV H1) xs ks:=by
    rcases ea with rfl|rfl
    · obtain ⟨p,xs,rfl,hp,_,rs⟩:=(r1.weak Lv.weak_b).lstE;exact ⟨p,xs,rfl,.inl (.inl hp),Vv rs e1⟩
    · obtain ⟨p,xs,rfl,hp,rs⟩:=(r1.weak Lv.weak_b).scrE;exact ⟨p,xs,rfl,hp.sql,Vv rs e1⟩
   obtain ⟨p,xs,rfl,hp,hF⟩:=key;refine ⟨p,xs,ks,rfl,hp,hF,e2,fun l o hl hO=>?_⟩
   exact ⟨l,l,o,_,rfl,jj,hO,q _ _ (s1.trans (Same.upd hl)) (.int _) trivial⟩)
end
section
variable {M:Model} {K:aaa}
def uX {cls : Value} {tp e : Addr} {h : Heap} (X : K.In h) (LT : abJ M h (typeOf (.ref e)) cls) (L : List Value) (hp : h.get? tp = some { cls := .type "tuple", data := .seq L.toArray }) (hx : ∀ c ∈ L, acC K cls c = some false) :
    abJ M h (excMatches (.ref e) (.ref tp)) false := by
  intro A Q E s k₀ q
  obtain ⟨hh, g, d, tk, os⟩ := s
  have k : ∀ b o, h.get? b = some o -> hh.get? b = some o := k₀
  have LT0 : abJ M h (isInstance (.ref tp) (.type "tuple")) true := ((acx hp).andThen .now).andThen (PySem.W.Looks.of_pure isSubtype_tuple_tuple)
  have hc : ∀ c ∈ L, abJ M hh (isExcClass c) true /\ abJ M hh (isSubtype cls c) false := fun c hc => by
    obtain ⟨e1, S1⟩ := PySem.W.exm_cls (M := M) X (hx c hc)
    exact ⟨e1.keeps k, S1.keeps k⟩
  have LT := LT.keeps k
  have LT0 := LT0.keeps k
  have hp' := k _ _ hp
  unfold excMatches
  refine aab (LT0.at ?_)
  dsimp only
  rw [if_pos rfl]
  first
    | refine aab (ac4 hp' rfl ?_)
    | refine aab (aab (ac4 hp' rfl (aad ?_)))
  dsimp only [adX, Option.getD]
  refine aab (aad (aab ?_))
  have loop1 : ∀ (L : List Value) {P : PUnit -> aaf -> Prop}, (∀ c ∈ L, abJ M hh (isExcClass c) true) -> P PUnit.unit ⟨hh, g, d, tk, os⟩ -> wpAny M A (forIn (m := Sem) L PUnit.unit fun c (__s : PUnit) => do
          let __do_lift ← isExcClass c
          if (!__do_lift) = true then do
              rule "try.except-non-exception-class"
              raiseErrorWords "TypeError" "catching classes that do not inherit from BaseException is not allowed"
              pure (aco PUnit.unit)
            else pure (aco PUnit.unit)) P E ⟨hh, g, d, tk, os⟩ := by
    intro L
    induction L with
    | nil => intro P _ hP; exact aad hP
    | cons c r ih =>
      intro P h hP
      rw [List.forIn_cons]
      refine aab (aab ((h c (by simp)).at ?_))
      exact aad (ih (fun x hx => h x (by simp [hx])) hP)
  have loop2 : ∀ (L : List Value) {P : Option Bool × Unit -> aaf -> Prop}, (∀ c ∈ L, abJ M hh (isSubtype cls c) false) -> P (none, ()) ⟨hh, g, d, tk, os⟩ -> wpAny M A (forIn (m := Sem) L ((none : Option Bool), ()) fun c __s => do
            let __do_lift ← isSubtype cls c
            if __do_lift = true then pure (ForInStep.done (some true, ())) else pure (aco (none, ()))) P E ⟨hh, g, d, tk, os⟩ := by
    intro L
    induction L with
    | nil => intro P _ hP; exact aad hP
    | cons c r ih =>
      intro P h hP
      rw [List.forIn_cons]
      refine aab (aab ((h c (by simp)).at ?_))
      exact aad (ih (fun x hx => h x (by simp [hx])) hP)
  refine loop1 L (fun c h => (hc c h).1) (aab (LT.at (aab ?_)))
  exact loop2 L (fun c h => (hc c h).2) (aad q)
end
section
variable {X:Cx}
theorem YI {pins:List (Addr×Obj)} {σ:L2.St} {H:Hp} {s:aaf} {Ex:Xw} (I:Inv X pins σ H s) {pos:Pos}: ∀(L:List (Str×Addr×Pos)) {Q:List Value->aaf->Prop},(∀q∈L,Gl X q.1/\X.mg q.1=some (.ref q.2.1)/\(q.1==("__debug__" :Str))=false)->Q (L.map fun q=>aaz q.2.1) s->
  wpAny (model X.prog X.w) X.A (spliced (abn pos (aai (L.map fun q=> .Name q.1 q.2.2) X.env))) Q Ex s
 | [],Q,_,q=>wpAny_items_nil q
 |p::L,Q,h,q=>by
  obtain ⟨h1,h2,h3⟩:=h p (by simp);exact wpAny_items_cons (xA I h1 h2 (YI I L (fun x hx=>h x (by simp [hx])) q) h3)
end
def jca {X:Cx} {n T:Str} {CT:Addr} {body suite:List Stmt} {b₀:Stmt} {g gs:TJ} {np hpos pos hpos1 tp:Pos} {kt:Nat} {b1:Stmt} {suite1:List Stmt} (L:List (Str×Addr×Pos)) (cs:List Str) (j:Nat) (hN:X.N.Nodup) (hb: ∀E' ps,DSsY (Cx.tryX X E' ps) body g) (hs: ∀e,DSs (Cx.held X e) (b₀::suite) gs)
    (hT:X.mg T=some (.ref CT)) (hx: ∀c,cs.contains c=true-> ∀C,NmC X.K c C->acC X.K (.ref C) (.ref CT)=some true)
    (hL: ∀q∈L,Gl X q.1/\X.mg q.1=some (.ref q.2.1)/\(q.1==("__debug__" :Str))=false) (hno: ∀c,cs.contains c=true-> ∀C,NmC X.K c C-> ∀q∈L,acC X.K (.ref C) (.ref q.2.1)=some false) (hl9:L.length<=1000)
    (hj:X.N[j]?=some n:=by rfl) (hl:X.env.scope.names.lookup n=some .local:=by rfl) (hst:X.stack=X.env::X.outer:=by rfl) (hfr:X.env.frame=some X.env.locals:=by rfl) (hg:Gl X T:=by rfl) (hdb:Yx T:=by decide):
    DS X (.Try body [.ExceptHandler (some (.Tuple (L.map fun q=> .Name q.1 q.2.2) kt tp)) none (b1::suite1) hpos1,.ExceptHandler (some (.Name T np)) (some n) (b₀::suite) hpos] [] [] pos) (tryO cs g j gs):=by
 with_unfolding_all exact (by
  rintro pins s σ H E I ⟨G,H0,env,o,k,ef,q⟩
  refine wpAny_Try_except (abX ((hb (fun e s₁=>wpAny (model X.prog X.w) X.A (noteFrame e X.env) (fun _ s₂=>wpAny (model X.prog X.w) X.A (setFlight e none) (fun _ s₃=>
    wpAny (model X.prog X.w) X.A (handleBy e X.env [.ExceptHandler (some (.Tuple (L.map fun q=> .Name q.1 q.2.2) kt tp)) none (b1::suite1) hpos1,.ExceptHandler (some (.Name T np)) (some n) (b₀::suite) hpos]) (SP X pins E) X.xe s₃) X.xe s₂) X.xe s₁) pins) [] s σ H E (jbS I) ⟨G,H0,env,k,?_⟩) (fun f s1 hq=>?_) fun e s1 h=>h)
  · unfold tryO at ef
    cases eg:g env with
    |ok o'=>rw [eg] at ef;cases ef;exact .inl ⟨_,rfl,q⟩
    |stuck=>rw [eg] at ef;cases ef
    |exc c=>
     rw [eg] at ef;dsimp only at ef
     by_cases hc:cs.contains c=true
     · rw [if_pos hc] at ef;obtain ⟨o1,e1,e2⟩:=jc ef;cases e2;refine .inr ⟨c,rfl,fun pins' H1 s2 e s' sm I' cx=>?_⟩;have I1:=wz I';obtain ⟨a,C,H',B,a0,rfl,os,bare,un,hok,ha,fl,cov,C',eC,hC,sm2⟩:=cx;cases eC;have J:=I1.call' os un hok bare fun b hb=>absurd hb (by simp)
       have nb:a∉frs X.stack:=fun hm=>by
         obtain ⟨_,o',ho',hd⟩:=J.stack.mem hm;obtain ⟨oe,vs,he,_,hv,_⟩:=fl.first
         rw [he] at ho';cases ho';exact hd _ hv
       have hn:s2.heap.get? a=none:=by
         cases z:s2.heap.get? a with
         |none=>rfl
         |some o'=>
          obtain ⟨ob,hob,_⟩:=fl.there;have:=cov a nb (.inl ⟨o',z⟩);rw [fl.2.1,hob] at this;cases this
       refine wpAny_looks_onW (by rw [←hst];exact I.ok.frames) hfr (by rw [←hst];exact fl) fun h2 held up2=>?_
       refine wpAny_landsW held fun h3 fly3 up3=>?_
       have FW3:=fly3;obtain ⟨g1,g2,g3,g4⟩:=fly3;obtain ⟨V3,W3⟩:=X2 un hok J.stkFree cov J.stack g1 (up2.trans up3);have J3:=I1.call' (s':={s' with heap:=h3}) os V3 W3 bare fun b hb=>absurd hb (by simp)
       obtain ⟨ob9,hob9,hc9⟩:=ad4 (Heap.TracedW.at g4);refine wpAny_handleBy_cons (codeAny_handlers_test ?_) (by intro q;cases q);refine wpAny_Tuple (YI (X:=Cx.held X a) (ZH J3) L hL ⟨by rw [aan,abD];omega,?_⟩);have kp: ∀q o,h3.get? q=some o->(h3.push {cls:= .type "tuple",data:= .seq (L.map fun q=>aaz q.2.1).toArray}).get? q=some o:=fun _ _ z=>aae _ z
       refine (uX (cls:= .ref C) (J3.kIn.keeps kp) (by rw [←hc9];exact (acx (kp _ _ hob9)).andThen .now) (L.map fun q=>aaz q.2.1) (aap h3 rfl) (fun v hv=>by
         obtain ⟨q,hq,rfl⟩:=aaK.mp hv
         exact hno c hc C hC q hq)).here ?_
       have fly4:=PySem.W.flying_keeps FW3 kp;have up4':=up3.trans (fun b o e n=>⟨o.slots,kp b o e⟩);generalize hh9:h3.push {cls:= .type "tuple",data:= .seq (L.map fun q=>aaz q.2.1).toArray}=h9 at*;clear FW3 g1 g2 g3 g4 V3 W3 J3 hob9 kp up3;revert fly4 up4';intro fly3 up3;obtain ⟨f1,f2,f3,f4⟩:=fly3;obtain ⟨U3,O3⟩:=X2 un hok J.stkFree cov J.stack f1 (up2.trans up3);have I3:=I1.call' (s':={s' with heap:=h9}) os U3 O3 bare fun b hb=>absurd hb (by simp)
       refine wpAny_handleBy_cons (codeAny_handlers_test ?_) (by intro q;cases q);refine xA (ZH I3) hg hT ?_ hdb;obtain ⟨ob3,hob3,hc3⟩:=ad4 (Heap.TracedW.at f4);refine (PySem.W.exm_one I3.kIn (by rw [←hc3];exact (acx hob3).andThen .now) (hx c hc C hC)).here ?_;refine codeAny_handlers_suite_as ?_;refine wpAny_setFlight_noneW f1 f3 (Heap.TracedW.at f4) fun h4 st4 FF4 tr4 keep4=>?_
       have up4:=up2.trans (up3.trans fun b o e n=>⟨o.slots,keep4 b o e n⟩);obtain ⟨U4,O4⟩:=X2 un hok J.stkFree cov J.stack st4 up4;obtain ⟨oe,hoe,hce⟩:=ad4 (Heap.TracedW.at tr4);obtain ⟨U5,O5⟩:=jcM U4 O4 hn ha hoe;have I5:=I1.call' (s':={s' with heap:=h4}) os U5 O5 bare fun b hb=>absurd hb (by simp)
       have sm5:Same H (upd H' a (.frz oe (.own a))):=(sm.trans sm2).trans (Same.upd ha);have rp:Rep X.K (Sf G env σ) (upd H' a (.frz oe (.own a))) (.ref a) (.exn c):= .exn jj hce hC;refine y6 (X:=Cx.held X a) (ZH I5) hN hj (.inl hl) (v:= .ref a) rfl (fun s6 I6=>?_) (.inr hl);have kS:=(k.grow sm5).setS (i:=j) rp;have fS:Frm env σ H (env.set j (.shr (.exn c))) (σ.set j (some (.ref a))) (upd H' a (.frz oe (.own a))):= .set sm5 fun _ _ z _=>by cases z
       refine abX ((hs a) pins s6 (σ.set j (some (.ref a))) _ ⟨fun σ' H'=>E.nx (σ'.set j none) H',E.rt,fun σ' H'=>E.bk (σ'.set j none) H',fun σ' H'=>E.ct (σ'.set j none) H'⟩ I6 ⟨G,H0,_,o1,kS,e1,?_⟩) (fun f s7 h7=>?_) fun _ _ z=>abC z
       · cases o1 with
         |nx env1=>exact fun σ' H3 k3 f3=>q _ H3 k3.unset ((fS.trans f3).trans .unset)
         |bk env1=>exact fun σ' H3 k3 f3=>q _ H3 k3.unset ((fS.trans f3).trans .unset)
         |ct env1=>exact fun σ' H3 k3 f3=>q _ H3 k3.unset ((fS.trans f3).trans .unset)
         |rt fr d=>exact q
       · cases f with
         |next=>
          obtain ⟨σ',H3,I7,q7⟩:=h7;exact ZK (wU I.ok I7) hN hj hl fun s8 I8=>⟨_,H3,I8,q7⟩
         |brk=>
          obtain ⟨σ',H3,I7,q7⟩:=h7;exact ZK (wU I.ok I7) hN hj hl fun s8 I8=>⟨_,H3,I8,q7⟩
         |cont=>
          obtain ⟨σ',H3,I7,q7⟩:=h7;exact ZK (wU I.ok I7) hN hj hl fun s8 I8=>⟨_,H3,I8,q7⟩
         |ret u=>
          obtain ⟨v,σ',H3,I7,r7,q7⟩:=h7;exact ZK (wU I.ok I7) hN hj hl fun s8 I8=>⟨v,_,H3,I8,r7,q7⟩
     · rw [if_neg hc] at ef;cases ef
  · cases f with
    |next=>exact adr (y7 hq)
    |brk=>exact y7 hq
    |cont=>exact y7 hq
    |ret u=>exact y7 hq)
section
variable {K:aaa} {H:Hp}
variable {X:Cx} {e a b:Expr} {l:Lv} {pos:Pos}
def Zp:OpR X (abg .IsNot) (fun x y H Q=> ∃a b,x= .bl a/\y= .bl b/\Q (.bl (!(a==b))) H):=by
 rintro pins s σ H x y v u Q I rx ry ⟨a,b,ex,ey,q⟩;subst ex ey;cases rx;cases ry;exact wpAny_isNot_plain (by cases a<;>cases b<;>rfl) ⟨.bl _,H,I,by cases a<;>cases b<;>rfl,q⟩
def isnB:D->D->Res D
 | .bl a,.bl b=> .ok (.bl (!(a==b)))
 |_,_=> .stuck
def Zv:OpS K (fun x y H Q=> ∃a b,x= .bl a/\y= .bl b/\Q (.bl (!(a==b))) H) isnB:=by
 intro x y H a b d Q ra rb e q;unfold isnB at e
 split at e
 · cases e;cases ra.blE;cases rb.blE;exact ⟨_,_,rfl,rfl,q _ (jfd _)⟩
 · cases e
end
section
variable {X:Cx} {K:aaa}
def neA:D->D->Res D
 | .dic a b,.dic c d=>jbH (.dic a b) (.dic c d)
 |a,b=>neR a b
def rNeA (K:aaa):R2:=fun x y H Q=>rDic K true x y H Q\/rEqD K true x y H Q
def jdp (hu:X.A.units+200<cLine):OpR X (abg .NotEq) (rNeA X.K):=by
 intro pins s σ H x y v u Q I rx ry h;rcases h with h|h
 · exact uw hu pins s σ H x y v u Q I rx ry h
 · exact JC hu pins s σ H x y v u Q I rx ry h
def jdw:OpS K (rNeA K) neA:=fun x y H a b d Q ra rb e q=>by
 unfold neA at e
 split at e
 · exact .inl (uC x y H _ _ d Q ra rb e q)
 · exact .inr (XU x y H _ _ d Q ra rb e q)
end
end M
namespace M
open PySem PySem.Spec L2
section
def lt1 (i:Int):Str:=⟨#[97+i.toNat]⟩
def UR {i j:Int} (hi:0<=i) (hj:0<=j) (h:97+i.toNat=97+j.toNat):i=j:=by omega
def jcC (a b:Str):(a++b).cps.toList=a.cps.toList++b.cps.toList:=by
 show (a.cps++b.cps).toList=_;simp
def nmK (fr bh:Str) (s:Int) (k:Nat):Str:=fr++lt1 ((s+k)%26)++lt1 ((s+k/26)%26)++bh
def jbF {fr bh:Str} {s:Int} {i j:Nat} (hs:0<=s) (hi:i<100) (hj:j<100) (h:nmK fr bh s i=nmK fr bh s j):i=j:=by
 have h2:=congrArg (fun z:Str=>z.cps.toList) h;simp only [nmK,jcC,aa2] at h2;have h3:=List.append_cancel_left h2;simp only [lt1,aeN,aef,List.cons.injEq] at h3;obtain ⟨e1,e2,_⟩:=h3;have a1:=UR (abu _ (by decide)) (abu _ (by decide)) e1;have a2:=UR (abu _ (by decide)) (abu _ (by decide)) e2;omega
structure HdRow (fr bh:Str) (s:Int) (hs:List Hd):Prop where
 at_: ∀(j:Nat) (a:Hd),hs[j]?=some a->a.1=nmK fr bh s j\/(j%2=1/\ ∃b,hs[j-1]?=some b/\b.1=nmK fr bh s (j-1)/\a.1=b.1/\a.2≠b.2)
 pl: ∀a∈hs,0<=a.2/\a.2<=9
def HdRow.nil {fr bh:Str} {s:Int}:HdRow fr bh s []:=⟨fun j a h=>by simp at h,fun a h=>by cases h⟩
def HdRow.nodup {fr bh:Str} {s:Int} {hs:List Hd} (h:HdRow fr bh s hs) (h0:0<=s) (hl:hs.length<=100):hs.Nodup:=by
 refine abt.mpr fun i j hi hj hij e=>?_
 have hj2:=aac hj;have hi2:hs[i]?=some hs[j]:=by rw [←e];exact aac hi
 have key: ∀(i:Nat) (a:Hd),hs[i]?=some a-> ∃i',a.1=nmK fr bh s i'/\(i'=i\/(i%2=1/\i'=i-1/\ ∃b,hs[i-1]?=some b/\a.2≠b.2)):=fun i a ha=>by
   rcases h.at_ i a ha with z| ⟨z,b,hb,hb1,e1,e2⟩
   · exact ⟨i,z,.inl rfl⟩
   · exact ⟨i-1,by rw [e1,hb1],.inr ⟨z,rfl,b,hb,e2⟩⟩
 obtain ⟨i',n1,c1⟩:=key i _ hi2;obtain ⟨j',n2,c2⟩:=key j _ hj2;have il:i<hs.length:=by omega
 have hle:i'<=i:=by rcases c1 with z| ⟨_,z,_⟩<;>omega
 have hle2:j'<=j:=by rcases c2 with z| ⟨_,z,_⟩<;>omega
 have ee:=jbF h0 (by omega) (by omega) (n1.symm.trans n2);rcases c2 with z| ⟨z1,z2,b,hb,hne⟩
 · omega
 · have:i=j-1:=by rcases c1 with w| ⟨w1,w2,_⟩<;>omega
   subst this;rw [hi2] at hb;cases hb;exact hne rfl
def HdRow.add {fr bh:Str} {s:Int} {hs:List Hd} (h:HdRow fr bh s hs) {p:Int} (hp:0<=p/\p<=9):HdRow fr bh s (hs++[(nmK fr bh s hs.length,p)]):=by
 refine ⟨fun j a ha=>?_,fun a ha=>?_⟩
 · by_cases hj:j<hs.length
   · rw [aaq hj] at ha;rcases h.at_ j a ha with z| ⟨z,b,hb,r⟩
     · exact .inl z
     · exact .inr ⟨z,b,by rw [aaq (by omega)];exact hb,r⟩
   · have:j=hs.length:=by
       have:=(aam.mp ha).1;simp at this;omega
     subst this;simp at ha;subst ha;exact .inl rfl
 · rcases abr.mp ha with z|z
   · exact h.pl a z
   · simp at z;subst z;exact hp
def HdRow.twin {fr bh:Str} {s:Int} {hs:List Hd} {b:Hd} (h:HdRow fr bh s (hs++[b])) (hodd:(hs.length+1)%2=1):HdRow fr bh s (hs++[b]++[(b.1,(b.2+1)%10)]):=by
 have hb:b.1=nmK fr bh s hs.length:=by
   rcases h.at_ hs.length b (by simp) with z| ⟨z,_⟩
   · exact z
   · omega
 have pb:=h.pl b (by simp);refine ⟨fun j a ha=>?_,fun a ha=>?_⟩
 · by_cases hj:j< (hs++[b]).length
   · rw [aaq hj] at ha;rcases h.at_ j a ha with z| ⟨z,b',hb',r⟩
     · exact .inl z
     · exact .inr ⟨z,b',by rw [aaq (by omega)];exact hb',r⟩
   · have:j=hs.length+1:=by
       have:=(aam.mp ha).1;simp at this hj;omega
     subst this;simp at ha;subst ha;exact .inr ⟨hodd,b,by simp,hb,rfl,by dsimp only;omega⟩
 · rcases abr.mp ha with z|z
   · exact h.pl a z
   · simp at z;subst z;dsimp only;omega
end
end M
namespace M
open PySem PySem.Spec L2
open PyProof.Rows hiding St
section
variable {f f1 f2:TL} {fa:TH} {t t1 t2:TK} {g ga gb:TJ} {env env':Sl} {d x y z:D} {ds:List D} {b:Bool} {i:Nat}
def jez (h:env[i]?=some (.shr d)):rdB i env= .ok d:=by unfold rdB;rw [h]
def jeA (h:env[i]?=some (.own d)):rdB i env= .ok d:=by unfold rdB;rw [h]
def jdL (h:t env= .ok true) (h1:f1 env= .ok d):ifD t f1 f2 env= .ok d:=by rw [jaV,h];exact h1
def jeM (h:t env= .ok false) (h1:f2 env= .ok d):ifD t f1 f2 env= .ok d:=by rw [jaV,h];exact h1
def XJ (h:env[i]?=some (.own (.lst ds))):ownL i env= .ok ds:=by unfold ownL;rw [h]
def jaQ {tt:TD} {fi:TH} {o:Out} (h:fi env= .ok ds) (h2:forD (yW tt g) ds env= .ok o):forO fi tt g env= .ok o:=(YY h).trans h2
def Vq {tt:TD} {o:Out} (h:tt d env= .ok env') (h2:g env'= .ok o):yW tt g d env= .ok o:=(Xp h).trans h2
def jeK {α:Type} {c:Bool} {a b r:α} (hc:c=true) (h:a=r):(if c=true then a else b)=r:=(if_pos hc).trans h
def jeL {α:Type} {c:Bool} {a b r:α} (hc:c=false) (h:b=r):(if c=true then a else b)=r:=(if_neg (by rw [hc];decide)).trans h
def wp {a b:Int}:eqR (.int a) (.int b)= .ok (.bl (a==b)):=jb8
def YH {a b:Int}:neR (.int a) (.int b)= .ok (.bl (!(a==b))):=by
 unfold neR;rw [jt (show EqC (.int a) (.int b) from .inl ⟨rfl,rfl,by simp [D.dep]⟩)];simp [eqD]
def Vt (h:f1 env= .ok (.bl true)) (h2:f2 env= .ok d):toB f1 f2 true env= .ok d:=by rw [jaR,h];exact h2
def Vu (h:f1 env= .ok (.bl false)):toB f1 f2 true env= .ok (.bl false):=by rw [jaR,h];rfl
def VI {ks:List Key} {es:List D}:xn (.dic ks es)= .own (.dic ks es):=rfl
def VF:xn (.lst ds)= .own (.lst ds):=rfl
def VH {ks:List (List Key)} {es:List D}:xn (.dit ks es)= .own (.dit ks es):=rfl
def VE:xn .non= .shr .non:=rfl
def vP:xn (.bl b)= .shr (.bl b):=rfl
def VG {j:Int}:xn (.int j)= .shr (.int j):=rfl
def VD {j:Str}:xn (.str j)= .shr (.str j):=rfl
def VC:xn (.tup ds)= .shr (.tup ds):=rfl
def uM (xs:List D) (d:D):ixD (.lst (xs++[d])) (.int (-1))= .ok d:=by
 simp only [ixD,L2.atI]
 have:L2.ixN (xs++[d]).length (-1)=some xs.length:=by
  unfold L2.ixN;rw [if_neg (by omega)];rw [if_pos (by simp only [aaB,aaF,abO];omega)];congr 1;simp only [aaB,aaF,abO];omega
 rw [this];simp
end
end M
namespace G
open PySem PySem.Spec L2 M
open PyProof.Rows hiding St
def top (i:Nat):Stmt:=PySem.Challenge.pw_endwise_k31_papers.main.body.getD i (.Pass ⟨0,0,0,0⟩)
abbrev zH:Stmt:=top 52
abbrev wv:Stmt:=top 53
abbrev ym:Stmt:=top 54
abbrev wu:Stmt:=top 55
abbrev Jp:Stmt:=top 27
abbrev yi:Stmt:=top 26
abbrev Jq:Stmt:=top 31
abbrev xt:Stmt:=top 43
abbrev qu:Stmt:=wA (top 41) 0
abbrev xv:Stmt:=top 56
abbrev wx:Stmt:=top 51
abbrev zg:Stmt:=wA (top 17) 0
abbrev zI:Stmt:=wA (top 47) 1
abbrev zL:Stmt:=wA (top 17) 1
abbrev yh:Stmt:=top 18
abbrev qr:Stmt:=wA (top 47) 2
abbrev zK:Stmt:=wA (top 41) 3
abbrev zJ:Stmt:=wA (top 41) 1
abbrev wy:Stmt:=top 57
abbrev Zf:Stmt:=top 34
abbrev Xz:Stmt:=top 36
abbrev VS:Stmt:=top 35
abbrev xu:Stmt:=top 38
abbrev wj:Stmt:=top 33
abbrev yk:Stmt:=top 32
abbrev yl:Stmt:=top 28
abbrev yj:Stmt:=top 29
abbrev Jn:Stmt:=top 30
abbrev Zh:Stmt:=top 37
abbrev Jo:Stmt:=top 49
abbrev xr:Stmt:=top 48
abbrev qt:Stmt:=wA (top 47) 0
abbrev Zg:Stmt:=top 58
def qK:Sl->Res Out:=
 (seqO (jB 2 (cS "abcdefghijklmnopqrstuvwxyz")) (seqO (jB 3 (cS "")) (seqO (forO (rngF (jb (rdS 1) nil1)) (gN 4) (seqO (asgO (app (jb (rdS 0) (jb (cI 26) nil1)) qy) (g2 (gN 0) (gN 5))) (jB 3 (two (rdS 3) (two (rdS 2) (rdS 5) ixD) addD)))) (retS (rdS 3)))))
def qP:List D->Res D:=runF false 6 (qK)
def zx (qM:TF):Sl->Res Out:=
 (seqO (jB 2 (cS "abcdefghijklmnopqrstuvwxyz")) (seqO (jB 3 (jA 2 qM (jb (two (rdS 0) (cI 16) divI) (jb (two (rdS 0) (cI 4) modI) nil1)))) (seqO (jB 4 (jA 2 qM (jb (two (rdS 0) (cI 280000) divI) (jb (two (two (rdS 0) (cI 4) divI) (cI 4) modI) nil1)))) (seqO (jB 5 (two (two (rdS 0) (cI 16) divI) (cI 26) modI)) (seqO (setO 6 (lstF nil1)) (seqO (forO (rngF (jb (rdS 1) nil1)) (gN 7) (seqO (asgO (app (jb (rdS 0) (jb (cI 10) nil1)) qy) (g2 (gN 0) (gN 9))) (seqO (jB 8 (two (rdS 3) (two (rdS 2) (two (two (rdS 5) (rdS 7) addD) (cI 26) modI) ixD) addD)) (seqO (jB 8 (two (two (rdS 8) (two (rdS 2) (two (two (rdS 5) (two (rdS 7) (cI 26) divI) addD) (cI 26) modI) ixD) addD) (rdS 4) addD)) (seqO (ifO (andB (asB (two (two (rdS 7) (cI 2) modI) (cI 1) eqR)) (asB (two (two (rdS 0) (cI 3) modI) (cI 0) eqR))) (seqO (jB 8 (two (two (rdB 6) (negF (cI 1)) ixD) (cI 0) ixD)) (jB 9 (two (two (two (two (rdB 6) (negF (cI 1)) ixD) (cI 1) ixD) (cI 1) addD) (cI 10) modI))) nxO) (zO 6 (tupF (jb (rdS 8) (jb (rdS 9) nil1))))))))) (retO (rdO 6))))))))
def qo:List D->Res D:=runF true 10 (zx qP)
def wV:Sl->Res Out:=
 (seqO (jB 2 (two (rdS 1) (two (rdS 0) (app (jb (rdS 1) nil1) lenD) modI) ixD)) (seqO (jB 0 (two (rdS 0) (cI 61) divI)) (seqO (jB 3 (lstF (jb (app (jb (rdS 2) nil1) K0) (jb (two (rdS 2) (cI 0) ixD) (jb cN (jb (cI 0) (jb (cB true) (jb (tupF nil1) (jb (tupF (jb (two (rdS 2) (cI 0) ixD) nil1)) (jb (tupF (jb (two (rdS 2) (cI 0) ixD) (jb (cI 1) (jb (cI 2) nil1)))) (jb (tupF (jb (two (rdS 2) (cI 1) ixD) (jb (two (rdS 2) (cI 0) ixD) nil1))) (jb (tupF (jb (cS "") (jb (cI 1) nil1))) (jb (tupF (jb (cS "aB") (jb (cI 1) nil1))) nil1))))))))))))) (seqO (jB 3 (two (rdS 3) (lstF (jb (tupF (jb (cS "a1") (jb (cI 0) nil1))) (jb (tupF (jb (cS "abcdefghi") (jb (cI 2) nil1))) (jb (tupF (jb (cS "a ") (jb (cI 1) nil1))) (jb (tupF (jb (two (rdS 2) (cI 0) ixD) (jb (cI 10) nil1))) (jb (tupF (jb (two (rdS 2) (cI 0) ixD) (jb (negF (cI 1)) nil1))) (jb (tupF (jb (two (rdS 2) (cI 0) ixD) (jb (cB true) nil1))) (jb (tupF (jb (two (rdS 2) (cI 0) ixD) (jb cN nil1))) nil1)))))))) addD)) (seqO (jB 3 (two (rdS 3) (lstF (jb (tupF (jb (two (rdS 2) (cI 0) ixD) (jb (cS "1") nil1))) (jb (tupF (jb (tupF (jb (two (rdS 2) (cI 0) ixD) nil1)) (jb (cI 1) nil1))) (jb (tupF (jb (cI 0) (jb (cI 0) nil1))) (jb (chk (two (two (two (rdS 2) (cI 0) ixD) (cS ",") addD) (app (jb (two (rdS 2) (cI 1) ixD) nil1) Vx) addD)) nil1))))) addD)) (retS (two (rdS 3) (two (rdS 0) (app (jb (rdS 3) nil1) lenD) modI) ixD)))))))
def wg:List D->Res D:=runF false 4 (wV)
def yR (zC:TF) (yD:TF):Sl->Res Out:=
 (seqO (asgO (app (jb (rdS 0) (jb (cI 8) nil1)) qy) (g2 (gN 0) (gN 2))) (seqO (asgO (app (jb (rdS 0) (jb (cI 61) nil1)) qy) (g2 (gN 0) (gN 3))) (seqO (asgO (app (jb (rdS 0) (jb (cI 61) nil1)) qy) (g2 (gN 0) (gN 4))) (seqO (setO 1 (jA 2 zC (jb (rdS 0) (jb (rdS 3) nil1)))) (seqO (ifO (andB (asB (two (rdS 2) (cI 5) eqR)) (asB (two (rdB 1) (lstF nil1) neR))) (seqO (yy 1 (two (rdS 4) (two (app (jb (rdB 1) nil1) lenD) (cI 1) addD) modI) (two (rdB 1) (two (rdS 0) (app (jb (rdB 1) nil1) lenD) modI) ixD)) (frzO 1 (retO (tupF (jb (rdS 1) (jb (cB false) nil1)))))) nxO) (seqO (ifO (andB (asB (two (rdS 2) (cI 6) eqR)) (asB (two (rdB 1) (lstF nil1) neR))) (seqO (Kz 1 (two (rdS 4) (app (jb (rdB 1) nil1) lenD) modI) (ZC 1 (jA 2 yD (jb (rdS 0) (jb (rdS 1) nil1))))) (frzO 1 (retO (tupF (jb (rdS 1) (jb (cB false) nil1)))))) nxO) (seqO (ifO (asB (two (rdS 2) (cI 7) eqR)) (seqO (frzO 1 (setO 5 (lstF (jb (app (jb (rdS 1) nil1) Qz) (jb cN (jb (cI 0) (jb (cS "a") (jb (cB true) (jb cD (jb (lstF (jb (rdS 1) nil1)) (jb (jA 2 zC (jb (rdS 0) (jb (cI 61) nil1))) (jb (lstF (jb (tupF nil1) nil1)) (jb (lstF (jb (lstF nil1) nil1)) (jb (tupF (jb (tupF (jb (cS "a") (jb (cI 1) nil1))) nil1)) nil1)))))))))))))) (seqO (zO 5 (lstF (jb (tupF (jb (cS "a") (jb (cI 1) (jb (cI 1) nil1)))) nil1))) (retO (tupF (jb (two (rdB 5) (two (rdS 0) (app (jb (rdB 5) nil1) lenD) modI) ixD) (jb (cB false) nil1)))))) nxO) (frzO 1 (retO (tupF (jb (rdS 1) (jb (cB true) nil1))))))))))))
def jV:List D->Res D:=runF true 6 (yR qo wg)
def wC:Sl->Res Out:=
 (seqO (ifO (orB (notB (asB (isiF "str" (rdS 0)))) (notB (asB (Qb (cI 1) (app (jb (rdS 0) nil1) lenD) (cI 8) leI leI)))) (retO (cB false)) nxO) (retO (app (jb (xJ false 1 [] (itF (rdS 0)) (gN 0) zc (two (rdS 0) (cS "abcdefghijklmnopqrstuvwxyz") inD)) nil1) allD)))
def zt:List D->Res D:=runF true 1 (wC)
def QQ:Sl->Res Out:=
 (retO (toB (isiF "int" (rdS 0)) (notF (isiF "bool" (rdS 0))) true))
def qJ:List D->Res D:=runF true 1 (QQ)
def wd (zn:TF) (qI:TF):Sl->Res Out:=
 (seqO (ifO (orB (notB (asB (isiF "tuple" (rdS 0)))) (asB (two (app (jb (rdS 0) nil1) lenD) (cI 2) neR))) (retO (cB false)) nxO) (retO (toB (jA 1 zn (jb (two (rdS 0) (cI 0) ixD) nil1)) (toB (jA 1 qI (jb (two (rdS 0) (cI 1) ixD) nil1)) (Qb (cI 0) (two (rdS 0) (cI 1) ixD) (cI 9) leI leI) true) true)))
def qC:List D->Res D:=runF true 1 (wd zt qJ)
def qG (J5:TF):Sl->Res Out:=
 (seqO (ifO (orB (notB (asB (ke "list" (rdS 0)))) (asB (two (app (jb (rdS 0) nil1) lenD) (cI 60) gtI))) (retO (cB false)) nxO) (retO (toB (app (jb (xJ false 1 [] (itF (rdS 0)) (gN 0) zc (jA 1 J5 (jb (rdS 0) nil1))) nil1) allD) (two (WI (rdS 0)) (app (jb (rdS 0) nil1) lenD) eqR) true)))
def jz:List D->Res D:=runF true 1 (qG qC)
def jH (xC:TF):Sl->Res OutO:=
 (seqJ (ifJX (notB (asB (jA 1 xC (jb (rdS 1) nil1)))) (Ub "NoPaper") (W5 nxJ)) (W5 (VN 0 "Ranks" "rank" (app (jb (xJ false 2 [] (kO (rdS 1)) (g2 (gN 0) (gN 1)) zc (tupF (jb (rdS 1) (jb (rdS 0) nil1)))) nil1) WZ))))
def jk:FO:=Jr 2 1 (jH jz)
def qH (jv:FO):Sl->Res Out:=
 (seqO (jB 1 (cI 0)) (seqO (jB 2 cN) (seqO (tryO ["NoPaper"] (jB 2 (zl "Ranks" 1 jv (jb (rdS 0) nil1))) 3 (jB 1 (chk (app (jb (toB (isxF ["NoHead", "NoPaper", "NoRule"] (rdS 3)) (isxF ["NoHead", "NoPaper", "NoRule"] (rdS 3)) true) nil1) WQ)))) (retO (tupF (jb (rdS 1) (jb (rdS 2) nil1)))))))
def ql:List D->Res D:=runF true 4 (qH jk)
def zy:Sl->Res Out:=
 (seqO (jB 1 (two (two (cI 10) (cI 60) powI) (two (cI 10) (cI 24) powI) mulI)) (retO (two (two (two (two (rdS 0) (two (cI 10) (cI 60) powI) modI) (cI 41) addD) (two (cI 23) (cI 64) powI) mulI) (rdS 1) modI)))
def qW:List D->Res D:=runF true 2 (zy)
def wD:Sl->Res Out:=
 (retO (cB false))
def j7:List D->Res D:=runF true 3 (wD)
def xh:Sl->Res Out:=
 (retO (app (jb (fldF "Rules" "listed" (rdB 0)) nil1) K0))
def zT:List D->Res D:=runF true 1 (xh)
def xj (jT:TF) (jF:TF):Sl->Res Out:=
 (seqO (forO (itF (qv "Rules" "told" 1 jT (rdS 1) noA)) (g2 (gN 2) (gN 3)) (ifO (notB (asB (qv "Paper" "falls" 3 jF (rdS 0) (jb (rdS 2) (jb (rdS 3) nil1))))) (retO (cB false)) nxO)) (retO (cB true)))
def qQ:List D->Res D:=runF true 4 (xj zT j7)
def QP:Sl->Res Out:=
 (forX (itF (rdS 0)) (gN 2) (ifX (asB (two (rdS 2) (rdS 1) ninT)) (jaz "NoHead") (jcs nxO)))
def Q3:List D->Res D:=runX true 3 (QP)
def zA:Sl->Res Out:=
 (retO (app (jb (fldF "Rules" "named" (rdB 0)) nil1) K0))
def zG:List D->Res D:=runF true 1 (zA)
def xi (yz:TF) (jT:TF) (qw:TF):Sl->Res Out:=
 (seqO (jdY (jA 2 (fun ds=>nx1 (yz ds)) (jb (qv "Rules" "heads_of" 1 qw (rdS 1) noA) (jb (fldF "Ranks" "rank" (rdB 0)) nil1)))) (seqO (forO (itF (qv "Rules" "told" 1 jT (rdS 1) noA)) (g2 (gN 2) (gN 3)) (fun _=> .stuck)) (retO (cB true))))
def zU:List D->Res D:=runF true 4 (xi Q3 zT zG)
def qL:Sl->Res Out:=
 (retO (app (jb (fldF "Ranks" "rank" (rdB 0)) nil1) uI))
def jr:List D->Res D:=runF true 1 (qL)
def zz:Sl->Res Out:=
 (seqO (ifO (orB (notB (asB (isiF "list" (rdS 0)))) (asB (two (rdS 0) (rdS 1) neR))) (retO (cB false)) nxO) (seqO (forO (itF (rdS 0)) (gN 2) (ifO (orB (notB (asB (isiF "tuple" (rdS 2)))) (orB (notB (asB (isiF "int" (two (rdS 2) (cI 1) ixD)))) (asB (isiF "bool" (two (rdS 2) (cI 1) ixD))))) (retO (cB false)) nxO)) (retO (cB true))))
def qp:List D->Res D:=runF true 3 (zz)
def YV:Sl->Res Out:=
 (retO (ifD (asB (isiF "tuple" (rdS 0))) (yN (rdS 0) (VA (cI 1)) KQ slD) (tupF nil1)))
def Z7:List D->Res D:=runF true 1 (YV)
def kz (wn:TF) (qj:TF):Sl->Res Out:=
 (seqO (setO 1 (lstF (jb (rdS 0) nil1))) (seqO (forO (itF (jA 1 wn (jb (rdS 0) nil1))) (gN 2) (X7 1 (jA 1 qj (jb (rdS 2) nil1)))) (retO (rdO 1))))
def Qm:Nat->List D->Res D
 |0=>fun _=> .stuck
 |n+1=>runF true 3 (kz Z7 (Qm n))
def jaN:Sl->Res Out:=
 (retO (ifD (asB (isiF "tuple" (rdS 0))) (tupF (jb (two (rdS 0) (cI 0) ixD) (jb (two (app (jb (rdS 0) nil1) lenD) (cI 1) subI) nil1))) cN))
def ja7:List D->Res D:=runF true 1 (jaN)
def J1 (qj:TF) (kB:TF):Sl->Res Out:=
 (seqO (setO 1 cDT) (seqO (forO (itF (rdS 0)) (gN 2) (forO (itF (jA 1 qj (jb (rdS 2) nil1))) (gN 3) (ifO (asB (isiF "tuple" (rdS 3))) (jdZ 1 (jA 1 kB (jb (rdS 3) nil1)) (cB true)) nxO))) (frzO 1 (retO (app (jb (rdS 1) nil1) Xu)))))
def Qo:List D->Res D:=runF true 4 (J1 (Qm 64) ja7)
def xY (wn:TF):Sl->Res Out:=
 (seqO (setO 1 (lstF nil1)) (seqO (forO (itF (rdS 0)) (gN 2) (X7 1 (jA 1 wn (jb (rdS 2) nil1)))) (retO (rdO 1))))
def ye:List D->Res D:=runF true 3 (xY Z7)
def QS (wo:TF):Sl->Res Out:=
 (seqO (jB 1 (lstF (jb (rdS 0) nil1))) (seqO (jB 2 (cI 0)) (seqO (jB 3 (cI 0)) (seqO (Qw 2000 (truF (rdS 1)) (seqO (jB 2 (two (rdS 2) (cI 1) (augI fun i j=>i+j))) (seqO (jB 3 (two (rdS 3) (app (jb (rdS 1) nil1) lenD) (augI fun i j=>i+j))) (seqO (ifO (orB (asB (two (rdS 2) (cI 60) gtI)) (asB (two (rdS 3) (cI 1000) gtI))) (retO (cB true)) nxO) (jB 1 (jA 1 wo (jb (rdS 1) nil1))))))) (retO (cB false))))))
def Q5:List D->Res D:=runF true 4 (QS ye)
def QT (qI:TF):Sl->Res Out:=
 (retO (toB (jA 1 qI (jb (rdS 0) nil1)) (Qb (cI 0) (rdS 0) (cI 999) leI leI) true))
def Q6:List D->Res D:=runF true 1 (QT qJ)
def QR (yC:TF) (zn:TF):Sl->Res Out:=
 (seqO (ifO (asB (isiF "tuple" (rdS 0))) (retO (toB (Qb (cI 1) (app (jb (rdS 0) nil1) lenD) (two (cI 9) (cI 1) addD) leI leI) (jA 1 zn (jb (two (rdS 0) (cI 0) ixD) nil1)) true)) nxO) (retO (jA 1 yC (jb (rdS 0) nil1))))
def Q4:List D->Res D:=runF true 1 (QR Q6 zt)
def WT (yB:TF) (yA:TF) (qj:TF):Sl->Res Out:=
 (retO (toB (notF (jA 1 yB (jb (rdS 0) nil1))) (app (jb (xJ false 1 [] (itF (jA 1 qj (jb (rdS 0) nil1))) (gN 0) zc (jA 1 yA (jb (rdS 0) nil1))) nil1) allD) true))
def Xk:List D->Res D:=runF true 1 (WT Q5 Q4 (Qm 64))
def YW (qj:TF):Sl->Res Out:=
 (seqO (setO 1 cD) (seqO (forO (itF (jA 1 qj (jb (rdS 0) nil1))) (gN 2) (ifO (notB (asB (isiF "tuple" (rdS 2)))) (jd0 1 (rdS 2) (cB true)) nxO)) (frzO 1 (retO (app (jb (rdS 1) nil1) jbM)))))
def Ko:List D->Res D:=runF true 3 (YW (Qm 64))
def WU (x3:TF) (Jg:TF):Sl->Res Out:=
 (seqO (ifO (orB (notB (asB (isiF "tuple" (rdS 0)))) (asB (two (app (jb (rdS 0) nil1) lenD) (cI 2) neR))) (retO (cB false)) nxO) (seqO (ifO (orB (notB (asB (jA 1 x3 (jb (two (rdS 0) (cI 0) ixD) nil1)))) (orB (notB (asB (jA 1 x3 (jb (two (rdS 0) (cI 1) ixD) nil1)))) (notB (asB (isiF "tuple" (two (rdS 0) (cI 0) ixD)))))) (retO (cB false)) nxO) (retO (two (jA 1 Jg (jb (two (rdS 0) (cI 1) ixD) nil1)) (jA 1 Jg (jb (two (rdS 0) (cI 0) ixD) nil1)) subZ))))
def Xl:List D->Res D:=runF true 1 (WU Xk Ko)
def J0 (J4:TF):Sl->Res Out:=
 (seqO (ifO (orB (notB (asB (ke "list" (rdS 0)))) (asB (two (app (jb (rdS 0) nil1) lenD) (cI 40) gtI))) (retO (cB false)) nxO) (retO (app (jb (xJ false 1 [] (itF (rdS 0)) (gN 0) zc (jA 1 J4 (jb (rdS 0) nil1))) nil1) allD)))
def Qn:List D->Res D:=runF true 1 (J0 Xl)
def zB (xD:TF) (xB:TF):Sl->Res OutO:=
 (seqJ (ifJX (notB (asB (jA 1 xB (jb (rdS 1) nil1)))) (Ub "NoRule") (W5 nxJ)) (W5 (seqJ (VN 0 "Rules" "listed" (app (jb (rdS 1) nil1) jbL)) (VN 0 "Rules" "named" (jA 1 xD (jb (two (xJ false 2 [] (itF (rdS 1)) (g2 (gN 0) (gN 1)) zc (rdS 0)) (xJ false 2 [] (itF (rdS 1)) (g2 (gN 0) (gN 1)) zc (rdS 1)) addD) nil1))))))
def jS:FO:=Jr 2 1 (zB Qo Qn)
def jdQ (wE:TF) (xE:TF) (wF:TF) (jF:TF) (qN:TF) (zN:TF) (j3:TF) (zD:TF) (jR:FO) (jv:FO):Sl->Res Out:=
 (seqO (jB 1 (fun _=> .ok (.obj "Paper" [] []))) (seqO (forO (itF (yN (rdS 0) KQ (VA (cI 40)) slS)) (gN 2) (seqO (asgN 5 6 1 wE (jb (jA 1 wF (jb (rdS 2) nil1)) nil1)) (seqO (jB 4 (ifD (asB (isiF "list" (rdB 5))) (dupL 5) (rdS 5))) (seqO (asgO (ZD 5 (jA 1 xE (jb (rdS 5) nil1))) (g2 (gN 7) (gN 8))) (seqO (ifO (orB (asB (two (rdB 5) (rdS 4) neA)) (asB (two (rdS 7) (app (jb (notF (rdS 6)) nil1) WQ) neR))) (retO (cB false)) nxO) (ifO (truF (rdS 6)) (seqO (zO 5 (cI 0)) (seqO (ifO (orB (notB (asB (isoF ["Ranks"] (rdS 8)))) (notB (asB (jA 2 zD (jb (qv "Ranks" "told" 1 j3 (rdS 8) noA) (jb (rdS 4) nil1)))))) (retO (cB false)) nxO) (seqO (appT (qv "Ranks" "told" 1 j3 (rdS 8) noA) (cI 0)) (ifO (notB (asB (jA 2 zD (jb (qv "Ranks" "told" 1 j3 (rdS 8) noA) (jb (rdS 4) nil1))))) (retO (cB false)) nxO)))) nxO)))))) (seqO (jB 3 (tupF (jb (cS "f") (jb (tupF (jb (cS "a") nil1)) (jb (cI 3) nil1))))) (seqO (ifO (orB (asB (two (qv "Paper" "falls" 3 jF (rdS 1) (jb (rdS 3) (jb (tupF (jb (cS "a") nil1)) nil1))) (cB false) isnB)) (asB (two (qv "Paper" "falls" 3 jF (rdS 1) (jb (rdS 3) (jb (rdS 3) nil1))) (cB false) isnB))) (retO (cB false)) nxO) (seqO (ifO (orB (asB (two (qv "Paper" "lets" 2 qN (rdS 1) (jb (Qd (zl "Rules" 1 jR (jb (lstF nil1) nil1))) nil1)) (cB true) isnB)) (asB (two (qv "Paper" "lets" 2 qN (rdS 1) (jb (Qd (zl "Rules" 1 jR (jb (lstF (jb (tupF (jb (rdS 3) (jb (tupF (jb (cS "a") nil1)) nil1))) nil1)) nil1))) nil1)) (cB false) isnB))) (retO (cB false)) nxO) (retO (toB (two (qv "Ranks" "lets" 2 zN (Qd (zl "Ranks" 1 jv (jb (lstF nil1) nil1))) (jb (Qd (zl "Rules" 1 jR (jb (lstF nil1) nil1))) nil1)) (cB true) isB) (two (qv "Ranks" "told" 1 j3 (Qd (zl "Ranks" 1 jv (jb (lstF nil1) nil1))) noA) (lstF nil1) eqR) true)))))))
def F_law:List D->Res D:=runF true 9 (jdQ jV ql qW j7 qQ zU jr qp jS jk)
structure Gm (K:aaa) (TZ T5 TW TX T0 TR TU T7 TY TV T8 T4 T3 T6 TN:Addr) (mg:Xy):Prop where
 b_isinstance:mg "isinstance" =none
 b_bool:mg "bool" =none
 b_int:mg "int" =none
 b_all:mg "all" =none
 b_len:mg "len" =none
 b_tuple:mg "tuple" =none
 b_list:mg "list" =none
 b_sorted:mg "sorted" =none
 b_set:mg "set" =none
 b_range:mg "range" =none
 b_divmod:mg "divmod" =none
 b_str:mg "str" =none
 b_enumerate:mg "enumerate" =none
 b_dict:mg "dict" =none
 b_ValueError:mg "ValueError" =none
 c_LETTERS: ∃t,mg "LETTERS" =some (.str "abcdefghijklmnopqrstuvwxyz" t)
 c_MOST_LETTERS: ∃t,mg "MOST_LETTERS" =some (.int 8 t)
 c_MOST_PLACES: ∃t,mg "MOST_PLACES" =some (.int 9 t)
 c_MOST_BLANK: ∃t,mg "MOST_BLANK" =some (.int 999 t)
 c_MOST_LEVELS: ∃t,mg "MOST_LEVELS" =some (.int 60 t)
 c_MOST_PARTS: ∃t,mg "MOST_PARTS" =some (.int 1000 t)
 c_MOST_RANKED: ∃t,mg "MOST_RANKED" =some (.int 60 t)
 c_MOST_RULES: ∃t,mg "MOST_RULES" =some (.int 40 t)
 f_Ranks_rank:FldN K "Ranks" "rank"
 f_Rules_listed:FldN K "Rules" "listed"
 f_Rules_named:FldN K "Rules" "named"
 m_NoHead:mg "NoHead" =some (.ref TZ)
 m_NoPaper:mg "NoPaper" =some (.ref T5)
 m_NoRule:mg "NoRule" =some (.ref TW)
 m_NoLine:mg "NoLine" =some (.ref TX)
 m_NoName:mg "NoName" =some (.ref T0)
 m_NoPair:mg "NoPair" =some (.ref TR)
 m_NoPath:mg "NoPath" =some (.ref TU)
 m_NoReason:mg "NoReason" =some (.ref T7)
 m_NoStep:mg "NoStep" =some (.ref TY)
 m_NoText:mg "NoText" =some (.ref TV)
 m_TooGreat:mg "TooGreat" =some (.ref T8)
 m_TooLong:mg "TooLong" =some (.ref T4)
 m_TooMany:mg "TooMany" =some (.ref T3)
 m_EndError:mg "EndError" =some (.ref T6)
 m_Paper:mg "Paper" =some (.ref TN)
 n_NoHead:NmC K "NoHead" TZ
 q_NoHead:abL K TZ [.type "ValueError",.type "Exception",.type "BaseException",.type "object"] "ValueError.__new__" =true
 n_NoPaper:NmC K "NoPaper" T5
 q_NoPaper:abL K T5 [.type "ValueError",.type "Exception",.type "BaseException",.type "object"] "ValueError.__new__" =true
 n_NoRule:NmC K "NoRule" TW
 q_NoRule:abL K TW [.type "ValueError",.type "Exception",.type "BaseException",.type "object"] "ValueError.__new__" =true
 x_NoPaper: ∀c,[("NoPaper" :Str)].contains c=true-> ∀C,NmC K c C->acC K (.ref C) (.ref T5)=some true
 i_ValueError: ∀c,[("NoHead" :Str),("NoPaper" :Str),("NoRule" :Str)].contains c=true-> ∀C,NmC K c C->aaI K (.ref C) (.type "ValueError")=some true
 i_EndError: ∀c,[("NoHead" :Str),("NoPaper" :Str),("NoRule" :Str)].contains c=true-> ∀C,NmC K c C->aaI K (.ref C) (.ref T6)=some true
 io_Paper: ∀c,[("Ranks" :Str)].contains c=true-> ∀C,NmC K c C->aaI K (.ref C) (.ref TN)=some true
 bm_Paper:mg "Paper" =some (.ref TN)/\NmC K "Paper" TN/\MkB K TN
 nt_NoPaper: ∀c,[("NoPaper" :Str)].contains c=true-> ∀C,NmC K c C-> ∀q∈[TZ,TX,T0,TR,TU,T7,TW,TY,TV,T8,T4,T3],acC K (.ref C) (.ref q)=some false
def je6:FnScope ["_law_number", "_law_many", "_law_letters_here", "_law_found", "_law_k", "_law_at"] ["_law_number", "_law_many"] (jf zH):=fsc
def je5:FnScope ["_law_number", "_law_many", "_law_letters_here", "_law_front", "_law_behind", "_law_start", "_law_some", "_law_k", "_law_name", "_law_places"] ["_law_number", "_law_many"] (jf wv):=fsc
def je8:FnScope ["_law_number", "_law_some", "_law_one", "_law_odd_here"] ["_law_number", "_law_some"] (jf ym):=fsc
def je9:FnScope ["_law_number", "_law_some", "_law_way", "_law_many", "_law_at", "_law_odd_here"] ["_law_number"] (jf wu):=fsc
def jfk:FnScope ["thing"] ["thing"] (jf Jp):=fsc
def jfo:FnScope ["thing"] ["thing"] (jf yi):=fsc
def jfj:FnScope ["thing"] ["thing"] (jf Jq):=fsc
def jfb:FnScope ["thing"] ["thing"] (jf xt):=fsc
def jeX:FnScope ["self", "heads"] ["self", "heads"] (jf qu):=fsc
def je7:FnScope ["_law_thing_here", "_law_told", "_law_found", "e"] ["_law_thing_here"] (jf xv):=fsc
def je4:FnScope ["_law_cell", "_law_bound"] ["_law_cell"] (jf wx):=fsc
def jeV:FnScope ["self", "one", "other"] ["self", "one", "other"] (jf zg):=fsc
def je2:FnScope ["self"] ["self"] (jf zI):=fsc
def jeW:FnScope ["self", "rules", "left", "right"] ["self", "rules"] (jf zL):=fsc
def jfr:FnScope ["met", "known", "found"] ["met", "known"] (jf yh):=fsc
def je1:FnScope ["self"] ["self"] (jf qr):=fsc
def jeY:FnScope ["self", "rules", "left", "right"] ["self", "rules"] (jf zK):=fsc
def jeZ:FnScope ["self"] ["self"] (jf zJ):=fsc
def je3:FnScope ["_law_found", "_law_due", "_law_one"] ["_law_found", "_law_due"] (jf wy):=fsc
def jfu:FnScope ["term"] ["term"] (jf Zf):=fsc
def jft:FnScope ["term", "found", "place"] ["term"] (jf Xz):=fsc
def jff:FnScope ["term"] ["term"] (jf VS):=fsc
def jfa:FnScope ["terms", "met", "term", "found"] ["terms"] (jf xu):=fsc
def jfq:FnScope ["row", "below", "thing"] ["row"] (jf wj):=fsc
def jfi:FnScope ["thing", "row", "depth", "counted"] ["thing"] (jf yk):=fsc
def jfh:FnScope ["thing"] ["thing"] (jf yl):=fsc
def jfl:FnScope ["thing"] ["thing"] (jf yj):=fsc
def jfn:FnScope ["thing"] ["thing"] (jf Jn):=fsc
def jfe:FnScope ["term", "met", "found"] ["term"] (jf Zh):=fsc
def jfm:FnScope ["thing"] ["thing"] (jf Jo):=fsc
def jfc:FnScope ["thing"] ["thing"] (jf xr):=fsc
def je0:FnScope ["self", "rules"] ["self", "rules"] (jf qt):=fsc
def jfp:FnScope ["_law_script", "_law_plain", "_law_cell", "_law_one", "_law_kept", "_law_thing_here", "_law_good", "_law_told", "_law_found"] ["_law_script"] (jf Zg):=fsc
section
variable (P:aaA) (w:World) (K:aaa) (mg:Xy) (base:Heap) (k:Nat)
abbrev zP (f:TF):Prop:=Av P w K mg base k "_law_letters" ["_law_number", "_law_many"] false f
abbrev wO (f:TF):Prop:=Av P w K mg base k "_law_heads" ["_law_number", "_law_many"] true f
abbrev yL (f:TF):Prop:=Av P w K mg base k "_law_odd" ["_law_number", "_law_some"] false f
abbrev wN (f:TF):Prop:=Av P w K mg base k "_law_thing" ["_law_number"] true f
abbrev yd (f:TF):Prop:=Av P w K mg base k "is_name" ["thing"] true f
abbrev xf (f:TF):Prop:=Av P w K mg base k "is_whole" ["thing"] true f
abbrev Ql (f:TF):Prop:=Av P w K mg base k "is_head" ["thing"] true f
abbrev xM (f:TF):Prop:=Av P w K mg base k "are_ranks" ["thing"] true f
abbrev j5 (f:FO):Prop:=AvKX P w K mg base k "Ranks" 1 f
abbrev xO (f:TF):Prop:=Av P w K mg base k "_law_made" ["_law_thing_here"] true f
abbrev wP (f:TF):Prop:=Av P w K mg base k "_law_great" ["_law_cell"] true f
abbrev qB (f:TF):Prop:=AvM P w K mg base k "Paper" "falls" ["self", "one", "other"] true f
abbrev qO (f:TF):Prop:=AvM P w K mg base k "Rules" "told" ["self"] true f
abbrev zS (f:TF):Prop:=AvM P w K mg base k "Paper" "lets" ["self", "rules"] true f
abbrev yH (f:TF):Prop:=AvX P w K mg base k "look_for" ["met", "known"] true f
abbrev qz (f:TF):Prop:=AvM P w K mg base k "Rules" "heads_of" ["self"] true f
abbrev zR (f:TF):Prop:=AvM P w K mg base k "Ranks" "lets" ["self", "rules"] true f
abbrev zQ (f:TF):Prop:=AvM P w K mg base k "Ranks" "told" ["self"] true f
abbrev wQ (f:TF):Prop:=Av P w K mg base k "_law_alike" ["_law_found", "_law_due"] true f
abbrev Ji (f:TF):Prop:=Av P w K mg base k "places" ["term"] true f
abbrev yG (f:TF):Prop:=Av P w K mg base k "parts" ["term"] true f
abbrev vI (f:TF):Prop:=Av P w K mg base k "head" ["term"] true f
abbrev xN (f:TF):Prop:=Av P w K mg base k "all_heads" ["terms"] true f
abbrev wq (f:TF):Prop:=Av P w K mg base k "level_below" ["row"] true f
abbrev yJ (f:TF):Prop:=Av P w K mg base k "is_great" ["thing"] true f
abbrev yK (f:TF):Prop:=Av P w K mg base k "is_blank" ["thing"] true f
abbrev yI (f:TF):Prop:=Av P w K mg base k "is_piece" ["thing"] true f
abbrev Qj (f:TF):Prop:=Av P w K mg base k "is_term" ["thing"] true f
abbrev Z6 (f:TF):Prop:=Av P w K mg base k "blanks" ["term"] true f
abbrev Qk (f:TF):Prop:=Av P w K mg base k "is_rule" ["thing"] true f
abbrev xL (f:TF):Prop:=Av P w K mg base k "are_rules" ["thing"] true f
abbrev qA (f:FO):Prop:=AvKX P w K mg base k "Rules" 1 f
end
section
variable {P:aaA} {w:World} {K:aaa} {mg:Xy} {base:Heap} {k:Nat} {C:Addr} {TZ T5 TW TX T0 TR TU T7 TY TV T8 T4 T3 T6 TN:Addr}
variable (T:Gm K TZ T5 TW TX T0 TR TU T7 TY TV T8 T4 T3 T6 TN mg)
include T
theorem JF (d:Dx K mg "_law_letters" zH ["_law_number", "_law_many"]):
  zP P w K mg base (k+1) (runF false 6 (qK)):=
 zr false d je6 fun f cdv A outer s H E hr=>
  (je (by exact (jD 2 je6.nd (qm (l:= .s)))) (by exact (je (by exact (jD 3 je6.nd (qm (l:= .s)))) (by exact (je (by exact (wI abk rfl (W0 rfl T.b_range (ja (vb 1) jd)) (ju 4 je6.nd) (je (by exact (QY (DE.s (wZ zq wL rfl T.b_divmod qV (ja (dv 0) (ja i_s jd)))) (wJ rfl (ju 0 je6.nd) (ju 5 je6.nd)))) (by exact (jh (jD 3 je6.nd (DE.s (zE qh zi (dv 3) (qg (dv 2) (vb 5)))))))))) (by exact (jh (kU (dv 3)))))))))
theorem Zr (d:Dx K mg "_law_heads" wv ["_law_number", "_law_many"]) (xk:zP P w K mg base k qM):
  wO P w K mg base (k+1) (runF true 10 (zx qM)):=
 zr true d je5 fun f cdv A outer s H E hr=>
  (je (by exact (jD 2 je5.nd (qm (l:= .s)))) (by exact (je (by exact (jD 3 je5.nd (by exact Av.call xk hr (ja (by exact (o_s yt yu (vb 0) ib)) (ja (by exact (o_s JD JK (vb 0) ib)) jd))))) (by exact (je (by exact (jD 4 je5.nd (by exact Av.call xk hr (ja (by exact (o_s yt yu (vb 0) ib)) (ja (by exact (o_s JD JK (ob yt yu (vb 0) ib) ib)) jd))))) (by exact (je (by exact (jD 5 je5.nd (o_s JD JK (ob yt yu (vb 0) ib) ib))) (by exact (je (by exact (J7 6 je5.nd (qf jd))) (by exact (je (by exact (wI abk rfl (W0 rfl T.b_range (ja (vb 1) jd)) (ju 7 je5.nd) (je (by exact (QY (DE.s (wZ zq wL rfl T.b_divmod qV (ja (dv 0) (ja i_s jd)))) (wJ rfl (ju 0 je5.nd) (ju 9 je5.nd)))) (by exact (je (by exact (jD 8 je5.nd (DE.s (zE qh zi (dv 3) (qg (dv 2) (Qt (DE.b (zE qh zi (dv 5) (dv 7))) ib)))))) (by exact (je (by exact (jD 8 je5.nd (DE.s (zE qh zi (DE.s (zE qh zi (dv 8) (qg (dv 2) (Qt (DE.b (zE qh zi (dv 5) (o_s yt yu (vb 7) ib))) ib)))) (dv 4))))) (by exact (je (by exact (zo (DW.dt (kP (qe (JE (Room.u200 hr)) XV (Qt (vb 7) ib) ib) (Yc (qe (JE (Room.u200 hr)) XV (Qt (vb 0) ib) ib)))) (je (by exact (jD 8 je5.nd (qg (Y8 6 (ve (l':= .b) ib)) ib))) (by exact (jh (jD 9 je5.nd (o_s JD JK (DE.b (zE qh zi (qg (Y8 6 (ve (l':= .b) ib)) ib) i_s)) ib))))) jJ)) (by exact (jh (J8 6 (DE.s (jG (ja (dv 8) (ja (dv 9) jd)))))))))))))))) (by exact (jh (Ye 6))))))))))))))
theorem XT (d:Dx K mg "_law_odd" ym ["_law_number", "_law_some"]):
  yL P w K mg base (k+1) (runF false 4 (wV)):=
 zr false d je8 fun f cdv A outer s H E hr=>
  (je (by exact (jD 2 je8.nd (qg (dv 1) (Qt (vb 0) (jK (l':= .b) jO zp rfl T.b_len aa8 (ja (vb 1) jd)))))) (by exact (je (by exact (jD 0 je8.nd (o_s yt yu (vb 0) ib))) (by exact (je (by exact (jD 3 je8.nd (DE.s (qf (ja (by exact (DE.s (qT qU Qc rfl T.b_list jU (ja (dv 2) jd)))) (ja (by exact (qg (dv 2) ib)) (ja (W1 (l:= .s)) (ja i_s (ja (j9 (l:= .s)) (ja (DE.s (jG jd)) (ja (by exact (DE.s (jG (ja (by exact (qg (dv 2) ib)) jd)))) (ja (by exact (DE.s (jG (ja (by exact (qg (dv 2) ib)) (ja i_s (ja i_s jd)))))) (ja (by exact (DE.s (jG (ja (by exact (qg (dv 2) ib)) (ja (by exact (qg (dv 2) ib)) jd))))) (ja (by exact (DE.s (jG (ja (qm (l:= .s)) (ja i_s jd))))) (ja (by exact (DE.s (jG (ja (qm (l:= .s)) (ja i_s jd))))) jd))))))))))))))) (by exact (je (by exact (jD 3 je8.nd (DE.s (zE qh zi (dv 3) (DE.s (qf (ja (by exact (DE.s (jG (ja (qm (l:= .s)) (ja i_s jd))))) (ja (by exact (DE.s (jG (ja (qm (l:= .s)) (ja i_s jd))))) (ja (by exact (DE.s (jG (ja (qm (l:= .s)) (ja i_s jd))))) (ja (by exact (DE.s (jG (ja (by exact (qg (dv 2) ib)) (ja i_s jd))))) (ja (by exact (DE.s (jG (ja (by exact (qg (dv 2) ib)) (ja (by exact (ve (l':= .s) ib)) jd))))) (ja (by exact (DE.s (jG (ja (by exact (qg (dv 2) ib)) (ja (j9 (l:= .s)) jd))))) (ja (by exact (DE.s (jG (ja (by exact (qg (dv 2) ib)) (ja (W1 (l:= .s)) jd))))) jd))))))))))))) (by exact (je (by exact (jD 3 je8.nd (DE.s (zE qh zi (dv 3) (DE.s (qf (ja (by exact (DE.s (jG (ja (by exact (qg (dv 2) ib)) (ja (qm (l:= .s)) jd))))) (ja (by exact (DE.s (jG (ja (by exact (DE.s (jG (ja (by exact (qg (dv 2) ib)) jd)))) (ja i_s jd))))) (ja (by exact (DE.s (jG (ja i_s (ja i_s jd))))) (ja (by exact (DE.chk (l':= .s) (jd4 qh zi (DE.b (zE qh zi (qg (dv 2) ib) (qm (l:= .s)))) (yE W6 jcr rfl T.b_str aeZ (ja (by exact (DE.b (qg (dv 2) ib))) jd))))) jd)))))))))) (by exact (jh (kU (qg (dv 3) (Qt (vb 0) (jK (l':= .b) jO zp rfl T.b_len aa8 (ja (vb 3) jd))))))))))))))))
theorem Zq (d:Dx K mg "_law_thing" wu ["_law_number"]) (yT:wO P w K mg base k zC) (Vn:yL P w K mg base k yD):
  wN P w K mg base (k+1) (runF true 6 (yR zC yD)):=
 zr true d je9 fun f cdv A outer s H E hr=>
  (je (by exact (QY (DE.s (wZ zq wL rfl T.b_divmod qV (ja (dv 0) (ja i_s jd)))) (wJ rfl (ju 0 je9.nd) (ju 2 je9.nd)))) (by exact (je (by exact (QY (DE.s (wZ zq wL rfl T.b_divmod qV (ja (dv 0) (ja i_s jd)))) (wJ rfl (ju 0 je9.nd) (ju 3 je9.nd)))) (by exact (je (by exact (QY (DE.s (wZ zq wL rfl T.b_divmod qV (ja (dv 0) (ja i_s jd)))) (wJ rfl (ju 0 je9.nd) (ju 4 je9.nd)))) (by exact (je (by exact (J7 1 je9.nd (by exact Av.callT yT hr (ja (dv 0) (ja (dv 3) jd))))) (by exact (je (by exact (zo (DW.dt (kP (qe (JE (Room.u200 hr)) XV (vb 2) ib) (Yc (qe (JC (Room.u200 hr)) XU (db 1) (DE.b (qf jd)))))) (je (by exact (kW 1 (by exact (Qt (vb 4) (DE.b (zE qh zi (jK (l':= .s) jO zp rfl T.b_len aa8 (ja (db 1) jd)) i_s)))) (by exact (Y8 1 (Qt (vb 0) (jK (l':= .b) jO zp rfl T.b_len aa8 (ja (db 1) jd))))))) (by exact (jh (QX 1 (jw (jG (ja (dv 1) (ja (j9 (l:= .s)) jd)))))))) jJ)) (by exact (je (by exact (zo (DW.dt (kP (qe (JE (Room.u200 hr)) XV (vb 2) ib) (Yc (qe (JC (Room.u200 hr)) XU (db 1) (DE.b (qf jd)))))) (je (by exact (jad 1 (Qt (vb 4) (jK (l':= .b) jO zp rfl T.b_len aa8 (ja (db 1) jd))) (DE.lendS 1 (by exact Av.call Vn hr (ja (dv 0) (ja (dv 1) jd)))))) (by exact (jh (QX 1 (jw (jG (ja (dv 1) (ja (j9 (l:= .s)) jd)))))))) jJ)) (by exact (je (by exact (zo (qe (JE (Room.u200 hr)) XV (vb 2) ib) (je (by exact (QX 1 (J7 5 je9.nd (qf (ja (by exact (DE.s (qT Z2 jaq rfl T.b_tuple aaY (ja (dv 1) jd)))) (ja (W1 (l:= .s)) (ja i_s (ja (qm (l:= .s)) (ja (j9 (l:= .s)) (ja (DE.s Y9) (ja (by exact (DE.s (qf (ja (dv 1) jd)))) (ja (by exact (DE.s (by exact Av.callT yT hr (ja (dv 0) (ja i_s jd))))) (ja (by exact (DE.s (qf (ja (DE.s (jG jd)) jd)))) (ja (by exact (DE.s (qf (ja (DE.s (qf jd)) jd)))) (ja (by exact (DE.s (jG (ja (by exact (DE.s (jG (ja (qm (l:= .s)) (ja i_s jd))))) jd)))) jd))))))))))))))) (by exact (je (by exact (J8 5 (DE.s (qf (ja (by exact (DE.s (jG (ja (qm (l:= .s)) (ja i_s (ja i_s jd)))))) jd))))) (by exact (jh (jw (jG (ja (by exact (Y8 5 (Qt (vb 0) (jK (l':= .b) jO zp rfl T.b_len aa8 (ja (db 5) jd))))) (ja (j9 (l:= .s)) jd))))))))) jJ)) (by exact (jh (QX 1 (jw (jG (ja (dv 1) (ja (j9 (l:= .s)) jd))))))))))))))))))))
theorem KO (d:Dx K mg "is_name" Jp ["thing"]):
  yd P w K mg base (k+1) (runF true 1 (wC)):=
 zr true d jfk fun f cdv A outer s H E hr=>
  (je (by exact (zo (DW.dt (xF (qx (j4 (za (l':= .b) "str" "str" uQ (vb 0) rfl T.b_isinstance rfl T.b_str aeZ))) (we (qx (u7 Ww WB Ww WB ib (jK (l':= .b) jO zp rfl T.b_len aa8 (ja (vb 0) jd)) (gi rfl T.c_MOST_LETTERS)))))) (jh (jw (j9 (l:= .t)))) jJ)) (by exact (jh (jw (jK (l':= .t) (yb rfl) Ke rfl T.b_all acR (ja (by exact (DE.b (xH false ["sign", "."] 1 [] (xI none rfl rfl (by decide+kernel) trivial rfl) rfl (q8 (dv 0)) (fun C s₂ H₂ fp nd₂=>⟨(ju 0 nd₂),xG,(Ka (l:= .s) UE jdy (vb 0) (gst rfl T.c_LETTERS))⟩)))) jd))))))
theorem XN (d:Dx K mg "is_whole" yi ["thing"]):
  xf P w K mg base (k+1) (runF true 1 (QQ)):=
 zr true d jfo fun f cdv A outer s H E hr=>
  (jh (jw (x6 (za (l':= .b) "int" "int" YQ (vb 0) rfl T.b_isinstance rfl T.b_int acS) (yS (vc (l:= .t) (za (l':= .b) "bool" "bool" WN (vb 0) rfl T.b_isinstance rfl T.b_bool aeP))))))
theorem KP (d:Dx K mg "is_head" Jq ["thing"]) (Qp:yd P w K mg base k zn) (yM:xf P w K mg base k qI):
  Ql P w K mg base (k+1) (runF true 1 (wd zn qI)):=
 zr true d jfj fun f cdv A outer s H E hr=>
  (je (by exact (zo (DW.dt (xF (qx (j4 (za (l':= .b) "tuple" "tuple" j8 (vb 0) rfl T.b_isinstance rfl T.b_tuple aaY))) (we (qe (JC (Room.u200 hr)) XU (jK (l':= .b) jO zp rfl T.b_len aa8 (ja (vb 0) jd)) ib)))) (jh (jw (j9 (l:= .t)))) jJ)) (by exact (jh (jw (x6 (DE.b (by exact Av.callT Qp hr (ja (by exact (qg (dv 0) ib)) jd))) (x6 (DE.b (by exact Av.callT yM hr (ja (by exact (qg (dv 0) ib)) jd))) (yS (ZY (l:= .t) Ww WB Ww WB ib (DE.b (qg (dv 0) ib)) (gi rfl T.c_MOST_PLACES)))))))))
theorem Wy (d:Dx K mg "are_ranks" xt ["thing"]) (vK:Ql P w K mg base k J5):
  xM P w K mg base (k+1) (runF true 1 (qG J5)):=
 zr true d jfb fun f cdv A outer s H E hr=>
  (je (by exact (zo (DW.dt (xF (qx (j4 (vf (l':= .b) "list" "list" xW (vb 0) rfl T.b_isinstance rfl T.b_list jU))) (we (qe uv uB (jK (l':= .b) jO zp rfl T.b_len aa8 (ja (vb 0) jd)) (gi rfl T.c_MOST_RANKED))))) (jh (jw (j9 (l:= .t)))) jJ)) (by exact (jh (jw (x6 (jK (l':= .b) (yb rfl) Ke rfl T.b_all acR (ja (by exact (DE.b (xH false ["found", "."] 1 [] (xI none rfl rfl (by decide+kernel) trivial rfl) rfl (q8 (dv 0)) (fun C s₂ H₂ fp nd₂=>⟨(ju 0 nd₂),xG,(DE.s (by exact Av.callT vK hr (ja (dv 0) jd)))⟩)))) jd)) (yS (Ka (l:= .t) (JE (Room.u200 hr)) XV (K9 rfl (Room.u200 hr) (vb 0) rfl T.b_len rfl T.b_set) (jK (l':= .b) jO zp rfl T.b_len aa8 (ja (vb 0) jd)))))))))
theorem xy (d:Dm K C "__init__" "Ranks.__init__" qu ["self", "heads"]) (hC:aal K aak "Ranks" =some (some (.ref C))/\Cls K C) (hmg:mg "Ranks" =some (.ref C)) (mk:abP K C=true/\aaX K (.ref C)=true) (Yn:xM P w K mg base k xC):
  j5 P w K mg base (k+1) (Jr 2 1 (jH xC)):=
 vC d hC hmg mk jeX rfl (by decide) fun f cdv A outer s H E hr=>
  (QV (by exact (kT (qx (j4 (DE.b (by exact Av.callT Yn hr (ja (dv 1) jd))))) (WW (QW T.n_NoPaper T.m_NoPaper T.q_NoPaper ac2 (qm (l:= .b)) (fun _=>⟨_,rfl⟩))) (DSsO.x Y7))) (by exact (Y6 (ZU (i:=0) T.f_Ranks_rank (by exact (DE.s (qT (Ve rfl (jdM hr)) jau rfl T.b_dict Vf (ja (by exact (DE.s (xH false ["number", "found", "."] 2 [] (xI none rfl rfl (by decide+kernel) trivial rfl) rfl (jce rfl T.b_enumerate (dv 1)) (fun C s₂ H₂ fp nd₂=>⟨(wJ rfl (ju 0 nd₂) (ju 1 nd₂)),xG,(DE.s (jG (ja (dv 1) (ja (dv 0) jd))))⟩)))) jd))))))))
theorem WA (d : Dx K mg "_law_made" xv ["_law_thing_here"]) {jN : Nat} (j6 : j5 P w K mg base jN jv) (jX : jN + 1 <= k) :
    xO P w K mg base (k + 1) (runF true 4 (qH jv)) :=
  zr true d je7 fun f cdv A outer s H E hr =>
    (je (by exact (jD 1 je7.nd i_s)) (by exact (je (by exact (jD 2 je7.nd (W1 (l := .s)))) (by exact (je (by exact (jca [("NoHead", TZ, _), ("NoLine", TX, _), ("NoName", T0, _), ("NoPair", TR, _), ("NoPath", TU, _), ("NoReason", T7, _), ("NoRule", TW, _), ("NoStep", TY, _), ("NoText", TV, _), ("TooGreat", T8, _), ("TooLong", T4, _), ("TooMany", T3, _)] ["NoPaper"] 3 je7.nd (fun E' ps => by exact (u9 (u8 2 je7.nd (DEX.s (by exact AvKX.make j6 (hr.mono jX) (ja (dv 0) jd)))))) (fun e => by exact (jh (jD 1 je7.nd (DE.chk (l' := .s) (yE Xa vv rfl T.b_int acS (ja (by exact (x6 (jd5 (l' := .b) ["NoHead", "NoPaper", "NoRule"] "EndError" T.i_EndError (vb 3) rfl T.b_isinstance rfl T.m_EndError) (yS (jcj (l' := .b) ["NoHead", "NoPaper", "NoRule"] "ValueError" "ValueError" T.i_ValueError (vb 3) rfl T.b_isinstance rfl T.b_ValueError y4)))) jd)))))) T.m_NoPaper T.x_NoPaper (fun q9 h9 => by
      simp only [aaJ, ad1, or_false] at h9
      rcases h9 with rfl | rfl | rfl | rfl | rfl | rfl | rfl | rfl | rfl | rfl | rfl | rfl
      · exact ⟨rfl, T.m_NoHead, (by decide : (("NoHead" : Str) == "__debug__") = false)⟩
      · exact ⟨rfl, T.m_NoLine, (by decide : (("NoLine" : Str) == "__debug__") = false)⟩
      · exact ⟨rfl, T.m_NoName, (by decide : (("NoName" : Str) == "__debug__") = false)⟩
      · exact ⟨rfl, T.m_NoPair, (by decide : (("NoPair" : Str) == "__debug__") = false)⟩
      · exact ⟨rfl, T.m_NoPath, (by decide : (("NoPath" : Str) == "__debug__") = false)⟩
      · exact ⟨rfl, T.m_NoReason, (by decide : (("NoReason" : Str) == "__debug__") = false)⟩
      · exact ⟨rfl, T.m_NoRule, (by decide : (("NoRule" : Str) == "__debug__") = false)⟩
      · exact ⟨rfl, T.m_NoStep, (by decide : (("NoStep" : Str) == "__debug__") = false)⟩
      · exact ⟨rfl, T.m_NoText, (by decide : (("NoText" : Str) == "__debug__") = false)⟩
      · exact ⟨rfl, T.m_TooGreat, (by decide : (("TooGreat" : Str) == "__debug__") = false)⟩
      · exact ⟨rfl, T.m_TooLong, (by decide : (("TooLong" : Str) == "__debug__") = false)⟩
      · exact ⟨rfl, T.m_TooMany, (by decide : (("TooMany" : Str) == "__debug__") = false)⟩) (fun c9 hc9 C9 hC9 q9 h9 => T.nt_NoPaper c9 hc9 C9 hC9 q9.2.1 (List.mem_map_of_mem (f := fun q => q.2.1) h9)) (by decide : 12 <= 1000))) (by exact (jh (jw (jG (ja (dv 1) (ja (dv 2) jd)))))))))))
theorem Zs (d:Dx K mg "_law_great" wx ["_law_cell"]):
  wP P w K mg base (k+1) (runF true 2 (zy)):=
 zr true d je4 fun f cdv A outer s H E hr=>
  (je (by exact (jD 1 je4.nd (o_s UD jaE (uE ib ib) (uE ib ib)))) (by exact (jh (jw (k9 (l:= .t) JD JK (ob UD jaE (DE.b (zE qh zi (o_s JD JK (vb 0) (uE ib ib)) i_s)) (uE ib ib)) (vb 1))))))
theorem y0 (d:Dm K C "falls" "Paper.falls" zg ["self", "one", "other"]) (hC:aal K aak "Paper" =some (some (.ref C))/\Cls K C):
  qB P w K mg base (k+1) (runF true 3 (wD)):=
 Q0 true d hC jeV fun f cdv A outer s H E hr=>
  (jh (jw (j9 (l:= .t))))
theorem JG (d:Dm K C "told" "Rules.told" zI ["self"]) (hC:aal K aak "Rules" =some (some (.ref C))/\Cls K C):
  qO P w K mg base (k+1) (runF true 1 (xh)):=
 Q0 true d hC je2 fun f cdv A outer s H E hr=>
  (jh (jw (qT qU Qc rfl T.b_list jU (ja (by exact (ZX 0 T.f_Rules_listed)) jd))))
theorem JJ (d:Dm K C "lets" "Paper.lets" zL ["self", "rules"]) (hC:aal K aak "Paper" =some (some (.ref C))/\Cls K C) (zV:qO P w K mg base k jT) (qE:qB P w K mg base k jF):
  zS P w K mg base (k+1) (runF true 4 (xj jT jF)):=
 Q0 true d hC jeW fun f cdv A outer s H E hr=>
  (je (by exact (wI abk rfl (q8 (DE.s (by exact AvM.call0T zV hr (dv 1)))) (wJ rfl (ju 2 jeW.nd) (ju 3 jeW.nd)) (jh (zo (qx (j4 (DE.b (by exact AvM.callT qE hr (dv 0) (by exact (ja (dv 2) (ja (dv 3) jd))))))) (jh (jw (j9 (l:= .t)))) jJ)))) (by exact (jh (jw (j9 (l:= .t))))))
theorem XM (d:Dx K mg "look_for" yh ["met", "known"]):
  yH P w K mg base (k+1) (runX true 3 (QP)):=
 jec true d jfr fun f cdv A outer s H E hr=>
  (ZT (jb9 PassesOwn.leaving rfl (q8 (dv 0)) (ju 2 jfr.nd) (ZT (jdX (qe (jbw (jbU hr)) jbD (vb 2) (vb 1)) (ZT (kQ T.n_NoHead T.m_NoHead T.q_NoHead ac2 (qm (l:= .b)) (fun _=>⟨_,rfl⟩))) jaa))))
theorem xw (d:Dm K C "heads_of" "Rules.heads_of" qr ["self"]) (hC:aal K aak "Rules" =some (some (.ref C))/\Cls K C):
  qz P w K mg base (k+1) (runF true 1 (zA)):=
 Q0 true d hC je1 fun f cdv A outer s H E hr=>
  (jh (jw (qT qU Qc rfl T.b_list jU (ja (by exact (ZX 0 T.f_Rules_named)) jd))))
theorem JI (d:Dm K C "lets" "Ranks.lets" zK ["self", "rules"]) (hC:aal K aak "Ranks" =some (some (.ref C))/\Cls K C) (Vj:yH P w K mg base k yz) (zV:qO P w K mg base k jT) (yf:qz P w K mg base k qw):
  zR P w K mg base (k+1) (runF true 4 (xi yz jT qw)):=
 Q0 true d hC jeY fun f cdv A outer s H E hr=>
  (je (by exact (jcb (DE.b (by exact Av.callT (AvX.av Vj) hr (ja (by exact (DE.s (by exact AvM.call0T yf hr (dv 1)))) (ja (by exact (ZX 0 T.f_Ranks_rank)) jd)))))) (by exact (je (by exact (wI abk rfl (q8 (DE.s (by exact AvM.call0T zV hr (dv 1)))) (wJ rfl (ju 2 jeY.nd) (ju 3 jeY.nd)) jab)) (by exact (jh (jw (j9 (l:= .t))))))))
theorem JH (d:Dm K C "told" "Ranks.told" zJ ["self"]) (hC:aal K aak "Ranks" =some (some (.ref C))/\Cls K C):
  zQ P w K mg base (k+1) (runF true 1 (qL)):=
 Q0 true d hC jeZ fun f cdv A outer s H E hr=>
  (jh (jw (qT (Vc rfl) jar rfl T.b_list jU (ja (by exact (ZX 0 T.f_Ranks_rank)) jd))))
theorem Zt (d:Dx K mg "_law_alike" wy ["_law_found", "_law_due"]):
  wQ P w K mg base (k+1) (runF true 3 (zz)):=
 zr true d je3 fun f cdv A outer s H E hr=>
  (je (by exact (zo (DW.dt (xF (qx (j4 (za (l':= .b) "list" "list" xW (vb 0) rfl T.b_isinstance rfl T.b_list jU))) (we (qe (JC (Room.u200 hr)) XU (vb 0) (vb 1))))) (jh (jw (j9 (l:= .t)))) jJ)) (by exact (je (by exact (wI abk rfl (q8 (dv 0)) (ju 2 je3.nd) (jh (zo (DW.dt (xF (qx (j4 (za (l':= .b) "tuple" "tuple" j8 (vb 2) rfl T.b_isinstance rfl T.b_tuple aaY))) (xF (qx (j4 (za (l':= .b) "int" "int" YQ (DE.b (qg (dv 2) ib)) rfl T.b_isinstance rfl T.b_int acS))) (we (j4 (za (l':= .b) "bool" "bool" WN (DE.b (qg (dv 2) ib)) rfl T.b_isinstance rfl T.b_bool aeP)))))) (jh (jw (j9 (l:= .t)))) jJ)))) (by exact (jh (jw (j9 (l:= .t))))))))
theorem UF (d:Dx K mg "places" Zf ["term"]):
  Ji P w K mg base (k+1) (runF true 1 (YV)):=
 zr true d jfu fun f cdv A outer s H E hr=>
  (jh (jw (vg (j4 (za (l':= .b) "tuple" "tuple" j8 (vb 0) rfl T.b_isinstance rfl T.b_tuple aaY)) (jaj (dv 0) (kX ib) kY) (jG jd))))
theorem uz (d:Dx K mg "parts" Xz ["term"]) (Z8:Ji P w K mg base k wn) (xQ:yG P w K mg base k qj):
  yG P w K mg base (k+1) (runF true 3 (kz wn qj)):=
 zr true d jft fun f cdv A outer s H E hr=>
  (je (by exact (J7 1 jft.nd (qf (ja (dv 0) jd)))) (by exact (je (by exact (wI abk rfl (q8 (DE.s (by exact Av.callT Z8 hr (ja (dv 0) jd)))) (ju 2 jft.nd) (jh (WX 1 (DE.s (by exact Av.callT xQ hr (ja (dv 2) jd))))))) (by exact (jh (Ye 1))))))
theorem jbA (d:Dx K mg "head" VS ["term"]):
  vI P w K mg base (k+1) (runF true 1 (jaN)):=
 zr true d jff fun f cdv A outer s H E hr=>
  (jh (jw (vg (j4 (za (l':= .b) "tuple" "tuple" j8 (vb 0) rfl T.b_isinstance rfl T.b_tuple aaY)) (jG (ja (by exact (qg (dv 0) ib)) (ja (by exact (o_s jdn jdu (jK (l':= .b) jO zp rfl T.b_len aa8 (ja (vb 0) jd)) ib)) jd))) (W1 (l:= .t)))))
theorem Wz (d:Dx K mg "all_heads" xu ["terms"]) (xQ:yG P w K mg base k qj) (jei:vI P w K mg base k kB):
  xN P w K mg base (k+1) (runF true 4 (J1 qj kB)):=
 zr true d jfa fun f cdv A outer s H E hr=>
  (je (by exact (J7 1 jfa.nd vi)) (by exact (je (by exact (wI abk rfl (q8 (dv 0)) (ju 2 jfa.nd) (jh (wI abk rfl (q8 (DE.s (by exact Av.callT xQ hr (ja (dv 2) jd)))) (ju 3 jfa.nd) (jh (zo (j4 (za (l':= .b) "tuple" "tuple" j8 (vb 3) rfl T.b_isinstance rfl T.b_tuple aaY)) (jh (jae 1 (jbU hr) (DE.b (by exact Av.callT jei hr (ja (dv 3) jd))) (j9 (l:= .s)))) jJ)))))) (by exact (jh (QX 1 (jw (wZ (W7 rfl) Vb rfl T.b_sorted Xc (ja (dv 1) jd)))))))))
theorem Qs (d:Dx K mg "level_below" wj ["row"]) (Z8:Ji P w K mg base k wn):
  wq P w K mg base (k+1) (runF true 3 (xY wn)):=
 zr true d jfq fun f cdv A outer s H E hr=>
  (je (by exact (J7 1 jfq.nd (qf jd))) (by exact (je (by exact (wI abk rfl (q8 (dv 0)) (ju 2 jfq.nd) (jh (WX 1 (DE.s (by exact Av.callT Z8 hr (ja (dv 2) jd))))))) (by exact (jh (Ye 1))))))
theorem XR (d:Dx K mg "is_great" yk ["thing"]) (Z9:wq P w K mg base k wo):
  yJ P w K mg base (k+1) (runF true 4 (QS wo)):=
 zr true d jfi fun f cdv A outer s H E hr=>
  (je (by exact (jD 1 jfi.nd (DE.s (qf (ja (dv 0) jd))))) (by exact (je (by exact (jD 2 jfi.nd i_s)) (by exact (je (by exact (jD 3 jfi.nd i_s)) (by exact (je (by exact (jac 2000 abk (jaX (vb 1)) (je (by exact (jaY 2 jfi.nd ib jaM)) (by exact (je (by exact (jaY 3 jfi.nd (jK (l':= .b) jO zp rfl T.b_len aa8 (ja (vb 1) jd)) jaM)) (by exact (je (by exact (zo (DW.dt (xF (qe uv uB (vb 2) (gi rfl T.c_MOST_LEVELS)) (we (qe uv uB (vb 3) (gi rfl T.c_MOST_PARTS))))) (jh (jw (j9 (l:= .t)))) jJ)) (by exact (jh (jD 1 jfi.nd (DE.s (by exact Av.callT Z9 hr (ja (dv 1) jd))))))))))))) (by exact (jh (jw (j9 (l:= .t))))))))))))
theorem XS (d:Dx K mg "is_blank" yl ["thing"]) (yM:xf P w K mg base k qI):
  yK P w K mg base (k+1) (runF true 1 (QT qI)):=
 zr true d jfh fun f cdv A outer s H E hr=>
  (jh (jw (x6 (DE.b (by exact Av.callT yM hr (ja (dv 0) jd))) (yS (ZY (l:= .t) Ww WB Ww WB ib (vb 0) (gi rfl T.c_MOST_BLANK))))))
theorem XQ (d:Dx K mg "is_piece" yj ["thing"]) (Vm:yK P w K mg base k yC) (Qp:yd P w K mg base k zn):
  yI P w K mg base (k+1) (runF true 1 (QR yC zn)):=
 zr true d jfl fun f cdv A outer s H E hr=>
  (je (by exact (zo (j4 (za (l':= .b) "tuple" "tuple" j8 (vb 0) rfl T.b_isinstance rfl T.b_tuple aaY)) (jh (jw (x6 (ZY (l:= .b) Ww WB Ww WB ib (jK (l':= .b) jO zp rfl T.b_len aa8 (ja (vb 0) jd)) (DE.b (zE qh zi (gis rfl T.c_MOST_PLACES) i_s))) (yS (by exact Av.callT Qp hr (ja (by exact (qg (dv 0) ib)) jd)))))) jJ)) (by exact (jh (jw (by exact Av.callT Vm hr (ja (dv 0) jd))))))
theorem KM (d:Dx K mg "is_term" Jn ["thing"]) (Vl:yJ P w K mg base k yB) (Vk:yI P w K mg base k yA) (xQ:yG P w K mg base k qj):
  Qj P w K mg base (k+1) (runF true 1 (WT yB yA qj)):=
 zr true d jfn fun f cdv A outer s H E hr=>
  (jh (jw (x6 (vc (l:= .b) (DE.b (by exact Av.callT Vl hr (ja (dv 0) jd)))) (yS (jK (l':= .t) (yb rfl) Ke rfl T.b_all acR (ja (by exact (DE.b (xH false ["found", "."] 1 [] (xI none rfl rfl (by decide+kernel) trivial rfl) rfl (q8 (DE.s (by exact Av.callT xQ hr (ja (dv 0) jd)))) (fun C s₂ H₂ fp nd₂=>⟨(ju 0 nd₂),xG,(DE.s (by exact Av.callT Vk hr (ja (dv 0) jd)))⟩)))) jd))))))
theorem UG (d:Dx K mg "blanks" Zh ["term"]) (xQ:yG P w K mg base k qj):
  Z6 P w K mg base (k+1) (runF true 3 (YW qj)):=
 zr true d jfe fun f cdv A outer s H E hr=>
  (je (by exact (J7 1 jfe.nd Y9)) (by exact (je (by exact (wI abk rfl (q8 (DE.s (by exact Av.callT xQ hr (ja (dv 0) jd)))) (ju 2 jfe.nd) (jh (zo (qx (j4 (za (l':= .b) "tuple" "tuple" j8 (vb 2) rfl T.b_isinstance rfl T.b_tuple aaY))) (jh (jcc 1 (jbU hr) (vb 2) (j9 (l:= .s)))) jJ)))) (by exact (jh (QX 1 (jw (qT (Vd rfl) jat rfl T.b_list jU (ja (dv 1) jd)))))))))
theorem KN (d:Dx K mg "is_rule" Jo ["thing"]) (Xm:Qj P w K mg base k x3) (Kp:Z6 P w K mg base k Jg):
  Qk P w K mg base (k+1) (runF true 1 (WU x3 Jg)):=
 zr true d jfm fun f cdv A outer s H E hr=>
  (je (by exact (zo (DW.dt (xF (qx (j4 (za (l':= .b) "tuple" "tuple" j8 (vb 0) rfl T.b_isinstance rfl T.b_tuple aaY))) (we (qe (JC (Room.u200 hr)) XU (jK (l':= .b) jO zp rfl T.b_len aa8 (ja (vb 0) jd)) ib)))) (jh (jw (j9 (l:= .t)))) jJ)) (by exact (je (by exact (zo (DW.dt (xF (qx (j4 (DE.b (by exact Av.callT Xm hr (ja (by exact (qg (dv 0) ib)) jd))))) (xF (qx (j4 (DE.b (by exact Av.callT Xm hr (ja (by exact (qg (dv 0) ib)) jd))))) (we (qx (j4 (za (l':= .b) "tuple" "tuple" j8 (DE.b (qg (dv 0) ib)) rfl T.b_isinstance rfl T.b_tuple aaY))))))) (jh (jw (j9 (l:= .t)))) jJ)) (by exact (jh (jw (jci (l:= .t) rfl (by exact (DE.b (by exact Av.callT Kp hr (ja (by exact (qg (dv 0) ib)) jd)))) (by exact (DE.b (by exact Av.callT Kp hr (ja (by exact (qg (dv 0) ib)) jd)))) rfl T.b_len rfl T.b_set)))))))
theorem Wx (d:Dx K mg "are_rules" xr ["thing"]) (vJ:Qk P w K mg base k J4):
  xL P w K mg base (k+1) (runF true 1 (J0 J4)):=
 zr true d jfc fun f cdv A outer s H E hr=>
  (je (by exact (zo (DW.dt (xF (qx (j4 (vf (l':= .b) "list" "list" xW (vb 0) rfl T.b_isinstance rfl T.b_list jU))) (we (qe uv uB (jK (l':= .b) jO zp rfl T.b_len aa8 (ja (vb 0) jd)) (gi rfl T.c_MOST_RULES))))) (jh (jw (j9 (l:= .t)))) jJ)) (by exact (jh (jw (jK (l':= .t) (yb rfl) Ke rfl T.b_all acR (ja (by exact (DE.b (xH false ["rule", "."] 1 [] (xI none rfl rfl (by decide+kernel) trivial rfl) rfl (q8 (dv 0)) (fun C s₂ H₂ fp nd₂=>⟨(ju 0 nd₂),xG,(DE.s (by exact Av.callT vJ hr (ja (dv 0) jd)))⟩)))) jd))))))
theorem xx (d:Dm K C "__init__" "Rules.__init__" qt ["self", "rules"]) (hC:aal K aak "Rules" =some (some (.ref C))/\Cls K C) (hmg:mg "Rules" =some (.ref C)) (mk:abP K C=true/\aaX K (.ref C)=true) (Yo:xN P w K mg base k xD) (Ym:xL P w K mg base k xB):
  qA P w K mg base (k+1) (Jr 2 1 (zB xD xB)):=
 vC d hC hmg mk je0 rfl (by decide) fun f cdv A outer s H E hr=>
  (QV (by exact (kT (qx (j4 (DE.b (by exact Av.callT Ym hr (ja (dv 1) jd))))) (WW (QW T.n_NoRule T.m_NoRule T.q_NoRule ac2 (qm (l:= .b)) (fun _=>⟨_,rfl⟩))) (DSsO.x Y7))) (by exact (kR (by exact (ZU (i:=0) T.f_Rules_listed (by exact (DE.s (qT qU jas rfl T.b_list jU (ja (dv 1) jd)))))) (by exact (Y6 (ZU (i:=0) T.f_Rules_named (by exact (DE.s (by exact Av.callT Yo hr (ja (by exact (DE.s (zE qh zi (DE.s (xH false ["left", "right", "."] 2 [] (xI none rfl rfl (by decide+kernel) trivial rfl) rfl (q8 (dv 1)) (fun C s₂ H₂ fp nd₂=>⟨(wJ rfl (ju 0 nd₂) (ju 1 nd₂)),xG,(dv 0)⟩))) (DE.s (xH false ["left", "right", "."] 2 [] (xI none rfl rfl (by decide+kernel) trivial rfl) rfl (q8 (dv 1)) (fun C s₂ H₂ fp nd₂=>⟨(wJ rfl (ju 0 nd₂) (ju 1 nd₂)),xG,(dv 1)⟩)))))) jd))))))))))
theorem jds {f:Addr} {fd:abK} (Fu:Fun K "law" "law" Zg f fd) (Xn:wN P w K mg base k wE) (Yp:xO P w K mg base k xE) (Xo:wP P w K mg base k wF) (qE:qB P w K mg base k jF) (xl:zS P w K mg base k qN) (Qv:zR P w K mg base k zN) (qR:zQ P w K mg base k j3) (yU:wQ P w K mg base k zD) {zm:Nat} (qD:qA P w K mg base zm jR) (qi:zm+1<=k) {jN:Nat} (j6:j5 P w K mg base jN jv) (jX:jN+1<=k):
  FnOk P w K mg base CX0 (k+1) f fd ["_law_script"] (spF K true 1 (runF true 9 (jdQ wE xE wF jF qN zN j3 zD jR jv))):=
 K6 true Fu jfp fun cdv A outer s H E hr=>
  (je (by exact (jD 1 jfp.nd (DE.s (jcm T.bm_Paper.2.2 T.bm_Paper.2.1 rfl T.bm_Paper.1)))) (by exact (je (by exact (wI abk rfl (q8 (DE.s (k4 (dv 0) kY (kX ib)))) (ju 2 jfp.nd) (je (by exact (Av.asgN Xn 5 6 hr rfl jfp.nd (ja (by exact (DE.s (by exact Av.callT Xo hr (ja (dv 2) jd)))) jd))) (by exact (je (by exact (jD 4 jfp.nd (vg (j4 (za (l':= .b) "list" "list" xW (db 5) rfl T.b_isinstance rfl T.b_list jU)) (DE.s (jak 5 rfl T.b_list)) (dv 5)))) (by exact (je (by exact (QY (DE.lendBS 5 (DE.s (by exact Av.callT Yp hr (ja (dv 5) jd)))) (wJ rfl (ju 7 jfp.nd) (ju 8 jfp.nd)))) (by exact (je (by exact (zo (DW.dt (xF (qe (jdp (Room.u200 hr)) jdw (db 5) (vb 4)) (we (qe (JC (Room.u200 hr)) XU (vb 7) (yE Xa vv rfl T.b_int acS (ja (by exact (vc (l:= .b) (vb 6))) jd)))))) (jh (jw (j9 (l:= .t)))) jJ)) (by exact (jh (zo (jaX (vb 6)) (je (by exact (J8 5 i_s)) (by exact (je (by exact (zo (DW.dt (xF (qx (j4 (jd6 (l':= .b) ["Ranks"] "Paper" T.io_Paper (vb 8) rfl T.b_isinstance rfl T.m_Paper))) (we (qx (j4 (DE.b (by exact Av.callT yU hr (ja (by exact (DE.s (by exact AvM.call0T qR hr (dv 8)))) (ja (dv 4) jd))))))))) (jh (jw (j9 (l:= .t)))) jJ)) (by exact (je (by exact (jcd (by exact (by exact AvM.call0T qR hr (dv 8))) i_s)) (by exact (jh (zo (qx (j4 (DE.b (by exact Av.callT yU hr (ja (by exact (DE.s (by exact AvM.call0T qR hr (dv 8)))) (ja (dv 4) jd)))))) (jh (jw (j9 (l:= .t)))) jJ)))))))) jJ)))))))))))) (by exact (je (by exact (jD 3 jfp.nd (DE.s (jG (ja (qm (l:= .s)) (ja (by exact (DE.s (jG (ja (qm (l:= .s)) jd)))) (ja i_s jd))))))) (by exact (je (by exact (zo (DW.dt (xF (qe Zp Zv (DE.b (by exact AvM.callT qE hr (dv 1) (by exact (ja (dv 3) (ja (by exact (DE.s (jG (ja (qm (l:= .s)) jd)))) jd))))) (j9 (l:= .b))) (we (qe Zp Zv (DE.b (by exact AvM.callT qE hr (dv 1) (by exact (ja (dv 3) (ja (dv 3) jd))))) (j9 (l:= .b)))))) (jh (jw (j9 (l:= .t)))) jJ)) (by exact (je (by exact (zo (DW.dt (xF (qe Zp Zv (DE.b (by exact AvM.callT xl hr (dv 1) (by exact (ja (by exact (DE.s (DEX.calm (by exact AvKX.make qD (hr.mono qi) (by exact (ja (DE.s (qf jd)) jd)))))) jd)))) (j9 (l:= .b))) (we (qe Zp Zv (DE.b (by exact AvM.callT xl hr (dv 1) (by exact (ja (by exact (DE.s (DEX.calm (by exact AvKX.make qD (hr.mono qi) (by exact (ja (by exact (DE.s (qf (ja (by exact (DE.s (jG (ja (dv 3) (ja (by exact (DE.s (jG (ja (qm (l:= .s)) jd)))) jd))))) jd)))) jd)))))) jd)))) (j9 (l:= .b)))))) (jh (jw (j9 (l:= .t)))) jJ)) (by exact (jh (jw (x6 (Ka (l:= .b) jdq jdx (DE.b (by exact AvM.callT Qv hr (by exact (DE.s (DEX.calm (by exact AvKX.make j6 (hr.mono jX) (by exact (ja (DE.s (qf jd)) jd)))))) (by exact (ja (by exact (DE.s (DEX.calm (by exact AvKX.make qD (hr.mono qi) (by exact (ja (DE.s (qf jd)) jd)))))) jd)))) (j9 (l:= .b))) (yS (Ka (l:= .t) (JE (Room.u200 hr)) XV (DE.b (by exact AvM.call0T qR hr (by exact (DE.s (DEX.calm (by exact AvKX.make j6 (hr.mono jX) (by exact (ja (DE.s (qf jd)) jd)))))))) (DE.b (qf jd)))))))))))))))))
end
def all_mk {l:aeW} {w:World} {K:aaa} {h:Heap} {mg:Xy} {fa p32:Addr} (KX:K.In h) (G:h.Ns aak mg) (hfa:mg "law" =some (.ref fa))
  {od32 an32:Option Addr} {sl32:Array (Option Value)} {oc32 kV32 dc32 pm32 cd32 ct32:Value} {TZ T5 TW TX T0 TR TU T7 TY TV T8 T4 T3 T6 TN:Addr} {TQ TM:Addr}
  (d0:DefN K "_law_letters" zH)
  (d1:DefN K "_law_heads" wv)
  (d2:DefN K "_law_odd" ym)
  (d3:DefN K "_law_thing" wu)
  (d4:DefN K "is_name" Jp)
  (d5:DefN K "is_whole" yi)
  (d6:DefN K "is_head" Jq)
  (d7:DefN K "are_ranks" xt)
  (d8:DefM K TQ "__init__" "Ranks.__init__" qu)
  (d9:DefN K "_law_made" xv)
  (d10:DefN K "_law_great" wx)
  (d11:DefM K TN "falls" "Paper.falls" zg)
  (d12:DefM K TM "told" "Rules.told" zI)
  (d13:DefM K TN "lets" "Paper.lets" zL)
  (d14:DefN K "look_for" yh)
  (d15:DefM K TM "heads_of" "Rules.heads_of" qr)
  (d16:DefM K TQ "lets" "Ranks.lets" zK)
  (d17:DefM K TQ "told" "Ranks.told" zJ)
  (d18:DefN K "_law_alike" wy)
  (d19:DefN K "places" Zf)
  (d20:DefN K "parts" Xz)
  (d21:DefN K "head" VS)
  (d22:DefN K "all_heads" xu)
  (d23:DefN K "level_below" wj)
  (d24:DefN K "is_great" yk)
  (d25:DefN K "is_blank" yl)
  (d26:DefN K "is_piece" yj)
  (d27:DefN K "is_term" Jn)
  (d28:DefN K "blanks" Zh)
  (d29:DefN K "is_rule" Jo)
  (d30:DefN K "are_rules" xr)
  (d31:DefM K TM "__init__" "Rules.__init__" qt)
  (a32:aal K aak "law" =some (some (.ref p32))) (l32:K.lookup p32=some ⟨oc32,od32,.func (acb "law" "law" (wK Zg) (jY Zg) (jf Zg) .none kV32 dc32 pm32 an32 cd32 ct32),sl32⟩) (c32:adF K cd32 "law" =true) (k32:aaX K (.ref p32)=true)
  (z0:aal K aak "isinstance" =some none)
  (z1:aal K aak "bool" =some none)
  (z2:aal K aak "int" =some none)
  (z3:aal K aak "all" =some none)
  (z4:aal K aak "len" =some none)
  (z5:aal K aak "tuple" =some none)
  (z6:aal K aak "list" =some none)
  (z7:aal K aak "sorted" =some none)
  (z8:aal K aak "set" =some none)
  (z9:aal K aak "range" =some none)
  (z10:aal K aak "divmod" =some none)
  (z11:aal K aak "str" =some none)
  (z12:aal K aak "enumerate" =some none)
  (z13:aal K aak "dict" =some none)
  (z14:aal K aak "ValueError" =some none)
  (y_LETTERS: ∃t,aal K aak "LETTERS" =some (some (.str "abcdefghijklmnopqrstuvwxyz" t)))
  (y_MOST_LETTERS: ∃t,aal K aak "MOST_LETTERS" =some (some (.int 8 t)))
  (y_MOST_PLACES: ∃t,aal K aak "MOST_PLACES" =some (some (.int 9 t)))
  (y_MOST_BLANK: ∃t,aal K aak "MOST_BLANK" =some (some (.int 999 t)))
  (y_MOST_LEVELS: ∃t,aal K aak "MOST_LEVELS" =some (some (.int 60 t)))
  (y_MOST_PARTS: ∃t,aal K aak "MOST_PARTS" =some (some (.int 1000 t)))
  (y_MOST_RANKED: ∃t,aal K aak "MOST_RANKED" =some (some (.int 60 t)))
  (y_MOST_RULES: ∃t,aal K aak "MOST_RULES" =some (some (.int 40 t)))
  (wY:aal K aak "Ranks" =some (some (.ref TQ))) (Jb:ab6 K TQ Str.empty=true) (Jf:ack K TQ=true) (y9:acW K TQ=true) (y8:aaW K (.ref TQ) "__setattr__" =some (some (.builtin "object.__setattr__")))
  (wX:aal K aak "Rules" =some (some (.ref TM))) (xU:ab6 K TM Str.empty=true) (xX:ack K TM=true) (xT:acW K TM=true) (xR:aaW K (.ref TM) "__setattr__" =some (some (.builtin "object.__setattr__")))
  (ZR:aal K aak "Paper" =some (some (.ref TN))) (Zl:ab6 K TN Str.empty=true) (ZJ:ack K TN=true) (Zj:acW K TN=true) (Ze:aaW K (.ref TN) "__setattr__" =some (some (.builtin "object.__setattr__")))
  (wm:aaW K (.ref TQ) "rank" =some none)
  (zj:aaW K (.ref TM) "listed" =some none)
  (zM:aaW K (.ref TM) "named" =some none)
  (Zz:abP K TQ=true) (ZG:aaX K (.ref TQ)=true)
  (Zy:abP K TM=true) (ZF:aaX K (.ref TM)=true)
  (e_NoHead:aal K aak "NoHead" =some (some (.ref TZ)))
  (e_NoPaper:aal K aak "NoPaper" =some (some (.ref T5)))
  (e_NoRule:aal K aak "NoRule" =some (some (.ref TW)))
  (e_NoLine:aal K aak "NoLine" =some (some (.ref TX)))
  (e_NoName:aal K aak "NoName" =some (some (.ref T0)))
  (e_NoPair:aal K aak "NoPair" =some (some (.ref TR)))
  (e_NoPath:aal K aak "NoPath" =some (some (.ref TU)))
  (e_NoReason:aal K aak "NoReason" =some (some (.ref T7)))
  (e_NoStep:aal K aak "NoStep" =some (some (.ref TY)))
  (e_NoText:aal K aak "NoText" =some (some (.ref TV)))
  (e_TooGreat:aal K aak "TooGreat" =some (some (.ref T8)))
  (e_TooLong:aal K aak "TooLong" =some (some (.ref T4)))
  (e_TooMany:aal K aak "TooMany" =some (some (.ref T3)))
  (e_EndError:aal K aak "EndError" =some (some (.ref T6)))
  (e_Paper:aal K aak "Paper" =some (some (.ref TN)))
  (q_NoHead:abL K TZ [.type "ValueError",.type "Exception",.type "BaseException",.type "object"] "ValueError.__new__" =true)
  (q_NoPaper:abL K T5 [.type "ValueError",.type "Exception",.type "BaseException",.type "object"] "ValueError.__new__" =true)
  (q_NoRule:abL K TW [.type "ValueError",.type "Exception",.type "BaseException",.type "object"] "ValueError.__new__" =true)
  (x_NoPaper_NoPaper:acC K (.ref T5) (.ref T5)=some true)
  (i_ValueError_NoHead:aaI K (.ref TZ) (.type "ValueError")=some true)
  (i_ValueError_NoPaper:aaI K (.ref T5) (.type "ValueError")=some true)
  (i_ValueError_NoRule:aaI K (.ref TW) (.type "ValueError")=some true)
  (i_EndError_NoHead:aaI K (.ref TZ) (.ref T6)=some true)
  (i_EndError_NoPaper:aaI K (.ref T5) (.ref T6)=some true)
  (i_EndError_NoRule:aaI K (.ref TW) (.ref T6)=some true)
  (io_Paper_Ranks:aaI K (.ref TQ) (.ref TN)=some true)
  (bb_Paper:MkB K TN)
  (nt_NoPaper_NoPaper: ∀q∈[TZ,TX,T0,TR,TU,T7,TW,TY,TV,T8,T4,T3],acC K (.ref T5) (.ref q)=some false)
  : ∃fd:abK,(∀(s:aaf) (v:Value),BindsTo s fd ⟨[v],[]⟩ [("_law_script",v)])/\ ∀base:Heap,K.In base->base.Ns aak mg->FnOk l.prog w K mg base CX0 71 fa fd ["_law_script"] (spF K true 1 F_law):=by
 have e:=hfa.symm.trans (aaH KX G a32);cases e
 have T:Gm K TZ T5 TW TX T0 TR TU T7 TY TV T8 T4 T3 T6 TN mg:=⟨aaS KX G z0,aaS KX G z1,aaS KX G z2,aaS KX G z3,aaS KX G z4,aaS KX G z5,aaS KX G z6,aaS KX G z7,aaS KX G z8,aaS KX G z9,aaS KX G z10,aaS KX G z11,aaS KX G z12,aaS KX G z13,aaS KX G z14,y_LETTERS.imp fun _ h=>aaH KX G h,y_MOST_LETTERS.imp fun _ h=>aaH KX G h,y_MOST_PLACES.imp fun _ h=>aaH KX G h,y_MOST_BLANK.imp fun _ h=>aaH KX G h,y_MOST_LEVELS.imp fun _ h=>aaH KX G h,y_MOST_PARTS.imp fun _ h=>aaH KX G h,y_MOST_RANKED.imp fun _ h=>aaH KX G h,y_MOST_RULES.imp fun _ h=>aaH KX G h,⟨TQ,wY,⟨Jb,Jf,y9,y8⟩,wm⟩,⟨TM,wX,⟨xU,xX,xT,xR⟩,zj⟩,⟨TM,wX,⟨xU,xX,xT,xR⟩,zM⟩,aaH KX G e_NoHead,aaH KX G e_NoPaper,aaH KX G e_NoRule,aaH KX G e_NoLine,aaH KX G e_NoName,aaH KX G e_NoPair,aaH KX G e_NoPath,aaH KX G e_NoReason,aaH KX G e_NoStep,aaH KX G e_NoText,aaH KX G e_TooGreat,aaH KX G e_TooLong,aaH KX G e_TooMany,aaH KX G e_EndError,aaH KX G e_Paper,e_NoHead,q_NoHead,e_NoPaper,q_NoPaper,e_NoRule,q_NoRule,(fun c hc C hC=>by
   simp only [ace,ac1,ady,beq_iff_eq,acp] at hc;rcases hc with rfl
   · have e:=hC.symm.trans e_NoPaper;cases e
     exact x_NoPaper_NoPaper),(fun c hc C hC=>by
   simp only [ace,ac1,ady,beq_iff_eq,acp] at hc;rcases hc with rfl|rfl|rfl
   · have e:=hC.symm.trans e_NoHead;cases e;exact i_ValueError_NoHead
   · have e:=hC.symm.trans e_NoPaper;cases e;exact i_ValueError_NoPaper
   · have e:=hC.symm.trans e_NoRule;cases e
     exact i_ValueError_NoRule),(fun c hc C hC=>by
   simp only [ace,ac1,ady,beq_iff_eq,acp] at hc;rcases hc with rfl|rfl|rfl
   · have e:=hC.symm.trans e_NoHead;cases e;exact i_EndError_NoHead
   · have e:=hC.symm.trans e_NoPaper;cases e;exact i_EndError_NoPaper
   · have e:=hC.symm.trans e_NoRule;cases e
     exact i_EndError_NoRule),(fun c hc C hC=>by
   simp only [ace,ac1,ady,beq_iff_eq,acp] at hc;rcases hc with rfl
   · have e:=hC.symm.trans wY;cases e
     exact io_Paper_Ranks),⟨aaH KX G e_Paper,e_Paper,bb_Paper⟩,(fun c hc C hC=>by
   simp only [ace,ac1,ady,beq_iff_eq,acp] at hc;rcases hc with rfl
   · have e:=hC.symm.trans e_NoPaper;cases e
     exact nt_NoPaper_NoPaper)⟩
 have U:=jaP (st:=Zg) l32 c32 k32;have Z1:aal K aak "Ranks" =some (some (.ref TQ))/\Cls K TQ:=⟨wY,Jb,Jf,y9,y8⟩
 have Z0:aal K aak "Rules" =some (some (.ref TM))/\Cls K TM:=⟨wX,xU,xX,xT,xR⟩
 have Kc:aal K aak "Paper" =some (some (.ref TN))/\Cls K TN:=⟨ZR,Zl,ZJ,Zj,Ze⟩
 refine ⟨acb "law" "law" (wK Zg) (jY Zg) (jf Zg) .none kV32 dc32 pm32 an32 cd32 ct32,fun s v=> .of_eq rfl,fun base _ _=>?_⟩;have V0:zP l.prog w K mg base 1 qP:=JF (k:=0) T (d0.dx KX G tk2);have V1:wO l.prog w K mg base 2 qo:=Zr (k:=1) T (d1.dx KX G tk2) (V0.mono (by decide));have V2:yL l.prog w K mg base 1 wg:=XT (k:=0) T (d2.dx KX G tk2);have V3:wN l.prog w K mg base 3 jV:=Zq (k:=2) T (d3.dx KX G tk1) (V1.mono (by decide)) (V2.mono (by decide));have V4:yd l.prog w K mg base 1 zt:=KO (k:=0) T (d4.dx KX G tk1);have V5:xf l.prog w K mg base 1 qJ:=XN (k:=0) T (d5.dx KX G tk1);have V6:Ql l.prog w K mg base 2 qC:=KP (k:=1) T (d6.dx KX G tk1) (V4.mono (by decide)) (V5.mono (by decide));have V7:xM l.prog w K mg base 3 jz:=Wy (k:=2) T (d7.dx KX G tk1) (V6.mono (by decide));have V8:j5 l.prog w K mg base 4 jk:=xy (k:=3) T (d8.dm tk2) Z1 (aaH KX G wY) ⟨Zz,ZG⟩ (V7.mono (by decide));have V9:xO l.prog w K mg base 6 ql:=WA (k:=5) T (d9.dx KX G tk1) V8 (by decide);have V10:wP l.prog w K mg base 1 qW:=Zs (k:=0) T (d10.dx KX G tk1);have V11:qB l.prog w K mg base 1 j7:=y0 (k:=0) T (d11.dm tk3) Kc;have V12:qO l.prog w K mg base 1 zT:=JG (k:=0) T (d12.dm tk1) Z0;have V13:zS l.prog w K mg base 2 qQ:=JJ (k:=1) T (d13.dm tk2) Kc (V12.mono (by decide)) (V11.mono (by decide));have V14:yH l.prog w K mg base 1 Q3:=XM (k:=0) T (d14.dx KX G tk2);have V15:qz l.prog w K mg base 1 zG:=xw (k:=0) T (d15.dm tk1) Z0;have V16:zR l.prog w K mg base 2 zU:=JI (k:=1) T (d16.dm tk2) Z1 (V14.mono (by decide)) (V12.mono (by decide)) (V15.mono (by decide));have V17:zQ l.prog w K mg base 1 jr:=JH (k:=0) T (d17.dm tk1) Z1;have V18:wQ l.prog w K mg base 1 qp:=Zt (k:=0) T (d18.dx KX G tk2);have V19:Ji l.prog w K mg base 1 Z7:=UF (k:=0) T (d19.dx KX G tk1)
 have V20: ∀n,yG l.prog w K mg base (1+n) (Qm n):=by
  intro n
  induction n with
  |zero=>exact jeT true (d20.dx KX G tk1)
  |succ n ih=>exact uz (k:=1+n) T (d20.dx KX G tk1) (V19.mono (by omega)) ih
 have V21:vI l.prog w K mg base 1 ja7:=jbA (k:=0) T (d21.dx KX G tk1);have V22:xN l.prog w K mg base 66 Qo:=Wz (k:=65) T (d22.dx KX G tk1) ((V20 64).mono (by decide)) (V21.mono (by decide));have V23:wq l.prog w K mg base 2 ye:=Qs (k:=1) T (d23.dx KX G tk1) (V19.mono (by decide));have V24:yJ l.prog w K mg base 3 Q5:=XR (k:=2) T (d24.dx KX G tk1) (V23.mono (by decide));have V25:yK l.prog w K mg base 2 Q6:=XS (k:=1) T (d25.dx KX G tk1) (V5.mono (by decide));have V26:yI l.prog w K mg base 3 Q4:=XQ (k:=2) T (d26.dx KX G tk1) (V25.mono (by decide)) (V4.mono (by decide));have V27:Qj l.prog w K mg base 66 Xk:=KM (k:=65) T (d27.dx KX G tk1) (V24.mono (by decide)) (V26.mono (by decide)) ((V20 64).mono (by decide));have V28:Z6 l.prog w K mg base 66 Ko:=UG (k:=65) T (d28.dx KX G tk1) ((V20 64).mono (by decide));have V29:Qk l.prog w K mg base 67 Xl:=KN (k:=66) T (d29.dx KX G tk1) (V27.mono (by decide)) (V28.mono (by decide));have V30:xL l.prog w K mg base 68 Qn:=Wx (k:=67) T (d30.dx KX G tk1) (V29.mono (by decide));have V31:qA l.prog w K mg base 69 jS:=xx (k:=68) T (d31.dm tk2) Z0 (aaH KX G wX) ⟨Zy,ZF⟩ (V22.mono (by decide)) (V30.mono (by decide));exact jds (k:=70) T U (V3.mono (by decide)) (V9.mono (by decide)) (V10.mono (by decide)) (V11.mono (by decide)) (V13.mono (by decide)) (V16.mono (by decide)) (V17.mono (by decide)) (V18.mono (by decide)) V31 (by decide) V8 (by decide)
end G
namespace G
open PySem PySem.Spec L2 M
open Builtin.Int (intBits)
local macro_rules | `(tactic| decreasing_trivial) => `(tactic| first
  | (dsimp only [List.set, VI, VF, VH, VE, vP, VG, VD, VC])
  | (with_reducible (show _ = _; assumption))
  | (with_reducible first | apply jy | apply Zd | apply qX | apply XA | apply jq | apply jg | apply qd | apply zF | apply xg | apply WE | apply zb | apply xz | apply Km | apply Wv | apply Yu | apply YN | apply Vq | apply jaQ | apply jaI | apply J9 | apply wp | apply YH | apply vG | apply ja1)
  | ((with_reducible apply jez); exact rfl) | ((with_reducible apply jeA); exact rfl)
  | ((with_reducible show cD _ = _); exact rfl)
  | ((with_reducible show cDT _ = _); exact rfl)
  | ((with_reducible show isiD _ _ = _); exact rfl)
  | ((with_reducible show lenD _ = _); exact rfl)
  | ((with_reducible show List.contains _ _ = _); exact rfl)
  | ((with_reducible show fldD _ _ _ = _); exact rfl)
  | ((with_reducible show getElem? _ _ = _); exact rfl)
  | ((with_reducible show List.length _ = _); exact rfl)
  | ((with_reducible show KQ _ = _); exact rfl)
  | ((with_reducible show uN _ = _); exact rfl)
  | ((with_reducible show slD _ _ _ = _); exact rfl)
  | ((with_reducible show Qz _ = _); exact rfl)
  | ((with_reducible show K0 _ = _); exact rfl)
  | ((with_reducible show addD _ _ = _); exact rfl)
  | ((with_reducible show augI _ _ _ = _); exact rfl)
  | ((with_reducible show iOp _ _ _ _ = _); exact rfl)
  | ((with_reducible show ite _ _ _ = _); first | refine jeK (by first | rfl | assumption) ?_ | refine jeL (by first | rfl | assumption) ?_)
  | ((with_reducible show _ < _); first | omega | (simp only [aaF, abO, aaB, aan]; omega)) | ((with_reducible show _ <= _); first | omega | (simp only [aaF, abO, aaB, aan]; omega)) | ((with_reducible show _ /\ _); omega))
local macro_rules | `(tactic| decreasing_with $t) => `(tactic| (apply Eq.trans (b := Res.ok _); (repeat' decreasing_trivial); all_goals (try ($t))))
def lawB:Sl->Res Out:=(seqO (asgN 5 6 1 jV (jb (jA 1 qW (jb (rdS 2) nil1)) nil1)) (seqO (jB 4 (ifD (asB (isiF "list" (rdB 5))) (dupL 5) (rdS 5))) (seqO (asgO (ZD 5 (jA 1 ql (jb (rdS 5) nil1))) (g2 (gN 7) (gN 8))) (seqO (ifO (orB (asB (two (rdB 5) (rdS 4) neA)) (asB (two (rdS 7) (app (jb (notF (rdS 6)) nil1) WQ) neR))) (retO (cB false)) nxO) (ifO (truF (rdS 6)) (seqO (zO 5 (cI 0)) (seqO (ifO (orB (notB (asB (isoF ["Ranks"] (rdS 8)))) (notB (asB (jA 2 qp (jb (qv "Ranks" "told" 1 jr (rdS 8) noA) (jb (rdS 4) nil1)))))) (retO (cB false)) nxO) (seqO (appT (qv "Ranks" "told" 1 jr (rdS 8) noA) (cI 0)) (ifO (notB (asB (jA 2 qp (jb (qv "Ranks" "told" 1 jr (rdS 8) noA) (jb (rdS 4) nil1))))) (retO (cB false)) nxO)))) nxO)))))
def jcS:Sl->Res Out:=(seqO (jB 3 (tupF (jb (cS "f") (jb (tupF (jb (cS "a") nil1)) (jb (cI 3) nil1))))) (seqO (ifO (orB (asB (two (qv "Paper" "falls" 3 j7 (rdS 1) (jb (rdS 3) (jb (tupF (jb (cS "a") nil1)) nil1))) (cB false) isnB)) (asB (two (qv "Paper" "falls" 3 j7 (rdS 1) (jb (rdS 3) (jb (rdS 3) nil1))) (cB false) isnB))) (retO (cB false)) nxO) (seqO (ifO (orB (asB (two (qv "Paper" "lets" 2 qQ (rdS 1) (jb (Qd (zl "Rules" 1 jS (jb (lstF nil1) nil1))) nil1)) (cB true) isnB)) (asB (two (qv "Paper" "lets" 2 qQ (rdS 1) (jb (Qd (zl "Rules" 1 jS (jb (lstF (jb (tupF (jb (rdS 3) (jb (tupF (jb (cS "a") nil1)) nil1))) nil1)) nil1))) nil1)) (cB false) isnB))) (retO (cB false)) nxO) (retO (toB (two (qv "Ranks" "lets" 2 zU (Qd (zl "Ranks" 1 jk (jb (lstF nil1) nil1))) (jb (Qd (zl "Rules" 1 jS (jb (lstF nil1) nil1))) nil1)) (cB true) isB) (two (qv "Ranks" "told" 1 jr (Qd (zl "Ranks" 1 jk (jb (lstF nil1) nil1))) noA) (lstF nil1) eqR) true)))))
def uK (S v2 v3 v4 v5 v6 v7 v8:Slot):jcS [S,.shr (.obj "Paper" [] []),v2,v3,v4,v5,v6,v7,v8]= .ok (.rt true (.bl true)):=by kernel_rfl
def big1:20000<=aaj:=by decide
def jI {k:Nat} (h:k<=20000):k<=aaj:=aaN h big1
def abc:Str:= "abcdefghijklmnopqrstuvwxyz"
def kZ {f1 f2:TL} {env:Sl} {i j:Int} (h1:f1 env= .ok (.int i)) (h2:f2 env= .ok (.int j)) (hj:0<j/\j<1073741824):app (jb f1 (jb f2 nil1)) qy env= .ok (.tup [.int (i/j),.int (i%j)]):=
 zF (ds:=[.int i,.int j]) (jg h1 (jg h2 rfl)) (jt hj)
def wM {f:TL} {env:Sl} {a b:Nat} {x y:D} (h:f env= .ok (.tup [x,y])):asgO f (g2 (gN a) (gN b)) env= .ok (.nx ((env.set a (.shr x)).set b (.shr y))):=by
 show (f env>>=_)=_;rw [h];rfl
def qc {f1 f2:TL} {env:Sl} {i j:Int} (h1:f1 env= .ok (.int i)) (h2:f2 env= .ok (.int j)) (hj:0<j):two f1 f2 modI env= .ok (.int (i%j)):=jq h1 h2 (jaI hj)
def UM {f1 f2:TL} {env:Sl} {i j:Int} {a b:Nat} (h1:f1 env= .ok (.int i)) (h2:f2 env= .ok (.int j)) (ha:i.natAbs<2^a) (hb:j.natAbs<2^b) (hs:a+b<=134217728):two f1 f2 mulI env= .ok (.int (i*j)):=
 jq h1 h2 (jdB (show intBits i+intBits j<=134217728 from aaN (Nat.add_le_add (PySem.intBits_le_iff.mpr ha) (PySem.intBits_le_iff.mpr hb)) hs))
def vH {f1 f2:TL} {env:Sl} {i j:Int} (h1:f1 env= .ok (.int i)) (h2:f2 env= .ok (.int j)):two f1 f2 addD env= .ok (.int (i+j)):=jq h1 h2 rfl
def isNm:D->Bool| .str z=>(decide (1<=(z.length:Int))&&decide ((z.length:Int)<=8))&&z.cps.toList.all (fun c=>inS ⟨#[c]⟩ abc)|_=>false
def Je (z:Str):isNm (.str z)=((decide (1<=(z.length:Int))&&decide ((z.length:Int)<=8))&&z.cps.toList.all (fun c=>inS ⟨#[c]⟩ abc)):=rfl
def Kn {α:Type} (l:List α) (p:α->Bool):allD [.lst (l.map fun c=>D.bl (p c))]= .ok (.bl (l.all p)):=by
 have:l.map (fun c=>D.bl (p c))=(l.map p).map D.bl:=by simp
 rw [this];show (match Yh ((l.map p).map D.bl) with|some bs=>Res.ok (D.bl (bs.all id))|none=>Res.stuck)=_;rw [jaw];simp
def VL (z:Str):(Qq z).length=z.length:=by simp [Qq,Str.length]
def jdA {d:D} (h:Qu d=true):zt [d]= .ok (.bl (isNm d)):=by
 cases d with
 |str z=>
  have e1:wC (ze 1 [.str z])= .ok (.rt true (.bl (isNm (.str z)))):=by
   have h0:ze 1 [.str z]=[.shr (.str z)]:=rfl;rw [h0];have hi:isiD "str" (.str z)= .ok (.bl true):=rfl;have hl:lenD [.str z]= .ok (.int z.length):=rfl;rw [Je]
   by_cases h2:(z.length:Int)<=8
   · have key:xJ false 1 [] (itF (rdS 0)) (gN 0) zc (two (rdS 0) (cS "abcdefghijklmnopqrstuvwxyz") inD) [.shr (.str z)]= .ok (.lst ((Qq z).map fun d=>D.bl (match d with| .str c=>inS c abc|_=>false))):=by
      refine jea _ (fun d=> ∃c,d= .str c) (ds:=Qq z) rfl (by intro d hd;obtain ⟨c,_,e⟩:=aaK.mp hd;exact ⟨_,e.symm⟩) (by rw [VL];exact aaN (by omega:z.length<=8) (by decide)) ?_;rintro d acc ⟨c,e⟩;subst e;rfl
     have hany:(Qq z).all (fun d=>match d with| .str c=>inS c abc|_=>false)=(z.cps.toList.all (fun c=>inS ⟨#[c]⟩ abc)):=by
      simp only [Qq,List.all_map];rfl
     have h2':decide ((z.length:Int)<=8)=true:=by simp;omega
     generalize z.cps.toList.all (fun c=>inS ⟨#[c]⟩ abc)=q at hany ⊢;simp only [wC,hi,hl,key,Y0,Y1,kG,X9,kK,kJ,jaS,kL,ZP,kH,wG,kE,jdS,jaW,X8,jdT,jaT,Ya,kI,jaU,UA,Uz,List.getElem?_cons_zero,vE,if_true,abw,aaQ,if_false,decide_eq_true_eq,Y2,ja2,Kn,hany]
     by_cases h1:(1:Int)<=z.length<;>simp [h1,h2]
   · have h2':decide ((z.length:Int)<=8)=false:=by simp;omega
     simp only [wC,hi,hl,Y0,Y1,kG,X9,kK,kJ,jaS,kL,ZP,kH,wG,kE,jdS,jaW,X8,jdT,jaT,Ya,kI,jaU,UA,Uz,List.getElem?_cons_zero,vE,if_true,abw,aaQ,if_false,decide_eq_true_eq,Y2,ja2]
     by_cases h1:(1:Int)<=z.length<;>simp [h1,h2,h2']
  exact kF e1
 |_=>first|rfl|cases h
def Low (z:Str):Prop:= ∀c∈z.cps.toList,inS ⟨#[c]⟩ abc=true
def ZA {a b:Str} (ha:Low a) (hb:Low b):Low (a++b):=fun c hc=>by
 have h:c∈(a.cps++b.cps).toList:=hc;rw [Array.toList_append,abr] at h;exact h.elim (ha c) (hb c)
def jcH:Low abc:=by
 intro c hc;have:abc.cps.toList.all (fun c=>inS ⟨#[c]⟩ abc)=true:=by decide+kernel
 exact aaZ.mp this c hc
def ixS2 {z:Str} {i:Int} (h0:0<=i) (h1:i<z.length): ∃c,ixD (.str z) (.int i)= .ok (.str ⟨#[c]⟩)/\c∈z.cps.toList:=by
 obtain ⟨c,hc,hm⟩:=ja6 (xs:=z.cps.toList) h0 (by simpa [Str.length] using h1);exact ⟨c,by simp only [ixD];rw [hc],hm⟩
def jbK {c:Nat} (h:c∈abc.cps.toList):Low ⟨#[c]⟩:=fun x hx=>by
 have:x=c:=by simpa using hx
 rw [this];exact jcH c h
def jbQ {z:Str} (h1:1<=z.length) (h2:z.length<=8) (h:Low z):isNm (.str z)=true:=by
 rw [Je];simp only [aaG,decide_eq_true_eq,aaZ];exact ⟨⟨by omega,by omega⟩,h⟩
def jcI:abc.length=26:=by decide
def YM {i:Int} (h0:0<=i) (h1:i<26):ixD (.str abc) (.int i)= .ok (.str (lt1 i)):=by
 obtain ⟨n,rfl⟩: ∃n:Nat,i=n:=⟨i.toNat,by omega⟩
 have:n<26:=by omega
 have key: ∀n:Nat,n<26->ixD (.str abc) (.int (n:Int))= .ok (.str (lt1 (n:Int))):=by
  intro n hn
  match n,hn with
  |0,_=>rfl|1,_=>rfl|2,_=>rfl|3,_=>rfl|4,_=>rfl|5,_=>rfl|6,_=>rfl|7,_=>rfl|8,_=>rfl|9,_=>rfl|10,_=>rfl|11,_=>rfl|12,_=>rfl
  |13,_=>rfl|14,_=>rfl|15,_=>rfl|16,_=>rfl|17,_=>rfl|18,_=>rfl|19,_=>rfl|20,_=>rfl|21,_=>rfl|22,_=>rfl|23,_=>rfl|24,_=>rfl|25,_=>rfl
  |n+26,h=>exact absurd h (by omega)
 exact key n this
def XZ {i:Int} (h0:0<=i) (h1:i<26):Low (lt1 i):=by
 obtain ⟨c,hc,hm⟩:=ixS2 (z:=abc) (i:=i) h0 (by rw [jcI];omega);rw [YM h0 h1] at hc;cases hc;exact jbK hm
def add_str {a b:Str} (h:a.length+b.length<=20000):addD (.str a) (.str b)= .ok (.str (a++b)):=jt (jI h)
def len_app (a b:Str):(a++b).length=a.length+b.length:=by
 show (a.cps++b.cps).size=_;rw [Array.size_append];rfl
def qY (i:Int):(lt1 i).length=1:=rfl
theorem yP {m:Slot}: ∀(ds:List D) (n:Int) (z:Str) (u w:Slot),0<=n->Low z->z.length+ds.length<=100-> ∃n' z' u' w',forD (yW (gN 4) (seqO (asgO (app (jb (rdS 0) (jb (cI 26) nil1)) qy) (g2 (gN 0) (gN 5))) (jB 3 (two (rdS 3) (two (rdS 2) (rdS 5) ixD) addD)))) ds [.shr (.int n),m,.shr (.str abc),.shr (.str z),u,w]= .ok (.nx [.shr (.int n'),m,.shr (.str abc),.shr (.str z'),u',w'])/\Low z'/\z'.length=z.length+ds.length
 | [],n,z,u,w,_,hz,_=>⟨n,z,u,w,rfl,hz,rfl⟩
 |d::ds,n,z,u,w,hn,hz,hl=>by
  simp only [aaF] at hl;have hi:ixD (.str abc) (.int (n%26))= .ok (.str (lt1 (n%26))):=YM (by omega) (by omega);obtain ⟨n',z',u',w',e,h1,h2⟩:=yP (m:=m) ds (n/26) (z++lt1 (n%26)) (.shr d) (.shr (.int (n%26))) (by omega) (ZA hz (XZ (by omega) (by omega))) (by rw [len_app,qY];omega);refine ⟨n',z',u',w',(ZO ?_).trans e,h1,by rw [h2,len_app,qY,aaF];omega⟩;rw [Xp (env':=[.shr (.int n),m,.shr (.str abc),.shr (.str z),.shr d,w]) rfl];refine (jn (wM (kZ (i:=n) (j:=26) rfl rfl (by decide)))).trans ?_;exact jy (jq rfl (jq rfl rfl hi) (add_str (by rw [qY];omega)))
def xV (n m:Int) (hn:0<=n) (hm:0<=m/\m<=3): ∃z,qP [.int n,.int m]= .ok (.str z)/\Low z/\z.length<=3:=by
 obtain ⟨n',z',u',w',e,h1,h2⟩:=yP (m:= .shr (.int m)) (JW 0 m.toNat) n "" .un .un hn (fun c hc=>by cases hc) (by rw [WP];show 0+_<=_;omega);rw [WP] at h2;refine ⟨z',jc4 ?_,h1,by rw [h2];show 0+_<=_;omega⟩;show qK [.shr (.int n),.shr (.int m),.un,.un,.un,.un]=_;unfold qK;refine (jn (jy (d:= .str abc) rfl)).trans ((jn (jy (d:= .str "") rfl)).trans ((jn ((YY (VW (j:=m) (jg rfl rfl) (by omega))).trans e)).trans ?_));exact XA rfl
def uT:Sl->Res Out:=(seqO (asgO (app (jb (rdS 0) (jb (cI 10) nil1)) qy) (g2 (gN 0) (gN 9))) (seqO (jB 8 (two (rdS 3) (two (rdS 2) (two (two (rdS 5) (rdS 7) addD) (cI 26) modI) ixD) addD)) (seqO (jB 8 (two (two (rdS 8) (two (rdS 2) (two (two (rdS 5) (two (rdS 7) (cI 26) divI) addD) (cI 26) modI) ixD) addD) (rdS 4) addD)) (seqO (ifO (andB (asB (two (two (rdS 7) (cI 2) modI) (cI 1) eqR)) (asB (two (two (rdS 0) (cI 3) modI) (cI 0) eqR))) (seqO (jB 8 (two (two (rdB 6) (negF (cI 1)) ixD) (cI 0) ixD)) (jB 9 (two (two (two (two (rdB 6) (negF (cI 1)) ixD) (cI 1) ixD) (cI 1) addD) (cI 10) modI))) nxO) (zO 6 (tupF (jb (rdS 8) (jb (rdS 9) nil1))))))))
abbrev hdE (n:Int) (m:Slot) (fr bh:Str) (s:Int) (hs:List Hd) (v7 v8 v9:Slot):Sl:=[.shr (.int n),m,.shr (.str abc),.shr (.str fr),.shr (.str bh),.shr (.int s),.own (.lst (hs.map hdD)),v7,v8,v9]
def jbT (lo:Int) (n:Nat):JW lo (n+1)= .int lo::JW (lo+1) n:=by
 unfold JW;rw [List.range_succ_eq_map,aaE,abA];congr 1
 · simp
 · apply aeb;intro k _;simp only [Function.comp];congr 1
   push_cast
   omega
def xc {i:Nat} {f:TL} {env:Sl} {ds:List D} {d:D} (hi:env[i]?=some (.own (.lst ds))) (h:f env= .ok d) (hl:ds.length<=10000):zO i f env= .ok (.nx (env.set i (.own (.lst (ds++[d]))))):=by
 unfold zO;rw [XJ hi];show (f env>>=_)=_;rw [h];exact jt (c:=ds.length<aaj) (aaw (by omega) (jI (k:=20000) (by omega)))
def ko {m:Slot} {fr bh:Str} {s:Int} (hfr:fr.length<=3) (hbh:bh.length<=3) (hs0:0<=s) (hs:List Hd) (n:Int) (v8 v9:Slot) (hn:0<=n) (h:HdRow fr bh s hs) (hl:hs.length<=99):
   ∃a n' w8 w9,uT (hdE n m fr bh s hs (.shr (.int hs.length)) v8 v9)= .ok (.nx (hdE n' m fr bh s (hs++[a]) (.shr (.int hs.length)) w8 w9))/\HdRow fr bh s (hs++[a])/\0<=n':=by
 have a1:asgO (app (jb (rdS 0) (jb (cI 10) nil1)) qy) (g2 (gN 0) (gN 9)) (hdE n m fr bh s hs (.shr (.int hs.length)) v8 v9)= .ok (.nx (hdE (n/10) m fr bh s hs (.shr (.int hs.length)) v8 (.shr (.int (n%10))))):=wM (kZ rfl rfl (by decide));have i1:ixD (.str abc) (.int ((s+hs.length)%26))= .ok (.str (lt1 ((s+hs.length)%26))):=YM (by omega) (by omega);have i2:ixD (.str abc) (.int ((s+(hs.length:Int)/26)%26))= .ok (.str (lt1 ((s+(hs.length:Int)/26)%26))):=YM (by omega) (by omega)
 have a2:jB 8 (two (rdS 3) (two (rdS 2) (two (two (rdS 5) (rdS 7) addD) (cI 26) modI) ixD) addD) (hdE (n/10) m fr bh s hs (.shr (.int hs.length)) v8 (.shr (.int (n%10))))= .ok (.nx (hdE (n/10) m fr bh s hs (.shr (.int hs.length)) (.shr (.str (fr++lt1 ((s+hs.length)%26)))) (.shr (.int (n%10))))):=
   jy (jq rfl (jq rfl (qc (jq rfl rfl rfl) rfl (by decide)) i1) (add_str (by rw [qY];omega)))
 have a3:jB 8 (two (two (rdS 8) (two (rdS 2) (two (two (rdS 5) (two (rdS 7) (cI 26) divI) addD) (cI 26) modI) ixD) addD) (rdS 4) addD) (hdE (n/10) m fr bh s hs (.shr (.int hs.length)) (.shr (.str (fr++lt1 ((s+hs.length)%26)))) (.shr (.int (n%10))))= .ok (.nx (hdE (n/10) m fr bh s hs (.shr (.int hs.length)) (.shr (.str (nmK fr bh s hs.length))) (.shr (.int (n%10))))):=
   jy (jq (jq rfl (jq rfl (qc (jq rfl (jq rfl rfl (J9 (by decide))) rfl) rfl (by decide)) i2) (add_str (by rw [len_app,qY,qY];omega))) rfl (add_str (by rw [len_app,len_app,qY,qY];omega)))
 have tst:andB (asB (two (two (rdS 7) (cI 2) modI) (cI 1) eqR)) (asB (two (two (rdS 0) (cI 3) modI) (cI 0) eqR)) (hdE (n/10) m fr bh s hs (.shr (.int hs.length)) (.shr (.str (nmK fr bh s hs.length))) (.shr (.int (n%10))))= .ok (((hs.length:Int)%2==1)&&(n/10%3==0)):=Km (zb (jq (qc rfl rfl (by decide)) rfl wp)) (zb (jq (qc rfl rfl (by decide)) rfl wp))
 by_cases c:(((hs.length:Int)%2==1)&&(n/10%3==0))=true
 · rw [c] at tst;simp only [aaG,beq_iff_eq] at c
   obtain ⟨hs1,b,rfl⟩: ∃hs1 b,hs=hs1++[b]:=by
    rcases List.eq_nil_or_concat hs with z| ⟨l,b,z⟩
    · subst z;simp at c
    · exact ⟨l,b,by rw [z];simp⟩
   have hlast:ixD (.lst ((hs1++[b]).map hdD)) (.int (-1))= .ok (hdD b):=by rw [acO];exact uM _ _
   have hodd:(hs1.length+1)%2=1:=by
    have:=c.1;rw [aaB,acL] at this;omega
   refine ⟨(b.1,(b.2+1)%10),n/10,.shr (.str b.1),.shr (.int ((b.2+1)%10)),?_,h.twin hodd,by omega⟩;unfold uT;refine (jn a1).trans ((jn a2).trans ((jn a3).trans ?_));generalize hk:(hs1++[b]).length=L at*;have l8:two (two (rdB 6) (negF (cI 1)) ixD) (cI 0) ixD (hdE (n/10) m fr bh s (hs1++[b]) (.shr (.int L)) (.shr (.str (nmK fr bh s L))) (.shr (.int (n%10))))= .ok (.str b.1):=jq (jq rfl rfl hlast) rfl rfl;have l9:two (two (two (two (rdB 6) (negF (cI 1)) ixD) (cI 1) ixD) (cI 1) addD) (cI 10) modI (hdE (n/10) m fr bh s (hs1++[b]) (.shr (.int L)) (.shr (.str b.1)) (.shr (.int (n%10))))= .ok (.int ((b.2+1)%10)):=qc (jq (jq (jq rfl rfl hlast) rfl rfl) rfl rfl) rfl (by decide);refine (jn ((if_t tst).trans ((jn (jy l8)).trans (jy l9)))).trans ?_;refine (xc (ds:=(hs1++[b]).map hdD) (d:=hdD (b.1,(b.2+1)%10)) rfl (xg (jg rfl (jg rfl rfl)) (jI (by simp))) (by rw [aan];omega)).trans ?_;rw [show (hs1++[b]).map hdD++[hdD (b.1,(b.2+1)%10)]=(hs1++[b]++[(b.1,(b.2+1)%10)]).map hdD by simp];rfl
 · rw [acy] at c;rw [c] at tst;refine ⟨(nmK fr bh s hs.length,n%10),n/10,.shr (.str (nmK fr bh s hs.length)),.shr (.int (n%10)),?_,h.add (by omega),by omega⟩;unfold uT;refine (jn a1).trans ((jn a2).trans ((jn a3).trans ((jn ((if_f tst).trans rfl)).trans ?_)));refine (xc (ds:=hs.map hdD) (d:=hdD (nmK fr bh s hs.length,n%10)) rfl (xg (jg rfl (jg rfl rfl)) (jI (by simp))) (by rw [aan];omega)).trans ?_;rw [show hs.map hdD++[hdD (nmK fr bh s hs.length,n%10)]=(hs++[(nmK fr bh s hs.length,n%10)]).map hdD by simp];rfl
theorem QN {m:Slot} {fr bh:Str} {s:Int} (hfr:fr.length<=3) (hbh:bh.length<=3) (hs0:0<=s): ∀(c:Nat) (hs:List Hd) (n:Int) (v7 v8 v9:Slot),0<=n->HdRow fr bh s hs->hs.length+c<=100->
  ∃hs' n' w7 w8 w9,forD (yW (gN 7) uT) (JW hs.length c) (hdE n m fr bh s hs v7 v8 v9)= .ok (.nx (hdE n' m fr bh s hs' w7 w8 w9))/\HdRow fr bh s hs'/\hs'.length=hs.length+c
 |0,hs,n,v7,v8,v9,_,h,_=>⟨hs,n,v7,v8,v9,rfl,h,rfl⟩
 |c+1,hs,n,v7,v8,v9,hn,h,hl=>by
  obtain ⟨a,n1,w8,w9,e1,h1,hn1⟩:=ko (m:=m) hfr hbh hs0 hs n v8 v9 hn h (by omega);obtain ⟨hs',n',w7',w8',w9',e2,h2,l2⟩:=QN hfr hbh hs0 c (hs++[a]) n1 (.shr (.int hs.length)) w8 w9 hn1 h1 (by rw [aaB,acL];omega);rw [aaB,acL] at e2 l2;refine ⟨hs',n',w7',w8',w9',?_,h2,by omega⟩;rw [jbT];refine (ZO ?_).trans (e2);rw [Xp (env':=hdE n m fr bh s hs (.shr (.int hs.length)) v8 v9) rfl];exact e1
structure Hds (hs:List Hd):Prop where
 nd:hs.Nodup
 nm: ∀a∈hs,isNm (.str a.1)=true
 pl: ∀a∈hs,0<=a.2/\a.2<=9
def jaF {fr bh:Str} {s:Int} (hs0:0<=s) (hfr:fr.length<=3) (hbh:bh.length<=3) (l1:Low fr) (l2:Low bh) (k:Nat):isNm (.str (nmK fr bh s k))=true:=by
 unfold nmK;refine jbQ ?_ ?_ (ZA (ZA (ZA l1 (XZ (by omega) (by omega))) (XZ (by omega) (by omega))) l2)
 · rw [len_app,len_app,len_app,qY,qY];omega
 · rw [len_app,len_app,len_app,qY,qY];omega
def jdN {fr bh:Str} {s:Int} {hs:List Hd} (h:HdRow fr bh s hs) (hs0:0<=s) (hfr:fr.length<=3) (hbh:bh.length<=3) (l1:Low fr) (l2:Low bh) (hl:hs.length<=100):Hds hs:=by
 refine ⟨h.nodup hs0 hl,fun a ha=>?_,h.pl⟩;obtain ⟨j,hj⟩:=abj.mp ha;rcases h.at_ j a hj with z| ⟨_,b,_,hb,z,_⟩
 · rw [z];exact jaF hs0 hfr hbh l1 l2 j
 · rw [z,hb];exact jaF hs0 hfr hbh l1 l2 _
def JY (n m:Int) (hn:0<=n) (hm:0<=m/\m<=61): ∃hs,qo [.int n,.int m]= .ok (.lst (hs.map hdD))/\Hds hs/\(hs.length:Int)=m:=by
 obtain ⟨fr,e1,l1,b1⟩:=xV (n/16) (n%4) (by omega) (by omega);obtain ⟨bh,e2,l2,b2⟩:=xV (n/280000) (n/4%4) (by omega) (by omega);obtain ⟨hs,n',w7,w8,w9,e3,h3,l3⟩:=QN (m:= .shr (.int m)) (s:=n/16%26) b1 b2 (by omega) m.toNat [] n .un .un .un hn .nil (by show 0+_<=_;omega);have l3:hs.length=m.toNat:=by rw [l3];show 0+_=_;omega
 refine ⟨hs,yZ ?_,jdN h3 (by omega) b1 b2 l1 l2 (by omega),by omega⟩;show zx qP [.shr (.int n),.shr (.int m),.un,.un,.un,.un,.un,.un,.un,.un]=_;unfold zx;refine (jn (jy (d:= .str abc) rfl)).trans ?_;refine (jn (jy (d:= .str fr) (qd (jg (jq rfl rfl (J9 (by decide))) (jg (qc rfl rfl (by decide)) rfl)) rfl e1))).trans ?_;refine (jn (jy (d:= .str bh) (qd (jg (jq rfl rfl (J9 (by decide))) (jg (qc (jq rfl rfl (J9 (by decide))) rfl (by decide)) rfl)) rfl e2))).trans ?_;refine (jn (jy (d:= .int (n/16%26)) (qc (jq rfl rfl (J9 (by decide))) rfl (by decide)))).trans ?_;refine (jn (Zd (d:= .lst []) (WE rfl (jI (by decide))))).trans ?_;refine (jn ((YY (VW (j:=m) (jg rfl rfl) (by omega))).trans e3)).trans ?_;exact qX rfl
def jap {f1 f2 f3:TL} {env:Sl} {a b c:D} {g1 g2:D->D->Res D} {p q:Bool} (h1:f1 env= .ok a) (h2:f2 env= .ok b) (h3:f3 env= .ok c) (e1:g1 a b= .ok (.bl p)) (e2:g2 b c= .ok (.bl q)):Qb f1 f2 f3 g1 g2 env= .ok (.bl (p&&q)):=by
 unfold Qb;simp only [h1,h2,h3,wG,e1];cases p
 · rfl
 · simp only [h3,wG,e2,adE]
def isWh:D->Bool
 | .int _=>true
 |_=>false
def jcL {d:D} (h:Qu d=true):qJ [d]= .ok (.bl (isWh d)):=by
 cases d with
 |scr _=>cases h
 |exn _=>cases h
 |fdc _ _=>cases h
 |hdc _ _=>cases h
 |obj _ _ _=>cases h
 |mem _ _=>cases h
 |_=>rfl
def inPl:D->Bool
 | .int k=>decide (0<=k)&&decide (k<=9)
 |_=>false
def isHd:D->Bool
 | .tup [a,b]=>isNm a&&(isWh b&&inPl b)
 |_=>false
def okH:D->Bool
 | .tup ds=>ds.all Qu
 |d=>Qu d
def kq {a b:D} (ha:Qu a=true) (hb:Qu b=true):qC [.tup [a,b]]= .ok (.bl (isHd (.tup [a,b]))):=by
 have hn:=jdA ha;have hw:=jcL hb;have t1:orB (notB (asB (isiF "tuple" (rdS 0)))) (asB (two (app (jb (rdS 0) nil1) lenD) (cI 2) neR)) [.shr (.tup [a,b])]= .ok false:=rfl;have i0:two (rdS 0) (cI 0) ixD [.shr (.tup [a,b])]= .ok a:=jq rfl rfl rfl;have i1:two (rdS 0) (cI 1) ixD [.shr (.tup [a,b])]= .ok b:=jq rfl rfl rfl;refine yZ ?_;show wd zt qJ [.shr (.tup [a,b])]=_;unfold wd;refine (jn ((if_f t1).trans rfl)).trans (qX ?_);have c1:jA 1 zt (jb (two (rdS 0) (cI 0) ixD) nil1) [.shr (.tup [a,b])]=_:=qd (jg i0 rfl) rfl hn;have c2:jA 1 qJ (jb (two (rdS 0) (cI 1) ixD) nil1) [.shr (.tup [a,b])]=_:=qd (jg i1 rfl) rfl hw;show _=Res.ok (D.bl (isNm a&&(isWh b&&inPl b)))
 cases na:isNm a with
 |false=>rw [na] at c1;exact Vu c1
 |true=>
  rw [na] at c1;refine Vt c1 ?_;rw [adE]
  cases wb:isWh b with
  |false=>rw [wb] at c2;exact Vu c2
  |true=>
   rw [wb] at c2;refine Vt c2 ?_
   cases b with
   |int k=>
    rw [adE];show Qb (cI 0) (two (rdS 0) (cI 1) ixD) (cI 9) leI leI [.shr (.tup [a,.int k])]= .ok (.bl (decide (0<=k)&&decide (k<=9)));exact jap rfl i1 rfl rfl rfl
   |_=>cases wb
def uP {d:D} (h:okH d=true):qC [d]= .ok (.bl (isHd d)):=by
 have odd: ∀ {d:D},Qu d=true->(∀a b,d≠ .tup [a,b])->qC [d]= .ok (.bl false):=fun {d} h h2=>by
  refine yZ ?_;show wd zt qJ [.shr d]=_;unfold wd
  have tt:orB (notB (asB (isiF "tuple" (rdS 0)))) (asB (two (app (jb (rdS 0) nil1) lenD) (cI 2) neR)) [.shr d]= .ok true:=by
   cases d with
   |tup ds=>
    match ds,h2 with
    | [],_=>rfl
    | [_],_=>rfl
    | [a,b],h2=>exact (h2 a b rfl).elim
    |a::b::c::r,_=>
     refine Wv (b:=false) (b2:=true) rfl (zb ((jq (zF (jg rfl rfl) rfl) rfl YH).trans ?_));have:(((a::b::c::r).length:Int)==2)=false:=by simp;omega
     rw [this];rfl
   |scr _=>cases h
   |exn _=>cases h
   |fdc _ _=>cases h
   |hdc _ _=>cases h
   |obj _ _ _=>cases h
   |mem _ _=>cases h
   |_=>rfl
  exact QB ((if_t tt).trans rfl)
 cases d with
 |tup ds=>
  match ds,h with
  | [],_=>exact odd rfl (fun a b z=>by cases z)
  | [_],_=>exact odd rfl (fun a b z=>by cases z)
  | [a,b],h=>
   simp only [okH,adz,List.all_nil,Bool.and_true,aaG] at h;exact kq h.1 h.2
  |a::b::c::r,_=>exact odd rfl (fun a b z=>by cases z)
 |scr _=>cases h
 |exn _=>cases h
 |fdc _ _=>cases h
 |hdc _ _=>cases h
 |obj _ _ _=>cases h
 |mem _ _=>cases h
 |_=>exact odd rfl (fun a b z=>by cases z)
def xS {d:D} {ds:List D} (hd:d= .lst ds\/d= .scr ds) (h: ∀e∈ds,okH e=true) (hl:ds.length<=1000) {b:Bool} (hb:ds.length<=60->ds.all isHd=true->two (WI (rdS 0)) (app (jb (rdS 0) nil1) lenD) eqR [.shr d]= .ok (.bl b)):
   jz [d]= .ok (.bl (decide (ds.length<=60)&&(ds.all isHd&&b))):=by
 have hi:itF (rdS 0) [.shr d]= .ok ds:=by
   rcases hd with e|e<;>subst e<;>exact YN rfl rfl
 have hit:asB (ke "list" (rdS 0)) [.shr d]= .ok true:=by
   rcases hd with e|e<;>subst e<;>rfl
 have hle:lenD [d]= .ok (.int ds.length):=by
   rcases hd with e|e<;>subst e<;>rfl
 have key:xJ false 1 [] (itF (rdS 0)) (gN 0) zc (jA 1 qC (jb (rdS 0) nil1)) [.shr d]= .ok (.lst (ds.map fun e=> .bl (isHd e))):=
   jea _ (fun e=>e∈ds) hi (fun e he=>he) (jI (by omega)) (fun e acc he=>qd (jg rfl rfl) rfl (uP (h e he)))
 have hg:asB (two (app (jb (rdS 0) nil1) lenD) (cI 60) gtI) [.shr d]= .ok (decide ((60:Int)<ds.length)):=zb (jq (zF (jg rfl rfl) hle) rfl rfl);have hall:app (jb (xJ false 1 [] (itF (rdS 0)) (gN 0) zc (jA 1 qC (jb (rdS 0) nil1))) nil1) allD [.shr d]= .ok (.bl (ds.all isHd)):=zF (jg key rfl) (Kn ds isHd);refine yZ ?_;show qG qC [.shr d]=_;unfold qG
 by_cases c:ds.length<=60
 · rw [decide_eq_false (by omega)] at hg;refine (jn ((if_f (Wv (b:=false) (xz (b:=true) hit) hg)).trans rfl)).trans (qX ?_);rw [decide_eq_true c,adE]
   cases q:ds.all isHd with
   |false=>rw [q] at hall;exact Vu hall
   |true=>rw [q] at hall;rw [adE];exact Vt hall (hb c q)
 · rw [decide_eq_true (by omega)] at hg;rw [decide_eq_false c,aep];exact QB ((if_t (Wv (b:=false) (xz (b:=true) hit) hg)).trans rfl)
theorem Wg: ∀(hs:List Hd),tksD (hs.map hdD)=some (hs.map hdK)
 | []=>rfl
 |a::r=>by
  show (match keyT (hdD a),tksD (r.map hdD) with|some k,some ks=>some (k::ks)|_,_=>none)=_;rw [Wg r];rfl
def hdK_nodup {hs:List Hd}:(hs.map hdK).Nodup↔hs.Nodup:=by
 constructor
 · intro h;exact List.Pairwise.imp (fun hne e=>hne (congrArg hdK e)) (acr.mp h)
 · intro h;refine acr.mpr (List.Pairwise.imp (fun {a b} hne e=>hne ?_) h);unfold hdK at e;simp only [List.cons.injEq,Sum.inr.injEq,Sum.inl.injEq,and_true] at e;exact Prod.ext e.1 e.2
def WH {d:D} {hs:List Hd} (hd:d= .lst (hs.map hdD)\/d= .scr (hs.map hdD)) (hl:hs.length<=60):two (WI (rdS 0)) (app (jb (rdS 0) nil1) lenD) eqR [.shr d]= .ok (.bl (decide hs.Nodup)):=by
 have hle:lenD [d]= .ok (.int hs.length):=by
   rcases hd with e|e<;>subst e<;>(show Res.ok (D.int ((hs.map hdD).length:Int))=_;rw [aan])
 have h1:ZE d= .ok (.int (nT (hs.map hdK))):=by
   have:QJ (.lst (hs.map hdD))= .ok (.int (nT (hs.map hdK))):=by
    unfold QJ;dsimp only;rw [Wg];exact jt (c:=(hs.map hdK).length<=76) (by rw [aan];omega)
   rcases hd with e|e<;>subst e<;>exact this
 have h2:WI (rdS 0) [.shr d]= .ok (.int (nT (hs.map hdK))):=h1;refine (jq h2 (zF (jg rfl rfl) hle) wp).trans ?_;congr 2
 by_cases c:hs.Nodup
 · rw [uG (hdK_nodup.mpr c),aan,decide_eq_true c];simp
 · have:=jeI (ks:=hs.map hdK) (fun z=>c (hdK_nodup.mp z));rw [aan] at this;rw [decide_eq_false c];simp only [beq_eq_false_iff_ne];omega
def jbR {hs:List Hd} (h:Hds hs):(hs.map hdD).all isHd=true:=by
 rw [List.all_map,aaZ];intro a ha;have p:=h.pl a ha;show (isNm (.str a.1)&&(isWh (.int a.2)&&inPl (.int a.2)))=true;rw [h.nm a ha];simp [isWh,inPl,p.1,p.2]
def KH {d:D} {hs:List Hd} (hd:d= .lst (hs.map hdD)\/d= .scr (hs.map hdD)) (h:Hds hs) (hl:hs.length<=60):jz [d]= .ok (.bl true):=by
 rw [xS hd (fun e he=>by obtain ⟨a,_,rfl⟩:=aaK.mp he;rfl) (by rw [aan];omega) (fun _ _=>WH hd hl),aan,decide_eq_true hl,jbR h,decide_eq_true h.nd];rfl
def jbg {g1 g2:Sl->Res OutO} {env env':Sl} (h:g1 env= .ok (.nx env')):seqJ g1 g2 env=g2 env':=by
 show (g1 env>>=_)=_;rw [h];rfl
def vT {f:TL} {env:Sl} {c n:Str} {i:Nat} {fs:List Str} {ds:List D} {d:D} (h:f env= .ok d) (hi:env[i]?=some (.own (.obj c fs ds))) (hl:fs.length<1000):VN i c n f env= .ok (.nx (env.set i (.own (.obj c (KJ n fs) (KK n d fs ds))))):=by
 have ho:ownJ i c env= .ok (fs,ds):=by
  unfold ownJ;rw [hi];exact jt rfl
 show (f env>>=fun d=>ownJ i c env>>=_)=_;rw [h];show (ownJ i c env>>=_)=_;rw [ho];exact jt hl
def vW {N n:Nat} {g:Sl->Res OutO} {d0 d:D} {ds:List D} {env:Sl} (hl:ds.length=n) (h:g (zu N d0 ds)= .ok (.nx env)) (hs:yX env= .ok d):Jr N n g d0 ds= .ok (.non,d):=by
 unfold Jr;rw [if_pos hl,h];simp only [hs]
def VV {N n:Nat} {g:Sl->Res OutO} {d0:D} {ds:List D} {c:Str} (hl:ds.length=n) (h:g (zu N d0 ds)= .exc c):Jr N n g d0 ds= .exc c:=by
 unfold Jr;rw [if_pos hl,h]
def jdK {t:TK} {g1 g2:Sl->Res OutO} {env:Sl} (h:t env= .ok false):ifJX t g1 g2 env=g2 env:=by unfold ifJX;rw [h];rfl
def jdJ {t:TK} {g1 g2:Sl->Res OutO} {env:Sl} (h:t env= .ok true):ifJX t g1 g2 env=g1 env:=by unfold ifJX;rw [h];rfl
def Kf {g:Sl->Res OutO} {env:Sl} {o:OutO} (h:g env= .ok o):W5 g env= .ok o:=by unfold W5;rw [h];rfl
def uR {d:D} (h:jz [d]= .ok (.bl false)):jk (.obj "Ranks" [] []) [d]= .exc "NoPaper" :=by
 have t1:notB (asB (jA 1 jz (jb (rdS 1) nil1))) [.own (.obj "Ranks" [] []),.shr d]= .ok true:=xz (zb (qd (jg rfl rfl) rfl h))
 have e0:jH jz [.own (.obj "Ranks" [] []),.shr d]= .exc "NoPaper" :=by
  unfold jH;show (ifJX _ _ _ _>>=_)=_;rw [jdJ t1];rfl
 exact VV rfl e0
def YJ {d:D} (h:jz [d]= .ok (.bl false)):ql [d]= .ok (.tup [.int 1,.non]):=by
 have hi:=uR h
 have mk:jB 2 (zl "Ranks" 1 jk (jb (rdS 0) nil1)) [.shr d,.shr (.int 0),.shr .non,.un]= .exc "NoPaper" :=by
  unfold jB zl;rw [show jb (rdS 0) nil1 [.shr d,.shr (.int 0),.shr .non,.un]= .ok [d] from jg rfl rfl];dsimp only;rw [if_pos (show [d].length=1 from rfl),hi];rfl
 refine yZ ?_;show qH jk [.shr d,.un,.un,.un]=_;unfold qH;refine (jn (jy (d:= .int 0) rfl)).trans ((jn (jy (d:= .non) rfl)).trans ?_)
 have tr: ∀(gs:TJ) (o:Out),gs [.shr d,.shr (.int 0),.shr .non,.shr (.exn "NoPaper")]= .ok o->tryO ["NoPaper"] (jB 2 (zl "Ranks" 1 jk (jb (rdS 0) nil1))) 3 gs [.shr d,.shr (.int 0),.shr .non,.un]= .ok (outU 3 o):=fun gs o hg=>by
  unfold tryO;rw [mk];dsimp only;rw [if_pos (by decide)];show (gs [.shr d,.shr (.int 0),.shr .non,.shr (.exn "NoPaper")]>>=_)=_;rw [hg];rfl
 have hh:jB 1 (chk (app (jb (toB (isxF ["NoHead", "NoPaper", "NoRule"] (rdS 3)) (isxF ["NoHead", "NoPaper", "NoRule"] (rdS 3)) true) nil1) WQ)) [.shr d,.shr (.int 0),.shr .non,.shr (.exn "NoPaper")]= .ok (.nx [.shr d,.shr (.int 1),.shr .non,.shr (.exn "NoPaper")]):=by rfl
 refine (jn (tr _ _ hh)).trans (qX ?_);exact xg (jg rfl (jg rfl rfl)) (jI (by decide))
def Ua {d:D} (h:Qu d=true) (hd: ∀ds,d≠ .lst ds):jz [d]= .ok (.bl false):=by
 refine yZ ?_;show qG qC [.shr d]=_;unfold qG
 have tt:orB (notB (asB (ke "list" (rdS 0)))) (asB (two (app (jb (rdS 0) nil1) lenD) (cI 60) gtI)) [.shr d]= .ok true:=by
  cases d with
  |lst ds=>exact (hd ds rfl).elim
  |scr _=>cases h
  |exn _=>cases h
  |fdc _ _=>cases h
  |hdc _ _=>cases h
  |obj _ _ _=>cases h
  |mem _ _=>cases h
  |_=>rfl
 exact QB ((if_t tt).trans rfl)
def QE {d:D} {hs:List Hd} (hd:d= .lst (hs.map hdD)\/d= .scr (hs.map hdD)) (hl:60<hs.length) (hl2:hs.length<=1000):jz [d]= .ok (.bl false):=by
 rw [xS (b:=false) hd (fun e he=>by obtain ⟨a,_,rfl⟩:=aaK.mp he;rfl) (by rw [aan];omega) (fun z=>absurd z (by rw [aan];omega)),aan,decide_eq_false (by omega)];rfl
def XC {d:D} {hs:List Hd} (hd:d= .lst (hs.map hdD)\/d= .scr (hs.map hdD)) (h: ¬hs.Nodup) (hl:hs.length<=1000):jz [d]= .ok (.bl false):=by
 by_cases c:hs.length<=60
 · rw [xS hd (fun e he=>by obtain ⟨a,_,rfl⟩:=aaK.mp he;rfl) (by rw [aan];omega) (fun _ _=>WH hd c),decide_eq_false h,ac6,ac6]
 · exact QE hd (by omega) hl
def QD {d:D} {ds:List D} (hd:d= .lst ds\/d= .scr ds) (h: ∀e∈ds,okH e=true) (hl:ds.length<=1000) {x:D} (hx:x∈ds) (hn:isHd x=false):jz [d]= .ok (.bl false):=by
 have ha:ds.all isHd=false:=by
  rw [Bool.eq_false_iff];intro z;rw [aaZ] at z;rw [z x hx] at hn;cases hn
 rw [xS (b:=false) hd h hl (fun _ z=>by rw [ha] at z;cases z),ha,aep,ac6]
def rl (p:D×D):D:= .tup [p.1,p.2]
theorem vp {fe:TL} (φ:D×D->D) (P:D×D->Prop) (hfe: ∀p acc,P p->fe [.shr p.1,.shr p.2,.own (.lst acc)]= .ok (φ p)):
  ∀(ps:List (D×D)) (acc:List D) (u v:Slot),(∀p∈ps,P p)->acc.length+ps.length<=aaj-> ∃u' v',wt 2 (g2 (gN 0) (gN 1)) zc fe (ps.map rl) [u,v,.own (.lst acc)]= .ok [u',v',.own (.lst (acc++ps.map φ))]
 | [],acc,u,v,_,_=>⟨u,v,by simp [wt]⟩
 |p::r,acc,u,v,hp,h=>by
  simp only [aaF] at h;obtain ⟨u',v',e⟩:=vp φ P hfe r (acc++[φ p]) (.shr p.1) (.shr p.2) (fun x hx=>hp x (by simp [hx])) (by simp only [aaB,aaF,abO];omega);refine ⟨u',v',?_⟩
  have h1:wt 2 (g2 (gN 0) (gN 1)) zc fe ((p::r).map rl) [u,v,.own (.lst acc)]=wt 2 (g2 (gN 0) (gN 1)) zc fe (r.map rl) [.shr p.1,.shr p.2,.own (.lst (acc++[φ p]))]:=by
   show (fe [.shr p.1,.shr p.2,.own (.lst acc)]>>=_)=_;rw [hfe p acc (hp p (by simp))];exact jt (c:=acc.length<aaj) (by omega)
  rw [h1,e];simp
def jao {fe:TL} {fi:TH} {env:Sl} {ps:List (D×D)} (φ:D×D->D) (P:D×D->Prop) (hfe: ∀p acc,P p->fe [.shr p.1,.shr p.2,.own (.lst acc)]= .ok (φ p)) (hi:fi env= .ok (ps.map rl)) (hp: ∀p∈ps,P p) (hl:ps.length<=aaj):
  xJ false 2 [] fi (g2 (gN 0) (gN 1)) zc fe env= .ok (.lst (ps.map φ)):=by
 obtain ⟨u,v,e⟩:=vp φ P hfe ps [] .un .un hp (by simpa using hl);show (fi env>>=_)=_;rw [hi];show (wt 2 (g2 (gN 0) (gN 1)) zc fe (ps.map rl) [.un,.un,.own (.lst [])]>>=_)=_;rw [e];rw [aef];exact jt (c:=(false=true->D.imms (ps.map φ)=true)) (fun z=>by cases z)
def jbW {ks:List (List Key)} {k:List Key} (h:k∉ks):hasT ks k=false:=by
 unfold hasT;rw [aev];intro x hx e;exact h (by rw [←of_decide_eq_true e];exact hx)
theorem Wo: ∀(ps:List (List Key×D)) (q:List (List Key)×List D),(q.1++ps.map (·.1)).Nodup->ps.foldl Qr q=(q.1++ps.map (·.1),q.2++ps.map (·.2))
 | [],q,_=>by simp
 |p::ps,q,h=>by
  have hno:p.1∉q.1:=fun z=>by
   rw [aaE] at h;exact (adN.mp h).2.2 _ z _ aay rfl
  rw [List.foldl_cons]
  have e:Qr q p=(q.1++[p.1],q.2++[p.2]):=by
   unfold Qr Uc Ud;rw [jbW hno];rfl
  rw [e,Wo ps _ (by simpa using h)];simp
theorem Uo: ∀(hs:List Hd) (i:Nat),prsD ((hs.zipIdx i).map fun q=>D.tup [hdD q.1,.int (q.2:Nat)])=some ((hs.zipIdx i).map fun q=>(hdK q.1,D.int (q.2:Nat)))
 | [],i=>rfl
 |h::hs,i=>by
  rw [List.zipIdx_cons,aaE,aaE]
  show (match keyT (hdD h),prsD ((hs.zipIdx (i+1)).map fun q=>D.tup [hdD q.1,.int (q.2:Nat)]) with
   |some k,some q=>some ((k,D.int (i:Nat))::q)
   |_,_=>none)=_
  rw [Uo hs];rfl
theorem YF: ∀(hs:List Hd) (i:Nat),jZ i (hs.map hdD)=((hs.zipIdx i).map fun q=>(D.int (q.2:Nat),hdD q.1)).map rl
 | [],i=>rfl
 |h::hs,i=>by
  rw [List.zipIdx_cons,aaE,aaE,aaE];show D.tup [.int (i:Int),hdD h]::jZ (i+1) (hs.map hdD)=_;rw [YF hs];rfl
def rkO (hs:List Hd):D:= .dit (hs.map hdK) ((aa6 hs.length).map fun (i:Nat)=>D.int i)
def jah {hs:List Hd} (nd:hs.Nodup):WZ [.lst ((hs.zipIdx 0).map fun q=>D.tup [hdD q.1,.int (q.2:Nat)])]= .ok (rkO hs):=by
 show (match prsD ((hs.zipIdx 0).map fun q=>D.tup [hdD q.1,.int (q.2:Nat)]) with
  |some ps=>Res.ok (D.dit (ps.foldl Qr ([],[])).1 (ps.foldl Qr ([],[])).2)
  |none=>Res.stuck)=_
 rw [Uo];dsimp only
 have e1:((hs.zipIdx 0).map fun q=>(hdK q.1,D.int (q.2:Nat))).map (·.1)=hs.map hdK:=by
  rw [abA];have:=congrArg (List.map hdK) (List.zipIdx_map_fst 0 hs);rw [abA] at this;exact this
 have e2:((hs.zipIdx 0).map fun q=>(hdK q.1,D.int (q.2:Nat))).map (·.2)=(aa6 hs.length).map fun (i:Nat)=>D.int i:=by
  rw [abA];have:=congrArg (List.map fun (i:Nat)=>D.int i) (List.zipIdx_map_snd 0 hs);rw [abA] at this;rw [List.range_eq_range'];exact this
 have hn:(hs.map hdK).Nodup:=hdK_nodup.mpr nd;rw [Wo _ _ (by rw [e1];simpa using hn),e1,e2];simp [rkO]
def zY (hs:List Hd):D:= .obj "Ranks" ["rank"] [rkO hs]
def ki {d:D} {hs:List Hd} (hd:d= .lst (hs.map hdD)\/d= .scr (hs.map hdD)) (h:Hds hs) (hl:hs.length<=60):jk (.obj "Ranks" [] []) [d]= .ok (.non,zY hs):=by
 have t1:notB (asB (jA 1 jz (jb (rdS 1) nil1))) [.own (.obj "Ranks" [] []),.shr d]= .ok false:=xz (zb (qd (jg rfl rfl) rfl (KH hd h hl)))
 have en:kO (rdS 1) [.own (.obj "Ranks" [] []),.shr d]= .ok (((hs.zipIdx 0).map fun q=>(D.int (q.2:Nat),hdD q.1)).map rl):=by
  rw [←YF];rcases hd with e|e<;>subst e<;>rfl
 have c1:=jao (fe:=tupF (jb (rdS 1) (jb (rdS 0) nil1))) (φ:=fun p=>D.tup [p.2,p.1]) (P:=fun _=>True) (fun p acc _=>xg (jg rfl (jg rfl rfl)) (jI (by simp))) en (fun _ _=>trivial) (by rw [aan,List.length_zipIdx];exact jI (by omega));rw [abA] at c1;have c2:app (jb (xJ false 2 [] (kO (rdS 1)) (g2 (gN 0) (gN 1)) zc (tupF (jb (rdS 1) (jb (rdS 0) nil1)))) nil1) WZ [.own (.obj "Ranks" [] []),.shr d]= .ok (rkO hs):=zF (jg c1 rfl) (jah h.nd)
 have e0:jH jz [.own (.obj "Ranks" [] []),.shr d]= .ok (.nx [.own (zY hs),.shr d]):=by
  unfold jH;refine (jbg ((jdK t1).trans (Kf rfl))).trans (Kf ?_);exact (vT (d:=rkO hs) c2 rfl (by decide)).trans rfl
 exact vW rfl e0 rfl
def jel {hs:List Hd} (hl:hs.length<=60) (h:Hds hs):jr [zY hs]= .ok (.lst (hs.map hdD)):=by
 have e:wB (hs.map hdK)=some hs:=by
  clear hl h
  induction hs with
  |nil=>rfl
  |cons a r ih=>
   show (match uU (hdK a),wB (r.map hdK) with|some a,some as=>some (a::as)|_,_=>none)=_;rw [ih];rfl
 have e2:uI [rkO hs]= .ok (.lst (hs.map hdD)):=by
  show (match wB (hs.map hdK) with|some hs=>must (hs.length<=1000/\Yv hs=true) (Res.ok (D.lst (hs.map hdD)))|none=> .stuck)=_;rw [e];refine jt ⟨by omega,?_⟩;unfold Yv;rw [aaZ];intro a ha;have:=h.nm a ha;rw [Je] at this;simp only [aaG,decide_eq_true_eq] at this;exact decide_eq_true (jI (by omega))
 refine yZ ?_;show qL [.shr (zY hs)]=_;unfold qL;exact qX (zF (jg (d:=rkO hs) rfl rfl) e2)
def jdU (l:List Hd):eqD (.lst (l.map hdD)) (.lst (l.map hdD))=true/\EqC (.lst (l.map hdD)) (.lst (l.map hdD)):=by
 have e1:D.eqb (.lst (l.map hdD))=true:=by
   simp only [D.eqb];exact Y3 (fun _=>rfl) l
 refine ⟨?_,.inl ⟨e1,e1,?_⟩⟩
 · simp only [eqD]
   exact J6 fun d hd=>by
    obtain ⟨a,_,rfl⟩:=aaK.mp hd;simp [hdD,eqD,eqDs]
 · simp only [D.dep]
   have:D.deps (l.map hdD)<=10:=ZV fun d hd=>by
    obtain ⟨a,_,rfl⟩:=aaK.mp hd;simp [hdD,D.dep,D.deps]
   omega
def UL {d:D} (h:eqD d d=true/\EqC d d):neR d d= .ok (.bl false):=by unfold neR;rw [jt h.2,h.1];rfl
def UQ {d:D} {hs:List Hd} (hd:d= .lst (hs.map hdD)\/d= .scr (hs.map hdD)) (h:Hds hs) (hl:hs.length<=60):ql [d]= .ok (.tup [.int 0,zY hs]):=by
 have mk:jB 2 (zl "Ranks" 1 jk (jb (rdS 0) nil1)) [.shr d,.shr (.int 0),.shr .non,.un]= .ok (.nx [.shr d,.shr (.int 0),.shr (zY hs),.un]):=by
  refine jy (d:=zY hs) ?_;unfold zl;rw [show jb (rdS 0) nil1 [.shr d,.shr (.int 0),.shr .non,.un]= .ok [d] from jg rfl rfl];dsimp only;rw [if_pos (show [d].length=1 from rfl),ki hd h hl]
 refine yZ ?_;show qH jk [.shr d,.un,.un,.un]=_;unfold qH;refine (jn (jy (d:= .int 0) rfl)).trans ((jn (jy (d:= .non) rfl)).trans ?_)
 have tr: ∀(gs:TJ),tryO ["NoPaper"] (jB 2 (zl "Ranks" 1 jk (jb (rdS 0) nil1))) 3 gs [.shr d,.shr (.int 0),.shr .non,.un]= .ok (.nx [.shr d,.shr (.int 0),.shr (zY hs),.un]):=fun gs=>by
  unfold tryO;rw [mk]
 refine (jn (tr _)).trans (qX ?_);exact xg (jg rfl (jg rfl rfl)) (jI (show 2<=20000 by decide))
theorem Q2 {a b:Slot}: ∀(hs:List Hd) (u:Slot),∃u',forD (yW (gN 2) (ifO (orB (notB (asB (isiF "tuple" (rdS 2)))) (orB (notB (asB (isiF "int" (two (rdS 2) (cI 1) ixD)))) (asB (isiF "bool" (two (rdS 2) (cI 1) ixD))))) (retO (cB false)) nxO)) (hs.map hdD) [a,b,u]= .ok (.nx [a,b,u'])
 | [],u=>⟨u,rfl⟩
 |h::hs,u=>by
  obtain ⟨u',e⟩:=Q2 (a:=a) (b:=b) hs (.shr (hdD h));exact ⟨u',(ZO (by rfl)).trans e⟩
def jef (hs:List Hd):qp [.lst (hs.map hdD),.lst (hs.map hdD)]= .ok (.bl true):=by
 obtain ⟨u',e⟩:=Q2 (a:= .shr (.lst (hs.map hdD))) (b:= .shr (.lst (hs.map hdD))) hs .un;refine yZ ?_;show zz [.shr (.lst (hs.map hdD)),.shr (.lst (hs.map hdD)),.un]=_;unfold zz;have t1:orB (notB (asB (isiF "list" (rdS 0)))) (asB (two (rdS 0) (rdS 1) neR)) [.shr (.lst (hs.map hdD)),.shr (.lst (hs.map hdD)),.un]= .ok false:=Wv (b:=false) (b2:=false) (xz (b:=true) rfl) (zb (jq rfl rfl (UL (jdU hs))));refine (jn ((if_f t1).trans rfl)).trans ((jn ((YY (ds:=hs.map hdD) (YN rfl rfl)).trans e)).trans ?_);rfl
def Odd (x:D):Prop:=okH x=true/\isHd x=false/\noS x=true/\eqD x x=true/\D.eqb x=true/\D.dep x<=5
def jbC {x nm:D} (hn: ∃z,nm= .str z) {pl:Int} {sg:Str} (h:x∈[D.lst [nm,.int pl],nm,.non,.int 0,.bl true,.tup [],.tup [nm],.tup [nm,.int 1,.int 2],.tup [.int pl,nm],.tup [.str "",.int 1],.tup [.str "aB",.int 1]]++[.tup [.str "a1",.int 0],.tup [.str "abcdefghi",.int 2],.tup [.str "a ",.int 1],.tup [nm,.int 10],.tup [nm,.int (-1)],.tup [nm,.bl true],.tup [nm,.non]]++[.tup [nm,.str "1"],.tup [.tup [nm],.int 1],.tup [.int 0,.int 0],.str sg]):Odd x:=by
 obtain ⟨z,rfl⟩:=hn;have b1:isNm (.str "")=false:=by decide+kernel
 have b2:isNm (.str "aB")=false:=by decide+kernel
 have b3:isNm (.str "a1")=false:=by decide+kernel
 have b4:isNm (.str "abcdefghi")=false:=by decide+kernel
 have b5:isNm (.str "a ")=false:=by decide+kernel
 simp only [aeN,aef,aaJ,ad1,or_false] at h;rcases h with e|e|e|e|e|e|e|e|e|e|e|e|e|e|e|e|e|e|e|e|e|e<;>subst e<;>refine ⟨?_,?_,?_,?_,?_,?_⟩<;>simp [okH,Qu,isHd,isWh,inPl,noS,noSs,eqD,eqDs,D.eqb,D.eqbs,D.dep,D.deps,b1,b2,b3,b4,b5]<;>simp [isNm]
def jbd {i:Int} (h0:0<=i) (h9:i<=9): ∃z,Vx [.int i]= .ok (.str z)/\z.length=1:=by
 have:i=0\/i=1\/i=2\/i=3\/i=4\/i=5\/i=6\/i=7\/i=8\/i=9:=by omega
 rcases this with e|e|e|e|e|e|e|e|e|e<;>subst e<;>exact ⟨_,jt (by decide),by decide⟩
def sm1 {l:List D} (k:Nat) (h:l.length=k) (h2:k<=20000):l.length<=aaj:=by rw [h];exact jI h2
def ixK {ds:List D} {d:D} (hd:d= .lst ds\/d= .scr ds) {i:Int} (h0:0<=i) (h1:i<ds.length): ∃x,ixD d (.int i)= .ok x/\x∈ds:=by
 obtain ⟨c,hc,hm⟩:=ja6 h0 h1;rcases hd with e|e<;>subst e<;>exact ⟨c,by simp only [ixD];rw [hc],hm⟩
def UI {hs:List Hd} (h:Hds hs) (hne:hs≠[]) (n:Int): ∃x,wg [.int n,.scr (hs.map hdD)]= .ok x/\Odd x:=by
 have hp:0<hs.length:=aeg.mpr hne;have hle:lenD [.scr (hs.map hdD)]= .ok (.int hs.length):=by show Res.ok (D.int ((hs.map hdD).length:Int))=_;rw [aan]
 have q0:0<=n%(hs.length:Int):=abu _ (by omega);have q1:n%(hs.length:Int)< (hs.length:Int):=acf _ (by omega);obtain ⟨x,hx,hxm⟩:=ixK (ds:=hs.map hdD) (.inr rfl) q0 (by rw [aan];exact q1);obtain ⟨⟨nm,pl⟩,ha,rfl⟩:=aaK.mp hxm;have p:=h.pl _ ha;have hnm:=h.nm _ ha;obtain ⟨z,hz,hzl⟩:=jbd p.1 p.2;dsimp only at hz
 have hnl:nm.length<=8:=by
   dsimp only at hnm;rw [Je] at hnm;simp only [aaG,decide_eq_true_eq] at hnm;omega
 generalize hS:D.scr (hs.map hdD)=S at*;obtain ⟨L,hL⟩: ∃L:List D,L=[D.lst [.str nm,.int pl],.str nm,.non,.int 0,.bl true,.tup [],.tup [.str nm],.tup [.str nm,.int 1,.int 2],.tup [.int pl,.str nm],.tup [.str "",.int 1],.tup [.str "aB",.int 1]]++[.tup [.str "a1",.int 0],.tup [.str "abcdefghi",.int 2],.tup [.str "a ",.int 1],.tup [.str nm,.int 10],.tup [.str nm,.int (-1)],.tup [.str nm,.bl true],.tup [.str nm,.non]]++[.tup [.str nm,.str "1"],.tup [.tup [.str nm],.int 1],.tup [.int 0,.int 0],.str (nm++ "," ++z)]:=⟨_,rfl⟩
 have hLl:L.length=22:=by rw [hL];rfl
 have r0:0<=n/61%22:=by omega
 obtain ⟨y,hy,hym⟩:=ixK (ds:=L) (.inl rfl) r0 (by rw [hLl];omega);refine ⟨y,jc4 ?_,jbC (x:=y) ⟨nm,rfl⟩ (by rw [←hL];exact hym)⟩;show wV [.shr (.int n),.shr S,.un,.un]=_;unfold wV;have s1:jB 2 (two (rdS 1) (two (rdS 0) (app (jb (rdS 1) nil1) lenD) modI) ixD) [.shr (.int n),.shr S,.un,.un]= .ok (.nx [.shr (.int n),.shr S,.shr (hdD (nm,pl)),.un]):=jy (jq rfl (qc rfl (zF (jg rfl rfl) hle) (by omega)) hx);have s2:jB 0 (two (rdS 0) (cI 61) divI) [.shr (.int n),.shr S,.shr (hdD (nm,pl)),.un]= .ok (.nx [.shr (.int (n/61)),.shr S,.shr (hdD (nm,pl)),.un]):=jy (jq rfl rfl (J9 (by decide)));refine (jn s1).trans ((jn s2).trans ?_);have ch: ∀u:Slot,chk (two (two (two (rdS 2) (cI 0) ixD) (cS ",") addD) (app (jb (two (rdS 2) (cI 1) ixD) nil1) Vx) addD) [.shr (.int (n/61)),.shr S,.shr (hdD (nm,pl)),u]= .ok (.str (nm++ "," ++z)):=fun u=>ja1 (jq (jq (jq rfl rfl rfl) rfl (add_str (b:= ",") (show nm.length+1<=20000 by omega))) (zF (jg (jq rfl rfl rfl) rfl) hz) (add_str (by rw [len_app,hzl];show nm.length+1+1<=20000;omega))) rfl
 refine (jn (env':=[.shr (.int (n/61)),.shr S,.shr (hdD (nm,pl)),.shr (.lst [D.lst [.str nm,.int pl],.str nm,.non,.int 0,.bl true,.tup [],.tup [.str nm],.tup [.str nm,.int 1,.int 2],.tup [.int pl,.str nm],.tup [.str "",.int 1],.tup [.str "aB",.int 1]])]) (by rfl)).trans ?_;refine (jn (env':=[.shr (.int (n/61)),.shr S,.shr (hdD (nm,pl)),.shr (.lst ([D.lst [.str nm,.int pl],.str nm,.non,.int 0,.bl true,.tup [],.tup [.str nm],.tup [.str nm,.int 1,.int 2],.tup [.int pl,.str nm],.tup [.str "",.int 1],.tup [.str "aB",.int 1]]++[.tup [.str "a1",.int 0],.tup [.str "abcdefghi",.int 2],.tup [.str "a ",.int 1],.tup [.str nm,.int 10],.tup [.str nm,.int (-1)],.tup [.str nm,.bl true],.tup [.str nm,.non]]))]) (by rfl)).trans ?_;refine (jn (env':=[.shr (.int (n/61)),.shr S,.shr (hdD (nm,pl)),.shr (.lst L)]) ?_).trans ?_
 · rw [hL];exact jy (jq rfl (WE (jg rfl (jg rfl (jg rfl (jg (ch _) rfl)))) (sm1 4 rfl (by decide))) (vG (by rw [aaB];exact jI (by simp))))
 · refine XA (jq rfl (qc (j:=22) rfl (zF (jg rfl rfl) ?_) (by decide)) hy);show Res.ok (D.int (L.length:Int))=_;rw [hLl];rfl
def vS {i:Nat} {fk fv:TL} {env:Sl} {ds:List D} {d:D} {k:Int} (hi:env[i]?=some (.own (.lst ds))) (hv:fv env= .ok d) (hk:fk env= .ok (.int k)) (h0:0<=k) (h1:k<ds.length):Kz i fk fv env= .ok (.nx (env.set i (.own (.lst (ds.set k.toNat d))))):=by
 have e:ixN ds.length k=some k.toNat:=by unfold ixN;simp [h0,h1];try omega
 unfold Kz;rw [XJ hi];show (fv env>>=_)=_;rw [hv];show (fk env>>=_)=_;rw [hk];show (match ixN ds.length k with|some j=>Res.ok (Out.nx (env.set i (.own (.lst (ds.set j d)))))|none=> .stuck)=_;rw [e]
def K4 {i:Nat} {f1 f2:TL} {env:Sl} {ds:List D} {d:D} {k:Int} (hi:env[i]?=some (.own (.lst ds))) (hk:f1 env= .ok (.int k)) (hv:f2 env= .ok d) (h0:0<=k) (h1:k<2^63) (h2:ds.length<aaj):yy i f1 f2 env= .ok (.nx (env.set i (.own (.lst (ds.take k.toNat++d::ds.drop k.toNat))))):=by
 unfold yy;rw [XJ hi];show (f1 env>>=_)=_;rw [hk];show (f2 env>>=_)=_;rw [hv];exact jt ⟨h0,h1,h2⟩
def UU {i:Nat} {f:TL} {env:Sl} {ds:List D} {d:D} (hi:env[i]?=some (.own (.lst ds))) (h:f (env.set i (.shr (.scr ds)))= .ok d) (hn:noS d=true):ZC i f env= .ok d:=by
 unfold ZC;rw [hi];show (f _>>=_)=_;rw [h];exact jt hn
def jaH (hs:List Hd):neR (.lst (hs.map hdD)) (.lst [])= .ok (.bl (!hs.isEmpty)):=by
 cases hs with
 |nil=>rfl
 |cons a r=>
  unfold neR;rw [jt (show EqC (.lst ((a::r).map hdD)) (.lst []) from .inr (by simp [Qy]))];simp [eqD,eqDs]
def UK {d:D} (h1:eqD d d=true) (h2:D.eqb d=true) (h3:D.dep d<=190):neA d d= .ok (.bl false):=by
 have:neR d d= .ok (.bl false):=UL ⟨h1,.inl ⟨h2,h2,h3⟩⟩
 cases d with
 |dic _ _=>simp [D.eqb] at h2
 |_=>exact this
def yw {ds:List D} (h: ∀e∈ds,eqD e e=true/\D.eqb e=true/\D.dep e<=100):neA (.lst ds) (.lst ds)= .ok (.bl false)/\neA (.tup ds) (.tup ds)= .ok (.bl false):=by
 have a1:eqDs ds ds=true:=J6 fun e he=>(h e he).1
 have a2:D.eqbs ds=true:=Yb fun e he=>(h e he).2.1
 have a3:D.deps ds<=100:=ZV fun e he=>(h e he).2.2
 exact ⟨UK (by simpa only [eqD] using a1) (by simpa only [D.eqb] using a2) (by simp only [D.dep];omega),UK (by simpa only [eqD] using a1) (by simpa only [D.eqb] using a2) (by simp only [D.dep];omega)⟩
def kr (a:Hd):eqD (hdD a) (hdD a)=true/\D.eqb (hdD a)=true/\D.dep (hdD a)<=100:=⟨by simp [hdD,eqD,eqDs],rfl,by simp [hdD,D.dep,D.deps]⟩
def Bad (d:D):Prop:=neA d d= .ok (.bl false)/\((∃ds,d= .lst ds/\jz [.scr ds]= .ok (.bl false))\/(Qu d=true/\ ∀ds,d≠ .lst ds))
def Z4 {x:D} (h:okH x=true/\isHd x=false) (e:eqD x x=true/\D.eqb x=true/\D.dep x<=100):Bad (.lst [x]):=
 ⟨(yw fun y hy=>by rw [abS.mp hy];exact e).1,.inl ⟨_,rfl,QD (.inr rfl) (fun y hy=>by rw [abS.mp hy];exact h.1) (by simp) (abS.mpr rfl) h.2⟩⟩
def jeU (d:D) (g:Bool):Prop:=(g=true/\ ∃hs,d= .lst (hs.map hdD)/\Hds hs/\hs.length<=60)\/(g=false/\Bad d)
def th5:Sl->Res Out:=(ifO (andB (asB (two (rdS 2) (cI 5) eqR)) (asB (two (rdB 1) (lstF nil1) neR))) (seqO (yy 1 (two (rdS 4) (two (app (jb (rdB 1) nil1) lenD) (cI 1) addD) modI) (two (rdB 1) (two (rdS 0) (app (jb (rdB 1) nil1) lenD) modI) ixD)) (frzO 1 (retO (tupF (jb (rdS 1) (jb (cB false) nil1)))))) nxO)
def th6:Sl->Res Out:=(ifO (andB (asB (two (rdS 2) (cI 6) eqR)) (asB (two (rdB 1) (lstF nil1) neR))) (seqO (Kz 1 (two (rdS 4) (app (jb (rdB 1) nil1) lenD) modI) (ZC 1 (jA 2 wg (jb (rdS 0) (jb (rdS 1) nil1))))) (frzO 1 (retO (tupF (jb (rdS 1) (jb (cB false) nil1)))))) nxO)
def th7:Sl->Res Out:=(ifO (asB (two (rdS 2) (cI 7) eqR)) (seqO (frzO 1 (setO 5 (lstF (jb (app (jb (rdS 1) nil1) Qz) (jb cN (jb (cI 0) (jb (cS "a") (jb (cB true) (jb cD (jb (lstF (jb (rdS 1) nil1)) (jb (jA 2 qo (jb (rdS 0) (jb (cI 61) nil1))) (jb (lstF (jb (tupF nil1) nil1)) (jb (lstF (jb (lstF nil1) nil1)) (jb (tupF (jb (tupF (jb (cS "a") (jb (cI 1) nil1))) nil1)) nil1)))))))))))))) (seqO (zO 5 (lstF (jb (tupF (jb (cS "a") (jb (cI 1) (jb (cI 1) nil1)))) nil1))) (retO (tupF (jb (two (rdB 5) (two (rdS 0) (app (jb (rdB 5) nil1) lenD) modI) ixD) (jb (cB false) nil1)))))) nxO)
def thE:Sl->Res Out:=(frzO 1 (retO (tupF (jb (rdS 1) (jb (cB true) nil1)))))
def Xq (n:Int) (hn:0<=n): ∃d g,jV [.int n]= .ok (.tup [d,.bl g])/\jeU d g:=by
 obtain ⟨w,hw⟩: ∃w,w=n%8:=⟨_,rfl⟩
 obtain ⟨m,hm⟩: ∃m,m=n/8%61:=⟨_,rfl⟩
 obtain ⟨at_,hat⟩: ∃at_,at_=n/8/61%61:=⟨_,rfl⟩
 obtain ⟨N,hN⟩: ∃N,N=n/8/61/61:=⟨_,rfl⟩
 have N0:0<=N:=by omega
 have at0:0<=at_/\at_<61:=by omega
 obtain ⟨hs,eh,H,hl⟩:=JY N m N0 (by omega);obtain ⟨hs2,eh2,H2,hl2⟩:=JY N 61 N0 (by omega);have hl:hs.length<=60:=by omega
 have start: ∀(d:D),(seqO th5 (seqO th6 (seqO th7 thE))) [.shr (.int N),Slot.own (.lst (hs.map hdD)),.shr (.int w),.shr (.int m),.shr (.int at_),.un]= .ok (.rt true d)->jV [.int n]= .ok d:=by
   intro d h;refine yZ ?_;show (seqO (asgO (app (jb (rdS 0) (jb (cI 8) nil1)) qy) (g2 (gN 0) (gN 2))) (seqO (asgO (app (jb (rdS 0) (jb (cI 61) nil1)) qy) (g2 (gN 0) (gN 3))) (seqO (asgO (app (jb (rdS 0) (jb (cI 61) nil1)) qy) (g2 (gN 0) (gN 4))) (seqO (setO 1 (jA 2 qo (jb (rdS 0) (jb (rdS 3) nil1)))) (seqO th5 (seqO th6 (seqO th7 thE))))))) [.shr (.int n),.un,.un,.un,.un,.un]=_;subst hw hm hat hN;refine (jn (wM (kZ rfl rfl (by decide)))).trans ((jn (wM (kZ rfl rfl (by decide)))).trans ((jn (wM (kZ rfl rfl (by decide)))).trans ((jn (Zd (d:= .lst (hs.map hdD)) (qd (jg rfl (jg rfl rfl)) rfl eh))).trans ?_)));exact h
 have t5:andB (asB (two (rdS 2) (cI 5) eqR)) (asB (two (rdB 1) (lstF nil1) neR)) [.shr (.int N),.own (.lst (hs.map hdD)),.shr (.int w),.shr (.int m),.shr (.int at_),.un]= .ok ((w==5)&&!hs.isEmpty):=Km (zb (jq rfl rfl wp)) (zb (jq rfl rfl (jaH hs)));have t6:andB (asB (two (rdS 2) (cI 6) eqR)) (asB (two (rdB 1) (lstF nil1) neR)) [.shr (.int N),.own (.lst (hs.map hdD)),.shr (.int w),.shr (.int m),.shr (.int at_),.un]= .ok ((w==6)&&!hs.isEmpty):=Km (zb (jq rfl rfl wp)) (zb (jq rfl rfl (jaH hs)));have t7:asB (two (rdS 2) (cI 7) eqR) [.shr (.int N),.own (.lst (hs.map hdD)),.shr (.int w),.shr (.int m),.shr (.int at_),.un]= .ok (w==7):=zb (jq rfl rfl wp);have hle: ∀u:Slot,app (jb (rdB 1) nil1) lenD [.shr (.int N),.own (.lst (hs.map hdD)),.shr (.int w),.shr (.int m),.shr (.int at_),u]= .ok (.int hs.length):=fun u=>zF (jg rfl rfl) (by show Res.ok (D.int ((hs.map hdD).length:Int))=_;rw [aan])
 by_cases c5:((w==5)&&!hs.isEmpty)=true
 · rw [c5] at t5
   have hp:0<hs.length:=by
     simp only [aaG,Bool.not_eq_true',List.isEmpty_eq_false_iff] at c5;exact aeg.mpr c5.2
   have q0:0<=N%(hs.length:Int):=abu _ (by omega);have q1:N%(hs.length:Int)< (hs.length:Int):=acf _ (by omega);have k0:0<=at_%((hs.length:Int)+1):=abu _ (by omega);have k1:at_%((hs.length:Int)+1)< (hs.length:Int)+1:=acf _ (by omega);obtain ⟨x,hx,hxm⟩:=ixK (ds:=hs.map hdD) (.inl rfl) q0 (by rw [aan];exact q1);obtain ⟨a,ha,rfl⟩:=aaK.mp hxm;obtain ⟨k,hk⟩: ∃k:Nat,k=(at_%((hs.length:Int)+1)).toNat:=⟨_,rfl⟩
   have hnd: ¬(hs.take k++a::hs.drop k).Nodup:=fun z=>by
     rw [adN,acl] at z;rcases abr.mp (show a∈hs.take k++hs.drop k by rw [List.take_append_drop];exact ha) with y|y
     · exact z.2.2 a y a aay rfl
     · exact z.2.1.1 y
   refine ⟨.lst ((hs.take k++a::hs.drop k).map hdD),false,start _ ?_,.inr ⟨rfl,(yw fun e he=>by obtain ⟨b,_,rfl⟩:=aaK.mp he;exact kr b).1,.inl ⟨_,rfl,XC (.inr rfl) hnd (by simp only [aaB,adY,aaF,aeK];omega)⟩⟩⟩
   have s1:yy 1 (two (rdS 4) (two (app (jb (rdB 1) nil1) lenD) (cI 1) addD) modI) (two (rdB 1) (two (rdS 0) (app (jb (rdB 1) nil1) lenD) modI) ixD) [.shr (.int N),.own (.lst (hs.map hdD)),.shr (.int w),.shr (.int m),.shr (.int at_),.un]= .ok (.nx [.shr (.int N),.own (.lst ((hs.take k++a::hs.drop k).map hdD)),.shr (.int w),.shr (.int m),.shr (.int at_),.un]):=by
     refine (K4 (ds:=hs.map hdD) (k:=at_%((hs.length:Int)+1)) rfl (qc rfl (vH (hle _) rfl) (by omega)) (jq rfl (qc rfl (hle _) (by omega)) hx) k0 (by omega) (by rw [aan];exact aaw (by omega) (jI (k:=100) (by decide)))).trans ?_;rw [←hk,←List.map_take,←List.map_drop,←aaE,←acO];rfl
   unfold th5;refine QB ((if_t t5).trans ((jn s1).trans ?_));exact qX (xg (jg rfl (jg rfl rfl)) (jI (show 2<=20000 by decide)))
 rw [acy] at c5;rw [c5] at t5;have f5: ∀d,(seqO th6 (seqO th7 thE)) [.shr (.int N),Slot.own (.lst (hs.map hdD)),.shr (.int w),.shr (.int m),.shr (.int at_),.un]= .ok (.rt true d)->jV [.int n]= .ok d:=fun d h=>start d ((jn ((if_f t5).trans rfl)).trans h)
 by_cases c6:((w==6)&&!hs.isEmpty)=true
 · rw [c6] at t6
   have hp:hs≠[]:=by
     simp only [aaG,Bool.not_eq_true',List.isEmpty_eq_false_iff] at c6;exact c6.2
   have hp2:0<hs.length:=aeg.mpr hp;have k0:0<=at_%(hs.length:Int):=abu _ (by omega);have k1:at_%(hs.length:Int)< (hs.length:Int):=acf _ (by omega);obtain ⟨x,hx,ox⟩:=UI H hp N;obtain ⟨k,hk⟩: ∃k:Nat,k=(at_%(hs.length:Int)).toNat:=⟨_,rfl⟩
   have hin: ∀e∈(hs.map hdD).set k x,(∃a,e=hdD a)\/e=x:=fun e he=>by
     rcases List.mem_or_eq_of_mem_set he with z|z
     · obtain ⟨a,_,rfl⟩:=aaK.mp z;exact .inl ⟨a,rfl⟩
     · exact .inr z
   refine ⟨.lst ((hs.map hdD).set k x),false,f5 _ ?_,.inr ⟨rfl,(yw fun e he=>?_).1,.inl ⟨_,rfl,QD (.inr rfl) (fun e he=>?_) (by rw [List.length_set,aan];omega) (x:=x) (List.mem_set (by rw [aan];omega) x) ox.2.1⟩⟩⟩
   · have s1:Kz 1 (two (rdS 4) (app (jb (rdB 1) nil1) lenD) modI) (ZC 1 (jA 2 wg (jb (rdS 0) (jb (rdS 1) nil1)))) [.shr (.int N),.own (.lst (hs.map hdD)),.shr (.int w),.shr (.int m),.shr (.int at_),.un]= .ok (.nx [.shr (.int N),.own (.lst ((hs.map hdD).set k x)),.shr (.int w),.shr (.int m),.shr (.int at_),.un]):=by
       refine (vS (ds:=hs.map hdD) (k:=at_%(hs.length:Int)) rfl (UU rfl (qd (jg rfl (jg rfl rfl)) rfl hx) ox.2.2.1) (qc rfl (hle _) (by omega)) k0 (by rw [aan];exact k1)).trans ?_;rw [←hk];rfl
     unfold th6;refine QB ((if_t t6).trans ((jn s1).trans ?_));exact qX (xg (jg rfl (jg rfl rfl)) (jI (show 2<=20000 by decide)))
   · rcases hin e he with ⟨a,rfl⟩|rfl
     · exact kr a
     · exact ⟨ox.2.2.2.1,ox.2.2.2.2.1,by have:=ox.2.2.2.2.2;omega⟩
   · rcases hin e he with ⟨a,rfl⟩|rfl
     · rfl
     · exact ox.1
 rw [acy] at c6;rw [c6] at t6;have f6: ∀d,(seqO th7 thE) [.shr (.int N),Slot.own (.lst (hs.map hdD)),.shr (.int w),.shr (.int m),.shr (.int at_),.un]= .ok (.rt true d)->jV [.int n]= .ok d:=fun d h=>f5 d ((jn ((if_f t6).trans rfl)).trans h)
 by_cases c7:(w==7)=true
 · rw [c7] at t7;obtain ⟨L,hL⟩: ∃L:List D,L=[D.tup (hs.map hdD),.non,.int 0,.str "a",.bl true,.dic [] [],.lst [.lst (hs.map hdD)],.lst (hs2.map hdD),.lst [.tup []],.lst [.lst []],.tup [.tup [.str "a",.int 1]]]++[.lst [.tup [.str "a",.int 1,.int 1]]]:=⟨_,rfl⟩
   have hLl:L.length=12:=by rw [hL];rfl
   obtain ⟨y,hy,hym⟩:=ixK (ds:=L) (i:=N%12) (.inl rfl) (by omega) (by rw [hLl];omega);have hh:=yw (ds:=hs.map hdD) fun e he=>by obtain ⟨b,_,rfl⟩:=aaK.mp he;exact kr b
   have hh2:=yw (ds:=hs2.map hdD) fun e he=>by obtain ⟨b,_,rfl⟩:=aaK.mp he;exact kr b
   have hq:=jdU hs;refine ⟨y,false,f6 _ ?_,.inr ⟨rfl,?_⟩⟩
   · have s1:frzO 1 (setO 5 (lstF (jb (app (jb (rdS 1) nil1) Qz) (jb cN (jb (cI 0) (jb (cS "a") (jb (cB true) (jb cD (jb (lstF (jb (rdS 1) nil1)) (jb (jA 2 qo (jb (rdS 0) (jb (cI 61) nil1))) (jb (lstF (jb (tupF nil1) nil1)) (jb (lstF (jb (lstF nil1) nil1)) (jb (tupF (jb (tupF (jb (cS "a") (jb (cI 1) nil1))) nil1)) nil1))))))))))))) [.shr (.int N),.own (.lst (hs.map hdD)),.shr (.int w),.shr (.int m),.shr (.int at_),.un]= .ok (.nx [.shr (.int N),.shr (.lst (hs.map hdD)),.shr (.int w),.shr (.int m),.shr (.int at_),.own (.lst [D.tup (hs.map hdD),.non,.int 0,.str "a",.bl true,.dic [] [],.lst [.lst (hs.map hdD)],.lst (hs2.map hdD),.lst [.tup []],.lst [.lst []],.tup [.tup [.str "a",.int 1]]])]):=
       Zd (d:= .lst _) (WE (jg (zF (jg rfl rfl) rfl) (jg rfl (jg rfl (jg rfl (jg rfl (jg rfl (jg (WE (jg rfl rfl) (sm1 1 rfl (by decide))) (jg (qd (jg rfl (jg rfl rfl)) rfl eh2) (jg rfl (jg rfl (jg rfl rfl))))))))))) (sm1 11 rfl (by decide)))
     have s2:zO 5 (lstF (jb (tupF (jb (cS "a") (jb (cI 1) (jb (cI 1) nil1)))) nil1)) [.shr (.int N),.shr (.lst (hs.map hdD)),.shr (.int w),.shr (.int m),.shr (.int at_),.own (.lst [D.tup (hs.map hdD),.non,.int 0,.str "a",.bl true,.dic [] [],.lst [.lst (hs.map hdD)],.lst (hs2.map hdD),.lst [.tup []],.lst [.lst []],.tup [.tup [.str "a",.int 1]]])]= .ok (.nx [.shr (.int N),.shr (.lst (hs.map hdD)),.shr (.int w),.shr (.int m),.shr (.int at_),.own (.lst L)]):=by
       refine (xc (d:= .lst [.tup [.str "a",.int 1,.int 1]]) rfl rfl (by simp)).trans ?_;rw [hL];rfl
     unfold th7;refine QB ((if_t t7).trans ((jn s1).trans ((jn s2).trans (qX (xg (jg (jq rfl (qc (j:=12) rfl (zF (jg rfl rfl) ?_) (by decide)) hy) (jg rfl rfl)) (jI (show 2<=20000 by decide)))))));show Res.ok (D.int (L.length:Int))=_;rw [hLl];rfl
   · rw [hL] at hym;simp only [aeN,aef,aaJ,ad1,or_false] at hym;rcases hym with e|e|e|e|e|e|e|e|e|e|e|e<;>subst e
     · exact ⟨hh.2,.inr ⟨rfl,fun _ z=>by cases z⟩⟩
     · exact ⟨rfl,.inr ⟨rfl,fun _ z=>by cases z⟩⟩
     · exact ⟨rfl,.inr ⟨rfl,fun _ z=>by cases z⟩⟩
     · exact ⟨rfl,.inr ⟨rfl,fun _ z=>by cases z⟩⟩
     · exact ⟨rfl,.inr ⟨rfl,fun _ z=>by cases z⟩⟩
     · exact ⟨by rfl,.inr ⟨rfl,fun _ z=>by cases z⟩⟩
     · refine Z4 ⟨rfl,rfl⟩ ⟨hq.1,?_,?_⟩
       · simp only [D.eqb];exact Y3 (fun _=>rfl) hs
       · simp only [D.dep];have:D.deps (hs.map hdD)<=10:=jai (fun a=>by simp [hdD,D.dep,D.deps]) hs;omega
     · exact ⟨hh2.1,.inl ⟨_,rfl,QE (.inr rfl) (by omega) (by omega)⟩⟩
     · exact Z4 ⟨rfl,rfl⟩ ⟨rfl,rfl,by decide⟩
     · exact Z4 ⟨rfl,rfl⟩ ⟨rfl,rfl,by decide⟩
     · exact ⟨by rfl,.inr ⟨rfl,fun _ z=>by cases z⟩⟩
     · exact Z4 ⟨rfl,rfl⟩ ⟨by rfl,rfl,by decide⟩
 rw [acy] at c7;rw [c7] at t7;refine ⟨.lst (hs.map hdD),true,f6 _ ((jn ((if_f t7).trans rfl)).trans ?_),.inl ⟨rfl,hs,rfl,H,hl⟩⟩;exact qX (xg (jg rfl (jg rfl rfl)) (jI (show 2<=20000 by decide)))
def X6 (c:Int): ∃m:Int,qW [.int c]= .ok (.int m)/\0<=m:=by
 have hp: ∀u:Slot,two (cI 10) (cI 60) powI [.shr (.int c),u]= .ok (.int (10^60)):=fun u=>jq rfl rfl (Uq (i:=10) (j:=60) (by decide))
 have hq:two (cI 10) (cI 24) powI [.shr (.int c),.un]= .ok (.int (10^24)):=jq rfl rfl (Uq (i:=10) (j:=24) (by decide));have hr: ∀u:Slot,two (cI 23) (cI 64) powI [.shr (.int c),u]= .ok (.int (23^64)):=fun u=>jq rfl rfl (Uq (i:=23) (j:=64) (by decide))
 have h0:0<=c%10^60:=abu _ (by decide);have h1:c%10^60<10^60:=acf _ (by decide);generalize hx:c%10^60=x at h0 h1;refine ⟨(x+41)*23^64%(10^60*10^24),yZ ?_,abu _ (by decide)⟩;show zy [.shr (.int c),.un]=_;unfold zy;rw [jn (env':=[.shr (.int c),.shr (.int (10^60*10^24))]) ((jy (UM (a:=210) (b:=90) (hp _) hq (by decide) (by decide) (by decide))).trans rfl)];have hm:two (rdS 0) (two (cI 10) (cI 60) powI) modI [.shr (.int c),.shr (.int (10^60*10^24))]= .ok (.int x):=by rw [←hx];exact qc rfl (hp _) (by decide)
 exact qX (qc (UM (a:=210) (b:=300) (vH hm rfl) (hr _) (by omega) (by decide) (by decide)) rfl (by decide))
def jcz {i j:Nat} {F:TF} {g:TH} {env:Sl} {m:Int} {x y:D} (h1:g env= .ok [.int m]) (h2:F [.int m]= .ok (.tup [x,y])) (h3:y.imm=true):asgN i j 1 F g env= .ok (.nx ((env.set i (Zb x)).set j (.shr y))):=by
 unfold asgN;rw [h1];show (must (([D.int m]:List D).length=1/\D.imms [D.int m]=true) (F [.int m])>>=_)=_;rw [jt ⟨rfl,rfl⟩,h2];exact jt h3
def WG {i:Nat} {f:TL} {env:Sl} {ds:List D} {d:D} (hi:env[i]?=some (.own (.lst ds))) (h:f (env.set i (.shr (.scr ds)))= .ok d) (hn:noS d=true):ZD i f env= .ok d:=by
 unfold ZD;rw [hi];exact UU hi h hn
def UW {i:Nat} {f:TL} {env:Sl} {d' d:D} (hi:env[i]?=some (.shr d')) (h:f env= .ok d):ZD i f env= .ok d:=by
 unfold ZD;rw [hi];exact h
def jdz (hs:List Hd):noS (.tup [.int 0,zY hs])=true:=by
 have: ∀l:List Nat,noSs (l.map fun (i:Nat)=>D.int i)=true:=fun l=>by
  induction l with
  |nil=>simp [noSs]
  |cons a r ih=>simp only [aaE,noSs,noS,ih,Bool.and_self]
 simp only [noS,noSs,zY,rkO,this,Bool.and_self]
def ja8 {hs:List Hd} (h:Hds hs) (hl:hs.length<=60) {env:Sl} (he:rdS 8 env= .ok (zY hs)):qv "Ranks" "told" 1 jr (rdS 8) noA env= .ok (.lst (hs.map hdD)):=by
 have e:qv "Ranks" "told" 1 jr (rdS 8) noA env=(rdS 8 env>>=fun o=>match o with
  | .obj c' ns vs=>must (c'= "Ranks" /\ns.contains "told" =false) (must (([]:List D).length+1=1) (jr [.obj c' ns vs]))
  |_=> .stuck):=rfl
 rw [e,he];show must (("Ranks" :Str)= "Ranks" /\(["rank"]:List Str).contains "told" =false) (must (([]:List D).length+1=1) (jr [zY hs]))=_;rw [jt ⟨rfl,by decide⟩];exact (jt (by rfl)).trans (jel hl h)
def uJ (S:Slot) (c:Int) (v3 v4 v5 v6 v7 v8:Slot): ∃w4 w5 w6 w7 w8,lawB [S,.shr (.obj "Paper" [] []),.shr (.int c),v3,v4,v5,v6,v7,v8]= .ok (.nx [S,.shr (.obj "Paper" [] []),.shr (.int c),v3,w4,w5,w6,w7,w8]):=by
 obtain ⟨m,e1,hm⟩:=X6 c;obtain ⟨d,g,e2,ht⟩:=Xq m hm;have s1:asgN 5 6 1 jV (jb (jA 1 qW (jb (rdS 2) nil1)) nil1) [S,.shr (.obj "Paper" [] []),.shr (.int c),v3,v4,v5,v6,v7,v8]= .ok (.nx [S,.shr (.obj "Paper" [] []),.shr (.int c),v3,v4,Zb d,.shr (.bl g),v7,v8]):=jcz (jg (qd (jg rfl rfl) rfl e1) rfl) e2 rfl;rcases ht with ⟨rfl,hs,rfl,H,hl⟩| ⟨rfl,hne,hb⟩
 · have s2:jB 4 (ifD (asB (isiF "list" (rdB 5))) (dupL 5) (rdS 5)) [S,.shr (.obj "Paper" [] []),.shr (.int c),v3,v4,.own (.lst (hs.map hdD)),.shr (.bl true),v7,v8]= .ok (.nx [S,.shr (.obj "Paper" [] []),.shr (.int c),v3,.shr (.lst (hs.map hdD)),.own (.lst (hs.map hdD)),.shr (.bl true),v7,v8]):=jy (jdL rfl rfl);have s3:asgO (ZD 5 (jA 1 ql (jb (rdS 5) nil1))) (g2 (gN 7) (gN 8)) [S,.shr (.obj "Paper" [] []),.shr (.int c),v3,.shr (.lst (hs.map hdD)),.own (.lst (hs.map hdD)),.shr (.bl true),v7,v8]= .ok (.nx [S,.shr (.obj "Paper" [] []),.shr (.int c),v3,.shr (.lst (hs.map hdD)),.own (.lst (hs.map hdD)),.shr (.bl true),.shr (.int 0),.shr (zY hs)]):=wM (WG rfl (qd (jg rfl rfl) rfl (UQ (.inr rfl) H hl)) (jdz hs));have hq:=(yw (ds:=hs.map hdD) fun e he=>by obtain ⟨b,_,rfl⟩:=aaK.mp he;exact kr b).1;have t4:orB (asB (two (rdB 5) (rdS 4) neA)) (asB (two (rdS 7) (app (jb (notF (rdS 6)) nil1) WQ) neR)) [S,.shr (.obj "Paper" [] []),.shr (.int c),v3,.shr (.lst (hs.map hdD)),.own (.lst (hs.map hdD)),.shr (.bl true),.shr (.int 0),.shr (zY hs)]= .ok false:=Wv (b:=false) (b2:=false) (zb (jq rfl rfl hq)) (by rfl);have s5:=xc (i:=5) (f:=cI 0) (env:=[S,.shr (.obj "Paper" [] []),.shr (.int c),v3,.shr (.lst (hs.map hdD)),.own (.lst (hs.map hdD)),.shr (.bl true),.shr (.int 0),.shr (zY hs)]) (ds:=hs.map hdD) rfl rfl (by rw [aan];omega);generalize hW:Slot.own (.lst (hs.map hdD++[.int 0]))=W at s5;have td:=ja8 H hl (env:=[S,.shr (.obj "Paper" [] []),.shr (.int c),v3,.shr (.lst (hs.map hdD)),W,.shr (.bl true),.shr (.int 0),.shr (zY hs)]) rfl;have al:notB (asB (jA 2 qp (jb (qv "Ranks" "told" 1 jr (rdS 8) noA) (jb (rdS 4) nil1)))) [S,.shr (.obj "Paper" [] []),.shr (.int c),v3,.shr (.lst (hs.map hdD)),W,.shr (.bl true),.shr (.int 0),.shr (zY hs)]= .ok false:=xz (b:=true) (zb (qd (jg td (jg rfl rfl)) rfl (jef hs)))
   have s7:appT (qv "Ranks" "told" 1 jr (rdS 8) noA) (cI 0) [S,.shr (.obj "Paper" [] []),.shr (.int c),v3,.shr (.lst (hs.map hdD)),W,.shr (.bl true),.shr (.int 0),.shr (zY hs)]= .ok (.nx [S,.shr (.obj "Paper" [] []),.shr (.int c),v3,.shr (.lst (hs.map hdD)),W,.shr (.bl true),.shr (.int 0),.shr (zY hs)]):=by
    unfold appT;rw [td];exact jt (show (hs.map hdD).length<aaj by rw [aan];exact aaw (by omega) (jI (k:=100) (by decide)))
   refine ⟨.shr (.lst (hs.map hdD)),W,.shr (.bl true),.shr (.int 0),.shr (zY hs),?_⟩;unfold lawB;refine (jn s1).trans ((jn s2).trans ((jn s3).trans ((jn ((if_f t4).trans rfl)).trans ?_)));refine (if_t (by rfl)).trans ((jn s5).trans ?_);refine (jn ((if_f (Wv (b:=false) (b2:=false) (by rfl) al)).trans rfl)).trans ((jn s7).trans ((if_f al).trans rfl))
 · have mk: ∃W,W=Zb d/\jB 4 (ifD (asB (isiF "list" (rdB 5))) (dupL 5) (rdS 5)) [S,.shr (.obj "Paper" [] []),.shr (.int c),v3,v4,W,.shr (.bl false),v7,v8]= .ok (.nx [S,.shr (.obj "Paper" [] []),.shr (.int c),v3,.shr d,W,.shr (.bl false),v7,v8])/\asgO (ZD 5 (jA 1 ql (jb (rdS 5) nil1))) (g2 (gN 7) (gN 8)) [S,.shr (.obj "Paper" [] []),.shr (.int c),v3,.shr d,W,.shr (.bl false),v7,v8]= .ok (.nx [S,.shr (.obj "Paper" [] []),.shr (.int c),v3,.shr d,W,.shr (.bl false),.shr (.int 1),.shr .non])/\rdB 5 [S,.shr (.obj "Paper" [] []),.shr (.int c),v3,.shr d,W,.shr (.bl false),.shr (.int 1),.shr .non]= .ok d:=by
    rcases hb with ⟨ds,rfl,hr⟩| ⟨n1,n2⟩
    · exact ⟨.own (.lst ds),rfl,jy (jdL rfl rfl),wM (WG rfl (qd (jg rfl rfl) rfl (YJ hr)) rfl),rfl⟩
    · have hsl:Zb d= .shr d:=by
       cases d with
       |lst ds=>exact (n2 ds rfl).elim
       |_=>rfl
      have hi:asB (isiF "list" (rdB 5)) [S,.shr (.obj "Paper" [] []),.shr (.int c),v3,v4,.shr d,.shr (.bl false),v7,v8]= .ok false:=by
       cases d with
       |lst ds=>exact (n2 ds rfl).elim
       |scr _=>cases n1
       |exn _=>cases n1
       |fdc _ _=>cases n1
       |hdc _ _=>cases n1
       |obj _ _ _=>cases n1
       |mem _ _=>cases n1
       |_=>rfl
      exact ⟨.shr d,hsl.symm,jy (jeM hi rfl),wM (UW rfl (qd (jg rfl rfl) rfl (YJ (Ua n1 n2)))),rfl⟩
   obtain ⟨W,hW,s2,s3,r5⟩:=mk;rw [←hW] at s1;have t4:orB (asB (two (rdB 5) (rdS 4) neA)) (asB (two (rdS 7) (app (jb (notF (rdS 6)) nil1) WQ) neR)) [S,.shr (.obj "Paper" [] []),.shr (.int c),v3,.shr d,W,.shr (.bl false),.shr (.int 1),.shr .non]= .ok false:=Wv (b:=false) (b2:=false) (zb (jq r5 rfl hne)) (by rfl);refine ⟨.shr d,W,.shr (.bl false),.shr (.int 1),.shr .non,?_⟩;unfold lawB;refine (jn s1).trans ((jn s2).trans ((jn s3).trans ((jn ((if_f t4).trans rfl)).trans ?_)));exact (if_f (by rfl)).trans rfl
def law_true (sc:List Int) (hlen:sc.length<=63) (hb: ∀i∈sc,abG i<=2^20):F_law [.scr (sc.map D.int)]= .ok (.bl true):=by
 have hslice:slS (.scr (sc.map D.int)) none (some 40)= .ok (.lst (cutD (sc.map D.int) none (some 40))):=rfl;generalize hS:D.scr (sc.map D.int)=S at*;have hcut: ∀x∈cutD (sc.map D.int) none (some 40),x∈sc.map D.int:=fun x hx=>List.mem_of_mem_drop (List.mem_of_mem_take hx)
 generalize hcells:cutD (sc.map D.int) none (some 40)=cells at*
 obtain ⟨env1,l1,v2,v3,v4,v5,v6,v7,v8,rfl,_⟩:=YZ (body:=yW (gN 2) lawB)
  (fun ds env=> ∃(v2 v3 v4 v5 v6 v7 v8:Slot),env=[.shr S,.shr (.obj "Paper" [] []),v2,v3,v4,v5,v6,v7,v8]/\ ∀d∈ds,∃i:Int,d= .int i)
  (by
   rintro d ds env ⟨v2,v3,v4,v5,v6,v7,v8,rfl,hd⟩;obtain ⟨i,rfl⟩:=hd d (by simp);obtain ⟨w4,w5,w6,w7,w8,h3⟩:=uJ (.shr S) i v3 v4 v5 v6 v7 v8
   refine ⟨_,Vq rfl h3,_,_,_,_,_,_,_,rfl,fun x hx=>hd x (by simp [hx])⟩)
  cells [.shr S,.shr (.obj "Paper" [] []),.un,.un,.un,.un,.un,.un,.un]
  ⟨.un,.un,.un,.un,.un,.un,.un,rfl,fun d hd=>by
   obtain ⟨i,_,rfl⟩:=aaK.mp (hcut d hd)
   exact ⟨i,rfl⟩⟩
 refine yZ ?_;show (seqO (jB 1 (fun _=> .ok (.obj "Paper" [] []))) (seqO (forO (itF (yN (rdS 0) KQ (VA (cI 40)) slS)) (gN 2) lawB) jcS)) [.shr S,.un,.un,.un,.un,.un,.un,.un,.un]=_
 have hloop:forO (itF (yN (rdS 0) KQ (VA (cI 40)) slS)) (gN 2) lawB [.shr S,.shr (.obj "Paper" [] []),.un,.un,.un,.un,.un,.un,.un]= .ok (.nx [.shr S,.shr (.obj "Paper" [] []),v2,v3,v4,v5,v6,v7,v8]):=by
  refine jaQ (YN (Yu rfl rfl rfl hslice) rfl) l1
 exact (jn (jy (d:= .obj "Paper" [] []) rfl)).trans ((jn hloop).trans (uK _ _ _ _ _ _ _ _))
end G
namespace PySem.W.Fast
theorem tw14376631895135678806:True:=⟨⟩
theorem tw17303195768880282136:True:=⟨⟩
theorem tw11160255177806009619:True:=⟨⟩
theorem te5001328197183697036:True:=⟨⟩
theorem tw6535178961236953465:True:=⟨⟩
theorem tw1566718849943318020:True:=⟨⟩
theorem tw5676547668225618554:True:=⟨⟩
theorem tw3515177144915011590:True:=⟨⟩
theorem tw16615768894368622705:True:=⟨⟩
theorem tw5057328983080489185:True:=⟨⟩
theorem tw1583470659858668644:True:=⟨⟩
theorem tw530076859576592799:True:=⟨⟩
theorem tw15764938933407974559:True:=⟨⟩
theorem tw14459979316580645213:True:=⟨⟩
theorem tw10644386110123310206:True:=⟨⟩
theorem tw6286810828233520076:True:=⟨⟩
theorem tw9944309584658842024:True:=⟨⟩
theorem tw2112751088790280512:True:=⟨⟩
theorem tw18076282756539431578:True:=⟨⟩
theorem tw7496516830767145597:True:=⟨⟩
theorem tw11103293255249132804:True:=⟨⟩
theorem tw7799272650729409797:True:=⟨⟩
theorem tw9667544334181311201:True:=⟨⟩
theorem tw1055997125578963588:True:=⟨⟩
theorem tw7025868911196710001:True:=⟨⟩
theorem tw2298184480198080901:True:=⟨⟩
theorem tw11143053286077126213:True:=⟨⟩
theorem tw1185575293506604065:True:=⟨⟩
theorem tw4576377950851531636:True:=⟨⟩
theorem tw2589040148330304252:True:=⟨⟩
theorem tw13527596377868507834:True:=⟨⟩
theorem tw17830649922276529869:True:=⟨⟩
theorem tw7287063487427738365:True:=⟨⟩
theorem tw6284771558699014421:True:=⟨⟩
theorem tw4298265635577129498:True:=⟨⟩
theorem tw13601802086547684986:True:=⟨⟩
theorem tw104790477685699455:True:=⟨⟩
theorem tw13362316588079021805:True:=⟨⟩
theorem tw18048914596015145959:True:=⟨⟩
theorem tw520764048671395597:True:=⟨⟩
theorem tw2665472764625702694:True:=⟨⟩
theorem tw15821899940670817437:True:=⟨⟩
theorem tw10521286572692934508:True:=⟨⟩
theorem tw17222054874288363420:True:=⟨⟩
end PySem.W.Fast
open PySem PySem.W PyProof.Rows
set_option maxRecDepth 100000 in
set_option maxHeartbeats 0 in
theorem PySem.Challenge.cw_endwise_k31_papers_holds : PySem.Challenge.rw_endwise_k31_papers.Holds := by
  w_on; o_law; k_head; (case hw => w_witness2)
  k_fill
  refine M.walk_law (l := PySem.Challenge.rw_endwise_k31_papers) (n := 63) (k := 71) (x := "_law_script") (F := G.F_law) rfl (by decide) rfl ⟨rfl, by decide, by decide⟩ (fun w h Y => PySem.W.kIn_of Y) ?F G.law_true
  case F =>
    intro w mg fa h KX Gn hmg
    refine' G.all_mk KX Gn hmg ?d0 ?d1 ?d2 ?d3 ?d4 ?d5 ?d6 ?d7 ?d8 ?d9 ?d10 ?d11 ?d12 ?d13 ?d14 ?d15 ?d16 ?d17 ?d18 ?d19 ?d20 ?d21 ?d22 ?d23 ?d24 ?d25 ?d26 ?d27 ?d28 ?d29 ?d30 ?d31 ?a32 ?l32 ?c32 ?k32 ?z0 ?z1 ?z2 ?z3 ?z4 ?z5 ?z6 ?z7 ?z8 ?z9 ?z10 ?z11 ?z12 ?z13 ?z14 ?y_LETTERS ?y_MOST_LETTERS ?y_MOST_PLACES ?y_MOST_BLANK ?y_MOST_LEVELS ?y_MOST_PARTS ?y_MOST_RANKED ?y_MOST_RULES ?wY ?Jb ?Jf ?y9 ?y8 ?wX ?xU ?xX ?xT ?xR ?ZR ?Zl ?ZJ ?Zj ?Ze ?wm ?zj ?zM ?Zz ?ZG ?Zy ?ZF ?e_NoHead ?e_NoPaper ?e_NoRule ?e_NoLine ?e_NoName ?e_NoPair ?e_NoPath ?e_NoReason ?e_NoStep ?e_NoText ?e_TooGreat ?e_TooLong ?e_TooMany ?e_EndError ?e_Paper ?q_NoHead ?q_NoPaper ?q_NoRule ?x_NoPaper_NoPaper ?i_ValueError_NoHead ?i_ValueError_NoPaper ?i_ValueError_NoRule ?i_EndError_NoHead ?i_EndError_NoPaper ?i_EndError_NoRule ?io_Paper_Ranks ?bb_Paper ?nt_NoPaper_NoPaper
    (case wY | wX | ZR => k_is)
    (case d0 | d1 | d2 | d3 | d4 | d5 | d6 | d7 => exact ⟨_, by k_is, ⟨_, _, _, _, _, _, _, _, _, by k_is, by k_is⟩, by k_is⟩)
    (case d8 => exact ⟨_, by k_is, by k_is, ⟨_, _, _, _, _, _, _, _, _, by k_is, by k_is⟩, by k_is⟩)
    (case d9 | d10 => exact ⟨_, by k_is, ⟨_, _, _, _, _, _, _, _, _, by k_is, by k_is⟩, by k_is⟩)
    (case d11 | d12 | d13 => exact ⟨_, by k_is, by k_is, ⟨_, _, _, _, _, _, _, _, _, by k_is, by k_is⟩, by k_is⟩)
    (case d14 => exact ⟨_, by k_is, ⟨_, _, _, _, _, _, _, _, _, by k_is, by k_is⟩, by k_is⟩)
    (case d15 | d16 | d17 => exact ⟨_, by k_is, by k_is, ⟨_, _, _, _, _, _, _, _, _, by k_is, by k_is⟩, by k_is⟩)
    (case d18 | d19 | d20 | d21 | d22 | d23 | d24 | d25 | d26 | d27 | d28 | d29 | d30 => exact ⟨_, by k_is, ⟨_, _, _, _, _, _, _, _, _, by k_is, by k_is⟩, by k_is⟩)
    (case d31 => exact ⟨_, by k_is, by k_is, ⟨_, _, _, _, _, _, _, _, _, by k_is, by k_is⟩, by k_is⟩)
    (case a32 | l32 | c32 | k32 | z0 | z1 | z2 | z3 | z4 | z5 | z6 | z7 | z8 | z9 | z10 | z11 | z12 | z13 | z14 => k_is)
    (case y_LETTERS | y_MOST_LETTERS | y_MOST_PLACES | y_MOST_BLANK | y_MOST_LEVELS | y_MOST_PARTS | y_MOST_RANKED | y_MOST_RULES => exact ⟨_, by k_is⟩)
    (case Jb | Jf | y9 | y8 | xU | xX | xT | xR | Zl | ZJ | Zj | Ze | wm | zj | zM | Zz | ZG | Zy | ZF | e_NoHead | e_NoPaper | e_NoRule | e_NoLine | e_NoName | e_NoPair | e_NoPath | e_NoReason | e_NoStep | e_NoText | e_TooGreat | e_TooLong | e_TooMany | e_EndError | e_Paper => k_is)
    (case q_NoHead | q_NoPaper | q_NoRule => k_exc)
    (case x_NoPaper_NoPaper | i_ValueError_NoHead | i_ValueError_NoPaper | i_ValueError_NoRule | i_EndError_NoHead | i_EndError_NoPaper | i_EndError_NoRule | io_Paper_Ranks => kernel_rfl)
    (case bb_Paper => exact ⟨by first | k_is | kernel_rfl, by first | k_is | kernel_rfl, by first | k_is | kernel_rfl, by first | k_is | kernel_rfl⟩)
    (case nt_NoPaper_NoPaper => (iterate 12 refine List.forall_mem_cons.2 ⟨by kernel_rfl, ?_⟩); exact fun _ h => nomatch h)

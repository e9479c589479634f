import PyProof.Rows.All
import Wide.All
import OpenK.AllK
import Wide.FinOn
import Lean
import PyProof.TupleKey
import PyProof.IsRules
import PyProof.DictKeyH
import PyProof.EqAt
import PyProof.EqKinds
import PyProof.TupleCall
import PyProof.Cells
import PyProof.NeKinds
import KE.IntBitsLaws
import KE.KDictList
import KE.KRevIter
import KE.KSortTup
import KE.KDictSum
import PyProof.EnumMake
import PyProof.EnumFor
import PyProof.LayNew
import PyProof.Rows.EnumRows
import PyProof.SumAny
import PyProof.ListRange
import PyProof.FString5
import PyProof.CollectIter
import PyProof.TupleOfSeq
import PyProof.Rows.Tup
import OpenK.KRaise
import PyProof.StationsW
import KE.KTryMore
import PyProof.NsDelKeeps
import KE.KEqDict
import PyProof.ExcArgs
import PyProof.Draws
import PyProof.ZipIter
import PyProof.Rows.ZipGen
import PyProof.DictWalks
import PyProof.Conv_int_bool
import PyProof.Rows.SeqMore
import PyProof.Rows.SetFrom
import PyProof.SetRoads
import PyProof.MeetsSeq2
import PyProof.FactsAll.NoneType_1
import PyProof.DictFindH
import PyProof.DictRoadsH
import PyProof.AttrMissHeap
import KE.KDictOf
import PyProof.Rows.StrJoin2
import PySem.Challenge.RW_endwise_k21_what_are_rules
open Array renaming getElem?_eq_getElem -> aaj, getElem?_toList -> aar, length_toList -> aas, getD_eq_getD_getElem? -> aa0, getElem?_eq_some_iff -> abb, getElem?_eq_none -> acR, forIn_toList -> ads, eq_empty_of_size_eq_zero -> ad2, getD -> aeN, toList_push -> aeP, toList_inj -> ae0
open Bool renaming and_eq_true -> aat, false_ne_true -> aaB, false_eq_true -> aaG, not_true -> abf, not_false -> abn, eq_iff_iff -> acg, and_self -> acN, and_false -> adb, not_eq_true -> ad7, or_eq_true -> aen, false_and -> aeE, or_false -> aeX
open Classical renaming byContradiction -> abW
open False renaming elim -> acb
open ForInStep renaming yield -> ael
open Function renaming comp_def -> aeO
open Int renaming toNat_natCast -> abH, fdiv_eq_ediv_of_nonneg -> ac8, emod_lt_of_pos -> adD, emod_nonneg -> aer
open List renaming getElem?_eq_getElem -> aae, size_toArray -> aag, length_map -> aak, length_cons -> aal, mem_cons -> aam, mem_cons_of_mem -> aao, getElem?_eq_some_iff -> aap, length_append -> aau, mem_cons_self -> aax, getElem?_append_right -> aay, mem_map -> aaD, replicate -> aaE, getElem?_append_left -> aaF, map_cons -> aaN, getElem?_map -> aaO, getElem?_eq_none -> aaP, length_nil -> aaR, mem_range -> aaU, mem_of_getElem? -> aaV, append_assoc -> aaW, getElem?_set_self -> aaX, mem_append_right -> aaZ, not_mem_nil -> aa2, all_eq_true -> aa5, mem_append -> aa6, lookup -> aa7, range -> aa8, getElem?_set_ne -> abj, getElem_mem -> abk, mem_iff_getElem? -> abp, getElem?_replicate -> abq, replicate_succ -> abt, lookup_cons -> abA, getD_eq_getElem?_getD -> abC, pairwise_iff_getElem -> abD, append_nil -> abJ, map_append -> abM, getElem?_cons_succ -> abN, nodup_cons -> ab0, flatten_cons -> ace, length_range -> acf, any_eq_true -> aco, zip_cons_cons -> acr, map_map -> acs, pairwise_cons -> acu, mem_append_left -> acA, filterMap_cons -> acJ, isEmpty_nil -> acO, nodup_nil -> acP, mem_filterMap -> acS, mem_singleton -> acT, length_singleton -> acX, ext_getElem? -> ac0, perm_ext_iff_of_nodup -> ac9, length_take -> adj, mem_flatMap -> adl, getElem?_take_of_lt -> adp, toArray -> adq, any_cons -> adz, all_cons -> adA, length_eq_zero_iff -> adE, getElem?_cons_zero -> adG, pairwise_map -> adR, nodup_append -> adS, length_drop -> ad5, nodup_range -> ad6, mem_of_mem_take -> aeb, mem_of_mem_drop -> aec, foldl_cons -> aej, find?_cons -> aek, contains_cons -> aeA, getElem?_drop -> aeB
open List.Perm renaming refl -> ab6
open Nat renaming le_refl -> aai, lt_of_lt_of_le -> aaA, ne_of_lt -> aaC, le_trans -> aaI, zero_le -> aba, lt_irrefl -> abE, lt_succ_self -> ab1, le_succ -> acx, not_lt_zero -> acY, le_of_not_lt -> adk, le_add_right -> adm, eq_zero_or_pos -> adF, lt_succ_of_lt -> adU, add_zero -> ad1, le_of_lt_succ -> aeQ, zero_add -> ae7, succ_pos -> ae9, mod_lt -> afb
open Ne renaming symm -> acD
open Option renaming map_eq_some_iff -> acQ, getD_some -> adh, isSome_iff_exists -> ado, getD_none -> aeZ
open Option.some renaming inj -> aaK
open Or renaming inr -> abB, inl -> acj
open PyProof.Rows renaming boot_tuple -> aaQ, slot_tuple_getitem -> abd, callWith_type1 -> acW, seqObj -> adB, envOfC -> adX, boot_all -> ad3, boot_isinstance -> aem, get?_update_seq -> aeo, AllBare -> aeW, boot_bool -> ae2, boot_int -> afa
open PyProof.Rows.F renaming plain_set_update_loop -> ab7, entry_set_update_loop -> adf
open PySem renaming wpAny_bind -> aaa, wpAny_pure -> aac, Shared -> aaf, sizeLine -> aah, starEach -> aan, mainGlobals -> aaw, Program -> aaH, tupleKeyHash -> aaT, wpAny_newObj_type -> aaY, Around -> aa3, wpAny_holding -> aa4, SetTable -> aa9, wpAny_setState_of -> abe, wpAny_call_entry -> abl, wpAny_callSpecial?_slot -> abr, bootBuiltins -> abz, wpAny_truthy_bool -> abF, compareOp -> abK, attributeBase -> abL, IsTupleKey -> abO, wpAny_askSetting -> abP, backTo -> abQ, sizeLine_eq -> abR, mem_of_lookup -> abS, binaryOp -> abV, boot_len -> abY, wpAny_typeNameOfWhole_keyiter -> ab2, Builtin -> ab3, FuncData -> ab4, wpAny_mono -> ab8, sysModules -> aca, assignEach -> acd, intKind -> ach, wpAny_isInstance -> acm, swapsWith -> acp, wpAny_fieldsOf -> acy, wpAny_setField -> acz, wpAny_passesOwn -> acE, wpAny_typeNameOf_keyiter -> acG, codeAny_builtin -> acH, keywordEach -> acK, wpAny_attempt -> acL, wpAny_setEntries_of -> acM, ofAClassStatement -> ac6, rawInt -> ac7, carriedByValue -> ade, wpAny_forIn_list -> adg, wpAny_execs_nil -> adt, behindInMarks -> adw, wpAny_Call_Name_kw -> ady, foldedSetIterable -> adJ, codeAny -> adL, sliceBounds -> adM, Keyword -> adN, call_meets -> adO, wpAny_pyIter_list -> adP, wpAny_seqItems -> adV, codeAny_mono -> adW, wpAny_typeOf -> adY, wpAny_isOneOf_keyiter -> adZ, holding -> ad4, codeAny_call_builtin -> aea, backToKw -> aed, plainId_quiet -> aef, wpAny_rule -> aeg, letOwnedTupleGo -> aeh, scanBound -> aep, Operator -> aex, pyNext -> aey, isSubtype_type -> aeD, pickOrder -> aeR, setsByText -> aeT
open PySem.Around renaming under_plainId -> acB
open PySem.Builtin.Dict renaming showsAll -> ae8
open PySem.Builtin.Dict_items renaming ownsTuple -> aee
open PySem.Builtin.Frozenset renaming isAnySet -> acl, addrOf -> acI, difference -> acV, unchanged -> aeu, sizeOf -> aeS, slot1 -> aeY
open PySem.Builtin.Int renaming intBits -> abT
open PySem.Builtin.List renaming listTooLong -> abI, listLengthHint -> aes, listExtendWith -> aet, listSameRef -> aeU
open PySem.Builtin.Slice renaming slicePlaces -> acw, sliceAdjust -> ada, sliceApplied -> aev
open PySem.Builtin.Str renaming strSliceIndices -> aaL, occurrences -> adu
open PySem.Builtin.Tuple renaming tupleExact -> acF, tupleItemsOf -> aew, tupleHashOf -> aeC
open PySem.F renaming slot_dict_keyiterator_next -> abw, plainAttrs_list -> ab5, called_set -> acZ, args_dict_keyiterator_next_1 -> adc, entry_dict_keyiterator_next -> adn, slot_list_extend -> ad8
open PySem.Heap renaming get?_push_of_some -> aad, get?_push_size -> aaq, lt_size -> aav, get?_update_other -> abi, get?_update_self -> abo, SameBut -> abZ, size_push -> acv
open PySem.Heap.SameBut renaming update -> abv
open PySem.Heap.TracedAtW renaming there -> afd
open PySem.MeetsSeq2 renaming wpAny_forIn_array -> aeq
open PySem.NameKind renaming free -> ac3, cell -> ac4
open PySem.Obj renaming data_mapFields -> abx, mapSeq -> acn, isFreed_of_fields -> act, mapFields -> ac5, cls_mapFields -> adQ, putSet -> afc
open PySem.Paired renaming length -> aeV
open PySem.PassesOwn renaming never -> abm
open PySem.SeqAt.EqAt renaming of_refs -> ae3
open PySem.SeqAt.RcAt renaming lists_lengths -> aez
open PySem.SetTable renaming below -> aaM, turns -> abX, sizeAbove -> acU, toList_insertAt -> adr, insertAt_perm -> adI, grown -> aeH
open PySem.SetTable.below renaming go -> adT
open PySem.SetTable.layClean renaming free -> ack
open PySem.SetTable.probe renaming go -> abU
open PySem.Value renaming ref -> aaJ, none -> ab9, type -> acC, bool -> ac1, int -> aeI, isInt_shape -> aeJ
open PySem.W renaming Frag -> aab, nsIn -> aaz, kitOne -> aaS, mg_none_of -> aa1, keepIn -> abg, findIn -> abh, mg_of -> abu, kia_one -> aby, emptyDict -> abG, instObj -> aci, fnOf -> acq, plainGet -> adi, makesIn -> adx, excIn -> adC, codeIn -> adH, hasDictIn -> adK, plainGet_of -> aei, lookIn -> aeF, looks_findIn -> aeG, methodObj -> aeK, plainOver -> aeL, kitx_list -> aeM, specialIn -> ae1, isFn -> ae4, takerIn -> ae5, OpenLaw -> ae6
open PySem.W.Looks renaming ld -> ad9
open PySem.pickOrder renaming go -> ad0
open Sum renaming inl -> afe
open True renaming intro -> ac2
noncomputable section
set_option compiler.extract_closed false
set_option bootstrap.genMatcherCode false
set_option genSizeOfSpec false
set_option Elab.async false
set_option linter.all false
set_option maxRecDepth 100000
set_option maxHeartbeats 4000000
namespace M
open PySem PyProof.Rows
open PySem.SeqAt (EqAt RcAt)
inductive NK where
 |int (i:Int)|str (x:Str)|tup (l:List NK)
noncomputable instance nkDec:DecidableEq NK:=fun _ _=>Classical.propDecidable _
mutual
def NK.at (h:Heap):NK->Value->Prop
 | .int i,v=> ∃t,v= .int i t
 | .str x,v=> ∃t,v= .str x t
 | .tup l,v=> ∃a its,v= .ref a/\IsTup h a its/\NK.ats h l its.toList
def NK.ats (h:Heap):List NK->List Value->Prop
 | [],vs=>vs=[]
 |k::l,vs=> ∃u us,vs=u::us/\NK.at h k u/\NK.ats h l us
end
mutual
def NK.dep:NK->Nat
 | .tup l=>NK.deps l+1
 |_=>0
def NK.deps:List NK->Nat
 | []=>0
 |k::l=>max (NK.dep k) (NK.deps l)
end
mutual
def NK.draws:NK->Nat
 | .tup l=>NK.drawss l+1
 |_=>1
def NK.drawss:List NK->Nat
 | []=>0
 |k::l=>NK.draws k+NK.drawss l
end
mutual
def NK.hash (w:World):NK->Int
 | .int i=>hashInt i
 | .str x=>hashStr w x
 | .tup l=>reduceHash (aeC (NK.hashs w l))
def NK.hashs (w:World):List NK->List Int
 | []=>[]
 |k::l=>NK.hash w k::NK.hashs w l
end
def NK.ind {P:NK->Prop} (h1: ∀i,P (.int i)) (h2: ∀x,P (.str x)) (h3: ∀l,(∀k∈l,P k)->P (.tup l)) (k:NK):P k:=
 NK.rec (motive_1:=P) (motive_2:=fun l=> ∀k∈l,P k) h1 h2 h3 (fun _ h=>by cases h) (fun k l hk hl q hq=>by
  rcases aam.mp hq with e|e
  · rw [e];exact hk
  · exact hl q e) k
def at_int {h:Heap} {i:Int} {v:Value}:NK.at h (.int i) v↔ ∃t,v= .int i t:=by simp only [NK.at]
def at_str {h:Heap} {x:Str} {v:Value}:NK.at h (.str x) v↔ ∃t,v= .str x t:=by simp only [NK.at]
def at_tup {h:Heap} {l:List NK} {v:Value}:NK.at h (.tup l) v↔ ∃a its,v= .ref a/\IsTup h a its/\NK.ats h l its.toList:=by simp only [NK.at]
def ats_nil {h:Heap} {vs:List Value}:NK.ats h [] vs↔vs=[]:=by simp only [NK.ats]
def ats_cons {h:Heap} {k:NK} {l:List NK} {vs:List Value}:NK.ats h (k::l) vs↔ ∃u us,vs=u::us/\NK.at h k u/\NK.ats h l us:=by simp only [NK.ats]
theorem Q4 {h:Heap}: ∀ {l:List NK} {vs:List Value},NK.ats h l vs->vs.length=l.length
 | [],vs,x=>by rw [ats_nil.mp x];rfl
 |k::l,vs,x=>by
  obtain ⟨u,us,rfl,_,y⟩:=ats_cons.mp x;rw [aal,aal,Q4 y]
theorem Q5 {h:Heap}: ∀ {l:List NK} {vs:List Value} {j:Nat} {k:NK} {u:Value},NK.ats h l vs->l[j]?=some k->vs[j]?=some u->NK.at h k u
 | [],vs,j,k,u,x,hk,hu=>by cases hk
 |k'::l,vs,j,k,u,x,hk,hu=>by
  obtain ⟨u',us,rfl,hx,y⟩:=ats_cons.mp x
  cases j with
  |zero=>cases hk;cases hu;exact hx
  |succ j=>exact Q5 y hk hu
theorem Wu {k:NK}: ∀ {l:List NK},k∈l->NK.dep k<=NK.deps l
 | [],h=>by cases h
 |k'::l,h=>by
  simp only [NK.deps];rcases aam.mp h with e|e
  · rw [e];omega
  · have:=Wu e;omega
def jb4 {h:Heap} (x:NK): ∀(y:NK) (v:Value),NK.at h x v->NK.at h y v->x=y:=by
 induction x using NK.ind with
 |h1 i=>
  intro y v hx hy;obtain ⟨t,rfl⟩:=at_int.mp hx
  cases y with
  |int j=>obtain ⟨t',e⟩:=at_int.mp hy;cases e;rfl
  |str z=>obtain ⟨t',e⟩:=at_str.mp hy;cases e
  |tup l=>obtain ⟨a,its,e,_⟩:=at_tup.mp hy;cases e
 |h2 z=>
  intro y v hx hy;obtain ⟨t,rfl⟩:=at_str.mp hx
  cases y with
  |int j=>obtain ⟨t',e⟩:=at_int.mp hy;cases e
  |str z=>obtain ⟨t',e⟩:=at_str.mp hy;cases e;rfl
  |tup l=>obtain ⟨a,its,e,_⟩:=at_tup.mp hy;cases e
 |h3 l ih=>
  intro y v hx hy;obtain ⟨a,its,rfl,⟨o,ho,_,n,hd⟩,hl⟩:=at_tup.mp hx
  cases y with
  |int j=>obtain ⟨t',e⟩:=at_int.mp hy;cases e
  |str z=>obtain ⟨t',e⟩:=at_str.mp hy;cases e
  |tup m=>
   obtain ⟨a',its',e,⟨o',ho',_,n',hd'⟩,hm⟩:=at_tup.mp hy;cases e;rw [ho] at ho';cases ho';rw [hd] at hd';cases hd';congr 1;apply ac0;intro j;have e1:=Q4 hl;have e2:=Q4 hm
   by_cases hj:j<l.length
   · have hj2:j<m.length:=by omega
     have hj3:j<its.toList.length:=by omega
     rw [aae hj,aae hj2];congr 1;exact ih _ (abk hj) _ _ (Q5 hl (aae hj) (aae hj3)) (Q5 hm (aae hj2) (aae hj3))
   · rw [aaP (by omega),aaP (by omega)]
theorem jb3 {h h':Heap}: ∀ {l:List NK} {vs:List Value},(∀k∈l,∀v,NK.at h k v->NK.at h' k v)->NK.ats h l vs->NK.ats h' l vs
 | [],vs,_,x=>ats_nil.mpr (ats_nil.mp x)
 |k::l,vs,f,x=>by
  obtain ⟨u,us,e,hx,y⟩:=ats_cons.mp x;exact ats_cons.mpr ⟨u,us,e,f k aax u hx,jb3 (fun q hq=>f q (aao _ hq)) y⟩
def jdJ {h h':Heap} (ht: ∀a its,IsTup h a its->IsTup h' a its) (k:NK): ∀v,NK.at h k v->NK.at h' k v:=by
 induction k using NK.ind with
 |h1 i=>exact fun v x=>at_int.mpr (at_int.mp x)
 |h2 z=>exact fun v x=>at_str.mpr (at_str.mp x)
 |h3 l ih=>
  intro v x;obtain ⟨a,its,e,t,y⟩:=at_tup.mp x;exact at_tup.mpr ⟨a,its,e,ht a its t,jb3 ih y⟩
def ZE {s:aaf} {a:Addr} {its:Array Value} (h:IsTup s.heap a its):s.TypeIs (.ref a) "tuple" :=let ⟨o,ho,hc,_⟩:=h;⟨o,ho,hc⟩
section
variable {prog:aaH} {w:World}
def jcK (k:NK): ∀(A:aa3) (E:Value->aaf->Prop) (s:aaf) (v:Value) (Q:Int->aaf->Prop),NK.at s.heap k v->A.units+k.dep<cLine->Q (k.hash w) {s with toks:=s.toks+k.draws}->wpAny (model prog w) A (pyHash v) Q E s:=by
 induction k using NK.ind with
 |h1 i=>
  intro A E s v Q x hu q;obtain ⟨t,rfl⟩:=at_int.mp x;simp only [NK.hash,NK.draws] at q;exact wpAny_pyHash_int q
 |h2 z=>
  intro A E s v Q x hu q;obtain ⟨t,rfl⟩:=at_str.mp x;simp only [NK.hash,NK.draws] at q;exact wpAny_pyHash_str q
 |h3 l ih=>
  intro A E s v Q x hu q;obtain ⟨a,its,rfl,t,y⟩:=at_tup.mp x;simp only [NK.dep] at hu;simp only [NK.hash,NK.draws] at q;obtain ⟨o,ho,hc,n,hd⟩:=id t;show wpAny _ _ (pyHashByItsType (.ref a)) _ _ s;refine PySem.W.pyHash_slot (ZE t) F.slot_tuple_hash F.entry_tuple_hash (F.args_tuple_hash_1 _) (by decide) (.inr (by omega)) ?_;unfold ab3.«tuple.__hash__»;refine aaa (aac (aaa (wpAny_tupleItemsOf ho hd (aaa ?_))));rw [←ads];refine adg _ (fun rest r s'=> ∃done rl,done++rl=l/\NK.ats s.heap rl rest/\r=(NK.hashs w done).toArray/\s'={s with toks:=s.toks+NK.drawss done}) _ ?_ ?_ _ _ ⟨[],l,rfl,y,rfl,rfl⟩
  · rintro u rest r s' ⟨done,rl,hl,ha,rfl,rfl⟩
    cases rl with
    |nil=>have:=ats_nil.mp ha;cases this
    |cons k' rl=>
     obtain ⟨u',us,e,hu1,hu2⟩:=ats_cons.mp ha;obtain ⟨rfl,rfl⟩:=List.cons.inj e;have hm:k'∈l:=by rw [←hl];simp
     have hdep:=Wu hm;refine aaa (ih k' hm A.in1 E {s with toks:=s.toks+NK.drawss done} u _ hu1 (by show A.units+1+k'.dep<cLine;omega) ?_);refine aac ⟨done++[k'],rl,by simp [hl],hu2,?_,?_⟩
     · have: ∀d:List NK,NK.hashs w (d++[k'])=NK.hashs w d++[k'.hash w]:=fun d=>by
        induction d with
        |nil=>simp [NK.hashs]
        |cons b d ihd=>simp [NK.hashs,ihd]
       rw [this];simp
     · have: ∀d:List NK,NK.drawss (d++[k'])=NK.drawss d+k'.draws:=fun d=>by
        induction d with
        |nil=>simp [NK.drawss]
        |cons b d ihd=>simp [NK.drawss,ihd];omega
       rw [this,Nat.add_assoc]
  · rintro r s' ⟨done,rl,hl,ha,rfl,rfl⟩
    have e0:rl=[]:=by
     cases rl with
     |nil=>rfl
     |cons k' rl=>obtain ⟨_,_,e,_⟩:=ats_cons.mp ha;cases e
    subst e0;rw [abJ] at hl;subst hl;show wpAny _ _ (do ret (←mkInt (aeC (NK.hashs w done).toArray.toList))) _ _ _;refine ab8 (wpAny_ret_mkInt (Q:=fun v s'=> ∃n t,v= .int n t/\Q (reduceHash n) s') ?_) (fun fin s' ⟨v,e,n,t,e2,q⟩=>⟨n,t,by rw [e,e2],q⟩) (fun _ _ x=>x);refine ⟨_,_,rfl,?_⟩;simpa [Nat.add_assoc] using q
end
def uF {α:Type} [BEq α] [LawfulBEq α] {β:Type} {f:α->β} (hf: ∀a b,f a=f b->a=b) (a b:α) [Decidable (f a=f b)]:(a==b)=decide (f a=f b):=by
 by_cases h:a=b
 · subst h;simp
 · rw [decide_eq_false (fun e=>h (hf _ _ e))];simpa using h
def jfZ {s:aaf} (x:NK): ∀(A:aa3) (y:NK) (u v:Value),NK.at s.heap x u->NK.at s.heap y v->A.units+x.dep<cLine->EqAt A s u v (decide (x=y)):=by
 induction x using NK.ind with
 |h1 i=>
  intro A y u v hx hy hu;obtain ⟨t,rfl⟩:=at_int.mp hx;simp only [NK.dep] at hu
  cases y with
  |int j=>
   obtain ⟨t',rfl⟩:=at_int.mp hy;rw [←uF (f:=NK.int) (fun a b e=>by cases e;rfl)];exact EqAt.int_int _ _ _ _
  |str z=>obtain ⟨t',rfl⟩:=at_str.mp hy;rw [decide_eq_false (by intro e;cases e)];exact EqAt.int_str _ _ _ _
  |tup l=>obtain ⟨a,its,rfl,p,_⟩:=at_tup.mp hy;rw [decide_eq_false (by intro e;cases e)];exact EqAt.int_tuple _ _ p (by omega)
 |h2 z=>
  intro A y u v hx hy hu;obtain ⟨t,rfl⟩:=at_str.mp hx;simp only [NK.dep] at hu
  cases y with
  |int j=>obtain ⟨t',rfl⟩:=at_int.mp hy;rw [decide_eq_false (by intro e;cases e)];exact EqAt.str_int _ _ _ _
  |str z'=>
   obtain ⟨t',rfl⟩:=at_str.mp hy;rw [←uF (f:=NK.str) (fun a b e=>by cases e;rfl)];exact EqAt.str_str _ _ _ _
  |tup l=>obtain ⟨a,its,rfl,p,_⟩:=at_tup.mp hy;rw [decide_eq_false (by intro e;cases e)];exact EqAt.str_tuple _ _ p (by omega)
 |h3 l ih=>
  intro A y u v hx hy hu;obtain ⟨a,its,rfl,p,hl⟩:=at_tup.mp hx;simp only [NK.dep] at hu
  cases y with
  |int j=>obtain ⟨t',rfl⟩:=at_int.mp hy;rw [decide_eq_false (by intro e;cases e)];exact EqAt.tuple_int _ _ p (by omega)
  |str z'=>obtain ⟨t',rfl⟩:=at_str.mp hy;rw [decide_eq_false (by intro e;cases e)];exact EqAt.tuple_str _ _ p (by omega)
  |tup m=>
   obtain ⟨a',its',rfl,p',hm⟩:=at_tup.mp hy
   by_cases z:a=a'
   · subst z;rw [decide_eq_true (jb4 _ _ _ hx hy)];exact EqAt.same _
   · have l1:=Q4 hl;have l2:=Q4 hm
     have q:=RcAt.tuples (A:=A) (e:=fun j=>decide (l[j]?=m[j]?)) p p' (by omega) (fun j h1 h2=>by
      have j1:j<l.length:=by rw [←l1,aas];exact h1
      have j2:j<m.length:=by rw [←l2,aas];exact h2
      have g1:its.toList[j]?=some its[j]:=by rw [aar];exact aaj h1
      have g2:its'.toList[j]?=some its'[j]:=by rw [aar];exact aaj h2
      have hd:=Wu (abk j1);have:=ih l[j] (abk j1) A.in1 m[j] its[j] its'[j] (Q5 hl (aae j1) g1) (Q5 hm (aae j2) g2) (by show A.units+1+l[j].dep<cLine;omega);rw [aae j1,aae j2]
      simpa using this)
     have e:((aa8 (min its.size its'.size)).all (fun j=>decide (l[j]?=m[j]?))&&its.size==its'.size)=decide (NK.tup l=NK.tup m):=by
      rw [←aas,←aas,l1,l2];rw [acg,aat,aa5,decide_eq_true_iff]
      constructor
      · rintro ⟨h1,h2⟩;have hlen:l.length=m.length:=by simpa using h2
        congr 1;apply ac0;intro j
        by_cases hj:j<l.length
        · simpa using h1 j (aaU.mpr (by omega))
        · rw [aaP (by omega),aaP (by omega)]
      · intro h;cases h;exact ⟨fun j _=>by simp,by simp⟩
     rw [←e];exact ae3 z q
section
variable {prog:aaH} {w:World} {A:aa3} {E:Value->aaf->Prop} {s:aaf}
def jaE (k:NK): ∀(n:Nat) (v:Value) (Q:Bool->aaf->Prop),NK.at s.heap k v->k.dep<=n->Q true s->wpAny (model prog w) A (eqIsQuiet n v) Q E s:=by
 induction k using NK.ind with
 |h1 i=>intro n v Q x _ q;obtain ⟨t,rfl⟩:=at_int.mp x;cases n<;>exact aac q
 |h2 z=>intro n v Q x _ q;obtain ⟨t,rfl⟩:=at_str.mp x;cases n<;>exact aac q
 |h3 l ih=>
  intro n v Q x hn q;obtain ⟨a,its,rfl,p,hl⟩:=at_tup.mp x;simp only [NK.dep] at hn;obtain ⟨n,rfl⟩: ∃m,n=m+1:=⟨n-1,by omega⟩
  obtain ⟨o,ho,hc,nn,hd⟩:=id p;rw [eqIsQuiet.eq_def];refine aaa (wpAny_specialOf (ZE p) F.slot_tuple_eq.lookup ?_);dsimp only;refine aaa (acm (b:=true) (ZE p) (by first|rfl|decide|exact aeD "tuple" _) ?_);simp only [abf,aaG,if_false];refine aaa (adV ho hd (aaa ?_));simp only [adh];rw [←ads];refine adg _ (fun rest r s'=>r=(none,())/\s'=s/\ ∃rl,NK.ats s.heap rl rest/\ ∀k∈rl,k∈l) _ ?_ ?_ _ _ ⟨rfl,rfl,l,hl,fun _ h=>h⟩
  · rintro u rest r s' ⟨rfl,rfl,rl,ha,hs⟩
    cases rl with
    |nil=>have:=ats_nil.mp ha;cases this
    |cons k' rl=>
     obtain ⟨u',us,e,hu1,hu2⟩:=ats_cons.mp ha;obtain ⟨rfl,rfl⟩:=List.cons.inj e;have hm:=hs k' aax;have hdp:=Wu hm;refine aaa (ih k' hm n u _ hu1 (by omega) ?_);simp only [abf,aaG,if_false];exact aac ⟨rfl,rfl,rl,hu2,fun q hq=>hs q (aao _ hq)⟩
  · rintro r s' ⟨rfl,rfl,_⟩;exact aac q
end
noncomputable def nkKind (prog:aaH) (w:World):HeapKind prog w NK where
 is:=fun h k a=>NK.at h k (.ref a)/\k.dep<=8
 hash:=NK.hash w
 draws:=NK.draws
 room:=fun A=>A.units+8<cLine
 inj:=fun x y=>jb4 _ _ _ x.1 y.1
 keeps:=fun {h h' k a d o es ep} x ho hd hs=>⟨jdJ (fun b its ⟨ob,hb,hc,n,hdb⟩=>⟨ob,hs.extBut b ob (fun z=>by
  subst z;rw [ho] at hb;cases hb
  rw [hd] at hdb;cases hdb) hb,hc,n,hdb⟩) k _ x.1,x.2⟩
 pyHash:=fun {A E s k a Q} hr x q=>jcK k A E s _ Q x.1 (by have:=x.2;omega) q
 eqBool:=fun {A E s x y a b Q} hr hx hy q=>jfZ x A y _ _ hx.1 hy.1 (by have:=hx.2;omega) _ _ _ _ q
 quiet:=fun {A E s k a Q} x q=>jaE k 8 _ Q x.1 x.2 q
end M
section
open PySem
abbrev ZI (x:Str):Prop:=(x==("__debug__" :Str))=false
abbrev Y9 (x:Str):Prop:=(x==("__classdict__" :Str))=false
abbrev X8:=Str->Option Value
abbrev X7:=Addr->Prop
abbrev X6:=Value->aaf->Prop
theorem Vt {l:List Str} (h:l.Nodup:=by decide+kernel):l.Nodup:=h
end
namespace L2
open PySem PySem.Spec PyProof.Rows
abbrev Key:=Sum Int Str
def VR:Key->Value->Bool
 | .inl k,v=>Value.isInt k v
 | .inr x,v=>Value.isStrOf x v
def keyH (w:World):Key->Int
 | .inl k=>hashInt k
 | .inr x=>hashStr w x
theorem qh: ∀ {k:Key} {v:Value},VR k v=true->(∃i t,k=afe i/\v=aeI i t)\/(∃x t,k=Sum.inr x/\v=Value.str x t)
 | .inl i,v,h=>by
  obtain ⟨t,e⟩:=aeJ (k:=i) (v:=v) h;exact .inl ⟨i,t,rfl,e⟩
 | .inr x,v,h=>by
  obtain ⟨t,e⟩:=Value.isStrOf_shape (x:=x) (v:=v) h;exact .inr ⟨x,t,rfl,e⟩
def vo (i:Int) (t:Tok):VR (.inl i) (.int i t)=true:=by simp [VR,Value.isInt]
def vn (x:Str) (t:Tok):VR (.inr x) (.str x t)=true:=by simp [VR,Value.isStrOf]
def jeV (a b:Int):decide ((afe a:Key)=afe b)=(a==b):=by
 by_cases e:a=b
 · subst e;simp
 · have h: ¬(afe a:Key)=afe b:=fun q=>e (Sum.inl.inj q)
   rw [decide_eq_false h];exact (beq_eq_false_iff_ne.mpr e).symm
def jeS (a b:Str):decide ((Sum.inr a:Key)=Sum.inr b)=decide (a=b):=by
 by_cases e:a=b
 · subst e;simp
 · have h: ¬(Sum.inr a:Key)=Sum.inr b:=fun q=>e (Sum.inr.inj q)
   rw [decide_eq_false h,decide_eq_false e]
def jeU (a:Int) (b:Str):decide ((afe a:Key)=Sum.inr b)=false:=decide_eq_false (fun q=>nomatch q)
def jeT (a:Str) (b:Int):decide ((Sum.inr a:Key)=afe b)=false:=decide_eq_false (fun q=>nomatch q)
def qt (prog:aaH) (w:World):PySem.KeyKind prog w Key where
 is:=VR
 hash:=keyH w
 inj:=fun v a b ha hb=>by
  rcases qh ha with ⟨i,t,rfl,rfl⟩| ⟨x,t,rfl,rfl⟩
  · rcases qh hb with ⟨j,u,rfl,e⟩| ⟨y,u,rfl,e⟩
    · injection e with e1 _;rw [e1]
    · exact nomatch e
  · rcases qh hb with ⟨j,u,rfl,e⟩| ⟨y,u,rfl,e⟩
    · exact nomatch e
    · injection e with e1 _;rw [e1]
 byValue:=fun k v h=>by
  rcases qh h with ⟨i,t,rfl,rfl⟩| ⟨x,t,rfl,rfl⟩<;>rfl
 pyHash:=fun hv h=>by
  rcases qh hv with ⟨i,t,rfl,rfl⟩| ⟨x,t,rfl,rfl⟩
  · exact wpAny_pyHash_int h
  · exact wpAny_pyHash_str h
 eqBool:=fun hu hv h=>by
  rcases qh hu with ⟨i,t,rfl,rfl⟩| ⟨x,t,rfl,rfl⟩
  · rcases qh hv with ⟨j,u,rfl,rfl⟩| ⟨y,u,rfl,rfl⟩
    · rw [jeV] at h;exact wpAny_eqBool_int h
    · rw [jeU] at h;exact SeqAt.EqAt.int_str i t y u _ _ _ _ h
  · rcases qh hv with ⟨j,u,rfl,rfl⟩| ⟨y,u,rfl,rfl⟩
    · rw [jeT] at h;exact SeqAt.EqAt.str_int x t j u _ _ _ _ h
    · rw [jeS] at h;exact wpAny_eqBool_str h
 «strs» :=fun k x t v h=>by
  rcases qh h with ⟨i,u,rfl,e⟩| ⟨y,u,rfl,e⟩
  · exact nomatch e
  · injection e with e1 _;subst e1;cases v<;>rfl
def Yv (prog:aaH) (w:World) (i:Int) (t:Tok):(qt prog w).is (.inl i) (.int i t)=true:=vo i t
def Yu (prog:aaH) (w:World) (x:Str) (t:Tok):(qt prog w).is (.inr x) (.str x t)=true:=vn x t
inductive V where
 |non|bl (b:Bool)|int (i:Int)|str (x:Str)|byt (b:Array UInt8)|flt (b:UInt64)|ref (a:Addr)|ty (n:String)
 deriving DecidableEq
def RelV:V->Value->Prop
 | .non,u=>u=ab9
 | .bl b,u=>u=ac1 b
 | .int i,u=> ∃t,u=aeI i t
 | .str x,u=> ∃t,u=Value.str x t
 | .byt b,u=> ∃t,u=Value.bytes b t
 | .flt b,u=> ∃t,u=Value.float b t
 | .ref a,u=>u=aaJ a
 | .ty n,u=>u=acC n
abbrev Vals:List V->List Value->Prop:=Paired RelV
def Vals.length {xs:List V} {us:List Value} (r:Vals xs us):xs.length=us.length:=aeV r
theorem Vals.get: ∀ {xs:List V} {us:List Value} {i:Nat} {x:V},Vals xs us->xs[i]?=some x-> ∃u,us[i]?=some u/\RelV x u
 |_,_,_,_,.nil,e=>by simp at e
 |_,_,0,_,.cons r _,e=>by simp at e;subst e;exact ⟨_,rfl,r⟩
 |_,_,i+1,x,.cons _ t,e=>by
  obtain ⟨u,h1,h2⟩:=Vals.get (i:=i) (x:=x) t (by simpa using e);exact ⟨u,by simpa using h1,h2⟩
theorem Vals.set {x:V} {u:Value} (r:RelV x u): ∀ {xs:List V} {us:List Value} (i:Nat),Vals xs us->Vals (xs.set i x) (us.set i u)
 |_,_,_,.nil=> .nil
 |_,_,0,.cons _ t=> .cons r t
 |_,_,i+1,.cons q t=> .cons q (Vals.set r i t)
theorem Vals.append: ∀ {xs ys:List V} {us ws:List Value},Vals xs us->Vals ys ws->Vals (xs++ys) (us++ws)
 |_,_,_,_,.nil,s=>s
 |_,_,_,_,.cons r t,s=> .cons r (Vals.append t s)
theorem Vals.take: ∀ {xs:List V} {us:List Value} (n:Nat),Vals xs us->Vals (xs.take n) (us.take n)
 |_,_,0,_=> .nil
 |_,_,_+1,.nil=> .nil
 |_,_,n+1,.cons r t=> .cons r (Vals.take n t)
theorem Vals.drop: ∀ {xs:List V} {us:List Value} (n:Nat),Vals xs us->Vals (xs.drop n) (us.drop n)
 |_,_,0,r=>r
 |_,_,_+1,.nil=> .nil
 |_,_,n+1,.cons _ t=>Vals.drop n t
def RelO:Option V->Option Value->Prop
 |some v,some u=>RelV v u
 |none,none=>True
 |_,_=>False
def KV {κ:Type}:List (κ×V)->List (κ×Value)->Prop:=Paired fun (p:κ×V) (q:κ×Value)=>p.1=q.1/\RelV p.2 q.2
def kV:Key->V
 | .inl i=> .int i
 | .inr x=> .str x
inductive HO where
 |lst (xs:List V)
 |tup (xs:List V)
 |dK (kvs:List (Key×V))|dT (kvs:List (List Key×V))
 |set (S:Int->Bool) (n:Nat)
 |ins (C dx:Addr) (fs:List (Str×V))
 |own (x:Addr)
 |xd (fs:List (Str×V))
 |met (f x:Addr)
 |rng (lo hi:Int)
 |frz (o:Obj) (u:HO)
 |tbl (ps:Array Value)
 |ext (φ:Heap->Prop)
 |memo (B:List M.NK) (Φ:M.NK->Option M.NK->Prop)
abbrev Hp:=Addr->Option HO
def upd (H:Hp) (a:Addr) (o:HO):Hp:=fun b=>if b=a then some o else H b
def jo {H:Hp} {a:Addr} {o:HO}:upd H a o a=some o:=by unfold upd;rw [if_pos rfl]
def jx {H:Hp} {a b:Addr} {o:HO} (h:b≠a):upd H a o b=H b:=by unfold upd;rw [if_neg h]
def jf0 {H:Hp} {a b:Addr} {o u:HO} (h:H a=some o) (h':H b=some u) (d:o≠u):a≠b:=by
 intro e;subst e;rw [h] at h';exact d (aaK h')
def jT {H:Hp} {a b:Addr} {o:HO} (h:H a=some o) (h':H b=none):a≠b:=by
 intro e;subst e;rw [h] at h';cases h'
mutual
def NkH (H:Hp):M.NK->V->Prop
 | .int i,v=>v= .int i
 | .str x,v=>v= .str x
 | .tup l,v=> ∃b vs,v= .ref b/\H b=some (.tup vs)/\NkHs H l vs
def NkHs (H:Hp):List M.NK->List V->Prop
 | [],vs=>vs=[]
 |k::l,vs=> ∃u us,vs=u::us/\NkH H k u/\NkHs H l us
end
def NvH (H:Hp):Option M.NK->V->Prop
 |none,v=>v= .non
 |some k,v=>NkH H k v
theorem NkHs.mono {H H':Hp}: ∀ {l:List M.NK} {vs:List V},(∀k∈l,∀v,NkH H k v->NkH H' k v)->NkHs H l vs->NkHs H' l vs
 | [],vs,_,x=>by simp only [NkHs] at x ⊢;exact x
 |k::l,vs,f,x=>by
  simp only [NkHs] at x ⊢;obtain ⟨u,us,e,hx,y⟩:=x;exact ⟨u,us,e,f k aax u hx,NkHs.mono (fun q hq=>f q (aao _ hq)) y⟩
def NkH.mono {H H':Hp} (ht: ∀b xs,H b=some (.tup xs)->H' b=some (.tup xs)) (k:M.NK): ∀v,NkH H k v->NkH H' k v:=by
 induction k using M.NK.ind with
 |h1 i=>intro v x;simp only [NkH] at x ⊢;exact x
 |h2 z=>intro v x;simp only [NkH] at x ⊢;exact x
 |h3 l ih=>
  intro v x;simp only [NkH] at x ⊢;obtain ⟨b,vs,e,hb,y⟩:=x;exact ⟨b,vs,e,ht b vs hb,NkHs.mono ih y⟩
def NvH.mono {H H':Hp} (ht: ∀b xs,H b=some (.tup xs)->H' b=some (.tup xs)) {k:Option M.NK} {v:V} (x:NvH H k v):NvH H' k v:=by
 cases k with
 |none=>exact x
 |some k=>exact NkH.mono ht k v x
section
variable (P:aaH) (w:World)
def ObjOk (H:Hp) (h:Heap) (a:Addr):HO->Prop
 | .lst xs=>xs.length<=aah/\ ∃(its:List Value) (n:Nat),Vals xs its/\h.get? a=some {cls:= .type "list",data:= .seq its.toArray n}
 | .tup xs=>xs.length<=aah/\ ∃its:List Value,Vals xs its/\IsTup h a its.toArray
 | .dK kvs=>kvs.length<=aah/\(a==aca)=false/\ ∃vs,KV kvs vs/\h.DictOf (qt P w) a vs
 | .dT kvs=>kvs.length<=aah/\(a==aca)=false/\ ∃xs:List (List Key×Addr×Value),
  Paired (fun (p:List Key×V) (q:List Key×Addr×Value)=>p.1=q.1/\H q.2.1=some (.tup (p.1.map kV))/\RelV p.2 q.2.2) kvs xs/\
  ∃o es ep,h.get? a=some o/\o.ExactDict/\o.data= .dict es ep/\es.toList=xs.map (entryOfKey (tupleKind (qt P w)))/\(xs.map (·.1)).Nodup
 | .set S n=>h.SetOf (ach P w) a S n
 | .ins C dx fs=>H dx=some (.own a)/\fs.length<=1000/\dx≠a/\h.get? a=some (aci C dx)/\
  ∃mA,h.Ns1 dx mA/\(∀f,RelO (fs.lookup f) (mA f))/\PySem.Within mA (fs.map (·.1))
 | .own _=> ∃o,h.get? a=some o
 | .xd fs=> ∃mA,h.Ns1 a mA/\ ∀f,RelO (fs.lookup f) (mA f)
 | .rng lo hi=> ∃t u v,h.get? a=some {cls:= .type "range",data:= .fields #[.int lo t,.int hi u,.int 1 v]}
 | .frz o u=>h.get? a=some o/\ObjOk H h a u
 | .tbl ps=>h.get? a=some {cls:= .none,data:= .fields ps}
 | .met f x=>h.get? a=some (aeK (.ref f) (.ref x))
 | .ext φ=>φ h/\(∃o,h.get? a=some o)/\ ∀h1 h2:Heap,φ h1->(∀o,h1.get? a=some o->h2.get? a=some o)->φ h2
 | .memo B Φ=>B.length<aah/\(a==aca)=false/\ ∃xs:List (M.NK×Addr×Value),(∀x∈xs,x.1∈B/\NkH H x.1 (.ref x.2.1)/\x.1.dep<=8/\ ∃v nv,RelV v x.2.2/\NvH H nv v/\Φ x.1 nv)/\
  ∃o es ep,h.get? a=some o/\o.ExactDict/\o.data= .dict es ep/\es.toList=xs.map (entryOfKey (M.nkKind P w))/\(xs.map (·.1)).Nodup
def HOk (H:Hp) (h:Heap):Prop:= ∀a o,H a=some o->ObjOk P w H h a o
end
section
variable {P:aaH} {w:World} {H H':Hp} {h h':Heap} {a:Addr} {o:HO}
def ObjOk.lt (x:ObjOk P w H h a o):a<h.objs.size:=by
 cases o with
 |lst xs=>obtain ⟨_,_,_,_,e⟩:=x;exact aav e
 |tup xs=>obtain ⟨_,_,_,p⟩:=x;exact p.lt
 |dK kvs=>obtain ⟨_,_,_,_,o,_,_,e,_⟩:=x;exact aav e
 |dT kvs=>obtain ⟨_,_,_,_,o,_,_,e,_⟩:=x;exact aav e
 |set S n=>obtain ⟨o,_,_,_,e,_⟩:=x;exact aav e
 |ins C dx fs=>obtain ⟨_,_,_,e,_⟩:=x;exact aav e
 |own y=>obtain ⟨_,e⟩:=x;exact aav e
 |xd fs=>obtain ⟨_,⟨_,_,_,e,_⟩,_⟩:=x;exact aav e
 |rng lo hi=>obtain ⟨_,_,_,e⟩:=x;exact aav e
 |frz ob u=>obtain ⟨e,_⟩:=x;exact aav e
 |tbl ps=>exact aav (show h.get? a=some _ from x)
 |met f y=>exact aav (show h.get? a=some _ from x)
 |ext φ=>obtain ⟨_,⟨_,e⟩,_⟩:=x;exact aav e
 |memo B Φ=>obtain ⟨_,_,_,_,o,_,_,e,_⟩:=x;exact aav e
theorem Paired.mapP {α β:Type} {F G:α->β->Prop}: ∀ {l₁:List α} {l₂:List β},Paired F l₁ l₂->(∀a b,F a b->G a b)->Paired G l₁ l₂
 |_,_,.nil,_=> .nil
 |_,_,.cons r t,f=> .cons (f _ _ r) (Paired.mapP t f)
def ObjOk.stay (x:ObjOk P w H h a o) (k: ∀b u,(b=a\/H b=some (.own a))->h.get? b=some u->h'.get? b=some u)
  (ho: ∀b,H b=some (.own a)->H' b=some (.own a)) (ht: ∀b xs,H b=some (.tup xs)->H' b=some (.tup xs)):ObjOk P w H' h' a o:=by
 induction o with
 |lst xs=>obtain ⟨z,its,n,r,e⟩:=x;exact ⟨z,its,n,r,k _ _ (.inl rfl) e⟩
 |tup xs=>obtain ⟨z,its,r,ob,e,c⟩:=x;exact ⟨z,its,r,ob,k _ _ (.inl rfl) e,c⟩
 |dK kvs=>obtain ⟨z,y,vs,r,ob,es,ep,e,c⟩:=x;exact ⟨z,y,vs,r,ob,es,ep,k _ _ (.inl rfl) e,c⟩
 |dT kvs=>
  obtain ⟨z,y,xs,r,ob,es,ep,e,c⟩:=x;exact ⟨z,y,xs,Paired.mapP r fun p q z=>⟨z.1,ht _ _ z.2.1,z.2.2⟩,ob,es,ep,k _ _ (.inl rfl) e,c⟩
 |set S n=>obtain ⟨ob,es,ep,t,e,c⟩:=x;exact ⟨ob,es,ep,t,k _ _ (.inl rfl) e,c⟩
 |ins C dx fs=>
  obtain ⟨d,z,ne,e,mA,⟨od,es,ep,e2,c⟩,r⟩:=x;exact ⟨ho _ d,z,ne,k _ _ (.inl rfl) e,mA,⟨od,es,ep,k _ _ (.inr d) e2,c⟩,r⟩
 |own y=>obtain ⟨ob,e⟩:=x;exact ⟨ob,k _ _ (.inl rfl) e⟩
 |xd fs=>obtain ⟨mA,⟨od,es,ep,e,c⟩,r⟩:=x;exact ⟨mA,⟨od,es,ep,k _ _ (.inl rfl) e,c⟩,r⟩
 |rng lo hi=>obtain ⟨t,u,v,e⟩:=x;exact ⟨t,u,v,k _ _ (.inl rfl) e⟩
 |frz ob u ih=>obtain ⟨e,q⟩:=x;exact ⟨k _ _ (.inl rfl) e,ih q⟩
 |tbl ps=>
  have e:h.get? a=some {cls:= .none,data:= .fields ps}:=x;show h'.get? a=some {cls:= .none,data:= .fields ps};exact k a _ (.inl rfl) e
 |met f y=>
  have e:h.get? a=some (aeK (.ref f) (.ref y)):=x;show h'.get? a=some (aeK (.ref f) (.ref y));exact k a _ (.inl rfl) e
 |ext φ=>obtain ⟨p,⟨o,e⟩,st⟩:=x;exact ⟨st _ _ p fun o q=>k _ _ (.inl rfl) q,⟨o,k _ _ (.inl rfl) e⟩,st⟩
 |memo B Φ=>
  obtain ⟨z,y,xs,r,ob,es,ep,e,c⟩:=x;exact ⟨z,y,xs,fun q hq=>let ⟨b1,b2,b3,v,nv,b4,b5,b6⟩:=r q hq;⟨b1,NkH.mono ht _ _ b2,b3,v,nv,b4,NvH.mono ht b5,b6⟩,ob,es,ep,k _ _ (.inl rfl) e,c⟩
def HOk.lt (x:HOk P w H h) (e:H a=some o):a<h.objs.size:=(x a o e).lt
def HOk.fresh (x:HOk P w H h) (e:h.objs.size<=a):H a=none:=by
 cases q:H a with
 |none=>rfl
 |some u=>exact absurd (aaA (x.lt q) e) (abE _)
def HOk.kept (x:HOk P w H h) (k: ∀b u,h.get? b=some u->h'.get? b=some u):HOk P w H h':=fun a o e=>
 (x a o e).stay (fun b u _ q=>k b u q) (fun _ q=>q) fun _ _ q=>q
def HOk.laid (x:HOk P w H h) (k: ∀b u,h.get? b=some u->h'.get? b=some u) (hp:h.objs.size<=a) (new:ObjOk P w (upd H a o) h' a o):HOk P w (upd H a o) h':=fun b u e=>by
 have hn:=x.fresh hp
 by_cases hb:b=a
 · subst hb;rw [jo] at e;cases e;exact new
 · rw [jx hb] at e;exact (x b u e).stay (fun c v _ q=>k c v q) (fun c q=>by rw [jx (jT q hn)];exact q) fun c xs q=>by rw [jx (jT q hn)];exact q
end
def Rd (H:Hp) (a:Addr) (u:HO):Prop:=H a=some u\/ ∃o,H a=some (.frz o u)
def Rd.ok {P:aaH} {w:World} {H:Hp} {h:Heap} {a:Addr} {u:HO} (r:Rd H a u) (x:HOk P w H h):ObjOk P w H h a u:=by
 rcases r with r| ⟨o,r⟩
 · exact x a u r
 · obtain ⟨_,q⟩:=x a _ r;exact q
def Mut:Option HO->Prop
 |some (.lst _)=>True
 |some (.dK _)=>True
 |some (.dT _)=>True
 |some (.set _ _)=>True
 |some (.ins _ _ _)=>True
 |some (.ext _)=>True
 |some (.memo _ _)=>True
 |_=>False
section
variable {P:aaH} {w:World} {H:Hp} {h h':Heap} {x e:Addr} {o':HO}
def HOk.write (ok:HOk P w H h) (mu:Mut (H x)) (he:e=x\/H e=some (.own x)) (k: ∀b u,b≠e->h.get? b=some u->h'.get? b=some u) (heo: ∃u,h'.get? e=some u)
   (new:ObjOk P w (upd H x o') h' x o'):HOk P w (upd H x o') h':=fun b u q=>by
 have nown: ∀c y,H c=some (.own y)->c≠x:=fun c y r z=>by subst z;rw [r] at mu;exact mu
 have ntup: ∀c xs,H c=some (.tup xs)->c≠x:=fun c xs r z=>by subst z;rw [r] at mu;exact mu
 by_cases hb:b=x
 · subst hb;rw [jo] at q;cases q;exact new
 · rw [jx hb] at q
   by_cases hbe:b=e
   · have q':H b=some (.own x):=by
       rcases he with z|z
       · exact absurd (hbe.trans z) hb
       · rw [hbe];exact z
     rw [q] at q';cases q';obtain ⟨v,hv⟩:=heo;exact ⟨v,by rw [hbe];exact hv⟩
   · refine (ok b u q).stay (fun c v hc r=>k c v ?_ r) (fun c r=>by rw [jx (nown c b r)];exact r) fun c xs r=>by rw [jx (ntup c xs r)];exact r
     rcases hc with rfl|hc
     · exact hbe
     · rintro rfl;rcases he with z|z
       · exact nown c b hc z
       · rw [hc] at z;cases z;exact hb rfl
end
structure Un (fs ex:List Addr) (H H':Hp) (h h':Heap):Prop where
 keep: ∀b o,h.get? b=some o->H b=none->b∉fs->b∉ex->h'.get? b=some o
 slot: ∀b o,h.get? b=some o->H b=none->b∈fs->b∉ex-> ∃sl,h'.get? b=some {o with slots:=sl}
 free: ∀b o,h.get? b=some o->H b=none->b∉ex->H' b=none
 there: ∀b o,h.get? b=some o->b∉ex-> ∃o',h'.get? b=some o'
 tups: ∀b xs,H b=some (.tup xs)->H' b=some (.tup xs)
 frzs: ∀b o u,H b=some (.frz o u)->H' b=some (.frz o u)
 tbls: ∀b ps,H b=some (.tbl ps)-> ∃more,H' b=some (.tbl (ps++more))
section
variable {fs fs' ex ex':List Addr} {H H1 H2:Hp} {h h1 h2 h':Heap} {a x e:Addr} {o:HO}
def Un.any (u:Un fs ex H H1 h h1) {b:Addr} {ob:Obj} (q:h.get? b=some ob) (n:H b=none) (hx:b∉ex): ∃sl,h1.get? b=some {ob with slots:=sl}:=by
 by_cases hb:b∈fs
 · exact u.slot b ob q n hb hx
 · exact ⟨ob.slots,u.keep b ob q n hb hx⟩
def Un.kept (k: ∀b u,h.get? b=some u->h'.get? b=some u):Un fs ex H H h h':=
 ⟨fun b ob q _ _ _=>k b ob q,fun b ob q _ _ _=>⟨ob.slots,k b ob q⟩,fun _ _ _ n _=>n,fun b ob q _=>⟨ob,k b ob q⟩,fun _ _ q=>q,fun _ _ _ q=>q,fun _ ps q=>⟨#[],by rw [q];simp⟩⟩
def Un.refl:Un fs ex H H h h:=Un.kept fun _ _ q=>q
def Un.laid (k: ∀b u,h.get? b=some u->h'.get? b=some u) (hp:h.objs.size<=a) (hn:H a=none):Un fs ex H (upd H a o) h h' where
 keep:=fun b u q _ _ _=>k b u q
 slot:=fun b u q _ _ _=>⟨u.slots,k b u q⟩
 free:=fun b u q n _=>by rw [jx (aaC (aaA (aav q) hp))];exact n
 there:=fun b u q _=>⟨u,k b u q⟩
 tups:=fun b xs q=>by rw [jx (jT q hn)];exact q
 frzs:=fun b u xs q=>by rw [jx (jT q hn)];exact q
 tbls:=fun b ps q=>⟨#[],by rw [jx (jT q hn),q];simp⟩
def Un.write (mu:Mut (H x)) (he:e=x\/H e=some (.own x)) (k: ∀b u,b≠e->h.get? b=some u->h'.get? b=some u) (heo: ∃u,h'.get? e=some u):Un fs ex H (upd H x o) h h':=by
 have hx: ∀b,H b=none->b≠x:=fun b n z=>by subst z;rw [n] at mu;exact mu
 have hb: ∀b,H b=none->b≠e:=fun b n z=>by
   subst z;rcases he with r|r
   · exact hx b n r
   · rw [n] at r;cases r
 have hm: ∀b u,H b=some u-> ¬Mut (some u)->b≠x:=fun b u q nm z=>by subst z;rw [q] at mu;exact nm mu
 refine ⟨fun b u q n _ _=>k b u (hb b n) q,fun b u q n _ _=>⟨u.slots,k b u (hb b n) q⟩,fun b u q n _=>by rw [jx (hx b n)];exact n,fun b u q _=>?_,
   fun b xs q=>by rw [jx (hm b _ q fun z=>z)];exact q,fun b u xs q=>by rw [jx (hm b _ q fun z=>z)];exact q,fun b ps q=>⟨#[],by rw [jx (hm b _ q fun z=>z),q];simp⟩⟩
 by_cases hbe:b=e
 · subst hbe;exact heo
 · exact ⟨u,k b u hbe q⟩
end
def trk (h:Heap) (H:Hp):List Addr:=(aa8 h.objs.size).filter fun a=>(H a).isSome
def hidT (h:Heap) (H:Hp):Heap:=PySem.W.hideAll h (trk h H)
def vD (h:Heap) (H:Hp):(hidT h H).objs.size=h.objs.size:=PySem.W.hideAll_size _ _
def jaY {h:Heap} {H:Hp} {b:Addr} {o:Obj} (e:h.get? b=some o) (n:H b=none):(hidT h H).get? b=some o:=
 PySem.W.hideAll_get _ e fun hm=>by
  have q:(H b).isSome=true:=(List.mem_filter.mp hm).2;rw [n] at q;simp at q
def jcF {h:Heap} {H:Hp} {b:Addr} {o:Obj} (e:(hidT h H).get? b=some o):h.get? b=some o/\H b=none:=by
 have e':h.get? b=some o:=PySem.W.of_hideAll (trk h H) e;refine ⟨e',?_⟩
 cases q:H b with
 |none=>rfl
 |some x=>
  have hm:b∈trk h H:=List.mem_filter.mpr ⟨aaU.mpr (aav e'),by simp [q]⟩;have z:(hidT h H).get? b=none:=PySem.W.hideAll_none (trk h H) hm;rw [z] at e;cases e
def jdO (g h:Heap) (L:Addr):List (Addr×Obj):=(aa8 h.objs.size).filterMap fun a=>if a=L\/(g.get? a).isSome=true then none else (h.get? a).map fun o=>(a,o)
def rest (g h:Heap) (L d:Addr):List (Addr×Obj):=(jdO g h L).filter fun p=>decide (p.1≠d)
structure Mod (K:aab) (mg:X8) (base:Heap):Prop where
 kin:K.In base
 glob:base.Ns aaw mg
 blt: ∃mb,base.Ns builtinsNs mb/\ ∀x:Str,x≠ "__name__" ->mb x=abz x
 nolimit:base.NoLimit
structure Cx where
 prog:aaH
 w:World
 K:aab
 mg:Str->Option Value
 base:Heap
 A:aa3
 N:List Str
 s₀:aaf
 H₀:Hp
 env:Env
 outer:List Env
 stack:List Env
 ex:List Addr
 fn:Str->Bool
 calm:Bool
 pn:List (Addr×Obj)
 xe:Value->aaf->Prop
abbrev WS (X:Cx) (e:Expr) (es:List Expr):Prop:=aan (e::es) X.env=(false,eval e X.env)::aan es X.env
abbrev Vv (X:Cx) (p:Pos) (es:List Expr):Prop:=(abQ p (aan es X.env)).any (·.1)=false
abbrev Vu (X:Cx) (x:Str):Prop:=X.fn x=true\/X.env.scope.names.lookup x=some .local
def frs (l:List Env):List Addr:=l.filterMap (·.frame)
abbrev Cx.fs (X:Cx):List Addr:=frs X.outer
def Vis (sc:Scope) (x:Str):Prop:=sc.names.lookup x=some .local\/sc.names.lookup x=some .cell\/sc.names.lookup x=some .free
def Loc (sc:Scope) (x:Str):Prop:=sc.names.lookup x=some .local\/sc.names.lookup x=some .cell
def Look (env:Env) (h:Heap) (m:X8) (x:Str) (u:Value):Prop:=
 (env.kindOf x=some .local/\m x=some u)\/((env.kindOf x=some .cell\/env.kindOf x=some .free)/\ ∃c,env.cells.lookup x=some c/\h.IsCell c (some u))
structure Cx.Ok (X:Cx):Prop where
 mod:Mod X.K X.mg X.base
 kind:X.env.scope.kind= .function
 glob:X.env.globals=aaw
 blt:X.env.builtins=builtinsNs
 above:X.s₀.heap.objs.size<=X.env.locals
 inj: ∀x y c,X.env.cells.lookup x=some c->X.env.cells.lookup y=some c->x=y
 has: ∀x,(X.env.kindOf x=some .cell\/X.env.kindOf x=some .free)-> ∃c,X.env.cells.lookup x=some c
 cab: ∀x c,X.fn x=true->X.env.cells.lookup x=some c->X.s₀.heap.objs.size<=c
 hd:X.calm=true->X.A.handled=none
 frames:X.A.frames=some X.stack
 stk:X.stack=X.outer\/(X.stack=X.env::X.outer/\X.env.frame=some X.env.locals)
 exf: ∀b∈X.ex,b≠X.env.locals/\ ∀x c,X.env.cells.lookup x=some c->c≠b
 bs: ∀b o,X.base.get? b=some o->X.s₀.heap.get? b=some o/\X.H₀ b=none
 bsz:X.base.objs.size<=X.s₀.heap.objs.size
 noex: ∀b o,X.base.get? b=some o->b∉X.ex
 exfs: ∀b∈X.ex,b∉X.fs
 funs:X.s₀.heap.FunFrames X.base X.outer
 frf: ∀b∈X.fs,X.H₀ b=none
structure Inv (X:Cx) (pins:List (Addr×Obj)) (σ:List (Option V)) (H:Hp) (s:aaf):Prop where
 ok:X.Ok
 os:s.os=X.s₀.os
 bare:aeW s.gens
 base:Un X.fs X.ex X.H₀ H X.s₀.heap s.heap
 loc: ∃m,s.heap.Ns X.env.locals m/\ ∀(i:Nat) (x:Str) (v:V),X.N[i]?=some x->σ[i]?=some (some v)->Vis X.env.scope x-> ∃u,RelV v u/\Look X.env s.heap m x u
 cell: ∀x c,X.env.cells.lookup x=some c-> ∃v,s.heap.IsCell c v
 free:H X.env.locals=none
 freeC: ∀x c,X.env.cells.lookup x=some c->H c=none
 pin: ∀p∈X.pn++pins,s.heap.get? p.1=some p.2/\H p.1=none/\p.1≠X.env.locals/\p.1∉X.fs/\ ∀v,p.2.data≠ .cell v
 hok:HOk X.prog X.w H s.heap
 len:σ.length=X.N.length
section
variable {X:Cx} {pins:List (Addr×Obj)} {σ:List (Option V)} {H H':Hp} {s:aaf} {h':Heap}
def Cx.Ok.nofr (ok:X.Ok) {b:Addr} {o:Obj} (e:X.base.get? b=some o):b∉X.fs:=fun hb=>by
 have:=(ok.funs.mem hb).1;rw [e] at this;cases this
def Inv.bs (I:Inv X pins σ H s): ∀b o,X.base.get? b=some o->s.heap.get? b=some o/\H b=none:=fun b o e=>
 ⟨I.base.keep b o (I.ok.bs b o e).1 (I.ok.bs b o e).2 (I.ok.nofr e) (I.ok.noex b o e),I.base.free b o (I.ok.bs b o e).1 (I.ok.bs b o e).2 (I.ok.noex b o e)⟩
def Inv.bk (I:Inv X pins σ H s): ∀b o,X.base.get? b=some o->s.heap.get? b=some o:=fun b o e=>(I.bs b o e).1
def Inv.mod (I:Inv X pins σ H s):Mod X.K X.mg X.base:=I.ok.mod
def Inv.kIn (I:Inv X pins σ H s):X.K.In s.heap:=I.ok.mod.kin.keeps I.bk
def Inv.lt (I:Inv X pins σ H s):X.env.locals<s.heap.objs.size:=let ⟨_,hn,_⟩:=I.loc;hn.lt
def Inv.sz (I:Inv X pins σ H s):X.s₀.heap.objs.size<=s.heap.objs.size:=aaI I.ok.above (Nat.le_of_lt I.lt)
def Inv.nofs (I:Inv X pins σ H s) {a:Addr} (h:s.heap.objs.size<=a):a∉X.fs:=fun hb=>by
 obtain ⟨_,o,ho,_⟩:=I.ok.funs.mem hb;exact absurd (aaA (aav ho) (aaI I.sz h)) (abE _)
def Inv.cne (I:Inv X pins σ H s): ∀x c,X.env.cells.lookup x=some c->c≠X.env.locals:=fun x c e z=>by
 obtain ⟨v,o,ho,hd⟩:=I.cell x c e;obtain ⟨m,⟨o',es,ep,ho',hd',_⟩,_⟩:=I.loc;rw [z,ho'] at ho;cases ho;rw [hd'] at hd;cases hd
def Inv.funs (I:Inv X pins σ H s):s.heap.FunFrames X.base X.outer:=by
 have all: ∀(l:List Env),(∀b∈frs l,b∈X.fs)->X.s₀.heap.FunFrames X.base l->s.heap.FunFrames X.base l:=by
  intro l
  induction l with
  |nil=>intro _ _;trivial
  |cons env r ih=>
   intro hs hl;obtain ⟨hk,⟨L,o,hf,hn,ho,hd⟩,hr⟩:=hl;have hL:L∈X.fs:=hs L (by unfold frs;rw [acJ,hf];exact aax);obtain ⟨sl,e⟩:=I.base.slot L o ho (I.ok.frf L hL) hL fun z=>I.ok.exfs L z hL
   exact ⟨hk,⟨L,_,hf,hn,e,hd⟩,ih (fun b hb=>hs b (by unfold frs;rw [acJ,hf];exact aao _ hb)) hr⟩
 exact all X.outer (fun _ hb=>hb) I.ok.funs
def Inv.stack (I:Inv X pins σ H s):s.heap.FunFrames X.base X.stack:=by
 rcases I.ok.stk with e| ⟨e,hf⟩
 · rw [e];exact I.funs
 · rw [e];obtain ⟨m,hn,_⟩:=I.loc;refine .cons (by rw [I.ok.kind];decide) hf hn ?_ I.funs;exact Heap.get?_none_of_le (aaI I.ok.bsz I.ok.above)
def Inv.stkSub (I:Inv X pins σ H s): ∀b∈frs X.stack,b∈X.env.locals::X.fs:=fun b hb=>by
 rcases I.ok.stk with e| ⟨e,hf⟩
 · rw [e] at hb;exact aao _ hb
 · rw [e] at hb;unfold frs at hb;rw [acJ,hf] at hb;exact hb
def Inv.stkFree (I:Inv X pins σ H s): ∀b∈frs X.stack,H b=none:=fun b hb=>by
 rcases aam.mp (I.stkSub b hb) with e|hb
 · rw [e];exact I.free
 · obtain ⟨_,o,ho,_⟩:=I.ok.funs.mem hb;exact I.base.free b o ho (I.ok.frf b hb) fun z=>I.ok.exfs b z hb
def Inv.step {g':Array GenState} {t':Nat} {d':Drawn} {ch:List Addr} (I:Inv X pins σ H s)
   (hch: ∀b∈ch,(b∈X.ex\/X.s₀.heap.objs.size<=b)/\b≠X.env.locals/\(∀x c,X.env.cells.lookup x=some c->c≠b)/\ ∀p∈X.pn++pins,p.1≠b)
   (keep: ∀b o,b≠X.env.locals->b∉X.fs->b∉ch->s.heap.get? b=some o->H b=none->h'.get? b=some o)
   (slot: ∀b o,b≠X.env.locals->b∈X.fs->b∉ch->s.heap.get? b=some o->H b=none-> ∃sl,h'.get? b=some {o with slots:=sl}) (free: ∀b o,b∉ch->s.heap.get? b=some o->H b=none->H' b=none)
   (there: ∀b o,b∉ch->s.heap.get? b=some o-> ∃o',h'.get? b=some o')
   (tups: ∀b xs,H b=some (.tup xs)->H' b=some (.tup xs)) (frzs: ∀b o u,H b=some (.frz o u)->H' b=some (.frz o u)) (tbls: ∀b ps,H b=some (.tbl ps)-> ∃more,H' b=some (.tbl (ps++more)))
   (ns: ∀m,s.heap.Ns X.env.locals m->h'.Ns X.env.locals m) (hok:HOk X.prog X.w H' h') (hg:aeW g'):
   Inv X pins σ H' {s with heap:=h',gens:=g',drawn:=d',toks:=t'}:=by
 have neL: ∀b o,X.s₀.heap.get? b=some o->b≠X.env.locals:=fun b o e=>aaC (aaA (aav e) I.ok.above)
 have neC: ∀b o,X.s₀.heap.get? b=some o->b∉X.ex->b∉ch:=fun b o e hx hb=>by
   rcases (hch b hb).1 with z|z
   · exact hx z
   · exact absurd (aaA (aav e) z) (abE _)
 have cellK: ∀x c,X.env.cells.lookup x=some c-> ∀v,s.heap.IsCell c v->h'.IsCell c v:=fun x c e v ⟨o,ho,hd⟩=>by
   have nch:c∉ch:=fun z=>(hch c z).2.2.1 x c e rfl
   by_cases hc:c∈X.fs
   · obtain ⟨sl,q⟩:=slot c o (I.cne x c e) hc nch ho (I.freeC x c e);exact ⟨_,q,hd⟩
   · exact ⟨o,keep c o (I.cne x c e) hc nch ho (I.freeC x c e),hd⟩
 refine ⟨I.ok,I.os,hg,⟨fun b o e n hb hx=>?_,fun b o e n hb hx=>?_,fun b o e n hx=>?_,fun b o e hx=>?_,fun b xs e=>tups b xs (I.base.tups b xs e),fun b o xs e=>frzs b o xs (I.base.frzs b o xs e),fun b ps e=>?_⟩,?_,fun x c e=>?_,?_,fun x c e=>?_,fun p hp=>?_,hok,I.len⟩
 · exact keep b o (neL b o e) hb (neC b o e hx) (I.base.keep b o e n hb hx) (I.base.free b o e n hx)
 · obtain ⟨sl,e1⟩:=I.base.slot b o e n hb hx;obtain ⟨sl',e2⟩:=slot b _ (neL b o e) hb (neC b o e hx) e1 (I.base.free b o e n hx);exact ⟨sl',e2⟩
 · obtain ⟨o',e1⟩:=I.base.there b o e hx;exact free b o' (neC b o e hx) e1 (I.base.free b o e n hx)
 · obtain ⟨o',e1⟩:=I.base.there b o e hx;exact there b o' (neC b o e hx) e1
 · obtain ⟨m1,e1⟩:=I.base.tbls b ps e;obtain ⟨m2,e2⟩:=tbls b _ e1;exact ⟨m1++m2,by rw [e2,Array.append_assoc]⟩
 · obtain ⟨m,hn,hl⟩:=I.loc;refine ⟨m,ns m hn,fun i x v e1 e2 e3=>?_⟩;obtain ⟨u,r,l⟩:=hl i x v e1 e2 e3;refine ⟨u,r,?_⟩;rcases l with l| ⟨k,c,e,z⟩
   · exact .inl l
   · exact .inr ⟨k,c,e,cellK x c e _ z⟩
 · obtain ⟨v,z⟩:=I.cell x c e;exact ⟨v,cellK x c e v z⟩
 · obtain ⟨m,⟨o,_,_,ho,_⟩,_⟩:=I.loc;exact free _ o (fun z=>(hch _ z).2.1 rfl) ho I.free
 · obtain ⟨v,o,ho,hd⟩:=I.cell x c e;exact free c o (fun z=>(hch c z).2.2.1 x c e rfl) ho (I.freeC x c e)
 · obtain ⟨e,n,ne,nf,d⟩:=I.pin p hp;have nch:p.1∉ch:=fun z=>(hch p.1 z).2.2.2 p hp rfl
   exact ⟨keep p.1 p.2 ne nf nch e n,free p.1 p.2 nch e n,ne,nf,d⟩
def Inv.un {t':Nat} (I:Inv X pins σ H s) (u:Un X.fs [] H H' s.heap h') (hok:HOk X.prog X.w H' h'):Inv X pins σ H' {s with heap:=h',toks:=t'}:=by
 obtain ⟨m,⟨o,es,ep,ho,r⟩,_⟩:=id I.loc;obtain ⟨sl,hL⟩:=u.any ho I.free (by simp)
 exact I.step (g':=s.gens) (d':=s.drawn) (ch:=[]) (fun _ z=>nomatch z) (fun b o _ hb _ e n=>u.keep b o e n hb (by simp)) (fun b o _ hb _ e n=>u.slot b o e n hb (by simp)) (fun b o _ e n=>u.free b o e n (by simp)) (fun b o _ e=>u.there b o e (by simp)) u.tups u.frzs u.tbls (fun m' hm=>by
  obtain ⟨o',es',ep',ho',r'⟩:=hm;rw [ho] at ho';cases ho'
  exact ⟨_,es',ep',hL,r'⟩) hok I.bare
def Inv.call {g':Array GenState} {t':Nat} {d':Drawn} {ch:List Addr} (I:Inv X pins σ H s) (u:Un (frs X.stack) ch H H' s.heap h') (hok:HOk X.prog X.w H' h') (hg:aeW g')
  (hch: ∀b∈ch,(b∈X.ex\/X.s₀.heap.objs.size<=b)/\b≠X.env.locals/\(∀x c,X.env.cells.lookup x=some c->c≠b)/\ ∀p∈X.pn++pins,p.1≠b):
  Inv X pins σ H' {s with heap:=h',gens:=g',drawn:=d',toks:=t'}:=by
 obtain ⟨m,⟨o,es,ep,ho,r⟩,_⟩:=id I.loc;obtain ⟨sl,hL⟩:=u.any ho I.free fun z=>(hch _ z).2.1 rfl
 exact I.step (ch:=ch) hch (fun b o hL hb hc e n=>u.keep b o e n (fun z=>(aam.mp (I.stkSub b z)).elim hL hb) hc) (fun b o _ _ hc e n=>u.any e n hc) (fun b o hc e n=>u.free b o e n hc) (fun b o hc e=>u.there b o e hc) u.tups u.frzs u.tbls (fun m' hm=>by
  obtain ⟨o',es',ep',ho',r'⟩:=hm;rw [ho] at ho';cases ho'
  exact ⟨_,es',ep',hL,r'⟩) hok hg
def Inv.turned {t':Nat} {it:Addr} (I:Inv X pins σ H s) (k: ∀b o,b≠it->s.heap.get? b=some o->h'.get? b=some o) (hn:H it=none) (hL:it≠X.env.locals)
   (h1:it∈X.ex\/X.s₀.heap.objs.size<=it) (h2: ∀x c,X.env.cells.lookup x=some c->c≠it) (h3: ∀p∈X.pn++pins,p.1≠it):Inv X pins σ H {s with heap:=h',toks:=t'}:=by
 have nit: ∀b u,H b=some u->b≠it:=fun b u e z=>by rw [z,hn] at e;cases e
 refine I.step (g':=s.gens) (d':=s.drawn) (ch:=[it]) (fun b hb=>?_) (fun b o _ _ hc e _=>k b o (fun z=>hc (by simp [z])) e) (fun b o _ _ hc e _=>⟨o.slots,k b o (fun z=>hc (by simp [z])) e⟩) (fun _ _ _ _ n=>n)
   (fun b o hc e=>⟨o,k b o (fun z=>hc (by simp [z])) e⟩) (fun _ _ e=>e) (fun _ _ _ e=>e) (fun b ps e=>⟨#[],by rw [e];simp⟩) (fun m hm=>?_) (fun b u e=>?_) I.bare
 · have e:b=it:=by simpa using hb
   subst e;exact ⟨h1,hL,h2,h3⟩
 · obtain ⟨o,es,ep,ho,r⟩:=hm;exact ⟨o,es,ep,k _ o (acD hL) ho,r⟩
 · refine (I.hok b u e).stay (fun c v hc q=>k c v ?_ q) (fun _ q=>q) fun _ _ q=>q
   rcases hc with z|z
   · rw [z];exact nit b u e
   · exact nit c _ z
def Inv.tok (I:Inv X pins σ H s) (t:Nat):Inv X pins σ H {s with toks:=t}:=I.un (h':=s.heap) (t':=t) Un.refl I.hok
def Inv.kept {t':Nat} (I:Inv X pins σ H s) (k: ∀b u,s.heap.get? b=some u->h'.get? b=some u):Inv X pins σ H {s with heap:=h',toks:=t'}:=I.un (Un.kept k) (I.hok.kept k)
def Inv.laid {a:Addr} {o:HO} {t':Nat} (I:Inv X pins σ H s) (k: ∀b u,s.heap.get? b=some u->h'.get? b=some u) (hp:s.heap.objs.size<=a) (new:ObjOk X.prog X.w (upd H a o) h' a o):
 Inv X pins σ (upd H a o) {s with heap:=h',toks:=t'}:=I.un (Un.laid k hp (I.hok.fresh hp)) (I.hok.laid k hp new)
def Inv.write {x e:Addr} {o:HO} {t':Nat} (I:Inv X pins σ H s) (mu:Mut (H x)) (he:e=x\/H e=some (.own x)) (k: ∀b u,b≠e->s.heap.get? b=some u->h'.get? b=some u) (heo: ∃u,h'.get? e=some u)
 (new:ObjOk X.prog X.w (upd H x o) h' x o):Inv X pins σ (upd H x o) {s with heap:=h',toks:=t'}:=I.un (Un.write mu he k heo) (I.hok.write mu he k heo new)
def Inv.pins_of {pins':List (Addr×Obj)} (I:Inv X pins σ H s) (h: ∀p∈pins',s.heap.get? p.1=some p.2/\H p.1=none/\p.1≠X.env.locals/\p.1∉X.fs/\ ∀v,p.2.data≠ .cell v):Inv X pins' σ H s:=
 ⟨I.ok,I.os,I.bare,I.base,I.loc,I.cell,I.free,I.freeC,fun p hp=>(aa6.mp hp).elim (fun z=>I.pin p (acA _ z)) (h p),I.hok,I.len⟩
def Z4 {N:List Str} (hN:N.Nodup) {i j:Nat} {x:Str} (a:N[i]?=some x) (b:N[j]?=some x):i=j:=by
 obtain ⟨h1,e1⟩:=aap.mp a;obtain ⟨h2,e2⟩:=aap.mp b;exact (List.getElem_inj hN).mp (e1.trans e2.symm)
def UK {M:Model} {A:aa3} {E:X6} {i:Nat} {x:Str} {v:V} {u:Value} {Q:Unit->aaf->Prop} (I:Inv X pins σ H s) (hN:X.N.Nodup) (hi:X.N[i]?=some x) (hx:Loc X.env.scope x) (r:RelV v u)
   (h: ∀s',Inv X pins (σ.set i (some v)) H s'->(∃a,abZ a s.heap s'.heap/\(a=X.env.locals\/X.env.cells.lookup x=some a))->Q () s') (hf:Vu X x:=by first|exact .inl rfl|exact .inr rfl|assumption):wpAny M A (storeName X.env x u) Q E s:=by
 obtain ⟨m,hn,hl⟩:=id I.loc;have hcls:(X.env.scope.kind== .class|| (X.env.scope.kind== .module&&X.env.locals !=X.env.globals))=false:=by rw [I.ok.kind];rfl
 have hiσ:i<σ.length:=by rw [I.len];exact (aap.mp hi).1
 have cne:=I.cne
 have tracked: ∀ {a:Addr} {h':Heap},(∃o,s.heap.get? a=some o/\H a=none)->abZ a s.heap h'->HOk X.prog X.w H h':=fun {a h'} ha hs b ob e=>by
   obtain ⟨_,_,hfree⟩:=ha;refine (I.hok b ob e).stay (fun c w' hc q=>(hs.2 c ?_).trans q) (fun _ q=>q) fun _ _ q=>q
   rintro rfl;rcases hc with rfl|hc
   · rw [hfree] at e;cases e
   · rw [hfree] at hc;cases hc
 rcases hx with hk|hk
 · refine wpAny_storeName_local hk hn (fun h' hn' hs=>?_) hcls;obtain ⟨oL,_,_,hoL,_⟩:=id hn;refine h _ ⟨I.ok,I.os,I.bare,⟨fun b o e n hb hx=>?_,fun b o e n hb hx=>?_,I.base.free,fun b o e hx=>?_,I.base.tups,I.base.frzs,I.base.tbls⟩,⟨_,hn',fun j y v' e1 e2 e3=>?_⟩,fun y c e=>?_,I.free,I.freeC,fun p hp=>?_,tracked ⟨oL,hoL,I.free⟩ hs,by simpa using I.len⟩ ⟨_,hs,.inl rfl⟩
   · exact (hs.2 b (aaC (aaA (aav e) I.ok.above))).trans (I.base.keep b o e n hb hx)
   · obtain ⟨sl,e1⟩:=I.base.slot b o e n hb hx;exact ⟨sl,(hs.2 b (aaC (aaA (aav e) I.ok.above))).trans e1⟩
   · obtain ⟨o',e1⟩:=I.base.there b o e hx;exact ⟨o',(hs.2 b (aaC (aaA (aav e) I.ok.above))).trans e1⟩
   · by_cases hj:j=i
     · subst hj;rw [hi] at e1;cases e1;rw [aaX hiσ] at e2;cases e2;exact ⟨u,r,.inl ⟨hk,by simp⟩⟩
     · rw [abj (acD hj)] at e2;obtain ⟨u',r',q⟩:=hl j y v' e1 e2 e3;refine ⟨u',r',?_⟩;rcases q with ⟨k,e⟩| ⟨k,c,e,z⟩
       · refine .inl ⟨k,?_⟩;have:y≠x:=fun e=>hj (Z4 hN e1 (e▸hi))
         simp [this,e]
       · exact .inr ⟨k,c,e,z.sameBut hs (cne y c e)⟩
   · obtain ⟨w',z⟩:=I.cell y c e;exact ⟨w',z.sameBut hs (cne y c e)⟩
   · obtain ⟨e,n,ne,nf,d⟩:=I.pin p hp;exact ⟨(hs.2 p.1 ne).trans e,n,ne,nf,d⟩
 · have hfn:X.fn x=true:=by
     rcases hf with z|z
     · exact z
     · rw [z] at hk;cases hk
   obtain ⟨c,hc⟩:=I.ok.has x (.inl hk);obtain ⟨w',z⟩:=I.cell x c hc;refine wpAny_storeName_cell I.ok.kind hk hc z (fun h' hc' hs=>?_);obtain ⟨oc,hoc,hocd⟩:=id z;refine h {s with heap:=h'} ⟨I.ok,I.os,I.bare,⟨fun b o e n hb hx=>?_,fun b o e n hb hx=>?_,I.base.free,fun b o e hx=>?_,I.base.tups,I.base.frzs,I.base.tbls⟩,⟨m,hn.sameBut hs (acD (cne x c hc)),fun j y v' e1 e2 e3=>?_⟩,fun y c' e=>?_,I.free,I.freeC,fun p hp=>?_,tracked ⟨oc,hoc,I.freeC x c hc⟩ hs,by simpa using I.len⟩ ⟨c,hs,.inr hc⟩
   · exact (hs.2 b (aaC (aaA (aav e) (I.ok.cab x c hfn hc)))).trans (I.base.keep b o e n hb hx)
   · obtain ⟨sl,e1⟩:=I.base.slot b o e n hb hx;exact ⟨sl,(hs.2 b (aaC (aaA (aav e) (I.ok.cab x c hfn hc)))).trans e1⟩
   · obtain ⟨o',e1⟩:=I.base.there b o e hx;exact ⟨o',(hs.2 b (aaC (aaA (aav e) (I.ok.cab x c hfn hc)))).trans e1⟩
   · by_cases hj:j=i
     · subst hj;rw [hi] at e1;cases e1;rw [aaX hiσ] at e2;cases e2;exact ⟨u,r,.inr ⟨.inl hk,c,hc,hc'⟩⟩
     · rw [abj (acD hj)] at e2;obtain ⟨u',r',q⟩:=hl j y v' e1 e2 e3;refine ⟨u',r',?_⟩;rcases q with q| ⟨k,c',e,z'⟩
       · exact .inl q
       · refine .inr ⟨k,c',e,z'.sameBut hs ?_⟩;rintro rfl;exact hj (Z4 hN e1 (I.ok.inj _ _ _ e hc▸hi))
   · by_cases hcc:c'=c
     · subst hcc;exact ⟨_,hc'⟩
     · obtain ⟨w2,z2⟩:=I.cell y c' e;exact ⟨w2,z2.sameBut hs hcc⟩
   · obtain ⟨e,n,ne,nf,d⟩:=I.pin p hp;refine ⟨(hs.2 p.1 ?_).trans e,n,ne,nf,d⟩;intro q;rw [q,hoc] at e;have q':oc=p.2:=aaK e;exact d w' (by rw [←q'];exact hocd)
def Qa {M:Model} {A:aa3} {E:X6} {i:Nat} {x:Str} {v:V} {u:Value} {Q:Unit->aaf->Prop} (I:Inv X pins σ H s) (hN:X.N.Nodup) (hi:X.N[i]?=some x) (hx:Loc X.env.scope x) (r:RelV v u)
  (h: ∀s',Inv X pins (σ.set i (some v)) H s'->Q () s') (hf:Vu X x:=by first|exact .inl rfl|exact .inr rfl|assumption):wpAny M A (storeName X.env x u) Q E s:=
 UK I hN hi hx r (fun s' I' _=>h s' I') hf
def Inv.call' {s':aaf} {ch:List Addr} (I:Inv X pins σ H s) (ho:s'.os=s.os) (u:Un (frs X.stack) ch H H' s.heap s'.heap) (hok:HOk X.prog X.w H' s'.heap) (hg:aeW s'.gens)
  (hch: ∀b∈ch,(b∈X.ex\/X.s₀.heap.objs.size<=b)/\b≠X.env.locals/\(∀x c,X.env.cells.lookup x=some c->c≠b)/\ ∀p∈X.pn++pins,p.1≠b):Inv X pins σ H' s':=by
 obtain ⟨h',g',d',t',o'⟩:=s';have e:o'=s.os:=ho;subst e;exact I.call (g':=g') (t':=t') (d':=d') u hok hg hch
end
abbrev XK:=Value->Option Addr->Hp->Prop
abbrev St:=List (Option V)
abbrev VK:=V->Hp->Prop
abbrev TE:=St->Hp->VK->Prop
abbrev TT:=St->Hp->(Bool->Hp->Prop)->Prop
abbrev TA:=St->Hp->(List V->Hp->Prop)->Prop
structure Ends where
 nx:St->Hp->Prop
 rt:VK
 bk:St->Hp->Prop:=fun _ _=>False
 ct:St->Hp->Prop:=fun _ _=>False
abbrev TS:=Ends->St->Hp->Prop
def EP (X:Cx) (pins:List (Addr×Obj)) (σ:St) (Q:VK) (u:Value) (s':aaf):Prop:= ∃v H',Inv X pins σ H' s'/\RelV v u/\Q v H'
def TP (X:Cx) (pins:List (Addr×Obj)) (σ:St) (Q:Bool->Hp->Prop) (b:Bool) (s':aaf):Prop:= ∃H',Inv X pins σ H' s'/\Q b H'
def AP (X:Cx) (pins:List (Addr×Obj)) (σ:St) (Q:List V->Hp->Prop) (us:List Value) (s':aaf):Prop:= ∃vs H',Inv X pins σ H' s'/\Vals vs us/\Q vs H'
def SP (X:Cx) (pins:List (Addr×Obj)) (D:Ends) (f:Flow) (s':aaf):Prop:=
 match f with
 | .next=> ∃σ' H',Inv X pins σ' H' s'/\D.nx σ' H'
 | .brk=> ∃σ' H',Inv X pins σ' H' s'/\D.bk σ' H'
 | .cont=> ∃σ' H',Inv X pins σ' H' s'/\D.ct σ' H'
 | .ret u=> ∃v σ' H',Inv X pins σ' H' s'/\RelV v u/\D.rt v H'
def PE (X:Cx) (e:Expr) (t:TE):Prop:=
 ∀(pins:List (Addr×Obj)) (s:aaf) (σ:St) (H:Hp) (Q:VK),Inv X pins σ H s->t σ H Q->wpAny (model X.prog X.w) X.A (eval e X.env) (EP X pins σ Q) X.xe s
def PT (X:Cx) (e:Expr) (t:TT):Prop:=
 ∀(pins:List (Addr×Obj)) (s:aaf) (σ:St) (H:Hp) (Q:Bool->Hp->Prop),Inv X pins σ H s->t σ H Q->wpAny (model X.prog X.w) X.A (isTrue e X.env (eval e X.env)) (TP X pins σ Q) X.xe s
def PW (X:Cx) (e:Expr) (t:TT):Prop:=
 ∀(whole:Sem Value) (pins:List (Addr×Obj)) (s:aaf) (σ:St) (H:Hp) (Q:Bool->Hp->Prop),Inv X pins σ H s->t σ H Q->wpAny (model X.prog X.w) X.A (isTrue e X.env whole) (TP X pins σ Q) X.xe s
def PW.pt {X:Cx} {e:Expr} {t:TT} (h:PW X e t):PT X e t:=h _
def PA (X:Cx) (es:List Expr) (t:TA):Prop:=
 ∀(pos:Pos) (pins:List (Addr×Obj)) (s:aaf) (σ:St) (H:Hp) (Q:List V->Hp->Prop),Inv X pins σ H s->t σ H Q->wpAny (model X.prog X.w) X.A (spliced (abQ pos (aan es X.env))) (AP X pins σ Q) X.xe s
def PS (X:Cx) (st:Stmt) (t:TS):Prop:=
 ∀(pins:List (Addr×Obj)) (s:aaf) (σ:St) (H:Hp) (D:Ends),Inv X pins σ H s->t D σ H->wpAny (model X.prog X.w) X.A (exec st X.env) (SP X pins D) X.xe s
def PSs (X:Cx) (st:List Stmt) (t:TS):Prop:=
 ∀(pins:List (Addr×Obj)) (s:aaf) (σ:St) (H:Hp) (D:Ends),Inv X pins σ H s->t D σ H->wpAny (model X.prog X.w) X.A (execs st X.env) (SP X pins D) X.xe s
def thn {α:Type} {t:Sem α} {Q Q':α->aaf->Prop} {M:Model} {A:aa3} {E:X6} {s:aaf} (h:wpAny M A t Q E s) (hQ: ∀a s,Q a s->Q' a s):wpAny M A t Q' E s:=ab8 h hQ fun _ _ x=>x
section
variable {X:Cx}
def tVar (i:Nat):TE:=fun σ H Q=> ∃v,σ[i]?=some (some v)/\Q v H
def tC (v:V):TE:=fun _ H Q=>Q v H
def wW {i:Nat} {x:Str} {pos:Pos} (hN:X.N[i]?=some x) (hv:Vis X.env.scope x) (hd:ZI x:=by decide) (hcd:Y9 x:=by decide):PE X (.Name x pos) (tVar i):=by
 intro pins s σ H Q I h;obtain ⟨v,e,h⟩:=h;obtain ⟨m,hn,hl⟩:=I.loc;obtain ⟨u,r,l⟩:=hl i x v hN e hv;have fin:EP X pins σ Q u s:=⟨v,H,I,r,h⟩
 rcases l with ⟨hk,hm⟩| ⟨hk,c,hc,hcell⟩
 · exact wpAny_Name (wpAny_loadName_local I.ok.kind hk hn hm fin) hd
 · rcases hk with hk|hk
   · exact wpAny_Name (wpAny_loadName_cell I.ok.kind hk hc hcell fin) hd
   · exact wpAny_Name (wpAny_loadName_free I.ok.kind hk hc hcell fin hcd) hd
def jbG {i j pos}:PE X (.Constant (.int i) j pos) (tC (.int i)):=fun _ _ _ H _ I h=>wpAny_Constant_int ⟨.int i,H,I.tok _,⟨_,rfl⟩,h⟩
def jfS {b j pos}:PE X (.Constant (.bool b) j pos) (tC (.bl b)):=fun _ _ _ H _ I h=>Constant_bool ⟨.bl b,H,I,rfl,h⟩
def jey {j pos}:PE X (.Constant .none j pos) (tC .non):=fun _ _ _ H _ I h=>Constant_none ⟨.non,H,I,rfl,h⟩
def jev {x j pos}:PE X (.Constant (.str x) j pos) (tC (.str x)):=fun _ _ _ H _ I h=>Calls.Constant_str ⟨.str x,H,I.tok _,⟨_,rfl⟩,h⟩
def Gl (X:Cx) (x:Str):Prop:=X.env.kindOf x=some .globalImplicit
def QI {E:X6} {pins:List (Addr×Obj)} {s:aaf} {σ:St} {H:Hp} {x:Str} {u:Value} {pos:Pos} {Q:X6} (I:Inv X pins σ H s) (hg:Gl X x) (hm:X.mg x=some u) (h:Q u s)
  (hd:ZI x:=by decide):wpAny (model X.prog X.w) X.A (eval (.Name x pos) X.env) Q E s:=
 Calls.Name_function_global I.ok.kind hg (Calls.loadGlobal_global (by rw [I.ok.glob];exact I.mod.glob.keeps I.bk) hm h) hd
def Xk {E:X6} {pins:List (Addr×Obj)} {s:aaf} {σ:St} {H:Hp} {x:Str} {u:Value} {pos:Pos} {Q:X6} (I:Inv X pins σ H s) (hg:Gl X x) (hm:X.mg x=none) (hv:abz x=some u) (h:Q u s)
  (hn:x≠ "__name__" :=by decide) (hd:ZI x:=by decide):wpAny (model X.prog X.w) X.A (eval (.Name x pos) X.env) Q E s:=by
 obtain ⟨mb,h1,h2⟩:=I.mod.blt;exact Calls.Name_function_global I.ok.kind hg (Calls.loadGlobal_builtin (by rw [I.ok.glob];exact I.mod.glob.keeps I.bk) hm (by rw [I.ok.blt];exact h1.keeps I.bk) ((h2 x hn).trans hv) h) hd
def Yf {x:Str} {v:V} {u:Value} {pos:Pos} (hg:Gl X x) (hm:X.mg x=some u) (r:RelV v u) (hd:ZI x:=by decide):PE X (.Name x pos) (tC v):=
 fun _ _ _ H _ I h=>QI I hg hm ⟨v,H,I,r,h⟩ hd
def Yh {x:Str} {v:V} {u:Value} {pos:Pos} (hg:Gl X x) (hm:X.mg x=none) (hv:abz x=some u) (r:RelV v u) (hn:x≠ "__name__" :=by decide) (hd:ZI x:=by decide):PE X (.Name x pos) (tC v):=
 fun _ _ _ H _ I h=>Xk I hg hm hv ⟨v,H,I,r,h⟩ hn hd
variable {a b:Expr} {ta tb:TE} {pos:Pos}
def tB (t:TE):TT:=fun σ H Q=>t σ H fun x H1=> ∃c,x= .bl c/\Q c H1
def jel {e:Expr} {t:TE} (h:PE X e t) (he: ∀whole,isTrue e X.env whole=(do let v←whole;standAt e.pos;ad4 [v] (truthy v)):=by intro _;rfl):PT X e (tB t):=by
 intro pins s σ H Q I hw;refine isTrue_plain (thn (h pins s σ H _ I hw) fun v s1 ⟨x,H1,I1,r1,q1⟩=>?_) (he _);obtain ⟨d,rfl,q⟩:=q1;cases r1;exact abF ⟨H1,I1,q⟩
variable {tA tB':TT} {rest:List Expr}
def tAnd (t u:TT):TT:=fun σ H Q=>t σ H fun c H1=>if c=true then u σ H1 Q else Q false H1
def tOr (t u:TT):TT:=fun σ H Q=>t σ H fun c H1=>if c=true then Q true H1 else u σ H1 Q
def tNot (t:TT):TT:=fun σ H Q=>t σ H fun c H1=>Q (!c) H1
def jcm (ha:PT X a tA):PW X (.BoolOp .And [a] pos) tA:=by
 intro wh pins s σ H Q I h;refine isTrue_and (thn (ha pins s σ H Q I h) fun c s1 e=>?_)
 cases c with
 |true=>exact isTrue_and_nil e
 |false=>exact e
def jeh (ha:PT X a tA):PW X (.BoolOp .Or [a] pos) tA:=by
 intro wh pins s σ H Q I h;refine isTrue_or (thn (ha pins s σ H Q I h) fun c s1 e=>?_)
 cases c with
 |false=>exact isTrue_or_nil e
 |true=>exact e
def jei (ha:PT X a tA) (hb:PW X (.BoolOp .And (b::rest) pos) tB'):PW X (.BoolOp .And (a::b::rest) pos) (tAnd tA tB'):=by
 intro wh pins s σ H Q I h;refine isTrue_and (thn (ha pins s σ H _ I h) fun c s1 ⟨H1,I1,q1⟩=>?_)
 cases c with
 |true=>exact hb wh pins s1 σ H1 Q I1 q1
 |false=>exact ⟨H1,I1,q1⟩
def jfP (ha:PT X a tA) (hb:PW X (.BoolOp .Or (b::rest) pos) tB'):PW X (.BoolOp .Or (a::b::rest) pos) (tOr tA tB'):=by
 intro wh pins s σ H Q I h;refine isTrue_or (thn (ha pins s σ H _ I h) fun c s1 ⟨H1,I1,q1⟩=>?_)
 cases c with
 |true=>exact ⟨H1,I1,q1⟩
 |false=>exact hb wh pins s1 σ H1 Q I1 q1
def jem (ha:PT X a tA):PT X (.UnaryOp .Not a pos) (tNot tA):=by
 intro pins s σ H Q I h;exact isTrue_not (ha pins s σ H (fun c H1=>Q (!c) H1) I h)
def jfJ (ta tb:TE):TE:=fun σ H Q=>ta σ H fun x H1=> ∃c,x= .bl c/\if c=true then tb σ H1 Q else Q (.bl false) H1
def jfC (ta:TE):TE:=fun σ H Q=>ta σ H fun x H1=> ∃c,x= .bl c/\Q (.bl (!c)) H1
def jew {op} {t:TE} (h:PE X a t):PE X (.BoolOp op [a] pos) t:=fun pins s σ H Q I hw=>BoolOp_one (h pins s σ H Q I hw)
def jeB (ha:PE X a ta) (hb:PE X (.BoolOp .And (b::rest) pos) tb):PE X (.BoolOp .And (a::b::rest) pos) (jfJ ta tb):=by
 intro pins s σ H Q I h;refine BoolOp_and (thn (ha pins s σ H _ I h) fun v s1 ⟨x,H1,I1,r1,q1⟩=>?_);obtain ⟨c,rfl,q1⟩:=q1;cases r1;refine abF ?_
 cases c with
 |true=>exact hb pins s1 σ H1 Q I1 q1
 |false=>exact ⟨.bl false,H1,I1,rfl,q1⟩
def jex (ha:PE X a ta):PE X (.UnaryOp .Not a pos) (jfC ta):=by
 intro pins s σ H Q I h;refine UnaryOp_ (thn (ha pins s σ H _ I h) fun v s1 ⟨x,H1,I1,r1,q1⟩=>?_);obtain ⟨c,rfl,q1⟩:=q1;cases r1;exact not_of (abF ⟨.bl (!c),H1,I1,rfl,q1⟩)
def tIf (t:TT) (ta tb:TE):TE:=fun σ H Q=>t σ H fun c H1=>if c=true then ta σ H1 Q else tb σ H1 Q
def jal {c:Expr} (hc:PT X c tA) (ha:PE X a ta) (hb:PE X b tb):PE X (.IfExp c a b pos) (tIf tA ta tb):=by
 intro pins s σ H Q I h;refine wpAny_IfExp (thn (hc pins s σ H _ I h) fun d s1 ⟨H1,I1,q1⟩=>?_)
 cases d with
 |true=>exact ha pins s1 σ H1 Q I1 q1
 |false=>exact hb pins s1 σ H1 Q I1 q1
end
def SqL (K:aab) (H:Hp) (a:Addr) (xs:List V):Prop:=
 Rd H a (.lst xs)\/
  ∃(o:Obj) (its:Array Value) (n:Nat),K.lookup a=some o/\o.cls= .type "list" /\o.dict=none/\o.data= .seq its n/\its.size<=aah/\Vals xs its.toList
def SqT (K:aab) (H:Hp) (a:Addr) (xs:List V):Prop:=
 Rd H a (.tup xs)\/
  ∃(o:Obj) (its:Array Value) (n:Nat),K.lookup a=some o/\o.cls= .type "tuple" /\o.data= .seq its n/\its.size<=aah/\Vals xs its.toList
def absV:Value->Option V
 | .none=>some .non
 | .bool b=>some (.bl b)
 | .int i _=>some (.int i)
 | .str x _=>some (.str x)
 | .bytes b _=>some (.byt b)
 | .float b _=>some (.flt b)
 | .ref a=>some (.ref a)
 | .type n=>some (.ty n)
 |_=>none
def RelV.abs {x:V} {u:Value} (r:RelV x u):absV u=some x:=by
 cases x with
 |non=>cases r;rfl
 |bl _=>cases r;rfl
 |int _=>obtain ⟨t,rfl⟩:=r;rfl
 |str _=>obtain ⟨t,rfl⟩:=r;rfl
 |byt _=>obtain ⟨t,rfl⟩:=r;rfl
 |flt _=>obtain ⟨t,rfl⟩:=r;rfl
 |ref _=>cases r;rfl
 |ty _=>cases r;rfl
def RelV.inj {x y:V} {u:Value} (r:RelV x u) (q:RelV y u):x=y:=aaK (r.abs.symm.trans q.abs)
theorem Vals.inj: ∀ {xs ys:List V} {us:List Value},Vals xs us->Vals ys us->xs=ys
 |_,_,_,.nil,.nil=>rfl
 |_,_,_,.cons r t,.cons r' t'=>by rw [r.inj r',Vals.inj t t']
section
variable {X:Cx} {pins:List (Addr×Obj)} {σ:St} {H:Hp} {s:aaf} {a:Addr} {xs ys:List V}
def SqL.of {K:aab} (h:H a=some (.lst xs)):SqL K H a xs:= .inl (.inl h)
def SqT.of {K:aab} (h:H a=some (.tup xs)):SqT K H a xs:= .inl (.inl h)
def Inv.list (I:Inv X pins σ H s) (h:SqL X.K H a xs): ∃its:List Value,Vals xs its/\PlainL s.heap a its.toArray/\xs.length<=aah:=by
 rcases h with h| ⟨o,its,n,hk,hc,hd,hs,hz,r⟩
 · obtain ⟨z,its,n,r,e⟩:=h.ok I.hok;exact ⟨its,r,⟨_,n,e,rfl,rfl,rfl⟩,z⟩
 · refine ⟨its.toList,r,⟨o,n,I.kIn a o hk,hc,hd,by simpa using hs⟩,?_⟩;have e:=r.length;simp only [aas] at e;omega
def Inv.tuple (I:Inv X pins σ H s) (h:SqT X.K H a xs): ∃its:List Value,Vals xs its/\IsTup s.heap a its.toArray/\xs.length<=aah:=by
 rcases h with h| ⟨o,its,n,hk,hc,hs,hz,r⟩
 · obtain ⟨z,its,r,p⟩:=h.ok I.hok;exact ⟨its,r,p,z⟩
 · refine ⟨its.toList,r,⟨o,I.kIn a o hk,hc,n,by simpa using hs⟩,?_⟩;have e:=r.length;simp only [aas] at e;omega
def Inv.list_inj (I:Inv X pins σ H s) (h:SqL X.K H a xs) (h':SqL X.K H a ys):xs=ys:=by
 obtain ⟨its,r,⟨o,n,e,_,_,d⟩,_⟩:=I.list h;obtain ⟨its',r',⟨o',n',e',_,_,d'⟩,_⟩:=I.list h';rw [e] at e';cases e';rw [d] at d';injection d' with d1 _;have:its=its':=by simpa using congrArg Array.toList d1
 subst this;exact r.inj r'
def Inv.tuple_inj (I:Inv X pins σ H s) (h:SqT X.K H a xs) (h':SqT X.K H a ys):xs=ys:=by
 obtain ⟨its,r,⟨o,e,_,n,d⟩,_⟩:=I.tuple h;obtain ⟨its',r',⟨o',e',_,n',d'⟩,_⟩:=I.tuple h';rw [e] at e';cases e';rw [d] at d';injection d' with d1 _;have:its=its':=by simpa using congrArg Array.toList d1
 subst this;exact r.inj r'
end
abbrev Cx.wish (X:Cx) (E:X6):Cx:={X with xe:=E}
abbrev Cx.nox (X:Cx):Cx:=X.wish fun _ _=>False
def Cx.Ok.wish {X:Cx} (ok:X.Ok) (E:X6):(X.wish E).Ok:=
 ⟨ok.mod,ok.kind,ok.glob,ok.blt,ok.above,ok.inj,ok.has,ok.cab,ok.hd,ok.frames,ok.stk,ok.exf,ok.bs,ok.bsz,ok.noex,ok.exfs,ok.funs,ok.frf⟩
def Cx.Ok.unwish {X:Cx} {E:X6} (ok:(X.wish E).Ok):X.Ok:=
 ⟨ok.mod,ok.kind,ok.glob,ok.blt,ok.above,ok.inj,ok.has,ok.cab,ok.hd,ok.frames,ok.stk,ok.exf,ok.bs,ok.bsz,ok.noex,ok.exfs,ok.funs,ok.frf⟩
section
variable {X:Cx} {pins:List (Addr×Obj)} {σ:St} {H:Hp} {s:aaf} {E:X6}
def Inv.wish (I:Inv X pins σ H s) (E:X6):Inv (X.wish E) pins σ H s:=⟨I.ok.wish E,I.os,I.bare,I.base,I.loc,I.cell,I.free,I.freeC,I.pin,I.hok,I.len⟩
def Inv.unwish (I:Inv (X.wish E) pins σ H s):Inv X pins σ H s:=⟨I.ok.unwish,I.os,I.bare,I.base,I.loc,I.cell,I.free,I.freeC,I.pin,I.hok,I.len⟩
def SP.unwish {D:Ends} {f:Flow} {s':aaf} (h:SP (X.wish E) pins D f s'):SP X pins D f s':=by
 cases f with
 |next=>obtain ⟨σ',H',I,q⟩:=h;exact ⟨σ',H',I.unwish,q⟩
 |brk=>obtain ⟨σ',H',I,q⟩:=h;exact ⟨σ',H',I.unwish,q⟩
 |cont=>obtain ⟨σ',H',I,q⟩:=h;exact ⟨σ',H',I.unwish,q⟩
 |ret u=>obtain ⟨v,σ',H',I,r,q⟩:=h;exact ⟨v,σ',H',I.unwish,r,q⟩
def PSs.nox {st:List Stmt} {t:TS} (h:PSs X.nox st t):PSs X st t:=fun pins s σ H D I hw=>
 ab8 (h pins s σ H D (I.wish _) hw) (fun _ _ q=>q.unwish) fun _ _ z=>acb z
end
section
variable {X:Cx} {st:Stmt} {rest:List Stmt} {t u:TS} {e:Expr} {te:TE} {pos:Pos}
def jfD:TS:=fun D σ H=>D.nx σ H
def tSeq (t u:TS):TS:=fun D σ H=>t {D with nx:=u D} σ H
def kn:PSs X [] jfD:=fun _ _ σ H _ I h=>adt ⟨σ,H,I,h⟩
def ZQ (h1:PS X st t) (h2:PSs X rest u):PSs X (st::rest) (tSeq t u):=by
 intro pins s σ H D I h;refine wpAny_execs_cons (thn (h1 pins s σ H {D with nx:=u D} I h) fun f s1 q=>?_)
 cases f with
 |next=>
  obtain ⟨σ',H',I',q⟩:=q;exact h2 pins s1 σ' H' D I' q
 |ret v=>exact q
 |brk=>exact q
 |cont=>exact q
def ZP (h1:PS X st t):PSs X [st] t:=by
 intro pins s σ H D I h;refine wpAny_execs_cons (thn (h1 pins s σ H D I h) fun f s1 q=>?_)
 cases f with
 |next=>exact adt q
 |ret v=>exact q
 |brk=>exact q
 |cont=>exact q
def Inv.quiet {pins:List (Addr×Obj)} {σ:St} {H:Hp} {s:aaf} (I:Inv X pins σ H s):interactive X.env=false:=by simp [interactive,I.ok.kind]
def jfF (te:TE):TS:=fun D σ H=>te σ H fun _ H1=>D.nx σ H1
def JF (he:PE X e te) (hs:acp e none pos.line X.env=pure false:=by rfl):PS X (.Expr e pos) (jfF te):=by
 intro pins s σ H D I h;exact wpAny_Expr_any (thn (he pins s σ H _ I h) fun v s1 ⟨x,H1,I1,r1,q1⟩=>⟨σ,H1,I1,q1⟩) I.quiet hs
def tRet (te:TE):TS:=fun D σ H=>te σ H D.rt
def ko (he:PE X e te):PS X (.Return (some e) pos) (tRet te):=by
 intro pins s σ H D I h;exact wpAny_Return_some (thn (he pins s σ H _ I h) fun v s1 ⟨x,H1,I1,r1,q1⟩=>⟨x,σ,H1,I1,r1,q1⟩)
def tIfS (c:TT) (t u:TS):TS:=fun D σ H=>c σ H fun b H1=>if b=true then t D σ H1 else u D σ H1
def jen {c:Expr} {a b:List Stmt} {tc:TT} (hc:PT X c tc) (ha:PSs X a t) (hb:PSs X b u):PS X (.If c a b pos) (tIfS tc t u):=by
 intro pins s σ H D I h;refine wpAny_If (thn (hc pins s σ H _ I h) fun d s1 ⟨H1,I1,q1⟩=>?_)
 cases d with
 |true=>exact ha pins s1 σ H1 D I1 q1
 |false=>exact hb pins s1 σ H1 D I1 q1
end
abbrev TG:=V->St->Hp->(St->Hp->Prop)->Prop
abbrev TGs:=List V->St->Hp->(St->Hp->Prop)->Prop
def PG (X:Cx) (target:Expr) (t:TG):Prop:=
 ∀(pins:List (Addr×Obj)) (s:aaf) (σ:St) (H:Hp) (v:V) (u:Value) (Q:St->Hp->Prop),Inv X pins σ H s->RelV v u->t v σ H Q->
  wpAny (model X.prog X.w) X.A (assign target X.env u) (fun _ s'=> ∃σ' H',Inv X pins σ' H' s'/\Q σ' H') X.xe s
def PGs (X:Cx) (ts:List Expr) (t:TGs):Prop:=
 ∀(pins:List (Addr×Obj)) (s:aaf) (σ:St) (H:Hp) (vs:List V) (us:List Value) (Q:St->Hp->Prop),Inv X pins σ H s->Vals vs us->t vs σ H Q->
  wpAny (model X.prog X.w) X.A (assignInOrder ((acd ts X.env).map (·.2)) us) (fun _ s'=> ∃σ' H',Inv X pins σ' H' s'/\Q σ' H') X.xe s
abbrev TSet:=V->V->V->Hp->(Hp->Prop)->Prop
def PSet (X:Cx) (t:TSet):Prop:=
 ∀(pins:List (Addr×Obj)) (s:aaf) (σ:St) (H:Hp) (o i v:V) (ov iv u:Value) (Q:Hp->Prop),Inv X pins σ H s->RelV o ov->RelV i iv->RelV v u->t o i v H Q->
  wpAny (model X.prog X.w) X.A (setItem ov iv u) (fun _ s'=> ∃H',Inv X pins σ H' s'/\Q H') X.xe s
abbrev TIp:=V->V->Hp->VK->Prop
def PIp (X:Cx) (op:aex) (t:TIp):Prop:=
 ∀(pins:List (Addr×Obj)) (s:aaf) (σ:St) (H:Hp) (x y:V) (v u:Value) (Q:VK),Inv X pins σ H s->RelV x v->RelV y u->t x y H Q->
  wpAny (model X.prog X.w) X.A (inplaceOp op v u) (EP X pins σ Q) X.xe s
section
variable {X:Cx} {pos:Pos}
def je8 (i:Nat):TG:=fun v σ H Q=>Q (σ.set i (some v)) H
def jcu {i:Nat} {x:Str} (hN:X.N.Nodup) (hi:X.N[i]?=some x) (hx:Loc X.env.scope x) (hf:Vu X x:=by first|exact .inl rfl|exact .inr rfl|assumption):PG X (.Name x pos) (je8 i):=by
 intro pins s σ H v u Q I r h;exact wpAny_assign_Name (Qa I hN hi hx r (fun s' I'=>⟨_,H,I',h⟩) hf)
def gNil:TGs:=fun vs σ H Q=>vs=[]/\Q σ H
def jf7 (t:TG) (u:TGs):TGs:=fun vs σ H Q=> ∃v r,vs=v::r/\t v σ H fun σ' H'=>u r σ' H' Q
def jct:PGs X [] gNil:=by
 intro pins s σ H vs us Q I r h;obtain ⟨e,h⟩:=h;subst e;cases r;exact assignInOrder_nil ⟨σ,H,I,h⟩
def Kj {e:Expr} {es:List Expr} {t:TG} {u:TGs} (h1:PG X e t) (h2:PGs X es u)
  (hs:(acd (e::es) X.env).map (·.2)=assign e X.env::(acd es X.env).map (·.2):=by rfl):PGs X (e::es) (jf7 t u):=by
 intro pins s σ H vs us Q I r h;obtain ⟨v,vr,e1,h⟩:=h;subst e1
 cases r with
 |cons r rr=>
  rw [hs];refine assignInOrder_cons (thn (h1 pins s σ H _ _ _ I r h) fun _ s1 ⟨σ1,H1,I1,q1⟩=>?_);exact h2 pins s1 σ1 H1 _ _ Q I1 rr q1
def gTup (K:aab) (n:Nat) (t:TGs):TG:=fun v σ H Q=> ∃a xs,v= .ref a/\SqT K H a xs/\xs.length=n/\t xs σ H Q
def jes {es:List Expr} {k:Nat} {t:TGs} {n:Nat} (hc:X.calm=true) (h:PGs X es t)
  (hn:(acd es X.env).length=n:=by rfl) (hst:(acd es X.env).findIdx? (·.1)=none:=by rfl):PG X (.Tuple es k pos) (gTup X.K n t):=by
 intro pins s σ H v u Q I r hw;obtain ⟨a,xs,e1,hq,hl,hw⟩:=hw;subst e1;cases r;obtain ⟨its,rv,ht,hz⟩:=I.tuple hq;refine assign_Tuple_tuple (I.ok.hd hc) ht (by simp [hn,←hl,rv.length]) hst fun h' hx=>?_
 have I1:Inv X pins σ H {s with heap:=h'}:=I.kept (t':=s.toks) fun b o e=>hx b o (aaC (aav e)) e
 exact h pins _ σ H xs _ Q I1 (by simpa using rv) hw
def gSub (to ti:TE) (t:TSet):TG:=fun v σ H Q=>to σ H fun o H1=>ti σ H1 fun i H2=>t o i v H2 fun H3=>Q σ H3
def jet {o i:Expr} {to ti:TE} {t:TSet} (ho:PE X o to) (hi:PE X i ti) (hs:PSet X t)
  (ha: ∀v,assign (.Subscript o i pos) X.env v=(do
   let ov←ad4 [v] (eval o X.env)
   let iv←ad4 [v,ov] (eval i X.env)
   standAt pos
   ad4 [v,ov,iv] (setItem ov iv v)
   release [v,ov,iv] []):=by intro _;rfl):PG X (.Subscript o i pos) (gSub to ti t):=by
 intro pins s σ H v u Q I r h;rw [ha];refine aaa (aa4 (thn (ho pins s σ H _ I h) fun ov s1 ⟨x,H1,I1,r1,q1⟩=>?_));refine aaa (aa4 (thn (hi pins s1 σ H1 _ I1 q1) fun iv s2 ⟨y,H2,I2,r2,q2⟩=>?_));refine aaa (wpAny_standAt (aaa (aa4 (thn (hs pins s2 σ H2 x y v ov iv u _ I2 r1 r2 r q2) fun _ s3 ⟨H3,I3,q3⟩=>?_))));exact wpAny_release ⟨σ,H3,I3,q3⟩
def tAsg (te:TE) (g:TG):TS:=fun D σ H=>te σ H fun x H1=>g x σ H1 D.nx
def jbF {tg e:Expr} {te:TE} {g:TG} (he:PE X e te) (hg:PG X tg g) (hs:swapsWithSole [tg] e pos.line X.env=pure false:=by rfl) (hw:swappedStores [tg] e X.env=pure none:=by rfl)
  (h1:(acd [tg] X.env).map (·.2)=[assign tg X.env]:=by rfl):PS X (.Assign [tg] e pos) (tAsg te g):=by
 intro pins s σ H D I h;refine wpAny_Assign_stores (thn (he pins s σ H _ I h) fun v s1 ⟨x,H1,I1,r1,q1⟩=>?_) hs hw;rw [h1];exact thn (hg pins s1 σ H1 x v _ I1 r1 q1) fun _ s2 q=>q
def jbE {i:Nat} {x:Str} {e:Expr} {te:TE} {pos':Pos} (hN:X.N.Nodup) (hi:X.N[i]?=some x) (hx:Loc X.env.scope x) (he:PE X e te) (hs:acp e (some (.Name x pos')) pos.line X.env=pure false:=by rfl) (hf:Vu X x:=by first|exact .inl rfl|exact .inr rfl|assumption):
  PS X (.Assign [.Name x pos'] e pos) (tAsg te (je8 i)):=by
 intro pins s σ H D I h;refine wpAny_Assign_Name (thn (he pins s σ H _ I h) fun v s1 ⟨y,H1,I1,r1,q1⟩=>?_) hs;exact Qa I1 hN hi hx r1 (fun s2 I2=>⟨_,H1,I2,q1⟩) hf
def tAug (i:Nat) (te:TE) (ti:TIp):TS:=fun D σ H=> ∃x,σ[i]?=some (some x)/\te σ H fun y H1=>ti x y H1 fun z H2=>D.nx (σ.set i (some z)) H2
def jeq {i:Nat} {x:Str} {e:Expr} {te:TE} {op:aex} {ti:TIp} {pos':Pos} (hN:X.N.Nodup) (hi:X.N[i]?=some x) (hx:Loc X.env.scope x) (he:PE X e te) (ho:PIp X op ti) (hf:Vu X x:=by first|exact .inl rfl|exact .inr rfl|assumption):
   PS X (.AugAssign (.Name x pos') op e pos) (tAug i te ti):=by
 intro pins s σ H D I h;obtain ⟨v,e1,h⟩:=h;obtain ⟨m,hn,hl⟩:=I.loc;have vis:Vis X.env.scope x:=by rcases hx with k|k;exact .inl k;exact .inr (.inl k)
 obtain ⟨u,r,l⟩:=hl i x v hi e1 vis;refine wpAny_AugAssign_Name ?_
 have go:wpAny (model X.prog X.w) X.A (eval e X.env) (fun w s₂=>wpAny (model X.prog X.w) X.A (inplaceOp op u w) (fun r s₃=>wpAny (model X.prog X.w) X.A (storeName X.env x r) (fun _=>SP X pins D .next) X.xe s₃) X.xe s₂) X.xe s:=by
   refine thn (he pins s σ H _ I h) fun w s1 ⟨y,H1,I1,r1,q1⟩=>?_
   refine thn (ho pins s1 σ H1 v y u w _ I1 r r1 q1) fun z s2 ⟨zv,H2,I2,r2,q2⟩=>?_
   exact Qa I2 hN hi hx r2 (fun s3 I3=>⟨_,H2,I3,q2⟩) hf
 rcases l with ⟨hk,hm⟩| ⟨hk,c,hc,hcell⟩
 · exact wpAny_loadName_local I.ok.kind hk hn hm go
 · rcases hk with hk|hk
   · exact wpAny_loadName_cell I.ok.kind hk hc hcell go
   · rcases hx with k|k
     · have:X.env.scope.names.lookup x=some .free:=hk;rw [k] at this;cases this
     · have:X.env.scope.names.lookup x=some .free:=hk;rw [k] at this;cases this
def ipI (f:Int->Int->Int):TIp:=fun x y H Q=> ∃i j,x= .int i/\y= .int j/\Q (.int (f i j)) H
def jbO:PIp X .Add (ipI fun i j=>i+j):=by
 intro pins s σ H x y v u Q I r1 r2 h;obtain ⟨i,j,e1,e2,q⟩:=h;subst e1;subst e2;obtain ⟨t,rfl⟩:=r1;obtain ⟨t',rfl⟩:=r2;exact iadd_int ⟨.int _,H,I.tok _,⟨_,rfl⟩,q⟩
def jd0 (c:TT) (tb:TS):TS:=fun D σ H=> ∃W:Nat->St->Hp->Prop,(∃m,W m σ H)/\ ∀m σ H,W m σ H->
 c σ H fun b H1=>if b=true then∃N:St->Hp->Prop,(∀σ' H',N σ' H'-> ∃m',m'<m/\W m' σ' H')/\tb {D with nx:=N,ct:=N,bk:=D.nx} σ H1 else D.nx σ H1
def jah {c:Expr} {body:List Stmt} {tc:TT} {tb:TS} (hp:PassesOwn (model X.prog X.w) X.A X.env X.xe) (hc:PT X c tc) (hb:PSs X body tb):PS X (.While c body [] pos) (jd0 tc tb):=by
 intro pins s σ H D I h;obtain ⟨W,⟨m0,w0⟩,turn⟩:=h;refine wpAny_While (codeAny_whileLoop (fun n s'=> ∃σ' H',Inv X pins σ' H' s'/\W n σ' H') ?_ m0 ⟨σ,H,I,w0⟩);rintro n s1 ⟨σ1,H1,I1,w1⟩;refine acE hp (thn (hc pins s1 σ1 H1 _ I1 (turn n σ1 H1 w1)) fun b s2 ⟨H2,I2,q2⟩=>?_)
 cases b with
 |true=>
  obtain ⟨N,hN,q2⟩:=q2;rw [if_pos rfl];refine acE hp (thn (hb pins s2 σ1 H2 _ I2 q2) fun f s3 q3=>?_)
  cases f with
  |next=>
   obtain ⟨σ3,H3,I3,n3⟩:=q3;obtain ⟨m',hm,w3⟩:=hN σ3 H3 n3;exact ⟨m',hm,σ3,H3,I3,w3⟩
  |cont=>
   obtain ⟨σ3,H3,I3,n3⟩:=q3;obtain ⟨m',hm,w3⟩:=hN σ3 H3 n3;exact ⟨m',hm,σ3,H3,I3,w3⟩
  |brk=>exact q3
  |ret v=>exact q3
 |false=>
  rw [if_neg aaB];exact adt ⟨σ1,H2,I2,q2⟩
end
structure It where
 go:Nat->Hp->Prop
 yld:Nat->Hp->V->Hp->Prop
 stop:Nat->Hp->Prop
def FpOk (X:Cx) (pins:List (Addr×Obj)) (H:Hp) (b:Addr):Prop:=
 H b=none/\b≠X.env.locals/\b∉X.fs/\(b∈X.ex\/X.s₀.heap.objs.size<=b)/\(∀x c,X.env.cells.lookup x=some c->c≠b)/\ ∀p∈X.pn++pins,p.1≠b
def Inv.fpOk {X:Cx} {pins:List (Addr×Obj)} {σ:St} {H H':Hp} {s:aaf} {b:Addr} (I:Inv X pins σ H s) (hb:s.heap.objs.size<=b) (hn:H' b=none):FpOk X pins H' b:=by
 refine ⟨hn,Nat.ne_of_gt (aaA I.lt hb),I.nofs hb,.inr (aaI I.sz hb),fun x c e z=>?_,fun p hp z=>?_⟩
 · obtain ⟨v,q⟩:=I.cell x c e;exact absurd (aaA q.lt (by rw [z];exact hb)) (abE _)
 · exact absurd (aaA (aav (I.pin p hp).1) (by rw [z];exact hb)) (abE _)
structure Turn (P:aaH) (w:World) (K:aab) (tg:Expr) (J:It) (fp:List Addr) (it:Addr) (tn:Nat->Heap->Prop):Prop where
 mem:it∈fp
 obj: ∀i h,tn i h-> ∀b∈fp,∃o,h.get? b=some o/\ ∀v,o.data≠ .cell v
 keep: ∀i h h',tn i h->(∀b∈fp,∀o,h.get? b=some o->h'.get? b=some o)->tn i h'
 item: ∀(X:Cx),X.prog=P->X.w=w->X.K=K->X.calm=true-> ∀(i:Nat) (pins:List (Addr×Obj)) (s:aaf) (σ:St) (H:Hp) (E:X6),Inv X pins σ H s->(∀b∈fp,FpOk X pins H b)->tn i s.heap->J.go i H->
  wpAny (model P w) X.A (aey (.ref it)) (fun r s1=> ∃u,r=some u/\
   wpAny (model P w) X.A (aeh tg (.ref it) u) (fun _ s2=> ∃x H',Inv X pins σ H' s2/\RelV x u/\J.yld i H x H'/\tn (i+1) s2.heap/\ ∀b∈fp,H' b=none) E s1) E s
 done: ∀(X:Cx),X.prog=P->X.w=w->X.K=K->X.calm=true-> ∀(i:Nat) (pins:List (Addr×Obj)) (s:aaf) (σ:St) (H:Hp) (E:X6),Inv X pins σ H s->(∀b∈fp,FpOk X pins H b)->tn i s.heap->J.stop i H->
  wpAny (model P w) X.A (aey (.ref it)) (fun r s1=>r=none/\Inv X pins σ H s1) E s
 self: ∀(A:aa3) (i:Nat) (s:aaf) (Q:X6) (E:X6),tn i s.heap->Q (.ref it) s->wpAny (model P w) A (pyIter (.ref it)) Q E s
abbrev TI:=St->Hp->(It->Hp->Prop)->Prop
def PIE (X:Cx) (pins:List (Addr×Obj)) (σ:St) (tg:Expr) (R:It->Hp->Prop) (itv:Value) (s2:aaf):Prop:=
 ∃(it:Addr) (fp:List Addr) (tn:Nat->Heap->Prop) (J:It) (H':Hp),itv= .ref it/\Inv X pins σ H' s2/\Turn X.prog X.w X.K tg J fp it tn/\tn 0 s2.heap/\(∀b∈fp,FpOk X pins H' b)/\R J H'
def PI (X:Cx) (tg iter:Expr) (wi:TI):Prop:=
 ∀(pins:List (Addr×Obj)) (s:aaf) (σ:St) (H:Hp) (R:It->Hp->Prop),Inv X pins σ H s->wi σ H R->
  wpAny (model X.prog X.w) X.A (eval iter X.env) (fun v s1=>wpAny (model X.prog X.w) X.A (pyIter v) (PIE X pins σ tg R) X.xe s1) X.xe s
def vK {M : Model} {A : aa3} {E : Value -> aaf -> Prop} {s : aaf} {tg : Expr} {it : Addr} {u : Value} {o : Obj} {n : String} {vs : Array Value} {Q : Unit -> aaf -> Prop} (ho : s.heap.get? it = some o) (hc : o.cls = .type n) (hd : o.data = .fields vs)
    (hn : ["enumerate", "zip", "dict_itemiterator", "dict_reverseitemiterator", "odict_iterator", "itertools.zip_longest", "itertools.pairwise"].contains n = false) (hQ : Q () s) : wpAny M A (aeh tg (.ref it) u) Q E s := by
  unfold aeh
  cases tg <;> first
    | exact aac hQ
    | (cases u <;> first
        | exact aac hQ
        | (refine aaa (wpAny_load ho ?_)
           rw [hc, hd]
           show wpAny M A (if (["enumerate", "zip", "dict_itemiterator", "dict_reverseitemiterator", "odict_iterator", "itertools.zip_longest", "itertools.pairwise"].contains n && vs[0]? == some (ac7 _)) = true then _ else _) Q E s
           rw [if_neg (by intro h; rw [hn, aeE] at h; cases h)]
           exact aac hQ))
def Itl (K:aab) (a:Addr):It:=
 ⟨fun i H=> ∃xs x,SqL K H a xs/\xs[i]?=some x,fun i H x H'=>H'=H/\ ∀xs,SqL K H a xs->xs[i]?=some x,fun i H=> ∃xs,SqL K H a xs/\xs.length<=i⟩
def Itt (K:aab) (a:Addr):It:=
 ⟨fun i H=> ∃xs x,SqT K H a xs/\xs[i]?=some x,fun i H x H'=>H'=H/\ ∀xs,SqT K H a xs->xs[i]?=some x,fun i H=> ∃xs,SqT K H a xs/\xs.length<=i⟩
def Itr (lo:Int) (n:Nat):It:=⟨fun i _=>i<n,fun i H x H'=>H'=H/\x= .int (lo+i),fun i _=>n<=i⟩
def WO {P:aaH} {w:World} {K:aab} {tg:Expr} (a it:Addr):Turn P w K tg (Itl K a) [it] it (fun i h=>h.IsListIter it a i) where
 mem:=by simp
 obj:=fun i h st b hb=>by
  have e:b=it:=by simpa using hb
  subst e;obtain ⟨o,e,c,d⟩:=st;exact ⟨o,e,fun v z=>by rw [d] at z;cases z⟩
 keep:=fun i h h' st k=>st.at fun o e=>k it (by simp) o e
 item:=by
  intro X hP hw hK hc i pins s σ H E I hf st hg;subst hP hw hK;obtain ⟨xs,x,hq,hx⟩:=hg;obtain ⟨its,rv,p,hz⟩:=I.list hq;obtain ⟨u,hu,ru⟩:=rv.get hx;obtain ⟨f0,f1,f2,f3,f4,f5⟩:=hf it (by simp);refine wpAny_pyNext_list_item st p.isList (x:=u) (by simpa using hu) fun h' st' sb=>?_
  have I1:Inv X pins σ H {s with heap:=h'}:=I.turned (t':=s.toks) (fun b o hb e=>(sb.2 b hb).trans e) f0 f1 f3 f4 f5;obtain ⟨o,e,c,d⟩:=id st';exact ⟨u,rfl,vK (s:={s with heap:=h'}) e c d (by decide) ⟨x,H,I1,ru,⟨rfl,fun ys hy=>by rw [I.list_inj hy hq];exact hx⟩,st',fun b hb=>(hf b hb).1⟩⟩
 done:=by
  intro X hP hw hK hc i pins s σ H E I hf st hg;subst hP hw hK;obtain ⟨xs,hq,hx⟩:=hg;obtain ⟨its,rv,p,hz⟩:=I.list hq;obtain ⟨f0,f1,f2,f3,f4,f5⟩:=hf it (by simp);have hl:=rv.length;exact wpAny_pyNext_list_end (I.ok.hd hc) st p.isList (by simp;omega) fun h' eb=>⟨rfl,I.turned (t':=s.toks) (fun b o hb e=>eb b o hb e) f0 f1 f3 f4 f5⟩
 self:=fun _ _ _ _ _ st h=>wpAny_pyIter_listiter st h
def Vk {P:aaH} {w:World} {K:aab} {tg:Expr} (a it:Addr):Turn P w K tg (Itt K a) [it] it (fun i h=>h.IsTupleIter it a i) where
 mem:=by simp
 obj:=fun i h st b hb=>by
  have e:b=it:=by simpa using hb
  subst e;obtain ⟨o,e,c,d⟩:=st;exact ⟨o,e,fun v z=>by rw [d] at z;cases z⟩
 keep:=fun i h h' st k=>st.at fun o e=>k it (by simp) o e
 item:=by
  intro X hP hw hK hc i pins s σ H E I hf st hg;subst hP hw hK;obtain ⟨xs,x,hq,hx⟩:=hg;obtain ⟨its,rv,p,hz⟩:=I.tuple hq;obtain ⟨u,hu,ru⟩:=rv.get hx;obtain ⟨f0,f1,f2,f3,f4,f5⟩:=hf it (by simp);refine wpAny_pyNext_tuple_item st (show s.heap.IsTuple a its.toArray from p) (x:=u) (by simpa using hu) fun h' st' sb=>?_
  have I1:Inv X pins σ H {s with heap:=h'}:=I.turned (t':=s.toks) (fun b o hb e=>(sb.2 b hb).trans e) f0 f1 f3 f4 f5;obtain ⟨o,e,c,d⟩:=id st';exact ⟨u,rfl,vK (s:={s with heap:=h'}) e c d (by decide) ⟨x,H,I1,ru,⟨rfl,fun ys hy=>by rw [I.tuple_inj hy hq];exact hx⟩,st',fun b hb=>(hf b hb).1⟩⟩
 done:=by
  intro X hP hw hK hc i pins s σ H E I hf st hg;subst hP hw hK;obtain ⟨xs,hq,hx⟩:=hg;obtain ⟨its,rv,p,hz⟩:=I.tuple hq;obtain ⟨f0,f1,f2,f3,f4,f5⟩:=hf it (by simp);have hl:=rv.length;exact wpAny_pyNext_tuple_end (I.ok.hd hc) st (show s.heap.IsTuple a its.toArray from p) (by simp;omega) fun h' eb=>⟨rfl,I.turned (t':=s.toks) (fun b o hb e=>eb b o hb e) f0 f1 f3 f4 f5⟩
 self:=fun _ _ _ _ _ st h=>wpAny_pyIter_tupleiter st h
def Vl {P:aaH} {w:World} {K:aab} {tg:Expr} (it:Addr) (lo:Int) (n:Nat):Turn P w K tg (Itr lo n) [it] it (fun i h=>IsRangeIter h it (lo+(i:Nat)*1) ((n:Int)-(i:Nat)) 1) where
 mem:=by simp
 obj:=fun i h st b hb=>by
  have e:b=it:=by simpa using hb
  subst e
  exact ⟨_,st,fun v z=>by
   have z':Data.fields _=Data.cell v:=z
   cases z'⟩
 keep:=fun i h h' st k=>k it (by simp) _ st
 item:=by
  intro X hP hw hK hc i pins s σ H E I hf st hg;subst hP hw hK;obtain ⟨f0,f1,f2,f3,f4,f5⟩:=hf it (by simp);have W:=Walks.range (prog:=X.prog) (w:=X.w) (I.ok.hd hc) it lo 1 n;refine W.item i s _ _ hg st fun v h' tk hv st' kk=>?_
  obtain ⟨t,rfl⟩:=hv;have I1:Inv X pins σ H {s with heap:=h',toks:=tk}:=I.turned (fun b o hb e=>kk b o (by simpa using hb) e) f0 f1 f3 f4 f5;refine ⟨_,rfl,vK (s:={s with heap:=h',toks:=tk}) (n:= "range_iterator") st' rfl rfl (by decide) ⟨.int (lo+i),H,I1,⟨t,?_⟩,⟨rfl,rfl⟩,st',fun b hb=>(hf b hb).1⟩⟩;rw [Int.mul_one]
 done:=by
  intro X hP hw hK hc i pins s σ H E I hf st hg;subst hP hw hK;obtain ⟨f0,f1,f2,f3,f4,f5⟩:=hf it (by simp);exact wpAny_pyNext_range_end (I.ok.hd hc) st (by have:n<=i:=hg;omega) fun h' eb=>⟨rfl,I.turned (t':=s.toks) (fun b o hb e=>eb b o hb e) f0 f1 f3 f4 f5⟩
 self:=fun _ _ _ _ _ st h=>wpAny_pyIter_rangeiter st h
section
variable {X:Cx} {tg:Expr}
def jad {pins:List (Addr×Obj)} {σ:St} {H:Hp} {s:aaf} {R:It->Hp->Prop} {E:X6} {lo hi:Int} {t u v:Tok} {tk:Nat} (I:Inv X pins σ H s) (h1: -(2^62)<=lo) (h2:lo<2^62) (h3: -(2^62)<=hi) (h4:hi<2^62)
   (q:R (Itr lo (hi-lo).toNat) H):wpAny (model X.prog X.w) X.A (pyIter (.ref s.heap.objs.size)) (PIE X pins σ tg R) E {s with heap:=s.heap.push {cls:= .type "range",data:= .fields #[.int lo t,.int hi u,.int 1 v]},toks:=tk}:=by
 refine wpAny_pyIter_range (IsRange.new ..) (small_one h1 h2 h3 h4) ?_;have I1:Inv X pins σ H {s with heap:=s.heap.push {cls:= .type "range",data:= .fields #[.int lo t,.int hi u,.int 1 v]},toks:=tk}:=I.kept fun b o e=>aad _ e
 refine ⟨(s.heap.push {cls:= .type "range",data:= .fields #[.int lo t,.int hi u,.int 1 v]}).objs.size,[(s.heap.push {cls:= .type "range",data:= .fields #[.int lo t,.int hi u,.int 1 v]}).objs.size],_,_,H,rfl,
   I1.kept (t':=tk) fun b o e=>aad _ e,Vl _ lo (hi-lo).toNat,?_,fun b hb=>?_,q⟩
 · have e1:lo+((0:Nat):Int)*1=lo:=by simp
   have e2:(((hi-lo).toNat:Nat):Int)-((0:Nat):Int)=Builtin.Range.rangeSize lo hi 1:=by rw [rangeSize_one];split<;>omega
   show IsRangeIter _ _ (lo+((0:Nat):Int)*1) ((((hi-lo).toNat:Nat):Int)-((0:Nat):Int)) 1;rw [e1,e2];exact aaq _ rfl
 · have e:b=(s.heap.push {cls:= .type "range",data:= .fields #[.int lo t,.int hi u,.int 1 v]}).objs.size:=by simpa using hb
   subst e;exact I1.fpOk (aai _) (I1.hok.fresh (aai _))
def jf6 (ta:TA):TI:=fun σ H R=>ta σ H fun vs H1=> ∃j:Int,vs=[.int j]/\ -(2^62)<=j/\j<2^62/\R (Itr 0 j.toNat) H1
def kz {a:Expr} {ta:TA} {p pos:Pos} (hg:Gl X "range") (hm:X.mg "range" =none) (ha:PA X [a] ta) (hs:aan [a] X.env=[(false,eval a X.env)]:=by rfl):PI X tg (.Call (.Name "range" p) [a] [] pos) (jf6 ta):=by
 intro pins s σ H R I h;refine Call_ (Xk I hg hm boot_range (acW (thn (ha pos pins s σ H _ I h) fun us s1 ⟨vs,H1,I1,r1,q1⟩=>?_) hs rfl));obtain ⟨j,e,q1,q2,q⟩:=q1;subst e
 cases r1 with
 |cons r rr=>
  cases rr;obtain ⟨t,rfl⟩:=r;exact call_range_1 (jad I1 (by omega) (by omega) q1 q2 (by simpa using q))
def tFor (wi:TI) (g:TG) (tb:TS):TS:=fun D σ H=>wi σ H fun J H1=> ∃W:Nat->Nat->St->Hp->Prop,(∃m,W 0 m σ H1)/\ ∀i m σ H,W i m σ H->
 (J.stop i H/\D.nx σ H)\/(J.go i H/\ ∃N:St->Hp->Prop,(∀σ' H',N σ' H'-> ∃m',m'<m/\W (i+1) m' σ' H')/\ ∀x H',J.yld i H x H'->g x σ H' fun σ2 H2=>tb {D with nx:=N,ct:=N,bk:=D.nx} σ2 H2)
def WY (fp:List Addr) (h:Heap):List (Addr×Obj):=fp.filterMap fun b=>(h.get? b).map fun o=>(b,o)
def ya {fp:List Addr} {h:Heap} {b:Addr} {o:Obj} (hb:b∈fp) (e:h.get? b=some o):(b,o)∈WY fp h:=acS.mpr ⟨b,hb,by rw [e];rfl⟩
def kM {fp:List Addr} {h:Heap} {p:Addr×Obj} (hp:p∈WY fp h):p.1∈fp/\h.get? p.1=some p.2:=by
 obtain ⟨b,hb,e⟩:=acS.mp hp
 cases q:h.get? b with
 |none=>rw [q] at e;cases e
 |some o=>
  rw [q] at e;have e':(b,o)=p:=aaK e;subst e';exact ⟨hb,q⟩
def Inv.pinned {pins:List (Addr×Obj)} {σ:St} {H:Hp} {s:aaf} {fp:List Addr} (I:Inv X pins σ H s) (hf: ∀b∈fp,FpOk X pins H b) (ho: ∀b∈fp,∃o,s.heap.get? b=some o/\ ∀v,o.data≠ .cell v):Inv X (pins++WY fp s.heap) σ H s:=
 I.pins_of fun p hp=>(aa6.mp hp).elim (fun z=>I.pin p (aaZ _ z)) fun z=>by
  obtain ⟨hb,e⟩:=kM z;obtain ⟨f0,f1,f2,_⟩:=hf p.1 hb;obtain ⟨o,e',d⟩:=ho p.1 hb;rw [e] at e';cases e';exact ⟨e,f0,f1,f2,d⟩
def Inv.unpinned {pins pl:List (Addr×Obj)} {σ:St} {H:Hp} {s:aaf} (I:Inv X (pins++pl) σ H s):Inv X pins σ H s:=I.pins_of fun p hp=>I.pin p (aaZ _ (acA _ hp))
def jeo {iter:Expr} {body:List Stmt} {wi:TI} {g:TG} {tb:TS} {pos:Pos} (hp:PassesOwn (model X.prog X.w) X.A X.env X.xe) (hc:X.calm=true) (hi:PI X tg iter wi) (hg:PG X tg g) (hb:PSs X body tb)
   (hs: ∀x,adJ iter X.env x=pure x:=by intro _;rfl):PS X (.For tg iter body [] pos) (tFor wi g tb):=by
 intro pins s σ H D I h;refine wpAny_For (thn (hi pins s σ H _ I h) fun v s1 h1=>thn h1 fun itv s2 h2=>?_) hs;obtain ⟨it,fp,tn,J,H2,e,I2,T,st2,f2,W,⟨m0,w0⟩,turn⟩:=h2;subst e;have stat: ∀ {H':Hp},(∀b∈fp,H' b=none)-> ∀b∈fp,FpOk X pins H' b:=fun hn b hb=>⟨hn b hb,(f2 b hb).2⟩
 refine codeAny_forLoop_any (fun n s'=> ∃i σ' H',Inv X pins σ' H' s'/\tn i s'.heap/\(∀b∈fp,H' b=none)/\W i n σ' H') ?_ m0 ⟨0,σ,H2,I2,st2,fun b hb=>(f2 b hb).1,w0⟩;rintro n s3 ⟨i,σ3,H3,I3,st3,fr3,w3⟩;rcases turn i n σ3 H3 w3 with ⟨stop,qn⟩| ⟨go,N,hN,step⟩
 · refine acE hp (thn (T.done X rfl rfl rfl hc i pins s3 σ3 H3 X.xe I3 (stat fr3) st3 stop) fun r s4 ⟨hr,I4⟩=>?_);subst hr;exact adt ⟨σ3,H3,I4,qn⟩
 · refine acE hp (thn (T.item X rfl rfl rfl hc i pins s3 σ3 H3 X.xe I3 (stat fr3) st3 go) fun r s4 ⟨u,hr,h4⟩=>?_);subst hr;refine acE hp (thn h4 fun _ s5 ⟨x,H5,I5,r5,y5,st5,fr5⟩=>?_);have I5':=I5.pinned (stat fr5) (T.obj _ _ st5);refine acE hp (thn (hg _ s5 σ3 H5 x u _ I5' r5 (step x H5 y5)) fun _ s6 ⟨σ6,H6,I6,q6⟩=>?_);refine acE hp (thn (hb _ s6 σ6 H6 _ I6 q6) fun f s7 q7=>?_)
   have again: ∀ {σ7:St} {H7:Hp},Inv X (pins++WY fp s5.heap) σ7 H7 s7->N σ7 H7-> ∃m,m<n/\ ∃i σ' H',Inv X pins σ' H' s7/\tn i s7.heap/\(∀b∈fp,H' b=none)/\W i m σ' H':=fun {σ7 H7} I7 n7=>by
    obtain ⟨m',hm,w7⟩:=hN σ7 H7 n7;refine ⟨m',hm,i+1,σ7,H7,I7.unpinned,T.keep _ _ _ st5 fun b hb o e=>(I7.pin (b,o) (aaZ _ (aaZ _ (ya hb e)))).1,fun b hb=>?_,w7⟩;obtain ⟨o,e,d⟩:=T.obj _ _ st5 b hb;exact (I7.pin (b,o) (aaZ _ (aaZ _ (ya hb e)))).2.1
   cases f with
   |next=>obtain ⟨σ7,H7,I7,n7⟩:=q7;exact again I7 n7
   |cont=>obtain ⟨σ7,H7,I7,n7⟩:=q7;exact again I7 n7
   |brk=>obtain ⟨σ7,H7,I7,q7⟩:=q7;exact ⟨σ7,H7,I7.unpinned,q7⟩
   |ret v=>obtain ⟨x7,σ7,H7,I7,r7,q7⟩:=q7;exact ⟨x7,σ7,H7,I7.unpinned,r7,q7⟩
end
abbrev R2:=V->V->Hp->VK->Prop
def OpR (X:Cx) (f:Value->Value->Sem Value) (r:R2):Prop:=
 ∀(pins:List (Addr×Obj)) (s:aaf) (σ:St) (H:Hp) (x y:V) (v u:Value) (Q:VK),Inv X pins σ H s->RelV x v->RelV y u->r x y H Q->
  wpAny (model X.prog X.w) X.A (f v u) (EP X pins σ Q) X.xe s
def UnR (X:Cx) (f:Value->Sem Value) (r:V->Hp->VK->Prop):Prop:=
 ∀(pins:List (Addr×Obj)) (s:aaf) (σ:St) (H:Hp) (x:V) (v:Value) (Q:VK),Inv X pins σ H s->RelV x v->r x H Q->
  wpAny (model X.prog X.w) X.A (f v) (EP X pins σ Q) X.xe s
def CallR (X:Cx) (f:Value) (r:List V->Hp->VK->Prop):Prop:=
 ∀(pins:List (Addr×Obj)) (s:aaf) (σ:St) (H:Hp) (xs:List V) (us:List Value) (Q:VK),Inv X pins σ H s->Vals xs us->r xs H Q->
  wpAny (model X.prog X.w) X.A (call f us) (EP X pins σ Q) X.xe s
def TruR (X:Cx) (r:V->Hp->(Bool->Hp->Prop)->Prop):Prop:=
 ∀(pins:List (Addr×Obj)) (s:aaf) (σ:St) (H:Hp) (x:V) (v:Value) (Q:Bool->Hp->Prop),Inv X pins σ H s->RelV x v->r x H Q->
  wpAny (model X.prog X.w) X.A (truthy v) (TP X pins σ Q) X.xe s
def tOp (r:R2) (ta tb:TE):TE:=fun σ H Q=>ta σ H fun x H1=>tb σ H1 fun y H2=>r x y H2 Q
def tUn (r:V->Hp->VK->Prop) (ta:TE):TE:=fun σ H Q=>ta σ H fun x H1=>r x H1 Q
def rI (C:Int->Int->Prop) (g:Int->Int->V):R2:=fun x y H Q=> ∃i j,x= .int i/\y= .int j/\C i j/\Q (g i j) H
def rI0 (g:Int->Int->V):R2:=fun x y H Q=> ∃i j,x= .int i/\y= .int j/\Q (g i j) H
def rU (g:Int->V):V->Hp->VK->Prop:=fun x H Q=> ∃i,x= .int i/\Q (g i) H
section
variable {X:Cx} {a b c:Expr} {ta tb tc:TE} {pos:Pos}
def binT (ha:PE X a ta) (hb:PE X b tb) {pins:List (Addr×Obj)} {s:aaf} {σ:St} {H:Hp} {R:V->V->Hp->Prop} (I:Inv X pins σ H s)
  (h:ta σ H fun x H1=>tb σ H1 fun y H2=>R x y H2) {Q:X6} {f:Value->Value->Sem Value}
  (hf: ∀v u s2 x y H2,Inv X pins σ H2 s2->RelV x v->RelV y u->R x y H2->wpAny (model X.prog X.w) X.A (f v u) Q X.xe s2):
  wpAny (model X.prog X.w) X.A (eval a X.env) (fun v s₁=>wpAny (model X.prog X.w) X.A (eval b X.env) (fun u s₂=>wpAny (model X.prog X.w) X.A (f v u) Q X.xe s₂) X.xe s₁) X.xe s:=by
 refine thn (ha pins s σ H _ I h) fun v s1 ⟨x,H1,I1,r1,q1⟩=>?_
 refine thn (hb pins s1 σ H1 _ I1 q1) fun u s2 ⟨y,H2,I2,r2,q2⟩=>?_
 exact hf v u s2 x y H2 I2 r1 r2 q2
def jaj {op:aex} {r:R2} (ho:OpR X (abV op) r) (ha:PE X a ta) (hb:PE X b tb):PE X (.BinOp a op b pos) (tOp r ta tb):=by
 intro pins s σ H Q I h;exact wpAny_BinOp (binT ha hb I h fun v u s2 x y H2 I2 rx ry q=>ho pins s2 σ H2 x y v u Q I2 rx ry q)
def jfQ {op:UnaryOp} {r:V->Hp->VK->Prop} (ho:UnR X (unaryOp op) r) (ha:PE X a ta):PE X (.UnaryOp op a pos) (tUn r ta):=by
 intro pins s σ H Q I h;exact UnaryOp_ (thn (ha pins s σ H _ I h) fun v s1 ⟨x,H1,I1,r1,q1⟩=>ho pins s1 σ H1 x v Q I1 r1 q1)
def opI {f:Value->Value->Sem Value} {C:Int->Int->Prop} {g:Int->Int->Int}
  (rule: ∀(i j:Int) (t u:Tok) (s:aaf) (Q:X6) (E:X6),C i j->Q (.int (g i j) s.toks) {s with toks:=s.toks+1}->wpAny (model X.prog X.w) X.A (f (.int i t) (.int j u)) Q E s):
  OpR X f (rI C fun i j=> .int (g i j)):=by
 intro pins s σ H x y v u Q I rx ry h;obtain ⟨i,j,rfl,rfl,hc,q⟩:=h;obtain ⟨t,rfl⟩:=rx;obtain ⟨t',rfl⟩:=ry;exact rule i j t t' s _ _ hc ⟨.int (g i j),H,I.tok _,⟨_,rfl⟩,q⟩
def opI0 {f:Value->Value->Sem Value} {g:Int->Int->Int}
  (rule: ∀(i j:Int) (t u:Tok) (s:aaf) (Q:X6) (E:X6),Q (.int (g i j) s.toks) {s with toks:=s.toks+1}->wpAny (model X.prog X.w) X.A (f (.int i t) (.int j u)) Q E s):
  OpR X f (rI0 fun i j=> .int (g i j)):=by
 intro pins s σ H x y v u Q I rx ry h;obtain ⟨i,j,rfl,rfl,q⟩:=h;obtain ⟨t,rfl⟩:=rx;obtain ⟨t',rfl⟩:=ry;exact rule i j t t' s _ _ ⟨.int (g i j),H,I.tok _,⟨_,rfl⟩,q⟩
def opB0 {f:Value->Value->Sem Value} {g:Int->Int->Bool}
  (rule: ∀(i j:Int) (t u:Tok) (s:aaf) (Q:X6) (E:X6),Q (.bool (g i j)) s->wpAny (model X.prog X.w) X.A (f (.int i t) (.int j u)) Q E s):
  OpR X f (rI0 fun i j=> .bl (g i j)):=by
 intro pins s σ H x y v u Q I rx ry h;obtain ⟨i,j,rfl,rfl,q⟩:=h;obtain ⟨t,rfl⟩:=rx;obtain ⟨t',rfl⟩:=ry;exact rule i j t t' s _ _ ⟨.bl (g i j),H,I,rfl,q⟩
def CDiv (i j:Int):Prop:=0<j/\j<1073741824
def CPow (i j:Int):Prop:=0<=j/\j<=1000000/\i.natAbs<2^64
def op_add:OpR X (abV .Add) (rI0 fun i j=> .int (i+j)):=opI0 fun _ _ _ _ _ _ _ q=>add_int q
def W7:OpR X (abV .Sub) (rI0 fun i j=> .int (i-j)):=opI0 fun _ _ _ _ _ _ _ q=>sub_int q
def Yl:OpR X (abV .FloorDiv) (rI CDiv fun i j=> .int (i/j)):=opI fun i j _ _ _ _ _ hc q=>by
 have h1:(0:Int)<j:=hc.1;have h2:j<1073741824:=hc.2;exact floordiv_int (by omega) (by rw [ac8 i (by omega)];exact q) (.inl (PyProof.noPylong_small (by omega)))
def y8:OpR X (abV .Mod) (rI (fun _ j=>0<j) fun i j=> .int (i%j)):=opI fun i j _ _ _ _ _ hc q=>by
 have h1:(0:Int)<j:=hc;exact mod_int' (by omega) (by rw [Int.fmod_eq_emod_of_nonneg i (by omega)];exact q)
def Kn:OpR X (abV .Pow) (rI CPow fun i j=> .int (i^j.toNat)):=opI fun _ _ _ _ _ _ _ hc q=>pow_int_small hc.1 hc.2.1 hc.2.2 q
def unI {f:Value->Sem Value} {g:Int->Int}
  (rule: ∀(i:Int) (t:Tok) (s:aaf) (Q:X6) (E:X6),Q (.int (g i) s.toks) {s with toks:=s.toks+1}->wpAny (model X.prog X.w) X.A (f (.int i t)) Q E s):
  UnR X f (rU fun i=> .int (g i)):=by
 intro pins s σ H x v Q I rx h;obtain ⟨i,rfl,q⟩:=h;obtain ⟨t,rfl⟩:=rx;exact rule i t s _ _ ⟨.int (g i),H,I.tok _,⟨_,rfl⟩,q⟩
def jdU:UnR X (unaryOp .USub) (rU fun i=> .int (-i)):=unI fun _ _ _ _ _ q=>neg_int q
end
def scal:V->V->Bool
 | .non,.non=>true| .non,.int _=>true| .int _,.non=>true| .non,.bl _=>true| .bl _,.non=>true| .non,.str _=>true| .str _,.non=>true
 | .int _,.int _=>true| .bl _,.bl _=>true| .str _,.str _=>true| .byt _,.byt _=>true
 | .int _,.str _=>true| .str _,.int _=>true| .bl _,.str _=>true| .str _,.bl _=>true
 |_,_=>false
def rEq:R2:=fun x y H Q=>scal x y=true/\Q (.bl (decide (x=y))) H
def jdo {i j:Int}:decide (V.int i=V.int j)=(i==j):=by
 rw [acg];simp
def jfh {i j:Bool}:decide (V.bl i=V.bl j)=(i==j):=by
 rw [acg];simp
def jdn {i j:Str}:decide (V.str i=V.str j)=(i==j):=by
 rw [acg];simp
def jdp {i j:Array UInt8}:decide (V.byt i=V.byt j)=(i.toList==j.toList):=by
 rw [acg];cases i;cases j;simp
section
variable {X:Cx} {a b c:Expr} {ta tb tc:TE} {pos:Pos}
def zL {pins:List (Addr×Obj)} {σ:St} {H:Hp} {s:aaf} {Q:VK} {k k':Bool} (I:Inv X pins σ H s) (q:Q (.bl k) H) (e:k=k'):EP X pins σ Q (.bool k') s:=by
 subst e;exact ⟨.bl k,H,I,rfl,q⟩
def jfU:OpR X (abK .Eq) rEq:=by
 intro pins s σ H x y v u Q I rx ry h;obtain ⟨hs,q⟩:=h
 cases x with
 |non=>
  cases rx
  cases y with
  |non=>cases ry;exact PySem.EqNone.eq_none_none (zL I q (by simp))
  |bl j=>cases ry;exact PySem.EqNone.eq_none_bool (zL I q (by simp))
  |int j=>obtain ⟨t',rfl⟩:=ry;exact PySem.EqNone.eq_none_int (zL I q (by simp))
  |str j=>obtain ⟨t',rfl⟩:=ry;exact PySem.EqNone.eq_none_str (zL I q (by simp))
  |_=>exact absurd (show false=true from hs) aaB
 |bl i=>
  cases rx
  cases y with
  |non=>cases ry;exact PySem.EqNone.eq_bool_none (zL I q (by simp))
  |bl j=>cases ry;exact eq_bool (zL I q jfh)
  |str j=>obtain ⟨t',rfl⟩:=ry;exact PySem.EqMixed.eq_bool_str (zL I q (by simp))
  |_=>exact absurd (show false=true from hs) aaB
 |int i=>
  obtain ⟨t,rfl⟩:=rx
  cases y with
  |non=>cases ry;exact PySem.EqNone.eq_int_none (zL I q (by simp))
  |int j=>obtain ⟨t',rfl⟩:=ry;exact eq_int (zL I q jdo)
  |str j=>obtain ⟨t',rfl⟩:=ry;exact PySem.EqMixed.eq_int_str (zL I q (by simp))
  |_=>exact absurd (show false=true from hs) aaB
 |str i=>
  obtain ⟨t,rfl⟩:=rx
  cases y with
  |non=>cases ry;exact PySem.EqNone.eq_str_none (zL I q (by simp))
  |bl j=>cases ry;exact PySem.EqMixed.eq_str_bool (zL I q (by simp))
  |int j=>obtain ⟨t',rfl⟩:=ry;exact PySem.EqMixed.eq_str_int (zL I q (by simp))
  |str j=>obtain ⟨t',rfl⟩:=ry;exact eq_str (zL I q jdn)
  |_=>exact absurd (show false=true from hs) aaB
 |byt i=>
  obtain ⟨t,rfl⟩:=rx
  cases y with
  |byt j=>obtain ⟨t',rfl⟩:=ry;exact PySem.W.eq_bytes (zL I q jdp)
  |_=>exact absurd (show false=true from hs) aaB
 |_=>cases y<;>exact absurd (show false=true from hs) aaB
def jfT:OpR X (abK .Lt) (rI0 fun i j=> .bl (decide (i<j))):=opB0 fun _ _ _ _ _ _ _ q=>lt_int q
def VE:OpR X (abK .LtE) (rI0 fun i j=> .bl (decide (i<=j))):=opB0 fun _ _ _ _ _ _ _ q=>le_int q
def jcz:OpR X (abK .Gt) (rI0 fun i j=> .bl (decide (j<i))):=opB0 fun _ _ _ _ _ _ _ q=>gt_int q
def kJ:OpR X (abK .In) (fun x y H Q=> ∃i j,x= .str i/\y= .str j/\Q (.bl (!(adu j i 0 j.length 1).isEmpty)) H):=by
 intro pins s σ H x y v u Q I rx ry h;obtain ⟨i,j,rfl,rfl,q⟩:=h;obtain ⟨t,rfl⟩:=rx;obtain ⟨t',rfl⟩:=ry;exact in_str (zL I q rfl)
def OpR.or {f:Value->Value->Sem Value} {r r':R2} (h:OpR X f r) (h':OpR X f r'):OpR X f (fun x y H Q=>r x y H Q\/r' x y H Q):=by
 intro pins s σ H x y v u Q I rx ry q;rcases q with q|q
 · exact h pins s σ H x y v u Q I rx ry q
 · exact h' pins s σ H x y v u Q I rx ry q
def kR (b:Expr) {op:CmpOp} (h:op≠ .In:=by decide) (h2:op≠ .NotIn:=by decide):adw op b=false:=by
 have e1:(op==CmpOp.In)=false:=by cases op<;>first|rfl|exact absurd rfl h
 have e2:(op==CmpOp.NotIn)=false:=by cases op<;>first|rfl|exact absurd rfl h2
 cases b<;>simp [adw,e1,e2]
def kA {op:CmpOp} {r:R2} (ho:OpR X (abK op) r) (ha:PE X a ta) (hb:PE X b tb) (hm:adw op b=false):PE X (.Compare a [op] [b] pos) (tOp r ta tb):=by
 intro pins s σ H Q I h;exact wpAny_Compare1 (binT ha hb I h fun v u s2 x y H2 I2 rx ry q=>ho pins s2 σ H2 x y v u Q I2 rx ry q) hm
def jb8 (t:TE):TT:=fun σ H Q=>t σ H fun x H'=> ∃k,x= .bl k/\Q k H'
def jco {op:CmpOp} {r:R2} (ho:OpR X (abK op) r) (ha:PE X a ta) (hb:PE X b tb) (hm:adw op b=false):PT X (.Compare a [op] [b] pos) (jb8 (tOp r ta tb)):=by
 intro pins s σ H Q I h
 refine wpAny_isTrue_Compare1 (thn (ha pins s σ H _ I h) fun v s1 ⟨x,H1,I1,r1,q1⟩=>thn (hb pins s1 σ H1 _ I1 q1) fun u s2 ⟨y,H2,I2,r2,q2⟩=>
  thn (ho pins s2 σ H2 x y v u _ I2 r1 r2 q2) fun c s3 ⟨z,H3,I3,r3,k,e,q3⟩=>?_) hm
 subst e;cases r3;exact abF ⟨H3,I3,q3⟩
def UJ (r r':R2) (ta tb tc:TE):TE:=fun σ H Q=>ta σ H fun x H1=>tb σ H1 fun y H2=>r x y H2 fun z H3=> ∃k,z= .bl k/\
 (if k=true then tc σ H3 fun w' H4=>r' y w' H4 Q else Q (.bl false) H3)
def jao {op op':CmpOp} {r r':R2} (ho:OpR X (abK op) r) (ho':OpR X (abK op') r') (ha:PE X a ta) (hb:PE X b tb) (hc:PE X c tc)
  (hm:lastMarks [op,op'] [b,c]=false:=by with_unfolding_all rfl):PE X (.Compare a [op,op'] [b,c] pos) (UJ r r' ta tb tc):=by
 intro pins s σ H Q I h
 refine Compare_chain (thn (ha pins s σ H _ I h) fun v s1 ⟨x,H1,I1,r1,q1⟩=>chain_link (thn (hb pins s1 σ H1 _ I1 q1) fun u s2 ⟨y,H2,I2,r2,q2⟩=>
  thn (ho pins s2 σ H2 x y v u _ I2 r1 r2 q2) fun d s3 ⟨z,H3,I3,r3,k,e,q3⟩=>?_)) hm
 subst e;cases r3;refine abF ?_
 cases k with
 |false=>exact ite_ff ⟨.bl false,H3,I3,rfl,q3⟩
 |true=>exact ite_tt (chain_last (thn (hc pins s3 σ H3 _ I3 q3) fun w' s4 ⟨z',H4,I4,r4,q4⟩=>ho' pins s4 σ H4 y z' u w' Q I4 r2 r4 q4))
def jag {op op':CmpOp} {r r':R2} (ho:OpR X (abK op) r) (ho':OpR X (abK op') r') (ha:PE X a ta) (hb:PE X b tb) (hc:PE X c tc)
  (hm:lastMarks [op,op'] [b,c]=false:=by with_unfolding_all rfl):PT X (.Compare a [op,op'] [b,c] pos) (jb8 (UJ r r' ta tb tc)):=by
 intro pins s σ H Q I h
 refine isTrue_chain (thn (ha pins s σ H _ I h) fun v s1 ⟨x,H1,I1,r1,q1⟩=>test_link (thn (hb pins s1 σ H1 _ I1 q1) fun u s2 ⟨y,H2,I2,r2,q2⟩=>
  thn (ho pins s2 σ H2 x y v u _ I2 r1 r2 q2) fun d s3 ⟨z,H3,I3,r3,k,e,q3⟩=>?_)) hm
 subst e;cases r3;refine abF ?_
 cases k with
 |false=>
  obtain ⟨k',e',q'⟩:=q3;cases e';exact ite_ff ⟨H3,I3,q'⟩
 |true=>
  refine ite_tt (test_last (thn (hc pins s3 σ H3 _ I3 q3) fun w' s4 ⟨z',H4,I4,r4,q4⟩=>thn (ho' pins s4 σ H4 y z' u w' _ I4 r2 r4 q4) fun d' s5 ⟨z2,H5,I5,r5,k2,e2,q5⟩=>?_));subst e2;cases r5;exact abF ⟨H5,I5,q5⟩
def TruV (K:aab) (x:V) (H:Hp) (k:Bool):Prop:=
 match x with
 | .non=>k=false
 | .bl b=>k=b
 | .int i=>k=(i !=0)
 | .str y=>y.length<=aah/\k=((y.length:Int) !=0)
 | .byt y=>y.size<=aah/\k=((y.size:Int) !=0)
 | .ref p=>(∃xs,SqL K H p xs/\k=!xs.isEmpty)\/(∃xs,SqT K H p xs/\k=!xs.isEmpty)\/ ∃kvs,H p=some (.dK kvs)/\k=!kvs.isEmpty
 |_=>False
def VS {κ:Type} {kvs:List (κ×V)} {vs:List (κ×Value)} (r:KV kvs vs):(!vs.isEmpty)=!kvs.isEmpty:=by
 cases r<;>rfl
def Zr {xs:List V} {its:List Value} (r:Vals xs its):(!its.toArray.isEmpty)=!xs.isEmpty:=by
 cases r<;>simp
def QE:(aah:Nat)<2^63:=by rw [abR];decide
def jdX:TruR X (fun x H Q=> ∃k,TruV X.K x H k/\Q k H):=by
 intro pins s σ H x v Q I rx h;obtain ⟨k,e,q⟩:=h;have hl:=QE;have hs:aah=16777216:=abR
 cases x with
 |non=>
  cases rx;have e':k=false:=e;subst e';exact truthy_none ⟨H,I,q⟩
 |bl b=>
  cases rx;have e':k=b:=e;subst e';exact abF ⟨H,I,q⟩
 |int i=>
  obtain ⟨t,rfl⟩:=rx;have e':k=(i !=0):=e;subst e';exact PySem.P.truthy_int ⟨H,I,q⟩
 |str y=>
  obtain ⟨t,rfl⟩:=rx;obtain ⟨hy,e'⟩:y.length<=aah/\k=((y.length:Int) !=0):=e;subst e';exact PySem.P.truthy_str (by omega) ⟨H,I.tok _,q⟩
 |byt y=>
  obtain ⟨t,rfl⟩:=rx;obtain ⟨hy,e'⟩:y.size<=aah/\k=((y.size:Int) !=0):=e;subst e';exact PySem.W.truthy_bytes (by omega) ⟨H,I.tok _,q⟩
 |ref p=>
  cases rx;have e':(∃xs,SqL X.K H p xs/\k=!xs.isEmpty)\/(∃xs,SqT X.K H p xs/\k=!xs.isEmpty)\/ ∃kvs,H p=some (.dK kvs)/\k=!kvs.isEmpty:=e;rcases e' with ⟨xs,hx,e'⟩| ⟨xs,hx,e'⟩| ⟨kvs,hx,e'⟩
  · subst e';obtain ⟨its,r,pl,hz⟩:=I.list hx;have hlen:=r.length;exact wpAny_truthy_list pl.isList (by simp only [aag];omega) ⟨H,I.tok _,by rw [Zr r];exact q⟩
  · subst e';obtain ⟨its,r,pl,hz⟩:=I.tuple hx;have hlen:=r.length;exact truthy_tuple pl (by simp only [aag];omega) ⟨H,I.tok _,by rw [Zr r];exact q⟩
  · subst e';obtain ⟨hz,hS,vs,r,m⟩:kvs.length<=aah/\(p==aca)=false/\ ∃vs,KV kvs vs/\s.heap.DictOf (qt X.prog X.w) p vs:=I.hok p _ hx;have hlen:kvs.length=vs.length:=aeV r;exact wpAny_truthy_dict hS m (by omega) ⟨H,I.tok _,by rw [VS r];exact q⟩
 |_=>exact (show False from e).elim
def jaf (ha:PE X a ta) (he: ∀whole,isTrue a X.env whole=(do let v←whole;standAt a.pos;ad4 [v] (truthy v))):
  PT X a (fun σ H Q=>ta σ H fun x H'=> ∃k,TruV X.K x H' k/\Q k H'):=by
 intro pins s σ H Q I h;exact isTrue_plain (thn (ha pins s σ H _ I h) fun v s1 ⟨x,H1,I1,r1,q1⟩=>jdX pins s1 σ H1 x v Q I1 r1 q1) (he _)
def op_add_str:OpR X (abV .Add) (fun x y H Q=> ∃i j,x= .str i/\y= .str j/\i.length+j.length<=aah/\Q (.str (i++j)) H):=by
 intro pins s σ H x y v u Q I rx ry h;obtain ⟨i,j,rfl,rfl,hz,q⟩:=h;obtain ⟨t,rfl⟩:=rx;obtain ⟨t',rfl⟩:=ry;exact add_str (fun t' tk=>⟨.str (i++j),H,I.tok _,⟨_,rfl⟩,q⟩) hz
def J5 {x:V} {us:List Value} (r:Vals [x] us): ∃u,us=[u]/\RelV x u:=by
 cases r with
 |cons r1 r2=>cases r2;exact ⟨_,rfl,r1⟩
def UC {x y:V} {us:List Value} (r:Vals [x,y] us): ∃u w',us=[u,w']/\RelV x u/\RelV y w':=by
 cases r with
 |cons r1 r2=>
  cases r2 with
  |cons r3 r4=>cases r4;exact ⟨_,_,rfl,r1,r3⟩
def qi:CallR X (.builtin "divmod") (fun xs H Q=> ∃i j,xs=[.int i,.int j]/\CDiv i j/\ ∀p,H p=none->Q (.ref p) (upd H p (.tup [.int (i/j),.int (i%j)]))):=by
 intro pins s σ H xs us Q I r h;obtain ⟨i,j,rfl,⟨h1,h2⟩,q⟩:=h;obtain ⟨u,w',rfl,⟨t,rfl⟩,⟨t',rfl⟩⟩:=UC r;refine divmod_int (by omega) ?_ (.inl (PyProof.noPylong_small (by omega)));rw [ac8 i (by omega),Int.fmod_eq_emod_of_nonneg i (by omega)];have hn:H s.heap.objs.size=none:=I.hok.fresh (aai _);refine ⟨.ref s.heap.objs.size,_,?_,rfl,q _ hn⟩;refine I.laid (fun b o e=>aad _ e) (aai _) ⟨by simp only [aal,aaR];rw [abR];decide,[.int (i/j) s.toks,.int (i%j) (s.toks+1)],.cons ⟨_,rfl⟩ (.cons ⟨_,rfl⟩ .nil),?_⟩;exact ⟨_,aaq s.heap rfl,rfl,0,rfl⟩
end
structure ObjM (h:Heap) (x dx C:Addr) (mA:X8):Prop where
 obj:h.get? x=some (aci C dx)
 ns:h.Ns1 dx mA
 ne:dx≠x
def vg {h:Heap} {dx:Addr} {mA:X8} (n:h.Ns1 dx mA): ∃od,h.get? dx=some od/\ ∀name,aeF name od=some (mA name):=by
 obtain ⟨o,es,ep,ho,hd,hk,_,hm⟩:=n;refine ⟨o,ho,fun name=>?_⟩;have e:=hm name;unfold nsFind findBy at e;rw [←Array.find?_toList] at e;unfold aeF;rw [hd];dsimp only
 split
 · rename_i y q;rw [q] at e;exact congrArg some e
 · rename_i q;rw [q] at e
   have a:es.toList.any (·.refKey)=false:=by
    rw [List.any_eq_false];intro y hy;obtain ⟨z,t,hkey⟩:=hk y (Array.mem_toList_iff.mp hy);simp [DictEntry.refKey,hkey]
   have a': ¬es.toList.any (·.refKey)=true:=by rw [a];exact aaB
   rw [if_neg a'];exact congrArg some e
def ObjM.look {h:Heap} {x dx C:Addr} {mA:X8} (I:ObjM h x dx C mA): ∃od,PySem.W.InstAt h x (aci C dx) C (some od)/\ ∀name,aeF name od=some (mA name):=
 let ⟨od,ho,hl⟩:=vg I.ns
 ⟨od,⟨I.obj,rfl,rfl,ho⟩,hl⟩
section
variable {prog:aaH} {w:World} {A:aa3} {E:X6} {s:aaf} {K:aab} {x dx C f:Addr} {mA:X8} {name:Str} {v:Value}
def jc5 {expr:Bool} {Q:X6} (X:K.In s.heap) (I:ObjM s.heap x dx C mA) (hg:adi K C name=true) (hh:adK K C=true)
  (ha:abh K (.ref C) name=some none) (hv:mA name=some v) (hv':PySem.W.handedIn v=true) (h:Q v {s with toks:=s.toks+1}):
  wpAny (model prog w) A (getAttr (.ref x) name expr) Q E s:=by
 obtain ⟨od,J,hl⟩:=I.look;exact PySem.W.get_value X J (aei hg).1 (PySem.W.findObj_own hh ha rfl (by rw [hl,hv])) hv' h
def ja3 {pl:Sem Bool} {Q:Value×List Value->aaf->Prop} (X:K.In s.heap) (I:ObjM s.heap x dx C mA) (hg:adi K C name=true)
  (hf:abh K (.ref C) name=some (some (.ref f))) (ht:ae4 K (.ref f)=true) (hv:mA name=none) (h:Q (.ref f,[.ref x]) s):
  wpAny (model prog w) A (getMethod (.ref x) name pl) Q E s:=by
 obtain ⟨od,J,hl⟩:=I.look;exact PySem.W.method_fn X J (aei hg).1 (aei hg).2 hf (beq_iff_eq.mp ht) (by show (aeF name od).map (·.isSome)=some false;rw [hl,hv];rfl) h
def jcd {ns:List Str} {Q:Unit->aaf->Prop} (X:K.In s.heap) (I:ObjM s.heap x dx C mA)
  (hs:abh K (.ref C) "__setattr__" =some (some (.builtin "object.__setattr__"))) (hp:aeL K C=true) (ht:ae5 K C name=some none) (hh:adK K C=true)
  (hw:PySem.Within mA ns) (hsz:ns.length<=aah)
  (h: ∀h',ObjM h' x dx C (fun y=>if y=name then some v else mA y)->abZ dx s.heap h'->Q () {s with heap:=h',toks:=s.toks+2}):
  wpAny (model prog w) A (setAttr (.ref x) name v) Q E s:=by
 obtain ⟨od,J,hl⟩:=I.look;refine PySem.W.set_plain X J hs (PySem.W.osa_open (s:={s with toks:=s.toks+1}) (r:=none) X J hp ht fun b=>?_);obtain ⟨cd,hc,hd'⟩:=PySem.W.any_some hh;have hx:s.heap.get? x=some ⟨.ref C,some dx,.plain, #[]⟩:=I.obj;refine aaa (aac (aaa (aaa (wpAny_loadPart hx (aaa (PySem.W.Looks.here (s:={s with toks:=s.toks+1}) (PySem.W.looks_clsIn X hc) ?_))))));rw [hd'];refine aac (a:=some dx) (aaa (aac (aaa ?_)));refine wpAny_nsSet1 (s:={s with toks:=s.toks+1}) I.ns fun h' hn2 hs2=>?_
 obtain ⟨oD,esD,epD,hoD,hdD,hcD⟩:=hn2.count (PySem.Within.cons name v hw);refine aaa (wpAny_lookBehind hoD (by rw [hdD];exact pastItsLine_dict (aaI hcD (by rw [aal];omega))) ?_);exact aac (h _ ⟨(hs2.2 _ (acD I.ne)).trans I.obj,hn2,I.ne⟩ hs2)
def jaG {R:Result->aaf->Prop} {vs:List Value} {kw:List (Str×Value)} (X:K.In s.heap) (hm:adx K C=true)
  (hi:abh K (.ref C) "__init__" =some (some (.ref f))) (hf:PySem.W.typeIn K (.ref f)=some (.type "function"))
  (h:adL (model prog w) (A.under (.builtin "type.__call__" ⟨.ref C::vs,kw⟩)) (.call (.ref f) ⟨.ref (s.heap.objs.size+1)::vs,kw⟩) (PySem.W.InitBack (s.heap.objs.size+1) R)
   {s with heap:=(s.heap.push abG).push (aci C s.heap.objs.size)}):
  adL (model prog w) A (.call (.ref C) ⟨vs,kw⟩) R s:=by
 obtain ⟨hh,g,d,t,os⟩:=s;exact PySem.W.make_core (PySem.W.makes_of X hm) (aeG X hi) (fun self=>PySem.W.bind_fn X self hf) (.inl rfl) h
end
def putF (f:Str) (v:V):List (Str×V)->List (Str×V)
 | []=>[(f,v)]
 | (g,x)::r=>if g=f then (g,v)::r else (g,x)::putF f v r
theorem QD (f g:Str) (v:V): ∀fs:List (Str×V),(putF f v fs).lookup g=if g=f then some v else fs.lookup g
 | []=>by
  show aa7 g [(f,v)]=_
  by_cases h:g=f
  · have hb:(g==f)=true:=beq_iff_eq.mpr h;simp only [aa7,hb,if_pos h]
  · have hb:(g==f)=false:=beq_eq_false_iff_ne.mpr h;simp only [aa7,hb,if_neg h]
 | (k,x)::r=>by
  have ih:=QD f g v r;rw [show putF f v ((k,x)::r)=(if k=f then (k,v)::r else (k,x)::putF f v r) from rfl]
  by_cases hk:k=f
  · rw [if_pos hk]
    by_cases h:g=k
    · have hb:(g==k)=true:=beq_iff_eq.mpr h;simp only [aa7,hb,if_pos (h.trans hk)]
    · have hb:(g==k)=false:=beq_eq_false_iff_ne.mpr h;simp only [aa7,hb,if_neg (fun e:g=f=>h (e.trans hk.symm))]
  · rw [if_neg hk]
    by_cases h:g=k
    · have hb:(g==k)=true:=beq_iff_eq.mpr h;simp only [aa7,hb,if_neg (fun e:g=f=>hk (h.symm.trans e))]
    · have hb:(g==k)=false:=beq_eq_false_iff_ne.mpr h;simp only [aa7,hb];exact ih
theorem QJ (f:Str) (v:V): ∀fs:List (Str×V),f∈(putF f v fs).map (·.1)/\ ∀g,g∈fs.map (·.1)->g∈(putF f v fs).map (·.1)
 | []=>⟨by simp [putF],fun g h=>by simp at h⟩
 | (k,x)::r=>by
  obtain ⟨i1,i2⟩:=QJ f v r;rw [show putF f v ((k,x)::r)=(if k=f then (k,v)::r else (k,x)::putF f v r) from rfl]
  by_cases hk:k=f
  · rw [if_pos hk];subst hk;exact ⟨by simp,fun g h=>by simpa using h⟩
  · rw [if_neg hk];refine ⟨?_,fun g h=>?_⟩
    · rw [aaN];exact aao _ i1
    · rw [aaN] at h ⊢;rcases aam.mp h with e|e
      · exact aam.mpr (.inl e)
      · exact aao _ (i2 g e)
theorem QH (f:Str) (v:V): ∀fs:List (Str×V),(putF f v fs).length<=fs.length+1
 | []=>by simp [putF]
 | (k,x)::r=>by
  have ih:=QH f v r;rw [show putF f v ((k,x)::r)=(if k=f then (k,v)::r else (k,x)::putF f v r) from rfl]
  by_cases hk:k=f
  · rw [if_pos hk,aal,aal];omega
  · rw [if_neg hk,aal,aal];omega
def RelO.some_of {v:V} {o:Option Value} (r:RelO (some v) o): ∃u,o=some u/\RelV v u:=by
 cases o with
 |none=>exact (show False from r).elim
 |some u=>exact ⟨u,rfl,r⟩
def RelO.none_of {o:Option Value} (r:RelO none o):o=none:=by
 cases o with
 |none=>rfl
 |some u=>exact (show False from r).elim
def vJ {v:V} {u:Value} (r:RelV v u):PySem.W.handedIn u=true:=by
 cases v with
 |non=>cases (show u=ab9 from r);rfl
 |bl b=>cases (show u=ac1 b from r);rfl
 |int i=>obtain ⟨t,e⟩:=(show∃t,u=aeI i t from r);cases e;rfl
 |str x=>obtain ⟨t,e⟩:=(show∃t,u=Value.str x t from r);cases e;rfl
 |byt b=>obtain ⟨t,e⟩:=(show∃t,u=Value.bytes b t from r);cases e;rfl
 |flt b=>obtain ⟨t,e⟩:=(show∃t,u=Value.float b t from r);cases e;rfl
 |ref a=>cases (show u=aaJ a from r);rfl
 |ty n=>cases (show u=acC n from r);rfl
section
variable {P:aaH} {w:World} {H H':Hp} {h h':Heap} {a C dx:Addr} {fs fs':List (Str×V)}
def Wd (hok:HOk P w H h) (e:H a=some (.ins C dx fs)): ∃mA,ObjM h a dx C mA/\(∀f,RelO (fs.lookup f) (mA f))/\PySem.Within mA (fs.map (·.1))/\fs.length<=1000/\H dx=some (.own a):=by
 obtain ⟨d,z,ne,ob,mA,n,r,q⟩:=(show ObjOk P w H h a (.ins C dx fs) from hok a _ e)
 exact ⟨mA,⟨ob,n,ne⟩,r,q,z,d⟩
end
structure Cls (K:aab) (C:Addr):Prop where
 pg:adi K C Str.empty=true
 hd:adK K C=true
 po:aeL K C=true
 sa:abh K (.ref C) "__setattr__" =some (some (.builtin "object.__setattr__"))
def Cls.get {K:aab} {C:Addr} (c:Cls K C) (f:Str):adi K C f=true:=c.pg
def NoAttr (K:aab) (C:Addr) (f:Str):Prop:=abh K (.ref C) f=some none
def NoAttr.taker {K:aab} {C:Addr} {f:Str} (n:NoAttr K C f):ae5 K C f=some none:=by
 unfold ae5;rw [show abh K (.ref C) f=some none from n];rfl
structure Meth (K:aab) (C:Addr) (m:Str) (f:Addr):Prop where
 at_:abh K (.ref C) m=some (some (.ref f))
 fn:ae4 K (.ref f)=true
 kp:abg K (.ref f)=true
section
variable {X:Cx} {pins:List (Addr×Obj)} {σ:St} {H:Hp} {s:aaf} {a C dx:Addr} {fs:List (Str×V)} {f:Str} {v:V} {A:aa3} {E:X6}
def VY {b:Bool} {Q:X6} (I:Inv X pins σ H s) (e:H a=some (.ins C dx fs)) (c:Cls X.K C) (n:NoAttr X.K C f) (l:fs.lookup f=some v)
  (h: ∀u s',Inv X pins σ H s'->RelV v u->Q u s'):wpAny (model X.prog X.w) A (getAttr (.ref a) f b) Q E s:=by
 obtain ⟨mA,O,r,_,_,_⟩:=Wd I.hok e;obtain ⟨u,hu,ru⟩:=RelO.some_of (v:=v) (o:=mA f) (by rw [←l];exact r f);exact jc5 I.kIn O (c.get f) c.hd n hu (vJ ru) (h u _ (I.tok _) ru)
def VX {m:Str} {g:Addr} {pl:Sem Bool} {Q:Value×List Value->aaf->Prop} (I:Inv X pins σ H s) (e:H a=some (.ins C dx fs)) (c:Cls X.K C) (k:Meth X.K C m g) (l:fs.lookup m=none)
  (h:Q (.ref g,[.ref a]) s):wpAny (model X.prog X.w) A (getMethod (.ref a) m pl) Q E s:=by
 obtain ⟨mA,O,r,_,_,_⟩:=Wd I.hok e;have hn:mA m=none:=RelO.none_of (by rw [←l];exact r m);exact ja3 I.kIn O (c.get m) k.at_ k.fn hn h
def Vr {y:V} {u:Value} {Q:Unit->aaf->Prop} (I:Inv X pins σ H s) (e:H a=some (.ins C dx fs)) (c:Cls X.K C) (n:NoAttr X.K C f) (hl:fs.length<1000) (ry:RelV y u)
   (h: ∀s',Inv X pins σ (upd H a (.ins C dx (putF f y fs))) s'->Q () s'):wpAny (model X.prog X.w) A (setAttr (.ref a) f u) Q E s:=by
 obtain ⟨mA,O,r,wi,_,ho⟩:=Wd I.hok e;have hz:(fs.map (·.1)).length<=aah:=by rw [aak,abR];omega
 refine jcd I.kIn O c.sa c.po n.taker c.hd wi hz fun h' O' sb=>h _ ?_
 have hd: ∃o,h'.get? dx=some o:=let ⟨o,_,_,e',_⟩:=O'.ns;⟨o,e'⟩
 refine I.write (x:=a) (e:=dx) (by rw [e];exact ac2) (.inr ho) (fun b q hb z=>(sb.2 b hb).trans z) hd ?_;refine ⟨by rw [jx O.ne];exact ho,?_,O.ne,O'.obj,_,O'.ns,fun g=>?_,fun g hg=>?_⟩
 · have:=QH f y fs;omega
 · show RelO ((putF f y fs).lookup g) (if g=f then some u else mA g);rw [QD]
   by_cases q:g=f
   · rw [if_pos q,if_pos q];exact ry
   · rw [if_neg q,if_neg q];exact r g
 · by_cases q:g=f
   · rw [q];exact (QJ f y fs).1
   · refine (QJ f y fs).2 g (wi g fun z=>hg ?_);show (if g=f then some u else mA g)=none;rw [if_neg q];exact z
def Inv.made (I:Inv X pins σ H s):Inv X pins σ (upd (upd H s.heap.objs.size (.own (s.heap.objs.size+1))) (s.heap.objs.size+1) (.ins C s.heap.objs.size []))
  {s with heap:=(s.heap.push abG).push (aci C s.heap.objs.size)}:=by
 have e1:(s.heap.push abG).get? s.heap.objs.size=some abG:=aaq s.heap rfl
 have e2:((s.heap.push abG).push (aci C s.heap.objs.size)).get? (s.heap.objs.size+1)=some (aci C s.heap.objs.size):=by
  have:=aaq (s.heap.push abG) (o:=aci C s.heap.objs.size) rfl
  rwa [acv] at this
 have e3:(s.heap.push abG).Ns s.heap.objs.size (fun _=>none):=⟨abG, #[],_,e1,rfl,(fun e he=>absurd he (by simp)),fun _=>rfl⟩
 have I1:=I.laid (a:=s.heap.objs.size) (o:= .own (s.heap.objs.size+1)) (h':=s.heap.push abG) (t':=s.toks) (fun b u q=>aad _ q) (aai _) ⟨_,e1⟩;refine I1.laid (a:=s.heap.objs.size+1) (o:= .ins C s.heap.objs.size []) (t':=s.toks) (fun b u q=>aad _ q) (Nat.le_of_eq (acv _ _)) ?_;have ne:s.heap.objs.size≠s.heap.objs.size+1:=aaC (ab1 _);refine ⟨by rw [jx ne,jo],aba _,ne,e2,fun _=>none,(Heap.Ns1.of_empty e3).at fun o q=>aad _ q,fun _=>ac2,fun y hy=>absurd rfl hy⟩
def jdH {prog:aaH} {w:World} {env:Env} {e:Expr} {f:Str} {pos:Pos} {s:aaf} {Q:X6} (hb:abL e f env (eval e env)=eval e env)
  (h:wpAny (model prog w) A (eval e env) (fun o s₁=>wpAny (model prog w) A (getAttr o f true) Q E s₁) E s):wpAny (model prog w) A (eval (.Attribute e f pos) env) Q E s:=
 Attribute_any_ h (by rw [arm_eval_Attribute,hb])
end
def tFld (K:aab) (ta:TE) (f:Str):TE:=fun σ H Q=>ta σ H fun x H1=> ∃a C dx fs v,x= .ref a/\H1 a=some (.ins C dx fs)/\Cls K C/\NoAttr K C f/\fs.lookup f=some v/\Q v H1
def sFld (K:aab) (ta tv:TE) (f:Str):TS:=fun D σ H=>tv σ H fun y H1=>ta σ H1 fun x H2=> ∃a C dx fs,x= .ref a/\H2 a=some (.ins C dx fs)/\Cls K C/\NoAttr K C f/\fs.length<1000/\
 D.nx σ (upd H2 a (.ins C dx (putF f y fs)))
section
variable {X:Cx} {o e value:Expr} {f:Str} {pos pos' tpos:Pos} {ta tv:TE}
def jeA (he:PE X e ta) (hb:abL e f X.env (eval e X.env)=eval e X.env):PE X (.Attribute e f pos) (tFld X.K ta f):=by
 intro pins s σ H Q I h;refine jdH hb (thn (he pins s σ H _ I h) fun u s1 ⟨x,H1,I1,rx,a,C,dx,fs,v,ex,ea,c,n,l,q⟩=>?_);subst ex;obtain rfl:u=aaJ a:=rx;exact VY I1 ea c n l fun u' s2 I2 ru=>⟨v,H1,I2,ru,q⟩
def jep (ha:PE X o ta) (hv:PE X value tv) (hs:acp value (some (.Attribute o f pos')) pos.line X.env=pure false):PS X (.Assign [.Attribute o f pos'] value pos) (sFld X.K ta tv f):=by
 intro pins s σ H D I h;refine plainObj_wpAny_Assign_Attribute (thn (hv pins s σ H _ I h) fun u s1 ⟨y,H1,I1,ry,q⟩=>thn (ha pins s1 σ H1 _ I1 q) fun ov s2 ⟨x,H2,I2,rx,a,C,dx,fs,ex,ea,c,n,l,q2⟩=>?_) hs;subst ex;obtain rfl:ov=aaJ a:=rx;exact Vr I2 ea c n l ry fun s3 I3=>⟨σ,_,I3,q2⟩
end
section
variable {X:Cx} {pins:List (Addr×Obj)} {σ:St} {H:Hp} {s:aaf} {A:aa3} {E:X6} {Q:X6} {c:Value} {b:Bool}
inductive TyOf (K:aab) (H:Hp):V->Value->Prop where
 |non:TyOf K H .non (.type "NoneType")
 |bl (x:Bool):TyOf K H (.bl x) (.type "bool")
 |int (i:Int):TyOf K H (.int i) (.type "int")
 |str (x:Str):TyOf K H (.str x) (.type "str")
 |flt (x:UInt64):TyOf K H (.flt x) (.type "float")
 |lst {a:Addr} {xs:List V} (e:H a=some (.lst xs)):TyOf K H (.ref a) (.type "list")
 |frz {a:Addr} {o:Obj} {xs:List V} (e:H a=some (.frz o (.lst xs))):TyOf K H (.ref a) (.type "list")
 |tup {a:Addr} {xs:List V} (e:H a=some (.tup xs)):TyOf K H (.ref a) (.type "tuple")
 |dK {a:Addr} {kvs:List (Key×V)} (e:H a=some (.dK kvs)):TyOf K H (.ref a) (.type "dict")
 |dT {a:Addr} {kvs:List (List Key×V)} (e:H a=some (.dT kvs)):TyOf K H (.ref a) (.type "dict")
 |ins {a C dx:Addr} {fs:List (Str×V)} (e:H a=some (.ins C dx fs)) (cl:Cls K C) (ha:abh K (.ref C) "__class__" =some (some (.builtin "object.__class__")))
  (hn:ae1 K (.builtin "object.__class__") "__get__" =some (some (.builtin "getset_descriptor.__get__"))) (htk:PySem.W.takesIn K (.builtin "object.__class__")=some true)
  (hm:PySem.W.mroIn K C (.type "object")=some true):TyOf K H (.ref a) (.ref C)
def vw {x:V} {u t:Value} (I:Inv X pins σ H s) (rx:RelV x u) (ty:TyOf X.K H x t) (e:aaS X.K t c=some b) (h: ∀tk,Q (.bool b) {s with toks:=tk}):
  wpAny (model X.prog X.w) A (call (.builtin "isinstance") [u,c]) Q E s:=by
 cases ty with
 |non=>cases (show u=ab9 from rx);exact aby PySem.W.kitx_none I.kIn ac2 e (fun z=>nomatch z) h
 |bl y=>cases (show u=ac1 y from rx);exact aby PySem.W.kitx_bool I.kIn ac2 e (fun z=>nomatch z) h
 |int i=>obtain ⟨t,q⟩:=(show∃t,u=aeI i t from rx);cases q;exact aby PySem.W.kitx_int I.kIn ac2 e (fun z=>nomatch z) h
 |str y=>obtain ⟨t,q⟩:=(show∃t,u=Value.str y t from rx);cases q;exact aby PySem.W.kitx_str I.kIn ac2 e (fun z=>nomatch z) h
 |flt y=>obtain ⟨t,q⟩:=(show∃t,u=Value.float y t from rx);cases q;exact aby PySem.W.kitx_float I.kIn ac2 e (fun z=>nomatch z) h
 | @lst a xs ea=>
  cases (show u=aaJ a from rx);obtain ⟨_,_,n,_,h1⟩:=(show ObjOk X.prog X.w H s.heap a (.lst xs) from I.hok a _ ea)
  exact aby aeM I.kIn ⟨_,h1,rfl⟩ e (fun z=>nomatch z) h
 | @frz a ob xs ea=>
  cases (show u=aaJ a from rx);obtain ⟨_,_,_,n,_,h1⟩:=(show ObjOk X.prog X.w H s.heap a (.frz ob (.lst xs)) from I.hok a _ ea)
  exact aby aeM I.kIn ⟨_,h1,rfl⟩ e (fun z=>nomatch z) h
 | @tup a xs ea=>
  cases (show u=aaJ a from rx);obtain ⟨_,_,_,p⟩:=(show ObjOk X.prog X.w H s.heap a (.tup xs) from I.hok a _ ea)
  obtain ⟨o,h1,h2,_⟩:=p;exact aby PySem.W.kitx_tuple I.kIn ⟨o,h1,h2⟩ e (fun z=>nomatch z) h
 | @dK a kvs ea=>
  cases (show u=aaJ a from rx);obtain ⟨_,_,vs,_,p⟩:=(show ObjOk X.prog X.w H s.heap a (.dK kvs) from I.hok a _ ea)
  obtain ⟨o,es,ep,h1,h2,_⟩:=p;exact aby PySem.W.kitx_dict I.kIn ⟨o,h1,h2.1⟩ e (fun z=>nomatch z) h
 | @dT a kvs ea=>
  cases (show u=aaJ a from rx);obtain ⟨_,_,xs,_,o,es,ep,h1,h2,_⟩:=(show ObjOk X.prog X.w H s.heap a (.dT kvs) from I.hok a _ ea)
  exact aby PySem.W.kitx_dict I.kIn ⟨o,h1,h2.1⟩ e (fun z=>nomatch z) h
 | @ins a C dx fs ea cl ha hn htk hm=>
  cases (show u=aaJ a from rx);obtain ⟨mA,O,_⟩:=Wd I.hok ea;obtain ⟨od,J,_⟩:=O.look;exact aby (PySem.W.kitx_own (cl.get _) cl.hd ha hn htk hm) I.kIn J e (fun z=>nomatch z) h
end
structure Room (k:Nat) (A:aa3):Prop where
 hd:A.handled=none
 dp:A.depth+3*k+5<recursionLimit
 un:A.units+16*k+200<cLine
def Room.mono {j k:Nat} {A:aa3} (r:Room k A) (h:j<=k):Room j A:=⟨r.hd,by have:=r.dp;omega,by have:=r.un;omega⟩
def Room.deeper {k:Nat} {A:aa3} (r:Room (k+1) A) (env:Env):Room k (A.deeper env):=
 ⟨r.hd,by have:=r.dp;show A.depth+1+3*k+5<_;omega,by have:=r.un;show A.units+3+16*k+200<_;omega⟩
def VP {A:aa3} {C:Addr} {us:List Value} {kw:List (Str×Value)}:(A.under (.builtin "type.__call__" ⟨.ref C::us,kw⟩)).depth=A.depth+1:=by
 first|rfl|simp [Around.under,Code.weight,Code.isCreation,Code.isGuard,Code.isCaller,Code.frames,Code.isFrame,guardIds]
def VO {A:aa3} {C:Addr} {us:List Value} {kw:List (Str×Value)}:(A.under (.builtin "type.__call__" ⟨.ref C::us,kw⟩)).units=A.units+1:=by
 first|rfl|simp [Around.under,Code.cUnits,Code.frames,Code.isFrame]
def Room.make {k:Nat} {A:aa3} (r:Room (k+1) A) (C:Addr) (us:List Value) (kw:List (Str×Value)):Room k (A.under (.builtin "type.__call__" ⟨.ref C::us,kw⟩)):=
 ⟨r.hd,by have:=r.dp;rw [VP];omega,by have:=r.un;rw [VO];omega⟩
def Room.depth {k:Nat} {A:aa3} (r:Room k A):A.depth<recursionLimit:=by have:=r.dp;omega
def Room.units {k:Nat} {A:aa3} (r:Room k A):A.units+64<cLine:=by have:=r.un;omega
def tNil:TA:=fun _ H Q=>Q [] H
def jfG (ta:TE) (tr:TA):TA:=fun σ H Q=>ta σ H fun x H1=>tr σ H1 fun xs H2=>Q (x::xs) H2
section
variable {X:Cx} {e:Expr} {es:List Expr} {te:TE} {t:TA} {pos:Pos}
def wu:PA X [] tNil:=fun _ _ _ _ H Q I h=>Calls.spliced_nil ⟨[],H,I,.nil,h⟩
def qg (ha:PE X e te) (hr:PA X es t) (hs:WS X e es:=by rfl):PA X (e::es) (jfG te t):=by
 intro pos pins s σ H Q I h;rw [hs];show wpAny _ _ (spliced ((false,eval e X.env)::abQ pos (aan es X.env))) _ _ s;refine Calls.spliced_cons (thn (ha pins s σ H _ I h) fun u s1 ⟨x,H1,I1,r1,q1⟩=>?_);exact thn (hr pos pins s1 σ H1 _ I1 q1) fun us s2 ⟨xs,H2,I2,r2,q2⟩=>⟨x::xs,H2,I2,.cons r1 r2,q2⟩
def tTup (t:TA):TE:=fun σ H Q=>t σ H fun xs H1=>xs.length<=aah/\ ∀p,H1 p=none->Q (.ref p) (upd H1 p (.tup xs))
def tLst (t:TA):TE:=fun σ H Q=>t σ H fun xs H1=>xs.length<=aah/\ ∀p,H1 p=none->Q (.ref p) (upd H1 p (.lst xs))
def jeu {x1} (h:PA X es t):PE X (.Tuple es x1 pos) (tTup t):=by
 intro pins s σ H Q I hq;refine wpAny_Tuple_spliced (thn (h pos pins s σ H _ I hq) fun us s1 ⟨xs,H1,I1,r,z,q⟩=>⟨by rw [←r.length];exact z,?_⟩);have hf:H1 s1.heap.objs.size=none:=I1.hok.fresh (aai _);refine ⟨.ref s1.heap.objs.size,upd H1 s1.heap.objs.size (.tup xs),I1.laid (t':=s1.toks) (fun b u e=>aad _ e) (aai _) ?_,rfl,q _ hf⟩;exact ⟨z,us,r,⟨_,aaq _ rfl,rfl,_,rfl⟩⟩
def jez (h:PA X es t):PE X (.List es pos) (tLst t):=by
 intro pins s σ H Q I hq;refine wpAny_List_spliced (thn (h pos pins s σ H _ I hq) fun us s1 ⟨xs,H1,I1,r,z,q⟩=>⟨by rw [←r.length];exact z,?_⟩);have hf:H1 s1.heap.objs.size=none:=I1.hok.fresh (aai _);refine ⟨.ref s1.heap.objs.size,upd H1 s1.heap.objs.size (.lst xs),I1.laid (t':=s1.toks) (fun b u e=>aad _ e) (aai _) ?_,rfl,q _ hf⟩;exact ⟨z,us,0,r,aaq _ rfl⟩
end
abbrev Sp:=List V->Hp->VK->XK->Prop
abbrev CXT:=List Env->Hp->aaf->XK->Value->aaf->Prop
structure Env0 (P:aaH) (w:World) (K:aab) (mg:X8) (base:Heap) (A:aa3) (outer:List Env) (s:aaf) (H:Hp):Prop where
 frames:A.frames=some outer
 mod:Mod K mg base
 bs: ∀b o,base.get? b=some o->s.heap.get? b=some o/\H b=none
 bsz:base.objs.size<=s.heap.objs.size
 funs:s.heap.FunFrames base outer
 frf: ∀b∈frs outer,H b=none
 hok:HOk P w H s.heap
 bare:aeW s.gens
def CE (outer:List Env) (P:aaH) (w:World) (H:Hp) (s:aaf) (Q:VK) (u:Value) (s':aaf):Prop:=
 ∃v H',s'.os=s.os/\aeW s'.gens/\Un (frs outer) [] H H' s.heap s'.heap/\HOk P w H' s'.heap/\RelV v u/\Q v H'
def CR (CX:CXT) (outer:List Env) (P:aaH) (w:World) (H:Hp) (s:aaf) (Q:VK) (E:XK) (r:Result) (s':aaf):Prop:=
 match r with
 | .ok (.ret u)=>CE outer P w H s Q u s'
 | .ok _=>False
 | .error e=>CX outer H s E e s'
structure FnOk (P:aaH) (w:World) (K:aab) (mg:X8) (base:Heap) (CX:CXT) (k:Nat) (f:Addr) (fd:ab4) (ps:List Str) (sp:Sp):Prop where
 len: ∀vs H Q E,sp vs H Q E->vs.length=ps.length
 run: ∀(A:aa3) (outer:List Env) (s:aaf) (H:Hp) (args:Args) (us:List Value) (vs:List V) (Q:VK) (E:XK),Room k A->Env0 P w K mg base A outer s H->BindsTo s fd args (ps.zip us)->Vals vs us->sp vs H Q E->
  adL (model P w) A (.call (.ref f) args) (CR CX outer P w H s Q E) s
def FnOk.mono {P:aaH} {w:World} {K:aab} {mg:X8} {base:Heap} {CX:CXT} {j k:Nat} {f:Addr} {fd:ab4} {ps:List Str} {sp:Sp} (F:FnOk P w K mg base CX j f fd ps sp) (h:j<=k):
 FnOk P w K mg base CX k f fd ps sp:=⟨F.len,fun A outer s H args us vs Q E hr=>F.run A outer s H args us vs Q E (hr.mono h)⟩
def Env0.make {P:aaH} {w:World} {K:aab} {mg:X8} {base:Heap} {A:aa3} {outer:List Env} {s:aaf} {H:Hp} (e:Env0 P w K mg base A outer s H) (C:Addr) (us:List Value) (kw:List (Str×Value)):
 Env0 P w K mg base (A.under (.builtin "type.__call__" ⟨.ref C::us,kw⟩)) outer s H:=⟨by first|exact e.frames| (simpa [Around.under,Code.envs,Code.isFrame,pushEnvs] using e.frames),e.mod,e.bs,e.bsz,e.funs,e.frf,e.hok,e.bare⟩
section
variable {X:Cx} {pins:List (Addr×Obj)} {σ:St} {H:Hp} {s s':aaf}
def Inv.env0 (I:Inv X pins σ H s):Env0 X.prog X.w X.K X.mg X.base X.A X.stack s H:=
 ⟨I.ok.frames,I.ok.mod,I.bs,aaI I.ok.bsz I.sz,I.stack,I.stkFree,I.hok,I.bare⟩
def Inv.after {Q:VK} {u:Value} (I:Inv X pins σ H s) (h:CE X.stack X.prog X.w H s Q u s'):EP X pins σ Q u s':=by
 obtain ⟨v,H',os,bare,un,hok,r,q⟩:=h;obtain ⟨hh,g,d,t,os'⟩:=s';obtain rfl:os'=s.os:=os;exact ⟨v,H',I.call (h':=hh) (g':=g) (d':=d) (t':=t) (ch:=[]) un hok bare (fun b z=>absurd z (by simp)),r,q⟩
end
def jfH (sp:Sp) (dvs:List V) (E:XK) (t:TA):TE:=fun σ H Q=>t σ H fun vs H1=>sp (vs++dvs) H1 Q E
def jfE (C:Addr) (m:Str) (sp:Sp) (dvs:List V) (E:XK) (ta:TE) (t:TA):TE:=fun σ H Q=>ta σ H fun x H1=> ∃a dx fs,x= .ref a/\H1 a=some (.ins C dx fs)/\fs.lookup m=none/\
 t σ H1 fun vs H2=>sp (x::(vs++dvs)) H2 Q E
def Binds (K:aab) (fd:ab4) (ps:List Str) (ds:List Value):Prop:=
 ∀(s:aaf) (us:List Value),K.In s.heap->(us++ds).length=ps.length->BindsTo s fd ⟨us,[]⟩ (ps.zip (us++ds))
def Binds.all {K:aab} {fd:ab4} {ps:List Str} (h: ∀us:List Value,us.length=ps.length->bindArgs fd ⟨us,[]⟩=pure (ps.zip us)):Binds K fd ps []:=fun s us _ hl=>by
 rw [abJ] at hl ⊢;exact .of_eq (h us hl)
def Q6 (CX:CXT) (X:Cx) (E:XK):Prop:= ∀(pins:List (Addr×Obj)) (σ:St) (H:Hp) (s:aaf) (e:Value) (s':aaf),Inv X pins σ H s->CX X.stack H s E e s'->X.xe e s'
section
variable {X:Cx} {CX:CXT} {k:Nat} {f C:Addr} {fd:ab4} {ps:List Str} {sp:Sp} {dvs:List V} {ds:List Value} {E:XK} {x m:Str} {p pos apos:Pos} {e o:Expr} {es:List Expr} {ta:TE} {t:TA}
def jbC {pins:List (Addr×Obj)} {σ:St} {H:Hp} {s:aaf} {Q:VK} {us:List Value} {vs:List V} (F:FnOk X.prog X.w X.K X.mg X.base CX k f fd ps sp) (hr:Room k X.A) (hb:Binds X.K fd ps ds) (hd:Vals dvs ds) (hx:Q6 CX X E)
  (I:Inv X pins σ H s) (r:Vals vs us) (h:sp (vs++dvs) H Q E):wpAny (model X.prog X.w) X.A (call (.ref f) us) (EP X pins σ Q) X.xe s:=by
 have r2:Vals (vs++dvs) (us++ds):=r.append hd;have hl:(us++ds).length=ps.length:=by rw [←r2.length];exact F.len _ _ _ _ h
 refine wpAny_call (adW (F.run X.A X.stack s H ⟨us,[]⟩ (us++ds) (vs++dvs) Q E hr I.env0 (hb s us I.kIn hl) r2 h) fun r s' hq=>?_)
 cases r with
 |error e=>exact hx pins σ H s e s' I hq
 |ok fl=>
  cases fl with
  |ret u=>exact I.after hq
  |next=>exact acb hq
  |brk=>exact acb hq
  |cont=>exact acb hq
def Yg (F:FnOk X.prog X.w X.K X.mg X.base CX k f fd ps sp) (hr:Room k X.A) (hg:Gl X x) (hm:X.mg x=some (.ref f)) (hk:abg X.K (.ref f)=true) (hb:Binds X.K fd ps ds) (hd:Vals dvs ds) (hx:Q6 CX X E)
  (ha:PA X (e::es) t) (hdb:ZI x:=by decide) (he:WS X e es:=by rfl) (hpl:Vv X pos es:=by rfl):
  PE X (.Call (.Name x p) (e::es) [] pos) (jfH sp dvs E t):=by
 intro pins s σ H Q I h;refine ady (QI I hg hm ?_ hdb);refine PySem.W.callWith_K (h₀:=X.base) I.ok.mod.kin hk (thn (ha pos pins s σ H _ I h) fun us s1 ⟨vs,H1,I1,r,q⟩=>⟨I1.kIn,?_⟩) he hpl;exact jbC F hr hb hd hx I1 r q
def jak {pl:Sem Bool} (he:PE X o ta) (c:Cls X.K C) (hm:Meth X.K C m f) (F:FnOk X.prog X.w X.K X.mg X.base CX k f fd ps sp) (hr:Room k X.A) (hb:Binds X.K fd ps ds) (hd:Vals dvs ds) (hx:Q6 CX X E)
  (ht:eval (.Call (.Attribute o m apos) [] [] pos) X.env=(do
   let ov←eval o X.env
   standAt apos.atName
   let (f,first)←ad4 [ov] (getMethod ov m pl)
   callWith pos f first (abQ pos (aan [] X.env)) (aed pos (acK [] X.env))):=by rfl):
  PE X (.Call (.Attribute o m apos) [] [] pos) (jfE C m sp dvs E ta tNil):=by
 intro pins s σ H Q I h;refine PySem.W.methodCall_KW (pl:=pl) (thn (he pins s σ H _ I h) fun u s1 ⟨x,H1,I1,rx,a,dx,fs,ex,ea,l,q⟩=>?_) ht;subst ex;obtain rfl:u=aaJ a:=rx;refine VX I1 ea c hm l ?_;exact PySem.W.callWith_K0 (first:=[.ref a]) I1.kIn hm.kp (jbC (us:=[.ref a]) (vs:=[.ref a]) F hr hb hd hx I1 (.cons rfl .nil) q)
structure Mk (K:aab) (C f:Addr):Prop where
 makes:adx K C=true
 init:abh K (.ref C) "__init__" =some (some (.ref f))
 fn:ae4 K (.ref f)=true
 kp:abg K (.ref C)=true
end
structure FnScope (N P:List Str) (sc:Scope):Prop where
 kind:sc.kind= .function
 co:sc.isCoroutine=false
 gen:sc.isGenerator=false
 nd:N.Nodup
 pre:N.take P.length=P
 par: ∀x∈P,sc.names.lookup x=some .local\/sc.names.lookup x=some .cell
 nofree: ∀y∈sc.names,y.2≠ .free
theorem XR {kindOf:Str->Option NameKind} {x:Str}: ∀ {binds:List (Str×Value)} {m:X8},(∀v,(x,v)∉binds)->bindL kindOf binds m x=m x
 | [],_,_=>rfl
 | (n,v)::r,m,h=>by
  unfold bindL;rw [XR fun w hw=>h w (aao _ hw)]
  split
  · have:x≠n:=by rintro rfl;exact h v aax
    simp [this]
  · rfl
theorem XT {kindOf:Str->Option NameKind} {x:Str}: ∀ {binds:List (Str×Value)} {m:X8},(∀v,(x,v)∉binds)->bindC kindOf binds m x=m x
 | [],_,_=>rfl
 | (n,v)::r,m,h=>by
  unfold bindC;rw [XT fun w hw=>h w (aao _ hw)]
  split
  · rfl
  · have:x≠n:=by rintro rfl;exact h v aax
    simp [this]
theorem XS {kindOf:Str->Option NameKind} {x:Str} {v:Value}: ∀ {P:List Str} {vs:List Value} {i:Nat} {m:X8},P.Nodup->P[i]?=some x->vs[i]?=some v->kindOf x=some .local->
  bindL kindOf (P.zip vs) m x=some v
 | [],_,_,_,_,h,_,_=>by simp at h
 |_::_,[],_,_,_,_,h,_=>by simp at h
 |p::P,w::vs,0,m,nd,h1,h2,hk=>by
  simp at h1 h2;subst h1;subst h2;show bindL kindOf ((p,w)::P.zip vs) m p=_;unfold bindL;rw [XR fun v hv=>(ab0.mp nd).1 (List.of_mem_zip hv).1,if_pos hk];simp
 |p::P,w::vs,i+1,m,nd,h1,h2,hk=>by
  show bindL kindOf ((p,w)::P.zip vs) m x=_;unfold bindL;exact XS (i:=i) (ab0.mp nd).2 (by simpa using h1) (by simpa using h2) hk
theorem XU {kindOf:Str->Option NameKind} {x:Str} {v:Value}: ∀ {P:List Str} {vs:List Value} {i:Nat} {m:X8},P.Nodup->P[i]?=some x->vs[i]?=some v->kindOf x≠some .local->
  bindC kindOf (P.zip vs) m x=some v
 | [],_,_,_,_,h,_,_=>by simp at h
 |_::_,[],_,_,_,_,h,_=>by simp at h
 |p::P,w::vs,0,m,nd,h1,h2,hk=>by
  simp at h1 h2;subst h1;subst h2;show bindC kindOf ((p,w)::P.zip vs) m p=_;unfold bindC;rw [XT fun v hv=>(ab0.mp nd).1 (List.of_mem_zip hv).1,if_neg hk];simp
 |p::P,w::vs,i+1,m,nd,h1,h2,hk=>by
  show bindC kindOf ((p,w)::P.zip vs) m x=_;unfold bindC;exact XU (i:=i) (ab0.mp nd).2 (by simpa using h1) (by simpa using h2) hk
def start (N:List Str) (vs:List V):St:=vs.map some++aaE (N.length-vs.length) none
def cxOf (CX:CXT) (P:aaH) (w:World) (K:aab) (mg:X8) (base:Heap) (N:List Str) (qual:Str) (scope:Scope) (f:Addr) (cd:Value) (A:aa3) (outer:List Env) (s:aaf) (H:Hp) (E:XK):Cx where
 prog:=P
 w:=w
 K:=K
 mg:=mg
 base:=base
 A:=A.deeper (adX qual scope s.heap.objs.size f cd)
 N:=N
 s₀:=s
 H₀:=H
 env:=adX qual scope s.heap.objs.size f cd
 outer:=outer
 stack:=adX qual scope s.heap.objs.size f cd::outer
 ex:=[]
 calm:=true
 fn:=fun _=>true
 pn:=[]
 xe:=fun e s'=>wpAny (model P w) (A.deeper (adX qual scope s.heap.objs.size f cd)) (leaving (adX qual scope s.heap.objs.size f cd) e) (fun _ s''=>CX outer H s E e s'') (fun e' s''=>CX outer H s E e' s'') s'
def K9 {sc:Scope} {n:Nat} {x:Str} (h:sc.names.lookup x=some .cell): ∃c,(cellsFrom n sc.names []).lookup x=some c:=by
 have q:=PySem.W.cellsFrom_some sc.names n [] (.inl h);exact ado.mp q
def vx {CX:CXT} {P:aaH} {w:World} {K:aab} {mg:X8} {base:Heap} {N ps:List Str} {qual:Str} {scope:Scope} {f:Addr} {cd:Value} {A:aa3} {outer:List Env} {s s1:aaf} {H:Hp} {E:XK} {us:List Value} {vs:List V}
   (S:FnScope N ps scope) (hd:A.handled=none) (e0:Env0 P w K mg base A outer s H) (hl:vs.length=ps.length) (r:Vals vs us)
   (x:InCallC s s.heap.objs.size (bindL (adX qual scope s.heap.objs.size f cd).kindOf (ps.zip us) fun _=>none) (cellsFrom (s.heap.objs.size+1) scope.names []) (bindC (adX qual scope s.heap.objs.size f cd).kindOf (ps.zip us) fun _=>none) s1):
   Inv (cxOf CX P w K mg base N qual scope f cd A outer s H E) [] (start N vs) H s1:=by
 have hpl:ps.length<=N.length:=by have:=congrArg List.length S.pre;rw [adj] at this;omega
 obtain ⟨h1,tk,rfl,hk⟩:=x.done;have noA: ∀b:Addr,b∉(cxOf CX P w K mg base N qual scope f cd A outer s H E).ex:=fun b z=>absurd (show b∈([]:List Addr) from z) (by simp)
 refine ⟨⟨e0.mod,S.kind,rfl,rfl,aai _,fun y z c h1 h2=>?_,fun y hy=>?_,fun y c _ h=>?_,fun _=>hd,Around.frames_deeper e0.frames,.inr ⟨rfl,rfl⟩,fun b z=>absurd z (noA b),e0.bs,e0.bsz,fun b _ _=>noA b,fun b z=>absurd z (noA b),e0.funs,e0.frf⟩,
   rfl,e0.bare,Un.kept hk,⟨_,x.toInCall.ns,fun i y v h1 h2 h3=>?_⟩,fun y c h=>⟨_,x.cell y c h⟩,e0.hok.fresh (aai _),fun y c h=>?_,fun p hp=>absurd (show p∈([]:List (Addr×Obj)) from hp) (by simp),e0.hok.kept hk,?_⟩
 · exact name_of_addr x.apart (abS h1) (abS h2)
 · have hy:scope.names.lookup y=some .cell\/scope.names.lookup y=some .free:=hy;rcases hy with hy|hy
   · exact K9 hy
   · exact absurd rfl (S.nofree _ (abS hy))
 · exact Nat.le_of_lt (x.above y c (abS h))
 · have hi:i<vs.length:=by
     unfold start at h2
     by_cases hi:i<vs.length
     · exact hi
     · rw [aay (by simpa using hi)] at h2;rw [abq] at h2
       split at h2<;>cases h2
   have ha:vs[i]?=some v:=by
     unfold start at h2;rw [aaF (by simpa using hi),aaO] at h2
     cases e:vs[i]? with
     |none=>rw [e] at h2;cases h2
     |some a=>rw [e] at h2;cases h2;rfl
   obtain ⟨u,hu,rv⟩:=r.get ha
   have hp:ps[i]?=some y:=by
     rw [←S.pre,adp (by omega)];exact h1
   have ndP:ps.Nodup:=by rw [←S.pre];exact S.nd.sublist (List.take_sublist _ _)
   refine ⟨u,rv,?_⟩;rcases S.par y (aaV hp) with k|k
   · exact .inl ⟨k,XS ndP hp hu k⟩
   · obtain ⟨c,e⟩:=K9 (n:=s.heap.objs.size+1) k;refine .inr ⟨.inl k,c,e,?_⟩;have q:=x.cell y c e;rw [XU ndP hp hu (by show scope.names.lookup y≠_;rw [k];decide)] at q;exact q
 · exact e0.hok.fresh (Nat.le_of_lt (x.above y c (abS h)))
 · unfold start;show _=N.length;rw [aau,aak,List.length_replicate];omega
def je9 {CX:CXT} {P:aaH} {w:World} {K:aab} {mg:X8} {base:Heap} {k:Nat} {f:Addr} {name qual:Str} {params:Arguments} {body:List Stmt} {scope:Scope} {dV kV doc pm cdv ct oc:Value} {an od:Option Addr}
  {osl:Array (Option Value)} {N ps:List Str} {sp:Sp} (lk:K.lookup f=some ⟨oc,od,.func (acq name qual params body scope dV kV doc pm an cdv ct),osl⟩) (hcd:adH K cdv qual=true) (S:FnScope N ps scope)
  (len: ∀vs H Q E,sp vs H Q E->vs.length=ps.length)
  (hbody: ∀(A:aa3) (outer:List Env) (s:aaf) (H:Hp) (vs:List V) (Q:VK) (E:XK),Room k (A.deeper (adX qual scope s.heap.objs.size f cdv))->sp vs H Q E->
    ∃t,PSs (cxOf CX P w K mg base N qual scope f cdv A outer s H E) body t/\t {nx:=fun _ H'=>Q .non H',rt:=Q} (start N vs) H):
  FnOk P w K mg base CX (k+1) f (acq name qual params body scope dV kV doc pm an cdv ct) ps sp:=by
 refine ⟨len,fun A outer s H args us vs Q E hr e0 hb r hsp=>?_⟩;have hl:=len _ _ _ _ hsp;have KX:K.In s.heap:=e0.mod.kin.keeps fun b o e=>(e0.bs b o e).1
 have lim:s.heap.NoLimit:=e0.mod.nolimit.keeps fun b o e=>(e0.bs b o e).1
 have hkind: ∀y∈ps.zip us,scope.names.lookup y.1=some .local\/(scope.names.lookup y.1=some .cell/\((cellsFrom (s.heap.objs.size+1) scope.names []).lookup y.1).isSome=true):=fun ⟨n,v⟩ hy=>by
  rcases S.par n (List.of_mem_zip hy).1 with q|q
  · exact .inl q
  · exact .inr ⟨q,PySem.W.cellsFrom_some _ _ _ (.inl q)⟩
 refine codeAny_call_function hr.depth (KX _ _ lk) rfl S.co S.gen rfl (PySem.W.codeRec_of KX hcd) (hb _ _ _ _ ?_);refine wpAny_newFunctionEnv_cells S.kind hkind fun env he s1 x=>?_
 subst he;refine ⟨lim.keeps x.toInCall.keep,codeAny_func ?_⟩;obtain ⟨t,ht,hq⟩:=hbody A outer s H vs Q E (hr.deeper _) hsp;have I:Inv (cxOf CX P w K mg base N qual scope f cdv A outer s H E) [] (start N vs) H s1:=vx S hr.hd e0 hl r x;refine ab8 (ht [] s1 (start N vs) H _ I hq) (fun fl s' hs=>?_) fun e s' hs=>hs
 have fin: ∀ {σ':St} {H':Hp} {v:V} {u:Value},Inv (cxOf CX P w K mg base N qual scope f cdv A outer s H E) [] σ' H' s'->RelV v u->Q v H'->CE outer P w H s Q u s':=
  fun {σ' H' v u} J rv q=>⟨v,H',J.os,J.bare,J.base,J.hok,rv,q⟩
 cases fl with
 |ret u=>
  obtain ⟨v,σ',H',J,rv,q⟩:=hs;exact fin J rv q
 |next=>
  obtain ⟨σ',H',J,q⟩:=hs;exact fin (v:=V.non) (u:=ab9) J rfl q
 |brk=>
  obtain ⟨_,_,_,q⟩:=hs;exact acb q
 |cont=>
  obtain ⟨_,_,_,q⟩:=hs;exact acb q
section
variable {X:Cx} {x:Str} {p pos:Pos} {e:Expr} {es:List Expr} {t:TA} {id T:String} {r:List V->Hp->VK->Prop}
def tCB (r:List V->Hp->VK->Prop) (t:TA):TE:=fun σ H Q=>t σ H fun vs H1=>r vs H1 Q
def wt (hc:CallR X (.builtin id) r) (hg:Gl X x) (hm:X.mg x=none) (hv:abz x=some (.builtin id)) (ha:PA X (e::es) t) (hn:x≠ "__name__" :=by decide) (hdb:ZI x:=by decide)
  (he:WS X e es:=by rfl) (hpl:Vv X pos es:=by rfl):PE X (.Call (.Name x p) (e::es) [] pos) (tCB r t):=by
 intro pins s σ H Q I h;refine ady (Xk I hg hm hv ?_ hn hdb);exact PyProof.Rows.callWith_builtin1 (thn (ha pos pins s σ H _ I h) fun us s1 ⟨vs,H1,I1,r1,q1⟩=>hc pins s1 σ H1 vs us Q I1 r1 q1) he hpl
def y6 (hc:CallR X (.type T) r) (hg:Gl X x) (hm:X.mg x=none) (hv:abz x=some (.type T)) (ha:PA X (e::es) t) (hn:x≠ "__name__" :=by decide) (hdb:ZI x:=by decide)
  (he:WS X e es:=by rfl) (hpl:Vv X pos es:=by rfl):PE X (.Call (.Name x p) (e::es) [] pos) (tCB r t):=by
 intro pins s σ H Q I h;refine ady (Xk I hg hm hv ?_ hn hdb);exact acW (thn (ha pos pins s σ H _ I h) fun us s1 ⟨vs,H1,I1,r1,q1⟩=>hc pins s1 σ H1 vs us Q I1 r1 q1) he hpl
end
end L2
namespace HT
open PySem PyProof.Rows
section
variable {prog:aaH} {w:World} {A:aa3} {E:X6} {s:aaf}
def cat_tup {t b:Addr} {vs ws:List Value} {Q:X6} (ht:IsTup s.heap t vs.toArray) (hb:IsTup s.heap b ws.toArray) (hv:vs≠[])
   (h1:ws=[]->Q (.ref t) s) (h2:ws≠[]->Q (.ref s.heap.objs.size) {s with heap:=s.heap.push {cls:= .type "tuple",data:= .seq (vs++ws).toArray}})
   (hsz:vs.length+ws.length<=aah):wpAny (model prog w) A (abV .Add (.ref t) (.ref b)) Q E s:=by
 obtain ⟨⟨cls,dd,data,sl⟩,ho,hc,n,hd⟩:=id ht;obtain ⟨⟨cls2,dd2,data2,sl2⟩,ho2,hc2,n2,hd2⟩:=id hb;simp only at hc hd hc2 hd2;subst hc hd hc2 hd2;have e:vs.toArray++ws.toArray=(vs++ws).toArray:=by simp
 by_cases hw:ws=[]
 · exact concat_meets ⟨_,ho,rfl⟩ ⟨_,ho2,rfl⟩ noFill_tuple_add seq_tuple_add PySem.F.slot_tuple_add PySem.F.entry_tuple_add (PySem.F.args_tuple_add_2 _ _)
    (tuple_addW1 t b vs.toArray ws.toArray n n2 dd dd2 sl sl2 (by simpa using hv) (by simp [hw])) ⟨ho,ho2,h1 hw⟩
 · refine concat_meets ⟨_,ho,rfl⟩ ⟨_,ho2,rfl⟩ noFill_tuple_add seq_tuple_add PySem.F.slot_tuple_add PySem.F.entry_tuple_add (PySem.F.args_tuple_add_2 _ _)
    (tuple_addW2 t b vs.toArray ws.toArray n n2 dd dd2 sl sl2 (by simpa using hv) (by simpa using hw) (by rw [aag,aag];exact hsz)) ⟨ho,ho2,?_⟩
   rw [e];exact h2 hw
def sIx (n d:Nat):Option Int->Nat
 |none=>d
 |some v=>if v<0 then (v+(n:Int)).toNat else min v.toNat n
def sIx_none (n d:Nat):sIx n d none=d:=rfl
def sIx_nat (n d k:Nat):sIx n d (some (k:Int))=min k n:=by
 show (if (k:Int)<0 then ((k:Int)+(n:Int)).toNat else min (k:Int).toNat n)=min k n;rw [if_neg (by omega),abH]
def jea (n d:Nat) (hd:d<=n) (o:Option Int):sIx n d o<=n:=by
 cases o with
 |none=>exact hd
 |some v=>
  show (if v<0 then (v+(n:Int)).toNat else min v.toNat n)<=n
  by_cases hv:v<0
  · rw [if_pos hv];omega
  · rw [if_neg hv];exact Nat.min_le_right _ _
def uv (v:Int) (n d:Nat):(if v<0 then max (v+(n:Int)) 0 else min v (n:Int))=((sIx n d (some v):Nat):Int):=by
 show (if v<0 then max (v+(n:Int)) 0 else min v (n:Int))=(((if v<0 then (v+(n:Int)).toNat else min v.toNat n):Nat):Int)
 by_cases hv:v<0
 · simp only [if_pos hv];omega
 · simp only [if_neg hv];omega
def Uq (lo hi:Option Int) (n:Nat):ada lo hi 1 (n:Int)=(((sIx n 0 lo:Nat):Int),((sIx n n hi:Nat):Int)):=by
 have h1: ¬((1:Int)<0):=by omega
 unfold ada;simp only [h1,if_false];refine Prod.ext ?_ ?_
 · cases lo with
   |none=>rfl
   |some v=>exact uv v n 0
 · cases hi with
   |none=>rfl
   |some v=>exact uv v n n
def VD (i j:Nat):acw (i:Int) (j:Int) 1=j-i:=by
 unfold acw;have h1:(1:Int)>0:=by omega
 simp only [h1,if_true,Int.ediv_one]
 split<;>omega
def Zk {v:Value} {o:Option Int} {Q:Option Int->aaf->Prop} (p:IsPart v o) (h:Q o s):wpAny (model prog w) A (Builtin.Slice.slicePartIndex v) Q E s:=by
 cases p with
 |none=>exact slicePart_none h
 |int i t=>exact slicePart_int h
def sliceApplied_gen {sl:Addr} {vl vu:Value} {lo hi:Option Int} {n:Nat} {Q:Int×Int×Nat->aaf->Prop} (hs:s.heap.IsSliceOf sl vl vu .none) (pl:IsPart vl lo) (pu:IsPart vu hi)
  (h:Q (((sIx n 0 lo:Nat):Int),1,sIx n n hi-sIx n 0 lo) s):wpAny (model prog w) A (aev (.ref sl) (pure (n:Int))) Q E s:=by
 obtain ⟨os,hos,hcs,hds⟩:=id hs;unfold aev Builtin.Slice.sliceFields;refine aaa (aaa (wpAny_field hos hds (x:=vl) rfl (aaa (wpAny_field hos hds (x:=vu) rfl (aaa (wpAny_field hos hds (x:= .none) rfl (aac ?_)))))));refine aaa (slicePart_none ?_);show wpAny _ _ (if ((1:Int)==0)=true then _ else _) _ _ s;rw [if_neg (by decide)];refine aaa (Zk pl (aaa (Zk pu (aaa (aac ?_)))));show wpAny _ _ (match ada lo hi 1 (n:Int) with| (lo,hi)=>pure (lo,(1:Int),acw lo hi 1)) _ _ s;rw [Uq lo hi n];show wpAny _ _ (pure (((sIx n 0 lo:Nat):Int),(1:Int),acw ((sIx n 0 lo:Nat):Int) ((sIx n n hi:Nat):Int) 1)) _ _ s;rw [VD];exact aac h
def jai (xs:Array Value) (i k:Nat):((aa8 k).filterMap fun (m:Nat)=>xs[((i:Int)+(m:Int)*1).toNat]?).toArray=((xs.toList.drop i).take k).toArray:=by
 have e:(fun (m:Nat)=>xs[((i:Int)+(m:Int)*1).toNat]?)=fun m=>xs[i+m]?:=by
  funext m;have:((i:Int)+(m:Int)*1).toNat=i+m:=by omega
  rw [this]
 rw [e];have:=pick_run xs i k;rw [List.filterMap_map] at this;have e2:((fun x=>xs[x]?) ∘ fun x=>i+x)=fun m=>xs[i+m]?:=rfl
 rw [e2] at this;rw [this]
def getItem_tuple_cut {t sl:Addr} {items:Array Value} {vl vu:Value} {lo hi:Option Int} {Q:X6} (ht:IsTup s.heap t items) (hs:s.heap.IsSliceOf sl vl vu .none) (pl:IsPart vl lo) (pu:IsPart vu hi)
  (hw: ¬(sIx items.size 0 lo=0/\sIx items.size items.size hi=items.size))
  (h:Q (.ref s.heap.objs.size) {s with heap:=s.heap.push {cls:= .type "tuple",data:= .seq ((items.toList.drop (sIx items.size 0 lo)).take (sIx items.size items.size hi-sIx items.size 0 lo)).toArray}})
  (hsz:items.size<=aah):wpAny (model prog w) A (getItem (.ref t) (.ref sl)) Q E s:=by
 have htake:sizeOk (.seq ((items.toList.drop (sIx items.size 0 lo)).take (sIx items.size items.size hi-sIx items.size 0 lo)).toArray):=by
  show ((items.toList.drop (sIx items.size 0 lo)).take (sIx items.size items.size hi-sIx items.size 0 lo)).toArray.size<=aah;rw [aag,adj,ad5,aas];omega
 have hj:sIx items.size items.size hi<=items.size:=jea _ _ (aai _) hi;obtain ⟨os,hos,hcs,hds⟩:=id hs;have hTs:s.TypeIs (.ref sl) "slice" :=⟨os,hos,hcs⟩
 unfold getItem
 try with_reducible refine aa4 ?_
 first|refine aaa (aac ?_)|skip
 refine aaa (wpAny_sequenceKey ht.typeIs (by decide) ?_)
 refine aaa (abr (name:=Str.ofString "__getitem__") ht.typeIs abd
  (abl abd ht.typeIs entry_tuple_getitem ?_ (args_tuple_getitem _ _)))
 show wpAny _ _ (aew (.ref t)>>=_) _ _ s;refine aaa (tupleItemsOf_ ht ?_);refine aaa (adY hTs ?_);rw [if_pos (by decide)];refine aaa (sliceApplied_gen hs pl pu ?_)
 have hno: ¬((((sIx items.size 0 lo:Nat):Int)==0&&(1:Int)==1&&(sIx items.size items.size hi-sIx items.size 0 lo)==items.size)=true):=by
  intro q;rw [aat,aat] at q;have q1:((sIx items.size 0 lo:Nat):Int)=0:=eq_of_beq q.1.1;have q2:sIx items.size items.size hi-sIx items.size 0 lo=items.size:=eq_of_beq q.2;exact hw ⟨by omega,by omega⟩
 show wpAny _ _ (if (((sIx items.size 0 lo:Nat):Int)==0&&(1:Int)==1&&(sIx items.size items.size hi-sIx items.size 0 lo)==items.size)=true then _ else _) _ _ s;rw [if_neg hno,jai]
 first
  |exact aaa (m:=acF _) (aaY (aac ⟨_,rfl,aac h⟩) htake)
  |exact aaa (m:=acF _) (aaY (aaa (aac (aac ⟨_,rfl,aac h⟩))) htake)
  |exact aaa (aaa (m:=acF _) (aaY (aac (aac ⟨_,rfl,aac h⟩)) htake))
  |exact aaa (aaa (m:=acF _) (aaY (aac ⟨_,rfl,aac h⟩) htake))
end
end HT
namespace L2
open PySem PySem.Spec PyProof.Rows
abbrev TO:=St->Hp->(Option Int->Hp->Prop)->Prop
def PO (X:Cx) (e:Option Expr) (t:TO):Prop:=
 ∀(pins:List (Addr×Obj)) (s:aaf) (σ:St) (H:Hp) (Q:Option Int->Hp->Prop),Inv X pins σ H s->t σ H Q->
  wpAny (model X.prog X.w) X.A (evalPart e X.env) (fun u s'=> ∃o H',Inv X pins σ H' s'/\IsPart u o/\Q o H') X.xe s
def jca:TO:=fun _ H Q=>Q none H
def jfz (t:TE):TO:=fun σ H Q=>t σ H fun x H1=> ∃i,x= .int i/\Q (some i) H1
section
variable {X:Cx} {e:Expr} {te:TE} {lo hi:Option Expr} {tl th:TO} {pos p2:Pos}
def jcs:PO X none jca:=by
 intro pins s σ H Q I h;rw [evalPart_none];exact aac ⟨none,H,I,.none,h⟩
def jcr (h:PE X e te):PO X (some e) (jfz te):=by
 intro pins s σ H Q I hw;rw [evalPart_some];refine thn (h pins s σ H _ I hw) fun u s1 ⟨x,H1,I1,r1,q1⟩=>?_
 obtain ⟨i,rfl,q⟩:=q1;obtain ⟨t,rfl⟩:=r1;exact ⟨some i,H1,I1,.int i t,q⟩
def SlR (X:Cx) (r:V->Option Int->Option Int->Hp->VK->Prop):Prop:=
 ∀(pins:List (Addr×Obj)) (s:aaf) (σ:St) (H:Hp) (x:V) (v vl vu:Value) (lo hi:Option Int) (sl:Addr) (Q:VK),Inv X pins σ H s->RelV x v->s.heap.IsSliceOf sl vl vu .none->IsPart vl lo->IsPart vu hi->r x lo hi H Q->
  ∃T id,typeLookup (.type T) "__getitem__" =pure (some (.builtin id))/\s.TypeIs v T/\wpAny (model X.prog X.w) X.A (getItem v (.ref sl)) (EP X pins σ Q) X.xe s
def SlR.or {r r':V->Option Int->Option Int->Hp->VK->Prop} (h:SlR X r) (h':SlR X r'):SlR X (fun x lo hi H Q=>r x lo hi H Q\/r' x lo hi H Q):=by
 intro pins s σ H x v vl vu lo hi sl Q I rx hs pl pu q;rcases q with q|q
 · exact h pins s σ H x v vl vu lo hi sl Q I rx hs pl pu q
 · exact h' pins s σ H x v vl vu lo hi sl Q I rx hs pl pu q
def tSl (r:V->Option Int->Option Int->Hp->VK->Prop) (te:TE) (tl th:TO):TE:=fun σ H Q=>te σ H fun x H1=>tl σ H1 fun l H2=>th σ H2 fun u H3=>r x l u H3 Q
def Kk {r:V->Option Int->Option Int->Hp->VK->Prop} (hr:SlR X r) (he:PE X e te) (hl:PO X lo tl) (hu:PO X hi th):PE X (.Subscript e (.Slice lo hi none p2) pos) (tSl r te tl th):=by
 intro pins s σ H Q I h;refine Subscript_ (thn (he pins s σ H _ I h) fun v s1 ⟨x,H1,I1,r1,q1⟩=>?_);refine wpAny_Slice (thn (hl pins s1 σ H1 _ I1 q1) fun vl s2 ⟨l,H2,I2,pl,q2⟩=>thn (hu pins s2 σ H2 _ I2 q2) fun vu s3 ⟨u,H3,I3,pu,q3⟩=>?_);rw [evalPart_none];refine aac ?_;have I4:Inv X pins σ H3 {s3 with heap:=s3.heap.push {cls:= .type "slice",data:= .fields #[vl,vu,.none]}}:=I3.kept (t':=s3.toks) fun b ob q=>aad _ q
 obtain ⟨T,id,hT,ht,hg⟩:=hr pins {s3 with heap:=s3.heap.push {cls:= .type "slice",data:= .fields #[vl,vu,.none]}} σ H3 x v vl vu l u s3.heap.objs.size Q I4 r1 (Heap.IsSliceOf.new ..) pl pu q3;show wpAny (model X.prog X.w) X.A (subscriptTail e (.Slice lo hi none p2) v (.ref s3.heap.objs.size)) (EP X pins σ Q) X.xe {s3 with heap:=s3.heap.push {cls:= .type "slice",data:= .fields #[vl,vu,.none]}};exact tail_any (ops:=[.ref s3.heap.objs.size,v]) ht hT hg (by with_unfolding_all rfl)
def cutV (xs:List V) (lo hi:Option Int):List V:=(xs.drop (HT.sIx xs.length 0 lo)).take (HT.sIx xs.length xs.length hi-HT.sIx xs.length 0 lo)
def Q1 (xs:List V) (lo hi:Option Int):(cutV xs lo hi).length<=xs.length:=by
 unfold cutV;rw [adj,ad5];omega
def rSlT (K:aab):V->Option Int->Option Int->Hp->VK->Prop:=fun x lo hi H Q=> ∃a xs,x= .ref a/\SqT K H a xs/\
 ¬(HT.sIx xs.length 0 lo=0/\HT.sIx xs.length xs.length hi=xs.length)/\ ∀p,H p=none->Q (.ref p) (upd H p (.tup (cutV xs lo hi)))
def sl_tup:SlR X (rSlT X.K):=by
 intro pins s σ H x v vl vu lo hi sl Q I rx hs pl pu h;obtain ⟨a,xs,rfl,hx,hw,q⟩:=h;cases rx;obtain ⟨its,r,ht,hz⟩:=I.tuple hx;have hlen:its.toArray.size=xs.length:=by rw [aag];exact r.length.symm
 refine ⟨"tuple",_,abd.lookup,ht.typeIs,?_⟩;refine HT.getItem_tuple_cut ht hs pl pu (by rw [hlen];exact hw) ?_ (by rw [hlen];exact hz);rw [hlen];refine ⟨.ref s.heap.objs.size,_,I.laid (t':=s.toks) (o:= .tup (cutV xs lo hi)) (fun b ob q=>aad _ q) (aai _) ?_,rfl,q _ (I.hok.fresh (aai _))⟩;exact ⟨aaI (Q1 xs lo hi) hz,_,(r.drop (HT.sIx xs.length 0 lo)).take (HT.sIx xs.length xs.length hi-HT.sIx xs.length 0 lo),IsTup.new _ _⟩
def jck (K:aab):R2:=fun x y H Q=> ∃a b xs ys,x= .ref a/\y= .ref b/\SqT K H a xs/\SqT K H b ys/\xs≠[]/\xs.length+ys.length<=aah/\
 (ys=[]->Q (.ref a) H)/\(ys≠[]-> ∀p,H p=none->Q (.ref p) (upd H p (.tup (xs++ys))))
def Vals.nil_iff {xs:List V} {us:List Value} (r:Vals xs us):us=[]↔xs=[]:=by
 cases r with
 |nil=>simp
 |cons _ _=>simp
def jcA:OpR X (abV .Add) (jck X.K):=by
 intro pins s σ H x y v u Q I rx ry h;obtain ⟨a,b,xs,ys,rfl,rfl,ha,hb,hx,hz,q1,q2⟩:=h;cases rx;cases ry;obtain ⟨its,r1,p1,_⟩:=I.tuple ha;obtain ⟨its2,r2,p2,_⟩:=I.tuple hb;refine HT.cat_tup p1 p2 (fun z=>hx (r1.nil_iff.mp z)) (fun z=>⟨.ref a,H,I,rfl,q1 (r2.nil_iff.mp z)⟩) (fun z=>?_) (by rw [←r1.length,←r2.length];exact hz);refine ⟨.ref s.heap.objs.size,_,I.laid (t':=s.toks) (o:= .tup (xs++ys)) (fun b ob q=>aad _ q) (aai _) ?_,rfl,q2 (fun w=>z (r2.nil_iff.mpr w)) _ (I.hok.fresh (aai _))⟩;exact ⟨by rw [aau];exact hz,_,r1.append r2,IsTup.new _ _⟩
end
def ixN (n:Nat) (i:Int):Option Nat:=if 0<=i then (if i<n then some i.toNat else none) else if-(n:Int)<=i then some (i+n).toNat else none
def atI {α:Type} (xs:List α) (i:Int):Option α:=(ixN xs.length i).bind fun j=>xs[j]?
def vt {n:Nat} {i:Int} {j:Nat} (h:ixN n i=some j):seqIndex? i n=some j/\j<n/\ -(n:Int)<=i/\i<n:=by
 unfold ixN at h
 by_cases h0:0<=i
 · rw [if_pos h0] at h
   by_cases h1:i<n
   · rw [if_pos h1] at h;have e:i.toNat=j:=aaK h;exact ⟨by rw [seqIndex_of h0 h1,e],by omega,by omega,h1⟩
   · rw [if_neg h1] at h;cases h
 · rw [if_neg h0] at h
   by_cases h1: -(n:Int)<=i
   · rw [if_pos h1] at h;have e:(i+n).toNat=j:=aaK h;exact ⟨by rw [seqIndex_neg (by omega) h1,e],by omega,h1,by omega⟩
   · rw [if_neg h1] at h;cases h
def YU {α:Type} {xs:List α} {i:Int} {v:α} (h:atI xs i=some v): ∃j,seqIndex? i xs.length=some j/\xs[j]?=some v/\j<xs.length/\ -(xs.length:Int)<=i/\i<xs.length:=by
 unfold atI at h
 cases e:ixN xs.length i with
 |none=>rw [e] at h;cases h
 |some j=>
  rw [e] at h;obtain ⟨h1,h2,h3,h4⟩:=vt e;exact ⟨j,h1,h,h2,h3,h4⟩
def atI_nat {α:Type} {xs:List α} {j:Nat} {v:α} (h:xs[j]?=some v):atI xs (j:Int)=some v:=by
 have hj:j<xs.length:=(aap.mp h).1
 have e:ixN xs.length (j:Int)=some j:=by
  unfold ixN;rw [if_pos (by omega),if_pos (by omega)];simp
 unfold atI;rw [e];exact h
def uO (b:Expr):Prop:= ∀o i,subscripted b false o i=operate [o,i] (getItem o i)
def IxR (X:Cx) (r:R2):Prop:=
 ∀(value slice:Expr) (pins:List (Addr×Obj)) (s:aaf) (σ:St) (H:Hp) (x y:V) (v u:Value) (Q:VK),Inv X pins σ H s->RelV x v->RelV y u->r x y H Q->
  subscripted slice false v u=operate [v,u] (getItem v u)->wpAny (model X.prog X.w) X.A (subscriptTail value slice v u) (EP X pins σ Q) X.xe s
def MtR (X:Cx) (id:String) (r:V->List V->Hp->VK->Prop):Prop:=
 ∀(pins:List (Addr×Obj)) (s:aaf) (σ:St) (H:Hp) (x:V) (xs:List V) (v:Value) (us:List Value) (Q:VK),Inv X pins σ H s->RelV x v->Vals xs us->r x xs H Q->
  wpAny (model X.prog X.w) X.A (call (.builtin id) (v::us)) (EP X pins σ Q) X.xe s
section
variable {X:Cx} {a b:Expr} {ta tb:TE} {pos:Pos}
def IxR.or {r r':R2} (h:IxR X r) (h':IxR X r'):IxR X (fun x y H Q=>r x y H Q\/r' x y H Q):=by
 intro value slice pins s σ H x y v u Q I rx ry q hs;rcases q with q|q
 · exact h value slice pins s σ H x y v u Q I rx ry q hs
 · exact h' value slice pins s σ H x y v u Q I rx ry q hs
def MtR.or {id:String} {r r':V->List V->Hp->VK->Prop} (h:MtR X id r) (h':MtR X id r'):MtR X id (fun x xs H Q=>r x xs H Q\/r' x xs H Q):=by
 intro pins s σ H x xs v us Q I rx rs q;rcases q with q|q
 · exact h pins s σ H x xs v us Q I rx rs q
 · exact h' pins s σ H x xs v us Q I rx rs q
def jfR {r:R2} (hr:IxR X r) (ha:PE X a ta) (hb:PE X b tb) (hs:uO b):PE X (.Subscript a b pos) (tOp r ta tb):=by
 intro pins s σ H Q I h;exact Subscript_ (binT ha hb I h fun v u s2 x y H2 I2 rx ry q=>hr a b pins s2 σ H2 x y v u Q I2 rx ry q (hs _ _))
def rIxL (K:aab):R2:=fun x y H Q=> ∃p xs i v,x= .ref p/\y= .int i/\SqL K H p xs/\atI xs i=some v/\Q v H
def rIxT (K:aab):R2:=fun x y H Q=> ∃p xs i v,x= .ref p/\y= .int i/\SqT K H p xs/\atI xs i=some v/\Q v H
def rIxS:R2:=fun x y H Q=> ∃z i c,x= .str z/\y= .int i/\z.length<=aah/\atI z.cps.toList i=some c/\Q (.str ⟨#[c]⟩) H
def ix_list:IxR X (rIxL X.K):=by
 intro value slice pins s σ H x y v u Q I rx ry h hs;obtain ⟨p,xs,i,z,rfl,rfl,hq,he,q⟩:=h;cases rx;obtain ⟨t,rfl⟩:=ry;obtain ⟨its,r,pl,hz⟩:=I.list hq;obtain ⟨j,h1,h2,h3,h4,h5⟩:=YU he;obtain ⟨w,ew,rw'⟩:=r.get h2;have hl:=r.length;have hn:=QE;have fin:EP X pins σ Q w s:=⟨z,H,I,rw',q⟩
 by_cases h0:0<=i
 · have hj:i.toNat=j:=by
    rw [seqIndex_of h0 h5] at h1;exact aaK h1
   exact item_listR pl.isList h0 (by omega) (by rw [hj];simpa using ew) fin hs
 · have hj:(i+(its.toArray.size:Int)).toNat=j:=by
    rw [seqIndex_neg (by omega) h4] at h1;rw [aag,←hl];exact aaK h1
   exact subscriptTail_builtinR (x:=w) pl.isList.typeIs slot_list_getitem.lookup
    (wpAny_getItem_list_neg (Q:=fun r s'=>r=w/\EP X pins σ Q r s') pl.isList (by omega) (by rw [aag]<;>omega) (by omega) (by rw [hj];simpa using ew) ⟨rfl,fin⟩) hs
def ix_tup:IxR X (rIxT X.K):=by
 intro value slice pins s σ H x y v u Q I rx ry h hs;obtain ⟨p,xs,i,z,rfl,rfl,hq,he,q⟩:=h;cases rx;obtain ⟨t,rfl⟩:=ry;obtain ⟨its,r,pl,hz⟩:=I.tuple hq;obtain ⟨j,h1,h2,h3,h4,h5⟩:=YU he;obtain ⟨w,ew,rw'⟩:=r.get h2;have hl:=r.length;have hn:=QE;have fin:EP X pins σ Q w s:=⟨z,H,I,rw',q⟩
 exact subscriptTail_builtinR (x:=w) pl.typeIs abd.lookup
  (getItem_tuple (j:=j) (Q:=fun r s'=>r=w/\EP X pins σ Q r s') pl (by omega) (by omega) (by rw [aag,←hl];exact h1) (by simpa using ew) ⟨rfl,fin⟩) hs
def jeX:IxR X rIxS:=by
 intro value slice pins s σ H x y v u Q I rx ry h hs;obtain ⟨z,i,c,rfl,rfl,hz,he,q⟩:=h;obtain ⟨t,rfl⟩:=rx;obtain ⟨t',rfl⟩:=ry;obtain ⟨j,h1,h2,h3,h4,h5⟩:=YU he;have hl:z.cps.toList.length=z.length:=by simp [Str.length]
 rw [hl] at h1 h4 h5;have hn:=QE
 exact tail_any (typeIs_str s z t) slot_str_getitem.lookup (getItem_str (c:=c) (by
  have e1:decide (i< -(2^63:Int))=false:=decide_eq_false (by omega);have e2:decide (i>=2^63)=false:=decide_eq_false (by omega)
  rw [e1,e2,aeX]) (by rw [h1];simpa using h2) ⟨.str ⟨#[c]⟩,H,I.tok _,⟨_,rfl⟩,q⟩) hs
def rIx (K:aab):R2:=fun x y H Q=>rIxL K x y H Q\/rIxT K x y H Q\/rIxS x y H Q
def jeY:IxR X (rIx X.K):=ix_list.or (ix_tup.or jeX)
def VN (its:List Value) (n j:Nat) (u:Value):acn (·.setIfInBounds j u) {cls:= .type "list",data:= .seq its.toArray n}={cls:= .type "list",data:= .seq (its.set j u).toArray n}:=by
 simp [acn]
def Inv.lst {pins:List (Addr×Obj)} {σ:St} {H:Hp} {s:aaf} {p:Addr} {xs:List V} (I:Inv X pins σ H s) (h:H p=some (.lst xs)):
  ∃(its:List Value) (n:Nat),Vals xs its/\s.heap.get? p=some {cls:= .type "list",data:= .seq its.toArray n}/\xs.length<=aah:=by
 obtain ⟨z,its,n,r,e⟩:=I.hok p _ h;exact ⟨its,n,r,e,z⟩
def Inv.lstUpd {pins:List (Addr×Obj)} {σ:St} {H:Hp} {s:aaf} {p:Addr} {xs ys:List V} {its its':List Value} {n n':Nat} {f:Obj->Obj} (I:Inv X pins σ H s) (h:H p=some (.lst xs))
  (ho:s.heap.get? p=some {cls:= .type "list",data:= .seq its.toArray n}) (hf:f {cls:= .type "list",data:= .seq its.toArray n}={cls:= .type "list",data:= .seq its'.toArray n'}) (r:Vals ys its') (hz:ys.length<=aah) (t:Nat):
  Inv X pins σ (upd H p (.lst ys)) {s with heap:=s.heap.update p f,toks:=t}:=by
 have e:(s.heap.update p f).get? p=some {cls:= .type "list",data:= .seq its'.toArray n'}:=by
  rw [abo f ho (by rw [hf]<;>rfl),hf]
 refine I.write (x:=p) (e:=p) (by rw [h];trivial) (.inl rfl) (fun b u hb q=>(abi _ _ (acD hb)).trans q) ⟨_,e⟩ ?_;exact ⟨hz,its',n',r,e⟩
def jfO:V->V->V->Hp->(Hp->Prop)->Prop:=fun o i v H Q=> ∃p xs k j,o= .ref p/\i= .int k/\H p=some (.lst xs)/\ixN xs.length k=some j/\Q (upd H p (.lst (xs.set j v)))
def u4:PSet X jfO:=by
 intro pins s σ H o i v ov iv u Q I ro ri rv h;obtain ⟨p,xs,k,j,rfl,rfl,hp,hj,q⟩:=h;cases ro;obtain ⟨t,rfl⟩:=ri;obtain ⟨its,n,r,ho,hz⟩:=I.lst hp;obtain ⟨h1,h2,h3,h4⟩:=vt hj;have hl:=r.length;have hn:=QE
 have I':Inv X pins σ (upd H p (.lst (xs.set j v))) {s with heap:=s.heap.update p (acn (·.setIfInBounds j u))}:=
   I.lstUpd hp ho (VN its n j u) (r.set rv j) (by rw [List.length_set];exact hz) s.toks
 by_cases h0:0<=k
 · have hk:k.toNat=j:=by
    rw [seqIndex_of h0 h4] at h1;exact aaK h1
   exact PySem.W.ki_setAt ho h0 (by omega) (by rw [aag,←hl];exact h4) (by rw [hk];exact ⟨_,I',q⟩)
 · have hk:(k+(its.toArray.size:Int)).toNat=j:=by
    rw [seqIndex_neg (by omega) h3] at h1;rw [aag,←hl];exact aaK h1
   exact PySem.W.ki_setBack ho (by omega) (by rw [aag,←hl];exact h3) (by omega) (by rw [hk];exact ⟨_,I',q⟩)
def WR (lo hi:Option Int) (n:Nat):(adM lo hi none n).1=((HT.sIx n 0 lo:Nat):Int)/\(adM lo hi none n).2.1=((HT.sIx n n hi:Nat):Int)/\(adM lo hi none n).2.2=1:=by
 refine ⟨?_,?_,rfl⟩
 · cases lo with
   |none=>simp [adM,HT.sIx]
   |some i=>
    simp only [adM,HT.sIx,aeZ,show (1:Int)>0 by decide,if_true]
    by_cases h:i<0
    · simp only [h,if_true]<;>omega
    · simp only [h,if_false]<;>omega
 · cases hi with
   |none=>simp [adM,HT.sIx]
   |some i=>
    simp only [adM,HT.sIx,aeZ,show (1:Int)>0 by decide,if_true]
    by_cases h:i<0
    · simp only [h,if_true]<;>omega
    · simp only [h,if_false]<;>omega
def ZG (its:List Value) (lo hi:Option Int):slicePick its.toArray lo hi none=((its.drop (HT.sIx its.length 0 lo)).take (HT.sIx its.length its.length hi-HT.sIx its.length 0 lo)).toArray:=by
 obtain ⟨h1,h2,h3⟩:=WR lo hi its.toArray.size;unfold slicePick;rw [h1,h2,h3];simp only [sliceRange_one,pick_run,aag]<;>rfl
def rSlL (K:aab):V->Option Int->Option Int->Hp->VK->Prop:=fun x lo hi H Q=> ∃a xs,x= .ref a/\SqL K H a xs/\ ∀p,H p=none->Q (.ref p) (upd H p (.lst (cutV xs lo hi)))
def sl_list:SlR X (rSlL X.K):=by
 intro pins s σ H x v vl vu lo hi sl Q I rx hs pl pu h;obtain ⟨a,xs,rfl,hx,q⟩:=h;cases rx;obtain ⟨its,r,ht,hz⟩:=I.list hx;have hlen:=r.length;refine ⟨"list",_,slot_list_getitem.lookup,ht.isList.typeIs,?_⟩;refine wpAny_getItem_list_slice ht.isList hs pl pu .none (by simp) ?_ (by rw [aag]<;>omega);rw [ZG,←hlen];refine ⟨.ref s.heap.objs.size,_,I.laid (t':=s.toks) (o:= .lst (cutV xs lo hi)) (fun b ob q=>aad _ q) (aai _) ?_,rfl,q _ (I.hok.fresh (aai _))⟩;exact ⟨aaI (Q1 xs lo hi) hz,_,0,(r.drop (HT.sIx xs.length 0 lo)).take (HT.sIx xs.length xs.length hi-HT.sIx xs.length 0 lo),aaq _ rfl⟩
def call_len_seq:CallR X (.builtin "len") (fun xs H Q=> ∃p ys,xs=[.ref p]/\(SqL X.K H p ys\/SqT X.K H p ys)/\Q (.int ys.length) H):=by
 intro pins s σ H xs us Q I r h;obtain ⟨p,ys,rfl,hq,q⟩:=h;obtain ⟨u,rfl,rx⟩:=J5 r;cases rx;have hn:=QE;rcases hq with hq|hq
 · obtain ⟨its,r',pl,hz⟩:=I.list hq;have hlen:=r'.length;exact Calls.call_len_list pl.isList (by simp only [aag]<;>omega) ⟨.int ys.length,H,I.tok _,⟨s.toks+1,by rw [aag,hlen]⟩,q⟩
 · obtain ⟨its,r',pl,hz⟩:=I.tuple hq;have hlen:=r'.length;exact len_tuple pl (by simp only [aag]<;>omega) ⟨.int ys.length,H,I.tok _,⟨s.toks+1,by rw [aag,hlen]⟩,q⟩
def XL:CallR X (.builtin "len") (fun xs H Q=> ∃z,xs=[.str z]/\z.length<=aah/\Q (.int z.length) H):=by
 intro pins s σ H xs us Q I r h;obtain ⟨z,rfl,hz,q⟩:=h;obtain ⟨u,rfl,t,rfl⟩:=J5 r;have hn:=QE;exact len_str (by omega) ⟨.int z.length,H,I.tok _,⟨_,rfl⟩,q⟩
def CallR.or {f:Value} {r r':List V->Hp->VK->Prop} (h:CallR X f r) (h':CallR X f r'):CallR X f (fun xs H Q=>r xs H Q\/r' xs H Q):=by
 intro pins s σ H xs us Q I rs q;rcases q with q|q
 · exact h pins s σ H xs us Q I rs q
 · exact h' pins s σ H xs us Q I rs q
def zC:CallR X (.type "list") (fun xs H Q=> ∃p ys,xs=[.ref p]/\(SqL X.K H p ys\/SqT X.K H p ys)/\ ∀l,H l=none->Q (.ref l) (upd H l (.lst ys))):=by
 intro pins s σ H xs us Q I r h;obtain ⟨p,ys,rfl,hq,q⟩:=h;obtain ⟨u,rfl,rx⟩:=J5 r;cases rx
 have fin: ∀(its:List Value),Vals ys its->ys.length<=aah-> ∀(h':Heap) (c':Nat),(∀b o',s.heap.get? b=some o'->h'.get? b=some o')->
    h'.get? s.heap.objs.size=some {cls:= .type "list",dict:=none,data:= .seq its.toArray c',slots:= #[]}->EP X pins σ Q (.ref s.heap.objs.size) {s with heap:=h'}:=fun its r' hz h' c' kp e=>
   ⟨.ref s.heap.objs.size,_,I.laid (t':=s.toks) kp (aai _) (show ObjOk X.prog X.w _ h' _ (.lst ys) from ⟨hz,its,c',r',e⟩),rfl,q _ (I.hok.fresh (aai _))⟩
 rcases hq with hq|hq
 · obtain ⟨its,r',pl,hz⟩:=I.list hq;have hlen:=r'.length;obtain ⟨o,ho,hc,n,hd⟩:=pl.isList;exact call_list_seq p (.inl rfl) ho hc hd (fun h' c' kp e=>fin its r' hz h' c' kp e) (by simp only [aag]<;>omega)
 · obtain ⟨its,r',pl,hz⟩:=I.tuple hq;have hlen:=r'.length;obtain ⟨o,ho,hc,n,hd⟩:=pl;exact call_list_seq p (.inr rfl) ho hc hd (fun h' c' kp e=>fin its r' hz h' c' kp e) (by simp only [aag]<;>omega)
def qG:CallR X (.type "tuple") (fun xs H Q=> ∃p ys,xs=[.ref p]/\((SqL X.K H p ys/\ ∀l,H l=none->Q (.ref l) (upd H l (.tup ys)))\/(SqT X.K H p ys/\Q (.ref p) H))):=by
 intro pins s σ H xs us Q I r h;obtain ⟨p,ys,rfl,h⟩:=h;obtain ⟨u,rfl,rx⟩:=J5 r;cases rx;rcases h with ⟨hq,q⟩| ⟨hq,q⟩
 · obtain ⟨its,r',pl,hz⟩:=I.list hq;have hlen:=r'.length;refine call_tuple_list pl.isList (fun h' kp=>?_) (by simp only [aag]<;>omega);have I1:Inv X pins σ H {s with heap:=h'}:=I.kept (t':=s.toks) kp
   have I2:Inv X pins σ (upd H h'.objs.size (.tup ys)) {s with heap:=h'.push {cls:= .type "tuple",data:= .seq its.toArray}}:=
    I1.laid (t':=s.toks) (fun b o e=>aad _ e) (aai _) (show ObjOk X.prog X.w _ _ _ (.tup ys) from ⟨hz,its,r',IsTup.new _ _⟩)
   exact ⟨.ref h'.objs.size,_,I2,rfl,q _ (I1.hok.fresh (aai _))⟩
 · obtain ⟨its,r',pl,hz⟩:=I.tuple hq;exact call_tuple_same pl ⟨.ref p,H,I,rfl,q⟩
def tyV (K:aab) (T:String) (x:V) (H:Hp):Prop:=match x with
 | .str _=>T= "str"
 | .int _=>T= "int"
 | .ref p=>(T= "list" /\ ∃xs,SqL K H p xs)\/(T= "tuple" /\ ∃o,K.lookup p=some o/\o.cls= .type "tuple" /\o.dict=none)\/
  (T= "dict" /\((∃kvs,H p=some (.dK kvs))\/ ∃kvs,H p=some (.dT kvs)))\/(T= "set" /\ ∃S n,H p=some (.set S n))
 |_=>False
def jby {pins:List (Addr×Obj)} {σ:St} {H:Hp} {s:aaf} {T:String} {x:V} {v:Value} (I:Inv X pins σ H s) (r:RelV x v) (ty:tyV X.K T x H):
  s.TypeIs v T/\ ∀a,v= .ref a-> ∃ob,s.heap.get? a=some ob/\ob.dict=none:=by
 cases x with
 |str z=>
  obtain ⟨t,rfl⟩:=r;cases (show T= "str" from ty);exact ⟨typeIs_str s z t,fun _ e=>nomatch e⟩
 |int i=>
  obtain ⟨t,rfl⟩:=r;cases (show T= "int" from ty);exact ⟨typeIs_int s i t,fun _ e=>nomatch e⟩
 |ref p=>
  cases r;rcases ty with ⟨rfl,xs,hq⟩| ⟨rfl,o,hk,hc,hd⟩| ⟨rfl,hk⟩| ⟨rfl,S,n,hk⟩
  · obtain ⟨its,_,pl,_⟩:=I.list hq;refine ⟨pl.isList.typeIs,fun a e=>?_⟩;cases e;obtain ⟨o,n,e,c,hd,_⟩:=pl;exact ⟨o,e,hd⟩
  · refine ⟨⟨o,I.kIn p o hk,hc⟩,fun a e=>?_⟩;cases e;exact ⟨o,I.kIn _ o hk,hd⟩
  · have z: ∃o,s.heap.get? p=some o/\o.ExactDict:=by
     rcases hk with ⟨kvs,hk⟩| ⟨kvs,hk⟩
     · obtain ⟨_,_,_,_,o,_,_,e,ex,_⟩:=I.hok p _ hk;exact ⟨o,e,ex⟩
     · obtain ⟨_,_,_,_,o,_,_,e,ex,_⟩:=I.hok p _ hk;exact ⟨o,e,ex⟩
    obtain ⟨o,e,ex⟩:=z;refine ⟨⟨o,e,ex.1⟩,fun a e2=>?_⟩;cases e2;exact ⟨o,e,ex.2.1⟩
  · obtain ⟨o,_,_,_,e,ex,_⟩:=I.hok p _ hk;refine ⟨⟨o,e,ex.1⟩,fun a e2=>?_⟩;cases e2;exact ⟨o,e,ex.2.1⟩
 |_=>exact acb ty
def tBM0 (K:aab) (T:String) (r:V->List V->Hp->VK->Prop) (to:TE):TE:=fun σ H Q=>to σ H fun x H1=>tyV K T x H1/\r x [] H1 Q
def tBM (K:aab) (T:String) (r:V->List V->Hp->VK->Prop) (to:TE) (t:TA):TE:=fun σ H Q=>to σ H fun x H1=>tyV K T x H1/\t σ H1 fun xs H2=>r x xs H2 Q
variable {o e:Expr} {es:List Expr} {to:TE} {t:TA} {name:Str} {apos cpos:Pos} {T id:String} {r:V->List V->Hp->VK->Prop}
def jbH (pa:PlainAttrs T) (slot:Slot T name id) (hty:typeOf (.builtin id)=pure (.type "method_descriptor")) (hm:MtR X id r) (ho:PE X o to)
  (hbase:abL o name X.env (eval o X.env)=eval o X.env:=by rfl) (hline:(apos.endLine==cpos.line)=true:=by rfl):PE X (.Call (.Attribute o name apos) [] [] cpos) (tBM0 X.K T r to):=by
 intro pins s σ H Q I h;refine wpAny_Call_method0_late hbase hline (thn (ho pins s σ H _ I h) fun v s1 ⟨x,H1,I1,r1,ty,q1⟩=>?_);obtain ⟨h1,h2⟩:=jby I1 r1 ty;exact ⟨T,id,pa,slot,hty,h1,h2,Calls.callWith_builtin rfl (PySem.evalArgs_none (hm pins s1 σ H1 x [] v [] Q I1 r1 .nil q1))⟩
def jcv (pa:PlainAttrs T) (slot:Slot T name id) (hty:typeOf (.builtin id)=pure (.type "method_descriptor")) (hm:MtR X id r) (ho:PE X o to) (ha:PA X (e::es) t)
  (hbase:abL o name X.env (eval o X.env)=eval o X.env:=by rfl)
  (hfew:((abQ cpos (aan (e::es) X.env)).all (fun x=>!x.1)&&(aed cpos (acK [] X.env)).all (fun x=>x.1.isSome)
   &&decide ((e::es).length+([]:List adN).length+(if ([]:List adN).isEmpty then 0 else 1)<30))=true:=by rfl)
  (hline:(apos.endLine==cpos.line)=true:=by rfl) (hs:WS X e es:=by rfl) (hplain:Vv X cpos es:=by rfl):
  PE X (.Call (.Attribute o name apos) (e::es) [] cpos) (tBM X.K T r to t):=by
 intro pins s σ H Q I h;refine wpAny_Call_method_late hbase hfew hline rfl (thn (ho pins s σ H _ I h) fun v s1 ⟨x,H1,I1,r1,ty,q1⟩=>?_);obtain ⟨h1,h2⟩:=jby I1 r1 ty;refine ⟨T,id,pa,slot,hty,h1,h2,?_⟩;have hA:=ha cpos pins s1 σ H1 _ I1 q1;rw [hs] at hA ⊢;refine Calls.callWith_builtin (by show (false|| (abQ cpos (aan es X.env)).any (·.1))=false;rw [hplain]<;>rfl) (Calls.evalArgs_plain ?_);exact thn hA fun us s2 ⟨vs,H2,I2,r2,q2⟩=>hm pins s2 σ H2 x vs v us Q I2 r1 r2 q2
/-xs.append(e),list.index on a module's tuple .. are MtR facts of 06m-/
end
def MtM (X:Cx) (id:String) (r:V->List V->Hp->VK->Prop):Prop:=
 ∀(pins:List (Addr×Obj)) (s:aaf) (σ:St) (H:Hp) (x:V) (xs:List V) (v:Value) (us:List Value) (Q:VK),Inv X pins σ H s->RelV x v->Vals xs us->r x xs H Q->
  wpAny (model X.prog X.w) X.A (call (.builtin id) (v::us)) (EP X pins σ Q) X.xe s
theorem Vals.one: ∀ {x:V} {us:List Value},Vals [x] us-> ∃u,us=[u]/\RelV x u
 |_,_,.cons r .nil=>⟨_,rfl,r⟩
theorem Vals.zero: ∀ {us:List Value},Vals [] us->us=[]
 |_,.nil=>rfl
def Vals.dropLast {xs:List V} {us:List Value} (h:Vals xs us):Vals xs.dropLast us.dropLast:=by
 induction h with
 |nil=>exact .nil
 |cons r t ih=>
  cases t with
  |nil=>exact .nil
  |cons q t'=>exact .cons r ih
theorem Vals.rep {xs:List V} {us:List Value} (h:Vals xs us): ∀k:Nat,Vals (aaE k xs).flatten (aaE k us).flatten
 |0=> .nil
 |k+1=>by
  rw [abt,abt,ace,ace];exact Vals.append h (Vals.rep h k)
def Ua {α:Type} (l:List α):l.eraseIdx (l.length-1)=l.dropLast:=by
 induction l with
 |nil=>rfl
 |cons a r ih=>
  cases r with
  |nil=>rfl
  |cons b r=>
   have e:(a::b::r).length-1=((b::r).length-1)+1:=by
    have h1:(a::b::r).length=r.length+2:=rfl;have h2:(b::r).length=r.length+1:=rfl;omega
   rw [e,List.eraseIdx_cons_succ,ih]
   all_goals rfl
theorem Xx (its:List Value): ∀(k:Nat) (acc:List Value),
  List.foldl (fun x1 x2=>x1++x2) acc.toArray (aaE k its.toArray)=(acc++(aaE k its).flatten).toArray
 |0,acc=>by simp
 |k+1,acc=>by
  have e:acc.toArray++its.toArray=(acc++its).toArray:=by simp
  have e2:(acc++its)++(aaE k its).flatten=acc++(aaE (k+1) its).flatten:=by
   rw [abt,ace,aaW]
  rw [←e2,←Xx its k (acc++its),←e,abt,aej]
section
variable {X:Cx} {pins:List (Addr×Obj)} {σ:St} {H:Hp} {s:aaf} {l b:Addr} {xs ys zs:List V}
def Inv.lset {its its':List Value} {n:Nat} {f:Array Value->Array Value} {t':Nat} (I:Inv X pins σ H s) (hH:H l=some (.lst xs))
  (e:s.heap.get? l=some {cls:= .type "list",data:= .seq its.toArray n}) (hf:f its.toArray=its'.toArray) (hv:Vals ys its') (hz:ys.length<=aah):
  Inv X pins σ (upd H l (.lst ys)) {s with heap:=s.heap.update l (acn f),toks:=t'}:=by
 have q:=PySem.IsL.update e f;rw [hf] at q;refine I.write (x:=l) (e:=l) (by rw [hH];exact trivial) (.inl rfl) (fun b' u hb hu=>(abi s.heap (acn f) (acD hb)).trans hu) ⟨_,q⟩ ?_;exact ⟨hz,its',_,hv,q⟩
def Inv.lnew {its:List Value} {t':Nat} (I:Inv X pins σ H s) (hv:Vals ys its) (hz:ys.length<=aah):
  Inv X pins σ (upd H s.heap.objs.size (.lst ys)) {s with heap:=s.heap.push {cls:= .type "list",data:= .seq its.toArray},toks:=t'}:=
 I.laid (fun _ _ q=>aad _ q) (aai _) ⟨hz,its,0,hv,aaq _ rfl⟩
def Inv.fresh (I:Inv X pins σ H s):H s.heap.objs.size=none:=I.hok.fresh (aai _)
def Inv.lstM (I:Inv X pins σ H s) (hH:H l=some (.lst xs)):xs.length<=aah/\ ∃(its:List Value) (n:Nat),Vals xs its/\xs.length=its.length/\s.heap.get? l=some {cls:= .type "list",data:= .seq its.toArray n}:=by
 obtain ⟨z,its,n,r,e⟩:=I.hok l _ hH;exact ⟨z,its,n,r,r.length,e⟩
def Z3 {n:Nat} (h:n<=aah):abI n=false:=by
 unfold abI;exact decide_eq_false (by omega)
end
section
variable {X:Cx}
def jcl:V->List V->Hp->VK->Prop:=fun x vs H Q=> ∃l xs y,x= .ref l/\vs=[y]/\H l=some (.lst xs)/\xs.length<aah/\Q .non (upd H l (.lst (xs++[y])))
def Xg:MtM X "list.append" jcl:=by
 intro pins s σ H x vs v us Q I rx rv h;obtain ⟨l,xs,y,rfl,rfl,hH,hz,q⟩:=h;cases rx;obtain ⟨u,rfl,ru⟩:=rv.one;obtain ⟨z,its,n,r,hl,e⟩:=I.lstM hH;refine adO F.slot_list_append ⟨_,e,rfl⟩ F.entry_list_append (F.args_list_append_2 _ _) (PySem.list_append l its.toArray n u (by rw [aag];omega)) ⟨e,?_⟩;refine ⟨.non,_,I.lset (its':=its++[u]) hH e (by simp) (r.append (.cons ru .nil)) ?_,rfl,q⟩;rw [aau,acX];omega
def jcj:V->List V->Hp->VK->Prop:=fun x vs H Q=> ∃l b xs zs,x= .ref l/\vs=[.ref b]/\H l=some (.lst xs)/\H b=some (.lst zs)/\xs.length+zs.length<=aah/\Q .non (upd H l (.lst (xs++zs)))
def kY:MtM X "list.extend" jcj:=by
 intro pins s σ H x vs v us Q I rx rv h;obtain ⟨l,b,xs,zs,rfl,rfl,hH,hB,hz,q⟩:=h;cases rx;obtain ⟨u,rfl,ru⟩:=rv.one;cases ru;obtain ⟨z,its,n,r,hl,e⟩:=I.lstM hH;obtain ⟨z2,its2,n2,r2,hl2,e2⟩:=I.lstM hB;have hsz:its.toArray.size+its2.toArray.size<=aah:=by rw [aag,aag];omega
 have hlong: ¬(!its.toArray.isEmpty&&abI (its.toArray.size+its2.toArray.size))=true:=by
  rw [Z3 hsz,adb];exact aaB
 refine adO ad8 ⟨_,e,rfl⟩ F.entry_list_extend (F.args_list_extend_2 _ _)
  (AutoSeq1.list_extend_list_list_0 l its.toArray n b its2.toArray n2 hlong (by rw [aag];omega) (by omega)) ⟨e,e2,?_⟩
 refine ⟨.non,_,I.lset (its':=its++its2) hH e (by simp) (r.append r2) ?_,rfl,q⟩;rw [aau];omega
def rPop:V->List V->Hp->VK->Prop:=fun x vs H Q=> ∃l xs y,x= .ref l/\vs=[]/\H l=some (.lst xs)/\xs[xs.length-1]?=some y/\Q y (upd H l (.lst xs.dropLast))
def jeP:MtM X "list.pop" rPop:=by
 intro pins s σ H x vs v us Q I rx rv h;obtain ⟨l,xs,y,rfl,rfl,hH,hy,q⟩:=h;cases rx;have hus:=rv.zero;subst hus;obtain ⟨z,its,n,r,hl,e⟩:=I.lstM hH;obtain ⟨u,hu,ru⟩:=r.get hy
 have hy':its.toArray[its.toArray.size-1]?=some u:=by
   show its.toArray[its.length-1]?=some u;rw [←aar,←hl];exact hu
 refine adO F.slot_list_pop ⟨_,e,rfl⟩ F.entry_list_pop (F.args_list_pop_1 _) (MeetsSeq.list_pop_last l its.toArray n u hy' (by rw [aag];omega)) ⟨e,?_⟩;refine ⟨y,_,I.lset (its':=its.dropLast) hH e ?_ r.dropLast ?_,ru,q⟩
 · show its.toArray.eraseIdxIfInBounds (its.toArray.size-1)=its.dropLast.toArray;rw [aag,List.eraseIdxIfInBounds_toArray,Ua]
 · rw [List.length_dropLast];omega
def jef:V->List V->Hp->VK->Prop:=fun x vs H Q=> ∃l xs,x= .ref l/\vs=[]/\H l=some (.lst xs)/\Q .non (upd H l (.lst []))
def jaF:MtM X "list.clear" jef:=by
 intro pins s σ H x vs v us Q I rx rv h;obtain ⟨l,xs,rfl,rfl,hH,q⟩:=h;cases rx;have hus:=rv.zero;subst hus;obtain ⟨z,its,n,r,hl,e⟩:=I.lstM hH;refine adO F.slot_list_clear ⟨_,e,rfl⟩ F.entry_list_clear (F.args_list_clear_1 _) (AutoSeq1.list_clear_list_0 l its.toArray n (by rw [aag];omega)) ⟨e,?_⟩;exact ⟨.non,_,I.lset (its':=[]) (ys:=[]) hH e rfl .nil (aba _),rfl,q⟩
def rCat:R2:=fun x y H Q=> ∃l b xs zs,x= .ref l/\y= .ref b/\H l=some (.lst xs)/\H b=some (.lst zs)/\xs.length+zs.length<=aah/\ ∀p,H p=none->Q (.ref p) (upd H p (.lst (xs++zs)))
def op_cat:OpR X (abV .Add) rCat:=by
 intro pins s σ H x y v u Q I rx ry h;obtain ⟨l,b,xs,zs,rfl,rfl,hH,hB,hz,q⟩:=h;cases rx;cases ry;obtain ⟨z,its,n,r,hl,e⟩:=I.lstM hH;obtain ⟨z2,its2,n2,r2,hl2,e2⟩:=I.lstM hB;refine PySem.P.add_list e e2 ?_ (by rw [aag,aag];omega);have ea:its.toArray++its2.toArray=(its++its2).toArray:=by simp
 rw [ea];exact ⟨.ref _,_,I.lnew (t':=s.toks) (r.append r2) (by rw [aau];omega),rfl,q _ I.fresh⟩
def rRep:R2:=fun x y H Q=> ∃l k xs,x= .ref l/\y= .int k/\H l=some (.lst xs)/\ -(2^63)<=k/\k<2^63/\xs.length*k.toNat<=aah/\
 ∀p,H p=none->Q (.ref p) (upd H p (.lst (aaE k.toNat xs).flatten))
def jcO {α:Type} (xs:List α) (k:Nat):(aaE k xs).flatten.length=k*xs.length:=by
 induction k with
 |zero=>simp
 |succ k ih=>rw [abt,ace,aau,ih,Nat.succ_mul,Nat.add_comm]
def Km:OpR X (abV .Mult) rRep:=by
 intro pins s σ H x y v u Q I rx ry h;obtain ⟨l,k,xs,rfl,rfl,hH,h1,h2,hz,q⟩:=h;cases rx;obtain ⟨t,rfl⟩:=ry;obtain ⟨z,its,n,r,hl,e⟩:=I.lstM hH;have hlen:its.toArray.size*k.toNat<=aah:=by rw [aag,←hl];exact hz
 have hcap: ¬its.toArray.size*k.toNat>(2^63-1)/8:=by
  have:(aah:Nat)<=(2^63-1)/8:=by decide
  omega
 have hfit: ¬(!Builtin.List.listFitsIndex k)=true:=by
  rw [fitsIndex_both h1 h2];exact aaB
 have hlong: ¬abI (its.toArray.size*k.toNat)=true:=by
  rw [Z3 hlen];exact aaB
 have hnew:List.foldl (fun x1 x2=>x1++x2) #[] (aaE (if its.toArray.isEmpty=true then 0 else k.toNat) its.toArray)=(aaE k.toNat its).flatten.toArray:=by
  have f0: ∀m:Nat,List.foldl (fun x1 x2=>x1++x2) #[] (aaE m its.toArray)=(aaE m its).flatten.toArray:=fun m=>by
   have:=Xx its m [];rw [List.nil_append] at this;exact this
  rw [f0]
  cases its with
  |nil=>simp
  |cons a r'=>rw [if_neg (by simp)]
 refine wpAny_binaryOp_repeat_ref (T:= "list") (U:= "int") (by decide) ⟨_,e,rfl⟩ (fun s'=>typeIs_int s' k t) noFill_list_mul F.fills_int_mul F.slot_int_rmul repeat_list F.slot_int_index.lookup
  (adO F.slot_int_rmul (typeIs_int s k t) F.entry_int_rmul (F.args_int_rmul_2 _ _) (int___rmul___int_list k t l its.toArray n)
   ⟨e,rfl,⟨_,e,rfl⟩,adO F.slot_list_mul ⟨_,e,rfl⟩ F.entry_list_mul (F.args_list_mul_2 _ _) (AutoListH.list___mul___list_int_3 l its.toArray n k t hfit hcap hlong) ⟨e,?_⟩⟩)
 rw [hnew];exact ⟨.ref _,_,I.lnew (t':=s.toks) (r.rep k.toNat) (by rw [jcO,Nat.mul_comm];exact hz),rfl,q _ I.fresh⟩
end
section
variable {κ:Type} [DecidableEq κ]
def valV (kvs:List (κ×V)) (k:κ):Option V:=(kvs.find? fun kv=>decide (kv.1=k)).map (·.2)
def putK (kvs:List (κ×V)) (k:κ) (v:V):List (κ×V):=
 if (kvs.any fun kv=>decide (kv.1=k))=true then kvs.map (fun kv=>if kv.1=k then (kv.1,v) else kv) else kvs++[(k,v)]
def Y1 {p:κ×V} {r:List (κ×V)} {k:κ} (e:p.1=k):valV (p::r) k=some p.2:=by simp [valV,aek,e]
def Y2 {p:κ×V} {r:List (κ×V)} {k:κ} (e: ¬p.1=k):valV (p::r) k=valV r k:=by simp [valV,aek,e]
theorem Y3 (k:κ): ∀kvs:List (κ×V),(kvs.any fun kv=>decide (kv.1=k))=(valV kvs k).isSome
 | []=>rfl
 |p::r=>by
  rw [adz]
  by_cases e:p.1=k
  · simp only [Y1 e,decide_eq_true e,Bool.true_or,Option.isSome_some]
  · rw [Y2 e,decide_eq_false e,Bool.false_or];exact Y3 k r
def QG (kvs:List (κ×V)) (k:κ) (v:V):(putK kvs k v).length<=kvs.length+1:=by
 unfold putK
 split
 · rw [aak];omega
 · rw [aau,aal,aaR];omega
def RelO.isSome_eq {o:Option V} {u:Option Value} (r:RelO o u):o.isSome=u.isSome:=by
 cases o with
 |none=>cases u with
  |none=>rfl
  |some _=>exact (show False from r).elim
 |some _=>cases u with
  |none=>exact (show False from r).elim
  |some _=>rfl
def KV.any {kvs:List (κ×V)} {vs:List (κ×Value)} (r:KV kvs vs) (k:κ):(kvs.any fun kv=>decide (kv.1=k))=vs.any fun kv=>decide (kv.1=k):=by
 unfold KV at r
 induction r with
 |nil=>rfl
 |cons h t ih=>rw [adz,adz,ih,h.1]
def KV.repl {kvs:List (κ×V)} {vs:List (κ×Value)} (r:KV kvs vs) (k:κ) {y:V} {u:Value} (ry:RelV y u):
  KV (kvs.map fun kv=>if kv.1=k then (kv.1,y) else kv) (vs.map fun kv=>if kv.1=k then (kv.1,u) else kv):=by
 unfold KV at r ⊢
 induction r with
 |nil=>exact .nil
 | @cons p q ps qs h t ih=>
  rw [aaN,aaN];refine .cons ?_ ih;obtain ⟨h1,h2⟩:=h
  by_cases e:p.1=k
  · rw [if_pos e,if_pos (h1.symm.trans e)];exact ⟨h1,ry⟩
  · rw [if_neg e,if_neg (fun z=>e (h1.trans z))];exact ⟨h1,h2⟩
def KV.put {kvs:List (κ×V)} {vs:List (κ×Value)} (r:KV kvs vs) (k:κ) {y:V} {u:Value} (ry:RelV y u):KV (putK kvs k y) (stored vs k u):=by
 unfold putK stored;rw [r.any k]
 by_cases e:(vs.any fun kv=>decide (kv.1=k))=true
 · rw [if_pos e,if_pos e];exact r.repl k ry
 · rw [if_neg e,if_neg e];exact Paired.snoc r ⟨rfl,ry⟩
def KV.keys {kvs:List (κ×V)} {vs:List (κ×Value)} (r:KV kvs vs):kvs.map (·.1)=vs.map (·.1):=by
 unfold KV at r
 induction r with
 |nil=>rfl
 |cons h t ih=>rw [aaN,aaN,ih,h.1]
def KV.length {kvs:List (κ×V)} {vs:List (κ×Value)} (r:KV kvs vs):kvs.length=vs.length:=aeV r
end
def jeW {P:aaH} {w:World} {k:Key} {u:Value} (r:RelV (kV k) u):(qt P w).is k u=true:=by
 cases k with
 |inl i=>obtain ⟨t,e⟩:=(show∃t,u=aeI i t from r);subst e;exact Yv P w i t
 |inr x=>obtain ⟨t,e⟩:=(show∃t,u=Value.str x t from r);subst e;exact Yu P w x t
theorem Xn {P:aaH} {w:World}: ∀ {ks:List Key} {us:List Value},Vals (ks.map kV) us->ItemsAre (qt P w) ks us
 | [],_,r=>by rw [List.map_nil] at r;cases r;exact .nil
 |k::ks,_,r=>by
  rw [aaN] at r
  cases r with
  |cons h t=>exact .cons (jeW h) (Xn t)
abbrev KT (H:Hp):List (List Key×V)->List (List Key×Addr×Value)->Prop:=Paired fun p q=>p.1=q.1/\H q.2.1=some (.tup (p.1.map kV))/\RelV p.2 q.2.2
def KT.val {H:Hp} {kvs:List (List Key×V)} {xs:List (List Key×Addr×Value)} (r:KT H kvs xs) (k:List Key):RelO (valV kvs k) ((atKey xs k).map (·.2)):=by
 induction r with
 |nil=>exact ac2
 | @cons p q ps qs h t ih=>
  obtain ⟨h1,_,h2⟩:=h
  by_cases e:p.1=k
  · have e':q.1=k:=h1.symm.trans e;have b:atKey (q::qs) k=some q.2:=by simp [atKey,aek,e']
    rw [Y1 e,b];exact h2
  · have e': ¬q.1=k:=fun z=>e (h1.trans z)
    have b:atKey (q::qs) k=atKey qs k:=by simp [atKey,aek,e']
    rw [Y2 e,b];exact ih
def KT.repl {H:Hp} {kvs:List (List Key×V)} {xs:List (List Key×Addr×Value)} (r:KT H kvs xs) (k:List Key) {y:V} {u:Value} (ry:RelV y u):
  KT H (kvs.map fun kv=>if kv.1=k then (kv.1,y) else kv) (xs.map (putAt k u)):=by
 induction r with
 |nil=>exact .nil
 | @cons p q ps qs h t ih=>
  rw [aaN,aaN];refine .cons ?_ ih;obtain ⟨h1,h2,h3⟩:=h;unfold putAt
  by_cases e:p.1=k
  · rw [if_pos e,if_pos (h1.symm.trans e)];exact ⟨h1,h2,ry⟩
  · rw [if_neg e,if_neg (fun z=>e (h1.trans z))];exact ⟨h1,h2,h3⟩
def KT.put {H:Hp} {kvs:List (List Key×V)} {xs:List (List Key×Addr×Value)} (r:KT H kvs xs) (k:List Key) {b:Addr} {y:V} {u:Value} (hb:H b=some (.tup (k.map kV))) (ry:RelV y u):
   KT H (putK kvs k y) (storedH xs k b u):=by
 have e:(kvs.any fun kv=>decide (kv.1=k))=(atKey xs k).isSome:=by
   rw [Y3,(r.val k).isSome_eq,Option.isSome_map]
 unfold putK storedH;rw [e]
 by_cases q:(atKey xs k).isSome=true
 · rw [if_pos q,if_pos q];exact r.repl k ry
 · rw [if_neg q,if_neg q];exact Paired.snoc r ⟨rfl,hb,ry⟩
def KT.keeps {H H':Hp} {kvs:List (List Key×V)} {xs:List (List Key×Addr×Value)} (r:KT H kvs xs) (ht: ∀b ys,H b=some (.tup ys)->H' b=some (.tup ys)):KT H' kvs xs:=
 Paired.mapP r fun _ _ z=>⟨z.1,ht _ _ z.2.1,z.2.2⟩
section
variable {P:aaH} {w:World} {H:Hp} {h:Heap} {a:Addr}
def jed {u:HO} (ok:HOk P w H h) (e:Rd H a u):ObjOk P w H h a u:=e.ok ok
def jge {kvs:List (Key×V)} (ok:HOk P w H h) (e:Rd H a (.dK kvs)):kvs.length<=aah/\(a==aca)=false/\ ∃vs,KV kvs vs/\h.DictOf (qt P w) a vs:=
 show ObjOk P w H h a (.dK kvs) from jed ok e
def jff {kvs:List (Key×V)} (ok:HOk P w H h) (e:H a=some (.dK kvs)):kvs.length<=aah/\(a==aca)=false/\ ∃vs,KV kvs vs/\h.DictOf (qt P w) a vs:=jge ok (.inl e)
def Kw {ks:List Key} (ok:HOk P w H h) (e:H a=some (.tup (ks.map kV))):(tupleKind (qt P w)).is h ks a:=by
 obtain ⟨_,its,r,o,h1,h2,n,h3⟩:=(show ObjOk P w H h a (.tup (ks.map kV)) from ok a _ e)
 exact ⟨o,its.toArray,n,h1,h2,h3,by simpa using Xn r⟩
def jgb {kvs:List (List Key×V)} (ok:HOk P w H h) (e:Rd H a (.dT kvs)):kvs.length<=aah/\(a==aca)=false/\
  ∃xs,KT H kvs xs/\h.DictOfH (tupleKind (qt P w)) a xs:=by
 obtain ⟨z,y,xs,r,o,es,ep,h1,h2,h3,h4,h5⟩:=(show ObjOk P w H h a (.dT kvs) from jed ok e)
 refine ⟨z,y,xs,r,o,es,ep,h1,h2,h3,h4,fun x hx=>?_,h5⟩
 have all: ∀ {l:List (List Key×V)} {m:List (List Key×Addr×Value)},KT H l m-> ∀x∈m,(tupleKind (qt P w)).is h x.1 x.2.1:=by
  intro l m q
  induction q with
  |nil=>intro x hx;exact nomatch hx
  | @cons p q ps qs hq t ih=>
   intro x hx;rcases aam.mp hx with e|hx
   · subst e;exact Kw ok (by rw [←hq.1];exact hq.2.1)
   · exact ih x hx
 exact all r x hx
def jgc {kvs:List (List Key×V)} (ok:HOk P w H h) (e:H a=some (.dT kvs)):kvs.length<=aah/\(a==aca)=false/\
 ∃xs,KT H kvs xs/\h.DictOfH (tupleKind (qt P w)) a xs:=jgb ok (.inl e)
end
def DPut (H:Hp) (a:Addr) (y v:V) (H':Hp):Prop:=
 (∃kvs k,H a=some (.dK kvs)/\y=kV k/\kvs.length<aah/\H'=upd H a (.dK (putK kvs k v)))\/
 ∃kvs k b,H a=some (.dT kvs)/\y= .ref b/\H b=some (.tup (k.map kV))/\kvs.length<aah/\H'=upd H a (.dT (putK kvs k v))
def DPut.k {H:Hp} {a:Addr} {kvs:List (Key×V)} {k:Key} {v:V} (e:H a=some (.dK kvs)) (hl:kvs.length<aah):DPut H a (kV k) v (upd H a (.dK (putK kvs k v))):= .inl ⟨kvs,k,e,rfl,hl,rfl⟩
def DPut.t {H:Hp} {a b:Addr} {kvs:List (List Key×V)} {k:List Key} {v:V} (e:H a=some (.dT kvs)) (eb:H b=some (.tup (k.map kV))) (hl:kvs.length<aah):
 DPut H a (.ref b) v (upd H a (.dT (putK kvs k v))):= .inr ⟨kvs,k,b,e,rfl,eb,hl,rfl⟩
section
variable {X:Cx} {pins:List (Addr×Obj)} {σ:St} {H:Hp} {s:aaf} {a:Addr} {y v:V} {u r:Value} {o:Option V} {A:aa3} {E:X6}
def Inv.big (I:Inv X pins σ H s):aca<s.heap.objs.size:=by
 have h:aaw<s.heap.objs.size:=(I.mod.glob.keeps I.bk).lt;exact Nat.lt_trans (by decide) h
def ul {h':Heap} {t':Nat} {ob:HO} (I:Inv X pins σ H s) (mu:Mut (H a)) (hs:abZ a s.heap h') (he: ∃q,h'.get? a=some q) (new:ObjOk X.prog X.w (upd H a ob) h' a ob):
  Inv X pins σ (upd H a ob) {s with heap:=h',toks:=t'}:=
 I.write (x:=a) (e:=a) mu (.inl rfl) (fun b q hb z=>(hs.2 b hb).trans z) he new
def jfg {P:aaH} {w:World} {H':Hp} {h':Heap} {kvs:List (Key×V)} {vs:List (Key×Value)} (z:kvs.length<=aah) (hd:(a==aca)=false) (rel:KV kvs vs) (dd:h'.DictOf (qt P w) a vs):
 ObjOk P w H' h' a (.dK kvs):=⟨z,hd,vs,rel,dd⟩
def um {H':Hp} {Q:Unit->aaf->Prop} (hu:A.units+1<cLine) (I:Inv X pins σ H s) (g:DPut H a y v H') (ry:RelV y u) (rv:RelV v r) (h: ∀s',Inv X pins σ H' s'->Q () s'):
   wpAny (model X.prog X.w) A (setItem (.ref a) u r) Q E s:=by
 rcases g with ⟨kvs,k,e,ey,l,eH⟩| ⟨kvs,k,b,e,ey,eb,l,eH⟩
 · subst ey eH;obtain ⟨z,hd,vs,rel,dd⟩:=jff I.hok e;have hz:vs.length<=aah:=by rw [←rel.length];exact z
   have hl:(putK kvs k v).length<=aah:=by have:=QG kvs k v;omega
   refine wpAny_setItem_pairs (hsz:=hz) (jeW ry) dd fun h' dd' hs=>h _ ?_
   have he: ∃q,h'.get? a=some q:=let ⟨q,_,_,hq,_⟩:=dd';⟨q,hq⟩
   exact ul I (by rw [e];exact ac2) hs he (jfg hl hd (rel.put k rv) dd')
 · subst ey eH;cases (show u=aaJ b from ry);obtain ⟨z,hd,xs,rel,dd⟩:=jgc I.hok e;have hz:xs.length<=aah:=by rw [←aeV rel];exact z
   have hl:(putK kvs k v).length<=aah:=by have:=QG kvs k v;omega
   refine wpAny_setItem_heap (hsz:=hz) (tupleKind_room_in1 hu) (Kw I.hok eb) dd fun h' dd' hs=>h _ ?_
   obtain ⟨q,es,ep,hq,h2,h3,h4,_,h5⟩:=dd';refine ul I (by rw [e];exact ac2) hs ⟨q,hq⟩ ⟨hl,hd,_,(rel.put k eb rv).keeps fun c ys ec=>?_,q,es,ep,hq,h2,h3,h4,h5⟩;rw [jx (jf0 ec e (fun z=>nomatch z))];exact ec
end
def jfL (td ty tv:TE):TS:=fun D σ H=>tv σ H fun v H1=>td σ H1 fun x H2=>ty σ H2 fun y H3=> ∃a H4,x= .ref a/\DPut H3 a y v H4/\D.nx σ H4
section
variable {X:Cx} {o i e value:Expr} {pos pos' tpos:Pos} {td ty tv:TE}
def kr (hu:X.A.units+1<cLine) (ho:PE X o td) (hi:PE X i ty) (hv:PE X value tv) (hs:acp value (some (.Subscript o i pos')) pos.line X.env=pure false):
  PS X (.Assign [.Subscript o i pos'] value pos) (jfL td ty tv):=by
 intro pins s σ H D I h;refine wpAny_Assign_Subscript (thn (hv pins s σ H _ I h) fun r s1 ⟨v,H1,I1,rv,q1⟩=>thn (ho pins s1 σ H1 _ I1 q1) fun u s2 ⟨x,H2,I2,rx,q2⟩=>thn (hi pins s2 σ H2 _ I2 q2) fun iv s3 ⟨y,H3,I3,ry,a,H4,ex,g,q3⟩=>?_) hs;subst ex;obtain rfl:u=aaJ a:=rx;exact um hu I3 g ry rv fun s4 I4=>⟨σ,H4,I4,q3⟩
end
def jbj {P:aaH} {w:World} {H:Hp} (h:Heap) (hb:aca<h.objs.size):ObjOk P w H (h.push {cls:= .type "dict",data:= .dict #[]}) h.objs.size (.dK []):=
 ⟨aba _,beq_eq_false_iff_ne.mpr (acD (aaC hb)),[],.nil,Heap.DictOf.new h⟩
def jbb {P:aaH} {w:World} {H:Hp} (h:Heap) (hb:aca<h.objs.size):ObjOk P w H (h.push {cls:= .type "dict",data:= .dict #[]}) h.objs.size (.dT []):=
 ⟨aba _,beq_eq_false_iff_ne.mpr (acD (aaC hb)),[],.nil,_, #[],0,aaq _ rfl,⟨rfl,rfl,rfl⟩,rfl,rfl,acP⟩
def jd2:TE:=fun _ H Q=> ∀p,H p=none->Q (.ref p) (upd H p (.dK []))
def jd1:TE:=fun _ H Q=> ∀p,H p=none->Q (.ref p) (upd H p (.dT []))
section
variable {X:Cx} {pos:Pos}
def jan:PE X (.Dict [] [] pos) jd2:=fun pins s σ H Q I h=>
 wpAny_Dict_empty ⟨.ref s.heap.objs.size,_,I.laid (a:=s.heap.objs.size) (o:= .dK []) (t':=s.toks) (fun _ _ q=>aad _ q) (aai _) (jbj s.heap I.big),rfl,h _ (I.hok.fresh (aai _))⟩
def jam:PE X (.Dict [] [] pos) jd1:=fun pins s σ H Q I h=>
 wpAny_Dict_empty ⟨.ref s.heap.objs.size,_,I.laid (a:=s.heap.objs.size) (o:= .dT []) (t':=s.toks) (fun _ _ q=>aad _ q) (aai _) (jbb s.heap I.big),rfl,h _ (I.hok.fresh (aai _))⟩
end
structure M1 (X:Cx) (o:Expr) (m:Str) (apos:Pos) (e:Expr) (cpos:Pos):Prop where
 base:abL o m X.env (eval o X.env)=eval o X.env
 few:((abQ cpos (aan [e] X.env)).all (fun x=>!x.1)&&(aed cpos (acK [] X.env)).all (fun x=>x.1.isSome)
  &&decide (([e]:List Expr).length+([]:List adN).length+(if ([]:List adN).isEmpty then 0 else 1)<30))=true
 line:(apos.endLine==cpos.line)=true
 trees:abQ cpos (aan [e] X.env)=[(false,eval e X.env)]
structure M2 (X:Cx) (o:Expr) (m:Str) (apos:Pos) (e f:Expr) (cpos:Pos):Prop where
 base:abL o m X.env (eval o X.env)=eval o X.env
 few:((abQ cpos (aan [e,f] X.env)).all (fun x=>!x.1)&&(aed cpos (acK [] X.env)).all (fun x=>x.1.isSome)
  &&decide (([e,f]:List Expr).length+([]:List adN).length+(if ([]:List adN).isEmpty then 0 else 1)<30))=true
 line:(apos.endLine==cpos.line)=true
 trees:abQ cpos (aan [e,f] X.env)=[(false,eval e X.env),(false,eval f X.env)]
end L2
namespace Att
open PySem PySem.W PySem.Calls PyProof.Rows
def QO {P:Params} {h:Heap}: ∀(ns:List Int) (vs:List Value),WellAll P h vs (ns.map WData.int)->IntsAre vs ns:=by
 intro ns
 induction ns with
 |nil=>
  intro vs w;rw [List.map_nil] at w;cases w;exact .nil
 |cons n ns ih=>
  intro vs w;rw [aaN] at w
  cases w with
  |cons a b=>
   cases a;exact .cons _ _ (ih _ b)
def U6 {l:ae6} {n:Nat} (hn:l.most=some n) {P:Params} {h:Heap} {args:List WData} {vals:List Value}
  (hpre:l.row.toRowW.claim.pre args=true) (hwl:WellAll P h vals args):
  ∃a vs ns,vals=[aaJ a]/\args=[WData.list (ns.map WData.int)]/\h.get? a=some {cls:= .type "list",data:= .seq vs.toArray}/\IntsAre vs ns/\ns.length<=n:=by
 have hsh:WShape.hasAll [] args [.list .int]=true:=(pre_splitW hpre).1;have hc:l.pre.holds [] {args:=args}=true:=(pre_splitW hpre).2;obtain ⟨d,r,rfl,h1,h2⟩:=hasAllW_cons hsh;obtain rfl:=hasAllW_nil h2;obtain ⟨xs,rfl,h3⟩:=hasW_list h1;obtain ⟨ns,rfl⟩:=items_int h3
 have hlen:ns.length<=n:=by
  unfold OpenLaw.pre at hc
  have h4:(WTm.not (.lt (.lit (.int (n:Int))) (.len (.arg 0)))).holds [] {args:=[.list (ns.map .int)]}=true:=by
   have h4:=(holds_andW hc).1;rw [hn] at h4;exact h4
  have h5:=condW_of h4 (w_not (w_lt w_lit (w_len_list (w_arg rfl))));rw [aak] at h5;refine adk fun q=>?_
  have q':(n:Int)< ((ns.length:Nat):Int):=by omega
  first
   | (rw [decide_eq_true q'] at h5;exact absurd h5 (by decide))
   | (simp at h5;omega)
 cases hwl with
 |cons w1 w2=>
  cases w2
  cases w1 with
  |list ho hall=>exact ⟨_,_,ns,rfl,rfl,ho,QO ns _ hall,hlen⟩
def ku (l:ae6) (args:List WData):l.row.toRowW.claim.post args (.bool true) args=true:=
 postW_of (r:=l.row.toRowW) (X:=(true==true))
  (show WShape.has [] (.bool true) .bool=true by first|rfl|decide|simp [WShape.has,WShape.arms,WShape.armsAll])
  (show (WTm.eq .res (.lit (.bool true))).value [] {args:=args,res:=some (.bool true),after:=args}=some (.bool (true==true)) from w_eq_bool (w_res rfl) w_lit) rfl
end Att
namespace L2
open PySem PySem.Spec PyProof.Rows
theorem WL: ∀ {vs:List Value} {ns:List Int},IntsAre vs ns->Vals (ns.map V.int) vs
 |_,_,.nil=> .nil
 |_,_,.cons n t h=> .cons ⟨t,rfl⟩ (WL h)
def Only (H:Hp):Prop:= ∀b,H b=none\/ ∃o xs,H b=some (.frz o (.lst xs))
def jaM {P:aaH} {w:World} {K:aab} {mg mb:X8} {CX:CXT} {k:Nat} {fa a:Addr} {fd:ab4} {x:Str} {sp:Sp} {s₁:aaf} {vs:List Value} {ns:List Int}
  (KX:K.In s₁.heap) (hns:s₁.heap.Ns aaw mg) (hb:s₁.heap.Ns builtinsNs mb) (hbb: ∀x:Str,x≠ "__name__" ->mb x=abz x) (hlim:s₁.heap.NoLimit) (hg:s₁.gens= #[])
  (ha:s₁.heap.get? a=some {cls:= .type "list",data:= .seq vs.toArray}) (hi:IntsAre vs ns) (hl:ns.length<=aah) (hr:Room k callerA)
  (F: ∀base:Heap,K.In base->base.Ns aaw mg->FnOk P w K mg base CX k fa fd [x] sp) (hbind: ∀(s:aaf) (u:Value),BindsTo s fd ⟨[u],[]⟩ [(x,u)])
  (hsp: ∀H:Hp,Only H->SqL K H a (ns.map V.int)->sp [.ref a] H (fun v _=>v= .bl true) fun _ _ _=>False)
  (hCX: ∀H e s',CX [] H s₁ (fun _ _ _=>False) e s'->False):
  adL (model P w) callerA (.call (.ref fa) ⟨[.ref a],[]⟩) (fun r s'=>r= .ok (.ret (.bool true))/\OldK s₁.heap s'.heap/\s'.os=s₁.os/\aeW s'.gens) s₁:=by
 have rv:=WL hi;have lenV:=hi.length
 have core: ∀H:Hp,Only H->SqL K H a (ns.map V.int)->HOk P w H s₁.heap->(∀b,H b≠none->b=a)->(H a≠none->K.lookup a=none)->
    adL (model P w) callerA (.call (.ref fa) ⟨[.ref a],[]⟩) (fun r s'=>r= .ok (.ret (.bool true))/\OldK s₁.heap s'.heap/\s'.os=s₁.os/\aeW s'.gens) s₁:=by
  intro H hO hS hok hA hK;have base_of: ∀ {b:Addr} {o:Obj},s₁.heap.get? b=some o->H b=none->(hidT s₁.heap H).get? b=some o:=fun e n=>jaY e n
  have noA: ∀ {b:Addr} {o:Obj} {es:Array DictEntry} {ep:Nat},s₁.heap.get? b=some o->o.data= .dict es ep->H b=none:=fun {b o es ep} e d=>by
    cases q:H b with
    |none=>rfl
    |some u=>
      have e':b=a:=hA b (by rw [q];simp);subst e';rw [ha] at e;cases e;have d':Data.seq vs.toArray _=Data.dict es ep:=d;cases d'
  have nsK: ∀ {b:Addr} {m:X8},s₁.heap.Ns b m->(hidT s₁.heap H).Ns b m:=fun {b m} ⟨o,es,ep,e,d,r⟩=>⟨o,es,ep,base_of e (noA e d),d,r⟩
  have hKb:K.In (hidT s₁.heap H):=fun b o e=>base_of (KX b o e) (by
    cases q:H b with
    |none=>rfl
    |some u=>
      have e':b=a:=hA b (by rw [q];simp);subst e'
      rw [hK (by rw [q];simp)] at e;cases e)
  have hM:Mod K mg (hidT s₁.heap H):=⟨hKb,nsK hns,⟨mb,nsK hb,hbb⟩,let ⟨mc,h1,h2⟩:=hlim;⟨mc,nsK h1,h2⟩⟩
  have e0:Env0 P w K mg (hidT s₁.heap H) callerA [] s₁ H:=⟨rfl,hM,fun b o e=>jcF e,Nat.le_of_eq (vD _ _),trivial,fun b hb=>absurd (show b∈([]:List Addr) from hb) (by simp),hok,.of_eq hg⟩
  refine adW ((F _ hKb (nsK hns)).run callerA [] s₁ H ⟨[.ref a],[]⟩ [.ref a] [.ref a] _ _ hr e0 (hbind s₁ (.ref a)) (.cons rfl .nil) (hsp H hO hS)) fun r s' h=>?_
  cases r with
  |error e=>exact (hCX H e s' h).elim
  |ok fl=>
    cases fl with
    |next=>exact acb h
    |brk=>exact acb h
    |cont=>exact acb h
    |ret u=>
      obtain ⟨v,H',os,bare,un,hok',r',q⟩:=h;have q':v= .bl true:=q;subst q';obtain rfl:u=ac1 true:=r';refine ⟨rfl,OldK.of_keep fun b o e=>?_,os,bare⟩
      cases q:H b with
      |none=>exact un.keep b o e q (by intro z;exact absurd (show b∈([]:List Addr) from z) (by simp)) (by simp)
      |some u=>
       rcases hO b with z| ⟨ob,xs,z⟩
       · rw [q] at z;cases z
       · have z2:=un.frzs b ob _ z;obtain ⟨e1,_⟩:=hok b _ z;obtain ⟨e2,_⟩:=hok' b _ z2;rw [e] at e1;cases e1;exact e2
 cases hk:K.lookup a with
 |some o=>
  have e:=KX a o hk;rw [ha] at e;cases e;refine core (fun _=>none) (fun _=> .inl rfl) (.inr ⟨_,vs.toArray,_,hk,rfl,rfl,rfl,by rw [aag,lenV];exact hl,by simpa using rv⟩) (fun b u z=>by have z':(none:Option HO)=some u:=z;cases z') (fun b z=>absurd rfl z) fun z=>absurd rfl z
 |none=>
  refine core (fun b=>if b=a then some (.frz {cls:= .type "list",data:= .seq vs.toArray} (.lst (ns.map V.int))) else none) (fun b=>?_) (.inl (.inr ⟨{cls:= .type "list",data:= .seq vs.toArray},if_pos rfl⟩)) (fun b u z=>?_) (fun b z=>?_) fun _=>hk
  · by_cases hb:b=a
    · exact .inr ⟨_,_,if_pos hb⟩
    · exact .inl (if_neg hb)
  · by_cases hb:b=a
    · have z':=(if_pos hb).symm.trans z;cases z';subst hb;exact ⟨ha,by rw [aak];exact hl,vs,_,rv,ha⟩
    · have z':=(if_neg hb).symm.trans z;cases z'
  · by_cases hb:b=a
    · exact hb
    · exact absurd (if_neg hb) z
end L2
/-THE LAST THEOREM (shape;LID,My.*are yours):
 My.Adr:a structure of the addresses that your layer names (classes,functions);My.Txt K t:a structure (Prop) of the equations over K;
 My.txt_mk:{K} {implicit addresses ..} (e1:nsIn K aaw "law" =some (some (.ref f))) (e2:K.lookup f=some ⟨oc,od,.func (fnOf "law" "law" params body scope dV kV doc pm an cdv ct),sl⟩) (e3:adH K cdv "law" =true) .. : ∃t,My.Txt K t
set_option maxRecDepth 100000 in
set_option maxHeartbeats 0 in
theorem PySem.Challenge.cw_LID_holds:PySem.Challenge.rw_LID.Holds:=by
 w_on;o_law;k_head;(case hw=>w_witness2)
 k_fill
 refine L2.walk_of (l:=PySem.Challenge.rw_LID) (n:=63) (k:=40) (x:= "script") (CX:=fun w=> ..) (sp:=fun _=>My.sp_law) rfl (by decide) rfl ⟨rfl,by decide,by decide⟩ (fun w h Y=>PySem.W.kIn_of Y) ?F ?S ?C
 case F=>
  intro w mg fa h KX G hmg
  have T: ∃t,My.Txt (L2.KOf KX) t:=by
   dsimp only [L2.KOf]                          --K must stand as «<heap const>w.params» for k_is;refine' My.txt_mk ?e1 ?e2 ?e3 ..
   (case e1=>PySem.W.k_is)                    --in the order:a name->its address->its object->its parts
   (case e2=>PySem.W.k_is)
   ..
  obtain ⟨t,T⟩:=T;have e0:=hmg.symm.trans (abu KX G T.law);cases e0                                       --fa is the law's own address;exact ⟨_,fun s u=> .of_eq rfl,fun base kb nb=>My.law_fn T kb nb⟩     --if «.of_eq rfl» comes too early:refine' ⟨_,?b,fun base kb nb=>My.law_fn T kb nb⟩;exact fun s u=> .of_eq rfl
 case S=>exact fun w H a ns hl hO hS=> ..
 case C=>exact ..
(the tactic k_is has no namespace:write k_is)-/
namespace L2
open PySem PySem.Spec PyProof.Rows
def YB (s:Stmt) (j:Nat):Stmt:=match s with
 | .ClassDef _ _ _ body _ _ _ _ _ _ _=>body.getD j (.Pass ⟨0,0,0,0⟩)
 |_=> .Pass ⟨0,0,0,0⟩
def xT (s:Stmt):Arguments:=match s with
 | .FunctionDef _ a _ _ _ _ _ _ _ _=>a
 |_=> {posonlyargs:=[],args:=[],vararg:=none,kwonlyargs:=[],kw_defaults:=[],kwarg:=none,defaults:=[]}
def qA (s:Stmt):List Stmt:=match s with
 | .FunctionDef _ _ b _ _ _ _ _ _ _=>b
 |_=>[]
def jg (s:Stmt):Scope:=match s with
 | .FunctionDef _ _ _ _ _ _ sc _ _ _=>sc
 |_=> {kind:= .function,names:=[],isGenerator:=false,isCoroutine:=false}
abbrev CX0:CXT:=fun _ _ _ _ _ _=>False
abbrev E0:XK:=fun _ _ _=>False
def jap {X:Cx}:Q6 CX0 X E0:=fun _ _ _ _ _ _ _ h=>h.elim
structure Fun (K:aab) (x qual:Str) (st:Stmt) (f:Addr) (fd:ab4):Prop where
 ex: ∃(oc:Value) (od:Option Addr) (kV doc pm:Value) (an:Option Addr) (cdv ct:Value) (osl:Array (Option Value)),
  fd=acq x qual (xT st) (qA st) (jg st) .none kV doc pm an cdv ct/\K.lookup f=some ⟨oc,od,.func fd,osl⟩/\adH K cdv qual=true
 kp:abg K (.ref f)=true
section
variable {P:aaH} {w:World} {K:aab} {mg:X8} {base:Heap}
def Fun.ok {x qual:Str} {st:Stmt} {f:Addr} {fd:ab4} {N ps:List Str} {k:Nat} {sp:Sp} (F:Fun K x qual st f fd) (S:FnScope N ps (jg st)) (len: ∀vs H Q E,sp vs H Q E->vs.length=ps.length)
  (hbody: ∀(cdv:Value) (A:aa3) (outer:List Env) (s:aaf) (H:Hp) (vs:List V) (Q:VK) (E:XK),Room k (A.deeper (adX qual (jg st) s.heap.objs.size f cdv))->sp vs H Q E->
   ∃t,PSs (cxOf CX0 P w K mg base N qual (jg st) f cdv A outer s H E).nox (qA st) t/\t {nx:=fun _ H'=>Q .non H',rt:=Q} (start N vs) H):FnOk P w K mg base CX0 (k+1) f fd ps sp:=by
 obtain ⟨oc,od,kV,doc,pm,an,cdv,ct,osl,rfl,lk,hcd⟩:=F.ex;refine je9 lk hcd S len fun A outer s H vs Q E hr hsp=>?_
 obtain ⟨t,h,q⟩:=hbody cdv A outer s H vs Q E hr hsp;exact ⟨t,h.nox,q⟩
def Fun.binds {x qual:Str} {st:Stmt} {f:Addr} {fd:ab4} {ps:List Str} (F:Fun K x qual st f fd)
  (h: ∀(kV doc pm:Value) (an:Option Addr) (cdv ct:Value) (us:List Value),us.length=ps.length->bindArgs (acq x qual (xT st) (qA st) (jg st) .none kV doc pm an cdv ct) ⟨us,[]⟩=pure (ps.zip us)):Binds K fd ps []:=by
 obtain ⟨oc,od,kV,doc,pm,an,cdv,ct,osl,rfl,lk,hcd⟩:=F.ex;exact .all (h kV doc pm an cdv ct)
def jbQ {x qual:Str} {st:Stmt} {f:Addr} {oc:Value} {od an:Option Addr} {osl:Array (Option Value)} {kV doc pm cdv ct:Value} (l:K.lookup f=some ⟨oc,od,.func (acq x qual (xT st) (qA st) (jg st) .none kV doc pm an cdv ct),osl⟩)
 (c:adH K cdv qual=true) (k:abg K (.ref f)=true):Fun K x qual st f (acq x qual (xT st) (qA st) (jg st) .none kV doc pm an cdv ct):=⟨⟨oc,od,kV,doc,pm,an,cdv,ct,osl,rfl,l,c⟩,k⟩
end
def je3 {A:aa3} {k:Nat} (hr:Room k A):A.units+1<cLine:=Nat.lt_of_le_of_lt (Nat.add_le_add_left (by decide:1<=64) _) hr.units
def Same (H H':Hp):Prop:= ∀b o,H b=some o->H' b=some o
def Same.refl (H:Hp):Same H H:=fun _ _ h=>h
def Same.trans {H H1 H2:Hp} (a:Same H H1) (b:Same H1 H2):Same H H2:=fun c o h=>b c o (a c o h)
def Same.free {H H':Hp} (e:Same H H') {l:Addr} (h:H' l=Option.none):H l=Option.none:=by
 cases q:H l with
 |none=>rfl
 |some o=>
  rw [e l o q] at h;cases h
end L2
namespace M
open PySem PySem.Spec L2
open PyProof.Rows hiding St
inductive D where
 |non|bl (b:Bool)|int (i:Int)|str (x:Str)
 |tup (ds:List D)|lst (ds:List D)|scr (ds:List D)|dic (ks:List Key) (vs:List D)|dit (ks:List (List Key)) (vs:List D)|exn (c:Str)|fdc (ks:List Key) (vs:List D)|hdc (ks:List Key) (vs:List D)|obj (c:Str) (ns:List Str) (vs:List D)|mem (B:List NK) (Φ:NK->Option NK->Prop)
mutual
def D.imm:D->Bool
 | .non=>true
 | .bl _=>true
 | .int _=>true
 | .str _=>true
 | .tup ds=>D.imms ds
 | .lst _=>false
 | .scr _=>false
 | .dic _ _=>false
 | .dit _ _=>false
 | .exn _=>true
 | .fdc _ _=>false
 | .hdc _ _=>false
 | .obj _ _ _=>false
 | .mem _ _=>false
def D.imms:List D->Bool
 | []=>true
 |d::ds=>D.imm d&&D.imms ds
end
inductive Res (α:Type) where
 |ok (a:α)
 |exc (c:Str)
 |stuck
noncomputable def Res.bind {α β:Type} (r:Res α) (f:α->Res β):Res β:=
 match r with
 | .ok a=>f a
 | .exc c=> .exc c
 | .stuck=> .stuck
instance:Monad Res where
 pure:=Res.ok
 bind:=Res.bind
def jdD {α β:Type} {a:α} {f:α->Res β}:(Res.ok a>>=f)=f a:=rfl
def je {α β:Type} {r:Res α} {f:α->Res β} {b:β} (h:(r>>=f)= .ok b): ∃a,r= .ok a/\f a= .ok b:=by
 cases r with
 |ok a=>exact ⟨a,rfl,h⟩
 |exc c=>cases h
 |stuck=>cases h
noncomputable def must {α:Type} (c:Prop) [Decidable c] (r:Res α):Res α:=if c then r else .stuck
def jr {α:Type} {c:Prop} [Decidable c] {r:Res α} {a:α} (h:must c r= .ok a):c/\r= .ok a:=by
 unfold must at h
 by_cases hc:c
 · rw [if_pos hc] at h;exact ⟨hc,h⟩
 · rw [if_neg hc] at h;cases h
def jl {α:Type} {c:Prop} [Decidable c] {r:Res α} (h:c):must c r=r:=if_pos h
def LsK (K:aab) (H:Hp) (a:Addr) (xs:List V):Prop:=
 (∃o,H a=some (.frz o (.lst xs)))\/
  ∃(o:Obj) (its:Array Value) (n:Nat),K.lookup a=some o/\o.cls= .type "list" /\o.dict=none/\o.data= .seq its n/\its.size<=aah/\Vals xs its.toList
def LsK.sql {K:aab} {H:Hp} {a:Addr} {xs:List V} (h:LsK K H a xs):SqL K H a xs:=by
 rcases h with h|h
 · exact .inl (.inr h)
 · exact .inr h
mutual
inductive Rep (K:aab):(Addr->Prop)->Hp->V->D->Prop where
 |non {A H}:Rep K A H .non .non
 |bl {A H} (b:Bool):Rep K A H (.bl b) (.bl b)
 |int {A H} (i:Int):Rep K A H (.int i) (.int i)
 |str {A H} (x:Str):x.length<=aah->Rep K A H (.str x) (.str x)
 |tup {A H} {a:Addr} {xs:List V} {ds:List D}:H a=some (.tup xs)->Reps K A H xs ds->Rep K A H (.ref a) (.tup ds)
 |lst {A H} {a:Addr} {xs:List V} {ds:List D}:H a=some (.lst xs)->A a->Reps K (fun c=>A c/\c≠a) H xs ds->Rep K A H (.ref a) (.lst ds)
 |lsk {A H} {a:Addr} {xs:List V} {ds:List D}:LsK K H a xs->Reps K A H xs ds->Rep K A H (.ref a) (.scr ds)
 |dic {A H} {a:Addr} {kvs:List (Key×V)} {vs:List V} {ks:List Key} {ds:List D}:H a=some (.dK kvs)->A a->kvs.map (·.1)=ks->kvs.map (·.2)=vs->Reps K (fun c=>A c/\c≠a) H vs ds->Rep K A H (.ref a) (.dic ks ds)
 |dit {A H} {a:Addr} {kvs:List ((List Key)×V)} {vs:List V} {ks:List (List Key)} {ds:List D}:H a=some (.dT kvs)->A a->kvs.map (·.1)=ks->kvs.map (·.2)=vs->Reps K (fun c=>A c/\c≠a) H vs ds->Rep K A H (.ref a) (.dit ks ds)
 |exn {A H} {a b C:Addr} {o:Obj} {c:Str}:H a=some (.frz o (.own b))->o.cls= .ref C->aaz K aaw c=some (some (.ref C))->Rep K A H (.ref a) (.exn c)
 |fdc {A H} {a:Addr} {kvs:List (Key×V)} {vs:List V} {ks:List Key} {ds:List D}:((H a=some (.dK kvs)/\A a)\/ ∃o,H a=some (.frz o (.dK kvs)))->kvs.map (·.1)=ks->kvs.map (·.2)=vs->Reps K (fun c=>A c/\c≠a) H vs ds->Rep K A H (.ref a) (.fdc ks ds)
 |hdc {A H} {a:Addr} {kvs:List (Key×V)} {vs:List V} {ks:List Key} {ds:List D}:(∃o,H a=some (.frz o (.dK kvs)))->kvs.map (·.1)=ks->kvs.map (·.2)=vs->Reps K (fun c=>A c/\c≠a) H vs ds->Rep K A H (.ref a) (.hdc ks ds)
 |obj {A H} {a C dx:Addr} {fs:List (Str×V)} {vs:List V} {c:Str} {ns:List Str} {ds:List D}:H a=some (.ins C dx fs)->A a->(aaz K aaw c=some (some (.ref C))/\fs.map (·.1)=ns)->fs.map (·.2)=vs->Reps K (fun c=>A c/\c≠a) H vs ds->Rep K A H (.ref a) (.obj c ns ds)
 |mem {A H} {a:Addr} {B:List NK} {Φ:NK->Option NK->Prop}:H a=some (.memo B Φ)->A a->Rep K A H (.ref a) (.mem B Φ)
inductive Reps (K:aab):(Addr->Prop)->Hp->List V->List D->Prop where
 |nil {A H}:Reps K A H [] []
 |cons {A H} {v:V} {d:D} {vs:List V} {ds:List D}:Rep K A H v d->Reps K A H vs ds->Reps K A H (v::vs) (d::ds)
end
def Stay (A:X7) (H H':Hp):Prop:= ∀a o,H a=some o->(Mut (some o)->A a)->H' a=some o
def Stay.mono {A B:X7} {H H':Hp} (h:Stay A H H') (w: ∀a,B a->A a):Stay B H H':=fun a o e m=>h a o e fun z=>w a (m z)
section
variable {K:aab}
def LsK.stay {A:X7} {H H':Hp} {a:Addr} {xs:List V} (h:LsK K H a xs) (st:Stay A H H'):LsK K H' a xs:=by
 rcases h with ⟨o,e⟩|h
 · exact .inl ⟨o,st a _ e (fun z=>z.elim)⟩
 · exact .inr h
def Reps.stay {A A':X7} {H H':Hp} {vs:List V} {ds:List D} (r:Reps K A H vs ds):Stay A H H'->(∀a,A a->A' a)->Reps K A' H' vs ds:=by
 refine Reps.rec (motive_1:=fun A H v d _=> ∀B:Addr->Prop,Stay A H H'->(∀a,A a->B a)->Rep K B H' v d) (fun _ _ _=> .non) (fun b _ _ _=> .bl b) (fun i _ _ _=> .int i) (fun x h _ _ _=> .str x h) (fun e _ r _ s w=> .tup (s _ _ e fun z=>z.elim) (r _ s w)) (fun e a _ r _ s w=> .lst (s _ _ e fun _=>a) (w _ a) (r _ ?_ ?_)) (fun e _ r _ s w=> .lsk (e.stay s) (r _ s w)) (fun e a k l _ r _ s w=> .dic (s _ _ e fun _=>a) (w _ a) k l (r _ ?_ ?_)) (fun e a k l _ r _ s w=> .dit (s _ _ e fun _=>a) (w _ a) k l (r _ ?_ ?_)) (fun e k l _ s w=> .exn (s _ _ e fun z=>z.elim) k l) (fun e k l _ r _ s w=> .fdc (e.elim (fun z=> .inl ⟨s _ _ z.1 fun _=>z.2,w _ z.2⟩) (fun z=>z.elim fun _ z=> .inr ⟨_,s _ _ z fun z=>z.elim⟩)) k l (r _ ?_ ?_)) (fun e k l _ r _ s w=> .hdc (e.elim fun _ z=>⟨_,s _ _ z fun z=>z.elim⟩) k l (r _ ?_ ?_)) (fun e a k l _ r _ s w=> .obj (s _ _ e fun _=>a) (w _ a) k l (r _ ?_ ?_)) (fun e a _ s w=> .mem (s _ _ e fun _=>a) (w _ a)) (fun _ _ _=> .nil) (fun _ _ h t _ s w=> .cons (h _ s w) (t _ s w)) r A'
 any_goals exact s.mono fun _ z=>z.1
 all_goals exact fun _ z=>⟨w _ z.1,z.2⟩
def Rep.stay {A A':X7} {H H':Hp} {v:V} {d:D} (r:Rep K A H v d) (s:Stay A H H') (w: ∀a,A a->A' a):Rep K A' H' v d:=by
 cases Reps.stay (.cons r .nil) s w;assumption
def Same.stay {A:X7} {H H':Hp} (h:Same H H'):Stay A H H':=fun a o e _=>h a o e
variable {A A':X7} {H H':Hp}
def Rep.grow {v:V} {d:D} (r:Rep K A H v d) (h:Same H H'):Rep K A H' v d:=r.stay (Same.stay h) fun _ z=>z
def Reps.grow {v:List V} {d:List D} (r:Reps K A H v d) (h:Same H H'):Reps K A H' v d:=r.stay (Same.stay h) fun _ z=>z
def Rep.weak {v:V} {d:D} (r:Rep K A H v d) (w: ∀a,A a->A' a):Rep K A' H v d:=r.stay (fun _ _ e _=>e) w
def Reps.weak {v:List V} {d:List D} (r:Reps K A H v d) (w: ∀a,A a->A' a):Reps K A' H v d:=r.stay (fun _ _ e _=>e) w
def Reps.imm {A A':X7} {H:Hp} {vs:List V} {ds:List D} (r:Reps K A H vs ds):D.imms ds=true->Reps K A' H vs ds:=by
 refine Reps.rec (motive_1:=fun _ H v d _=>d.imm=true->Rep K A' H v d) (fun _=> .non) (fun b _=> .bl b) (fun i _=> .int i) (fun x h _=> .str x h) (fun e _ r i=> .tup e (r (by simpa only [D.imm] using i))) ?_ ?_ ?_ ?_ (fun e k l _=> .exn e k l) ?_ ?_ ?_ ?_ (fun _=> .nil) (fun _ _ h t i=>?_) r
 case refine_9=>simp only [D.imms,aat] at i;exact .cons (h i.1) (t i.2)
 all_goals intros;rename_i i;simp [D.imm] at i
def Rep.imm {A A':X7} {H:Hp} {v:V} {d:D} (r:Rep K A H v d) (i:d.imm=true):Rep K A' H v d:=by
 cases Reps.imm (.cons r .nil) (by simp [D.imms,i]);assumption
def Reps.length {A:X7} {H:Hp} {vs:List V} {ds:List D} (r:Reps K A H vs ds):vs.length=ds.length:=by
 induction vs generalizing ds with
 |nil=>cases r;rfl
 |cons v vs ih=>
  cases r with
  |cons _ t=>simp [ih t]
def Reps.get {A:X7} {H:Hp} {vs:List V} {ds:List D} {i:Nat} {d:D} (r:Reps K A H vs ds) (e:ds[i]?=some d): ∃v,vs[i]?=some v/\Rep K A H v d:=by
 induction vs generalizing ds i with
 |nil=>cases r;simp at e
 |cons v vs ih=>
  cases r with
  |cons r t=>
   cases i with
   |zero=>simp at e;subst e;exact ⟨_,rfl,r⟩
   |succ i=>simpa using ih t (by simpa using e)
def Reps.get' {A:X7} {H:Hp} {vs:List V} {ds:List D} {i:Nat} {v:V} (r:Reps K A H vs ds) (e:vs[i]?=some v): ∃d,ds[i]?=some d/\Rep K A H v d:=by
 induction vs generalizing ds i with
 |nil=>simp at e
 |cons v vs ih=>
  cases r with
  |cons r t=>
   cases i with
   |zero=>simp at e;subst e;exact ⟨_,rfl,r⟩
   |succ i=>simpa using ih t (by simpa using e)
def Reps.append {A:X7} {H:Hp} {vs ws:List V} {ds es:List D} (r:Reps K A H vs ds) (s:Reps K A H ws es):Reps K A H (vs++ws) (ds++es):=by
 induction vs generalizing ds with
 |nil=>cases r;exact s
 |cons v vs ih=>
  cases r with
  |cons r t=>exact .cons r (ih t)
def Reps.take {A:X7} {H:Hp} {vs:List V} {ds:List D} (n:Nat) (r:Reps K A H vs ds):Reps K A H (vs.take n) (ds.take n):=by
 induction vs generalizing ds n with
 |nil=>cases r;simpa using .nil
 |cons v vs ih=>
  cases r with
  |cons r t=>
   cases n with
   |zero=>exact .nil
   |succ n=>exact .cons r (ih n t)
def Reps.drop {A:X7} {H:Hp} {vs:List V} {ds:List D} (n:Nat) (r:Reps K A H vs ds):Reps K A H (vs.drop n) (ds.drop n):=by
 induction vs generalizing ds n with
 |nil=>cases r;simpa using .nil
 |cons v vs ih=>
  cases n with
  |zero=>exact r
  |succ n=>
   cases r with
   |cons r t=>exact ih n t
def Reps.dropLast {vs:List V} {ds:List D} (r:Reps K A H vs ds):Reps K A H vs.dropLast ds.dropLast:=by
 rw [List.dropLast_eq_take,List.dropLast_eq_take,r.length];exact r.take _
theorem Reps.rep {vs:List V} {ds:List D} (r:Reps K A H vs ds): ∀k:Nat,Reps K A H (aaE k vs).flatten (aaE k ds).flatten
 |0=> .nil
 |k+1=>by
  rw [abt,abt,ace,ace];exact r.append (Reps.rep r k)
def Reps.isEmpty {xs:List V} {ds:List D} (r:Reps K A H xs ds):ds.isEmpty=xs.isEmpty:=by cases r<;>rfl
def Rep.lstE {v:V} {ds:List D} (r:Rep K A H v (.lst ds)): ∃a xs,v= .ref a/\H a=some (.lst xs)/\A a/\Reps K (fun c=>A c/\c≠a) H xs ds:=by
 cases r with
 |lst e h r=>exact ⟨_,_,rfl,e,h,r⟩
def Rep.scrE {v:V} {ds:List D} (r:Rep K A H v (.scr ds)): ∃a xs,v= .ref a/\LsK K H a xs/\Reps K A H xs ds:=by
 cases r with
 |lsk e r=>exact ⟨_,_,rfl,e,r⟩
def Rep.tupE {v:V} {ds:List D} (r:Rep K A H v (.tup ds)): ∃a xs,v= .ref a/\H a=some (.tup xs)/\Reps K A H xs ds:=by
 cases r with
 |tup e r=>exact ⟨_,_,rfl,e,r⟩
def Rep.intE {v:V} {i:Int} (r:Rep K A H v (.int i)):v= .int i:=by cases r;rfl
def Rep.blE {v:V} {b:Bool} (r:Rep K A H v (.bl b)):v= .bl b:=by cases r;rfl
def Rep.strE {v:V} {x:Str} (r:Rep K A H v (.str x)):v= .str x/\x.length<=aah:=by cases r;exact ⟨rfl,by assumption⟩
def Rep.nonE {v:V} (r:Rep K A H v .non):v= .non:=by cases r;rfl
def Reps.low {a:Addr} {vs:List V} {ds:List D} (r:Reps K (fun c=>A c/\c≠a) H vs ds):Reps K A H vs ds:=r.weak fun _ z=>z.1
def Reps.inDom {A:X7} {H:Hp} {vs:List V} {ds:List D} (r:Reps K A H vs ds):Reps K (fun c=>A c/\H c≠none) H vs ds:=by
 refine Reps.rec .non (fun b=> .bl b) (fun i=> .int i) (fun x h=> .str x h) (fun e _ r=> .tup e r) (fun e a _ r=> .lst e ⟨a,?_⟩ ?_) (fun e _ r=> .lsk e r) (fun e a k l _ r=> .dic e ⟨a,?_⟩ k l ?_) (fun e a k l _ r=> .dit e ⟨a,?_⟩ k l ?_) (fun e k l=> .exn e k l) (fun e k l _ r=> .fdc (e.elim (fun z=> .inl ⟨z.1,z.2,by simp [z.1]⟩) .inr) k l ?_) (fun e k l _ r=> .hdc e k l ?_) (fun e a k l _ r=> .obj e ⟨a,?_⟩ k l ?_) (fun e a=> .mem e ⟨a,by simp [e]⟩) .nil (fun _ _ h t=> .cons h t) r
 any_goals exact r.weak fun _ z=>⟨⟨z.1.1,z.2⟩,z.1.2⟩
 all_goals simp [e]
def Rep.inDom {A:X7} {H:Hp} {v:V} {d:D} (r:Rep K A H v d):Rep K (fun c=>A c/\H c≠none) H v d:=by
 cases Reps.inDom (.cons r .nil);assumption
def Same.upd {H:Hp} {p:Addr} {o:HO} (h:H p=none):Same H (L2.upd H p o):=fun b u e=>by rw [jx (jT e h)];exact e
def Reps.laid {p:Addr} {o:HO} {vs:List V} {ds:List D} (r:Reps K A H vs ds) (hp:H p=none):Reps K (fun c=>A c/\c≠p) (L2.upd H p o) vs ds:=
 (r.inDom.grow (Same.upd hp)).weak fun c z=>⟨z.1,fun e=>z.2 (by rw [e];exact hp)⟩
end
inductive Slot where
 |un
 |own (d:D)
 |shr (d:D)
abbrev Sl:=List Slot
def jY (env:Sl) (σ:St) (a:Addr):Prop:= ∃(i:Nat) (d:D),env[i]?=some (.own d)/\σ[i]?=some (some (.ref a))
abbrev NotO (env:Sl) (σ:St):Addr->Prop:=fun a=> ¬jY env σ a
abbrev Sf (G:X7) (env:Sl) (σ:St):Addr->Prop:=fun a=> ¬jY env σ a/\G a
inductive Top (K:aab) (A:X7) (H:Hp) (a:Addr):D->Prop where
 |lst {xs:List V} {ds:List D}:H a=some (.lst xs)->Reps K A H xs ds->Top K A H a (.lst ds)
 |dic {kvs:List (Key×V)} {vs:List V} {ks:List Key} {ds:List D}:H a=some (.dK kvs)->kvs.map (·.1)=ks->kvs.map (·.2)=vs->Reps K A H vs ds->Top K A H a (.dic ks ds)
 |dit {kvs:List ((List Key)×V)} {vs:List V} {ks:List (List Key)} {ds:List D}:H a=some (.dT kvs)->kvs.map (·.1)=ks->kvs.map (·.2)=vs->Reps K A H vs ds->Top K A H a (.dit ks ds)
 |obj {C dx:Addr} {fs:List (Str×V)} {vs:List V} {c:Str} {ns:List Str} {ds:List D}:H a=some (.ins C dx fs)->(aaz K aaw c=some (some (.ref C))/\fs.map (·.1)=ns)->fs.map (·.2)=vs->Reps K A H vs ds->Top K A H a (.obj c ns ds)
def Top.rep {K:aab} {A A':X7} {H:Hp} {a:Addr} {d:D} (t:Top K A H a d) (w: ∀b,A b->A' b/\b≠a) (ha:A' a):Rep K A' H (.ref a) d:=by
 cases t with
 |lst e r=>exact .lst e ha (r.weak w)
 |dic e k1 k2 r=>exact .dic e ha k1 k2 (r.weak w)
 |dit e k1 k2 r=>exact .dit e ha k1 k2 (r.weak w)
 |obj e k1 k2 r=>exact .obj e ha k1 k2 (r.weak w)
def Top.stay {K:aab} {A A':X7} {H H':Hp} {a:Addr} {d:D} (t:Top K A H a d) (st:Stay A H H') (w: ∀b,A b->A' b) (ha: ∀o,H a=some o->H' a=some o):Top K A' H' a d:=by
 cases t with
 |lst e r=>exact .lst (ha _ e) (r.stay st w)
 |dic e k1 k2 r=>exact .dic (ha _ e) k1 k2 (r.stay st w)
 |dit e k1 k2 r=>exact .dit (ha _ e) k1 k2 (r.stay st w)
 |obj e k1 k2 r=>exact .obj (ha _ e) k1 k2 (r.stay st w)
def Top.there {K:aab} {A:X7} {H:Hp} {a:Addr} {d:D} (t:Top K A H a d): ∃o,H a=some o/\Mut (some o):=by
 cases t with
 |lst e r=>exact ⟨_,e,trivial⟩
 |dic e _ _ r=>exact ⟨_,e,trivial⟩
 |dit e _ _ r=>exact ⟨_,e,trivial⟩
 |obj e _ _ r=>exact ⟨_,e,trivial⟩
structure EnvOk (K:aab) (G:X7) (H0:Hp) (env:Sl) (σ:St) (H:Hp):Prop where
 len:σ.length=env.length
 base:Same H0 H
 g0: ∀a,H0 a=none->G a
 shr: ∀(i:Nat) (d:D),env[i]?=some (.shr d)-> ∃v,σ[i]?=some (some v)/\Rep K (Sf G env σ) H v d
 own: ∀(i:Nat) (d:D),env[i]?=some (.own d)-> ∃a,σ[i]?=some (some (.ref a))/\H0 a=none/\Top K (Sf G env σ) H a d
 dis: ∀(i j:Nat) (d e:D) (a:Addr),env[i]?=some (.own d)->env[j]?=some (.own e)->σ[i]?=some (some (.ref a))->σ[j]?=some (some (.ref a))->i=j
section
variable {K:aab} {G:X7} {H0 H H':Hp} {env:Sl} {σ:St}
def EnvOk.grow (e:EnvOk K G H0 env σ H) (h:Same H H'):EnvOk K G H0 env σ H' where
 len:=e.len
 base:=e.base.trans h
 g0:=e.g0
 shr:=fun i d z=>let ⟨v,h1,h2⟩:=e.shr i d z;⟨v,h1,h2.grow h⟩
 own:=fun i d z=>let ⟨a,h1,h2,h3⟩:=e.own i d z;⟨a,h1,h2,h3.stay (Same.stay h) (fun _ z=>z) (fun o q=>h _ o q)⟩
 dis:=e.dis
def EnvOk.there (e:EnvOk K G H0 env σ H) {a:Addr} (o:jY env σ a): ∃u,H a=some u:=by
 obtain ⟨i,d,h1,h2⟩:=o;obtain ⟨b,h3,_,h4⟩:=e.own i d h1;rw [h2] at h3;cases h3;obtain ⟨u,h5,_⟩:=h4.there;exact ⟨u,h5⟩
def EnvOk.mutO (k:EnvOk K G H0 env σ H) {a:Addr} (o:jY env σ a) {u:HO} (e:H a=some u):Mut (some u):=by
 obtain ⟨i,d,h1,h2⟩:=o;obtain ⟨b,h3,_,h4⟩:=k.own i d h1;rw [h2] at h3;cases h3;obtain ⟨u',h5,m⟩:=h4.there;rw [e] at h5;cases h5;exact m
def EnvOk.new (k:EnvOk K G H0 env σ H): ∀a,H a=none->Sf G env σ a:=fun a z=>⟨fun o=>(by
 obtain ⟨u,q⟩:=k.there o
 rw [z] at q;cases q),k.g0 a (Same.free k.base z)⟩
end
inductive Lv where
 |b|s|t
abbrev Any:Addr->Prop:=fun _=>True
def Lv.A (l:Lv) (G:X7) (env:Sl) (σ:St):Addr->Prop:=
 match l with
 | .b=>Any
 | .s=>Sf G env σ
 | .t=>Sf G env σ
def NewTop (H:Hp) (v:V):Prop:= ∀a,v= .ref a-> ∀o,H a=some o-> ¬Mut (some o)
def Lv.T (l:Lv) (H:Hp) (v:V):Prop:=
 match l with
 | .t=>NewTop H v
 |_=>True
def NewTop.grow {H H':Hp} {v:V} (h:Same H H') (n:NewTop H' v):NewTop H v:=fun a e o q=>n a e o (h a o q)
def Lv.Tgrow {l:Lv} {H H':Hp} {v:V} (h:Same H H') (n:l.T H' v):l.T H v:=by
 cases l with
 |t=>exact NewTop.grow h n
 |b=>trivial
 |s=>trivial
def tE (K:aab) (l:Lv) (f:Sl->Res D):TE:=fun σ H Q=> ∃G H0 env d,EnvOk K G H0 env σ H/\f env= .ok d/\ ∀v H',Same H H'->Rep K (l.A G env σ) H' v d->l.T H v->Q v H'
def tT (K:aab) (f:Sl->Res Bool):TT:=fun σ H Q=> ∃G H0 env b,EnvOk K G H0 env σ H/\f env= .ok b/\ ∀H',Same H H'->Q b H'
def tA (K:aab) (l:Lv) (f:Sl->Res (List D)):TA:=fun σ H Q=> ∃G H0 env ds,EnvOk K G H0 env σ H/\f env= .ok ds/\ ∀vs H',Same H H'->Reps K (l.A G env σ) H' vs ds->Q vs H'
@[irreducible] def DE (X:Cx) (l:Lv) (e:Expr) (f:Sl->Res D):Prop:=PE X e (tE X.K l f)
@[irreducible] def DT (X:Cx) (e:Expr) (f:Sl->Res Bool):Prop:=PT X e (tT X.K f)
@[irreducible] def DA (X:Cx) (l:Lv) (es:List Expr) (f:Sl->Res (List D)):Prop:=PA X es (tA X.K l f)
inductive Out where
 |nx (env:Sl)|rt (fr:Bool) (d:D)|bk (env:Sl)|ct (env:Sl)
abbrev T5:=Sl->Res D
abbrev T4:=Sl->Res Bool
abbrev T3:=Sl->Res Out
abbrev T0:=Sl->Res (List D)
abbrev TZ:=List D->Res D
abbrev TY:=D->Sl->Res Sl
structure Frm (env:Sl) (σ:St) (H:Hp) (env':Sl) (σ':St) (H':Hp):Prop where
 keep: ∀b o,H b=some o-> ¬jY env σ b->H' b=some o
 more: ∀b,jY env' σ' b->jY env σ b\/H b=none
 size: ∀b,H' b=none->H b=none
def Post (K:aab) (G:X7) (H0:Hp) (env:Sl) (σ:St) (H:Hp) (E:Ends) (o:Out):Prop:=
 match o with
 | .nx env'=> ∀σ' H',EnvOk K G H0 env' σ' H'->Frm env σ H env' σ' H'->E.nx σ' H'
 | .bk env'=> ∀σ' H',EnvOk K G H0 env' σ' H'->Frm env σ H env' σ' H'->E.bk σ' H'
 | .ct env'=> ∀σ' H',EnvOk K G H0 env' σ' H'->Frm env σ H env' σ' H'->E.ct σ' H'
 | .rt fr d=> ∀v H',Same H0 H'->Rep K G H' v d->(fr=true->NewTop H0 v)->E.rt v H'
def tS (K:aab) (g:T3):TS:=fun E σ H=> ∃G H0 env o,EnvOk K G H0 env σ H/\g env= .ok o/\Post K G H0 env σ H E o
@[irreducible] def DS (X:Cx) (st:Stmt) (g:T3):Prop:=PS X st (tS X.K g)
@[irreducible] def DSs (X:Cx) (st:List Stmt) (g:T3):Prop:=PSs X st (tS X.K g)
section
variable {X:Cx} {e:Expr} {es:List Expr} {st:Stmt} {sts:List Stmt}
def PE.imp {t t':TE} (h:PE X e t) (w: ∀σ H Q,t' σ H Q->t σ H Q):PE X e t':=fun pins s σ H Q I q=>h pins s σ H Q I (w σ H Q q)
def PT.imp {t t':TT} (h:PT X e t) (w: ∀σ H Q,t' σ H Q->t σ H Q):PT X e t':=fun pins s σ H Q I q=>h pins s σ H Q I (w σ H Q q)
def PA.imp {t t':TA} (h:PA X es t) (w: ∀σ H Q,t' σ H Q->t σ H Q):PA X es t':=fun pos pins s σ H Q I q=>h pos pins s σ H Q I (w σ H Q q)
def PS.imp {t t':TS} (h:PS X st t) (w: ∀E σ H,t' E σ H->t E σ H):PS X st t':=fun pins s σ H E I q=>h pins s σ H E I (w E σ H q)
def PSs.imp {t t':TS} (h:PSs X sts t) (w: ∀E σ H,t' E σ H->t E σ H):PSs X sts t':=fun pins s σ H E I q=>h pins s σ H E I (w E σ H q)
end
def Frm.refl {env:Sl} {σ:St} {H H':Hp} (h:Same H H'):Frm env σ H env σ H':=⟨fun b o e _=>h b o e,fun b o=> .inl o,fun b e=>Same.free h e⟩
def Frm.trans {env env1 env2:Sl} {σ σ1 σ2:St} {H H1 H2:Hp} (a:Frm env σ H env1 σ1 H1) (b:Frm env1 σ1 H1 env2 σ2 H2):Frm env σ H env2 σ2 H2 where
 keep:=fun c o e n=>b.keep c o (a.keep c o e n) fun z=>by
  rcases a.more c z with z|z
  · exact n z
  · rw [e] at z;cases z
 more:=fun c o=>by
  rcases b.more c o with z|z
  · exact a.more c z
  · exact .inr (a.size c z)
 size:=fun c e=>a.size c (b.size c e)
def Frm.grow {env env1:Sl} {σ σ1:St} {H Hm H1:Hp} (h:Same H Hm) (b:Frm env σ Hm env1 σ1 H1):Frm env σ H env1 σ1 H1:=(Frm.refl h).trans b
section
variable {X:Cx} {e:Expr} {f:T5}
def Lv.weak_b {l:Lv} {G:X7} {env:Sl} {σ:St}: ∀a,l.A G env σ a->Any a:=fun _ _=>trivial
def DE.b {l:Lv} (h:DE X l e f):DE X .b e f:=by
 with_unfolding_all exact (PE.imp h fun σ H Q ⟨G,H0,env,d,k,ef,q⟩=>⟨G,H0,env,d,k,ef,fun v H' s r _=>q v H' s (r.weak Lv.weak_b) trivial⟩)
def DE.s (h:DE X .t e f):DE X .s e f:=by
 with_unfolding_all exact (PE.imp h fun σ H Q ⟨G,H0,env,d,k,ef,q⟩=>⟨G,H0,env,d,k,ef,fun v H' s r _=>q v H' s r trivial⟩)
def jcZ {K:aab} {A:X7} {H H':Hp} {v:V} {d:D} (s:Same H H') (r:Rep K A H' v d) (i:d.imm=true):NewTop H v:=fun a e o q m=>by
 subst e
 cases r with
 |tup e _=>rw [s _ _ q] at e;cases e;exact m
 |lst _ _ _=>simp [D.imm] at i
 |lsk _ _=>simp [D.imm] at i
 |dic _ _ _ _ _=>simp [D.imm] at i
 |dit _ _ _ _ _=>simp [D.imm] at i
 |obj _ _ _ _ _=>simp [D.imm] at i
 |fdc _ _ _ _=>simp [D.imm] at i
 |hdc _ _ _ _=>simp [D.imm] at i
 |mem _ _=>simp [D.imm] at i
 |exn e _ _=>rw [s _ _ q] at e;cases e;exact m
end
def Z2:Expr->Bool
 | .Starred _ _=>false
 |_=>true
def jk {e:Expr} {es:List Expr} {env:Env} (h:Z2 e=true):aan (e::es) env=(false,eval e env)::aan es env:=by
 cases e<;>first|rfl|cases h
def Y5 {es:List Expr} {env:Env} (h:es.all Z2=true):(aan es env).all (fun x=>!x.1)=true:=by
 induction es with
 |nil=>rfl
 |cons e r ih=>
  rw [adA,aat] at h;rw [jk h.1,adA,ih h.2];rfl
def Ve {pos:Pos} {l:List (Bool×Sem Value)} (h:l.all (fun x=>!x.1)=true):(abQ pos l).all (fun x=>!x.1)=true:=by
 induction l with
 |nil=>rfl
 |cons p r ih=>
  obtain ⟨s,t⟩:=p;rw [adA,aat] at h;show ((!s)&&(abQ pos r).all (fun x=>!x.1))=true;rw [ih h.2,Bool.and_true];exact h.1
def jS {pos:Pos} {es:List Expr} {env:Env} (h:es.all Z2=true):(abQ pos (aan es env)).any (·.1)=false:=by
 have:=Ve (pos:=pos) (Y5 (env:=env) h);rw [aa5] at this;rw [List.any_eq_false];intro x hx z;have q:=this x hx;rw [z] at q;cases q
def QW {cpos:Pos} {e:Expr} {es:List Expr} {env:Env} (h:(e::es).all Z2=true) (hl:decide ((e::es).length<30)=true):
  ((abQ cpos (aan (e::es) env)).all (fun x=>!x.1)&&(aed cpos (acK [] env)).all (fun x=>x.1.isSome)
   &&decide ((e::es).length+([]:List adN).length+(if ([]:List adN).isEmpty then 0 else 1)<30))=true:=by
 have hk:(aed cpos (acK [] env)).all (fun x=>x.1.isSome)=true:=rfl;rw [Ve (Y5 h),hk];simpa using hl
section
variable {X:Cx} {e a b c o:Expr} {es:List Expr} {pos:Pos} {l l1 l2 l':Lv} {f f1 f2 f3:T5}
def cI (i:Int):Sl->Res D:=fun _=> .ok (.int i)
def cB (b:Bool):Sl->Res D:=fun _=> .ok (.bl b)
def cN:Sl->Res D:=fun _=> .ok .non
def cS (x:Str):Sl->Res D:=fun _=> .ok (.str x)
def rdS (i:Nat):Sl->Res D:=fun env=>match env[i]? with
 |some (.shr d)=> .ok d
 |_=> .stuck
def rdB (i:Nat):Sl->Res D:=fun env=>match env[i]? with
 |some (.shr d)=> .ok d
 |some (.own d)=> .ok d
 |_=> .stuck
def ki {i:Nat} {env:Sl} {d:D} (h:rdS i env= .ok d):env[i]?=some (.shr d):=by
 unfold rdS at h
 split at h
 · cases h;assumption
 · cases h
def kj {i:Nat} {env:Sl} {d:D} (h:rdB i env= .ok d):env[i]?=some (.shr d)\/env[i]?=some (.own d):=by
 unfold rdB at h
 split at h
 · cases h;left;assumption
 · cases h;right;assumption
 · cases h
def W5 {K:aab} {G:X7} {H0 H:Hp} {env:Sl} {σ:L2.St} {i:Nat} {d:D} {a:Addr} (k:EnvOk K G H0 env σ H) (h1:env[i]?=some (.own d)) (h2:σ[i]?=some (some (.ref a))): ∀c,Sf G env σ c->c≠a:=fun c z e=>z.1 (by rw [e];exact ⟨i,d,h1,h2⟩)
def dv (i:Nat) {x:Str} (hN:X.N[i]?=some x:=by rfl) (hv:Vis X.env.scope x:=by first|exact acj rfl|exact abB (acj rfl)|exact abB (abB rfl)) (hd:ZI x:=by decide)
   (hcd:Y9 x:=by decide):DE X .s (.Name x pos) (rdS i):=by
 with_unfolding_all exact (
  PE.imp (wW hN hv hd hcd) fun σ H Q=>by
   rintro ⟨G,H0,env,d,k,ef,q⟩;obtain ⟨v,h1,h2⟩:=k.shr i d (ki ef)
   exact ⟨v,h1,q v H (Same.refl H) h2 trivial⟩)
def db (i:Nat) {x:Str} (hN:X.N[i]?=some x:=by rfl) (hv:Vis X.env.scope x:=by first|exact acj rfl|exact abB (acj rfl)|exact abB (abB rfl)) (hd:ZI x:=by decide)
   (hcd:Y9 x:=by decide):DE X .b (.Name x pos) (rdB i):=by
 with_unfolding_all exact (
  PE.imp (wW hN hv hd hcd) fun σ H Q=>by
   rintro ⟨G,H0,env,d,k,ef,q⟩;rcases kj ef with z|z
   · obtain ⟨v,h1,h2⟩:=k.shr i d z;exact ⟨v,h1,q v H (Same.refl H) (h2.weak fun _ _=>trivial) trivial⟩
   · obtain ⟨v,h1,_,h2⟩:=k.own i d z
     exact ⟨_,h1,q _ H (Same.refl H) (h2.rep (fun c y=>⟨trivial,W5 k z h1 c y⟩) trivial) trivial⟩)
def Sc (K:aab) (v:V) (d:D):Prop:=(∀A H,Rep K A H v d)/\ ∀a,v≠ .ref a
def Sc.T {K:aab} {v:V} {d:D} {H:Hp} (h:Sc K v d):l.T H v:=by
 cases l with
 |t=>exact fun a e=>absurd e (h.2 a)
 |b=>trivial
 |s=>trivial
def jgH {K:aab} (i:Int):Sc K (.int i) (.int i):=⟨fun _ _=> .int i,fun a e=>by cases e⟩
def jgE {K:aab} (i:Bool):Sc K (.bl i) (.bl i):=⟨fun _ _=> .bl i,fun a e=>by cases e⟩
def jgR {K:aab}:Sc K .non .non:=⟨fun _ _=> .non,fun a e=>by cases e⟩
def jgU {K:aab} (x:Str) (h:x.length<=aah):Sc K (.str x) (.str x):=⟨fun _ _=> .str x h,fun a e=>by cases e⟩
def de_c {v:V} {d:D} (h:PE X e (tC v)) (r:Sc X.K v d):DE X l e (fun _=> .ok d):=by
 with_unfolding_all exact (
  PE.imp h fun σ H Q=>by
   rintro ⟨G,H0,env,d',k,ef,q⟩;cases ef
   exact q v H (Same.refl H) (r.1 _ H) r.T)
def jbY {i:Int} {j}:DE X l (.Constant (.int i) j pos) (cI i):=de_c jbG (jgH i)
def wm {i:Bool} {j}:DE X l (.Constant (.bool i) j pos) (cB i):=de_c jfS (jgE i)
def XC {j}:DE X l (.Constant .none j pos) cN:=de_c jey jgR
def Js {x:Str} {j} (h:x.length<=aah:=by decide):DE X l (.Constant (.str x) j pos) (cS x):=de_c jev (jgU x h)
def ug {x:Str} {i:Int} {t:Tok} (hg:Gl X x) (hm:X.mg x=some (.int i t)) (hd:ZI x:=by decide):DE X l (.Name x pos) (cI i):=
 de_c (Yf (v:= .int i) hg hm ⟨t,rfl⟩ hd) (jgH i)
def jdt {x y:Str} {t:Tok} (hg:Gl X x) (hm:X.mg x=some (.str y t)) (hl:y.length<=aah:=by decide) (hd:ZI x:=by decide):DE X l (.Name x pos) (cS y):=
 de_c (Yf (v:= .str y) hg hm ⟨t,rfl⟩ hd) (jgU y hl)
def OpS (K:aab) (r:R2) (g:D->D->Res D):Prop:= ∀(x y:V) (H:Hp) (a b d:D) (Q:VK),Rep K Any H x a->Rep K Any H y b->g a b= .ok d->(∀v,Sc K v d->Q v H)->r x y H Q
def OpD (K:aab) (r:R2) (g:D->D->Res D):Prop:= ∀(A:X7) (x y:V) (H:Hp) (a b d:D) (Q:VK),Rep K A H x a->Rep K A H y b->g a b= .ok d->(∀v H',Same H H'->Rep K (fun c=>H c=none\/A c) H' v d->NewTop H v->Q v H')->r x y H Q
def two (f1 f2:T5) (g:D->D->Res D):Sl->Res D:=fun env=>f1 env>>=fun x=>f2 env>>=fun y=>g x y
def jb9 {K:aab} {r:R2} {g:D->D->Res D} (hr:OpS K r g) {σ:L2.St} {H:Hp} {Q:VK} (h:tE K l (two f1 f2 g) σ H Q):tOp r (tE K l1 f1) (tE K l2 f2) σ H Q:=by
 obtain ⟨G,H0,env,d,k,ef,q⟩:=h;obtain ⟨a,e1,ef⟩:=je ef;obtain ⟨b,e2,e3⟩:=je ef;refine ⟨G,H0,env,a,k,e1,fun x H1 s1 r1 _=>⟨G,H0,env,b,k.grow s1,e2,fun y H2 s2 r2 _=>?_⟩⟩;exact hr x y H2 a b d Q ((r1.grow s2).weak Lv.weak_b) (r2.weak Lv.weak_b) e3 fun v sc=>q v H2 (s1.trans s2) (sc.1 _ _) sc.T
def jfA {K:aab} {r:R2} {g:D->D->Res D} (hr:OpD K r g) {σ:L2.St} {H:Hp} {Q:VK} (h:tE K .t (two f1 f2 g) σ H Q):tOp r (tE K .s f1) (tE K .s f2) σ H Q:=by
 obtain ⟨G,H0,env,d,k,ef,q⟩:=h;obtain ⟨a,e1,ef⟩:=je ef;obtain ⟨b,e2,e3⟩:=je ef;refine ⟨G,H0,env,a,k,e1,fun x H1 s1 r1 _=>⟨G,H0,env,b,k.grow s1,e2,fun y H2 s2 r2 _=>?_⟩⟩;have sm:=s1.trans s2;exact hr _ x y H2 a b d Q (r1.grow s2) r2 e3 fun v H3 s3 r3 nt=>q v H3 (sm.trans s3) (r3.weak fun c z=>z.elim (fun z=>k.new c (Same.free sm z)) fun z=>z) (nt.grow sm)
def jfB {K:aab} {r:R2} {g:D->D->Res D} (hr:OpD K r g) {σ:L2.St} {H:Hp} {Q:VK} (h:tE K .b (two f1 f2 g) σ H Q):tOp r (tE K .b f1) (tE K .b f2) σ H Q:=by
 obtain ⟨G,H0,env,d,k,ef,q⟩:=h;obtain ⟨a,e1,ef⟩:=je ef;obtain ⟨b,e2,e3⟩:=je ef;refine ⟨G,H0,env,a,k,e1,fun x H1 s1 r1 _=>⟨G,H0,env,b,k.grow s1,e2,fun y H2 s2 r2 _=>?_⟩⟩;have sm:=s1.trans s2;exact hr _ x y H2 a b d Q (r1.grow s2) r2 e3 fun v H3 s3 r3 nt=>q v H3 (sm.trans s3) (r3.weak fun c _=>trivial) trivial
def YL {op:aex} {r:R2} {g:D->D->Res D} (ho:OpR X (abV op) r) (hr:OpS X.K r g) (ha:DE X l1 a f1) (hb:DE X l2 b f2):DE X l (.BinOp a op b pos) (two f1 f2 g):=by
 with_unfolding_all exact (
  PE.imp (jaj ho ha hb) fun _ _ _ h=>jb9 hr h)
def jK {op:aex} {r:R2} {g:D->D->Res D} (ho:OpR X (abV op) r) (hr:OpD X.K r g) (ha:DE X .s a f1) (hb:DE X .s b f2):DE X .t (.BinOp a op b pos) (two f1 f2 g):=by
 with_unfolding_all exact (
  PE.imp (jaj ho ha hb) fun _ _ _ h=>jfA hr h)
def jfi {op:aex} {r:R2} {g:D->D->Res D} (ho:OpR X (abV op) r) (hr:OpD X.K r g) (ha:DE X .b a f1) (hb:DE X .b b f2):DE X .b (.BinOp a op b pos) (two f1 f2 g):=by
 with_unfolding_all exact (
  PE.imp (jaj ho ha hb) fun _ _ _ h=>jfB hr h)
def K3 {op:CmpOp} {r:R2} {g:D->D->Res D} (ho:OpR X (abK op) r) (hr:OpS X.K r g) (ha:DE X l1 a f1) (hb:DE X l2 b f2) (hm:adw op b=false:=by first|exact kR _| (with_unfolding_all rfl)):DE X l (.Compare a [op] [b] pos) (two f1 f2 g):=by
 with_unfolding_all exact (
  PE.imp (kA ho ha hb hm) fun _ _ _ h=>jb9 hr h)
def asB (f:T5):Sl->Res Bool:=fun env=>f env>>=fun d=>match d with
 | .bl b=> .ok b
 |_=> .stuck
def jdL {env:Sl} {b:Bool} (h:asB f env= .ok b):f env= .ok (.bl b):=by
 obtain ⟨d,e1,e2⟩:=je h
 cases d with
 |bl c=>cases e2;exact e1
 |_=>cases e2
def X3 {K:aab} {t:TE} (ht: ∀σ H Q,tE K l f σ H Q->t σ H Q) {σ:L2.St} {H:Hp} {Q:Bool->Hp->Prop} (h:tT K (asB f) σ H Q):jb8 t σ H Q:=by
 obtain ⟨G,H0,env,b,k,ef,q⟩:=h;refine ht σ H _ ⟨G,H0,env,.bl b,k,jdL ef,fun v H' s r _=>⟨b,r.blE,q H' s⟩⟩
def qT {op:CmpOp} {r:R2} {g:D->D->Res D} (ho:OpR X (abK op) r) (hr:OpS X.K r g) (ha:DE X l1 a f1) (hb:DE X l2 b f2) (hm:adw op b=false:=by first|exact kR _| (with_unfolding_all rfl)):DT X (.Compare a [op] [b] pos) (asB (two f1 f2 g)):=by
 with_unfolding_all exact (
  PT.imp (jco ho ha hb hm) fun _ _ _ h=>X3 (l:= .b) (fun _ _ _ h=>jb9 hr h) h)
def YO (f1 f2 f3:T5) (g g':D->D->Res D):Sl->Res D:=fun env=>f1 env>>=fun x=>f2 env>>=fun y=>g x y>>=fun z=>match z with
 | .bl true=>f3 env>>=fun w=>g' y w
 | .bl false=> .ok (.bl false)
 |_=> .stuck
def Y4 {K:aab} {l3:Lv} {r r':R2} {g g':D->D->Res D} (hr:OpS K r g) (hr':OpS K r' g') {σ:L2.St} {H:Hp} {Q:VK} (h:tE K l (YO f1 f2 f3 g g') σ H Q):UJ r r' (tE K l1 f1) (tE K l2 f2) (tE K l3 f3) σ H Q:=by
 obtain ⟨G,H0,env,d,k,ef,q⟩:=h;obtain ⟨a,e1,ef⟩:=je ef;obtain ⟨b,e2,ef⟩:=je ef;obtain ⟨z,e3,e4⟩:=je ef;refine ⟨G,H0,env,a,k,e1,fun x H1 s1 r1 _=>⟨G,H0,env,b,k.grow s1,e2,fun y H2 s2 r2 _=>?_⟩⟩;refine hr x y H2 a b z _ ((r1.grow s2).weak Lv.weak_b) (r2.weak Lv.weak_b) e3 fun v sc=>?_
 cases z with
 |bl t=>
  refine ⟨t,(sc.1 Any H2).blE,?_⟩
  cases t with
  |false=>
   cases e4;rw [if_neg aaB];exact q _ H2 (s1.trans s2) (.bl false) (jgE (K:=K) false).T
  |true=>
   obtain ⟨w,e5,e6⟩:=je e4;rw [if_pos rfl];refine ⟨G,H0,env,w,(k.grow s1).grow s2,e5,fun y' H4 s4 r4 _=>?_⟩;refine hr' y y' H4 b w d Q ((r2.grow s4).weak Lv.weak_b) (r4.weak Lv.weak_b) e6 fun v sc=>q v H4 (s1.trans (s2.trans s4)) (sc.1 _ _) sc.T
 |_=>cases e4
def K4 {op op':CmpOp} {l3:Lv} {r r':R2} {g g':D->D->Res D} (ho:OpR X (abK op) r) (hr:OpS X.K r g) (ho':OpR X (abK op') r') (hr':OpS X.K r' g') (ha:DE X l1 a f1) (hb:DE X l2 b f2) (hc:DE X l3 c f3)
   (hm:lastMarks [op,op'] [b,c]=false:=by with_unfolding_all rfl):DE X l (.Compare a [op,op'] [b,c] pos) (YO f1 f2 f3 g g'):=by
 with_unfolding_all exact (
  PE.imp (jao ho ho' ha hb hc hm) fun _ _ _ h=>Y4 hr hr' h)
def jbc {op op':CmpOp} {l3:Lv} {r r':R2} {g g':D->D->Res D} (ho:OpR X (abK op) r) (hr:OpS X.K r g) (ho':OpR X (abK op') r') (hr':OpS X.K r' g') (ha:DE X l1 a f1) (hb:DE X l2 b f2) (hc:DE X l3 c f3)
   (hm:lastMarks [op,op'] [b,c]=false:=by with_unfolding_all rfl):DT X (.Compare a [op,op'] [b,c] pos) (asB (YO f1 f2 f3 g g')):=by
 with_unfolding_all exact (
  PT.imp (jag ho ho' ha hb hc hm) fun _ _ _ h=>X3 (l:= .b) (fun _ _ _ h=>Y4 hr hr' h) h)
def qy (h:DE X l e f) (he: ∀whole,isTrue e X.env whole=(do let v←whole;standAt e.pos;ad4 [v] (truthy v)):=by intro _;rfl):DT X e (asB f):=by
 with_unfolding_all exact (
  PT.imp (jel h he) fun _ _ _ h=>X3 (fun _ _ _ h=>h) h)
def tru:D->Res Bool
 | .non=> .ok false
 | .bl b=> .ok b
 | .int i=> .ok (i !=0)
 | .str x=> .ok ((x.length:Int) !=0)
 | .tup ds=> .ok (!ds.isEmpty)
 | .lst ds=> .ok (!ds.isEmpty)
 | .scr ds=> .ok (!ds.isEmpty)
 | .dic _ _=> .stuck
 | .dit _ _=> .stuck
 | .exn _=> .stuck
 | .fdc _ _=> .stuck
 | .hdc _ _=> .stuck
 | .obj _ _ _=> .stuck
 | .mem _ _=> .stuck
def jfx {K:aab} {A:X7} {H:Hp} {v:V} {d:D} {b:Bool} (r:Rep K A H v d) (h:tru d= .ok b):TruV K v H b:=by
 cases r with
 |non=>cases h;rfl
 |bl c=>cases h;rfl
 |int i=>cases h;rfl
 |str x hx=>cases h;exact ⟨hx,rfl⟩
 |tup e r=>cases h;exact .inr (.inl ⟨_,.of e,by rw [r.isEmpty]⟩)
 |lst e _ r=>cases h;exact .inl ⟨_,.of e,by rw [r.isEmpty]⟩
 |lsk e r=>cases h;exact .inl ⟨_,e.sql,by rw [r.isEmpty]⟩
 |dic _ _ _ _ _=>cases h
 |dit _ _ _ _ _=>cases h
 |exn _ _ _=>cases h
 |fdc _ _ _ _=>cases h
 |hdc _ _ _ _=>cases h
 |obj _ _ _ _ _=>cases h
 |mem _ _=>cases h
def truF (f:T5):Sl->Res Bool:=fun env=>f env>>=tru
def jfd (h:DE X l e f) (he: ∀whole,isTrue e X.env whole=(do let v←whole;standAt e.pos;ad4 [v] (truthy v)):=by intro _;rfl):DT X e (truF f):=by
 with_unfolding_all exact (
  PT.imp (jaf h he) fun σ H Q=>by
   rintro ⟨G,H0,env,b,k,ef,q⟩;obtain ⟨d,e1,e2⟩:=je ef
   exact ⟨G,H0,env,d,k,e1,fun v H' s r _=>⟨b,jfx r e2,q H' s⟩⟩)
section
variable {g g1 g2:T4} {rest:List Expr}
def notB (g:T4):Sl->Res Bool:=fun env=>g env>>=fun b=> .ok (!b)
def zA (h:DT X a g):DT X (.UnaryOp .Not a pos) (notB g):=by
 with_unfolding_all exact (
  PT.imp (jem h) fun σ H Q=>by
   rintro ⟨G,H0,env,b,k,ef,q⟩;obtain ⟨d,e1,e2⟩:=je ef;cases e2
   exact ⟨G,H0,env,d,k,e1,q⟩)
@[irreducible] def DW (X:Cx) (e:Expr) (f:T4):Prop:=PW X e (tT X.K f)
theorem PW.imp {t t':TT} (h:PW X e t) (w: ∀σ H Q,t' σ H Q->t σ H Q):PW X e t':=fun wh pins s σ H Q I q=>h wh pins s σ H Q I (w σ H Q q)
def DW.dt (h:DW X e g):DT X e g:=by
 with_unfolding_all exact (PW.pt h)
def vZ (h:DT X a g):DW X (.BoolOp .And [a] pos) g:=by
 with_unfolding_all exact (jcm h)
def ym (h:DT X a g):DW X (.BoolOp .Or [a] pos) g:=by
 with_unfolding_all exact (jeh h)
def andB (g1 g2:T4):Sl->Res Bool:=fun env=>g1 env>>=fun b=>if b=true then g2 env else .ok false
def orB (g1 g2:T4):Sl->Res Bool:=fun env=>g1 env>>=fun b=>if b=true then .ok true else g2 env
def jbU (h1:DT X a g1) (h2:DW X (.BoolOp .And (b::rest) pos) g2):DW X (.BoolOp .And (a::b::rest) pos) (andB g1 g2):=by
 with_unfolding_all exact (
  PW.imp (jei h1 h2) fun σ H Q=>by
   rintro ⟨G,H0,env,r,k,ef,q⟩;obtain ⟨d,e1,e2⟩:=je ef;refine ⟨G,H0,env,d,k,e1,fun H' s=>?_⟩
   cases d with
   |true=>rw [if_pos rfl] at e2 ⊢;exact ⟨G,H0,env,r,k.grow s,e2,fun H2 s2=>q H2 (s.trans s2)⟩
   |false=>rw [if_neg aaB] at e2 ⊢;cases e2;exact q H' s)
def QZ (h1:DT X a g1) (h2:DW X (.BoolOp .Or (b::rest) pos) g2):DW X (.BoolOp .Or (a::b::rest) pos) (orB g1 g2):=by
 with_unfolding_all exact (
  PW.imp (jfP h1 h2) fun σ H Q=>by
   rintro ⟨G,H0,env,r,k,ef,q⟩;obtain ⟨d,e1,e2⟩:=je ef;refine ⟨G,H0,env,d,k,e1,fun H' s=>?_⟩
   cases d with
   |false=>rw [if_neg aaB] at e2 ⊢;exact ⟨G,H0,env,r,k.grow s,e2,fun H2 s2=>q H2 (s.trans s2)⟩
   |true=>rw [if_pos rfl] at e2 ⊢;cases e2;exact q H' s)
def toB (f:T5) (g:T5) (w:Bool):Sl->Res D:=fun env=>f env>>=fun d=>match d with
 | .bl b=>if b=w then g env else .ok (.bl b)
 |_=> .stuck
def ZA {op} (h:DE X l a f):DE X l (.BoolOp op [a] pos) f:=by
 with_unfolding_all exact (jew h)
def ZB (h1:DE X l1 a f1) (h2:DE X l (.BoolOp .And (b::rest) pos) f2):DE X l (.BoolOp .And (a::b::rest) pos) (toB f1 f2 true):=by
 with_unfolding_all exact (
  PE.imp (jeB h1 h2) fun σ H Q=>by
   rintro ⟨G,H0,env,r,k,ef,q⟩;obtain ⟨d,e1,e2⟩:=je ef;refine ⟨G,H0,env,d,k,e1,fun v H' s rr _=>?_⟩
   cases d with
   |bl t=>
    refine ⟨t,rr.blE,?_⟩
    cases t with
    |true=>exact ⟨G,H0,env,r,k.grow s,e2,fun v H2 s2 r2 nt=>q v H2 (s.trans s2) r2 (Lv.Tgrow s nt)⟩
    |false=>cases e2;exact q _ H' s (.bl false) (jgE (K:=X.K) false).T
   |_=>cases e2)
def notD:D->Res D
 | .bl b=> .ok (.bl (!b))
 |_=> .stuck
def notF (f:T5):Sl->Res D:=fun env=>f env>>=notD
def uf (h:DE X l1 a f):DE X l (.UnaryOp .Not a pos) (notF f):=by
 with_unfolding_all exact (
  PE.imp (jex h) fun σ H Q=>by
   rintro ⟨G,H0,env,r,k,ef,q⟩;obtain ⟨d,e1,e2⟩:=je ef;refine ⟨G,H0,env,d,k,e1,fun v H' s rr _=>?_⟩
   cases d with
   |bl t=>cases e2;exact ⟨t,rr.blE,q _ H' s (.bl _) (jgE (K:=X.K) _).T⟩
   |_=>cases e2)
def ifD (g:T4) (f1 f2:T5):Sl->Res D:=fun env=>g env>>=fun b=>if b=true then f1 env else f2 env
def jbZ (hc:DT X c g) (h1:DE X l a f1) (h2:DE X l b f2):DE X l (.IfExp c a b pos) (ifD g f1 f2):=by
 with_unfolding_all exact (
  PE.imp (jal hc h1 h2) fun σ H Q=>by
   rintro ⟨G,H0,env,r,k,ef,q⟩;obtain ⟨d,e1,e2⟩:=je ef;refine ⟨G,H0,env,d,k,e1,fun H' s=>?_⟩
   cases d with
   |true=>rw [if_pos rfl] at e2 ⊢;exact ⟨G,H0,env,r,k.grow s,e2,fun v H2 s2 r2 nt=>q v H2 (s.trans s2) r2 (Lv.Tgrow s nt)⟩
   |false=>rw [if_neg aaB] at e2 ⊢;exact ⟨G,H0,env,r,k.grow s,e2,fun v H2 s2 r2 nt=>q v H2 (s.trans s2) r2 (Lv.Tgrow s nt)⟩)
end
def jb (f:T5) (g:T0):Sl->Res (List D):=fun env=>f env>>=fun d=>g env>>=fun ds=> .ok (d::ds)
def nil1:Sl->Res (List D):=fun _=> .ok []
def jd:DA X l [] nil1:=by
 with_unfolding_all exact (PA.imp wu fun σ H Q=>by rintro ⟨G,H0,env,d,k,ef,q⟩;cases ef;exact q [] H (Same.refl H) .nil)
def ja {g:T0} (ha:DE X l e f) (hr:DA X l es g) (hs:WS X e es:=by exact jk rfl):DA X l (e::es) (jb f g):=by
 with_unfolding_all exact (
  PA.imp (qg ha hr hs) fun σ H Q=>by
   rintro ⟨G,H0,env,ds,k,ef,q⟩;obtain ⟨d,e1,e2⟩:=je ef;obtain ⟨ds',e3,e4⟩:=je e2;cases e4
   exact ⟨G,H0,env,d,k,e1,fun v H1 s1 r1 _=>⟨G,H0,env,ds',k.grow s1,e3,fun vs H2 s2 r2=>q _ H2 (s1.trans s2) (.cons (r1.grow s2) r2)⟩⟩)
def j9 {H H1:Hp} {p:Addr} (s:Same H H1) (hp:H1 p=none):NewTop H (.ref p):=fun a e o q=>by
 cases e;rw [s _ _ q] at hp;cases hp
def tupF (g:T0):Sl->Res D:=fun env=>g env>>=fun ds=>must (ds.length<=aah) (.ok (.tup ds))
def lstF (g:T0):Sl->Res D:=fun env=>g env>>=fun ds=>must (ds.length<=aah) (.ok (.lst ds))
def jR {x1} {g:T0} (h:DA X .s es g):DE X .t (.Tuple es x1 pos) (tupF g):=by
 with_unfolding_all exact (
  PE.imp (jeu h) fun σ H Q=>by
   rintro ⟨G,H0,env,d,k,ef,q⟩;obtain ⟨ds,e1,e2⟩:=je ef;obtain ⟨hz,e3⟩:=jr e2;cases e3;refine ⟨G,H0,env,ds,k,e1,fun vs H1 s1 r1=>⟨by rw [r1.length];exact hz,fun p hp=>?_⟩⟩
   exact q _ _ (s1.trans (Same.upd hp)) (.tup jo (r1.grow (Same.upd hp))) (j9 s1 hp))
def jN {g:T0} (h:DA X .s es g):DE X .t (.List es pos) (lstF g):=by
 with_unfolding_all exact (
  PE.imp (jez h) fun σ H Q=>by
   rintro ⟨G,H0,env,d,k,ef,q⟩;obtain ⟨ds,e1,e2⟩:=je ef;obtain ⟨hz,e3⟩:=jr e2;cases e3;refine ⟨G,H0,env,ds,k,e1,fun vs H1 s1 r1=>⟨by rw [r1.length];exact hz,fun p hp=>?_⟩⟩
   exact q _ _ (s1.trans (Same.upd hp)) (.lst jo (k.new p (Same.free s1 hp)) (r1.laid hp)) (j9 s1 hp))
def jbx (K:aab) (r:List V->Hp->VK->Prop) (g:TZ):Prop:= ∀(xs:List V) (H:Hp) (ds:List D) (d:D) (Q:VK),Reps K Any H xs ds->g ds= .ok d->(∀v,Sc K v d->Q v H)->r xs H Q
def WG (K:aab) (r:List V->Hp->VK->Prop) (g:TZ):Prop:= ∀(A:X7) (xs:List V) (H:Hp) (ds:List D) (d:D) (Q:VK),Reps K A H xs ds->g ds= .ok d->(∀v H',Same H H'->Rep K (fun c=>H c=none\/A c) H' v d->NewTop H v->Q v H')->r xs H Q
def app (f:T0) (g:TZ):Sl->Res D:=fun env=>f env>>=g
def jfI {K:aab} {r:List V->Hp->VK->Prop} {g:TZ} {fa:T0} (hr:jbx K r g) {σ:L2.St} {H:Hp} {Q:VK} (h:tE K l' (app fa g) σ H Q):tCB r (tA K l fa) σ H Q:=by
 obtain ⟨G,H0,env,d,k,ef,q⟩:=h;obtain ⟨ds,e1,e2⟩:=je ef;refine ⟨G,H0,env,ds,k,e1,fun vs H1 s1 r1=>?_⟩;exact hr vs H1 ds d Q (r1.weak Lv.weak_b) e2 fun v sc=>q v H1 s1 (sc.1 _ _) sc.T
def jd3 {K:aab} {r:List V->Hp->VK->Prop} {g:TZ} {fa:T0} (hr:WG K r g) {σ:L2.St} {H:Hp} {Q:VK} (h:tE K .t (app fa g) σ H Q):tCB r (tA K .s fa) σ H Q:=by
 obtain ⟨G,H0,env,d,k,ef,q⟩:=h;obtain ⟨ds,e1,e2⟩:=je ef;refine ⟨G,H0,env,ds,k,e1,fun vs H1 s1 r1=>?_⟩;exact hr _ vs H1 ds d Q r1 e2 fun v H2 s2 r2 nt=>q v H2 (s1.trans s2) (r2.weak fun c z=>z.elim (fun z=>k.new c (Same.free s1 z)) fun z=>z) (nt.grow s1)
section
variable {x:Str} {id T:String} {p:Pos} {r:List V->Hp->VK->Prop} {g:TZ} {fa:T0}
def qF (hc:CallR X (.builtin id) r) (hr:jbx X.K r g) (hg:Gl X x) (hm:X.mg x=none) (hv:abz x=some (.builtin id))
   (ha:DA X l (e::es) fa) (hn:x≠ "__name__" :=by decide) (hdb:ZI x:=by decide)
   (he:WS X e es:=by exact jk rfl) (hpl:Vv X pos es:=by exact jS rfl):DE X l' (.Call (.Name x p) (e::es) [] pos) (app fa g):=by
 with_unfolding_all exact (
  PE.imp (wt hc hg hm hv ha hn hdb he hpl) fun _ _ _ h=>jfI hr h)
def qm (hc:CallR X (.type T) r) (hr:WG X.K r g) (hg:Gl X x) (hm:X.mg x=none) (hv:abz x=some (.type T))
   (ha:DA X .s (e::es) fa) (hn:x≠ "__name__" :=by decide) (hdb:ZI x:=by decide)
   (he:WS X e es:=by exact jk rfl) (hpl:Vv X pos es:=by exact jS rfl):DE X .t (.Call (.Name x p) (e::es) [] pos) (app fa g):=by
 with_unfolding_all exact (
  PE.imp (y6 hc hg hm hv ha hn hdb he hpl) fun _ _ _ h=>jd3 hr h)
end
def spF (K:aab) (fr:Bool) (n:Nat) (F:TZ):Sp:=fun vs H Q _=> ∃B ds d,vs.length=n/\Reps K B H vs ds/\F ds= .ok d/\ ∀v H',Same H H'->Rep K (fun a=>H a=none\/B a) H' v d->(fr=true->NewTop H v)->Q v H'
def ji (n:Nat) (F:TZ) (g:T0):Sl->Res D:=fun env=>g env>>=fun ds=>must (ds.length=n) (F ds)
section
variable {CX:CXT} {k:Nat} {x:Str} {fa:Addr} {fd:ab4} {ps:List Str} {p:Pos} {n:Nat} {F:TZ} {E:XK} {g:T0} {fr:Bool}
def jdu (G:FnOk X.prog X.w X.K X.mg X.base CX k fa fd ps (spF X.K fr n F)) (hr:Room k X.A) (hg:Gl X x) (hm:X.mg x=some (.ref fa)) (hk:abg X.K (.ref fa)=true) (hb:Binds X.K fd ps []) (hx:Q6 CX X E)
   (ha:DA X .s (e::es) g) (hdb:ZI x:=by decide) (he:WS X e es:=by exact jk rfl) (hpl:Vv X pos es:=by exact jS rfl):
   DE X .s (.Call (.Name x p) (e::es) [] pos) (ji n F g):=by
 with_unfolding_all exact (
  PE.imp (Yg G hr hg hm hk hb .nil hx ha hdb he hpl) fun σ H Q=>by
   rintro ⟨GG,H0,env,d,k,ef,q⟩;obtain ⟨ds,e1,e2⟩:=je ef;obtain ⟨hn,e3⟩:=jr e2;refine ⟨GG,H0,env,ds,k,e1,fun vs H1 s1 r1=>?_⟩;show spF X.K fr n F (vs++[]) H1 Q E;rw [abJ]
   exact ⟨_,ds,d,by rw [r1.length];exact hn,r1,e3,fun v H2 s2 r2 _=>q v H2 (s1.trans s2) (r2.weak fun c z=>z.elim (fun z=>k.new c (Same.free s1 z)) fun z=>z) trivial⟩)
def jbk (G:FnOk X.prog X.w X.K X.mg X.base CX k fa fd ps (spF X.K true n F)) (hr:Room k X.A) (hg:Gl X x) (hm:X.mg x=some (.ref fa)) (hk:abg X.K (.ref fa)=true) (hb:Binds X.K fd ps []) (hx:Q6 CX X E)
   (ha:DA X .s (e::es) g) (hdb:ZI x:=by decide) (he:WS X e es:=by exact jk rfl) (hpl:Vv X pos es:=by exact jS rfl):
   DE X .t (.Call (.Name x p) (e::es) [] pos) (ji n F g):=by
 with_unfolding_all exact (
  PE.imp (Yg G hr hg hm hk hb .nil hx ha hdb he hpl) fun σ H Q=>by
   rintro ⟨GG,H0,env,d,k,ef,q⟩;obtain ⟨ds,e1,e2⟩:=je ef;obtain ⟨hn,e3⟩:=jr e2;refine ⟨GG,H0,env,ds,k,e1,fun vs H1 s1 r1=>?_⟩;show spF X.K true n F (vs++[]) H1 Q E;rw [abJ]
   exact ⟨_,ds,d,by rw [r1.length];exact hn,r1,e3,fun v H2 s2 r2 nt=>q v H2 (s1.trans s2) (r2.weak fun c z=>z.elim (fun z=>k.new c (Same.free s1 z)) fun z=>z) ((nt rfl).grow s1)⟩)
def jbl (G:FnOk X.prog X.w X.K X.mg X.base CX k fa fd ps (spF X.K fr n F)) (hr:Room k X.A) (hg:Gl X x) (hm:X.mg x=some (.ref fa)) (hk:abg X.K (.ref fa)=true) (hb:Binds X.K fd ps []) (hx:Q6 CX X E)
   (ha:DA X .b (e::es) g) (hdb:ZI x:=by decide) (he:WS X e es:=by exact jk rfl) (hpl:Vv X pos es:=by exact jS rfl):
   DE X .b (.Call (.Name x p) (e::es) [] pos) (ji n F g):=by
 with_unfolding_all exact (
  PE.imp (Yg G hr hg hm hk hb .nil hx ha hdb he hpl) fun σ H Q=>by
   rintro ⟨GG,H0,env,d,k,ef,q⟩;obtain ⟨ds,e1,e2⟩:=je ef;obtain ⟨hn,e3⟩:=jr e2;refine ⟨GG,H0,env,ds,k,e1,fun vs H1 s1 r1=>?_⟩;show spF X.K fr n F (vs++[]) H1 Q E;rw [abJ]
   exact ⟨_,ds,d,by rw [r1.length];exact hn,r1,e3,fun v H2 s2 r2 _=>q v H2 (s1.trans s2) (r2.weak fun c _=>trivial) trivial⟩)
end
def ixD:D->D->Res D
 | .lst ds,.int i=>match atI ds i with
  |some d=> .ok d
  |none=> .stuck
 | .scr ds,.int i=>match atI ds i with
  |some d=> .ok d
  |none=> .stuck
 | .tup ds,.int i=>match atI ds i with
  |some d=> .ok d
  |none=> .stuck
 | .str z,.int i=>match atI z.cps.toList i with
  |some c=> .ok (.str ⟨#[c]⟩)
  |none=> .stuck
 |_,_=> .stuck
def YT {K:aab} {A:X7} {H:Hp} {xs:List V} {ds:List D} {i:Int} {d:D} (r:Reps K A H xs ds) (h:atI ds i=some d): ∃v,atI xs i=some v/\Rep K A H v d:=by
 unfold atI at h ⊢;rw [r.length]
 cases e:ixN ds.length i with
 |none=>rw [e] at h;cases h
 |some j=>rw [e] at h;exact r.get h
def jcC (c:Nat):(⟨#[c]⟩:Str).length<=aah:=by show 1<=aah;decide
def jfV {A:X7} {x y:V} {H:Hp} {a b d:D} {Q:VK} (ra:Rep X.K A H x a) (rb:Rep X.K Any H y b) (h:ixD a b= .ok d) (q: ∀v,Rep X.K A H v d->Q v H):rIx X.K x y H Q:=by
 cases b with
 |int i=>
  cases rb.intE
  cases a with
  |lst ds=>
   unfold ixD at h;dsimp only at h
   cases e:atI ds i with
   |none=>rw [e] at h;cases h
   |some d'=>
    rw [e] at h;cases h;obtain ⟨p,xs,rfl,hq,_,r⟩:=ra.lstE;obtain ⟨v,e2,r2⟩:=YT r.low e;exact .inl ⟨p,xs,i,v,rfl,rfl,.of hq,e2,q v r2⟩
  |scr ds=>
   unfold ixD at h;dsimp only at h
   cases e:atI ds i with
   |none=>rw [e] at h;cases h
   |some d'=>
    rw [e] at h;cases h;obtain ⟨p,xs,rfl,hq,r⟩:=ra.scrE;obtain ⟨v,e2,r2⟩:=YT r e;exact .inl ⟨p,xs,i,v,rfl,rfl,hq.sql,e2,q v r2⟩
  |tup ds=>
   unfold ixD at h;dsimp only at h
   cases e:atI ds i with
   |none=>rw [e] at h;cases h
   |some d'=>
    rw [e] at h;cases h;obtain ⟨p,xs,rfl,hq,r⟩:=ra.tupE;obtain ⟨v,e2,r2⟩:=YT r e;exact .inr (.inl ⟨p,xs,i,v,rfl,rfl,.of hq,e2,q v r2⟩)
  |str z=>
   unfold ixD at h;dsimp only at h
   cases e:atI z.cps.toList i with
   |none=>rw [e] at h;cases h
   |some c=>
    rw [e] at h;cases h;obtain ⟨rfl,hz⟩:=ra.strE;exact .inr (.inr ⟨z,i,c,rfl,rfl,hz,e,q _ (.str _ (by show 1<=aah;decide))⟩)
  |_=>cases h
 |_=>cases a<;>cases h
def wd (ha:DE X .s a f1) (hb:DE X l2 b f2) (hs:uO b:=by intro _ _;rfl):DE X .s (.Subscript a b pos) (two f1 f2 ixD):=by
 with_unfolding_all exact (
  PE.imp (jfR jeY ha hb hs) fun σ H Q=>by
   rintro ⟨G,H0,env,d,k,ef,q⟩;obtain ⟨a',e1,ef⟩:=je ef;obtain ⟨b',e2,e3⟩:=je ef;refine ⟨G,H0,env,a',k,e1,fun x H1 s1 r1 _=>⟨G,H0,env,b',k.grow s1,e2,fun y H2 s2 r2 _=>?_⟩⟩
   exact jfV (r1.grow s2) (r2.weak Lv.weak_b) e3 fun v r3=>q v H2 (s1.trans s2) r3 trivial)
@[irreducible] def DO (X:Cx) (e:Option Expr) (f:Sl->Res (Option Int)):Prop:=PO X e (fun σ H Q=> ∃G H0 env i,EnvOk X.K G H0 env σ H/\f env= .ok i/\ ∀H',Same H H'->Q i H')
theorem PO.imp {e:Option Expr} {t t':TO} (h:PO X e t) (w: ∀σ H Q,t' σ H Q->t σ H Q):PO X e t':=fun pins s σ H Q I q=>h pins s σ H Q I (w σ H Q q)
def yG:Sl->Res (Option Int):=fun _=> .ok none
def yN:DO X none yG:=by
 with_unfolding_all exact (PO.imp jcs fun σ H Q=>by rintro ⟨G,H0,env,i,k,ef,q⟩;cases ef;exact q H (Same.refl H))
def asI:D->Res (Option Int)
 | .int i=> .ok (some i)
 |_=> .stuck
def yk (f:T5):Sl->Res (Option Int):=fun env=>f env>>=asI
def yM (h:DE X l e f):DO X (some e) (yk f):=by
 with_unfolding_all exact (PO.imp (jcr h) fun σ H Q=>by
  rintro ⟨G,H0,env,i,k,ef,q⟩;obtain ⟨d,e1,e2⟩:=je ef
  cases d with
  |int j=>cases e2;exact ⟨G,H0,env,.int j,k,e1,fun v H' s r _=>⟨j,r.intE,q H' s⟩⟩
  |_=>cases e2)
def cutD (ds:List D) (lo hi:Option Int):List D:=(ds.drop (HT.sIx ds.length 0 lo)).take (HT.sIx ds.length ds.length hi-HT.sIx ds.length 0 lo)
def YN {K:aab} {A:X7} {H:Hp} {xs:List V} {ds:List D} {lo hi:Option Int} (r:Reps K A H xs ds):Reps K A H (cutV xs lo hi) (cutD ds lo hi):=by
 unfold cutV cutD;rw [r.length];exact (r.drop _).take _
def zy (f:T5) (fl fh:Sl->Res (Option Int)) (g:D->Option Int->Option Int->Res D):Sl->Res D:=fun env=>f env>>=fun a=>fl env>>=fun lo=>fh env>>=fun hi=>g a lo hi
end
section
variable {K:aab} {G:X7} {H0 H H1 H':Hp} {env env':Sl} {σ σ':L2.St} {i:Nat} {d:D} {v:V}
def jp {α:Type} {l:List α} {i j:Nat} {x:α} (h:i≠j):(l.set i x)[j]?=l[j]?:=abj h
def jw {α:Type} {l:List α} {i:Nat} {x y:α} (h:(l.set i x)[i]?=some y):y=x/\i<l.length:=by
 have hl:i<l.length:=by
  have:=(aap.mp h).1;simpa using this
 rw [aaX hl] at h;exact ⟨(aaK h).symm,hl⟩
def Qw {s:Slot} {a:Addr} (h:jY (env.set i s) (σ.set i (some v)) a):jY env σ a\/(∃d,s= .own d/\v= .ref a):=by
 obtain ⟨j,d,h1,h2⟩:=h
 by_cases e:i=j
 · subst e;obtain ⟨q1,_⟩:=jw h1;obtain ⟨q2,_⟩:=jw h2;exact .inr ⟨d,q1.symm,(aaK q2).symm⟩
 · rw [jp e] at h1 h2;exact .inl ⟨j,d,h1,h2⟩
def EnvOk.setS (k:EnvOk K G H0 env σ H) (r:Rep K (Sf G env σ) H v d):EnvOk K G H0 (env.set i (.shr d)) (σ.set i (some v)) H:=by
 have w: ∀a,Sf G env σ a->Sf G (env.set i (.shr d)) (σ.set i (some v)) a:=fun a n=>⟨fun o=>(by
   rcases Qw o with z| ⟨d',z,_⟩
   · exact n.1 z
   · cases z),n.2⟩
 refine ⟨by simp [k.len],k.base,k.g0,fun j e h=>?_,fun j e h=>?_,fun j j' e e' a h1 h2 h3 h4=>?_⟩
 · by_cases z:i=j
   · subst z;obtain ⟨q,hl⟩:=jw h;cases q;exact ⟨v,aaX (by rw [k.len];exact hl),r.weak w⟩
   · rw [jp z] at h ⊢;obtain ⟨v',h1,h2⟩:=k.shr j e h;exact ⟨v',h1,h2.weak w⟩
 · by_cases z:i=j
   · subst z;obtain ⟨q,hl⟩:=jw h;cases q
   · rw [jp z] at h ⊢;obtain ⟨v',h1,h0,h2⟩:=k.own j e h;exact ⟨v',h1,h0,h2.stay (fun _ _ e _=>e) w fun _ e=>e⟩
 · have n1:i≠j:=fun z=>by subst z;obtain ⟨q,_⟩:=jw h1;cases q
   have n2:i≠j':=fun z=>by subst z;obtain ⟨q,_⟩:=jw h2;cases q
   rw [jp n1] at h1 h3;rw [jp n2] at h2 h4;exact k.dis j j' e e' a h1 h2 h3 h4
def ZS:D->Bool
 | .lst _=>true
 | .dic _ _=>true
 | .dit _ _=>true
 | .obj _ _ _=>true
 |_=>false
def Yi {A:X7} (r:Rep K A H v d) (h:ZS d=true): ∃a,v= .ref a/\A a/\(∃o,H a=some o/\Mut (some o))/\Top K (fun c=>A c/\c≠a) H a d:=by
 cases r with
 |lst e a r=>exact ⟨_,rfl,a,⟨_,e,trivial⟩,.lst e r⟩
 |dic e a k1 k2 r=>exact ⟨_,rfl,a,⟨_,e,trivial⟩,.dic e k1 k2 r⟩
 |dit e a k1 k2 r=>exact ⟨_,rfl,a,⟨_,e,trivial⟩,.dit e k1 k2 r⟩
 |obj e a k1 k2 r=>exact ⟨_,rfl,a,⟨_,e,trivial⟩,.obj e k1 k2 r⟩
 |_=>cases h
def jeL {a:Addr} (s:Same H H1) (nt:NewTop H (.ref a)) (h: ∃o,H1 a=some o/\Mut (some o)):H a=none:=by
 cases e:H a with
 |none=>rfl
 |some o=>
  obtain ⟨o',h1,h2⟩:=h;rw [s a o e] at h1;cases h1;exact (nt a rfl o e h2).elim
def EnvOk.setN (k:EnvOk K G H0 env σ H) (s:Same H H1) (r:Rep K (Sf G env σ) H1 v d) (nt:NewTop H v) (hd:ZS d=true):EnvOk K G H0 (env.set i (.own d)) (σ.set i (some v)) H1/\ ∃a,v= .ref a/\H a=none:=by
 obtain ⟨a,rfl,ga,mt,top⟩:=Yi r hd;have fa:=jeL s nt mt;refine ⟨?_,a,rfl,fa⟩
 have w: ∀c,(Sf G env σ c/\c≠a)->Sf G (env.set i (.own d)) (σ.set i (some (V.ref a))) c:=fun c n=>⟨fun o=>(by
   rcases Qw o with z| ⟨d',z,z2⟩
   · exact n.1.1 z
   · cases z2;exact n.2 rfl),n.1.2⟩
 have w2: ∀c,(Sf G env σ c/\H c≠none)->Sf G (env.set i (.own d)) (σ.set i (some (V.ref a))) c:=fun c n=>w c ⟨n.1,fun e=>n.2 (by rw [e];exact fa)⟩
 have k1:=k.grow s;refine ⟨by simp [k.len],k1.base,k.g0,fun j e h=>?_,fun j e h=>?_,fun j j' e e' b h1 h2 h3 h4=>?_⟩
 · by_cases z:i=j
   · subst z;obtain ⟨q,hl⟩:=jw h;cases q
   · rw [jp z] at h ⊢;obtain ⟨v',h1,h2⟩:=k.shr j e h;exact ⟨v',h1,(h2.inDom.grow s).weak w2⟩
 · by_cases z:i=j
   · subst z;obtain ⟨q,hl⟩:=jw h;cases q;exact ⟨a,aaX (by rw [k.len];exact hl),Same.free k.base fa,top.stay (fun _ _ e _=>e) w fun _ e=>e⟩
   · rw [jp z] at h ⊢;obtain ⟨v',h1,h0,h2⟩:=k.own j e h;refine ⟨v',h1,h0,?_⟩
     cases h2 with
     |lst e2 r2=>exact .lst (s _ _ e2) ((r2.inDom.grow s).weak w2)
     |dic e2 k2 k3 r2=>exact .dic (s _ _ e2) k2 k3 ((r2.inDom.grow s).weak w2)
     |dit e2 k2 k3 r2=>exact .dit (s _ _ e2) k2 k3 ((r2.inDom.grow s).weak w2)
     |obj e2 k2 k3 r2=>exact .obj (s _ _ e2) k2 k3 ((r2.inDom.grow s).weak w2)
 · have new: ∀(j:Nat) (e:D),env[j]?=some (.own e)->σ[j]?=some (some (.ref a))->False:=fun j e q1 q2=>by
     obtain ⟨u,q⟩:=k.there ⟨j,e,q1,q2⟩;rw [fa] at q;cases q
   by_cases z1:i=j
   · subst z1
     by_cases z2:i=j'
     · exact z2
     · rw [jp z2] at h2 h4;obtain ⟨q,_⟩:=jw h3;cases q;exact (new j' e' h2 h4).elim
   · rw [jp z1] at h1 h3
     by_cases z2:i=j'
     · subst z2;obtain ⟨q,_⟩:=jw h4;cases q;exact (new j e h1 h3).elim
     · rw [jp z2] at h2 h4;exact k.dis j j' e e' b h1 h2 h3 h4
def Frm.set {s:Slot} (sm:Same H H1) (fresh: ∀a d,s= .own d->v= .ref a->H a=none):Frm env σ H (env.set i s) (σ.set i (some v)) H1:=
 ⟨fun b o e _=>sm b o e,fun b o=>by
  rcases Qw o with z| ⟨d',z,z2⟩
  · exact .inl z
  · exact .inr (fresh b d' z z2),fun b e=>Same.free sm e⟩
def Frm.sf (f:Frm env σ H env' σ' H'): ∀a,(Sf G env σ a/\H a≠none)->Sf G env' σ' a:=fun a z=>⟨fun o=>(f.more a o).elim z.1.1 z.2,z.1.2⟩
def Frm.st (k:EnvOk K G H0 env σ H) (f:Frm env σ H env' σ' H'):Stay (fun a=>Sf G env σ a/\H a≠none) H H':=fun a o e m=>f.keep a o e fun ow=>(m (k.mutO ow e)).1.1 ow
def Frm.rep (k:EnvOk K G H0 env σ H) (f:Frm env σ H env' σ' H') (r:Rep K (Sf G env σ) H v d):Rep K (Sf G env' σ') H' v d:=r.inDom.stay (f.st k) f.sf
def Frm.reps (k:EnvOk K G H0 env σ H) (f:Frm env σ H env' σ' H') {vs:List V} {ds:List D} (r:Reps K (Sf G env σ) H vs ds):Reps K (Sf G env' σ') H' vs ds:=r.inDom.stay (f.st k) f.sf
end
def yW (d:D):Slot:=if ZS d=true then .own d else .shr d
def EnvOk.setNew {K:aab} {G:X7} {H0 H H1:Hp} {env:Sl} {σ:L2.St} {i:Nat} {d:D} {v:V} (k:EnvOk K G H0 env σ H) (s:Same H H1) (r:Rep K (Sf G env σ) H1 v d) (nt:NewTop H v):
   EnvOk K G H0 (env.set i (yW d)) (σ.set i (some v)) H1/\Frm env σ H (env.set i (yW d)) (σ.set i (some v)) H1:=by
 unfold yW
 by_cases h:ZS d=true
 · rw [if_pos h];obtain ⟨z,a',e',fa⟩:=k.setN s r nt h;refine ⟨z,.set s fun a d' _ e=>?_⟩;rw [e] at e';cases e';exact fa
 · rw [if_neg h];exact ⟨(k.grow s).setS r,.set s fun _ _ z _=>by cases z⟩
def nxO:Sl->Res Out:=fun env=> .ok (.nx env)
def ub (f:T5):Sl->Res Out:=fun env=>f env>>=fun _=> .ok (.nx env)
def augI (h:Int->Int->Int) (a b:D):Res D:=match a,b with
 | .int m,.int n=> .ok (.int (h m n))
 |_,_=> .stuck
def seqO (g1 g2:T3):Sl->Res Out:=fun env=>g1 env>>=fun o=>match o with
 | .nx env'=>g2 env'
 | .rt fr d=> .ok (.rt fr d)
 | .bk env'=> .ok (.bk env')
 | .ct env'=> .ok (.ct env')
section
variable {X:Cx} {e c tg:Expr} {st:Stmt} {rest body orelse:List Stmt} {pos:Pos} {l:Lv} {f:T5} {g g1 g2:T3}
def jM:DSs X [] nxO:=by
 with_unfolding_all exact (PSs.imp kn fun E σ H=>by
  rintro ⟨G,H0,env,o,k,ef,q⟩;cases ef
  exact q σ H k (Frm.refl (Same.refl H)))
def W6 {K:aab} {G:X7} {H0 H H':Hp} {env env':Sl} {σ σ':L2.St} {E:Ends} {o:Out} (f:Frm env σ H env' σ' H') (q:Post K G H0 env σ H E o):Post K G H0 env' σ' H' E o:=by
 cases o with
 |nx e=>exact fun σ2 H2 k2 f2=>q σ2 H2 k2 (f.trans f2)
 |bk e=>exact fun σ2 H2 k2 f2=>q σ2 H2 k2 (f.trans f2)
 |ct e=>exact fun σ2 H2 k2 f2=>q σ2 H2 k2 (f.trans f2)
 |rt fr d=>exact q
def jf (h1:DS X st g1) (h2:DSs X rest g2):DSs X (st::rest) (seqO g1 g2):=by
 with_unfolding_all exact (PSs.imp (ZQ h1 h2) fun E σ H=>by
  rintro ⟨G,H0,env,o,k,ef,q⟩;obtain ⟨o1,e1,e2⟩:=je ef;refine ⟨G,H0,env,o1,k,e1,?_⟩
  cases o1 with
  |nx env1=>exact fun σ' H' k' f'=>⟨G,H0,env1,o,k',e2,W6 f' q⟩
  |rt fr d=>cases e2;exact q
  |bk e'=>cases e2;exact q
  |ct e'=>cases e2;exact q)
def jh (h1:DS X st g1):DSs X [st] g1:=by
 with_unfolding_all exact (PSs.imp (ZP h1) fun E σ H q=>q)
def retO (f:T5):Sl->Res Out:=fun env=>f env>>=fun d=> .ok (.rt true d)
def jD (h:DE X .t e f):DS X (.Return (some e) pos) (retO f):=by
 with_unfolding_all exact (PS.imp (ko h) fun E σ H=>by
  rintro ⟨G,H0,env,o,k,ef,q⟩;obtain ⟨d,e1,e2⟩:=je ef;cases e2
  exact ⟨G,H0,env,d,k,e1,fun v H' s r nt=>q v H' (k.base.trans s) (r.weak fun a z=>z.2) fun _=>NewTop.grow k.base nt⟩)
def retS (f:T5):Sl->Res Out:=fun env=>f env>>=fun d=> .ok (.rt false d)
def Wt (h:DE X .s e f):DS X (.Return (some e) pos) (retS f):=by
 with_unfolding_all exact (PS.imp (ko h) fun E σ H=>by
  rintro ⟨G,H0,env,o,k,ef,q⟩;obtain ⟨d,e1,e2⟩:=je ef;cases e2
  exact ⟨G,H0,env,d,k,e1,fun v H' s r nt=>q v H' (k.base.trans s) (r.weak fun a z=>z.2) fun z=>by cases z⟩)
def rdO (i:Nat):Sl->Res D:=fun env=>match env[i]? with
 |some (.own d)=> .ok d
 |some (.shr d)=>must (d.imm=true) (.ok d)
 |_=> .stuck
def Ws (i:Nat) {x:Str} {p:Pos} (hN:X.N[i]?=some x:=by rfl) (hv:Vis X.env.scope x:=by first|exact acj rfl|exact abB (acj rfl)|exact abB (abB rfl)) (hd:ZI x:=by decide)
    (hcd:Y9 x:=by decide):DS X (.Return (some (.Name x p)) pos) (retO (rdO i)):=by
 with_unfolding_all exact (PS.imp (ko (wW hN hv hd hcd)) fun E σ H=>by
  rintro ⟨G,H0,env,o,k,ef,q⟩;obtain ⟨d,e1,e2⟩:=je ef;cases e2;unfold rdO at e1
  split at e1
  · rename_i d' hs;cases e1;obtain ⟨a,h1,h0,h2⟩:=k.own i d hs;refine ⟨.ref a,h1,q _ H k.base (h2.rep (fun c z=>⟨z.2,W5 k hs h1 c z⟩) (k.g0 a h0)) fun _ b e o' q'=>?_⟩;cases e;rw [h0] at q';cases q'
  · rename_i d' hs;obtain ⟨hm,e3⟩:=jr e1;cases e3;obtain ⟨v,h1,h2⟩:=k.shr i d hs;exact ⟨v,h1,q v H k.base (h2.imm hm) fun _=>jcZ k.base h2 hm⟩
  · cases e1)
def ifO (t:T4) (g1 g2:T3):Sl->Res Out:=fun env=>t env>>=fun b=>if b=true then g1 env else g2 env
def zq {t:T4} (hc:DT X c t) (h1:DSs X body g1) (h2:DSs X orelse g2):DS X (.If c body orelse pos) (ifO t g1 g2):=by
 with_unfolding_all exact (PS.imp (jen hc h1 h2) fun E σ H=>by
  rintro ⟨G,H0,env,o,k,ef,q⟩;obtain ⟨b,e1,e2⟩:=je ef;refine ⟨G,H0,env,b,k,e1,fun H' s=>?_⟩
  cases b with
  |true=>rw [if_pos rfl] at e2 ⊢;exact ⟨G,H0,env,o,k.grow s,e2,W6 (Frm.refl s) q⟩
  |false=>rw [if_neg aaB] at e2 ⊢;exact ⟨G,H0,env,o,k.grow s,e2,W6 (Frm.refl s) q⟩)
def setO (i:Nat) (f:T5):Sl->Res Out:=fun env=>f env>>=fun d=> .ok (.nx (env.set i (yW d)))
def yo (i:Nat) {x:Str} {pos':Pos} (hN:X.N.Nodup) (h:DE X .t e f) (hi:X.N[i]?=some x:=by rfl) (hx:Loc X.env.scope x:=by first|exact acj rfl|exact abB rfl) (hs:acp e (some (.Name x pos')) pos.line X.env=pure false:=by rfl)
   (hf:Vu X x:=by first|exact .inl rfl|exact .inr rfl|assumption):DS X (.Assign [.Name x pos'] e pos) (setO i f):=by
 with_unfolding_all exact (
  PS.imp (jbE hN hi hx h hs hf) fun E σ H=>by
   rintro ⟨G,H0,env,o,k,ef,q⟩;obtain ⟨d,e1,e2⟩:=je ef;cases e2
   exact ⟨G,H0,env,d,k,e1,fun v H' s r nt=>q _ H' (k.setNew s r nt).1 (k.setNew s r nt).2⟩)
def jE (i:Nat) (f:T5):Sl->Res Out:=fun env=>f env>>=fun d=> .ok (.nx (env.set i (.shr d)))
def jC (i:Nat) {x:Str} {pos':Pos} (hN:X.N.Nodup) (h:DE X .s e f) (hi:X.N[i]?=some x:=by rfl) (hx:Loc X.env.scope x:=by first|exact acj rfl|exact abB rfl) (hs:acp e (some (.Name x pos')) pos.line X.env=pure false:=by rfl)
   (hf:Vu X x:=by first|exact .inl rfl|exact .inr rfl|assumption):DS X (.Assign [.Name x pos'] e pos) (jE i f):=by
 with_unfolding_all exact (
  PS.imp (jbE hN hi hx h hs hf) fun E σ H=>by
   rintro ⟨G,H0,env,o,k,ef,q⟩;obtain ⟨d,e1,e2⟩:=je ef;cases e2
   exact ⟨G,H0,env,d,k,e1,fun v H' s r _=>q _ H' ((k.grow s).setS r) (.set s fun _ _ z _=>by cases z)⟩)
def jbW (i:Nat) {x:Str} {pos':Pos} {op:aex} {h:Int->Int->Int} (hN:X.N.Nodup) (he:DE X l e f) (ho:PIp X op (ipI h)) (hi:X.N[i]?=some x:=by rfl) (hx:Loc X.env.scope x:=by first|exact acj rfl|exact abB rfl)
   (hf:Vu X x:=by first|exact .inl rfl|exact .inr rfl|assumption):
   DS X (.AugAssign (.Name x pos') op e pos) (jE i (two (rdS i) f (augI h))):=by
 with_unfolding_all exact (
  PS.imp (jeq hN hi hx he ho hf) fun E σ H=>by
   rintro ⟨G,H0,env,o,k,ef,q⟩;obtain ⟨d,e1,e2⟩:=je ef;obtain ⟨a,e3,e4⟩:=je e1;obtain ⟨b,e5,e6⟩:=je e4;cases e2;obtain ⟨v,h1,h2⟩:=k.shr i a (ki e3);refine ⟨v,h1,G,H0,env,b,k,e5,fun w H' s r _=>?_⟩
   cases a with
   |int m=>
    cases b with
    |int n=>
     cases e6;cases h2.intE;cases r.intE;exact ⟨m,n,rfl,rfl,q _ H' ((k.grow s).setS (.int _)) (.set s fun _ _ z _=>by cases z)⟩
    |_=>cases e6
   |_=>cases e6)
end
def Its (x:Str):It:=⟨fun i _=>i<x.cps.size,fun i H v H'=>H'=H/\ ∃c,x.cps[i]?=some c/\v= .str ⟨#[c]⟩,fun i _=>x.cps.size<=i⟩
def Vm {P:aaH} {w:World} {K:aab} {tg:Expr} (it:Addr) (x:Str) (t:Tok):Turn P w K tg (Its x) [it] it (fun i h=>h.IsStrIter it "str_ascii_iterator" x t i) where
 mem:=by simp
 obj:=fun i h st b hb=>by
  have e:b=it:=by simpa using hb
  subst e;obtain ⟨o,e,c,d⟩:=st;exact ⟨o,e,fun v z=>by rw [d] at z;cases z⟩
 keep:=fun i h h' st k=>let ⟨o,ho,r⟩:=st;⟨o,k it (by simp) o ho,r⟩
 item:=by
  intro X hP hw hK hc i pins s σ H E I hf st hg;subst hP hw hK;have hi:i<x.cps.size:=hg;obtain ⟨f0,f1,f2,f3,f4,f5⟩:=hf it (by simp);refine wpAny_pyNext_ascii_item st (c:=x.cps[i]) (by simp [hi]) fun h' st' sb=>?_
  have I1:Inv X pins σ H {s with heap:=h',toks:=s.toks+1}:=I.turned (fun b o hb e=>(sb.2 b hb).trans e) f0 f1 f3 f4 f5;obtain ⟨o,e,c,d⟩:=id st';exact ⟨_,rfl,vK e c d (by decide) ⟨.str ⟨#[x.cps[i]]⟩,H,I1,⟨_,rfl⟩,⟨rfl,_,by simp [hi],rfl⟩,st',fun b hb=>(hf b hb).1⟩⟩
 done:=by
  intro X hP hw hK hc i pins s σ H E I hf st hg;subst hP hw hK;have hi:=hg;obtain ⟨f0,f1,f2,f3,f4,f5⟩:=hf it (by simp);exact wpAny_pyNext_ascii_end (I.ok.hd hc) st (by simp;exact hi) fun h' eb=>⟨rfl,I.turned (fun b o hb e=>eb b o hb e) f0 f1 f3 f4 f5⟩
 self:=fun _ _ _ _ _ st h=>wpAny_pyIter_striter_ascii st h
def UD {P:aaH} {w:World} {K:aab} {tg:Expr} (it:Addr) (x:Str) (t:Tok):Turn P w K tg (Its x) [it] it (fun i h=>h.IsStrIter it "str_iterator" x t i) where
 mem:=by simp
 obj:=fun i h st b hb=>by
  have e:b=it:=by simpa using hb
  subst e;obtain ⟨o,e,c,d⟩:=st;exact ⟨o,e,fun v z=>by rw [d] at z;cases z⟩
 keep:=fun i h h' st k=>let ⟨o,ho,r⟩:=st;⟨o,k it (by simp) o ho,r⟩
 item:=by
  intro X hP hw hK hc i pins s σ H E I hf st hg;subst hP hw hK;have hi:i<x.cps.size:=hg;obtain ⟨f0,f1,f2,f3,f4,f5⟩:=hf it (by simp);refine wpAny_pyNext_wide_item st (c:=x.cps[i]) (by simp [hi]) fun h' st' sb=>?_
  have I1:Inv X pins σ H {s with heap:=h',toks:=s.toks+1}:=I.turned (fun b o hb e=>(sb.2 b hb).trans e) f0 f1 f3 f4 f5;obtain ⟨o,e,c,d⟩:=id st';exact ⟨_,rfl,vK e c d (by decide) ⟨.str ⟨#[x.cps[i]]⟩,H,I1,⟨_,rfl⟩,⟨rfl,_,by simp [hi],rfl⟩,st',fun b hb=>(hf b hb).1⟩⟩
 done:=by
  intro X hP hw hK hc i pins s σ H E I hf st hg;subst hP hw hK;have hi:=hg;obtain ⟨f0,f1,f2,f3,f4,f5⟩:=hf it (by simp);exact wpAny_pyNext_wide_end (I.ok.hd hc) st (by simp;exact hi) fun h' eb=>⟨rfl,I.turned (fun b o hb e=>eb b o hb e) f0 f1 f3 f4 f5⟩
 self:=fun _ _ _ _ _ st h=>wpAny_pyIter_striter_wide st h
def Walk (J:It) (xs:List V) (P:Hp->Prop):Prop:= ∀i H,P H->(i<xs.length->J.go i H)/\(i<xs.length-> ∀x H',J.yld i H x H'->H'=H/\xs[i]?=some x)/\(xs.length<=i->J.stop i H)
def Yd (K:aab) (A:X7) (H1 H H':Hp) (x:V) (d:D):Prop:=
 (H'=H/\Rep K A H1 x d)\/ ∃p vs es,H p=none/\x= .ref p/\H'=L2.upd H p (.tup vs)/\d= .tup es/\Reps K A H1 vs es
def jdR (K:aab) (A:X7) (H1:Hp) (J:It) (ds:List D) (P:Hp->Prop):Prop:= ∀i H,P H->(i<ds.length->J.go i H)/\(∀d,ds[i]?=some d-> ∀x H',J.yld i H x H'->Yd K A H1 H H' x d)/\(ds.length<=i->J.stop i H)
def Walk.toD {K:aab} {A:X7} {H1:Hp} {J:It} {xs:List V} {ds:List D} {P:Hp->Prop} (rs:Reps K A H1 xs ds) (w:Walk J xs P):jdR K A H1 J ds P:=fun i H p=>by
 have hl:=rs.length;obtain ⟨w1,w2,w3⟩:=w i H p;refine ⟨fun h=>w1 (by omega),fun d hd x H' y=>?_,fun h=>w3 (by omega)⟩;have hi:=(aap.mp hd).1;obtain ⟨e,hx⟩:=w2 (by omega) x H' y;obtain ⟨d',hd',r⟩:=rs.get' hx;rw [hd] at hd';cases hd';exact .inl ⟨e,r⟩
def tI (K:aab) (f:T0):TI:=fun σ H R=> ∃G H0 env ds,EnvOk K G H0 env σ H/\f env= .ok ds/\
 ∀J H1 P,Same H H1->jdR K (Sf G env σ) H1 J ds P->P H1->(∀env' σ' H',Frm env σ H1 env' σ' H'->P H')->R J H1
@[irreducible] def DI (X:Cx) (tg e:Expr) (f:T0):Prop:=PI X tg e (tI X.K f)
def Zb (z:Str):List D:=z.cps.toList.map fun c=> .str ⟨#[c]⟩
def vv:D->Res (List D)
 | .lst ds=> .ok ds
 | .scr ds=> .ok ds
 | .tup ds=> .ok ds
 | .str z=> .ok (Zb z)
 |_=> .stuck
def Vq (z:Str):List V:=z.cps.toList.map fun c=> .str ⟨#[c]⟩
def UW {K:aab} {A:X7} {H:Hp} (z:Str):Reps K A H (Vq z) (Zb z):=by
 unfold Vq Zb;generalize z.cps.toList=l
 induction l with
 |nil=>exact .nil
 |cons c r ih=>exact .cons (.str _ (jcC c)) ih
section
variable {X:Cx} {tg e:Expr} {f:T5} {l:Lv}
def itF (f:T5):Sl->Res (List D):=fun env=>f env>>=vv
def xc (h:DE X .s e f):DI X tg e (itF f):=by
 with_unfolding_all exact (by
  rintro pins s σ H R I ⟨G,H0,env,ds,k,ef,q⟩;obtain ⟨d,e1,e2⟩:=je ef;refine thn (h pins s σ H (fun v H1=>Same H H1/\Rep X.K (Sf G env σ) H1 v d) I ⟨G,H0,env,d,k,e1,fun v H' s r _=>⟨s,r⟩⟩) fun v s1 ⟨x,H1,I1,r1,sm,rep⟩=>?_
  have k1:=k.grow sm
  cases d with
  |lst ds'=>
   cases e2;obtain ⟨a,xs,rfl,ha,na,rs⟩:=rep.lstE;cases r1;obtain ⟨its,rv,p,hz⟩:=I1.list (.of ha);refine adP p.isList ?_;refine ⟨s1.heap.objs.size,[s1.heap.objs.size],_,_,H1,rfl,I1.kept fun b o e=>aad _ e,WO a _,⟨_,aaq _ rfl,rfl,rfl⟩,fun b hb=>?_,?_⟩
   · have e:b=s1.heap.objs.size:=by simpa using hb
     subst e;exact I1.fpOk (aai _) (I1.hok.fresh (aai _))
   · refine q _ H1 (fun H=>H a=some (.lst xs)) sm (Walk.toD rs.low fun i H' p=>?_) ha (fun env' σ' H' fr=>fr.keep a _ ha na.1);exact ⟨fun hi=>⟨xs,xs[i],.of p,by simp [hi]⟩,fun _ x H' y=>⟨y.1,y.2 xs (.of p)⟩,fun hi=>⟨xs,.of p,hi⟩⟩
  |scr ds'=>
   cases e2;obtain ⟨a,xs,rfl,ha,rs⟩:=rep.scrE;cases r1;obtain ⟨its,rv,p,hz⟩:=I1.list ha.sql;refine adP p.isList ?_;refine ⟨s1.heap.objs.size,[s1.heap.objs.size],_,_,H1,rfl,I1.kept fun b o e=>aad _ e,WO a _,⟨_,aaq _ rfl,rfl,rfl⟩,fun b hb=>?_,?_⟩
   · have e:b=s1.heap.objs.size:=by simpa using hb
     subst e;exact I1.fpOk (aai _) (I1.hok.fresh (aai _))
   · refine q _ H1 (fun H=>LsK X.K H a xs) sm (Walk.toD rs fun i H' p=>?_) ha (fun env' σ' H' fr=>?_)
     · exact ⟨fun hi=>⟨xs,xs[i],p.sql,by simp [hi]⟩,fun _ x H' y=>⟨y.1,y.2 xs p.sql⟩,fun hi=>⟨xs,p.sql,hi⟩⟩
     · rcases ha with ⟨o,eo⟩|z
       · exact .inl ⟨o,fr.keep a _ eo fun ow=>(k1.mutO ow eo).elim⟩
       · exact .inr z
  |tup ds'=>
   cases e2;obtain ⟨a,xs,rfl,ha,rs⟩:=rep.tupE;cases r1;obtain ⟨its,rv,p,hz⟩:=I1.tuple (.of ha);refine wpAny_pyIter_tuple (show s1.heap.IsTuple a its.toArray from p) ?_;refine ⟨s1.heap.objs.size,[s1.heap.objs.size],_,_,H1,rfl,I1.kept fun b o e=>aad _ e,Vk a _,⟨_,aaq _ rfl,rfl,rfl⟩,fun b hb=>?_,?_⟩
   · have e:b=s1.heap.objs.size:=by simpa using hb
     subst e;exact I1.fpOk (aai _) (I1.hok.fresh (aai _))
   · refine q _ H1 (fun H=>H a=some (.tup xs)) sm (Walk.toD rs fun i H' p=>?_) ha (fun env' σ' H' fr=>fr.keep a _ ha fun ow=>(k1.mutO ow ha).elim);exact ⟨fun hi=>⟨xs,xs[i],.of p,by simp [hi]⟩,fun _ x H' y=>⟨y.1,y.2 xs (.of p)⟩,fun hi=>⟨xs,.of p,hi⟩⟩
  |str z=>
   cases e2;obtain ⟨rfl,hz⟩:=rep.strE;obtain ⟨t,rfl⟩:=r1
   have fin: ∀(J:It),J=Its z-> ∃(xs:List V) (P:Hp->Prop),Reps X.K (Sf G env σ) H1 xs (Zb z)/\Walk J xs P/\P H1/\ ∀env' σ' H',Frm env σ H1 env' σ' H'->P H':=by
     rintro J rfl;refine ⟨Vq z,fun _=>True,UW z,fun i H' _=>?_,trivial,fun _ _ _ _=>trivial⟩;have hl:(Vq z).length=z.cps.size:=by simp [Vq]
     refine ⟨fun hi=>by rw [hl] at hi;exact hi,fun hi x H2 y=>?_,fun hi=>by rw [hl] at hi;exact hi⟩;obtain ⟨y1,c,y2,y3⟩:=y;refine ⟨y1,?_⟩;subst y3;simp [Vq,y2]
   obtain ⟨xs,P,h1,h2,h3,h4⟩:=fin (Its z) rfl
   cases hall:z.cps.all (· <128) with
   |true=>
     refine wpAny_pyIter_ascii hall ?_;refine ⟨s1.heap.objs.size,[s1.heap.objs.size],_,_,H1,rfl,I1.kept fun b o e=>aad _ e,Vm _ z t,⟨_,aaq _ rfl,rfl,rfl⟩,fun b hb=>?_,q _ H1 P sm (Walk.toD h1 h2) h3 h4⟩;have e:b=s1.heap.objs.size:=by simpa using hb
     subst e;exact I1.fpOk (aai _) (I1.hok.fresh (aai _))
   |false=>
     refine wpAny_pyIter_wide hall ?_;refine ⟨s1.heap.objs.size,[s1.heap.objs.size],_,_,H1,rfl,I1.kept fun b o e=>aad _ e,UD _ z t,⟨_,aaq _ rfl,rfl,rfl⟩,fun b hb=>?_,q _ H1 P sm (Walk.toD h1 h2) h3 h4⟩;have e:b=s1.heap.objs.size:=by simpa using hb
     subst e;exact I1.fpOk (aai _) (I1.hok.fresh (aai _))
  |_=>cases e2)
def xM (lo:Int) (n:Nat):List D:=(aa8 n).map fun (i:Nat)=> .int (lo+(i:Int))
def VT (lo:Int) (n:Nat):List V:=(aa8 n).map fun (i:Nat)=> .int (lo+(i:Int))
def vz {K:aab} {A:X7} {H:Hp} (lo:Int) (n:Nat):Reps K A H (VT lo n) (xM lo n):=by
 unfold VT xM;generalize aa8 n=l
 induction l with
 |nil=>exact .nil
 |cons c r ih=>exact .cons (.int _) ih
def Vi (lo:Int) (n:Nat):Walk (Itr lo n) (VT lo n) (fun _=>True):=fun i H _=>by
 have hl:(VT lo n).length=n:=by simp [VT]
 refine ⟨fun hi=>by rw [hl] at hi;exact hi,fun hi x H2 y=>?_,fun hi=>by rw [hl] at hi;exact hi⟩;obtain ⟨y1,y2⟩:=y;refine ⟨y1,?_⟩;subst y2;rw [hl] at hi;simp [VT,hi]
def rng1:List D->Res (List D)
 | [.int j]=>must (-(2^62)<=j/\j<2^62) (.ok (xM 0 j.toNat))
 |_=> .stuck
def Reps.one {K:aab} {A:X7} {H:Hp} {vs:List V} {d:D} (r:Reps K A H vs [d]): ∃v,vs=[v]/\Rep K A H v d:=by
 cases r with
 |cons h t=>cases t;exact ⟨_,rfl,h⟩
def Reps.two {K:aab} {A:X7} {H:Hp} {vs:List V} {d d':D} (r:Reps K A H vs [d,d']): ∃v v',vs=[v,v']/\Rep K A H v d/\Rep K A H v' d':=by
 cases r with
 |cons h t=>
  obtain ⟨v',rfl,h'⟩:=t.one;exact ⟨_,_,rfl,h,h'⟩
def PI.imp {t t':TI} (h:PI X tg e t) (w: ∀σ H Q,t' σ H Q->t σ H Q):PI X tg e t':=fun pins s σ H Q I q=>h pins s σ H Q I (w σ H Q q)
def rngF (fa:T0):Sl->Res (List D):=fun env=>fa env>>=rng1
def zB {a:Expr} {p pos:Pos} {fa:T0} (hg:Gl X "range") (hm:X.mg "range" =none) (ha:DA X l [a] fa) (hs:aan [a] X.env=[(false,eval a X.env)]:=by rfl):DI X tg (.Call (.Name "range" p) [a] [] pos) (rngF fa):=by
 with_unfolding_all exact (
  PI.imp (kz hg hm ha hs) fun σ H R=>by
   rintro ⟨G,H0,env,ds,k,ef,q⟩;obtain ⟨as,e1,e2⟩:=je ef;refine ⟨G,H0,env,as,k,e1,fun vs H1 s1 r1=>?_⟩;unfold rng1 at e2
   split at e2
   · obtain ⟨⟨h1,h2⟩,e3⟩:=jr e2;cases e3;obtain ⟨v,rfl,r⟩:=r1.one;cases r.intE;exact ⟨_,rfl,h1,h2,q _ H1 _ s1 (Walk.toD (vz 0 _) (Vi 0 _)) trivial fun _ _ _ _=>trivial⟩
   · cases e2)
def tG (K:aab) (t:TY):TG:=fun v σ H Q=> ∃G H0 env d env',EnvOk K G H0 env σ H/\Rep K (Sf G env σ) H v d/\t d env= .ok env'/\ ∀σ',EnvOk K G H0 env' σ' H->Frm env σ H env' σ' H->Q σ' H
@[irreducible] def DG (X:Cx) (tg:Expr) (t:TY):Prop:=PG X tg (tG X.K t)
theorem PG.imp {t t':TG} (h:PG X tg t) (w: ∀v σ H Q,t' v σ H Q->t v σ H Q):PG X tg t':=fun pins s σ H v u Q I r q=>h pins s σ H v u Q I r (w v σ H Q q)
def gN (i:Nat):D->Sl->Res Sl:=fun d env=> .ok (env.set i (.shr d))
def jq (i:Nat) {x:Str} {pos:Pos} (hN:X.N.Nodup) (hi:X.N[i]?=some x:=by rfl) (hx:Loc X.env.scope x:=by first|exact acj rfl|exact abB rfl)
   (hf:Vu X x:=by first|exact .inl rfl|exact .inr rfl|assumption):DG X (.Name x pos) (gN i):=by
 with_unfolding_all exact (
  PG.imp (jcu hN hi hx hf) fun v σ H Q=>by
   rintro ⟨G,H0,env,d,env',k,r,e,q⟩;cases e
   exact q _ (k.setS r) (.set (Same.refl H) fun _ _ z _=>by cases z))
def g2 (t u:TY):D->Sl->Res Sl:=fun d env=>match d with
 | .tup [x,y]=>t x env>>=fun env'=>u y env'
 |_=> .stuck
def wE {a b:Expr} {k:Nat} {pos:Pos} {t u:TY} (hc:X.calm=true) (h1:DG X a t) (h2:DG X b u)
   (hs:(acd [a,b] X.env).map (·.2)=assign a X.env::(acd [b] X.env).map (·.2):=by rfl) (hs2:(acd [b] X.env).map (·.2)=assign b X.env::(acd [] X.env).map (·.2):=by rfl)
   (hn:(acd [a,b] X.env).length=2:=by rfl) (hst:(acd [a,b] X.env).findIdx? (·.1)=none:=by rfl):DG X (.Tuple [a,b] k pos) (g2 t u):=by
 with_unfolding_all exact (
  PG.imp (jes hc (Kj h1 (Kj h2 jct hs2) hs) hn hst) fun v σ H Q=>by
   rintro ⟨G,H0,env,d,env',k,r,e,q⟩;unfold g2 at e
   split at e
   · obtain ⟨env1,e1,e2⟩:=je e;obtain ⟨a,xs,rfl,ha,rs⟩:=r.tupE;obtain ⟨v1,v2,rfl,r1,r2⟩:=rs.two;refine ⟨a,_,rfl,.of ha,rfl,v1,[v2],rfl,G,H0,env,_,env1,k,r1,e1,fun σ1 k1 f1=>⟨v2,[],rfl,G,H0,env1,_,env',k1,f1.rep k r2,e2,fun σ2 k2 f2=>⟨rfl,q σ2 k2 (f1.trans f2)⟩⟩⟩
   · cases e)
def asgO (f:T5) (t:TY):Sl->Res Out:=fun env=>f env>>=fun d=>t d env>>=fun env'=> .ok (.nx env')
def yp {pos:Pos} {t:TY} (he:DE X .s e f) (hg:DG X tg t) (hs:swapsWithSole [tg] e pos.line X.env=pure false:=by rfl) (hw:swappedStores [tg] e X.env=pure none:=by rfl)
   (h1:(acd [tg] X.env).map (·.2)=[assign tg X.env]:=by rfl):DS X (.Assign [tg] e pos) (asgO f t):=by
 with_unfolding_all exact (
  PS.imp (jbF he hg hs hw h1) fun E σ H=>by
   rintro ⟨G,H0,env,o,k,ef,q⟩;obtain ⟨d,e1,e2⟩:=je ef;obtain ⟨env',e3,e4⟩:=je e2;cases e4
   exact ⟨G,H0,env,d,k,e1,fun v H' s r _=>⟨G,H0,env,d,env',k.grow s,r,e3,fun σ' k' f'=>q σ' H' k' (f'.grow s)⟩⟩)
def forD (body:D->Sl->Res Out):List D->Sl->Res Out
 | [],env=> .ok (.nx env)
 |d::ds,env=>body d env>>=fun o=>match o with
  | .nx env'=>forD body ds env'
  | .ct env'=>forD body ds env'
  | .bk env'=> .ok (.nx env')
  | .rt fr d=> .ok (.rt fr d)
def zl (t:TY) (g:T3):D->Sl->Res Out:=fun d env=>t d env>>=g
def forO (f:T0) (t:TY) (g:T3):Sl->Res Out:=fun env=>f env>>=fun ds=>forD (zl t g) ds env
def xB {pos:Pos} {body:List Stmt} {fi:T0} {t:TY} {g:T3} (hp:PassesOwn (model X.prog X.w) X.A X.env X.xe) (hc:X.calm=true) (hi:DI X tg e fi) (hg:DG X tg t) (hb:DSs X body g)
   (hs: ∀x,adJ e X.env x=pure x:=by intro _;rfl):DS X (.For tg e body [] pos) (forO fi t g):=by
 with_unfolding_all exact (
  PS.imp (jeo hp hc hi hg hb hs) fun E σ H=>by
   rintro ⟨G,H0,env,o,k,ef,q⟩;obtain ⟨ds,e1,e2⟩:=je ef;refine ⟨G,H0,env,ds,k,e1,fun J H1 P sm wk p0 pst=>?_⟩;have k1:=k.grow sm;have q1:=W6 (Frm.refl sm) q;refine ⟨fun i m σ' H'=>m=ds.length-i/\i<=ds.length/\ ∃env',EnvOk X.K G H0 env' σ' H'/\Frm env σ H1 env' σ' H'/\forD (zl t g) (ds.drop i) env'= .ok o,⟨ds.length,by simp,aba _,env,k1,Frm.refl (Same.refl H1),by simpa using e2⟩,?_⟩;rintro i m σ' H' ⟨rfl,hi,env',k',f',e'⟩;obtain ⟨w1,w2,w3⟩:=wk i H' (pst env' σ' H' f')
   by_cases hd:i<ds.length
   · refine .inr ⟨w1 hd,?_⟩;rw [List.drop_eq_getElem_cons hd] at e';obtain ⟨o1,e3,e4⟩:=je e';obtain ⟨env1,e5,e6⟩:=je e3;refine ⟨fun σ2 H2=>ds.length-(i+1)=ds.length-(i+1)/\i+1<=ds.length/\ ∃env2,EnvOk X.K G H0 env2 σ2 H2/\Frm env σ H1 env2 σ2 H2/\forD (zl t g) (ds.drop (i+1)) env2= .ok o,fun σ2 H2 z=>⟨ds.length-(i+1),by omega,z⟩,fun x H2 y=>?_⟩
     obtain ⟨sm2,rd⟩:Same H' H2/\Rep X.K (Sf G env' σ') H2 x ds[i]:=by
      rcases w2 _ (aae hd) x H2 y with ⟨rfl,rd⟩| ⟨p,vs,es,hp,rfl,rfl,ed,rds⟩
      · exact ⟨Same.refl _,f'.rep k1 rd⟩
      · refine ⟨Same.upd hp,?_⟩;rw [ed];exact .tup jo ((f'.reps k1 rds).grow (Same.upd hp))
     refine ⟨G,H0,env',ds[i],env1,k'.grow sm2,rd,e5,fun σ1 kk1 ff1=>⟨G,H0,env1,o1,kk1,e6,?_⟩⟩;have fr1:=(f'.trans (Frm.refl sm2)).trans ff1
     cases o1 with
     |nx env2=>exact fun σ2 H3 kk2 ff2=>⟨rfl,hd,env2,kk2,fr1.trans ff2,e4⟩
     |ct env2=>exact fun σ2 H3 kk2 ff2=>⟨rfl,hd,env2,kk2,fr1.trans ff2,e4⟩
     |bk env2=>cases e4;exact fun σ2 H3 kk2 ff2=>q1 σ2 H3 kk2 (fr1.trans ff2)
     |rt fr dd=>cases e4;exact q1
   · have he:i=ds.length:=by omega
     refine .inl ⟨w3 (by omega),?_⟩;rw [List.drop_eq_nil_of_le (by omega)] at e';cases e'
     exact q1 σ' H' k' f')
def qW (n:Nat) (t:T4) (g:T3):Sl->Res Out:=fun env=>match n with
 |0=> .stuck
 |n+1=>t env>>=fun b=>if b=true then g env>>=fun o=>match o with
   | .nx env'=>qW n t g env'
   | .ct env'=>qW n t g env'
   | .bk env'=> .ok (.nx env')
   | .rt fr d=> .ok (.rt fr d)
  else .ok (.nx env)
def KZ (n:Nat) {pos:Pos} {c:Expr} {body:List Stmt} {t:T4} {g:T3} (hp:PassesOwn (model X.prog X.w) X.A X.env X.xe) (hc:DT X c t) (hb:DSs X body g):DS X (.While c body [] pos) (qW n t g):=by
 with_unfolding_all exact (
  PS.imp (jah hp hc hb) fun E σ H=>by
   rintro ⟨G,H0,env,o,k,ef,q⟩;refine ⟨fun m σ' H'=> ∃env',EnvOk X.K G H0 env' σ' H'/\Frm env σ H env' σ' H'/\qW m t g env'= .ok o,⟨n,env,k,Frm.refl (Same.refl H),ef⟩,?_⟩;rintro m σ' H' ⟨env',k',f',e'⟩
   cases m with
   |zero=>cases e'
   |succ m=>
    obtain ⟨b,e1,e2⟩:=je e';refine ⟨G,H0,env',b,k',e1,fun H1 s1=>?_⟩
    cases b with
    |false=>
     rw [if_neg aaB] at e2 ⊢;cases e2;exact q σ' H1 (k'.grow s1) (f'.trans (Frm.refl s1))
    |true=>
     rw [if_pos rfl] at e2 ⊢;obtain ⟨o1,e3,e4⟩:=je e2;refine ⟨fun σ2 H2=> ∃env2,EnvOk X.K G H0 env2 σ2 H2/\Frm env σ H env2 σ2 H2/\qW m t g env2= .ok o,fun σ2 H2 z=>⟨m,ab1 m,z⟩,G,H0,env',o1,k'.grow s1,e3,?_⟩;have fr1:=f'.trans (Frm.refl s1)
     cases o1 with
     |nx env2=>exact fun σ2 H3 kk2 ff2=>⟨env2,kk2,fr1.trans ff2,e4⟩
     |ct env2=>exact fun σ2 H3 kk2 ff2=>⟨env2,kk2,fr1.trans ff2,e4⟩
     |bk env2=>cases e4;exact fun σ2 H3 kk2 ff2=>q σ2 H3 kk2 (fr1.trans ff2)
     |rt fr dd=>cases e4;exact q)
end
def frz (i:Nat) (env:Sl):Sl:=match env[i]? with
 |some (.own d)=>env.set i (.shr d)
 |_=>env
def W4 {i:Nat} {env:Sl} {σ:L2.St} {a:Addr} (h:jY (frz i env) σ a):jY env σ a:=by
 unfold frz at h
 split at h
 · rename_i d hd;obtain ⟨j,e,h1,h2⟩:=h
   by_cases z:i=j
   · subst z;obtain ⟨q,_⟩:=jw h1;cases q
   · rw [jp z] at h1;exact ⟨j,e,h1,h2⟩
 · exact h
def EnvOk.frz {K : aab} {G : Addr -> Prop} {H0 H : Hp} {env : Sl} {σ : L2.St} (i : Nat) (k : EnvOk K G H0 env σ H) : EnvOk K G H0 (frz i env) σ H := by
  have w : ∀ a, Sf G env σ a -> Sf G (M.frz i env) σ a := fun a n => ⟨fun o => n.1 (W4 o), n.2⟩
  cases hi : env[i]? with
  | none => have e : M.frz i env = env := by unfold M.frz; rw [hi]
            rw [e]; exact k
  | some s =>
    cases s with
    | un => have e : M.frz i env = env := by unfold M.frz; rw [hi]
            rw [e]; exact k
    | shr d => have e : M.frz i env = env := by unfold M.frz; rw [hi]
               rw [e]; exact k
    | own d =>
      have e : M.frz i env = env.set i (.shr d) := by unfold M.frz; rw [hi]
      obtain ⟨a, h1, h0, h2⟩ := k.own i d hi
      have na : NotO (M.frz i env) σ a := by
        rintro ⟨j, d', q1, q2⟩
        rw [e] at q1
        by_cases z : i = j
        · subst z
          obtain ⟨q, _⟩ := jw q1
          cases q
        · rw [jp z] at q1
          exact z (k.dis i j d d' a hi q1 h1 q2)
      rw [e] at w na ⊢
      refine ⟨by simp [k.len], k.base, k.g0, fun j d' h => ?_, fun j d' h => ?_, fun j j' d1 d2 b q1 q2 q3 q4 => ?_⟩
      · by_cases z : i = j
        · subst z
          obtain ⟨q, hl⟩ := jw h
          cases q
          exact ⟨_, h1, h2.rep (fun c z => ⟨w c z, W5 k hi h1 c z⟩) ⟨na, k.g0 a h0⟩⟩
        · rw [jp z] at h
          obtain ⟨v', g1, g2⟩ := k.shr j d' h
          exact ⟨v', g1, g2.weak w⟩
      · by_cases z : i = j
        · subst z
          obtain ⟨q, hl⟩ := jw h
          cases q
        · rw [jp z] at h
          obtain ⟨v', g1, g0, g2⟩ := k.own j d' h
          exact ⟨v', g1, g0, g2.stay (fun _ _ e _ => e) w fun _ e => e⟩
      · have n1 : i ≠ j := fun z => by subst z; obtain ⟨q, _⟩ := jw q1; cases q
        have n2 : i ≠ j' := fun z => by subst z; obtain ⟨q, _⟩ := jw q2; cases q
        rw [jp n1] at q1
        rw [jp n2] at q2
        exact k.dis j j' d1 d2 b q1 q2 q3 q4
def frzO (i:Nat) (g:T3):Sl->Res Out:=fun env=>g (frz i env)
def jbV (i:Nat) {X:Cx} {st:Stmt} {g:T3} (h:DS X st g):DS X st (frzO i g):=by
 with_unfolding_all exact (PS.imp h fun E σ H=>by
  rintro ⟨G,H0,env,o,k,ef,q⟩;refine ⟨G,H0,frz i env,o,k.frz i,ef,?_⟩;have f:Frm env σ H (frz i env) σ H:=⟨fun _ _ e _=>e,fun b o=> .inl (W4 o),fun _ e=>e⟩
  exact W6 f q)
end M
namespace PySem.AutoSeq1
open PySem Builtin
def list_extend_tupleG (l:Addr) (items:Array Value) (n:Nat) (b:Addr) (items2:Array Value) (n2:Nat) (dd:Option Addr) (sl:Array (Option Value)) (hs0: ¬(!items.isEmpty&&abI (items.size+items2.size))=true) (hs1:items.size<=aah) (hs2:items.size+items2.size<=aah+1):
  Meets (ab3.«list.extend» ⟨[.ref l,.ref b],[]⟩) (fun _ R s=>s.heap.get? l=some {cls:= .type "list",dict:=none,data:= .seq items n,slots:= #[]}/\s.heap.get? b=some {cls:= .type "tuple",dict:=dd,data:= .seq items2 n2,slots:=sl}/\R (.ok (.ret ab9)) {s with heap:=s.heap.update l (acn fun x=>x++items2),toks:=s.toks}):=
 .of_wp fun prog w A R s h=>by
  obtain ⟨hp,g,d,tk,os⟩:=s;obtain ⟨hl,hb,h⟩:=h;have f1:=idx_int;have f2:=sub_tuple_tuple;have f3:=sub_list_list;have f4:=sub_tuple_list;have f5:=sub_list_tuple;
  have hz':(items++items2).size<=aah+1:=by rw [Array.size_append];exact hs2
  wp_walk using (wpAny_updateSeq hl rfl),wpAny_loadPart' hl,wpAny_loadPart' hb;exact ⟨_,rfl,h⟩
end PySem.AutoSeq1
namespace M
open PySem PySem.Spec L2
open PyProof.Rows hiding St
section
variable {X:Cx}
def jae:V->List V->Hp->VK->Prop:=fun x vs H Q=> ∃l b xs zs,x= .ref l/\vs=[.ref b]/\H l=some (.lst xs)/\H b=some (.tup zs)/\xs.length+zs.length<=aah/\Q .non (upd H l (.lst (xs++zs)))
def VM:MtM X "list.extend" jae:=by
 intro pins s σ H x vs v us Q I rx rv h;obtain ⟨l,b,xs,zs,rfl,rfl,hH,hB,hz,q⟩:=h;cases rx;obtain ⟨u,rfl,ru⟩:=rv.one;cases ru;obtain ⟨z,its,n,r,hl,e⟩:=I.lstM hH;obtain ⟨its2,r2,⟨ob,e2,hc,n2,hd⟩,z2⟩:=I.tuple (.of hB);have hl2:=r2.length;obtain ⟨c2,dd2,dt2,sl2⟩:=ob;have hc':=hc;have hd':=hd;subst hc' hd';have hsz:its.toArray.size+its2.toArray.size<=aah:=by rw [aag,aag];omega
 have hlong: ¬(!its.toArray.isEmpty&&abI (its.toArray.size+its2.toArray.size))=true:=by
  rw [Z3 hsz,adb];exact aaB
 refine adO ad8 ⟨_,e,rfl⟩ F.entry_list_extend (F.args_list_extend_2 _ _)
  (AutoSeq1.list_extend_tupleG l its.toArray n b its2.toArray n2 dd2 sl2 hlong (by rw [aag];omega) (by omega)) ⟨e,e2,?_⟩
 refine ⟨.non,_,I.lset hH e (by simp) (r.append r2) ?_,rfl,q⟩;rw [aau];omega
def JG {env:Sl} {σ:L2.St} {i:Nat} {d d':D} {a:Addr} (hi:env[i]?=some (.own d)):jY (env.set i (.own d')) σ a↔jY env σ a:=by
 have hl:=(aap.mp hi).1
 constructor
 · rintro ⟨j,e,h1,h2⟩
   by_cases z:i=j
   · subst z;exact ⟨i,d,hi,h2⟩
   · rw [jp z] at h1;exact ⟨j,e,h1,h2⟩
 · rintro ⟨j,e,h1,h2⟩
   by_cases z:i=j
   · subst z;exact ⟨i,d',aaX hl,h2⟩
   · exact ⟨j,e,by rw [jp z];exact h1,h2⟩
def EnvOk.writeG {K:aab} {G:X7} {H0 H:Hp} {env:Sl} {σ:L2.St} {i:Nat} {d0 d':D} {a:Addr} {o0 o':HO} (k:EnvOk K G H0 env σ H) (hi:env[i]?=some (.own d0)) (ha:σ[i]?=some (some (.ref a))) (hx:H a=some o0) (hm:Mut (some o0))
   (top: ∀(A':X7) (H':Hp),Stay (Sf G env σ) H H'->H' a=some o'->(∀b,Sf G env σ b->A' b)->Top K A' H' a d'):EnvOk K G H0 (env.set i (.own d')) σ (upd H a o')/\Frm env σ H (env.set i (.own d')) σ (upd H a o'):=by
 have hl:=(aap.mp hi).1;have ow:jY env σ a:=⟨i,_,hi,ha⟩
 have st:Stay (Sf G env σ) H (upd H a o'):=fun c o e m=>by
   rw [jx ?_]
   · exact e
   · rintro rfl;rw [hx] at e;cases e;exact (m hm).1 ow
 have w: ∀c,Sf G env σ c->Sf G (env.set i (.own d')) σ c:=fun c n=>⟨fun o=>n.1 ((JG hi).mp o),n.2⟩
 refine ⟨⟨by simp [k.len],fun c o e=>?_,k.g0,fun j d1 h=>?_,fun j d1 h=>?_,fun j j' d1 d2 b q1 q2 q3 q4=>?_⟩,⟨fun c o e n=>?_,fun c o=> .inl ((JG hi).mp o),fun c e=>?_⟩⟩
 · have hc:c≠a:=by
     rintro rfl;obtain ⟨b,h1,h0,_⟩:=k.own i _ hi;rw [ha] at h1;cases h1;rw [h0] at e;cases e
   rw [jx hc];exact k.base c o e
 · by_cases z:i=j
   · subst z;obtain ⟨q,_⟩:=jw h;cases q
   · rw [jp z] at h;obtain ⟨v,h1,h2⟩:=k.shr j d1 h;exact ⟨v,h1,h2.stay st w⟩
 · by_cases z:i=j
   · subst z;obtain ⟨q,_⟩:=jw h;cases q;obtain ⟨b,h1,h0,_⟩:=k.own i _ hi;rw [ha] at h1;cases h1;exact ⟨a,ha,h0,top _ _ st jo w⟩
   · rw [jp z] at h;obtain ⟨b,h1,h0,h2⟩:=k.own j d1 h
     have hb:b≠a:=by
       rintro rfl;exact z (k.dis i j _ _ b hi h ha h1)
     exact ⟨b,h1,h0,h2.stay st w fun o e=>by rw [jx hb];exact e⟩
 · have real: ∀(j:Nat) (d1:D),(env.set i (.own d'))[j]?=some (.own d1)-> ∃d0:D,env[j]?=some (.own d0):=fun j d1 q=>by
     by_cases z:i=j
     · subst z;exact ⟨_,hi⟩
     · rw [jp z] at q;exact ⟨_,q⟩
   obtain ⟨e1,z1⟩:=real j d1 q1;obtain ⟨e2,z2⟩:=real j' d2 q2;exact k.dis j j' e1 e2 b z1 z2 q3 q4
 · have hc:c≠a:=by
     rintro rfl;exact n ow
   rw [jx hc];exact e
 · by_cases hc:c=a
   · subst hc;rw [jo] at e;cases e
   · rw [jx hc] at e;exact e
def EnvOk.write {K:aab} {G:X7} {H0 H:Hp} {env:Sl} {σ:L2.St} {i:Nat} {ds ds':List D} {a:Addr} {xs xs':List V} (k:EnvOk K G H0 env σ H) (hi:env[i]?=some (.own (.lst ds))) (ha:σ[i]?=some (some (.ref a))) (hx:H a=some (.lst xs))
  (r:Reps K (Sf G env σ) H xs' ds'):EnvOk K G H0 (env.set i (.own (.lst ds'))) σ (upd H a (.lst xs'))/\Frm env σ H (env.set i (.own (.lst ds'))) σ (upd H a (.lst xs')):=
 k.writeG hi ha hx trivial fun A' H' st e w=> .lst e (r.stay st w)
def wv {K:aab} {G:X7} {H0 H:Hp} {env:Sl} {σ:L2.St} {i:Nat} {ds:List D} (k:EnvOk K G H0 env σ H) (hi:env[i]?=some (.own (.lst ds))): ∃a xs,σ[i]?=some (some (.ref a))/\H a=some (.lst xs)/\Reps K (Sf G env σ) H xs ds:=by
 obtain ⟨a,h1,h0,h2⟩:=k.own i _ hi
 cases h2 with
 |lst e r=>exact ⟨a,_,h1,e,r⟩
variable {e:Expr} {f:T5} {l:Lv} {pos cpos apos p:Pos} {x:Str}
def ownL (i:Nat) (env:Sl):Res (List D):=match env[i]? with
 |some (.own (.lst ds))=> .ok ds
 |_=> .stuck
def wx {i:Nat} {env:Sl} {ds:List D} (h:ownL i env= .ok ds):env[i]?=some (.own (.lst ds)):=by
 unfold ownL at h
 split at h
 · cases h;assumption
 · cases h
def WD (i:Nat) (f:T5):Sl->Res Out:=fun env=>ownL i env>>=fun ds=>f env>>=fun d=>must (ds.length<aah) (.ok (.nx (env.set i (.own (.lst (ds++[d]))))))
def ua (i:Nat) (he:DE X .s e f) (hN:X.N[i]?=some x:=by rfl) (hv:Vis X.env.scope x:=by first|exact acj rfl|exact abB (acj rfl)|exact abB (abB rfl))
   (hd:ZI x:=by decide) (hcd:Y9 x:=by decide)
   (hbase:abL (.Name x p) "append" X.env (eval (.Name x p) X.env)=eval (.Name x p) X.env:=by rfl)
   (hfew:((abQ cpos (aan [e] X.env)).all (fun x=>!x.1)&&(aed cpos (acK [] X.env)).all (fun x=>x.1.isSome)
    &&decide ([e].length+([]:List adN).length+(if ([]:List adN).isEmpty then 0 else 1)<30))=true:=by exact QW rfl rfl)
   (hline:(apos.endLine==cpos.line)=true:=by rfl) (hs:aan [e] X.env=(false,eval e X.env)::aan [] X.env:=by exact jk rfl) (hplain:(abQ cpos (aan [] X.env)).any (·.1)=false:=by exact jS rfl)
   (hsw:acp (.Call (.Attribute (.Name x p) "append" apos) [e] [] cpos) none pos.line X.env=pure false:=by rfl):
   DS X (.Expr (.Call (.Attribute (.Name x p) "append" apos) [e] [] cpos) pos) (WD i f):=by
 with_unfolding_all exact (
  PS.imp (JF (jcv ab5 PySem.F.slot_list_append PySem.F.type_list_append Xg (wW hN hv hd hcd) (qg he wu hs) hbase hfew hline hs hplain) hsw) fun E σ H=>by
   rintro ⟨G,H0,env,o,k,ef,q⟩;obtain ⟨ds,e1,e2⟩:=je ef;obtain ⟨d,e3,e4⟩:=je e2;obtain ⟨hz,e5⟩:=jr e4;cases e5;have hi:=wx e1;obtain ⟨a,xs,ha,hx,rs⟩:=wv k hi;refine ⟨.ref a,ha,.inl ⟨rfl,xs,.of hx⟩,G,H0,env,d,k,e3,fun v H1 s1 r1 _=>?_⟩;have hx1:=s1 _ _ hx;refine ⟨a,xs,v,rfl,rfl,hx1,by rw [rs.length];exact hz,?_⟩;have W:=(k.grow s1).write hi ha hx1 ((rs.grow s1).append (.cons r1 .nil))
   exact q σ _ W.1 (W.2.grow s1))
def za (i:Nat) (f:T5):Sl->Res Out:=fun env=>ownL i env>>=fun ds=>f env>>=fun d=>match d with
 | .lst es=>must (ds.length+es.length<=aah) (.ok (.nx (env.set i (.own (.lst (ds++es))))))
 | .tup es=>must (ds.length+es.length<=aah) (.ok (.nx (env.set i (.own (.lst (ds++es))))))
 |_=> .stuck
def Jr (i:Nat) (he:DE X .s e f) (hN:X.N[i]?=some x:=by rfl) (hv:Vis X.env.scope x:=by first|exact acj rfl|exact abB (acj rfl)|exact abB (abB rfl))
   (hd:ZI x:=by decide) (hcd:Y9 x:=by decide)
   (hbase:abL (.Name x p) "extend" X.env (eval (.Name x p) X.env)=eval (.Name x p) X.env:=by rfl)
   (hfew:((abQ cpos (aan [e] X.env)).all (fun x=>!x.1)&&(aed cpos (acK [] X.env)).all (fun x=>x.1.isSome)
    &&decide ([e].length+([]:List adN).length+(if ([]:List adN).isEmpty then 0 else 1)<30))=true:=by exact QW rfl rfl)
   (hline:(apos.endLine==cpos.line)=true:=by rfl) (hs:aan [e] X.env=(false,eval e X.env)::aan [] X.env:=by exact jk rfl) (hplain:(abQ cpos (aan [] X.env)).any (·.1)=false:=by exact jS rfl)
   (hsw:acp (.Call (.Attribute (.Name x p) "extend" apos) [e] [] cpos) none pos.line X.env=pure false:=by rfl):
   DS X (.Expr (.Call (.Attribute (.Name x p) "extend" apos) [e] [] cpos) pos) (za i f):=by
 with_unfolding_all exact (
  PS.imp (JF (jcv ab5 ad8 PySem.F.type_list_extend (MtR.or kY VM) (wW hN hv hd hcd) (qg he wu hs) hbase hfew hline hs hplain) hsw) fun E σ H=>by
   rintro ⟨G,H0,env,o,k,ef,q⟩;obtain ⟨ds,e1,e2⟩:=je ef;obtain ⟨d,e3,e4⟩:=je e2;have hi:=wx e1;obtain ⟨a,xs,ha,hx,rs⟩:=wv k hi;refine ⟨.ref a,ha,.inl ⟨rfl,xs,.of hx⟩,G,H0,env,d,k,e3,fun v H1 s1 r1 _=>?_⟩;have hx1:=s1 _ _ hx
   cases d with
   |lst es=>
    obtain ⟨hz,e5⟩:=jr e4;cases e5;obtain ⟨b,ys,rfl,hb,_,ry⟩:=r1.lstE;have ry':=ry.low;refine .inl ⟨a,b,xs,ys,rfl,rfl,hx1,hb,by rw [rs.length,ry.length];exact hz,?_⟩;have W:=(k.grow s1).write hi ha hx1 ((rs.grow s1).append ry');exact q σ _ W.1 (W.2.grow s1)
   |tup es=>
    obtain ⟨hz,e5⟩:=jr e4;cases e5;obtain ⟨b,ys,rfl,hb,ry⟩:=r1.tupE;have ry':=ry;refine .inr ⟨a,b,xs,ys,rfl,rfl,hx1,hb,by rw [rs.length,ry.length];exact hz,?_⟩;have W:=(k.grow s1).write hi ha hx1 ((rs.grow s1).append ry');exact q σ _ W.1 (W.2.grow s1)
   |_=>cases e4)
def XG (i:Nat):Sl->Res Out:=fun env=>ownL i env>>=fun _=> .ok (.nx (env.set i (.own (.lst []))))
def K0 (i:Nat) (hN:X.N[i]?=some x:=by rfl) (hv:Vis X.env.scope x:=by first|exact acj rfl|exact abB (acj rfl)|exact abB (abB rfl))
   (hd:ZI x:=by decide) (hcd:Y9 x:=by decide)
   (hbase:abL (.Name x p) "clear" X.env (eval (.Name x p) X.env)=eval (.Name x p) X.env:=by rfl) (hline:(apos.endLine==cpos.line)=true:=by rfl)
   (hsw:acp (.Call (.Attribute (.Name x p) "clear" apos) [] [] cpos) none pos.line X.env=pure false:=by rfl):DS X (.Expr (.Call (.Attribute (.Name x p) "clear" apos) [] [] cpos) pos) (XG i):=by
 with_unfolding_all exact (
  PS.imp (JF (jbH ab5 PySem.F.slot_list_clear PySem.F.type_list_clear jaF (wW hN hv hd hcd) hbase hline) hsw) fun E σ H=>by
   rintro ⟨G,H0,env,o,k,ef,q⟩;obtain ⟨ds,e1,e2⟩:=je ef;cases e2;have hi:=wx e1;obtain ⟨a,xs,ha,hx,rs⟩:=wv k hi;have W:=k.write hi ha hx .nil
   exact ⟨.ref a,ha,.inl ⟨rfl,xs,.of hx⟩,a,xs,rfl,rfl,hx,q σ _ W.1 W.2⟩)
end
def XD {prog:aaH} {w:World} {A:aa3} {R:Result->aaf->Prop} {s:aaf} {elt target iter:Expr} {ifs:List Expr} {scope:Scope} {pos:Pos} {it acc:Value} {env:Env} (I:Nat->aaf->Prop)
  (turn: ∀n s,I n s->wpAny (model prog w) A (aey it) (fun r s₁=>match r with
   |none=>R (.ok .next) s₁
   |some v=>wpAny (model prog w) A (aeh target it v) (fun _ s₁'=>wpAny (model prog w) A (assign target env v) (fun _ s₂=>
    wpAny (model prog w) A (forIn ifs true fun c r=>if r=true then do let ok←isTrue c env (eval c env);pure (ael ok) else pure (ael r)) (fun ok s₃=>
     if ok=true then wpAny (model prog w) A (eval elt env) (fun x s₄=>
      wpAny (model prog w) A (call (.builtin "list.append") [acc,x]) (fun _ s₅=> ∃m,m<n/\I m s₅) (fun _ _=>False) s₄) (fun _ _=>False) s₃
     else∃m,m<n/\I m s₃) (fun _ _=>False) s₂) (fun _ _=>False) s₁') (fun _ _=>False) s₁) (fun _ _=>False) s)
  (n:Nat) (h:I n s):adL (model prog w) A (.compLoop (.ListComp elt [⟨target,iter,ifs,0⟩] scope pos) 0 it acc env) R s:=by
 refine codeAny_loop rfl I (fun n s hI=>?_) n h;refine wpAny_noted ?_;rw [compTurn_list];refine aaa (wpAny_standAt (aaa (ab8 (turn n s hI) (fun r s₁ h₁=>?_) fun _ _ h'=>h'.elim)))
 cases r with
 |none=>exact aac h₁
 |some v=>
  refine aaa (ab8 h₁ (fun _ s₁' h₁'=>?_) fun _ _ h'=>h'.elim);refine aaa (ab8 h₁' (fun _ s₂ h₂=>aaa (ab8 h₂ (fun ok s₃ h₃=>?_) fun _ _ h'=>h'.elim)) fun _ _ h'=>h'.elim)
  cases ok with
  |false=>exact aac ⟨rfl,h₃⟩
  |true=>
   exact aaa (aaa (ab8 h₃ (fun x s₄ h₄=>aaa (ab8 h₄ (fun _ s₅ h₅=>aac (aac ⟨rfl,h₅⟩)) fun _ _ h'=>h'.elim)) fun _ _ h'=>h'.elim))
def uo (X:Cx) (N:List Str) (scope:Scope) (cl:List (Str×Addr)) (C:Addr) (s:aaf) (H:Hp) (fp:List Addr):Cx where
 prog:=X.prog
 w:=X.w
 K:=X.K
 mg:=X.mg
 base:=X.base
 A:=X.A
 N:=N
 s₀:=s
 H₀:=H
 env:=compEnvC scope cl C X.env
 outer:=X.stack
 stack:=X.stack
 ex:=fp
 fn:=fun _=>false
 calm:=true
 pn:=[]
 xe:=fun _ _=>False
@[irreducible] def DTs (X:Cx) (ifs:List Expr) (c:T4):Prop:=
 ∀(pins:List (Addr×Obj)) (s:aaf) (σ:L2.St) (H:Hp) (Q:Bool->Hp->Prop),Inv X pins σ H s->tT X.K c σ H Q->
  wpAny (model X.prog X.w) X.A (forIn ifs true fun c r=>if r=true then do let ok←isTrue c X.env (eval c X.env);pure (ael ok) else pure (ael r)) (TP X pins σ Q) X.xe s
def qV:Sl->Res Bool:=fun _=> .ok true
def wO {X:Cx}:DTs X [] qV:=by
 with_unfolding_all exact (fun pins s σ H Q I ⟨G,H0,env,b,k,ef,q⟩=>by
  cases ef
  exact wpAny_tests_nil ⟨H,I,q H (Same.refl H)⟩)
def wR (n:Nat) (t:TY) (c:T4) (fe:T5):List D->Sl->Res Sl
 | [],env=> .ok env
 |d::ds,env=>t d env>>=fun env1=>c env1>>=fun b=>if b=true
  then fe env1>>=fun v=>ownL n env1>>=fun acc=>must (acc.length<aah) (wR n t c fe ds (env1.set n (.own (.lst (acc++[v])))))
  else wR n t c fe ds env1
def capS (im:Bool) (env:Sl) (j:Nat):Slot:=match env[j]? with
 |some (.shr d)=> .shr d
 |some (.own d)=>if im=true then .shr d else .un
 |_=> .un
def xU (im:Bool) (m:Nat) (js:List Nat) (env:Sl):Sl:=aaE m .un++js.map (capS im env)++[.own (.lst [])]
def xt (im:Bool) (m:Nat) (js:List Nat) (fi:T0) (t:TY) (c:T4) (fe:T5):Sl->Res D:=fun env=>
 fi env>>=fun ds=>wR (m+js.length) t c fe ds (xU im m js env)>>=fun env'=>ownL (m+js.length) env'>>=fun acc=>must (im=true->D.imms acc=true) (.ok (.lst acc))
def xf (m:Nat) (js:List Nat) (σ:L2.St) (a:Addr):L2.St:=aaE m none++js.map (fun j=>(σ[j]?).join)++[some (.ref a)]
theorem zZ {env:Env}: ∀ {names:List (Str×NameKind)} {x:Str} {k:NameKind},
  (names.map fun (n,k)=>if (k==ac3&&env.scope.kind== .function&&env.kindOf n==some .cell) then (n,ac4) else (n,k)).lookup x=some k-> ∃k',(x,k')∈names/\(k=k'\/k'= .free)
 | [],_,_,h=>by simp at h
 | (n,k')::r,x,k,h=>by
  have h':aa7 x ((if (k'==ac3&&env.scope.kind== .function&&env.kindOf n==some .cell)=true then (n,ac4) else (n,k'))::(r.map fun (n,k)=>if (k==ac3&&env.scope.kind== .function&&env.kindOf n==some .cell) then (n,ac4) else (n,k)))=some k:=h
  by_cases hc:(k'==ac3&&env.scope.kind== .function&&env.kindOf n==some .cell)=true
  · rw [if_pos hc] at h';simp only [abA] at h'
    cases hx:x==n with
    |true=>
     rw [hx] at h';have e:x=n:=by simpa using hx
     subst e;refine ⟨k',aax,.inr ?_⟩;simp at hc;exact hc.1.1
    |false=>
     rw [hx] at h';obtain ⟨k2,h1,h2⟩:=zZ h';exact ⟨k2,aao _ h1,h2⟩
  · rw [if_neg hc] at h';simp only [abA] at h'
    cases hx:x==n with
    |true=>
     rw [hx] at h';have e:x=n:=by simpa using hx
     subst e;cases h';exact ⟨_,aax,.inl rfl⟩
    |false=>
     rw [hx] at h';obtain ⟨k2,h1,h2⟩:=zZ h';exact ⟨k2,aao _ h1,h2⟩
def clZ (z:Option Str) (cl:List (Str×Addr)) (C:Addr):List (Str×Addr):=match z with
 |none=>cl
 |some y=>(y,C+1)::cl
def jcn (z:Option Str) (h:Heap):Heap:=match z with
 |none=>h
 |some _=>h.push {cls:= .type "cell",data:= .cell none}
abbrev qQ (z:Option Str) (X:Cx) (N:List Str) (scope:Scope) (cl:List (Str×Addr)) (C:Addr) (s:aaf) (H:Hp) (fp:List Addr):Cx:={uo X N scope (clZ z cl C) C s H fp with fn:=fun x=>some x==z}
def lk1 {cl:List (Str×Addr)} {z:Option Str} {x:Str} {c C:Addr} (h:aa7 x (clZ z cl C)=some c):(z=some x/\c=C+1)\/(z≠some x/\cl.lookup x=some c):=by
 cases z with
 |none=>exact .inr ⟨nofun,h⟩
 |some z=>
  have h:aa7 x ((z,C+1)::cl)=some c:=h;rw [abA] at h
  cases e:x==z with
  |true=>rw [e] at h;cases h;exact .inl ⟨by rw [show x=z by simpa using e],rfl⟩
  |false=>rw [e] at h;exact .inr ⟨fun q=>by simp at e;exact e (aaK q).symm,h⟩
def lk2 {cl:List (Str×Addr)} {z:Option Str} {x:Str} {c C:Addr} (hn:z≠some x) (h:cl.lookup x=some c):aa7 x (clZ z cl C)=some c:=by
 cases z with
 |none=>exact h
 |some z=>
  show aa7 x ((z,C+1)::cl)=some c;rw [abA,show (x==z)=false by simpa using fun q=>hn (by rw [q])];exact h
def VL {M:Model} {A:aa3} {E:X6} {s:aaf} {scope:Scope} {globals:Addr} {cl:List (Str×Addr)} {qual:Str} {func:Option Addr} {code:Value} {around:Env} {builtins:Addr} {z:Option Str} {Q:Env->aaf->Prop}
  (made: ∀n,cellsFrom (n+1) scope.names cl=clZ z cl n) (pushed: ∀h,pushCells h scope.names=jcn z h)
  (hQ: ∀h',h'.Ns s.heap.objs.size (fun _=>none)->(∀b o,s.heap.get? b=some o->h'.get? b=some o)->(∀y,z=some y->h'.IsCell (s.heap.objs.size+1) none)->Q (newEnv scope s.heap.objs.size globals (clZ z cl s.heap.objs.size) qual func code (some around) builtins) {s with heap:=h'}):
  wpAny M A (newFunctionEnv scope globals cl [] qual func code (some around) builtins) Q E s:=by
 simp only [newFunctionEnv,Option.isSome_some,if_true];refine aaa (wpAny_alloc ?_);refine aaa (wpAny_layCells _ (fun name kind cells=>by cases hkc:kind==ac4<;>simp [hkc]) _ _ _ _ ?_);have hz:(s.heap.push {cls:= .type "dict",data:= .dict #[]}).objs.size=s.heap.objs.size+1:=acv ..;have hc:=made s.heap.objs.size;rw [←hz] at hc;rw [hc,pushed];simp;refine aac ?_;have ns:=Heap.Ns.new s.heap (.type "dict")
 cases z with
 |none=>exact hQ _ ns (fun b o e=>aad _ e) nofun
 |some z=>
  refine hQ ((s.heap.push {cls:= .type "dict",data:= .dict #[]}).push {cls:= .type "cell",data:= .cell none}) (ns.keeps fun b o e=>aad _ e) (fun b o e=>aad _ (aad _ e)) fun _ _=>⟨_,by rw [←hz];exact aaq _ rfl,rfl⟩
structure CompSc (z:Option Str) (X:Cx) (scope:Scope) (cl:List (Str×Addr)) (N:List Str) (m:Nat) (js:List Nat):Prop where
 clos:closureFor scope X.env=pure cl
 kind:scope.kind= .function
 names: ∀x∈scope.names,x.2= .local->scope.names.lookup x.1=some .local
 nocell: ∀y∈scope.names,y.2= .cell->z=some y.1
 made: ∀n,cellsFrom (n+1) scope.names cl=clZ z cl n
 pushed: ∀h,pushCells h scope.names=jcn z h
 zk: ∀y,z=some y->scope.names.lookup y=some .cell
 cls: ∀x c,cl.lookup x=some c->X.env.cells.lookup x=some c
 free: ∀y∈scope.names,y.2= .free-> ∃c,cl.lookup y.1=some c
 nd:N.Nodup
 len:N.length=m+js.length+1
 cap: ∀(k j:Nat),js[k]?=some j-> ∃y,N[m+k]?=some y/\X.N[j]?=some y/\(X.env.scope.names.lookup y=some .cell\/X.env.scope.names.lookup y=some .free)/\scope.names.lookup y=some .free
 last: ∀y,N[m+js.length]?=some y-> ∀p∈scope.names,p.1≠y
section
variable {X:Cx} {tg iter elt:Expr} {ifs:List Expr} {scope:Scope} {cl:List (Str×Addr)} {N:List Str} {m:Nat} {js:List Nat} {pos:Pos} {im:Bool} {z:Option Str}
 {fi:T0} {t:TY} {c:T4} {fe:T5}
def jdy {pins:List (Addr×Obj)} {σ:L2.St} {H:Hp} {s:aaf} {C:Addr} {fp:List Addr} (S:CompSc z X scope cl N m js) (hc:X.calm=true) (I:Inv X pins σ H s) (hC:s.heap.objs.size<=C) (hf: ∀b∈fp,FpOk X pins H b) (hfp: ∀b∈fp,b<s.heap.objs.size):
  (qQ z X N scope cl C s H fp).Ok where
 mod:=I.ok.mod
 kind:=S.kind
 glob:=I.ok.glob
 blt:=I.ok.blt
 above:=hC
 inj:=fun x y c h1 h2=>by
  have no: ∀u,X.env.cells.lookup u=some (C+1)->False:=fun u e=>by
    obtain ⟨v,o,ho,_⟩:=I.cell u _ e;exact absurd (aav ho) (Nat.not_lt_of_le (aaI hC (acx _)))
  rcases lk1 h1 with ⟨ex,ec⟩| ⟨_,g1⟩
  · rcases lk1 h2 with ⟨ey,_⟩| ⟨_,g2⟩
    · rw [ex] at ey;exact aaK ey
    · rw [ec] at g2;exact (no _ (S.cls _ _ g2)).elim
  · rcases lk1 h2 with ⟨ey,ec⟩| ⟨_,g2⟩
    · rw [ec] at g1;exact (no _ (S.cls _ _ g1)).elim
    · exact I.ok.inj x y c (S.cls x c g1) (S.cls y c g2)
 has:=fun x h=>by
  have mem:z=some x\/ ∃k',(x,k')∈scope.names/\k'= .free:=by
    rcases h with h|h<;>obtain ⟨k',h1,h2⟩:=zZ h
    · rcases h2 with z|z
      · exact .inl (S.nocell _ h1 z.symm)
      · exact .inr ⟨k',h1,z⟩
    · rcases h2 with z|z
      · exact .inr ⟨k',h1,z.symm⟩
      · exact .inr ⟨k',h1,z⟩
  by_cases hxz:z=some x
  · subst hxz;exact ⟨C+1,by show aa7 x ((x,C+1)::cl)=_;simp [abA]⟩
  · obtain ⟨k',h1,h2⟩:=mem.resolve_left hxz;obtain ⟨c,hc⟩:=S.free _ h1 h2;exact ⟨c,lk2 hxz hc⟩
 cab:=fun x c h h2=>by
  have e:some x=z:=by simpa using h
  rcases lk1 h2 with ⟨_,rfl⟩| ⟨n,_⟩
  · exact aaI hC (acx _)
  · exact (n e.symm).elim
 hd:=fun _=>I.ok.hd hc
 frames:=I.ok.frames
 stk:= .inl rfl
 exf:=fun b hb=>⟨fun z=>absurd (aaA (hfp b hb) (by rw [z];exact hC)) (abE _),fun x c h=>by
  rcases lk1 h with ⟨_,rfl⟩| ⟨_,h⟩
  · exact fun e=>absurd (hfp b hb) (Nat.not_lt_of_le (by rw [←e];exact aaI hC (acx _)))
  · exact (hf b hb).2.2.2.2.1 x c (S.cls x c h)⟩
 bs:=I.bs
 bsz:=aaI I.ok.bsz I.sz
 noex:=fun b o e hb=>by
  rcases (hf b hb).2.2.2.1 with z|z
  · exact I.ok.noex b o e z
  · exact absurd (aaA (aav e) (aaI I.ok.bsz z)) (abE _)
 exfs:=fun b hb z=>by
  rcases aam.mp (I.stkSub b z) with q|q
  · exact (hf b hb).2.1 q
  · exact (hf b hb).2.2.1 q
 funs:=I.stack
 frf:=I.stkFree
def ux {env:Sl} {j:Nat} {d:D} (h:capS im env j= .own d):False:=by
 unfold capS at h
 split at h
 · cases h
 · split at h<;>cases h
 · cases h
def Uh {env:Sl} {σ:L2.St} {a b:Addr} (h:jY (xU im m js env) (xf m js σ a) b):b=a:=by
 obtain ⟨i,d,h,h2⟩:=h
 have hi:i=m+js.length:=by
  unfold xU at h
  by_cases h1:i<m
  · rw [aaW,aaF (by simpa using h1),abq] at h
    split at h<;>cases h
  · rw [aaW,aay (by simpa using h1)] at h;simp at h
    by_cases h2:i-m<js.length
    · rw [aaF (by simpa using h2),aaO] at h
      cases e:js[i-m]? with
      |none=>rw [e] at h;cases h
      |some j=>
        rw [e] at h;have h':=aaK h;exact (ux h').elim
    · rw [aay (by simpa using h2)] at h;simp at h
      by_cases h3:i-m-js.length=0
      · omega
      · rw [aaP (by simp;omega)] at h;cases h
 subst hi
 have at_n:(xf m js σ a)[m+js.length]?=some (some (.ref a)):=by
  unfold xf;rw [aaW,aay (by simp),aay (by simp)];simp
 rw [at_n] at h2;cases h2;rfl
abbrev Gc (im:Bool) (G:X7) (env:Sl) (σ:L2.St):Addr->Prop:=fun c=>G c/\(im=false-> ¬jY env σ c)
def ja9 {K:aab} {G:X7} {H0 H:Hp} {env:Sl} {σ:L2.St} {a:Addr} (k:EnvOk K G H0 env σ H) (ha:H a=none):
   EnvOk K (Gc im G env σ) H (xU im m js env) (xf m js σ a) (upd H a (.lst [])):=by
 have own1: ∀(i:Nat) (d:D),(xU im m js env)[i]?=some (.own d)->i=m+js.length/\d= .lst []:=fun i d h=>by
   unfold xU at h
   by_cases h1:i<m
   · rw [aaW,aaF (by simpa using h1),abq] at h
     split at h<;>cases h
   · rw [aaW,aay (by simpa using h1)] at h;simp at h
     by_cases h2:i-m<js.length
     · rw [aaF (by simpa using h2),aaO] at h
       cases e:js[i-m]? with
       |none=>rw [e] at h;cases h
       |some j=>
         rw [e] at h;have h':=aaK h;exact (ux h').elim
     · rw [aay (by simpa using h2)] at h;simp at h
       by_cases h3:i-m-js.length=0
       · rw [h3] at h;cases h;exact ⟨by omega,rfl⟩
       · rw [aaP (by simp;omega)] at h;cases h
 have at_n:(xf m js σ a)[m+js.length]?=some (some (.ref a)):=by
   unfold xf;rw [aaW,aay (by simp),aay (by simp)];simp
 have owned: ∀b,jY (xU im m js env) (xf m js σ a) b->b=a:=fun b ⟨i,d,h1,h2⟩=>by
   obtain ⟨rfl,rfl⟩:=own1 i d h1;rw [at_n] at h2;cases h2;rfl
 have sm:Same H (upd H a (.lst [])):=Same.upd ha;refine ⟨by simp [xU,xf],sm,fun c z=>⟨(k.new c z).2,fun _=>(k.new c z).1⟩,fun i d h=>?_,fun i d h=>?_,fun i j d e b h1 h2 h3 h4=>(own1 i d h1).1.trans (own1 j e h2).1.symm⟩
 · unfold xU at h
   by_cases h1:i<m
   · rw [aaW,aaF (by simpa using h1),abq] at h
     split at h<;>cases h
   · rw [aaW,aay (by simpa using h1)] at h;simp at h
     by_cases h2:i-m<js.length
     · rw [aaF (by simpa using h2),aaO] at h
       cases e:js[i-m]? with
       |none=>rw [e] at h;cases h
       |some j=>
         rw [e] at h;have h':=aaK h
         have hσ:(xf m js σ a)[i]?=some ((σ[j]?).join):=by
           unfold xf;rw [aaW,aay (by simpa using h1)];simp;rw [aaF (by simpa using h2),aaO,e];rfl
         have fin: ∀v,σ[j]?=some (some v)->Rep K (Gc im G env σ) H v d-> ∃v,(xf m js σ a)[i]?=some (some v)/\Rep K (Sf (Gc im G env σ) (xU im m js env) (xf m js σ a)) (upd H a (.lst [])) v d:=fun v e1 r=>by
           refine ⟨v,by rw [hσ,e1];rfl,(r.inDom.grow sm).weak fun b z=>⟨fun o=>?_,z.1⟩⟩;rw [owned b o] at z;exact z.2 ha
         unfold capS at h'
         split at h'
         · rename_i d' hd;cases h';obtain ⟨v,h3,h4⟩:=k.shr j d hd;exact fin v h3 (h4.weak fun c z=>⟨z.2,fun _=>z.1⟩)
         · rename_i d' hd
           split at h'
           · rename_i hi';cases h';obtain ⟨v,h3,h0,h4⟩:=k.own j d hd;exact fin _ h3 (h4.rep (fun c z=>⟨⟨z.2,fun _=>z.1⟩,W5 k hd h3 c z⟩) ⟨k.g0 _ h0,fun z=>by rw [hi'] at z;cases z⟩)
           · cases h'
         · cases h'
     · rw [aay (by simpa using h2)] at h;simp at h
       by_cases h3:i-m-js.length=0
       · rw [h3] at h;cases h
       · rw [aaP (by simp;omega)] at h;cases h
 · obtain ⟨rfl,rfl⟩:=own1 i d h;exact ⟨a,at_n,ha,.lst jo .nil⟩
def ut (use:Option (Value->Sem Unit)) (Q':X6) (im:Bool) (N:List Str) (m:Nat) (js:List Nat) (S:CompSc z X scope cl N m js) (hc:X.calm=true) (hi:PI X tg iter (tI X.K fi))
   (hb: ∀(C:Addr) (s:aaf) (H:Hp) (fp:List Addr),PG (qQ z X N scope cl C s H fp) tg (tG X.K t)/\DTs (qQ z X N scope cl C s H fp) ifs c/\PE (qQ z X N scope cl C s H fp) elt (tE X.K .s fe))
   (hs: ∀x,adJ iter X.env x=pure x) {pins:List (Addr×Obj)} {s:aaf} {σ:L2.St} {H:Hp} {G:X7} {H0:Hp} {env:Sl} {d:D} (I:Inv X pins σ H s) (k:EnvOk X.K G H0 env σ H) (ef:xt im m js fi t c fe env= .ok d)
   (hend: ∀(a C:Addr) (s':aaf) (H':Hp) (mm:X8) (r:Flow),s'.heap.Ns C mm->(∀h',abZ C s'.heap h'->Inv X pins σ H' {s' with heap:=h'})->FpOk X pins H' C->Same H H'->Rep X.K (Sf G env σ) H' (.ref a) d->NewTop H (.ref a)->compPost (model X.prog X.w) X.A X.xe use Q' (.ref a) C (.ok r) s'):
   wpAny (model X.prog X.w) X.A (comprehension (.ListComp elt [⟨tg,iter,ifs,0⟩] scope pos) scope X.env (firstIterPos [⟨tg,iter,ifs,0⟩] pos) (newList []) (firstAsync [⟨tg,iter,ifs,0⟩]) (firstIter [⟨tg,iter,ifs,0⟩] X.env) use) Q' X.xe s:=by
 with_unfolding_all exact (by
  obtain ⟨ds,e1,ef⟩:=je ef;obtain ⟨envF,e2,ef⟩:=je ef;obtain ⟨accF,e3,e4⟩:=je ef;obtain ⟨himF,e4⟩:=jr e4;cases e4;refine wpAny_comprehension_free rfl hs S.clos S.kind S.names ?_;refine thn (hi pins s σ H (fun J H1=> ∃P,Same H H1/\jdR X.K (Sf G env σ) H1 J ds P/\P H1/\ ∀env' σ' H',Frm env σ H1 env' σ' H'->P H') I ⟨G,H0,env,ds,k,e1,fun J H1 P a b c' d'=>⟨P,a,b,c',d'⟩⟩) fun v s1 h1=>thn h1 fun itv s2 h2=>?_
  obtain ⟨it,fp,tn,J,H2,rfl,I2,T,st2,f2,P,sm,wk,p0,pst⟩:=h2;have k2:=k.grow sm;refine aaY (VL S.made S.pushed (fun h₁ hns₁ hkp₁ hcl₁=>?_));dsimp only at hns₁ hkp₁ hcl₁ ⊢;have hfr:=I2.hok.fresh (aai _)
  let a:=s2.heap.objs.size
  have ha:=hfr;have I3:=I2.lnew (t':=s2.toks) .nil (aba _)
  let s3:aaf:={s2 with heap:=s2.heap.push {cls:= .type "list",dict:=none,data:= .seq ([]:List Value).toArray}}
  let C:=s3.heap.objs.size
  have f3: ∀b∈fp,FpOk X pins (upd H2 a (.lst [])) b:=fun b hb'=>by
   obtain ⟨z0,z⟩:=f2 b hb';refine ⟨?_,z⟩
   have hb2:b≠a:=by
     obtain ⟨o,ho,_⟩:=T.obj 0 _ st2 b hb';exact aaC (aav ho)
   rw [jx hb2];exact z0
  have hfp: ∀b∈fp,b<s3.heap.objs.size:=fun b hb'=>by
   obtain ⟨o,ho,_⟩:=T.obj 0 _ st2 b hb';refine aaA (aav ho) ?_;rw [acv];exact acx _
  have XO:=jdy S hc I3 (aai _) f3 hfp;obtain ⟨DGt,DTc,DEe⟩:=hb C s3 (upd H2 a (.lst [])) fp;have old: ∀b o,s3.heap.get? b=some o->h₁.get? b=some o:=fun b o e=>hkp₁ b o e
  have I4:Inv (qQ z X N scope cl C s3 (upd H2 a (.lst [])) fp) [] (xf m js σ a) (upd H2 a (.lst [])) {s2 with heap:=h₁,toks:=s2.toks+([]:List (Str×Value)).length}:=by
   refine ⟨XO,rfl,I3.bare,Un.kept old,⟨_,hns₁,fun i y v' h1 h2 h3=>?_⟩,fun y c' h=>?_,I3.hok.fresh (aai _),fun y c' h=>(by
     rcases lk1 h with ⟨_,rfl⟩| ⟨_,h⟩
     · exact I3.hok.fresh (acx _)
     · exact I3.freeC y c' (S.cls y c' h)),fun p hp=>absurd hp (by simp [uo]),I3.hok.kept old,?_⟩
   · --a captured name
     have hN1:N[i]?=some y:=h1;unfold xf at h2
     by_cases q1:i<m
     · rw [aaW,aaF (by simpa using q1),abq] at h2
       split at h2<;>cases h2
     · rw [aaW,aay (by simpa using q1)] at h2;simp at h2
       by_cases q2:i-m<js.length
       · rw [aaF (by simpa using q2),aaO] at h2
         cases e:js[i-m]? with
         |none=>rw [e] at h2;cases h2
         |some j=>
           rw [e] at h2;have h2':(σ[j]?).join=some v':=aaK h2
           have hj:σ[j]?=some (some v'):=by
             cases z:σ[j]? with
             |none=>rw [z] at h2';cases h2'
             |some w'=>rw [z] at h2';simp at h2';rw [h2']
           obtain ⟨y',g1,g2,g3,g4⟩:=S.cap (i-m) j e
           have ey:y'=y:=by
             rw [show m+(i-m)=i by omega,hN1] at g1;exact (aaK g1).symm
           subst ey;obtain ⟨mm,hn,hl⟩:=I3.loc
           have vis:Vis X.env.scope y':=by
             rcases g3 with z|z
             · exact .inr (.inl z)
             · exact .inr (.inr z)
           obtain ⟨u,ru,lk⟩:=hl j y' v' g2 hj vis;refine ⟨u,ru,.inr ⟨?_,?_⟩⟩
           · rcases h3 with z|z
             · exfalso;obtain ⟨k',m1,m2⟩:=zZ z;have lk2:=S.names _ m1;rcases m2 with w'|w'
               · subst w';have:=lk2 rfl;rw [g4] at this;cases this
               · subst w'
                 have: ∀ {names:List (Str×NameKind)},names.lookup y'=some .free->(names.map fun (n,k)=>if (k==ac3&&X.env.scope.kind== .function&&X.env.kindOf n==some .cell) then (n,ac4) else (n,k)).lookup y'≠some .local:=by
                  intro names
                  induction names with
                  |nil=>intro h;cases h
                  |cons p r ih=>
                   obtain ⟨n,kk⟩:=p;intro h h';have h'':aa7 y' ((if (kk==ac3&&X.env.scope.kind== .function&&X.env.kindOf n==some .cell)=true then (n,ac4) else (n,kk))::(r.map fun (n,k)=>if (k==ac3&&X.env.scope.kind== .function&&X.env.kindOf n==some .cell) then (n,ac4) else (n,k)))=some .local:=h';simp only [abA] at h
                   cases hx:y'==n with
                   |true=>
                    rw [hx] at h;cases h
                    split at h''<;>simp [abA,hx] at h''
                   |false=>
                    rw [hx] at h
                    split at h''<;>(simp only [abA,hx] at h'';exact ih h h'')
                 exact this g4 z
             · exact z
           · rcases lk with ⟨kk,_⟩| ⟨kk,c',hc',cell'⟩
             · exfalso;have kk':X.env.scope.names.lookup y'=some .local:=kk;rcases g3 with z|z<;>(rw [z] at kk';cases kk')
             · obtain ⟨c2,hc2⟩:=S.free (y',.free) (abS g4) rfl
               have:c2=c':=by
                 have:=S.cls _ _ hc2;rw [hc'] at this;exact (aaK this).symm
               subst this;obtain ⟨o,ho,hd⟩:=cell';exact ⟨c2,lk2 (fun q=>by rw [S.zk _ q] at g4;cases g4) hc2,o,old _ _ ho,hd⟩
       · exfalso
         have hi':i=m+js.length:=by
           have hl:=(aap.mp hN1).1;rw [S.len] at hl;omega
         subst hi';have no:=S.last y hN1;rcases h3 with z|z|z<;>
         · obtain ⟨k',m1,_⟩:=zZ z;exact no _ m1 rfl
   · rcases lk1 h with ⟨q,rfl⟩| ⟨_,h⟩
     · exact ⟨none,hcl₁ _ q⟩
     · obtain ⟨v',o,ho,hd⟩:=I3.cell y c' (S.cls y c' h);exact ⟨v',o,old _ _ ho,hd⟩
   · show (xf m js σ a).length=N.length;rw [S.len];simp [xf];omega
  have kC:EnvOk X.K (Gc im G env σ) H2 (xU im m js env) (xf m js σ a) (upd H2 a (.lst [])):=ja9 k2 ha
  have fC: ∀b∈fp,FpOk (qQ z X N scope cl C s3 (upd H2 a (.lst [])) fp) [] (upd H2 a (.lst [])) b:=fun b hb'=>by
   obtain ⟨z0,z1,z2,z3,z4,z5⟩:=f3 b hb';exact ⟨z0,(XO.exf b hb').1,XO.exfs b hb',.inl hb',(XO.exf b hb').2,fun p hp=>absurd hp (by simp [uo])⟩
  have stC:=T.keep 0 _ _ st2 fun b hb' o e=>old b o (aad _ e)
  have loop:adL (model X.prog X.w) X.A (.compLoop (.ListComp elt [⟨tg,iter,ifs,0⟩] scope pos) 0 (.ref it) (.ref a) (compEnvC scope (clZ z cl C) C X.env))
     (compPost (model X.prog X.w) X.A X.xe use Q' (.ref a) C) {s2 with heap:=h₁,toks:=s2.toks+([]:List (Str×Value)).length}:=by
   refine XD (fun n s'=> ∃i σ' H' env',n=ds.length+1-i/\i<=ds.length/\Inv (qQ z X N scope cl C s3 (upd H2 a (.lst [])) fp) [] σ' H' s'/\tn i s'.heap/\(∀b∈fp,H' b=none)/\(∀b,jY env' σ' b->b=a)/\
       EnvOk X.K (Gc im G env σ) H2 env' σ' H'/\Frm (xU im m js env) (xf m js σ a) (upd H2 a (.lst [])) env' σ' H'/\wR (m+js.length) t c fe (ds.drop i) env'= .ok envF) ?_ (ds.length+1)
     ⟨0,_,_,_,rfl,aba _,I4,stC,fun b hb'=>(fC b hb').1,?_,kC,Frm.refl (Same.refl _),by simpa using e2⟩
   · rintro n s' ⟨i,σ',H',env',rfl,hi',Ic,st,fr,hs',kc,fc,ec⟩;have hP:=pst env σ H' (Frm.refl kc.base);obtain ⟨w1,w2,w3⟩:=wk i H' hP;have fpk: ∀ {H':Hp},(∀b∈fp,H' b=none)-> ∀b∈fp,FpOk (qQ z X N scope cl C s3 (upd H2 a (.lst [])) fp) [] H' b:=fun hn b hb'=>⟨hn b hb',(fC b hb').2⟩
     by_cases hlt:i<ds.length
     · have hd:i<ds.length:=by omega
       rw [List.drop_eq_getElem_cons hd] at ec;obtain ⟨env1,e5,ec⟩:=je ec;obtain ⟨b,e6,ec⟩:=je ec;refine thn (T.item (qQ z X N scope cl C s3 (upd H2 a (.lst [])) fp) rfl rfl rfl rfl i [] s' σ' H' (fun _ _=>False) Ic (fpk fr) st (w1 hlt)) fun r s4 ⟨u,hr,h4⟩=>?_
       subst hr;refine thn h4 fun _ s5 ⟨x,H5,I5,r5,y5,st5,fr5⟩=>?_
       have wkA: ∀b,(Sf G env σ b/\H2 b≠none)->Sf (Gc im G env σ) env' σ' b:=fun b z=>⟨fun o=>(by
         rw [hs' b o] at z
         exact z.2 ha),z.1.2,fun _=>z.1.1⟩
       obtain ⟨sm5,rd'⟩:Same H' H5/\Rep X.K (Sf (Gc im G env σ) env' σ') H5 x ds[i]:=by
         rcases w2 _ (aae hd) x H5 y5 with ⟨rfl,rd⟩| ⟨p,vs,es,hp,rfl,rfl,ed,rds⟩
         · exact ⟨Same.refl _,(rd.inDom.grow kc.base).weak wkA⟩
         · refine ⟨Same.upd hp,?_⟩;rw [ed];exact .tup jo (((rds.inDom.grow kc.base).weak wkA).grow (Same.upd hp))
       have kc5:=kc.grow sm5;have I5':=I5.pinned (fpk fr5) (T.obj _ _ st5);refine thn (DGt _ s5 σ' H5 x u (fun σ1 Hn=>Hn=H5/\EnvOk X.K (Gc im G env σ) H2 env1 σ1 H5/\Frm env' σ' H5 env1 σ1 H5) I5' r5 ⟨_,H2,env',ds[i],env1,kc5,rd',e5,fun σ1 k1 f1=>⟨rfl,k1,f1⟩⟩) fun _ s6 ⟨σ6,H6,I6,z6,k6,ff6⟩=>?_
       subst z6
       have ow6: ∀b,jY env1 σ6 b->b=a:=fun b o=>by
         rcases ff6.more b o with z|z
         · exact hs' b z
         · obtain ⟨uu,hu⟩:=k6.there o;rw [z] at hu;cases hu
       refine thn (DTc _ s6 σ6 H6 (fun b' Hn=>b'=b/\Same H6 Hn) I6 ⟨_,H2,env1,b,k6,e6,fun Hn sn=>⟨rfl,sn⟩⟩) fun ok s7 ⟨H7,I7,z7,sm7⟩=>?_
       subst z7;have k7:=k6.grow sm7;have fr7:=((fc.trans (Frm.refl sm5)).trans ff6).trans (Frm.refl sm7)
       have out: ∀ {s8:aaf} {σ8:L2.St} {H8:Hp} {env8:Sl},Inv (qQ z X N scope cl C s3 (upd H2 a (.lst [])) fp) ([]++WY fp s5.heap) σ8 H8 s8->(∀b,jY env8 σ8 b->b=a)->EnvOk X.K (Gc im G env σ) H2 env8 σ8 H8->
           Frm (xU im m js env) (xf m js σ a) (upd H2 a (.lst [])) env8 σ8 H8->wR (m+js.length) t c fe (ds.drop (i+1)) env8= .ok envF->
           ∃mm,mm<ds.length+1-i/\ ∃i σ' H' env',mm=ds.length+1-i/\i<=ds.length/\Inv (qQ z X N scope cl C s3 (upd H2 a (.lst [])) fp) [] σ' H' s8/\tn i s8.heap/\(∀b∈fp,H' b=none)/\(∀b,jY env' σ' b->b=a)/\
             EnvOk X.K (Gc im G env σ) H2 env' σ' H'/\Frm (xU im m js env) (xf m js σ a) (upd H2 a (.lst [])) env' σ' H'/\wR (m+js.length) t c fe (ds.drop i) env'= .ok envF:=by
         intro s8 σ8 H8 env8 I8 ow8 k8 f8 e8;refine ⟨ds.length+1-(i+1),by omega,i+1,σ8,H8,env8,rfl,hlt,I8.unpinned,T.keep _ _ _ st5 fun b hb' o e=>(I8.pin (b,o) (aaZ _ (aaZ _ (ya hb' e)))).1,fun b hb'=>?_,ow8,k8,f8,e8⟩;obtain ⟨o,e,_⟩:=T.obj _ _ st5 b hb';exact (I8.pin (b,o) (aaZ _ (aaZ _ (ya hb' e)))).2.1
       cases ok with
       |false=>
         rw [if_neg aaB] at ec ⊢;exact out I7 ow6 k7 fr7 ec
       |true=>
         rw [if_pos rfl] at ec ⊢;obtain ⟨vd,e7,ec⟩:=je ec;obtain ⟨acc,e8,ec⟩:=je ec;obtain ⟨hz,ec⟩:=jr ec;refine thn (DEe _ s7 σ6 H7 (fun y Hn=>Same H7 Hn/\Rep X.K (Sf (Gc im G env σ) env1 σ6) Hn y vd) I7 ⟨_,H2,env1,vd,k7,e7,fun y Hn sn rn _=>⟨sn,rn⟩⟩) fun yv s8 ⟨y,H8,I8,ry,sm8,rep8⟩=>?_
         have k8:=k7.grow sm8;have hi8:=wx e8;obtain ⟨a8,xs8,ha8,hx8,rs8⟩:=wv k8 hi8;have ea:=ow6 a8 ⟨_,_,hi8,ha8⟩;subst ea;have W:=k8.write hi8 ha8 hx8 (rs8.append (.cons rep8 .nil))
         refine thn (Xg _ s8 σ6 H8 (.ref a) [y] (.ref a) [yv] (fun _ Hn=>Hn=upd H8 a (.lst (xs8++[y]))) I8 rfl (.cons ry .nil)
           ⟨a,xs8,y,rfl,rfl,hx8,by rw [rs8.length];exact hz,rfl⟩) fun _ s9 ⟨_,H9,I9,_,z9⟩=>?_
         subst z9;exact out I9 (fun b o=>ow6 b ((JG hi8).mp o)) W.1 ((fr7.trans (Frm.refl sm8)).trans W.2) ec
     · have he:i=ds.length:=by omega
       rw [List.drop_eq_nil_of_le (by omega)] at ec;cases ec;refine thn (T.done (qQ z X N scope cl C s3 (upd H2 a (.lst [])) fp) rfl rfl rfl rfl i [] s' σ' H' (fun _ _=>False) Ic (fpk fr) st (w3 (by omega))) fun r s4 ⟨hr,I5⟩=>?_
       subst hr;have hiF:=wx e3;obtain ⟨aF,xsF,haF,hxF,rsF⟩:=wv kc hiF;have ea:=hs' aF ⟨_,_,hiF,haF⟩;subst ea;obtain ⟨mm,hn,_⟩:=I5.loc;refine hend a C s4 H' mm _ hn (fun h' hsb=>?_) (I3.fpOk (aai _) I5.free) (sm.trans kc.base) (.lst hxF (k.new a (Same.free sm ha)) ?_) (j9 sm ha)
       rotate_left
       · cases him:im with
         |true=>exact rsF.imm (himF him)
         |false=>exact rsF.weak fun c z=>⟨⟨z.2.2 him,z.2.1⟩,W5 kc hiF haF c z⟩
       have nC: ∀b o,H' b=some o->b≠C:=fun b o e z=>by
         have:=I5.free;rw [z] at e;have e':H' C=none:=this;rw [e] at e';cases e'
       have B:=I5.base;have ltC: ∀b o,s3.heap.get? b=some o->b≠C:=fun b o e=>aaC (aav e)
       have U:Un (frs X.stack) fp (upd H2 a (.lst [])) H' s3.heap h':=⟨fun b o e n hb' hx'=>(hsb.2 b (ltC b o e)).trans (B.keep b o e n hb' hx'),
         fun b o e n hb' hx'=>let ⟨sl,z⟩:=B.slot b o e n hb' hx';⟨sl,(hsb.2 b (ltC b o e)).trans z⟩,B.free,
         fun b o e hx'=>let ⟨o',z⟩:=B.there b o e hx';⟨o',(hsb.2 b (ltC b o e)).trans z⟩,B.tups,B.frzs,B.tbls⟩
       refine Inv.call' I3 I5.os U (fun b o e=>(I5.hok b o e).stay (fun c' u hc' qq=>(hsb.2 c' ?_).trans qq) (fun _ z=>z) fun _ _ z=>z) I5.bare (fun b hb'=>?_)
       · rcases hc' with z|z
         · rw [z];exact nC b o e
         · exact nC c' _ z
       · obtain ⟨z0,z1,z2,z3,z4,z5⟩:=f3 b hb';exact ⟨z3,z1,z4,z5⟩
   · exact fun b o=>Uh o
  exact codeAny_compStart_list loop (T.self _ 0 _ _ _ stC loop))
def wP (im:Bool) (N:List Str) (m:Nat) (js:List Nat) (S:CompSc z X scope cl N m js) (hc:X.calm=true) (hi:DI X tg iter fi)
   (hb: ∀(C:Addr) (s:aaf) (H:Hp) (fp:List Addr),N.Nodup->DG (qQ z X N scope cl C s H fp) tg t/\DTs (qQ z X N scope cl C s H fp) ifs c/\DE (qQ z X N scope cl C s H fp) .s elt fe)
   (hs: ∀x,adJ iter X.env x=pure x:=by intro _;rfl):
   DE X .t (.ListComp elt [⟨tg,iter,ifs,0⟩] scope pos) (xt im m js fi t c fe):=by
 with_unfolding_all exact (by
  rintro pins s σ H Q I ⟨G,H0,env,d,k,ef,q⟩;rw [eval_ListComp]
  exact ut none (EP X pins σ Q) im N m js S hc hi (fun C s H fp=>hb C s H fp S.nd) hs I k ef fun a C s' H' mm r hn hinv hfp sm rep nt=>⟨mm,hn,fun h' hsb=>⟨.ref a,H',hinv h' hsb,rfl,q _ H' sm rep nt⟩⟩)
end
def ql (n:Nat) (ds:List D):Sl:=ds.map .shr++aaE (n-ds.length) .un
def vX {K:aab} {B:X7} {N:List Str} {vs:List V} {ds:List D} {H:Hp} (r:Reps K B H vs ds):EnvOk K (fun a=>H a=none\/B a) H (ql N.length ds) (start N vs) H:=by
 have hl:=r.length
 have no: ∀(i:Nat) (d:D),(ql N.length ds)[i]?≠some (.own d):=fun i d h=>by
   unfold ql at h
   by_cases q:i<ds.length
   · rw [aaF (by simpa using q),aaO] at h
     cases e:ds[i]? with
     |none=>rw [e] at h;cases h
     |some x=>rw [e] at h;cases h
   · rw [aay (by simpa using q),abq] at h
     split at h<;>cases h
 refine ⟨by simp [L2.start,ql,hl],Same.refl H,fun _ z=> .inl z,fun i d h=>?_,fun i d h=>(no i d h).elim,fun i j d e a h=>(no i d h).elim⟩;unfold ql at h
 by_cases q:i<ds.length
 · rw [aaF (by simpa using q),aaO] at h
   cases e:ds[i]? with
   |none=>rw [e] at h;cases h
   |some x=>
     rw [e] at h;cases h;obtain ⟨v,h1,h2⟩:=r.get e;refine ⟨v,?_,h2.weak fun a z=>⟨fun o=>?_,.inr z⟩⟩
     · unfold L2.start;rw [aaF (by simp;omega),aaO,h1];rfl
     · obtain ⟨i',d',z,_⟩:=o;exact no i' d' z
 · rw [aay (by simpa using q),abq] at h
   split at h<;>cases h
section
variable {P:aaH} {w:World} {K:aab} {mg:X8} {base:Heap}
def Meets (fr:Bool) (n:Nat) (g:T3) (ds:List D) (d:D):Prop:=(∃fr',g (ql n ds)= .ok (.rt fr' d)/\(fr=true->fr'=true))\/(d= .non/\ ∃env',g (ql n ds)= .ok (.nx env'))
def jc8 {x qual:Str} {st:Stmt} {f:Addr} {fd:ab4} {N ps:List Str} {k:Nat} {fr:Bool} {F:TZ} {g:T3} (Fu:Fun K x qual st f fd) (S:FnScope N ps (jg st))
    (hb: ∀(cdv:Value) (A:aa3) (outer:List Env) (s:aaf) (H:Hp) (E:XK),Room k (A.deeper (adX qual (jg st) s.heap.objs.size f cdv))->DSs (cxOf CX0 P w K mg base N qual (jg st) f cdv A outer s H E).nox (qA st) g)
    (hF: ∀ds d,ds.length=ps.length->F ds= .ok d->Meets fr N.length g ds d):
    FnOk P w K mg base CX0 (k+1) f fd ps (spF K fr ps.length F):=by
 with_unfolding_all exact (by
  refine Fu.ok S (fun vs H Q E ⟨B,ds,d,hl,_⟩=>hl) (fun cdv A outer s H vs Q E hr h=>?_);obtain ⟨B,ds,d,hl,r,e,q⟩:=h;refine ⟨_,hb cdv A outer s H E hr,?_⟩;have kk:=vX (N:=N) r;rcases hF ds d (by rw [←r.length];exact hl) e with ⟨fr',z,hf⟩| ⟨rfl,env',z⟩
  · exact ⟨_,H,_,_,kk,z,fun v H' s r nt=>q v H' s r fun hh=>nt (hf hh)⟩
  · exact ⟨_,H,_,_,kk,z,fun σ' H' k' f'=>q .non H' k'.base .non fun _ a e=>by cases e⟩)
end
open PySem.W in
theorem jdB {ns:List Int} (h:WData.layableAll [WData.list (ns.map WData.int)]=true): ∀n∈ns,abT n<=2^20:=fun n hn=>by
 have h1:=layableW_arg h _ aax;have h2:=layableW_item h1 (.int n) (aaD.mpr ⟨n,hn,rfl⟩);have h3:=(layableW_iff.mp h2).2.2;simpa only [WData.weight,abT] using h3
open PySem.W PySem.Calls Att in
theorem YS {l:ae6} {n:Nat} {q:aaH} {loose:List Str} {XP:(Str->Option Value)->Heap->Prop} {YP:World->Heap->Prop} {d:DefRec}
  (hn:l.most=some n) (hdf:d.params.defaults=[])
  (call: ∀(w:World) (s₀ s₁:aaf) (mg mb:X8) (fa:Addr) (o:Obj) (pm cd doc:Value) (a:Addr) (vs:List Value) (ns:List Int),
   Ground q loose [] XP w s₀ mg mb s₁.heap->YP w s₁.heap->
   s₁.heap.get? fa=some o->o.data= .func (docDef d.name d.params d.body d.scope pm cd doc)->s₁.heap.CodeRec cd d.name->mg d.name=some (.ref fa)->
   s₁.heap.get? a=some {cls:= .type "list",data:= .seq vs.toArray}->IntsAre vs ns->ns.length<=n->(∀n∈ns,abT n<=2^20)->s₁.gens= #[]->
   adL (model l.prog w) callerA (.call (.ref fa) ⟨[.ref a],[]⟩) (fun r s'=>r= .ok (.ret (.bool true))/\OldK s₁.heap s'.heap/\s'.os=s₁.os/\aeW s'.gens) s₁):
  WalkO q loose XP YP l.row.toRowW d [] (fun f vs=>PySem.call f vs):=by
 intro w s₀ s₁ mg mb G Y fa o pm cd doc dV kV ho hd hcd hD hmg hg args vals as hpre hlay hrd hwl hlo;obtain rfl:dV= .none:=Dflts.none hD hdf;obtain rfl:kV= .none:=Dflts.noKw hD;obtain ⟨a,vs,ns,rfl,rfl,hobj,hints,hlen⟩:=U6 hn hpre hwl;refine enter_call (adW (call w s₀ s₁ mg mb fa o pm cd doc a vs ns G Y ho (fd_plain hd) hcd hmg hobj hints hlen (jdB hlay) hg) fun r s' hq=>?_);obtain ⟨rfl,h2,h3,h4⟩:=hq;exact ⟨.inl ⟨.bool true,.bool true,[],rfl,fun _=>rfl,.bool true,ku l _,fun _=>⟨List.Pairwise.nil,fun _ hm=>(nomatch hm)⟩⟩,h2,h3,h4⟩
def jaw {K:aab} {H:Hp} {a:Addr} {xs:List V} (hO:Only H) (h:SqL K H a xs):LsK K H a xs:=by
 rcases h with (h|h)|h
 · rcases hO a with z| ⟨o,ys,z⟩
   · rw [z] at h;cases h
   · rw [z] at h;cases h
 · exact .inl h
 · exact .inr h
theorem KA {K:aab} {A:X7} {H:Hp}: ∀ns:List Int,Reps K A H (ns.map V.int) (ns.map D.int)
 | []=> .nil
 |n::r=> .cons (.int n) (KA r)
def walk_law {l:ae6} {n k:Nat} {q:aaH} {loose:List Str} {XP:(Str->Option Value)->Heap->Prop} {YP:World->Heap->Prop} {d:DefRec} {K:Params->aab} {F:TZ} {x:Str}
  (hn:l.most=some n) (hn2:n<=aah) (hdf:d.params.defaults=[]) (hr:Room k callerA)
  (hY: ∀(w:World) (h:Heap),YP w h->(K w.params).In h)
  (hF: ∀(w:World) (mg:X8) (fa:Addr) (h:Heap),(K w.params).In h->h.Ns aaw mg->mg d.name=some (.ref fa)->
   ∃fd:ab4,(∀(s:aaf) (u:Value),BindsTo s fd ⟨[u],[]⟩ [(x,u)])/\
    ∀base:Heap,(K w.params).In base->base.Ns aaw mg->FnOk l.prog w (K w.params) mg base CX0 k fa fd [x] (spF (K w.params) true 1 F))
  (ht: ∀ns:List Int,ns.length<=n->(∀i∈ns,abT i<=2^20)->F [.scr (ns.map D.int)]= .ok (.bl true)):
  PySem.W.WalkO q loose XP YP l.row.toRowW d [] (fun f vs=>PySem.call f vs):=by
 refine YS hn hdf fun w s₀ s₁ mg mb fa o pm cd doc a vs ns G Y ho hd hcd hmg hobj hints hlen hbits hg=>?_
 have KX:=hY w _ Y;obtain ⟨fd,hb,hFn⟩:=hF w mg fa _ KX G.T.g hmg;refine jaM KX G.T.g G.T.b G.T.builtins G.T.nolimit hg hobj hints (aaI hlen hn2) hr hFn hb (fun H hO hS=>?_) fun H e s' h=>h
 exact ⟨Any,_,_,rfl,.cons (.lsk (jaw hO hS) (KA ns)) .nil,ht ns hlen hbits,fun v H' _ r _=>r.blE⟩
section
variable {X:Cx} {K:aab}
def iOp (C:Int->Int->Prop) [∀i j,Decidable (C i j)] (g:Int->Int->D):D->D->Res D
 | .int i,.int j=>must (C i j) (.ok (g i j))
 |_,_=> .stuck
def vB {C:Int->Int->Prop} [∀i j,Decidable (C i j)] {g:Int->Int->D} {a b d:D} (h:iOp C g a b= .ok d): ∃i j,a= .int i/\b= .int j/\C i j/\d=g i j:=by
 unfold iOp at h
 split at h
 · obtain ⟨h1,h2⟩:=jr h;cases h2;exact ⟨_,_,rfl,rfl,h1,rfl⟩
 · cases h
def od_I {C C':Int->Int->Prop} [∀i j,Decidable (C i j)] {h:Int->Int->V} {g:Int->Int->D} (w: ∀i j,C i j->C' i j) (r: ∀i j,Sc K (h i j) (g i j)):OpS K (rI C' h) (iOp C g):=by
 intro x y H a b d Q ra rb e q;obtain ⟨i,j,rfl,rfl,hc,rfl⟩:=vB e;exact ⟨i,j,ra.intE,rb.intE,w i j hc,q _ (r i j)⟩
abbrev Zg:Int->Int->Prop:=fun _ _=>True
instance: ∀i j,Decidable (Zg i j):=fun _ _=>inferInstanceAs (Decidable True)
def jaD {h:Int->Int->V} {g:Int->Int->D} (r: ∀i j,Sc K (h i j) (g i j)):OpS K (rI0 h) (iOp Zg g):=by
 intro x y H a b d Q ra rb e q;obtain ⟨i,j,rfl,rfl,hc,rfl⟩:=vB e;exact ⟨i,j,ra.intE,rb.intE,q _ (r i j)⟩
def jgV {v:V} {d:D} {H:Hp} (h:Sc K v d):NewTop H v:=fun a e=>absurd e (h.2 a)
def addD:D->D->Res D
 | .int i,.int j=> .ok (.int (i+j))
 | .str i,.str j=>must (i.length+j.length<=aah) (.ok (.str (i++j)))
 | .lst a,.lst b=>must (a.length+b.length<=aah) (.ok (.lst (a++b)))
 | .tup a,.tup b=>must (a.isEmpty=false/\a.length+b.length<=aah) (.ok (.tup (a++b)))
 |_,_=> .stuck
def jB:OpR X (abV .Add) (fun x y H Q=>rI0 (fun i j=> .int (i+j)) x y H Q\/(∃i j,x= .str i/\y= .str j/\i.length+j.length<=aah/\Q (.str (i++j)) H)\/rCat x y H Q\/jck X.K x y H Q):=
 op_add.or (op_add_str.or (op_cat.or jcA))
def Reps.len_app {A:X7} {H:Hp} {xs ys:List V} {a b:List D} (r:Reps K A H xs a) (s:Reps K A H ys b) (h:a.length+b.length<=aah):xs.length+ys.length<=aah:=by rw [r.length,s.length];exact h
def orA {A:X7} {H:Hp}: ∀c,A c->(H c=none\/A c):=fun _ z=> .inr z
def jP:OpD K (fun x y H Q=>rI0 (fun i j=> .int (i+j)) x y H Q\/(∃i j,x= .str i/\y= .str j/\i.length+j.length<=aah/\Q (.str (i++j)) H)\/rCat x y H Q\/jck K x y H Q) addD:=by
 intro A x y H a b d Q ra rb e q;unfold addD at e
 split at e
 · cases e;exact .inl ⟨_,_,ra.intE,rb.intE,q _ H (Same.refl H) (.int _) (jgV (jgH (K:=K) _))⟩
 · obtain ⟨h1,h2⟩:=jr e;cases h2;have hl: ∀i j:Str,i.length+j.length<=aah->(i++j).length<=aah:=fun i j h=>by rw [strLen_append];exact h
   exact .inr (.inl ⟨_,_,ra.strE.1,rb.strE.1,h1,q _ H (Same.refl H) (.str _ (hl _ _ h1)) (jgV (jgU (K:=K) _ (hl _ _ h1)))⟩)
 · obtain ⟨h3,h4⟩:=jr e;cases h4;obtain ⟨l,xs,rfl,hl,_,rx⟩:=ra.lstE;obtain ⟨l',ys,rfl,hl',_,ry⟩:=rb.lstE;refine .inr (.inr (.inl ⟨l,l',xs,ys,rfl,rfl,hl,hl',rx.low.len_app ry.low h3,fun p hp=>q _ _ (Same.upd hp) ?_ (j9 (Same.refl H) hp)⟩));exact .lst jo (.inl hp) (((rx.low.append ry.low).laid hp).weak fun c z=>⟨.inr z.1,z.2⟩)
 · obtain ⟨⟨h3,h4⟩,h5⟩:=jr e;cases h5;obtain ⟨l,xs,rfl,hl,rx⟩:=ra.tupE;obtain ⟨l',ys,rfl,hl',ry⟩:=rb.tupE;refine .inr (.inr (.inr ⟨l,l',xs,ys,rfl,rfl,.of hl,.of hl',fun z=>?_,rx.len_app ry h4,fun z=>?_,fun z p hp=>q _ _ (Same.upd hp) ?_ (j9 (Same.refl H) hp)⟩))
   · subst z;cases rx;cases h3
   · subst z;cases ry;rw [abJ] at q;refine q _ H (Same.refl H) (.tup hl (rx.weak orA)) fun a e o q' m=>?_
     cases e;rw [hl] at q';cases q';exact m
   · exact .tup jo (((rx.append ry).weak orA).grow (Same.upd hp))
 · cases e
def Xd:OpS K (rI0 fun i j=> .int (i-j)) (iOp Zg fun i j=> .int (i-j)):=jaD fun i j=>jgH _
abbrev MulC:Int->Int->Prop:=fun i j=>abT i+abT j<=134217728
def xk:OpR X (abV .Mult) (rI MulC fun i j=> .int (i*j)):=opI fun _ _ _ _ _ _ _ hc q=>mul_int q (IntMulOk.of_le (aai _) (aai _) hc)
def y9:OpS K (rI MulC fun i j=> .int (i*j)) (iOp MulC fun i j=> .int (i*j)):=od_I (fun _ _ h=>h) fun i j=>jgH _
abbrev DivC:Int->Int->Prop:=fun _ j=>0<j/\j<1073741824
def Yq:OpS K (rI CDiv fun i j=> .int (i/j)) (iOp DivC fun i j=> .int (i/j)):=od_I (fun _ _ h=>h) fun i j=>jgH _
abbrev PosC:Int->Int->Prop:=fun _ j=>0<j
def Ja:OpS K (rI (fun _ j=>0<j) fun i j=> .int (i%j)) (iOp PosC fun i j=> .int (i%j)):=od_I (fun _ _ h=>h) fun i j=>jgH _
abbrev PowC:Int->Int->Prop:=fun i j=>0<=j/\j<=1000000/\i.natAbs<2^64
def Kq:OpS K (rI CPow fun i j=> .int (i^j.toNat)) (iOp PowC fun i j=> .int (i^j.toNat)):=od_I (fun _ _ h=>h) fun i j=>jgH _
def jfW:OpS K (rI0 fun i j=> .bl (decide (i<j))) (iOp Zg fun i j=> .bl (decide (i<j))):=jaD fun i j=>jgE _
def VI:OpS K (rI0 fun i j=> .bl (decide (i<=j))) (iOp Zg fun i j=> .bl (decide (i<=j))):=jaD fun i j=>jgE _
def jcG:OpS K (rI0 fun i j=> .bl (decide (j<i))) (iOp Zg fun i j=> .bl (decide (j<i))):=jaD fun i j=>jgE _
def inS (i j:Str):Bool:=!(adu j i 0 j.length 1).isEmpty
def inD:D->D->Res D
 | .str i,.str j=> .ok (.bl (inS i j))
 |_,_=> .stuck
def jeG:OpS K (fun x y H Q=> ∃i j,x= .str i/\y= .str j/\Q (.bl (!(adu j i 0 j.length 1).isEmpty)) H) inD:=by
 intro x y H a b d Q ra rb e q;unfold inD at e
 split at e
 · cases e;exact ⟨_,_,ra.strE.1,rb.strE.1,q _ (jgE _)⟩
 · cases e
def lenD:List D->Res D
 | [.lst ds]=> .ok (.int ds.length)
 | [.scr ds]=> .ok (.int ds.length)
 | [.tup ds]=> .ok (.int ds.length)
 | [.str z]=> .ok (.int z.length)
 |_=> .stuck
def qL:CallR X (.builtin "len") (fun xs H Q=>(∃p ys,xs=[.ref p]/\(SqL X.K H p ys\/SqT X.K H p ys)/\Q (.int ys.length) H)\/(∃z,xs=[.str z]/\z.length<=aah/\Q (.int z.length) H)):=call_len_seq.or XL
def yq:jbx K (fun xs H Q=>(∃p ys,xs=[.ref p]/\(SqL K H p ys\/SqT K H p ys)/\Q (.int ys.length) H)\/(∃z,xs=[.str z]/\z.length<=aah/\Q (.int z.length) H)) lenD:=by
 intro xs H ds d Q r e q;unfold lenD at e
 split at e
 · cases e;obtain ⟨v,rfl,r1⟩:=r.one;obtain ⟨p,ys,rfl,hp,_,ry⟩:=r1.lstE;exact .inl ⟨p,ys,rfl,.inl (.of hp),by rw [ry.length];exact q _ (jgH _)⟩
 · cases e;obtain ⟨v,rfl,r1⟩:=r.one;obtain ⟨p,ys,rfl,hp,ry⟩:=r1.scrE;exact .inl ⟨p,ys,rfl,.inl hp.sql,by rw [ry.length];exact q _ (jgH _)⟩
 · cases e;obtain ⟨v,rfl,r1⟩:=r.one;obtain ⟨p,ys,rfl,hp,ry⟩:=r1.tupE;exact .inl ⟨p,ys,rfl,.inr (.of hp),by rw [ry.length];exact q _ (jgH _)⟩
 · cases e;obtain ⟨v,rfl,r1⟩:=r.one;obtain ⟨rfl,hz⟩:=r1.strE;exact .inr ⟨_,rfl,hz,q _ (jgH _)⟩
 · cases e
def wn:List D->Res D
 | [.lst ds]=>(.ok (.tup ds))
 | [.tup ds]=>(.ok (.tup ds))
 |_=> .stuck
def UG {H:Hp} {p:Addr} {xs:List V} (h:H p=some (.tup xs)):NewTop H (.ref p):=fun a e o q m=>by
 cases e;rw [h] at q;cases q;exact m
def yi:WG K (fun xs H Q=> ∃p ys,xs=[.ref p]/\((SqL K H p ys/\ ∀l,H l=none->Q (.ref l) (upd H l (.tup ys)))\/(SqT K H p ys/\Q (.ref p) H))) wn:=by
 intro A xs H ds d Q r e q;unfold wn at e
 split at e
 · cases e;obtain ⟨v,rfl,r1⟩:=r.one;obtain ⟨p,ys,rfl,hp,_,ry⟩:=r1.lstE;exact ⟨p,ys,rfl,.inl ⟨.of hp,fun l hl=>q _ _ (Same.upd hl) (.tup jo ((ry.low.weak orA).grow (Same.upd hl))) (j9 (Same.refl H) hl)⟩⟩
 · cases e;obtain ⟨v,rfl,r1⟩:=r.one;obtain ⟨p,ys,rfl,hp,ry⟩:=r1.tupE;exact ⟨p,ys,rfl,.inr ⟨.of hp,q _ H (Same.refl H) (.tup hp (ry.weak orA)) (UG hp)⟩⟩
 · cases e
def Xi:List D->Res D
 | [.lst ds]=>(.ok (.lst ds))
 | [.tup ds]=>(.ok (.lst ds))
 |_=> .stuck
def JR:WG K (fun xs H Q=> ∃p ys,xs=[.ref p]/\(SqL K H p ys\/SqT K H p ys)/\ ∀l,H l=none->Q (.ref l) (upd H l (.lst ys))) Xi:=by
 intro A xs H ds d Q r e q;unfold Xi at e
 split at e
 · cases e;obtain ⟨v,rfl,r1⟩:=r.one;obtain ⟨p,ys,rfl,hp,_,ry⟩:=r1.lstE;exact ⟨p,ys,rfl,.inl (.of hp),fun l hl=>q _ _ (Same.upd hl) (.lst jo (.inl hl) ((ry.low.laid hl).weak fun c z=>⟨.inr z.1,z.2⟩)) (j9 (Same.refl H) hl)⟩
 · cases e;obtain ⟨v,rfl,r1⟩:=r.one;obtain ⟨p,ys,rfl,hp,ry⟩:=r1.tupE;exact ⟨p,ys,rfl,.inr (.of hp),fun l hl=>q _ _ (Same.upd hl) (.lst jo (.inl hl) ((ry.laid hl).weak fun c z=>⟨.inr z.1,z.2⟩)) (j9 (Same.refl H) hl)⟩
 · cases e
def tyN:D->Option String
 | .non=>some "NoneType"
 | .bl _=>some "bool"
 | .int _=>some "int"
 | .str _=>some "str"
 | .tup _=>some "tuple"
 | .lst _=>some "list"
 | .scr _=>none
 | .dic _ _=>some "dict"
 | .dit _ _=>some "dict"
 | .exn _=>none
 | .fdc _ _=>none
 | .hdc _ _=>none
 | .obj _ _ _=>none
 | .mem _ _=>none
def jfw {A:X7} {H:Hp} {v:V} {d:D} {n:String} (r:Rep K A H v d) (h:tyN d=some n):TyOf K H v (.type n):=by
 cases r with
 |non=>cases h;exact .non
 |bl b=>cases h;exact .bl b
 |int i=>cases h;exact .int i
 |str x _=>cases h;exact .str x
 |tup e _=>cases h;exact .tup e
 |lst e _ _=>cases h;exact .lst e
 |lsk _ _=>cases h
 |dic e _ _ _ _=>cases h;exact .dK e
 |dit e _ _ _ _=>cases h;exact .dT e
 |exn _ _ _=>cases h
 |fdc _ _ _ _=>cases h
 |hdc _ _ _ _=>cases h
 |obj _ _ _ _ _=>cases h
 |mem _ _=>cases h
def isTy (T n:String):Bool:=n==T|| (T== "int" &&n== "bool")
def IsTy (T:String):Prop:= ∀(K:aab) (n:String),n∈["NoneType", "bool", "int", "str", "tuple", "list", "dict"]->aaS K (.type n) (.type T)=some (isTy T n)
def jdV {d:D} {n:String} (h:tyN d=some n):n∈["NoneType", "bool", "int", "str", "tuple", "list", "dict"]:=by
 cases d<;>first| (cases h;done)| (cases h;decide)
def QL {T:String} (h: ∀(K:aab),aaS K (.type "NoneType") (.type T)=some (isTy T "NoneType")/\aaS K (.type "bool") (.type T)=some (isTy T "bool")/\aaS K (.type "int") (.type T)=some (isTy T "int")/\
  aaS K (.type "str") (.type T)=some (isTy T "str")/\aaS K (.type "tuple") (.type T)=some (isTy T "tuple")/\aaS K (.type "list") (.type T)=some (isTy T "list")/\aaS K (.type "dict") (.type T)=some (isTy T "dict")):IsTy T:=by
 intro K n hn;obtain ⟨h1,h2,h3,h4,h5,h6,h7⟩:=h K;simp at hn;rcases hn with rfl|rfl|rfl|rfl|rfl|rfl|rfl<;>assumption
def Ky:IsTy "int" :=QL fun K=>⟨rfl,rfl,rfl,rfl,rfl,rfl,rfl⟩
def Xp:IsTy "bool" :=QL fun K=>⟨rfl,rfl,rfl,rfl,rfl,rfl,rfl⟩
def jaT:IsTy "str" :=QL fun K=>⟨rfl,rfl,rfl,rfl,rfl,rfl,rfl⟩
def zn:IsTy "tuple" :=QL fun K=>⟨rfl,rfl,rfl,rfl,rfl,rfl,rfl⟩
def QM:IsTy "list" :=QL fun K=>⟨rfl,rfl,rfl,rfl,rfl,rfl,rfl⟩
def isiD (T:String) (d:D):Res D:=match tyN d with
 |some n=> .ok (.bl (isTy T n))
 |none=> .stuck
def Vb (T:String) (h:IsTy T):CallR X (.builtin "isinstance") (fun xs H Q=> ∃x d,xs=[x,.ty T]/\Rep X.K Any H x d/\ ∃b,isiD T d= .ok (.bl b)/\Q (.bl b) H):=by
 rintro pins s σ H xs us Q I r ⟨x,d,ex,rp,b,e,q⟩;subst ex;obtain ⟨u,w',rfl,r1,r2⟩:=UC r;cases (show w'=acC T from r2);unfold isiD at e
 split at e
 · rename_i n hn;cases e;refine vw I r1 (jfw rp hn) (h X.K n (jdV hn)) fun tk=>⟨.bl _,H,I.tok tk,rfl,q⟩
 · cases e
def isiF (T:String) (f:T5):Sl->Res D:=fun env=>f env>>=isiD T
def wF (T:String) (Ty:Str) {l l':Lv} {e:Expr} {f:T5} {p p2 pos:Pos} (ht:IsTy T) (he:DE X l e f) (hg:Gl X "isinstance") (hm:X.mg "isinstance" =none) (hg2:Gl X Ty) (hm2:X.mg Ty=none) (hv:abz Ty=some (.type T))
   (hn:Ty≠ "__name__" :=by decide) (hd:ZI Ty:=by decide) (hs:aan [e,.Name Ty p2] X.env=(false,eval e X.env)::aan [.Name Ty p2] X.env:=by exact jk rfl)
   (hs2:aan [.Name Ty p2] X.env=(false,eval (.Name Ty p2) X.env)::aan [] X.env:=by exact jk rfl) (hpl:(abQ pos (aan [.Name Ty p2] X.env)).any (·.1)=false:=by exact jS rfl):
   DE X l' (.Call (.Name "isinstance" p) [e,.Name Ty p2] [] pos) (isiF T f):=by
 with_unfolding_all exact (
  PE.imp (wt (Vb T ht) hg hm aem (qg he (qg (Yh (v:= .ty T) hg2 hm2 hv rfl hn hd) wu hs2) hs) (by decide) (by decide) hs hpl) fun σ H Q=>by
   rintro ⟨G,H0,env,d,k,ef,q⟩;obtain ⟨a,e1,e2⟩:=je ef;refine ⟨G,H0,env,a,k,e1,fun v H' s r _=>?_⟩
   have hb: ∃b,d= .bl b:=by
    unfold isiD at e2
    split at e2
    · cases e2;exact ⟨_,rfl⟩
    · cases e2
   obtain ⟨b,rfl⟩:=hb
   exact ⟨v,a,rfl,r.weak Lv.weak_b,b,e2,q _ H' s (.bl b) (jgE (K:=X.K) b).T⟩)
def YR:List D->Option (List Bool)
 | []=>some []
 | .bl b::r=>(YR r).map (b:: ·)
 |_=>none
theorem XN: ∀ {ds:List D} {bs:List Bool},YR ds=some bs->ds=bs.map D.bl
 | [],bs,h=>by cases h;rfl
 |d::r,bs,h=>by
  cases d with
  |bl b=>
   simp only [YR,acQ] at h;obtain ⟨bs',h1,rfl⟩:=h;rw [XN h1];rfl
  |_=>cases h
def jbt (bs:List Bool):YR (bs.map D.bl)=some bs:=by
 induction bs with
 |nil=>rfl
 |cons b r ih=>simp [YR,ih]
def allD:List D->Res D
 | [.lst ds]=>match YR ds with
  |some bs=> .ok (.bl (bs.all id))
  |none=> .stuck
 |_=> .stuck
theorem Zm {A:X7} {H:Hp}: ∀ {bs:List Bool} {xs:List V},Reps K A H xs (bs.map D.bl)->xs=bs.map V.bl
 | [],_,.nil=>rfl
 |b::bs,_,.cons h t=>by rw [h.blE,Zm t];rfl
theorem Zi: ∀ {bs:List Bool} {us:List Value},Vals (bs.map V.bl) us->us=bs.map ac1
 | [],_,.nil=>rfl
 |b::bs,_,.cons h t=>by
  rw [Zi t];have:_=ac1 b:=h;rw [this];rfl
def Q2 (hc:X.calm=true):CallR X (.builtin "all") (fun xs H Q=> ∃(p:Addr) (bs:List Bool),xs=[.ref p]/\SqL X.K H p (bs.map V.bl)/\Q (.bl (bs.all id)) H):=by
 rintro pins s σ H xs us Q I r ⟨p,bs,ex,hq,q⟩;subst ex;obtain ⟨u,rfl,ru⟩:=J5 r;cases ru;obtain ⟨its,rv,pl,hz⟩:=I.list hq;have hits:=Zi rv;subst hits;refine call_all_walk (adP pl.isList ?_)
 have hne:p≠s.heap.objs.size:=by
   obtain ⟨o,n,e,_⟩:=pl;exact aaC (aav e)
 refine ⟨s.heap.objs.size,_,_,_,_,_,fun i=>(bs[i]?).getD true,rfl,Walks.list (show X.A.in1.handled=none from I.ok.hd hc) s.heap.objs.size p hne (bs.map ac1).toArray,⟨⟨_,aaq _ rfl,rfl,rfl⟩,pl.isList.at fun o e=>aad _ e⟩,?_,fun h' tk kk=>?_⟩
 · intro i v s' Q' E' hP hQ;have hP':(bs.map ac1)[i]?=some v:=by simpa using hP
   rw [aaO] at hP'
   cases e:bs[i]? with
   |none=>rw [e] at hP';cases hP'
   |some b=>
    rw [e] at hP';cases hP';dsimp only at hQ;rw [e] at hQ;exact abF hQ
 · have hn:(bs.map ac1).toArray.size=bs.length:=by simp
   have e:((aa8 (bs.map ac1).toArray.size).all fun i=>(bs[i]?).getD true)=bs.all id:=by
    rw [hn,acg,aa5,aa5]
    constructor
    · intro hh b hb;obtain ⟨i,hi,rfl⟩:=List.mem_iff_getElem.mp hb;have:=hh i (aaU.mpr hi);rw [aae hi] at this;exact this
    · intro hh i hi;have hi':=aaU.mp hi;rw [aae hi'];exact hh _ (abk hi')
   rw [e];refine ⟨.bl _,H,?_,rfl,q⟩
   exact I.kept fun b o e=>kk b o (by
    intro z;have hb:b=s.heap.objs.size:=by simpa using z
    exact absurd (aav e) (by rw [hb];exact abE _)) (aad _ e)
def uw:jbx K (fun xs H Q=> ∃(p:Addr) (bs:List Bool),xs=[.ref p]/\SqL K H p (bs.map V.bl)/\Q (.bl (bs.all id)) H) allD:=by
 intro xs H ds d Q r e q;unfold allD at e
 split at e
 · split at e
   · rename_i bs hbs;cases e;obtain ⟨v,rfl,r1⟩:=r.one;obtain ⟨p,ys,rfl,hp,_,ry⟩:=r1.lstE;rw [XN hbs] at ry;have:=Zm ry;subst this;exact ⟨p,bs,rfl,.of hp,q _ (jgE _)⟩
   · cases e
 · cases e
end
end M
namespace M
open PySem PySem.Spec L2
open PyProof.Rows hiding St
open PySem.SeqAt (EqAt RcAt RcNeAt)
mutual
theorem D.ind {P:D->Prop} (h0:P .non) (h1: ∀b,P (.bl b)) (h2: ∀i,P (.int i)) (h3: ∀x,P (.str x)) (h4: ∀ds,(∀d∈ds,P d)->P (.tup ds)) (h5: ∀ds,(∀d∈ds,P d)->P (.lst ds))
  (h6: ∀ds,(∀d∈ds,P d)->P (.scr ds)) (h7:(∀ks ds,(∀d∈ds,P d)->P (.dic ks ds))/\(∀ks ds,(∀d∈ds,P d)->P (.dit ks ds))/\(∀c,P (.exn c))/\(∀ks ds,(∀d∈ds,P d)->P (.fdc ks ds))/\(∀ks ds,(∀d∈ds,P d)->P (.hdc ks ds))/\(∀c ns ds,(∀d∈ds,P d)->P (.obj c ns ds))/\ ∀B Φ,P (.mem B Φ)): ∀d,P d
 | .non=>h0
 | .bl b=>h1 b
 | .int i=>h2 i
 | .str x=>h3 x
 | .tup ds=>h4 ds (D.inds h0 h1 h2 h3 h4 h5 h6 h7 ds)
 | .lst ds=>h5 ds (D.inds h0 h1 h2 h3 h4 h5 h6 h7 ds)
 | .scr ds=>h6 ds (D.inds h0 h1 h2 h3 h4 h5 h6 h7 ds)
 | .dic ks ds=>h7.1 ks ds (D.inds h0 h1 h2 h3 h4 h5 h6 h7 ds)
 | .dit ks ds=>h7.2.1 ks ds (D.inds h0 h1 h2 h3 h4 h5 h6 h7 ds)
 | .exn c=>h7.2.2.1 c
 | .fdc ks ds=>h7.2.2.2.1 ks ds (D.inds h0 h1 h2 h3 h4 h5 h6 h7 ds)
 | .hdc ks ds=>h7.2.2.2.2.1 ks ds (D.inds h0 h1 h2 h3 h4 h5 h6 h7 ds)
 | .obj c ns ds=>h7.2.2.2.2.2.1 c ns ds (D.inds h0 h1 h2 h3 h4 h5 h6 h7 ds)
 | .mem B Φ=>h7.2.2.2.2.2.2 B Φ
theorem D.inds {P:D->Prop} (h0:P .non) (h1: ∀b,P (.bl b)) (h2: ∀i,P (.int i)) (h3: ∀x,P (.str x)) (h4: ∀ds,(∀d∈ds,P d)->P (.tup ds)) (h5: ∀ds,(∀d∈ds,P d)->P (.lst ds))
  (h6: ∀ds,(∀d∈ds,P d)->P (.scr ds)) (h7:(∀ks ds,(∀d∈ds,P d)->P (.dic ks ds))/\(∀ks ds,(∀d∈ds,P d)->P (.dit ks ds))/\(∀c,P (.exn c))/\(∀ks ds,(∀d∈ds,P d)->P (.fdc ks ds))/\(∀ks ds,(∀d∈ds,P d)->P (.hdc ks ds))/\(∀c ns ds,(∀d∈ds,P d)->P (.obj c ns ds))/\ ∀B Φ,P (.mem B Φ)): ∀ds:List D,∀d∈ds,P d
 | [],_,h=>by cases h
 |x::r,d,h=>by
  have p:=D.ind h0 h1 h2 h3 h4 h5 h6 h7 x;have q:=D.inds h0 h1 h2 h3 h4 h5 h6 h7 r;rcases aam.mp h with z|z
  · rw [z];exact p
  · exact q d z
end
mutual
def D.dep:D->Nat
 | .tup ds=>D.deps ds+1
 | .lst ds=>D.deps ds+1
 |_=>0
def D.deps:List D->Nat
 | []=>0
 |d::ds=>max (D.dep d) (D.deps ds)
end
mutual
def D.eqb:D->Bool
 | .scr _=>false
 | .dic _ _=>false
 | .dit _ _=>false
 | .exn _=>false
 | .fdc _ _=>false
 | .hdc _ _=>false
 | .obj _ _ _=>false
 | .mem _ _=>false
 | .tup ds=>D.eqbs ds
 | .lst ds=>D.eqbs ds
 |_=>true
def D.eqbs:List D->Bool
 | []=>true
 |d::ds=>D.eqb d&&D.eqbs ds
end
mutual
def eqD:D->D->Bool
 | .non,.non=>true
 | .bl a,.bl b=>a==b
 | .bl a,.int j=>(if a then 1 else 0)==j
 | .int i,.bl b=>i==(if b then 1 else 0)
 | .int i,.int j=>i==j
 | .str x,.str y=>x==y
 | .tup a,.tup b=>eqDs a b
 | .lst a,.lst b=>eqDs a b
 |_,_=>false
def eqDs:List D->List D->Bool
 | [],[]=>true
 |a::as,b::bs=>eqD a b&&eqDs as bs
 |_,_=>false
end
theorem yg: ∀ {ds:List D} {d:D},d∈ds->D.dep d<=D.deps ds
 |x::r,d,h=>by
  simp only [D.deps];rcases aam.mp h with rfl|h
  · omega
  · have:=yg h;omega
theorem Qi: ∀ {ds:List D} {d:D},D.eqbs ds=true->d∈ds->D.eqb d=true
 |x::r,d,hb,h=>by
  simp only [D.eqbs,aat] at hb;rcases aam.mp h with rfl|h
  · exact hb.1
  · exact Qi hb.2 h
theorem xS: ∀ {ds:List D},(∀d∈ds,D.eqb d=true->eqD d d=true)->D.eqbs ds=true->eqDs ds ds=true
 | [],_,_=>by simp [eqDs]
 |d::ds,h,hb=>by
  simp only [D.eqbs,aat] at hb;simp only [eqDs,aat];exact ⟨h d aax hb.1,xS (fun x hx=>h x (aao _ hx)) hb.2⟩
def KW (d:D):D.eqb d=true->eqD d d=true:=by
 refine D.ind (P:=fun d=>D.eqb d=true->eqD d d=true) ?_ ?_ ?_ ?_ ?_ ?_ ?_ ?_ d
 · intro _;simp [eqD]
 · intro b _;simp [eqD]
 · intro i _;simp [eqD]
 · intro x _;simp [eqD]
 · intro ds ih hb;simp only [eqD];exact xS ih (by simpa only [D.eqb] using hb)
 · intro ds ih hb;simp only [eqD];exact xS ih (by simpa only [D.eqb] using hb)
 · intro ds ih hb;simp [D.eqb] at hb
 · exact ⟨by intro ks ds ih hb;simp [D.eqb] at hb,by intro ks ds ih hb;simp [D.eqb] at hb,by intro c hb;simp [D.eqb] at hb,by intro ks ds ih hb;simp [D.eqb] at hb,by intro ks ds ih hb;simp [D.eqb] at hb,by intro c ns ds ih hb;simp [D.eqb] at hb,by intro B Φ hb;simp [D.eqb] at hb⟩
section
variable {K:aab} {H:Hp}
def Reps.inj_of {A A':X7} {vs:List V} {ds ds':List D} (h: ∀d∈ds,∀(A A':X7) v d',D.eqb d=true->D.eqb d'=true->Rep K A H v d->Rep K A' H v d'->d=d') (hb:D.eqbs ds=true) (hb':D.eqbs ds'=true) (r:Reps K A H vs ds) (r':Reps K A' H vs ds'):ds=ds':=by
 induction vs generalizing ds ds' with
 |nil=>cases r;cases r';rfl
 |cons v vs ih=>
  cases r with
  |cons r t=>
   cases r' with
   |cons r' t'=>
    simp only [D.eqbs,aat] at hb hb';rw [h _ aax _ _ _ _ hb.1 hb'.1 r r',ih (fun d hd=>h d (aao _ hd)) hb.2 hb'.2 t t']
def Rep.inj (d:D): ∀(A A':X7) v d',D.eqb d=true->D.eqb d'=true->Rep K A H v d->Rep K A' H v d'->d=d':=by
 refine D.ind (P:=fun d=> ∀(A A':X7) v d',D.eqb d=true->D.eqb d'=true->Rep K A H v d->Rep K A' H v d'->d=d') ?_ ?_ ?_ ?_ ?_ ?_ ?_ ?_ d
 · intro A A' v d' _ _ r r';cases r.nonE;cases r';rfl
 · intro b A A' v d' _ _ r r';cases r.blE;cases r';rfl
 · intro b A A' v d' _ _ r r';cases r.intE;cases r';rfl
 · intro b A A' v d' _ _ r r';cases r.strE.1;cases r';rfl
 · intro ds ih A A' v d' hb hd' r r';obtain ⟨a,xs,rfl,ha,rs⟩:=r.tupE;have hb':D.eqbs ds=true:=by simpa only [D.eqb] using hb
   cases r' with
   |tup e rs'=>
    rw [ha] at e;cases e;rw [Reps.inj_of ih hb' (by simpa only [D.eqb] using hd') rs rs']
   |lst e _ _=>rw [ha] at e;cases e
   |lsk e _=>simp [D.eqb] at hd'
   |dic e _ _ _ _=>rw [ha] at e;cases e
   |dit e _ _ _ _=>rw [ha] at e;cases e
   |exn e _ _=>rw [ha] at e;cases e
   |fdc e _ _ _=>rcases e with ⟨e,_⟩| ⟨o,e⟩<;>(rw [ha] at e;cases e)
   |hdc e _ _ _=>obtain ⟨o,e⟩:=e;rw [ha] at e;cases e
   |obj e _ _ _ _=>rw [ha] at e;cases e
   |mem e _=>rw [ha] at e;cases e
 · intro ds ih A A' v d' hb hd' r r';obtain ⟨a,xs,rfl,ha,_,rs⟩:=r.lstE;have hb':D.eqbs ds=true:=by simpa only [D.eqb] using hb
   cases r' with
   |tup e rs'=>rw [ha] at e;cases e
   |lst e _ rs'=>
    rw [ha] at e;cases e;rw [Reps.inj_of ih hb' (by simpa only [D.eqb] using hd') rs rs']
   |lsk e _=>simp [D.eqb] at hd'
   |dic e _ _ _ _=>rw [ha] at e;cases e
   |dit e _ _ _ _=>rw [ha] at e;cases e
   |exn e _ _=>rw [ha] at e;cases e
   |fdc e _ _ _=>rcases e with ⟨e,_⟩| ⟨o,e⟩<;>(rw [ha] at e;cases e)
   |hdc e _ _ _=>obtain ⟨o,e⟩:=e;rw [ha] at e;cases e
   |obj e _ _ _ _=>rw [ha] at e;cases e
   |mem e _=>rw [ha] at e;cases e
 · intro ds ih A A' v d' hb;simp [D.eqb] at hb
 · exact ⟨by intro ks ds ih A A' v d' hb;simp [D.eqb] at hb,by intro ks ds ih A A' v d' hb;simp [D.eqb] at hb,by intro c A A' v d' hb;simp [D.eqb] at hb,by intro ks ds ih A A' v d' hb;simp [D.eqb] at hb,by intro ks ds ih A A' v d' hb;simp [D.eqb] at hb,by intro c ns ds ih A A' v d' hb;simp [D.eqb] at hb,by intro B Φ A A' v d' hb;simp [D.eqb] at hb⟩
end
def vW (a b:List D) (j:Nat):Bool:=match a[j]?,b[j]? with
 |some x,some y=>eqD x y
 |_,_=>true
theorem ye: ∀(a b:List D),a.length=b.length->eqDs a b=(aa8 a.length).all (vW a b)
 | [],[],_=>by simp [eqDs]
 |x::a,y::b,h=>by
  have hl:a.length=b.length:=by simpa using h
  rw [aal,List.range_succ_eq_map,adA,List.all_map];simp only [eqDs];rw [ye a b hl];congr 1
theorem Jq: ∀(a b:List D),a.length≠b.length->eqDs a b=false
 | [],[],h=>absurd rfl h
 | [],y::b,_=>by simp [eqDs]
 |x::a,[],_=>by simp [eqDs]
 |x::a,y::b,h=>by
  simp only [eqDs];rw [Jq a b (by simpa using h),adb]
def KU (a b:List D):eqDs a b=((aa8 (min a.length b.length)).all (vW a b)&&a.length==b.length):=by
 by_cases h:a.length=b.length
 · rw [ye a b h,h];simp
 · rw [Jq a b h];simp [h]
section
variable {X:Cx} {pins:List (Addr×Obj)} {σ:L2.St} {H:Hp} {s:aaf}
inductive Cm (X:Cx) (H:Hp) (s:aaf):Value->D->Prop where
 |non:Cm X H s .none .non
 |bl (b:Bool):Cm X H s (.bool b) (.bl b)
 |int (i:Int) (t:Tok):Cm X H s (.int i t) (.int i)
 |str (x:Str) (t:Tok):Cm X H s (.str x t) (.str x)
 |tup {a:Addr} {xs:List V} {its:List Value} {ds:List D}:H a=some (.tup xs)->s.heap.IsTuple a its.toArray->Vals xs its->Reps X.K Any H xs ds->Cm X H s (.ref a) (.tup ds)
 |lst {a:Addr} {xs:List V} {its:List Value} {ds:List D}:H a=some (.lst xs)->s.heap.IsList a its.toArray->Vals xs its->Reps X.K Any H xs ds->Cm X H s (.ref a) (.lst ds)
def Jt (I:Inv X pins σ H s) {v:V} {u:Value} {d:D} (r:Rep X.K Any H v d) (ru:RelV v u) (hb:D.eqb d=true):Cm X H s u d:=by
 cases r with
 |non=>cases ru;exact .non
 |bl b=>cases ru;exact .bl b
 |int i=>obtain ⟨t,rfl⟩:=ru;exact .int i t
 |str x _=>obtain ⟨t,rfl⟩:=ru;exact .str x t
 |tup e rs=>
  cases ru;obtain ⟨its,rv,p,hz⟩:=I.tuple (.of e);exact .tup e p rv rs
 |lst e _ rs=>
  cases ru;obtain ⟨its,rv,p,hz⟩:=I.list (.of e);exact .lst e p.isList rv rs.low
 |lsk _ _=>simp [D.eqb] at hb
 |dic _ _ _ _ _=>simp [D.eqb] at hb
 |dit _ _ _ _ _=>simp [D.eqb] at hb
 |exn _ _ _=>simp [D.eqb] at hb
 |fdc _ _ _ _=>simp [D.eqb] at hb
 |hdc _ _ _ _=>simp [D.eqb] at hb
 |obj _ _ _ _ _=>simp [D.eqb] at hb
 |mem _ _=>simp [D.eqb] at hb
def jba {A:aa3} {xs ys:List V} {its its2:List Value} {a b:List D} (ra:Reps X.K Any H xs a) (rb:Reps X.K Any H ys b) (va:Vals xs its) (vb:Vals ys its2)
  (ih: ∀d∈a,∀(v v':V) (u u':Value) (d':D),Rep X.K Any H v d->RelV v u->Rep X.K Any H v' d'->RelV v' u'->D.eqb d=true->D.eqb d'=true->EqAt A.in1 s u u' (eqD d d')) (ha:D.eqbs a=true) (hb:D.eqbs b=true):
  ∀j (h1:j<its.toArray.size) (h2:j<its2.toArray.size),EqAt A.in1 s its.toArray[j] its2.toArray[j] (vW a b j):=by
 intro j h1 h2;have l1:=va.length;have l2:=vb.length;have l3:=ra.length;have l4:=rb.length;have j1:j<a.length:=by simp at h1;omega
 have j2:j<b.length:=by simp at h2;omega
 obtain ⟨v,e1,r1⟩:=ra.get (aae j1);obtain ⟨v',e2,r2⟩:=rb.get (aae j2);obtain ⟨u,e3,r3⟩:=va.get e1;obtain ⟨u',e4,r4⟩:=vb.get e2
 have g1:its.toArray[j]=u:=by
  have:=aap.mp e3;obtain ⟨_,q⟩:=this;simpa using q
 have g2:its2.toArray[j]=u':=by
  have:=aap.mp e4;obtain ⟨_,q⟩:=this;simpa using q
 rw [g1,g2];have e:vW a b j=eqD a[j] b[j]:=by unfold vW;rw [aae j1,aae j2]
 rw [e];exact ih _ (abk j1) v v' u u' _ r1 r3 r2 r4 (Qi ha (abk j1)) (Qi hb (abk j2))
def Wq (I:Inv X pins σ H s) (d:D): ∀(A:aa3) (v v':V) (u u':Value) (d':D),A.units+d.dep<cLine->Rep X.K Any H v d->RelV v u->Rep X.K Any H v' d'->RelV v' u'->D.eqb d=true->D.eqb d'=true->EqAt A s u u' (eqD d d'):=by
 refine D.ind (P:=fun d=> ∀(A:aa3) (v v':V) (u u':Value) (d':D),A.units+d.dep<cLine->Rep X.K Any H v d->RelV v u->Rep X.K Any H v' d'->RelV v' u'->D.eqb d=true->D.eqb d'=true->EqAt A s u u' (eqD d d')) ?_ ?_ ?_ ?_ ?_ ?_ ?_ ?_ d
 · intro A v v' u u' d' hu r ru r' ru' hb hb';cases Jt I r ru hb;have hu':A.units<cLine:=by simp only [D.dep] at hu;omega
   cases Jt I r' ru' hb'<;>simp only [eqD]
   · exact EqAt.same _
   · exact EqAt.none_bool _
   · exact EqAt.none_int _ _
   · exact EqAt.none_str _ _
   · exact EqAt.none_tuple (by assumption) hu'
   · exact EqAt.none_list (by assumption) hu'
 · intro b A v v' u u' d' hu r ru r' ru' hb hb';cases Jt I r ru hb;have hu':A.units<cLine:=by simp only [D.dep] at hu;omega
   cases Jt I r' ru' hb'<;>simp only [eqD]
   · exact EqAt.bool_none _
   · exact EqAt.bool_bool _ _
   · exact EqAt.bool_int _ _ _
   · exact EqAt.bool_str _ _ _
   · exact EqAt.bool_tuple _ (by assumption) hu'
   · exact EqAt.bool_list _ (by assumption) hu'
 · intro i A v v' u u' d' hu r ru r' ru' hb hb';cases Jt I r ru hb;have hu':A.units<cLine:=by simp only [D.dep] at hu;omega
   cases Jt I r' ru' hb'<;>simp only [eqD]
   · exact EqAt.int_none _ _
   · exact EqAt.int_bool _ _ _
   · exact EqAt.int_int _ _ _ _
   · exact EqAt.int_str _ _ _ _
   · exact EqAt.int_tuple _ _ (by assumption) hu'
   · exact EqAt.int_list _ _ (by assumption) hu'
 · intro x A v v' u u' d' hu r ru r' ru' hb hb';cases Jt I r ru hb;have hu':A.units<cLine:=by simp only [D.dep] at hu;omega
   cases Jt I r' ru' hb'<;>simp only [eqD]
   · exact EqAt.str_none _ _
   · exact EqAt.str_bool _ _ _
   · exact EqAt.str_int _ _ _ _
   · exact EqAt.str_str _ _ _ _
   · exact EqAt.str_tuple _ _ (by assumption) hu'
   · exact EqAt.str_list _ _ (by assumption) hu'
 · intro ds ih A v v' u u' d' hu r ru r' ru' hb hb';have hu':A.units<cLine:=by simp only [D.dep] at hu;omega
   have c1:=Jt I r ru hb;have c2:=Jt I r' ru' hb'
   cases c1 with
   |tup e p rv rs=>
     cases c2 with
     |non=>simp only [eqD];exact EqAt.tuple_none p hu'
     |bl b=>simp only [eqD];exact EqAt.tuple_bool _ p hu'
     |int i t=>simp only [eqD];exact EqAt.tuple_int _ _ p hu'
     |str x t=>simp only [eqD];exact EqAt.tuple_str _ _ p hu'
     |lst e2 p2 rv2 rs2=>simp only [eqD];exact EqAt.tuple_list p p2 hu'
     | @tup a2 xs2 its2 ds2 e2 p2 rv2 rs2=>
      rename_i a1 xs1 its1
      by_cases z:a1=a2
      · subst z;have ed:=Rep.inj _ Any Any _ _ hb hb' (Rep.tup e rs) (Rep.tup e2 rs2);rw [←ed,KW _ hb];exact EqAt.same _
      · have q:=RcAt.tuples p p2 hu' (jba rs rs2 rv rv2 (fun d hd v v' u u' d' g1 g2 g3 g4 g5 g6=>ih d hd A.in1 v v' u u' d' (by
          have:=yg hd;simp only [D.dep] at hu;show A.units+1+d.dep<cLine
          omega) g1 g2 g3 g4 g5 g6) (by simpa only [D.eqb] using hb) (by simpa only [D.eqb] using hb'))
        have n1:its1.toArray.size=ds.length:=by rw [aag,←rv.length,rs.length]
        have n2:its2.toArray.size=ds2.length:=by rw [aag,←rv2.length,rs2.length]
        rw [n1,n2,←KU] at q;simp only [eqD];exact ae3 z q
 · intro ds ih A v v' u u' d' hu r ru r' ru' hb hb';have hu':A.units<cLine:=by simp only [D.dep] at hu;omega
   have c1:=Jt I r ru hb;have c2:=Jt I r' ru' hb'
   cases c1 with
   |lst e p rv rs=>
     cases c2 with
     |non=>simp only [eqD];exact EqAt.list_none p hu'
     |bl b=>simp only [eqD];exact EqAt.list_bool _ p hu'
     |int i t=>simp only [eqD];exact EqAt.list_int _ _ p hu'
     |str x t=>simp only [eqD];exact EqAt.list_str _ _ p hu'
     |tup e2 p2 rv2 rs2=>simp only [eqD];exact EqAt.list_tuple p p2 hu'
     | @lst a2 xs2 its2 ds2 e2 p2 rv2 rs2=>
      rename_i a1 xs1 its1;have n1:its1.toArray.size=ds.length:=by rw [aag,←rv.length,rs.length]
      have n2:its2.toArray.size=ds2.length:=by rw [aag,←rv2.length,rs2.length]
      by_cases z:a1=a2
      · subst z
        have ed:D.lst ds=D.lst ds2:=by
          rw [e] at e2;cases e2;rw [Reps.inj_of (fun d _ A A' v d'=>Rep.inj d A A' v d') (by simpa only [D.eqb] using hb) (by simpa only [D.eqb] using hb') rs rs2]
        rw [←ed,KW _ hb];exact EqAt.same _
      · simp only [eqD]
        by_cases hl:ds.length=ds2.length
        · have q:=RcAt.lists p p2 (by rw [n1,n2];exact hl) hu' (jba rs rs2 rv rv2 (fun d hd v v' u u' d' g1 g2 g3 g4 g5 g6=>ih d hd A.in1 v v' u u' d' (by
           have:=yg hd;simp only [D.dep] at hu;show A.units+1+d.dep<cLine
           omega) g1 g2 g3 g4 g5 g6) (by simpa only [D.eqb] using hb) (by simpa only [D.eqb] using hb'))
          rw [n1,←ye ds ds2 hl] at q;exact ae3 z q
        · rw [Jq ds ds2 hl];exact ae3 z (aez p p2 (by rw [n1,n2];simp [hl]) hu')
 · intro ds ih A v v' u u' d' hu r ru r' ru' hb;simp [D.eqb] at hb
 · exact ⟨by intro ks ds ih A v v' u u' d' hu r ru r' ru' hb;simp [D.eqb] at hb,by intro ks ds ih A v v' u u' d' hu r ru r' ru' hb;simp [D.eqb] at hb,by intro c A v v' u u' d' hu r ru r' ru' hb;simp [D.eqb] at hb,by intro ks ds ih A v v' u u' d' hu r ru r' ru' hb;simp [D.eqb] at hb,by intro ks ds ih A v v' u u' d' hu r ru r' ru' hb;simp [D.eqb] at hb,by intro c ns ds ih A v v' u u' d' hu r ru r' ru' hb;simp [D.eqb] at hb,by intro B Φ A v v' u u' d' hu r ru r' ru' hb;simp [D.eqb] at hb⟩
def Ke (I:Inv X pins σ H s) {A:aa3} {v v':V} {u u':Value} {d d':D} (hu:A.units+d.dep<cLine) (r:Rep X.K Any H v d) (ru:RelV v u) (r':Rep X.K Any H v' d') (ru':RelV v' u') (hb:D.eqb d=true) (hb':D.eqb d'=true):
  RcAt A s u u' (eqD d d')/\RcNeAt A s u u' (!eqD d d'):=by
 have hu':A.units<cLine:=by omega
 have c1:=Jt I r ru hb;have c2:=Jt I r' ru' hb'
 cases c1 with
 |non=>
  cases c2<;>simp only [eqD,abf,abn]
  · exact ⟨RcAt.none_none,RcNeAt.none_none⟩
  · exact ⟨RcAt.none_bool _,RcNeAt.none_bool _⟩
  · exact ⟨RcAt.none_int _ _,RcNeAt.none_int _ _⟩
  · exact ⟨RcAt.none_str _ _,RcNeAt.none_str _ _⟩
  · exact ⟨RcAt.none_tuple (by assumption) hu',RcNeAt.none_tuple (by assumption) hu'⟩
  · exact ⟨RcAt.none_list (by assumption) hu',RcNeAt.none_list (by assumption) hu'⟩
 |bl b=>
  cases c2<;>simp only [eqD,abf,abn]
  · exact ⟨RcAt.bool_none _,RcNeAt.bool_none _⟩
  · exact ⟨RcAt.bool_bool _ _,RcNeAt.bool_bool _ _⟩
  · exact ⟨RcAt.bool_int _ _ _,RcNeAt.bool_int _ _ _⟩
  · exact ⟨RcAt.bool_str _ _ _,RcNeAt.bool_str _ _ _⟩
  · exact ⟨RcAt.bool_tuple _ (by assumption) hu',RcNeAt.bool_tuple _ (by assumption) hu'⟩
  · exact ⟨RcAt.bool_list _ (by assumption) hu',RcNeAt.bool_list _ (by assumption) hu'⟩
 |int i t=>
  cases c2<;>simp only [eqD,abf,abn]
  · exact ⟨RcAt.int_none _ _,RcNeAt.int_none _ _⟩
  · exact ⟨RcAt.int_bool _ _ _,RcNeAt.int_bool _ _ _⟩
  · exact ⟨RcAt.int_int _ _ _ _,RcNeAt.int_int _ _ _ _⟩
  · exact ⟨RcAt.int_str _ _ _ _,RcNeAt.int_str _ _ _ _⟩
  · exact ⟨RcAt.int_tuple _ _ (by assumption) hu',RcNeAt.int_tuple _ _ (by assumption) hu'⟩
  · exact ⟨RcAt.int_list _ _ (by assumption) hu',RcNeAt.int_list _ _ (by assumption) hu'⟩
 |str x t=>
  cases c2<;>simp only [eqD,abf,abn]
  · exact ⟨RcAt.str_none _ _,RcNeAt.str_none _ _⟩
  · exact ⟨RcAt.str_bool _ _ _,RcNeAt.str_bool _ _ _⟩
  · exact ⟨RcAt.str_int _ _ _ _,RcNeAt.str_int _ _ _ _⟩
  · exact ⟨RcAt.str_str _ _ _ _,RcNeAt.str_str _ _ _ _⟩
  · exact ⟨RcAt.str_tuple _ _ (by assumption) hu',RcNeAt.str_tuple _ _ (by assumption) hu'⟩
  · exact ⟨RcAt.str_list _ _ (by assumption) hu',RcNeAt.str_list _ _ (by assumption) hu'⟩
 | @tup a1 xs1 its1 ds e p rv rs=>
  cases c2 with
  |non=>simp only [eqD,abn];exact ⟨RcAt.tuple_none p hu',RcNeAt.tuple_none p hu'⟩
  |bl b=>simp only [eqD,abn];exact ⟨RcAt.tuple_bool _ p hu',RcNeAt.tuple_bool _ p hu'⟩
  |int i t=>simp only [eqD,abn];exact ⟨RcAt.tuple_int _ _ p hu',RcNeAt.tuple_int _ _ p hu'⟩
  |str x t=>simp only [eqD,abn];exact ⟨RcAt.tuple_str _ _ p hu',RcNeAt.tuple_str _ _ p hu'⟩
  |lst e2 p2 rv2 rs2=>simp only [eqD,abn];exact ⟨RcAt.tuple_list p p2 hu',RcNeAt.tuple_list p p2 hu'⟩
  | @tup a2 xs2 its2 ds2 e2 p2 rv2 rs2=>
    have n1:its1.toArray.size=ds.length:=by rw [aag,←rv.length,rs.length]
    have n2:its2.toArray.size=ds2.length:=by rw [aag,←rv2.length,rs2.length]
    have el:=jba rs rs2 rv rv2 (fun d hd v v' u u' d' g1 g2 g3 g4 g5 g6=>Wq I d A.in1 v v' u u' d' (by
      have:=yg hd;simp only [D.dep] at hu;show A.units+1+d.dep<cLine
      omega) g1 g2 g3 g4 g5 g6) (by simpa only [D.eqb] using hb) (by simpa only [D.eqb] using hb')
    have q:=RcAt.tuples p p2 hu' el;have q2:=RcNeAt.tuples p p2 hu' el;rw [n1,n2,←KU] at q q2;simp only [eqD];exact ⟨q,q2⟩
 | @lst a1 xs1 its1 ds e p rv rs=>
  cases c2 with
  |non=>simp only [eqD,abn];exact ⟨RcAt.list_none p hu',RcNeAt.list_none p hu'⟩
  |bl b=>simp only [eqD,abn];exact ⟨RcAt.list_bool _ p hu',RcNeAt.list_bool _ p hu'⟩
  |int i t=>simp only [eqD,abn];exact ⟨RcAt.list_int _ _ p hu',RcNeAt.list_int _ _ p hu'⟩
  |str x t=>simp only [eqD,abn];exact ⟨RcAt.list_str _ _ p hu',RcNeAt.list_str _ _ p hu'⟩
  |tup e2 p2 rv2 rs2=>simp only [eqD,abn];exact ⟨RcAt.list_tuple p p2 hu',RcNeAt.list_tuple p p2 hu'⟩
  | @lst a2 xs2 its2 ds2 e2 p2 rv2 rs2=>
    have n1:its1.toArray.size=ds.length:=by rw [aag,←rv.length,rs.length]
    have n2:its2.toArray.size=ds2.length:=by rw [aag,←rv2.length,rs2.length]
    simp only [eqD]
    by_cases hl:ds.length=ds2.length
    · have el:=jba rs rs2 rv rv2 (fun d hd v v' u u' d' g1 g2 g3 g4 g5 g6=>Wq I d A.in1 v v' u u' d' (by
       have:=yg hd;simp only [D.dep] at hu;show A.units+1+d.dep<cLine
       omega) g1 g2 g3 g4 g5 g6) (by simpa only [D.eqb] using hb) (by simpa only [D.eqb] using hb')
      have q:=RcAt.lists p p2 (by rw [n1,n2];exact hl) hu' el;have q2:=RcNeAt.lists p p2 (by rw [n1,n2];exact hl) hu' el;rw [n1,←ye ds ds2 hl] at q q2;exact ⟨q,q2⟩
    · rw [Jq ds ds2 hl];exact ⟨aez p p2 (by rw [n1,n2];simp [hl]) hu',RcNeAt.lists_lengths p p2 (by rw [n1,n2];simp [hl]) hu'⟩
end
section
variable {X:Cx}
def Zj:D->D->Bool
 | .lst a,.lst b=>a.length !=b.length
 |_,_=>false
def WM {a b:D} (h:Zj a b=true):eqD a b=false:=by
 unfold Zj at h
 split at h
 · simp only [eqD];exact Jq _ _ (by simpa using h)
 · cases h
def EqC (a b:D):Prop:=(D.eqb a=true/\D.eqb b=true/\a.dep<=190)\/Zj a b=true
instance (a b:D):Decidable (EqC a b):=inferInstanceAs (Decidable (_\/_))
def rEqD (K:aab) (neg:Bool):R2:=fun x y H Q=> ∃a b,Rep K Any H x a/\Rep K Any H y b/\EqC a b/\Q (.bl (if neg then !eqD a b else eqD a b)) H
def WN {pins:List (Addr×Obj)} {σ:L2.St} {H:Hp} {s:aaf} (I:Inv X pins σ H s) {A:aa3} {v v':V} {u u':Value} {d d':D} (hu:A.units<cLine) (r:Rep X.K Any H v d) (ru:RelV v u) (r':Rep X.K Any H v' d') (ru':RelV v' u') (h:Zj d d'=true):
   RcAt A s u u' false/\RcNeAt A s u u' true:=by
 unfold Zj at h
 split at h
 · obtain ⟨a,xs,rfl,ha,_,rs⟩:=r.lstE;obtain ⟨a',xs',rfl,ha',_,rs'⟩:=r'.lstE;cases ru;cases ru';obtain ⟨its,rv,p,_⟩:=I.list (.of ha);obtain ⟨its',rv',p',_⟩:=I.list (.of ha')
   have e:(its.toArray.size !=its'.toArray.size)=true:=by
    rw [aag,aag,←rv.length,←rv'.length,rs.length,rs'.length];exact h
   exact ⟨aez p.isList p'.isList e hu,RcNeAt.lists_lengths p.isList p'.isList e hu⟩
 · cases h
def wy (hu:X.A.units+200<cLine):OpR X (abK .Eq) (rEqD X.K false):=by
 rintro pins s σ H x y v u Q I rx ry ⟨a,b,ra,rb,hc,q⟩;rcases hc with ⟨ha,hb,hd⟩|hc
 · exact (Ke I (by omega) ra rx rb ry ha hb).1 X.prog X.w X.xe _ ⟨.bl _,H,I,rfl,q⟩
 · have q':Q (.bl false) H:=by have:=WM hc;simpa [this] using q
   exact (WN I (by omega) ra rx rb ry hc).1 X.prog X.w X.xe _ ⟨.bl _,H,I,rfl,q'⟩
def Ko (hu:X.A.units+200<cLine):OpR X (abK .NotEq) (rEqD X.K true):=by
 rintro pins s σ H x y v u Q I rx ry ⟨a,b,ra,rb,hc,q⟩;rcases hc with ⟨ha,hb,hd⟩|hc
 · exact (Ke I (by omega) ra rx rb ry ha hb).2 X.prog X.w X.xe _ ⟨.bl _,H,I,rfl,q⟩
 · have q':Q (.bl true) H:=by have:=WM hc;simpa [this] using q
   exact (WN I (by omega) ra rx rb ry hc).2 X.prog X.w X.xe _ ⟨.bl _,H,I,rfl,q'⟩
def eqR (a b:D):Res D:=must (EqC a b) (.ok (.bl (eqD a b)))
def neR (a b:D):Res D:=must (EqC a b) (.ok (.bl (!eqD a b)))
def Jb {K:aab}:OpS K (rEqD K false) eqR:=fun x y H a b d Q ra rb e q=>by
 obtain ⟨h1,e2⟩:=jr e;cases e2;exact ⟨a,b,ra,rb,h1,q _ (jgE _)⟩
def jaB {K:aab}:OpS K (rEqD K true) neR:=fun x y H a b d Q ra rb e q=>by
 obtain ⟨h1,e2⟩:=jr e;cases e2;exact ⟨a,b,ra,rb,h1,q _ (jgE _)⟩
def Room.u200 {k:Nat} {A:aa3} (r:Room k A):A.units+200<cLine:=by have:=r.un;omega
end
end M
namespace M
open PySem PySem.Spec L2
open PyProof.Rows hiding St
section
variable {X:Cx} {K:aab}
def Wl {prog:aaH} {w:World} {A:aa3} {E:X6} {s:aaf} {t sl:Addr} {items:Array Value} {vl vu:Value} {lo hi:Option Int} {Q:X6} (ht:IsTup s.heap t items) (hs:s.heap.IsSliceOf sl vl vu .none) (pl:IsPart vl lo) (pu:IsPart vu hi)
  (hw:HT.sIx items.size 0 lo=0/\HT.sIx items.size items.size hi=items.size) (h:Q (.ref t) s):wpAny (model prog w) A (getItem (.ref t) (.ref sl)) Q E s:=by
 obtain ⟨os,hos,hcs,hds⟩:=id hs;have hTs:s.TypeIs (.ref sl) "slice" :=⟨os,hos,hcs⟩
 unfold getItem
 try with_reducible refine aa4 ?_
 first|refine aaa (aac ?_)|skip
 refine aaa (wpAny_sequenceKey ht.typeIs (by decide) ?_)
 refine aaa (abr ht.typeIs abd
  (abl abd ht.typeIs entry_tuple_getitem ?_ (args_tuple_getitem _ _)))
 show wpAny _ _ (aew (.ref t)>>=_) _ _ s;refine aaa (tupleItemsOf_ ht ?_);refine aaa (adY hTs ?_);rw [if_pos (by decide)];refine aaa (HT.sliceApplied_gen hs pl pu ?_)
 have hyes:(((HT.sIx items.size 0 lo:Nat):Int)==0&&(1:Int)==1&&(HT.sIx items.size items.size hi-HT.sIx items.size 0 lo)==items.size)=true:=by
  rw [hw.1,hw.2];simp
 show wpAny _ _ (if (((HT.sIx items.size 0 lo:Nat):Int)==0&&(1:Int)==1&&(HT.sIx items.size items.size hi-HT.sIx items.size 0 lo)==items.size)=true then _ else _) _ _ s;rw [if_pos hyes];unfold Builtin.Tuple.tupleIsExact;refine aaa (aaa (adY ht.typeIs (aac ?_)));rw [if_pos (by decide)]
 first
  |exact aaa (aeg (aaa (aac (aac ⟨_,rfl,aac h⟩))))
  |exact aaa (aeg (aac ⟨_,rfl,aac h⟩))
  |exact aaa (aeg (aaa (aac ⟨_,rfl,aac h⟩)))
def rSlW (K:aab):V->Option Int->Option Int->Hp->VK->Prop:=fun x lo hi H Q=> ∃a xs,x= .ref a/\SqT K H a xs/\(HT.sIx xs.length 0 lo=0/\HT.sIx xs.length xs.length hi=xs.length)/\Q (.ref a) H
def sl_whole:SlR X (rSlW X.K):=by
 rintro pins s σ H x v vl vu lo hi sl Q I rx hs pl pu ⟨a,xs,ex,hx,hw,q⟩;subst ex;cases rx;obtain ⟨its,r,ht,hz⟩:=I.tuple hx;have hlen:its.toArray.size=xs.length:=by rw [aag];exact r.length.symm
 exact ⟨"tuple",_,abd.lookup,ht.typeIs,Wl ht hs pl pu (by rw [hlen];exact hw) ⟨.ref a,H,I,rfl,q⟩⟩
def cutS (z:Str) (lo hi:Option Int):Str:=
 if ((aaL lo hi 1 z.length).length==z.length)=true then z else ⟨((aaL lo hi 1 z.length).filterMap (z.cps[·]?)).toArray⟩
def K5 (z:Str) (lo hi:Option Int):(cutS z lo hi).length<=z.length:=by
 unfold cutS
 split
 · exact aai _
 · show ((aaL lo hi 1 z.length).filterMap (z.cps[·]?)).toArray.size<=z.length;rw [aag];exact aaI (List.length_filterMap_le _ _) (PyProof.Rows.indices_len_le lo hi z.length)
def rSlS:V->Option Int->Option Int->Hp->VK->Prop:=fun x lo hi H Q=> ∃z,x= .str z/\z.length<=aah/\Q (.str (cutS z lo hi)) H
def kB {v:Value} {o:Option Int} (h:IsPart v o): ∃p:Option (Int×Tok),v=partValue p/\p.map (·.1)=o:=by
 cases h with
 |none=>exact ⟨none,rfl,rfl⟩
 |int i t=>exact ⟨some (i,t),rfl,rfl⟩
def jd6:SlR X rSlS:=by
 rintro pins s σ H x v vl vu lo hi sl Q I rx hs pl pu ⟨z,ex,hz,q⟩;subst ex;obtain ⟨t,rfl⟩:=rx;obtain ⟨l,rfl,el⟩:=kB pl;obtain ⟨u,rfl,eu⟩:=kB pu;refine ⟨"str",_,F.slot_str_getitem.lookup,typeIs_str s z t,wpAny_getItem_str_slice (st:=none) hs rfl ?_⟩;have hp:slicePicked z l u none=aaL lo hi 1 z.length:=by unfold slicePicked;rw [el,eu];rfl
 unfold sliceMade;rw [hp]
 by_cases hc:((aaL lo hi 1 z.length).length==z.length)=true
 · have e:cutS z lo hi=z:=by unfold cutS;rw [if_pos hc]
   rw [e] at q;rw [if_pos (by simpa using hc)];exact ⟨.str z,H,I,⟨t,rfl⟩,q⟩
 · have e:cutS z lo hi=⟨((aaL lo hi 1 z.length).filterMap (z.cps[·]?)).toArray⟩:=by unfold cutS;rw [if_neg hc]
   have hl:=K5 z lo hi;rw [e] at q hl;rw [if_neg (by simpa using hc)];exact ⟨aaI hl hz,.str _,H,I.tok _,⟨_,rfl⟩,q⟩
def slD:D->Option Int->Option Int->Res D
 | .tup ds,lo,hi=>(.ok (.tup (cutD ds lo hi)))
 | .lst ds,lo,hi=>(.ok (.lst (cutD ds lo hi)))
 | .str z,lo,hi=> .ok (.str (cutS z lo hi))
 |_,_,_=> .stuck
def uq {ds:List D} {lo hi:Option Int} (h1:HT.sIx ds.length 0 lo=0) (h2:HT.sIx ds.length ds.length hi=ds.length):cutD ds lo hi=ds:=by
 unfold cutD;rw [h1,h2];simp
def jcc {A:X7} {x:V} {H:Hp} {a d:D} {lo hi:Option Int} {Q:VK} (r3:Rep X.K A H x a) (e4:slD a lo hi= .ok d) (q: ∀v H',Same H H'->Rep X.K (fun c=>H c=none\/A c) H' v d->NewTop H v->Q v H'):
  rSlT X.K x lo hi H Q\/rSlW X.K x lo hi H Q\/rSlL X.K x lo hi H Q\/rSlS x lo hi H Q:=by
 cases a with
 |tup ds=>
  cases e4;obtain ⟨b,xs,rfl,hb,rs⟩:=r3.tupE;have hl:=rs.length
  by_cases hw:HT.sIx xs.length 0 lo=0/\HT.sIx xs.length xs.length hi=xs.length
  · refine .inr (.inl ⟨b,xs,rfl,.of hb,hw,?_⟩);rw [hl] at hw;rw [uq hw.1 hw.2] at q;exact q _ H (Same.refl H) (.tup hb (rs.weak orA)) (UG hb)
  · exact .inl ⟨b,xs,rfl,.of hb,hw,fun p hp=>q _ _ (Same.upd hp) (.tup jo (((YN rs).weak orA).grow (Same.upd hp))) (j9 (Same.refl H) hp)⟩
 |lst ds=>
  cases e4;obtain ⟨b,xs,rfl,hb,_,rs⟩:=r3.lstE;exact .inr (.inr (.inl ⟨b,xs,rfl,.of hb,fun p hp=>q _ _ (Same.upd hp) (.lst jo (.inl hp) (((YN rs.low).laid hp).weak fun c z=>⟨.inr z.1,z.2⟩)) (j9 (Same.refl H) hp)⟩))
 |str z=>
  cases e4;obtain ⟨rfl,hz⟩:=r3.strE;have hl:=aaI (K5 z lo hi) hz;exact .inr (.inr (.inr ⟨z,rfl,hz,q _ H (Same.refl H) (.str _ hl) (jgV (jgU (K:=X.K) _ hl))⟩))
 |_=>cases e4
def yh {e:Expr} {lo hi:Option Expr} {p2 pos:Pos} {f:T5} {fl fh:Sl->Res (Option Int)} (he:DE X .s e f) (hl:DO X lo fl) (hh:DO X hi fh):
   DE X .t (.Subscript e (.Slice lo hi none p2) pos) (zy f fl fh slD):=by
 with_unfolding_all exact (
  PE.imp (Kk (sl_tup.or (sl_whole.or (sl_list.or jd6))) he hl hh) fun σ H Q=>by
   rintro ⟨G,H0,env,d,k,ef,q⟩;obtain ⟨a,e1,ef⟩:=je ef;obtain ⟨lo',e2,ef⟩:=je ef;obtain ⟨hi',e3,e4⟩:=je ef;refine ⟨G,H0,env,a,k,e1,fun x H1 s1 r1 _=>⟨G,H0,env,lo',k.grow s1,e2,fun H2 s2=>⟨G,H0,env,hi',(k.grow s1).grow s2,e3,fun H3 s3=>?_⟩⟩⟩;have sm:=s1.trans (s2.trans s3)
   exact jcc ((r1.grow s2).grow s3) e4 fun v H4 s4 r4 nt=>q v H4 (sm.trans s4) (r4.weak fun c z=>z.elim (fun z=>k.new c (Same.free sm z)) fun z=>z) (nt.grow sm))
def cD:Sl->Res D:=fun _=> .ok (.dic [] [])
def Wv {pos:Pos}:DE X .t (.Dict [] [] pos) cD:=by
 with_unfolding_all exact (PE.imp jan fun σ H Q=>by
  rintro ⟨G,H0,env,d,k,ef,q⟩;cases ef
  exact fun p hp=>q _ _ (Same.upd hp) (.dic jo (k.new p hp) rfl rfl .nil) (j9 (Same.refl H) hp))
def negD:D->Res D
 | .int i=> .ok (.int (-i))
 |_=> .stuck
def negF (f:T5):Sl->Res D:=fun env=>f env>>=negD
def jfj {l l':Lv} {e:Expr} {pos:Pos} {f:T5} (h:DE X l e f):DE X l' (.UnaryOp .USub e pos) (negF f):=by
 with_unfolding_all exact (PE.imp (jfQ jdU h) fun σ H Q=>by
  rintro ⟨G,H0,env,d,k,ef,q⟩;obtain ⟨a,e1,e2⟩:=je ef;refine ⟨G,H0,env,a,k,e1,fun v H' s r _=>?_⟩
  cases a with
  |int i=>cases e2;exact ⟨i,r.intE,q _ H' s (.int _) (jgH (K:=X.K) _).T⟩
  |_=>cases e2)
end
abbrev subI:D->D->Res D:=iOp Zg fun i j=> .int (i-j)
abbrev mulI:D->D->Res D:=iOp MulC fun i j=> .int (i*j)
abbrev divI:D->D->Res D:=iOp DivC fun i j=> .int (i/j)
abbrev modI:D->D->Res D:=iOp PosC fun i j=> .int (i%j)
abbrev powI:D->D->Res D:=iOp PowC fun i j=> .int (i^j.toNat)
abbrev ltI:D->D->Res D:=iOp Zg fun i j=> .bl (decide (i<j))
abbrev leI:D->D->Res D:=iOp Zg fun i j=> .bl (decide (i<=j))
abbrev gtI:D->D->Res D:=iOp Zg fun i j=> .bl (decide (j<i))
structure Av (P:aaH) (w:World) (K:aab) (mg:X8) (base:Heap) (k:Nat) (x:Str) (ps:List Str) (fr:Bool) (F:TZ):Prop where
 ex: ∃f fd,FnOk P w K mg base CX0 k f fd ps (spF K fr ps.length F)/\mg x=some (.ref f)/\abg K (.ref f)=true/\Binds K fd ps []
def Av.mono {P:aaH} {w:World} {K:aab} {mg:X8} {base:Heap} {j k:Nat} {x:Str} {ps:List Str} {fr:Bool} {F:TZ} (h:Av P w K mg base j x ps fr F) (hj:j<=k):Av P w K mg base k x ps fr F:=
 let ⟨f,fd,a,b⟩:=h.ex
 ⟨f,fd,a.mono hj,b⟩
section
variable {X:Cx} {k:Nat} {x:Str} {ps:List Str} {fr:Bool} {F:TZ} {e:Expr} {es:List Expr} {p pos:Pos} {g:T0}
def Av.call {n:Nat} (A:Av X.prog X.w X.K X.mg X.base k x ps fr F) (hr:Room k X.A) (ha:DA X .s (e::es) g) (hn:ps.length=n:=by rfl) (hg:Gl X x:=by rfl) (hdb:ZI x:=by decide)
  (he:WS X e es:=by exact jk rfl) (hpl:Vv X pos es:=by exact jS rfl):DE X .s (.Call (.Name x p) (e::es) [] pos) (ji n F g):=by
 subst hn;obtain ⟨f,fd,h1,h2,h3,h4⟩:=A.ex;exact jdu h1 hr hg h2 h3 h4 jap ha hdb he hpl
def Av.callT {n:Nat} (A:Av X.prog X.w X.K X.mg X.base k x ps true F) (hr:Room k X.A) (ha:DA X .s (e::es) g) (hn:ps.length=n:=by rfl) (hg:Gl X x:=by rfl) (hdb:ZI x:=by decide)
  (he:WS X e es:=by exact jk rfl) (hpl:Vv X pos es:=by exact jS rfl):DE X .t (.Call (.Name x p) (e::es) [] pos) (ji n F g):=by
 subst hn;obtain ⟨f,fd,h1,h2,h3,h4⟩:=A.ex;exact jbk h1 hr hg h2 h3 h4 jap ha hdb he hpl
def Av.callA {n:Nat} (A:Av X.prog X.w X.K X.mg X.base k x ps fr F) (hr:Room k X.A) (ha:DA X .b (e::es) g) (hn:ps.length=n:=by rfl) (hg:Gl X x:=by rfl) (hdb:ZI x:=by decide)
  (he:WS X e es:=by exact jk rfl) (hpl:Vv X pos es:=by exact jS rfl):DE X .b (.Call (.Name x p) (e::es) [] pos) (ji n F g):=by
 subst hn;obtain ⟨f,fd,h1,h2,h3,h4⟩:=A.ex;exact jbl h1 hr hg h2 h3 h4 jap ha hdb he hpl
end
def runF (fr:Bool) (n:Nat) (g:T3) (ds:List D):Res D:=match g (ql n ds) with
 | .ok (.rt fr' d)=>if fr=true/\fr'=false then .stuck else .ok d
 | .ok (.nx _)=> .ok .non
 |_=> .stuck
def JE {fr:Bool} {n:Nat} {g:T3} {ds:List D} {d:D} (h:runF fr n g ds= .ok d):Meets fr n g ds d:=by
 unfold runF at h
 split at h
 · rename_i fr' d' e
   split at h
   · cases h
   · rename_i hn;cases h;refine .inl ⟨fr',e,fun hf=>?_⟩
     cases fr' with
     |true=>rfl
     |false=>exact absurd ⟨hf,rfl⟩ hn
 · rename_i env' e;cases h;exact .inr ⟨rfl,env',e⟩
 · cases h
section
variable {P:aaH} {w:World} {K:aab} {mg:X8} {base:Heap}
def jgj {x:Str} {st:Stmt} {f:Addr} {fd:ab4} {N ps:List Str} {k:Nat} (fr:Bool) {g:T3} (Fu:Fun K x x st f fd) (hmg:mg x=some (.ref f)) (S:FnScope N ps (jg st)) (hbi:Binds K fd ps [])
  (hb: ∀(cdv:Value) (A:aa3) (outer:List Env) (s:aaf) (H:Hp) (E:XK),Room k (A.deeper (adX x (jg st) s.heap.objs.size f cdv))->DSs (cxOf CX0 P w K mg base N x (jg st) f cdv A outer s H E).nox (qA st) g):
  Av P w K mg base (k+1) x ps fr (runF fr N.length g):=
 ⟨f,fd,jc8 Fu S hb fun ds d _ h=>JE h,hmg,Fu.kp,hbi⟩
def jdG {x:Str} {st:Stmt} {f:Addr} {fd:ab4} {ps:List Str} {k:Nat} (fr:Bool) (Fu:Fun K x x st f fd) (hmg:mg x=some (.ref f)) (hbi:Binds K fd ps []):Av P w K mg base k x ps fr (fun _=> .stuck):=
 ⟨f,fd,⟨fun vs H Q E ⟨B,ds,d,hl,_⟩=>hl,fun A outer s H args us vs Q E _ _ _ _ ⟨B,ds,d,_,_,e,_⟩=>by cases e⟩,hmg,Fu.kp,hbi⟩
end
def VZ {P:aaH} {w:World} {K:aab} {mg:X8} {base:Heap} {x:Str} {st:Stmt} {f:Addr} {fd:ab4} {N ps:List Str} {k:Nat} (fr:Bool) {g:T3} (Fu:Fun K x x st f fd) (S:FnScope N ps (jg st))
 (hb: ∀(cdv:Value) (A:aa3) (outer:List Env) (s:aaf) (H:Hp) (E:XK),Room k (A.deeper (adX x (jg st) s.heap.objs.size f cdv))->DSs (cxOf CX0 P w K mg base N x (jg st) f cdv A outer s H E).nox (qA st) g):
 FnOk P w K mg base CX0 (k+1) f fd ps (spF K fr ps.length (runF fr N.length g)):=jc8 Fu S hb fun ds d _ h=>JE h
def qH:abz "list" =some (.type "list"):=by decide+kernel
def jgg (N0:List Str) (sc0 scope:Scope) (N:List Str) (m:Nat) (js:List Nat):Bool:=(aa8 js.length).all fun k=>match N[m+k]?,(js[k]?).bind (N0[·]?) with
 |some y,some y'=>y==y'&&(sc0.names.lookup y==some .cell||sc0.names.lookup y==some .free)&&scope.names.lookup y==some .free
 |_,_=>false
def scOk (z:Option Str) (N0:List Str) (sc0 scope:Scope) (cl:List (Str×Addr)) (N:List Str) (m:Nat) (js:List Nat):Bool:=
 (scope.names.all fun x=>x.2 != .local||scope.names.lookup x.1==some .local)&&(scope.names.all fun x=>x.2 != .cell||z==some x.1)&&(match z with
   |some y=>scope.names.lookup y==some .cell
   |none=>true)&&(scope.names.all fun y=>y.2 != .free||cl.any fun p=>p.1==y.1)&&
  jgg N0 sc0 scope N m js&&(match N[m+js.length]? with
   |some y=>scope.names.all fun p=>p.1 !=y
   |none=>true)&&N.length==m+js.length+1
def Um {cl:List (Str×Addr)} {y:Str} (h:(cl.any fun p=>p.1==y)=true): ∃c,cl.lookup y=some c:=by
 induction cl with
 |nil=>cases h
 |cons p r ih=>
  obtain ⟨n,c⟩:=p;rw [adz,aen] at h;simp only [abA]
  cases e:y==n with
  |true=>exact ⟨c,rfl⟩
  |false=>
   rcases h with h|h
   · have:n=y:=by simpa using h
     subst this;simp at e
   · exact ih h
def AllC (cells:List (Str×Addr)):List (Str×Addr)->Prop
 | []=>True
 |p::r=>cells.lookup p.1=some p.2/\AllC cells r
theorem AllC.mem {cells:List (Str×Addr)}: ∀ {cl:List (Str×Addr)},AllC cells cl-> ∀p∈cl,cells.lookup p.1=some p.2
 |_::_,h,p,hp=>(aam.mp hp).elim (fun e=>e▸h.1) (AllC.mem h.2 p)
def wQ (z:Option Str) {X:Cx} {scope:Scope} {cl:List (Str×Addr)} {N:List Str} {m:Nat} {js:List Nat} (clos:closureFor scope X.env=pure cl) (kind:scope.kind= .function) (nd:N.Nodup) (cl2:AllC X.env.cells cl)
   (h:scOk z X.N X.env.scope scope cl N m js=true) (made: ∀n,cellsFrom (n+1) scope.names cl=clZ z cl n:=by intro _;rfl) (pushed: ∀h,pushCells h scope.names=jcn z h:=by intro _;rfl):CompSc z X scope cl N m js:=by
 simp only [scOk,aat,aa5,beq_iff_eq] at h;obtain ⟨⟨⟨⟨⟨⟨h1,h2⟩,h7⟩,h3⟩,h4⟩,h5⟩,h6⟩:=h;refine ⟨clos,kind,fun x hx e=>?_,fun y hy e=>?_,made,pushed,fun y e=>by rw [e] at h7;exact beq_iff_eq.mp h7,fun x c e=>cl2.mem (x,c) (abS e),fun y hy e=>?_,nd,h6,fun k j e=>?_,fun y e p hp=>?_⟩
 · have:=h1 x hx;rw [e] at this;simpa using this
 · have:=h2 y hy;rw [e] at this;simpa using this
 · have:=h3 y hy;rw [e] at this;exact Um (by simpa using this)
 · have hk:=(aap.mp e).1;have:=aa5.mp h4 k (aaU.mpr hk);rw [e] at this;simp at this
   cases e1:N[m+k]? with
   |none=>rw [e1] at this;cases this
   |some y=>
    cases e2:X.N[j]? with
    |none=>rw [e1,e2] at this;cases this
    |some y'=>
     rw [e1,e2] at this;simp at this;obtain ⟨⟨g1,g2⟩,g3⟩:=this;subst g1;exact ⟨y,rfl,rfl,g2,g3⟩
 · rw [e] at h5;have:=aa5.mp h5 p hp;simpa using this
end M
namespace M
open PySem PySem.Spec L2
def zK {body:D->Sl->Res Out} {d:D} {ds:List D} {env env':Sl} (h:body d env= .ok (.nx env')):forD body (d::ds) env=forD body ds env':=by
 show (body d env>>=_)=_;rw [h];rfl
theorem QT {α:Type} {body:D->Sl->Res Out} (E:α->Sl) (step:α->D->α) (P:List D->α->Prop)
  (hb: ∀d ds a,P (d::ds) a->body d (E a)= .ok (.nx (E (step a d)))/\P ds (step a d)): ∀(ds:List D) (a:α),P ds a->forD body ds (E a)= .ok (.nx (E (ds.foldl step a)))
 | [],a,_=>rfl
 |d::ds,a,h=>by
  obtain ⟨h1,h2⟩:=hb d ds a h;rw [zK h1,QT E step P hb ds _ h2];rfl
theorem XF {n:Nat} {t:TY} {fe:T5} {E:D->List D->Sl} (h:D->D) (P:D->Prop)
  (hn: ∀x acc,ownL n (E x acc)= .ok acc) (hs: ∀x acc acc',(E x acc).set n (.own (.lst acc'))=E x acc')
  (ht: ∀x d acc,t d (E x acc)= .ok (E d acc)) (hf: ∀d acc,P d->fe (E d acc)= .ok (h d)):
  ∀(ds:List D) (x:D) (acc:List D),(∀d∈ds,P d)->acc.length+ds.length<=aah-> ∃y,wR n t qV fe ds (E x acc)= .ok (E y (acc++ds.map h))
 | [],x,acc,_,_=>⟨x,by simp [wR]⟩
 |d::ds,x,acc,hP,hl=>by
  simp at hl;obtain ⟨y,hy⟩:=XF h P hn hs ht hf ds d (acc++[h d]) (fun e he=>hP e (by simp [he])) (by simp;omega);refine ⟨y,?_⟩
  have h1:wR n t qV fe (d::ds) (E x acc)=wR n t qV fe ds (E d (acc++[h d])):=by
   show (t d (E x acc)>>=_)=_;rw [ht];show (fe (E d acc)>>=_)=_;rw [hf d acc (hP d (by simp))];rw [hn];show must _ _=_;rw [jl (by omega),hs]
  rw [h1,hy];simp
def jdz {fi:T0} {fe:T5} {env:Sl} {ds:List D} (h:D->D) (P:D->Prop) (hi:fi env= .ok ds) (hP: ∀d∈ds,P d) (hl:ds.length<=aah)
  (hf: ∀d acc,P d->fe [.shr d,.own (.lst acc)]= .ok (h d)):xt false 1 [] fi (gN 0) qV fe env= .ok (.lst (ds.map h)):=by
 show (fi env>>=_)=_;rw [hi];show (wR 1 (gN 0) qV fe ds [.un,.own (.lst [])]>>=_)=_
 cases ds with
 |nil=>rfl
 |cons d ds=>
  simp at hl;obtain ⟨y,hy⟩:=XF (n:=1) (t:=gN 0) h P (fun _ _=>rfl) (fun _ _ _=>rfl) (fun _ _ _=>rfl) hf ds d [h d] (fun e he=>hP e (by simp [he])) (by simp;omega)
  have h1:wR 1 (gN 0) qV fe (d::ds) [.un,.own (.lst [])]=wR 1 (gN 0) qV fe ds [.shr d,.own (.lst [h d])]:=by
   show (fe [.shr d,.own (.lst [])]>>=_)=_;rw [hf d [] (hP d (by simp))];exact jl (c:=([]:List D).length<aah) (by simp;omega)
  rw [h1,hy];rfl
variable {env env':Sl} {f f1 f2 f3:T5} {g g1 g2:T3} {t t1 t2:T4} {fa:T0} {i:Nat} {d:D} {b:Bool}
@[simp] theorem w9 {α β:Type} {a:α} {f:α->Res β}:(Res.ok a>>=f)=f a:=rfl
@[simp] theorem vR {α β:Type} {c:Prop} [Decidable c] {a b:Res α} {f:α->Res β}:((if c then a else b)>>=f)=if c then a>>=f else b>>=f:=by split<;>rfl
def outK (g:T3):Out->Res Out
 | .nx e=>g e
 |o=> .ok o
@[simp] theorem kG:outK g (.nx env)=g env:=rfl
@[simp] theorem Yk {fr:Bool}:outK g (.rt fr d)= .ok (.rt fr d):=rfl
@[simp] theorem xA:seqO g1 g2 env=(g1 env>>=outK g2):=by
 show (g1 env>>=_)=_;congr 1;funext o;cases o<;>rfl
@[simp] theorem jdc:setO i f env=(f env>>=fun d=> .ok (.nx (env.set i (yW d)))):=rfl
@[simp] theorem KO:jE i f env=(f env>>=fun d=> .ok (.nx (env.set i (.shr d)))):=rfl
@[simp] theorem JP:retO f env=(f env>>=fun d=> .ok (.rt true d)):=rfl
@[simp] theorem jdd:retS f env=(f env>>=fun d=> .ok (.rt false d)):=rfl
@[simp] theorem jbS:nxO env= .ok (.nx env):=rfl
@[simp] theorem Zy:ifO t g1 g2 env=(t env>>=fun b=>if b=true then g1 env else g2 env):=rfl
@[simp] theorem jdi:andB t1 t2 env=(t1 env>>=fun b=>if b=true then t2 env else .ok false):=rfl
@[simp] theorem vQ:orB t1 t2 env=(t1 env>>=fun b=>if b=true then .ok true else t2 env):=rfl
@[simp] theorem YH:notB t env=(t env>>=fun b=> .ok (!b)):=rfl
def asBD:D->Res Bool
 | .bl b=> .ok b
 |_=> .stuck
@[simp] theorem YV:asBD (.bl b)= .ok b:=rfl
@[simp] theorem KQ:asB f env=(f env>>=asBD):=rfl
@[simp] theorem KN {h:D->D->Res D}:two f1 f2 h env=(f1 env>>=fun x=>f2 env>>=fun y=>h x y):=rfl
@[simp] theorem jdh {j:Int}:cI j env= .ok (.int j):=rfl
@[simp] theorem jfb:cB b env= .ok (.bl b):=rfl
@[simp] theorem Jo:jb f fa env=(f env>>=fun d=>fa env>>=fun ds=> .ok (d::ds)):=rfl
@[simp] theorem YI:nil1 env= .ok []:=rfl
@[simp] theorem Xz {h:TZ}:app fa h env=(fa env>>=h):=rfl
@[simp] theorem KP {n:Nat} {F:TZ}:ji n F fa env=(fa env>>=fun ds=>must (ds.length=n) (F ds)):=rfl
@[simp] theorem jdb:tupF fa env=(fa env>>=fun ds=>must (ds.length<=aah) (.ok (.tup ds))):=rfl
@[simp] theorem jdg:lstF fa env=(fa env>>=fun ds=>must (ds.length<=aah) (.ok (.lst ds))):=rfl
@[simp] theorem yL {T:String}:isiF T f env=(f env>>=isiD T):=rfl
@[simp] theorem jde:notF f env=(f env>>=notD):=rfl
@[simp] theorem jfa:ifD t f1 f2 env=(t env>>=fun b=>if b=true then f1 env else f2 env):=rfl
@[simp] theorem vS:itF f env=(f env>>=vv):=rfl
@[simp] theorem YJ {tt:TY} {fi:T0}:forO fi tt g env=(fi env>>=fun ds=>forD (zl tt g) ds env):=rfl
@[simp] theorem ja8 {fl fh:Sl->Res (Option Int)} {h:D->Option Int->Option Int->Res D}:zy f fl fh h env=(f env>>=fun a=>fl env>>=fun lo=>fh env>>=fun hi=>h a lo hi):=rfl
@[simp] theorem ja7:yk f env=(f env>>=asI):=rfl
@[simp] theorem vP:rdS i env=match env[i]? with|some (.shr d)=> .ok d|_=> .stuck:=rfl
def toK (g:Res D) (w:Bool):D->Res D
 | .bl b=>if b=w then g else .ok (.bl b)
 |_=> .stuck
@[simp] theorem jbz {r:Res D} {w:Bool}:toK r w (.bl b)=if b=w then r else .ok (.bl b):=rfl
@[simp] theorem vO {w:Bool}:toB f1 f2 w env=(f1 env>>=toK (f2 env) w):=by
 show (f1 env>>=_)=_;congr 1
def chK (f:Res D) (g':D->D->Res D) (y:D):D->Res D
 | .bl true=>f>>=fun w=>g' y w
 | .bl false=> .ok (.bl false)
 |_=> .stuck
@[simp] theorem K8 {r:Res D} {h:D->D->Res D} {y:D}:chK r h y (.bl b)=if b=true then r>>=fun w=>h y w else .ok (.bl false):=by cases b<;>rfl
@[simp] theorem Qh {h h':D->D->Res D}:YO f1 f2 f3 h h' env=(f1 env>>=fun x=>f2 env>>=fun y=>h x y>>=chK (f3 env) h' y):=by
 show (f1 env>>=_)=_;congr 1
@[simp] theorem jdf {α:Type} {c:Prop} [Decidable c] {r:Res α}:must c r=if c then r else .stuck:=rfl
@[simp] theorem vT {C:Int->Int->Prop} [∀i j,Decidable (C i j)] {h:Int->Int->D} {m n:Int}:iOp C h (.int m) (.int n)=if C m n then .ok (h m n) else .stuck:=rfl
def runK (fr:Bool):Out->Res D
 | .rt fr' d=>if fr=true/\fr'=false then .stuck else .ok d
 | .nx _=> .ok .non
 |_=> .stuck
def xR {fr:Bool} {n:Nat} {ds:List D} {o:Out} (h:g (ql n ds)= .ok o):runF fr n g ds=runK fr o:=by
 unfold runF;rw [h];cases o<;>rfl
end M
namespace M
def WJ {n:Nat} {t:T4} {g:T3} {env env':Sl} (ht:t env= .ok true) (h:g env= .ok (.nx env')):qW (n+1) t g env=qW n t g env':=by
 rw [qW,ht,w9,if_pos rfl,h];rfl
def UB {n:Nat} {t:T4} {g:T3} {env:Sl} {fr:Bool} {d:D} (ht:t env= .ok true) (h:g env= .ok (.rt fr d)):qW (n+1) t g env= .ok (.rt fr d):=by
 rw [qW,ht,w9,if_pos rfl,h];rfl
def Zh {n:Nat} {t:T4} {g:T3} {env:Sl} (ht:t env= .ok false):qW (n+1) t g env= .ok (.nx env):=by
 rw [qW,ht,w9,if_neg (by simp)]
end M
namespace M
open PySem PySem.Spec L2
def kids:D->List D
 | .tup (_::r)=>r
 |_=>[]
mutual
def num:D->Nat
 | .tup (_::r)=>1+nums r
 |_=>1
def nums:List D->Nat
 | []=>0
 |d::r=>num d+nums r
end
mutual
def hgt:D->Nat
 | .tup (_::r)=>1+hgts r
 |_=>1
def hgts:List D->Nat
 | []=>0
 |d::r=>max (hgt d) (hgts r)
end
mutual
def pts:D->List D
 | .tup (x::r)=> .tup (x::r)::ptss r
 |d=>[d]
def ptss:List D->List D
 | []=>[]
 |d::r=>pts d++ptss r
end
def kU:D->Bool| .scr _=>false| .exn _=>false| .fdc _ _=>false| .hdc _ _=>false| .obj _ _ _=>false| .mem _ _=>false|_=>true
mutual
def fine:D->Bool
 | .scr _=>false
 | .exn _=>false
 | .fdc _ _=>false
 | .hdc _ _=>false
 | .obj _ _ _=>false
 | .mem _ _=>false
 | .tup ds=>decide (ds.length<=11)&&fines ds
 |_=>true
def fines:List D->Bool
 | []=>true
 |d::r=>fine d&&fines r
end
def kQ (d:D):num d=1+nums (kids d):=by
 cases d with
 |tup ds=>cases ds<;>simp [num,kids,nums]
 |_=>simp [num,kids,nums]
def KH (d:D):hgt d=1+hgts (kids d):=by
 cases d with
 |tup ds=>cases ds<;>simp [hgt,kids,hgts]
 |_=>simp [hgt,kids,hgts]
def kl (d:D):pts d=d::ptss (kids d):=by
 cases d with
 |tup ds=>cases ds<;>simp [pts,kids,ptss]
 |_=>simp [pts,kids,ptss]
def Qe (a b:List D):nums (a++b)=nums a+nums b:=by
 induction a with
 |nil=>simp [nums]
 |cons d r ih=>simp [nums,ih];omega
def jaZ (a b:List D):hgts (a++b)=max (hgts a) (hgts b):=by
 induction a with
 |nil=>simp [hgts]
 |cons d r ih=>simp [hgts,ih]
def Wn {d:D} (h:fine d=true):kU d=true:=by
 cases d<;>first|rfl| (simp [fine] at h)
theorem w8: ∀ {ds:List D} {d:D},fines ds=true->d∈ds->fine d=true
 |x::r,d,h,hm=>by
  simp only [fines,aat] at h;rcases aam.mp hm with rfl|hm
  · exact h.1
  · exact w8 h.2 hm
theorem Jk: ∀ {ds:List D},(∀d∈ds,fine d=true)->fines ds=true
 | [],_=>rfl
 |x::r,h=>by simp only [fines,aat];exact ⟨h x (by simp),Jk fun d hd=>h d (by simp [hd])⟩
def Jl {d:D} (h:fine d=true):fines (kids d)=true/\(kids d).length<=10:=by
 cases d with
 |tup ds=>
  cases ds with
  |nil=>exact ⟨rfl,by simp [kids]⟩
  |cons x r=>
   simp only [fine,fines,aat,decide_eq_true_eq,aal] at h;exact ⟨h.2.2,by simp only [kids];omega⟩
 |_=>exact ⟨rfl,by simp [kids]⟩
def below (row:List D):List D:=row.flatMap kids
def VJ (row:List D):nums row=row.length+nums (below row):=by
 induction row with
 |nil=>rfl
 |cons d r ih=>
  have:below (d::r)=kids d++below r:=rfl;rw [this,Qe];simp only [nums,aal,ih,kQ d];omega
def VV (row:List D) (h:row≠[]):hgts row=1+hgts (below row):=by
 induction row with
 |nil=>exact absurd rfl h
 |cons d r ih=>
  have e:below (d::r)=kids d++below r:=rfl;rw [e,jaZ];simp only [hgts,KH d]
  cases r with
  |nil=>simp [hgts,below]
  |cons x r=>rw [ih (by simp)];omega
def YG {row:List D} (h:fines row=true):fines (below row)=true:=
 Jk fun d hd=>by
  obtain ⟨x,hx,hk⟩:=adl.mp hd;exact w8 (Jl (w8 h hx)).1 hk
def uG {row:List D} (h:fines row=true):(below row).length<=10*row.length:=by
 induction row with
 |nil=>simp [below]
 |cons d r ih=>
  simp only [fines,aat] at h;have e:below (d::r)=kids d++below r:=rfl;have:=ih h.2;have:=(Jl h.1).2;rw [e,aau,aal];omega
def YC (d:D):1<=hgt d:=by rw [KH];omega
mutual
theorem yD: ∀d:D,(pts d).length=num d
 | .tup (x::r)=>by simp [pts,num,ptss_len r];omega
 | .tup []=>by simp [pts,num]
 | .non=>by simp [pts,num]
 | .bl _=>by simp [pts,num]
 | .int _=>by simp [pts,num]
 | .str _=>by simp [pts,num]
 | .lst _=>by simp [pts,num]
 | .scr _=>by simp [pts,num]
 | .dic _ _=>by simp [pts,num]
 | .dit _ _=>by simp [pts,num]
 | .exn _=>by simp [pts,num]
 | .fdc _ _=>by simp [pts,num]
 | .hdc _ _=>by simp [pts,num]
 | .obj _ _ _=>by simp [pts,num]
 | .mem _ _=>by simp [pts,num]
theorem ptss_len: ∀ds:List D,(ptss ds).length=nums ds
 | []=>rfl
 |d::r=>by simp [ptss,nums,yD d,ptss_len r]
end
mutual
theorem Kh: ∀d:D,fine d=true->fines (pts d)=true
 | .tup (x::r),h=>by
  have h2:=(Jl h).1;simp only [kids] at h2;simp only [pts,fines,aat];exact ⟨h,ptss_fine r h2⟩
 | .tup [],h=>rfl
 | .non,h=>rfl
 | .bl _,h=>rfl
 | .int _,h=>rfl
 | .str _,h=>rfl
 | .lst _,h=>rfl
 | .scr _,h=>by simp [fine] at h
 | .dic _ _,h=>rfl
 | .dit _ _,h=>rfl
 | .exn _,h=>by simp [fine] at h
 | .fdc _ _,h=>by simp [fine] at h
 | .hdc _ _,h=>by simp [fine] at h
 | .obj _ _ _,h=>by simp [fine] at h
 | .mem _ _,h=>by simp [fine] at h
theorem ptss_fine: ∀ds:List D,fines ds=true->fines (ptss ds)=true
 | [],_=>rfl
 |d::r,h=>by
  simp only [fines,aat] at h;refine Jk fun e he=>?_
  rcases aa6.mp (show e∈pts d++ptss r from he) with he|he
  · exact w8 (Kh d h.1) he
  · exact w8 (ptss_fine r h.2) he
end
def atI_nat {α:Type} {xs:List α} {k:Nat}:atI xs (k:Int)=xs[k]?:=by
 unfold atI ixN
 by_cases h:k<xs.length
 · rw [if_pos (by omega),if_pos (by omega)];simp
 · rw [if_pos (by omega),if_neg (by omega)];simp;omega
def ix0 {x:D} {r:List D}:ixD (.tup (x::r)) (.int 0)= .ok x:=by
 have:=atI_nat (xs:=x::r) (k:=0);simp only [ixD];rw [show ((0:Int))=((0:Nat):Int) from rfl,this];rfl
section
variable {env env':Sl} {f f1 f2 f3:T5} {g g1 g2:T3} {t t1 t2:T4} {fa:T0} {i:Nat} {d x y z:D} {b:Bool} {ds:List D}
def jj {h:D->D->Res D} (h1:f1 env= .ok x) (h2:f2 env= .ok y) (h3:h x y= .ok z):two f1 f2 h env= .ok z:=by rw [KN,h1,w9,h2,w9,h3]
def jz (h:f env= .ok d):jE i f env= .ok (.nx (env.set i (.shr d))):=by rw [KO,h];rfl
def Jz (h:f env= .ok d):setO i f env= .ok (.nx (env.set i (yW d))):=by rw [jdc,h];rfl
def jL (h:f env= .ok d):retO f env= .ok (.rt true d):=by rw [JP,h];rfl
def ZN (h:f env= .ok d):retS f env= .ok (.rt false d):=by rw [jdd,h];rfl
def jm (h:g1 env= .ok (.nx env')):seqO g1 g2 env=g2 env':=by rw [xA,h];rfl
def J2 {fr:Bool} (h:g1 env= .ok (.rt fr d)):seqO g1 g2 env= .ok (.rt fr d):=by rw [xA,h];rfl
def if_t (h:t env= .ok true):ifO t g1 g2 env=g1 env:=by rw [Zy,h];rfl
def if_f (h:t env= .ok false):ifO t g1 g2 env=g2 env:=by rw [Zy,h];rfl
def jc (h1:f env= .ok d) (h2:fa env= .ok ds):jb f fa env= .ok (d::ds):=by rw [Jo,h1,w9,h2];rfl
def qB {h:TZ} (h1:fa env= .ok ds) (h2:h ds= .ok d):app fa h env= .ok d:=by rw [Xz,h1,w9,h2]
def jn {n:Nat} {F:TZ} (h1:fa env= .ok ds) (hn:ds.length=n) (h2:F ds= .ok d):ji n F fa env= .ok d:=by rw [KP,h1,w9,jl hn,h2]
def qX (h1:fa env= .ok ds) (hn:ds.length<=aah):tupF fa env= .ok (.tup ds):=by rw [jdb,h1,w9,jl hn]
def qd (h1:fa env= .ok ds) (hn:ds.length<=aah):lstF fa env= .ok (.lst ds):=by rw [jdg,h1,w9,jl hn]
def jO (h:f env= .ok (.bl b)):asB f env= .ok b:=by rw [KQ,h];rfl
def y7 {b2:Bool} (h1:t1 env= .ok b) (h2:t2 env= .ok b2):orB t1 t2 env= .ok (b||b2):=by rw [vQ,h1,w9,h2];cases b<;>rfl
def jfr {b2:Bool} (h1:t1 env= .ok b) (h2:t2 env= .ok b2):andB t1 t2 env= .ok (b&&b2):=by rw [jdi,h1,w9,h2];cases b<;>rfl
def jZ (h1:t1 env= .ok b):notB t1 env= .ok (!b):=by rw [YH,h1];rfl
def uL (h1:ownL i env= .ok ds) (h2:f env= .ok d) (h3:ds.length<aah):WD i f env= .ok (.nx (env.set i (.own (.lst (ds++[d]))))):=by
 show (ownL i env>>=_)=_;rw [h1];rw [h2];exact jl h3
def x9 {fl fh:Sl->Res (Option Int)} {h:D->Option Int->Option Int->Res D} {lo hi:Option Int} (h1:f env= .ok x) (h2:fl env= .ok lo) (h3:fh env= .ok hi) (h4:h x lo hi= .ok z):zy f fl fh h env= .ok z:=by
 rw [ja8,h1,w9,h2,w9,h3,w9,h4]
def x8 {j:Int} (h:f env= .ok (.int j)):yk f env= .ok (some j):=by rw [ja7,h];rfl
def yl {tt:TY} {fi:T0} (h:fi env= .ok ds):forO fi tt g env=forD (zl tt g) ds env:=by rw [YJ,h];rfl
def QK (h:f env= .ok d) (h2:vv d= .ok ds):itF f env= .ok ds:=by rw [vS,h,w9,h2]
end
def Xq {C:Int->Int->Prop} [∀i j,Decidable (C i j)] {g:Int->Int->D} {i j:Int} (h:C i j):iOp C g (.int i) (.int j)= .ok (g i j):=if_pos h
def kt {i j:Int} (h:PowC i j):powI (.int i) (.int j)= .ok (.int (i^j.toNat)):=Xq h
def jeO {i j:Int} (h:MulC i j):mulI (.int i) (.int j)= .ok (.int (i*j)):=Xq h
def wX {i j:Int} (h:0<j):modI (.int i) (.int j)= .ok (.int (i%j)):=Xq h
def K1 {i j:Int} (h:0<j/\j<1073741824):divI (.int i) (.int j)= .ok (.int (i/j)):=Xq h
def zI {t:TY} {g:T3} {d:D} {env env':Sl} (h:t d env= .ok env'):zl t g d env=g env':=by
 show (t d env>>=g)=_;rw [h];rfl
def zJ {fr:Bool} {n:Nat} {g:T3} {ds:List D} {d:D} (h:g (ql n ds)= .ok (.rt true d)):runF fr n g ds= .ok d:=by rw [xR h];simp [runK]
def u8 {n:Nat} {g:T3} {ds:List D} {d:D} (h:g (ql n ds)= .ok (.rt false d)):runF false n g ds= .ok d:=by rw [xR h];simp [runK]
def yC {fa:T0} {env:Sl} {j:Int} (h:fa env= .ok [.int j]) (hb: -(2^62)<=j/\j<2^62):rngF fa env= .ok (xM 0 j.toNat):=by
 show (fa env>>=rng1)=_;rw [h];exact jl hb
def zd {a b:List D} (h2:a.length+b.length<=aah):addD (.lst a) (.lst b)= .ok (.lst (a++b)):=jl h2
def vV {a b:Int}:eqR (.int a) (.int b)= .ok (.bl (a==b)):=by
 unfold eqR;rw [jl (by left;simp [D.eqb,D.dep])];simp [eqD]
theorem Wm {body:D->Sl->Res Out} (I:List D->Sl->Prop)
  (hb: ∀d ds env,I (d::ds) env-> ∃env',body d env= .ok (.nx env')/\I ds env'): ∀(ds:List D) (env:Sl),I ds env-> ∃env',forD body ds env= .ok (.nx env')/\I [] env'
 | [],env,h=>⟨env,rfl,h⟩
 |d::ds,env,h=>by
  obtain ⟨e1,h1,h2⟩:=hb d ds env h;obtain ⟨e2,h3,h4⟩:=Wm I hb ds e1 h2;exact ⟨e2,by rw [zK h1,h3],h4⟩
def Jd {lo:Int} {n:Nat} {d:D} (h:d∈xM lo n): ∃k:Int,d= .int k/\lo<=k/\k<lo+n:=by
 unfold xM at h;obtain ⟨i,hi,e⟩:=aaD.mp h;have:=aaU.mp hi;exact ⟨_,e.symm,by omega,by omega⟩
def qu (lo:Int) (n:Nat):(xM lo n).length=n:=by simp [xM]
def jb5 {α:Type} {xs:List α} {i:Int} (h0:0<=i) (h1:i<xs.length): ∃x,atI xs i=some x/\x∈xs:=by
 obtain ⟨k,rfl⟩:=Int.eq_ofNat_of_zero_le h0;have hk:k<xs.length:=by omega
 exact ⟨xs[k],by rw [M.atI_nat];exact aae hk,abk hk⟩
def ixL {ds:List D} {i:Int} (h0:0<=i) (h1:i<ds.length): ∃d,ixD (.lst ds) (.int i)= .ok d/\d∈ds:=by
 obtain ⟨c,hc,hm⟩:=jb5 h0 h1;exact ⟨c,by simp only [ixD];rw [hc],hm⟩
open Builtin.Int (intBits)
theorem hgts_le {k:Nat}: ∀ {ds:List D},(∀d∈ds,hgt d<=k)->hgts ds<=k
 | [],_=>by simp [hgts]
 |d::ds,h=>by
  simp only [hgts];have:=h d (by simp);have:=hgts_le (ds:=ds) fun e he=>h e (by simp [he])
  omega
theorem hgts_mem: ∀ {ds:List D} {d:D},d∈ds->hgt d<=hgts ds
 |x::r,d,h=>by
  simp only [hgts];rcases aam.mp h with rfl|h
  · omega
  · have:=hgts_mem h;omega
end M
namespace M
open PySem PySem.Spec L2
open PyProof.Rows hiding St
def keyD:D->Option Key
 | .int i=>some (.inl i)
 | .str x=>some (.inr x)
 |_=>none
def hasK (ks:List Key) (k:Key):Bool:=ks.any fun x=>decide (x=k)
def WV (ks:List Key) (k:Key):List Key:=if hasK ks k=true then ks else ks++[k]
def WW (ks:List Key) (ds:List D) (k:Key) (d:D):List D:=if hasK ks k=true then (ks.zip ds).map (fun p=>if p.1=k then d else p.2) else ds++[d]
section
variable {K:aab} {A:X7} {H:Hp}
def vp {y:V} {d:D} {k:Key} (r:Rep K A H y d) (h:keyD d=some k):y=kV k:=by
 cases r with
 |int i=>cases h;rfl
 |str x _=>cases h;rfl
 |_=>cases h
def jdN (kvs:List (Key×V)) (k:Key):(kvs.any fun kv=>decide (kv.1=k))=hasK (kvs.map (·.1)) k:=by
 unfold hasK;rw [List.any_map];rfl
theorem Kc {v:V} {d:D} (k:Key) (rv:Rep K A H v d): ∀ {kvs:List (Key×V)} {ds:List D},Reps K A H (kvs.map (·.2)) ds->Reps K A H ((kvs.map (fun kv=>if kv.1=k then (kv.1,v) else kv)).map (·.2)) (((kvs.map (·.1)).zip ds).map (fun p=>if p.1=k then d else p.2))
 | [],_,.nil=> .nil
 | (k',v')::kvs,_,.cons r1 r2=>by
  have ih:=Kc k rv r2
  by_cases hk:k'=k
  · simp only [aaN,acr,hk,if_true];exact .cons rv (by simpa [hk] using ih)
  · simp only [aaN,acr,hk,if_false];exact .cons r1 ih
def jch {v:V} {d:D} {kvs:List (Key×V)} {ds:List D} (k:Key) (r:Reps K A H (kvs.map (·.2)) ds) (rv:Rep K A H v d):
   (putK kvs k v).map (·.1)=WV (kvs.map (·.1)) k/\Reps K A H ((putK kvs k v).map (·.2)) (WW (kvs.map (·.1)) ds k d):=by
 unfold putK WV WW;rw [jdN]
 by_cases h:hasK (kvs.map (·.1)) k=true
 · rw [if_pos h,if_pos h,if_pos h];refine ⟨?_,Kc k rv r⟩;rw [acs];apply List.map_congr_left;intro p _;simp
   split<;>rfl
 · rw [if_neg h,if_neg h,if_neg h];refine ⟨by simp,?_⟩;rw [abM];exact r.append (.cons rv .nil)
def Rep.dicE {v:V} {ks:List Key} {ds:List D} (r:Rep K A H v (.dic ks ds)): ∃a kvs,v= .ref a/\H a=some (.dK kvs)/\A a/\kvs.map (·.1)=ks/\Reps K (fun c=>A c/\c≠a) H (kvs.map (·.2)) ds:=by
 cases r with
 |dic e a k1 k2 r=>subst k2;exact ⟨_,_,rfl,e,a,k1,r⟩
end
def jaq {K:aab} {G:X7} {H0 H:Hp} {env:Sl} {σ:L2.St} {i:Nat} {ks:List Key} {ds:List D} (k:EnvOk K G H0 env σ H) (hi:env[i]?=some (.own (.dic ks ds))): ∃a kvs,σ[i]?=some (some (.ref a))/\H a=some (.dK kvs)/\kvs.map (·.1)=ks/\Reps K (Sf G env σ) H (kvs.map (·.2)) ds:=by
 obtain ⟨a,h1,h0,h2⟩:=k.own i _ hi
 cases h2 with
 |dic e k1 k2 r=>subst k2;exact ⟨a,_,h1,e,k1,r⟩
def ownK (i:Nat) (env:Sl):Res (List Key×List D):=match env[i]? with
 |some (.own (.dic ks ds))=> .ok (ks,ds)
 |_=> .stuck
def jas {i:Nat} {env:Sl} {p:List Key×List D} (h:ownK i env= .ok p):env[i]?=some (.own (.dic p.1 p.2)):=by
 unfold ownK at h
 split at h
 · cases h;assumption
 · cases h
def EnvOk.putD {K:aab} {G:X7} {H0 H:Hp} {env:Sl} {σ:L2.St} {i:Nat} {ks:List Key} {ds:List D} {a:Addr} {kvs:List (Key×V)} {v:V} {d:D} {kk:Key} (k:EnvOk K G H0 env σ H) (hi:env[i]?=some (.own (.dic ks ds))) (ha:σ[i]?=some (some (.ref a))) (hx:H a=some (.dK kvs)) (hk:kvs.map (·.1)=ks)
  (r:Reps K (Sf G env σ) H (kvs.map (·.2)) ds) (rv:Rep K (Sf G env σ) H v d):EnvOk K G H0 (env.set i (.own (.dic (WV ks kk) (WW ks ds kk d)))) σ (upd H a (.dK (putK kvs kk v)))/\Frm env σ H (env.set i (.own (.dic (WV ks kk) (WW ks ds kk d)))) σ (upd H a (.dK (putK kvs kk v))):=by
 subst hk;obtain ⟨p1,p2⟩:=jch kk r rv;exact k.writeG hi ha hx trivial fun A' H' st e w=> .dic e p1 rfl (p2.stay st w)
section
variable {X:Cx} {K:aab} {l1 l2:Lv} {e1 e2:Expr} {fk fv:T5} {pos cpos apos p:Pos} {x:Str}
def ud (i:Nat) (fk fv:T5):Sl->Res Out:=fun env=>ownK i env>>=fun q=>fv env>>=fun d=>fk env>>=fun kd=>match keyD kd with
 |some k=>must (q.1.length<aah) (.ok (.nx (env.set i (.own (.dic (WV q.1 k) (WW q.1 q.2 k d))))))
 |none=> .stuck
def jdl (i:Nat) (hu:X.A.units+1<cLine) (hk:DE X l1 e1 fk) (hv:DE X .s e2 fv) (hN:X.N[i]?=some x:=by rfl) (hvs:Vis X.env.scope x:=by first|exact acj rfl|exact abB (acj rfl)|exact abB (abB rfl))
   (hd:ZI x:=by decide) (hcd:Y9 x:=by decide)
   (hs:acp e2 (some (.Subscript (.Name x p) e1 apos)) pos.line X.env=pure false:=by rfl):
   DS X (.Assign [.Subscript (.Name x p) e1 apos] e2 pos) (ud i fk fv):=by
 with_unfolding_all exact (
  PS.imp (kr hu (wW hN hvs hd hcd) hk hv hs) fun E σ H=>by
   rintro ⟨G,H0,env,o,k,ef,q⟩;obtain ⟨ks,c1,ef⟩:=je ef;obtain ⟨d,c2,ef⟩:=je ef;obtain ⟨kd,c3,c4⟩:=je ef;have hi:=jas c1;obtain ⟨a,kvs,ha,hx,hkk,rs⟩:=jaq k hi
   cases hkey:keyD kd with
   |none=>rw [hkey] at c4;cases c4
   |some kk=>
    rw [hkey] at c4;obtain ⟨hz,c5⟩:=jr c4;cases c5;refine ⟨G,H0,env,d,k,c2,fun v H1 s1 r1 _=>⟨.ref a,ha,G,H0,env,kd,k.grow s1,c3,fun y H2 s2 r2 _=>?_⟩⟩;have hx2:=s2 _ _ (s1 _ _ hx);have hy:=vp (r2.weak Lv.weak_b) hkey;subst hy;have hl:kvs.length<aah:=by rw [←hkk,aak] at hz;exact hz
    refine ⟨a,_,rfl,DPut.k hx2 hl,?_⟩;have W:=((k.grow s1).grow s2).putD (kk:=kk) hi ha hx2 hkk ((rs.grow s1).grow s2) (r1.grow s2)
    exact q σ _ W.1 ((W.2.grow s2).grow s1))
def kD:Key->D
 | .inl i=> .int i
 | .inr x=> .str x
theorem vq {P:aaH} {w:World}: ∀ {ks:List (Key×Value)} {its:List Value},its.length=ks.length->(∀(j:Nat) (v:Value),its[j]?=some v-> ∃k x,ks[j]?=some (k,x)/\(qt P w).is k v=true)->Vals (ks.map fun q=>kV q.1) its
 | [],[],_,_=> .nil
 | [],_::_,h,_=>by simp at h
 |_::_,[],h,_=>by simp at h
 | (k,x)::ks,v::its,h,hv=>by
  obtain ⟨k',x',e,hk⟩:=hv 0 v rfl;simp at e;obtain ⟨rfl,rfl⟩:=e;refine .cons ?_ (vq (by simpa using h) fun j u hu=>hv (j+1) u (by simpa using hu))
  cases k with
  |inl i=>
   obtain ⟨t,rfl⟩:=aeJ hk;exact ⟨t,rfl⟩
  |inr z=>
   obtain ⟨t,rfl⟩:=Value.isStrOf_shape hk;exact ⟨t,rfl⟩
def Uk (hc:X.calm=true):CallR X (.type "list") (fun xs H Q=> ∃a kvs,xs=[.ref a]/\H a=some (.dK kvs)/\ ∀l,H l=none->Q (.ref l) (upd H l (.lst (kvs.map fun q=>kV q.1)))):=by
 intro pins s σ H xs us Q I r h;obtain ⟨a,kvs,rfl,ha,q⟩:=h;obtain ⟨u,rfl,rx⟩:=J5 r;cases rx;obtain ⟨hz,hd,vs,rel,dd⟩:=jff I.hok ha;have hvl:vs.length<=aah:=by rw [←rel.length];exact hz
 obtain ⟨ep,hat⟩:=dd.dictAt;refine PySem.W.kdl_call (PySem.W.kdl_dict hd) (I.ok.hd hc) hat hvl fun h' tk acc' c' hk hS hacc=>?_
 have hv:=vq (by rw [aas];exact hacc.1) fun j v e=>hacc.2 j v (by rw [←aar];exact e)
 have hkeys:(vs.map fun q=>kV q.1)=(kvs.map fun q=>kV q.1):=by
  have:=rel.keys;have h2:=congrArg (List.map kV) this;simp at h2;exact h2.symm
 rw [hkeys] at hv;refine ⟨.ref s.heap.objs.size,_,I.laid hk (aai _) (show ObjOk X.prog X.w _ h' _ (.lst (kvs.map fun q=>kV q.1)) from ⟨by rw [aak];exact hz,acc'.toList,c',hv,by rw [Array.toArray_toList];exact hS⟩),rfl,q _ (I.hok.fresh (aai _))⟩
def jaI:List D->Res D
 | [.dic ks _]=>must ((ks.all fun k=>match k with| .inl _=>true| .inr _=>false)=true) (.ok (.lst (ks.map kD)))
 |_=> .stuck
def jbp:WG K (fun xs H Q=> ∃a kvs,xs=[.ref a]/\H a=some (.dK kvs)/\ ∀l,H l=none->Q (.ref l) (upd H l (.lst (kvs.map fun q=>kV q.1)))) jaI:=by
 intro A xs H ds d Q r e q;unfold jaI at e
 split at e
 · rename_i ks vs;obtain ⟨hall,e2⟩:=jr e;cases e2;obtain ⟨v,rfl,r1⟩:=r.one;obtain ⟨p,kvs,rfl,hp,_,rfl,_⟩:=r1.dicE;refine ⟨p,kvs,rfl,hp,fun l hl=>q _ _ (Same.upd hl) (.lst jo (.inl hl) ?_) (j9 (Same.refl H) hl)⟩
   have key: ∀(kvs:List (Key×V)),((kvs.map (·.1)).all fun k=>match k with| .inl _=>true| .inr _=>false)=true-> ∀(A':X7) (H':Hp),Reps K A' H' (kvs.map fun q=>kV q.1) ((kvs.map (·.1)).map kD):=by
    intro kvs
    induction kvs with
    |nil=>intro _ A' H';exact .nil
    |cons q r ih=>
     intro h A' H';simp only [aaN,adA,aat] at h;obtain ⟨k,v⟩:=q
     cases k with
     |inl i=>exact .cons (.int i) (ih h.2 A' H')
     |inr z=>cases h.1
   exact key kvs hall _ _
 · cases e
end
end M
namespace M
open PySem PySem.W PyProof.Rows
def Wk {α:Type} (lt:Nat->Nat->Bool) (n:Nat) (R:α->Prop):KasT α->Prop
 | .ret a=>R a
 | .ask i j k=>i<n/\j<n/\Wk lt n R (k (lt i j))
theorem Wk.bind {α β:Type} {lt:Nat->Nat->Bool} {n:Nat} {R:α->Prop} {R':β->Prop} {f:α->KasT β} (hf: ∀a,R a->Wk lt n R' (f a)): ∀ {t:KasT α},Wk lt n R t->Wk lt n R' (t.bind f)
 | .ret a,h=>hf a h
 | .ask i j k,h=>⟨h.1,h.2.1,Wk.bind hf h.2.2⟩
theorem Wk.imp {α:Type} {lt:Nat->Nat->Bool} {n:Nat} {R R':α->Prop} (hr: ∀a,R a->R' a): ∀ {t:KasT α},Wk lt n R t->Wk lt n R' t
 | .ret a,h=>hr a h
 | .ask i j k,h=>⟨h.1,h.2.1,Wk.imp hr h.2.2⟩
theorem jbM {α:Type} {lt:Nat->Nat->Bool} {n:Nat} {R:α->Prop} {Q:α->aaf->Prop} {P:aaf->Prop} {cmp:Nat->Nat->(Bool->aaf->Prop)->aaf->Prop}
  (hc: ∀i j C s,i<n->j<n->P s->(∀s',P s'->C (lt i j) s')->cmp i j C s) (hQ: ∀a s,R a->P s->Q a s): ∀(t:KasT α) (s:aaf),Wk lt n R t->P s->t.kasWp cmp Q s
 | .ret a,s,h,hs=>hQ a s h hs
 | .ask i j k,s,h,hs=>hc i j _ s h.1 h.2.1 hs fun s' hs'=>jbM hc hQ _ s' h.2.2 hs'
structure Ord (lt:Nat->Nat->Bool) (n:Nat):Prop where
 asym: ∀i j,lt i j=true->lt j i=false
 trans: ∀i j k,i<n->j<n->k<n->lt i j=true->lt j k=true->lt i k=true
 total: ∀i j,i<n->j<n->i≠j->lt i j=true\/lt j i=true
abbrev at0 (p:Array Nat) (i:Nat):Nat:=p.getD i 0
structure Pm (p:Array Nat) (n:Nat):Prop where
 size:p.size=n
 perm:p.toList.Perm (aa8 n)
def yP {p:Array Nat} {i:Nat} (h:i<p.size):p[i]?=some (at0 p i):=by
 rw [aaj h];simp [at0,aeN,h]
def Pm.lt {p:Array Nat} {n i:Nat} (h:Pm p n) (hi:i<n):at0 p i<n:=by
 have hi':i<p.size:=by rw [h.size];exact hi
 have:at0 p i∈p.toList:=by simp [at0,aeN,hi']
 exact aaU.mp (h.perm.mem_iff.mp this)
def Pm.ne {p:Array Nat} {n i j:Nat} (h:Pm p n) (hi:i<n) (hj:j<n) (hij:i≠j):at0 p i≠at0 p j:=by
 have nd:=h.perm.nodup_iff.mpr ad6;have hi':i<p.toList.length:=by simp [h.size,hi]
 have hj':j<p.toList.length:=by simp [h.size,hj]
 intro e;have e1:at0 p i=p.toList[i]:=by simp [at0,aeN,h.size,hi]
 have e2:at0 p j=p.toList[j]:=by simp [at0,aeN,h.size,hj]
 rw [e1,e2] at e;have pw:=abD.mp nd;rcases Nat.lt_or_gt_of_ne hij with z|z
 · exact pw i j hi' hj' z e
 · exact pw j i hj' hi' z e.symm
def Pm.of {p q:Array Nat} {n:Nat} (h:Pm p n) (hs:q.size=p.size) (hp:q.Perm p):Pm q n:=⟨by rw [hs,h.size],(Array.perm_iff_toList_perm.mp hp).trans h.perm⟩
def Pm.rev {p:Array Nat} {n:Nat} (h:Pm p n) (i j:Nat):Pm (kas_rev p i j) n:=h.of (mirror_size _ _ _ _) (mirror_perm _ _ _ _)
def uK {p:Array Nat} {n j k:Nat} (h:Pm p n) (hj:j<=n) (hk:k<n):at0 (kas_rev p 0 j) k=if k<j then at0 p (j-1-k) else at0 p k:=by
 have hR:=h.rev 0 j;have e:=getElem?_mirror_all (i:=0) (by rw [h.size];exact hj) k;have e1:=yP (by rw [hR.size];exact hk);unfold kas_rev at e1;rw [e] at e1;simp only [aba,true_and,ae7] at e1
 split at e1
 · rename_i hkj;rw [if_pos hkj];rw [yP (by rw [h.size];omega)] at e1;exact (aaK e1).symm
 · rename_i hkj;rw [if_neg hkj];rw [yP (by rw [h.size];exact hk)] at e1;exact (aaK e1).symm
section
variable {lt:Nat->Nat->Bool} {n:Nat} (O:Ord lt n)
def Up (lt:Nat->Nat->Bool) (p:Array Nat) (k:Nat):Prop:= ∀i j,i<j->j<k->lt (at0 p i) (at0 p j)=true
def Down (lt:Nat->Nat->Bool) (p:Array Nat) (k:Nat):Prop:= ∀i j,i<j->j<k->lt (at0 p j) (at0 p i)=true
include O
theorem Up.snoc {p:Array Nat} {k:Nat} (hp:Pm p n) (hk:k+1<n) (h:Up lt p (k+1)) (hl:lt (at0 p k) (at0 p (k+1))=true):Up lt p (k+2):=fun i j hij hj=>by
 by_cases e:j=k+1
 · subst e
   by_cases e2:i=k
   · subst e2;exact hl
   · exact O.trans _ _ _ (hp.lt (by omega)) (hp.lt (by omega)) (hp.lt hk) (h i k (by omega) (by omega)) hl
 · exact h i j hij (by omega)
theorem Down.snoc {p:Array Nat} {k:Nat} (hp:Pm p n) (hk:k+1<n) (h:Down lt p (k+1)) (hl:lt (at0 p (k+1)) (at0 p k)=true):Down lt p (k+2):=fun i j hij hj=>by
 by_cases e:j=k+1
 · subst e
   by_cases e2:i=k
   · subst e2;exact hl
   · exact O.trans _ _ _ (hp.lt hk) (hp.lt (by omega)) (hp.lt (by omega)) hl (h i k (by omega) (by omega))
 · exact h i j hij (by omega)
theorem jdS {p:Array Nat} {i j:Nat} (hp:Pm p n) (hi:i<n) (hj:j<n) (hij:i≠j) (h:lt (at0 p i) (at0 p j)=false):lt (at0 p j) (at0 p i)=true:=by
 rcases O.total _ _ (hp.lt hi) (hp.lt hj) (hp.ne hi hj hij) with z|z
 · rw [h] at z;cases z
 · exact z
theorem jdK {p:Array Nat} (hp:Pm p n): ∀(f m:Nat),1<=m->m+f=n->Up lt p m->Wk lt n (fun r=>m<=r/\r<=n/\Up lt p r/\(r<n->lt (at0 p r) (at0 p (r-1))=true)) (kas_asc p f m)
 |0,m,h1,h2,h=>⟨aai _,by omega,h,fun z=>by omega⟩
 |f+1,m,h1,h2,h=>by
  refine ⟨hp.lt (by omega),hp.lt (by omega),?_⟩
  cases hc:lt (p.getD m 0) (p.getD (m-1) 0) with
  |true=>
   exact ⟨aai _,by omega,h,fun _=>hc⟩
  |false=>
   have hup:Up lt p (m+1):=by
    have e:m=(m-1)+1:=by omega
    have hl:=jdS O hp (by omega) (by omega) (by omega) hc;rw [e] at h ⊢;exact Up.snoc O hp (by omega) h (by rw [←e];exact hl)
   have ih:=jdK hp f (m+1) (by omega) (by omega) hup;exact Wk.imp (fun r ⟨a,b,c,d⟩=>⟨by omega,b,c,d⟩) ih
theorem jbX {p:Array Nat} (hp:Pm p n): ∀(f m:Nat),1<=m->m+f=n->Down lt p m->Wk lt n (fun r=>r.1=p/\m<=r.2.1/\r.2.1<=n/\Down lt p r.2.1/\r.2.2=0) (kas_desc f p m 0)
 |0,m,h1,h2,h=>⟨rfl,aai _,(show m<=n by omega),h,rfl⟩
 |f+1,m,h1,h2,h=>by
  refine ⟨hp.lt (by omega),hp.lt (by omega),?_⟩
  cases hc:lt (p.getD m 0) (p.getD (m-1) 0) with
  |true=>
   have hdn:Down lt p (m+1):=by
    have e:m=(m-1)+1:=by omega
    have hl:=hc;rw [e] at h ⊢;exact Down.snoc O hp (by omega) h (by rw [←e];exact hl)
   have ih:=jbX hp f (m+1) (by omega) (by omega) hdn;exact Wk.imp (fun r ⟨a,b,c,d,e⟩=>⟨a,by omega,c,d,e⟩) ih
  |false=>
   have hl:=jdS O hp (by omega) (by omega) (by omega) hc;refine ⟨hp.lt (by omega),hp.lt (by omega),?_⟩;show Wk lt n _ (if lt (at0 p (m-1)) (at0 p m)=true then _ else _);rw [if_pos hl];exact ⟨rfl,aai _,(show m<=n by omega),h,rfl⟩
theorem Down.rev {p:Array Nat} {k:Nat} (hp:Pm p n) (hk:k<=n) (h:Down lt p k):Up lt (kas_rev p 0 k) k:=fun i j hij hj=>by
 rw [uK hp hk (by omega),uK hp hk (by omega),if_pos (by omega),if_pos hj];exact h _ _ (by omega) (by omega)
theorem jdZ {p:Array Nat} {k:Nat} (hp:Pm p n) (h1:1<=k) (hk:k<=n) (h:Down lt p k):Wk lt n (fun r=>1<=r.1/\r.1<=n/\Pm r.2 n/\Up lt r.2 r.1) (kas_tail3 k n p):=by
 unfold kas_tail3;refine Wk.bind (fun r ⟨a,b,c,_⟩=>?_) (jdK O (hp.rev 0 k) (n-k) k h1 (by omega) (Down.rev O hp hk h));exact ⟨by omega,b,hp.rev 0 k,c⟩
theorem jdx {p:Array Nat} (hp:Pm p n) (hn:1<=n):Wk lt n (fun r=>1<=r.1/\r.1<=n/\Pm r.2 n/\Up lt r.2 r.1) (kas_count n p):=by
 unfold kas_count;refine Wk.bind (fun r ⟨a,b,c,d⟩=>?_) (jdK O hp (n-1) 1 (aai _) (by omega) (fun i j hij hj=>by omega))
 by_cases e:r=n
 · subst e;rw [if_pos (by simp)];exact ⟨a,b,hp,c⟩
 · rw [if_neg (by simpa using e)]
   by_cases h1:r>1
   · rw [if_pos h1];refine ⟨hp.lt (by omega),hp.lt (by omega),?_⟩;have:lt (p.getD 0 0) (p.getD (r-1) 0)=true:=c 0 (r-1) (by omega) (by omega);show Wk lt n _ (if lt (p.getD 0 0) (p.getD (r-1) 0)=true then _ else _);rw [if_pos this];exact ⟨a,b,hp,c⟩
   · rw [if_neg h1];have hr:r=1:=by omega
     subst hr;unfold kas_descPart
     have hd:Down lt p 2:=fun i j hij hj=>by
      have:i=0/\j=1:=by omega
      obtain ⟨rfl,rfl⟩:=this;exact d (by omega)
     refine Wk.bind (fun q ⟨q1,q2,q3,q4,q5⟩=>?_) (jbX O hp (n-2) 2 (by omega) (by omega) hd);rw [if_neg (by omega),q1];exact jdZ O hp (by omega) q3 q4
theorem Ye {p:Array Nat} {k:Nat} (hp:Pm p n) (hk:k<n) (hu:Up lt p k): ∀(f l r:Nat),l<=r->r<=k->r-l<=f->(∀i,i<l->lt (at0 p i) (at0 p k)=true)->(∀i,r<=i->i<k->lt (at0 p k) (at0 p i)=true)->
  Wk lt n (fun m=>m<=k/\(∀i,i<m->lt (at0 p i) (at0 p k)=true)/\ ∀i,m<=i->i<k->lt (at0 p k) (at0 p i)=true) (kas_place p k f l r)
 |0,l,r,h1,h2,h3,hl,hr=>⟨by omega,hl,fun i a b=>hr i (by omega) b⟩
 |f+1,l,r,h1,h2,h3,hl,hr=>by
  unfold kas_place
  by_cases e:l>=r
  · rw [if_pos e];exact ⟨by omega,hl,fun i a b=>hr i (by omega) b⟩
  · rw [if_neg e];have hm:(l+r)/2<r:=by omega
    refine ⟨hp.lt hk,hp.lt (by omega),?_⟩
    cases hc:lt (p.getD k 0) (p.getD ((l+r)/2) 0) with
    |true=>
     refine Ye hp hk hu f l ((l+r)/2) (by omega) (by omega) (by omega) hl fun i a b=>?_
     by_cases e2:i=(l+r)/2
     · rw [e2];exact hc
     · exact O.trans _ _ _ (hp.lt hk) (hp.lt (show (l+r)/2<n by omega)) (hp.lt (by omega)) hc (hu _ _ (by omega) b)
    |false=>
     have hl2:=jdS O hp hk (by omega) (by omega) hc;refine Ye hp hk hu f ((l+r)/2+1) r (by omega) h2 (by omega) (fun i a=>?_) hr
     by_cases e2:i=(l+r)/2
     · rw [e2];exact hl2
     · exact O.trans _ _ _ (hp.lt (by omega)) (hp.lt (show (l+r)/2<n by omega)) (hp.lt hk) (hu _ _ (by omega) (by omega)) hl2
theorem ZD {p:Array Nat} {k l i:Nat} (hp:Pm p n) (hk:k<n) (hl:l<=k) (hi:i<n):at0 (bubble p k (k-l)) i=if i=l then at0 p k else if l<i/\i<=k then at0 p (i-1) else at0 p i:=by
 have hB:Pm (bubble p k (k-l)) n:=hp.of (bubble_size _ _ _) (bubble_perm _ _ _);have e:=getElem?_bubble (by rw [hp.size];exact hk) (k-l) (by omega) i;rw [yP (by rw [hB.size];exact hi)] at e;have ekl:k-(k-l)=l:=by omega
 rw [ekl] at e
 split at e
 · rename_i z;rw [if_pos z];rw [yP (by rw [hp.size];exact hk)] at e;exact aaK e
 · rename_i z;rw [if_neg z]
   split at e
   · rename_i z2;rw [if_pos z2];rw [yP (by rw [hp.size];omega)] at e;exact aaK e
   · rename_i z2;rw [if_neg z2];rw [yP (by rw [hp.size];exact hi)] at e;exact aaK e
theorem jfn : ∀ (f : Nat) (p : Array Nat) (k : Nat), Pm p n -> k + f = n -> Up lt p k -> Wk lt n (fun q => Pm q n /\ Up lt q n) (kas_bin f p k)
  | 0, p, k, hp, hk, h => ⟨hp, by have : k = n := by omega
                                  rw [this] at h; exact h⟩
  | f + 1, p, k, hp, hk, h => by
    unfold kas_bin
    refine Wk.bind (fun l ⟨a, b, c⟩ => ?_) (Ye O hp (by omega) h k 0 k (by omega) (aai _) (by omega) (fun i z => by omega) (fun i z w => by omega))
    refine jfn f _ (k + 1) (hp.of (bubble_size _ _ _) (bubble_perm _ _ _)) (by omega) fun i j hij hj => ?_
    rw [ZD O hp (by omega) a (by omega), ZD O hp (by omega) a (by omega)]
    by_cases e1 : i = l
    · rw [if_pos e1, if_neg (by omega), if_pos (by omega)]
      exact c _ (by omega) (by omega)
    · rw [if_neg e1]
      by_cases e2 : l < i /\ i <= k
      · rw [if_pos e2, if_neg (by omega), if_pos (by omega)]
        exact h _ _ (by omega) (by omega)
      · rw [if_neg e2]
        by_cases e3 : j = l
        · rw [if_pos e3]; exact b _ (by omega)
        · rw [if_neg e3]
          by_cases e4 : l < j /\ j <= k
          · rw [if_pos e4]
            by_cases e5 : i = j - 1
            · omega
            · exact h _ _ (by omega) (by omega)
          · rw [if_neg e4]; exact h _ _ hij (by omega)
theorem jd5 (hn:1<=n):Wk lt n (fun q=>Pm q n/\Up lt q n) (kas_sort n):=by
 have hp:Pm (adq (aa8 n)) n:=⟨by simp,by simp⟩
 unfold kas_sort;refine Wk.bind (fun r ⟨a,b,c,d⟩=>?_) (jdx O hp hn)
 by_cases e:r.1<n
 · rw [if_pos e];have:max r.1 1=r.1:=by omega
   rw [this];exact jfn O _ _ _ c (by omega) d
 · rw [if_neg e];have:r.1=n:=by omega
   rw [this] at d;exact ⟨c,d⟩
end
section
variable {prog:aaH} {w:World} {A:aa3} {E:X6} {s:aaf} {a:Addr} {vs:List Value} {n:Nat}
def zW (h:Heap) (a:Addr) (vs:List Value):Heap:=((h.update a (acn fun _=>(#[]:Array Value))).push (adB "tuple" vs.toArray 0)).push (adB "list" #[] 0)
def Yj (vs:List Value) (p:Array Nat):List Value:=p.toList.map fun i=>vs.getD i ab9
def Jy {h:Heap} {b:Addr} {o:Obj} (hb:b≠a) (e:h.get? b=some o):(zW h a vs).get? b=some o:=
 aad _ (aad _ ((abi _ _ (acD hb)).trans e))
def Z7 {P:PySem.Fin->aaf->Prop} {lt:Nat->Nat->Bool} (O:Ord lt vs.length) (κ:SortKind) (ho:s.heap.get? a=some (adB "list" vs.toArray n)) (h2:2<=vs.length) (h64:vs.length<64)
  (hk: ∀Q:SortKind->aaf->Prop,Q κ {s with heap:=zW s.heap a vs}->wpAny (model prog w) A (keyKind' vs.toArray) Q (fun _ _=>False) {s with heap:=zW s.heap a vs})
  (hc: ∀i j C,i<vs.length->j<vs.length->C (lt i j) {s with heap:=zW s.heap a vs}->kas_ask prog w A κ vs i j C {s with heap:=zW s.heap a vs})
  (h: ∀p h' c,Pm p vs.length->Up lt p vs.length->(∀b o,b≠a->s.heap.get? b=some o->h'.get? b=some o)->h'.get? a=some (adB "list" (adq (Yj vs p)) c)->P (.done (.ret .none)) {s with heap:=h'}):
  wpAny (model prog w) A (ab3.«list.sort» ⟨[.ref a],[]⟩) P E s:=by
 obtain ⟨c1,b1⟩: ∃c1,(s.heap.update a (acn fun _=>(#[]:Array Value))).get? a=some (adB "list" #[] c1):=⟨_,aeo ho fun _=> #[]⟩
 have b2:(zW s.heap a vs).get? a=some (adB "list" #[] c1):=aad _ (aad _ b1);have big:vs.length<=aah:=by rw [abR];omega
 have walk:(kas_sort vs.length).kasWp (kas_ask prog w A κ vs) (fun p t=>t={s with heap:=zW s.heap a vs}/\Pm p vs.length/\Up lt p vs.length) {s with heap:=zW s.heap a vs}:=
  jbM (P:=fun t=>t={s with heap:=zW s.heap a vs}) (fun i j C t hi hj ht hC=>by subst ht;exact hc i j C hi hj (hC _ rfl)) (fun p t hp ht=>⟨ht,hp⟩) _ _ (jd5 O (by omega)) rfl
 rw [list_sort_plain];refine aaa (listItems_at ho rfl (aaa (listUpdate_at ho rfl (aaa (seqEpoch_at b1 rfl (aaa (wpAny_newTuple (aaa (wpAny_newList (aa4 ?_) (aba _))) (by show vs.length<=aah;exact big))))) (by rw [aag];exact big) (aba _))));dsimp only;have small: ¬vs.toArray.size<2:=by rw [aag];omega
 rw [if_neg small,if_neg small];refine aaa (ab8 (hk (fun κ' t=>κ'=κ/\t={s with heap:=zW s.heap a vs}) ⟨rfl,rfl⟩) (fun κ' t hkt=>?_) fun _ _ z=>z.elim);obtain ⟨rfl,rfl⟩:=hkt;refine aaa (ab8 (kat_run (Q:=fun st t=> ∃p:Array Nat,p.size=vs.length/\arrOf st=p.map (kas_item (vs.toArray.zip vs.toArray))/\failedOf st=none/\t={s with heap:=zW s.heap a vs}/\Pm p vs.length/\Up lt p vs.length) rfl h2 h64 (fun p st t z1 z2 z3 z4=>⟨p,z1,z2,z3,z4⟩) walk) ?_ fun _ _ z=>z);rintro ⟨⟨⟩,st⟩ t ⟨p,hp,har,hf,rfl,hpm,hup⟩;dsimp only;have hsz:(adq (Yj vs p)).size<=aah:=by rw [aag];unfold Yj;rw [aak,aas,hp];exact big
 rw [kat_snds rfl har];obtain ⟨c2,hc2⟩: ∃c2,((zW s.heap a vs).update a (acn fun _=>adq (Yj vs p))).get? a=some (adB "list" (adq (Yj vs p)) c2):=⟨_,aeo b2 fun _=>adq (Yj vs p)⟩
 refine aaa (seqEpoch_at b2 rfl (aaa (listUpdate_at b2 rfl ?_ (aba _) (Nat.le_succ_of_le hsz))));rw [hf];simp;exact aac (h p _ c2 hpm hup (fun b o hb e=>(abi _ _ (acD hb)).trans (Jy hb e)) hc2)
end
def DAt (h:Heap) (d:Addr) (ks:List Value) (ep:Nat):Prop:= ∃o es,h.get? d=some o/\o.ExactDict/\o.data= .dict es ep/\es.toList.map (·.key)=ks
section
variable {prog:aaH} {w:World} {A:aa3} {E:X6} {s:aaf} {d it:Addr} {ks:List Value} {ep i:Nat}
def DAt.typeIs (x:DAt s.heap d ks ep):s.TypeIs (.ref d) "dict" :=let ⟨o,es,ho,hc,_⟩:=x;⟨o,ho,hc.1⟩
def DAt.at {h h':Heap} (x:DAt h d ks ep) (e: ∀o,h.get? d=some o->h'.get? d=some o):DAt h' d ks ep:=let ⟨o,es,ho,r⟩:=x;⟨o,es,e _ ho,r⟩
def DAt.lt {h:Heap} (x:DAt h d ks ep):d<h.objs.size:=let ⟨_,_,ho,_⟩:=x;aav ho
def jbm {Q:X6} (hd:(d==aca)=false) (hm:DAt s.heap d ks ep)
  (hQ:Q (.ref s.heap.objs.size) {s with heap:=s.heap.push {cls:= .type "dict_keyiterator",data:= .fields #[.ref d,.int 0 0,.int ks.length 0,.int ep 0]}}):wpAny (model prog w) A (pyIter (.ref d)) Q E s:=by
 obtain ⟨o,es,ho,hc,hdat,hkeys⟩:=id hm;have T:=hm.typeIs;have hsz:es.size=ks.length:=by rw [←hkeys];simp
 refine wpAny_pyIter_slot T PySem.F.slot_dict_iter (abl PySem.F.slot_dict_iter T PySem.F.entry_dict_iter ?_ (PySem.F.args_dict_iter_1 _));unfold ab3.«dict.__iter__» Builtin.Dict.dictSlotNone;refine aaa (aaa (wpAny_notOrdered_dict T (show wpAny _ _ (pure (aaJ d)) _ _ s from aac ?_)));show wpAny _ _ (ae8 d>>=_) _ _ s;unfold ae8;rw [if_neg (by rw [hd];exact aaB)];refine aaa (aac (aaa (wpAny_dictEntries ho hdat (aaa (wpAny_dictEpoch ho hdat (aaa (aaY (aac ⟨_,rfl, "dict_keyiterator",_,⟨_,aaq _ rfl,rfl⟩,abw.lookup,?_⟩))))))));simpa [ac7,hsz] using hQ
def jbn {Q:Option Value->aaf->Prop} {k:Value} (hit:s.heap.IsKeyIter it d i ks.length ep) (hm:DAt s.heap d ks ep) (hx:ks[i]?=some k)
  (hQ: ∀h',h'.IsKeyIter it d (i+1) ks.length ep->abZ it s.heap h'->Q (some k) {s with heap:=h'}):wpAny (model prog w) A (aey (.ref it)) Q E s:=by
 obtain ⟨o,ho,hc,hf⟩:=id hit;obtain ⟨od,es,hod,hcd,hdd,hkeys⟩:=id hm;have hsz:es.size=ks.length:=by rw [←hkeys];simp
 have hlt:i<es.size:=by
  rw [hsz];rcases Nat.lt_or_ge i ks.length with z|z
  · exact z
  · rw [aaP z] at hx;cases hx
 have hk:es[i].key=k:=by
  have:(es.toList.map (·.key))[i]?=some k:=by rw [hkeys];exact hx
  rw [aaO] at this;simpa [hlt] using this
 unfold aey;refine aaa (acL (abr hit.typeIs abw (abl abw hit.typeIs adn ?_ (adc _))));refine aaa (aac (aaa (aaa ?_)))
 first|refine aaa (ab2 hit.typeIs (aac (aaa (acy ho hf ?_))))|refine aaa (acG hit.typeIs (aac (aaa (acy ho hf ?_))))
 simp only [show aee "dict_keyiterator" =false by decide,aaG,if_false];show wpAny _ _ (if (aaJ d==ab9)=true then _ else _) _ _ s;rw [if_neg (show¬((aaJ d==ab9)=true) by exact aaB)];refine aaa (aac (aaa (wpAny_dictEntries hod hdd ?_)));rw [if_neg (by rw [hsz];simp)];refine aaa (aac (aaa (wpAny_dictEpoch hod hdd ?_)));rw [if_neg (by simp)];refine aac ?_;simp only [show¬((i:Int)<0) by omega,if_false,abH,aaj hlt];refine aaa ?_
 first|refine aaa (ab2 hit.typeIs (aac (aaa (adZ hit.typeIs ?_))))|refine aaa (acG hit.typeIs (aac (aaa (adZ hit.typeIs ?_))))
 show wpAny _ _ (setField (.ref it) 1 (ac7 ((i:Int)+1))>>=_) _ _ s;refine aaa (acz ho hf (by simp) (aaa (aa4 ?_)))
 have hit2:(s.heap.update it (ac5 (·.setIfInBounds 1 (ac7 ((i:Int)+1))))).IsKeyIter it d (i+1) ks.length ep:=
  ⟨_,abo _ ho (act (abx hf _)),(adQ ..).trans hc,by rw [abx hf];simp [ac7]⟩
 refine aaa (adZ hit2.typeIs ?_);rw [hk];exact aac (aac ⟨_,rfl,aac (hQ _ hit2 (abv ..))⟩)
def jdw {Q:Option Value->aaf->Prop} (hh:A.handled=none) (hit:s.heap.IsKeyIter it d ks.length ks.length ep) (hm:DAt s.heap d ks ep)
  (hQ: ∀h',Heap.ExtBut it s.heap h'->Q none {s with heap:=h'}):wpAny (model prog w) A (aey (.ref it)) Q E s:=by
 obtain ⟨o,ho,hc,hf⟩:=id hit;obtain ⟨od,es,hod,hcd,hdd,hkeys⟩:=id hm;have hsz:es.size=ks.length:=by rw [←hkeys];simp
 unfold aey;refine aaa (acL (abr hit.typeIs abw (abl abw hit.typeIs adn ?_ (adc _))));refine aaa (aac (aaa (aaa ?_)))
 first|refine aaa (ab2 hit.typeIs (aac (aaa (acy ho hf ?_))))|refine aaa (acG hit.typeIs (aac (aaa (acy ho hf ?_))))
 simp only [show aee "dict_keyiterator" =false by decide,aaG,if_false];show wpAny _ _ (if (aaJ d==ab9)=true then _ else _) _ _ s;rw [if_neg (show¬((aaJ d==ab9)=true) by exact aaB)];refine aaa (aac (aaa (wpAny_dictEntries hod hdd ?_)));rw [if_neg (by rw [hsz];simp)];refine aaa (aac (aaa (wpAny_dictEpoch hod hdd ?_)));rw [if_neg (by simp)];refine aac ?_;simp only [show¬(((ks.length:Nat):Int)<0) by omega,if_false,abH,acR (show es.size<=ks.length by omega)];refine aaa ?_
 first|refine aaa (ab2 hit.typeIs (aac ?_))|refine aaa (acG hit.typeIs (aac ?_))
 show wpAny _ _ (setField (.ref it) 0 .none>>=_) _ _ s;refine aaa (acz ho hf (by simp) ?_);refine aaa ?_;simp only [newExc,newTuple];refine aaa (aaY (aaa (wpAny_of_eq (by first|rfl| (simp;rfl)) (aaY ?_ (by size_fits)))) (by size_fits));simp only [raiseNew];refine aaa (wpAny_handled ?_);rw [show A.in1.handled=none from hh];refine aaa (aac (wpAny_throw ?_));refine aaa (acm ⟨_,aaq _ rfl,rfl⟩ isSubtype_stop ?_);exact aac (hQ _ (((abv ..).extBut.push _).push _))
def jdv (lo:(d==aca)=false):KdlSrc prog w "dict" d d ks.length (fun i v=>ks[i]?=some v) (fun h=>DAt h d ks ep) where
 type:=fun _ hm=>hm.typeIs
 there:=fun _ hm=>⟨hm.lt,hm.lt⟩
 keep:=fun _ _ hm hk=>hm.at fun o e=>hk d (.inl rfl) o e
 notList:=by decide
 notTuple:=by decide
 hint:=fun _ _ _ _ hm hq=>kdl_hint_dict hm.typeIs hq
 iter:=fun A s hh hm=>⟨_,(fun i h=>h.IsKeyIter s.heap.objs.size d i ks.length ep/\DAt h d ks ep),(fun _ _ hq=>jbm lo hm hq),{
  sub:=fun b hb=>by simp at hb;simp [hb]
  frame:=fun _ _ _ st hk=>⟨let ⟨o,ho,r⟩:=st.1;⟨o,hk _ (by simp) o ho,r⟩,st.2.at fun o e=>hk d (by simp) o e⟩
  item:=fun i t Q E hi st hQ=>by
   have hx:ks[i]?=some ks[i]:=by simp [hi]
   exact jbn st.1 st.2 hx fun h' hit' hs'=>hQ _ h' t.toks hx ⟨hit',st.2.at fun o e=>hs'.extBut d o (aaC hm.lt) e⟩ fun b o hb e=>hs'.extBut b o (fun z=>hb (by simp [z])) e
  done:=fun t Q E st hQ=>jdw hh st.1 st.2 fun h' he'=>hQ h' t.toks fun b o hb e=>he' b o (fun z=>hb (by simp [z])) e
  self:=fun _ _ _ _ st hQ=>wpAny_pyIter_keyiter st.1 hQ},⟨⟨_,aaq _ rfl,rfl,rfl⟩,hm.at fun o e=>aad _ e⟩⟩
end
abbrev Hd:=Str×Int
def hlt (a b:Hd):Bool:=if a.1=b.1 then decide (a.2<b.2) else decide (a.1.cps.toList<b.1.cps.toList)
def jcb {a b:Str} (h:a.cps.toList=b.cps.toList):a=b:=by
 cases a;cases b;simp;exact ae0.mp h
def KD {a b:Hd} (h:hlt a b=true):hlt b a=false:=by
 unfold hlt at h ⊢
 by_cases e:a.1=b.1
 · rw [if_pos e] at h;rw [if_pos e.symm];simp at h;simp;omega
 · rw [if_neg e] at h;rw [if_neg fun z=>e z.symm];simp at h;simp;exact List.lt_asymm h
def Xr {a b c:Hd} (h1:hlt a b=true) (h2:hlt b c=true):hlt a c=true:=by
 unfold hlt at h1 h2 ⊢
 by_cases e:a.1=b.1
 · rw [if_pos e] at h1
   by_cases e2:b.1=c.1
   · rw [if_pos e2] at h2;rw [if_pos (e.trans e2)];simp at h1 h2 ⊢;omega
   · rw [if_neg e2] at h2;rw [if_neg (by rw [e];exact e2),e];exact h2
 · rw [if_neg e] at h1;simp at h1
   by_cases e2:b.1=c.1
   · rw [if_pos e2] at h2;rw [if_neg (by rw [←e2];exact e),←e2];simpa using h1
   · rw [if_neg e2] at h2;simp at h2;have h3:=List.lt_trans h1 h2;have e3:a.1≠c.1:=fun z=>List.lt_irrefl _ (by rw [z] at h3;exact h3)
     rw [if_neg e3];simpa using h3
def Xs {a b:Hd} (h:a≠b):hlt a b=true\/hlt b a=true:=by
 unfold hlt
 by_cases e:a.1=b.1
 · have e2:a.2≠b.2:=fun z=>h (Prod.ext e z)
   rw [if_pos e,if_pos e.symm];simp;omega
 · rw [if_neg e,if_neg fun z=>e z.symm];simp only [decide_eq_true_eq];have:a.1.cps.toList≠b.1.cps.toList:=fun z=>e (jcb z)
   by_cases z:a.1.cps.toList<b.1.cps.toList
   · exact .inl z
   · exact .inr (Std.lt_of_le_of_ne z (acD this))
def hltI (hs:List Hd) (i j:Nat):Bool:=match hs[i]?,hs[j]? with
 |some a,some b=>hlt a b
 |_,_=>false
def kH {hs:List Hd} (nd:hs.Nodup):Ord (hltI hs) hs.length where
 asym:=fun i j h=>by
  unfold hltI at h ⊢
  cases hi:hs[i]? with
  |none=>rw [hi] at h;cases h
  |some a=>
    cases hj:hs[j]? with
    |none=>rfl
    |some b=>rw [hi,hj] at h;exact KD h
 trans:=fun i j k hi hj hk h1 h2=>by
  unfold hltI at h1 h2 ⊢;rw [aae hi,aae hj] at h1;rw [aae hj,aae hk] at h2;rw [aae hi,aae hk];exact Xr h1 h2
 total:=fun i j hi hj hij=>by
  unfold hltI;rw [aae hi,aae hj];refine Xs fun e=>?_
  have pw:=abD.mp nd;rcases Nat.lt_or_gt_of_ne hij with z|z
  · exact pw i j hi hj z e
  · exact pw j i hj hi z e.symm
def IsHd (h:Heap) (v:Value) (a:Hd):Prop:= ∃b o n t u,v= .ref b/\h.get? b=some o/\o.cls= .type "tuple" /\o.data= .seq #[.str a.1 t,.int a.2 u] n
section
variable {prog:aaH} {w:World} {A:aa3} {E:X6} {s:aaf}
def je6 {x y:Addr} {ox oy:Obj} {a b:Hd} {n m:Nat} {t u t' u':Tok} {Q:Bool->aaf->Prop} (hx:s.heap.get? x=some ox) (dx:ox.data= .seq #[.str a.1 t,.int a.2 u] n) (hy:s.heap.get? y=some oy) (dy:oy.data= .seq #[.str b.1 t',.int b.2 u'] m) (h:Q (hlt a b) s):
   wpAny (model prog w) A (keyLt' (tuples' true) (.ref x) (.ref y)) Q E s:=by
 refine kat_lt hx dx hy dy ?_;refine kat_cons (eqBool_str (kat_go (fun e=>kat_yes (kat_cons (wpAny_eqBool_int (kat_go (fun e2=>kat_yes (kat_nil ?_)) fun e2=>kat_no (kat_one _ _ (wpAny_lt_int ?_)))))) fun e=>kat_no (oneLt_str ?_)))
 · have h1:a.1=b.1:=by simpa using e
   have h2:a.2=b.2:=by simpa using e2
   have:hlt a b=false:=by unfold hlt;rw [if_pos h1];simp [h2]
   rw [this] at h;exact h
 · have h1:a.1=b.1:=by simpa using e
   have:hlt a b=decide (a.2<b.2):=by unfold hlt;rw [if_pos h1]
   rw [this] at h;exact (show Q (decide (a.2<b.2)) s from h)
 · have h1:a.1≠b.1:=by simpa using e
   have:hlt a b=decide (a.1.cps.toList<b.1.cps.toList):=by unfold hlt;rw [if_neg h1]
   rw [this] at h;exact h
def IsHd.keep {h h':Heap} {v:Value} {a:Hd} (x:IsHd h v a) (k: ∀b o,h.get? b=some o->o.cls= .type "tuple" ->h'.get? b=some o):IsHd h' v a:=
 let ⟨b,o,n,t,u,e,ho,hc,hd⟩:=x;⟨b,o,n,t,u,e,k b o ho hc,hc,hd⟩
inductive AreHd (h:Heap):List Value->List Hd->Prop where
 |nil:AreHd h [] []
 |cons {v:Value} {a:Hd} {vs:List Value} {hs:List Hd}:IsHd h v a->AreHd h vs hs->AreHd h (v::vs) (a::hs)
theorem AreHd.length {h:Heap}: ∀ {vs:List Value} {hs:List Hd},AreHd h vs hs->vs.length=hs.length
 |_,_,.nil=>rfl
 |_,_,.cons _ t=>by simp [t.length]
theorem AreHd.keep {h h':Heap} (k: ∀b o,h.get? b=some o->o.cls= .type "tuple" ->h'.get? b=some o): ∀ {vs:List Value} {hs:List Hd},AreHd h vs hs->AreHd h' vs hs
 |_,_,.nil=> .nil
 |_,_,.cons x t=> .cons (x.keep k) (t.keep k)
theorem AreHd.get {h:Heap}: ∀ {vs:List Value} {hs:List Hd} {i:Nat} {a:Hd},AreHd h vs hs->hs[i]?=some a->IsHd h (vs.getD i ab9) a
 |_,_,0,a,.cons x t,e=>by simp at e;subst e;simpa using x
 |_,_,i+1,a,.cons x t,e=>by simpa using t.get (by simpa using e)
theorem AreHd.tups {h:Heap}: ∀ {vs:List Value} {hs:List Hd},AreHd h vs hs-> ∃fs,KatTups h vs fs/\fs.length=vs.length/\ ∀f∈fs,∃z t,f= .str z t
 |_,_,.nil=>⟨[],KatTups.nil,rfl,fun _ z=>nomatch z⟩
 |_,_,.cons x r=>by
  obtain ⟨fs,k1,k2,k3⟩:=r.tups;obtain ⟨b,o,n,t,u,rfl,ho,hc,hd⟩:=x
  exact ⟨_::fs,KatTups.cons ho hc hd rfl k1,by simp [k2],fun f hf=>by
   rcases aam.mp hf with rfl|hf
   · exact ⟨_,_,rfl⟩
   · exact k3 f hf⟩
def vf {M:Model} {h:Heap} {z:Str} {t:Tok}:Looks M h (typeOf (.str z t)) (.type "str"):=Looks.of_pure rfl
def Vo {P:PySem.Fin->aaf->Prop} {a:Addr} {vs:List Value} {hs:List Hd} {n:Nat} (ho:s.heap.get? a=some (adB "list" vs.toArray n)) (hv:AreHd s.heap vs hs) (nd:hs.Nodup) (h2:2<=vs.length) (h64:vs.length<64)
   (h: ∀p h' c,Pm p vs.length->Up (hltI hs) p vs.length->(∀b o,b≠a->s.heap.get? b=some o->h'.get? b=some o)->h'.get? a=some (adB "list" (adq (Yj vs p)) c)->P (.done (.ret .none)) {s with heap:=h'}):
   wpAny (model prog w) A (ab3.«list.sort» ⟨[.ref a],[]⟩) P E s:=by
 have hl:=hv.length
 have keep: ∀b o,s.heap.get? b=some o->o.cls= .type "tuple" ->(zW s.heap a vs).get? b=some o:=fun b o e hc=>Jy (fun z=>by
   subst z;rw [ho] at e;cases e;simp [adB] at hc) e
 have hv2:=hv.keep keep;obtain ⟨fs,k1,k2,k3⟩:=hv2.tups;refine Z7 (by rw [hl];exact kH nd) (tuples' (acC "str" !=acC "tuple")) ho h2 h64 (fun Q q=>?_) (fun i j C hi hj hC=>?_) h
 · exact kat_kind k1 (by omega) (fun f hf=>by obtain ⟨z,t,rfl⟩:=k3 f hf;exact vf) rfl q
 · have hi':i<hs.length:=by omega
   have hj':j<hs.length:=by omega
   obtain ⟨b,o,m,t,u,e1,ho1,_,hd1⟩:=hv2.get (aae hi');obtain ⟨b',o',m',t',u',e2,ho2,_,hd2⟩:=hv2.get (aae hj');show wpAny _ _ (keyLt' _ (vs.getD i ab9) (vs.getD j ab9)) C _ _;rw [e1,e2];refine je6 ho1 hd1 ho2 hd2 ?_;have:hltI hs i j=hlt hs[i] hs[j]:=by unfold hltI;rw [aae hi',aae hj']
   rw [←this];exact hC
end
section
variable {prog:aaH} {w:World} {A:aa3} {E:X6} {s:aaf} {a:Addr} {vs:List Value} {n:Nat}
def uW {P:PySem.Fin->aaf->Prop} (ho:s.heap.get? a=some (adB "list" vs.toArray n)) (h2:vs.length<2)
  (h: ∀h' c,(∀b o,b≠a->s.heap.get? b=some o->h'.get? b=some o)->h'.get? a=some (adB "list" vs.toArray c)->P (.done (.ret .none)) {s with heap:=h'}):
  wpAny (model prog w) A (ab3.«list.sort» ⟨[.ref a],[]⟩) P E s:=by
 obtain ⟨c1,b1⟩: ∃c1,(s.heap.update a (acn fun _=>(#[]:Array Value))).get? a=some (adB "list" #[] c1):=⟨_,aeo ho fun _=> #[]⟩
 have b2:(zW s.heap a vs).get? a=some (adB "list" #[] c1):=aad _ (aad _ b1);have big:vs.length<=aah:=by rw [abR];omega
 rw [list_sort_plain];refine aaa (listItems_at ho rfl (aaa (listUpdate_at ho rfl (aaa (seqEpoch_at b1 rfl (aaa (wpAny_newTuple (aaa (wpAny_newList (aa4 ?_) (aba _))) (by show vs.length<=aah;exact big))))) (by rw [aag];exact big) (aba _))));dsimp only;have small:vs.toArray.size<2:=by rw [aag];omega
 rw [if_pos small,if_pos small];refine aaa (aac (aaa (aac ?_)));dsimp only
 have hout:(arrOf (SortSt.mk' general' (vs.toArray.zip vs.toArray) #[] 7 none)).map (·.2)=vs.toArray:=by
  apply ae0.mp;simp [List.map_snd_zip]
 rw [hout];obtain ⟨c2,hc2⟩: ∃c2,((zW s.heap a vs).update a (acn fun _=>vs.toArray)).get? a=some (adB "list" vs.toArray c2):=⟨_,aeo b2 fun _=>vs.toArray⟩
 refine aaa (seqEpoch_at b2 rfl (aaa (listUpdate_at b2 rfl ?_ (aba _) (by rw [aag];exact Nat.le_succ_of_le big))));simp;exact aac (h _ c2 (fun b o hb e=>(abi _ _ (acD hb)).trans (Jy hb e)) hc2)
end
def insH (a:Hd):List Hd->List Hd
 | []=>[a]
 |b::r=>if hlt a b=true then a::b::r else b::insH a r
def qJ (hs:List Hd):List Hd:=hs.foldr insH []
theorem QQ (a:Hd): ∀l,(insH a l).Perm (a::l)
 | []=>ab6 _
 |b::r=>by
  unfold insH
  split
  · exact ab6 _
  · exact ((QQ a r).cons b).trans (List.Perm.swap a b r)
theorem qD: ∀hs,(qJ hs).Perm hs
 | []=>ab6 _
 |a::r=>(QQ a (qJ r)).trans ((qD r).cons a)
theorem vA {a:Hd}: ∀ {l:List Hd},l.Pairwise (fun x y=>hlt x y=true)->a∉l->(insH a l).Pairwise (fun x y=>hlt x y=true)
 | [],_,_=>by simp [insH]
 |b::r,h,hn=>by
  have h':=acu.mp h;unfold insH
  by_cases e:hlt a b=true
  · rw [if_pos e];refine acu.mpr ⟨fun c hc=>?_,h⟩;rcases aam.mp hc with z|z
    · rw [z];exact e
    · exact Xr e (h'.1 c z)
  · rw [if_neg e];have hab:a≠b:=fun z=>hn (by simp [z])
    have hba:=(Xs hab).resolve_left e;refine acu.mpr ⟨fun c hc=>?_,vA h'.2 fun z=>hn (by simp [z])⟩;rcases aam.mp ((QQ a r).mem_iff.mp hc) with z|z
    · rw [z];exact hba
    · exact h'.1 c z
theorem Qc: ∀ {hs:List Hd},hs.Nodup->(qJ hs).Pairwise (fun x y=>hlt x y=true)
 | [],_=>List.Pairwise.nil
 |a::r,h=>by
  have h':=ab0.mp h;exact vA (Qc h'.2) fun z=>h'.1 ((qD r).mem_iff.mp z)
theorem Qk: ∀ {l m:List Hd},l.Pairwise (fun x y=>hlt x y=true)->m.Pairwise (fun x y=>hlt x y=true)->l.Perm m->l=m
 | [],m,_,_,p=>(List.nil_perm.mp p).symm
 |a::l,[],_,_,p=>by have:=p.length_eq;simp at this
 |a::l,b::m,hl,hm,p=>by
  have hl':=acu.mp hl;have hm':=acu.mp hm
  have e:a=b:=by
   by_cases z:a=b
   · exact z
   · have h1:a∈b::m:=p.mem_iff.mp (by simp);have h2:b∈a::l:=p.mem_iff.mpr (by simp);have h1':=(aam.mp h1).resolve_left z;have h2':=(aam.mp h2).resolve_left fun y=>z y.symm
     have x1:=hl'.1 b h2';have x2:=hm'.1 a h1';rw [KD x1] at x2;cases x2
  subst e;rw [Qk hl'.2 hm'.2 (List.perm_cons a|>.mp p)]
inductive F2 {α β:Type} (R:α->β->Prop):List α->List β->Prop where
 |nil:F2 R [] []
 |cons {a b as bs}:R a b->F2 R as bs->F2 R (a::as) (b::bs)
theorem F2.length {α β:Type} {R:α->β->Prop}: ∀ {as:List α} {bs:List β},F2 R as bs->as.length=bs.length
 |_,_,.nil=>rfl
 |_,_,.cons _ t=>by simp [t.length]
theorem F2.get {α β:Type} {R:α->β->Prop} {a0:α} {b0:β}: ∀ {as:List α} {bs:List β} {i:Nat},F2 R as bs->i<bs.length->R (as.getD i a0) (bs.getD i b0)
 |_,_,0,.cons x t,_=>by simpa using x
 |_,_,i+1,.cons x t,h=>by simpa using t.get (by simpa using h)
theorem F2.map {α β γ:Type} {R:α->β->Prop} {f:γ->α} {g:γ->β}: ∀ {l:List γ},(∀x∈l,R (f x) (g x))->F2 R (l.map f) (l.map g)
 | [],_=> .nil
 |x::l,h=> .cons (h x (by simp)) (F2.map fun y hy=>h y (by simp [hy]))
def kF {hs:List Hd} {p:Array Nat} (nd:hs.Nodup) (hp:Pm p hs.length) (hu:Up (hltI hs) p hs.length):p.toList.map (fun i=>hs.getD i ("",0))=qJ hs:=by
 have hmem: ∀i∈p.toList,i<hs.length:=fun i hi=>aaU.mp (hp.perm.mem_iff.mp hi)
 refine Qk ?_ (Qc nd) ?_
 · rw [adR,abD];intro i j hi hj hij;have hl:p.toList.length=hs.length:=by rw [aas,hp.size]
   have:=hu i j hij (by omega);have e1:at0 p i=p.toList[i]:=by simp [at0,aeN,hp.size,show i<hs.length by omega]
   have e2:at0 p j=p.toList[j]:=by simp [at0,aeN,hp.size,show j<hs.length by omega]
   rw [e1,e2] at this;have b1:=hmem _ (abk hi);have b2:=hmem _ (abk hj);unfold hltI at this;rw [aae b1,aae b2] at this;rw [abC,abC,aae b1,aae b2];exact this
 · have h1:=hp.perm.map (fun i=>hs.getD i (("" :Str),(0:Int)))
   have h2:(aa8 hs.length).map (fun i=>hs.getD i ("",0))=hs:=by
    apply ac0;intro i
    by_cases hi:i<hs.length
    · simp [hi]
    · rw [aaP (by simp;omega),aaP (by omega)]
   rw [h2] at h1;exact h1.trans (qD hs).symm
def UL {hs:List Hd} (h:hs.length<2):qJ hs=hs:=by
 match hs,h with
 | [],_=>rfl
 | [a],_=>rfl
section
variable {prog:aaH} {w:World} {A:aa3} {E:X6} {s:aaf} {a:Addr} {vs:List Value} {n:Nat}
def uX {P:PySem.Fin->aaf->Prop} {hs:List Hd} (ho:s.heap.get? a=some (adB "list" vs.toArray n)) (hv:AreHd s.heap vs hs) (nd:hs.Nodup) (h64:vs.length<64)
   (h: ∀(us:List Value) h' c,(∀R:Value->Hd->Prop,F2 R vs hs->F2 R us (qJ hs))->(∀b o,b≠a->s.heap.get? b=some o->h'.get? b=some o)->h'.get? a=some (adB "list" us.toArray c)->P (.done (.ret .none)) {s with heap:=h'}):
   wpAny (model prog w) A (ab3.«list.sort» ⟨[.ref a],[]⟩) P E s:=by
 have hl:=hv.length
 by_cases h2:vs.length<2
 · exact uW ho h2 fun h' c k e=>h vs h' c (fun R r=>by rw [UL (by omega)];exact r) k e
 · refine Vo ho hv nd (by omega) h64 fun p h' c hp hu k e=>h _ h' c (fun R r=>?_) k e
   rw [hl] at hp hu;rw [←kF nd hp hu];exact F2.map fun i hi=>r.get (aaU.mp (hp.perm.mem_iff.mp hi))
end
section
variable {prog:aaH} {w:World} {A:aa3} {E:X6} {t:aaf} {vs:List Value} {hs:List Hd}
def Ql {Q:X6} (hv:AreHd t.heap vs hs) (nd:hs.Nodup) (h64:vs.length<64)
  (h: ∀(us:List Value) h' c,(∀R:Value->Hd->Prop,F2 R vs hs->F2 R us (qJ hs))->(∀b o,t.heap.get? b=some o->h'.get? b=some o)->h'.get? t.heap.objs.size=some (adB "list" us.toArray c)->Q (.ref t.heap.objs.size) {t with heap:=h'}):
  wpAny (model prog w) A (newList vs>>=fun l=>ad4 [l] (call (.builtin "list.sort") [l] [])>>=fun _=>ret l) (fun fin s'=> ∃v,fin= .done (.ret v)/\Q v s') E t:=by
 have hoL:(t.heap.push (adB "list" vs.toArray 0)).get? t.heap.objs.size=some (adB "list" vs.toArray 0):=aaq _ rfl;refine aaa (wpAny_newList (aaa (aa4 ?_)) (by rw [abR];omega));refine abl slot_list_sort ⟨_,hoL,rfl⟩ entry_list_sort ?_ (args_list_sort _);refine uX hoL (hv.keep fun b o e _=>aad _ e) nd h64 fun us h' c r k e=>⟨_,rfl,aac ⟨_,rfl,h us h' c r (fun b o e2=>k b o (fun z=>?_) (aad _ e2)) e⟩⟩
 exact abE _ (by have:=aav e2;rw [z] at this;exact this)
end
end M
namespace M
open PySem PySem.Spec L2
open PyProof.Rows hiding St
section
variable {X:Cx}
def HdV (H:Hp) (x:V) (a:Hd):Prop:= ∃b,x= .ref b/\H b=some (.tup [.str a.1,.int a.2])
theorem jc1 {pins:List (Addr×Obj)} {σ:L2.St} {H:Hp} {s:aaf} (I:Inv X pins σ H s): ∀ {ys:List V} {its:List Value} {hs:List Hd},Vals ys its->F2 (HdV H) ys hs->AreHd s.heap its hs/\F2 (fun v a=> ∃b,v=aaJ b/\H b=some (.tup [.str a.1,.int a.2])) its hs
 |_,_,_,.nil,.nil=>⟨.nil,.nil⟩
 |_,_,_,.cons r rs,.cons x xs=>by
  obtain ⟨h1,h2⟩:=jc1 I rs xs;obtain ⟨b,rfl,hb⟩:=x;cases r;obtain ⟨_,its,rv,o,ho,hc,n,hd⟩:=(show ObjOk X.prog X.w H s.heap b (.tup _) from I.hok b _ hb)
  cases rv with
  |cons q1 q2=>
   cases q2 with
   |cons q3 q4=>
    cases q4;obtain ⟨t,rfl⟩:=q1;obtain ⟨u,rfl⟩:=q3;exact ⟨.cons ⟨b,o,n,t,u,rfl,ho,hc,hd⟩ h1,.cons ⟨b,rfl,hb⟩ h2⟩
theorem uJ {H:Hp}: ∀ {us:List Value} {hs:List Hd},F2 (fun v a=> ∃b,v=aaJ b/\H b=some (.tup [.str a.1,.int a.2])) us hs-> ∃xs,Vals xs us/\F2 (HdV H) xs hs
 |_,_,.nil=>⟨[],.nil,.nil⟩
 |_,_,.cons ⟨b,e,hb⟩ t=>by
  obtain ⟨xs,h1,h2⟩:=uJ t;subst e;exact ⟨.ref b::xs,.cons rfl h1,.cons ⟨b,rfl,hb⟩ h2⟩
end
def vm:List D->Option (List Key)
 | []=>some []
 |d::r=>match keyD d,vm r with
  |some k,some ks=>some (k::ks)
  |_,_=>none
def keyT:D->Option (List Key)
 | .tup ds=>vm ds
 |_=>none
def hasT (ks:List (List Key)) (k:List Key):Bool:=ks.any fun x=>decide (x=k)
def Vz (ks:List (List Key)) (k:List Key):List (List Key):=if hasT ks k=true then ks else ks++[k]
def VA (ks:List (List Key)) (ds:List D) (k:List Key) (d:D):List D:=if hasT ks k=true then (ks.zip ds).map (fun p=>if p.1=k then d else p.2) else ds++[d]
section
variable {K:aab} {A:X7} {H:Hp}
theorem Kv: ∀ {vs:List V} {ds:List D} {ks:List Key},Reps K A H vs ds->vm ds=some ks->vs=ks.map kV
 |_,_,ks,.nil,h=>by cases h;rfl
 |_,_,ks,.cons r t,h=>by
  rename_i v d vs ds;unfold vm at h
  cases e1:keyD d with
  |none=>rw [e1] at h;cases h
  |some k=>
   cases e2:vm ds with
   |none=>rw [e1,e2] at h;cases h
   |some r'=>
    rw [e1,e2] at h;cases h;rw [vp r e1,Kv t e2];rfl
def jaO {y:V} {d:D} {k:List Key} (r:Rep K A H y d) (h:keyT d=some k): ∃b,y= .ref b/\H b=some (.tup (k.map kV)):=by
 cases r with
 |tup e rs=>exact ⟨_,rfl,by rw [e,Kv rs h]⟩
 |_=>cases h
def jbv (kvs:List (List Key×V)) (k:List Key):(kvs.any fun kv=>decide (kv.1=k))=hasT (kvs.map (·.1)) k:=by
 unfold hasT;rw [List.any_map];rfl
theorem WT {v:V} {d:D} (k:List Key) (rv:Rep K A H v d): ∀ {kvs:List (List Key×V)} {ds:List D},Reps K A H (kvs.map (·.2)) ds->Reps K A H ((kvs.map (fun kv=>if kv.1=k then (kv.1,v) else kv)).map (·.2)) (((kvs.map (·.1)).zip ds).map (fun p=>if p.1=k then d else p.2))
 | [],_,.nil=> .nil
 | (k',v')::kvs,_,.cons r1 r2=>by
  have ih:=WT k rv r2
  by_cases hk:k'=k
  · simp only [aaN,acr,hk,if_true];exact .cons rv (by simpa [hk] using ih)
  · simp only [aaN,acr,hk,if_false];exact .cons r1 ih
def jab {v:V} {d:D} {kvs:List (List Key×V)} {ds:List D} (k:List Key) (r:Reps K A H (kvs.map (·.2)) ds) (rv:Rep K A H v d):
   (putK kvs k v).map (·.1)=Vz (kvs.map (·.1)) k/\Reps K A H ((putK kvs k v).map (·.2)) (VA (kvs.map (·.1)) ds k d):=by
 unfold putK Vz VA;rw [jbv]
 by_cases h:hasT (kvs.map (·.1)) k=true
 · rw [if_pos h,if_pos h,if_pos h];refine ⟨?_,WT k rv r⟩;rw [acs];apply List.map_congr_left;intro p _;simp
   split<;>rfl
 · rw [if_neg h,if_neg h,if_neg h];refine ⟨by simp,?_⟩;rw [abM];exact r.append (.cons rv .nil)
def Rep.ditE {v:V} {ks:List (List Key)} {ds:List D} (r:Rep K A H v (.dit ks ds)): ∃a kvs,v= .ref a/\H a=some (.dT kvs)/\A a/\kvs.map (·.1)=ks/\Reps K (fun c=>A c/\c≠a) H (kvs.map (·.2)) ds:=by
 cases r with
 |dit e a k1 k2 r=>subst k2;exact ⟨_,_,rfl,e,a,k1,r⟩
end
def jcw {K:aab} {G:X7} {H0 H:Hp} {env:Sl} {σ:L2.St} {i:Nat} {ks:List (List Key)} {ds:List D} (k:EnvOk K G H0 env σ H) (hi:env[i]?=some (.own (.dit ks ds))): ∃a kvs,σ[i]?=some (some (.ref a))/\H a=some (.dT kvs)/\kvs.map (·.1)=ks/\Reps K (Sf G env σ) H (kvs.map (·.2)) ds:=by
 obtain ⟨a,h1,h0,h2⟩:=k.own i _ hi
 cases h2 with
 |dit e k1 k2 r=>subst k2;exact ⟨a,_,h1,e,k1,r⟩
def ownT (i:Nat) (env:Sl):Res (List (List Key)×List D):=match env[i]? with
 |some (.own (.dit ks ds))=> .ok (ks,ds)
 |_=> .stuck
def jar {i:Nat} {env:Sl} {p:List (List Key)×List D} (h:ownT i env= .ok p):env[i]?=some (.own (.dit p.1 p.2)):=by
 unfold ownT at h
 split at h
 · cases h;assumption
 · cases h
section
variable {X:Cx} {K:aab} {l1 l2:Lv} {e1 e2:Expr} {fk fv:T5} {pos cpos apos p:Pos} {x:Str}
def cDT:Sl->Res D:=fun _=> .ok (.dit [] [])
def ui:DE X .t (.Dict [] [] pos) cDT:=by
 with_unfolding_all exact (PE.imp jam fun σ H Q=>by
  rintro ⟨G,H0,env,d,k,ef,q⟩;cases ef
  exact fun p hp=>q _ _ (Same.upd hp) (.dit jo (k.new p hp) rfl rfl .nil) (j9 (Same.refl H) hp))
def Uf (i:Nat) (fk fv:T5):Sl->Res Out:=fun env=>ownT i env>>=fun q=>fv env>>=fun d=>fk env>>=fun kd=>match keyT kd with
 |some k=>must (q.1.length<aah) (.ok (.nx (env.set i (.own (.dit (Vz q.1 k) (VA q.1 q.2 k d))))))
 |none=> .stuck
def jbi (i:Nat) (hu:X.A.units+1<cLine) (hk:DE X l1 e1 fk) (hv:DE X .s e2 fv) (hN:X.N[i]?=some x:=by rfl) (hvs:Vis X.env.scope x:=by first|exact acj rfl|exact abB (acj rfl)|exact abB (abB rfl))
   (hd:ZI x:=by decide) (hcd:Y9 x:=by decide)
   (hs:acp e2 (some (.Subscript (.Name x p) e1 apos)) pos.line X.env=pure false:=by rfl):
   DS X (.Assign [.Subscript (.Name x p) e1 apos] e2 pos) (Uf i fk fv):=by
 with_unfolding_all exact (
  PS.imp (kr hu (wW hN hvs hd hcd) hk hv hs) fun E σ H=>by
   rintro ⟨G,H0,env,o,k,ef,q⟩;obtain ⟨ks,c1,ef⟩:=je ef;obtain ⟨d,c2,ef⟩:=je ef;obtain ⟨kd,c3,c4⟩:=je ef;have hi:=jar c1;obtain ⟨a,kvs,ha,hx,hkk,rs⟩:=jcw k hi
   cases hkey:keyT kd with
   |none=>rw [hkey] at c4;cases c4
   |some kk=>
    rw [hkey] at c4;obtain ⟨hz,c5⟩:=jr c4;cases c5;refine ⟨G,H0,env,d,k,c2,fun v H1 s1 r1 _=>⟨.ref a,ha,G,H0,env,kd,k.grow s1,c3,fun y H2 s2 r2 _=>?_⟩⟩;have hx2:=s2 _ _ (s1 _ _ hx);obtain ⟨b,rfl,hb⟩:=jaO (r2.weak Lv.weak_b) hkey;have hl:kvs.length<aah:=by rw [←hkk,aak] at hz;exact hz
    refine ⟨a,_,rfl,DPut.t hx2 hb hl,?_⟩;obtain ⟨p1,p2⟩:=jab kk ((rs.grow s1).grow s2) (r1.grow s2);rw [hkk] at p1 p2;have W:=((k.grow s1).grow s2).writeG hi ha hx2 trivial fun A' H' st e w=> .dit e p1 rfl (p2.stay st w)
    exact q σ _ W.1 ((W.2.grow s2).grow s1))
def hdOf:D->Option Hd
 | .tup [.str z,.int k]=>some (z,k)
 |_=>none
def hdD (a:Hd):D:= .tup [.str a.1,.int a.2]
def Wg:List D->Option (List Hd)
 | []=>some []
 |d::r=>match hdOf d,Wg r with
  |some a,some as=>some (a::as)
  |_,_=>none
def jd7 (hs:List Hd):Bool:=hs.all fun a=>decide (a.1.length<=aah)
theorem je4 {A:X7} {H:Hp}: ∀ {vs:List V} {ds:List D} {hs:List Hd},Reps K A H vs ds->Wg ds=some hs->F2 (HdV H) vs hs/\ ∀a∈hs,a.1.length<=aah
 |_,_,hs,.nil,h=>by cases h;exact ⟨.nil,fun _ z=>nomatch z⟩
 |_,_,hs,.cons r t,h=>by
  rename_i v d vs ds;unfold Wg at h
  cases e1:hdOf d with
  |none=>rw [e1] at h;cases h
  |some a=>
   cases e2:Wg ds with
   |none=>rw [e1,e2] at h;cases h
   |some as=>
    rw [e1,e2] at h;cases h;obtain ⟨h1,h2⟩:=je4 t e2;unfold hdOf at e1
    split at e1
    · cases e1;obtain ⟨b,xs,rfl,hb,rs⟩:=r.tupE;obtain ⟨v1,v2,rfl,q1,q2⟩:=rs.two;obtain ⟨rfl,hz⟩:=q1.strE;cases q2.intE;refine ⟨.cons ⟨b,rfl,hb⟩ h1,fun c hc=>?_⟩;rcases aam.mp hc with z|z
      · rw [z];exact hz
      · exact h2 c z
    · cases e1
theorem YD {A:X7} {H:Hp}: ∀ {vs:List V} {hs:List Hd},F2 (HdV H) vs hs->(∀a∈hs,a.1.length<=aah)->Reps K A H vs (hs.map hdD)
 |_,_,.nil,_=> .nil
 |_,_,.cons ⟨b,e,hb⟩ t,h=>by
  subst e;exact .cons (.tup hb (.cons (.str _ (h _ (by simp))) (.cons (.int _) .nil))) (YD t fun a ha=>h a (by simp [ha]))
end
def hdK (a:Hd):List Key:=[.inr a.1,.inl a.2]
section
variable {X:Cx} {K:aab}
theorem Zn {H:Hp}: ∀ {kvs:List (List Key×V)} {xs:List (List Key×Addr×Value)} {hs:List Hd},KT H kvs xs->kvs.map (·.1)=hs.map hdK->F2 (HdV H) (xs.map fun q=>V.ref q.2.1) hs
 |_,_,hs,.nil,e=>by
  cases hs with
  |nil=>exact .nil
  |cons a r=>cases e
 |_,_,hs,.cons h t,e=>by
  cases hs with
  |nil=>cases e
  |cons a r=>
   simp at e;refine .cons ⟨_,rfl,?_⟩ (Zn t e.2);rw [h.2.1,e.1];rfl
theorem Qt: ∀(l:List Addr),Vals (l.map V.ref) (l.map aaJ)
 | []=> .nil
 |a::l=> .cons rfl (Qt l)
def XH (hc:X.calm=true):CallR X (.builtin "sorted") (fun xs H Q=> ∃a kvs hs,xs=[.ref a]/\H a=some (.dT kvs)/\kvs.map (·.1)=hs.map hdK/\hs.Nodup/\hs.length<64/\ ∀l us,H l=none->F2 (HdV H) us (qJ hs)->Q (.ref l) (upd H l (.lst us))):=by
 intro pins s σ H xs us Q I r h;obtain ⟨a,kvs,hs,rfl,ha,hk,nd,h64,q⟩:=h;obtain ⟨u,rfl,rx⟩:=J5 r;cases rx;obtain ⟨hz,lo,ys,hp,o,es,ep,ho,hx,hd,he,_⟩:=(show ObjOk X.prog X.w H s.heap a (.dT kvs) from I.hok a _ ha)
 have hF:=Zn hp hk
 have hV:Vals (ys.map fun q=>V.ref q.2.1) (ys.map fun q=>aaJ q.2.1):=by
  have:=Qt (ys.map fun q=>q.2.1);simpa [acs,aeO] using this
 obtain ⟨hA,hR⟩:=jc1 I hV hF;have hlen:ys.length=hs.length:=by simpa using hF.length
 have hD:DAt s.heap a (ys.map fun q=>aaJ q.2.1) ep:=⟨o,es,ho,hx,hd,by rw [he,acs];rfl⟩
 refine Calls.call_function_entry kind_sorted plain_sorted entry_sorted (args_sorted1 _) ?_;unfold ab3.«sorted»;refine aaa (aac (aaa (PySem.W.kdu_collect (jdv lo) (show X.A.in1.handled=none from I.ok.hd hc) hD (by rw [aak,abR];omega) fun h' tk acc hkp hacc=>?_)))
 have hacc2:acc.toList=ys.map fun q=>aaJ q.2.1:=by
  apply ac0;intro i;have hl:acc.toList.length=(ys.map fun q=>aaJ q.2.1).length:=by rw [aas];exact hacc.1
  by_cases hi:i<acc.toList.length
  · rw [aae hi];exact (hacc.2 i _ (by rw [←aar];exact aae hi)).symm
  · rw [aaP (by omega),aaP (by omega)]
 rw [hacc2];refine Ql (hA.keep fun b o e _=>hkp b o e) nd (by rw [aak];omega) fun us h2 c hRR k e=>?_
 obtain ⟨zs,v1,v2⟩:=uJ (hRR _ hR);have I1:Inv X pins σ H {s with heap:=h',toks:=tk}:=I.kept hkp
 have hl2:zs.length<=aah:=by
  have a1:=v2.length;have a2:=(qD hs).length_eq;rw [abR];omega
 exact ⟨.ref _,_,I1.laid k (aai _) (show ObjOk X.prog X.w _ h2 _ (.lst zs) from ⟨hl2,us,c,v1,e⟩),rfl,q _ zs (I1.hok.fresh (aai _)) v2⟩
def jc2:List Key->Option Hd
 | [.inr z,.inl k]=>some (z,k)
 |_=>none
def Jh:List (List Key)->Option (List Hd)
 | []=>some []
 |d::r=>match jc2 d,Jh r with
  |some a,some as=>some (a::as)
  |_,_=>none
theorem Xv: ∀ {ks:List (List Key)} {hs:List Hd},Jh ks=some hs->ks=hs.map hdK
 | [],hs,h=>by cases h;rfl
 |d::r,hs,h=>by
  unfold Jh at h
  cases e1:jc2 d with
  |none=>rw [e1] at h;cases h
  |some a=>
   cases e2:Jh r with
   |none=>rw [e1,e2] at h;cases h
   |some as=>
    rw [e1,e2] at h;cases h;rw [Xv e2];unfold jc2 at e1
    split at e1
    · cases e1;rfl
    · cases e1
def Qm:List D->Res D
 | [.dit ks _]=>match Jh ks with
  |some hs=>must (hs.Nodup/\hs.length<64/\jd7 hs=true) (.ok (.lst ((qJ hs).map hdD)))
  |none=> .stuck
 |_=> .stuck
def Ui:WG K (fun xs H Q=> ∃a kvs hs,xs=[.ref a]/\H a=some (.dT kvs)/\kvs.map (·.1)=hs.map hdK/\hs.Nodup/\hs.length<64/\ ∀l us,H l=none->F2 (HdV H) us (qJ hs)->Q (.ref l) (upd H l (.lst us))) Qm:=by
 intro A xs H ds d Q r e q;unfold Qm at e
 split at e
 · rename_i ks vs
   cases eh:Jh ks with
   |none=>rw [eh] at e;cases e
   |some hs=>
    rw [eh] at e;obtain ⟨⟨nd,h64,hsh⟩,e2⟩:=jr e;cases e2;obtain ⟨v,rfl,r1⟩:=r.one;obtain ⟨p,kvs,rfl,hp,_,hkk,_⟩:=r1.ditE;refine ⟨p,kvs,hs,rfl,hp,by rw [hkk];exact Xv eh,nd,h64,fun l us hl hu=>q _ _ (Same.upd hl) (.lst jo (.inl hl) ?_) (j9 (Same.refl H) hl)⟩
    have hs2: ∀a∈qJ hs,a.1.length<=aah:=fun a ha=>by
     have:=aa5.mp hsh a ((qD hs).mem_iff.mp ha);simpa using this
    exact ((YD (A:=fun _=>False) hu hs2).grow (Same.upd hl)).weak fun c z=>z.elim
 · cases e
end
section
variable {prog:aaH} {w:World} {A:aa3} {E:X6} {s:aaf}
theorem Y0: ∀ {is:List Int} {us:List Value},Vals (is.map V.int) us->us.length=is.length/\ ∀i v,us[i]?=some v-> ∃t,v=aeI (is.getD i 0) t
 | [],_,.nil=>⟨rfl,fun i v h=>by cases h⟩
 |i::is,_,.cons h t=>by
  obtain ⟨a,b⟩:=Y0 t;refine ⟨by simp [a],fun j v hv=>?_⟩
  cases j with
  |zero=>
   simp at hv;subst hv;obtain ⟨t,e⟩:=h;exact ⟨t,by rw [e];rfl⟩
  |succ j=>simp at hv;simpa using b j v hv
end
def QP:List D->Option (List Int)
 | []=>some []
 | .int b::r=>(QP r).map (b:: ·)
 |_=>none
theorem JI: ∀ {ds:List D} {bs:List Int},QP ds=some bs->ds=bs.map D.int
 | [],bs,h=>by cases h;rfl
 |d::r,bs,h=>by
  cases d with
  |int b=>
   simp only [QP,acQ] at h;obtain ⟨bs',h1,rfl⟩:=h;rw [JI h1];rfl
  |_=>cases h
def vy (bs:List Int):QP (bs.map D.int)=some bs:=by
 induction bs with
 |nil=>rfl
 |cons b r ih=>simp [QP,ih]
section
variable {X:Cx} {K:aab} {l l' l2:Lv}
theorem Qs {A:X7} {H:Hp}: ∀ {bs:List Int} {xs:List V},Reps K A H xs (bs.map D.int)->xs=bs.map V.int
 | [],_,.nil=>rfl
 |b::bs,_,.cons h t=>by rw [h.intE,Qs t];rfl
variable {x:Str} {p pos kpos:Pos} {e e2:Expr} {fa f2:T5}
end
end M
namespace M
open PySem PySem.Spec L2
open PyProof.Rows hiding St
open PySem.SeqAt
section
variable {X:Cx} {K:aab}
theorem kg {A:X7} {H:Hp}: ∀ {xs:List V} {ds:List D} {us:List Value},Reps K A H xs ds->Vals xs us->us.length=ds.length/\ ∀(i:Nat) (u:Value),us[i]?=some u-> ∃x d,ds[i]?=some d/\RelV x u/\Rep K A H x d
 |_,_,_,.nil,.nil=>⟨rfl,fun i u h=>by cases h⟩
 |_,_,_,.cons r t,.cons h hs=>by
  obtain ⟨a,b⟩:=kg t hs;refine ⟨by simp [a],fun i u hu=>?_⟩
  cases i with
  |zero=>simp at hu;subst hu;exact ⟨_,_,rfl,h,r⟩
  |succ i=>simp at hu;simpa using b i u hu
def inL (ds:List D) (d:D):Bool:=ds.any fun y=>eqD y d
def rInL (K:aab) (neg:Bool):R2:=fun x y H Q=> ∃p xs ds d,y= .ref p/\SqL K H p xs/\Reps K Any H xs ds/\Rep K Any H x d/\(D.eqbs ds=true/\D.eqb d=true/\D.deps ds<=190)/\Q (.bl (if neg then !inL ds d else inL ds d)) H
open Classical in
theorem jcY {pins:List (Addr×Obj)} {s:aaf} {σ:L2.St} {H:Hp} (I:Inv X pins σ H s) (hu:X.A.units+200<cLine) {its:List Value} {xs:List V} {ds:List D} {x:V} {v:Value} {d:D} (rx:RelV x v) (rs:Reps X.K Any H xs ds) (rv:Vals xs its) (r:Rep X.K Any H x d)
   (hc:D.eqbs ds=true/\D.eqb d=true/\D.deps ds<=190): ∃e:Value->Bool,(∀y,y∈its.toArray->EqAt X.A.in1 s y v (e y))/\its.toArray.any e=inL ds d:=by
 obtain ⟨hl,hat⟩:=kg rs rv;refine ⟨fun y=>decide (∃(i:Nat) (d1:D),its[i]?=some y/\ds[i]?=some d1/\eqD d1 d=true),fun y hy=>?_,?_⟩
 · have key: ∀(i:Nat) (d1:D),its[i]?=some y->ds[i]?=some d1->EqAt X.A.in1 s y v (eqD d1 d):=fun i d1 h1 h2=>by
     obtain ⟨x1,d2,h3,h4,h5⟩:=hat i y h1;rw [h2] at h3;cases h3;have hm:=aaV h2;have hdp:=yg hm
     exact Wq I d1 X.A.in1 x1 x y v d (by
      show X.A.units+1+d1.dep<cLine
      omega) h5 h4 r rx (Qi hc.1 hm) hc.2.1
   dsimp only
   by_cases h: ∃(i:Nat) (d1:D),its[i]?=some y/\ds[i]?=some d1/\eqD d1 d=true
   · obtain ⟨i,d1,h1,h2,h3⟩:=h;have:=key i d1 h1 h2;rw [h3] at this;rw [decide_eq_true (show∃(i:Nat) (d1:D),its[i]?=some y/\ds[i]?=some d1/\eqD d1 d=true from ⟨i,d1,h1,h2,h3⟩)];exact this
   · rw [decide_eq_false h];obtain ⟨i,hi⟩:=abp.mp (show y∈its by simpa using hy);obtain ⟨x1,d2,h3,h4,h5⟩:=hat i y hi;have:=key i d2 hi h3
     have e:eqD d2 d=false:=by
      cases z:eqD d2 d with
      |false=>rfl
      |true=>exact absurd ⟨i,d2,hi,h3,z⟩ h
     rw [e] at this;exact this
 · rw [acg];unfold inL;rw [aco];simp only [List.any_toArray,aco,decide_eq_true_eq]
   constructor
   · rintro ⟨y,_,i,d1,_,h2,h3⟩;exact ⟨d1,aaV h2,h3⟩
   · rintro ⟨d1,hm,h3⟩;obtain ⟨i,hi⟩:=abp.mp hm
     have hlt:i<its.length:=by
      rw [hl];exact (aap.mp hi).1
     exact ⟨its[i],abk hlt,i,d1,aae hlt,hi,h3⟩
def jeD (hu:X.A.units+200<cLine):OpR X (abK .In) (rInL X.K false):=by
 intro pins s σ H x y v u Q I rx ry h;obtain ⟨p,xs,ds,d,rfl,hq,rs,r,hc,q⟩:=h;cases ry;obtain ⟨its,rv,pl,hz⟩:=I.list hq;obtain ⟨e,h1,h2⟩:=jcY I hu rx rs rv r hc;refine SeqAt.in_listAt e pl.isList h1 ⟨.bl _,H,I,rfl,?_⟩;rw [h2];exact q
def inLR (neg:Bool):D->D->Res D
 |d,.lst ds=>must (D.eqbs ds=true/\D.eqb d=true/\D.deps ds<=190) (.ok (.bl (if neg then !inL ds d else inL ds d)))
 |_,_=> .stuck
def jeH (neg:Bool):OpS K (rInL K neg) (inLR neg):=by
 intro x y H a b d Q ra rb e q;unfold inLR at e
 split at e
 · obtain ⟨hc,e2⟩:=jr e;cases e2;obtain ⟨p,ys,rfl,hp,_,ry⟩:=rb.lstE;exact ⟨p,ys,_,_,rfl,.of hp,ry.weak (fun _ _=>trivial),ra,hc,q _ (jgE _)⟩
 · cases e
end
end M
namespace M
open PySem PySem.Spec L2
open PyProof.Rows hiding St
def XM:abz "sorted" =some (.builtin "sorted"):=by decide+kernel
section
variable {X:Cx} {id:String} {r:List V->Hp->VK->Prop} {g:TZ} {x:Str} {p pos:Pos} {e:Expr} {es:List Expr} {fa:T0}
def zx (hc:CallR X (.builtin id) r) (hr:WG X.K r g) (hg:Gl X x) (hm:X.mg x=none) (hv:abz x=some (.builtin id))
   (ha:DA X .s (e::es) fa) (hn:x≠ "__name__" :=by decide) (hdb:ZI x:=by decide)
   (he:WS X e es:=by exact jk rfl) (hpl:Vv X pos es:=by exact jS rfl):DE X .t (.Call (.Name x p) (e::es) [] pos) (app fa g):=by
 with_unfolding_all exact (
  PE.imp (wt hc hg hm hv ha hn hdb he hpl) fun _ _ _ h=>jd3 hr h)
variable {ex:Expr} {t:T4}
end
end M
namespace M
open PySem PySem.Spec L2
mutual
def bks:D->List Int
 | .int i=>[i]
 | .tup (_::ts)=>bkss ts
 |_=>[]
def bkss:List D->List Int
 | []=>[]
 |d::r=>bks d++bkss r
end
mutual
def bare:D->D
 | .tup (x::ts)=> .tup (x::bares ts)
 |_=> .int 0
def bares:List D->List D
 | []=>[]
 |d::r=>bare d::bares r
end
theorem XQ: ∀ts,bkss ts=ts.flatMap bks
 | []=>rfl
 |d::r=>by simp [bkss,XQ r]
def jcI {ts:List D} {k:Nat} (h: ∀t∈ts,num t<=k):nums ts<=ts.length*k:=by
 induction ts with
 |nil=>simp [nums]
 |cons d r ih=>
  have h1:=h d (by simp);have h2:=ih fun t ht=>h t (by simp [ht])
  simp only [nums,aal,Nat.succ_mul];omega
theorem Wo: ∀ {ts:List D},(∀t∈ts,D.eqb t=true)->D.eqbs ts=true
 | [],_=>rfl
 |x::r,h=>by simp only [D.eqbs,aat];exact ⟨h x (by simp),Wo fun d hd=>h d (by simp [hd])⟩
theorem Q0 {k:Nat}: ∀ {ts:List D},(∀t∈ts,D.dep t<=k)->D.deps ts<=k
 | [],_=>by simp [D.deps]
 |x::r,h=>by
  simp only [D.deps];have:=h x (by simp);have:=Q0 (ts:=r) fun d hd=>h d (by simp [hd])
  omega
theorem Jp: ∀ {ts:List D},(∀t∈ts,eqD t t=true)->eqDs ts ts=true
 | [],_=>by simp [eqDs]
 |x::r,h=>by simp only [eqDs,aat];exact ⟨h x (by simp),Jp fun d hd=>h d (by simp [hd])⟩
def ins (l:List Int) (x:Int):List Int:=if x∈l then l else l++[x]
def met (l xs:List Int):List Int:=xs.foldl ins l
def Kt (l:List Int) (x:Int) (xs:List Int):met l (x::xs)=met (ins l x) xs:=rfl
def jcW {l:List Int} {x y:Int}:y∈ins l x↔y∈l\/y=x:=by
 unfold ins
 split
 · rename_i h;exact ⟨.inl,fun z=>z.elim id fun e=>by rw [e];exact h⟩
 · simp
theorem k9: ∀ {xs l:List Int} {y:Int},y∈met l xs↔y∈l\/y∈xs
 | [],l,y=>by simp [met]
 |x::xs,l,y=>by
  rw [Kt,k9,jcW];simp only [aam,or_assoc]
def dvs (n:Nat):List Int->List D
 | []=>[]
 |_::r=> .int n::dvs (n+1) r
def kys (l:List Int):List Key:=l.map afe
def ja2 (l:List Int) (x:Int):hasK (kys l) (.inl x)=decide (x∈l):=by
 induction l with
 |nil=>rfl
 |cons a l ih=>
  unfold hasK kys at ih ⊢;rw [aaN,adz,ih]
  by_cases h:a=x
  · subst h;simp
  · have:x≠a:=fun e=>h e.symm
    simp [h,this]
def jcP (l:List Int):(kys l).length=l.length:=by simp [kys]
mutual
def tk (ns:List Str):D->Bool
 | .int _=>true
 | .tup (.str z::ts)=>decide (z∈ns)&&(decide (ts.length<=9)&&tks ns ts)
 |_=>false
def tks (ns:List Str):List D->Bool
 | []=>true
 |d::r=>tk ns d&&tks ns r
end
section
variable {ns:List Str}
mutual
theorem xC {P:D->Prop} (h1: ∀i,P (.int i)) (h2: ∀z ts,z∈ns->ts.length<=9->(∀t∈ts,tk ns t=true/\P t)->P (.tup (.str z::ts))): ∀t,tk ns t=true->P t
 | .int i,_=>h1 i
 | .tup (x::ts),h=>by
  cases x with
  |str z=>
   simp only [tk,aat,decide_eq_true_eq] at h;exact h2 z ts h.1 h.2.1 (tk_ind2 h1 h2 ts h.2.2)
  |_=>simp [tk] at h
 | .tup [],h=>by simp [tk] at h
 | .non,h=>by simp [tk] at h
 | .bl _,h=>by simp [tk] at h
 | .str _,h=>by simp [tk] at h
 | .lst _,h=>by simp [tk] at h
 | .scr _,h=>by simp [tk] at h
 | .dic _ _,h=>by simp [tk] at h
 | .dit _ _,h=>by simp [tk] at h
 | .exn _,h=>by simp [tk] at h
 | .fdc _ _,h=>by simp [tk] at h
 | .hdc _ _,h=>by simp [tk] at h
 | .obj _ _ _,h=>by simp [tk] at h
 | .mem _ _,h=>by simp [tk] at h
theorem tk_ind2 {P:D->Prop} (h1: ∀i,P (.int i)) (h2: ∀z ts,z∈ns->ts.length<=9->(∀t∈ts,tk ns t=true/\P t)->P (.tup (.str z::ts))): ∀ts,tks ns ts=true-> ∀t∈ts,tk ns t=true/\P t
 | [],_,t,ht=>by cases ht
 |d::r,h,t,ht=>by
  simp only [tks,aat] at h;have a:=xC h1 h2 d h.1;have b:=tk_ind2 h1 h2 r h.2;rcases aam.mp ht with e|e
  · rw [e];exact ⟨h.1,a⟩
  · exact b t e
end
theorem jbA: ∀ {ts:List D},(∀t∈ts,tk ns t=true)->tks ns ts=true
 | [],_=>rfl
 |x::r,h=>by simp only [tks,aat];exact ⟨h x (by simp),jbA fun d hd=>h d (by simp [hd])⟩
theorem UH: ∀ {ts:List D} {t:D},tks ns ts=true->t∈ts->tk ns t=true
 |x::r,t,h,ht=>by
  simp only [tks,aat] at h;rcases aam.mp ht with rfl|ht
  · exact h.1
  · exact UH h.2 ht
def uT {z:Str} {ts:List D} (hz:z∈ns) (h:ts.length<=9) (ht: ∀t∈ts,tk ns t=true):tk ns (.tup (.str z::ts))=true:=by
 simp only [tk,aat,decide_eq_true_eq];exact ⟨hz,h,jbA ht⟩
def zM {t:D} (h:tk ns t=true):(∃i,t= .int i)\/ ∃z ts,t= .tup (.str z::ts)/\z∈ns/\ts.length<=9/\ ∀u∈ts,tk ns u=true:=by
 cases t with
 |int i=>exact .inl ⟨i,rfl⟩
 |tup ds=>
  cases ds with
  |nil=>simp [tk] at h
  |cons x ts=>
   cases x with
   |str z=>
    simp only [tk,aat,decide_eq_true_eq] at h;exact .inr ⟨z,ts,rfl,h.1,h.2.1,fun u hu=>UH h.2.2 hu⟩
   |_=>simp [tk] at h
 |_=>simp [tk] at h
def QV: ∀t,tk ns t=true->fine t=true:=xC (fun i=>rfl) fun z ts _ hl h=>by
 simp only [fine,fines,aat,decide_eq_true_eq,aal,true_and];exact ⟨by omega,Jk fun t ht=>(h t ht).2⟩
def Kg: ∀t,tk ns t=true-> ∀p∈pts t,tk ns p=true:=xC (fun i=>by simp [pts,tk]) fun z ts hz hl h=>by
 simp only [pts];intro p hp;rcases aam.mp hp with e|e
 · rw [e];exact uT hz hl fun t ht=>(h t ht).1
 · have flat: ∀us:List D,ptss us=us.flatMap pts:=fun us=>by
    induction us with
    |nil=>rfl
    |cons d r ih=>simp [ptss,ih]
   rw [flat] at e;obtain ⟨t,ht,hpt⟩:=adl.mp e;exact (h t ht).2 p hpt
def intL:List D->List Int
 | []=>[]
 | .int i::r=>i::intL r
 |_::r=>intL r
theorem Wc: ∀a b,intL (a++b)=intL a++intL b
 | [],b=>rfl
 |d::r,b=>by
  have ih:=Wc r b;cases d<;>simp [intL,ih]
def hdL:List D->List Hd
 | []=>[]
 | .tup (.str z::ts)::r=>(z,(ts.length:Int))::hdL r
 |_::r=>hdL r
def vF (z:Str) (ts r:List D):hdL (.tup (.str z::ts)::r)=(z,(ts.length:Int))::hdL r:=rfl
theorem vG: ∀ {a:List D},(∀t∈a,tk ns t=true)-> ∀x∈hdL a,x.1∈ns/\0<=x.2/\x.2<=9
 | [],_,x,hx=>by cases hx
 |d::r,h,x,hx=>by
  have ih:=vG (a:=r) fun t ht=>h t (by simp [ht])
  rcases zM (h d (by simp)) with ⟨i,rfl⟩| ⟨z,ts,rfl,hz,hl,_⟩
  · exact ih x hx
  · rw [vF] at hx;rcases aam.mp hx with e|e
    · rw [e];exact ⟨hz,by simp,by simp;omega⟩
    · exact ih x e
def hins (l:List Hd) (a:Hd):List Hd:=if a∈l then l else l++[a]
def hmet (l xs:List Hd):List Hd:=xs.foldl hins l
def jc0 {l:List Hd} {a:Hd} (h:l.Nodup):(hins l a).Nodup:=by
 unfold hins
 split
 · exact h
 · rename_i hn;refine adS.mpr ⟨h,by simp,fun x hx y hy=>?_⟩;simp at hy;rw [hy];intro e;rw [e] at hx;exact hn hx
theorem vC: ∀ {xs l:List Hd},l.Nodup->(hmet l xs).Nodup
 | [],l,h=>h
 |x::xs,l,h=>vC (xs:=xs) (jc0 h)
def jaW {l:List Hd} {a x:Hd} (h:x∈hins l a):x∈l\/x=a:=by
 unfold hins at h
 split at h
 · exact .inl h
 · simpa using h
theorem We: ∀ {xs l:List Hd} {x:Hd},x∈hmet l xs->x∈l\/x∈xs
 | [],l,x,h=> .inl h
 |y::xs,l,x,h=>by
  rcases We (l:=hins l y) h with z|z
  · rcases jaW z with z|z
    · exact .inl z
    · exact .inr (by simp [z])
  · exact .inr (by simp [z])
theorem Xe: ∀ {l m:List Hd},l.Nodup->(∀x∈l,x∈m)->l.length<=m.length
 | [],m,_,_=>by simp
 |a::l,m,h,hs=>by
  have h':=ab0.mp h;have ha:=hs a (by simp)
  have:=Xe (m:=m.erase a) h'.2 fun x hx=>by
   refine (List.mem_erase_of_ne fun e=>?_).mpr (hs x (by simp [hx]));rw [e] at hx;exact h'.1 hx
  rw [List.length_erase_of_mem ha] at this;have hpos:=List.length_pos_of_mem ha;simp;omega
def QR {l:List Hd} (h:l.Nodup) (hm: ∀x∈l,x.1∈ns/\0<=x.2/\x.2<=9):l.length<=ns.length*10:=by
 have:=Xe (m:=ns.flatMap fun z=>(aa8 10).map fun k=>(z,((k:Nat):Int))) h fun x hx=>by
  obtain ⟨h1,h2,h3⟩:=hm x hx;refine adl.mpr ⟨x.1,h1,aaD.mpr ⟨x.2.toNat,aaU.mpr (by omega),?_⟩⟩;rw [Int.toNat_of_nonneg h2]
 have e:(ns.flatMap fun z=>(aa8 10).map fun k=>(z,((k:Nat):Int))).length=ns.length*10:=by
  clear this hm h
  induction ns with
  |nil=>rfl
  |cons z r ih=>rw [List.flatMap_cons,aau,ih];simp;omega
 omega
def jc3 {a b:Hd}:hdK a=hdK b↔a=b:=by
 constructor
 · intro h;cases a;cases b;simp [hdK] at h;simp [h]
 · intro h;rw [h]
def jc4 (l:List Hd) (a:Hd):hasT (l.map hdK) (hdK a)=decide (a∈l):=by
 unfold hasT;rw [List.any_map]
 induction l with
 |nil=>rfl
 |cons b l ih=>
  rw [adz,ih];simp only [Function.comp_apply,jc3]
  by_cases h:b=a
  · subst h;simp
  · have:a≠b:=fun e=>h e.symm
    simp [h,this]
def htrs (l:List Hd):List D:=l.map fun _=> .bl true
def jek (l:List Hd) (a:Hd):Vz (l.map hdK) (hdK a)=(hins l a).map hdK/\VA (l.map hdK) (htrs l) (hdK a) (.bl true)=htrs (hins l a):=by
 unfold Vz VA hins;rw [jc4]
 by_cases h:a∈l
 · simp only [h,decide_true,if_true,true_and];clear h
   induction l with
   |nil=>rfl
   |cons b l ih=>
    simp only [htrs,aaN,acr] at ih ⊢;rw [ih];simp
 · simp [h,htrs]
theorem Zs: ∀l:List Hd,Jh (l.map hdK)=some l
 | []=>rfl
 |a::l=>by
  simp only [aaN,Jh,Zs l];rfl
theorem Xu: ∀l:List Hd,Wg (l.map hdD)=some l
 | []=>rfl
 |a::l=>by
  simp only [aaN,Wg,Xu l];rfl
def Vn {l:List Hd} {vs:List D} (h1:l.Nodup) (h2:l.length<64) (h3: ∀a∈l,a.1.length<=aah):Qm [.dit (l.map hdK) vs]= .ok (.lst ((qJ l).map hdD)):=by
 show (match Jh (l.map hdK) with|some hs=>_|none=>_)=_;rw [Zs];exact jl ⟨h1,h2,aa5.mpr fun a ha=>by simpa using h3 a ha⟩
def KR {α:Type} {f:α->D} (h: ∀a,D.eqb (f a)=true) (l:List α):D.eqbs (l.map f)=true:=Wo fun t ht=>by
 obtain ⟨a,_,rfl⟩:=aaD.mp ht;exact h a
end
end M
namespace M
open PySem PySem.Spec L2
open PyProof.Rows hiding St
def j6:abz "divmod" =some (.builtin "divmod"):=by decide+kernel
def qz:List D->Res D
 | [.int i,.int j]=>must (0<j/\j<1073741824) (.ok (.tup [.int (i/j),.int (i%j)]))
 |_=> .stuck
def zb {K:aab}:WG K (fun xs H Q=> ∃i j,xs=[.int i,.int j]/\CDiv i j/\ ∀p,H p=none->Q (.ref p) (upd H p (.tup [.int (i/j),.int (i%j)]))) qz:=by
 intro A xs H ds d Q r e q;unfold qz at e
 split at e
 · obtain ⟨hc,e2⟩:=jr e;cases e2;obtain ⟨v,v',rfl,r1,r2⟩:=r.two;cases r1.intE;cases r2.intE;exact ⟨_,_,rfl,hc,fun p hp=>q _ _ (Same.upd hp) (.tup jo (.cons (.int _) (.cons (.int _) .nil))) (j9 (Same.refl H) hp)⟩
 · cases e
section
variable {X:Cx} {pins:List (Addr×Obj)} {σ:L2.St} {H:Hp} {s:aaf}
def QN {t':Nat} {h':Heap} {i1 i2:Addr} (I:Inv X pins σ H s) (k: ∀b o,b≠i1->b≠i2->s.heap.get? b=some o->h'.get? b=some o) (f1:FpOk X pins H i1) (f2:FpOk X pins H i2):Inv X pins σ H {s with heap:=h',toks:=t'}:=by
 obtain ⟨a0,a1,_,a3,a4,a5⟩:=f1;obtain ⟨b0,b1,_,b3,b4,b5⟩:=f2;have n1: ∀b u,H b=some u->b≠i1:=fun b u e z=>by rw [z,a0] at e;cases e
 have n2: ∀b u,H b=some u->b≠i2:=fun b u e z=>by rw [z,b0] at e;cases e
 have kk: ∀b o,b∉[i1,i2]->s.heap.get? b=some o->h'.get? b=some o:=fun b o hc e=>k b o (fun z=>hc (by simp [z])) (fun z=>hc (by simp [z])) e
 refine I.step (fun b hb=>?_) (fun b o _ _ hc e _=>kk b o hc e) (fun b o _ _ hc e _=>⟨o.slots,kk b o hc e⟩) (fun _ _ _ _ n=>n)
   (fun b o hc e=>⟨o,kk b o hc e⟩) (fun _ _ e=>e) (fun _ _ _ e=>e) (fun b ps e=>⟨#[],by rw [e];simp⟩) (fun m hm=>?_) (fun b u e=>?_) I.bare
 · simp at hb;rcases hb with rfl|rfl
   · exact ⟨a3,a1,a4,a5⟩
   · exact ⟨b3,b1,b4,b5⟩
 · obtain ⟨o,es,ep,ho,r⟩:=hm;exact ⟨o,es,ep,k _ o (acD a1) (acD b1) ho,r⟩
 · refine (I.hok b u e).stay (fun c v hc q=>k c v ?_ ?_ q) (fun _ q=>q) fun _ _ q=>q
   · rcases hc with z|z
     · rw [z];exact n1 b u e
     · exact n1 c _ z
   · rcases hc with z|z
     · rw [z];exact n2 b u e
     · exact n2 c _ z
end
def ItE (K:aab) (a:Addr) (xs:List V):It:=⟨fun i H=>SqL K H a xs/\i<xs.length,fun i H v H'=> ∃p x,H p=none/\xs[i]?=some x/\v= .ref p/\H'=upd H p (.tup [.int (i:Int),x]),fun i H=>SqL K H a xs/\xs.length<=i⟩
def UF {P:aaH} {w:World} {K:aab} {elts:List Expr} {n:Nat} {pos:Pos} (a it e:Addr) (xs:List V) (hei:e≠it):Turn P w K (.Tuple elts n pos) (ItE K a xs) [e,it] e (fun i h=>(∃old,IsEnum h e it (i:Int) old)/\h.IsListIter it a i) where
 mem:=by simp
 obj:=fun i h st b hb=>by
  obtain ⟨⟨old,he⟩,o,ho,hc,hd⟩:=st;simp at hb;rcases hb with rfl|rfl
  · exact ⟨_,he,fun v z=>by cases z⟩
  · exact ⟨o,ho,fun v z=>by rw [hd] at z;cases z⟩
 keep:=fun i h h' st k=>by
  obtain ⟨⟨old,he⟩,hit⟩:=st;exact ⟨⟨old,k e (by simp) _ he⟩,hit.at fun o x=>k it (by simp) o x⟩
 item:=by
  intro X hP hw hK hc i pins s σ H E I hf st hg;subst hP hw hK;obtain ⟨hq,hi⟩:=hg;obtain ⟨its,rv,p,hz⟩:=I.list hq;have hx:=aae hi;obtain ⟨u,hu,ru⟩:=rv.get hx;obtain ⟨⟨old,he⟩,hit⟩:=st;have fe:=hf e (by simp);have fi:=hf it (by simp);refine wpAny_pyNext_enum_item he hit p.isList (by simpa using hu) hei fun h' ho hit' hT hsz hk=>?_
  refine ⟨_,rfl,wpAny_letOwnedTupleGo_enum ho fun h'' he' hs'=>?_⟩;have helt:=aav he;have hilt:it<s.heap.objs.size:=by obtain ⟨_,x,_⟩:=hit;exact aav x
  have hfr:=I.hok.fresh (aai _)
  have I1:Inv X pins σ (upd H s.heap.objs.size (.tup [.int (i:Int),xs[i]])) {s with heap:=s.heap.push {cls:= .type "tuple",data:= .seq #[.int i s.toks,u]}}:=
    I.laid (fun b o e=>aad _ e) (aai _) ⟨aaI (show 2<=20 by decide) (by decide),[.int i s.toks,u],.cons ⟨_,rfl⟩ (.cons ru .nil),⟨_,aaq _ rfl,rfl,_,rfl⟩⟩
  have fe1:FpOk X pins (upd H s.heap.objs.size (.tup [.int (i:Int),xs[i]])) e:=⟨by rw [jx (aaC helt)];exact fe.1,fe.2⟩
  have fi1:FpOk X pins (upd H s.heap.objs.size (.tup [.int (i:Int),xs[i]])) it:=⟨by rw [jx (aaC hilt)];exact fi.1,fi.2⟩
  have I2:=QN (t':=s.toks+1) I1 (fun b o hbe hbi eo=>by
    refine (hs'.2 b hbe).trans ?_
    by_cases hb:b=s.heap.objs.size
    · subst hb;rw [aaq _ rfl] at eo;rw [←eo];exact hT
    · have eo':s.heap.get? b=some o:=by
       rcases Heap.get?_push_cases eo with ⟨z,_⟩|z
       · exact absurd z hb
       · exact z
      exact hk b o hbe hbi eo') fe1 fi1
  refine ⟨.ref s.heap.objs.size,_,I2,rfl,⟨_,_,hfr,hx,rfl,rfl⟩,⟨⟨_,by simpa using he'⟩,hit'.at fun o y=>(hs'.2 it hei.symm).trans y⟩,fun b hb=>?_⟩;simp at hb;rcases hb with rfl|rfl
  · exact fe1.1
  · exact fi1.1
 done:=by
  intro X hP hw hK hc i pins s σ H E I hf st hg;subst hP hw hK;obtain ⟨hq,hi⟩:=hg;obtain ⟨its,rv,p,hz⟩:=I.list hq;obtain ⟨⟨old,he⟩,hit⟩:=st;have hl:=rv.length;refine wpAny_pyNext_enum_end (I.ok.hd hc) he hit p.isList (by simp;omega) fun h' eb=>⟨rfl,QN I (fun b o hbe hbi eo=>eb b o hbi eo) (hf e (by simp)) (hf it (by simp))⟩
 self:=fun _ _ _ _ _ st h=>let ⟨⟨_,he⟩,_⟩:=st;wpAny_pyIter_enum he h
section
variable {X:Cx} {elts:List Expr} {n:Nat} {tpos p pos:Pos} {e:Expr} {f:T5}
def j8:Nat->List D->List D
 |_,[]=>[]
 |k,d::r=> .tup [.int (k:Int),d]::j8 (k+1) r
theorem W1: ∀(k:Nat) (ds:List D),(j8 k ds).length=ds.length
 |_,[]=>rfl
 |k,d::r=>by simp [j8,W1 (k+1) r]
theorem W2: ∀(k i:Nat) (ds:List D),(j8 k ds)[i]?=(ds[i]?).map fun d=> .tup [.int ((k+i:Nat):Int),d]
 |k,i,[]=>by simp [j8]
 |k,0,d::r=>by simp [j8]
 |k,i+1,d::r=>by
  simp only [j8,abN];rw [W2 (k+1) i r];congr 1;funext d;congr 3;omega
def Uc (f:T5):Sl->Res (List D):=fun env=>f env>>=fun d=>match d with
 | .lst ds=> .ok (j8 0 ds)
 | .scr ds=> .ok (j8 0 ds)
 |_=> .stuck
def jdm (hg:Gl X "enumerate") (hm:X.mg "enumerate" =none) (h:DE X .s e f) (hs:aan [e] X.env=[(false,eval e X.env)]:=by rfl):DI X (.Tuple elts n tpos) (.Call (.Name "enumerate" p) [e] [] pos) (Uc f):=by
 have hE:PE X e (tE X.K .s f):=by with_unfolding_all exact h
 with_unfolding_all exact (show PI X (.Tuple elts n tpos) (.Call (.Name "enumerate" p) [e] [] pos) (tI X.K (Uc f)) from by
  rintro pins s σ H R I ⟨G,H0,env,ds,k,ef,q⟩;obtain ⟨d,e1,e2⟩:=je ef
  have hA:PA X [e] (tA X.K .s fun env=>f env>>=fun d=> .ok [d]):=by
   have:=qg hE wu hs;rintro ps pins s σ H Q I ⟨G,H0,env,ds,k,ef,q⟩;obtain ⟨d,c1,c2⟩:=je ef;cases c2;exact this ps pins s σ H Q I ⟨G,H0,env,d,k,c1,fun v H1 s1 r1 _=>q [v] H1 s1 (.cons r1 .nil)⟩
  refine Call_ (Xk I hg hm boot_enumerate (acW (thn (hA pos pins s σ H (fun vs H1=> ∃v,vs=[v]/\Same H H1/\Rep X.K (Sf G env σ) H1 v d) I ⟨G,H0,env,[d],k,by show (f env>>=_)=_;rw [e1];rfl,fun vs H1 s1 r1=>by obtain ⟨v,rfl,r⟩:=r1.one;exact ⟨v,rfl,s1,r⟩⟩) fun us s1 ⟨vs,H1,I1,r1,v,ev,sm,rep⟩=>?_) hs rfl));subst ev;obtain ⟨u,rfl,ru⟩:=J5 r1;have k1:=k.grow sm
  have main: ∀(a:Addr) (xs:List V) (es:List D) (P:Hp->Prop),u= .ref a->SqL X.K H1 a xs->Reps X.K (Sf G env σ) H1 xs es->ds=j8 0 es->P H1->(∀H',P H'->SqL X.K H' a xs)->(∀env' σ' H',Frm env σ H1 env' σ' H'->P H')->wpAny (model X.prog X.w) X.A (call (.type "enumerate") [u]) (fun v s1=>wpAny (model X.prog X.w) X.A (pyIter v) (PIE X pins σ (.Tuple elts n tpos) R) X.xe s1) X.xe s1:=by
   intro a xs es P eu hq rs eds p0 pq pst;subst eu;obtain ⟨its,rv,pl,hz⟩:=I1.list hq;refine call_enumerate_list pl.isList fun h' he hit hsz hk=>wpAny_pyIter_enum he ?_
   have I2:=I1.kept (t':=s1.toks) hk;refine ⟨s1.heap.objs.size+1,[s1.heap.objs.size+1,s1.heap.objs.size],_,_,H1,rfl,I2,UF a s1.heap.objs.size (s1.heap.objs.size+1) xs (Nat.succ_ne_self _),⟨⟨_,he⟩,hit⟩,fun b hb=>?_,?_⟩
   · simp at hb;rcases hb with rfl|rfl
     · exact I1.fpOk (acx _) (I1.hok.fresh (acx _))
     · exact I1.fpOk (aai _) (I1.hok.fresh (aai _))
   · refine q _ H1 P sm (fun i H' pp=>?_) p0 pst;have hl:=rs.length;subst eds;rw [W1];refine ⟨fun hi=>⟨pq H' pp,by omega⟩,fun d hd x H2 y=>?_,fun hi=>⟨pq H' pp,by omega⟩⟩;obtain ⟨p,x',hp,hx',rfl,rfl⟩:=y;obtain ⟨d',hd',rd⟩:=rs.get' hx';rw [W2,hd'] at hd;cases hd;exact .inr ⟨p,_,_,hp,rfl,rfl,rfl,.cons (by rw [ae7];exact .int _) (.cons rd .nil)⟩
  cases d with
  |lst es=>
   cases e2;obtain ⟨a,xs,rfl,ha,na,rs⟩:=rep.lstE;exact main a xs es (fun H=>H a=some (.lst xs)) ru (.of ha) rs.low rfl ha (fun H' z=> .of z) fun env' σ' H' fr=>fr.keep a _ ha na.1
  |scr es=>
   cases e2;obtain ⟨a,xs,rfl,ha,rs⟩:=rep.scrE;refine main a xs es (fun H=>LsK X.K H a xs) ru ha.sql rs rfl ha (fun H' z=>z.sql) fun env' σ' H' fr=>?_
   rcases ha with ⟨o,eo⟩|z
   · exact .inl ⟨o,fr.keep a _ eo fun ow=>(k1.mutO ow eo).elim⟩
   · exact .inr z
  |_=>cases e2)
end
end M
namespace M
open PySem PySem.Spec L2
open Classical in
noncomputable instance decD:DecidableEq D:=fun a b=>propDecidable (a=b)
end M
namespace M
open PySem PySem.Spec L2
open PyProof.Rows hiding St
def QB {P:aaH} {w:World} {H:Hp} {h:Heap} {a:Addr} {o:HO} (x:ObjOk P w H h a o): ∃ob,h.get? a=some ob:=by
 cases o with
 |lst xs=>obtain ⟨_,_,_,_,e⟩:=x;exact ⟨_,e⟩
 |tup xs=>obtain ⟨_,_,_,ob,e,_⟩:=x;exact ⟨_,e⟩
 |dK kvs=>obtain ⟨_,_,_,_,o,_,_,e,_⟩:=x;exact ⟨_,e⟩
 |dT kvs=>obtain ⟨_,_,_,_,o,_,_,e,_⟩:=x;exact ⟨_,e⟩
 |set S n=>obtain ⟨o,_,_,_,e,_⟩:=x;exact ⟨_,e⟩
 |ins C dx fs=>obtain ⟨_,_,_,e,_⟩:=x;exact ⟨_,e⟩
 |own y=>exact x
 |xd fs=>obtain ⟨_,⟨_,_,_,e,_⟩,_⟩:=x;exact ⟨_,e⟩
 |rng lo hi=>obtain ⟨_,_,_,e⟩:=x;exact ⟨_,e⟩
 |frz ob u=>obtain ⟨e,_⟩:=x;exact ⟨_,e⟩
 |tbl ps=>exact ⟨_,(show h.get? a=some _ from x)⟩
 |met f y=>exact ⟨_,(show h.get? a=some _ from x)⟩
 |ext φ=>obtain ⟨_,z,_⟩:=x;exact z
 |memo B Φ=>obtain ⟨_,_,_,_,o,_,_,e,_⟩:=x;exact ⟨_,e⟩
def CX1 (P:aaH) (w:World):CXT:=fun outer H s E e s'=> ∃(a C:Addr) (H':Hp) (B:Heap) (a0:Value),e= .ref a/\s'.os=s.os/\aeW s'.gens/\Un (frs outer) [] H H' s.heap s'.heap/\HOk P w H' s'.heap/\H' a=none/\
 Heap.FlyingW B outer a (.ref C) a0 s'.heap/\(∀b,b∉frs outer->((∃o,s.heap.get? b=some o)\/ ∃u,H' b=some u)->B.get? b=s'.heap.get? b)/\E (.ref C) none H'
section
variable {P:aaH} {w:World} {K:aab} {mg:X8} {base:Heap} {N:List Str} {qual:Str} {scope:Scope} {f:Addr} {cd:Value} {A:aa3} {outer:List Env} {s0:aaf} {H0:Hp} {E:XK}
 {pins:List (Addr×Obj)} {σ:L2.St} {H:Hp} {s:aaf}
def vi {h h' B:Heap} {a:Addr} {cls a0:Value} (I:Inv (cxOf (CX1 P w) P w K mg base N qual scope f cd A outer s0 H0 E) pins σ H {s with heap:=h})
   (fl:Heap.FlyingW B outer a cls a0 h') (inB: ∀b o,h.get? b=some o->b∉frs (cxOf (CX1 P w) P w K mg base N qual scope f cd A outer s0 H0 E).stack->((∃o,s0.heap.get? b=some o)\/ ∃u,H b=some u)->B.get? b=some o)
   (up: ∀b o,b∈frs (cxOf (CX1 P w) P w K mg base N qual scope f cd A outer s0 H0 E).stack->h.get? b=some o->(∀vs,o.data≠ .fields vs)-> ∃sl,h'.get? b=some {o with slots:=sl}):
   Un (frs outer) [] H0 H s0.heap h'/\HOk P w H h'/\ ∀b,b∉frs outer->((∃o,s0.heap.get? b=some o)\/ ∃u,H b=some u)->B.get? b=h'.get? b:=by
 have nfr: ∀b o,s0.heap.get? b=some o->b∉frs outer->b∉frs (cxOf (CX1 P w) P w K mg base N qual scope f cd A outer s0 H0 E).stack:=fun b o q hb hm=>by
   rcases aam.mp (I.stkSub b hm) with e|e
   · have h1:s0.heap.objs.size<=b:=by rw [e];exact I.ok.above
     exact abE _ (aaA (aav q) h1)
   · exact hb e
 have trk: ∀b u,H b=some u->b∉frs (cxOf (CX1 P w) P w K mg base N qual scope f cd A outer s0 H0 E).stack:=fun b u q hm=>by
   have:=I.stkFree b hm;rw [q] at this;cases this
 have B0:Un (frs outer) [] H0 H s0.heap h:=I.base;have FF:=I.stack
 have sub: ∀b∈frs outer,b∈frs (cxOf (CX1 P w) P w K mg base N qual scope f cd A outer s0 H0 E).stack:=fun b hb=>by
   show b∈frs (adX qual scope s0.heap.objs.size f cd::outer);unfold frs at hb ⊢;rw [acJ]
   split
   · exact hb
   · exact aao _ hb
 have slotOf: ∀b o,b∈frs (cxOf (CX1 P w) P w K mg base N qual scope f cd A outer s0 H0 E).stack->h.get? b=some o-> ∃sl,h'.get? b=some {o with slots:=sl}:=fun b o hb q=>by
   obtain ⟨_,o',ho',hd⟩:=FF.mem hb;rw [q] at ho';cases ho';exact up b o hb q hd
 refine ⟨⟨fun b o q n hb _=>?_,fun b o q n hb _=>?_,fun b o q n _=>B0.free b o q n (by simp),fun b o q _=>?_,B0.tups,B0.frzs,B0.tbls⟩,fun b u q=>?_,fun b hb hc=>?_⟩
 · have h1:=B0.keep b o q n hb (by simp);exact fl.1 b o (inB b o h1 (nfr b o q hb) (.inl ⟨o,q⟩))
 · obtain ⟨sl,h1⟩:=B0.slot b o q n hb (by simp);obtain ⟨sl',h2⟩:=slotOf b _ (sub b hb) h1;exact ⟨sl',h2⟩
 · obtain ⟨o',h1⟩:=B0.there b o q (by simp)
   by_cases hm:b∈frs (cxOf (CX1 P w) P w K mg base N qual scope f cd A outer s0 H0 E).stack
   · obtain ⟨sl,h2⟩:=slotOf b o' hm h1;exact ⟨_,h2⟩
   · exact ⟨o',fl.1 b o' (inB b o' h1 hm (.inl ⟨o,q⟩))⟩
 · have h0:=I.hok b u q;refine h0.stay (fun c v hc r=>?_) (fun _ z=>z) fun _ _ z=>z
   have ht: ∃u,H c=some u:=by
     rcases hc with z|z
     · rw [z];exact ⟨u,q⟩
     · exact ⟨_,z⟩
   obtain ⟨u',hu'⟩:=ht;exact fl.1 c v (inB c v r (trk c u' hu') (.inr ⟨u',hu'⟩))
 · have ht: ∃o,h.get? b=some o/\b∉frs (cxOf (CX1 P w) P w K mg base N qual scope f cd A outer s0 H0 E).stack:=by
     rcases hc with ⟨o,q⟩| ⟨u,q⟩
     · obtain ⟨o',h1⟩:=B0.there b o q (by simp);exact ⟨o',h1,nfr b o q hb⟩
     · obtain ⟨ob,h1⟩:=QB (show ObjOk P w H h b u from I.hok b u q);exact ⟨ob,h1,trk b u q⟩
   obtain ⟨o,h1,h2⟩:=ht;have h3:=inB b o h1 h2 hc;rw [h3,fl.1 b o h3]
def VQ {h:Heap} {e C:Addr} {vs:List Value} (I:Inv (cxOf (CX1 P w) P w K mg base N qual scope f cd A outer s0 H0 E) pins σ H {s with heap:=h}) (hx:Heap.MadeExcOf h s.heap e (.ref C) vs) (hE:E (.ref C) none H):
  (cxOf (CX1 P w) P w K mg base N qual scope f cd A outer s0 H0 E).xe (.ref e) s:=by
 have FF:=I.stack
 have FF2:h.FunFrames (PySem.W.hideAll h (frs (cxOf (CX1 P w) P w K mg base N qual scope f cd A outer s0 H0 E).stack)) (cxOf (CX1 P w) P w K mg base N qual scope f cd A outer s0 H0 E).stack:=
  PySem.W.funFrames_hide FF fun env he b hb=>acS.mpr ⟨env,he,hb⟩
 have hen:H e=none:=by
  cases q:H e with
  |none=>rfl
  |some u=>
   obtain ⟨ob,z⟩:=QB (show ObjOk P w H h e u from I.hok e u q);rw [hx.new] at z;cases z
 refine wpAny_leaves_madeW I.ok.frames rfl (fun b o q=>PySem.W.of_hideAll _ q) FF2 hx fun h' t fl tup hn ups=>?_
 obtain ⟨u1,u2,u3⟩:=vi I fl (fun b o q hb _=>PySem.W.hideAll_get _ q hb) fun b o hb q hd=>ups b o (hx.keeps b o q) hd
 exact ⟨e,C,H,_,_,rfl,I.os,I.bare,u1,u2,hen,fl,u3,hE⟩
def jaK {E1:XK} {e:Value} {s':aaf} (I:Inv (cxOf (CX1 P w) P w K mg base N qual scope f cd A outer s0 H0 E) pins σ H s) (c:CX1 P w (cxOf (CX1 P w) P w K mg base N qual scope f cd A outer s0 H0 E).stack H s E1 e s')
  (hE: ∀C H',E1 (.ref C) none H'->E (.ref C) none H'):(cxOf (CX1 P w) P w K mg base N qual scope f cd A outer s0 H0 E).xe e s':=by
 obtain ⟨a,C,H',B,a0,rfl,os,bare,un,hok,ha,fl,cov,hE1⟩:=c;have J:=I.call' os un hok bare fun b hb=>absurd hb (by simp)
 refine wpAny_leaves_onW J.ok.frames rfl fl fun h' fl' ups=>?_
 have B0:Un (frs outer) [] H0 H s0.heap s.heap:=I.base
 obtain ⟨u1,u2,u3⟩:=vi J fl' (fun b o q hb hc=>by
  rw [cov b hb ?_,q];rcases hc with ⟨o',z⟩|z
  · obtain ⟨o2,z2⟩:=B0.there b o' z (by simp);exact .inl ⟨o2,z2⟩
  · exact .inr z) fun b o hb q hd=>ups b o q hd
 exact ⟨a,C,H',B,a0,rfl,J.os,J.bare,u1,u2,ha,fl',u3,hE C H' hE1⟩
end
abbrev NmC (K:aab) (c:Str) (C:Addr):Prop:=aaz K aaw c=some (some (.ref C))
def XE (K:aab) (c:Str) (H:Hp):XK:=fun cls _ H'=> ∃C,cls= .ref C/\NmC K c C/\Same H H'
def ThrB (X:Cx) (c:Str) (σ:L2.St) (H:Hp):Prop:= ∀pins H1 s e s',Same H H1->Inv X pins σ H1 s->CX1 X.prog X.w X.stack H1 s (XE X.K c H1) e s'->X.xe e s'
def ThrA (X:Cx) (c:Str) (H0:Hp):Prop:= ∀pins σ H (s:aaf) h e C vs,Same H0 H->NmC X.K c C->Inv X pins σ H {s with heap:=h}->Heap.MadeExcOf h s.heap e (.ref C) vs->X.xe (.ref e) s
structure Thr (X:Cx) (c:Str) (H0:Hp):Prop where
 a:ThrA X c H0
 b: ∀σ H,Same H0 H->ThrB X c σ H
def tEX (X:Cx) (l:Lv) (f:T5):TE:=fun σ H Q=> ∃G H0 env,EnvOk X.K G H0 env σ H/\
 ((∃d,f env= .ok d/\ ∀v H',Same H H'->Rep X.K (l.A G env σ) H' v d->l.T H v->Q v H')\/ ∃c,f env= .exc c/\ThrB X c σ H)
@[irreducible] def DEX (X:Cx) (l:Lv) (e:Expr) (f:T5):Prop:=PE X e (tEX X l f)
def nx1 {α:Type} (r:Res α):Res α:=match r with
 | .ok a=> .ok a
 |_=> .stuck
def kO {α:Type} {r:Res α} {a:α} (h:nx1 r= .ok a):r= .ok a:=by
 cases r with
 |ok b=>exact h
 |exc c=>cases h
 |stuck=>cases h
def kP {α:Type} {r:Res α} {c:Str} (h:nx1 r= .exc c):False:=by
 cases r<;>cases h
def Vd {α β:Type} {r:Res α} {f:α->Res β} {c:Str} (h:(r>>=f)= .exc c):r= .exc c\/ ∃a,r= .ok a/\f a= .exc c:=by
 cases r with
 |ok a=>exact .inr ⟨a,rfl,h⟩
 |exc d=>cases h;exact .inl rfl
 |stuck=>cases h
def uy (f:T5):Sl->Res D:=fun env=>nx1 (f env)
def jda {K:aab} {h:Heap} {C:Addr} {bmB:List Value} {newId:String} (X:K.In h) (q:adC K C bmB newId=true):
   ∃bm N nm qn bs hdct sn sub ab col dd k0 k1 k2 k3 k5 mN,h.get? C=some (excClassObj nm qn C N bs bm hdct sn sub ab col dd k0 k1 k2 k3 k5 newId)/\h.Ns N mN/\mN "__init__" =none/\OwnTail h bmB bm:=by
 unfold adC at q
 split at q
 · rename_i dd cd sl ho
   split at q
   · rename_i C' bm k0 k1 k2 k3 n k5 hm hs;simp at q;obtain ⟨⟨⟨⟨⟨rfl,rfl⟩,hdel⟩,ht⟩,hok⟩,hni⟩:=q;obtain ⟨nm,bs,mro,ns,qn,hd,sn,sub,ab,col,del⟩:=cd;dsimp only at hm hdel hok hni;subst hm hdel
     have hsl:sl= #[k0,k1,k2,k3,some (.builtin n),k5]:=by
      obtain ⟨l⟩:=sl;simp only at hs;rw [hs]
     subst hsl;exact ⟨bm,ns,nm,qn,bs,hd,sn,sub,ab,col,dd,k0,k1,k2,k3,k5,_,X _ _ ho,.of_isNs (PySem.W.isNs_of_in X hok),PySem.W.nsMap_none_of_in X hok hni,PySem.W.tail_of_in X ht⟩
   · cases q
 · cases q
def Vx {X:Cx} {c:Str} {C:Addr} {bm:List Value} {B newId initId:String} {e₀:Expr} {l:Lv} {np cpos pos:Pos} {f:T5} (hC:NmC X.K c C) (hm:X.mg c=some (.ref C)) (hq:adC X.K C bm newId=true) (FB:ExcBaseFacts B newId initId bm)
   (ha:DE X l e₀ f) (hok: ∀env,∃d,f env= .ok d) (hcalm:X.calm=true) (hg:Gl X c) (hdb:ZI c)
   (he:aan [e₀] X.env=(false,eval e₀ X.env)::aan [] X.env)
   {pins:List (Addr×Obj)} {s:aaf} {σ:L2.St} {H:Hp} {E:Ends} {G:X7} {H0:Hp} {env:Sl} (I:Inv X pins σ H s) (k:EnvOk X.K G H0 env σ H) (th:ThrA X c H):
   wpAny (model X.prog X.w) X.A (exec (.Raise (some (.Call (.Name c np) [e₀] [] cpos)) none pos) X.env) (fun fl s'=>SP X pins E fl s') X.xe s:=by
 with_unfolding_all exact (by
  obtain ⟨d,hd⟩:=hok env;obtain ⟨tl,N,nm,qn,bs,hdct,sn,sub,ab,col,dd,k0,k1,k2,k3,k5,mN,hCo,hN,hni,T⟩:=jda I.ok.mod.kin hq
  refine wpAny_Raise_call_subT (nm:=nm) (q:=qn) (N:=N) (bs:=bs) (hdct:=hdct) (sn:=sn) (sub:=sub) (ab:=ab) (col:=col) (dd:=dd) (k0:=k0) (k1:=k1) (k2:=k2) (k3:=k3) (k5:=k5)
   FB (T.hasType FB.hasBase) (I.ok.hd hcalm) (by rw [he];rfl) hni (QI I hg hm ⟨rfl,?_⟩ hdb)
  rw [he];refine Calls.evalArgs_plain (Calls.spliced_cons (thn ((show PE X e₀ (tE X.K l f) from ha) pins s σ H (fun v H1=>Same H H1) I ⟨G,H0,env,d,k,hd,fun v H' s' _ _=>s'⟩) fun u s1 ⟨v,H1,I1,r,sm⟩=>Calls.spliced_nil ?_))
  exact ⟨rfl,(by decide:1<=aah),I1.bk _ _ hCo,hN.keeps I1.bk,T.keeps I1.bk,fun h' e hx=>th pins σ H1 {s1 with heap:=h'} s1.heap e C _ sm hC I1 hx⟩)
def tSY (X:Cx) (g:T3):TS:=fun E σ H=> ∃G H0 env,EnvOk X.K G H0 env σ H/\((∃o,g env= .ok o/\Post X.K G H0 env σ H E o)\/ ∃c,g env= .exc c/\ThrB X c σ H)
@[irreducible] def DSY (X:Cx) (st:Stmt) (g:T3):Prop:=PS X st (tSY X g)
@[irreducible] def DSsY (X:Cx) (st:List Stmt) (g:T3):Prop:=PSs X st (tSY X g)
section
variable {X:Cx} {e c tg:Expr} {st:Stmt} {rest body orelse:List Stmt} {pos:Pos} {l:Lv} {f:T5} {g g1 g2:T3}
def jbe (h1:DSY X st g1):DSsY X [st] g1:=by
 with_unfolding_all exact (PSs.imp (ZP h1) fun E σ H q=>q)
def jbd (h:DEX X l e f) (hs:acp e none pos.line X.env=pure false:=by rfl):DSY X (.Expr e pos) (ub f):=by
 with_unfolding_all exact (PS.imp (JF h hs) fun E σ H=>by
  rintro ⟨G,H0,env,k,q⟩;rcases q with ⟨o,ef,q⟩| ⟨c,ef,th⟩
  · obtain ⟨d,e1,e2⟩:=je ef;cases e2;exact ⟨G,H0,env,k,.inl ⟨d,e1,fun v H' s r _=>q σ H' (k.grow s) (Frm.refl s)⟩⟩
  · rcases Vd ef with e1| ⟨d,e1,e2⟩
    · exact ⟨G,H0,env,k,.inr ⟨c,e1,th⟩⟩
    · cases e2)
end
abbrev Cx.tryX (X:Cx) (E:X6) (ps:List (Addr×Obj)):Cx:={X with xe:=E,pn:=X.pn++ps}
abbrev Cx.held (X:Cx) (e:Addr):Cx:={X with xe:=fun _ _=>False,A:=X.A.mark (some (.ref e)),calm:=false}
section
variable {X:Cx} {pins ps:List (Addr×Obj)} {σ:L2.St} {H:Hp} {s:aaf} {E:X6} {e:Addr}
def jeE (ok:X.Ok):(Cx.tryX X E ps).Ok:=⟨ok.mod,ok.kind,ok.glob,ok.blt,ok.above,ok.inj,ok.has,ok.cab,ok.hd,ok.frames,ok.stk,ok.exf,ok.bs,ok.bsz,ok.noex,ok.exfs,ok.funs,ok.frf⟩
def jax (ok:(Cx.tryX X E ps).Ok):X.Ok:=⟨ok.mod,ok.kind,ok.glob,ok.blt,ok.above,ok.inj,ok.has,ok.cab,ok.hd,ok.frames,ok.stk,ok.exf,ok.bs,ok.bsz,ok.noex,ok.exfs,ok.funs,ok.frf⟩
def jcV (I:Inv X pins σ H s):Inv (Cx.tryX X E pins) [] σ H s:=⟨jeE I.ok,I.os,I.bare,I.base,I.loc,I.cell,I.free,I.freeC,fun p hp=>I.pin p (by simpa using hp),I.hok,I.len⟩
def xL (I:Inv (Cx.tryX X E pins) ps σ H s):Inv X pins σ H s:=⟨jax I.ok,I.os,I.bare,I.base,I.loc,I.cell,I.free,I.freeC,fun p hp=>I.pin p (acA _ hp),I.hok,I.len⟩
def Qb {D:Ends} {f:Flow} {s':aaf} (h:SP (Cx.tryX X E pins) [] D f s'):SP X pins D f s':=by
 cases f with
 |next=>obtain ⟨σ',H',I,q⟩:=h;exact ⟨σ',H',xL I,q⟩
 |brk=>obtain ⟨σ',H',I,q⟩:=h;exact ⟨σ',H',xL I,q⟩
 |cont=>obtain ⟨σ',H',I,q⟩:=h;exact ⟨σ',H',xL I,q⟩
 |ret u=>obtain ⟨v,σ',H',I,r,q⟩:=h;exact ⟨v,σ',H',xL I,r,q⟩
def jcD (ok:X.Ok):(Cx.held X e).Ok:=⟨ok.mod,ok.kind,ok.glob,ok.blt,ok.above,ok.inj,ok.has,ok.cab,(fun z=>nomatch z),ok.frames,ok.stk,ok.exf,ok.bs,ok.bsz,ok.noex,ok.exfs,ok.funs,ok.frf⟩
def Kz (I:Inv X pins σ H s):Inv (Cx.held X e) pins σ H s:=⟨jcD I.ok,I.os,I.bare,I.base,I.loc,I.cell,I.free,I.freeC,I.pin,I.hok,I.len⟩
def yb (ok:X.Ok) (I:Inv (Cx.held X e) pins σ H s):Inv X pins σ H s:=⟨ok,I.os,I.bare,I.base,I.loc,I.cell,I.free,I.freeC,I.pin,I.hok,I.len⟩
def Wi {M:Model} {A:aa3} {E:X6} {i:Nat} {x:Str} {pos:Pos} {Q:Unit->aaf->Prop} (I:Inv X pins σ H s) (hN:X.N.Nodup) (hi:X.N[i]?=some x) (hk:X.env.scope.names.lookup x=some .local)
   (h: ∀s',Inv X pins (σ.set i none) H s'->Q () s'):wpAny M A (do bindName X.env x .none;unbindBehindTheSuite X.env x pos) Q E s:=by
 obtain ⟨m,hn,hl⟩:=id I.loc;have hcls:(X.env.scope.kind== .class|| (X.env.scope.kind== .module&&X.env.locals !=X.env.globals))=false:=by rw [I.ok.kind];rfl
 have hiσ:i<σ.length:=by rw [I.len];exact (aap.mp hi).1
 have cne:=I.cne
 have tracked: ∀ {a:Addr} {h':Heap},(∃o,s.heap.get? a=some o/\H a=none)->abZ a s.heap h'->HOk X.prog X.w H h':=fun {a h'} ha hs b ob e=>by
   obtain ⟨_,_,hfree⟩:=ha;refine (I.hok b ob e).stay (fun c w' hc q=>(hs.2 c ?_).trans q) (fun _ q=>q) fun _ _ q=>q
   rintro rfl;rcases hc with rfl|hc
   · rw [hfree] at e;cases e
   · rw [hfree] at hc;cases hc
 refine wpAny_nameGoes_keeps hk hn hcls fun h' v hn' hs=>?_
 obtain ⟨oL,_,_,hoL,_⟩:=id hn;refine h _ ⟨I.ok,I.os,I.bare,⟨fun b o e n hb hx=>?_,fun b o e n hb hx=>?_,I.base.free,fun b o e hx=>?_,I.base.tups,I.base.frzs,I.base.tbls⟩,⟨_,hn',fun j y v' e1 e2 e3=>?_⟩,fun y c e=>?_,I.free,I.freeC,fun p hp=>?_,tracked ⟨oL,hoL,I.free⟩ hs,by simpa using I.len⟩
 · exact (hs.2 b (aaC (aaA (aav e) I.ok.above))).trans (I.base.keep b o e n hb hx)
 · obtain ⟨sl,e1⟩:=I.base.slot b o e n hb hx;exact ⟨sl,(hs.2 b (aaC (aaA (aav e) I.ok.above))).trans e1⟩
 · obtain ⟨o',e1⟩:=I.base.there b o e hx;exact ⟨o',(hs.2 b (aaC (aaA (aav e) I.ok.above))).trans e1⟩
 · by_cases hj:j=i
   · subst hj;rw [aaX hiσ] at e2;cases e2
   · rw [abj (acD hj)] at e2;obtain ⟨u',r',q⟩:=hl j y v' e1 e2 e3;refine ⟨u',r',?_⟩;rcases q with ⟨k,e⟩| ⟨k,c,e,z⟩
     · refine .inl ⟨k,?_⟩;have:y≠x:=fun e=>hj (Z4 hN e1 (e▸hi))
       simp [this,e]
     · exact .inr ⟨k,c,e,z.sameBut hs (cne y c e)⟩
 · obtain ⟨w',z⟩:=I.cell y c e;exact ⟨w',z.sameBut hs (cne y c e)⟩
 · obtain ⟨e,n,ne,nf,d⟩:=I.pin p hp;exact ⟨(hs.2 p.1 ne).trans e,n,ne,nf,d⟩
end
def vj {P:aaH} {w:World} {base:Heap} {outer:List Env} {H H':Hp} {h h1 h' B:Heap} (un:Un (frs outer) [] H H' h h1) (hok:HOk P w H' h1) (fr: ∀b∈frs outer,H' b=none)
   (cov: ∀b,b∉frs outer->((∃o,h.get? b=some o)\/ ∃u,H' b=some u)->B.get? b=h1.get? b) (FF:h1.FunFrames base outer) (st:B.StaysIn h') (up:h1.UpToSlots h'):
   Un (frs outer) [] H H' h h'/\HOk P w H' h':=by
 have slotOf: ∀b o,b∈frs outer->h1.get? b=some o-> ∃sl,h'.get? b=some {o with slots:=sl}:=fun b o hb q=>by
   obtain ⟨_,o',ho',hd⟩:=FF.mem hb;rw [q] at ho';cases ho';exact up b o q hd
 refine ⟨⟨fun b o q n hb _=>?_,fun b o q n hb _=>?_,un.free,fun b o q _=>?_,un.tups,un.frzs,un.tbls⟩,fun b u q=>?_⟩
 · have h2:=un.keep b o q n hb (by simp);exact st b o ((cov b hb (.inl ⟨o,q⟩)).trans h2)
 · obtain ⟨sl,h2⟩:=un.slot b o q n hb (by simp);obtain ⟨sl',h3⟩:=slotOf b _ hb h2;exact ⟨sl',h3⟩
 · obtain ⟨o',h2⟩:=un.there b o q (by simp)
   by_cases hm:b∈frs outer
   · obtain ⟨sl,h3⟩:=slotOf b o' hm h2;exact ⟨_,h3⟩
   · exact ⟨o',st b o' ((cov b hm (.inl ⟨o,q⟩)).trans h2)⟩
 · refine (hok b u q).stay (fun c v hc r=>?_) (fun _ z=>z) fun _ _ z=>z
   have ht: ∃u,H' c=some u:=by
     rcases hc with z|z
     · rw [z];exact ⟨u,q⟩
     · exact ⟨_,z⟩
   obtain ⟨u',hu'⟩:=ht;have nm:c∉frs outer:=fun z=>by rw [fr c z] at hu';cases hu'
   exact st c v ((cov c nm (.inr ⟨u',hu'⟩)).trans r)
section
variable {K:aab} {G:X7} {H0 H:Hp} {env:Sl} {σ:L2.St} {j:Nat}
def Qv {a:Addr} (o:jY (env.set j .un) (σ.set j none) a):jY env σ a:=by
 obtain ⟨i,d,h1,h2⟩:=o
 by_cases z:j=i
 · subst z;obtain ⟨q,_⟩:=jw h1;cases q
 · rw [jp z] at h1 h2;exact ⟨i,d,h1,h2⟩
def EnvOk.unset (k:EnvOk K G H0 env σ H):EnvOk K G H0 (env.set j .un) (σ.set j none) H:=by
 have w: ∀a,Sf G env σ a->Sf G (env.set j .un) (σ.set j none) a:=fun a n=>⟨fun o=>n.1 (Qv o),n.2⟩
 refine ⟨by simp [k.len],k.base,k.g0,fun i e h=>?_,fun i e h=>?_,fun i i' e e' a h1 h2 h3 h4=>?_⟩
 · by_cases z:j=i
   · subst z;obtain ⟨q,_⟩:=jw h;cases q
   · rw [jp z] at h ⊢;obtain ⟨v',h1,h2⟩:=k.shr i e h;exact ⟨v',h1,h2.weak w⟩
 · by_cases z:j=i
   · subst z;obtain ⟨q,_⟩:=jw h;cases q
   · rw [jp z] at h ⊢;obtain ⟨a,h1,h2,h3⟩:=k.own i e h;exact ⟨a,h1,h2,h3.stay (fun _ _ e _=>e) w fun _ q=>q⟩
 · have n1:j≠i:=by rintro rfl;obtain ⟨q,_⟩:=jw h1;cases q
   have n2:j≠i':=by rintro rfl;obtain ⟨q,_⟩:=jw h2;cases q
   rw [jp n1] at h1 h3;rw [jp n2] at h2 h4;exact k.dis i i' e e' a h1 h2 h3 h4
def Frm.unset:Frm env σ H (env.set j .un) (σ.set j none) H:=⟨fun _ _ e _=>e,fun b o=> .inl (Qv o),fun _ e=>e⟩
end
def outU (j:Nat):Out->Out
 | .nx env=> .nx (env.set j .un)
 | .bk env=> .bk (env.set j .un)
 | .ct env=> .ct (env.set j .un)
 | .rt fr d=> .rt fr d
def tryO (cs:List Str) (g:T3) (j:Nat) (gs:T3):Sl->Res Out:=fun env=>match g env with
 | .ok o=> .ok o
 | .exc c=>if cs.contains c=true then gs (env.set j (.shr (.exn c)))>>=fun o=> .ok (outU j o) else .stuck
 | .stuck=> .stuck
def jdT {P:aaH} {w:World} {fs:List Addr} {H H':Hp} {h h':Heap} {a:Addr} {oe:Obj} (un:Un fs [] H H' h h') (hok:HOk P w H' h') (hn:h.get? a=none) (ha:H' a=none) (he:h'.get? a=some oe):
   Un fs [] H (upd H' a (.frz oe (.own a))) h h'/\HOk P w (upd H' a (.frz oe (.own a))) h':=by
 refine ⟨⟨un.keep,un.slot,fun b o q n hx=>?_,un.there,fun b xs q=>?_,fun b o u q=>?_,fun b ps q=>?_⟩,fun b u e=>?_⟩
 · rw [jx (by rintro rfl;rw [hn] at q;cases q)];exact un.free b o q n hx
 · have:=un.tups b xs q;rw [jx (jT this ha)];exact this
 · have:=un.frzs b o u q;rw [jx (jT this ha)];exact this
 · obtain ⟨m,e⟩:=un.tbls b ps q;exact ⟨m,by rw [jx (jT e ha)];exact e⟩
 · by_cases hb:b=a
   · subst hb;rw [jo] at e;cases e;exact ⟨he,oe,he⟩
   · rw [jx hb] at e;exact (hok b u e).stay (fun c v _ q=>q) (fun c q=>by rw [jx (jT q ha)];exact q) fun c xs q=>by rw [jx (jT q ha)];exact q
def jfe {X:Cx} {n T:Str} {CT:Addr} {body suite:List Stmt} {b₀:Stmt} {g gs:T3} {np hpos pos:Pos} (cs:List Str) (j:Nat) (hN:X.N.Nodup) (hb: ∀E' ps,DSsY (Cx.tryX X E' ps) body g) (hs: ∀e,DSs (Cx.held X e) (b₀::suite) gs)
    (hT:X.mg T=some (.ref CT)) (hx: ∀c,cs.contains c=true-> ∀C,NmC X.K c C->PySem.W.exmOne X.K (.ref C) (.ref CT)=some true)
    (hj:X.N[j]?=some n:=by rfl) (hl:X.env.scope.names.lookup n=some .local:=by rfl) (hst:X.stack=X.env::X.outer:=by rfl) (hfr:X.env.frame=some X.env.locals:=by rfl) (hg:Gl X T:=by rfl) (hdb:ZI T:=by decide):
    DS X (.Try body [.ExceptHandler (some (.Name T np)) (some n) (b₀::suite) hpos] [] [] pos) (tryO cs g j gs):=by
 with_unfolding_all exact (by
  rintro pins s σ H E I ⟨G,H0,env,o,k,ef,q⟩
  refine wpAny_Try_except (ab8 ((hb (fun e s₁=>wpAny (model X.prog X.w) X.A (noteFrame e X.env) (fun _ s₂=>wpAny (model X.prog X.w) X.A (setFlight e none) (fun _ s₃=>
    wpAny (model X.prog X.w) X.A (handleBy e X.env [.ExceptHandler (some (.Name T np)) (some n) (b₀::suite) hpos]) (SP X pins E) X.xe s₃) X.xe s₂) X.xe s₁) pins) [] s σ H E (jcV I) ⟨G,H0,env,k,?_⟩) (fun f s1 hq=>?_) fun e s1 h=>h)
  · unfold tryO at ef
    cases eg:g env with
    |ok o'=>rw [eg] at ef;cases ef;exact .inl ⟨_,rfl,q⟩
    |stuck=>rw [eg] at ef;cases ef
    |exc c=>
     rw [eg] at ef;dsimp only at ef
     by_cases hc:cs.contains c=true
     · rw [if_pos hc] at ef;obtain ⟨o1,e1,e2⟩:=je ef;cases e2;refine .inr ⟨c,rfl,fun pins' H1 s2 e s' sm I' cx=>?_⟩;have I1:=xL I';obtain ⟨a,C,H',B,a0,rfl,os,bare,un,hok,ha,fl,cov,C',eC,hC,sm2⟩:=cx;cases eC;have J:=I1.call' os un hok bare fun b hb=>absurd hb (by simp)
       have nb:a∉frs X.stack:=fun hm=>by
         obtain ⟨_,o',ho',hd⟩:=J.stack.mem hm;obtain ⟨oe,vs,he,_,hv,_⟩:=fl.first
         rw [he] at ho';cases ho';exact hd _ hv
       have hn:s2.heap.get? a=none:=by
         cases z:s2.heap.get? a with
         |none=>rfl
         |some o'=>
          obtain ⟨ob,hob,_⟩:=fl.there;have:=cov a nb (.inl ⟨o',z⟩);rw [fl.2.1,hob] at this;cases this
       refine wpAny_looks_onW (by rw [←hst];exact I.ok.frames) hfr (by rw [←hst];exact fl) fun h2 held up2=>?_
       refine wpAny_landsW held fun h3 fly3 up3=>?_
       obtain ⟨f1,f2,f3,f4⟩:=fly3;obtain ⟨U3,O3⟩:=vj un hok J.stkFree cov J.stack f1 (up2.trans up3);have I3:=I1.call' (s':={s' with heap:=h3}) os U3 O3 bare fun b hb=>absurd hb (by simp)
       refine wpAny_handleBy_cons (codeAny_handlers_test ?_) (by intro q;cases q);refine QI (Kz I3) hg hT ?_ hdb;obtain ⟨ob3,hob3,hc3⟩:=afd (Heap.TracedW.at f4);refine (PySem.W.exm_one I3.kIn (by rw [←hc3];exact (ad9 hob3).andThen .now) (hx c hc C hC)).here ?_;refine codeAny_handlers_suite_as ?_;refine wpAny_setFlight_noneW f1 f3 (Heap.TracedW.at f4) fun h4 st4 FF4 tr4 keep4=>?_
       have up4:=up2.trans (up3.trans fun b o e n=>⟨o.slots,keep4 b o e n⟩);obtain ⟨U4,O4⟩:=vj un hok J.stkFree cov J.stack st4 up4;obtain ⟨oe,hoe,hce⟩:=afd (Heap.TracedW.at tr4);obtain ⟨U5,O5⟩:=jdT U4 O4 hn ha hoe;have I5:=I1.call' (s':={s' with heap:=h4}) os U5 O5 bare fun b hb=>absurd hb (by simp)
       have sm5:Same H (upd H' a (.frz oe (.own a))):=(sm.trans sm2).trans (Same.upd ha);have rp:Rep X.K (Sf G env σ) (upd H' a (.frz oe (.own a))) (.ref a) (.exn c):= .exn jo hce hC;refine Qa (X:=Cx.held X a) (Kz I5) hN hj (.inl hl) (v:= .ref a) rfl (fun s6 I6=>?_) (.inr hl);have kS:=(k.grow sm5).setS (i:=j) rp;have fS:Frm env σ H (env.set j (.shr (.exn c))) (σ.set j (some (.ref a))) (upd H' a (.frz oe (.own a))):= .set sm5 fun _ _ z _=>by cases z
       refine ab8 ((hs a) pins s6 (σ.set j (some (.ref a))) _ ⟨fun σ' H'=>E.nx (σ'.set j none) H',E.rt,fun σ' H'=>E.bk (σ'.set j none) H',fun σ' H'=>E.ct (σ'.set j none) H'⟩ I6 ⟨G,H0,_,o1,kS,e1,?_⟩) (fun f s7 h7=>?_) fun _ _ z=>acb z
       · cases o1 with
         |nx env1=>exact fun σ' H3 k3 f3=>q _ H3 k3.unset ((fS.trans f3).trans .unset)
         |bk env1=>exact fun σ' H3 k3 f3=>q _ H3 k3.unset ((fS.trans f3).trans .unset)
         |ct env1=>exact fun σ' H3 k3 f3=>q _ H3 k3.unset ((fS.trans f3).trans .unset)
         |rt fr d=>exact q
       · cases f with
         |next=>
          obtain ⟨σ',H3,I7,q7⟩:=h7;exact Wi (yb I.ok I7) hN hj hl fun s8 I8=>⟨_,H3,I8,q7⟩
         |brk=>
          obtain ⟨σ',H3,I7,q7⟩:=h7;exact Wi (yb I.ok I7) hN hj hl fun s8 I8=>⟨_,H3,I8,q7⟩
         |cont=>
          obtain ⟨σ',H3,I7,q7⟩:=h7;exact Wi (yb I.ok I7) hN hj hl fun s8 I8=>⟨_,H3,I8,q7⟩
         |ret u=>
          obtain ⟨v,σ',H3,I7,r7,q7⟩:=h7;exact Wi (yb I.ok I7) hN hj hl fun s8 I8=>⟨v,_,H3,I8,r7,q7⟩
     · rw [if_neg hc] at ef;cases ef
  · cases f with
    |next=>exact adt (Qb hq)
    |brk=>exact Qb hq
    |cont=>exact Qb hq
    |ret u=>exact Qb hq)
section
open PySem.W PySem.Calls
def jcS {K:Frag} {x t c:Value} {H:Heap->Prop} (ty: ∀(M:Model) (h:Heap),K.In h->H h->Looks M h (typeOf x) t) (e:aaS K t c=some true):Answers (fun s=>K.In s.heap/\H s.heap) x c true:=by
 intro dep tk prog w A R s hs;obtain ⟨h0,g,d,tt,os⟩:=s;obtain ⟨⟨X,p⟩,hq⟩:=hs;have LT:=ty (model prog w) h0 X p;unfold aaS at e;unfold ab3.«isinstance.nested»;refine aaa (LT.at ?_)
 by_cases q:(t==c)=true
 · rw [if_pos q]
   first
    | ((repeat lk);exact hq tt)
    |exact aaa (aeg (hq tt))
    |exact aaa (aeg (aac (hq tt)))
 · rw [if_neg q] at e;rw [if_neg q];obtain ⟨hty,his,hsub⟩:=kit_cls X e;have LI:Looks (model prog w) h0 (isInstance x c) true:=LT.andThen hsub;refine aaa (hty.at ?_);rw [if_pos (by decide)]
   k_delta "plainIsInstance"
   refine aaa (aaa (his.at ?_));simp;refine aaa (LI.at ?_)
   first
    |exact aac (aac (hq tt))
    | (simp;first|exact aac (aac (hq tt))|exact aac (hq tt)|exact aaa (aac (aac (hq tt))))
def jcR {prog:aaH} {w:World} {A:aa3} {E:X6} {s:aaf} {Q:X6} {K:Frag} {x t c:Value} {H:Heap->Prop} (ty: ∀(M:Model) (h:Heap),K.In h->H h->Looks M h (typeOf x) t)
  (X:K.In s.heap) (p:H s.heap) (e:aaS K t c=some true) (hx:x≠ .builtin "__main__.__loader__#opaque") (h: ∀tk,Q (.bool true) {s with toks:=tk}):
  wpAny (model prog w) A (call (.builtin "isinstance") [x,c]) Q E s:=
 call_isinstance
  (fun prog w A R s hs=>isinstance_outer (jcS ty e 0 _ prog w A R s hs) hx) ⟨⟨X,p⟩,h⟩
end
section
variable {X:Cx}
def jbs (cs:List Str) {cV:V} {cv:Value} (hr: ∀u,RelV cV u->u=cv) (hk: ∀c,cs.contains c=true-> ∀C,NmC X.K c C->aaS X.K (.ref C) cv=some true):
  CallR X (.builtin "isinstance") (fun xs H Q=> ∃x c,xs=[x,cV]/\Rep X.K Any H x (.exn c)/\cs.contains c=true/\Q (.bl true) H):=by
 rintro pins s σ H xs us Q I r ⟨x,c,ex,rp,hc,q⟩;subst ex;obtain ⟨u,w',rfl,r1,r2⟩:=UC r;cases hr w' r2
 cases rp with
 | @exn _ _ a b C o _ ha hC hn=>
  cases (show u=aaJ a from r1);obtain ⟨ho,_⟩:=(show ObjOk X.prog X.w H s.heap a (.frz o (.own b)) from I.hok a _ ha)
  exact jcR (fun M h _ p=>by rw [←hC];exact (ad9 p).andThen .now) I.kIn ho (hk c hc C hn) (fun z=>nomatch z) fun tk=>⟨.bl true,H,I.tok tk,rfl,q⟩
def isxD (cs:List Str):D->Res D
 | .exn c=>if cs.contains c=true then .ok (.bl true) else .stuck
 |_=> .stuck
def isxF (cs:List Str) (f:T5):Sl->Res D:=fun env=>f env>>=isxD cs
def jaQ {cs:List Str} {a d:D} (h:isxD cs a= .ok d): ∃c,a= .exn c/\cs.contains c=true/\d= .bl true:=by
 unfold isxD at h
 split at h
 · split at h
   · rename_i hc;cases h;exact ⟨_,rfl,hc,rfl⟩
   · cases h
 · cases h
def jdr (cs:List Str) (T:String) (Ty:Str) {l l':Lv} {e:Expr} {f:T5} {p p2 pos:Pos} (hk: ∀c,cs.contains c=true-> ∀C,NmC X.K c C->aaS X.K (.ref C) (.type T)=some true) (he:DE X l e f)
   (hg:Gl X "isinstance") (hm:X.mg "isinstance" =none) (hg2:Gl X Ty) (hm2:X.mg Ty=none) (hv:abz Ty=some (.type T)) (hn:Ty≠ "__name__" :=by decide)
   (hd:ZI Ty:=by decide) (hs:aan [e,.Name Ty p2] X.env=(false,eval e X.env)::aan [.Name Ty p2] X.env:=by exact jk rfl)
   (hs2:aan [.Name Ty p2] X.env=(false,eval (.Name Ty p2) X.env)::aan [] X.env:=by exact jk rfl) (hpl:(abQ pos (aan [.Name Ty p2] X.env)).any (·.1)=false:=by exact jS rfl):
   DE X l' (.Call (.Name "isinstance" p) [e,.Name Ty p2] [] pos) (isxF cs f):=by
 with_unfolding_all exact (
  PE.imp (wt (jbs cs (cV:= .ty T) (fun u r=>r) hk) hg hm aem (qg he (qg (Yh (v:= .ty T) hg2 hm2 hv rfl hn hd) wu hs2) hs) (by decide) (by decide) hs hpl) fun σ H Q=>by
   rintro ⟨G,H0,env,d,k,ef,q⟩;obtain ⟨a,e1,e2⟩:=je ef;refine ⟨G,H0,env,a,k,e1,fun v H' s r _=>?_⟩;obtain ⟨c,rfl,hc,rfl⟩:=jaQ e2
   exact ⟨v,c,rfl,r.weak Lv.weak_b,hc,q _ H' s (.bl true) (jgE (K:=X.K) true).T⟩)
end
abbrev KF:=Int×(Sl->Res D)
section
variable {X:Cx}
def J9:abz "ValueError" =some (.type "ValueError"):=by decide+kernel
end
end M
namespace M
open PySem PySem.Spec PySem.W PySem.Calls
open PyProof.Rows hiding St
open Builtin Builtin.ObjectAttr Builtin.Getset_descriptor
section
variable {prog:aaH} {w:World} {A:aa3} {E:X6} {h:Heap} {g:Array GenState} {d:Drawn} {t:Nat} {os:OsState} {a C:Addr} {o:Obj} {K:Frag}
def uS {R:Result->aaf->Prop} {tp:Value} (X:K.In h) (ho:h.get? a=some o) (hc:o.cls= .ref C) (hm:mroIn K C (.type "object")=some true) (hq:R (.ok (.ret (.ref C))) ⟨h,g,d,t,os⟩):
  adL (model prog w) A (.call (.builtin "getset_descriptor.__get__") ⟨[.builtin "object.__class__",.ref a,tp],[]⟩) R ⟨h,g,d,t,os⟩:=by
 have L0:Looks (model prog w) h (typeOf (.ref a)) (.ref C):=hc▸(ad9 ho).andThen .now;have L1:=looks_mroIn (M:=model prog w) X hm;refine aea KF.slot_gs.plain KF.entry_gs (KF.slot_gs.check _ _ _ _ _ _ _ _ KF.type_class (KF.args_gs _ _ _) ?_);unfold ab3.«getset_descriptor.__get__» descrGet;rw [dga_obj];refine aaa (aac ?_);unfold descrGetter descrCheckInstance descrNameAndClass isInstance;simp only [KF.owner_class]
 repeat lk
 refine ⟨Code.quiet_builtin _ (by decide+kernel),acH KF.entry_class ?_⟩;unfold ab3.«object.__class__» shownTypeOf
 repeat lk
 exact hq
def Uw (X:K.In h) (ha:abh K (.ref C) "__class__" =some (some (.builtin "object.__class__"))) (hn:ae1 K (.builtin "object.__class__") "__get__" =some (some (.builtin "getset_descriptor.__get__"))) (htk:takesIn K (.builtin "object.__class__")=some true):
  Looks (model prog w) h (find (.ref a) (.ref C) "__class__") (.bind (.builtin "getset_descriptor.__get__") (.builtin "object.__class__")):=
 (aeG X ha).andThen ((show Looks (model prog w) h (getOf (some (.builtin "object.__class__"))) (some (.builtin "getset_descriptor.__get__")) from looks_specialIn X hn).andThen
  ((show Looks (model prog w) h (dataDescriptor? (some (.builtin "object.__class__")) (some (.builtin "getset_descriptor.__get__"))) (some (.builtin "getset_descriptor.__get__",.builtin "object.__class__")) from (looks_takesIn X htk).andThen .now).andThen (Looks.tag .now)))
def Vg {tk:Tok} {Q:Fin->aaf->Prop} (X:K.In h) (ho:h.get? a=some o) (hc:o.cls= .ref C) (hm:mroIn K C (.type "object")=some true)
  (ha:abh K (.ref C) "__class__" =some (some (.builtin "object.__class__"))) (hn:ae1 K (.builtin "object.__class__") "__get__" =some (some (.builtin "getset_descriptor.__get__"))) (htk:takesIn K (.builtin "object.__class__")=some true)
  (hq:Q (.done (.ret (.ref C))) ⟨h,g,d,t,os⟩):wpAny (model prog w) A (ab3.«object.__getattribute__» ⟨[.ref a,.str "__class__" tk],[]⟩) Q E ⟨h,g,d,t,os⟩:=by
 have L0:Looks (model prog w) h (typeOf (.ref a)) (.ref C):=hc▸(ad9 ho).andThen .now;have L1:=Uw (prog:=prog) (w:=w) (a:=a) X ha hn htk;refine aaa (aac ?_);refine aaa (aac ?_);refine aaa (L0.at ?_);refine aaa (L1.at ?_);exact aaa (aa4 (wpAny_call (uS X ho hc hm (aac hq))))
def Ux {tk:Tok} {R:Result->aaf->Prop} (X:K.In h) (ho:h.get? a=some o) (hc:o.cls= .ref C) (hm:mroIn K C (.type "object")=some true) (hb:subIn K (.ref C) (.type "BaseException")=some true)
  (ha:abh K (.ref C) "__class__" =some (some (.builtin "object.__class__"))) (hn:ae1 K (.builtin "object.__class__") "__get__" =some (some (.builtin "getset_descriptor.__get__"))) (htk:takesIn K (.builtin "object.__class__")=some true)
  (hq:R (.ok (.ret (.ref C))) ⟨h,g,d,t,os⟩):adL (model prog w) A (.call (.builtin "BaseException.__getattribute__") ⟨[.ref a,.str "__class__" tk],[]⟩) R ⟨h,g,d,t,os⟩:=by
 have L0:Looks (model prog w) h (typeOf (.ref a)) (.ref C):=hc▸(ad9 ho).andThen .now;have L1:Looks (model prog w) h (isSubtype (.ref C) (.type "BaseException")) true:=looks_subIn X hb;refine aea F.excAttr_ValueError.ga.plain F.entry_bexc_ga ?_;have hk:builtinKind "BaseException.__getattribute__" =some .slot:=by kernel_rfl
 have hsp:splitId "BaseException.__getattribute__" =some ("BaseException", "__getattribute__"):=by kernel_rfl
 have LI:Looks (model prog w) h (isInstance (.ref a) (.type "BaseException")) true:=L0.andThen L1;have ha2:=F.args_bexc_ga (.ref a) (.str "__class__" tk);simp only [checkBuiltinCall,hk,hsp];refine aaa (LI.at ?_);simp
 have fin:wpAny (model prog w) A.in1 (ab3.«object.__getattribute__» ⟨[.ref a,.str "__class__" tk],[]⟩) (fun fin s'=>match fin with| .done f=>R (.ok f) s'| .again c'=>c'.quiet=true/\adL (model prog w) A c' R s') (fun e s'=>R (.error e) s') ⟨h,g,d,t,os⟩:=
  Vg X ho hc hm ha hn htk hq
 cases hsig:Manifest.signature? "BaseException.__getattribute__" with
 |none=>exact aac fin
 |some sig=>
  simp only [argsOk,hsig] at ha2;have h2:=ha2;show wpAny _ _ (Bind.checkArgs "BaseException.__getattribute__" sig ⟨[.ref a,.str "__class__" tk],[]⟩) _ _ _;rw [h2];exact aac fin
structure ExcC (K:Frag) (C:Addr):Prop where
 cls:(clsIn K C).isSome=true
 obj:mroIn K C (.type "object")=some true
 base:subIn K (.ref C) (.type "BaseException")=some true
 own:abh K (.ref C) "__class__" =some (some (.builtin "object.__class__"))
 get:ae1 K (.builtin "object.__class__") "__get__" =some (some (.builtin "getset_descriptor.__get__"))
 tak:takesIn K (.builtin "object.__class__")=some true
 ga:abh K (.ref C) "__getattribute__" =some (some (.builtin "BaseException.__getattribute__"))
 hk:abh K (.ref C) "__getattr__" =some none
def Uy {Q:Option Value->aaf->Prop} (X:K.In h) (c:ExcC K C) (ho:h.get? a=some o) (hc:o.cls= .ref C) (hq:Q (some (.ref C)) ⟨h,g,d,t+1,os⟩):wpAny (model prog w) A (getAttr? (.ref a) "__class__") Q E ⟨h,g,d,t,os⟩:=by
 have L0:Looks (model prog w) h (typeOf (.ref a)) (.ref C):=hc▸(ad9 ho).andThen .now;have L1:=aeG (M:=model prog w) X c.ga;have L2:=aeG (M:=model prog w) X c.hk;unfold getAttr? getAttrBy? getAttrBy;refine aaa (wpAny_mkText (aaa (acL (aa4 (aaa (L0.at (aaa (L1.at ?_))))))));unfold getAttrByItsOwn hookBefore;refine aaa (L2.at ?_);refine aaa (acL (aa4 ?_));show wpAny _ _ (boundAndCalled _ _ _) _ _ _;unfold boundAndCalled;rw [F.excAttr_ValueError.ga.bind (.ref a)];refine aaa (aac ?_);exact wpAny_call (Ux X ho hc c.obj c.base c.own c.get c.tak (aac (aac hq)))
def jaN (c:ExcC K C):KitX K (.ref a) (.ref C) (fun h=> ∃o,h.get? a=some o/\o.cls= .ref C) where
 ty:=fun _ _ _ ⟨o,ho,hc⟩=>hc▸(ad9 ho).andThen .now
 it:=fun _ _ X _=>by
  obtain ⟨cdD,hcD⟩:=ado.mp c.cls;unfold clsIn at hcD
  split at hcD
  · rename_i c' d' cd' sl' ho;intro A' Q' E' s' k q;unfold isType loadHead;exact aaa (wpAny_loadPart (k _ _ (X _ _ ho)) (aac q))
  · cases hcD
 ne:=fun h tp dd its n sl X htp=>by
  obtain ⟨cdD,hcD⟩:=ado.mp c.cls;refine Bool.eq_false_iff.mpr fun q=>?_
  have e:=Value.ref.inj (beq_iff_eq.mp q);subst e;unfold clsIn at hcD
  split at hcD
  · rename_i c' d' cd' sl' ho;have z:=(X _ _ ho).symm.trans htp;cases z
  · cases hcD
 ca:=fun {prog w A E Q s} X I k=>by
  obtain ⟨o,ho,hc⟩:=I;obtain ⟨h,g,d,t,os⟩:=s;exact Uy X c ho hc k
end
section
open L2
variable {X:Cx}
def jbr (tab:List (Str×Bool)) {cV:V} {cv:Value} (hr: ∀u,RelV cV u->u=cv) (hk: ∀c b,tab.lookup c=some b-> ∀C,NmC X.K c C->ExcC X.K C/\aaS X.K (.ref C) cv=some b):
  CallR X (.builtin "isinstance") (fun xs H Q=> ∃x c b,xs=[x,cV]/\Rep X.K Any H x (.exn c)/\tab.lookup c=some b/\Q (.bl b) H):=by
 rintro pins s σ H xs us Q I r ⟨x,c,b,ex,rp,hc,q⟩;subst ex;obtain ⟨u,w',rfl,r1,r2⟩:=UC r;cases hr w' r2
 cases rp with
 | @exn _ _ a b' C o _ ha hC hn=>
  cases (show u=aaJ a from r1);obtain ⟨ho,_⟩:=(show ObjOk X.prog X.w H s.heap a (.frz o (.own b')) from I.hok a _ ha)
  obtain ⟨ec,hx⟩:=hk c b hc C hn;exact aby (jaN ec) I.kIn ⟨o,ho,hC⟩ hx (fun z=>nomatch z) fun tk=>⟨.bl b,H,I.tok tk,rfl,q⟩
def isyD (tab:List (Str×Bool)):D->Res D
 | .exn c=>match tab.lookup c with
  |some b=> .ok (.bl b)
  |none=> .stuck
 |_=> .stuck
def isyF (tab:List (Str×Bool)) (f:T5):Sl->Res D:=fun env=>f env>>=isyD tab
def jaP {tab:List (Str×Bool)} {a d:D} (h:isyD tab a= .ok d): ∃c b,a= .exn c/\tab.lookup c=some b/\d= .bl b:=by
 unfold isyD at h
 split at h
 · split at h
   · rename_i b hb;cases h;exact ⟨_,b,rfl,hb,rfl⟩
   · cases h
 · cases h
def K2 (tab:List (Str×Bool)) (Ty:Str) {CT:Addr} {l l':Lv} {e:Expr} {f:T5} {p p2 pos:Pos} (hk: ∀c b,tab.lookup c=some b-> ∀C,NmC X.K c C->ExcC X.K C/\aaS X.K (.ref C) (.ref CT)=some b) (he:DE X l e f)
   (hg:Gl X "isinstance") (hm:X.mg "isinstance" =none) (hg2:Gl X Ty) (hm2:X.mg Ty=some (.ref CT))
   (hd:ZI Ty:=by decide) (hs:aan [e,.Name Ty p2] X.env=(false,eval e X.env)::aan [.Name Ty p2] X.env:=by exact jk rfl)
   (hs2:aan [.Name Ty p2] X.env=(false,eval (.Name Ty p2) X.env)::aan [] X.env:=by exact jk rfl) (hpl:(abQ pos (aan [.Name Ty p2] X.env)).any (·.1)=false:=by exact jS rfl):
   DE X l' (.Call (.Name "isinstance" p) [e,.Name Ty p2] [] pos) (isyF tab f):=by
 with_unfolding_all exact (
  PE.imp (wt (jbr tab (cV:= .ref CT) (fun u r=>r) hk) hg hm aem (qg he (qg (Yf (v:= .ref CT) hg2 hm2 rfl hd) wu hs2) hs) (by decide) (by decide) hs hpl) fun σ H Q=>by
   rintro ⟨G,H0,env,d,k,ef,q⟩;obtain ⟨a,e1,e2⟩:=je ef;refine ⟨G,H0,env,a,k,e1,fun v H' s r _=>?_⟩;obtain ⟨c,b,rfl,hc,rfl⟩:=jaP e2
   exact ⟨v,c,b,rfl,r.weak Lv.weak_b,hc,q _ H' s (.bl b) (jgE (K:=X.K) b).T⟩)
end
end M
namespace M
open PySem PySem.Spec L2
open PyProof.Rows hiding St
theorem Reps.set {K:aab} {A:X7} {H:Hp} {v:V} {d:D} (rv:Rep K A H v d): ∀ {xs:List V} {ds:List D} (j:Nat),Reps K A H xs ds->Reps K A H (xs.set j v) (ds.set j d)
 |_,_,_,.nil=> .nil
 |_,_,0,.cons _ t=> .cons rv t
 |_,_,j+1,.cons h t=> .cons h (Reps.set rv j t)
def Vs (i:Nat) (fk fv:T5):Sl->Res Out:=fun env=>ownL i env>>=fun ds=>fv env>>=fun d=>fk env>>=fun kd=>match kd with
 | .int n=>match ixN ds.length n with
  |some j=> .ok (.nx (env.set i (.own (.lst (ds.set j d)))))
  |none=> .stuck
 |_=> .stuck
def jbh {X:Cx} {l1:Lv} {e1 e2:Expr} {fk fv:T5} {pos apos p:Pos} {x:Str} (i:Nat) (hk:DE X l1 e1 fk) (hv:DE X .s e2 fv) (hN:X.N[i]?=some x:=by rfl) (hvs:Vis X.env.scope x:=by first|exact acj rfl|exact abB (acj rfl)|exact abB (abB rfl))
   (hd:ZI x:=by decide) (hcd:Y9 x:=by decide)
   (ha: ∀v,assign (.Subscript (.Name x p) e1 apos) X.env v=(do
    let ov←ad4 [v] (eval (.Name x p) X.env)
    let iv←ad4 [v,ov] (eval e1 X.env)
    standAt apos
    ad4 [v,ov,iv] (setItem ov iv v)
    release [v,ov,iv] []):=by intro _;rfl)
   (hs:swapsWithSole [.Subscript (.Name x p) e1 apos] e2 pos.line X.env=pure false:=by rfl) (hw:swappedStores [.Subscript (.Name x p) e1 apos] e2 X.env=pure none:=by rfl)
   (h1:(acd [.Subscript (.Name x p) e1 apos] X.env).map (·.2)=[assign (.Subscript (.Name x p) e1 apos) X.env]:=by rfl):
   DS X (.Assign [.Subscript (.Name x p) e1 apos] e2 pos) (Vs i fk fv):=by
 with_unfolding_all exact (
  PS.imp (jbF hv (jet (wW hN hvs hd hcd) hk u4 ha) hs hw h1) fun E σ H=>by
   rintro ⟨G,H0,env,o,k,ef,q⟩;obtain ⟨ds,c1,ef⟩:=je ef;obtain ⟨d,c2,ef⟩:=je ef;obtain ⟨kd,c3,c4⟩:=je ef;have hi:=wx c1;obtain ⟨a,xs,ha,hx,rs⟩:=wv k hi
   cases kd with
   |int n=>
    dsimp only at c4
    cases e5:ixN ds.length n with
    |none=>rw [e5] at c4;cases c4
    |some j=>
     rw [e5] at c4;cases c4;refine ⟨G,H0,env,d,k,c2,fun v H1 s1 r1 _=>⟨.ref a,ha,G,H0,env,.int n,k.grow s1,c3,fun y H2 s2 r2 _=>?_⟩⟩;have hx2:=s2 _ _ (s1 _ _ hx);cases (r2.weak Lv.weak_b).intE;refine ⟨a,xs,n,j,rfl,rfl,hx2,by rw [rs.length];exact e5,?_⟩;have W:=((k.grow s1).grow s2).write hi ha hx2 (Reps.set (r1.grow s2) j ((rs.grow s1).grow s2));exact q σ _ W.1 ((W.2.grow s2).grow s1)
   |_=>cases c4)
def Jg {α:Type} {c:Str} {v:α} {l:List (Str×α)}:aa7 c ((c,v)::l)=some v:=by simp [aa7]
def Jf {α:Type} {c d:Str} {v:α} {l:List (Str×α)} (h:c≠d):aa7 c ((d,v)::l)=aa7 c l:=by
 have:(c==d)=false:=by simpa using h
 simp [aa7,this]
inductive OutI where
 |nx (env:Sl)|rt (b:Bool) (env:Sl)
abbrev At (σ:L2.St) (i:Nat) (a:Addr):Prop:=σ[i]?=some (some (V.ref a))
abbrev FI:=List D->List Key->List D->Res (Bool×List Key×List D)
section
variable {X:Cx} {pins:List (Addr×Obj)} {σ:L2.St} {H:Hp} {s:aaf} {a:Addr}
def jft (X:Cx) (a:Addr):Prop:=(∀xs,X.H₀ a≠some (.tup xs))/\(∀o u,X.H₀ a≠some (.frz o u))/\ ∀ps,X.H₀ a≠some (.tbl ps)
def Inv.swap {u u':HO} (I:Inv X pins σ H s) (e:H a=some u) (l:jft X a) (nt: ∀xs,u≠ .tup xs) (no: ∀x,u≠ .own x) (new:ObjOk X.prog X.w H s.heap a u'):Inv X pins σ (upd H a u') s:=by
 have ne: ∀b,H b=none->b≠a:=fun b z w=>by subst w;rw [e] at z;cases z
 have ho: ∀c b,H c=some (.own b)->upd H a u' c=some (.own b):=fun c b q=>by
   rw [jx];exact q;intro z;subst z;rw [e] at q;cases q;exact no _ rfl
 have ht: ∀c xs,H c=some (.tup xs)->upd H a u' c=some (.tup xs):=fun c xs q=>by
   rw [jx];exact q;intro z;subst z;rw [e] at q;cases q;exact nt _ rfl
 refine ⟨I.ok,I.os,I.bare,⟨I.base.keep,I.base.slot,fun b o q n x=>?_,I.base.there,fun b xs q=>?_,fun b o v q=>?_,fun b ps q=>?_⟩,I.loc,I.cell,?_,fun x c q=>?_,fun p hp=>?_,fun b v q=>?_,I.len⟩
 · have z:=I.base.free b o q n x;rw [jx (ne b z)];exact z
 · exact ht b xs (I.base.tups b xs q)
 · rw [jx (fun z=>by subst z;exact l.2.1 _ _ q)];exact I.base.frzs b o v q
 · rw [jx (fun z=>by subst z;exact l.2.2 _ q)];exact I.base.tbls b ps q
 · rw [jx (ne _ I.free)];exact I.free
 · rw [jx (ne _ (I.freeC x c q))];exact I.freeC x c q
 · obtain ⟨p1,p2,p3⟩:=I.pin p hp;exact ⟨p1,by rw [jx (ne _ p2)];exact p2,p3⟩
 · by_cases hb:b=a
   · subst hb;rw [jo] at q;cases q;exact new.stay (fun _ _ _ z=>z) (fun c z=>ho c _ z) ht
   · rw [jx hb] at q;exact (I.hok b v q).stay (fun _ _ _ z=>z) (fun c z=>ho c _ z) ht
end
section
variable {X:Cx}
def slS:D->Option Int->Option Int->Res D
 | .scr ds,lo,hi=> .ok (.lst (cutD ds lo hi))
 |_,_,_=> .stuck
def ue {e:Expr} {lo hi:Option Expr} {p2 pos:Pos} {f:T5} {fl fh:Sl->Res (Option Int)} (he:DE X .s e f) (hl:DO X lo fl) (hh:DO X hi fh):
   DE X .t (.Subscript e (.Slice lo hi none p2) pos) (zy f fl fh slS):=by
 with_unfolding_all exact (
  PE.imp (Kk sl_list he hl hh) fun σ H Q=>by
   rintro ⟨G,H0,env,d,k,ef,q⟩;obtain ⟨a,e1,ef⟩:=je ef;obtain ⟨lo',e2,ef⟩:=je ef;obtain ⟨hi',e3,e4⟩:=je ef;refine ⟨G,H0,env,a,k,e1,fun x H1 s1 r1 _=>⟨G,H0,env,lo',k.grow s1,e2,fun H2 s2=>⟨G,H0,env,hi',(k.grow s1).grow s2,e3,fun H3 s3=>?_⟩⟩⟩;have sm:=s1.trans (s2.trans s3)
   cases a with
   |scr ds=>
    cases e4;obtain ⟨b,xs,rfl,hb,rs⟩:=((r1.grow s2).grow s3).scrE;refine ⟨b,xs,rfl,hb.sql,fun p hp=>q _ _ (sm.trans (Same.upd hp)) (.lst jo (k.new p (Same.free sm hp)) (((YN rs).laid hp).weak fun c z=>⟨z.1,z.2⟩)) ((j9 (Same.refl H3) hp).grow sm)⟩
   |_=>cases e4)
def jeg (K:aab):R2:=fun x y H Q=> ∃l b xs zs,x= .ref l/\y= .ref b/\SqL K H l xs/\SqL K H b zs/\xs.length+zs.length<=aah/\ ∀p,H p=none->Q (.ref p) (upd H p (.lst (xs++zs)))
def jcB:OpR X (abV .Add) (jeg X.K):=by
 intro pins s σ H x y v u Q I rx ry h;obtain ⟨l,b,xs,zs,rfl,rfl,hH,hB,hz,q⟩:=h;cases rx;cases ry;obtain ⟨its,r,⟨⟨c1,d1,dt1,sl1⟩,n1,g1,p1,p2,p3⟩,z1⟩:=I.list hH;obtain ⟨its2,r2,⟨⟨c2,d2,dt2,sl2⟩,n2,g2,p4,p5,p6⟩,z2⟩:=I.list hB;simp only at p1 p2 p3 p4 p5 p6;subst p1 p2 p3 p4 p5 p6;have hl:=r.length;have hl2:=r2.length;refine concat_meets ⟨_,g1,rfl⟩ ⟨_,g2,rfl⟩ noFill_list_add seq_list_add F.slot_list_add F.entry_list_add (F.args_list_add_2 _ _) (list_addW l b its.toArray its2.toArray n1 n2 none none sl1 sl2 (by rw [aag,aag];omega)) ⟨g1,g2,?_⟩;have ea:its.toArray++its2.toArray=(its++its2).toArray:=by simp
 rw [ea];exact ⟨.ref _,_,I.lnew (r.append r2) (by rw [aau];omega),rfl,q _ I.fresh⟩
def addS:D->D->Res D
 | .scr a,.lst b=>must (a.length+b.length<=aah) (.ok (.lst (a++b)))
 |_,_=> .stuck
def jcH {K:aab}:OpD K (jeg K) addS:=by
 intro A x y H a b d Q ra rb e q;unfold addS at e
 split at e
 · obtain ⟨h3,h4⟩:=jr e;cases h4;obtain ⟨l,xs,rfl,hl,rx⟩:=ra.scrE;obtain ⟨l',ys,rfl,hl',_,ry⟩:=rb.lstE;refine ⟨l,l',xs,ys,rfl,rfl,hl.sql,.of hl',rx.len_app ry.low h3,fun p hp=>q _ _ (Same.upd hp) ?_ (j9 (Same.refl H) hp)⟩;exact .lst jo (.inl hp) (((rx.append ry.low).laid hp).weak fun c z=>⟨.inr z.1,z.2⟩)
 · cases e
def jfu (i j:Int):Prop:=0<j/\j<2^200
def jav:OpR X (abV .FloorDiv) (rI jfu fun i j=> .int (i/j)):=opI fun i j _ _ _ _ _ hc q=>by
 have h1:=hc.1;have h2:=hc.2;refine floordiv_int (by omega) (by rw [ac8 i (by omega)];exact q) (.inl (PyProof.noPylong_of_log2 ?_));have h3:j.natAbs<2^200:=by omega
 exact aaA ((Nat.log2_lt (by omega)).mpr h3) (by omega)
abbrev DivW:Int->Int->Prop:=fun _ j=>0<j/\j<2^200
def jaC {K:aab}:OpS K (rI jfu fun i j=> .int (i/j)) (iOp DivW fun i j=> .int (i/j)):=od_I (fun _ _ h=>h) fun i j=>jgH _
abbrev divW:=iOp DivW fun i j=> .int (i/j)
end
section
variable {X:Cx} {e:Expr}
def scal:D->Bool
 | .non=>true
 | .bl _=>true
 | .int _=>true
 |_=>false
end
def getN (f:Str):List Str->List D->Option D
 |n::ns,d::ds=>if n=f then some d else getN f ns ds
 |_,_=>none
def VB (f:Str):List Str->List Str
 | []=>[f]
 |n::ns=>if n=f then n::ns else n::VB f ns
def VC (f:Str) (d:D):List Str->List D->List D
 | [],_=>[d]
 |n::ns,e::es=>if n=f then d::es else e::VC f d ns es
 |_::_,[]=>[]
theorem Wj {K:aab} {A:X7} {H:Hp} {f:Str}: ∀ {fs:List (Str×V)} {ds:List D} {d:D},Reps K A H (fs.map (·.2)) ds->getN f (fs.map (·.1)) ds=some d-> ∃v,fs.lookup f=some v/\Rep K A H v d
 | [],_,_,_,h=>by simp [getN] at h
 | (n,v)::r,_,d,.cons q t,h=>by
  by_cases e:n=f
  · subst e;simp only [aaN,getN,if_pos] at h;cases h;exact ⟨v,by simp [aa7],q⟩
  · simp only [aaN,getN,if_neg e] at h;obtain ⟨v',h1,h2⟩:=Wj t h;exact ⟨v',by rw [abA];simp [show (f==n)=false from by simpa using fun z=>e z.symm,h1],h2⟩
theorem Kf {K:aab} {A:X7} {H:Hp} {f:Str} {v:V} {d:D} (rv:Rep K A H v d): ∀ {fs:List (Str×V)} {ds:List D},Reps K A H (fs.map (·.2)) ds->(putF f v fs).map (·.1)=VB f (fs.map (·.1))/\Reps K A H ((putF f v fs).map (·.2)) (VC f d (fs.map (·.1)) ds)
 | [],_,.nil=>⟨rfl,.cons rv .nil⟩
 | (n,u)::r,_,.cons q t=>by
  by_cases e:n=f
  · simp only [putF,aaN,VB,VC,if_pos e];exact ⟨trivial,.cons rv t⟩
  · simp only [putF,aaN,VB,VC,if_neg e];obtain ⟨h1,h2⟩:=Kf rv t;exact ⟨by rw [h1],.cons q h2⟩
theorem Xh {f:Str}: ∀ {fs:List (Str×V)},(fs.map (·.1)).contains f=false->fs.lookup f=none
 | [],_=>rfl
 | (n,u)::r,h=>by
  simp only [aaN,aeA,Bool.or_eq_false_iff] at h;rw [abA];simp [h.1,Xh h.2]
def Rep.objE {K:aab} {A:X7} {H:Hp} {v:V} {c:Str} {ns:List Str} {ds:List D} (r:Rep K A H v (.obj c ns ds)): ∃a C dx fs,v= .ref a/\H a=some (.ins C dx fs)/\A a/\aaz K aaw c=some (some (.ref C))/\fs.map (·.1)=ns/\Reps K (fun c=>A c/\c≠a) H (fs.map (·.2)) ds:=by
 cases r with
 |obj e a k1 k2 r=>subst k2;exact ⟨_,_,_,_,rfl,e,a,k1.1,k1.2,r⟩
def kE {K:aab} {G:X7} {H0 H:Hp} {env:Sl} {σ:L2.St} {i:Nat} {c:Str} {ns:List Str} {ds:List D} (k:EnvOk K G H0 env σ H) (hi:env[i]?=some (.own (.obj c ns ds))):
  ∃a C dx fs,σ[i]?=some (some (.ref a))/\H a=some (.ins C dx fs)/\aaz K aaw c=some (some (.ref C))/\fs.map (·.1)=ns/\Reps K (Sf G env σ) H (fs.map (·.2)) ds:=by
 obtain ⟨a,h1,_,h2⟩:=k.own i _ hi
 cases h2 with
 |obj e k1 k2 r=>subst k2;exact ⟨a,_,_,_,h1,e,k1.1,k1.2,r⟩
structure FldN (K:aab) (c f:Str):Prop where
 ex: ∃C,aaz K aaw c=some (some (.ref C))/\Cls K C/\NoAttr K C f
def FldN.at {K:aab} {c f:Str} {C:Addr} (h:FldN K c f) (e:aaz K aaw c=some (some (.ref C))):Cls K C/\NoAttr K C f:=by
 obtain ⟨C',h1,h2⟩:=h.ex;rw [e] at h1;cases h1;exact h2
def fldD (c f:Str):D->Res D
 | .obj c' ns ds=>must (c'=c) (match getN f ns ds with
  |some d=> .ok d
  |none=> .stuck)
 |_=> .stuck
def ja5 {c f:Str} {o d:D} (h:fldD c f o= .ok d): ∃ns ds,o= .obj c ns ds/\getN f ns ds=some d:=by
 unfold fldD at h
 split at h
 · rename_i c' ns ds;obtain ⟨hc,h2⟩:=jr h;subst hc
   cases e:getN f ns ds with
   |none=>rw [e] at h2;cases h2
   |some d'=>rw [e] at h2;cases h2;exact ⟨ns,ds,rfl,e⟩
 · cases h
def fldF (c f:Str) (fo:T5):Sl->Res D:=fun env=>fo env>>=fldD c f
section
variable {X:Cx} {e:Expr} {fo:T5} {pos p:Pos} {c f:Str}
def uh (i:Nat) {x:Str} (hf:FldN X.K c f) (hN:X.N[i]?=some x:=by rfl) (hv:Vis X.env.scope x:=by first|exact acj rfl|exact abB (acj rfl)|exact abB (abB rfl))
   (hd:ZI x:=by decide) (hcd:Y9 x:=by decide)
   (hb:abL (.Name x p) f X.env (eval (.Name x p) X.env)=eval (.Name x p) X.env:=by rfl):DE X .s (.Attribute (.Name x p) f pos) (fldF c f (rdB i)):=by
 with_unfolding_all exact (
  PE.imp (jeA (wW hN hv hd hcd) hb) fun σ H Q=>by
   rintro ⟨G,H0,env,d,k,ef,q⟩;obtain ⟨o,e1,e2⟩:=je ef;obtain ⟨ns,ds,rfl,e3⟩:=ja5 e2;rcases kj e1 with z|z
   · obtain ⟨v,h1,h2⟩:=k.shr i _ z;obtain ⟨a,C,dx,fs,rfl,ha,_,hc,hn,rs⟩:=h2.objE;subst hn;obtain ⟨v',g1,g2⟩:=Wj rs e3;exact ⟨_,h1,a,C,dx,fs,v',rfl,ha,(hf.at hc).1,(hf.at hc).2,g1,q v' H (Same.refl H) (g2.weak fun _ z=>z.1) trivial⟩
   · obtain ⟨a,C,dx,fs,h1,ha,hc,hn,rs⟩:=kE k z;subst hn;obtain ⟨v',g1,g2⟩:=Wj rs e3
     exact ⟨_,h1,a,C,dx,fs,v',rfl,ha,(hf.at hc).1,(hf.at hc).2,g1,q v' H (Same.refl H) g2 trivial⟩)
end
inductive OutO where
 |nx (env:Sl)|rt (d:D) (env:Sl)
def jbw (K:aab) (G:X7) (H0:Hp) (i:Nat) (a:Addr) (env:Sl) (σ:L2.St) (H:Hp) (E:Ends):OutO->Prop
 | .nx env'=> ∀σ' H',EnvOk K G H0 env' σ' H'->At σ' i a->Frm env σ H env' σ' H'->E.nx σ' H'
 | .rt d env'=> ∀v σ' H',EnvOk K G H0 env' σ' H'->At σ' i a->Frm env σ H env' σ' H'->Rep K (Sf G env' σ') H' v d->E.rt v H'
def tSO (K:aab) (i:Nat) (g:Sl->Res OutO):TS:=fun E σ H=> ∃G H0 env o a,EnvOk K G H0 env σ H/\At σ i a/\g env= .ok o/\jbw K G H0 i a env σ H E o
@[irreducible] def DSO (X:Cx) (i:Nat) (st:Stmt) (g:Sl->Res OutO):Prop:=PS X st (tSO X.K i g)
@[irreducible] def DSsO (X:Cx) (i:Nat) (st:List Stmt) (g:Sl->Res OutO):Prop:=PSs X st (tSO X.K i g)
theorem ZT {K:aab} {G:X7} {H0 H H':Hp} {env env':Sl} {σ σ':L2.St} {i:Nat} {a:Addr} {E:Ends} {o:OutO} (f:Frm env σ H env' σ' H') (q:jbw K G H0 i a env σ H E o):jbw K G H0 i a env' σ' H' E o:=by
 cases o with
 |nx e=>exact fun σ2 H2 k2 a2 f2=>q σ2 H2 k2 a2 (f.trans f2)
 |rt b e=>exact fun v σ2 H2 k2 a2 f2 r2=>q v σ2 H2 k2 a2 (f.trans f2) r2
section
variable {X:Cx} {i:Nat} {e c0 tg:Expr} {st:Stmt} {rest body orelse:List Stmt} {pos p apos:Pos} {l:Lv} {f:T5} {g g1 g2:Sl->Res OutO} {c n x:Str}
def seqJ (g1 g2:Sl->Res OutO):Sl->Res OutO:=fun env=>g1 env>>=fun o=>match o with
 | .nx env'=>g2 env'
 | .rt b e=> .ok (.rt b e)
def v8 (h1:DSO X i st g1) (h2:DSsO X i rest g2):DSsO X i (st::rest) (seqJ g1 g2):=by
 with_unfolding_all exact (PSs.imp (ZQ h1 h2) fun E σ H=>by
  rintro ⟨G,H0,env,o,a,k,ha,ef,q⟩;obtain ⟨o1,e1,e2⟩:=je ef;refine ⟨G,H0,env,o1,a,k,ha,e1,?_⟩
  cases o1 with
  |nx env1=>exact fun σ' H' k' a' f'=>⟨G,H0,env1,o,a,k',a',e2,ZT f' q⟩
  |rt b env1=>cases e2;exact q)
def jbf (h1:DSO X i st g1):DSsO X i [st] g1:=by
 with_unfolding_all exact (PSs.imp (ZP h1) fun E σ H q=>q)
def nxJ:Sl->Res OutO:=fun env=> .ok (.nx env)
def jbg:DSsO X i [] nxJ:=by
 with_unfolding_all exact (PSs.imp kn fun E σ H=>by
  rintro ⟨G,H0,env,o,a,k,ha,ef,q⟩;cases ef
  exact q σ H k ha (Frm.refl (Same.refl H)))
def ownJ (i:Nat) (c:Str):Sl->Res (List Str×List D):=fun env=>match env[i]? with
 |some (.own (.obj c' ns ds))=>must (c'=c) (.ok (ns,ds))
 |_=> .stuck
def jat {q:List Str×List D} {env:Sl} (h:ownJ i c env= .ok q):env[i]?=some (.own (.obj c q.1 q.2)):=by
 unfold ownJ at h
 split at h
 · rename_i c' ns ds e;obtain ⟨hc,h2⟩:=jr h;subst hc;cases h2;exact e
 · cases h
def u7 (i:Nat) (c n:Str) (f:T5):Sl->Res OutO:=fun env=>f env>>=fun d=>ownJ i c env>>=fun q=>must (q.1.length<1000) (.ok (.nx (env.set i (.own (.obj c (VB n q.1) (VC n d q.1 q.2))))))
def KY (hf:FldN X.K c n) (h:DE X .s e f) (hN:X.N[i]?=some x:=by rfl) (hv:Vis X.env.scope x:=by first|exact acj rfl|exact abB (acj rfl)|exact abB (abB rfl))
   (hd:ZI x:=by decide) (hcd:Y9 x:=by decide)
   (hs:acp e (some (.Attribute (.Name x p) n apos)) pos.line X.env=pure false:=by rfl):DSO X i (.Assign [.Attribute (.Name x p) n apos] e pos) (u7 i c n f):=by
 with_unfolding_all exact (
  PS.imp (jep (wW hN hv hd hcd) h hs) fun E σ H=>by
   rintro ⟨G,H0,env,o,a,k,ha,ef,q⟩;obtain ⟨d,e1,ef⟩:=je ef;obtain ⟨ns,e2,ef⟩:=je ef;obtain ⟨hz,e3⟩:=jr ef;cases e3;have hi:=jat e2;refine ⟨G,H0,env,d,k,e1,fun y H1 s1 r1 _=>?_⟩;obtain ⟨a',C,dx,fs,h1,hx,hc,hn,rs⟩:=kE (k.grow s1) hi;rw [ha] at h1;cases h1;refine ⟨_,ha,a,C,dx,fs,rfl,hx,(hf.at hc).1,(hf.at hc).2,by rw [←hn,aak] at hz;exact hz,?_⟩;obtain ⟨p1,p2⟩:=Kf r1 rs;rw [hn] at p1 p2;have W:=(k.grow s1).writeG (o':= .ins C dx (putF n y fs)) hi ha hx trivial fun A' H' st e w=> .obj e ⟨hc,p1⟩ rfl (p2.stay st w)
   exact q σ _ W.1 ha (W.2.grow s1))
end
structure AvM (P:aaH) (w:World) (K:aab) (mg:X8) (base:Heap) (k:Nat) (c m:Str) (ps:List Str) (fr:Bool) (F:TZ):Prop where
 ex: ∃C f fd,FnOk P w K mg base CX0 k f fd ps (spF K fr ps.length F)/\aaz K aaw c=some (some (.ref C))/\Cls K C/\Meth K C m f/\Binds K fd ps []
def AvM.mono {P:aaH} {w:World} {K:aab} {mg:X8} {base:Heap} {j k:Nat} {c m:Str} {ps:List Str} {fr:Bool} {F:TZ} (h:AvM P w K mg base j c m ps fr F) (hj:j<=k):AvM P w K mg base k c m ps fr F:=
 let ⟨C,f,fd,a,b⟩:=h.ex
 ⟨C,f,fd,a.mono hj,b⟩
def JH (c m:Str) (n:Nat) (F:TZ) (fo:T5) (g:T0):Sl->Res D:=fun env=>fo env>>=fun o=>match o with
 | .obj c' ns vs=>must (c'=c/\ns.contains m=false) (g env>>=fun ds=>must (ds.length+1=n) (F (.obj c' ns vs::ds)))
 |_=> .stuck
def kZ {c m:Str} {n:Nat} {F:TZ} {fo:T5} {g:T0} {env:Sl} {d:D} (h:JH c m n F fo g env= .ok d): ∃ns vs ds,fo env= .ok (.obj c ns vs)/\ns.contains m=false/\g env= .ok ds/\ds.length+1=n/\F (.obj c ns vs::ds)= .ok d:=by
 obtain ⟨o,h1,h⟩:=je h
 cases o with
 |obj c' ns vs=>
  obtain ⟨⟨hc,h2⟩,h'⟩:=jr h;subst hc;obtain ⟨ds,h3,h''⟩:=je h';obtain ⟨h4,h5⟩:=jr h'';exact ⟨ns,vs,ds,h1,h2,h3,h4,h5⟩
 |_=>cases h
section
variable {X:Cx} {k n:Nat} {c m:Str} {ps:List Str} {fr:Bool} {F:TZ} {o e:Expr} {es:List Expr} {pos apos:Pos} {fo:T5} {g:T0} {pl:Sem Bool}
def noA:Sl->Res (List D):=fun _=> .ok []
def AvM.call0T (A:AvM X.prog X.w X.K X.mg X.base k c m ps true F) (hr:Room k X.A) (ho:DE X .s o fo) (hn:ps.length=n:=by rfl)
  (ht:eval (.Call (.Attribute o m apos) [] [] pos) X.env=(do
   let ov←eval o X.env
   standAt apos.atName
   let (f,first)←ad4 [ov] (getMethod ov m pl)
   callWith pos f first (abQ pos (aan [] X.env)) (aed pos (acK [] X.env))):=by rfl):DE X .t (.Call (.Attribute o m apos) [] [] pos) (JH c m n F fo noA):=by
 subst hn;obtain ⟨C,f,fd,h1,h2,h3,h4,h5⟩:=A.ex
 with_unfolding_all exact (
 PE.imp (jak ho h3 h4 h1 hr h5 .nil jap ht) fun σ H Q=>by
  rintro ⟨GG,H0,env,d,k,ef,q⟩;obtain ⟨ns,vs,ds,e1,e2,e3,e4,e5⟩:=kZ ef;cases e3;refine ⟨GG,H0,env,_,k,e1,fun v H1 s1 r1 _=>?_⟩;obtain ⟨a,C',dx,fs,rfl,hx,_,hc,hn,rs⟩:=r1.objE;rw [h2] at hc;cases hc;refine ⟨a,dx,fs,rfl,hx,Xh (by rw [hn];exact e2),?_⟩
  exact ⟨_,[_],d,by simp [←e4],.cons r1 .nil,e5,fun v H3 s3 r3 nt=>q v H3 (s1.trans s3) (r3.weak fun c z=>z.elim (fun z=>k.new c (Same.free s1 z)) fun z=>z) ((nt rfl).grow s1)⟩)
end
section
variable {P:aaH} {w:World} {K:aab} {mg:X8} {base:Heap}
def jfp {c m qual:Str} {st:Stmt} {C f:Addr} {fd:ab4} {N ps:List Str} {k:Nat} (fr:Bool) {g:T3} (Fu:Fun K m qual st f fd) (hC:aaz K aaw c=some (some (.ref C))) (cl:Cls K C) (me:Meth K C m f) (S:FnScope N ps (jg st)) (hbi:Binds K fd ps [])
  (hb: ∀(cdv:Value) (A:aa3) (outer:List Env) (s:aaf) (H:Hp) (E:XK),Room k (A.deeper (adX qual (jg st) s.heap.objs.size f cdv))->DSs (cxOf CX0 P w K mg base N qual (jg st) f cdv A outer s H E).nox (qA st) g):
  AvM P w K mg base (k+1) c m ps fr (runF fr N.length g):=
 ⟨C,f,fd,jc8 Fu S hb fun ds d _ h=>JE h,hC,cl,me,hbi⟩
end
abbrev FO:=D->List D->Res (D×D)
def wo (n:Nat) (d0:D) (ds:List D):Sl:= .own d0::(ds.map .shr++aaE (n-ds.length-1) .un)
def x6 {n:Nat} {d0:D} {ds:List D} {j:Nat} {s:Slot} (h:(wo n d0 ds)[j]?=some s):(j=0/\s= .own d0)\/(∃j' d,j=j'+1/\ds[j']?=some d/\s= .shr d)\/s= .un:=by
 unfold wo at h
 cases j with
 |zero=>simp at h;exact .inl ⟨rfl,h.symm⟩
 |succ j=>
  rw [abN] at h
  by_cases q:j<ds.length
  · rw [aaF (by simpa using q),aaO] at h
    cases e:ds[j]? with
    |none=>rw [e] at h;cases h
    |some x=>rw [e] at h;cases h;exact .inr (.inl ⟨j,x,rfl,e,rfl⟩)
  · rw [aay (by simpa using q),abq] at h
    split at h
    · cases h;exact .inr (.inr rfl)
    · cases h
def Ub {K:aab} {B:X7} {N:List Str} {us:List V} {ds:List D} {a:Addr} {d0:D} {H:Hp} (r:Reps K (fun c=>B c/\c≠a) H us ds) (t:Top K (fun c=>B c/\c≠a) H a d0) (hN:ds.length+1<=N.length):
   EnvOk K (fun c=>H c=none\/c=a\/B c) (fun c=>if c=a then none else H c) (wo N.length d0 ds) (start N (V.ref a::us)) H/\At (start N (V.ref a::us)) 0 a:=by
 have hl:=r.length
 have hat:At (start N (V.ref a::us)) 0 a:=by
   show (L2.start N (V.ref a::us))[0]?=_;unfold L2.start;simp
 have hget: ∀(j:Nat) (v:V),us[j]?=some v->(start N (V.ref a::us))[j+1]?=some (some v):=fun j v h=>by
   have hj:=(aap.mp h).1;unfold L2.start;rw [aaF (by simp;omega),aaO,abN,h];rfl
 have own1: ∀c,jY (wo N.length d0 ds) (start N (V.ref a::us)) c->c=a:=fun c ⟨j,d,h1,h2⟩=>by
   rcases x6 h1 with ⟨rfl,_⟩| ⟨_,_,_,_,z⟩|z
   · rw [hat] at h2;cases h2;rfl
   · cases z
   · cases z
 have w: ∀c,B c/\c≠a->Sf (fun c=>H c=none\/c=a\/B c) (wo N.length d0 ds) (start N (V.ref a::us)) c:=fun c z=>⟨fun o=>z.2 (own1 c o),.inr (.inr z.1)⟩
 refine ⟨⟨?_,fun c o e=>?_,fun c e=>?_,fun j d h=>?_,fun j d h=>?_,fun j j' d e b h1 h2 h3 h4=>?_⟩,hat⟩
 · simp [L2.start,wo,hl];omega
 · split at e
   · cases e
   · exact e
 · split at e
   · rename_i z;exact .inr (.inl z)
   · exact .inl e
 · rcases x6 h with ⟨_,z⟩| ⟨j',d',rfl,e,z⟩|z
   · cases z
   · cases z;obtain ⟨v,h1,h2⟩:=r.get e;exact ⟨v,hget j' v h1,h2.weak w⟩
   · cases z
 · rcases x6 h with ⟨rfl,z⟩| ⟨j',d',_,e,z⟩|z
   · cases z;exact ⟨a,hat,if_pos rfl,t.stay (fun _ _ e _=>e) w fun _ e=>e⟩
   · cases z
   · cases z
 · have real: ∀(j:Nat) (d:D),(wo N.length d0 ds)[j]?=some (.own d)->j=0:=fun j d h=>by
     rcases x6 h with ⟨z,_⟩| ⟨_,_,_,_,z⟩|z
     · exact z
     · cases z
     · cases z
   rw [real j d h1,real j' e h2]
def J6:Sl->Res D
 | .own d::_=> .ok d
 |_=> .stuck
def U1 {env:Sl} {d:D} (h:J6 env= .ok d):env[0]?=some (.own d):=by
 unfold J6 at h
 split at h
 · cases h;rfl
 · cases h
section
variable {prog:aaH} {w:World} {A:aa3} {E:X6} {s:aaf}
structure SetI (h:Heap) (a:Addr) (es:Array (Int×Value)) (ep:Nat) (t:aa9):Prop where
 ex: ∃o,h.get? a=some o/\o.ExactSet/\o.data= .set es ep t
 el: ∀e∈es.toList,∃k tk,e.2= .int k tk/\e.1=hashInt k
 bd:es.size<aep
 ft:t.fits es.size=true
def SetI.of {a:Addr} {S:Int->Bool} {n:Nat} {h:Heap} (hS:h.SetOf (ach prog w) a S n): ∃es ep t,SetI h a es ep t/\es.size=n/\(∀k,S k=true↔ ∃e∈es.toList,(ach prog w).is k e.2=true):=by
 obtain ⟨o,es,ep,t,ho,hx,hd,hel,hm,hb,hf,hn⟩:=hS;refine ⟨es,ep,t,⟨⟨o,ho,hx,hd⟩,fun e he=>?_,hb,hf⟩,hn,hm⟩;obtain ⟨⟨k,h1,h2⟩,_⟩:=hel e he;obtain ⟨tk,h3⟩:=aeJ h1;exact ⟨k,tk,h3,h2⟩
def SetI.state {a:Addr} {es:Array (Int×Value)} {ep:Nat} {t:aa9} (h:SetI s.heap a es ep t) {Q:(Array (Int×Value)×Nat×aa9)->aaf->Prop} (hq:Q (es,ep,t) s):wpAny (model prog w) A (setState a) Q E s:=by
 obtain ⟨o,ho,_,hd⟩:=h.ex;exact abe ho hd h.ft hq
def Qu {es:Array (Int×Value)} (hel: ∀e∈es.toList,∃k tk,e.2= .int k tk/\e.1=hashInt k) {β:Type} {b0:β} {f:Int×Value->β->Sem (ForInStep β)} {Q:β->aaf->Prop}
   (hf: ∀h k tk,f (h,.int k tk) b0=pure (.yield b0)) (hq:Q b0 s):wpAny (model prog w) A (forIn es b0 f) Q E s:=by
 refine aeq f (fun rest b s'=>b=b0/\s'=s/\ ∀e∈rest,e∈es.toList) Q ?_ ?_ es b0 ⟨rfl,rfl,fun _ h=>h⟩
 · rintro ⟨h,x⟩ rest b s' ⟨rfl,rfl,hm⟩;obtain ⟨k,tk,e1,e2⟩:=hel _ (hm _ aax);dsimp only at e1;subst e1;rw [hf];exact aac ⟨rfl,rfl,fun e he=>hm e (aao _ he)⟩
 · rintro b s' ⟨rfl,rfl,_⟩;exact hq
def Vy {a b c:Addr} {e1 e2 e3:Array (Int×Value)} {p1 p2 p3:Nat} {t1 t2 t3:aa9} (h1:SetI s.heap a e1 p1 t1) (h2:SetI s.heap b e2 p2 t2) (h3:SetI s.heap c e3 p3 t3) {Q:Bool->aaf->Prop} (hq:Q true s):
  wpAny (model prog w) A (setsQuiet [a,b,c]) Q E s:=by
 unfold setsQuiet setEntries;simp;refine aaa (h1.state ?_);refine aaa (Qu h1.el (fun _ _ _=>rfl) ?_);dsimp only;simp;refine aaa (h2.state ?_);refine aaa (Qu h2.el (fun _ _ _=>rfl) ?_);dsimp only;simp;refine aaa (h3.state ?_);refine aaa (Qu h3.el (fun _ _ _=>rfl) ?_);dsimp only;simp;exact aac hq
theorem ZR {α:Type} (next:Nat->Nat): ∀(fuel k:Nat) (left:List α) (out:Array α) (x:α),x∈(ad0 next fuel k left out).toList->x∈left\/x∈out.toList
 |0,_,_,out,x,h=> .inr h
 |fuel+1,k,left,out,x,h=>by
  unfold ad0 at h
  split at h
  · rename_i y e;rcases ZR next fuel (k+1) _ _ x h with z|z
    · exact .inl (List.mem_of_mem_eraseIdx z)
    · rw [aeP,aa6] at z;rcases z with z|z
      · exact .inr z
      · rw [acT] at z;subst z;exact .inl (aaV e)
  · exact .inr h
def SetI.keep {h h':Heap} {a:Addr} {es:Array (Int×Value)} {ep:Nat} {t:aa9} (x:SetI h a es ep t) (k: ∀o,h.get? a=some o->h'.get? a=some o):SetI h' a es ep t:=
 let ⟨o,h1,h2⟩:=x.ex
 ⟨⟨o,k o h1,h2⟩,x.el,x.bd,x.ft⟩
def wY (k:Int) (tk:Tok):(ach prog w).is k (.int k tk)=true:=by
 with_unfolding_all exact (beq_self_eq_true k)
def uM {a:Addr} (hT:s.TypeIs (.ref a) "set") {Q:Bool->aaf->Prop} (h:Q true s):wpAny (model prog w) A (acl (.ref a)) Q E s:=by
 unfold acl;unfold orM;refine aaa (acm hT F.sub_set_set ?_);exact aac h
def Wr:entryFor table "set.__sub__" =some ab3.«frozenset.__sub__» :=
 entryFor_alias (id':= "frozenset.__sub__") (by kernel_rfl) rfl (by decide+kernel) (by kernel_rfl)
end
def SetI.setOf {prog:aaH} {w:World} {h:Heap} {a:Addr} {pf:Nat} {tf:aa9} (x:SetI h a #[] pf tf):h.SetOf (ach prog w) a (fun _=>false) 0:=by
 obtain ⟨o,h1,h2,h3⟩:=x.ex;exact ⟨o, #[],pf,tf,h1,h2,h3,fun e he=>by simp at he,fun k=>by simp,by decide,x.ft,rfl⟩
def dd (ns:List Int):List Int:=firstMet (fun i=>ns.getD i 0) ns.length
def jfk (ns:List Int) (k:Int):(dd ns).any (· ==k)=ns.any (· ==k):=by
 unfold dd;rw [firstMet_any];congr 1;apply List.ext_getElem
 · simp
 · intro i h1 h2;simp [aae h2]
section
variable {X:Cx}
theorem KB: ∀ {is:List Int} {us:List Value},Vals (is.map V.int) us->IntsAre us is
 | [],_,.nil=> .nil
 |i::is,_,.cons h t=>by
  obtain ⟨k,rfl⟩:=h;exact .cons i k (KB t)
def XJ (hc:X.calm=true):CallR X (.type "set") (fun xs H Q=> ∃(p:Addr) (is:List Int),xs=[.ref p]/\SqL X.K H p (is.map V.int)/\is.length+1<aep/\ ∀l,H l=none->Q (.ref l) (upd H l (.set (fun k=>is.any (· ==k)) (dd is).length))):=by
 rintro pins s σ H xs us Q I r ⟨p,is,ex,hq,hz,q⟩;subst ex;obtain ⟨u,rfl,ru⟩:=J5 r;cases ru;obtain ⟨its,rv,pl,_⟩:=I.list hq;obtain ⟨v1,v2⟩:=Y0 rv;refine call_set_list (I.ok.hd hc) pl.isList (by simpa using KB rv) (by simp;rw [v1];exact hz) fun h' tk hS hk=>?_
 have hl:=I.hok.fresh (aai _)
 have hS':h'.SetOf (ach X.prog X.w) s.heap.objs.size (fun k=>is.any (· ==k)) (dd is).length:=by
  refine SetOf_congr hS (fun k=>?_) ?_
  · simp only [aag,v1];exact jfk is k
  · simp only [aag,v1];rfl
 exact ⟨.ref s.heap.objs.size,_,I.laid (fun b o e=>hk b o (aav e) e) (aai _) (show ObjOk X.prog X.w _ h' _ (.set _ _) from hS'),rfl,q _ hl⟩
def uA:CallR X (.builtin "len") (fun xs H Q=> ∃a S n,xs=[.ref a]/\H a=some (.set S n)/\Q (.int n) H):=by
 rintro pins s σ H xs us Q I r ⟨a,S,n,ex,ha,q⟩;subst ex;obtain ⟨u,rfl,ru⟩:=J5 r;cases ru;have hA:=I.hok a _ ha;obtain ⟨o,es,ep,t,ho,hx,hd,hel,hm,hb,hf,hn⟩:=hA;subst hn;have h1:aep=4096:=rfl;exact call_len_set ho hx hd hf (by rw [h1] at hb;omega) ⟨.int es.size,H,I.tok _,⟨_,rfl⟩,q⟩
variable {l1 l2:Lv} {e1 e2:Expr} {f1 f2:T5} {p1 p2 p3 q1 q2 q3 pos:Pos}
end
end M
namespace M
open PySem PySem.Spec L2
open PyProof.Rows hiding St
open PySem.SeqAt (EqAt RcAt RcNeAt)
section
variable {X:Cx} {K:aab}
def kX:MtM X "list.insert" (fun x vs H Q=> ∃l xs i y,x= .ref l/\vs=[.int i,y]/\H l=some (.lst xs)/\0<=i/\i<2^63/\xs.length<aah/\Q .non (upd H l (.lst (xs.take i.toNat++y::xs.drop i.toNat)))):=by
 rintro pins s σ H x vs v us Q I rx rv ⟨l,xs,i,y,ex,ev,hH,h1,h2,hz,q⟩;subst ex ev;cases rx
 cases rv with
 |cons r1 t=>
  cases t with
  |cons r2 t=>
   cases t;obtain ⟨t,rfl⟩:=r1;obtain ⟨z,its,n,r,hl,e⟩:=I.lstM hH;refine adO F.slot_list_insert ⟨_,e,rfl⟩ F.entry_list_insert (F.args_list_insert_3 _ _ _) (AutoSeq1.list_insert_list_int_val_1 l its.toArray n i t _ (by rw [fitsIndex_both (by omega) h2];simp) (by rw [aag];omega)) ⟨e,?_⟩;refine ⟨.non,_,I.lset hH e ?_ ((r.take _).append (.cons r2 (r.drop _))) ?_,rfl,q⟩
   · show (((its.toArray.extract 0 (if i<0 then (i+(its.toArray.size:Int)).toNat else min i.toNat its.toArray.size)).push _++its.toArray.extract (if i<0 then (i+(its.toArray.size:Int)).toNat else min i.toNat its.toArray.size)))=_;rw [if_neg (by omega)];apply ae0.mp;simp
     by_cases hi:i.toNat<=its.length
     · rw [Nat.min_eq_left hi];simp [List.take_of_length_le]
     · rw [Nat.min_eq_right (by omega)];simp [List.take_of_length_le,List.drop_of_length_le,show its.length<=i.toNat by omega]
   · simp;omega
variable {e1 e2:Expr} {f1 f2:T5} {l1:Lv} {x:Str} {p apos cpos pos:Pos}
def JJ (i:Nat) (f1 f2:T5):Sl->Res Out:=fun env=>ownL i env>>=fun ds=>f1 env>>=fun j=>f2 env>>=fun d=>match j with
 | .int k=>must (0<=k/\k<2^63/\ds.length<aah) (.ok (.nx (env.set i (.own (.lst (ds.take k.toNat++d::ds.drop k.toNat))))))
 |_=> .stuck
def v9 (i:Nat) (h1:DE X l1 e1 f1) (h2:DE X .s e2 f2) (hN:X.N[i]?=some x:=by rfl) (hv:Vis X.env.scope x:=by first|exact acj rfl|exact abB (acj rfl)|exact abB (abB rfl))
   (hd:ZI x:=by decide) (hcd:Y9 x:=by decide)
   (hbase:abL (.Name x p) "insert" X.env (eval (.Name x p) X.env)=eval (.Name x p) X.env:=by rfl)
   (hfew:((abQ cpos (aan [e1,e2] X.env)).all (fun x=>!x.1)&&(aed cpos (acK [] X.env)).all (fun x=>x.1.isSome)
    &&decide ([e1,e2].length+([]:List adN).length+(if ([]:List adN).isEmpty then 0 else 1)<30))=true:=by exact QW rfl rfl)
   (hline:(apos.endLine==cpos.line)=true:=by rfl) (hs:aan [e1,e2] X.env=(false,eval e1 X.env)::aan [e2] X.env:=by exact jk rfl) (hplain:(abQ cpos (aan [e2] X.env)).any (·.1)=false:=by exact jS rfl)
   (hs2:aan [e2] X.env=(false,eval e2 X.env)::aan [] X.env:=by exact jk rfl)
   (hsw:acp (.Call (.Attribute (.Name x p) "insert" apos) [e1,e2] [] cpos) none pos.line X.env=pure false:=by rfl):
   DS X (.Expr (.Call (.Attribute (.Name x p) "insert" apos) [e1,e2] [] cpos) pos) (JJ i f1 f2):=by
 with_unfolding_all exact (
  PS.imp (JF (jcv ab5 PySem.F.slot_list_insert PySem.F.type_list_insert kX (wW hN hv hd hcd) (qg h1 (qg h2 wu hs2) hs) hbase hfew hline hs hplain) hsw) fun E σ H=>by
   rintro ⟨G,H0,env,o,k,ef,q⟩;obtain ⟨ds,c1,ef⟩:=je ef;obtain ⟨j,c2,ef⟩:=je ef;obtain ⟨d,c3,c4⟩:=je ef
   cases j with
   |int kk=>
    obtain ⟨⟨z1,z2,z3⟩,c5⟩:=jr c4;cases c5;have hi:=wx c1;obtain ⟨a,xs,ha,hx,rs⟩:=wv k hi;refine ⟨.ref a,ha,.inl ⟨rfl,xs,.of hx⟩,G,H0,env,_,k,c2,fun v1 H1 s1 r1 _=>⟨G,H0,env,d,k.grow s1,c3,fun v2 H2 s2 r2 _=>?_⟩⟩;have hx2:=s2 _ _ (s1 _ _ hx);cases (r1.weak Lv.weak_b).intE;refine ⟨a,xs,kk,v2,rfl,rfl,hx2,z1,z2,by rw [rs.length];exact z3,?_⟩;have rs2:=(rs.grow s1).grow s2;have W:=((k.grow s1).grow s2).write hi ha hx2 (ds':=ds.take kk.toNat++d::ds.drop kk.toNat) ((rs2.take _).append (.cons r2 (rs2.drop _)));exact q σ _ W.1 ((W.2.grow s2).grow s1)
   |_=>cases c4)
end
end M
namespace M
open PySem PySem.Spec L2
open PyProof.Rows hiding St
def fsc {N P:List Str} {sc:Scope} (h1:sc.kind= .function:=by rfl) (h2:sc.isCoroutine=false:=by rfl) (h3:sc.isGenerator=false:=by rfl) (h4:N.Nodup:=by decide+kernel) (h5:N.take P.length=P:=by rfl) (h6: ∀x∈P,sc.names.lookup x=some .local\/sc.names.lookup x=some .cell:=by decide+kernel) (h7: ∀y∈sc.names,y.2≠ .free:=by decide+kernel):FnScope N P sc:=⟨h1,h2,h3,h4,h5,h6,h7⟩
def Dx (K:aab) (mg:X8) (x:Str) (st:Stmt) (ps:List Str):Prop:= ∃f fd,Fun K x x st f fd/\mg x=some (.ref f)/\Binds K fd ps []
def LkF (K:aab) (p:Addr) (x q:Str) (st:Stmt):Prop:= ∃(oc:Value) (od an:Option Addr) (osl:Array (Option Value)) (kV doc pm cdv ct:Value),
 K.lookup p=some ⟨oc,od,.func (acq x q (xT st) (qA st) (jg st) .none kV doc pm an cdv ct),osl⟩/\adH K cdv q=true
def DefN (K:aab) (x:Str) (st:Stmt):Prop:= ∃p:Addr,aaz K aaw x=some (some (.ref p))/\LkF K p x x st/\abg K (.ref p)=true
def Dm (K:aab) (C:Addr) (m q:Str) (st:Stmt) (ps:List Str):Prop:= ∃f fd,Fun K m q st f fd/\Meth K C m f/\Binds K fd ps []
def DefM (K:aab) (C:Addr) (m q:Str) (st:Stmt):Prop:= ∃p:Addr,abh K (.ref C) m=some (some (.ref p))/\ae4 K (.ref p)=true/\LkF K p m q st/\abg K (.ref p)=true
abbrev Tk (x q:Str) (st:Stmt) (us:List Value) (ps:List Str):Prop:= ∀(kV doc pm:Value) (an:Option Addr) (cdv ct:Value),bindArgs (acq x q (xT st) (qA st) (jg st) .none kV doc pm an cdv ct) ⟨us,[]⟩=pure (ps.zip us)
section
variable {K:aab} {mg:X8} {x q m:Str} {st:Stmt} {ps:List Str} {h:Heap} {C:Addr}
def LkF.fn {p:Addr} (l:LkF K p x q st) (k:abg K (.ref p)=true) (hb: ∀us,us.length=ps.length->Tk x q st us ps): ∃fd,Fun K x q st p fd/\Binds K fd ps []:=by
 obtain ⟨oc,od,an,osl,kV,doc,pm,cdv,ct,l,c⟩:=l;have F:=jbQ l c k;exact ⟨_,F,F.binds fun a b c d e f us hl=>hb us hl a b c d e f⟩
def DefN.dx (d:DefN K x st) (KX:K.In h) (G:h.Ns aaw mg) (hb: ∀us,us.length=ps.length->Tk x x st us ps):Dx K mg x st ps:=by
 obtain ⟨p,a,l,k⟩:=d;obtain ⟨fd,F,B⟩:=l.fn k hb;exact ⟨p,fd,F,abu KX G a,B⟩
def DefM.dm (d:DefM K C m q st) (hb: ∀us,us.length=ps.length->Tk m q st us ps):Dm K C m q st ps:=by
 obtain ⟨p,a,i,l,k⟩:=d;obtain ⟨fd,F,B⟩:=l.fn k hb;exact ⟨p,fd,F,⟨a,i,k⟩,B⟩
theorem tk1 {x q:Str} {st:Stmt} {p:Str} (h: ∀a,Tk x q st [a] [p]:=by intro _ _ _ _ _ _ _;rfl): ∀us:List Value,us.length=[p].length->Tk x q st us [p]
 | [a],_=>h a
theorem tk2 {x q:Str} {st:Stmt} {p p2:Str} (h: ∀a b,Tk x q st [a,b] [p,p2]:=by intro _ _ _ _ _ _ _ _;rfl): ∀us:List Value,us.length=[p,p2].length->Tk x q st us [p,p2]
 | [a,b],_=>h a b
theorem tk3 {x q:Str} {st:Stmt} {p p2 p3:Str} (h: ∀a b c,Tk x q st [a,b,c] [p,p2,p3]:=by intro _ _ _ _ _ _ _ _ _;rfl): ∀us:List Value,us.length=[p,p2,p3].length->Tk x q st us [p,p2,p3]
 | [a,b,c],_=>h a b c
theorem tk4 {x q:Str} {st:Stmt} {p p2 p3 p4:Str} (h: ∀a b c d,Tk x q st [a,b,c,d] [p,p2,p3,p4]:=by intro _ _ _ _ _ _ _ _ _ _;rfl): ∀us:List Value,us.length=[p,p2,p3,p4].length->Tk x q st us [p,p2,p3,p4]
 | [a,b,c,d],_=>h a b c d
end
section
variable {P:aaH} {w:World} {K:aab} {mg:X8} {base:Heap}
def zc {x:Str} {st:Stmt} {N ps:List Str} {k:Nat} (fr:Bool) {g:T3} (d:Dx K mg x st ps) (S:FnScope N ps (jg st))
  (hb: ∀(f:Addr) (cdv:Value) (A:aa3) (outer:List Env) (s:aaf) (H:Hp) (E:XK),Room k (A.deeper (adX x (jg st) s.heap.objs.size f cdv))->DSs (cxOf CX0 P w K mg base N x (jg st) f cdv A outer s H E).nox (qA st) g):
  Av P w K mg base (k+1) x ps fr (runF fr N.length g):=by
 obtain ⟨f,fd,F,m,B⟩:=d;exact jgj fr F m S B (hb f)
def jb2 {c m q:Str} {st:Stmt} {C:Addr} {N ps:List Str} {k:Nat} (fr:Bool) {g:T3} (d:Dm K C m q st ps) (hC:aaz K aaw c=some (some (.ref C))/\Cls K C) (S:FnScope N ps (jg st))
  (hb: ∀(f:Addr) (cdv:Value) (A:aa3) (outer:List Env) (s:aaf) (H:Hp) (E:XK),Room k (A.deeper (adX q (jg st) s.heap.objs.size f cdv))->DSs (cxOf CX0 P w K mg base N q (jg st) f cdv A outer s H E).nox (qA st) g):
  AvM P w K mg base (k+1) c m ps fr (runF fr N.length g):=by
 obtain ⟨f,fd,F,m,B⟩:=d;exact jfp fr F hC.1 hC.2 m S B (hb f)
def jbu {x:Str} {st:Stmt} {ps:List Str} {k:Nat} (fr:Bool) (d:Dx K mg x st ps):Av P w K mg base k x ps fr (fun _=> .stuck):=by
 obtain ⟨f,fd,F,m,B⟩:=d;exact jdG fr F m B
end
section
variable {X:Cx} {a b e:Expr} {f f1 f2:T5} {pos:Pos} {x:Str}
def vb (i:Nat) {x:Str} (hN:X.N[i]?=some x:=by rfl) (hv:Vis X.env.scope x:=by first|exact acj rfl|exact abB (acj rfl)|exact abB (abB rfl)) (hd:ZI x:=by decide) (hcd:Y9 x:=by decide):DE X .b (.Name x pos) (rdS i):=DE.b (dv i hN hv hd hcd)
def ib {i:Int} {j}:DE X .b (.Constant (.int i) j pos) (cI i):=jbY
def i_s {i:Int} {j}:DE X .s (.Constant (.int i) j pos) (cI i):=jbY
def ob {op:aex} {r:R2} {g:D->D->Res D} (ho:OpR X (abV op) r) (hr:OpS X.K r g) (ha:DE X .b a f1) (hb:DE X .b b f2):DE X .b (.BinOp a op b pos) (two f1 f2 g):=YL ho hr ha hb
def o_s {op:aex} {r:R2} {g:D->D->Res D} (ho:OpR X (abV op) r) (hr:OpS X.K r g) (ha:DE X .b a f1) (hb:DE X .b b f2):DE X .s (.BinOp a op b pos) (two f1 f2 g):=YL ho hr ha hb
def Jc (ha:DE X .b a f1) (hb:DE X .b b f2):DE X .b (.BinOp a .Mod b pos) (two f1 f2 modI):=YL y8 Ja ha hb
def jfX (ha:DE X .b a f1) (hb:DE X .b b f2):DE X .b (.BinOp a .Pow b pos) (two f1 f2 powI):=YL Kn Kq ha hb
def kN (ha:DE X .b a f1) (hb:DE X .b b f2):DE X .b (.BinOp a .FloorDiv b pos) (two f1 f2 divW):=YL jav jaC ha hb
def gi {x:Str} {i:Int} (hg:Gl X x) (hm: ∃t,X.mg x=some (.int i t)) (hd:ZI x:=by decide):DE X .b (.Name x pos) (cI i):=hm.elim fun _ h=>ug hg h hd
def gis {x:Str} {i:Int} (hg:Gl X x) (hm: ∃t,X.mg x=some (.int i t)) (hd:ZI x:=by decide):DE X .s (.Name x pos) (cI i):=hm.elim fun _ h=>ug hg h hd
def gst {x y:Str} (hg:Gl X x) (hm: ∃t,X.mg x=some (.str y t)) (hl:y.length<=aah:=by decide) (hd:ZI x:=by decide):DE X .b (.Name x pos) (cS y):=hm.elim fun _ h=>jdt hg h hl hd
end
def DEX.calm {X:Cx} {l:Lv} {e:Expr} {f:T5} (h:DEX X l e f):DE X l e (uy f):=by
 with_unfolding_all exact (PE.imp h fun σ H Q ⟨G,H0,env,d,k,ef,q⟩=>⟨G,H0,env,k,.inl ⟨d,kO ef,q⟩⟩)
abbrev FJ:=Sl->Res (D×Sl)
variable {X:Cx} {K:aab}
def popE (i:Nat):Sl->Res Out:=fun env=>ownL i env>>=fun ds=>match ds with
 | []=> .stuck
 |_::_=> .ok (.nx (env.set i (.own (.lst ds.dropLast))))
def jdk (i:Nat) {x:Str} {p apos cpos pos:Pos} (hN:X.N[i]?=some x:=by rfl) (hv:Vis X.env.scope x:=by first|exact acj rfl|exact abB (acj rfl)|exact abB (abB rfl))
   (hd:ZI x:=by decide) (hcd:Y9 x:=by decide)
   (hbase:abL (.Name x p) "pop" X.env (eval (.Name x p) X.env)=eval (.Name x p) X.env:=by rfl) (hline:(apos.endLine==cpos.line)=true:=by rfl)
   (hsw:acp (.Call (.Attribute (.Name x p) "pop" apos) [] [] cpos) none pos.line X.env=pure false:=by rfl):DS X (.Expr (.Call (.Attribute (.Name x p) "pop" apos) [] [] cpos) pos) (popE i):=by
 with_unfolding_all exact (
  PS.imp (JF (jbH ab5 PySem.F.slot_list_pop PySem.F.type_list_pop jeP (wW hN hv hd hcd) hbase hline) hsw) fun E σ H=>by
   rintro ⟨G,H0,env,o,k,ef,q⟩;obtain ⟨ds,e1,e2⟩:=je ef;have hi:=wx e1;obtain ⟨a,xs,ha,hx,rs⟩:=wv k hi
   cases ds with
   |nil=>cases e2
   |cons d ds=>
    cases e2;obtain ⟨v,hv',rv⟩:=rs.get (by rw [←List.getLast?_eq_getElem?,List.getLast?_eq_getLast (by simp)]);have W:=k.write hi ha hx rs.dropLast
    exact ⟨.ref a,ha,.inl ⟨rfl,xs,.of hx⟩,a,xs,v,rfl,rfl,hx,by rw [rs.length];exact hv',q σ _ W.1 W.2⟩)
end M
namespace M
open PySem
namespace Tab
open SetTable (Probe runEnd leap bits)
def adv (m:Nat) (p:Probe):Probe:=
 if p.more>0 then {p with j:=p.j+1,more:=p.more-1} else
 {p with j:=(leap m p.i p.perturb).1,more:=runEnd m (leap m p.i p.perturb).1-(leap m p.i p.perturb).1,i:=(leap m p.i p.perturb).1,perturb:=(leap m p.i p.perturb).2}
def beg (m:Nat) (i q:Nat):Probe:={j:=i,more:=runEnd m i-i,i:=i,perturb:=q,dummy:=none}
def pth (m:Nat) (h:Int):Nat->Probe
 |0=>beg m (bits h%(m+1)) (bits h)
 |n+1=>adv m (pth m h n)
def at' (m:Nat) (h:Int) (n:Nat):Nat:=(pth m h n).j
def lp (m:Nat) (h:Int):Nat->Nat×Nat
 |0=>(bits h%(m+1),bits h)
 |c+1=>leap m (lp m h c).1 (lp m h c).2
def off (m:Nat) (h:Int):Nat->Nat
 |0=>0
 |c+1=>off m h c+(runEnd m (lp m h c).1-(lp m h c).1)+1
theorem Yc {m:Nat} {h:Int} {n i q:Nat} (e:pth m h n=beg m i q): ∀k,k<=runEnd m i-i->pth m h (n+k)={j:=i+k,more:=runEnd m i-i-k,i:=i,perturb:=q,dummy:=none}
 |0,_=>by rw [ad1,e];rfl
 |k+1,hk=>by
  have:=Yc e k (by omega);rw [←Nat.add_assoc];show adv m (pth m h (n+k))=_;rw [this];unfold adv;rw [if_pos (show runEnd m i-i-k>0 by omega)];simp;omega
theorem km (m:Nat) (h:Int): ∀c,pth m h (off m h c)=beg m (lp m h c).1 (lp m h c).2
 |0=>rfl
 |c+1=>by
  have e:=Yc (km m h c) _ (aai _);show adv m (pth m h (off m h c+(runEnd m (lp m h c).1-(lp m h c).1)))=_;rw [e];unfold adv;rw [if_neg (by simp)];rfl
def XW {m:Nat} {h:Int} {c k:Nat} (hk:k<=runEnd m (lp m h c).1-(lp m h c).1):at' m h (off m h c+k)=(lp m h c).1+k:=by
 unfold at';rw [Yc (km m h c) k hk]
def jeb (m i:Nat):runEnd m i-i<=9:=by unfold runEnd;split<;>omega
theorem jbI (m:Nat) (h:Int): ∀c,off m h c<=10*c
 |0=>aai _
 |c+1=>by
  have:=jbI m h c;have:=jeb m (lp m h c).1;show off m h c+(runEnd m (lp m h c).1-(lp m h c).1)+1<=_;omega
theorem jeQ (m:Nat) (h:Int): ∀c,(lp m h c).1<=m
 |0=>aeQ (afb _ (ae9 _))
 |c+1=>aeQ (afb _ (ae9 _))
def jdC (h:Int):bits h<2^64:=by
 unfold bits;have h1:(0:Int)<=h%(2^64:Int):=aer _ (by decide);have h2:h%(2^64:Int)< (2^64:Int):=adD _ (by decide);omega
theorem Zp (m:Nat) (h:Int): ∀c,(lp m h c).2=bits h/32^c
 |0=>by simp [lp]
 |c+1=>by
  show (lp m h c).2/32=_;rw [Zp m h c,Nat.div_div_eq_div_mul,Nat.pow_succ]
def jcM (m:Nat) (h:Int) {c:Nat} (hc:13<=c):(lp m h c).2=0:=by
 rw [Zp];refine Nat.div_eq_of_lt (aaA (jdC h) ?_);exact aaI (by decide:2^64<=32^13) (Nat.pow_le_pow_right (by decide) hc)
def fv (m:Nat):Nat->Nat->Nat
 |0,i=>i
 |d+1,i=>(fv m d i*5+1)%(m+1)
theorem jeR (m:Nat) (h:Int): ∀d,(lp m h (13+d)).1=fv m d (lp m h 13).1
 |0=>rfl
 |d+1=>by
  show (leap m (lp m h (13+d)).1 (lp m h (13+d)).2).1=_;rw [jcM m h (by omega)];rw [jeR m h d];rfl
def Cyc (m:Nat):Prop:= ∀i j,i<=m->j<=m-> ∃d,d<=m/\fv m d i=j
theorem KK (m:Nat) (a i:Nat): ∀b,fv m (a+b) i=fv m b (fv m a i)
 |0=>rfl
 |b+1=>by show (fv m (a+b) i*5+1)%(m+1)=_;rw [KK m a i b];rfl
def jfl {m:Nat} (h0:fv m (m+1) 0=0) (h: ∀j,j<=m-> ∃d,d<=m/\fv m d 0=j):Cyc m:=fun i j hi hj=>by
 obtain ⟨a,ha,ea⟩:=h i hi;obtain ⟨b,hb,eb⟩:=h j hj
 by_cases hab:a<=b
 · exact ⟨b-a,by omega,by rw [←ea,←KK,show a+(b-a)=b by omega,eb]⟩
 · refine ⟨m+1-a+b,by omega,?_⟩;rw [←ea,←KK,show a+(m+1-a+b)=m+1+b by omega,KK,h0,eb]
def orb (m:Nat):Nat->Nat->List Nat
 |0,_=>[]
 |n+1,i=>i::orb m n ((i*5+1)%(m+1))
theorem jbP (m:Nat) (i:Nat): ∀d,fv m (d+1) i=fv m d ((i*5+1)%(m+1))
 |0=>rfl
 |d+1=>by show (fv m (d+1) i*5+1)%(m+1)=_;rw [jbP m i d];rfl
theorem kI (m:Nat): ∀n i j,j∈orb m n i-> ∃d,d<n/\fv m d i=j
 |0,_,_,h=>by cases h
 |n+1,i,j,h=>by
  rcases aam.mp h with rfl|h
  · exact ⟨0,ae9 _,rfl⟩
  · obtain ⟨d,h1,h2⟩:=kI m n _ j h;exact ⟨d+1,by omega,by rw [jbP];exact h2⟩
def YM {m:Nat} (h0:fv m (m+1) 0=0) (h:(aa8 (m+1)).all (fun j=>(orb m (m+1) 0).contains j)=true):Cyc m:=
 jfl h0 fun j hj=>by
  have h1:=aa5.mp h j (aaU.mpr (by omega));obtain ⟨d,h2,h3⟩:=kI m _ _ _ (List.contains_iff_mem.mp h1);exact ⟨d,by omega,h3⟩
def cyc7:Cyc 7:=YM (by decide+kernel) (by decide+kernel)
def jgf:Cyc 31:=YM (by decide+kernel) (by decide+kernel)
def jfm:Cyc 127:=YM (by decide+kernel) (by decide+kernel)
def Zq {m:Nat} (C:Cyc m) (h:Int) {j:Nat} (hj:j<=m): ∃c,c<=m+13/\(lp m h c).1=j:=by
 obtain ⟨d,h1,h2⟩:=C _ j (jeQ m h 13) hj;exact ⟨13+d,by omega,by rw [jeR,h2]⟩
def Vw {m:Nat} (C:Cyc m) (h:Int) {j:Nat} (hj:j<=m): ∃n,n<=10*(m+13)/\at' m h n=j:=by
 obtain ⟨c,h1,h2⟩:=Zq C h hj;refine ⟨off m h c,aaI (jbI m h c) (by omega),?_⟩;have:=XW (m:=m) (h:=h) (c:=c) (aba _);rw [ad1] at this;rw [this,h2,ad1]
def jdI {m:Nat} (h:Int) (n:Nat):at' m h n<=m:=by
 suffices hs: ∀n,(pth m h n).j+(pth m h n).more<=m by exact aaI (adm _ _) (hs n)
 have hb: ∀i q,i<=m->(beg m i q).j+(beg m i q).more<=m:=fun i q hi=>by
  show i+(runEnd m i-i)<=m;unfold runEnd;split<;>omega
 intro n
 induction n with
 |zero=>exact hb _ _ (jeQ m h 0)
 |succ n ih=>
  show (adv m (pth m h n)).j+(adv m (pth m h n)).more<=m;unfold adv
  split
  · show (pth m h n).j+1+((pth m h n).more-1)<=m;omega
  · exact hb _ 0 (aeQ (afb _ (ae9 _)))
def Zx {m:Nat} (C:Cyc m) (h:Int) (occ:Nat->Prop) [DecidablePred occ] {j:Nat} (hj:j<=m) (hf: ¬occ j): ∃n,n<=10*(m+13)/\ ¬occ (at' m h n)/\ ∀k,k<n->occ (at' m h k):=by
 obtain ⟨n,h1,h2⟩:=Vw C h hj
 suffices hs: ∀N,¬occ (at' m h N)-> ∃n,n<=N/\ ¬occ (at' m h n)/\ ∀k,k<n->occ (at' m h k) by
  obtain ⟨n',a,b⟩:=hs n (by rw [h2];exact hf);exact ⟨n',by omega,b⟩
 intro N
 induction N using Nat.strongRecOn with
 |ind N ih=>
  intro hN
  by_cases hk: ∀k,k<N->occ (at' m h k)
  · exact ⟨N,aai _,hN,hk⟩
  · simp at hk;obtain ⟨k,hkN,hk⟩:=hk;obtain ⟨n',a,b⟩:=ih k hkN hk;exact ⟨n',by omega,b⟩
end Tab
end M
namespace M
open PySem
namespace Tab
variable {L:Bool}
open SetTable (Probe runEnd leap bits below insertAt)
theorem WA (xs:Array Nat) (j:Nat) (up:xs.toList.Pairwise (· < ·)): ∀(fuel lo hi:Nat),hi-lo<=fuel->lo<=hi->hi<=xs.size->(∀k v,k<lo->xs[k]?=some v->v<j)->(∀k v,hi<=k->xs[k]?=some v->j<=v)->
  (∀k v,k<adT xs j fuel lo hi->xs[k]?=some v->v<j)/\(∀k v,adT xs j fuel lo hi<=k->xs[k]?=some v->j<=v)/\adT xs j fuel lo hi<=xs.size
 |0,lo,hi,h1,h2,h3,h4,h5=>by
  obtain rfl:lo=hi:=by omega
  exact ⟨h4,h5,h3⟩
 |fuel+1,lo,hi,h1,h2,h3,h4,h5=>by
  unfold adT
  by_cases hl:lo<hi
  · rw [if_pos hl];have hm:(lo+hi)/2<xs.size:=by omega
    have hg:xs.getD ((lo+hi)/2) j=xs[(lo+hi)/2]:=by rw [aa0,aaj hm];rfl
    have mono: ∀a b va vb,a<b->xs[a]?=some va->xs[b]?=some vb->va<vb:=fun a b va vb hab ha hb=>by
      rw [←aar] at ha hb;obtain ⟨ha1,ha2⟩:=aap.mp ha;obtain ⟨hb1,hb2⟩:=aap.mp hb;rw [←ha2,←hb2];exact abD.mp up a b ha1 hb1 hab
    dsimp only;rw [hg]
    by_cases hc:xs[(lo+hi)/2]<j
    · rw [if_pos hc];refine WA xs j up fuel _ hi (by omega) (by omega) h3 (fun k v hk e=>?_) h5
      by_cases hk2:k=(lo+hi)/2
      · subst hk2;rw [aaj hm] at e;cases e;exact hc
      · exact Nat.lt_trans (mono k _ v _ (by omega) e (aaj hm)) hc
    · rw [if_neg hc];refine WA xs j up fuel lo _ (by omega) (by omega) (by omega) h4 (fun k v hk e=>?_)
      by_cases hk2:k=(lo+hi)/2
      · subst hk2;rw [aaj hm] at e;cases e;omega
      · have:=mono _ k _ v (by omega) (aaj hm) e;omega
  · rw [if_neg hl];obtain rfl:lo=hi:=by omega
    exact ⟨h4,h5,h3⟩
def JT {xs:Array Nat} (up:xs.toList.Pairwise (· < ·)) (j:Nat):(∀k v,k<aaM xs j->xs[k]?=some v->v<j)/\(∀k v,aaM xs j<=k->xs[k]?=some v->j<=v)/\aaM xs j<=xs.size:=
 WA xs j up xs.size 0 xs.size (by omega) (aba _) (aai _) (fun k v h _=>absurd h (acY _)) fun k v h e=>by
  rw [acR h] at e;cases e
def Jv {xs:Array Nat} (up:xs.toList.Pairwise (· < ·)) {j i:Nat} (e:xs[i]?=some j):aaM xs j=i:=by
 obtain ⟨h1,h2,h3⟩:=JT up j
 have hi:aaM xs j<=i:=by
  refine adk fun h=>?_
  exact absurd (h1 i j h e) (abE _)
 have hi2:=(abb.mp e).1;refine Nat.le_antisymm hi (adk fun h=>?_);have hb:aaM xs j<xs.size:=by omega
 have:=h2 _ _ (aai _) (aaj hb)
 have h4:xs[aaM xs j]<xs[i]:=by
  have:=abD.mp up (aaM xs j) i (by simpa using hb) (by simpa using hi2) h;simpa using this
 rw [aaj hi2] at e;cases e;omega
theorem UM {t:aa9} (up:t.place.toList.Pairwise (· < ·)) (dm:t.dummies= #[]) (j:Nat):t.slot j=match t.place[aaM t.place j]? with
  |some v=>if v=j then .live (aaM t.place j) else .empty
  |none=> .empty:=by
 unfold SetTable.slot;have hd:SetTable.has t.dummies j=false:=by rw [dm];rfl
 dsimp only;rw [hd]
 cases h:t.place[aaM t.place j]? with
 |none=>simp
 |some v=>simp
def Qn {t:aa9} (up:t.place.toList.Pairwise (· < ·)) (dm:t.dummies= #[]) {i j:Nat} (e:t.place[i]?=some j):t.slot j= .live i:=by
 rw [UM up dm,Jv up e,e];simp
def Vp {t:aa9} (up:t.place.toList.Pairwise (· < ·)) (dm:t.dummies= #[]) {j:Nat} (e:j∉t.place.toList):t.slot j= .empty:=by
 rw [UM up dm]
 split
 · rename_i v h;rw [if_neg];rintro rfl;rw [←aar] at h;exact e (aaV h)
 · rfl
structure Tb (L:Bool) (m:Nat) (t:aa9) (es:Array (Int×Value)):Prop where
 ld:t.led=L
 mask:t.mask=m
 dm:t.dummies= #[]
 sz:t.place.size=es.size
 up:t.place.toList.Pairwise (· < ·)
 le: ∀j∈t.place.toList,j<=m
 road: ∀(i j:Nat) (e:Int×Value),t.place[i]?=some j->es[i]?=some e-> ∃n,at' m e.1 n=j/\ ∀k,k<n->at' m e.1 k∈t.place.toList
def Tb.fresh (led:Bool):Tb led 7 (.fresh 0 0 led) #[]:=⟨rfl,rfl,rfl,rfl,.nil,(fun _ h=>by cases h),(fun i j e h=>by simp [SetTable.fresh] at h)⟩
section
variable {m:Nat} {t:aa9} {es:Array (Int×Value)}
def Tb.el (T:Tb L m t es) {i j:Nat} (h:t.place[i]?=some j): ∃e,es[i]?=some e:=by
 have:=(abb.mp h).1;exact ⟨_,aaj (by rw [←T.sz];exact this)⟩
def Tb.met (T:Tb L m t es) {i:Nat} {e:Int×Value} (he:es[i]?=some e) {N:Nat} (hN:at' m e.1 N∉t.place.toList): ∃n j,n<N/\at' m e.1 n=j/\t.place[i]?=some j:=by
 have hi:=(abb.mp he).1;have hj:t.place[i]?=some (t.place[i]'(by rw [T.sz];exact hi)):=aaj _;obtain ⟨n,h1,h2⟩:=T.road i _ e hj he;refine ⟨n,_,Nat.lt_of_le_of_ne (adk fun h=>hN (h2 N h)) ?_,h1,hj⟩;rintro rfl;rw [h1] at hN;exact hN (by rw [←aar] at hj;exact aaV hj)
def J3 {α:Type} (xs:Array α) {p:Nat} (x:α) (hp:p<=xs.size) (i:Nat):(insertAt xs p x)[i]?=if i<p then xs[i]? else if i=p then some x else xs[i-1]?:=by
 rw [←aar,adr];rw [show xs[i]?=xs.toList[i]? from aar.symm,show xs[i-1]?=xs.toList[i-1]? from aar.symm];have hl:(xs.toList.take p).length=p:=by simp;omega
 by_cases h1:i<p
 · rw [if_pos h1,aaF (by omega),adp h1]
 · rw [if_neg h1,aay (by omega),hl]
   by_cases h2:i=p
   · subst h2;simp
   · rw [if_neg h2,show i-p=(i-p-1)+1 by omega,abN,aeB,show p+(i-p-1)=i-1 by omega]
def Tb.put (T:Tb L m t es) {h:Int} {x:Value} {N j:Nat} (hj:at' m h N=j) (hf:j∉t.place.toList) (ho: ∀k,k<N->at' m h k∈t.place.toList):Tb L m (t.put j).1 (insertAt es (t.put j).2 (h,x)):=by
 obtain ⟨b1,b2,b3⟩:=JT T.up j
 have hmem: ∀k,k∈(insertAt t.place (aaM t.place j) j).toList↔k=j\/k∈t.place.toList:=fun k=>by
   rw [adr];have:t.place.toList=t.place.toList.take (aaM t.place j)++t.place.toList.drop (aaM t.place j):=(List.take_append_drop _ _).symm
   constructor
   · intro z;rcases aa6.mp z with z|z
     · exact .inr (aeb z)
     · rcases aam.mp z with z|z
       · exact .inl z
       · exact .inr (aec z)
   · rintro (rfl|z)
     · exact aaZ _ aax
     · rw [this] at z;rcases aa6.mp z with z|z
       · exact acA _ z
       · exact aaZ _ (aao _ z)
 have hd:(t.put j).1.dummies= #[]:=by
   show (if SetTable.has t.dummies j then _ else t.dummies)= #[];rw [T.dm];rfl
 refine ⟨T.ld,T.mask,hd,?_,?_,?_,?_⟩
 · show (insertAt t.place (aaM t.place j) j).size=(insertAt es (aaM t.place j) (h,x)).size;have:=T.sz;rw [←aas,←aas,(adI _ _ _).length_eq,(adI _ _ _).length_eq];simp [this]
 · show (insertAt t.place (aaM t.place j) j).toList.Pairwise (· < ·);rw [adr,List.pairwise_append,acu];refine ⟨T.up.sublist (List.take_sublist _ _),⟨fun v hv=>?_,T.up.sublist (List.drop_sublist _ _)⟩,fun v hv w hw=>?_⟩
   · obtain ⟨q,hq⟩:=abp.mp hv;rw [aeB,aar] at hq;have:=b2 _ _ (adm _ _) hq;refine Nat.lt_of_le_of_ne this ?_;rintro rfl;exact hf (by rw [←aar] at hq;exact aaV hq)
   · have hvj:v<j:=by
       obtain ⟨q,hq⟩:=abp.mp hv;obtain ⟨q1,q2⟩:=aap.mp hq;have q3:q<aaM t.place j:=by simp at q1;omega
       rw [adp q3,aar] at hq;exact b1 q v q3 hq
     rcases aam.mp hw with rfl|hw
     · exact hvj
     · obtain ⟨q,hq⟩:=abp.mp hw;rw [aeB,aar] at hq;exact aaA hvj (b2 _ _ (adm _ _) hq)
 · intro k hk;rcases (hmem k).mp hk with rfl|hk
   · rw [←hj];exact jdI h N
   · exact T.le k hk
 · intro i k e hk he;have hb4:aaM t.place j<=es.size:=by rw [←T.sz];exact b3
   rw [show (t.put j).1.place=insertAt t.place (aaM t.place j) j from rfl,J3 _ _ b3] at hk;rw [show (t.put j).2=aaM t.place j from rfl,J3 _ _ hb4] at he
   have old: ∀i',t.place[i']?=some k->es[i']?=some e-> ∃n,at' m e.1 n=k/\ ∀q,q<n->at' m e.1 q∈(t.put j).1.place.toList:=fun i' a b=>by
     obtain ⟨n,c,d⟩:=T.road i' k e a b;exact ⟨n,c,fun q hq=>(hmem _).mpr (.inr (d q hq))⟩
   by_cases h1:i<aaM t.place j
   · rw [if_pos h1] at hk he;exact old i hk he
   · rw [if_neg h1] at hk he
     by_cases h2:i=aaM t.place j
     · rw [if_pos h2] at hk he;cases hk;cases he;exact ⟨N,hj,fun q hq=>(hmem _).mpr (.inr (ho q hq))⟩
     · rw [if_neg h2] at hk he;exact old _ hk he
theorem jcL: ∀ {l l':List Nat},l.Nodup->(∀x∈l,x∈l')->l.length<=l'.length
 | [],_,_,_=>aba _
 |a::l,l',nd,h=>by
  obtain ⟨n1,n2⟩:=ab0.mp nd;have h1:=jcL n2 fun x hx=>(List.mem_erase_of_ne (by rintro rfl;exact n1 hx)).mpr (h x (aao _ hx))
  have h2:=List.length_erase_of_mem (h a aax);have h3:=List.length_pos_of_mem (h a aax);rw [aal];omega
def Tb.free (T:Tb L m t es) (hs:es.size<=m): ∃j,j<=m/\j∉t.place.toList:=by
 refine abW fun h=>?_
 have hall: ∀j,j∈aa8 (m+1)->j∈t.place.toList:=fun j hj=>abW fun z=>h ⟨j,by have:=aaU.mp hj;omega,z⟩
 have h1:=jcL (ad6) hall;rw [acf,aas,T.sz] at h1;omega
end
end Tab
end M
namespace M
open PySem
namespace Tab
variable {L:Bool}
open SetTable (Probe runEnd leap bits below insertAt)
def jY (ow:Array (Option Nat)) (j:Nat):Prop:=(ow.getD j (some 0)).isNone=false
instance (ow:Array (Option Nat)):DecidablePred (jY ow):=fun j=>inferInstanceAs (Decidable (_=false))
def jec (m i:Nat):i<=runEnd m i:=by unfold runEnd;split<;>omega
def Z1 (m:Nat) (h:Int) (c:Nat):off m h (c+1)=off m h c+(runEnd m (lp m h c).1-(lp m h c).1)+1:=rfl
def jaz (m:Nat) (h:Int) {a b:Nat} (hab:a<b):off m h a<off m h b:=by
 induction b with
 |zero=>omega
 |succ b ih=>
  rw [Z1]
  by_cases e:a=b
  · subst e;omega
  · have:=ih (by omega);omega
theorem vL {m:Nat} {h:Int} {ow:Array (Option Nat)} {N:Nat} (hN: ¬jY ow (at' m h N)) (hb: ∀k,k<N->jY ow (at' m h k)): ∀(fuel c:Nat),off m h c<=N->N<off m h (c+fuel)->
  ack m ow fuel (lp m h c).1 (lp m h c).2=some (at' m h N)
 |0,c,h1,h2=>by rw [ad1] at h2;omega
 |fuel+1,c,h1,h2=>by
  have hr:=jec m (lp m h c).1;unfold ack
  by_cases hc:N<off m h (c+1)
  · rw [Z1] at hc
    have hat:at' m h N=(lp m h c).1+(N-off m h c):=by
     rw [←XW (by omega)];congr 1;omega
    have hf:(aa8 (runEnd m (lp m h c).1+1-(lp m h c).1)).find? (fun k=>(ow.getD ((lp m h c).1+k) (some 0)).isNone)=some (N-off m h c):=by
     rw [List.find?_range_eq_some];refine ⟨?_,by rw [aaU];omega,fun k hk=>?_⟩
     · rw [←hat];unfold jY at hN;simpa using hN
     · have h3:=hb (off m h c+k) (by omega);rw [XW (by omega)] at h3;unfold jY at h3;simpa using h3
    rw [hf,hat]
  · have hf:(aa8 (runEnd m (lp m h c).1+1-(lp m h c).1)).find? (fun k=>(ow.getD ((lp m h c).1+k) (some 0)).isNone)=none:=by
     rw [List.find?_eq_none];intro k hk;have hk:=aaU.mp hk;rw [Z1] at hc;have h3:=hb (off m h c+k) (by omega);rw [XW (by omega)] at h3;unfold jY at h3;rw [ad7];exact h3
    rw [hf];exact vL hN hb fuel (c+1) (by omega) (by rw [show c+1+fuel=c+(fuel+1) by omega];exact h2)
def jc6 {m:Nat} (C:Cyc m) (h:Int) {ow:Array (Option Nat)} {j:Nat} (hj:j<=m) (hf: ¬jY ow j): ∃N,ack m ow (abX m) (bits h%(m+1)) (bits h)=some (at' m h N)/\ ¬jY ow (at' m h N)/\ ∀k,k<N->jY ow (at' m h k):=by
 obtain ⟨c,h1,h2⟩:=Zq C h hj;obtain ⟨N,_,h3,h4⟩:=Zx C h (jY ow) hj hf;refine ⟨N,?_,h3,h4⟩
 have hc:N<=off m h c:=by
  refine adk fun z=>?_
  have:=h4 _ z;have e:=XW (m:=m) (h:=h) (c:=c) (aba _);rw [ad1,ad1,h2] at e;rw [e] at this;exact hf this
 have:=jaz m h (show c<0+abX m by unfold abX;omega);exact vL h3 h4 (abX m) 0 (aba _) (by omega)
structure Ow (m:Nat) (hs:List Int) (ow:Array (Option Nat)) (k:Nat):Prop where
 sz:ow.size=m+1
 own: ∀(j q:Nat),ow[j]?=some (some q)->q<k/\ ∃hq,hs[q]?=some hq/\ ∃n,at' m hq n=j/\ ∀r,r<n->jY ow (at' m hq r)
 all: ∀q,q<k-> ∃j:Nat,ow[j]?=some (some q)
 one: ∀(j j' q:Nat),ow[j]?=some (some q)->ow[j']?=some (some q)->j=j'
def Qx {ow:Array (Option Nat)} {j:Nat} (hj:j<ow.size):jY ow j↔ ∃q,ow[j]?=some (some q):=by
 unfold jY;rw [aa0,aaj hj];cases h:ow[j]<;>simp [h]
def Ow.room {m:Nat} {hs:List Int} {ow:Array (Option Nat)} {k:Nat} (O:Ow m hs ow k) (hk:k<=m): ∃j,j<=m/\ ¬jY ow j:=by
 refine abW fun h=>?_
 have hall: ∀j,j<=m-> ∃q,ow[j]?=some (some q):=fun j hj=>by
   have:jY ow j:=abW fun z=>h ⟨j,hj,z⟩
   exact (Qx (by rw [O.sz];omega)).mp this
 have hL:=jcL (l:=(aa8 (m+1)).map fun j=>((ow[j]?).getD none).getD 0) (l':=aa8 k) ?_ ?_
 · rw [aak,acf,acf] at hL;omega
 · refine adR.mpr ((ad6).imp_of_mem fun {a b} ha hb hab e=>?_);obtain ⟨qa,ea⟩:=hall a (by have:=aaU.mp ha;omega);obtain ⟨qb,eb⟩:=hall b (by have:=aaU.mp hb;omega);simp only [ea,eb,adh] at e;subst e;exact hab (O.one a b qa ea eb)
 · intro x hx;obtain ⟨j,hj,rfl⟩:=aaD.mp hx;obtain ⟨q,e⟩:=hall j (by have:=aaU.mp hj;omega);simp only [e,adh];exact aaU.mpr (O.own j q e).1
def Ow.step {m:Nat} {hs:List Int} {ow:Array (Option Nat)} {k N:Nat} {h:Int} (O:Ow m hs ow k) (hh:hs[k]?=some h) (hN: ¬jY ow (at' m h N)) (hb: ∀r,r<N->jY ow (at' m h r)):Ow m hs (ow.setIfInBounds (at' m h N) (some k)) (k+1):=by
 have hlt:at' m h N<ow.size:=by rw [O.sz];have:=jdI (m:=m) h N;omega
 have get: ∀j:Nat,(ow.setIfInBounds (at' m h N) (some k))[j]?=if at' m h N=j then some (some k) else ow[j]?:=fun j=>by
   rw [Array.getElem?_setIfInBounds]
   split
   · rename_i e;subst e;simp [hlt]
   · rfl
 have mono: ∀j,jY ow j->jY (ow.setIfInBounds (at' m h N) (some k)) j:=fun j hj=>by
   unfold jY at hj ⊢;rw [aa0] at hj ⊢;rw [get];split
   · rfl
   · exact hj
 refine ⟨by rw [Array.size_setIfInBounds];exact O.sz,fun j q e=>?_,fun q hq=>?_,fun j j' q e e'=>?_⟩
 · rw [get] at e
   split at e
   · rename_i z;cases e;exact ⟨ab1 _,h,hh,N,z,fun r hr=>mono _ (hb r hr)⟩
   · obtain ⟨a,hq,b,n,c,d⟩:=O.own j q e;exact ⟨by omega,hq,b,n,c,fun r hr=>mono _ (d r hr)⟩
 · by_cases z:q=k
   · subst z;exact ⟨_,by rw [get,if_pos rfl]⟩
   · obtain ⟨j,e⟩:=O.all q (by omega);refine ⟨j,?_⟩;rw [get,if_neg];exact e;intro ej;subst ej;exact hN ((Qx hlt).mpr ⟨q,e⟩)
 · rw [get] at e e'
   split at e
   · rename_i z
     split at e'
     · rename_i z';rw [←z,←z']
     · cases e;have:=(O.own _ _ e').1;omega
   · split at e'
     · cases e';have:=(O.own _ _ e).1;omega
     · exact O.one j j' q e e'
theorem jbL {m:Nat} (C:Cyc m) {hs:List Int} (hm:hs.length<=m): ∀(l done:List Int) (ow:Array (Option Nat)),done++l=hs->Ow m hs ow done.length->
  ∃ow',l.foldl (fun (acc:Option (Array (Option Nat)×Nat)) h=>do
   let (owner,k)←acc
   let j←ack m owner (abX m) (bits h%(m+1)) (bits h)
   pure (owner.setIfInBounds j (some k),k+1)) (some (ow,done.length))=some (ow',hs.length)/\Ow m hs ow' hs.length
 | [],done,ow,e,O=>by
  rw [abJ] at e;subst e;exact ⟨ow,rfl,O⟩
 |h::l,done,ow,e,O=>by
  have hl:done.length<hs.length:=by rw [←e];simp
  obtain ⟨j,hj,hf⟩:=O.room (by omega);obtain ⟨N,h1,h2,h3⟩:=jc6 C h hj hf;have O':=O.step (by rw [←e];simp) h2 h3;obtain ⟨ow',a,b⟩:=jbL C hm l (done++[h]) _ (by rw [←e];simp) (by rw [aau];exact O');refine ⟨ow',?_,b⟩;rw [←a,aej];congr 1;show (ack m ow (abX m) (bits h%(m+1)) (bits h)>>=fun j=>_)=_;rw [h1,aau];rfl
def YA {m:Nat} (C:Cyc m) {hs:Array Int} (hm:hs.size<=m): ∃ow,SetTable.layClean m hs=some ow/\Ow m hs.toList ow hs.size:=by
 have O0:Ow m hs.toList (Array.replicate (m+1) none) 0:=⟨by simp,fun j q e=>by rw [Array.getElem?_replicate] at e;split at e<;>simp at e,fun q h=>absurd h (acY _),fun j j' q e=>by rw [Array.getElem?_replicate] at e;split at e<;>simp at e⟩
 obtain ⟨ow,a,b⟩:=jbL C (by simpa using hm) hs.toList [] _ rfl O0;refine ⟨ow,?_,by simpa using b⟩;unfold SetTable.layClean;rw [←Array.foldl_toList];have a':=a;simp only [aaR] at a';rw [a'];rfl
theorem Jm {α β:Type} {f:α->Option β} {g:α->β}: ∀ {l:List α},(∀x∈l,f x=some (g x))->l.filterMap f=l.map g
 | [],_=>rfl
 |x::l,h=>by rw [acJ,h x aax,aaN,Jm fun y hy=>h y (aao _ hy)]
def kh {m m':Nat} {t:aa9} {es:Array (Int×Value)} {wanted:Nat} (T:Tb L m t es) (hw:acU wanted-1=m') (C:Cyc m') (hm:es.size<=m'):
   ∃t' order,t.relaid (es.map (·.1)) wanted=some (t',order)/\Tb L m' t' (order.filterMap (es[·]?))/\(order.filterMap (es[·]?)).toList.Perm es.toList:=by
 obtain ⟨ow,h1,O⟩:=YA C (hs:=es.map (·.1)) (by simpa using hm);rw [Array.size_map] at O;unfold SetTable.relaid SetTable.laid;rw [hw,h1];generalize hlv:(aa8 (m'+1)).filterMap (fun j=>(ow.getD j none).map (j, ·))=live
 have mem: ∀j q,(j,q)∈live↔ow[j]?=some (some q):=fun j q=>by
   rw [←hlv,acS]
   constructor
   · rintro ⟨a,ha,e⟩;rw [acQ] at e;obtain ⟨b,e1,e2⟩:=e;cases e2;have ha:=aaU.mp ha;rw [aa0,aaj (by rw [O.sz];exact ha)] at e1;rw [aaj (by rw [O.sz];exact ha)];simpa using e1
   · intro e;have hj:=(abb.mp e).1;rw [O.sz] at hj;exact ⟨j,aaU.mpr hj,by rw [aa0,e];rfl⟩
 have up:live.Pairwise (fun a b=>a.1<b.1):=by
   rw [←hlv];refine List.pairwise_filterMap.mpr ((List.pairwise_lt_range).imp fun {a b} hab x hx y hy=>?_);rw [acQ] at hx hy;obtain ⟨_,_,rfl⟩:=hx;obtain ⟨_,_,rfl⟩:=hy;exact hab
 have hlt: ∀p∈live,p.2<es.size:=fun p hp=>(O.own p.1 p.2 ((mem _ _).mp hp)).1
 have hord:(live.map (·.2)).Perm (aa8 es.size):=by
   refine (ac9 ?_ ad6).mpr fun q=>?_
   · refine adR.mpr (up.imp_of_mem fun {a b} ha hb hab e=>?_);have:=O.one a.1 b.1 a.2 ((mem _ _).mp ha) (by rw [e];exact (mem _ _).mp hb);omega
   · rw [aaU]
     constructor
     · intro h;obtain ⟨p,hp,rfl⟩:=aaD.mp h;exact hlt p hp
     · intro h;obtain ⟨j,e⟩:=O.all q h;exact aaD.mpr ⟨(j,q),(mem _ _).mpr e,rfl⟩
 have hes:((live.map (·.2)).toArray.filterMap (es[·]?)).toList=(live.map (·.2)).filterMap (es[·]?):=by simp
 have hperm:((live.map (·.2)).toArray.filterMap (es[·]?)).toList.Perm es.toList:=by
   rw [hes];have:=hord.filterMap (es[·]?)
   rwa [filterMap_getElem?_range] at this
 have hmap: ∃g:Nat->Int×Value,(∀q,q<es.size->es[q]?=some (g q))/\(live.map (·.2)).filterMap (es[·]?)=(live.map (·.2)).map g:=by
   refine ⟨fun q=>(es[q]?).getD (0,.none),fun q hq=>by show es[q]?=some ((es[q]?).getD (0,.none));rw [aaj hq];rfl,Jm fun q hq=>?_⟩;obtain ⟨p,hp,rfl⟩:=aaD.mp hq;show es[p.2]?=some ((es[p.2]?).getD (0,.none));rw [aaj (hlt p hp)];rfl
 obtain ⟨g,hg,hmap⟩:=hmap;refine ⟨{mask:=m',place:=(live.map (·.1)).toArray,dummies:= #[],finger:=t.finger,led:=t.led,moves:=t.movedTo m',plain:=t.plain},(live.map (·.2)).toArray,by rw [←hlv];rfl,⟨T.ld,rfl,rfl,?_,?_,?_,?_⟩,hperm⟩
 · show (live.map (·.1)).toArray.size=_;rw [←aas (xs:=Array.filterMap _ _),hes,hmap];simp
 · show ((live.map (·.1)).toArray).toList.Pairwise (· < ·);exact adR.mpr up
 · intro j hj;obtain ⟨p,hp,rfl⟩:=aaD.mp (show j∈live.map (·.1) from hj);have:=(abb.mp ((mem p.1 p.2).mp hp)).1;rw [O.sz] at this;omega
 · intro i j e hj he;have hj:(live.map (·.1))[i]?=some j:=by rw [←aar] at hj;exact hj
   rw [←aar,hes,hmap,acs,aaO] at he;rw [aaO] at hj
   cases hp:live[i]? with
   |none=>rw [hp] at hj;cases hj
   |some p=>
     rw [hp] at hj he;cases hj;cases he;have hp:=aaV hp;obtain ⟨a,hq,b,n,c,d⟩:=O.own p.1 p.2 ((mem _ _).mp hp)
     have e1:hq=(g p.2).1:=by
       rw [aar,Array.getElem?_map,hg _ (hlt p hp)] at b;simpa using b.symm
     subst e1;refine ⟨n,c,fun k hk=>?_⟩;have h3:=d k hk;obtain ⟨q,h4⟩:=(Qx (by rw [O.sz];have:=jdI (m:=m') (g p.2).1 k;omega)).mp h3;exact aaD.mpr ⟨_,(mem _ _).mpr h4,rfl⟩
end Tab
end M
namespace M
open PySem
namespace Tab
variable {L:Bool}
open SetTable (Probe runEnd leap bits below insertAt)
theorem WX (m:Nat) (h:Int): ∀n,(pth m h n).dummy=none
 |0=>rfl
 |n+1=>by
  show (adv m (pth m h n)).dummy=none;unfold adv;split<;>exact WX m h n
def jfs (t:aa9) (p:Probe):t.advance p=adv t.mask p:=by unfold SetTable.advance adv;split<;>rfl
def uV (t:aa9) (h:Int):t.probeStart h=pth t.mask h 0:=rfl
section
variable {m:Nat} {t:aa9} {es:Array (Int×Value)}
theorem Ki (T:Tb L m t es) {hashAt:Nat->Int} (hA: ∀(i:Nat) (e:Int×Value),es[i]?=some e->hashAt i=e.1) (h:Int) {N:Nat} (hN:at' m h N∉t.place.toList) (hb: ∀k,k<N->at' m h k∈t.place.toList):
  ∀(F n:Nat),N-n<F->n<=N->
    (abU t hashAt h F (pth m h n)=some (.empty (at' m h N) none)/\ ∀q (i:Nat) (e:Int×Value),n<=q->q<N->t.place[i]?=some (at' m h q)->es[i]?=some e->e.1≠h)\/
    (∃(q i:Nat) (e:Int×Value),n<=q/\q<N/\t.place[i]?=some (at' m h q)/\es[i]?=some e/\e.1=h/\abU t hashAt h F (pth m h n)=some (.candidate (at' m h q) i (pth m h (q+1)))/\ ∀r (i:Nat) (e:Int×Value),n<=r->r<q->t.place[i]?=some (at' m h r)->es[i]?=some e->e.1≠h)
 |0,n,h1,_=>absurd h1 (acY _)
 |F+1,n,h1,h2=>by
  by_cases hn:n=N
  · subst hn;refine .inl ⟨?_,fun q i e a b=>by omega⟩;unfold abU;rw [show (pth m h n).j=at' m h n from rfl,Vp T.up T.dm hN];rw [WX]
  · obtain ⟨i,hi⟩:=abp.mp (hb n (by omega));rw [aar] at hi;obtain ⟨e,he⟩:=T.el hi
    have one: ∀(i':Nat) (e':Int×Value),t.place[i']?=some (at' m h n)->es[i']?=some e'->e'=e:=fun i' e' a b=>by
      have:=Jv T.up hi;have h3:=Jv T.up a;rw [this] at h3;subst h3;rw [he] at b;cases b;rfl
    have hgo:abU t hashAt h (F+1) (pth m h n)=if hashAt i==h then some (.candidate (at' m h n) i (pth m h (n+1))) else abU t hashAt h F (pth m h (n+1)):=by
      rw [abU];rw [show (pth m h n).j=at' m h n from rfl,Qn T.up T.dm hi];simp only [jfs,T.mask];rfl
    rw [hgo,hA i e he]
    by_cases hh:e.1=h
    · refine .inr ⟨n,i,e,aai _,by omega,hi,he,hh,by rw [hh];simp,fun r i e a b=>by omega⟩
    · rw [show (e.1==h)=false by simpa using hh];simp only [aaG,if_false];rcases Ki T hA h hN hb F (n+1) (by omega) (by omega) with ⟨a,b⟩| ⟨q,i',e',a,b,c,d,f,g,k⟩
      · refine .inl ⟨a,fun q i e' h3 h4 h5 h6=>?_⟩
        by_cases hq:q=n
        · subst hq;rw [one i e' h5 h6];exact hh
        · exact b q i e' (by omega) h4 h5 h6
      · refine .inr ⟨q,i',e',by omega,b,c,d,f,g,fun r i e' h3 h4 h5 h6=>?_⟩
        by_cases hq:r=n
        · subst hq;rw [one i e' h5 h6];exact hh
        · exact k r i e' (by omega) h4 h5 h6
end
section
variable {prog:aaH} {w:World} {K:Type} [DecidableEq K] {knd:KeyKind prog w K} {A:aa3} {E:X6} {s:aaf}
def Wy (n:Nat) {v:Value} (h:ade v=true):ac6 n v=pure false:=by
 cases v with
 |ref a=>simp [ade] at h
 |_=>first|rfl|simp [ac6]| (unfold ac6;rfl)
def Ju {ks:List K} {a:Addr} {Q:Bool->aaf->Prop} (hk:abO knd s.heap ks a) (h:Q false s):wpAny (model prog w) A (ac6 8 (.ref a)) Q E s:=by
 have hT:=hk.typeIs;obtain ⟨o,items,n,ho,_,hd,hi⟩:=hk;unfold ac6;refine aaa (adY hT ?_);refine aaa (aac ?_);simp;refine aaa (adV ho hd ?_);dsimp only;refine aaa ?_;rw [←ads];refine adg _ (fun rest r s'=>r.1=none/\s'=s/\ ∀v∈rest,ade v=true) _ ?_ ?_ _ _ ⟨rfl,rfl,hi.byValue⟩
 · rintro v rest r s' ⟨hr,rfl,hall⟩;rw [Wy _ (hall v aax)];refine aaa (aac ?_);simp;exact aac ⟨rfl,rfl,fun u hu'=>hall u (aao _ hu')⟩
 · rintro ⟨r1,r2⟩ s' ⟨hr,rfl,_⟩;simp only at hr;subst hr;exact aac h
def YE (n:Nat) {v:Value} (h:ade v=true): ∃b,hashByValue n v=pure b:=by
 cases v with
 |ref a=>simp [ade] at h
 |_=>cases n<;>first|exact ⟨_,rfl⟩| (unfold hashByValue;exact ⟨_,rfl⟩)
def YF {ks:List K} {a:Addr} {Q:Bool->aaf->Prop} (hk:abO knd s.heap ks a) (h: ∀b,Q b s):wpAny (model prog w) A (hashByValue 8 (.ref a)) Q E s:=by
 have hT:=hk.typeIs;obtain ⟨o,items,n,ho,_,hd,hi⟩:=hk;unfold hashByValue;refine aaa (wpAny_specialOf hT F.slot_tuple_hash.lookup ?_);refine aaa (adV ho hd ?_);refine aaa ?_;rw [←ads];refine adg _ (fun rest r s'=>s'=s/\ ∀v∈rest,ade v=true) _ ?_ ?_ _ _ ⟨rfl,hi.byValue⟩
 · rintro v rest r s' ⟨rfl,hall⟩;obtain ⟨b,hb⟩:=YE 7 (hall v aax);rw [hb];refine aaa (aac ?_)
   cases b with
   |true=>
    simp;exact aac ⟨rfl,fun u hu'=>hall u (aao _ hu')⟩
   |false=>
    simp;exact aac (aac (h _))
 · rintro ⟨r1,r2⟩ s' ⟨rfl,_⟩
   cases r1 with
   |none=>exact aac (h _)
   |some b=>exact aac (h _)
def Vj {ks:List K} {a:Addr} (hk:abO knd s.heap ks a) (l:List Value) (hl: ∀y∈l,∃b k,y= .ref b/\abO knd s.heap k b) {Q:Bool->aaf->Prop} (h:Q false s):wpAny (model prog w) A (searchCouldBeSeen (.ref a) l) Q E s:=by
 unfold searchCouldBeSeen;refine aaa ?_;refine adg _ (fun rest r s'=>r.1=none/\s'=s/\ ∀y∈rest,∃b k,y= .ref b/\abO knd s.heap k b) _ ?_ ?_ _ _ ⟨rfl,rfl,hl⟩
 · rintro y rest r s' ⟨hr,rfl,hall⟩;obtain ⟨b,k,rfl,hb⟩:=hall y aax;have go: ∀u hu',_:=fun u (hu':u∈rest)=>hall u (aao _ hu')
   dsimp only
   split
   · exact aac ⟨rfl,rfl,go⟩
   · refine aaa (wpAny_eqIsQuiet_tuple hk ?_);simp only [abf,aaG,if_false];refine aaa (wpAny_eqIsQuiet_tuple hb ?_);simp only [abf,aaG,if_false];refine aaa (Ju hk ?_);simp only [aaG,if_false];refine aaa (Ju hb ?_);simp only [aaG,if_false];exact aac ⟨rfl,rfl,go⟩
 · rintro ⟨r1,r2⟩ s' ⟨hr,rfl,_⟩;simp only at hr;subst hr;exact aac h
end
end Tab
end M
namespace M
open PySem
namespace Tab
variable {L:Bool}
open SetTable (Probe runEnd leap bits below insertAt)
def Sz (m n:Nat):Prop:=(m=7/\n<=4)\/(m=31/\n<=18)\/(m=127/\n<=76)
def Sz.cyc {m n:Nat} (S:Sz m n):Cyc m:=by
 rcases S with ⟨rfl,_⟩| ⟨rfl,_⟩| ⟨rfl,_⟩
 · exact cyc7
 · exact jgf
 · exact jfm
def Sz.le {m n:Nat} (S:Sz m n):n<=m/\m<=127/\m%2=1/\n<=76:=by rcases S with ⟨rfl,h⟩| ⟨rfl,h⟩| ⟨rfl,h⟩<;>omega
def Tb.fits {m:Nat} {t:aa9} {es:Array (Int×Value)} (T:Tb L m t es) (h:es.size<=m):t.fits es.size=true:=by
 unfold SetTable.fits SetTable.fill;rw [T.dm,T.sz,T.mask];simpa using h
section
variable {prog:aaH} {w:World} {K:Type} [DecidableEq K] {knd:KeyKind prog w K} {A:aa3} {E:X6} {s:aaf}
def U2 (hu:A.units<cLine) {a:Addr} {o:Obj} {es:Array (Int×Value)} {ep:Nat} {t:aa9} {m:Nat} {kp:List (List K×Addr)} (ho:s.heap.get? a=some o) (hd:o.data= .set es ep t) (T:Tb L m t es) (S:Sz m es.size)
  (he:es.toList=kp.map fun p=>(aaT knd p.1,aaJ p.2)) (hk: ∀p∈kp,abO knd s.heap p.1 p.2) {k0:List K} {xa:Addr} (hx:abO knd s.heap k0 xa) {Q:SetFound->aaf->Prop}
  (h1:k0∈kp.map (·.1)->Q (.there none) s) {N:Nat} (hN:at' m (aaT knd k0) N∉t.place.toList) (hb: ∀k,k<N->at' m (aaT knd k0) k∈t.place.toList) (hN2:N<=10*(m+13)) (h2:k0∉kp.map (·.1)->Q (.free (at' m (aaT knd k0) N) false) s):
  ∀(F n:Nat) (stand:Option Probe),N-n<F->n<=N->stand.getD (t.probeStart (aaT knd k0))=pth m (aaT knd k0) n->
    (∀q (i:Nat) (p:List K×Addr),q<n->t.place[i]?=some (at' m (aaT knd k0) q)->kp[i]?=some p->p.1≠k0)->
    wpAny (model prog w) A (setSearchFrom a (.ref xa) (aaT knd k0) true F stand) Q E s:=by
 have hf:=T.fits S.le.1
 have get: ∀(i:Nat) (e:Int×Value),es[i]?=some e-> ∃p,kp[i]?=some p/\e=(aaT knd p.1,aaJ p.2):=fun i e h=>by
  rw [←aar,he,aaO] at h
  cases hp:kp[i]? with
  |none=>rw [hp] at h;cases h
  |some p=>rw [hp] at h;cases h;exact ⟨p,rfl,rfl⟩
 intro F
 induction F with
 |zero=>intro n _ z;exact absurd z (acY _)
 |succ F ih=>
  intro n stand hF hn hst hseen;unfold setSearchFrom;refine aaa (abe ho hd hf ?_);dsimp only;have hgw:t.gaveWay=false:=by unfold SetTable.gaveWay;rw [T.mask];have:=S.le.2.2.1;simp [this]
  rw [hgw];simp;rw [hst];unfold SetTable.probe;generalize e0:abU t _ (aaT knd k0) (10*abX t.mask) (pth m (aaT knd k0) n)=R;have e0:abU t (fun i=>(es[i]?.map (·.1)).getD 0) (aaT knd k0) (10*abX t.mask) (pth m (aaT knd k0) n)=R:=e0;rcases Ki T (hashAt:=fun i=>(es[i]?.map (·.1)).getD 0) (fun i e h=>by simp [h]) _ hN hb (10*abX t.mask) n (by rw [T.mask];unfold abX;omega) hn with ⟨e1,e2⟩| ⟨q,i,e,a1,a2,a3,a4,a5,a6,a7⟩
  · rw [e0] at e1;subst e1;dsimp only;refine aac (h2 fun z=>?_);obtain ⟨p,hp,e3⟩:=aaD.mp z;obtain ⟨i,hi⟩:=abp.mp hp;have hei:es[i]?=some (aaT knd p.1,aaJ p.2):=by rw [←aar,he,aaO,hi];rfl
    subst e3;obtain ⟨n',j,b1,b2,b3⟩:=T.met hei hN;subst b2
    by_cases hq:n'<n
    · exact hseen n' i p hq b3 hi rfl
    · exact e2 n' i _ (by omega) b1 b3 hei rfl
  · rw [e0] at a6;subst a6;dsimp only;obtain ⟨p,hp,rfl⟩:=get i e a4;have hpk:=hk p (aaV hp);have hmv:t.sameMemory t.moves t.mask=some true:=by unfold SetTable.sameMemory;simp
    have next:p.1≠k0-> ∀q' (i':Nat) (p':List K×Addr),q'<q+1->t.place[i']?=some (at' m (aaT knd k0) q')->kp[i']?=some p'->p'.1≠k0:=fun hne q' i' p' g1 g2 g3=>by
      by_cases hq:q'<n
      · exact hseen q' i' p' hq g2 g3
      · by_cases hq2:q'=q
        · subst hq2;have:=Jv T.up a3;have h4:=Jv T.up g2;rw [this] at h4;subst h4;rw [hp] at g3;cases g3;exact hne
        · have hei:es[i']?=some (aaT knd p'.1,aaJ p'.2):=by rw [←aar,he,aaO,g3];rfl
          rintro rfl;exact a7 q' i' _ (by omega) (by omega) g2 hei rfl
    split
    · refine aaa (Vj hx _ (fun y hy=>?_) ?_)
      · obtain ⟨e',he',rfl⟩:=aaD.mp hy;have he':e'∈es/\e'.1=aaT knd k0:=by simpa using he'
        have:=Array.mem_toList_iff.mpr he'.1;obtain ⟨i',hi'⟩:=abp.mp this;rw [aar] at hi';obtain ⟨p',hp',rfl⟩:=get i' e' hi';exact ⟨_,_,rfl,hk p' (aaV hp')⟩
      simp;rw [a4];dsimp only;refine aaa (aa4 (wpAny_eqBool_tuple hu hpk hx ?_));refine aaa (abe ho hd hf ?_)
      by_cases hkk:p.1=k0
      · rw [decide_eq_true hkk];simp;exact aac (h1 (aaD.mpr ⟨p,aaV hp,hkk⟩))
      · rw [decide_eq_false hkk];simp;rw [hmv];simp;rw [Qn T.up T.dm a3];dsimp only;rw [a4];dsimp only;refine aaa (wpAny_isSame_ref_self ?_);simp;exact ih (q+1) _ (by omega) (by omega) rfl (next hkk)
    · rw [a4];dsimp only;refine aaa (aa4 (wpAny_eqBool_tuple hu hpk hx ?_));refine aaa (abe ho hd hf ?_)
      by_cases hkk:p.1=k0
      · rw [decide_eq_true hkk];simp;exact aac (h1 (aaD.mpr ⟨p,aaV hp,hkk⟩))
      · rw [decide_eq_false hkk];simp;rw [hmv];simp;rw [Qn T.up T.dm a3];dsimp only;rw [a4];dsimp only;refine aaa (wpAny_isSame_ref_self ?_);simp;exact ih (q+1) _ (by omega) (by omega) rfl (next hkk)
end
end Tab
end M
namespace M
open PySem
namespace Tab
variable {L:Bool}
open SetTable (Probe runEnd leap bits below insertAt)
def Tb.led {m:Nat} {t:aa9} {es:Array (Int×Value)} (T:Tb L m t es) (b:Bool):Tb L m {t with plain:=b} es:=⟨T.ld,T.mask,T.dm,T.sz,T.up,T.le,T.road⟩
def perm_map {α β:Type} {f:α->β} {l l':List β} (p:l.Perm l'): ∀k',l'=k'.map f-> ∃k:List α,l=k.map f/\k.Perm k':=by
 induction p with
 |nil=>intro k' e;exact ⟨k',e,.refl _⟩
 |cons x p ih=>
  intro k' e
  cases k' with
  |nil=>cases e
  |cons a k'=>
   simp at e;obtain ⟨k,h1,h2⟩:=ih k' e.2;exact ⟨a::k,by rw [h1,e.1];rfl,h2.cons a⟩
 |swap x y l=>
  intro k' e
  cases k' with
  |nil=>cases e
  |cons a k'=>
   cases k' with
   |nil=>cases e
   |cons b k'=>
    simp at e;obtain ⟨rfl,rfl,rfl⟩:=e;exact ⟨b::a::k',rfl,.swap a b k'⟩
 |trans p q ih1 ih2=>
  intro k' e;obtain ⟨k1,h1,h2⟩:=ih2 k' e;obtain ⟨k2,h3,h4⟩:=ih1 k1 h1;exact ⟨k2,h3,h4.trans h2⟩
section
variable {prog:aaH} {w:World} {K:Type} [DecidableEq K] (knd:KeyKind prog w K)
def ent (p:List K×Addr):Int×Value:=(aaT knd p.1,aaJ p.2)
def SetT (G:X7) (h:Heap) (a:Addr) (ks:List (List K)):Prop:= ∃(o:Obj) (es:Array (Int×Value)) (ep:Nat) (t:aa9) (m:Nat) (kp:List (List K×Addr)) (L:Bool),h.get? a=some o/\o.ExactSet/\o.data= .set es ep t/\Tb L m t es/\Sz m es.size/\es.toList=kp.map (ent knd)/\(∀p∈kp,abO knd h p.1 p.2/\G p.2)/\(kp.map (·.1)).Perm ks/\ks.Nodup/\L=!w.params.followText "set-order"
variable {knd} {G:X7} {A:aa3} {E:X6} {s:aaf}
def Xm {h h':Heap} {ks:List K} {a d:Addr} {o:Obj} {es:Array (Int×Value)} {ep:Nat} {t:aa9} (x:abO knd h ks a) (ho:h.get? d=some o) (hd:o.data= .set es ep t) (hs:abZ d h h'):abO knd h' ks a:=by
 obtain ⟨o',items,n,ho',hc,hd',hi⟩:=x
 have hne:a≠d:=by
  rintro rfl;obtain rfl:o'=o:=aaK (ho'.symm.trans ho);rw [hd] at hd';exact nomatch hd'
 exact ⟨o',items,n,(hs.2 a hne).trans ho',hc,hd',hi⟩
def WQ {h:Heap} {a:Addr} {o:Obj} {es:Array (Int×Value)} {ep:Nat} {t:aa9} (ho:h.get? a=some o) (hd:o.data= .set es ep t) (es':Array (Int×Value)) (t':aa9):
  (h.update a (afc es' t')).get? a=some {o with data:= .set es' (ep+1) t'}:=by
 have:=abo (afc es' t') ho (by rw [putSet_of es' t' hd];rfl);rw [putSet_of es' t' hd] at this;exact this
def jac {a:Addr} {o:Obj} {es:Array (Int×Value)} {ep:Nat} {t:aa9} {m m' wanted:Nat} (ho:s.heap.get? a=some o) (hd:o.data= .set es ep t) (T:Tb L m t es) (hm:es.size<=m) (hw:acU wanted-1=m') (hz:acU wanted<=aah) (C:Cyc m') (hm':es.size<=m') (hl:es.size<=aah) {Q:Unit->aaf->Prop}
  (h: ∀es' t',Tb L m' t' es'->es'.toList.Perm es.toList->Q () {s with heap:=s.heap.update a (afc es' t')}):wpAny (model prog w) A (setRelay a wanted) Q E s:=by
 obtain ⟨t',order,e1,T',pm⟩:=kh T hw C hm';have hsz:(order.filterMap (es[·]?)).size=es.size:=by rw [←aas,pm.length_eq,aas]
 unfold setRelay;refine aaa (abe ho hd (T.fits hm) ?_);dsimp only;rw [if_neg (Nat.not_lt.mpr hz)];rw [e1];refine aaa ?_;show wpAny _ _ (if (order.filterMap (es[·]?)).size !=es.size then _ else _) _ _ _;rw [hsz];simp;refine aac ?_;exact wpAny_storeSet_of ho hd (h _ _ T' pm) (by rw [hsz];exact hl)
def jdP (hu:A.units<cLine) {a:Addr} {ks:List (List K)} (hS:SetT knd G s.heap a ks) {k0:List K} {xa:Addr} (hx:abO knd s.heap k0 xa) (hg:G xa) (hn:ks.length<76) {Q:Bool->aaf->Prop}
   (h: ∀h' b,abZ a s.heap h'->SetT knd G h' a (if k0∈ks then ks else ks++[k0])->Q b {s with heap:=h'}):wpAny (model prog w) A (setAddHashed a (.ref xa) (aaT knd k0)) Q E s:=by
 obtain ⟨o,es,ep,t,m,kp,L,ho,hex,hd,T,S,he,hk,pm,nd,ld⟩:=hS;have hf:=T.fits S.le.1;have hlen:es.size=ks.length:=by rw [←aas,he,aak,←pm.length_eq,aak]
 unfold setAddHashed setAddHashedIn;refine aa4 (aaa (abe ho hd hf ?_));dsimp only;have hbs:byScan (.ref xa) es=false:=rfl;rw [hbs];simp only [aaG,if_false];obtain ⟨j0,hj0,hf0⟩:=T.free S.le.1;obtain ⟨N,hN2,hN,hb⟩:=Zx S.cyc (aaT knd k0) (fun j=>j∈t.place.toList) hj0 hf0;unfold setSearch;refine aaa (U2 hu ho hd T S he (fun p hp=>(hk p hp).1) hx (fun hin=>?_) hN hb hN2 (fun hout=>?_) 100000 0 none (by have:=S.le;omega) (aba _) (by rw [aeZ,uV,T.mask]) (fun q i p hq=>absurd hq (acY _)))
 · dsimp only;have hmem:=pm.mem_iff.mp hin;have:=h s.heap false (Heap.SameBut.refl a s.heap) (by rw [if_pos hmem];exact ⟨o,es,ep,t,m,kp,L,ho,hex,hd,T,S,he,hk,pm,nd,ld⟩);exact aac this
 · dsimp only;have hmem:k0∉ks:=fun z=>hout (pm.mem_iff.mpr z)
   refine aaa (abe ho hd hf ?_);dsimp only;have T1:=T.put (x:= .ref xa) rfl hN hb;generalize htp:t.put (at' m (aaT knd k0) N)=tp at T1 ⊢;obtain ⟨t1,p1⟩:=tp;dsimp only at T1 ⊢;generalize hes1:insertAt es p1 (aaT knd k0,aaJ xa)=es1 at T1 ⊢
   have hperm1:es1.toList.Perm (es.toList++[(aaT knd k0,aaJ xa)]):=by
     rw [←hes1];have:=adI es p1 (aaT knd k0,aaJ xa)
     rwa [aeP] at this
   have hsz1:es1.size=es.size+1:=by rw [←aas,hperm1.length_eq,aau,aas];rfl
   have hle:es1.size<=m:=by
     have:=S.le;rcases S with ⟨rfl,h⟩| ⟨rfl,h⟩| ⟨rfl,h⟩<;>omega
   have hline:es1.size<=aah:=by rw [abR];have:=S.le;omega
   have keys: ∀(es2:Array (Int×Value)),es2.toList.Perm (es.toList++[(aaT knd k0,aaJ xa)])-> ∃kp2:List (List K×Addr),es2.toList=kp2.map (ent knd)/\kp2.Perm (kp++[(k0,xa)]):=fun es2 p2=>by
     rw [he,show [(aaT knd k0,aaJ xa)]=[(k0,xa)].map (ent knd) from rfl,←abM] at p2;exact perm_map p2 _ rfl
   have fin: ∀(h':Heap) (es2:Array (Int×Value)) (t2:aa9) (m2 ep2:Nat),abZ a s.heap h'->h'.get? a=some {o with data:= .set es2 ep2 t2}->Tb L m2 t2 es2->Sz m2 es2.size->es2.toList.Perm (es.toList++[(aaT knd k0,aaJ xa)])->Q true {s with heap:=h'}:=fun h' es2 t2 m2 ep2 sb g T2 S2 p2=>by
     obtain ⟨kp2,e2,q2⟩:=keys es2 p2;refine h h' true sb ?_;rw [if_neg hmem];refine ⟨_,es2,ep2,t2,m2,kp2,L,g,hex,rfl,T2,S2,e2,fun p hp=>?_,?_,?_,ld⟩
     · rcases aa6.mp (q2.mem_iff.mp hp) with z|z
       · exact ⟨Xm (hk p z).1 ho hd sb,(hk p z).2⟩
       · rw [acT] at z;subst z;exact ⟨Xm hx ho hd sb,hg⟩
     · exact (q2.map _).trans (by rw [abM];exact pm.append_right _)
     · exact adS.mpr ⟨nd,by simp,fun x hx' y hy e=>by rw [acT] at hy;subst hy;subst e;exact hmem hx'⟩
   have tail: ∀b:Bool,wpAny (model prog w) A (do
       storeSet a es1 {t1 with plain:=b}
       if (!false&&({t1 with plain:=b}:aa9).tooFull)=true then do
          setRelay a (aeH (es.size+1))
          pure true
         else pure true) Q E s:=fun b=>by
     refine aaa (wpAny_storeSet_of ho hd ?_ hline);have g1:=WQ ho hd es1 {t1 with plain:=b};have sb1:=abv s.heap a (afc es1 {t1 with plain:=b})
     by_cases hfull:({t1 with plain:=b}:aa9).tooFull=true
     · rw [hfull];simp
       have relay: ∀m',acU (aeH (es.size+1))-1=m'->acU (aeH (es.size+1))<=128->Sz m' es1.size->wpAny (model prog w) A (do
          setRelay a (aeH (es.size+1))
          pure true) Q E {s with heap:=s.heap.update a (afc es1 {t1 with plain:=b})}:=fun m' hw hz S'=>by
         refine aaa (jac g1 rfl (T1.led b) hle hw (by rw [abR];omega) S'.cyc S'.le.1 hline fun es2 t2 T2 p2=>?_);refine aac ?_;have hs2:es2.size=es1.size:=by rw [←aas,p2.length_eq,aas]
         exact fin _ es2 t2 m' _ (sb1.trans (abv _ a _)) (WQ g1 rfl es2 t2) T2 (by rw [hs2];exact S') (p2.trans hperm1)
       have hq:m*3<=(es.size+1)*5:=by
         unfold SetTable.tooFull SetTable.fill at hfull;have h1:=(T1.led b).dm;have h2:=(T1.led b).sz;have h3:=(T1.led b).mask;rw [h1,h2,h3,hsz1] at hfull;simpa using hfull
       rcases S with ⟨rfl,h4⟩| ⟨rfl,h4⟩| ⟨rfl,h4⟩
       · have h5:es.size=4:=by omega
         rw [hsz1,h5] at relay;rw [h5];exact relay 31 (by decide+kernel) (by decide+kernel) (.inr (.inl ⟨rfl,by omega⟩))
       · have h5:es.size=18:=by omega
         rw [hsz1,h5] at relay;rw [h5];exact relay 127 (by decide+kernel) (by decide+kernel) (.inr (.inr ⟨rfl,by omega⟩))
       · omega
     · rw [ad7] at hfull;rw [hfull];simp;refine aac (fin _ es1 _ m _ sb1 g1 (T1.led b) ?_ hperm1)
       have hq: ¬m*3<=(es.size+1)*5:=by
         unfold SetTable.tooFull SetTable.fill at hfull;have h1:=(T1.led b).dm;have h2:=(T1.led b).sz;have h3:=(T1.led b).mask;rw [h1,h2,h3,hsz1] at hfull;simpa using hfull
       rw [hsz1];rcases S with ⟨rfl,h4⟩| ⟨rfl,h4⟩| ⟨rfl,h4⟩
       · exact .inl ⟨rfl,by omega⟩
       · exact .inr (.inl ⟨rfl,by omega⟩)
       · exact .inr (.inr ⟨rfl,by omega⟩)
   have t1e:({t1 with plain:=t1.plain}:aa9)=t1:=rfl
   split
   · refine aaa (YF hx fun b=>?_)
     cases b with
     |true=>exact tail t1.plain
     |false=>exact tail false
   · refine aaa (aac ?_);exact tail t1.plain
end
end Tab
end M
namespace M
open PySem
open PyProof.Rows
namespace Tab
variable {L:Bool}
def fstT {α:Type} [DecidableEq α] (val:Nat->α):Nat->List α
 |0=>[]
 |i+1=>if val i∈fstT val i then fstT val i else fstT val i++[val i]
section
variable {prog:aaH} {w:World} {K:Type} [DecidableEq K] {knd:KeyKind prog w K} {Gd:X7}
def key_same {h h':Heap} {k:List K} {b:Addr} (x:abO knd h k b) (e: ∀o,h.get? b=some o->h'.get? b=some o):abO knd h' k b:=
 let ⟨o,i,n,h1,h2⟩:=x
 ⟨o,i,n,e o h1,h2⟩
def SetT.same {h h':Heap} {a:Addr} {ks:List (List K)} (x:SetT knd Gd h a ks) (e: ∀b o,(b=a\/Gd b)->h.get? b=some o->h'.get? b=some o):SetT knd Gd h' a ks:=by
 obtain ⟨o,es,ep,t,m,kp,L,ho,hex,hd,T,S,he,hk,pm⟩:=x;exact ⟨o,es,ep,t,m,kp,L,e a o (.inl rfl) ho,hex,hd,T,S,he,fun p hp=>⟨key_same (hk p hp).1 fun o=>e p.2 o (.inr (hk p hp).2),(hk p hp).2⟩,pm⟩
variable {A:aa3} {R:Result->aaf->Prop} {I:Addr} {fp wr:List Addr} {G:Array GenState->Array GenState->Prop} {n:Nat} {P:Nat->Value->Prop} {St:Nat->aaf->Prop}
def jf2 (W:WalksS prog w A.in1 I fp wr G n P St) (S:Addr) (hSf:S∉fp) (hu:A.in1.units<cLine) (val:Nat->List K) (hG: ∀b,Gd b->b≠S/\b∉wr) (hb: ∀i,i<n->(fstT val i).length<76):
  ∀(k i:Nat) (s:aaf),n-i=k->i<=n->St i s->SetT knd Gd s.heap S (fstT val i)->(∀i v,P i v-> ∃b,v= .ref b/\Gd b/\abO knd s.heap (val i) b)->
    (∀s',Moved (S::wr) G s s'->SetT knd Gd s'.heap S (fstT val n)->R (.ok (.ret .none)) s')->
    adL (model prog w) A (.builtin "set.update.loop" ⟨[.ref S,.ref I],[]⟩) R s:=by
 have hSw:S∉wr:=fun h=>hSf (W.sub _ h)
 have up: ∀b∈wr,b∈S::wr:=fun b z=>aao _ z
 have walk: ∀ {s s':aaf} {ks:List (List K)},Moved wr G s s'->SetT knd Gd s.heap S ks->SetT knd Gd s'.heap S ks:=fun hm x=>x.same fun b o hb e=>hm.heap b o (by rcases hb with rfl|hb;exact hSw;exact (hG b hb).2) e
 intro k
 induction k with
 |zero=>
  intro i s hk hi hst hS hK hR;obtain rfl:i=n:=by omega
  refine acH adf ?_;rw [acB ab7 _];refine aaa (W.done s _ _ hst fun s' hm=>?_);exact aac (hR s' (hm.mono up) (walk hm hS))
 |succ k ih=>
  intro i s hk hi hst hS hK hR;have hlt:i<n:=by omega
  refine acH adf ?_;rw [acB ab7 _];refine aaa (W.item i s _ _ hlt hst fun v s' hP hst' hm=>?_);obtain ⟨b,rfl,hGb,hkb⟩:=hK i v hP;have hkb':=key_same hkb fun o e=>hm.heap b o (hG b hGb).2 e
  refine aaa (aa4 ?_);unfold setAdd;refine aa4 (aaa (wpAny_pyHash_tuple hu hkb' ?_));have hS1:=walk hm hS;refine jdP (s:={s' with toks:=s'.toks+((val i).length+1)}) hu hS1 hkb' hGb (hb i hlt) fun h' bb hsb hS2=>?_
  have mv: ∀c o,c≠S->s'.heap.get? c=some o->h'.get? c=some o:=fun c o hc e=>by rw [hsb.2 c hc];exact e
  have hS3:SetT knd Gd h' S (fstT val (i+1)):=by
    rw [fstT]
    by_cases hm:val i∈fstT val i
    · rw [if_pos hm] at hS2 ⊢;exact hS2
    · rw [if_neg hm] at hS2 ⊢;exact hS2
  refine aac ⟨aef ab7 _,ih (i+1) _ (by omega) hlt (W.frame _ s' _ _ hst' (adm _ _) fun c hc o e=>?_) hS3 (fun i' v' hP'=>?_) fun s'' hm'' hS''=>?_⟩
  · exact mv c o (fun z=>hSf (by rw [←z];exact hc)) e
  · obtain ⟨c,e,g,x⟩:=hK i' v' hP';exact ⟨c,e,g,key_same x fun o z=>mv c o (hG c g).1 (hm.heap c o (hG c g).2 z)⟩
  · refine hR s'' (Moved.trans W.gtrans ((hm.mono up).then_heap (adm _ _) fun c o hc e=>?_) hm'') hS'';exact mv c o (fun z=>hc (by rw [z];exact aax)) e
end
section
variable {prog:aaH} {w:World} {K:Type} [DecidableEq K] {knd:KeyKind prog w K} {A:aa3} {E:X6} {s:aaf}
def X5 (a:Value) {Q₁:X6}
  (h:Q₁ (.ref s.heap.objs.size) {s with heap:=s.heap.push {cls:= .type "set",dict:=none,data:= .set #[] 0 (.fresh 0 0 (!w.params.followText "set-order"))}}):
  adL (model prog w) A (.call (.builtin "set.__new__") ⟨[.type "set",a],[]⟩) (wants Q₁ E) s:=by
 refine codeAny_of_tree ?_;show wpAny _ A.in1 (checkBuiltinCall "set.__new__" ⟨[.type "set",a],[]⟩>>=fun _=>again (.builtin "set.__new__" ⟨[.type "set",a],[]⟩)) _ _ s;refine aaa (wpAny_of_eq (PySem.F.newCall_set_1 a) (aac ⟨aef PySem.F.plain_set_new _,acH PySem.F.entry_set_new ?_⟩));rw [acB PySem.F.plain_set_new _];unfold ab3.«set.__new__» Builtin.Frozenset.newClass;have hsub:=PySem.sub_set_self;obtain ⟨hp,g,d,tk,os⟩:=s;dsimp only
 wp_walk
 refine abP (aac ?_);dsimp only;simp only [newObj];exact aaa (wpAny_alloc (aac (aac h)))
def jfc {h:Heap} {a:Addr} {o:Obj} {led:Bool} {G:X7} (ho:h.get? a=some o) (hx:o.ExactSet) (hd:o.data= .set #[] 0 (.fresh 0 0 led)) (hl:led=!w.params.followText "set-order"):SetT knd G h a []:=
 ⟨o, #[],0,_,7,[],led,ho,hx,hd,Tb.fresh led,.inl ⟨rfl,by decide⟩,rfl,(fun _ z=>by cases z),.refl _,.nil,hl⟩
def call_setT (hu:A.units+6<cLine) (hh:A.handled=none) {l:Addr} {items:Array Value} {val:Nat->List K} {Q:X6} (hl:s.heap.IsList l items)
  (hi: ∀(i:Nat) v,items[i]?=some v-> ∃b,v= .ref b/\abO knd s.heap (val i) b) (hb: ∀i,i<items.size->(fstT val i).length<76)
  (h: ∀(h':Heap) (tk:Nat),SetT knd (fun b=>b<s.heap.objs.size/\aaJ b∈items.toList) h' s.heap.objs.size (fstT val items.size)->(∀b o,b<s.heap.objs.size->s.heap.get? b=some o->h'.get? b=some o)->Q (.ref s.heap.objs.size) {s with heap:=h',toks:=tk}):
  wpAny (model prog w) A (call (.type "set") [.ref l]) Q E s:=by
 obtain ⟨c,tl,hmro⟩:=acZ.mro;have hmade:=acZ.made;have hsub:=acZ.sub;refine wpAny_call (codeAny_of_tree ?_);refine aac ⟨Code.quiet_builtin _ (by decide+kernel),acH F.entry_type_call ?_⟩;rw [Around.under_plain (weight_type_call_type "set" [.ref l] []) rfl];have h1:=acZ.notType;have h2:=acZ.canCreate;have hct:=F.typeCall_set_1 (.ref l)
 repeat (any_goals (first|assumption|wp_step))
 refine adW (X5 (.ref l) (E:=E) (Q₁:=fun obj s₁=> ∃led:Bool,(led=!w.params.followText "set-order")/\obj= .ref s.heap.objs.size/\s₁={s with heap:=s.heap.push {cls:= .type "set",dict:=none,data:= .set #[] 0 (.fresh 0 0 led)}}) ⟨_,rfl,rfl,rfl⟩) fun r s₁ hr=>?_
 cases r with
 |error e=>exact hr
 |ok fl=>
  cases fl with
  |ret obj=>
   obtain ⟨led,hled,rfl,rfl⟩:=hr;generalize hso:({cls:= .type "set",dict:=none,data:= .set #[] 0 (.fresh 0 0 led)}:Obj)=so;have hS:(s.heap.push so).get? s.heap.objs.size=some so:=aaq _ (by rw [←hso];rfl);have hT:Shared.TypeIs {s with heap:=s.heap.push so} (.ref s.heap.objs.size) "set" :=⟨_,hS,by rw [←hso]⟩
   have hli:=acZ.init.lookup;have hbi:=acZ.init.bind (.ref s.heap.objs.size)
   repeat (any_goals (first|assumption|wp_step))
   refine adW (aea (R:=wants (fun r s₂=>r= .none/\ ∃h' tk,s₂={s with heap:=h',toks:=tk}/\
       SetT knd (fun b=>b<s.heap.objs.size/\aaJ b∈items.toList) h' s.heap.objs.size (fstT val items.size)/\(∀b o,b<s.heap.objs.size->s.heap.get? b=some o->h'.get? b=some o)) E) acZ.init.plain F.entry_set_init (check_set_init_1 hT ?_)) fun r₂ s₂ hr₂=>?_
   · obtain ⟨ol,hol,hcl,nl,hdl⟩:=hl;obtain ⟨ocls,odict,odata,oslots⟩:=ol;simp only at hcl hdl;subst hcl;subst hdl;have hol':(s.heap.push so).get? l=some {cls:= .type "list",dict:=odict,data:= .seq items nl,slots:=oslots}:=aad _ hol;have hsls:=F.sub_list_set;have hslf:=F.sub_list_frozenset;have hne:(acC "list" ==acC "dict")=false:=by decide
     have hl1:(s.heap.push so).IsList l items:=⟨_,hol',rfl,nl,rfl⟩
     have hlt:=aav hol;have hsz:(s.heap.push so).objs.size=s.heap.objs.size+1:=acv _ _
     have hset:SetT knd (fun b=>b<s.heap.objs.size/\aaJ b∈items.toList) ((s.heap.push so).push {cls:= .type "list_iterator",data:= .fields #[.ref l,.int 0 0]}) s.heap.objs.size []:=
       jfc (aad _ hS) (by rw [←hso];exact ⟨rfl,rfl,rfl⟩) (by rw [←hso]) hled
     subst hso;unfold ab3.«set.__init__» noKeywords Builtin.Frozenset.updateFrom;generalize hPI:pyIter=PI
     wp_walk
     subst hPI;refine adP hl1 ?_;refine aaa (wpAny_runValue ?_)
     refine jf2 ((Walks.list (show A.in1.in1.in1.handled=none by simp [hh]) _ l (by rw [hsz];exact aaC (adU hlt)) items).toS) s.heap.objs.size (by rw [hsz];simp only [aam,aa2,or_false,not_or];exact ⟨aaC (ab1 _),Nat.ne_of_gt hlt⟩) (by simp;omega) val
       (fun b hb=>by rw [hsz];simp;exact ⟨aaC hb.1,aaC (adU hb.1)⟩) hb (items.size-0) 0 _ rfl (aba _) ⟨⟨_,aaq _ rfl,rfl,rfl⟩,hl1.push _⟩ hset (fun i v hv=>?_) fun s' hm hS'=>?_
     · obtain ⟨b,e,x⟩:=hi i v hv;refine ⟨b,e,?_,key_same x fun o z=>aad _ (aad _ z)⟩;obtain ⟨o,_,_,ho,_⟩:=x;refine ⟨aav ho,?_⟩;rw [←e];exact aaV (by rw [aar];exact hv)
     · obtain ⟨h',g',d',tk',os'⟩:=s';have eg:=hm.gens;have ed:=hm.drawn;have eo:=hm.os;subst eg;subst ed;subst eo;refine aac (aac ⟨rfl,h',tk',rfl,hS',fun b o hb e=>?_⟩);refine hm.heap b o ?_ (aad _ (aad _ e));rw [hsz];simp;exact ⟨aaC hb,aaC (adU hb)⟩
   · cases r₂ with
     |error e=>exact hr₂
     |ok fl₂=>
       cases fl₂ with
       |ret r=>
        obtain ⟨rfl,h',tk,rfl,hS',hk'⟩:=hr₂
        repeat (any_goals (first|assumption|wp_step))
        exact h _ _ hS' hk'
       |_=>exact hr₂.elim
  |_=>exact hr.elim
end
end Tab
end M
namespace M
open PySem PySem.W PyProof.Rows
namespace Tab
section
variable {prog:aaH} {w:World} {A:aa3} {E:X6} {s:aaf}
def Uz {src:Source} {n:Nat} {Q:Nat->aaf->Prop} (hn:n≠0) (h: ∀i,i<n->Q i {s with drawn:=s.drawn.bump src}):wpAny (model prog w) A (choose src n) Q E s:=fun _ _ _=>⟨hn,h _ (afb _ (Nat.pos_of_ne_zero hn))⟩
theorem YK {α:Type}: ∀ {l:List α} {i:Nat} {x:α},l[i]?=some x->(x::l.eraseIdx i).Perm l
 | [],i,x,h=>by simp at h
 |a::l,0,x,h=>by simp at h;subst h;exact ab6 _
 |a::l,i+1,x,h=>by
  have ih:=YK (l:=l) (i:=i) (x:=x) (by simpa using h);rw [List.eraseIdx_cons_succ];exact (List.Perm.swap a x _).trans (ih.cons a)
theorem uc {α:Type}: ∀(n:Nat) (xs:List α) {s:aaf} {Q:List α->aaf->Prop},xs.length=n->(∀ys d,ys.Perm xs->Q ys {s with drawn:=d})->wpAny (model prog w) A (drawOrder n xs) Q E s
 |0,xs,s,Q,hl,h=>by
  cases adE.mp hl;exact aac (h [] s.drawn (ab6 _))
 |n+1,[],s,Q,hl,h=>by cases hl
 |n+1,x::xs,s,Q,hl,h=>by
  unfold drawOrder;refine aaa (Uz (by simp) fun i hi=>?_);obtain ⟨y,hy⟩: ∃y,(x::xs)[i]?=some y:=⟨_,aae hi⟩
  rw [hy];dsimp only;refine aaa (uc n ((x::xs).eraseIdx i) (by rw [List.length_eraseIdx_of_lt hi];simpa using hl) fun ys d hp=>?_);exact aac (h (y::ys) d ((hp.cons y).trans (YK hy)))
theorem ZR {α:Type} (next:Nat->Nat): ∀(fuel k:Nat) (left:List α) (out:Array α),left.length<=fuel->(ad0 next fuel k left out).toList.Perm (out.toList++left)
 |0,k,left,out,h=>by
  cases adE.mp (Nat.le_zero.mp h);simp [ad0]
 |fuel+1,k,[],out,h=>by simp [ad0]
 |fuel+1,k,x::left,out,h=>by
  have hi:next k%(x::left).length< (x::left).length:=afb _ (by simp);obtain ⟨y,hy⟩: ∃y,(x::left)[next k%(x::left).length]?=some y:=⟨_,aae hi⟩
  rw [ad0,hy];dsimp only;refine (ZR next fuel (k+1) _ _ (by rw [List.length_eraseIdx_of_lt hi];simp at h ⊢;omega)).trans ?_;rw [aeP,aaW];exact List.Perm.append_left _ (YK hy)
def pick_perm {α:Type} (next:Nat->Nat) (xs:Array α):(aeR next xs).toList.Perm xs.toList:=by
 have:=ZR next xs.size 0 xs.toList #[] (by simp);simpa [aeR] using this
def XA:entryFor table "set.__iter__" =some ab3.«frozenset.__iter__» :=entryFor_alias (id':= "frozenset.__iter__") (by kernel_rfl) rfl (by decide+kernel) (by kernel_rfl)
def slot_sit_next:PySem.Slot "set_iterator" "__next__" "set_iterator.__next__" :=
 .of (owner:= "set_iterator") (n:= "__next__") (by rw [typeLookup_type,builtinLookup_eq_fast];kernel_rfl) (by decide+kernel) (by decide+kernel) (by decide+kernel) (by first|exact .inl (by decide+kernel)|exact .inr (by decide+kernel)) (by rw [aeD];kernel_rfl)
def zw:entryFor table "set_iterator.__next__" =some ab3.«set_iterator.__next__» :=entryFor_of_tree (by kernel_rfl)
def W3:Manifest.owners.lookup (String.ofList ['r','o','t','a','r','e','t','i','_','t','e','s'].reverse)=some Manifest.sig_set_iterator:=by kernel_rfl
def zQ (a:Value):argsOk "set_iterator.__next__" ⟨[a],[]⟩:=by
 unfold argsOk;rw [signature?_of (id:= "set_iterator.__next__") (n:=['_','_','t','x','e','n','_','_']) (o:=['r','o','t','a','r','e','t','i','_','t','e','s']) (by kernel_rfl) W3];kernel_rfl
def yV:PySem.Slot "set_iterator" "__iter__" "set_iterator.__iter__" :=
 .of (owner:= "set_iterator") (n:= "__iter__") (by rw [typeLookup_type,builtinLookup_eq_fast];kernel_rfl) (by decide+kernel) (by decide+kernel) (by decide+kernel) (by first|exact .inl (by decide+kernel)|exact .inr (by decide+kernel)) (by rw [aeD];kernel_rfl)
def Zf:entryFor table "set_iterator.__iter__" =some ab3.«dict_keyiterator.__iter__» :=entryFor_alias (id':= "dict_keyiterator.__iter__") (by kernel_rfl) rfl (by decide+kernel) (by kernel_rfl)
def WB (a:Value):argsOk "set_iterator.__iter__" ⟨[a],[]⟩:=by
 unfold argsOk;rw [signature?_of (id:= "set_iterator.__iter__") (n:=['_','_','r','e','t','i','_','_']) (o:=['r','o','t','a','r','e','t','i','_','t','e','s']) (by kernel_rfl) W3];kernel_rfl
def SAt (h:Heap) (a:Addr) (es:Array (Int×Value)) (ep:Nat) (t:aa9):Prop:= ∃o,h.get? a=some o/\o.ExactSet/\o.data= .set es ep t
def SIt (h:Heap) (I a:Addr) (first:Value) (i n ep:Nat):Prop:= ∃o,h.get? I=some o/\o.cls= .type "set_iterator" /\o.data= .fields #[first,.int i 0,.ref a,.int n 0,.int ep 0]
def SIt.ty {I a:Addr} {f:Value} {i n ep:Nat} (x:SIt s.heap I a f i n ep):s.TypeIs (.ref I) "set_iterator" :=let ⟨o,h,c,_⟩:=x;⟨o,h,c⟩
def SIt.at {h h':Heap} {I a:Addr} {f:Value} {i n ep:Nat} (x:SIt h I a f i n ep) (e: ∀o,h.get? I=some o->h'.get? I=some o):SIt h' I a f i n ep:=let ⟨o,g,r⟩:=x;⟨o,e o g,r⟩
def SAt.at {h h':Heap} {a:Addr} {es:Array (Int×Value)} {ep:Nat} {t:aa9} (x:SAt h a es ep t) (e: ∀o,h.get? a=some o->h'.get? a=some o):SAt h' a es ep t:=let ⟨o,g,r⟩:=x;⟨o,e o g,r⟩
def SAt.ty {a:Addr} {es:Array (Int×Value)} {ep:Nat} {t:aa9} (x:SAt s.heap a es ep t):s.TypeIs (.ref a) "set" :=let ⟨o,h,c,_⟩:=x;⟨o,h,c.1⟩
variable {a:Addr} {es:Array (Int×Value)} {ep:Nat} {t:aa9}
def TupI (h:Heap) (T:Addr) (p:List Nat):Prop:= ∃o k,h.get? T=some o/\o.cls= .type "tuple" /\o.data= .seq (p.map fun (i:Nat)=>ac7 i).toArray k
def u5 {Q:X6} (x:SAt s.heap a es ep t) (hf:t.fits es.size=true) (hz:es.size<=76)
   (h1:(w.params.followText "set-order" =true\/t.plain=true\/es.size<=1)->Q (.ref s.heap.objs.size) {s with heap:=s.heap.push {cls:= .type "set_iterator",data:= .fields #[.int 0 0,.int 0 0,.ref a,.int es.size 0,.int ep 0]}})
   (h2:w.params.followText "set-order" =false-> ∀(p:List Nat) (d:Drawn) (oT:Obj),p.Perm (aa8 es.size)->oT.cls= .type "tuple" ->(∃k,oT.data= .seq (p.map fun (i:Nat)=>ac7 i).toArray k)->Q (.ref (s.heap.objs.size+1)) {s with drawn:=d,heap:=(s.heap.push oT).push {cls:= .type "set_iterator",data:= .fields #[.ref s.heap.objs.size,.int 0 0,.ref a,.int es.size 0,.int ep 0]}}):
   wpAny (model prog w) A (pyIter (.ref a)) Q E s:=by
 obtain ⟨o,ho,hex,hd⟩:=id x;refine wpAny_pyIter_slot x.ty PySem.F.slot_set_iter (abl PySem.F.slot_set_iter x.ty XA ?_ (PySem.F.args_set_iter_1 _));unfold ab3.«frozenset.__iter__» Builtin.Frozenset.slot0 slotArgs;simp only [acO,abf,aaG,↓reduceIte,bind_assoc,aaR,bne_self_eq_false];unfold acI aeS;refine aaa (aac ?_)
 try dsimp only
 refine aaa (aac ?_);refine aaa (aaa (acM ho hd hf (aac ?_)));unfold setDrawn aeT;refine aaa (aaa (abe ho hd hf ?_));dsimp only;refine aaa (aaa (abP (aac ?_)));refine aac ?_
 have ep1: ∀ {s:aaf} {Q:Nat->aaf->Prop},s.heap.get? a=some o->Q ep s->wpAny (model prog w) A.in1 (setEpoch a) Q E s:=fun g q=>by
   unfold setEpoch;exact aaa (abe g hd hf (aac q))
 show wpAny _ _ (if (!w.params.followText "set-order" &&(!t.plain&&decide (es.size>1)))=true then _ else _) _ _ _
 by_cases c:(!w.params.followText "set-order" &&(!t.plain&&decide (es.size>1)))=true
 · rw [if_pos c];simp only [aat,Bool.not_eq_true',decide_eq_true_eq] at c;refine aaa (uc es.size (aa8 es.size) (by simp) fun p d hp=>?_);have hpl:p.length<=76:=by rw [hp.length_eq,acf];exact hz
   simp only [newTuple];refine aaa (aaY ?_ (by show ((p.map fun (i:Nat)=>ac7 i).toArray).size<=_;rw [aag,aak,abR];omega));refine aaa (ep1 (aad _ ho) ?_);refine aaa (aaY ?_ (by size_fits));refine aac ⟨_,rfl, "set_iterator",_,⟨_,aaq _ rfl,rfl⟩,slot_sit_next.lookup,?_⟩;have:=h2 c.1 p d {cls:= .type "tuple",data:= .seq (p.map fun (i:Nat)=>ac7 i).toArray} hp rfl ⟨_,rfl⟩;simpa [ac7,acv] using this
 · rw [if_neg c];refine aaa (aac ?_);refine aaa (ep1 ho ?_);refine aaa (aaY ?_ (by size_fits));refine aac ⟨_,rfl, "set_iterator",_,⟨_,aaq _ rfl,rfl⟩,slot_sit_next.lookup,?_⟩
   have:=h1 (by
    cases e:w.params.followText "set-order" with
    |true=>exact .inl rfl
    |false=>
     cases e2:t.plain with
     |true=>exact .inr (.inl rfl)
     |false=>
      rw [e,e2] at c;simp at c
      exact .inr (.inr c))
   simpa [ac7] using this
def Xf {slot i:Nat} {Q:Option (Value×Nat)->aaf->Prop} (x:SAt s.heap a es ep t) (hf:t.fits es.size=true) (ht:w.params.followText "set-order" =true)
  (h:Q (((aeR (w.params.setOrder a ep) es)[i]?).map fun e=>(e.2,slot)) s):wpAny (model prog w) A (setNext a slot i ep) Q E s:=by
 obtain ⟨o,ho,hex,hd⟩:=x;unfold setNext aeT;refine aaa (abe ho hd hf ?_);dsimp only;refine aaa (aaa (abP (aac ?_)));show wpAny _ _ (if w.params.followText "set-order" =true then _ else _) _ _ _;rw [if_pos ht];rw [if_neg (by simp)];unfold setWalk aeT;refine aaa (aaa (abe ho hd hf ?_));dsimp only;refine aaa (aaa (abP (aac ?_)));show wpAny _ _ (if w.params.followText "set-order" =true then _ else _) _ _ _;rw [if_pos ht];refine aaa (abP (aac ?_));exact aac h
def wp (t:aa9):Nat->Nat
 |0=>0
 |i+1=>t.place.getD i 0+1
def Ul {L:Bool} {m:Nat} (T:Tb L m t es) {i:Nat} (hi:i<=es.size):aaM t.place (wp t i)=i:=by
 obtain ⟨b1,b2,b3⟩:=JT T.up (wp t i)
 have mono: ∀(j k:Nat) (u v:Nat),j<k->t.place[j]?=some u->t.place[k]?=some v->u<v:=fun j k u v hjk hu hv=>by
  have up:=T.up;rw [abD] at up;obtain ⟨q1,q2⟩:=abb.mp hu;obtain ⟨r1,r2⟩:=abb.mp hv;have:=up j k (by simpa using q1) (by simpa using r1) hjk;simp only [Array.getElem_toList] at this;rw [q2,r2] at this;exact this
 cases i with
 |zero=>
  rcases adF (aaM t.place (wp t 0)) with z|z
  · exact z
  · have hlt:0<t.place.size:=by omega
    have:=b1 0 t.place[0] z (aaj hlt);simp only [wp] at this;omega
 |succ i=>
  have hlt:i<t.place.size:=by rw [T.sz];omega
  have e0:wp t (i+1)=t.place[i]+1:=by simp only [wp,aa0,aaj hlt,adh]
  rw [e0] at b1 b2 b3 ⊢;rcases Nat.lt_trichotomy (aaM t.place (t.place[i]+1)) (i+1) with z|z|z
  · have:=b2 i t.place[i] (by omega) (aaj hlt);omega
  · exact z
  · have h2:i+1<t.place.size:=by omega
    have q:=b1 (i+1) t.place[i+1] z (aaj h2);have:=mono i (i+1) _ _ (ab1 i) (aaj hlt) (aaj h2);omega
def Zo {L:Bool} {m i:Nat} {Q:Option (Value×Nat)->aaf->Prop} (x:SAt s.heap a es ep t) (hf:t.fits es.size=true) (ht:w.params.followText "set-order" =false) (hp:t.plain=true\/es.size<=1) (T:Tb L m t es) (hL:L=true) (hi:i<=es.size)
  (h:Q ((es[i]?).map fun e=>(e.2,wp t (i+1))) s):wpAny (model prog w) A (setNext a (wp t i) i ep) Q E s:=by
 obtain ⟨o,ho,hex,hd⟩:=x;unfold setNext aeT;refine aaa (abe ho hd hf ?_);dsimp only;refine aaa (aaa (abP (aac ?_)));show wpAny _ _ (if w.params.followText "set-order" =true then _ else _) _ _ _;rw [if_neg (by rw [ht];exact aaB)]
 have c:(!t.plain&&decide (es.size>1))=false:=by
  rcases hp with e|e
  · rw [e];rfl
  · rw [decide_eq_false (by omega)];simp
 show wpAny _ _ (if (!t.plain&&decide (es.size>1))=true then _ else _) _ _ _;rw [if_neg (by rw [c];exact aaB)];have ld:t.led=true:=by rw [T.ld];exact hL
 have c2:(!t.led&&!es.isEmpty)=false:=by rw [ld];rfl
 refine aaa ?_;show wpAny _ _ (if (!t.led&&!es.isEmpty)=true then _ else pure ()) _ _ _;rw [if_neg (by rw [c2];exact aaB)];refine aac ?_;rw [Ul T hi];refine aac ?_
 cases e:es[i]? with
 |none=>rw [e] at h;exact h
 |some q=>
  rw [e] at h;have hlt:i<t.place.size:=by rw [T.sz];exact (abb.mp e).1
  rw [aaj hlt];have e0:wp t (i+1)=t.place[i]+1:=by simp only [wp,aa0,aaj hlt,adh]
  rw [e0] at h;exact h
def Y7 {I:Addr} {slot next i n:Nat} {v:Value} {Q:Option Value->aaf->Prop} (y:SIt s.heap I a (.int slot 0) i n ep) (x:SAt s.heap a es ep t) (hf:t.fits es.size=true) (hn:n=es.size)
   (hN: ∀(A:aa3) (E:X6) (Q:Option (Value×Nat)->aaf->Prop),Q (some (v,next)) s->wpAny (model prog w) A (setNext a slot i ep) Q E s)
   (hQ: ∀h',SIt h' I a (.int next 0) (i+1) n ep->abZ I s.heap h'->Q (some v) {s with heap:=h'}):wpAny (model prog w) A (aey (.ref I)) Q E s:=by
 obtain ⟨o,ho,hex,hd⟩:=id x;obtain ⟨oi,hi,hci,hfi⟩:=id y;unfold aey;refine aaa (acL (abr y.ty slot_sit_next (abl slot_sit_next y.ty zw ?_ (zQ _))));unfold ab3.«set_iterator.__next__» slotArgs;simp only [acO,abf,aaG,↓reduceIte,bind_assoc,aaR,bne_self_eq_false];refine aaa (aac ?_);refine aaa (acy hi hfi ?_);dsimp only;refine aaa (acM ho hd hf ?_);rw [if_neg (by rw [hn];simp)];simp only [abH];refine aaa (hN _ _ _ ?_);dsimp only;refine aaa (acz hi hfi (by simp) ?_);have h2:=abo (ac5 (·.setIfInBounds 0 (ac7 (next:Int)))) hi (act (abx hfi _));have hf2:(ac5 (·.setIfInBounds 0 (ac7 (next:Int))) oi).data= .fields (#[.int slot 0,.int i 0,.ref a,.int n 0,.int ep 0].setIfInBounds 0 (ac7 (next:Int))):=abx hfi _;refine aaa (acz h2 hf2 (by simp) ?_);have h3:=abo (ac5 (·.setIfInBounds 1 (ac7 ((i:Int)+1)))) h2 (act (abx hf2 _));refine aac ⟨_,rfl,aac (hQ _ ⟨_,h3,?_,?_⟩ ((abv ..).trans (abv ..)))⟩
 · rw [adQ,adQ];exact hci
 · rw [abx hf2];simp [ac7]
def UV {I:Addr} {slot i n:Nat} {Q:Option Value->aaf->Prop} (hh:A.handled=none) (y:SIt s.heap I a (.int slot 0) i n ep) (x:SAt s.heap a es ep t) (hf:t.fits es.size=true) (hn:n=es.size)
  (hN: ∀(A:aa3) (E:X6) (Q:Option (Value×Nat)->aaf->Prop),Q none s->wpAny (model prog w) A (setNext a slot i ep) Q E s)
  (hQ: ∀h',Heap.ExtBut I s.heap h'->Q none {s with heap:=h'}):wpAny (model prog w) A (aey (.ref I)) Q E s:=by
 obtain ⟨o,ho,hex,hd⟩:=id x;obtain ⟨oi,hi,hci,hfi⟩:=id y;unfold aey;refine aaa (acL (abr y.ty slot_sit_next (abl slot_sit_next y.ty zw ?_ (zQ _))));unfold ab3.«set_iterator.__next__» slotArgs;simp only [acO,abf,aaG,↓reduceIte,bind_assoc,aaR,bne_self_eq_false];refine aaa (aac ?_);refine aaa (acy hi hfi ?_);dsimp only;refine aaa (acM ho hd hf ?_);rw [if_neg (by rw [hn];simp)];simp only [abH];refine aaa (hN _ _ _ ?_);dsimp only;refine aaa (acz hi hfi (by simp) ?_);simp only [newExc,newTuple];refine aaa (aaa (aaY (aaa (wpAny_of_eq (by first|rfl| (simp;rfl)) (aaY ?_ (by size_fits)))) (by size_fits)));simp only [raiseNew];refine aaa (wpAny_handled ?_);rw [show A.in1.handled=none from hh];refine aaa (aac (wpAny_throw ?_));refine aaa (acm ⟨_,aaq _ rfl,rfl⟩ isSubtype_stop ?_);exact aac (hQ _ (((abv ..).extBut.push _).push _))
def UU {I T:Addr} {p:List Nat} {k i n:Nat} {e:Int×Value} {Q:Option Value->aaf->Prop} (y:SIt s.heap I a (.ref T) i n ep) (z:TupI s.heap T p) (x:SAt s.heap a es ep t) (hf:t.fits es.size=true) (hn:n=es.size) (hk:p[i]?=some k) (he:es[k]?=some e)
   (hQ: ∀h',SIt h' I a (.ref T) (i+1) n ep->abZ I s.heap h'->Q (some e.2) {s with heap:=h'}):wpAny (model prog w) A (aey (.ref I)) Q E s:=by
 obtain ⟨o,ho,hex,hd⟩:=id x;obtain ⟨oi,hi,hci,hfi⟩:=id y;obtain ⟨oT,kT,hT,cT,dT⟩:=z;unfold aey;refine aaa (acL (abr y.ty slot_sit_next (abl slot_sit_next y.ty zw ?_ (zQ _))));unfold ab3.«set_iterator.__next__» slotArgs;simp only [acO,abf,aaG,↓reduceIte,bind_assoc,aaR,bne_self_eq_false];refine aaa (aac ?_);refine aaa (acy hi hfi ?_);dsimp only;refine aaa (acM ho hd hf ?_);rw [if_neg (by rw [hn];simp)];refine aaa (adV hT dT ?_);simp only [abH];have hk':((p.map fun (i:Nat)=>ac7 i).toArray)[i]?=some (ac7 k):=by simp [hk]
 rw [hk'];simp only [ac7,abH];unfold setNextDrawn;refine aaa (aaa (abe ho hd hf ?_));dsimp only;rw [if_neg (by simp)];rw [he];refine aac ?_;refine aaa (acz hi hfi (by simp) ?_);have h3:=abo (ac5 (·.setIfInBounds 1 (aeI ((i:Int)+1) 0))) hi (act (abx hfi _));refine aac ⟨_,rfl,aac (hQ _ ⟨_,h3,?_,?_⟩ (abv ..))⟩
 · rw [adQ];exact hci
 · rw [abx hfi];simp
def uZ {I T:Addr} {p:List Nat} {i n:Nat} {Q:Option Value->aaf->Prop} (hh:A.handled=none) (y:SIt s.heap I a (.ref T) i n ep) (z:TupI s.heap T p) (x:SAt s.heap a es ep t) (hf:t.fits es.size=true) (hn:n=es.size) (hk:p[i]?=none)
  (hQ: ∀h',Heap.ExtBut I s.heap h'->Q none {s with heap:=h'}):wpAny (model prog w) A (aey (.ref I)) Q E s:=by
 obtain ⟨o,ho,hex,hd⟩:=id x;obtain ⟨oi,hi,hci,hfi⟩:=id y;obtain ⟨oT,kT,hT,cT,dT⟩:=z;unfold aey;refine aaa (acL (abr y.ty slot_sit_next (abl slot_sit_next y.ty zw ?_ (zQ _))));unfold ab3.«set_iterator.__next__» slotArgs;simp only [acO,abf,aaG,↓reduceIte,bind_assoc,aaR,bne_self_eq_false];refine aaa (aac ?_);refine aaa (acy hi hfi ?_);dsimp only;refine aaa (acM ho hd hf ?_);rw [if_neg (by rw [hn];simp)];refine aaa (adV hT dT ?_);simp only [abH];have hk':((p.map fun (i:Nat)=>ac7 i).toArray)[i]?=none:=by simpa using hk
 rw [hk'];dsimp only;refine aaa (acz hi hfi (by simp) ?_);have h2:=abo (ac5 (·.setIfInBounds 0 (ac7 0))) hi (act (abx hfi _));have hf2:(ac5 (·.setIfInBounds 0 (ac7 0)) oi).data= .fields (#[.ref T,.int i 0,.ref a,.int n 0,.int ep 0].setIfInBounds 0 (ac7 0)):=abx hfi _;refine aaa (acz h2 hf2 (by simp) ?_);simp only [newExc,newTuple];refine aaa (aaa (aaY (aaa (wpAny_of_eq (by first|rfl| (simp;rfl)) (aaY ?_ (by size_fits)))) (by size_fits)));simp only [raiseNew];refine aaa (wpAny_handled ?_);rw [show A.in1.handled=none from hh];refine aaa (aac (wpAny_throw ?_));refine aaa (acm ⟨_,aaq _ rfl,rfl⟩ isSubtype_stop ?_);exact aac (hQ _ ((((abv ..).trans (abv ..)).extBut.push _).push _))
def ZH {I:Addr} {f:Value} {i n:Nat} {Q:X6} (y:SIt s.heap I a f i n ep) (h:Q (.ref I) s):wpAny (model prog w) A (pyIter (.ref I)) Q E s:=by
 refine wpAny_pyIter_slot y.ty yV (abl yV y.ty Zf ?_ (WB _));show wpAny _ _ (ret (.ref I)) _ _ s;exact aac ⟨_,rfl, "set_iterator",_,y.ty,slot_sit_next.lookup,h⟩
end
end Tab
end M
namespace M
open PySem PySem.W PyProof.Rows
namespace Tab
section
variable {prog:aaH} {w:World} {A:aa3} {E:X6} {s:aaf} {a:Addr} {es:Array (Int×Value)} {ep:Nat} {t:aa9}
def itP (os:List (Int×Value)) (i:Nat) (v:Value):Prop:= ∃e,os[i]?=some e/\v=e.2
def Vh (hh:A.handled=none) {I:Addr} (hI:a≠I) (hf:t.fits es.size=true) (ht:w.params.followText "set-order" =true):Walks prog w A I [I,a] [I] es.size (itP (aeR (w.params.setOrder a ep) es).toList) (fun i h=>SIt h I a (.int 0 0) i es.size ep/\SAt h a es ep t) where
 sub:=fun b hb=>by simp at hb;simp [hb]
 frame:=fun _ _ _ st hk=>⟨st.1.at fun o e=>hk I (by simp) o e,st.2.at fun o e=>hk a (by simp) o e⟩
 item:=fun i s Q E hi st hQ=>by
  have hl:(aeR (w.params.setOrder a ep) es).toList.length=es.size:=by rw [(pick_perm _ es).length_eq,aas]
  obtain ⟨e,he⟩: ∃e,(aeR (w.params.setOrder a ep) es)[i]?=some e:=⟨_,aaj (by rw [aas] at hl;omega)⟩
  refine Y7 (slot:=0) (next:=0) (v:=e.2) st.1 st.2 hf rfl (fun A E Q q=>Xf st.2 hf ht (by rw [he];exact q)) fun h' y' sb=>hQ _ h' s.toks ⟨e,by rw [aar];exact he,rfl⟩ ⟨y',st.2.at fun o g=>sb.extBut a o hI g⟩ fun b o hb g=>sb.extBut b o (fun z=>hb (by simp [z])) g
 done:=fun s Q E st hQ=>by
  have hl:(aeR (w.params.setOrder a ep) es).size=es.size:=by rw [←aas,(pick_perm _ es).length_eq,aas]
  refine UV hh (slot:=0) st.1 st.2 hf rfl (fun A E Q q=>Xf st.2 hf ht (by rw [acR (by omega)];exact q)) fun h' xb=>hQ h' s.toks fun b o hb g=>xb b o (fun z=>hb (by simp [z])) g
 self:=fun _ _ _ _ st hQ=>ZH st.1 hQ
def X1 {L:Bool} {m:Nat} (hh:A.handled=none) {I:Addr} (hI:a≠I) (hf:t.fits es.size=true) (ht:w.params.followText "set-order" =false) (hp:t.plain=true\/es.size<=1) (T:Tb L m t es) (hL:L=true):Walks prog w A I [I,a] [I] es.size (itP es.toList) (fun i h=>i<=es.size/\SIt h I a (.int (wp t i) 0) i es.size ep/\SAt h a es ep t) where
 sub:=fun b hb=>by simp at hb;simp [hb]
 frame:=fun _ _ _ st hk=>⟨st.1,st.2.1.at fun o e=>hk I (by simp) o e,st.2.2.at fun o e=>hk a (by simp) o e⟩
 item:=fun i s Q E hi st hQ=>by
  obtain ⟨e,he⟩: ∃e,es[i]?=some e:=⟨_,aaj hi⟩
  refine Y7 (slot:=wp t i) (next:=wp t (i+1)) (v:=e.2) st.2.1 st.2.2 hf rfl (fun A E Q q=>Zo st.2.2 hf ht hp T hL st.1 (by rw [he];exact q)) fun h' y' sb=>hQ _ h' s.toks ⟨e,by rw [aar];exact he,rfl⟩ ⟨by omega,y',st.2.2.at fun o g=>sb.extBut a o hI g⟩ fun b o hb g=>sb.extBut b o (fun z=>hb (by simp [z])) g
 done:=fun s Q E st hQ=>by
  refine UV hh (slot:=wp t es.size) st.2.1 st.2.2 hf rfl (fun A E Q q=>Zo st.2.2 hf ht hp T hL st.1 (by rw [acR (aai _)];exact q)) fun h' xb=>hQ h' s.toks fun b o hb g=>xb b o (fun z=>hb (by simp [z])) g
 self:=fun _ _ _ _ st hQ=>ZH st.2.1 hQ
def TupI.at {h h':Heap} {T:Addr} {p:List Nat} (x:TupI h T p) (e: ∀o,h.get? T=some o->h'.get? T=some o):TupI h' T p:=let ⟨o,k,g,r⟩:=x;⟨o,k,e o g,r⟩
def X2 (hh:A.handled=none) {I T:Addr} {p:List Nat} {os:List (Int×Value)} (hI:a≠I) (hT:T≠I) (hf:t.fits es.size=true) (hpl:p.length=es.size) (hos: ∀i:Nat,i<es.size-> ∃k e,p[i]?=some k/\es[k]?=some e/\os[i]?=some e):
  Walks prog w A I [I,a,T] [I] es.size (itP os) (fun i h=>SIt h I a (.ref T) i es.size ep/\SAt h a es ep t/\TupI h T p) where
 sub:=fun b hb=>by simp at hb;simp [hb]
 frame:=fun _ _ _ st hk=>⟨st.1.at fun o e=>hk I (by simp) o e,st.2.1.at fun o e=>hk a (by simp) o e,st.2.2.at fun o e=>hk T (by simp) o e⟩
 item:=fun i s Q E hi st hQ=>by
  obtain ⟨k,e,h1,h2,h3⟩:=hos i hi;refine UU st.1 st.2.2 st.2.1 hf rfl h1 h2 fun h' y' sb=>hQ _ h' s.toks ⟨e,h3,rfl⟩ ⟨y',st.2.1.at fun o g=>sb.extBut a o hI g,st.2.2.at fun o g=>sb.extBut T o hT g⟩ fun b o hb g=>sb.extBut b o (fun z=>hb (by simp [z])) g
 done:=fun s Q E st hQ=>uZ hh st.1 st.2.2 st.2.1 hf rfl (aaP (by omega)) fun h' xb=>hQ h' s.toks fun b o hb g=>xb b o (fun z=>hb (by simp [z])) g
 self:=fun _ _ _ _ st hQ=>ZH st.1 hQ
def u0 {L:Bool} {m:Nat} (hh:A.handled=none) (x:SAt s.heap a es ep t) (T:Tb L m t es) (S:Sz m es.size) (hL:L=!w.params.followText "set-order") {Q:X6}
   (h: ∀(I:Addr) (h':Heap) (d:Drawn) (fp:List Addr) (os:List (Int×Value)) (St:Nat->Heap->Prop),(∀b o,s.heap.get? b=some o->h'.get? b=some o)->s.heap.objs.size<=I->(∀b∈fp,b=a\/s.heap.objs.size<=b)->
     Walks prog w A I fp [I] es.size (itP os) St->St 0 h'->os.Perm es.toList->Q (.ref I) {s with heap:=h',drawn:=d}):wpAny (model prog w) A (pyIter (.ref a)) Q E s:=by
 have hf:=T.fits S.le.1;have hlt:a<s.heap.objs.size:=by obtain ⟨o,ho,_⟩:=x;exact aav ho
 refine u5 x hf S.le.2.2.2 (fun hc=>?_) (fun ht p d oT hp hcT ⟨k,hdT⟩=>?_)
 · cases ht:w.params.followText "set-order" with
   |true=>
     exact h s.heap.objs.size _ s.drawn _ _ _ (fun b o e=>aad _ e) (aai _) (fun b hb=>by
       simp only [aam,aa2,or_false] at hb;rcases hb with e|e
       · exact .inr (by rw [e];exact aai _)
       · exact .inl e) (Vh hh (aaC hlt) hf ht) ⟨⟨_,aaq _ rfl,rfl,rfl⟩,x.at fun o e=>aad _ e⟩ (pick_perm _ es)
   |false=>
     have hp:t.plain=true\/es.size<=1:=hc.resolve_left (by rw [ht];exact aaB)
     exact h s.heap.objs.size _ s.drawn _ _ _ (fun b o e=>aad _ e) (aai _) (fun b hb=>by
       simp only [aam,aa2,or_false] at hb;rcases hb with e|e
       · exact .inr (by rw [e];exact aai _)
       · exact .inl e) (X1 hh (aaC hlt) hf ht hp T (by rw [hL,ht];rfl)) ⟨aba _,⟨_,aaq _ rfl,rfl,rfl⟩,x.at fun o e=>aad _ e⟩ (ab6 _)
 · have hlen:p.length=es.size:=by rw [hp.length_eq,acf]
   have hmem: ∀k∈p,k<es.size:=fun k hk=>aaU.mp (hp.mem_iff.mp hk)
   have hfree:oT.isFreed=false:=by
     obtain ⟨c1,c2,c3,c4⟩:=oT;simp only at hdT;rw [hdT];rfl
   have sz1:(s.heap.push oT).objs.size=s.heap.objs.size+1:=acv _ _;have gT:(s.heap.push oT).get? s.heap.objs.size=some oT:=aaq _ hfree
   have perm2:(p.map fun k=>es.getD k (0,.none)).Perm es.toList:=by
     refine (hp.map fun k=>es.getD k (0,.none)).trans ?_
     have:(aa8 es.size).map (fun k=>es.getD k (0,.none))=es.toList:=by
       apply List.ext_getElem (by simp);intro i h1 h2;simp at h1;simp [aa0,h1]
     rw [this]
   refine h (s.heap.objs.size+1) _ d _ (p.map fun k=>es.getD k (0,.none)) _ (fun b o e=>aad _ (aad _ e)) (acx _) (fun b hb=>?_) (X2 (T:=s.heap.objs.size) (p:=p) hh (aaC (adU hlt)) (aaC (ab1 _)) hf hlen fun i hi=>?_) ⟨⟨_,by rw [←sz1];exact aaq _ rfl,rfl,rfl⟩,x.at fun o e=>aad _ (aad _ e),⟨oT,k,aad _ gT,hcT,hdT⟩⟩ perm2
   · simp only [aam,aa2,or_false] at hb;rcases hb with e|e|e
     · exact .inr (by rw [e];exact acx _)
     · exact .inl e
     · exact .inr (by rw [e];exact aai _)
   · have hip:i<p.length:=by omega
     have hk:=hmem p[i] (abk hip);exact ⟨p[i],es[p[i]],aae hip,aaj hk,by simp [hip,aa0,hk]⟩
def jaV {r:Addr} {Q:Bool->aaf->Prop} (hT:s.TypeIs (.ref r) "set") (h:Q false s):wpAny (model prog w) A (aes (.ref r)) Q E s:=by
 unfold aes;refine aaa (wpAny_specialOf hT PySem.F.slot_set_len.lookup ?_);generalize hid:("set.__len__" :String)=id0
 wp_delta
 rw [show splitId id0=some ("set", "__len__") from by subst hid;decide+kernel];subst hid;refine aaa (acm (T:= "set") (b:=true) hT (by rw [aeD];kernel_rfl) ?_);refine wpAny_ite_split (fun hab=>absurd hab (by decide)) (fun _=>?_);refine wpAny_ite_split (fun _=>?_) (fun hab=>absurd (by decide+kernel) hab);exact aaa (adY hT (aac h))
def set_collect {L:Bool} {m:Nat} {R:List Value->aaf->Prop} (hh:A.handled=none) (x:SAt s.heap a es ep t) (T:Tb L m t es) (S:Sz m es.size) (hL:L=!w.params.followText "set-order")
   (h: ∀(h':Heap) (tk:Nat) (d:Drawn) (os:List (Int×Value)),(∀b o,s.heap.get? b=some o->h'.get? b=some o)->os.Perm es.toList->R (os.map (·.2)) {s with heap:=h',toks:=tk,drawn:=d}):
   wpAny (model prog w) A (collect (.ref a)) R E s:=by
 have hlt:a<s.heap.objs.size:=by obtain ⟨o,ho,_⟩:=x;exact aav ho
 have hn:es.size<=aah:=by rw [abR];have:=S.le;omega
 unfold collect;refine aaa (wpAny_runValue (acH entry_proto_collect' ?_));rw [acB PySem.F.plain_proto_collect _];show wpAny _ A.in1 (newList []>>=fun l=>again (.builtin "list.__iadd__" ⟨[l,.ref a],[]⟩)) _ _ s;refine aaa (aaY ?_);refine aac ⟨aef PySem.F.plain_list_iadd _,acH entry_list_iadd' ?_⟩;rw [acB PySem.F.plain_list_iadd _];generalize hl0:({cls:= .type "list",data:= .seq ([]:List Value).toArray}:Obj)=l0;have hS1:(s.heap.push l0).get? s.heap.objs.size=some l0:=aaq _ (by rw [←hl0];rfl);have sz1:(s.heap.push l0).objs.size=s.heap.objs.size+1:=acv _ _;have x1:SAt (s.heap.push l0) a es ep t:=x.at fun o e=>aad _ e
 show wpAny _ A.in1 (aet (.ref s.heap.objs.size) (.ref a) (.ref s.heap.objs.size)) _ _ _;unfold aet;refine aaa (adY (T:= "set") (SAt.ty (s:={s with heap:=s.heap.push l0}) x1) ?_)
 have n1:aeU (.ref s.heap.objs.size) (.ref a)=false:=by
   simp [aeU];exact Nat.ne_of_gt hlt
 have n2:(acC "set" ==acC "list")=false:=by decide
 have n3:(acC "set" ==acC "tuple")=false:=by decide
 simp only [n1,n2,n3,aeX,aaG,if_false];refine aaa (u0 (A:=A.in1) (s:={s with heap:=s.heap.push l0}) hh x1 T S hL fun I h' d fp os St hk hI hfp W st hp=>?_);have x2:SAt h' a es ep t:=x1.at fun o e=>hk _ _ e
 refine aaa (aa4 (jaV (SAt.ty (s:={s with heap:=h',drawn:=d}) x2) ?_));simp only [aaG,if_false];have hS2:h'.get? s.heap.objs.size=some {cls:= .type "list",dict:=none,data:= .seq #[] 0,slots:= #[]}:=by rw [hk _ _ hS1,←hl0]
 have hSf:s.heap.objs.size∉fp:=fun z=>by
   rcases hfp _ z with e|e
   · rw [e] at hlt;exact abE _ hlt
   · rw [sz1] at e;omega
 have key: ∀(h1:Heap) (c1:Nat),St 0 h1->(∀b o,b≠s.heap.objs.size->h'.get? b=some o->h1.get? b=some o)->h1.get? s.heap.objs.size=some {cls:= .type "list",dict:=none,data:= .seq #[] c1,slots:= #[]}->
     adL (model prog w) A (.builtin "list.extend.loop" ⟨[.ref s.heap.objs.size,.ref I,.ref s.heap.objs.size],[]⟩) (fun r s'=>match r with
       | .ok (.ret v)=>wpAny (model prog w) A (match v with
        | .ref a=>do
         let d←load a
         match d.data with
          | .seq xs epoch=>pure xs.toList
          |x=>unsupported "internal:collect"
        |x=>unsupported "internal:collect") R E s'
       | .ok a=>False
       | .error e=>E e s') {s with heap:=h1,drawn:=d}:=fun h1 c1 st1 hk1 g1=>by
   refine codeAny_extend_loopS W.toS hn s.heap.objs.size hSf _ es.size 0 _ #[] c1 rfl (aba _) st1 g1 (ItemsOf.nil _) fun s' acc c hm hS' hacc=>?_
   show wpAny _ A (load s.heap.objs.size>>=_) _ _ s';refine aaa (wpAny_load hS' ?_)
   have hos:acc.toList=os.map (·.2):=by
     have hl:os.length=es.size:=by rw [hp.length_eq,aas]
     apply ac0;intro i
     by_cases hi:i<es.size
     · have hia:i<acc.size:=by rw [hacc.1];exact hi
       obtain ⟨e,e1,e2⟩:=hacc.2 i acc[i] (aaj hia);rw [aar,aaj hia,aaO,e1,e2];rfl
     · rw [aaP (by rw [aas,hacc.1];omega),aaP (by rw [aak];omega)]
   refine aac ?_;show R acc.toList s';rw [hos,Moved.eq_with hm];refine h s'.heap s'.toks d os (fun b o e=>?_) hp;have hb:=aav e;refine hm.heap b o (fun z=>?_) (hk1 b o (aaC hb) (hk b o (aad _ e)));simp only [aam,aa2,or_false] at z;rcases z with z|z
   · rw [z] at hb;exact abE _ hb
   · rw [z] at hb;have:(s.heap.push l0).objs.size<=I:=hI;exact absurd hb (Nat.not_lt.mpr (aaI (by rw [sz1];exact acx _) this))
 refine wpAny_ite_split (fun _=>?_) (fun _=>aac ⟨aef PySem.F.plain_extend_loop _,key _ 0 st (fun b o _ e=>e) hS2⟩);refine aaa (aeg ?_);refine aaa ?_;show wpAny _ _ (updateSeq s.heap.objs.size (·.push .none)>>=fun _=>updateSeq s.heap.objs.size (·.pop)) _ _ _;refine aaa (wpAny_updateSeq hS2 rfl ?_);have g2:=abo (acn (·.push ab9)) hS2 rfl;refine wpAny_updateSeq (hz:=by seq_fits) g2 rfl ?_;have g3:=abo (acn (·.pop)) g2 rfl;refine aac ⟨aef PySem.F.plain_extend_loop _,key _ _ ?_ (fun b o hb e=>?_) g3⟩
 · refine W.frame 0 _ _ st fun b hb o e=>?_
   have hbS:b≠s.heap.objs.size:=fun z=>hSf (z▸hb)
   exact (abi _ _ (acD hbS)).trans ((abi _ _ (acD hbS)).trans e)
 · exact (abi _ _ (acD hb)).trans ((abi _ _ (acD hb)).trans e)
end
end Tab
end M
namespace M
open PySem PySem.Spec L2
open PyProof.Rows hiding St
theorem KL {α:Type} [DecidableEq α] (val:Nat->α): ∀i x,x∈Tab.fstT val i↔ ∃j,j<i/\val j=x
 |0,x=>by simp [Tab.fstT]
 |i+1,x=>by
  have ih:=KL val i
  have h1:x∈Tab.fstT val (i+1)↔x∈Tab.fstT val i\/x=val i:=by
    rw [Tab.fstT]
    by_cases h:val i∈Tab.fstT val i
    · rw [if_pos h];exact ⟨.inl,fun z=>z.elim id fun e=>e▸h⟩
    · rw [if_neg h];simp
  rw [h1,ih]
  constructor
  · rintro (⟨j,a,b⟩|rfl)
    · exact ⟨j,by omega,b⟩
    · exact ⟨i,by omega,rfl⟩
  · rintro ⟨j,a,rfl⟩
    by_cases e:j=i
    · subst e;exact .inr rfl
    · exact .inl ⟨j,by omega,rfl⟩
def KyV (H:Hp) (x:V) (k:List Key):Prop:= ∃b,x= .ref b/\H b=some (.tup (k.map kV))
section
variable {X:Cx}
theorem vk {pins:List (Addr×Obj)} {σ:L2.St} {H:Hp} {s:aaf} (I:Inv X pins σ H s): ∀ {ys:List V} {its:List Value} {ks:List (List Key)},Vals ys its->F2 (KyV H) ys ks-> ∀(i:Nat) v,its[i]?=some v-> ∃b,v= .ref b/\abO (qt X.prog X.w) s.heap (ks.getD i []) b
 |_,_,_,.nil,.nil,i,v,h=>by simp at h
 |_,_,_,.cons r rs,.cons x xs,0,v,h=>by
  obtain ⟨b,rfl,hb⟩:=x;simp at h;subst h;cases r;exact ⟨b,rfl,Kw I.hok hb⟩
 |_,_,_,.cons r rs,.cons x xs,i+1,v,h=>by
  simpa using vk I rs xs i v (by simpa using h)
variable {l1:Lv} {e1:Expr} {f1:T5} {p1 p3 q1 q3:Pos}
end
def tSOX (X:Cx) (i:Nat) (g:Sl->Res OutO):TS:=fun E σ H=> ∃G H0 env a,EnvOk X.K G H0 env σ H/\At σ i a/\((∃o,g env= .ok o/\jbw X.K G H0 i a env σ H E o)\/ ∃c,g env= .exc c/\Thr X c H)
@[irreducible] def DSOX (X:Cx) (i:Nat) (st:Stmt) (g:Sl->Res OutO):Prop:=PS X st (tSOX X i g)
@[irreducible] def YW (X:Cx) (i:Nat) (st:List Stmt) (g:Sl->Res OutO):Prop:=PSs X st (tSOX X i g)
theorem Thr.grow {X:Cx} {c:Str} {H H':Hp} (s:Same H H') (th:Thr X c H):Thr X c H':=⟨fun pins σ H1 s1 h e C vs sm=>th.a pins σ H1 s1 h e C vs (s.trans sm),fun σ H1 sm=>th.b σ H1 (s.trans sm)⟩
def Uj (g:Sl->Res OutO):Sl->Res OutO:=fun env=>nx1 (g env)
section
variable {X:Cx} {i:Nat} {c0:Expr} {st:Stmt} {rest body orelse:List Stmt} {pos:Pos} {g g1 g2:Sl->Res OutO} {c:Str}
def DSsO.x {sts:List Stmt} (h:DSsO X i sts g):YW X i sts (Uj g):=by
 with_unfolding_all exact (PSs.imp h fun E σ H=>by
  rintro ⟨G,H0,env,a,k,ha,q⟩;rcases q with ⟨o,e1,q⟩| ⟨c,e1,_⟩
  · exact ⟨G,H0,env,o,a,k,ha,kO e1,q⟩
  · exact (kP e1).elim)
def Ud (h1:DSOX X i st g1) (h2:DSsO X i rest g2):YW X i (st::rest) (seqJ g1 (Uj g2)):=by
 with_unfolding_all exact (PSs.imp (ZQ h1 h2) fun E σ H=>by
  rintro ⟨G,H0,env,a,k,ha,q⟩;rcases q with ⟨o,ef,q⟩| ⟨c,ef,th⟩
  · obtain ⟨o1,e1,e2⟩:=je ef;refine ⟨G,H0,env,a,k,ha,.inl ⟨o1,e1,?_⟩⟩
    cases o1 with
    |nx env1=>exact fun σ' H' k' a' f'=>⟨G,H0,env1,o,a,k',a',kO e2,ZT f' q⟩
    |rt b env1=>cases e2;exact q
  · rcases Vd ef with e1| ⟨o1,e1,e2⟩
    · exact ⟨G,H0,env,a,k,ha,.inr ⟨c,e1,th⟩⟩
    · cases o1 with
      |nx env1=>exact (kP e2).elim
      |rt b env1=>cases e2)
def v0 (h1:DSOX X i st g1):YW X i [st] g1:=by
 with_unfolding_all exact (PSs.imp (ZP h1) fun E σ H q=>q)
def ifJX (t:T4) (g1 g2:Sl->Res OutO):Sl->Res OutO:=fun env=>match t env with
 | .ok b=>if b=true then g1 env else g2 env
 |_=> .stuck
def jdj {t:T4} (hc:DT X c0 t) (h1:YW X i body g1) (h2:YW X i orelse g2):DSOX X i (.If c0 body orelse pos) (ifJX t g1 g2):=by
 with_unfolding_all exact (PS.imp (jen hc h1 h2) fun E σ H=>by
  rintro ⟨G,H0,env,a,k,ha,q⟩;have key: ∃b,t env= .ok b/\ifJX t g1 g2 env=if b=true then g1 env else g2 env:=by
   cases e1:t env with
   |ok b=>exact ⟨b,rfl,by unfold ifJX;rw [e1]⟩
   |_=>
     have z:ifJX t g1 g2 env= .stuck:=by unfold ifJX;rw [e1]
     rcases q with ⟨o,ef,_⟩| ⟨c,ef,_⟩<;>(rw [z] at ef;cases ef)
  obtain ⟨b,e1,e2⟩:=key;rw [e2] at q;refine ⟨G,H0,env,b,k,e1,fun H' s=>?_⟩
  cases b with
  |true=>
   rw [if_pos rfl] at q ⊢;rcases q with ⟨o,ef,q⟩| ⟨c,ef,th⟩
   · exact ⟨G,H0,env,a,k.grow s,ha,.inl ⟨o,ef,ZT (Frm.refl s) q⟩⟩
   · exact ⟨G,H0,env,a,k.grow s,ha,.inr ⟨c,ef,th.grow s⟩⟩
  |false=>
   rw [if_neg aaB] at q ⊢;rcases q with ⟨o,ef,q⟩| ⟨c,ef,th⟩
   · exact ⟨G,H0,env,a,k.grow s,ha,.inl ⟨o,ef,ZT (Frm.refl s) q⟩⟩
   · exact ⟨G,H0,env,a,k.grow s,ha,.inr ⟨c,ef,th.grow s⟩⟩)
def jbD (c:Str):Sl->Res OutO:=fun _=> .exc c
def Ue {C:Addr} {bm:List Value} {B newId initId:String} {e₀:Expr} {l:Lv} {np cpos:Pos} {f:T5} (hC:NmC X.K c C) (hm:X.mg c=some (.ref C)) (hq:adC X.K C bm newId=true) (FB:ExcBaseFacts B newId initId bm)
    (ha:DE X l e₀ f) (hok: ∀env,∃d,f env= .ok d) (hcalm:X.calm=true:=by rfl) (hg:Gl X c:=by rfl) (hdb:ZI c:=by decide)
    (he:aan [e₀] X.env=(false,eval e₀ X.env)::aan [] X.env:=by exact jk rfl):
    DSOX X i (.Raise (some (.Call (.Name c np) [e₀] [] cpos)) none pos) (jbD c):=by
 with_unfolding_all exact (fun pins s σ H E I ⟨G,H0,env,a,k,_,q⟩=>by
  rcases q with ⟨o,ef,_⟩| ⟨c',ef,th⟩
  · cases ef
  cases ef
  exact Vx hC hm hq FB ha hok hcalm hg hdb he I k th.a)
end
def spJX (K:aab) (n:Nat) (F:FO):Sp:=fun vs H Q E=> ∃(B:X7) (ds:List D) (us:List V) (a:Addr) (d0:D),vs=V.ref a::us/\us.length=n/\Reps K (fun c=>B c/\c≠a) H us ds/\Top K (fun c=>B c/\c≠a) H a d0/\
 ((∃r d1,F d0 ds= .ok (r,d1)/\ ∀v H',(∀c o,c≠a->H c=some o->H' c=some o)->Top K (fun c=>(H c=none\/B c)/\c≠a) H' a d1->Rep K (fun c=>(H c=none\/B c)/\c≠a) H' v r->Q v H')\/
  ∃c,F d0 ds= .exc c/\ ∀C H',NmC K c C->Same H H'->E (.ref C) none H')
def ZM (N n:Nat) (g:Sl->Res OutO):FO:=fun d0 ds=>if ds.length=n then (match g (wo N d0 ds) with
 | .ok (.nx env)=>(match J6 env with| .ok d=> .ok (.non,d)|_=> .stuck)
 | .ok (.rt r env)=>(match J6 env with| .ok d=> .ok (r,d)|_=> .stuck)
 | .exc c=> .exc c
 | .stuck=> .stuck) else .stuck
section
variable {P:aaH} {w:World} {K:aab} {mg:X8} {base:Heap}
def jc7 {m qual:Str} {st:Stmt} {f:Addr} {fd:ab4} {N ps:List Str} {k n:Nat} {g:Sl->Res OutO} (Fu:Fun K m qual st f fd) (S:FnScope N ps (jg st)) (hn:ps.length=n+1) (hN:n+1<=N.length)
   (hb: ∀(cdv:Value) (A:aa3) (outer:List Env) (s:aaf) (H:Hp) (E:XK),Room k (A.deeper (adX qual (jg st) s.heap.objs.size f cdv))->YW (cxOf (CX1 P w) P w K mg base N qual (jg st) f cdv A outer s H E) 0 (qA st) g):
   FnOk P w K mg base (CX1 P w) (k+1) f fd ps (spJX K n (ZM N.length n g)):=by
 with_unfolding_all exact (by
 obtain ⟨oc,od,kV,doc,pm,an,cdv,ct,osl,rfl,lk,hcd⟩:=Fu.ex;refine je9 lk hcd S (fun vs H Q E ⟨B,ds,us,a,d0,ev,hl,_⟩=>by rw [ev,aal,hl,hn]) fun A outer s H vs Q E hr h=>?_
 obtain ⟨B,ds,us,a,d0,ev,hl,rs,t,q⟩:=h;refine ⟨_,hb cdv A outer s H E hr,?_⟩;subst ev;have hlen:ds.length=n:=by rw [←rs.length];exact hl
 obtain ⟨kk,hat⟩:=Ub (N:=N) rs t (by omega)
 have ne:ZM N.length n g d0 ds=(match g (wo N.length d0 ds) with
   | .ok (.nx env)=>(match J6 env with| .ok d=> .ok (.non,d)|_=> .stuck)
   | .ok (.rt r env)=>(match J6 env with| .ok d=> .ok (r,d)|_=> .stuck)
   | .exc c=> .exc c
   | .stuck=> .stuck):=if_pos hlen
 rcases q with ⟨r,d1,eF,q⟩| ⟨c,eF,q⟩
 · have fin: ∀(env':Sl) (σ':L2.St) (H':Hp) (v:V),EnvOk K (fun c=>H c=none\/c=a\/B c) (fun c=>if c=a then none else H c) env' σ' H'->At σ' 0 a->J6 env'= .ok d1->Rep K (Sf (fun c=>H c=none\/c=a\/B c) env' σ') H' v r->Q v H':=fun env' σ' H' v k' a' e2 rv=>by
    have hi:=U1 e2;obtain ⟨a2,h1,_,t2⟩:=k'.own 0 _ hi;rw [a'] at h1;cases h1
    have ww: ∀c,Sf (fun c=>H c=none\/c=a\/B c) env' σ' c->(H c=none\/B c)/\c≠a:=fun c z=>by
     have hca:c≠a:=by
       rintro rfl;exact z.1 ⟨0,_,hi,a'⟩
     refine ⟨?_,hca⟩;rcases z.2 with z|z|z
     · exact .inl z
     · exact absurd z hca
     · exact .inr z
    exact q v H' (fun c o hc e=>k'.base c o (by rw [if_neg hc];exact e)) (t2.stay (fun _ _ e _=>e) ww fun _ e=>e) (rv.weak ww)
   rw [ne] at eF
   cases e1:g (wo N.length d0 ds) with
   |exc c=>rw [e1] at eF;cases eF
   |stuck=>rw [e1] at eF;cases eF
   |ok o=>
    rw [e1] at eF;refine ⟨_,_,_,a,kk,hat,.inl ⟨o,e1,?_⟩⟩
    cases o with
    |nx env'=>
     cases e2:J6 env' with
     |ok d=>simp only [e2] at eF;cases eF;exact fun σ' H' k' a' f'=>fin env' σ' H' .non k' a' e2 .non
     |exc c=>simp only [e2] at eF;cases eF
     |stuck=>simp only [e2] at eF;cases eF
    |rt r' env'=>
     cases e2:J6 env' with
     |ok d=>simp only [e2] at eF;cases eF;exact fun v σ' H' k' a' f' rv=>fin env' σ' H' v k' a' e2 rv
     |exc c=>simp only [e2] at eF;cases eF
     |stuck=>simp only [e2] at eF;cases eF
 · rw [ne] at eF
   have e1:g (wo N.length d0 ds)= .exc c:=by
    cases e1:g (wo N.length d0 ds) with
    |exc c'=>rw [e1] at eF;cases eF;rfl
    |stuck=>rw [e1] at eF;cases eF
    |ok o=>
     rw [e1] at eF
     cases o with
     |nx env'=>cases e2:J6 env'<;>(simp only [e2] at eF;cases eF)
     |rt r' env'=>cases e2:J6 env'<;>(simp only [e2] at eF;cases eF)
   refine ⟨_,_,_,a,kk,hat,.inr ⟨c,e1,fun pins σ H1 s1 h e C vs sm hC I hx=>VQ I hx (q C H1 hC sm),fun σ H1 sm pins H2 s1 e s' sm2 I cx=>jaK I cx fun C H' z=>?_⟩⟩;obtain ⟨C',e',hC,s3⟩:=z;cases e'
   exact q C H' hC (sm.trans (sm2.trans s3)))
end
structure AvKX (P:aaH) (w:World) (K:aab) (mg:X8) (base:Heap) (k:Nat) (c:Str) (n:Nat) (F:FO):Prop where
 ex: ∃C f fd ps,FnOk P w K mg base (CX1 P w) k f fd ps (spJX K n F)/\aaz K aaw c=some (some (.ref C))/\mg c=some (.ref C)/\Mk K C f/\Binds K fd ps []
def Je (c:Str) (n:Nat) (F:FO) (g:T0):Sl->Res D:=fun env=>match g env with
 | .ok ds=>if ds.length=n then (match F (.obj c [] []) ds with
  | .ok (.non,d)=> .ok d
  | .exc c=> .exc c
  |_=> .stuck) else .stuck
 |_=> .stuck
section
variable {X:Cx} {k n:Nat} {c:Str} {F:FO} {e:Expr} {es:List Expr} {pos p:Pos} {g:T0}
def ke {CX:CXT} {C f:Addr} {fd:ab4} {ps:List Str} {sp:Sp} {pins:List (Addr×Obj)} {σ:L2.St} {H:Hp} {s:aaf} {Q:VK} {us:List Value} {vs:List V} (M:Mk X.K C f) (F:FnOk X.prog X.w X.K X.mg X.base CX k f fd ps sp) (hr:Room (k+1) X.A) (hb:Binds X.K fd ps [])
  (I:Inv X pins σ H s) (r:Vals vs us)
  (h: ∀x dx,H x=none->H dx=none->dx≠x-> ∃E,sp (.ref x::vs) (upd (upd H dx (.own x)) x (.ins C dx [])) (fun v H2=>v= .non/\Q (.ref x) H2) E/\ ∀s2 e s',Inv X pins σ (upd (upd H dx (.own x)) x (.ins C dx [])) s2->CX X.stack (upd (upd H dx (.own x)) x (.ins C dx [])) s2 E e s'->X.xe e s'):
  wpAny (model X.prog X.w) X.A (call (.ref C) us) (EP X pins σ Q) X.xe s:=by
 obtain ⟨E,hq,hx⟩:=h (s.heap.objs.size+1) s.heap.objs.size (I.hok.fresh (acx _)) (I.hok.fresh (aai _)) (aaC (ab1 _));have I2:=Inv.made (C:=C) I;have r2:Vals (V.ref (s.heap.objs.size+1)::vs) (aaJ (s.heap.objs.size+1)::us):= .cons rfl r
 have hl:(aaJ (s.heap.objs.size+1)::us++[]).length=ps.length:=by
  have e:=r2.length;rw [F.len _ _ _ _ hq] at e;rw [abJ];exact e.symm
 have hb':=hb _ (aaJ (s.heap.objs.size+1)::us) I2.kIn hl;rw [abJ] at hb'
 refine wpAny_call (jaG (f:=f) I.kIn M.makes M.init (beq_iff_eq.mp M.fn) (adW (F.run _ X.stack _ _ ⟨aaJ (s.heap.objs.size+1)::us,[]⟩ (aaJ (s.heap.objs.size+1)::us) _ _ E (hr.make C us [])
  (I2.env0.make C us []) hb' r2 hq) fun r s' hq'=>?_))
 cases r with
 |error e=>exact hx _ e s' I2 hq'
 |ok fl=>
  cases fl with
  |ret u=>
   obtain ⟨v,H',I3,rv,ev,q3⟩:=I2.after hq';subst ev;exact ⟨rv,⟨V.ref (s.heap.objs.size+1),H',I3,rfl,q3⟩⟩
  |next=>exact acb hq'
  |brk=>exact acb hq'
  |cont=>exact acb hq'
def AvKX.make (A:AvKX X.prog X.w X.K X.mg X.base k c n F) (hr:Room (k+1) X.A) (ha:DA X .s (e::es) g) (hg:Gl X c:=by rfl) (hdb:ZI c:=by decide)
   (he:WS X e es:=by exact jk rfl) (hpl:Vv X pos es:=by exact jS rfl):
   DEX X .t (.Call (.Name c p) (e::es) [] pos) (Je c n F g):=by
 obtain ⟨C,f,fd,ps,h1,h2,h3,h4,h5⟩:=A.ex
 with_unfolding_all exact (by
 rintro pins s σ H Q I ⟨G,H0,env,k,q⟩
 have ns:Je c n F g env≠ .stuck:=by
   intro z;rcases q with ⟨o,ef,_⟩| ⟨c,ef,_⟩<;>(rw [z] at ef;cases ef)
 have key: ∃ds,g env= .ok ds/\ds.length=n/\Je c n F g env=(match F (.obj c [] []) ds with
   | .ok (.non,d)=> .ok d
   | .exc c=> .exc c
   |_=> .stuck):=by
   cases e1:g env with
   |ok ds=>
     by_cases hl:ds.length=n
     · exact ⟨ds,rfl,hl,by unfold Je;rw [e1];exact if_pos hl⟩
     · exact absurd (by unfold Je;rw [e1];exact if_neg hl) ns
   |_=>exact absurd (by unfold Je;rw [e1]) ns
 obtain ⟨ds,e1,hl,e2⟩:=key;rw [e2] at q;refine ady (QI I hg h3 ?_ hdb);refine PySem.W.callWith_K (h₀:=X.base) I.ok.mod.kin h4.kp (thn ((show PA X (e::es) (tA X.K .s g) from ha) pos pins s σ H (fun vs H1=>Same H H1/\Reps X.K (Sf G env σ) H1 vs ds) I ⟨G,H0,env,ds,k,e1,fun vs H' s' r'=>⟨s',r'⟩⟩) fun us s1 ⟨vs,H1,I1,r,s1',r1⟩=>⟨I1.kIn,?_⟩) he hpl;refine ke h4 h1 hr h5 I1 r fun x dx hx hdx ne=>?_
 have S:Same H1 (upd (upd H1 dx (.own x)) x (.ins C dx [])):=fun b o eb=>by
   rw [jx (jT eb hx),jx (jT eb hdx)];exact eb
 have kx:=k.new x (Same.free s1' hx);have rr:=r1.inDom.grow S
 have base: ∀Rest,Rest->(vs.length=n/\Reps X.K (fun b=>Sf G env σ b/\b≠x) (upd (upd H1 dx (.own x)) x (.ins C dx [])) vs ds/\Top X.K (fun b=>Sf G env σ b/\b≠x) (upd (upd H1 dx (.own x)) x (.ins C dx [])) x (.obj c [] [])/\Rest):=fun Rest hR=>
   ⟨by rw [r1.length];exact hl,rr.weak fun b z=>⟨z.1,by rintro rfl;exact z.2 hx⟩,.obj jo ⟨h2,rfl⟩ rfl .nil,hR⟩
 rcases q with ⟨d,ef,q⟩| ⟨c',ef,th⟩
 · have eF:F (.obj c [] []) ds= .ok (.non,d):=by
     cases e3:F (.obj c [] []) ds with
     |ok p=>
       obtain ⟨r0,d1⟩:=p;rw [e3] at ef;cases r0<;>first| (cases ef;rfl)|cases ef
     |exc c=>rw [e3] at ef;cases ef
     |stuck=>rw [e3] at ef;cases ef
   refine ⟨fun _ _ _=>False,⟨Sf G env σ,ds,vs,x,.obj c [] [],rfl,base _ (.inl ⟨.non,d,eF,fun v H' hs t rv=>⟨rv.nonE,?_⟩⟩)⟩,fun s2 e s' _ cx=>?_⟩
   · have sH:Same H H':=fun b o eb=>hs b o (jT (s1' b o eb) hx) (S b o (s1' b o eb))
     refine q _ H' sH (t.rep (fun b z=>⟨z.1.elim (fun z=>k.new b (Same.free s1' (Same.free S z))) fun z=>z,z.2⟩) kx) fun b eb o qb m=>?_
     cases eb;rw [s1' _ _ qb] at hx;cases hx
   · obtain ⟨_,_,_,_,_,_,_,_,_,_,_,_,_,z⟩:=cx;exact z.elim
 · have eF:F (.obj c [] []) ds= .exc c':=by
     cases e3:F (.obj c [] []) ds with
     |ok p=>
       obtain ⟨r0,d1⟩:=p;rw [e3] at ef;cases r0<;>cases ef
     |exc c=>rw [e3] at ef;cases ef;rfl
     |stuck=>rw [e3] at ef;cases ef
   refine ⟨XE X.K c' (upd (upd H1 dx (.own x)) x (.ins C dx [])),⟨Sf G env σ,ds,vs,x,.obj c [] [],rfl,base _ (.inr ⟨c',eF,fun C2 H' hC s'=>⟨C2,rfl,hC,s'⟩⟩)⟩,fun s2 e s' I2 cx=>th pins _ s2 e s' (s1'.trans S) I2 cx⟩)
end
def repL:D->D->Res D
 | .lst ds,.int k=>must (-(2^63)<=k/\k<2^63/\ds.length*k.toNat<=aah) (.ok (.lst (aaE k.toNat ds).flatten))
 |_,_=> .stuck
def Kp {K:aab}:OpD K rRep repL:=by
 intro A x y H a b d Q ra rb e q;unfold repL at e
 split at e
 · obtain ⟨⟨h2,h3,h5⟩,e2⟩:=jr e;cases e2;cases rb.intE;obtain ⟨l,xs,rfl,hl,_,rx⟩:=ra.lstE;refine ⟨l,_,xs,rfl,rfl,hl,h2,h3,by rw [rx.length];exact h5,fun p hp=>q _ _ (Same.upd hp) ?_ (j9 (Same.refl H) hp)⟩;exact .lst jo (.inl hp) (((rx.low.rep _).laid hp).weak fun c z=>⟨.inr z.1,z.2⟩)
 · cases e
def ddH (hs:List Hd):List Hd:=Tab.fstT (fun i=>hs.getD i ("",0)) hs.length
def vI {a b:Hd} (h:hdK a=hdK b):a=b:=by
 simp only [hdK,List.cons.injEq,Sum.inr.injEq,Sum.inl.injEq,and_true] at h;exact Prod.ext h.1 h.2
theorem KM {α β:Type} [DecidableEq α] [DecidableEq β] (f:α->β) (hf: ∀a b,f a=f b->a=b) (v:Nat->α) (u:Nat->β): ∀n,(∀i,i<n->u i=f (v i))->Tab.fstT u n=(Tab.fstT v n).map f
 |0,_=>rfl
 |n+1,h=>by
  have ih:=KM f hf v u n fun i hi=>h i (by omega)
  simp only [Tab.fstT];rw [ih,h n (ab1 n)]
  by_cases c:v n∈Tab.fstT v n
  · rw [if_pos c,if_pos (aaD.mpr ⟨_,c,rfl⟩)]
  · rw [if_neg c,if_neg (fun z=>by
     obtain ⟨a,ha,e⟩:=aaD.mp z;rw [hf _ _ e] at ha
     exact c ha),abM];rfl
def uk (hs:List Hd):Tab.fstT (fun i=>(hs.map hdK).getD i []) hs.length=(ddH hs).map hdK:=
 KM hdK (fun _ _=>vI) _ _ hs.length fun i hi=>by
  rw [abC,aaO,aae hi,abC,aae hi];rfl
theorem Zw {α:Type} [DecidableEq α] (v:Nat->α): ∀n,(Tab.fstT v n).Nodup
 |0=>acP
 |n+1=>by
  have ih:=Zw v n;unfold Tab.fstT
  split
  · exact ih
  · rename_i c
    exact adS.mpr ⟨ih,by simp,fun x hx y hy e=>by
     rw [acT] at hy;subst hy;subst e;exact c hx⟩
def ddH_mem {hs:List Hd} {a:Hd}:a∈ddH hs↔a∈hs:=by
 unfold ddH;rw [KL]
 constructor
 · rintro ⟨j,hj,rfl⟩;rw [abC,aae hj];exact abk hj
 · intro h;obtain ⟨j,hj⟩:=abp.mp h;obtain ⟨h1,h2⟩:=aap.mp hj;exact ⟨j,h1,by rw [abC,hj];rfl⟩
def uj (hs:List Hd):(ddH hs).Nodup:=Zw _ _
theorem Xw {α:Type} [DecidableEq α] (v:Nat->α) {m:Nat}: ∀ {n:Nat},m<=n->(Tab.fstT v m).length<=(Tab.fstT v n).length
 |0,h=>by cases Nat.le_zero.mp h;exact aai _
 |n+1,h=>by
  rcases Nat.lt_or_ge m (n+1) with z|z
  · have ih:=Xw v (m:=m) (n:=n) (by omega);rw [Tab.fstT]
    split
    · exact ih
    · rw [aau];omega
  · have:m=n+1:=by omega
    subst this;exact aai _
def SetO (P:aaH) (w:World) (H:Hp) (o:Obj) (hs:List Hd):Prop:=o.ExactSet/\ ∃(es:Array (Int×Value)) (ep:Nat) (t:aa9) (m:Nat) (kp:List (Hd×Addr)) (L:Bool),o.data= .set es ep t/\Tab.Tb L m t es/\Tab.Sz m es.size/\L=(!w.params.followText "set-order")/\
 es.toList.map (·.2)=kp.map (fun p=>aaJ p.2)/\(∀p∈kp,H p.2=some (.tup [.str p.1.1,.int p.1.2]))/\(kp.map (·.1)).Perm hs/\hs.Nodup
section
variable {X:Cx}
theorem je5 {H:Hp}: ∀ {us:List V} {hs:List Hd},F2 (HdV H) us hs->F2 (KyV H) us (hs.map hdK)
 |_,_,.nil=> .nil
 |_,_,.cons ⟨b,e,hb⟩ t=> .cons ⟨b,e,hb⟩ (je5 t)
def jcQ {H:Hp} {h:Heap} {ok:Prop}: ∀ {kp:List (List Key×Addr)} {hs:List Hd},(kp.map (·.1)).Perm (hs.map hdK)-> ∃kq:List (Hd×Addr),kp=kq.map (fun p=>(hdK p.1,p.2))/\(kq.map (·.1)).Perm hs:=fun {kp hs} pm=>by
 have: ∀kp:List (List Key×Addr),(∀p∈kp,∃a:Hd,p.1=hdK a)-> ∃kq:List (Hd×Addr),kp=kq.map (fun p=>(hdK p.1,p.2)):=by
  intro kp
  induction kp with
  |nil=>intro _;exact ⟨[],rfl⟩
  |cons p kp ih=>
   intro hp;obtain ⟨a,ha⟩:=hp p aax;obtain ⟨kq,e⟩:=ih fun q hq=>hp q (aao _ hq)
   exact ⟨(a,p.2)::kq,by rw [aaN,←e,←ha]⟩
 obtain ⟨kq,rfl⟩:=this kp fun p hp=>by
  have:=pm.mem_iff.mp (aaD.mpr ⟨p,hp,rfl⟩);obtain ⟨a,_,e⟩:=aaD.mp this;exact ⟨a,e.symm⟩
 refine ⟨kq,rfl,?_⟩;rw [acs] at pm;have pm':((kq.map (·.1)).map hdK).Perm (hs.map hdK):=by rw [acs];exact pm
 obtain ⟨k2,e1,e2⟩:=Tab.perm_map pm' hs rfl
 have:kq.map (·.1)=k2:=by
  have inj: ∀ {l m:List Hd},l.map hdK=m.map hdK->l=m:=by
   intro l
   induction l with
   |nil=>intro m e;cases m with
    |nil=>rfl
    |cons _ _=>cases e
   |cons a l ih=>intro m e;cases m with
    |nil=>cases e
    |cons b m=>
     simp only [aaN,List.cons.injEq] at e;rw [vI e.1,ih e.2]
  exact inj e1
 rw [this];exact e2
def uz (hc:X.calm=true) (hu:X.A.units+200<cLine):CallR X (.type "set") (fun xs H Q=> ∃p us hs,xs=[.ref p]/\SqL X.K H p us/\F2 (HdV H) us hs/\(ddH hs).length<64/\ ∀l o,H l=none->SetO X.prog X.w H o (ddH hs)->Q (.ref l) (upd H l (.frz o (.own l)))):=by
 rintro pins s σ H xs us Q I r ⟨p,vs,hs,ex,hq,hk,hz,q⟩;subst ex;obtain ⟨u,rfl,ru⟩:=J5 r;cases ru;obtain ⟨its,rv,pl,_⟩:=I.list hq;have hky:=je5 hk;have hlen:its.toArray.size=hs.length:=by rw [aag,←rv.length,hk.length]
 have hin: ∀b,aaJ b∈its-> ∃a:Hd,H b=some (.tup [.str a.1,.int a.2]):=by
   have: ∀ {ys:List V} {its:List Value} {hs:List Hd},Vals ys its->F2 (HdV H) ys hs-> ∀b,aaJ b∈its-> ∃a:Hd,H b=some (.tup [.str a.1,.int a.2]):=by
    intro ys
    induction ys with
    |nil=>intro its hs rv hk b hb;cases rv;cases hb
    |cons y ys ih=>
     intro its hs rv hk b hb
     cases rv with
     |cons r0 rs=>
      cases hk with
      |cons x0 xs=>
       rcases aam.mp hb with e|e
       · obtain ⟨c,rfl,hc⟩:=x0;cases r0;cases e;exact ⟨_,hc⟩
       · exact ih rs xs b e
   exact this rv hk
 refine Tab.call_setT (by omega) (I.ok.hd hc) pl.isList (fun i v h=>vk I rv hky i v (by simpa using h)) (fun i hi=>?_) fun h' tk hS hkp=>?_
 · have e:=uk hs;have h1:=Xw (fun i=>(hs.map hdK).getD i []) (m:=i) (n:=hs.length) (by omega);rw [e,aak] at h1;omega
 have hl:=I.hok.fresh (aai _);rw [hlen,uk] at hS;obtain ⟨o,es,ep,t,m,kp,L,ho,hex,hd,T,S,he,hkk,pm,nd,ld⟩:=hS;obtain ⟨kq,rfl,pm2⟩:=jcQ (H:=H) (h:=h') (ok:=True) pm;refine ⟨.ref s.heap.objs.size,_,I.laid (fun b o e=>hkp b o (aav e) e) (aai _) (show ObjOk X.prog X.w _ h' _ (.frz o (.own _)) from ⟨ho,o,ho⟩),rfl,q _ o hl ⟨hex,es,ep,t,m,kq,L,hd,T,S,ld,?_,fun p hp=>?_,pm2,uj hs⟩⟩
 · rw [he,acs,acs];rfl
 · obtain ⟨k1,k2,k3⟩:=hkk (hdK p.1,p.2) (aaD.mpr ⟨p,hp,rfl⟩);obtain ⟨a,ha⟩:=hin p.2 (by simpa using k3);have k0:=Kw (P:=X.prog) (w:=X.w) (ks:=hdK a) I.hok ha;have k4:abO (qt X.prog X.w) h' (hdK a) p.2:=Tab.key_same k0 fun o e=>hkp _ o k2 e
   rw [←vI (IsTupleKey.inj k4 k1)];exact ha
def WZ {hs hs':List Hd} (nd:hs.Nodup) (p:hs'.Perm hs):qJ hs'=qJ hs:=
 Qk (Qc (p.nodup_iff.mpr nd)) (Qc nd) ((qD hs').trans (p.trans (qD hs).symm))
theorem vN {H:Hp}: ∀ {kp:List (Hd×Addr)},(∀p∈kp,H p.2=some (.tup [.str p.1.1,.int p.1.2]))->F2 (HdV H) (kp.map fun p=>V.ref p.2) (kp.map (·.1))
 | [],_=> .nil
 |p::kp,h=> .cons ⟨p.2,rfl,h p aax⟩ (vN fun q hq=>h q (aao _ hq))
def XI (hc:X.calm=true):CallR X (.builtin "sorted") (fun xs H Q=> ∃a b o hs,xs=[.ref a]/\H a=some (.frz o (.own b))/\SetO X.prog X.w H o hs/\hs.length<64/\ ∀l us,H l=none->F2 (HdV H) us (qJ hs)->Q (.ref l) (upd H l (.lst us))):=by
 rintro pins s σ H xs us Q I r ⟨a,b,o,hs,ex,ha,⟨hex,es,ep,t,m,kp,L,hd,T,S,ld,hv,hk,pm,nd⟩,h64,q⟩;subst ex;obtain ⟨u,rfl,ru⟩:=J5 r;cases ru;obtain ⟨ho,_⟩:=(show ObjOk X.prog X.w H s.heap a (.frz o (.own b)) from I.hok a _ ha)
 refine Calls.call_function_entry kind_sorted plain_sorted entry_sorted (args_sorted1 _) ?_;unfold ab3.«sorted»;refine aaa (aac (aaa (Tab.set_collect (show X.A.in1.handled=none from I.ok.hd hc) ⟨o,ho,hex,hd⟩ T S ld fun h' tk d os hkp hp=>?_)));have pv:(os.map (·.2)).Perm (kp.map fun p=>aaJ p.2):=by rw [←hv];exact hp.map _
 obtain ⟨kq,e1,e2⟩:=Tab.perm_map pv kp rfl;rw [e1];have hkq: ∀p∈kq,H p.2=some (.tup [.str p.1.1,.int p.1.2]):=fun p hp'=>hk p (e2.mem_iff.mp hp')
 have hF:=vN hkq
 have hV:Vals (kq.map fun p=>V.ref p.2) (kq.map fun p=>aaJ p.2):=by
  have:=Qt (kq.map fun p=>p.2);simpa [acs,aeO] using this
 obtain ⟨hA,hR⟩:=jc1 I hV hF;have pq:(kq.map (·.1)).Perm hs:=(e2.map _).trans pm;have ndq:(kq.map (·.1)).Nodup:=pq.nodup_iff.mpr nd;have hlq:kq.length=hs.length:=by have:=pq.length_eq;rwa [aak] at this
 refine Ql (t:={s with heap:=h',toks:=tk,drawn:=d}) (hA.keep fun b o e _=>hkp b o e) ndq (by rw [aak];omega) fun us h2 c hRR k e=>?_
 obtain ⟨zs,v1,v2⟩:=uJ (hRR _ hR);rw [WZ nd pq] at v2;have I0:Inv X pins σ H {s with heap:=h',toks:=tk}:=I.kept hkp;have I1:Inv X pins σ H {s with heap:=h',toks:=tk,drawn:=d}:=⟨I0.ok,I0.os,I0.bare,I0.base,I0.loc,I0.cell,I0.free,I0.freeC,I0.pin,I0.hok,I0.len⟩
 have hl2:zs.length<=aah:=by
  have a1:=v2.length;have a2:=(qD hs).length_eq;rw [abR];omega
 exact ⟨.ref _,_,I1.laid k (aai _) (show ObjOk X.prog X.w _ h2 _ (.lst zs) from ⟨hl2,us,c,v1,e⟩),rfl,q _ zs (I1.hok.fresh (aai _)) v2⟩
def ZF:D->Res D
 | .lst ds=>match Wg ds with
  |some hs=>must ((ddH hs).length<64) (.ok (.lst ((qJ (ddH hs)).map hdD)))
  |none=> .stuck
 |_=> .stuck
def X4 {a d:D} (h:ZF a= .ok d): ∃ds hs,a= .lst ds/\Wg ds=some hs/\(ddH hs).length<64/\d= .lst ((qJ (ddH hs)).map hdD):=by
 unfold ZF at h
 split at h
 · rename_i ds
   split at h
   · rename_i hs e;obtain ⟨h1,h2⟩:=jr h;cases h2;exact ⟨ds,hs,rfl,e,h1,rfl⟩
   · cases h
 · cases h
def J1 (f:T5):Sl->Res D:=fun env=>f env>>=ZF
variable {l1:Lv} {e1:Expr} {f1:T5} {p1 p3 q1 q3:Pos}
def SetO.grow {P:aaH} {w:World} {H H':Hp} {o:Obj} {hs:List Hd} (x:SetO P w H o hs) (s:Same H H'):SetO P w H' o hs:=by
 obtain ⟨hex,es,ep,t,m,kp,L,hd,T,S,ld,hv,hk,r⟩:=x;exact ⟨hex,es,ep,t,m,kp,L,hd,T,S,ld,hv,fun p hp=>s _ _ (hk p hp),r⟩
def Zz (hc:X.calm=true) (hu:X.A.units+200<cLine) (h1:DE X l1 e1 f1) (hgl:Gl X "sorted") (hml:X.mg "sorted" =none) (hgs:Gl X "set") (hms:X.mg "set" =none)
   (he0:aan [.Call (.Name "set" p1) [e1] [] q1] X.env=(false,eval (.Call (.Name "set" p1) [e1] [] q1) X.env)::aan [] X.env:=by exact jk rfl)
   (he1:aan [e1] X.env=(false,eval e1 X.env)::aan [] X.env:=by exact jk rfl):
   DE X .t (.Call (.Name "sorted" p3) [.Call (.Name "set" p1) [e1] [] q1] [] q3) (J1 f1):=by
 with_unfolding_all exact (
  PE.imp (wt (XI hc) hgl hml rfl (qg (y6 (uz hc hu) hgs hms rfl (qg h1 wu he1) (by decide) (by decide) he1 rfl) wu he0) (by decide) (by decide) he0 rfl) fun σ H Q=>by
   rintro ⟨G,H0,env,d,k,ef,q⟩;obtain ⟨a,c1,ef⟩:=je ef;obtain ⟨ds,hs,rfl,e1,e2,rfl⟩:=X4 ef;refine ⟨G,H0,env,_,k,c1,fun x1 H1 s1 r1 _=>?_⟩;obtain ⟨p,xs,rfl,hp,_,rs⟩:=(r1.weak Lv.weak_b).lstE;obtain ⟨f1,f2⟩:=je4 rs e1;refine ⟨p,xs,hs,rfl,.inl (.inl hp),f1,e2,fun l o hl hO=>?_⟩;refine ⟨l,l,o,_,rfl,jo,hO.grow (Same.upd hl),e2,fun l2 us hl2 hu2=>?_⟩;have sm:Same H (upd (upd H1 l (.frz o (.own l))) l2 (.lst us)):=(s1.trans (Same.upd hl)).trans (Same.upd hl2)
   have hn2:H l2=none:=by
    cases z:H l2 with
    |none=>rfl
    |some o2=>
     have:=(s1.trans (Same.upd (o:= .frz o (.own l)) hl)) _ _ z;rw [hl2] at this;cases this
   refine q _ _ sm (.lst jo (k.new l2 hn2) ?_) (j9 (Same.refl H) hn2);have:=(YD (K:=X.K) (A:=fun _=>False) hu2 fun a ha=>f2 a (ddH_mem.mp ((qD _).mem_iff.mp ha))).grow (Same.upd (o:= .lst us) hl2)
   exact this.weak fun c z=>z.elim)
end
section
variable {P:aaH} {w:World} {K:aab} {mg:X8} {base:Heap}
def jdF {c q:Str} {st:Stmt} {C:Addr} {N ps:List Str} {k n:Nat} {g:Sl->Res OutO} (d:Dm K C "__init__" q st ps) (hC:aaz K aaw c=some (some (.ref C))/\Cls K C) (hmg:mg c=some (.ref C)) (mk:adx K C=true/\abg K (.ref C)=true) (S:FnScope N ps (jg st)) (hn:ps.length=n+1) (hN:n+1<=N.length)
  (hb: ∀(f:Addr) (cdv:Value) (A:aa3) (outer:List Env) (s:aaf) (H:Hp) (E:XK),Room k (A.deeper (adX q (jg st) s.heap.objs.size f cdv))->YW (cxOf (CX1 P w) P w K mg base N q (jg st) f cdv A outer s H E) 0 (qA st) g):
  AvKX P w K mg base (k+1) c n (ZM N.length n g):=by
 obtain ⟨f,fd,F,m,B⟩:=d;exact ⟨C,f,fd,ps,jc7 F S hn hN (hb f),hC.1,hmg,⟨mk.1,m.at_,m.fn,mk.2⟩,B⟩
end
mutual
def noS:D->Bool
 | .scr _=>false
 | .tup ds=>noSs ds
 | .lst ds=>noSs ds
 | .dic _ ds=>noSs ds
 | .dit _ ds=>noSs ds
 | .fdc _ ds=>noSs ds
 | .hdc _ ds=>noSs ds
 | .obj _ _ ds=>noSs ds
 |_=>true
def noSs:List D->Bool
 | []=>true
 |d::r=>noS d&&noSs r
end
section
variable {K:aab} {o:Obj} {ys:List V} {p:Addr}
def Reps.thaw {A:X7} {H:Hp} {vs:List V} {ds:List D} (r:Reps K A H vs ds):H p=some (.frz o (.lst ys))->noSs ds=true->Reps K (fun c=>A c/\c≠p) (upd H p (.lst ys)) vs ds:=by
 have sw: ∀ {A:X7} {a:Addr} {H:Hp} {vs:List V} {ds:List D},Reps K (fun c=>(A c/\c≠a)/\c≠p) H vs ds->Reps K (fun c=>(A c/\c≠p)/\c≠a) H vs ds:=fun r=>r.weak fun _ z=>⟨⟨z.1.1,z.2⟩,z.1.2⟩
 have ne: ∀ {a:Addr} {H:Hp} {u:HO},H p=some (.frz o (.lst ys))->H a=some u->(∀o',u≠ .frz o' (.lst ys))->a≠p:=fun h1 h2 h3 z=>by
   subst z;rw [h1] at h2;cases h2;exact h3 _ rfl
 have at_: ∀ {a:Addr} {H:Hp} {u:HO},H a=some u->a≠p->upd H p (.lst ys) a=some u:=fun e n=>by rw [jx n];exact e
 refine Reps.rec (motive_1:=fun A H v d _=>H p=some (.frz o (.lst ys))->noS d=true->Rep K (fun c=>A c/\c≠p) (upd H p (.lst ys)) v d) (motive_2:=fun A H vs ds _=>H p=some (.frz o (.lst ys))->noSs ds=true->Reps K (fun c=>A c/\c≠p) (upd H p (.lst ys)) vs ds)
   ?_ ?_ ?_ ?_ ?_ ?_ ?_ ?_ ?_ ?_ ?_ ?_ ?_ ?_ ?_ ?_ r
 · exact fun _ _=> .non
 · exact fun b _ _=> .bl b
 · exact fun i _ _=> .int i
 · exact fun x h _ _=> .str x h
 · exact fun e _ ih hp n=> .tup (at_ e (ne hp e fun _ z=>by cases z)) (ih hp (by simpa only [noS] using n))
 · exact fun e ha _ ih hp n=>have h:=ne hp e fun _ z=>by cases z
     .lst (at_ e h) ⟨ha,h⟩ (sw (ih hp (by simpa only [noS] using n)))
 · exact fun _ _ _ _ n=>by simp only [noS] at n;cases n
 · exact fun e ha k1 k2 _ ih hp n=>have h:=ne hp e fun _ z=>by cases z
     .dic (at_ e h) ⟨ha,h⟩ k1 k2 (sw (ih hp (by simpa only [noS] using n)))
 · exact fun e ha k1 k2 _ ih hp n=>have h:=ne hp e fun _ z=>by cases z
     .dit (at_ e h) ⟨ha,h⟩ k1 k2 (sw (ih hp (by simpa only [noS] using n)))
 · exact fun e k l hp _=> .exn (at_ e (ne hp e fun _ z=>by cases z)) k l
 · intro A H a kvs vs ks ds e k1 k2 _ ih hp n;refine .fdc ?_ k1 k2 (sw (ih hp (by simpa only [noS] using n)));rcases e with ⟨e,ha⟩| ⟨o',e⟩
   · have h:=ne hp e fun _ z=>by cases z
     exact .inl ⟨at_ e h,ha,h⟩
   · exact .inr ⟨o',at_ e (ne hp e fun _ z=>by cases z)⟩
 · intro A H a kvs vs ks ds e k1 k2 _ ih hp n;obtain ⟨o',e⟩:=e;exact .hdc ⟨o',at_ e (ne hp e fun _ z=>by cases z)⟩ k1 k2 (sw (ih hp (by simpa only [noS] using n)))
 · exact fun e ha k1 k2 _ ih hp n=>have h:=ne hp e fun _ z=>by cases z
     .obj (at_ e h) ⟨ha,h⟩ k1 k2 (sw (ih hp (by simpa only [noS] using n)))
 · exact fun e ha hp _=>have h:=ne hp e fun _ z=>by cases z
     .mem (at_ e h) ⟨ha,h⟩
 · exact fun _ _=> .nil
 · intro A H v d vs ds _ _ i1 i2 hp n;simp only [noSs,aat] at n;exact .cons (i1 hp n.1) (i2 hp n.2)
def Rep.thaw {A:X7} {H:Hp} {v:V} {d:D} (r:Rep K A H v d) (h:H p=some (.frz o (.lst ys))) (n:noS d=true):Rep K (fun c=>A c/\c≠p) (upd H p (.lst ys)) v d:=by
 cases Reps.thaw (.cons r .nil) h (by simp only [noSs,n,acN]);assumption
end
section
variable {K:aab} {G:X7} {H0 H:Hp} {env:Sl} {σ:L2.St} {i:Nat} {a:Addr} {xs:List V} {ds:List D} {o:Obj}
def EnvOk.lendL (k:EnvOk K G H0 env σ H) (hi:env[i]?=some (.own (.lst ds))) (ha:σ[i]?=some (some (.ref a))) (hx:H a=some (.lst xs)) (h0:H0 a=none) (rs:Reps K (Sf G env σ) H xs ds):EnvOk K G H0 (env.set i (.shr (.scr ds))) σ (upd H a (.frz o (.lst xs))):=by
 have own: ∀ {c:Addr},jY (env.set i (.shr (.scr ds))) σ c->jY env σ c:=fun ⟨j,d,h1,h2⟩=>by
   by_cases e:i=j
   · subst e;rw [aaX (by exact (aap.mp hi).1)] at h1;cases h1
   · rw [abj e] at h1;exact ⟨j,d,h1,h2⟩
 have oa:jY env σ a:=⟨i,_,hi,ha⟩
 have st:Stay (Sf G env σ) H (upd H a (.frz o (.lst xs))):=fun c u e m=>by
   by_cases hc:c=a
   · subst hc;rw [hx] at e;cases e;exact ((m trivial).1 oa).elim
   · rw [jx hc];exact e
 have up: ∀c,Sf G env σ c->Sf G (env.set i (.shr (.scr ds))) σ c:=fun c z=>⟨fun w=>z.1 (own w),z.2⟩
 refine ⟨by rw [List.length_set];exact k.len,fun b u q=>?_,k.g0,fun j d h=>?_,fun j d h=>?_,fun j j' d e c h1 h2 h3 h4=>?_⟩
 · have hb:b≠a:=fun z=>by subst z;rw [h0] at q;cases q
   rw [jx hb];exact k.base b u q
 · by_cases e:i=j
   · subst e;rw [aaX (by exact (aap.mp hi).1)] at h;cases h;exact ⟨_,ha,.lsk (.inl ⟨o,jo⟩) (rs.stay st up)⟩
   · rw [abj e] at h;obtain ⟨v,h1,h2⟩:=k.shr j d h;exact ⟨v,h1,h2.stay st up⟩
 · by_cases e:i=j
   · subst e;rw [aaX (by exact (aap.mp hi).1)] at h;cases h
   · rw [abj e] at h;obtain ⟨b,h1,h2,h3⟩:=k.own j d h;have hb:b≠a:=fun z=>by subst z;exact e (k.dis i j _ _ _ hi h ha h1)
     exact ⟨b,h1,h2,h3.stay st up fun u q=>by rw [jx hb];exact q⟩
 · by_cases e1:i=j
   · subst e1;rw [aaX (by exact (aap.mp hi).1)] at h1;cases h1
   · by_cases e2:i=j'
     · subst e2;rw [aaX (by exact (aap.mp hi).1)] at h2;cases h2
     · rw [abj e1] at h1;rw [abj e2] at h2;exact k.dis j j' _ _ _ h1 h2 h3 h4
end
def Rep.noFrz {K:aab} {A:X7} {H:Hp} {a:Addr} {d:D} {o:Obj} {ys:List V} (r:Rep K A H (.ref a) d) (h:H a=some (.frz o (.lst ys))) (n:noS d=true):False:=by
 cases r with
 |tup e _=>rw [h] at e;cases e
 |lst e _ _=>rw [h] at e;cases e
 |lsk e _=>simp only [noS] at n;cases n
 |dic e _ _ _ _=>rw [h] at e;cases e
 |dit e _ _ _ _=>rw [h] at e;cases e
 |exn e _ _=>rw [h] at e;cases e
 |fdc e _ _ _=>
  rcases e with ⟨e,_⟩| ⟨_,e⟩
  · rw [h] at e;cases e
  · rw [h] at e;cases e
 |hdc e _ _ _=>
  obtain ⟨_,e⟩:=e;rw [h] at e;cases e
 |obj e _ _ _ _=>rw [h] at e;cases e
 |mem e _=>rw [h] at e;cases e
def Inv.looseL {X:Cx} {pins:List (Addr×Obj)} {σ:L2.St} {H:Hp} {s:aaf} {a:Addr} {xs:List V} (I:Inv X pins σ H s) (e:H a=some (.lst xs)):jft X a:=by
 refine ⟨fun xs z=>?_,fun o u z=>?_,fun ps z=>?_⟩
 · rw [I.base.tups _ _ z] at e;cases e
 · rw [I.base.frzs _ _ _ z] at e;cases e
 · obtain ⟨m,q⟩:=I.base.tbls _ _ z;rw [q] at e;cases e
def Yz (i:Nat) (f:T5):Sl->Res D:=fun env=>match env[i]? with
 |some (.own (.lst ds))=>f (env.set i (.shr (.scr ds)))>>=fun d=>must (noS d=true) (.ok d)
 |_=> .stuck
section
variable {X:Cx} {e:Expr} {f:T5}
def vh (i:Nat) {l:Lv} (hl:l= .s\/l= .t) (h:DE X l e f):DE X l e (Yz i f):=by
 with_unfolding_all exact (by
  rintro pins s σ H Q I ⟨G,H0,env,d,k,ef,q⟩;unfold Yz at ef
  split at ef
  · rename_i ds hi;obtain ⟨d',e1,e2⟩:=je ef;obtain ⟨n,e3⟩:=jr e2;cases e3;obtain ⟨a,ha,h0,tp⟩:=k.own i _ hi
    cases tp with
    | @lst xs _ hx rs=>
    obtain ⟨z,its,nn,rv,hlen,ho⟩:=I.lstM hx;generalize ({cls:= .type "list",data:= .seq its.toArray nn}:Obj)=oL at ho;have lo:=Inv.looseL I hx;have I1:=Inv.swap I hx lo (fun _ z=>by cases z) (fun _ z=>by cases z) (show ObjOk X.prog X.w H s.heap a (.frz oL (.lst xs)) from ⟨ho,I.hok a _ hx⟩);have k1:=k.lendL (o:=oL) hi ha hx h0 rs;refine thn (h pins s σ _ (fun v H1=>Same _ H1/\Rep X.K (l.A G (env.set i (.shr (.scr ds))) σ) H1 v d/\l.T _ v) I1 ⟨G,H0,_,d,k1,e1,fun v H' s r t=>⟨s,r,t⟩⟩) fun v s1 ⟨x,H1,I2,r1,sm,rep,nt⟩=>?_
    have hf:=sm _ _ jo;have I3:=Inv.swap I2 hf lo (fun _ z=>by cases z) (fun _ z=>by cases z) (show ObjOk X.prog X.w H1 s1.heap a (.lst xs) from (I2.hok a _ hf).2);refine ⟨x,_,I3,r1,q x _ (fun b u w=>?_) ?_ ?_⟩
    · by_cases hb:b=a
      · subst hb;rw [hx] at w;cases w;exact jo
      · rw [jx hb];exact sm b u (by rw [jx hb];exact w)
    · have rr:=rep.thaw hf n
      have up: ∀c,Sf G (env.set i (.shr (.scr ds))) σ c/\c≠a->Sf G env σ c:=fun c w=>⟨fun ⟨j,d',h1,h2⟩=>by
        by_cases e:i=j
        · subst e;rw [ha] at h2;cases h2;exact w.2 rfl
        · exact w.1.1 ⟨j,d',by rw [abj e];exact h1,h2⟩,w.1.2⟩
      rcases hl with rfl|rfl<;>exact rr.weak up
    · rcases hl with rfl|rfl
      · trivial
      · intro b eb u w
        by_cases hb:b=a
        · subst hb;subst eb;exact (rep.noFrz hf n).elim
        · exact nt b eb u (by rw [jx hb];exact w)
  · cases ef)
def DE.lendT (i:Nat) (h:DE X .t e f):DE X .t e (Yz i f):=vh i (.inr rfl) h
end
def jcN:List D->Res D
 | [.lst ds]=>(.ok (.lst ds))
 | [.tup ds]=>(.ok (.lst ds))
 | [.scr ds]=>(.ok (.lst ds))
 |_=> .stuck
def jbo {K:aab}:WG K (fun xs H Q=> ∃p ys,xs=[.ref p]/\(SqL K H p ys\/SqT K H p ys)/\ ∀l,H l=none->Q (.ref l) (upd H l (.lst ys))) jcN:=by
 intro A xs H ds d Q r e q;unfold jcN at e
 split at e
 · exact JR A xs H _ d Q r e q
 · exact JR A xs H _ d Q r e q
 · rename_i es;cases e;obtain ⟨v,rfl,r1⟩:=r.one;obtain ⟨p,ys,rfl,hp,ry⟩:=r1.scrE;exact ⟨p,ys,rfl,.inl hp.sql,fun l hl=>q _ _ (Same.upd hl) (.lst jo (.inl hl) ((ry.laid hl).weak fun c z=>⟨.inr z.1,z.2⟩)) (j9 (Same.refl H) hl)⟩
 · cases e
def isiS (T:String):D->Res D
 | .scr _=> .ok (.bl (isTy T "list"))
 |d=>isiD T d
def jaS (T:String) (f:T5):Sl->Res D:=fun env=>f env>>=isiS T
section
variable {X:Cx}
def jcT {T:String} {a d:D} (h:isiS T a= .ok d): ∃b,d= .bl b:=by
 unfold isiS at h
 split at h
 · cases h;exact ⟨_,rfl⟩
 · unfold isiD at h
   split at h
   · cases h;exact ⟨_,rfl⟩
   · cases h
def uB (T:String) (h:IsTy T):CallR X (.builtin "isinstance") (fun xs H Q=> ∃x d,xs=[x,.ty T]/\Rep X.K Any H x d/\ ∃b,isiS T d= .ok (.bl b)/\Q (.bl b) H):=by
 rintro pins s σ H xs us Q I r ⟨x,d,ex,rp,b,e,q⟩
 by_cases hd: ∃ds,d= .scr ds
 · obtain ⟨ds,rfl⟩:=hd;cases e;subst ex;obtain ⟨u,w',rfl,r1,r2⟩:=UC r;cases (show w'=acC T from r2);obtain ⟨a,ys,rfl,hl,_⟩:=rp.scrE;cases (show u=aaJ a from r1);obtain ⟨its,rv,⟨o,n,g,hc,_⟩,_⟩:=I.list hl.sql;exact aby aeM I.kIn ⟨o,g,hc⟩ (h X.K "list" (by decide)) (fun z=>nomatch z) fun tk=>⟨.bl _,H,I.tok tk,rfl,q⟩
 · refine Vb T h pins s σ H xs us Q I r ⟨x,d,ex,rp,b,?_,q⟩;unfold isiS at e
   split at e
   · exact (hd ⟨_,rfl⟩).elim
   · exact e
def jds (T:String) (Ty:Str) {l l':Lv} {e:Expr} {f:T5} {p p2 pos:Pos} (ht:IsTy T) (he:DE X l e f) (hg:Gl X "isinstance") (hm:X.mg "isinstance" =none) (hg2:Gl X Ty) (hm2:X.mg Ty=none) (hv:abz Ty=some (.type T))
   (hn:Ty≠ "__name__" :=by decide) (hd:ZI Ty:=by decide) (hs:aan [e,.Name Ty p2] X.env=(false,eval e X.env)::aan [.Name Ty p2] X.env:=by exact jk rfl)
   (hs2:aan [.Name Ty p2] X.env=(false,eval (.Name Ty p2) X.env)::aan [] X.env:=by exact jk rfl) (hpl:(abQ pos (aan [.Name Ty p2] X.env)).any (·.1)=false:=by exact jS rfl):
   DE X l' (.Call (.Name "isinstance" p) [e,.Name Ty p2] [] pos) (jaS T f):=by
 with_unfolding_all exact (
  PE.imp (wt (uB T ht) hg hm aem (qg he (qg (Yh (v:= .ty T) hg2 hm2 hv rfl hn hd) wu hs2) hs) (by decide) (by decide) hs hpl) fun σ H Q=>by
   rintro ⟨G,H0,env,d,k,ef,q⟩;obtain ⟨a,e1,e2⟩:=je ef;refine ⟨G,H0,env,a,k,e1,fun v H' s r _=>?_⟩;obtain ⟨b,rfl⟩:=jcT e2
   exact ⟨v,a,rfl,r.weak Lv.weak_b,b,e2,q _ H' s (.bl b) (jgE (K:=X.K) b).T⟩)
end
section
variable {prog:aaH} {w:World} {A:aa3} {E:X6} {s:aaf}
def UY {a:Addr} {ea:Array (Int×Value)} {pa:Nat} {ta:aa9} (hA:SetI s.heap a ea pa ta) (hc:w.params.followText "set-order" =true\/((!ta.plain&&decide (ea.size>1))=false/\(!ta.led&&decide (ea.size>1))=false)) {Q:Array (Int×Value)->aaf->Prop}
  (h: ∀ws:Array (Int×Value),ws.toList.Perm ea.toList->Q ws s):wpAny (model prog w) A (setWalk a) Q E s:=by
 unfold setWalk aeT;refine aaa (hA.state ?_);dsimp only;simp;refine aaa (abP ?_);dsimp only
 cases ht:(model prog w).w.params.followText "set-order" with
 |true=>
  simp;refine aaa (abP (aac (h _ (Tab.pick_perm _ _))))
 |false=>
  simp;rcases hc with hc| ⟨h1,h2⟩
  · rw [show (model prog w).w.params.followText "set-order" =w.params.followText "set-order" from rfl,hc] at ht;cases ht
  · show wpAny _ _ (if (!ta.plain&&decide (ea.size>1))=true then _ else _) _ _ _;rw [h1];simp;show wpAny _ _ ((if (!ta.led&&decide (ea.size>1))=true then unsupported "set:maker-not-led" else pure ())>>=fun _=>pure ea) _ _ _;rw [h2];simp;exact aac (h _ (ab6 _))
def WK {a o f:Addr} {ea eo:Array (Int×Value)} {pa po pf:Nat} {ta to_ tf:aa9} (hA:SetI s.heap a ea pa ta) (hO:SetI s.heap o eo po to_) (hF:SetI s.heap f #[] pf tf) {Q:Array (Int×Value)->aaf->Prop}
   (h: ∀(ws:Array (Int×Value)) (h':Heap),ws.toList.Perm ea.toList->(∀b ob,b≠f->s.heap.get? b=some ob->h'.get? b=some ob)->(∃pf' tf',SetI h' f #[] pf' tf')->Q ws {s with heap:=h'}):
   wpAny (model prog w) A (setWalkUnseen a [o,f] (some f)) Q E s:=by
 unfold setWalkUnseen aeT;refine aaa (hA.state ?_);dsimp only;simp only [bind_assoc,pure_bind];refine aaa (abP ?_);dsimp only;have fin: ∀ws:Array (Int×Value),ws.toList.Perm ea.toList->Q ws s:=fun ws z=>h ws s.heap z (fun _ _ _ e=>e) ⟨_,_,hF⟩
 by_cases hc:((model prog w).w.params.followText "set-order" ||ta.led&&ta.plain||decide (ea.size<=1))=true
 · rw [if_pos hc];refine UY hA ?_ fun ws hw=>fin ws hw
   simp at hc;rcases hc with (hc| ⟨h1,h2⟩)|hc
   · exact .inl hc
   · exact .inr ⟨by simp [h2],by simp [h1]⟩
   · have: ¬(ea.size>1):=by omega
     exact .inr ⟨by simp [this],by simp [this]⟩
 · rw [if_neg hc];refine aaa (Vy hA hO hF ?_);simp;refine aaa (aeg ?_);refine aaa (hF.state ?_);dsimp only
   split
   · obtain ⟨ob,ho,hx,hd⟩:=hF.ex;refine aaa (wpAny_storeSet_of ho hd ?_ (by simp));refine aac (h ea _ (ab6 _) (fun b ob hb e=>Heap.get?_update_of_ne _ (acD hb) e) ?_)
     have hft:({tf with led:=tf.led&&ta.led,plain:=tf.plain&&ta.plain}:aa9).fits (#[]:Array (Int×Value)).size=true:=by
      have:=hF.ft;cases tf;exact this
     obtain ⟨g1,_⟩:=SetOf_store (knd:=ach prog w) (S':=fun _=>false) ho hx hd (fun e he=>by simp at he) (fun k=>by simp) (by decide) hft;exact ⟨_,_,⟨⟨_,g1,hx,rfl⟩,fun e he=>by simp at he,by decide,hft⟩⟩
   · exact aac (fin _ (ab6 _))
def XB {id:String} {a o:Addr} {SA SO:Int->Bool} {na no:Nat} (hA:s.heap.SetOf (ach prog w) a SA na) (hO:s.heap.SetOf (ach prog w) o SO no) (hn: ¬na/4>no) {Q:X6}
   (h: ∀(h':Heap),(∀b ob,b<s.heap.objs.size->s.heap.get? b=some ob->h'.get? b=some ob)->(∃n',h'.SetOf (ach prog w) s.heap.objs.size (fun k=>SA k&&!SO k) n')->Q (.ref s.heap.objs.size) {s with heap:=h'}):
   wpAny (model prog w) A (acV id a (.ref o)) Q E s:=by
 have tA:=hA.typeIs;have tO:=hO.typeIs;obtain ⟨ea,pa,ta,iA,rfl,mA⟩:=SetI.of hA;obtain ⟨eo,po,to_,iO,rfl,mO⟩:=SetI.of hO;unfold acV aeS acI setEntries Builtin.Frozenset.baseOf setEpoch;dsimp only;refine aaa (uM tO ?_);simp only [abf,aaG,if_false,pure_bind,bind_assoc,aeE,if_true];refine aaa (iO.state ?_);refine aaa (iA.state ?_);dsimp only;rw [if_neg hn];refine aaa (acm tA F.sub_set_set ?_);simp only [if_true];refine aaa (wpAny_newSet_of (knd:=ach prog w) fun led hS=>?_);simp only [pure_bind];obtain ⟨er,pr,tr,iR,hz,_⟩:=SetI.of hS;have her:=ad2 hz;subst her;have kp: ∀b ob,s.heap.get? b=some ob->(s.heap.push {cls:= .type "set",dict:=none,data:= .set #[] 0 (.fresh 0 0 led)}).get? b=some ob:=fun b ob e=>aad _ e
 have iA1:=iA.keep (kp a);have iO1:=iO.keep (kp o);have lA:=let ⟨_,e,_⟩:=iA.ex;aav e;have lO:=let ⟨_,e,_⟩:=iO.ex;aav e;refine aaa (iA1.state ?_);refine aaa (aa4 ?_);refine aaa (WK iA1 iO1 iR fun ws h' hw hk ⟨pf',tf',iF⟩=>?_);have iA2:=iA1.keep fun ob e=>hk _ _ (aaC lA) e
 have hO2:h'.SetOf (ach prog w) o SO eo.size:=by
   obtain ⟨ob,es,ep,t,ho,hx,hd,rest⟩:=hO;exact ⟨ob,es,ep,t,hk _ _ (aaC lO) (kp _ _ ho),hx,hd,rest⟩
 have hwm: ∀e∈ws.toList,e∈ea.toList:=fun e he=>hw.mem_iff.mp he
 have hin: ∀k,SA k=true->SO k=false->(fun _=>false:Int->Bool) k=true\/ ∃e∈ws.toList,(ach prog w).is k e.2=true:=fun k z _=>by
   obtain ⟨e,he,hi⟩:=(mA k).mp z;exact .inr ⟨e,hw.mem_iff.mpr he,hi⟩
 refine aaa (aeq _ (fun rest b s'=> ∃(h2:Heap) (S:Int->Bool) (n':Nat),s'={s with heap:=h2}/\(∀b ob,b≠s.heap.objs.size->h'.get? b=some ob->h2.get? b=some ob)/\h2.SetOf (ach prog w) s.heap.objs.size S n'/\n'+rest.length<=ea.size/\(∀e∈rest,e∈ea.toList)/\
    (∀k,S k=true->SA k=true/\SO k=false)/\(∀k,SA k=true->SO k=false->S k=true\/ ∃e∈rest,(ach prog w).is k e.2=true)) _ ?_ ?_ ws _ ⟨h',fun _=>false,0,rfl,fun _ _ _ e=>e,SetI.setOf iF,by have:=hw.length_eq;rw [aas,aas] at this;rw [aas];omega,hwm,(fun k z=>nomatch z),hin⟩)
 · rintro ⟨hh,x⟩ rest b s' ⟨h2,S,n',rfl,hk2,hS2,hle,hm,c1,c2⟩;have hme:=hm _ aax;obtain ⟨k,tk,e1,e2⟩:=iA.el _ hme;dsimp only at e1 e2;subst e1;subst e2;simp only [aal] at hle;have hSA:SA k=true:=(mA k).mpr ⟨_,hme,wY k tk⟩
   have hO3:h2.SetOf (ach prog w) o SO eo.size:=by
    obtain ⟨ob,es,ep,t,ho,hx,hd,rest⟩:=hO2;exact ⟨ob,es,ep,t,hk2 _ _ (aaC lO) ho,hx,hd,rest⟩
   have un: ∀ {h3:Heap} {Q:Unit->aaf->Prop},(∀ob,h2.get? a=some ob->h3.get? a=some ob)->Q () {s with heap:=h3}->wpAny (model prog w) A (aeu id a pa) Q E {s with heap:=h3}:=fun hh3 q=>by
    unfold aeu setEpoch;simp only [bind_assoc,pure_bind];refine aaa ((iA2.keep fun ob e=>hh3 ob (hk2 _ _ (aaC lA) e)).state ?_);dsimp only;simp only [bne_self_eq_false,aaG,if_false];exact aac q
   refine aaa (aa4 ?_);refine aaa (wpAny_setFind_of (knd:=ach prog w) (wY k tk) rfl hO3 fun r hr=>?_);rw [hr]
   cases hSO:SO k with
   |true=>
    simp only [pure_bind,abf,aaG,if_false];refine aac ?_;refine aaa (un (fun _ e=>e) ?_);refine aac ⟨h2,S,n',rfl,hk2,hS2,by omega,fun e he=>hm e (aao _ he),c1,fun k' z1 z2=>?_⟩;rcases c2 k' z1 z2 with z| ⟨e,he,hi⟩
    · exact .inl z
    · rcases aam.mp he with z|z
      · subst z;have:k'=k:=(ach prog w).inj _ _ _ hi (wY k tk);subst this;rw [hSO] at z2;cases z2
      · exact .inr ⟨e,z,hi⟩
   |false=>
    simp only [pure_bind,abn,if_true];refine aaa (wpAny_setAddHashed_of (knd:=ach prog w) (wY k tk) rfl hS2 (by have:=iA.bd;omega) fun h3 sb hS3=>?_);refine aac ?_;refine aaa (un (fun ob e=>by rw [sb.2 _ (aaC lA)];exact e) ?_);refine aac ⟨h3,_,_,rfl,fun b ob hb e=>by rw [sb.2 _ hb];exact hk2 b ob hb e,hS3,by split<;>omega,fun e he=>hm e (aao _ he),fun k' z=>?_,fun k' z1 z2=>?_⟩
    · rw [aen,decide_eq_true_eq] at z;rcases z with z|z
      · exact c1 k' z
      · subst z;exact ⟨hSA,hSO⟩
    · rcases c2 k' z1 z2 with z| ⟨e,he,hi⟩
      · exact .inl (by rw [z];rfl)
      · rcases aam.mp he with z|z
        · subst z;have:k'=k:=(ach prog w).inj _ _ _ hi (wY k tk);subst this;exact .inl (by simp)
        · exact .inr ⟨e,z,hi⟩
 · rintro b s' ⟨h2,S,n',rfl,hk2,hS2,_,_,c1,c2⟩;refine aac (aac (h h2 (fun b ob hb e=>hk2 b ob (aaC hb) (hk b ob (aaC hb) (kp b ob e))) ⟨n',SetOf_congr hS2 (fun k=>?_) rfl⟩))
   cases e:S k with
   |true=>
    obtain ⟨z1,z2⟩:=c1 k e;rw [z1,z2];rfl
   |false=>
    cases e1:SA k with
    |false=>rfl
    |true=>
      cases e2:SO k with
      |true=>rfl
      |false=>
        rcases c2 k e1 e2 with z| ⟨_,he,_⟩
        · rw [e] at z;cases z
        · cases he
def jfK {a o:Addr} {SA SO:Int->Bool} {na no:Nat} (hA:s.heap.SetOf (ach prog w) a SA na) (hO:s.heap.SetOf (ach prog w) o SO no) (hn: ¬na/4>no) {Q:X6}
  (h: ∀(h':Heap),(∀b ob,b<s.heap.objs.size->s.heap.get? b=some ob->h'.get? b=some ob)->(∃n',h'.SetOf (ach prog w) s.heap.objs.size (fun k=>SA k&&!SO k) n')->Q (.ref s.heap.objs.size) {s with heap:=h'}):
  wpAny (model prog w) A (abV .Sub (.ref a) (.ref o)) Q E s:=by
 refine wpAny_binaryOp_same hA.typeIs hO.typeIs F.fills_set_sub F.slot_set_sub (abl F.slot_set_sub hA.typeIs Wr ?_ (F.args_set_sub_2 _ _))
 show wpAny _ _ (do
  let (self,other)←aeY "__sub__" ⟨[.ref a,.ref o],[]⟩
  let (l,r):=(self,other)
  if !(←acl l<&&>acl r) then rule s!"frozenset.{"__sub__"}.declined";return←ret .notImplemented
  ret (←acV s!"frozenset.{"__sub__"}" (←acI l) r)) _ _ _
 unfold aeY slotArgs;simp only [acO,abf,aaG,if_false,bind_assoc,aal,aaR,bne_self_eq_false,pure_bind];unfold andM;simp only [bind_assoc];refine aaa (uM hA.typeIs ?_);dsimp;refine aaa (uM hO.typeIs ?_);simp;unfold acI;simp;refine aaa (XB hA hO hn fun h' hk hi=>?_);exact aac ⟨_,rfl,by simp,h h' hk hi⟩
end
def Ur {prog:aaH} {w:World} {h:Heap} {a:Addr} {S:Int->Bool} {n:Nat} (x:h.SetOf (ach prog w) a S n):n=0↔ ∀k,S k=false:=by
 obtain ⟨o,es,ep,t,ho,hx,hd,hel,hm,hb,hf,hn⟩:=x
 constructor
 · intro z k;have he:=ad2 (hn.trans z);subst he
   cases e:S k with
   |false=>rfl
   |true=>
     obtain ⟨_,h1,_⟩:=(hm k).mp e;simp at h1
 · intro z;rw [←hn];rcases adF es.size with c|c
   · exact c
   · have hmem:es[0]∈es.toList:=by simp
     obtain ⟨⟨k,h1,_⟩,_⟩:=hel _ hmem;have:=(hm k).mpr ⟨_,hmem,h1⟩;rw [z k] at this;cases this
section
variable {X:Cx}
def jcy:OpR X (abV .Sub) (fun x y H Q=> ∃a b S n S' n',x= .ref a/\y= .ref b/\H a=some (.set S n)/\H b=some (.set S' n')/\ ¬n/4>n'/\ ∀l m,H l=none->(m=0↔ ∀k,(S k&&!S' k)=false)->Q (.ref l) (upd H l (.set (fun k=>S k&&!S' k) m))):=by
 rintro pins s σ H x y v u Q I rx ry ⟨a,b,S,n,S',n',ex,ey,ha,hb,hn,q⟩;subst ex;subst ey;cases rx;cases ry;have hA:=I.hok a _ ha;have hB:=I.hok b _ hb;refine jfK hA hB hn fun h' hk ⟨m,hi⟩=>?_
 have hl:=I.hok.fresh (aai _);exact ⟨.ref s.heap.objs.size,_,I.laid (fun b o e=>hk b o (aav e) e) (aai _) (show ObjOk X.prog X.w _ h' _ (.set _ _) from hi),rfl,q _ m hl (Ur hi)⟩
def subZ (a b:D):Res D:=match a,b with
 | .lst x,.lst y=>match QP x,QP y with
  |some u,some v=>must (u.length+1<aep/\v.length+1<aep/\ ¬(dd u).length/4>(dd v).length) (.ok (.bl (decide (∀i∈u,i∈v))))
  |_,_=> .stuck
 |_,_=> .stuck
def uU {a b d:D} (h:subZ a b= .ok d): ∃u v:List Int,a= .lst (u.map D.int)/\b= .lst (v.map D.int)/\(u.length+1<aep/\v.length+1<aep/\ ¬(dd u).length/4>(dd v).length)/\d= .bl (decide (∀i∈u,i∈v)):=by
 unfold subZ at h
 split at h
 · rename_i x y
   split at h
   · rename_i u v e1 e2;obtain ⟨h1,h2⟩:=jr h;cases h2;exact ⟨u,v,by rw [JI e1],by rw [JI e2],h1,rfl⟩
   · cases h
 · cases h
variable {l l1 l2:Lv} {e1 e2:Expr} {f1 f2:T5} {p1 p2 p3 q1 q2 q3 pos pos2 p4:Pos} {j:Nat}
def jdq (hc:X.calm=true) (h1:DE X l1 e1 f1) (h2:DE X l2 e2 f2) (hgl:Gl X "len") (hml:X.mg "len" =none) (hgs:Gl X "set") (hms:X.mg "set" =none)
   (he0:aan [.BinOp (.Call (.Name "set" p1) [e1] [] q1) .Sub (.Call (.Name "set" p2) [e2] [] q2) pos] X.env=(false,eval (.BinOp (.Call (.Name "set" p1) [e1] [] q1) .Sub (.Call (.Name "set" p2) [e2] [] q2) pos) X.env)::aan [] X.env:=by exact jk rfl)
   (he1:aan [e1] X.env=(false,eval e1 X.env)::aan [] X.env:=by exact jk rfl) (he2:aan [e2] X.env=(false,eval e2 X.env)::aan [] X.env:=by exact jk rfl):
   DE X l (.Compare (.Call (.Name "len" p3) [.BinOp (.Call (.Name "set" p1) [e1] [] q1) .Sub (.Call (.Name "set" p2) [e2] [] q2) pos] [] q3) [.Eq] [.Constant (.int 0) j p4] pos2) (two f1 f2 subZ):=by
 with_unfolding_all exact (
  PE.imp (kA jfU (wt uA hgl hml rfl (qg (jaj jcy (y6 (XJ hc) hgs hms rfl (qg h1 wu he1) (by decide) (by decide) he1 rfl) (y6 (XJ hc) hgs hms rfl (qg h2 wu he2) (by decide) (by decide) he2 rfl)) wu he0) (by decide) (by decide) he0 rfl) jbG (kR _)) fun σ H Q=>by
   rintro ⟨G,H0,env,d,k,ef,q⟩;obtain ⟨a,c1,ef⟩:=je ef;obtain ⟨b,c2,c3⟩:=je ef;obtain ⟨u,v,rfl,rfl,⟨z1,z2,z4⟩,rfl⟩:=uU c3;refine ⟨G,H0,env,_,k,c1,fun x1 H1 s1 r1 _=>?_⟩;obtain ⟨p,xs,rfl,hp,_,rs⟩:=(r1.weak Lv.weak_b).lstE;have ex:=Qs rs;subst ex;refine ⟨p,u,rfl,.inl (.inl hp),z1,fun l hl=>?_⟩;have S1:=Same.upd (o:=HO.set (fun k=>u.any (· ==k)) (dd u).length) hl;refine ⟨G,H0,env,_,(k.grow s1).grow S1,c2,fun x2 H2 s2 r2 _=>?_⟩;obtain ⟨p',xs,rfl,hp',_,rs'⟩:=(r2.weak Lv.weak_b).lstE;have ex:=Qs rs';subst ex;refine ⟨p',v,rfl,.inl (.inl hp'),z2,fun l' hl'=>?_⟩;have S2:=Same.upd (o:=HO.set (fun k=>v.any (· ==k)) (dd v).length) hl';refine ⟨l,l',_,_,_,_,rfl,rfl,S2 _ _ (s2 _ _ jo),jo,z4,fun l2 m hl2 hm=>?_⟩;have S3:=Same.upd (o:=HO.set (fun k=>u.any (· ==k)&&!v.any (· ==k)) m) hl2;refine ⟨l2,_,m,rfl,jo,?_⟩
   have key:decide (V.int (m:Int)=V.int 0)=decide (∀i∈u,i∈v):=by
    refine decide_eq_decide.mpr ⟨fun z i hi=>?_,fun z=>?_⟩
    · have hm0:m=0:=by injection z with z;omega
      have:=hm.mp hm0 i;have hu:(u.any fun x=>x==i)=true:=aco.mpr ⟨i,hi,by simp⟩;rw [hu] at this;simp only [Bool.true_and,Bool.not_eq_false'] at this;obtain ⟨y,hy,e⟩:=aco.mp this;rw [←eq_of_beq e];exact hy
    · have:m=0:=hm.mpr fun k=>by
       cases e:(u.any fun x=>x==k) with
       |false=>rfl
       |true=>
        obtain ⟨y,hy,e2⟩:=aco.mp e;rw [eq_of_beq e2] at hy;have:(v.any fun x=>x==k)=true:=aco.mpr ⟨k,z k hy,by simp⟩;rw [this];rfl
      rw [this];rfl
   refine ⟨rfl,?_⟩;have qq:=q (.bl (decide (V.int (m:Int)=V.int 0))) _ (s1.trans (S1.trans (s2.trans (S2.trans S3)))) (by rw [key];exact .bl _) (jgE (K:=X.K) _).T
   exact qq)
end
section
variable {f f1 f2:T5} {fa:T0} {t t1 t2:T4} {g ga gb:T3} {env env':Sl} {d x y z:D} {ds:List D} {b:Bool} {i:Nat}
def jee (h:env[i]?=some (.shr d)):rdS i env= .ok d:=by unfold rdS;rw [h]
def jfM (h:env[i]?=some (.shr d)):rdB i env= .ok d:=by unfold rdB;rw [h]
def jfN (h:env[i]?=some (.own d)):rdB i env= .ok d:=by unfold rdB;rw [h]
def jgh {j:Int}:cI j env= .ok (.int j):=rfl
def jeK:nil1 env= .ok []:=rfl
def jfY:nxO env= .ok (.nx env):=rfl
def Xo {T:String} (h:f env= .ok x) (h2:isiD T x= .ok d):isiF T f env= .ok d:=by rw [yL,h];exact h2
def jf5 {o:Out} (h:t env= .ok b) (h1:(if b=true then ga env else gb env)= .ok o):ifO t ga gb env= .ok o:=by rw [Zy,h];exact h1
def Qy (h:env[i]?=some (.own (.lst ds))):ownL i env= .ok ds:=by unfold ownL;rw [h]
def jbR {tt:TY} {fi:T0} {o:Out} (h:fi env= .ok ds) (h2:forD (zl tt g) ds env= .ok o):forO fi tt g env= .ok o:=(yl h).trans h2
def UE {tt:TY} {o:Out} (h:tt d env= .ok env') (h2:g env'= .ok o):zl tt g d env= .ok o:=(zI h).trans h2
def jf8 {j:Nat}:g2 (gN i) (gN j) (.tup [x,y]) env= .ok ((env.set i (.shr x)).set j (.shr y)):=rfl
def jfq {tt:TY} (h:f env= .ok d) (h2:tt d env= .ok env'):asgO f tt env= .ok (.nx env'):=by unfold asgO;rw [h,jdD,h2];rfl
def Wx (h:env[i]?=some (.own (.lst ds))):XG i env= .ok (.nx (env.set i (.own (.lst [])))):=by unfold XG;rw [Qy h];rfl
def jb6 (h1:env[i]?=some (.own (.lst ds))) (h2:f env= .ok d) (h3:ds.length<aah):WD i f env= .ok (.nx (env.set i (.own (.lst (ds++[d]))))):=uL (Qy h1) h2 h3
def jce {o o':Out} (h:ga env= .ok o) (h2:outK gb o= .ok o'):seqO ga gb env= .ok o':=by rw [xA,h];exact h2
def jcx {o:Out} (h:g env= .ok o):outK g (.nx env)= .ok o:=h
def jau {fr:Bool}:outK g (.rt fr d)= .ok (.rt fr d):=rfl
def jf3 {α:Type} {c:Bool} {a b r:α} (hc:c=true) (h:a=r):(if c=true then a else b)=r:=(if_pos hc).trans h
def jf4 {α:Type} {c:Bool} {a b r:α} (hc:c=false) (h:b=r):(if c=true then a else b)=r:=(if_neg (by rw [hc];decide)).trans h
def jgd {i j:Int} (hj:0<j/\j<1073741824):qz [.int i,.int j]= .ok (.tup [.int (i/j),.int (i%j)]):=jl hj
def JQ {i j:Int} (h:0<j/\j<2^200):divW (.int i) (.int j)= .ok (.int (i/j)):=Xq (C:=DivW) h
def ixL0 (x:D) (r:List D):ixD (.lst (x::r)) (.int 0)= .ok x:=by
 simp only [ixD];rw [show ((0:Int))=((0:Nat):Int) from rfl,M.atI_nat];rfl
def ixL1 (x y:D) (r:List D):ixD (.lst (x::y::r)) (.int 1)= .ok y:=by
 simp only [ixD];rw [show ((1:Int))=((1:Nat):Int) from rfl,M.atI_nat];rfl
def ixT1 (x y:D) (r:List D):ixD (.tup (x::y::r)) (.int 1)= .ok y:=by
 simp only [ixD];rw [show ((1:Int))=((1:Nat):Int) from rfl,M.atI_nat];rfl
def Wp {a b:Int}:eqR (.int a) (.int b)= .ok (.bl (a==b)):=vV
def Ks {a b:Int}:neR (.int a) (.int b)= .ok (.bl (!(a==b))):=by
 unfold neR;rw [jl (show EqC (.int a) (.int b) from .inl ⟨rfl,rfl,by simp [D.dep]⟩)];simp [eqD]
def big0:20000<=aah:=by decide
def sml {k:Nat} (h:k<=20000):k<=aah:=aaI h big0
def vY (h:f env= .ok (.lst ds)):Uc f env= .ok (j8 0 ds):=by unfold Uc;rw [h];rfl
def Z6 {c m:Str} {n:Nat} {F:TZ} {fo:T5} {g:T0} {env:Sl} {fs:List Str} {vs ds:List D} {d:D} (h1:fo env= .ok (.obj c fs vs)) (h2:fs.contains m=false) (h3:g env= .ok ds) (h4:ds.length+1=n) (h5:F (.obj c fs vs::ds)= .ok d):JH c m n F fo g env= .ok d:=by
 unfold JH;rw [h1];refine (jl (c:=c=c/\fs.contains m=false) ⟨rfl,h2⟩).trans ?_;rw [h3];exact (jl (c:=ds.length+1=n) h4).trans h5
def UT {ks:List Key} {es:List D}:yW (.dic ks es)= .own (.dic ks es):=rfl
def UQ:yW (.lst ds)= .own (.lst ds):=rfl
def US {ks:List (List Key)} {es:List D}:yW (.dit ks es)= .own (.dit ks es):=rfl
def UP:yW .non= .shr .non:=rfl
def uY:yW (.bl b)= .shr (.bl b):=rfl
def UR {j:Int}:yW (.int j)= .shr (.int j):=rfl
def UO {j:Str}:yW (.str j)= .shr (.str j):=rfl
def UN:yW (.tup ds)= .shr (.tup ds):=rfl
def jbK {j:Int} (h:f env= .ok (.int j)):negF f env= .ok (.int (-j)):=by unfold negF;rw [h];rfl
end
section
variable {f f1 f2:T5} {fa:T0} {t t1 t2:T4} {g ga gb:T3} {env env':Sl} {d x y z:D} {ds:List D} {b:Bool} {i:Nat} {c:Str}
def jbq (h:f env= .ok d):uy f env= .ok d:=by unfold uy;rw [h];rfl
end
end M
namespace G
open PySem PySem.Spec L2 M
open PyProof.Rows hiding St
def top (i:Nat):Stmt:=PySem.Challenge.pw_endwise_k21_what_are_rules.main.body.getD i (.Pass ⟨0,0,0,0⟩)
abbrev xI:Stmt:=top 35
abbrev ZJ:Stmt:=top 21
abbrev X9:Stmt:=top 23
abbrev ka:Stmt:=top 22
abbrev yy:Stmt:=top 25
abbrev xh:Stmt:=top 20
abbrev JC:Stmt:=top 19
abbrev JA:Stmt:=top 14
abbrev JD:Stmt:=top 16
abbrev Qr:Stmt:=top 15
abbrev JB:Stmt:=top 17
abbrev Qp:Stmt:=top 18
abbrev ZL:Stmt:=top 24
abbrev Qq:Stmt:=top 30
abbrev yx:Stmt:=top 29
abbrev qZ:Stmt:=YB (top 28) 0
abbrev wL:Stmt:=YB (top 28) 1
abbrev qY:Stmt:=YB (top 28) 2
abbrev xE:Stmt:=top 32
abbrev xK:Stmt:=top 38
abbrev xF:Stmt:=top 46
abbrev xi:Stmt:=top 33
abbrev xJ:Stmt:=top 34
abbrev yz:Stmt:=top 36
abbrev xj:Stmt:=top 37
abbrev yA:Stmt:=top 39
abbrev xH:Stmt:=top 40
abbrev xG:Stmt:=top 41
abbrev yB:Stmt:=top 42
abbrev zX:Stmt:=top 43
abbrev zY:Stmt:=top 44
abbrev wK:Stmt:=top 45
abbrev ZK:Stmt:=top 47
def wB:Sl->Res Out:=
 (seqO (jE 1 (cS "abcdefghijklmnopqrstuvwxyz")) (seqO (asgO (app (jb (rdS 0) (jb (cI 8) nil1)) qz) (g2 (gN 0) (gN 4))) (seqO (asgO (app (jb (rdS 0) (jb (two (rdS 4) (cI 1) addD) nil1)) qz) (g2 (gN 0) (gN 5))) (seqO (jE 2 (cS "")) (seqO (forO (rngF (jb (two (rdS 4) (cI 1) addD) nil1)) (gN 3) (seqO (asgO (app (jb (rdS 0) (jb (cI 26) nil1)) qz) (g2 (gN 0) (gN 6))) (jE 2 (two (rdS 2) (two (rdS 1) (rdS 6) ixD) addD)))) (retO (xt false 1 [2,1,5,0] (rngF (jb (cI 5) nil1)) (gN 0) qV (two (two (zy (rdS 1) yG (yk (rdS 3)) slD) (two (rdS 2) (two (two (rdS 4) (two (cI 5) (rdS 0) mulI) addD) (cI 26) modI) ixD) addD) (zy (rdS 1) (yk (two (rdS 3) (cI 1) addD)) yG slD) addD))))))))
def zG:List D->Res D:=runF true 7 (wB)
def KI:Sl->Res Out:=
 (retO (ifD (asB (isiF "tuple" (rdS 0))) (zy (rdS 0) (yk (cI 1)) yG slD) (tupF nil1)))
def qN:List D->Res D:=runF true 1 (KI)
def QS (xq:TZ) (qP:TZ):Sl->Res Out:=
 (seqO (setO 1 (lstF (jb (rdS 0) nil1))) (seqO (forO (itF (ji 1 xq (jb (rdS 0) nil1))) (gN 2) (za 1 (ji 1 qP (jb (rdS 2) nil1)))) (retO (rdO 1))))
def qc:Nat->List D->Res D
 |0=>fun _=> .stuck
 |n+1=>runF true 3 (QS qN (qc n))
def KJ:Sl->Res Out:=
 (retO (ifD (asB (isiF "tuple" (rdS 0))) (tupF (jb (two (rdS 0) (cI 0) ixD) (jb (two (app (jb (rdS 0) nil1) lenD) (cI 1) subI) nil1))) cN))
def yr:List D->Res D:=runF true 1 (KJ)
def xn (qP:TZ) (vM:TZ):Sl->Res Out:=
 (seqO (setO 1 cDT) (seqO (forO (itF (rdS 0)) (gN 2) (forO (itF (ji 1 qP (jb (rdS 2) nil1))) (gN 3) (ifO (asB (isiF "tuple" (rdS 3))) (Uf 1 (ji 1 vM (jb (rdS 3) nil1)) (cB true)) nxO))) (frzO 1 (retO (app (jb (rdS 1) nil1) Qm)))))
def wg:List D->Res D:=runF true 4 (xn (qc 64) yr)
def zN (xq:TZ):Sl->Res Out:=
 (seqO (setO 1 (lstF nil1)) (seqO (forO (itF (rdS 0)) (gN 2) (za 1 (ji 1 xq (jb (rdS 2) nil1)))) (retO (rdO 1))))
def qj:List D->Res D:=runF true 3 (zN qN)
def yc (xr:TZ):Sl->Res Out:=
 (seqO (jE 1 (lstF (jb (rdS 0) nil1))) (seqO (jE 2 (cI 0)) (seqO (jE 3 (cI 0)) (seqO (qW 2000 (truF (rdS 1)) (seqO (jE 2 (two (rdS 2) (cI 1) (augI fun i j=>i+j))) (seqO (jE 3 (two (rdS 3) (app (jb (rdS 1) nil1) lenD) (augI fun i j=>i+j))) (seqO (ifO (orB (asB (two (rdS 2) (cI 60) gtI)) (asB (two (rdS 3) (cI 1000) gtI))) (retO (cB true)) nxO) (jE 1 (ji 1 xr (jb (rdS 1) nil1))))))) (retO (cB false))))))
def xg:List D->Res D:=runF true 4 (yc qj)
def Zv:Sl->Res Out:=
 (retO (toB (isiF "int" (rdS 0)) (notF (isiF "bool" (rdS 0))) true))
def JZ:List D->Res D:=runF true 1 (Zv)
def yd (JL:TZ):Sl->Res Out:=
 (retO (toB (ji 1 JL (jb (rdS 0) nil1)) (YO (cI 0) (rdS 0) (cI 999) leI leI) true))
def zS:List D->Res D:=runF true 1 (yd JZ)
def xN:Sl->Res Out:=
 (seqO (ifO (orB (notB (asB (isiF "str" (rdS 0)))) (notB (asB (YO (cI 1) (app (jb (rdS 0) nil1) lenD) (cI 8) leI leI)))) (retO (cB false)) nxO) (retO (app (jb (xt false 1 [] (itF (rdS 0)) (gN 0) qV (two (rdS 0) (cS "abcdefghijklmnopqrstuvwxyz") inD)) nil1) allD)))
def x5:List D->Res D:=runF true 1 (xN)
def wZ (JO:TZ) (QY:TZ):Sl->Res Out:=
 (seqO (ifO (asB (isiF "tuple" (rdS 0))) (retO (toB (YO (cI 1) (app (jb (rdS 0) nil1) lenD) (two (cI 9) (cI 1) addD) leI leI) (ji 1 QY (jb (two (rdS 0) (cI 0) ixD) nil1)) true)) nxO) (retO (ji 1 JO (jb (rdS 0) nil1))))
def zR:List D->Res D:=runF true 1 (wZ zS x5)
def Jj (JN:TZ) (JM:TZ) (qP:TZ):Sl->Res Out:=
 (retO (toB (notF (ji 1 JN (jb (rdS 0) nil1))) (app (jb (xt false 1 [] (itF (ji 1 qP (jb (rdS 0) nil1))) (gN 0) qV (ji 1 JM (jb (rdS 0) nil1))) nil1) allD) true))
def zg:List D->Res D:=runF true 1 (Jj xg zR (qc 64))
def Qf (qP:TZ):Sl->Res Out:=
 (seqO (setO 1 cD) (seqO (forO (itF (ji 1 qP (jb (rdS 0) nil1))) (gN 2) (ifO (notB (asB (isiF "tuple" (rdS 2)))) (ud 1 (rdS 2) (cB true)) nxO)) (frzO 1 (retO (app (jb (rdS 1) nil1) jaI)))))
def yj:List D->Res D:=runF true 3 (Qf (qc 64))
def zz (Jn:TZ) (Qg:TZ):Sl->Res Out:=
 (seqO (ifO (orB (notB (asB (isiF "tuple" (rdS 0)))) (asB (two (app (jb (rdS 0) nil1) lenD) (cI 2) neR))) (retO (cB false)) nxO) (seqO (ifO (orB (notB (asB (ji 1 Jn (jb (two (rdS 0) (cI 0) ixD) nil1)))) (orB (notB (asB (ji 1 Jn (jb (two (rdS 0) (cI 1) ixD) nil1)))) (notB (asB (isiF "tuple" (two (rdS 0) (cI 0) ixD)))))) (retO (cB false)) nxO) (retO (two (ji 1 Qg (jb (two (rdS 0) (cI 1) ixD) nil1)) (ji 1 Qg (jb (two (rdS 0) (cI 0) ixD) nil1)) subZ))))
def jG:List D->Res D:=runF true 1 (zz zg yj)
def zo (QX:TZ):Sl->Res Out:=
 (seqO (ifO (orB (notB (asB (jaS "list" (rdS 0)))) (asB (two (app (jb (rdS 0) nil1) lenD) (cI 40) gtI))) (retO (cB false)) nxO) (retO (app (jb (xt false 1 [] (itF (rdS 0)) (gN 0) qV (ji 1 QX (jb (rdS 0) nil1))) nil1) allD)))
def j4:List D->Res D:=runF true 1 (zo jG)
def jU (yJ:TZ) (yI:TZ):Sl->Res OutO:=
 (seqJ (ifJX (notB (asB (ji 1 yI (jb (rdS 1) nil1)))) (jbD "NoRule") (Uj nxJ)) (Uj (seqJ (u7 0 "Rules" "listed" (app (jb (rdS 1) nil1) jcN)) (u7 0 "Rules" "named" (ji 1 yJ (jb (two (xt false 2 [] (itF (rdS 1)) (g2 (gN 0) (gN 1)) qV (rdS 0)) (xt false 2 [] (itF (rdS 1)) (g2 (gN 0) (gN 1)) qV (rdS 1)) addD) nil1))))))
def jA:FO:=ZM 2 1 (jU wg j4)
def zt:Sl->Res Out:=
 (retO (app (jb (fldF "Rules" "listed" (rdB 0)) nil1) Xi))
def qM:List D->Res D:=runF true 1 (zt)
def qo:Sl->Res Out:=
 (retO (app (jb (fldF "Rules" "named" (rdB 0)) nil1) Xi))
def jV:List D->Res D:=runF true 1 (qo)
def J4:Sl->Res Out:=
 (retO (toB (isiF "int" (rdS 0)) (notF (isiF "bool" (rdS 0))) true))
def jH:List D->Res D:=runF true 1 (J4)
def wD (jQ:TZ) (qe:TZ):Sl->Res Out:=
 (seqO (ifO (asB (ji 1 jQ (jb (rdS 0) nil1))) (retO (lstF nil1)) nxO) (seqO (setO 1 (lstF (jb (tupF (jb (two (rdS 0) (cI 0) ixD) (jb (two (app (jb (rdS 0) nil1) lenD) (cI 1) subI) nil1))) nil1))) (seqO (forO (itF (zy (rdS 0) (yk (cI 1)) yG slD)) (gN 2) (za 1 (ji 1 qe (jb (rdS 2) nil1)))) (retO (rdO 1)))))
def jW:Nat->List D->Res D
 |0=>fun _=> .stuck
 |n+1=>runF true 3 (wD jH (jW n))
def wz (jJ:FO) (zu:TZ) (qp:TZ) (qe:TZ):Sl->Res Out:=
 (seqO (setO 1 (app (jb (rdS 0) nil1) Xi)) (seqO (jE 2 (Yz 1 (uy (Je "Rules" 1 jJ (jb (rdS 1) nil1))))) (seqO (XG 1) (seqO (setO 3 (JH "Rules" "told" 1 zu (rdS 2) noA)) (seqO (ifO (orB (notB (asB (isiF "list" (rdB 3)))) (asB (two (rdB 3) (rdS 0) neR))) (retO (cB false)) nxO) (seqO (WD 3 (cI 0)) (seqO (jE 4 (lstF nil1)) (seqO (forO (itF (rdS 0)) (g2 (gN 6) (gN 7)) (jE 4 (two (two (rdS 4) (ji 1 qe (jb (rdS 6) nil1)) addD) (ji 1 qe (jb (rdS 7) nil1)) addD))) (seqO (setO 5 (JH "Rules" "heads_of" 1 qp (rdS 2) noA)) (seqO (ifO (orB (notB (asB (isiF "list" (rdB 5)))) (asB (two (rdB 5) (J1 (rdS 4)) neR))) (retO (cB false)) nxO) (seqO (XG 5) (retO (toB (two (JH "Rules" "heads_of" 1 qp (rdS 2) noA) (J1 (rdS 4)) eqR) (two (JH "Rules" "told" 1 zu (rdS 2) noA) (rdS 0) eqR) true)))))))))))))
def qf:List D->Res D:=runF true 8 (wz jA qM jV (jW 16))
def zO:Sl->Res Out:=
 (seqO (jE 2 (two (two (cI 10) (cI 40) powI) (cI 121) addD)) (retO (two (two (two (two (rdS 0) (rdS 2) modI) (cI 31415926535897932384626433832795) mulI) (two (two (two (two (rdS 1) (rdS 1) mulI) (two (cI 3) (rdS 1) mulI) addD) (cI 7) addD) (cI 2718281828459045235360287471) mulI) addD) (rdS 2) modI)))
def qI:List D->Res D:=runF true 3 (zO)
def wC:Sl->Res Out:=
 (seqO (jE 2 (two (two (two (rdS 0) (cI 69621) mulI) (two (two (rdS 1) (cI 1) addD) (cI 1000003) mulI) addD) (two (two (cI 10) (cI 30) powI) (cI 57) addD) modI)) (retO (two (two (rdS 2) (rdS 2) mulI) (two (two (cI 10) (cI 30) powI) (cI 57) addD) modI)))
def jt:List D->Res D:=runF true 3 (wC)
def zp (qv:TZ) (ju:TZ):Sl->Res Out:=
 (seqO (asgO (app (jb (rdS 0) (jb (cI 5) nil1)) qz) (g2 (gN 0) (gN 4))) (seqO (ifO (andB (asB (two (rdS 3) (lstF nil1) neR)) (orB (asB (two (rdS 4) (cI 0) eqR)) (andB (asB (two (rdS 2) (cI 0) eqR)) (asB (two (rdS 4) (cI 3) ltI))))) (retS (two (rdS 3) (two (rdS 0) (app (jb (rdS 3) nil1) lenD) modI) ixD)) nxO) (seqO (asgO (app (jb (rdS 0) (jb (cI 5) nil1)) qz) (g2 (gN 0) (gN 5))) (seqO (asgO (app (jb (rdS 0) (jb (cI 4) nil1)) qz) (g2 (gN 0) (gN 6))) (seqO (ifO (asB (two (rdS 2) (cI 0) eqR)) (jE 6 (cI 0)) nxO) (retO (app (jb (two (lstF (jb (two (rdS 1) (rdS 5) ixD) nil1)) (xt false 1 [1,3,0,2] (rngF (jb (rdS 6) nil1)) (gN 0) qV (ji 4 qv (jb (ji 2 ju (jb (rdS 3) (jb (rdS 0) nil1))) (jb (rdS 1) (jb (two (rdS 4) (cI 1) subI) (jb (rdS 2) nil1)))))) addD) nil1) wn)))))))
def qk:Nat->List D->Res D
 |0=>fun _=> .stuck
 |n+1=>runF false 7 (zp (qk n) jt)
def qE (jQ:TZ) (jI:TZ):Sl->Res Out:=
 (seqO (ifO (asB (ji 1 jQ (jb (rdS 0) nil1))) (retO (lstF (jb (rdS 0) nil1))) nxO) (seqO (setO 1 (lstF nil1)) (seqO (forO (itF (zy (rdS 0) (yk (cI 1)) yG slD)) (gN 2) (za 1 (ji 1 jI (jb (rdS 2) nil1)))) (retO (rdO 1)))))
def jv:Nat->List D->Res D
 |0=>fun _=> .stuck
 |n+1=>runF true 3 (qE jH (jv n))
def xo (qv:TZ) (jQ:TZ) (ju:TZ) (jI:TZ):Sl->Res Out:=
 (seqO (jE 2 (lstF (jb (two (rdS 0) (cI 1000) modI) (jb (two (two (two (rdS 0) (cI 1) addD) (two (two (rdS 0) (cI 1000) divW) (cI 999) modI) addD) (cI 1000) modI) nil1)))) (seqO (jE 3 (ji 4 qv (jb (ji 2 ju (jb (rdS 0) (jb (cI 1) nil1))) (jb (rdS 1) (jb (cI 2) (jb (rdS 2) nil1)))))) (seqO (ifO (asB (ji 1 jQ (jb (rdS 3) nil1))) (jE 3 (tupF (jb (two (rdS 1) (two (two (rdS 0) (two (cI 10) (cI 7) powI) divW) (cI 5) modI) ixD) (jb (rdS 3) (jb (two (rdS 2) (cI 1) ixD) nil1))))) nxO) (retO (tupF (jb (rdS 3) (jb (ji 4 qv (jb (ji 2 ju (jb (rdS 0) (jb (cI 2) nil1))) (jb (rdS 1) (jb (cI 2) (jb (ji 1 jI (jb (rdS 3) nil1)) nil1))))) nil1)))))))
def j7:List D->Res D:=runF true 4 (xo (qk 6) jH jt (jv 16))
def qR (qw:TZ) (ju:TZ):Sl->Res Out:=
 (seqO (asgO (app (jb (rdS 0) (jb (cI 12) nil1)) qz) (g2 (gN 0) (gN 2))) (seqO (ifO (asB (two (rdS 2) (cI 7) eqR)) (seqO (jE 3 (xt false 1 [1,0] (rngF (jb (cI 3) nil1)) (gN 0) qV (ji 2 qw (jb (ji 2 ju (jb (rdS 2) (jb (rdS 0) nil1))) (jb (rdS 1) nil1))))) (retO (xt false 1 [3] (rngF (jb (cI 40) nil1)) (gN 0) qV (two (rdS 1) (two (two (rdS 0) (rdS 0) mulI) (cI 3) modI) ixD)))) nxO) (seqO (asgO (app (jb (rdS 0) (jb (cI 5) nil1)) qz) (g2 (gN 0) (gN 4))) (retO (xt false 1 [1,0] (rngF (jb (rdS 4) nil1)) (gN 0) qV (ji 2 qw (jb (ji 2 ju (jb (rdS 2) (jb (rdS 0) nil1))) (jb (rdS 1) nil1))))))))
def zF:List D->Res D:=runF true 5 (qR j7 jt)
def wA:Sl->Res Out:=
 (seqO (jE 2 (tupF (jb (rdS 0) nil1))) (seqO (forO (rngF (jb (two (rdS 1) (cI 1) subI) nil1)) (gN 3) (jE 2 (tupF (jb (rdS 0) (jb (rdS 2) nil1))))) (retS (rdS 2))))
def zE:List D->Res D:=runF false 4 (wA)
def xp:Sl->Res Out:=
 (seqO (jE 1 (tupF (jb (rdS 0) nil1))) (seqO (forO (rngF (jb (cI 3) nil1)) (gN 2) (jE 1 (app (jb (two (lstF (jb (rdS 0) nil1)) (two (lstF (jb (rdS 1) nil1)) (cI 9) repL) addD) nil1) wn))) (retO (app (jb (two (two (two (lstF (jb (rdS 0) nil1)) (lstF (jb (rdS 1) (jb (zy (rdS 1) yG (yk (cI 3)) slD) nil1))) addD) (two (lstF (jb (tupF (jb (rdS 0) nil1)) nil1)) (cI 6) repL) addD) (lstF (jb (tupF (jb (rdS 0) (jb (tupF (jb (rdS 0) nil1)) nil1))) nil1)) addD) nil1) wn))))
def wj:List D->Res D:=runF true 3 (xp)
def q8 (xO:TZ) (yK:TZ):Sl->Res Out:=
 (seqO (jE 2 (two (rdS 1) (two (rdS 0) (cI 5) modI) ixD)) (seqO (jE 3 (lstF (jb (tupF (jb (cS "A") nil1)) (jb (tupF (jb (cS "a1") nil1)) (jb (tupF (jb (cS "abcdefghi") nil1)) (jb (tupF (jb (cS "") nil1)) (jb (tupF (jb (rdS 2) (jb (cB true) nil1))) (jb (tupF (jb (rdS 2) (jb (cI 1000) nil1))) (jb (tupF (jb (rdS 2) (jb (two (negF (cI 1)) (two (rdS 0) (cI 9) modI) subI) nil1))) (jb (tupF nil1) nil1)))))))))) (seqO (jE 3 (two (rdS 3) (lstF (jb (app (jb (two (lstF (jb (rdS 2) nil1)) (two (lstF (jb (tupF (jb (rdS 2) nil1)) nil1)) (cI 10) repL) addD) nil1) wn) (jb (lstF (jb (rdS 2) nil1)) (jb (tupF (jb (rdS 2) (jb (lstF (jb (rdS 2) nil1)) nil1))) (jb cN (jb (rdS 2) (jb (tupF (jb (rdS 2) (jb cN nil1))) (jb (tupF (jb (cI 0) (jb (tupF (jb (rdS 2) nil1)) nil1))) nil1)))))))) addD)) (seqO (jE 3 (two (rdS 3) (lstF (jb (ji 2 xO (jb (rdS 2) (jb (cI 61) nil1))) (jb (cB true) (jb (app (jb (two (lstF (jb (rdS 2) nil1)) (two (lstF (jb (ji 1 yK (jb (rdS 2) nil1)) nil1)) (cI 2) repL) addD) nil1) wn) nil1)))) addD)) (retS (two (rdS 3) (two (two (rdS 0) (cI 5) divI) (cI 18) modI) ixD))))))
def qC:List D->Res D:=runF false 4 (q8 zE wj)
def q9 (jI:TZ) (qx:TZ):Sl->Res Out:=
 (seqO (asgO (app (jb (rdS 0) (jb (cI 8) nil1)) qz) (g2 (gN 0) (gN 5))) (seqO (asgO (rdS 2) (g2 (gN 6) (gN 7))) (seqO (jE 3 (ji 1 jI (jb (rdS 6) nil1))) (seqO (jE 4 (two (two (rdS 0) (cI 8) divI) (cI 1000) modI)) (seqO (qW 2000 (asB (two (rdS 4) (rdS 3) (inLR false))) (jE 4 (two (two (rdS 4) (cI 1) addD) (cI 1000) modI))) (seqO (ifO (asB (two (rdS 5) (cI 0) eqR)) (retO (tupF (jb (rdS 4) (jb (rdS 4) nil1)))) nxO) (seqO (ifO (asB (two (rdS 5) (cI 1) eqR)) (retO (tupF (jb (rdS 6) (jb (tupF (jb (two (rdS 1) (two (rdS 0) (cI 5) modI) ixD) (jb (rdS 7) (jb (rdS 4) nil1)))) nil1)))) nxO) (seqO (ifO (asB (two (rdS 5) (cI 2) eqR)) (retO (lstF (jb (rdS 6) (jb (rdS 7) nil1)))) nxO) (seqO (ifO (asB (two (rdS 5) (cI 3) eqR)) (retS (two (lstF (jb (tupF (jb (rdS 6) (jb (rdS 7) (jb (rdS 7) nil1)))) (jb (tupF (jb (rdS 6) nil1)) (jb (tupF nil1) (jb cN (jb (cS "ab") (jb cD (jb (cI 0) nil1)))))))) (two (rdS 0) (cI 7) modI) ixD)) nxO) (seqO (ifO (asB (two (rdS 5) (cI 4) eqR)) (retO (tupF (jb (rdS 6) (jb (ji 2 qx (jb (rdS 0) (jb (rdS 1) nil1))) nil1)))) nxO) (seqO (ifO (asB (two (rdS 5) (cI 5) eqR)) (retO (tupF (jb (ji 2 qx (jb (rdS 0) (jb (rdS 1) nil1))) (jb (rdS 7) nil1)))) nxO) (retO (tupF (jb (tupF (jb (two (rdS 1) (two (rdS 0) (cI 5) modI) ixD) (jb (ji 2 qx (jb (two (rdS 0) (cI 90) divI) (jb (rdS 1) nil1))) nil1))) (jb (tupF (jb (two (rdS 1) (cI 0) ixD) nil1)) nil1)))))))))))))))
def j5:List D->Res D:=runF false 8 (q9 (jv 16) qC)
def zr (jJ:FO):Sl->Res Out:=
 (seqO (jE 1 (lstF nil1)) (seqO (tryO ["NoRule"] (ub (Je "Rules" 1 jJ (jb (rdS 0) nil1))) 2 (seqO (jE 1 (lstF (jb (isxF ["NoRule"] (rdS 2)) (jb (isyF [("NoRule",true)] (rdS 2)) (jb (isyF [("NoRule",false)] (rdS 2)) (jb (isyF [("NoRule",false)] (rdS 2)) nil1)))))) (jE 1 (two (rdS 1) (lstF (jb (isyF [("NoRule",false)] (rdS 2)) nil1)) addD)))) (retO (two (rdS 1) (lstF (jb (cB true) (jb (cB true) (jb (cB false) (jb (cB false) (jb (cB false) nil1)))))) eqR))))
def jF:List D->Res D:=runF true 3 (zr jA)
def ja4 (xQ:TZ) (qS:TZ) (zP:TZ) (xP:TZ) (qw:TZ) (ju:TZ) (wc:TZ) (qK:TZ):Sl->Res Out:=
 (seqO (jE 1 (ji 1 xQ (jb (ji 2 zP (jb (two (two (rdS 0) (lstF (jb (cI 0) nil1)) addS) (cI 0) ixD) (jb (cI 0) nil1))) nil1))) (seqO (forO (Uc (zy (rdS 0) yG (yk (cI 6)) slS)) (g2 (gN 2) (gN 3)) (seqO (jE 4 (ji 2 zP (jb (rdS 3) (jb (two (rdS 2) (cI 1) addD) nil1)))) (seqO (jE 5 (ji 2 xP (jb (rdS 4) (jb (rdS 1) nil1)))) (seqO (ifO (notB (asB (ji 1 qS (jb (rdS 5) nil1)))) (retO (cB false)) nxO) (seqO (jE 6 (ji 2 qw (jb (ji 2 ju (jb (rdS 4) (jb (cI 5) nil1))) (jb (rdS 1) nil1)))) (seqO (setO 7 (app (jb (rdS 5) nil1) Xi)) (seqO (ifO (asB (two (app (jb (rdB 7) nil1) lenD) (cI 40) eqR)) (seqO (Vs 7 (two (two (rdS 4) (cI 60) divW) (cI 40) modI) (rdS 6)) (seqO (ifO (orB (notB (asB (ji 1 qS (jb (rdB 7) nil1)))) (notB (asB (ji 1 qK (jb (two (rdB 7) (lstF (jb (rdS 6) nil1)) addD) nil1))))) (retO (cB false)) nxO) (popE 7))) nxO) (seqO (JJ 7 (two (two (rdS 4) (cI 60) divW) (two (app (jb (rdB 7) nil1) lenD) (cI 1) addD) modI) (ji 3 wc (jb (ji 2 ju (jb (rdS 4) (jb (cI 6) nil1))) (jb (rdS 1) (jb (rdS 6) nil1))))) (seqO (ifO (orB (notB (asB (ji 1 qK (jb (rdB 7) nil1)))) (notB (asB (ji 1 qS (jb (rdS 5) nil1))))) (retO (cB false)) nxO) (ifO (notB (asB (ji 1 qK (jb (two (lstF (jb (app (jb (rdS 5) nil1) wn) (jb cN (jb cD (jb (cS "") (jb (cI 0) (jb (cB true) nil1))))))) (two (two (rdS 4) (cI 7) divW) (cI 6) modI) ixD) nil1)))) (retO (cB false)) nxO)))))))))) (retO (ji 1 qS (jb (lstF nil1) nil1)))))
def F_law:List D->Res D:=runF true 8 (ja4 zG qf qI zF j7 jt j5 jF)
structure Gm (K:aab) (T9 U7 U8 T7 T8:Addr) (mg:X8):Prop where
 b_isinstance:mg "isinstance" =none
 b_bool:mg "bool" =none
 b_int:mg "int" =none
 b_all:mg "all" =none
 b_len:mg "len" =none
 b_tuple:mg "tuple" =none
 b_list:mg "list" =none
 b_sorted:mg "sorted" =none
 b_set:mg "set" =none
 b_range:mg "range" =none
 b_divmod:mg "divmod" =none
 b_str:mg "str" =none
 b_ValueError:mg "ValueError" =none
 b_enumerate:mg "enumerate" =none
 c_LETTERS: ∃t,mg "LETTERS" =some (.str "abcdefghijklmnopqrstuvwxyz" t)
 c_MOST_LETTERS: ∃t,mg "MOST_LETTERS" =some (.int 8 t)
 c_MOST_PLACES: ∃t,mg "MOST_PLACES" =some (.int 9 t)
 c_MOST_BLANK: ∃t,mg "MOST_BLANK" =some (.int 999 t)
 c_MOST_LEVELS: ∃t,mg "MOST_LEVELS" =some (.int 60 t)
 c_MOST_PARTS: ∃t,mg "MOST_PARTS" =some (.int 1000 t)
 c_MOST_RULES: ∃t,mg "MOST_RULES" =some (.int 40 t)
 f_Rules_listed:FldN K "Rules" "listed"
 f_Rules_named:FldN K "Rules" "named"
 m_NoRule:mg "NoRule" =some (.ref T9)
 m_EndError:mg "EndError" =some (.ref U7)
 m_TooGreat:mg "TooGreat" =some (.ref U8)
 m_NoText:mg "NoText" =some (.ref T7)
 m_NoStep:mg "NoStep" =some (.ref T8)
 n_NoRule:NmC K "NoRule" T9
 q_NoRule:adC K T9 [.type "ValueError",.type "Exception",.type "BaseException",.type "object"] "ValueError.__new__" =true
 x_EndError: ∀c,[("NoRule" :Str)].contains c=true-> ∀C,NmC K c C->PySem.W.exmOne K (.ref C) (.ref U7)=some true
 i_ValueError: ∀c,[("NoRule" :Str)].contains c=true-> ∀C,NmC K c C->aaS K (.ref C) (.type "ValueError")=some true
 y_TooGreat: ∀c b,aa7 c [(("NoRule" :Str),false)]=some b-> ∀C,NmC K c C->ExcC K C/\aaS K (.ref C) (.ref U8)=some b
 y_NoText: ∀c b,aa7 c [(("NoRule" :Str),false)]=some b-> ∀C,NmC K c C->ExcC K C/\aaS K (.ref C) (.ref T7)=some b
 y_NoStep: ∀c b,aa7 c [(("NoRule" :Str),false)]=some b-> ∀C,NmC K c C->ExcC K C/\aaS K (.ref C) (.ref T8)=some b
 y_NoRule: ∀c b,aa7 c [(("NoRule" :Str),true)]=some b-> ∀C,NmC K c C->ExcC K C/\aaS K (.ref C) (.ref T9)=some b
def jgt:FnScope ["_law_number", "_law_letters", "_law_base", "_law_k", "_law_size", "_law_at", "_law_sign"] ["_law_number"] (jg xI):=fsc
def jgT:FnScope ["term"] ["term"] (jg ZJ):=fsc
def jgS:FnScope ["term", "found", "place"] ["term"] (jg X9):=fsc
def jgG:FnScope ["term"] ["term"] (jg ka):=fsc
def jgC:FnScope ["terms", "met", "term", "found"] ["terms"] (jg yy):=fsc
def jgQ:FnScope ["row", "below", "thing"] ["row"] (jg xh):=fsc
def jgJ:FnScope ["thing", "row", "depth", "counted"] ["thing"] (jg JC):=fsc
def jgO:FnScope ["thing"] ["thing"] (jg JA):=fsc
def jgI:FnScope ["thing"] ["thing"] (jg JD):=fsc
def jgK:FnScope ["thing"] ["thing"] (jg Qr):=fsc
def jgL:FnScope ["thing"] ["thing"] (jg JB):=fsc
def jgN:FnScope ["thing"] ["thing"] (jg Qp):=fsc
def jgF:FnScope ["term", "met", "found"] ["term"] (jg ZL):=fsc
def jgM:FnScope ["thing"] ["thing"] (jg Qq):=fsc
def jgD:FnScope ["thing"] ["thing"] (jg yx):=fsc
def jgk:FnScope ["self", "rules"] ["self", "rules"] (jg qZ):=fsc
def jgm:FnScope ["self"] ["self"] (jg wL):=fsc
def jgl:FnScope ["self"] ["self"] (jg qY):=fsc
def jgB:FnScope ["_law_found"] ["_law_found"] (jg xE):=fsc
def jgr:FnScope ["_law_term_here", "_law_found", "_law_place"] ["_law_term_here"] (jg xK):=fsc
def jgz:FnScope ["_law_good", "_law_handed", "_law_rules_here", "_law_first", "_law_tops", "_law_found", "_law_left", "_law_right"] ["_law_good"] (jg xF):=fsc
def jgy:FnScope ["_law_cell", "_law_k", "_law_big"] ["_law_cell", "_law_k"] (jg xi):=fsc
def jgs:FnScope ["_law_number", "_law_k", "_law_mixed_here"] ["_law_number", "_law_k"] (jg xJ):=fsc
def jgA:FnScope ["_law_number", "_law_names_here", "_law_deep", "_law_free", "_law_kind", "_law_which", "_law_count"] ["_law_number", "_law_names_here", "_law_deep", "_law_free"] (jg yz):=fsc
def jgp:FnScope ["_law_term_here", "_law_found", "_law_place"] ["_law_term_here"] (jg xj):=fsc
def jgv:FnScope ["_law_number", "_law_names_here", "_law_free", "_law_left"] ["_law_number", "_law_names_here"] (jg yA):=fsc
def jgw:FnScope ["_law_number", "_law_names_here", "_law_way", "_law_some", "_law_count"] ["_law_number", "_law_names_here"] (jg xH):=fsc
def jgx:FnScope ["_law_name", "_law_high", "_law_term_here", "_law_k"] ["_law_name", "_law_high"] (jg xG):=fsc
def jgq:FnScope ["_law_name", "_law_term_here", "_law_k"] ["_law_name"] (jg yB):=fsc
def jgo:FnScope ["_law_number", "_law_names_here", "_law_name", "_law_some"] ["_law_number", "_law_names_here"] (jg zX):=fsc
def jgn:FnScope ["_law_number", "_law_names_here", "_law_good", "_law_there", "_law_lacking", "_law_way", "_law_left", "_law_right"] ["_law_number", "_law_names_here", "_law_good"] (jg zY):=fsc
def jgu:FnScope ["_law_handed", "_law_kinds", "e"] ["_law_handed"] (jg wK):=fsc
def jgP:FnScope ["_law_script", "_law_names_here", "_law_k", "_law_cell", "_law_number", "_law_good", "_law_spare", "_law_bad"] ["_law_script"] (jg ZK):=fsc
section
variable (P:aaH) (w:World) (K:aab) (mg:X8) (base:Heap) (k:Nat)
abbrev xZ (f:TZ):Prop:=Av P w K mg base k "_law_names" ["_law_number"] true f
abbrev Qj (f:TZ):Prop:=Av P w K mg base k "places" ["term"] true f
abbrev JU (f:TZ):Prop:=Av P w K mg base k "parts" ["term"] true f
abbrev uP (f:TZ):Prop:=Av P w K mg base k "head" ["term"] true f
abbrev yS (f:TZ):Prop:=Av P w K mg base k "all_heads" ["terms"] true f
abbrev xu (f:TZ):Prop:=Av P w K mg base k "level_below" ["row"] true f
abbrev JX (f:TZ):Prop:=Av P w K mg base k "is_great" ["thing"] true f
abbrev JV (f:TZ):Prop:=Av P w K mg base k "is_whole" ["thing"] true f
abbrev JY (f:TZ):Prop:=Av P w K mg base k "is_blank" ["thing"] true f
abbrev Q9 (f:TZ):Prop:=Av P w K mg base k "is_name" ["thing"] true f
abbrev JW (f:TZ):Prop:=Av P w K mg base k "is_piece" ["thing"] true f
abbrev Q7 (f:TZ):Prop:=Av P w K mg base k "is_term" ["thing"] true f
abbrev WF (f:TZ):Prop:=Av P w K mg base k "blanks" ["term"] true f
abbrev Q8 (f:TZ):Prop:=Av P w K mg base k "is_rule" ["thing"] true f
abbrev yR (f:TZ):Prop:=Av P w K mg base k "are_rules" ["thing"] true f
abbrev qr (f:FO):Prop:=AvKX P w K mg base k "Rules" 1 f
abbrev wU (f:TZ):Prop:=AvM P w K mg base k "Rules" "told" ["self"] true f
abbrev zf (f:TZ):Prop:=AvM P w K mg base k "Rules" "heads_of" ["self"] true f
abbrev zD (f:TZ):Prop:=Av P w K mg base k "_law_whole" ["_law_found"] true f
abbrev wG (f:TZ):Prop:=Av P w K mg base k "_law_heads" ["_law_term_here"] true f
abbrev xW (f:TZ):Prop:=Av P w K mg base k "_law_taken" ["_law_good"] true f
abbrev xw (f:TZ):Prop:=Av P w K mg base k "_law_spread" ["_law_cell", "_law_k"] true f
abbrev qU (f:TZ):Prop:=Av P w K mg base k "_law_mixed" ["_law_number", "_law_k"] true f
abbrev xv (f:TZ):Prop:=Av P w K mg base k "_law_term" ["_law_number", "_law_names_here", "_law_deep", "_law_free"] false f
abbrev ze (f:TZ):Prop:=Av P w K mg base k "_law_blanks" ["_law_term_here"] true f
abbrev xx (f:TZ):Prop:=Av P w K mg base k "_law_rule" ["_law_number", "_law_names_here"] true f
abbrev xY (f:TZ):Prop:=Av P w K mg base k "_law_rules" ["_law_number", "_law_names_here"] true f
abbrev xX (f:TZ):Prop:=Av P w K mg base k "_law_spine" ["_law_name", "_law_high"] false f
abbrev yT (f:TZ):Prop:=Av P w K mg base k "_law_bush" ["_law_name"] true f
abbrev we (f:TZ):Prop:=Av P w K mg base k "_law_bad_term" ["_law_number", "_law_names_here"] false f
abbrev wf (f:TZ):Prop:=Av P w K mg base k "_law_bad_rule" ["_law_number", "_law_names_here", "_law_good"] false f
abbrev wT (f:TZ):Prop:=Av P w K mg base k "_law_refused" ["_law_handed"] true f
end
section
variable {P:aaH} {w:World} {K:aab} {mg:X8} {base:Heap} {k:Nat} {C:Addr} {T9 U7 U8 T7 T8:Addr}
variable (T:Gm K T9 U7 U8 T7 T8 mg)
include T
theorem ZY (d:Dx K mg "_law_names" xI ["_law_number"]):
  xZ P w K mg base (k+1) (runF true 7 (wB)):=
 zc true d jgt fun f cdv A outer s H E hr=>
  (jf (by exact (jC 1 jgt.nd (Js (l:= .s)))) (by exact (jf (by exact (yp (DE.s (zx qi zb rfl T.b_divmod j6 (ja (dv 0) (ja i_s jd)))) (wE rfl (jq 0 jgt.nd) (jq 4 jgt.nd)))) (by exact (jf (by exact (yp (DE.s (zx qi zb rfl T.b_divmod j6 (ja (dv 0) (ja (by exact (DE.s (jK jB jP (dv 4) i_s))) jd)))) (wE rfl (jq 0 jgt.nd) (jq 5 jgt.nd)))) (by exact (jf (by exact (jC 2 jgt.nd (Js (l:= .s)))) (by exact (jf (by exact (xB abm rfl (zB rfl T.b_range (ja (by exact (DE.b (jK jB jP (dv 4) i_s))) jd)) (jq 3 jgt.nd) (jf (by exact (yp (DE.s (zx qi zb rfl T.b_divmod j6 (ja (dv 0) (ja i_s jd)))) (wE rfl (jq 0 jgt.nd) (jq 6 jgt.nd)))) (by exact (jh (jC 2 jgt.nd (DE.s (jK jB jP (dv 2) (wd (dv 1) (vb 6)))))))))) (by exact (jh (jD (wP false ["_law_k", "_law_base", "_law_letters", "_law_at", "_law_number", "."] 1 [2,1,5,0] (wQ none rfl rfl (by decide+kernel) ⟨rfl,rfl,rfl,rfl,trivial⟩ rfl) rfl (zB rfl T.b_range (ja ib jd)) (fun C s₂ H₂ fp nd₂=>⟨(jq 0 nd₂),wO,(DE.s (jK jB jP (DE.s (jK jB jP (DE.s (yh (dv 1) yN (yM (vb 3)))) (wd (dv 2) (Jc (DE.b (jK jB jP (dv 4) (o_s xk y9 ib (vb 0)))) ib)))) (DE.s (yh (dv 1) (yM (DE.b (jK jB jP (dv 3) i_s))) yN))))⟩))))))))))))))
theorem kK (d:Dx K mg "places" ZJ ["term"]):
  Qj P w K mg base (k+1) (runF true 1 (KI)):=
 zc true d jgT fun f cdv A outer s H E hr=>
  (jh (jD (jbZ (qy (wF (l':= .b) "tuple" "tuple" zn (vb 0) rfl T.b_isinstance rfl T.b_tuple aaQ)) (yh (dv 0) (yM ib) yN) (jR jd))))
theorem jay (d:Dx K mg "parts" X9 ["term"]) (WH:Qj P w K mg base k xq) (yU:JU P w K mg base k qP):
  JU P w K mg base (k+1) (runF true 3 (QS xq qP)):=
 zc true d jgS fun f cdv A outer s H E hr=>
  (jf (by exact (yo 1 jgS.nd (jN (ja (dv 0) jd)))) (by exact (jf (by exact (xB abm rfl (xc (DE.s (by exact Av.callT WH hr (ja (dv 0) jd)))) (jq 2 jgS.nd) (jh (Jr 1 (DE.s (by exact Av.callT yU hr (ja (dv 2) jd))))))) (by exact (jh (Ws 1))))))
theorem jcE (d:Dx K mg "head" ka ["term"]):
  uP P w K mg base (k+1) (runF true 1 (KJ)):=
 zc true d jgG fun f cdv A outer s H E hr=>
  (jh (jD (jbZ (qy (wF (l':= .b) "tuple" "tuple" zn (vb 0) rfl T.b_isinstance rfl T.b_tuple aaQ)) (jR (ja (by exact (wd (dv 0) ib)) (ja (by exact (o_s W7 Xd (qF (l':= .b) qL yq rfl T.b_len abY (ja (vb 0) jd)) ib)) jd))) (XC (l:= .t)))))
theorem W9 (d:Dx K mg "all_heads" yy ["terms"]) (yU:JU P w K mg base k qP) (jfv:uP P w K mg base k vM):
  yS P w K mg base (k+1) (runF true 4 (xn qP vM)):=
 zc true d jgC fun f cdv A outer s H E hr=>
  (jf (by exact (yo 1 jgC.nd ui)) (by exact (jf (by exact (xB abm rfl (xc (dv 0)) (jq 2 jgC.nd) (jh (xB abm rfl (xc (DE.s (by exact Av.callT yU hr (ja (dv 2) jd)))) (jq 3 jgC.nd) (jh (zq (qy (wF (l':= .b) "tuple" "tuple" zn (vb 3) rfl T.b_isinstance rfl T.b_tuple aaQ)) (jh (jbi 1 (je3 hr) (DE.b (by exact Av.callT jfv hr (ja (dv 3) jd))) (wm (l:= .s)))) jM)))))) (by exact (jh (jbV 1 (jD (zx (XH rfl) Ui rfl T.b_sorted XM (ja (dv 1) jd)))))))))
theorem Zc (d:Dx K mg "level_below" xh ["row"]) (WH:Qj P w K mg base k xq):
  xu P w K mg base (k+1) (runF true 3 (zN xq)):=
 zc true d jgQ fun f cdv A outer s H E hr=>
  (jf (by exact (yo 1 jgQ.nd (jN jd))) (by exact (jf (by exact (xB abm rfl (xc (dv 0)) (jq 2 jgQ.nd) (jh (Jr 1 (DE.s (by exact Av.callT WH hr (ja (dv 2) jd))))))) (by exact (jh (Ws 1))))))
theorem Yo (d:Dx K mg "is_great" JC ["thing"]) (WI:xu P w K mg base k xr):
  JX P w K mg base (k+1) (runF true 4 (yc xr)):=
 zc true d jgJ fun f cdv A outer s H E hr=>
  (jf (by exact (jC 1 jgJ.nd (DE.s (jN (ja (dv 0) jd))))) (by exact (jf (by exact (jC 2 jgJ.nd i_s)) (by exact (jf (by exact (jC 3 jgJ.nd i_s)) (by exact (jf (by exact (KZ 2000 abm (jfd (vb 1)) (jf (by exact (jbW 2 jgJ.nd ib jbO)) (by exact (jf (by exact (jbW 3 jgJ.nd (qF (l':= .b) qL yq rfl T.b_len abY (ja (vb 1) jd)) jbO)) (by exact (jf (by exact (zq (DW.dt (QZ (qT jcz jcG (vb 2) (gi rfl T.c_MOST_LEVELS)) (ym (qT jcz jcG (vb 3) (gi rfl T.c_MOST_PARTS))))) (jh (jD (wm (l:= .t)))) jM)) (by exact (jh (jC 1 jgJ.nd (DE.s (by exact Av.callT WI hr (ja (dv 1) jd))))))))))))) (by exact (jh (jD (wm (l:= .t))))))))))))
theorem Ym (d:Dx K mg "is_whole" JA ["thing"]):
  JV P w K mg base (k+1) (runF true 1 (Zv)):=
 zc true d jgO fun f cdv A outer s H E hr=>
  (jh (jD (ZB (wF (l':= .b) "int" "int" Ky (vb 0) rfl T.b_isinstance rfl T.b_int afa) (ZA (uf (l:= .t) (wF (l':= .b) "bool" "bool" Xp (vb 0) rfl T.b_isinstance rfl T.b_bool ae2))))))
theorem Yp (d:Dx K mg "is_blank" JD ["thing"]) (Us:JV P w K mg base k JL):
  JY P w K mg base (k+1) (runF true 1 (yd JL)):=
 zc true d jgI fun f cdv A outer s H E hr=>
  (jh (jD (ZB (DE.b (by exact Av.callT Us hr (ja (dv 0) jd))) (ZA (K4 (l:= .t) VE VI VE VI ib (vb 0) (gi rfl T.c_MOST_BLANK))))))
theorem VH (d:Dx K mg "is_name" Qr ["thing"]):
  Q9 P w K mg base (k+1) (runF true 1 (xN)):=
 zc true d jgK fun f cdv A outer s H E hr=>
  (jf (by exact (zq (DW.dt (QZ (zA (qy (wF (l':= .b) "str" "str" jaT (vb 0) rfl T.b_isinstance rfl T.b_str PyProof.Rows.boot_str))) (ym (zA (jbc VE VI VE VI ib (qF (l':= .b) qL yq rfl T.b_len abY (ja (vb 0) jd)) (gi rfl T.c_MOST_LETTERS)))))) (jh (jD (wm (l:= .t)))) jM)) (by exact (jh (jD (qF (l':= .t) (Q2 rfl) uw rfl T.b_all ad3 (ja (by exact (DE.b (wP false ["sign", "."] 1 [] (wQ none rfl rfl (by decide+kernel) trivial rfl) rfl (xc (dv 0)) (fun C s₂ H₂ fp nd₂=>⟨(jq 0 nd₂),wO,(K3 (l:= .s) kJ jeG (vb 0) (gst rfl T.c_LETTERS))⟩)))) jd))))))
theorem Yn (d:Dx K mg "is_piece" JB ["thing"]) (Uv:JY P w K mg base k JO) (uR:Q9 P w K mg base k QY):
  JW P w K mg base (k+1) (runF true 1 (wZ JO QY)):=
 zc true d jgL fun f cdv A outer s H E hr=>
  (jf (by exact (zq (qy (wF (l':= .b) "tuple" "tuple" zn (vb 0) rfl T.b_isinstance rfl T.b_tuple aaQ)) (jh (jD (ZB (K4 (l:= .b) VE VI VE VI ib (qF (l':= .b) qL yq rfl T.b_len abY (ja (vb 0) jd)) (DE.b (jK jB jP (gis rfl T.c_MOST_PLACES) i_s))) (ZA (by exact Av.callT uR hr (ja (by exact (wd (dv 0) ib)) jd)))))) jM)) (by exact (jh (jD (by exact Av.callT Uv hr (ja (dv 0) jd))))))
theorem VF (d:Dx K mg "is_term" Qp ["thing"]) (Uu:JX P w K mg base k JN) (Ut:JW P w K mg base k JM) (yU:JU P w K mg base k qP):
  Q7 P w K mg base (k+1) (runF true 1 (Jj JN JM qP)):=
 zc true d jgN fun f cdv A outer s H E hr=>
  (jh (jD (ZB (uf (l:= .b) (DE.b (by exact Av.callT Uu hr (ja (dv 0) jd)))) (ZA (qF (l':= .t) (Q2 rfl) uw rfl T.b_all ad3 (ja (by exact (DE.b (wP false ["found", "."] 1 [] (wQ none rfl rfl (by decide+kernel) trivial rfl) rfl (xc (DE.s (by exact Av.callT yU hr (ja (dv 0) jd)))) (fun C s₂ H₂ fp nd₂=>⟨(jq 0 nd₂),wO,(DE.s (by exact Av.callT Ut hr (ja (dv 0) jd)))⟩)))) jd))))))
theorem kL (d:Dx K mg "blanks" ZL ["term"]) (yU:JU P w K mg base k qP):
  WF P w K mg base (k+1) (runF true 3 (Qf qP)):=
 zc true d jgF fun f cdv A outer s H E hr=>
  (jf (by exact (yo 1 jgF.nd Wv)) (by exact (jf (by exact (xB abm rfl (xc (DE.s (by exact Av.callT yU hr (ja (dv 0) jd)))) (jq 2 jgF.nd) (jh (zq (zA (qy (wF (l':= .b) "tuple" "tuple" zn (vb 2) rfl T.b_isinstance rfl T.b_tuple aaQ))) (jh (jdl 1 (je3 hr) (vb 2) (wm (l:= .s)))) jM)))) (by exact (jh (jbV 1 (jD (qm (Uk rfl) jbp rfl T.b_list qH (ja (dv 1) jd)))))))))
theorem VG (d:Dx K mg "is_rule" Qq ["thing"]) (XX:Q7 P w K mg base k Jn) (Vf:WF P w K mg base k Qg):
  Q8 P w K mg base (k+1) (runF true 1 (zz Jn Qg)):=
 zc true d jgM fun f cdv A outer s H E hr=>
  (jf (by exact (zq (DW.dt (QZ (zA (qy (wF (l':= .b) "tuple" "tuple" zn (vb 0) rfl T.b_isinstance rfl T.b_tuple aaQ))) (ym (qT (Ko (Room.u200 hr)) jaB (qF (l':= .b) qL yq rfl T.b_len abY (ja (vb 0) jd)) ib)))) (jh (jD (wm (l:= .t)))) jM)) (by exact (jf (by exact (zq (DW.dt (QZ (zA (qy (DE.b (by exact Av.callT XX hr (ja (by exact (wd (dv 0) ib)) jd))))) (QZ (zA (qy (DE.b (by exact Av.callT XX hr (ja (by exact (wd (dv 0) ib)) jd))))) (ym (zA (qy (wF (l':= .b) "tuple" "tuple" zn (DE.b (wd (dv 0) ib)) rfl T.b_isinstance rfl T.b_tuple aaQ))))))) (jh (jD (wm (l:= .t)))) jM)) (by exact (jh (jD (jdq (l:= .t) rfl (by exact (DE.b (by exact Av.callT Vf hr (ja (by exact (wd (dv 0) ib)) jd)))) (by exact (DE.b (by exact Av.callT Vf hr (ja (by exact (wd (dv 0) ib)) jd)))) rfl T.b_len rfl T.b_set)))))))
theorem W8 (d:Dx K mg "are_rules" yx ["thing"]) (uQ:Q8 P w K mg base k QX):
  yR P w K mg base (k+1) (runF true 1 (zo QX)):=
 zc true d jgD fun f cdv A outer s H E hr=>
  (jf (by exact (zq (DW.dt (QZ (zA (qy (jds (l':= .b) "list" "list" QM (vb 0) rfl T.b_isinstance rfl T.b_list qH))) (ym (qT jcz jcG (qF (l':= .b) qL yq rfl T.b_len abY (ja (vb 0) jd)) (gi rfl T.c_MOST_RULES))))) (jh (jD (wm (l:= .t)))) jM)) (by exact (jh (jD (qF (l':= .t) (Q2 rfl) uw rfl T.b_all ad3 (ja (by exact (DE.b (wP false ["rule", "."] 1 [] (wQ none rfl rfl (by decide+kernel) trivial rfl) rfl (xc (dv 0)) (fun C s₂ H₂ fp nd₂=>⟨(jq 0 nd₂),wO,(DE.s (by exact Av.callT uQ hr (ja (dv 0) jd)))⟩)))) jd))))))
theorem yF (d:Dm K C "__init__" "Rules.__init__" qZ ["self", "rules"]) (hC:aaz K aaw "Rules" =some (some (.ref C))/\Cls K C) (hmg:mg "Rules" =some (.ref C)) (mk:adx K C=true/\abg K (.ref C)=true) (YY:yS P w K mg base k yJ) (YX:yR P w K mg base k yI):
  qr P w K mg base (k+1) (ZM 2 1 (jU yJ yI)):=
 jdF d hC hmg mk jgk rfl (by decide) fun f cdv A outer s H E hr=>
  (Ud (by exact (jdj (zA (qy (DE.b (by exact Av.callT YX hr (ja (dv 1) jd))))) (v0 (Ue T.n_NoRule T.m_NoRule T.q_NoRule PySem.F.excBase_ValueError (Js (l:= .b)) (fun _=>⟨_,rfl⟩))) (DSsO.x jbg))) (by exact (v8 (by exact (KY (i:=0) T.f_Rules_listed (by exact (DE.s (qm zC jbo rfl T.b_list qH (ja (dv 1) jd)))))) (by exact (jbf (KY (i:=0) T.f_Rules_named (by exact (DE.s (by exact Av.callT YY hr (ja (by exact (DE.s (jK jB jP (DE.s (wP false ["left", "right", "."] 2 [] (wQ none rfl rfl (by decide+kernel) trivial rfl) rfl (xc (dv 1)) (fun C s₂ H₂ fp nd₂=>⟨(wE rfl (jq 0 nd₂) (jq 1 nd₂)),wO,(dv 0)⟩))) (DE.s (wP false ["left", "right", "."] 2 [] (wQ none rfl rfl (by decide+kernel) trivial rfl) rfl (xc (dv 1)) (fun C s₂ H₂ fp nd₂=>⟨(wE rfl (jq 0 nd₂) (jq 1 nd₂)),wO,(dv 1)⟩)))))) jd))))))))))
theorem QA (d:Dm K C "told" "Rules.told" wL ["self"]) (hC:aaz K aaw "Rules" =some (some (.ref C))/\Cls K C):
  wU P w K mg base (k+1) (runF true 1 (zt)):=
 jb2 true d hC jgm fun f cdv A outer s H E hr=>
  (jh (jD (qm zC JR rfl T.b_list qH (ja (by exact (uh 0 T.f_Rules_listed)) jd))))
theorem yE (d:Dm K C "heads_of" "Rules.heads_of" qY ["self"]) (hC:aaz K aaw "Rules" =some (some (.ref C))/\Cls K C):
  zf P w K mg base (k+1) (runF true 1 (qo)):=
 jb2 true d hC jgl fun f cdv A outer s H E hr=>
  (jh (jD (qm zC JR rfl T.b_list qH (ja (by exact (uh 0 T.f_Rules_named)) jd))))
theorem ZU (d:Dx K mg "_law_whole" xE ["_law_found"]):
  zD P w K mg base (k+1) (runF true 1 (J4)):=
 zc true d jgB fun f cdv A outer s H E hr=>
  (jh (jD (ZB (wF (l':= .b) "int" "int" Ky (vb 0) rfl T.b_isinstance rfl T.b_int afa) (ZA (uf (l:= .t) (wF (l':= .b) "bool" "bool" Xp (vb 0) rfl T.b_isinstance rfl T.b_bool ae2))))))
theorem Z0 (d:Dx K mg "_law_heads" xK ["_law_term_here"]) (zH:zD P w K mg base k jQ) (wI:wG P w K mg base k qe):
  wG P w K mg base (k+1) (runF true 3 (wD jQ qe)):=
 zc true d jgr fun f cdv A outer s H E hr=>
  (jf (by exact (zq (qy (DE.b (by exact Av.callT zH hr (ja (dv 0) jd)))) (jh (jD (jN jd))) jM)) (by exact (jf (by exact (yo 1 jgr.nd (jN (ja (by exact (DE.s (jR (ja (by exact (wd (dv 0) ib)) (ja (by exact (o_s W7 Xd (qF (l':= .b) qL yq rfl T.b_len abY (ja (vb 0) jd)) ib)) jd))))) jd)))) (by exact (jf (by exact (xB abm rfl (xc (DE.s (yh (dv 0) (yM ib) yN))) (jq 2 jgr.nd) (jh (Jr 1 (DE.s (by exact Av.callT wI hr (ja (dv 2) jd))))))) (by exact (jh (Ws 1))))))))
theorem ZV (d:Dx K mg "_law_taken" xF ["_law_good"]) {j3:Nat} (zi:qr P w K mg base j3 jJ) (qO:j3+1<=k) (yt:wU P w K mg base k zu) (wJ:zf P w K mg base k qp) (wI:wG P w K mg base k qe):
  xW P w K mg base (k+1) (runF true 8 (wz jJ zu qp qe)):=
 zc true d jgz fun f cdv A outer s H E hr=>
  (jf (by exact (yo 1 jgz.nd (qm zC JR rfl T.b_list qH (ja (dv 0) jd)))) (by exact (jf (by exact (jC 2 jgz.nd (DE.s (DE.lendT 1 (DEX.calm (by exact AvKX.make zi (hr.mono qO) (ja (dv 1) jd))))))) (by exact (jf (by exact (K0 1)) (by exact (jf (by exact (yo 3 jgz.nd (by exact AvM.call0T yt hr (dv 2)))) (by exact (jf (by exact (zq (DW.dt (QZ (zA (qy (wF (l':= .b) "list" "list" QM (db 3) rfl T.b_isinstance rfl T.b_list qH))) (ym (qT (Ko (Room.u200 hr)) jaB (db 3) (vb 0))))) (jh (jD (wm (l:= .t)))) jM)) (by exact (jf (by exact (ua 3 i_s)) (by exact (jf (by exact (jC 4 jgz.nd (DE.s (jN jd)))) (by exact (jf (by exact (xB abm rfl (xc (dv 0)) (wE rfl (jq 6 jgz.nd) (jq 7 jgz.nd)) (jh (jC 4 jgz.nd (DE.s (jK jB jP (DE.s (jK jB jP (dv 4) (DE.s (by exact Av.callT wI hr (ja (dv 6) jd))))) (DE.s (by exact Av.callT wI hr (ja (dv 7) jd))))))))) (by exact (jf (by exact (yo 5 jgz.nd (by exact AvM.call0T wJ hr (dv 2)))) (by exact (jf (by exact (zq (DW.dt (QZ (zA (qy (wF (l':= .b) "list" "list" QM (db 5) rfl T.b_isinstance rfl T.b_list qH))) (ym (qT (Ko (Room.u200 hr)) jaB (db 5) (DE.b (Zz rfl (Room.u200 hr) (vb 4) rfl T.b_sorted rfl T.b_set)))))) (jh (jD (wm (l:= .t)))) jM)) (by exact (jf (by exact (K0 5)) (by exact (jh (jD (ZB (K3 (l:= .b) (wy (Room.u200 hr)) Jb (DE.b (by exact AvM.call0T wJ hr (dv 2))) (DE.b (Zz rfl (Room.u200 hr) (vb 4) rfl T.b_sorted rfl T.b_set))) (ZA (K3 (l:= .t) (wy (Room.u200 hr)) Jb (DE.b (by exact AvM.call0T yt hr (dv 2))) (vb 0))))))))))))))))))))))))))))
theorem Zd (d:Dx K mg "_law_spread" xi ["_law_cell", "_law_k"]):
  xw P w K mg base (k+1) (runF true 3 (zO)):=
 zc true d jgy fun f cdv A outer s H E hr=>
  (jf (by exact (jC 2 jgy.nd (DE.s (jK jB jP (o_s Kn Kq ib ib) i_s)))) (by exact (jh (jD (YL (l:= .t) y8 Ja (DE.b (jK jB jP (o_s xk y9 (Jc (vb 0) (vb 2)) ib) (o_s xk y9 (DE.b (jK jB jP (DE.s (jK jB jP (o_s xk y9 (vb 1) (vb 1)) (o_s xk y9 ib (vb 1)))) i_s)) ib))) (vb 2))))))
theorem ZZ (d:Dx K mg "_law_mixed" xJ ["_law_number", "_law_k"]):
  qU P w K mg base (k+1) (runF true 3 (wC)):=
 zc true d jgs fun f cdv A outer s H E hr=>
  (jf (by exact (jC 2 jgs.nd (o_s y8 Ja (DE.b (jK jB jP (o_s xk y9 (vb 0) ib) (o_s xk y9 (DE.b (jK jB jP (dv 1) i_s)) ib))) (DE.b (jK jB jP (o_s Kn Kq ib ib) i_s))))) (by exact (jh (jD (YL (l:= .t) y8 Ja (ob xk y9 (vb 2) (vb 2)) (DE.b (jK jB jP (o_s Kn Kq ib ib) i_s)))))))
theorem Xa (d:Dx K mg "_law_term" yz ["_law_number", "_law_names_here", "_law_deep", "_law_free"]) (xy:xv P w K mg base k qv) (jX:qU P w K mg base k ju):
  xv P w K mg base (k+1) (runF false 7 (zp qv ju)):=
 zc false d jgA fun f cdv A outer s H E hr=>
  (jf (by exact (yp (DE.s (zx qi zb rfl T.b_divmod j6 (ja (dv 0) (ja i_s jd)))) (wE rfl (jq 0 jgA.nd) (jq 4 jgA.nd)))) (by exact (jf (by exact (zq (DW.dt (jbU (qT (Ko (Room.u200 hr)) jaB (vb 3) (DE.b (jN jd))) (vZ (DW.dt (QZ (qT (wy (Room.u200 hr)) Jb (vb 4) ib) (ym (DW.dt (jbU (qT (wy (Room.u200 hr)) Jb (vb 2) ib) (vZ (qT jfT jfW (vb 4) ib)))))))))) (jh (Wt (wd (dv 3) (Jc (vb 0) (qF (l':= .b) qL yq rfl T.b_len abY (ja (vb 3) jd)))))) jM)) (by exact (jf (by exact (yp (DE.s (zx qi zb rfl T.b_divmod j6 (ja (dv 0) (ja i_s jd)))) (wE rfl (jq 0 jgA.nd) (jq 5 jgA.nd)))) (by exact (jf (by exact (yp (DE.s (zx qi zb rfl T.b_divmod j6 (ja (dv 0) (ja i_s jd)))) (wE rfl (jq 0 jgA.nd) (jq 6 jgA.nd)))) (by exact (jf (by exact (zq (qT (wy (Room.u200 hr)) Jb (vb 2) ib) (jh (jC 6 jgA.nd i_s)) jM)) (by exact (jh (jD (qm qG yi rfl T.b_tuple aaQ (ja (by exact (DE.s (jK jB jP (DE.s (jN (ja (by exact (wd (dv 1) (vb 5))) jd))) (DE.s (wP false ["_law_k", "_law_names_here", "_law_free", "_law_number", "_law_deep", "."] 1 [1,3,0,2] (wQ none rfl rfl (by decide+kernel) ⟨rfl,rfl,rfl,rfl,trivial⟩ rfl) rfl (zB rfl T.b_range (ja (vb 6) jd)) (fun C s₂ H₂ fp nd₂=>⟨(jq 0 nd₂),wO,(by exact Av.call xy hr (ja (by exact (DE.s (by exact Av.callT jX hr (ja (dv 3) (ja (dv 0) jd))))) (ja (dv 1) (ja (by exact (o_s W7 Xd (vb 4) ib)) (ja (dv 2) jd)))))⟩)))))) jd))))))))))))))
theorem Ze (d:Dx K mg "_law_blanks" xj ["_law_term_here"]) (zH:zD P w K mg base k jQ) (zh:ze P w K mg base k jI):
  ze P w K mg base (k+1) (runF true 3 (qE jQ jI)):=
 zc true d jgp fun f cdv A outer s H E hr=>
  (jf (by exact (zq (qy (DE.b (by exact Av.callT zH hr (ja (dv 0) jd)))) (jh (jD (jN (ja (dv 0) jd)))) jM)) (by exact (jf (by exact (yo 1 jgp.nd (jN jd))) (by exact (jf (by exact (xB abm rfl (xc (DE.s (yh (dv 0) (yM ib) yN))) (jq 2 jgp.nd) (jh (Jr 1 (DE.s (by exact Av.callT zh hr (ja (dv 2) jd))))))) (by exact (jh (Ws 1))))))))
theorem Xb (d:Dx K mg "_law_rule" yA ["_law_number", "_law_names_here"]) (xy:xv P w K mg base k qv) (zH:zD P w K mg base k jQ) (jX:qU P w K mg base k ju) (zh:ze P w K mg base k jI):
  xx P w K mg base (k+1) (runF true 4 (xo qv jQ ju jI)):=
 zc true d jgv fun f cdv A outer s H E hr=>
  (jf (by exact (jC 2 jgv.nd (DE.s (jN (ja (by exact (o_s y8 Ja (vb 0) ib)) (ja (by exact (o_s y8 Ja (DE.b (jK jB jP (DE.s (jK jB jP (dv 0) i_s)) (o_s y8 Ja (kN (vb 0) ib) ib))) ib)) jd)))))) (by exact (jf (by exact (jC 3 jgv.nd (by exact Av.call xy hr (ja (by exact (DE.s (by exact Av.callT jX hr (ja (dv 0) (ja i_s jd))))) (ja (dv 1) (ja i_s (ja (dv 2) jd))))))) (by exact (jf (by exact (zq (qy (DE.b (by exact Av.callT zH hr (ja (dv 3) jd)))) (jh (jC 3 jgv.nd (DE.s (jR (ja (by exact (wd (dv 1) (Jc (kN (vb 0) (jfX ib ib)) ib))) (ja (dv 3) (ja (by exact (wd (dv 2) ib)) jd))))))) jM)) (by exact (jh (jD (jR (ja (dv 3) (ja (by exact (by exact Av.call xy hr (ja (by exact (DE.s (by exact Av.callT jX hr (ja (dv 0) (ja i_s jd))))) (ja (dv 1) (ja i_s (ja (by exact (DE.s (by exact Av.callT zh hr (ja (dv 3) jd)))) jd)))))) jd)))))))))))
theorem ZX (d:Dx K mg "_law_rules" xH ["_law_number", "_law_names_here"]) (xz:xx P w K mg base k qw) (jX:qU P w K mg base k ju):
  xY P w K mg base (k+1) (runF true 5 (qR qw ju)):=
 zc true d jgw fun f cdv A outer s H E hr=>
  (jf (by exact (yp (DE.s (zx qi zb rfl T.b_divmod j6 (ja (dv 0) (ja i_s jd)))) (wE rfl (jq 0 jgw.nd) (jq 2 jgw.nd)))) (by exact (jf (by exact (zq (qT (wy (Room.u200 hr)) Jb (vb 2) ib) (jf (by exact (jC 3 jgw.nd (DE.s (wP false ["_law_k", "_law_names_here", "_law_number", "."] 1 [1,0] (wQ none rfl rfl (by decide+kernel) ⟨rfl,rfl,trivial⟩ rfl) rfl (zB rfl T.b_range (ja ib jd)) (fun C s₂ H₂ fp nd₂=>⟨(jq 0 nd₂),wO,(DE.s (by exact Av.callT xz hr (ja (by exact (DE.s (by exact Av.callT jX hr (ja (dv 2) (ja (dv 0) jd))))) (ja (dv 1) jd))))⟩))))) (by exact (jh (jD (wP false ["_law_k", "_law_some", "."] 1 [3] (wQ none rfl rfl (by decide+kernel) ⟨rfl,trivial⟩ rfl) rfl (zB rfl T.b_range (ja ib jd)) (fun C s₂ H₂ fp nd₂=>⟨(jq 0 nd₂),wO,(wd (dv 1) (Jc (ob xk y9 (vb 0) (vb 0)) ib))⟩)))))) jM)) (by exact (jf (by exact (yp (DE.s (zx qi zb rfl T.b_divmod j6 (ja (dv 0) (ja i_s jd)))) (wE rfl (jq 0 jgw.nd) (jq 4 jgw.nd)))) (by exact (jh (jD (wP false ["_law_k", "_law_names_here", "_law_number", "."] 1 [1,0] (wQ none rfl rfl (by decide+kernel) ⟨rfl,rfl,trivial⟩ rfl) rfl (zB rfl T.b_range (ja (vb 4) jd)) (fun C s₂ H₂ fp nd₂=>⟨(jq 0 nd₂),wO,(DE.s (by exact Av.callT xz hr (ja (by exact (DE.s (by exact Av.callT jX hr (ja (dv 2) (ja (dv 0) jd))))) (ja (dv 1) jd))))⟩))))))))))
theorem ZW (d:Dx K mg "_law_spine" xG ["_law_name", "_law_high"]):
  xX P w K mg base (k+1) (runF false 4 (wA)):=
 zc false d jgx fun f cdv A outer s H E hr=>
  (jf (by exact (jC 2 jgx.nd (DE.s (jR (ja (dv 0) jd))))) (by exact (jf (by exact (xB abm rfl (zB rfl T.b_range (ja (by exact (ob W7 Xd (vb 1) ib)) jd)) (jq 3 jgx.nd) (jh (jC 2 jgx.nd (DE.s (jR (ja (dv 0) (ja (dv 2) jd)))))))) (by exact (jh (Wt (dv 2)))))))
theorem Xc (d:Dx K mg "_law_bush" yB ["_law_name"]):
  yT P w K mg base (k+1) (runF true 3 (xp)):=
 zc true d jgq fun f cdv A outer s H E hr=>
  (jf (by exact (jC 1 jgq.nd (DE.s (jR (ja (dv 0) jd))))) (by exact (jf (by exact (xB abm rfl (zB rfl T.b_range (ja ib jd)) (jq 2 jgq.nd) (jh (jC 1 jgq.nd (DE.s (qm qG yi rfl T.b_tuple aaQ (ja (by exact (DE.s (jK jB jP (DE.s (jN (ja (dv 0) jd))) (DE.s (jK Km Kp (DE.s (jN (ja (dv 1) jd))) i_s))))) jd))))))) (by exact (jh (jD (qm qG yi rfl T.b_tuple aaQ (ja (by exact (DE.s (jK jB jP (DE.s (jK jB jP (DE.s (jK jB jP (DE.s (jN (ja (dv 0) jd))) (DE.s (jN (ja (dv 1) (ja (by exact (DE.s (yh (dv 1) yN (yM ib)))) jd)))))) (DE.s (jK Km Kp (DE.s (jN (ja (by exact (DE.s (jR (ja (dv 0) jd)))) jd))) i_s)))) (DE.s (jN (ja (by exact (DE.s (jR (ja (dv 0) (ja (by exact (DE.s (jR (ja (dv 0) jd)))) jd))))) jd)))))) jd))))))))
theorem J7 (d:Dx K mg "_law_bad_term" zX ["_law_number", "_law_names_here"]) (XY:xX P w K mg base k xO) (YZ:yT P w K mg base k yK):
  we P w K mg base (k+1) (runF false 4 (q8 xO yK)):=
 zc false d jgo fun f cdv A outer s H E hr=>
  (jf (by exact (jC 2 jgo.nd (wd (dv 1) (Jc (vb 0) ib)))) (by exact (jf (by exact (jC 3 jgo.nd (DE.s (jN (ja (by exact (DE.s (jR (ja (Js (l:= .s)) jd)))) (ja (by exact (DE.s (jR (ja (Js (l:= .s)) jd)))) (ja (by exact (DE.s (jR (ja (Js (l:= .s)) jd)))) (ja (by exact (DE.s (jR (ja (Js (l:= .s)) jd)))) (ja (by exact (DE.s (jR (ja (dv 2) (ja (wm (l:= .s)) jd))))) (ja (by exact (DE.s (jR (ja (dv 2) (ja i_s jd))))) (ja (by exact (DE.s (jR (ja (dv 2) (ja (by exact (o_s W7 Xd (jfj (l':= .b) ib) (Jc (vb 0) ib))) jd))))) (ja (DE.s (jR jd)) jd)))))))))))) (by exact (jf (by exact (jC 3 jgo.nd (DE.s (jK jB jP (dv 3) (DE.s (jN (ja (by exact (DE.s (qm qG yi rfl T.b_tuple aaQ (ja (by exact (DE.s (jK jB jP (DE.s (jN (ja (dv 2) jd))) (DE.s (jK Km Kp (DE.s (jN (ja (by exact (DE.s (jR (ja (dv 2) jd)))) jd))) i_s))))) jd)))) (ja (by exact (DE.s (jN (ja (dv 2) jd)))) (ja (by exact (DE.s (jR (ja (dv 2) (ja (by exact (DE.s (jN (ja (dv 2) jd)))) jd))))) (ja (XC (l:= .s)) (ja (dv 2) (ja (by exact (DE.s (jR (ja (dv 2) (ja (XC (l:= .s)) jd))))) (ja (by exact (DE.s (jR (ja i_s (ja (by exact (DE.s (jR (ja (dv 2) jd)))) jd))))) jd))))))))))))) (by exact (jf (by exact (jC 3 jgo.nd (DE.s (jK jB jP (dv 3) (DE.s (jN (ja (by exact (by exact Av.call XY hr (ja (dv 2) (ja i_s jd)))) (ja (wm (l:= .s)) (ja (by exact (DE.s (qm qG yi rfl T.b_tuple aaQ (ja (by exact (DE.s (jK jB jP (DE.s (jN (ja (dv 2) jd))) (DE.s (jK Km Kp (DE.s (jN (ja (by exact (DE.s (by exact Av.callT YZ hr (ja (dv 2) jd)))) jd))) i_s))))) jd)))) jd))))))))) (by exact (jh (Wt (wd (dv 3) (Jc (ob Yl Yq (vb 0) ib) ib))))))))))))
theorem J8 (d:Dx K mg "_law_bad_rule" zY ["_law_number", "_law_names_here", "_law_good"]) (zh:ze P w K mg base k jI) (wl:we P w K mg base k qx):
  wf P w K mg base (k+1) (runF false 8 (q9 jI qx)):=
 zc false d jgn fun f cdv A outer s H E hr=>
  (jf (by exact (yp (DE.s (zx qi zb rfl T.b_divmod j6 (ja (dv 0) (ja i_s jd)))) (wE rfl (jq 0 jgn.nd) (jq 5 jgn.nd)))) (by exact (jf (by exact (yp (dv 2) (wE rfl (jq 6 jgn.nd) (jq 7 jgn.nd)))) (by exact (jf (by exact (jC 3 jgn.nd (DE.s (by exact Av.callT zh hr (ja (dv 6) jd))))) (by exact (jf (by exact (jC 4 jgn.nd (o_s y8 Ja (ob Yl Yq (vb 0) ib) ib))) (by exact (jf (by exact (KZ 2000 abm (qT (jeD (Room.u200 hr)) (jeH false) (vb 4) (vb 3)) (jh (jC 4 jgn.nd (o_s y8 Ja (DE.b (jK jB jP (dv 4) i_s)) ib))))) (by exact (jf (by exact (zq (qT (wy (Room.u200 hr)) Jb (vb 5) ib) (jh (jD (jR (ja (dv 4) (ja (dv 4) jd))))) jM)) (by exact (jf (by exact (zq (qT (wy (Room.u200 hr)) Jb (vb 5) ib) (jh (jD (jR (ja (dv 6) (ja (by exact (DE.s (jR (ja (by exact (wd (dv 1) (Jc (vb 0) ib))) (ja (dv 7) (ja (dv 4) jd)))))) jd))))) jM)) (by exact (jf (by exact (zq (qT (wy (Room.u200 hr)) Jb (vb 5) ib) (jh (jD (jN (ja (dv 6) (ja (dv 7) jd))))) jM)) (by exact (jf (by exact (zq (qT (wy (Room.u200 hr)) Jb (vb 5) ib) (jh (Wt (wd (DE.s (jN (ja (by exact (DE.s (jR (ja (dv 6) (ja (dv 7) (ja (dv 7) jd)))))) (ja (by exact (DE.s (jR (ja (dv 6) jd)))) (ja (DE.s (jR jd)) (ja (XC (l:= .s)) (ja (Js (l:= .s)) (ja (DE.s Wv) (ja i_s jd))))))))) (Jc (vb 0) ib)))) jM)) (by exact (jf (by exact (zq (qT (wy (Room.u200 hr)) Jb (vb 5) ib) (jh (jD (jR (ja (dv 6) (ja (by exact (by exact Av.call wl hr (ja (dv 0) (ja (dv 1) jd)))) jd))))) jM)) (by exact (jf (by exact (zq (qT (wy (Room.u200 hr)) Jb (vb 5) ib) (jh (jD (jR (ja (by exact (by exact Av.call wl hr (ja (dv 0) (ja (dv 1) jd)))) (ja (dv 7) jd))))) jM)) (by exact (jh (jD (jR (ja (by exact (DE.s (jR (ja (by exact (wd (dv 1) (Jc (vb 0) ib))) (ja (by exact (by exact Av.call wl hr (ja (by exact (o_s Yl Yq (vb 0) ib)) (ja (dv 1) jd)))) jd))))) (ja (by exact (DE.s (jR (ja (by exact (wd (dv 1) ib)) jd)))) jd)))))))))))))))))))))))))))
theorem Qz (d:Dx K mg "_law_refused" wK ["_law_handed"]) {j3:Nat} (zi:qr P w K mg base j3 jJ) (qO:j3+1<=k):
  wT P w K mg base (k+1) (runF true 3 (zr jJ)):=
 zc true d jgu fun f cdv A outer s H E hr=>
  (jf (by exact (jC 1 jgu.nd (DE.s (jN jd)))) (by exact (jf (by exact (jfe ["NoRule"] 2 jgu.nd (fun E' ps=>by exact (jbe (jbd (by exact AvKX.make zi (hr.mono qO) (ja (dv 0) jd))))) (fun e=>by exact (jf (by exact (jC 1 jgu.nd (DE.s (jN (ja (by exact (jdr (l':= .s) ["NoRule"] "ValueError" "ValueError" T.i_ValueError (vb 2) rfl T.b_isinstance rfl T.b_ValueError J9)) (ja (by exact (K2 (l':= .s) [("NoRule",true)] "NoRule" T.y_NoRule (vb 2) rfl T.b_isinstance rfl T.m_NoRule)) (ja (by exact (K2 (l':= .s) [("NoRule",false)] "NoStep" T.y_NoStep (vb 2) rfl T.b_isinstance rfl T.m_NoStep)) (ja (by exact (K2 (l':= .s) [("NoRule",false)] "NoText" T.y_NoText (vb 2) rfl T.b_isinstance rfl T.m_NoText)) jd)))))))) (by exact (jh (jC 1 jgu.nd (DE.s (jK jB jP (dv 1) (DE.s (jN (ja (by exact (K2 (l':= .s) [("NoRule",false)] "TooGreat" T.y_TooGreat (vb 2) rfl T.b_isinstance rfl T.m_TooGreat)) jd)))))))))) T.m_EndError T.x_EndError)) (by exact (jh (jD (K3 (l:= .t) (wy (Room.u200 hr)) Jb (vb 1) (DE.b (jN (ja (wm (l:= .s)) (ja (wm (l:= .s)) (ja (wm (l:= .s)) (ja (wm (l:= .s)) (ja (wm (l:= .s)) jd))))))))))))))
theorem jeF {f:Addr} {fd:ab4} (Fu:Fun K "law" "law" ZK f fd) (X0:xZ P w K mg base k xQ) (wH:xW P w K mg base k qS) (Jw:xw P w K mg base k zP) (XZ:xY P w K mg base k xP) (xz:xx P w K mg base k qw) (jX:qU P w K mg base k ju) (Za:wf P w K mg base k wc) (wV:wT P w K mg base k qK):
  FnOk P w K mg base CX0 (k+1) f fd ["_law_script"] (spF K true 1 (runF true 8 (ja4 xQ qS zP xP qw ju wc qK))):=
 VZ true Fu jgP fun cdv A outer s H E hr=>
  (jf (by exact (jC 1 jgP.nd (DE.s (by exact Av.callT X0 hr (ja (by exact (DE.s (by exact Av.callT Jw hr (ja (by exact (wd (DE.s (jK jcB jcH (dv 0) (DE.s (jN (ja i_s jd))))) ib)) (ja i_s jd))))) jd))))) (by exact (jf (by exact (xB abm rfl (jdm rfl T.b_enumerate (by exact (DE.s (ue (dv 0) yN (yM ib))))) (wE rfl (jq 2 jgP.nd) (jq 3 jgP.nd)) (jf (by exact (jC 4 jgP.nd (DE.s (by exact Av.callT Jw hr (ja (dv 3) (ja (by exact (DE.s (jK jB jP (dv 2) i_s))) jd)))))) (by exact (jf (by exact (jC 5 jgP.nd (DE.s (by exact Av.callT XZ hr (ja (dv 4) (ja (dv 1) jd)))))) (by exact (jf (by exact (zq (zA (qy (DE.b (by exact Av.callT wH hr (ja (dv 5) jd))))) (jh (jD (wm (l:= .t)))) jM)) (by exact (jf (by exact (jC 6 jgP.nd (DE.s (by exact Av.callT xz hr (ja (by exact (DE.s (by exact Av.callT jX hr (ja (dv 4) (ja i_s jd))))) (ja (dv 1) jd)))))) (by exact (jf (by exact (yo 7 jgP.nd (qm zC JR rfl T.b_list qH (ja (dv 5) jd)))) (by exact (jf (by exact (zq (qT (wy (Room.u200 hr)) Jb (qF (l':= .b) qL yq rfl T.b_len abY (ja (db 7) jd)) ib) (jf (by exact (jbh 7 (Jc (kN (vb 4) ib) ib) (dv 6))) (by exact (jf (by exact (zq (DW.dt (QZ (zA (qy (by exact Av.callA wH hr (ja (db 7) jd)))) (ym (zA (qy (by exact Av.callA wV hr (ja (by exact (jfi jB jP (db 7) (DE.b (jN (ja (dv 6) jd))))) jd))))))) (jh (jD (wm (l:= .t)))) jM)) (by exact (jh (jdk 7)))))) jM)) (by exact (jf (by exact (v9 7 (by exact (Jc (kN (vb 4) ib) (DE.b (jK jB jP (qF (l':= .s) qL yq rfl T.b_len abY (ja (db 7) jd)) i_s)))) (by exact (by exact Av.call Za hr (ja (by exact (DE.s (by exact Av.callT jX hr (ja (dv 4) (ja i_s jd))))) (ja (dv 1) (ja (dv 6) jd))))))) (by exact (jf (by exact (zq (DW.dt (QZ (zA (qy (by exact Av.callA wV hr (ja (db 7) jd)))) (ym (zA (qy (DE.b (by exact Av.callT wH hr (ja (dv 5) jd)))))))) (jh (jD (wm (l:= .t)))) jM)) (by exact (jh (zq (zA (qy (DE.b (by exact Av.callT wV hr (ja (by exact (wd (DE.s (jN (ja (by exact (DE.s (qm qG yi rfl T.b_tuple aaQ (ja (dv 5) jd)))) (ja (XC (l:= .s)) (ja (DE.s Wv) (ja (Js (l:= .s)) (ja i_s (ja (wm (l:= .s)) jd)))))))) (Jc (kN (vb 4) ib) ib))) jd))))) (jh (jD (wm (l:= .t)))) jM)))))))))))))))))))) (by exact (jh (jD (by exact Av.callT wH hr (ja (DE.s (jN jd)) jd))))))))
end
def all_mk {l:ae6} {w:World} {K:aab} {h:Heap} {mg:X8} {fa p32:Addr} (KX:K.In h) (G:h.Ns aaw mg) (hfa:mg "law" =some (.ref fa))
  {od32 an32:Option Addr} {sl32:Array (Option Value)} {oc32 kV32 dc32 pm32 cd32 ct32:Value} {T9 U7 U8 T7 T8:Addr} {T6:Addr}
  (d0:DefN K "_law_names" xI)
  (d1:DefN K "places" ZJ)
  (d2:DefN K "parts" X9)
  (d3:DefN K "head" ka)
  (d4:DefN K "all_heads" yy)
  (d5:DefN K "level_below" xh)
  (d6:DefN K "is_great" JC)
  (d7:DefN K "is_whole" JA)
  (d8:DefN K "is_blank" JD)
  (d9:DefN K "is_name" Qr)
  (d10:DefN K "is_piece" JB)
  (d11:DefN K "is_term" Qp)
  (d12:DefN K "blanks" ZL)
  (d13:DefN K "is_rule" Qq)
  (d14:DefN K "are_rules" yx)
  (d15:DefM K T6 "__init__" "Rules.__init__" qZ)
  (d16:DefM K T6 "told" "Rules.told" wL)
  (d17:DefM K T6 "heads_of" "Rules.heads_of" qY)
  (d18:DefN K "_law_whole" xE)
  (d19:DefN K "_law_heads" xK)
  (d20:DefN K "_law_taken" xF)
  (d21:DefN K "_law_spread" xi)
  (d22:DefN K "_law_mixed" xJ)
  (d23:DefN K "_law_term" yz)
  (d24:DefN K "_law_blanks" xj)
  (d25:DefN K "_law_rule" yA)
  (d26:DefN K "_law_rules" xH)
  (d27:DefN K "_law_spine" xG)
  (d28:DefN K "_law_bush" yB)
  (d29:DefN K "_law_bad_term" zX)
  (d30:DefN K "_law_bad_rule" zY)
  (d31:DefN K "_law_refused" wK)
  (a32:aaz K aaw "law" =some (some (.ref p32))) (l32:K.lookup p32=some ⟨oc32,od32,.func (acq "law" "law" (xT ZK) (qA ZK) (jg ZK) .none kV32 dc32 pm32 an32 cd32 ct32),sl32⟩) (c32:adH K cd32 "law" =true) (k32:abg K (.ref p32)=true)
  (z0:aaz K aaw "isinstance" =some none)
  (z1:aaz K aaw "bool" =some none)
  (z2:aaz K aaw "int" =some none)
  (z3:aaz K aaw "all" =some none)
  (z4:aaz K aaw "len" =some none)
  (z5:aaz K aaw "tuple" =some none)
  (z6:aaz K aaw "list" =some none)
  (z7:aaz K aaw "sorted" =some none)
  (z8:aaz K aaw "set" =some none)
  (z9:aaz K aaw "range" =some none)
  (z10:aaz K aaw "divmod" =some none)
  (z11:aaz K aaw "str" =some none)
  (z12:aaz K aaw "ValueError" =some none)
  (z13:aaz K aaw "enumerate" =some none)
  (y_LETTERS: ∃t,aaz K aaw "LETTERS" =some (some (.str "abcdefghijklmnopqrstuvwxyz" t)))
  (y_MOST_LETTERS: ∃t,aaz K aaw "MOST_LETTERS" =some (some (.int 8 t)))
  (y_MOST_PLACES: ∃t,aaz K aaw "MOST_PLACES" =some (some (.int 9 t)))
  (y_MOST_BLANK: ∃t,aaz K aaw "MOST_BLANK" =some (some (.int 999 t)))
  (y_MOST_LEVELS: ∃t,aaz K aaw "MOST_LEVELS" =some (some (.int 60 t)))
  (y_MOST_PARTS: ∃t,aaz K aaw "MOST_PARTS" =some (some (.int 1000 t)))
  (y_MOST_RULES: ∃t,aaz K aaw "MOST_RULES" =some (some (.int 40 t)))
  (yf:aaz K aaw "Rules" =some (some (.ref T6))) (y4:adi K T6 Str.empty=true) (Ji:adK K T6=true) (yZ:aeL K T6=true) (yX:abh K (.ref T6) "__setattr__" =some (some (.builtin "object.__setattr__")))
  (wa:abh K (.ref T6) "listed" =some none)
  (wN:abh K (.ref T6) "named" =some none)
  (Z5:adx K T6=true) (Z9:abg K (.ref T6)=true)
  (e_NoRule:aaz K aaw "NoRule" =some (some (.ref T9)))
  (e_EndError:aaz K aaw "EndError" =some (some (.ref U7)))
  (e_TooGreat:aaz K aaw "TooGreat" =some (some (.ref U8)))
  (e_NoText:aaz K aaw "NoText" =some (some (.ref T7)))
  (e_NoStep:aaz K aaw "NoStep" =some (some (.ref T8)))
  (q_NoRule:adC K T9 [.type "ValueError",.type "Exception",.type "BaseException",.type "object"] "ValueError.__new__" =true)
  (x_EndError_NoRule:PySem.W.exmOne K (.ref T9) (.ref U7)=some true)
  (i_ValueError_NoRule:aaS K (.ref T9) (.type "ValueError")=some true)
  (w_NoRule:ExcC K T9)
  (zj:aaS K (.ref T9) (.ref U8)=some false)
  (zT:aaS K (.ref T9) (.ref T7)=some false)
  (zU:aaS K (.ref T9) (.ref T8)=some false)
  (zV:aaS K (.ref T9) (.ref T9)=some true)
  : ∃fd:ab4,(∀(s:aaf) (v:Value),BindsTo s fd ⟨[v],[]⟩ [("_law_script",v)])/\ ∀base:Heap,K.In base->base.Ns aaw mg->FnOk l.prog w K mg base CX0 72 fa fd ["_law_script"] (spF K true 1 F_law):=by
 have e:=hfa.symm.trans (abu KX G a32);cases e
 have T:Gm K T9 U7 U8 T7 T8 mg:=⟨aa1 KX G z0,aa1 KX G z1,aa1 KX G z2,aa1 KX G z3,aa1 KX G z4,aa1 KX G z5,aa1 KX G z6,aa1 KX G z7,aa1 KX G z8,aa1 KX G z9,aa1 KX G z10,aa1 KX G z11,aa1 KX G z12,aa1 KX G z13,y_LETTERS.imp fun _ h=>abu KX G h,y_MOST_LETTERS.imp fun _ h=>abu KX G h,y_MOST_PLACES.imp fun _ h=>abu KX G h,y_MOST_BLANK.imp fun _ h=>abu KX G h,y_MOST_LEVELS.imp fun _ h=>abu KX G h,y_MOST_PARTS.imp fun _ h=>abu KX G h,y_MOST_RULES.imp fun _ h=>abu KX G h,⟨T6,yf,⟨y4,Ji,yZ,yX⟩,wa⟩,⟨T6,yf,⟨y4,Ji,yZ,yX⟩,wN⟩,abu KX G e_NoRule,abu KX G e_EndError,abu KX G e_TooGreat,abu KX G e_NoText,abu KX G e_NoStep,e_NoRule,q_NoRule,(fun c hc C hC=>by
   simp only [aeA,List.contains_nil,aeX,beq_iff_eq,aen] at hc;rcases hc with rfl
   · have e:=hC.symm.trans e_NoRule;cases e
     exact x_EndError_NoRule),(fun c hc C hC=>by
   simp only [aeA,List.contains_nil,aeX,beq_iff_eq,aen] at hc;rcases hc with rfl
   · have e:=hC.symm.trans e_NoRule;cases e
     exact i_ValueError_NoRule),(fun c b hc C hC=>by
   by_cases h_NoRule:c= "NoRule"
   · subst h_NoRule;rw [Jg] at hc;cases hc;have e:=hC.symm.trans e_NoRule;cases e;exact ⟨w_NoRule,zj⟩
   rw [Jf h_NoRule] at hc
   cases hc),(fun c b hc C hC=>by
   by_cases h_NoRule:c= "NoRule"
   · subst h_NoRule;rw [Jg] at hc;cases hc;have e:=hC.symm.trans e_NoRule;cases e;exact ⟨w_NoRule,zT⟩
   rw [Jf h_NoRule] at hc
   cases hc),(fun c b hc C hC=>by
   by_cases h_NoRule:c= "NoRule"
   · subst h_NoRule;rw [Jg] at hc;cases hc;have e:=hC.symm.trans e_NoRule;cases e;exact ⟨w_NoRule,zU⟩
   rw [Jf h_NoRule] at hc
   cases hc),(fun c b hc C hC=>by
   by_cases h_NoRule:c= "NoRule"
   · subst h_NoRule;rw [Jg] at hc;cases hc;have e:=hC.symm.trans e_NoRule;cases e;exact ⟨w_NoRule,zV⟩
   rw [Jf h_NoRule] at hc
   cases hc)⟩
 have U:=jbQ (st:=ZK) l32 c32 k32;have Wz:aaz K aaw "Rules" =some (some (.ref T6))/\Cls K T6:=⟨yf,y4,Ji,yZ,yX⟩
 refine ⟨acq "law" "law" (xT ZK) (qA ZK) (jg ZK) .none kV32 dc32 pm32 an32 cd32 ct32,fun s v=> .of_eq rfl,fun base _ _=>?_⟩;have V0:xZ l.prog w K mg base 1 zG:=ZY (k:=0) T (d0.dx KX G tk1);have V1:Qj l.prog w K mg base 1 qN:=kK (k:=0) T (d1.dx KX G tk1)
 have V2: ∀n,JU l.prog w K mg base (1+n) (qc n):=by
  intro n
  induction n with
  |zero=>exact jbu true (d2.dx KX G tk1)
  |succ n ih=>exact jay (k:=1+n) T (d2.dx KX G tk1) (V1.mono (by omega)) ih
 have V3:uP l.prog w K mg base 1 yr:=jcE (k:=0) T (d3.dx KX G tk1);have V4:yS l.prog w K mg base 66 wg:=W9 (k:=65) T (d4.dx KX G tk1) ((V2 64).mono (by decide)) (V3.mono (by decide));have V5:xu l.prog w K mg base 2 qj:=Zc (k:=1) T (d5.dx KX G tk1) (V1.mono (by decide));have V6:JX l.prog w K mg base 3 xg:=Yo (k:=2) T (d6.dx KX G tk1) (V5.mono (by decide));have V7:JV l.prog w K mg base 1 JZ:=Ym (k:=0) T (d7.dx KX G tk1);have V8:JY l.prog w K mg base 2 zS:=Yp (k:=1) T (d8.dx KX G tk1) (V7.mono (by decide));have V9:Q9 l.prog w K mg base 1 x5:=VH (k:=0) T (d9.dx KX G tk1);have V10:JW l.prog w K mg base 3 zR:=Yn (k:=2) T (d10.dx KX G tk1) (V8.mono (by decide)) (V9.mono (by decide));have V11:Q7 l.prog w K mg base 66 zg:=VF (k:=65) T (d11.dx KX G tk1) (V6.mono (by decide)) (V10.mono (by decide)) ((V2 64).mono (by decide));have V12:WF l.prog w K mg base 66 yj:=kL (k:=65) T (d12.dx KX G tk1) ((V2 64).mono (by decide));have V13:Q8 l.prog w K mg base 67 jG:=VG (k:=66) T (d13.dx KX G tk1) (V11.mono (by decide)) (V12.mono (by decide));have V14:yR l.prog w K mg base 68 j4:=W8 (k:=67) T (d14.dx KX G tk1) (V13.mono (by decide));have V15:qr l.prog w K mg base 69 jA:=yF (k:=68) T (d15.dm tk2) Wz (abu KX G yf) ⟨Z5,Z9⟩ (V4.mono (by decide)) (V14.mono (by decide));have V16:wU l.prog w K mg base 1 qM:=QA (k:=0) T (d16.dm tk1) Wz;have V17:zf l.prog w K mg base 1 jV:=yE (k:=0) T (d17.dm tk1) Wz;have V18:zD l.prog w K mg base 1 jH:=ZU (k:=0) T (d18.dx KX G tk1)
 have V19: ∀n,wG l.prog w K mg base (1+n) (jW n):=by
  intro n
  induction n with
  |zero=>exact jbu true (d19.dx KX G tk1)
  |succ n ih=>exact Z0 (k:=1+n) T (d19.dx KX G tk1) (V18.mono (by omega)) ih
 have V20:xW l.prog w K mg base 71 qf:=ZV (k:=70) T (d20.dx KX G tk1) V15 (by decide) (V16.mono (by decide)) (V17.mono (by decide)) ((V19 16).mono (by decide));have V21:xw l.prog w K mg base 1 qI:=Zd (k:=0) T (d21.dx KX G tk2);have V22:qU l.prog w K mg base 1 jt:=ZZ (k:=0) T (d22.dx KX G tk2)
 have V23: ∀n,xv l.prog w K mg base (1+n) (qk n):=by
  intro n
  induction n with
  |zero=>exact jbu false (d23.dx KX G tk4)
  |succ n ih=>exact Xa (k:=1+n) T (d23.dx KX G tk4) ih (V22.mono (by omega))
 have V24: ∀n,ze l.prog w K mg base (1+n) (jv n):=by
  intro n
  induction n with
  |zero=>exact jbu true (d24.dx KX G tk1)
  |succ n ih=>exact Ze (k:=1+n) T (d24.dx KX G tk1) (V18.mono (by omega)) ih
 have V25:xx l.prog w K mg base 18 j7:=Xb (k:=17) T (d25.dx KX G tk2) ((V23 6).mono (by decide)) (V18.mono (by decide)) (V22.mono (by decide)) ((V24 16).mono (by decide));have V26:xY l.prog w K mg base 19 zF:=ZX (k:=18) T (d26.dx KX G tk2) (V25.mono (by decide)) (V22.mono (by decide));have V27:xX l.prog w K mg base 1 zE:=ZW (k:=0) T (d27.dx KX G tk2);have V28:yT l.prog w K mg base 1 wj:=Xc (k:=0) T (d28.dx KX G tk1);have V29:we l.prog w K mg base 2 qC:=J7 (k:=1) T (d29.dx KX G tk2) (V27.mono (by decide)) (V28.mono (by decide));have V30:wf l.prog w K mg base 18 j5:=J8 (k:=17) T (d30.dx KX G tk3) ((V24 16).mono (by decide)) (V29.mono (by decide));have V31:wT l.prog w K mg base 71 jF:=Qz (k:=70) T (d31.dx KX G tk1) V15 (by decide);exact jeF (k:=71) T U (V0.mono (by decide)) (V20.mono (by decide)) (V21.mono (by decide)) (V26.mono (by decide)) (V25.mono (by decide)) (V22.mono (by decide)) (V30.mono (by decide)) (V31.mono (by decide))
end G
namespace G
open PySem PySem.Spec L2 M
open Builtin.Int (intBits)
local macro_rules | `(tactic| decreasing_trivial) => `(tactic| first
  | (dsimp only [List.set, UT, UQ, US, UP, uY, UR, UO, UN])
  | (with_reducible (show _ = _; assumption))
  | (with_reducible first | apply jz | apply Jz | apply jfq | apply jf8 | apply jL | apply ZN | apply jfY | apply jj | apply jc | apply jeK | apply jgh | apply jn | apply qB | apply qX | apply qd | apply Xo | apply jO | apply jZ | apply jfr | apply y7 | apply x9 | apply x8 | apply QK | apply UE | apply jbR | apply jb6 | apply Wx | apply jee | apply wX | apply K1 | apply JQ | apply Wp | apply Ks | apply ix0 | apply ixL0 | apply ixL1 | apply Z6 | apply jbK | apply jce | apply jcx | apply jau | apply jf5 | apply jgd | apply ixT1 | apply vY | apply sml | apply zd)
  | ((with_reducible apply jfM); exact rfl) | ((with_reducible apply jfN); exact rfl)
  | ((with_reducible show cD _ = _); exact rfl)
  | ((with_reducible show cDT _ = _); exact rfl)
  | ((with_reducible show isiD _ _ = _); exact rfl)
  | ((with_reducible show lenD _ = _); exact rfl)
  | ((with_reducible show List.contains _ _ = _); exact rfl)
  | ((with_reducible show fldD _ _ _ = _); exact rfl)
  | ((with_reducible show getElem? _ _ = _); exact rfl)
  | ((with_reducible show List.length _ = _); exact rfl)
  | ((with_reducible show yG _ = _); exact rfl)
  | ((with_reducible show vv _ = _); exact rfl)
  | ((with_reducible show isN _ _ = _); exact rfl)
  | ((with_reducible show slD _ _ _ = _); exact rfl)
  | ((with_reducible show wn _ = _); exact rfl)
  | ((with_reducible show Xi _ = _); exact rfl)
  | ((with_reducible show addD _ _ = _); exact rfl)
  | ((with_reducible show augI _ _ _ = _); exact rfl)
  | ((with_reducible show iOp _ _ _ _ = _); exact rfl)
  | ((with_reducible show ite _ _ _ = _); first | refine jf3 (by first | rfl | assumption) ?_ | refine jf4 (by first | rfl | assumption) ?_)
  | ((with_reducible show _ < _); first | omega | (simp only [aal, aaR, aau, aak]; omega)) | ((with_reducible show _ <= _); first | omega | (simp only [aal, aaR, aau, aak]; omega)) | ((with_reducible show _ /\ _); omega))
local macro_rules | `(tactic| decreasing_with $t) => `(tactic| (apply Eq.trans (b := Res.ok _); (repeat' decreasing_trivial); all_goals (try ($t))))
def abc:Str:= "abcdefghijklmnopqrstuvwxyz"
def cut1 (x:D) (r:List D):cutD (x::r) (some 1) none=r:=by
 have h1:HT.sIx (x::r).length 0 (some 1)=1:=by
  have:=HT.sIx_nat (x::r).length 0 1;simp only [aal] at this ⊢;exact this.trans (by omega)
 unfold cutD;rw [h1,HT.sIx_none];simp
def ky {d:D} (h:kU d=true):qN [d]= .ok (.tup (kids d)):=by
 cases d with
 |tup ds=>
  cases ds with
  |nil=>rfl
  |cons x r=>
   show Res.ok (D.tup (cutD (x::r) (some 1) none))=_;rw [cut1];rfl
 |_=>first|rfl|cases h
def Xj {row:List D} (h:fines row=true) (hl:row.length<=1000):qj [.lst row]= .ok (.lst (below row)):=by
 have key:=QT (body:=zl (gN 2) (za 1 (ji 1 qN (jb (rdS 2) nil1)))) (fun (a:List D×Slot)=>[.shr (.lst row),.own (.lst a.1),a.2]) (fun a d=>(a.1++kids d,.shr d)) (fun ds a=>fines ds=true/\a.1.length+(below ds).length<=10000) (fun d ds a ⟨h1,h2⟩=>by
  simp only [fines,aat] at h1;have e:below (d::ds)=kids d++below ds:=rfl;rw [e,aau] at h2;refine ⟨?_,h1.2,by simp only [aau];omega⟩;show za 1 (ji 1 qN (jb (rdS 2) nil1)) [.shr (.lst row),.own (.lst a.1),.shr d]=_;show (Res.ok a.1>>=fun ds=>qN [d]>>=_)=_;rw [ky (Wn h1.1)]
  exact jl (c:=a.1.length+(kids d).length<=aah) (aaI (by omega:_<=10000) (by decide))) row ([],.un) ⟨h,by have:=uG h;simp only [aaR];omega⟩
 have hfold: ∀(ds:List D) (a:List D×Slot),(ds.foldl (fun (a:List D×Slot) d=>(a.1++kids d,Slot.shr d)) a).1=a.1++below ds:=by
  intro ds
  induction ds with
  |nil=>intro a;simp [below]
  |cons d ds ih=>intro a;rw [aej,ih];simp [below]
 have e1:zN qN (ql 3 [.lst row])= .ok (.rt true (.lst (below row))):=by
  unfold zN;have h1:ql 3 [.lst row]=[.shr (.lst row),.un,.un]:=rfl;rw [h1];show (forD (zl (gN 2) (za 1 (ji 1 qN (jb (rdS 2) nil1)))) row [.shr (.lst row),.own (.lst []),.un]>>=_)=_;rw [key];show Res.ok (Out.rt true (D.lst (row.foldl (fun (a:List D×Slot) d=>(a.1++kids d,Slot.shr d)) ([],.un)).1))=_;rw [hfold];simp
 exact xR e1
def Zu:Sl->Res Out:=(seqO (jE 2 (two (rdS 2) (cI 1) (augI fun i j=>i+j)))
 (seqO (jE 3 (two (rdS 3) (app (jb (rdS 1) nil1) lenD) (augI fun i j=>i+j)))
 (seqO (ifO (orB (asB (two (rdS 2) (cI 60) gtI)) (asB (two (rdS 3) (cI 1000) gtI))) (retO (cB true)) nxO)
 (jE 1 (ji 1 qj (jb (rdS 1) nil1))))))
def VW {d:D} {row:List D} {dp ct:Nat} (h:fines row=true):Zu [.shr d,.shr (.lst row),.shr (.int dp),.shr (.int ct)]=if 60<dp+1\/1000<ct+row.length then .ok (.rt true (.bl true)) else .ok (.nx [.shr d,.shr (.lst (below row)),.shr (.int ((dp+1:Nat):Int)),.shr (.int ((ct+row.length:Nat):Int))]):=by
 have e0:Zu [.shr d,.shr (.lst row),.shr (.int dp),.shr (.int ct)]=((if decide ((60:Int)< (dp:Int)+1)=true then Res.ok true else Res.ok (decide ((1000:Int)< (ct:Int)+row.length)))>>=fun b=>(if b=true then Res.ok (Out.rt true (.bl true)) else Res.ok (.nx [.shr d,.shr (.lst row),.shr (.int ((dp:Int)+1)),.shr (.int ((ct:Int)+row.length))])))>>=outK (jE 1 (ji 1 qj (jb (rdS 1) nil1))):=by
   unfold Zu;rw [xA,KO];show (seqO _ _) _=_;rw [xA];rfl
 rw [e0]
 by_cases h1:60<dp+1
 · rw [if_pos (by simp;omega),if_pos (.inl h1)];rfl
 · rw [if_neg (by simp;omega)]
   by_cases h2:1000<ct+row.length
   · rw [if_pos (.inr h2)];have:decide ((1000:Int)< (ct:Int)+row.length)=true:=by simp;omega
     rw [this];rfl
   · rw [if_neg (by omega)];have:decide ((1000:Int)< (ct:Int)+row.length)=false:=by simp;omega
     rw [this];show (qj [.lst row]>>=_)=_;rw [Xj h (by omega)];show Res.ok (Out.nx [.shr d,.shr (.lst (below row)),.shr (.int ((dp:Int)+1)),.shr (.int ((ct:Int)+row.length))])=_;simp
theorem Zt (d:D): ∀(n:Nat) (row:List D) (dp ct:Nat),fines row=true->dp<=60->ct<=1000->62<=dp+n->
  ((60<dp+hgts row\/1000<ct+nums row)->qW n (truF (rdS 1)) Zu [.shr d,.shr (.lst row),.shr (.int dp),.shr (.int ct)]= .ok (.rt true (.bl true)))/\
  (¬(60<dp+hgts row\/1000<ct+nums row)-> ∃env,qW n (truF (rdS 1)) Zu [.shr d,.shr (.lst row),.shr (.int dp),.shr (.int ct)]= .ok (.nx env))
 |0,_,dp,ct,_,h1,_,h2=>by omega
 |n+1,row,dp,ct,hf,h1,h2,h3=>by
  cases row with
  |nil=>
   simp only [hgts,nums];exact ⟨fun h=>by omega,fun _=>⟨_,Zh rfl⟩⟩
  |cons x r=>
   have hs:=VW (d:=d) (dp:=dp) (ct:=ct) hf;have hb:=VV (x::r) (by simp);have hn:=VJ (x::r)
   by_cases hg:60<dp+1\/1000<ct+(x::r).length
   · rw [if_pos hg] at hs;exact ⟨fun _=>UB rfl hs,fun h=>absurd (show 60<dp+hgts (x::r)\/1000<ct+nums (x::r) by omega) h⟩
   · rw [if_neg hg] at hs;have ih:=Zt d n (below (x::r)) (dp+1) (ct+(x::r).length) (YG hf) (by omega) (by omega) (by omega);rw [WJ rfl hs,hb,hn]
     constructor
     · intro h;exact ih.1 (by omega)
     · intro h;exact ih.2 (by omega)
def isGr (d:D):Bool:=decide (60<hgt d\/1000<num d)
def je7 {d:D} (h:fine d=true):xg [d]= .ok (.bl (isGr d)):=by
 have hl:=Zt d 2000 [d] 0 0 (by simp [fines,h]) (by omega) (by omega) (by omega);have e1:hgts [d]=hgt d:=by simp [hgts]
 have e2:nums [d]=num d:=by simp [nums]
 rw [e1,e2] at hl;simp only [ae7] at hl
 have e0:yc qj (ql 4 [d])=(qW 2000 (truF (rdS 1)) Zu [.shr d,.shr (.lst [d]),.shr (.int ((0:Nat):Int)),.shr (.int ((0:Nat):Int))]>>=outK (retO (cB false))):=by
   unfold yc;rw [xA];show (seqO _ _) _=_;rw [xA];rfl
 by_cases hg:60<hgt d\/1000<num d
 · have:isGr d=true:=by simp [isGr,hg]
   rw [this];refine xR (o:= .rt true (.bl true)) ?_;rw [e0,hl.1 hg];rfl
 · have:isGr d=false:=by simp [isGr];omega
   rw [this];obtain ⟨env,he⟩:=hl.2 hg;refine xR (o:= .rt true (.bl false)) ?_;rw [e0,he];rfl
theorem K7 {cs:List Slot} {fe:T5} (R:D->Prop) (P:D->Prop) (hf: ∀d acc,P d-> ∃t,fe (.shr d::(cs++[.own (.lst acc)]))= .ok t/\R t):
  ∀(ds:List D) (x:Slot) (acc:List D),(∀d∈ds,P d)->acc.length+ds.length<=aah->(∀t∈acc,R t)->
   ∃(y:Slot) (ts:List D),wR (1+cs.length) (gN 0) qV fe ds (x::(cs++[.own (.lst acc)]))= .ok (y::(cs++[.own (.lst ts)]))/\ts.length=acc.length+ds.length/\ ∀t∈ts,R t
 | [],x,acc,_,_,hr=>⟨x,acc,rfl,by simp,hr⟩
 |d::ds,x,acc,hP,hl,hr=>by
  simp only [aal] at hl;obtain ⟨t,ht,hR⟩:=hf d acc (hP d (by simp))
  obtain ⟨y,ts,h1,h2,h3⟩:=K7 R P hf ds (.shr d) (acc++[t]) (fun e he=>hP e (by simp [he])) (by simp only [aau,aal,aaR];omega) (fun u hu=>by
   rcases aa6.mp hu with h|h
   · exact hr u h
   · simp only [aam,aa2,or_false] at h
     rw [h];exact hR)
  refine ⟨y,ts,?_,by rw [h2];simp only [aau,aal,aaR];omega,h3⟩
  have e1:ownL (1+cs.length) (.shr d::(cs++[.own (.lst acc)]))= .ok acc:=by
   unfold ownL;rw [show (1+cs.length)=cs.length+1 by omega,abN,aay (aai _)];simp
  have e2:(Slot.shr d::(cs++[Slot.own (.lst acc)])).set (1+cs.length) (.own (.lst (acc++[t])))= .shr d::(cs++[.own (.lst (acc++[t]))]):=by
   rw [show (1+cs.length)=cs.length+1 by omega,List.set_cons_succ,List.set_append_right _ _ (aai _)];simp
  show (fe (.shr d::(cs++[.own (.lst acc)]))>>=_)=_;rw [ht];show (ownL (1+cs.length) (.shr d::(cs++[.own (.lst acc)]))>>=_)=_;rw [e1];show must _ _=_;rw [jl (by omega)];show wR _ _ _ _ ds ((Slot.shr d::(cs++[Slot.own (.lst acc)])).set (1+cs.length) (.own (.lst (acc++[t]))))=_;rw [e2,h1]
def Ww {js:List Nat} {fi:T0} {fe:T5} {env:Sl} {ds:List D} {cs:List Slot} (R:D->Prop) (P:D->Prop) (hc:js.map (capS false env)=cs) (hi:fi env= .ok ds) (hP: ∀d∈ds,P d) (hl:ds.length<=aah)
  (hf: ∀d acc,P d-> ∃t,fe (.shr d::(cs++[.own (.lst acc)]))= .ok t/\R t): ∃ts,xt false 1 js fi (gN 0) qV fe env= .ok (.lst ts)/\ts.length=ds.length/\ ∀t∈ts,R t:=by
 obtain ⟨y,ts,h1,h2,h3⟩:=K7 (cs:=cs) R P hf ds .un [] hP (by simpa using hl) (fun _ h=>by cases h);refine ⟨ts,?_,by simpa using h2,h3⟩;have hlen:js.length=cs.length:=by rw [←hc];simp
 show (fi env>>=_)=_;rw [hi];show (wR (1+js.length) (gN 0) qV fe ds (xU false 1 js env)>>=_)=_
 have he:xU false 1 js env= .un::(cs++[.own (.lst [])]):=by
  unfold xU;rw [hc];rfl
 rw [he,hlen,h1];show (ownL (1+cs.length) (y::(cs++[.own (.lst ts)]))>>=_)=_
 have e1:ownL (1+cs.length) (y::(cs++[.own (.lst ts)]))= .ok ts:=by
  unfold ownL;rw [show (1+cs.length)=cs.length+1 by omega,abN,aay (aai _)];simp
 rw [e1];exact jl (c:=false=true->D.imms ts=true) (fun h=>by cases h)
def Ug {f1 f2:T5} {env:Sl} {i j:Int} (h1:f1 env= .ok (.int i)) (h2:f2 env= .ok (.int j)) (hj:0<j/\j<1073741824):app (jb f1 (jb f2 nil1)) qz env= .ok (.tup [.int (i/j),.int (i%j)]):=
 qB (ds:=[.int i,.int j]) (jc h1 (jc h2 rfl)) (jl hj)
def yQ {f:T5} {env:Sl} {a b:Nat} {x y:D} (h:f env= .ok (.tup [x,y])):asgO f (g2 (gN a) (gN b)) env= .ok (.nx ((env.set a (.shr x)).set b (.shr y))):=by
 show (f env>>=_)=_;rw [h];rfl
def xm {f1 f2:T5} {env:Sl} {i j:Int} (h1:f1 env= .ok (.int i)) (h2:f2 env= .ok (.int j)) (hj:0<j):two f1 f2 modI env= .ok (.int (i%j)):=jj h1 h2 (wX hj)
def xl {f1 f2:T5} {env:Sl} {i j:Int} {a b:Nat} (h1:f1 env= .ok (.int i)) (h2:f2 env= .ok (.int j)) (ha:i.natAbs<2^a) (hb:j.natAbs<2^b) (hs:a+b<=134217728):two f1 f2 mulI env= .ok (.int (i*j)):=
 jj h1 h2 (jeO (show intBits i+intBits j<=134217728 from aaI (Nat.add_le_add (PySem.intBits_le_iff.mpr ha) (PySem.intBits_le_iff.mpr hb)) hs))
def wS {f1 f2:T5} {env:Sl} {i j:Int} (h1:f1 env= .ok (.int i)) (h2:f2 env= .ok (.int j)):two f1 f2 addD env= .ok (.int (i+j)):=jj h1 h2 rfl
def J0 (c k:Int) (hk:0<=k/\k<=1000): ∃m:Int,qI [.int c,.int k]= .ok (.int m)/\0<=m/\m<2^140:=by
 have hp:two (cI 10) (cI 40) powI [.shr (.int c),.shr (.int k),.un]= .ok (.int (10^40)):=jj rfl rfl (kt (i:=10) (j:=40) (by decide))
 have hk2:(k*k).natAbs<2^21:=by
  rw [Int.natAbs_mul];have:k.natAbs<=1000:=by omega
  have:=Nat.mul_le_mul this this;omega
 refine ⟨(c%(10^40+121)*31415926535897932384626433832795+(k*k+3*k+7)*2718281828459045235360287471)%(10^40+121),zJ ?_,by omega,by omega⟩;show zO [.shr (.int c),.shr (.int k),.un]=_;unfold zO;rw [jm (env':=[.shr (.int c),.shr (.int k),.shr (.int (10^40+121))]) ((jz (wS hp rfl)).trans rfl)];refine jL (xm (wS (xl (a:=140) (b:=120) (xm rfl rfl (by omega)) rfl (by omega) (by omega) (by omega)) (xl (a:=30) (b:=120) (wS (wS (xl (a:=30) (b:=30) rfl rfl (by omega) (by omega) (by omega)) (xl (a:=30) (b:=30) rfl rfl (by omega) (by omega) (by omega))) rfl) rfl (by omega) (by omega) (by omega))) rfl (by omega))
def zm (m k:Int) (hm:0<=m/\m<2^140) (hk:0<=k/\k<=1000): ∃m':Int,jt [.int m,.int k]= .ok (.int m')/\0<=m'/\m'<2^140:=by
 have hp: ∀u:Slot,two (cI 10) (cI 30) powI [.shr (.int m),.shr (.int k),u]= .ok (.int (10^30)):=fun u=>jj rfl rfl (kt (i:=10) (j:=30) (by decide))
 generalize hx:(m*69621+(k+1)*1000003)%(10^30+57)=x;have hx0:0<=x/\x<2^110:=by omega
 refine ⟨x*x%(10^30+57),zJ ?_,by omega,by omega⟩;show wC [.shr (.int m),.shr (.int k),.un]=_;unfold wC;rw [jm (env':=[.shr (.int m),.shr (.int k),.shr (.int x)]) ((jz (xm (wS (xl (a:=141) (b:=30) rfl rfl (by omega) (by omega) (by omega)) (xl (a:=30) (b:=30) (wS rfl rfl) rfl (by omega) (by omega) (by omega))) (wS (hp _) rfl) (by omega))).trans (by rw [hx];rfl))];exact jL (xm (xl (a:=111) (b:=111) rfl rfl (by omega) (by omega) (by omega)) (wS (hp _) rfl) (by omega))
def isNm:D->Bool| .str z=>(decide (1<=(z.length:Int))&&decide ((z.length:Int)<=8))&&z.cps.toList.all (fun c=>inS ⟨#[c]⟩ abc)|_=>false
def Wb (z:Str):isNm (.str z)=((decide (1<=(z.length:Int))&&decide ((z.length:Int)<=8))&&z.cps.toList.all (fun c=>inS ⟨#[c]⟩ abc)):=rfl
def WE {α:Type} (l:List α) (p:α->Bool):allD [.lst (l.map fun c=>D.bl (p c))]= .ok (.bl (l.all p)):=by
 have:l.map (fun c=>D.bl (p c))=(l.map p).map D.bl:=by simp
 rw [this];show (match YR ((l.map p).map D.bl) with|some bs=>Res.ok (D.bl (bs.all id))|none=>Res.stuck)=_;rw [jbt];simp
def UX (z:Str):(Zb z).length=z.length:=by simp [Zb,Str.length]
def jeN {d:D} (h:kU d=true):x5 [d]= .ok (.bl (isNm d)):=by
 cases d with
 |str z=>
  have e1:xN (ql 1 [.str z])= .ok (.rt true (.bl (isNm (.str z)))):=by
   have h0:ql 1 [.str z]=[.shr (.str z)]:=rfl;rw [h0];have hi:isiD "str" (.str z)= .ok (.bl true):=rfl;have hl:lenD [.str z]= .ok (.int z.length):=rfl;rw [Wb]
   by_cases h2:(z.length:Int)<=8
   · have key:xt false 1 [] (itF (rdS 0)) (gN 0) qV (two (rdS 0) (cS "abcdefghijklmnopqrstuvwxyz") inD) [.shr (.str z)]= .ok (.lst ((Zb z).map fun d=>D.bl (match d with| .str c=>inS c abc|_=>false))):=by
      refine jdz _ (fun d=> ∃c,d= .str c) (ds:=Zb z) rfl (by intro d hd;obtain ⟨c,_,e⟩:=aaD.mp hd;exact ⟨_,e.symm⟩) (by rw [UX];exact aaI (by omega:z.length<=8) (by decide)) ?_;rintro d acc ⟨c,e⟩;subst e;rfl
     have hany:(Zb z).all (fun d=>match d with| .str c=>inS c abc|_=>false)=(z.cps.toList.all (fun c=>inS ⟨#[c]⟩ abc)):=by
      simp only [Zb,List.all_map];rfl
     have h2':decide ((z.length:Int)<=8)=true:=by simp;omega
     generalize z.cps.toList.all (fun c=>inS ⟨#[c]⟩ abc)=q at hany ⊢;simp only [xN,hi,hl,key,xA,Zy,vQ,YH,KQ,yL,vP,Xz,Jo,YI,w9,KN,jdh,vT,JP,jfb,jbS,YJ,vS,vR,kG,Yk,adG,YV,if_true,abf,aaG,if_false,decide_eq_true_eq,Qh,K8,WE,hany]
     by_cases h1:(1:Int)<=z.length<;>simp [h1,h2]
   · have h2':decide ((z.length:Int)<=8)=false:=by simp;omega
     simp only [xN,hi,hl,xA,Zy,vQ,YH,KQ,yL,vP,Xz,Jo,YI,w9,KN,jdh,vT,JP,jfb,jbS,YJ,vS,vR,kG,Yk,adG,YV,if_true,abf,aaG,if_false,decide_eq_true_eq,Qh,K8]
     by_cases h1:(1:Int)<=z.length<;>simp [h1,h2,h2']
  exact xR e1
 |_=>first|rfl|cases h
def Low (z:Str):Prop:= ∀c∈z.cps.toList,inS ⟨#[c]⟩ abc=true
def Yx {a b:Str} (ha:Low a) (hb:Low b):Low (a++b):=fun c hc=>by
 have h:c∈(a.cps++b.cps).toList:=hc;rw [Array.toList_append,aa6] at h;exact h.elim (ha c) (hb c)
def ve {z:Str} (lo hi:Option Int) (h:Low z):Low (cutS z lo hi):=fun c hc=>by
 unfold cutS at hc
 split at hc
 · exact h c hc
 · simp only [acS] at hc;obtain ⟨i,_,hi⟩:=hc;exact h c (by rw [←aar] at hi;exact aaV hi)
def jdQ:Low abc:=by
 intro c hc;have:abc.cps.toList.all (fun c=>inS ⟨#[c]⟩ abc)=true:=by decide+kernel
 exact aa5.mp this c hc
def ixS2 {z:Str} {i:Int} (h0:0<=i) (h1:i<z.length): ∃c,ixD (.str z) (.int i)= .ok (.str ⟨#[c]⟩)/\c∈z.cps.toList:=by
 obtain ⟨c,hc,hm⟩:=jb5 (xs:=z.cps.toList) h0 (by simpa [Str.length] using h1);exact ⟨c,by simp only [ixD];rw [hc],hm⟩
def vc {c:Nat} (h:c∈abc.cps.toList):Low ⟨#[c]⟩:=fun x hx=>by
 have:x=c:=by simpa using hx
 rw [this];exact jdQ c h
def jeZ (i:Int) (n:Nat) (h:0<=i):(aaL none (some i) 1 n).length<=i.toNat:=by
 unfold aaL sliceRange;simp only [show (1:Int)>0 by decide,if_true,aak,acf]
 split<;>(try split)<;>(try split)<;>(try simp only [Int.ediv_one])<;>omega
def je0 (i:Int) (n:Nat) (h:0<=i):(aaL (some i) none 1 n).length<=n-i.toNat:=by
 unfold aaL sliceRange;simp only [show (1:Int)>0 by decide,if_true,aak,acf]
 split<;>(try split)<;>(try split)<;>(try simp only [Int.ediv_one])<;>omega
def jb1 (z:Str) (lo hi:Option Int):(cutS z lo hi).length<=(aaL lo hi 1 z.length).length:=by
 unfold cutS
 split
 · rename_i h;rw [beq_iff_eq] at h;omega
 · show ((aaL lo hi 1 z.length).filterMap (z.cps[·]?)).toArray.size<=_;rw [aag];exact List.length_filterMap_le _ _
def jcU {z:Str} (h1:1<=z.length) (h2:z.length<=8) (h:Low z):isNm (.str z)=true:=by
 rw [Wb];simp only [aat,decide_eq_true_eq,aa5];exact ⟨⟨by omega,by omega⟩,h⟩
def Five (d:D):Prop:= ∃xs:List D,d= .lst xs/\xs.length=5/\ ∀x∈xs,∃z:Str,x= .str z/\isNm (.str z)=true
def uN:abc.length=26:=by decide
def Yt (m:Int): ∃d,zG [.int m]= .ok d/\Five d:=by
 have hbig:20<=aah:=by decide
 generalize hsz:m%8=sz;have hs:0<=sz/\sz<8:=by omega
 generalize hm1:m/8=m1;generalize hat:m1%(sz+1)=at1;have ha:0<=at1/\at1<sz+1:=by rw [←hat];exact ⟨aer _ (by omega),adD _ (by omega)⟩
 generalize hm2:m1/(sz+1)=m2
 obtain ⟨env1,l1,n1,f1,u1,w1,rfl,hf1,lw1⟩:=Wm (body:=zl (gN 3) (seqO (asgO (app (jb (rdS 0) (jb (cI 26) nil1)) qz) (g2 (gN 0) (gN 6))) (jE 2 (two (rdS 2) (two (rdS 1) (rdS 6) ixD) addD))))
  (fun ds env=> ∃(n:Int) (f:Str) (u w:Slot),env=[.shr (.int n),.shr (.str abc),.shr (.str f),u,.shr (.int sz),.shr (.int at1),w]/\f.length+ds.length=(sz+1).toNat/\Low f)
  (by
   rintro d ds env ⟨n,f,u,w,rfl,hl,lw⟩;obtain ⟨c,hc,hcm⟩:=ixS2 (z:=abc) (i:=n%26) (by omega) (by rw [uN];omega);simp only [aal] at hl;have hlen:(f++(⟨#[c]⟩:Str)).length=f.length+1:=strLen_append _ _;refine ⟨[.shr (.int (n/26)),.shr (.str abc),.shr (.str (f++(⟨#[c]⟩:Str))),.shr d,.shr (.int sz),.shr (.int at1),.shr (.int (n%26))],?_,_,_,_,_,rfl,by rw [hlen];omega,Yx lw (vc hcm)⟩;rw [zI (env':=[.shr (.int n),.shr (.str abc),.shr (.str f),.shr d,.shr (.int sz),.shr (.int at1),w]) rfl];rw [jm (env':=[.shr (.int (n/26)),.shr (.str abc),.shr (.str f),.shr d,.shr (.int sz),.shr (.int at1),.shr (.int (n%26))]) (yQ (Ug rfl rfl (by omega)))]
   refine (jz (jj rfl (jj rfl rfl hc) (jl (c:=f.length+(⟨#[c]⟩:Str).length<=aah) (aaI (show f.length+1<=8 by omega) (by decide))))).trans rfl)
  (xM 0 (sz+1).toNat) [.shr (.int m2),.shr (.str abc),.shr (.str ""),.un,.shr (.int sz),.shr (.int at1),.un] ⟨m2, "",.un,.un,rfl,by rw [qu,show ("" :Str).length=0 by decide,ae7],fun c hc=>by cases hc⟩
 simp only [aaR] at hf1
 obtain ⟨ts,hts,hl,hR⟩:=Ww (js:=[2,1,5,0]) (fi:=rngF (jb (cI 5) nil1)) (fe:=two (two (zy (rdS 1) yG (yk (rdS 3)) slD) (two (rdS 2) (two (two (rdS 4) (two (cI 5) (rdS 0) mulI) addD) (cI 26) modI) ixD) addD) (zy (rdS 1) (yk (two (rdS 3) (cI 1) addD)) yG slD) addD)
  (env:=[.shr (.int n1),.shr (.str abc),.shr (.str f1),u1,.shr (.int sz),.shr (.int at1),w1]) (ds:=xM 0 5) (cs:=[.shr (.str f1),.shr (.str abc),.shr (.int at1),.shr (.int n1)])
  (fun t=> ∃z:Str,t= .str z/\isNm (.str z)=true) (fun d=> ∃k:Int,d= .int k/\0<=k/\k<0+(5:Nat)) rfl rfl (fun d hd=>Jd hd) (by rw [qu];exact aaI (by decide) hbig) (by
   rintro d acc ⟨k,rfl,hk0,hk1⟩;obtain ⟨c,hc,hcm⟩:=ixS2 (z:=abc) (i:=(n1+5*k)%26) (by omega) (by rw [uN];omega);have hA:=aaI (jb1 f1 none (some at1)) (jeZ at1 f1.length (by omega));have hB:=aaI (jb1 f1 (some (at1+1)) none) (je0 (at1+1) f1.length (by omega));have h1:(cutS f1 none (some at1)++(⟨#[c]⟩:Str)).length=(cutS f1 none (some at1)).length+1:=strLen_append _ _;have h2:((cutS f1 none (some at1)++(⟨#[c]⟩:Str))++cutS f1 (some (at1+1)) none).length=(cutS f1 none (some at1)++(⟨#[c]⟩:Str)).length+(cutS f1 (some (at1+1)) none).length:=strLen_append _ _
   refine ⟨_,jj (jj (x9 rfl rfl (x8 rfl) rfl) (jj rfl (xm (wS rfl (xl (a:=10) (b:=10) rfl rfl (by omega) (by omega) (by omega))) rfl (by omega)) hc) (jl (c:=(cutS f1 none (some at1)).length+(⟨#[c]⟩:Str).length<=aah) (aaI (show _+1<=20 by omega) hbig))) (x9 rfl (x8 (jj rfl rfl rfl)) rfl rfl) (jl (c:=_+_<=aah) (by omega)),_,rfl,jcU (by omega) (by omega) (Yx (Yx (ve _ _ lw1) (vc hcm)) (ve _ _ lw1))⟩)
 refine ⟨.lst ts,zJ ?_,ts,rfl,by rw [hl,qu],hR⟩;show wB [.shr (.int m),.un,.un,.un,.un,.un,.un]=_;unfold wB;rw [jm (env':=[.shr (.int m),.shr (.str abc),.un,.un,.un,.un,.un]) rfl];rw [jm (env':=[.shr (.int m1),.shr (.str abc),.un,.un,.shr (.int sz),.un,.un]) ((yQ (Ug rfl rfl (by omega))).trans (by rw [hm1,hsz];rfl))];rw [jm (env':=[.shr (.int m2),.shr (.str abc),.un,.un,.shr (.int sz),.shr (.int at1),.un]) ((yQ (Ug (i:=m1) (j:=sz+1) rfl (jj rfl rfl rfl) (by omega))).trans (by rw [hm2,hat];rfl))];rw [jm (env':=[.shr (.int m2),.shr (.str abc),.shr (.str ""),.un,.shr (.int sz),.shr (.int at1),.un]) rfl];rw [jm ((yl (ds:=xM 0 (sz+1).toNat) (yC (jc (jj rfl rfl rfl) rfl) (by omega))).trans l1)];exact jL hts
def big1:20000<=aah:=by decide
def jy {k:Nat} (h:k<=20000):k<=aah:=aaI h big1
def isT:D->Bool
 | .tup _=>true
 |_=>false
def Fiv (ns:List Str) (d:D):Prop:=d= .lst (ns.map .str)/\ns.length=5/\ ∀z∈ns,isNm (.str z)=true
def ja6 {d:D} (h:Five d): ∃ns,Fiv ns d:=by
 obtain ⟨xs,rfl,hl,hx⟩:=h
 have key: ∀xs:List D,(∀x∈xs,∃z:Str,x= .str z/\isNm (.str z)=true)-> ∃ns:List Str,xs=ns.map .str/\ ∀z∈ns,isNm (.str z)=true:=fun xs=>by
  induction xs with
  |nil=>intro _;exact ⟨[],rfl,fun _ h=>by cases h⟩
  |cons x r ih=>
   intro h;obtain ⟨z,rfl,hz⟩:=h _ (aax ..);obtain ⟨ns,rfl,hn⟩:=ih fun y hy=>h y (by simp [hy])
   refine ⟨z::ns,rfl,fun y hy=>?_⟩;rcases aam.mp hy with e|e
   · rw [e];exact hz
   · exact hn y e
 obtain ⟨ns,rfl,hn⟩:=key xs hx;exact ⟨ns,rfl,by simpa using hl,hn⟩
section
variable {ns:List Str}
def Xy {ns:List Str} {d:D} (h:Fiv ns d) (i:Int) (h0:0<=i) (h1:i<5): ∃z:Str,ixD d (.int i)= .ok (.str z)/\z∈ns:=by
 obtain ⟨rfl,hl,_⟩:=h;obtain ⟨x,hix,hm⟩:=ixL (ds:=ns.map .str) h0 (by rw [aak];omega);obtain ⟨z,hz,rfl⟩:=aaD.mp hm;exact ⟨z,hix,hz⟩
def jbN {t:D} (h:tk ns t=true):isiD "tuple" t= .ok (.bl (isT t)):=by
 rcases zM h with ⟨i,rfl⟩| ⟨z,ts,rfl,_⟩<;>rfl
end
section
variable {ns:List Str} {fs:List Int}
def yH (z:Str) (ts:List D):hgt (.tup (.str z::ts))=1+hgts ts:=by rw [KH];rfl
def wM (z:Str) (ts:List D):num (.tup (.str z::ts))=1+nums ts:=by rw [kQ];rfl
def JS (z:Str) (ts:List D):bks (.tup (.str z::ts))=bkss ts:=by simp [bks]
def Q3 (i:Int):bks (.int i)=[i]:=by simp [bks]
def Ys {a b:Int}:neR (.int a) (.int b)= .ok (.bl (!(a==b))):=Ks
def jeM (S:List D):neR (.lst S) (.lst [])= .ok (.bl (!S.isEmpty)):=by
 cases S with
 |nil=>rfl
 |cons x r=>
  unfold neR;rw [jl (.inr (by simp [Zj]))];simp [eqD,eqDs]
def bnd:Nat->Nat
 |0=>1
 |r+1=>1+3*bnd r
structure Gt (ns:List Str) (fs:List Int) (r:Nat) (t:D):Prop where
 tk:tk ns t=true
 hg:hgt t<=r+1
 nm:num t<=bnd r
 bk: ∀x∈bks t,x∈fs
def jdA (r:Nat):1<=bnd r:=by
 cases r with
 |zero=>exact aai _
 |succ r=>simp only [bnd];omega
theorem Jx {nm : D} (hn : Fiv ns nm) (hfz : fs.length <= 1000) : ∀ (n r : Nat) (m : Int), r + 1 <= n -> (0 <= m /\ m < 2 ^ 140) -> ∃ t, qk n [.int m, nm, .int r, .lst (fs.map .int)] = .ok t /\ Gt ns fs r t
  | 0, r, m, h1, hm => by omega
  | n + 1, r, m, h1, hm => by
    generalize hfr : D.lst (fs.map .int) = fr
    have hne : neR fr (.lst []) = .ok (.bl (!fs.isEmpty)) := by rw [← hfr, jeM]; simp
    have hlen : lenD [fr] = .ok (.int (fs.length : Int)) := by rw [← hfr]; show Res.ok (D.int ((fs.map D.int).length : Int)) = _; rw [aak]
    by_cases hb1 : (!fs.isEmpty && ((m % 5 == 0) || (((r : Int) == 0) && decide (m % 5 < 3)))) = true
    · have hpos : 0 < fs.length := by
        simp only [aat] at hb1
        cases fs with
        | nil => simp at hb1
        | cons x r => simp
      have hmod : 0 <= m / 5 % (fs.length : Int) /\ m / 5 % (fs.length : Int) < fs.length := ⟨aer _ (by omega), adD _ (by omega)⟩
      obtain ⟨d, hd, hmem⟩ := ixL (ds := fs.map .int) (i := m / 5 % (fs.length : Int)) hmod.1 (by rw [aak]; exact hmod.2)
      obtain ⟨i, hi, rfl⟩ := aaD.mp hmem
      rw [hfr] at hd
      refine ⟨.int i, u8 ?_, ⟨rfl, by simp [hgt], jdA r, by rw [Q3]; intro x hx; simp only [aam, aa2, or_false] at hx; rw [hx]; exact hi⟩⟩
      show zp (qk n) jt [.shr (.int m), .shr nm, .shr (.int r), .shr fr, .un, .un, .un] = _
      unfold zp
      decreasing_with exact rfl
    · have hb1 : (!fs.isEmpty && ((m % 5 == 0) || (((r : Int) == 0) && decide (m % 5 < 3)))) = false := by simpa using hb1
      generalize hm3 : m / 5 / 5 / 4 = m3
      have hm3b : 0 <= m3 /\ m3 < 2 ^ 140 := by omega
      obtain ⟨z, hz, hzn⟩ := Xy hn (m / 5 % 5) (by omega) (by omega)
      have hct : ∃ ct : Int, 0 <= ct /\ ct <= 3 /\ (r = 0 -> ct = 0) /\ ifO (asB (two (rdS 2) (cI 0) eqR)) (jE 6 (cI 0)) nxO
          [.shr (.int m3), .shr nm, .shr (.int r), .shr fr, .shr (.int (m % 5)), .shr (.int (m / 5 % 5)), .shr (.int (m / 5 / 5 % 4))] = .ok (.nx [.shr (.int m3), .shr nm, .shr (.int r), .shr fr, .shr (.int (m % 5)), .shr (.int (m / 5 % 5)), .shr (.int ct)]) := by
        by_cases hr0 : r = 0
        · subst hr0
          refine ⟨0, by omega, by omega, fun _ => rfl, ?_⟩
          decreasing_with exact rfl
        · refine ⟨m / 5 / 5 % 4, by omega, by omega, fun h => absurd h hr0, ?_⟩
          have : ((r : Int) == 0) = false := by simp; omega
          decreasing_with exact rfl
      obtain ⟨ct, c1, c2, c3, hctg⟩ := hct
      obtain ⟨ts, hts, hl, hR⟩ := Ww (js := [1, 3, 0, 2]) (fi := rngF (jb (rdS 6) nil1)) (fe := ji 4 (qk n) (jb (ji 2 jt (jb (rdS 3) (jb (rdS 0) nil1))) (jb (rdS 1) (jb (two (rdS 4) (cI 1) subI) (jb (rdS 2) nil1)))))
        (env := [.shr (.int m3), .shr nm, .shr (.int r), .shr fr, .shr (.int (m % 5)), .shr (.int (m / 5 % 5)), .shr (.int ct)]) (ds := xM 0 ct.toNat) (cs := [.shr nm, .shr fr, .shr (.int m3), .shr (.int r)])
        (Gt ns fs (r - 1)) (fun d => ∃ k : Int, d = .int k /\ 0 <= k /\ k < 10 /\ 1 <= r) rfl (yC (jc rfl rfl) (by omega)) (fun d hd => by
          obtain ⟨k, rfl, k0, k1⟩ := Jd hd
          exact ⟨k, rfl, k0, by omega, by rcases adF r with h | h; · rw [c3 h] at k1; simp at k1; omega
                                          · exact h⟩) (by rw [qu]; exact sml (by omega)) (by
          rintro d acc ⟨k, rfl, k0, k1, hr⟩
          obtain ⟨m4, hm4, hb⟩ := zm m3 k hm3b (by omega)
          obtain ⟨t, ht, hg⟩ := Jx hn hfz n (r - 1) m4 (by omega) hb
          rw [hfr, show (((r - 1 : Nat) : Int)) = (r : Int) - 1 by omega] at ht
          refine ⟨t, ?_, hg⟩
          decreasing_with exact rfl)
      rw [qu] at hl
      have hzl : ([D.str z] ++ ts).length <= 20 := by simp; omega
      refine ⟨.tup (.str z :: ts), zJ ?_, ⟨uT hzn (by omega) fun t ht => (hR t ht).tk, ?_, ?_, ?_⟩⟩
      · show zp (qk n) jt [.shr (.int m), .shr nm, .shr (.int r), .shr fr, .un, .un, .un] = _
        unfold zp
        subst hm3
        decreasing_with exact rfl
      · rw [yH]
        rcases adF r with h | h
        · have : ts = [] := List.eq_nil_of_length_eq_zero (by rw [hl, c3 h]; rfl)
          subst this
          simp [hgts]
        · have := M.hgts_le (ds := ts) (k := r) fun t ht => by have := (hR t ht).hg; omega
          omega
      · rw [wM]
        have hq := jcI (ts := ts) (k := bnd (r - 1)) fun t ht => (hR t ht).nm
        match r, c3, hq with
        | 0, c3, hq =>
          have : ts.length = 0 := by rw [hl, c3 rfl]; rfl
          rw [this] at hq
          simp only [bnd]; omega
        | r + 1, c3, hq =>
          simp only [bnd, show r + 1 - 1 = r from rfl] at hq ⊢
          have h3 : ts.length <= 3 := by omega
          have := Nat.mul_le_mul_right (bnd r) h3
          omega
      · intro x hx
        rw [JS, XQ] at hx
        obtain ⟨t, ht, hxt⟩ := adl.mp hx
        exact (hR t ht).bk x hxt
end
theorem Kl: ∀(n:Nat) (d:D),fine d=true->hgt d<=n->num d<=1000->qc n [d]= .ok (.lst (pts d))
 |0,d,_,h,_=>by have:=YC d;omega
 |n+1,d,hf,hh,hn=>by
  have hk:=Jl hf;rw [KH] at hh;rw [kQ] at hn
  have key:=QT (body:=zl (gN 2) (za 1 (ji 1 (qc n) (jb (rdS 2) nil1)))) (fun (a:List D×Slot)=>[.shr d,.own (.lst a.1),a.2]) (fun a e=>(a.1++pts e,.shr e)) (fun ds a=>fines ds=true/\hgts ds<=n/\a.1.length+nums ds<=1000) (fun e ds a ⟨h1,h2,h3⟩=>by
   simp only [fines,aat] at h1;simp only [hgts] at h2;simp only [nums] at h3;have hl:=yD e;refine ⟨?_,h1.2,by omega,by simp only [aau];omega⟩;show za 1 (ji 1 (qc n) (jb (rdS 2) nil1)) [.shr d,.own (.lst a.1),.shr e]=_;show (Res.ok a.1>>=fun ds=>qc n [e]>>=_)=_;rw [Kl n e h1.1 (by omega) (by omega)]
   exact jl (c:=a.1.length+(pts e).length<=aah) (aaI (by omega:_<=10000) (by decide))) (kids d) ([d],.un) ⟨hk.1,by omega,by simp only [aal,aaR];omega⟩
  have hfold: ∀(ds:List D) (a:List D×Slot),(ds.foldl (fun (a:List D×Slot) e=>(a.1++pts e,Slot.shr e)) a).1=a.1++ptss ds:=by
   intro ds
   induction ds with
   |nil=>intro a;simp [ptss]
   |cons d ds ih=>intro a;rw [aej,ih];simp [ptss]
  have e1:QS qN (qc n) (ql 3 [d])= .ok (.rt true (.lst (pts d))):=by
   have e0:QS qN (qc n) (ql 3 [d])=((qN [d]>>=vv)>>=fun ds=>forD (zl (gN 2) (za 1 (ji 1 (qc n) (jb (rdS 2) nil1)))) ds [.shr d,.own (.lst [d]),.un])>>=outK (retO (rdO 1)):=by
    unfold QS;rw [xA];show (seqO _ _) _=_;rw [xA];rfl
   rw [e0,ky (Wn hf)];show (forD _ (kids d) _>>=_)=_;rw [key];show Res.ok (Out.rt true (D.lst ((kids d).foldl (fun (a:List D×Slot) e=>(a.1++pts e,Slot.shr e)) ([d],.un)).1))=_;rw [hfold,kl];rfl
  exact xR e1
section
variable {ns:List Str} {fs:List Int}
def isN:D->Bool
 | .int _=>true
 |_=>false
def UA {t:D} (h:tk ns t=true):jH [t]= .ok (.bl (isN t)):=by
 rcases zM h with ⟨i,rfl⟩| ⟨z,ts,rfl,_⟩<;>rfl
def uE: ∀t,tk ns t=true->(bks t).length<=num t:=xC (fun i=>by simp [bks,num]) fun z ts _ _ h=>by
 rw [JS,wM]
 have: ∀us:List D,(∀u∈us,(bks u).length<=num u)->(bkss us).length<=nums us:=fun us=>by
  induction us with
  |nil=>intro _;simp [bkss,nums]
  |cons d r ih=>
   intro h;have h1:=h d (by simp);have h2:=ih fun u hu=>h u (by simp [hu])
   simp only [bkss,nums,aau];omega
 have:=this ts fun u hu=>(h u hu).2
 omega
theorem Ku {n:Nat} (t:Slot): ∀(ds:List D) (a:List Int) (u:Slot),(∀d∈ds,jv n [d]= .ok (.lst ((bks d).map .int))/\(bks d).length<=num d)->a.length+nums ds<=2000->
  ∃(u':Slot),forD (zl (gN 2) (za 1 (ji 1 (jv n) (jb (rdS 2) nil1)))) ds [t,.own (.lst (a.map .int)),u]= .ok (.nx [t,.own (.lst ((a++bkss ds).map .int)),u'])
 | [],a,u,_,_=>⟨u,by simp [forD,bkss]⟩
 |d::r,a,u,hd,hl=>by
  obtain ⟨hb,hbl⟩:=hd d (by simp);simp only [nums] at hl ⊢;obtain ⟨u',ih⟩:=Ku t r (a++bks d) (.shr d) (fun e he=>hd e (by simp [he])) (by simp only [aau];omega);refine ⟨u',?_⟩
  have s:zl (gN 2) (za 1 (ji 1 (jv n) (jb (rdS 2) nil1))) d [t,.own (.lst (a.map .int)),u]= .ok (.nx [t,.own (.lst ((a++bks d).map .int)),.shr d]):=by
   rw [zI (env':=[t,.own (.lst (a.map .int)),.shr d]) rfl];have hc:ji 1 (jv n) (jb (rdS 2) nil1) [t,.own (.lst (a.map .int)),.shr d]= .ok (.lst ((bks d).map .int)):=jn (jc rfl rfl) rfl hb;show (Res.ok (a.map D.int)>>=fun ds=>ji 1 (jv n) (jb (rdS 2) nil1) [t,.own (.lst (a.map .int)),.shr d]>>=_)=_;rw [hc];refine (jl (c:=(a.map D.int).length+((bks d).map D.int).length<=aah) (by simp only [aak];exact jy (by omega))).trans ?_;rw [abM];rfl
  rw [zK s,ih];simp only [bkss,aaW]
theorem Z8: ∀(n:Nat) (t:D),tk ns t=true->hgt t<=n->num t<=1000->jv n [t]= .ok (.lst ((bks t).map .int))
 |0,t,_,h,_=>by have:=YC t;omega
 |n+1,t,ht,hh,hnm=>by
  have htest:asB (ji 1 jH (jb (rdS 0) nil1)) [.shr t,.un,.un]= .ok (isN t):=jO (jn (jc rfl rfl) rfl (UA ht));rcases zM ht with ⟨i,rfl⟩| ⟨z,r,rfl,hz,hl,hr⟩
  · refine zJ ?_;show qE jH (jv n) [.shr (.int i),.un,.un]=_;unfold qE;rw [Q3];exact J2 ((if_t htest).trans (jL (qd (jc rfl rfl) (jy (by simp)))))
  · rw [yH] at hh;rw [wM] at hnm
    have hnum: ∀d∈r,num d<=nums r:=fun d hd=>by
     obtain ⟨a,b,rfl⟩:=List.append_of_mem hd;rw [Qe];simp only [nums];omega
    obtain ⟨u',hf⟩:=Ku (n:=n) (.shr (.tup (.str z::r))) r [] .un (fun d hd=>⟨Z8 n d (hr d hd) (by have:=hgts_mem hd;omega) (by have:=hnum d hd;omega),uE d (hr d hd)⟩) (by simp only [aaR];omega);refine zJ ?_;show qE jH (jv n) [.shr (.tup (.str z::r)),.un,.un]=_;unfold qE;have hsl:zy (rdS 0) (yk (cI 1)) yG slD [.shr (.tup (.str z::r)),.own (.lst []),.un]= .ok (.tup r):=x9 (x:= .tup (.str z::r)) (lo:=some 1) (hi:=none) rfl (x8 rfl) rfl (show Res.ok (D.tup (cutD (.str z::r) (some 1) none))=_ by rw [cut1]);rw [jm ((if_f htest).trans rfl)];rw [jm (env':=[.shr (.tup (.str z::r)),.own (.lst []),.un]) rfl];rw [JS];exact (jm ((yl (ds:=r) (QK hsl rfl)).trans hf)).trans rfl
def trs (l:List Int):List D:=l.map fun _=> .bl true
def jej (l:List Int) (x:Int):WV (kys l) (.inl x)=kys (ins l x)/\WW (kys l) (trs l) (.inl x) (.bl true)=trs (ins l x):=by
 unfold WV WW ins;rw [ja2]
 by_cases h:x∈l
 · simp only [h,decide_true,if_true,true_and];clear h
   induction l with
   |nil=>rfl
   |cons a l ih=>
    simp only [kys,trs,aaN,acr] at ih ⊢;rw [ih];simp
 · simp [h,kys,trs]
def jcX (l:List Int) (x:Int):(ins l x).length<=l.length+1:=by
 unfold ins;split<;>simp
def jaX (l:List Hd) (x:Hd):(hins l x).length<=l.length+1:=by
 unfold hins;split<;>simp
def bkL (t:D):List Int:=met [] (intL (pts t))
theorem yO (t:Slot): ∀(ds:List D) (a:List Int) (u:Slot),(∀d∈ds,tk ns d=true)->a.length+ds.length<=2000-> ∃u',forD (zl (gN 2) (ifO (notB (asB (isiF "tuple" (rdS 2)))) (ud 1 (rdS 2) (cB true)) nxO)) ds [t,.own (.dic (kys a) (trs a)),u]= .ok (.nx [t,.own (.dic (kys (met a (intL ds))) (trs (met a (intL ds)))),u'])
 | [],a,u,_,_=>⟨u,rfl⟩
 |d::ds,a,u,h,hl=>by
  simp only [aal] at hl;have hd:=h d (by simp);have htest:notB (asB (isiF "tuple" (rdS 2))) [t,.own (.dic (kys a) (trs a)),.shr d]= .ok (!isT d):=jZ (jO (by rw [yL];exact jbN hd));rcases zM hd with ⟨i,rfl⟩| ⟨z,ts,rfl,_⟩
  · obtain ⟨p1,p2⟩:=jej a i;have hk:(kys a).length<aah:=by rw [jcP];exact aaA (show a.length<20000 by omega) big1
    have hstep:zl (gN 2) (ifO (notB (asB (isiF "tuple" (rdS 2)))) (ud 1 (rdS 2) (cB true)) nxO) (.int i) [t,.own (.dic (kys a) (trs a)),u]= .ok (.nx [t,.own (.dic (kys (ins a i)) (trs (ins a i))),.shr (.int i)]):=by
     rw [zI (env':=[t,.own (.dic (kys a) (trs a)),.shr (.int i)]) rfl,if_t htest];show must ((kys a).length<aah) (Res.ok (Out.nx [t,.own (.dic (WV (kys a) (.inl i)) (WW (kys a) (trs a) (.inl i) (.bl true))),.shr (.int i)]))=_;rw [jl hk,p1,p2]
    have:=jcX a i;obtain ⟨u',hu⟩:=yO t ds (ins a i) (.shr (.int i)) (fun e he=>h e (by simp [he])) (by omega);exact ⟨u',by rw [zK hstep,hu];rfl⟩
  · have hstep:zl (gN 2) (ifO (notB (asB (isiF "tuple" (rdS 2)))) (ud 1 (rdS 2) (cB true)) nxO) (.tup (.str z::ts)) [t,.own (.dic (kys a) (trs a)),u]= .ok (.nx [t,.own (.dic (kys a) (trs a)),.shr (.tup (.str z::ts))]):=by
     rw [zI (env':=[t,.own (.dic (kys a) (trs a)),.shr (.tup (.str z::ts))]) rfl,if_f htest];rfl
    obtain ⟨u',hu⟩:=yO t ds a (.shr (.tup (.str z::ts))) (fun e he=>h e (by simp [he])) (by omega);exact ⟨u',by rw [zK hstep,hu];rfl⟩
def uD {t:D} (ht:tk ns t=true) (hh:hgt t<=64) (hn:num t<=1000):yj [t]= .ok (.lst ((bkL t).map .int)):=by
 have hp:=Kl 64 t (QV t ht) hh hn;have hlen:=yD t;obtain ⟨u,hu⟩:=yO (.shr t) (pts t) [] .un (Kg t ht) (by simp only [aaR];omega);have hit:itF (ji 1 (qc 64) (jb (rdS 0) nil1)) [.shr t,.own (.dic [] []),.un]= .ok (pts t):=QK (jn (jc rfl rfl) rfl hp) rfl;refine zJ ?_;show Qf (qc 64) [.shr t,.un,.un]=_;unfold Qf;rw [jm (env':=[.shr t,.own (.dic [] []),.un]) rfl];rw [jm ((yl hit).trans hu)];show retO (app (jb (rdS 1) nil1) jaI) [.shr t,.shr (.dic (kys (bkL t)) (trs (bkL t))),u]=_;refine jL (qB (jc rfl rfl) ?_);show must _ _=_;rw [jl (by simp [kys])];simp [kys,kD,aeO]
def ja0 (z:Str) (ts:List D):yr [.tup (.str z::ts)]= .ok (hdD (z,(ts.length:Int))):=by
 refine zJ ?_;show KJ [.shr (.tup (.str z::ts))]=_;unfold KJ;refine (jL ?_).trans rfl;show ifD (asB (isiF "tuple" (rdS 0))) (tupF (jb (two (rdS 0) (cI 0) ixD) (jb (two (app (jb (rdS 0) nil1) lenD) (cI 1) subI) nil1))) cN [.shr (.tup (.str z::ts))]= .ok (hdD (z,(ts.length:Int)));rw [jfa];show tupF _ _=_;refine qX (ds:=[.str z,.int (ts.length:Int)]) (jc (jj rfl rfl ix0) (jc ?_ rfl)) (jy (show 2<=20000 by decide));refine jj (qB (jc rfl rfl) rfl) rfl ?_;show Res.ok (D.int ((((D.str z::ts).length:Nat):Int)-1))=_;simp
theorem JK (t s:Slot): ∀(ds:List D) (l:List Hd) (u:Slot),(∀d∈ds,tk ns d=true)->l.length+ds.length<=2000-> ∃u',forD (zl (gN 3) (ifO (asB (isiF "tuple" (rdS 3))) (Uf 1 (ji 1 yr (jb (rdS 3) nil1)) (cB true)) nxO)) ds [t,.own (.dit (l.map hdK) (htrs l)),s,u]= .ok (.nx [t,.own (.dit ((hmet l (hdL ds)).map hdK) (htrs (hmet l (hdL ds)))),s,u'])
 | [],l,u,_,_=>⟨u,rfl⟩
 |d::ds,l,u,h,hl=>by
  simp only [aal] at hl;have hd:=h d (by simp);have htest:asB (isiF "tuple" (rdS 3)) [t,.own (.dit (l.map hdK) (htrs l)),s,.shr d]= .ok (isT d):=jO (by rw [yL];exact jbN hd);rcases zM hd with ⟨i,rfl⟩| ⟨z,ts,rfl,_⟩
  · have hstep:zl (gN 3) (ifO (asB (isiF "tuple" (rdS 3))) (Uf 1 (ji 1 yr (jb (rdS 3) nil1)) (cB true)) nxO) (.int i) [t,.own (.dit (l.map hdK) (htrs l)),s,u]= .ok (.nx [t,.own (.dit (l.map hdK) (htrs l)),s,.shr (.int i)]):=by
     rw [zI (env':=[t,.own (.dit (l.map hdK) (htrs l)),s,.shr (.int i)]) rfl,if_f htest];rfl
    obtain ⟨u',hu⟩:=JK t s ds l (.shr (.int i)) (fun e he=>h e (by simp [he])) (by omega);exact ⟨u',by rw [zK hstep,hu];rfl⟩
  · obtain ⟨p1,p2⟩:=jek l (z,(ts.length:Int));have hk:(l.map hdK).length<aah:=by rw [aak];exact aaA (show l.length<20000 by omega) big1
    have hc:ji 1 yr (jb (rdS 3) nil1) [t,.own (.dit (l.map hdK) (htrs l)),s,.shr (.tup (.str z::ts))]= .ok (hdD (z,(ts.length:Int))):=jn (jc rfl rfl) rfl (ja0 z ts)
    have hstep:zl (gN 3) (ifO (asB (isiF "tuple" (rdS 3))) (Uf 1 (ji 1 yr (jb (rdS 3) nil1)) (cB true)) nxO) (.tup (.str z::ts)) [t,.own (.dit (l.map hdK) (htrs l)),s,u]= .ok (.nx [t,.own (.dit ((hins l (z,(ts.length:Int))).map hdK) (htrs (hins l (z,(ts.length:Int))))),s,.shr (.tup (.str z::ts))]):=by
     rw [zI (env':=[t,.own (.dit (l.map hdK) (htrs l)),s,.shr (.tup (.str z::ts))]) rfl,if_t htest];show (ji 1 yr (jb (rdS 3) nil1) [t,.own (.dit (l.map hdK) (htrs l)),s,.shr (.tup (.str z::ts))]>>=_)=_;rw [hc];show must ((l.map hdK).length<aah) (Res.ok (Out.nx [t,.own (.dit (Vz (l.map hdK) (hdK (z,(ts.length:Int)))) (VA (l.map hdK) (htrs l) (hdK (z,(ts.length:Int))) (.bl true))),s,.shr (.tup (.str z::ts))]))=_;rw [jl hk,p1,p2]
    have:=jaX l (z,(ts.length:Int));obtain ⟨u',hu⟩:=JK t s ds (hins l (z,(ts.length:Int))) (.shr (.tup (.str z::ts))) (fun e he=>h e (by simp [he])) (by omega);exact ⟨u',by rw [zK hstep,hu];rfl⟩
end
def isPc:D->Bool
 | .tup (x::r)=>decide (r.length+1<=10)&&isNm x
 | .int i=>decide (0<=i)&&decide (i<=999)
 |_=>false
def jer {d:D} (h:fine d=true):zR [d]= .ok (.bl (isPc d)):=by
 cases d with
 |tup ds=>
  cases ds with
  |nil=>rfl
  |cons x r=>
   have hx:fine x=true:=by
    simp only [fine,fines,aat] at h;exact h.2.1
   have hb:decide ((1:Int)<=((x::r).length:Int))=true:=by simp only [aal,decide_eq_true_eq];omega
   have hd:decide (((x::r).length:Int)<=9+1)=decide (r.length+1<=10):=by simp only [aal];rw [decide_eq_decide];omega
   have hi:isiD "tuple" (.tup (x::r))= .ok (.bl true):=rfl;have hl:lenD [.tup (x::r)]= .ok (.int ((x::r).length:Int)):=rfl;have ha:addD (.int 9) (.int 1)= .ok (.int (9+1)):=rfl;have hs:ql 1 [.tup (x::r)]=[.shr (.tup (x::r))]:=rfl
   have e0:wZ zS x5 (ql 1 [.tup (x::r)])= .ok (.rt true (.bl (decide (r.length+1<=10)&&isNm x))):=by
    simp only [wZ,hs,hi,hl,ha,xA,Zy,KQ,yL,vP,Xz,Jo,YI,w9,KN,jdh,vT,JP,vR,Yk,adG,YV,if_true,Qh,K8,vO,jbz,hb,hd,KP,ix0,jdf,acX,jeN (Wn hx)];cases decide (r.length+1<=10)<;>rfl
   exact xR e0
 |int i=>
  have hd: ∀b c:Bool,True:=fun _ _=>trivial
  have e0:zS [.int i]= .ok (.bl (decide (0<=i)&&decide (i<=999))):=by
   have e1:yd JZ (ql 1 [.int i])= .ok (.rt true (.bl (decide (0<=i)&&decide (i<=999)))):=by
    unfold yd;rw [JP,vO,Qh];show ((Res.ok (D.bl (decide ((0:Int)<=i)))>>=chK (cI 999 (ql 1 [.int i])) leI (.int i))>>=_)=_;rw [w9,K8];cases decide (0<=i)<;>rfl
   exact xR e1
  have e2:wZ zS x5 (ql 1 [.int i])=(zS [.int i]>>=fun d=> .ok (.rt true d)):=rfl;rw [e0] at e2;exact xR e2
 |_=>first|rfl|cases h
def jb7 {d:D} (h:fine d=true):zg [d]= .ok (.bl (!isGr d&&(pts d).all isPc)):=by
 have e1:Jj xg zR (qc 64) (ql 1 [d])= .ok (.rt true (.bl (!isGr d&&(pts d).all isPc))):=by
  unfold Jj;rw [JP,vO,jde];show (((xg [d]>>=notD)>>=_)>>=_)=_;rw [je7 h];show (toK _ true (.bl (!isGr d))>>=_)=_;rw [jbz]
  cases hg:isGr d with
  |true=>rfl
  |false=>
   rw [if_pos (show (!false)=true from rfl)];simp only [isGr,decide_eq_false_iff_not] at hg;have hp:=Kl 64 d h (by omega) (by omega);have hl:=yD d
   have key:xt false 1 [] (itF (ji 1 (qc 64) (jb (rdS 0) nil1))) (gN 0) qV (ji 1 zR (jb (rdS 0) nil1)) (ql 1 [d])= .ok (.lst ((pts d).map fun d=>D.bl (isPc d))):=by
    refine jdz _ (fun d=>fine d=true) (ds:=pts d) ?_ (fun e he=>w8 (Kh d h) he) (aaI (by omega:_<=1000) (by decide)) ?_
    · show (qc 64 [d]>>=_)=_;rw [hp];rfl
    · intro e acc he;show zR [e]=_;exact jer he
   rw [Xz,Jo,key];show (allD [.lst ((pts d).map fun d=>D.bl (isPc d))]>>=_)=_;rw [WE];rfl
 exact xR e1
section
variable {ns:List Str} {fs:List Int}
structure Ru (ns:List Str) (l r:D):Prop where
 tl:tk ns l=true
 tr:tk ns r=true
 lt: ∃z ts,l= .tup (.str z::ts)
 hl:hgt l<=4
 hr:hgt r<=3
 nl:num l<=13
 nr:num r<=13
 sub: ∀x∈bks r,x∈bks l
 few: ∃a b:Int,(0<=a/\a<=999)/\(0<=b/\b<=999)/\ ∀x∈bks l,x=a\/x=b
def Zl {nm:D} (hn:Fiv ns nm) (m:Int) (hm:0<=m/\m<2^140): ∃l r,j7 [.int m,nm]= .ok (.tup [l,r])/\Ru ns l r:=by
 obtain ⟨m1,e1,b1⟩:=zm m 1 hm (by omega);obtain ⟨m2,e2,b2⟩:=zm m 2 hm (by omega);obtain ⟨a,ha⟩: ∃a,a=m%1000:=⟨_,rfl⟩
 obtain ⟨b,hb⟩: ∃b,b=(m+1+m/1000%999)%1000:=⟨_,rfl⟩
 obtain ⟨l0,el,gl⟩:=Jx (fs:=[a,b]) hn (by simp) 6 2 m1 (by omega) b1;have hl0: ∀x∈bks l0,x=a\/x=b:=fun x hx=>by have:=gl.bk x hx;simpa using this
 have hg:=gl.hg;have hnm:=gl.nm;simp only [bnd] at hnm;have hw:=UA gl.tk;obtain ⟨z,hz,hzn⟩:=Xy hn (m/10^7%5) (by omega) (by omega);have p7:powI (.int 10) (.int 7)= .ok (.int (10^7)):=(kt (by decide)).trans rfl
 have sA:jE 2 (lstF (jb (two (rdS 0) (cI 1000) modI) (jb (two (two (two (rdS 0) (cI 1) addD) (two (two (rdS 0) (cI 1000) divW) (cI 999) modI) addD) (cI 1000) modI) nil1))) [.shr (.int m),.shr nm,.un,.un]= .ok (.nx [.shr (.int m),.shr nm,.shr (.lst [.int a,.int b]),.un]):=by
  rw [ha,hb];exact jz (qd (jc (jj rfl rfl (wX (by decide))) (jc (jj (jj (jj rfl rfl rfl) (jj (jj rfl rfl (JQ (by decide))) rfl (wX (by decide))) rfl) rfl (wX (by decide))) rfl)) (jy (show 2<=20000 by decide)))
 have sB:jE 3 (ji 4 (qk 6) (jb (ji 2 jt (jb (rdS 0) (jb (cI 1) nil1))) (jb (rdS 1) (jb (cI 2) (jb (rdS 2) nil1))))) [.shr (.int m),.shr nm,.shr (.lst [.int a,.int b]),.un]= .ok (.nx [.shr (.int m),.shr nm,.shr (.lst [.int a,.int b]),.shr l0]):=
  jz (jn (jc (jn (jc rfl (jc rfl rfl)) rfl e1) (jc rfl (jc rfl (jc rfl rfl)))) rfl el)
 have hleft: ∃l,tk ns l=true/\(∃z ts,l= .tup (.str z::ts))/\hgt l<=4/\num l<=13/\(∀x∈bks l,x=a\/x=b)/\ifO (asB (ji 1 jH (jb (rdS 3) nil1))) (jE 3 (tupF (jb (two (rdS 1) (two (two (rdS 0) (two (cI 10) (cI 7) powI) divW) (cI 5) modI) ixD) (jb (rdS 3) (jb (two (rdS 2) (cI 1) ixD) nil1))))) nxO [.shr (.int m),.shr nm,.shr (.lst [.int a,.int b]),.shr l0]= .ok (.nx [.shr (.int m),.shr nm,.shr (.lst [.int a,.int b]),.shr l]):=by
  have tt:asB (ji 1 jH (jb (rdS 3) nil1)) [.shr (.int m),.shr nm,.shr (.lst [.int a,.int b]),.shr l0]= .ok (isN l0):=jO (jn (jc rfl rfl) rfl hw);rcases zM gl.tk with ⟨i,rfl⟩| ⟨z0,ts,rfl,_⟩
  · refine ⟨.tup [.str z,.int i,.int b],uT hzn (by simp) (fun t ht=>by
      simp only [aam,aa2,or_false] at ht
      rcases ht with e|e<;>subst e<;>rfl),⟨_,_,rfl⟩,by simp [hgt,hgts],by simp [num,nums],fun x hx=>?_,?_⟩
    · rw [JS] at hx;simp only [bkss,Q3,aa6,aam,aa2,or_false] at hx;rcases hx with e|e
      · subst e;exact hl0 x (by rw [Q3];simp)
      · exact .inr e
    · exact (if_t tt).trans (jz (qX (jc (jj rfl (jj (jj rfl (jj rfl rfl p7) (JQ (by decide))) rfl (wX (by decide))) hz) (jc rfl (jc (jj rfl rfl (ixL1 _ _ _)) rfl))) (jy (show 3<=20000 by decide))))
  · exact ⟨_,gl.tk,⟨_,_,rfl⟩,by omega,by omega,hl0,(if_f tt).trans rfl⟩
 obtain ⟨l,tl,lt,hhl,hnl,bkl,h6⟩:=hleft;have hbl:=Z8 16 l tl (by omega) (by omega);have hbn:=uE l tl;obtain ⟨r,er,gr⟩:=Jx (fs:=bks l) hn (by omega) 6 2 m2 (by omega) b2;have hg:=gr.hg;have hnm:=gr.nm;simp only [bnd] at hnm;refine ⟨l,r,zJ ?_,⟨tl,gr.tk,lt,hhl,by omega,hnl,by omega,gr.bk,a,b,by omega,by omega,bkl⟩⟩;show xo (qk 6) jH jt (jv 16) [.shr (.int m),.shr nm,.un,.un]=_;unfold xo;refine (jm sA).trans ((jm sB).trans ((jm h6).trans ?_));exact jL (qX (jc rfl (jc (jn (jc (jn (jc rfl (jc rfl rfl)) rfl e2) (jc rfl (jc rfl (jc (jn (jc rfl rfl) rfl hbl) rfl)))) rfl er) rfl)) (jy (show 2<=20000 by decide)))
def KC: ∀t,tk ns t=true->intL (pts t)=bks t:=xC (fun i=>by simp [pts,intL,bks]) fun z ts _ _ h=>by
 have: ∀us:List D,(∀u∈us,intL (pts u)=bks u)->intL (ptss us)=bkss us:=fun us=>by
  induction us with
  |nil=>intro _;simp [ptss,intL,bkss]
  |cons d r ih=>
   intro h;rw [ptss,Wc,h d (by simp),ih fun u hu=>h u (by simp [hu])];simp [bkss]
 rw [JS,←this ts fun u hu=>(h u hu).2];simp [pts,intL]
def jeC (hn: ∀z∈ns,isNm (.str z)=true) {t:D} (ht:tk ns t=true) (hb: ∀x∈bks t,0<=x/\x<=999):(pts t).all isPc=true:=by
 rw [aa5];intro p hp;have htk:=Kg t ht p hp;rcases zM htk with ⟨i,rfl⟩| ⟨z,ts,rfl,hz,hl,_⟩
 · have:i∈intL (pts t):=by
    obtain ⟨a,b,e⟩:=List.append_of_mem hp;rw [e,Wc];simp [intL]
   rw [KC t ht] at this;have:=hb i this;simp [isPc,this]
 · simp only [isPc,aat,decide_eq_true_eq];exact ⟨by omega,hn z hz⟩
def Kx (hn: ∀z∈ns,isNm (.str z)=true) {t:D} (ht:tk ns t=true) (hh:hgt t<=60) (hm:num t<=1000) (hb: ∀x∈bks t,0<=x/\x<=999):zg [t]= .ok (.bl true):=by
 rw [jb7 (QV t ht),jeC hn ht hb];have:isGr t=false:=by simp only [isGr,decide_eq_false_iff_not];omega
 rw [this];rfl
def Yw {a b:Int} {l:List Int} (h: ∀x∈l,x=a\/x=b) (hn:l.Nodup):l.length<=2:=by
 match l,h,hn with
 | [],_,_=>simp
 | [_],_,_=>simp
 | [_,_],_,_=>simp
 |x::y::z::r,h,hn=>
  have h1:=h x (by simp);have h2:=h y (by simp);have h3:=h z (by simp);simp only [ab0,aam,not_or] at hn;omega
theorem QC: ∀(xs l:List Int),l.Nodup->(met l xs).Nodup
 | [],l,h=>h
 |x::xs,l,h=>by
  rw [Kt];refine QC xs _ ?_;unfold ins
  split
  · exact h
  · rename_i hx;rw [adS];exact ⟨h,by simp,fun a ha b hb=>by simp at hb;subst hb;rintro rfl;exact hx ha⟩
def jb0 (l:List Int):(dd l).length<=l.length:=by
 unfold dd;exact PyProof.Rows.firstMet_length_le _ _
def isTm (d:D):Bool:=!isGr d&&(pts d).all isPc
def jaa {l r:D} (h:Ru ns l r): ∀x∈bks l,0<=x/\x<=999:=fun x hx=>by
 obtain ⟨a,b,ha,hb,hab⟩:=h.few;rcases hab x hx with e|e<;>omega
def xV {t:D} (h:tk ns t=true) (x:Int):x∈bkL t↔x∈bks t:=by unfold bkL;rw [k9,KC t h];simp
def i01 (a b:D):two (rdS 0) (cI 0) ixD [.shr (.tup [a,b])]= .ok a/\two (rdS 0) (cI 1) ixD [.shr (.tup [a,b])]= .ok b:=⟨jj rfl rfl ix0,jj rfl rfl (ixT1 _ _ _)⟩
def isTu:D->Bool
 | .tup _=>true
 |_=>false
def jaR {d:D} (h:fine d=true):isiD "tuple" d= .ok (.bl (isTu d)):=by
 cases d<;>first|rfl|cases h
def yY {a b:D} (fa:fine a=true) (fb:fine b=true) (h:(isTm a&&(isTm b&&isTu a))=false):jG [.tup [a,b]]= .ok (.bl false):=by
 obtain ⟨i0,i1⟩:=i01 a b;refine zJ ?_;show zz zg yj [.shr (.tup [a,b])]=_;unfold zz;rw [jm ((if_f (y7 (jZ (jO (b:=true) rfl)) (jO (b:=false) (jj (qB (jc rfl rfl) rfl) rfl Ys)))).trans rfl)]
 have tt:orB (notB (asB (ji 1 zg (jb (two (rdS 0) (cI 0) ixD) nil1)))) (orB (notB (asB (ji 1 zg (jb (two (rdS 0) (cI 1) ixD) nil1)))) (notB (asB (isiF "tuple" (two (rdS 0) (cI 0) ixD))))) [.shr (.tup [a,b])]= .ok (!isTm a|| (!isTm b||!isTu a)):=
  y7 (jZ (jO (jn (jc i0 rfl) rfl (jb7 fa)))) (y7 (jZ (jO (jn (jc i1 rfl) rfl (jb7 fb)))) (jZ (jO (Xo i0 (jaR fa)))))
 have:(!isTm a|| (!isTm b||!isTu a))=true:=by
  rw [←Bool.not_and,←Bool.not_and,h];rfl
 rw [this] at tt;exact J2 ((if_t tt).trans rfl)
def Ka {d:D} (h:kU d=true) (h2: ∀a b,d≠ .tup [a,b]):jG [d]= .ok (.bl false):=by
 refine zJ ?_;show zz zg yj [.shr d]=_;unfold zz
 have tt:orB (notB (asB (isiF "tuple" (rdS 0)))) (asB (two (app (jb (rdS 0) nil1) lenD) (cI 2) neR)) [.shr d]= .ok true:=by
  cases d with
  |tup ds=>
   refine (y7 (b:=false) (b2:=true) (jZ (b:=true) (jO (Xo rfl rfl))) (jO ((jj (qB (jc rfl rfl) rfl) rfl Ys).trans ?_)))
   have:((ds.length:Int)==2)=false:=by
    match ds,h2 with
    | [],_=>rfl
    | [_],_=>rfl
    | [a,b],h2=>exact (h2 a b rfl).elim
    |_::_::_::r,_=>simp only [aal];simpa using (by omega: ¬((r.length+1+1+1:Nat):Int)=2)
   rw [this];rfl
  |scr _=>cases h
  |exn _=>cases h
  |fdc _ _=>cases h
  |hdc _ _=>cases h
  |obj _ _ _=>cases h
  |mem _ _=>cases h
  |_=>rfl
 exact J2 ((if_t tt).trans rfl)
def Kb (hn: ∀z∈ns,isNm (.str z)=true) {l r:D} (tl:tk ns l=true) (tr:tk ns r=true) (lt: ∃z ts,l= .tup (.str z::ts)) (hl:hgt l<=60) (hr:hgt r<=60) (nl:num l<=1000) (nr:num r<=1000) (bl: ∀x∈bks l,0<=x/\x<=999) (br: ∀x∈bks r,0<=x/\x<=999)
  (few:(dd (bkL r)).length/4<=(dd (bkL l)).length) (f1:(bkL r).length<=1000) (f2:(bkL l).length<=1000):jG [.tup [l,r]]= .ok (.bl (decide (∀i∈bks r,i∈bks l))):=by
 have htl:=Kx hn tl hl nl bl;have htr:=Kx hn tr hr nr br;obtain ⟨z,ts,hlt⟩:=lt;have hit:isiD "tuple" l= .ok (.bl true):=by rw [hlt];rfl
 have b1:=uD tl (by omega) nl;have b2:=uD tr (by omega) nr;obtain ⟨i0,i1⟩:=i01 l r;have hsb:aep=4096:=rfl
 have hsub:subZ (.lst ((bkL r).map .int)) (.lst ((bkL l).map .int))= .ok (.bl (decide (∀i∈bks r,i∈bks l))):=by
  unfold subZ;simp only [vy];rw [jl ⟨by omega,by omega,by omega⟩];congr 2;refine decide_eq_decide.mpr ⟨fun h i hi=>(xV tl i).mp (h i ((xV tr i).mpr hi)),fun h i hi=>(xV tl i).mpr (h i ((xV tr i).mp hi))⟩
 have ht3:asB (isiF "tuple" (two (rdS 0) (cI 0) ixD)) [.shr (.tup [l,r])]= .ok true:=jO (by rw [yL,i0];exact hit);refine zJ ?_;show zz zg yj [.shr (.tup [l,r])]=_;unfold zz;rw [jm ((if_f (y7 (jZ (jO (b:=true) rfl)) (jO (b:=false) (jj (qB (jc rfl rfl) rfl) rfl Ys)))).trans rfl)];refine (jm ((if_f (y7 (jZ (jO (jn (jc i0 rfl) rfl htl))) (y7 (jZ (jO (jn (jc i1 rfl) rfl htr))) (jZ ht3)))).trans rfl)).trans ?_;exact jL (jj (jn (jc i1 rfl) rfl b2) (jn (jc i0 rfl) rfl b1) hsub)
def Wa (hn: ∀z∈ns,isNm (.str z)=true) {l r:D} (h:Ru ns l r):jG [.tup [l,r]]= .ok (.bl true):=by
 obtain ⟨a,b,ha,hb,hab⟩:=h.few;have mbr: ∀x∈bkL r,x=a\/x=b:=fun x hx=>hab x (h.sub x ((xV h.tr x).mp hx))
 have mbl: ∀x∈bkL l,x=a\/x=b:=fun x hx=>hab x ((xV h.tl x).mp hx)
 have lr:(bkL r).length<=2:=Yw (a:=a) (b:=b) mbr (QC _ _ acP);have ll:(bkL l).length<=2:=Yw (a:=a) (b:=b) mbl (QC _ _ acP);have d1:=jb0 (bkL r);rw [Kb hn h.tl h.tr h.lt (by have:=h.hl;omega) (by have:=h.hr;omega) (by have:=h.nl;omega) (by have:=h.nr;omega) (jaa h) (fun x hx=>jaa h x (h.sub x hx)) (by omega) (by omega) (by omega),decide_eq_true h.sub]
end
def Bd (d:D):Prop:=fine d=true/\isTm d=false
def jfo {d p:D} (hf:fine d=true) (hp:p∈pts d) (h:isPc p=false):Bd d:=by
 refine ⟨hf,?_⟩;unfold isTm
 have:(pts d).all isPc=false:=by
  rw [←ad7,aa5];intro z;rw [z p hp] at h;cases h
 rw [this,adb]
def jdE {d:D} (hf:fine d=true) (h:isGr d=true):Bd d:=⟨hf,by unfold isTm;rw [h];rfl⟩
def wb {z:Str} {ts:List D} (hl:ts.length<=10) (h: ∀t∈ts,fine t=true):fine (.tup (.str z::ts))=true:=by
 simp only [fine,fines,aat,decide_eq_true_eq,aal,true_and];exact ⟨by omega,Jk h⟩
def uH {z:Str} {d:D} (h:Bd d):Bd (.tup [.str z,d]):=by
 have hf:fine (.tup [.str z,d])=true:=wb (by simp) (by simpa using h.1);have h2:=h.2;unfold isTm at h2;rw [Bool.and_eq_false_iff] at h2;rcases h2 with e|e
 · refine jdE hf ?_;simp only [Bool.not_eq_false'] at e;simp only [isGr,decide_eq_true_eq] at e ⊢;rw [yH,wM];simp only [hgts,nums];omega
 · rw [←ad7,aa5] at e
   obtain ⟨p,hp,hq⟩: ∃p∈pts d,isPc p=false:=by
    apply abW;intro hc;apply e;intro p hp
    cases c:isPc p with
    |true=>rfl
    |false=>exact (hc ⟨p,hp,c⟩).elim
   refine jfo hf (p:=p) ?_ hq;rw [kl];simp only [kids,ptss,abJ];exact aao _ hp
theorem Qd (d:D): ∀n,nums (aaE n d)=n*num d
 |0=>by simp [nums]
 |n+1=>by rw [abt,nums,Qd d n,Nat.succ_mul];omega
def QU {d:D} (h:fine d=true) (n:Nat): ∀t∈aaE n d,fine t=true:=fun t ht=>by rw [(List.mem_replicate.mp ht).2];exact h
def spn (z:Str):Nat->D
 |0=> .tup [.str z]
 |n+1=> .tup [.str z,spn z n]
theorem jbB (z:Str): ∀n,fine (spn z n)=true/\hgt (spn z n)=n+1
 |0=>⟨rfl,by simp [spn,hgt,hgts]⟩
 |n+1=>by
  obtain ⟨h1,h2⟩:=jbB z n;refine ⟨wb (by simp) (by simpa using h1),?_⟩;show hgt (.tup [.str z,spn z n])=_;rw [yH];simp only [hgts,h2];omega
def sm1 {l:List D} (k:Nat) (h:l.length=k) (h2:k<=20000):l.length<=aah:=by rw [h];exact jy h2
theorem Y6 {z:Str} {S1:Slot}: ∀(ds:List D) (k:Nat) (u:Slot),∃v,forD (zl (gN 3) (jE 2 (tupF (jb (rdS 0) (jb (rdS 2) nil1))))) ds [.shr (.str z),S1,.shr (spn z k),u]= .ok (.nx [.shr (.str z),S1,.shr (spn z (k+ds.length)),v])
 | [],k,u=>⟨u,rfl⟩
 |d::ds,k,u=>by
  obtain ⟨v,e⟩:=Y6 (z:=z) (S1:=S1) ds (k+1) (.shr d);refine ⟨v,(zK ?_).trans (e.trans ?_)⟩
  · rw [zI (env':=[.shr (.str z),S1,.shr (spn z k),.shr d]) rfl];exact jz (d:=spn z (k+1)) (qX (jc rfl (jc rfl rfl)) (sm1 2 rfl (by decide)))
  · rw [aal,show k+1+ds.length=k+(ds.length+1) by omega]
def jd4 (z:Str):zE [.str z,.int 61]= .ok (spn z 60):=by
 obtain ⟨v,e⟩:=Y6 (z:=z) (S1:= .shr (.int 61)) (xM 0 60) 0 .un;rw [qu] at e;refine u8 ?_;show wA [.shr (.str z),.shr (.int 61),.un,.un]=_;unfold wA;refine (jm (jz (d:=spn z 0) (qX (jc rfl rfl) (sm1 1 rfl (by decide))))).trans ?_;refine (jm ((yl (yC (j:=60) (jc (jj rfl rfl rfl) rfl) (by decide))).trans e)).trans ?_;exact ZN rfl
def bsh (z:Str):Nat->D
 |0=> .tup [.str z]
 |n+1=> .tup (.str z::aaE 9 (bsh z n))
theorem uC (z:Str): ∀n,fine (bsh z n)=true
 |0=>rfl
 |n+1=>wb (by simp) (QU (uC z n) 9)
def YQ (z:Str) (n:Nat):num (bsh z (n+1))=1+9*num (bsh z n):=by
 show num (.tup (.str z::aaE 9 (bsh z n)))=_;rw [wM,Qd]
def jci (m:Nat) (d:D):(aaE m [d]).flatten=aaE m d:=by
 induction m with
 |zero=>rfl
 |succ m ih=>rw [abt,ace,ih,abt];rfl
def Kd {f:T5} {env:Sl} {d:D} {m:Nat} (h:f env= .ok d) (hm:m<=100):two (lstF (jb f nil1)) (cI (m:Int)) repL env= .ok (.lst (aaE m d)):=by
 refine jj (qd (jc h rfl) (sm1 1 rfl (by decide))) rfl ?_;rw [←jci];show must _ (Res.ok (D.lst (aaE (m:Int).toNat [d]).flatten))=_;rw [abH];exact jl ⟨by omega,by omega,jy (by simp;omega)⟩
theorem Vc {z:Str}: ∀(ds:List D) (k:Nat) (u:Slot),∃v,forD (zl (gN 2) (jE 1 (app (jb (two (lstF (jb (rdS 0) nil1)) (two (lstF (jb (rdS 1) nil1)) (cI 9) repL) addD) nil1) wn))) ds [.shr (.str z),.shr (bsh z k),u]= .ok (.nx [.shr (.str z),.shr (bsh z (k+ds.length)),v])
 | [],k,u=>⟨u,rfl⟩
 |d::ds,k,u=>by
  obtain ⟨v,e⟩:=Vc (z:=z) ds (k+1) (.shr d);refine ⟨v,(zK ?_).trans (e.trans ?_)⟩
  · rw [zI (env':=[.shr (.str z),.shr (bsh z k),.shr d]) rfl];exact jz (d:=bsh z (k+1)) (qB (jc (jj (qd (jc rfl rfl) (sm1 1 rfl (by decide))) (Kd (m:=9) (d:=bsh z k) rfl (by decide)) (zd (by simp;exact jy (by decide)))) rfl) rfl)
  · rw [aal,show k+1+ds.length=k+(ds.length+1) by omega]
def jgi (z:Str): ∃b,wj [.str z]= .ok b/\fine b=true/\1000<num b:=by
 obtain ⟨v,e⟩:=Vc (z:=z) (xM 0 3) 0 .un;rw [qu] at e;have n0:num (bsh z 0)=1:=by simp [bsh,num,nums]
 have n1:num (bsh z 1)=1+9*num (bsh z 0):=YQ z 0;have n2:num (bsh z 2)=1+9*num (bsh z 1):=YQ z 1;have n3:num (bsh z 3)=1+9*num (bsh z 2):=YQ z 2
 have sl:slD (bsh z 3) none (some 3)= .ok (.tup [.str z,bsh z 2,bsh z 2]):=by
   show Res.ok (D.tup (cutD (.str z::aaE 9 (bsh z 2)) none (some ((3:Nat):Int))))=_;congr 2
 refine ⟨.tup (.str z::(([bsh z 3,.tup [.str z,bsh z 2,bsh z 2]]++aaE 6 (.tup [.str z]))++[.tup [.str z,.tup [.str z]]])),zJ ?_,wb (by simp) (fun t ht=>?_),?_⟩
 · show xp [.shr (.str z),.un,.un]=_;unfold xp;refine (jm (jz (d:=bsh z 0) (qX (jc rfl rfl) (sm1 1 rfl (by decide))))).trans ?_;refine (jm ((yl (yC (j:=3) (jc rfl rfl) (by decide))).trans e)).trans ?_;have a1:lstF (jb (rdS 1) (jb (zy (rdS 1) yG (yk (cI 3)) slD) nil1)) [.shr (.str z),.shr (bsh z (0+3)),v]= .ok (.lst [bsh z 3,.tup [.str z,bsh z 2,bsh z 2]]):=qd (jc rfl (jc (x9 rfl rfl (x8 rfl) sl) rfl)) (sm1 2 rfl (by decide));have a2:=Kd (m:=6) (f:=tupF (jb (rdS 0) nil1)) (env:=[.shr (.str z),.shr (bsh z (0+3)),v]) (d:= .tup [.str z]) (qX (jc rfl rfl) (sm1 1 rfl (by decide))) (by decide);have a3:lstF (jb (tupF (jb (rdS 0) (jb (tupF (jb (rdS 0) nil1)) nil1))) nil1) [.shr (.str z),.shr (bsh z (0+3)),v]= .ok (.lst [.tup [.str z,.tup [.str z]]]):=qd (jc (qX (jc rfl (jc (qX (jc rfl rfl) (sm1 1 rfl (by decide))) rfl)) (sm1 2 rfl (by decide))) rfl) (sm1 1 rfl (by decide));refine jL (qB (jc (jj (jj (jj (qd (jc rfl rfl) (sm1 1 rfl (by decide))) a1 (zd (jy (by simp)))) a2 (zd (jy (by simp)))) a3 (zd (jy (by simp)))) rfl) rfl)
 · simp only [aa6,aam,aa2,or_false,List.mem_replicate] at ht;rcases ht with ((e|e)| ⟨_,e⟩)|e<;>subst e
   · exact uC z 3
   · exact wb (by simp) (fun t ht=>by
      simp only [aam,aa2,or_false] at ht
      rcases ht with e|e<;>subst e<;>exact uC z 2)
   · rfl
   · rfl
 · rw [wM,Qe,Qe,Qd];simp only [nums,wM];omega
def XV {ns:List Str} {nm:D} (hn:Fiv ns nm) (n:Int) (h0:0<=n): ∃d,qC [.int n,nm]= .ok d/\Bd d:=by
 obtain ⟨z,hz,hzn⟩:=Xy hn (n%5) (by omega) (by omega);obtain ⟨b,eb,fb,nb⟩:=jgi z;have sp:=jd4 z;obtain ⟨fs,hs⟩:=jbB z 60;have one: ∀ {f:T5} {env:Sl} {d:D},f env= .ok d->tupF (jb f nil1) env= .ok (.tup [d]):=fun h=>qX (jc h rfl) (sm1 1 rfl (by decide))
 have tw: ∀ {f g:T5} {env:Sl} {d e:D},f env= .ok d->g env= .ok e->tupF (jb f (jb g nil1)) env= .ok (.tup [d,e]):=fun h h'=>qX (jc h (jc h' rfl)) (sm1 2 rfl (by decide))
 obtain ⟨L1,hL1⟩: ∃L:List D,L=[.tup [.str "A"],.tup [.str "a1"],.tup [.str "abcdefghi"],.tup [.str ""],.tup [.str z,.bl true],.tup [.str z,.int 1000],.tup [.str z,.int (-1-n%9)],.tup []]:=⟨_,rfl⟩
 obtain ⟨L2,hL2⟩: ∃L:List D,L=[.tup (.str z::aaE 10 (.tup [.str z])),.lst [.str z],.tup [.str z,.lst [.str z]],.non,.str z,.tup [.str z,.non],.tup [.int 0,.tup [.str z]]]:=⟨_,rfl⟩
 obtain ⟨L3,hL3⟩: ∃L:List D,L=[spn z 60,.bl true,.tup (.str z::aaE 2 b)]:=⟨_,rfl⟩
 have s1:jE 2 (two (rdS 1) (two (rdS 0) (cI 5) modI) ixD) [.shr (.int n),.shr nm,.un,.un]= .ok (.nx [.shr (.int n),.shr nm,.shr (.str z),.un]):=jz (jj rfl (jj rfl rfl (wX (by decide))) hz)
 have s2:jE 3 (lstF (jb (tupF (jb (cS "A") nil1)) (jb (tupF (jb (cS "a1") nil1)) (jb (tupF (jb (cS "abcdefghi") nil1)) (jb (tupF (jb (cS "") nil1)) (jb (tupF (jb (rdS 2) (jb (cB true) nil1))) (jb (tupF (jb (rdS 2) (jb (cI 1000) nil1))) (jb (tupF (jb (rdS 2) (jb (two (negF (cI 1)) (two (rdS 0) (cI 9) modI) subI) nil1))) (jb (tupF nil1) nil1))))))))) [.shr (.int n),.shr nm,.shr (.str z),.un]= .ok (.nx [.shr (.int n),.shr nm,.shr (.str z),.shr (.lst L1)]):=by
   rw [hL1];exact jz (qd (jc (one rfl) (jc (one rfl) (jc (one rfl) (jc (one rfl) (jc (tw rfl rfl) (jc (tw rfl rfl) (jc (tw rfl (jj (jbK rfl) (jj rfl rfl (wX (by decide))) rfl)) (jc (qX rfl (sm1 0 rfl (by decide))) rfl)))))))) (sm1 8 rfl (by decide)))
 have s3:jE 3 (two (rdS 3) (lstF (jb (app (jb (two (lstF (jb (rdS 2) nil1)) (two (lstF (jb (tupF (jb (rdS 2) nil1)) nil1)) (cI 10) repL) addD) nil1) wn) (jb (lstF (jb (rdS 2) nil1)) (jb (tupF (jb (rdS 2) (jb (lstF (jb (rdS 2) nil1)) nil1))) (jb cN (jb (rdS 2) (jb (tupF (jb (rdS 2) (jb cN nil1))) (jb (tupF (jb (cI 0) (jb (tupF (jb (rdS 2) nil1)) nil1))) nil1)))))))) addD) [.shr (.int n),.shr nm,.shr (.str z),.shr (.lst L1)]= .ok (.nx [.shr (.int n),.shr nm,.shr (.str z),.shr (.lst (L1++L2))]):=by
   have hl1:L1.length=8:=by rw [hL1];rfl
   have hl2:L2.length=7:=by rw [hL2];rfl
   have ll: ∀ {f:T5} {env:Sl} {d:D},f env= .ok d->lstF (jb f nil1) env= .ok (.lst [d]):=fun h=>qd (jc h rfl) (sm1 1 rfl (by decide))
   refine jz (jj rfl (y:= .lst L2) ?_ (zd (jy (by omega))));rw [hL2];exact qd (jc (qB (jc (jj (ll rfl) (Kd (m:=10) (d:= .tup [.str z]) (one rfl) (by decide)) (zd (jy (by simp)))) rfl) rfl) (jc (ll rfl) (jc (tw rfl (ll rfl)) (jc rfl (jc rfl (jc (tw rfl rfl) (jc (tw rfl (one rfl)) rfl))))))) (sm1 7 rfl (by decide))
 have s4:jE 3 (two (rdS 3) (lstF (jb (ji 2 zE (jb (rdS 2) (jb (cI 61) nil1))) (jb (cB true) (jb (app (jb (two (lstF (jb (rdS 2) nil1)) (two (lstF (jb (ji 1 wj (jb (rdS 2) nil1)) nil1)) (cI 2) repL) addD) nil1) wn) nil1)))) addD) [.shr (.int n),.shr nm,.shr (.str z),.shr (.lst (L1++L2))]= .ok (.nx [.shr (.int n),.shr nm,.shr (.str z),.shr (.lst (L1++L2++L3))]):=by
   have hl1:(L1++L2).length=15:=by rw [hL1,hL2];rfl
   have hl2:L3.length=3:=by rw [hL3];rfl
   have ll: ∀ {f:T5} {env:Sl} {d:D},f env= .ok d->lstF (jb f nil1) env= .ok (.lst [d]):=fun h=>qd (jc h rfl) (sm1 1 rfl (by decide))
   refine jz (jj rfl (y:= .lst L3) ?_ (zd (jy (by omega))));rw [hL3];exact qd (jc (jn (jc rfl (jc rfl rfl)) rfl sp) (jc rfl (jc (qB (jc (jj (ll rfl) (Kd (m:=2) (d:=b) (jn (jc rfl rfl) rfl eb) (by decide)) (zd (jy (by simp)))) rfl) rfl) rfl))) (sm1 3 rfl (by decide))
 have hlen:(L1++L2++L3).length=18:=by rw [hL1,hL2,hL3];rfl
 obtain ⟨d,hd,hdm⟩:=ixL (ds:=L1++L2++L3) (i:=n/5%18) (by omega) (by rw [hlen];omega);refine ⟨d,u8 ?_,?_⟩
 · show q8 zE wj [.shr (.int n),.shr nm,.un,.un]=_;unfold q8;refine (jm s1).trans ((jm s2).trans ((jm s3).trans ((jm s4).trans ?_)));exact ZN (jj rfl (jj (jj rfl rfl (K1 (by decide))) rfl (wX (by decide))) hd)
 · have self: ∀ {d:D},fine d=true->isPc d=false->Bd d:=fun {d} hf h=>jfo hf (p:=d) (by rw [kl];exact aax) h
   have kid: ∀ {d:D},fine d=true->isPc d=false->Bd (.tup [.str z,d]):=fun hf h=>uH (self hf h)
   rw [hL1,hL2,hL3] at hdm;simp only [aa6,aam,aa2,or_false] at hdm;rcases hdm with ((e|e|e|e|e|e|e|e)| (e|e|e|e|e|e|e))| (e|e|e)<;>subst e
   · exact self rfl (by decide+kernel)
   · exact self rfl (by decide+kernel)
   · exact self rfl (by decide+kernel)
   · exact self rfl (by decide+kernel)
   · exact kid rfl rfl
   · exact kid rfl rfl
   · exact kid rfl (by simp only [isPc];rw [decide_eq_false (by omega)];rfl)
   · exact self rfl rfl
   · exact self (wb (by simp) (QU rfl 10)) rfl
   · exact self rfl rfl
   · exact kid rfl rfl
   · exact self rfl rfl
   · exact self rfl rfl
   · exact kid rfl rfl
   · exact self rfl rfl
   · refine jdE fs ?_;simp only [isGr,decide_eq_true_eq];omega
   · exact self rfl rfl
   · refine jdE (wb (by simp) (QU fb 2)) ?_;simp only [isGr,decide_eq_true_eq];rw [wM,Qd];omega
section
variable {ns:List Str}
def Br (b:D):Prop:=jG [b]= .ok (.bl false)
def UZ {g1 g2:T3} {env env':Sl} {o:Res Out} (h:g1 env= .ok (.nx env')) (h2:g2 env'=o):seqO g1 g2 env=o:=(jm h).trans h2
theorem Xl {l:D} {m w:Int} {nm:D} {L R:Slot} {bs:List Int}: ∀(k fuel:Nat) (x:Int),(0<=x/\x<1000)->k<fuel->(∃j:Nat,j<=k/\(x+j)%1000∉bs)-> ∃y:Int,(0<=y/\y<1000)/\y∉bs/\
  qW fuel (asB (two (rdS 4) (rdS 3) (inLR false))) (jE 4 (two (two (rdS 4) (cI 1) addD) (cI 1000) modI)) [.shr (.int m),.shr nm,.shr l,.shr (.lst (bs.map .int)),.shr (.int x),.shr (.int w),L,R]= .ok (.nx [.shr (.int m),.shr nm,.shr l,.shr (.lst (bs.map .int)),.shr (.int y),.shr (.int w),L,R])
 |k,0,x,_,h,_=>absurd h (acY _)
 |k,fuel+1,x,hx,hk,⟨j,hj,hn⟩=>by
  have il:inLR false (.int x) (.lst (bs.map .int))= .ok (.bl (decide (x∈bs))):=by
    have e:inL (bs.map .int) (.int x)=decide (x∈bs):=by
     unfold inL;rw [acg,aco,decide_eq_true_eq]
     constructor
     · rintro ⟨d,hd,he⟩;obtain ⟨i,hi,rfl⟩:=aaD.mp hd;simp only [eqD,beq_iff_eq] at he;rw [←he];exact hi
     · intro h;exact ⟨.int x,aaD.mpr ⟨x,h,rfl⟩,by simp [eqD]⟩
    show must _ (Res.ok (D.bl (inL (bs.map .int) (.int x))))=_;rw [e];refine jl ⟨KR (fun _=>rfl) bs,rfl,?_⟩
    have:D.deps (bs.map .int)<=0:=Q0 fun d hd=>by
     obtain ⟨i,_,rfl⟩:=aaD.mp hd;exact Nat.le_of_eq rfl
    omega
  by_cases c:x∈bs
  · have hj0:j≠0:=fun z=>by subst z;apply hn;rw [show (x+((0:Nat):Int))%1000=x by omega];exact c
    obtain ⟨k,rfl⟩: ∃q,k=q+1:=⟨k-1,by omega⟩
    obtain ⟨y,h1,h2,e⟩:=Xl (l:=l) (m:=m) (w:=w) (nm:=nm) (L:=L) (R:=R) (bs:=bs) k fuel ((x+1)%1000) (by omega) (by omega) ⟨j-1,by omega,by rw [show ((x+1)%1000+((j-1:Nat):Int))%1000=(x+j)%1000 by omega];exact hn⟩;refine ⟨y,h1,h2,?_⟩;rw [WJ (jO (b:=true) ((jj rfl rfl il).trans (by rw [decide_eq_true c]))) (jz (jj (jj rfl rfl rfl) rfl (wX (by decide))))];exact e
  · exact ⟨x,hx,c,Zh (jO (b:=false) ((jj rfl rfl il).trans (by rw [decide_eq_false c])))⟩
def jdY {z:Str} {a b:D} (hz:z∈ns) (ha:tk ns a=true) (hb:tk ns b=true):tk ns (.tup [.str z,a,b])=true:=uT hz (by simp) fun t ht=>by
 simp only [aam,aa2,or_false] at ht;rcases ht with e|e<;>rw [e]<;>assumption
def jc9 {l r:D} (h:Ru ns l r):fine l=true/\fine r=true:=⟨QV l h.tl,QV r h.tr⟩
def uI {nm:D} (hn:Fiv ns nm) {l r:D} (h:Ru ns l r) (n:Int) (h0:0<=n): ∃b,j5 [.int n,nm,.tup [l,r]]= .ok b/\Br b:=by
 have hnm:=hn.2.2;have hhl:=h.hl;have hnl:=h.nl;have hhr:=h.hr;have hnr:=h.nr;obtain ⟨fl,fr⟩:=jc9 h;have hbl:=Z8 16 l h.tl (by omega) (by omega);obtain ⟨a,b,ha,hb,hab⟩:=h.few
 obtain ⟨y,y0,yn,ew⟩:=Xl (l:= .tup [l,r]) (m:=n/8) (w:=n%8) (nm:=nm) (L:= .shr l) (R:= .shr r) (bs:=bks l) 2 2000 (n/8/8%1000) (by omega) (by decide) (by
   have: ∃j:Nat,j<=2/\(n/8/8%1000+j)%1000≠a/\(n/8/8%1000+j)%1000≠b:=by
    generalize n/8/8%1000=x
    by_cases c0:(x+((0:Nat):Int))%1000≠a/\(x+((0:Nat):Int))%1000≠b
    · exact ⟨0,by decide,c0⟩
    by_cases c1:(x+((1:Nat):Int))%1000≠a/\(x+((1:Nat):Int))%1000≠b
    · exact ⟨1,by decide,c1⟩
    refine ⟨2,by decide,?_⟩;omega
   obtain ⟨j,hj,n1,n2⟩:=this
   exact ⟨j,hj,fun z=>(hab _ z).elim n1 n2⟩)
 obtain ⟨z,hz,hzn⟩:=Xy hn (n/8%5) (by omega) (by omega);obtain ⟨z0,hz0,hzn0⟩:=Xy hn 0 (by omega) (by omega);obtain ⟨bt,ebt,hbt⟩:=XV hn (n/8) (by omega);obtain ⟨bu,ebu,hbu⟩:=XV hn (n/8/90) (by omega);have eqw: ∀(k:Int) {S4:Slot},asB (two (rdS 5) (cI k) eqR) [.shr (.int (n/8)),.shr nm,.shr (.tup [l,r]),.shr (.lst ((bks l).map .int)),S4,.shr (.int (n%8)),.shr l,.shr r]= .ok (n%8==k):=fun k S4=>jO (jj rfl rfl vV)
 have tw: ∀ {f g:T5} {env:Sl} {d e:D},f env= .ok d->g env= .ok e->tupF (jb f (jb g nil1)) env= .ok (.tup [d,e]):=fun h h'=>qX (jc h (jc h' rfl)) (sm1 2 rfl (by decide))
 have th: ∀ {f g k:T5} {env:Sl} {d e c:D},f env= .ok d->g env= .ok e->k env= .ok c->tupF (jb f (jb g (jb k nil1))) env= .ok (.tup [d,e,c]):=fun h h' h''=>qX (jc h (jc h' (jc h'' rfl))) (sm1 3 rfl (by decide))
 have start: ∀ {rest:T3} {o:Res Out},rest [.shr (.int (n/8)),.shr nm,.shr (.tup [l,r]),.shr (.lst ((bks l).map .int)),.shr (.int y),.shr (.int (n%8)),.shr l,.shr r]=o->(seqO (asgO (app (jb (rdS 0) (jb (cI 8) nil1)) qz) (g2 (gN 0) (gN 5))) (seqO (asgO (rdS 2) (g2 (gN 6) (gN 7))) (seqO (jE 3 (ji 1 (jv 16) (jb (rdS 6) nil1))) (seqO (jE 4 (two (two (rdS 0) (cI 8) divI) (cI 1000) modI)) (seqO (qW 2000 (asB (two (rdS 4) (rdS 3) (inLR false))) (jE 4 (two (two (rdS 4) (cI 1) addD) (cI 1000) modI))) rest))))) [.shr (.int n),.shr nm,.shr (.tup [l,r]),.un,.un,.un,.un,.un]=o:=fun hr=>by
   refine UZ (yQ (Ug rfl rfl (by decide))) ?_;refine UZ (yQ (x:=l) (y:=r) rfl) ?_;refine UZ (jz (jn (jc rfl rfl) rfl hbl)) ?_;refine UZ (jz (jj (jj rfl rfl (K1 (by decide))) rfl (wX (by decide)))) ?_;exact UZ ew hr
 have unf: ∀b,(q9 (jv 16) qC [.shr (.int n),.shr nm,.shr (.tup [l,r]),.un,.un,.un,.un,.un]= .ok (.rt true b)\/q9 (jv 16) qC [.shr (.int n),.shr nm,.shr (.tup [l,r]),.un,.un,.un,.un,.un]= .ok (.rt false b))->j5 [.int n,nm,.tup [l,r]]= .ok b:=fun b hb=>hb.elim (fun e=>zJ e) (fun e=>u8 e)
 have no: ∀ {k:Int} {S4:Slot} {A B:T3},(n%8==k)=false->seqO (ifO (asB (two (rdS 5) (cI k) eqR)) A nxO) B [.shr (.int (n/8)),.shr nm,.shr (.tup [l,r]),.shr (.lst ((bks l).map .int)),S4,.shr (.int (n%8)),.shr l,.shr r]=B [.shr (.int (n/8)),.shr nm,.shr (.tup [l,r]),.shr (.lst ((bks l).map .int)),S4,.shr (.int (n%8)),.shr l,.shr r]:=fun {k S4 A B} hk=>jm ((if_f ((eqw k).trans (by rw [hk]))).trans rfl)
 have yes: ∀ {k:Int} {S4:Slot} {A B:T3} {o:Out} {fr:Bool} {d:D},(n%8==k)=true->A [.shr (.int (n/8)),.shr nm,.shr (.tup [l,r]),.shr (.lst ((bks l).map .int)),S4,.shr (.int (n%8)),.shr l,.shr r]= .ok (.rt fr d)->seqO (ifO (asB (two (rdS 5) (cI k) eqR)) A nxO) B [.shr (.int (n/8)),.shr nm,.shr (.tup [l,r]),.shr (.lst ((bks l).map .int)),S4,.shr (.int (n%8)),.shr l,.shr r]= .ok (.rt fr d):=fun {k S4 A B o fr d} hk hA=>J2 ((if_t ((eqw k).trans (by rw [hk]))).trans hA)
 have bI: ∀ {k:Int},n%8≠k->(n%8==k)=false:=fun h=>by simpa using h
 have bT: ∀ {k:Int},n%8=k->(n%8==k)=true:=fun h=>by simpa using h
 have cases8:n%8=0\/n%8=1\/n%8=2\/n%8=3\/n%8=4\/n%8=5\/n%8=6\/n%8=7:=by omega
 have iz: ∀ {S4:Slot},two (rdS 1) (two (rdS 0) (cI 5) modI) ixD [.shr (.int (n/8)),.shr nm,.shr (.tup [l,r]),.shr (.lst ((bks l).map .int)),S4,.shr (.int (n%8)),.shr l,.shr r]= .ok (.str z):=jj rfl (jj rfl rfl (wX (by decide))) hz;rcases cases8 with c|c|c|c|c|c|c
 · refine ⟨.tup [.int y,.int y],unf _ (.inl (start (yes (o:= .nx []) (bT c) (jL (tw rfl rfl))))),?_⟩;exact yY rfl rfl (by simp [isTu])
 · refine ⟨.tup [l,.tup [.str z,r,.int y]],unf _ (.inl (start ((no (bI (by omega))).trans (yes (o:= .nx []) (bT c) (jL (tw rfl (th iz rfl rfl))))))),?_⟩;have tr2:tk ns (.tup [.str z,r,.int y])=true:=jdY hzn h.tr rfl
   have bk2: ∀x,x∈bks (.tup [.str z,r,.int y])↔x∈bks r\/x=y:=fun x=>by
    rw [JS];simp [bkss,Q3]
   have b3:(bkL (.tup [.str z,r,.int y])).length<=3:=by
    have nd:(bkL (.tup [.str z,r,.int y])).Nodup:=QC _ _ acP
    have hm: ∀x∈bkL (.tup [.str z,r,.int y]),x=a\/x=b\/x=y:=fun x hx=>by
      rcases (bk2 x).mp ((xV tr2 x).mp hx) with q|q
      · rcases hab x (h.sub x q) with e|e
        · exact .inl e
        · exact .inr (.inl e)
      · exact .inr (.inr q)
    generalize bkL (.tup [.str z,r,.int y])=L at nd hm
    match L,nd,hm with
    | [],_,_=>simp
    | [_],_,_=>simp
    | [_,_],_,_=>simp
    | [_,_,_],_,_=>simp
    |x1::x2::x3::x4::rr,nd,hm=>
      have h1:=hm x1 (by simp);have h2:=hm x2 (by simp);have h3:=hm x3 (by simp);have h4:=hm x4 (by simp);simp only [ab0,aam,not_or] at nd;omega
   have b2:(bkL l).length<=2:=Yw (a:=a) (b:=b) (fun x hx=>hab x ((xV h.tl x).mp hx)) (QC _ _ acP);have d3:=jb0 (bkL (.tup [.str z,r,.int y]));unfold Br
   rw [Kb hnm h.tl tr2 h.lt (by omega) (by rw [yH];simp only [hgts,hgt];omega) (by omega) (by rw [wM];simp only [nums,num];omega) (jaa h) (fun x hx=>by
    rcases (bk2 x).mp hx with q|q
    · exact jaa h x (h.sub x q)
    · omega) (by omega) (by omega) (by omega),decide_eq_false (fun q=>yn (q y ((bk2 y).mpr (.inr rfl))))]
 · refine ⟨.lst [l,r],unf _ (.inl (start ((no (bI (by omega))).trans ((no (bI (by omega))).trans (yes (o:= .nx []) (bT c) (jL (qd (jc rfl (jc rfl rfl)) (sm1 2 rfl (by decide))))))))),Ka rfl fun _ _ e=>by cases e⟩
 · obtain ⟨d,hd,hdm⟩:=ixL (ds:=[.tup [l,r,r],.tup [l],.tup [],.non,.str "ab",.dic [] [],.int 0]) (i:=n/8%7) (by omega) (by simp;omega);have one: ∀ {f:T5} {env:Sl} {d:D},f env= .ok d->tupF (jb f nil1) env= .ok (.tup [d]):=fun h=>qX (jc h rfl) (sm1 1 rfl (by decide))
   refine ⟨d,unf _ (.inr (start ((no (bI (by omega))).trans ((no (bI (by omega))).trans ((no (bI (by omega))).trans (yes (o:= .nx []) (bT c) (ZN (jj (qd (jc (th rfl rfl rfl) (jc (one rfl) (jc (qX rfl (sm1 0 rfl (by decide))) (jc rfl (jc rfl (jc rfl (jc rfl rfl))))))) (sm1 7 rfl (by decide))) (jj rfl rfl (wX (by decide))) hd)))))))),?_⟩;simp only [aam,aa2,or_false] at hdm;rcases hdm with e|e|e|e|e|e|e<;>subst e<;>exact Ka rfl (fun _ _ e=>by cases e)
 · refine ⟨.tup [l,bt],unf _ (.inl (start ((no (bI (by omega))).trans ((no (bI (by omega))).trans ((no (bI (by omega))).trans ((no (bI (by omega))).trans (yes (o:= .nx []) (bT c) (jL (tw rfl (jn (jc rfl (jc rfl rfl)) rfl ebt)))))))))),yY fl hbt.1 (by rw [hbt.2];simp)⟩
 · refine ⟨.tup [bt,r],unf _ (.inl (start ((no (bI (by omega))).trans ((no (bI (by omega))).trans ((no (bI (by omega))).trans ((no (bI (by omega))).trans ((no (bI (by omega))).trans (yes (o:= .nx []) (bT c) (jL (tw (jn (jc rfl (jc rfl rfl)) rfl ebt) rfl)))))))))),yY hbt.1 fr (by rw [hbt.2];rfl)⟩
 · have w:=uH (z:=z) hbu;refine ⟨.tup [.tup [.str z,bu],.tup [.str z0]],unf _ (.inl (start ?_)),yY w.1 rfl (by rw [w.2];rfl)⟩;refine (no (bI (by omega))).trans ((no (bI (by omega))).trans ((no (bI (by omega))).trans ?_));refine (no (bI (by omega))).trans ((no (bI (by omega))).trans ((no (bI (by omega))).trans ?_));exact jL (tw (tw iz (jn (jc (jj rfl rfl (K1 (by decide))) (jc rfl rfl)) rfl ebu)) (qX (jc (jj rfl rfl hz0) rfl) (sm1 1 rfl (by decide))))
theorem Kr: ∀ {ds:List D} {d:D},d∈ds->num d<=nums ds
 |x::r,d,h=>by
  simp only [nums];rcases aam.mp h with rfl|h
  · omega
  · have:=Kr h;omega
def KG {l:List Hd} {a x:Hd} (h:x∈l\/x=a):x∈hins l a:=by
 unfold hins
 split
 · rcases h with h|h
   · exact h
   · rw [h];assumption
 · rcases h with h|h
   · exact acA _ h
   · rw [h];simp
theorem Wf: ∀ {xs l:List Hd} {x:Hd},x∈l\/x∈xs->x∈hmet l xs
 | [],l,x,h=>h.elim id fun z=>by cases z
 |y::xs,l,x,h=>by
  refine Wf (l:=hins l y) ?_;rcases h with h|h
  · exact .inl (KG (.inl h))
  · rcases aam.mp h with h|h
    · exact .inl (KG (.inr h))
    · exact .inr h
theorem vH: ∀a b:List D,hdL (a++b)=hdL a++hdL b
 | [],b=>rfl
 |d::r,b=>by
  have ih:=vH r b
  cases d with
  |tup ts=>cases ts with
   |nil=>simpa [hdL] using ih
   |cons x ts=>cases x<;>simp [hdL,ih]
  |_=>simp [hdL,ih]
def KS: ∀t,tk ns t=true->D.eqb t=true/\D.dep t<=hgt t:=xC (fun i=>by simp [D.eqb,D.dep]) fun z ts _ hl h=>by
 have h1:D.eqbs ts=true:=Wo fun t ht=>((h t ht).2).1
 have h2:D.deps ts<=hgts ts:=Q0 fun t ht=>aaI ((h t ht).2).2 (hgts_mem ht)
 rw [yH];refine ⟨by simp [D.eqb,D.eqbs,h1],?_⟩;simp only [D.dep,D.deps];omega
def jbT: ∀t,tk ns t=true->eqD t t=true:=xC (fun i=>by simp [eqD]) fun z ts _ hl h=>by
 simp only [eqD,eqDs,beq_self_eq_true,Bool.true_and];exact Jp fun t ht=>(h t ht).2
def jeJ {z:Str} (h:isNm (.str z)=true):z.length<=8:=by
 rw [Wb] at h;simp only [aat,decide_eq_true_eq] at h;omega
def HdIn (ns:List Str) (l:List Hd):Prop:=l.Nodup/\ ∀x∈l,x.1∈ns/\0<=x.2/\x.2<=9
def ja1 {l:List Hd} {ds:List D} (h:HdIn ns l) (hd: ∀d∈ds,tk ns d=true):HdIn ns (hmet l (hdL ds)):=
 ⟨vC h.1,fun x hx=>(We hx).elim (h.2 x) fun z=>vG hd x z⟩
theorem Xt (hl5:ns.length=5) (T:Slot): ∀(ts:List D) (l:List Hd) (s u:Slot),(∀t∈ts,tk ns t=true/\hgt t<=64/\num t<=1000)->HdIn ns l-> ∃l' s' u',HdIn ns l'/\(∀x,x∈l'↔x∈l\/ ∃t∈ts,x∈hdL (pts t))/\
  forD (zl (gN 2) (forO (itF (ji 1 (qc 64) (jb (rdS 2) nil1))) (gN 3) (ifO (asB (isiF "tuple" (rdS 3))) (Uf 1 (ji 1 yr (jb (rdS 3) nil1)) (cB true)) nxO))) ts [T,.own (.dit (l.map hdK) (htrs l)),s,u]= .ok (.nx [T,.own (.dit (l'.map hdK) (htrs l')),s',u'])
 | [],l,s,u,_,hl=>⟨l,s,u,hl,fun x=>⟨.inl,fun h=>h.elim id fun ⟨_,h,_⟩=>by cases h⟩,rfl⟩
 |t::ts,l,s,u,h,hl=>by
  obtain ⟨ht,hh,hn⟩:=h t (by simp);have hfew:=QR hl.1 hl.2;have hlen:=yD t;have hp:=Kl 64 t (QV t ht) hh hn;obtain ⟨u1,hu⟩:=JK T (.shr t) (pts t) l u (Kg t ht) (by omega);have hit:itF (ji 1 (qc 64) (jb (rdS 2) nil1)) [T,.own (.dit (l.map hdK) (htrs l)),.shr t,u]= .ok (pts t):=QK (jn (jc rfl rfl) rfl hp) rfl;obtain ⟨l',s',u',h1,hm,h2⟩:=Xt hl5 T ts (hmet l (hdL (pts t))) (.shr t) u1 (fun e he=>h e (by simp [he])) (ja1 hl (Kg t ht));refine ⟨l',s',u',h1,fun x=>?_,?_⟩
  · rw [hm x]
    constructor
    · rintro (q| ⟨t',ht',q⟩)
      · rcases We q with q|q
        · exact .inl q
        · exact .inr ⟨t,aax,q⟩
      · exact .inr ⟨t',aao _ ht',q⟩
    · rintro (q| ⟨t',ht',q⟩)
      · exact .inl (Wf (.inl q))
      · rcases aam.mp ht' with e|e
        · subst e;exact .inl (Wf (.inr q))
        · exact .inr ⟨t',e,q⟩
  · refine (zK (env':=[T,.own (.dit ((hmet l (hdL (pts t))).map hdK) (htrs (hmet l (hdL (pts t))))),.shr t,u1]) ?_).trans h2;rw [zI (env':=[T,.own (.dit (l.map hdK) (htrs l)),.shr t,u]) rfl];exact (yl hit).trans hu
def Uo (hl5:ns.length=5) (hnm: ∀z∈ns,isNm (.str z)=true) {ts:List D} (h: ∀t∈ts,tk ns t=true/\hgt t<=64/\num t<=1000): ∃l,wg [.lst ts]= .ok (.lst ((qJ l).map hdD))/\HdIn ns l/\ ∀x,x∈l↔ ∃t∈ts,x∈hdL (pts t):=by
 obtain ⟨l',s',u',hl,hm,hf⟩:=Xt hl5 (.shr (.lst ts)) ts [] .un .un h ⟨acP,fun x hx=>by cases hx⟩;have hfew:=QR hl.1 hl.2;refine ⟨l',zJ ?_,hl,fun x=>(hm x).trans ⟨fun q=>q.elim (fun z=>by cases z) id,.inr⟩⟩;show xn (qc 64) yr [.shr (.lst ts),.un,.un,.un]=_;unfold xn;rw [jm (env':=[.shr (.lst ts),.own (.dit [] []),.un,.un]) rfl];refine (jm ((yl (ds:=ts) rfl).trans hf)).trans ?_;show retO (app (jb (rdS 1) nil1) Qm) [.shr (.lst ts),.shr (.dit (l'.map hdK) (htrs l')),s',u']=_;exact jL (qB (jc rfl rfl) (Vn hl.1 (by omega) fun a ha=>jy (aaI (jeJ (hnm _ (hl.2 a ha).1)) (by decide))))
theorem QF {n:Nat} {T:Slot}: ∀(ds:List D) (acc:List Hd) (u:Slot),(∀d∈ds,jW n [d]= .ok (.lst ((hdL (pts d)).map hdD))/\(hdL (pts d)).length<=num d)->acc.length+nums ds<=2000-> ∃v,forD (zl (gN 2) (za 1 (ji 1 (jW n) (jb (rdS 2) nil1)))) ds [T,.own (.lst (acc.map hdD)),u]= .ok (.nx [T,.own (.lst ((acc++hdL (ptss ds)).map hdD)),v])
 | [],acc,u,_,_=>⟨u,by simp [ptss,hdL];rfl⟩
 |d::ds,acc,u,h,hl=>by
  obtain ⟨h1,h2⟩:=h d aax;simp only [nums] at hl;obtain ⟨v,e⟩:=QF (n:=n) (T:=T) ds (acc++hdL (pts d)) (.shr d) (fun q hq=>h q (aao _ hq)) (by rw [aau];omega);refine ⟨v,(zK ?_).trans (e.trans ?_)⟩
  · rw [zI (env':=[T,.own (.lst (acc.map hdD)),.shr d]) rfl];show (Res.ok (acc.map hdD)>>=fun ds=>jW n [d]>>=_)=_;rw [h1];refine (jl (c:=(acc.map hdD).length+((hdL (pts d)).map hdD).length<=aah) (by rw [aak,aak];exact jy (by omega))).trans ?_;rw [abM];rfl
  · rw [ptss,vH,aaW]
theorem Wh: ∀ds:List D,(hdL ds).length<=ds.length
 | []=>aai _
 |d::r=>by
  have ih:=Wh r
  cases d with
  |tup ts=>cases ts with
   |nil=>simp only [hdL,aal];omega
   |cons x ts=>cases x<;>simp only [hdL,aal]<;>omega
  |_=>simp only [hdL,aal];omega
theorem Yy: ∀(n:Nat) (t:D),tk ns t=true->hgt t<=n->num t<=1000->jW n [t]= .ok (.lst ((hdL (pts t)).map hdD))
 |0,t,_,h,_=>by have:=YC t;omega
 |n+1,t,ht,hh,hn=>by
  have hw:=UA ht;refine zJ ?_;show wD jH (jW n) [.shr t,.un,.un]=_;unfold wD;have tt:asB (ji 1 jH (jb (rdS 0) nil1)) [.shr t,.un,.un]= .ok (isN t):=jO (jn (jc rfl rfl) rfl hw);rcases zM ht with ⟨i,rfl⟩| ⟨z,ts,rfl,hz,hl,hts⟩
  · refine J2 ((if_t tt).trans (jL ?_));have:hdL (pts (.int i))=[]:=by simp [pts,hdL]
    rw [this];exact qd rfl (sm1 0 rfl (by decide))
  · refine (jm ((if_f tt).trans rfl)).trans ?_;rw [yH] at hh;rw [wM] at hn
    have h1:lstF (jb (tupF (jb (two (rdS 0) (cI 0) ixD) (jb (two (app (jb (rdS 0) nil1) lenD) (cI 1) subI) nil1))) nil1) [.shr (.tup (.str z::ts)),.un,.un]= .ok (.lst ([(z,(ts.length:Int))].map hdD)):=by
     refine qd (jc (qX (jc (jj rfl rfl ix0) (jc (jj (qB (jc rfl rfl) rfl) rfl ?_) rfl)) (sm1 2 rfl (by decide))) rfl) (sm1 1 rfl (by decide));show Res.ok (D.int (((D.str z::ts).length:Int)-1))=_;simp
    refine (jm (Jz h1)).trans ?_;obtain ⟨v,e⟩:=QF (n:=n) (T:= .shr (.tup (.str z::ts))) ts [(z,(ts.length:Int))] .un (fun d hd=>⟨Yy n d (hts d hd) (by have:=M.hgts_mem hd;omega) (by have:=Kr hd;omega),by have:=Wh (pts d);rw [yD] at this;exact this⟩) (by simp;omega)
    have sl:itF (zy (rdS 0) (yk (cI 1)) yG slD) [.shr (.tup (.str z::ts)),.own (.lst ([(z,(ts.length:Int))].map hdD)),.un]= .ok ts:=by
     refine QK (x9 rfl (x8 rfl) rfl rfl) ?_;show Res.ok (cutD (.str z::ts) (some 1) none)=_;rw [cut1]
    refine (jm ((yl sl).trans e)).trans (jL ?_)
    have:hdL (pts (.tup (.str z::ts)))=[(z,(ts.length:Int))]++hdL (ptss ts):=by
     simp only [pts,vF];rfl
    rw [this];rfl
def rl (p:D×D):D:= .tup [p.1,p.2]
def Rus (ns:List Str) (ps:List (D×D)):Prop:= ∀p∈ps,Ru ns p.1 p.2
def WC {d:D} {ds:List D} (hd:d= .lst ds\/d= .scr ds) (q:D->Bool) (h: ∀e∈ds,jG [e]= .ok (.bl (q e))) (hl:ds.length<=1000):j4 [d]= .ok (.bl (decide (ds.length<=40)&&ds.all q)):=by
 have hi:itF (rdS 0) [.shr d]= .ok ds:=by
   rcases hd with e|e<;>subst e<;>exact QK rfl rfl
 have hit:asB (jaS "list" (rdS 0)) [.shr d]= .ok true:=by
   rcases hd with e|e<;>subst e<;>rfl
 have hle:lenD [d]= .ok (.int ds.length):=by
   rcases hd with e|e<;>subst e<;>rfl
 have key:xt false 1 [] (itF (rdS 0)) (gN 0) qV (ji 1 jG (jb (rdS 0) nil1)) [.shr d]= .ok (.lst (ds.map fun e=> .bl (q e))):=
   jdz _ (fun e=>e∈ds) hi (fun e he=>he) (jy (by omega)) (fun e acc he=>jn (jc rfl rfl) rfl (h e he))
 have hg:asB (two (app (jb (rdS 0) nil1) lenD) (cI 40) gtI) [.shr d]= .ok (decide ((40:Int)<ds.length)):=jO (jj (qB (jc rfl rfl) hle) rfl rfl);refine zJ ?_;show zo jG [.shr d]=_;unfold zo
 by_cases c:ds.length<=40
 · rw [decide_eq_false (by omega)] at hg;refine (jm ((if_f (y7 (b:=false) (jZ (b:=true) hit) hg)).trans rfl)).trans ?_;rw [decide_eq_true c,Bool.true_and];exact jL (qB (jc key rfl) (WE ds q))
 · rw [decide_eq_true (by omega)] at hg;rw [decide_eq_false c,aeE];exact J2 ((if_t (y7 (b:=false) (jZ (b:=true) hit) hg)).trans rfl)
def jdM {d:D} (h:kU d=true) (hd: ∀ds,d≠ .lst ds):j4 [d]= .ok (.bl false):=by
 refine zJ ?_;show zo jG [.shr d]=_;unfold zo
 have tt:orB (notB (asB (jaS "list" (rdS 0)))) (asB (two (app (jb (rdS 0) nil1) lenD) (cI 40) gtI)) [.shr d]= .ok true:=by
  cases d with
  |lst ds=>exact (hd ds rfl).elim
  |scr _=>cases h
  |exn _=>cases h
  |fdc _ _=>cases h
  |hdc _ _=>cases h
  |obj _ _ _=>cases h
  |mem _ _=>cases h
  |_=>rfl
 exact J2 ((if_t tt).trans rfl)
theorem ur {fe:T5} (φ:D×D->D) (P:D×D->Prop) (hfe: ∀p acc,P p->fe [.shr p.1,.shr p.2,.own (.lst acc)]= .ok (φ p)):
  ∀(ps:List (D×D)) (acc:List D) (u v:Slot),(∀p∈ps,P p)->acc.length+ps.length<=aah-> ∃u' v',wR 2 (g2 (gN 0) (gN 1)) qV fe (ps.map rl) [u,v,.own (.lst acc)]= .ok [u',v',.own (.lst (acc++ps.map φ))]
 | [],acc,u,v,_,_=>⟨u,v,by simp [wR]⟩
 |p::r,acc,u,v,hp,h=>by
  simp only [aal] at h;obtain ⟨u',v',e⟩:=ur φ P hfe r (acc++[φ p]) (.shr p.1) (.shr p.2) (fun x hx=>hp x (by simp [hx])) (by simp only [aau,aal,aaR];omega);refine ⟨u',v',?_⟩
  have h1:wR 2 (g2 (gN 0) (gN 1)) qV fe ((p::r).map rl) [u,v,.own (.lst acc)]=wR 2 (g2 (gN 0) (gN 1)) qV fe (r.map rl) [.shr p.1,.shr p.2,.own (.lst (acc++[φ p]))]:=by
   show (fe [.shr p.1,.shr p.2,.own (.lst acc)]>>=_)=_;rw [hfe p acc (hp p (by simp))];exact jl (c:=acc.length<aah) (by omega)
  rw [h1,e];simp
def K6 {fe:T5} {fi:T0} {env:Sl} {ps:List (D×D)} (φ:D×D->D) (P:D×D->Prop) (hfe: ∀p acc,P p->fe [.shr p.1,.shr p.2,.own (.lst acc)]= .ok (φ p)) (hi:fi env= .ok (ps.map rl)) (hp: ∀p∈ps,P p) (hl:ps.length<=aah):
  xt false 2 [] fi (g2 (gN 0) (gN 1)) qV fe env= .ok (.lst (ps.map φ)):=by
 obtain ⟨u,v,e⟩:=ur φ P hfe ps [] .un .un hp (by simpa using hl);show (fi env>>=_)=_;rw [hi];show (wR 2 (g2 (gN 0) (gN 1)) qV fe (ps.map rl) [.un,.un,.own (.lst [])]>>=_)=_;rw [e];rw [List.nil_append];exact jl (c:=(false=true->D.imms (ps.map φ)=true)) (fun z=>by cases z)
def obj (ps:List (D×D)) (hs:List D):D:= .obj "Rules" ["listed", "named"] [.lst (ps.map rl),.lst hs]
def U0 {g1 g2:Sl->Res OutO} {env env':Sl} (h:g1 env= .ok (.nx env')):seqJ g1 g2 env=g2 env':=by
 show (g1 env>>=_)=_;rw [h];rfl
def Y8 {f:T5} {env:Sl} {c n:Str} {i:Nat} {fs:List Str} {ds:List D} {d:D} (h:f env= .ok d) (hi:env[i]?=some (.own (.obj c fs ds))) (hl:fs.length<1000):u7 i c n f env= .ok (.nx (env.set i (.own (.obj c (VB n fs) (VC n d fs ds))))):=by
 have ho:ownJ i c env= .ok (fs,ds):=by
  unfold ownJ;rw [hi];exact jl rfl
 show (f env>>=fun d=>ownJ i c env>>=_)=_;rw [h];show (ownJ i c env>>=_)=_;rw [ho];exact jl hl
def u9 {N n:Nat} {g:Sl->Res OutO} {d0 d:D} {ds:List D} {env:Sl} (hl:ds.length=n) (h:g (wo N d0 ds)= .ok (.nx env)) (hs:J6 env= .ok d):ZM N n g d0 ds= .ok (.non,d):=by
 unfold ZM;rw [if_pos hl,h];simp only [hs]
def kf {N n:Nat} {g:Sl->Res OutO} {d0:D} {ds:List D} {c:Str} (hl:ds.length=n) (h:g (wo N d0 ds)= .exc c):ZM N n g d0 ds= .exc c:=by
 unfold ZM;rw [if_pos hl,h]
def je2 {t:T4} {g1 g2:Sl->Res OutO} {env:Sl} (h:t env= .ok false):ifJX t g1 g2 env=g2 env:=by unfold ifJX;rw [h];rfl
def je1 {t:T4} {g1 g2:Sl->Res OutO} {env:Sl} (h:t env= .ok true):ifJX t g1 g2 env=g1 env:=by unfold ifJX;rw [h];rfl
def Va {g:Sl->Res OutO} {env:Sl} {o:OutO} (h:g env= .ok o):Uj g env= .ok o:=by unfold Uj;rw [h];rfl
def tops (ps:List (D×D)):List Hd:=ps.flatMap fun p=>hdL (pts p.1)++hdL (pts p.2)
def ru_t {l r:D} (h:Ru ns l r):(tk ns l=true/\hgt l<=64/\num l<=1000)/\(tk ns r=true/\hgt r<=64/\num r<=1000):=⟨⟨h.tl,by have:=h.hl;omega,by have:=h.nl;omega⟩,⟨h.tr,by have:=h.hr;omega,by have:=h.nr;omega⟩⟩
def jf1 (hl5:ns.length=5) (hnm: ∀z∈ns,isNm (.str z)=true) {ps:List (D×D)} (h:Rus ns ps) (hl:ps.length<=40): ∃l,jA (.obj "Rules" [] []) [.scr (ps.map rl)]= .ok (.non,obj ps ((qJ l).map hdD))/\HdIn ns l/\ ∀x,x∈l↔x∈tops ps:=by
 have hz:ps.length<=aah:=jy (by omega)
 obtain ⟨l,hh,hin,hm⟩:=Uo (ns:=ns) hl5 hnm (ts:=ps.map (·.1)++ps.map (·.2)) (fun t ht=>by
   rcases aa6.mp ht with z|z
   · obtain ⟨p,hp,rfl⟩:=aaD.mp z;exact (ru_t (h p hp)).1
   · obtain ⟨p,hp,rfl⟩:=aaD.mp z
     exact (ru_t (h p hp)).2)
 refine ⟨l,?_,hin,fun x=>?_⟩
 · have ar:j4 [.scr (ps.map rl)]= .ok (.bl true):=by
     rw [WC (.inr rfl) (fun _=>true) (fun e he=>by
       obtain ⟨p,hp,rfl⟩:=aaD.mp he
       exact Wa hnm (h p hp)) (by rw [aak];omega),aak,decide_eq_true hl]
     simp
   have e0:jU wg j4 [.own (.obj "Rules" [] []),.shr (.scr (ps.map rl))]= .ok (.nx [.own (obj ps ((qJ l).map hdD)),.shr (.scr (ps.map rl))]):=by
     unfold jU;have t1:notB (asB (ji 1 j4 (jb (rdS 1) nil1))) [.own (.obj "Rules" [] []),.shr (.scr (ps.map rl))]= .ok false:=jZ (jO (jn (jc rfl rfl) rfl ar));refine (U0 ((je2 t1).trans (Va rfl))).trans (Va ?_);refine (U0 ((Y8 (d:= .lst (ps.map rl)) (qB (jc rfl rfl) rfl) rfl (by decide)).trans rfl)).trans ?_;have c1:=K6 (fe:=rdS 0) (fi:=itF (rdS 1)) (env:=[.own (.obj "Rules" ["listed"] [.lst (ps.map rl)]),.shr (.scr (ps.map rl))]) (ps:=ps) (·.1) (fun _=>True) (fun p acc _=>rfl) rfl (fun _ _=>trivial) hz;have c2:=K6 (fe:=rdS 1) (fi:=itF (rdS 1)) (env:=[.own (.obj "Rules" ["listed"] [.lst (ps.map rl)]),.shr (.scr (ps.map rl))]) (ps:=ps) (·.2) (fun _=>True) (fun p acc _=>rfl) rfl (fun _ _=>trivial) hz;refine (Y8 (d:= .lst ((qJ l).map hdD)) (jn (ds:=[.lst (ps.map (·.1)++ps.map (·.2))]) (jc (jj c1 c2 (zd (by simp only [aak];exact jy (by omega)))) rfl) rfl hh) rfl (by decide)).trans ?_;rfl
   exact u9 rfl e0 rfl
 · rw [hm x];unfold tops;simp only [aa6,aaD,adl]
   constructor
   · rintro ⟨t,(⟨p,hp,rfl⟩| ⟨p,hp,rfl⟩),hx⟩
     · exact ⟨p,hp,.inl hx⟩
     · exact ⟨p,hp,.inr hx⟩
   · rintro ⟨p,hp,hx|hx⟩
     · exact ⟨p.1,.inl ⟨p,hp,rfl⟩,hx⟩
     · exact ⟨p.2,.inr ⟨p,hp,rfl⟩,hx⟩
def jaU {d:D} (h:j4 [d]= .ok (.bl false)):jA (.obj "Rules" [] []) [d]= .exc "NoRule" :=by
 have t1:notB (asB (ji 1 j4 (jb (rdS 1) nil1))) [.own (.obj "Rules" [] []),.shr d]= .ok true:=jZ (jO (jn (jc rfl rfl) rfl h))
 have e0:jU wg j4 [.own (.obj "Rules" [] []),.shr d]= .exc "NoRule" :=by
  unfold jU;show (ifJX _ _ _ _>>=_)=_;rw [je1 t1];rfl
 exact kf rfl e0
def ZO {d:D} (h:j4 [d]= .ok (.bl false)):jF [d]= .ok (.bl true):=by
 have hi:=jaU h
 have mk:ub (Je "Rules" 1 jA (jb (rdS 0) nil1)) [.shr d,.shr (.lst []),.un]= .exc "NoRule" :=by
  unfold ub Je;rw [show jb (rdS 0) nil1 [.shr d,.shr (.lst []),.un]= .ok [d] from jc rfl rfl];dsimp only;rw [if_pos (show [d].length=1 from rfl),hi];rfl
 refine zJ ?_;show zr jA [.shr d,.un,.un]=_;unfold zr;refine (jm (jz (d:= .lst []) (qd rfl (sm1 0 rfl (by decide))))).trans ?_
 have tr: ∀(gs:T3) (o:Out),gs [.shr d,.shr (.lst []),.shr (.exn "NoRule")]= .ok o->tryO ["NoRule"] (ub (Je "Rules" 1 jA (jb (rdS 0) nil1))) 2 gs [.shr d,.shr (.lst []),.un]= .ok (outU 2 o):=fun gs o hg=>by
  unfold tryO;rw [mk];dsimp only;rw [if_pos (by decide)];show (gs [.shr d,.shr (.lst []),.shr (.exn "NoRule")]>>=_)=_;rw [hg];rfl
 have hh:(seqO (jE 1 (lstF (jb (isxF ["NoRule"] (rdS 2)) (jb (isyF [("NoRule",true)] (rdS 2)) (jb (isyF [("NoRule",false)] (rdS 2)) (jb (isyF [("NoRule",false)] (rdS 2)) nil1)))))) (jE 1 (two (rdS 1) (lstF (jb (isyF [("NoRule",false)] (rdS 2)) nil1)) addD))) [.shr d,.shr (.lst []),.shr (.exn "NoRule")]= .ok (.nx [.shr d,.shr (.lst [.bl true,.bl true,.bl false,.bl false,.bl false]),.shr (.exn "NoRule")]):=by
  refine (jm (jz (d:= .lst [.bl true,.bl true,.bl false,.bl false]) (qd (jc rfl (jc rfl (jc rfl (jc rfl rfl)))) (sm1 4 rfl (by decide))))).trans ?_;exact jz (jj rfl (qd (jc rfl rfl) (sm1 1 rfl (by decide))) (zd (jy (by simp))))
 refine (jm (tr _ _ hh)).trans (jL ?_);exact jj rfl (qd (jc rfl (jc rfl (jc rfl (jc rfl (jc rfl rfl))))) (sm1 5 rfl (by decide))) rfl
def jbJ: ∀t,tk ns t=true->noS t=true:=xC (fun i=>rfl) fun z ts _ _ h=>by
 have: ∀ds:List D,(∀d∈ds,noS d=true)->noSs ds=true:=by
  intro ds
  induction ds with
  |nil=>intro _;rfl
  |cons d r ih=>intro h;simp only [noSs,h d aax,ih fun e he=>h e (aao _ he),acN]
 simp only [noS,noSs,this ts fun t ht=>(h t ht).2,acN]
theorem Yr: ∀ {ds:List D},(∀d∈ds,noS d=true)->noSs ds=true
 | [],_=>rfl
 |d::r,h=>by simp only [noSs,h d aax,Yr fun e he=>h e (aao _ he),acN]
def jeI {p:D×D} (h:Ru ns p.1 p.2):noS (rl p)=true:=by
 simp only [rl,noS,noSs,jbJ _ h.tl,jbJ _ h.tr,acN]
def jcJ {ps:List (D×D)} (h:Rus ns ps) (l:List Hd):noS (obj ps (l.map hdD))=true:=by
 have h1:noSs (ps.map rl)=true:=Yr fun d hd=>by
  obtain ⟨p,hp,rfl⟩:=aaD.mp hd;exact jeI (h p hp)
 have h2:noSs (l.map hdD)=true:=Yr fun d hd=>by
  obtain ⟨a,_,rfl⟩:=aaD.mp hd;rfl
 simp only [obj,noS,noSs,h1,h2,acN]
def jf9 {ps:List (D×D)} (h:Rus ns ps):eqD (.lst (ps.map rl)) (.lst (ps.map rl))=true/\EqC (.lst (ps.map rl)) (.lst (ps.map rl)):=by
 have e1:D.eqb (.lst (ps.map rl))=true:=by
   simp only [D.eqb]
   exact Wo fun d hd=>by
    obtain ⟨p,hp,rfl⟩:=aaD.mp hd;simp only [rl,D.eqb,D.eqbs,(KS _ (h p hp).tl).1,(KS _ (h p hp).tr).1,acN]
 refine ⟨?_,.inl ⟨e1,e1,?_⟩⟩
 · simp only [eqD]
   exact Jp fun d hd=>by
    obtain ⟨p,hp,rfl⟩:=aaD.mp hd;simp only [rl,eqD,eqDs,jbT _ (h p hp).tl,jbT _ (h p hp).tr,acN]
 · simp only [D.dep]
   have:D.deps (ps.map rl)<=10:=Q0 fun d hd=>by
    obtain ⟨p,hp,rfl⟩:=aaD.mp hd;simp only [rl,D.dep,D.deps];have a1:=(KS _ (h p hp).tl).2;have a2:=(KS _ (h p hp).tr).2;have:=(h p hp).hl;have:=(h p hp).hr;omega
   omega
def jga (l:List Hd):eqD (.lst (l.map hdD)) (.lst (l.map hdD))=true/\EqC (.lst (l.map hdD)) (.lst (l.map hdD)):=by
 have e1:D.eqb (.lst (l.map hdD))=true:=by
   simp only [D.eqb];exact KR (fun _=>rfl) l
 refine ⟨?_,.inl ⟨e1,e1,?_⟩⟩
 · simp only [eqD]
   exact Jp fun d hd=>by
    obtain ⟨a,_,rfl⟩:=aaD.mp hd;simp [hdD,eqD,eqDs]
 · simp only [D.dep]
   have:D.deps (l.map hdD)<=10:=Q0 fun d hd=>by
    obtain ⟨a,_,rfl⟩:=aaD.mp hd;simp [hdD,D.dep,D.deps]
   omega
def kW {d:D} (h:eqD d d=true/\EqC d d):neR d d= .ok (.bl false):=by unfold neR;rw [jl h.2,h.1];rfl
def vU {d:D} (h:eqD d d=true/\EqC d d):eqR d d= .ok (.bl true):=by unfold eqR;rw [jl h.2,h.1]
abbrev tkE (G H:Slot) (R F T L:Slot) (l r:Slot):Sl:=[G,H,R,F,T,L,l,r]
theorem WP {G H R F L:Slot}: ∀(ps:List (D×D)) (acc:List Hd) (l r:Slot),Rus ns ps->acc.length+26*ps.length<=2000-> ∃l' r',forD (zl (g2 (gN 6) (gN 7)) (jE 4 (two (two (rdS 4) (ji 1 (jW 16) (jb (rdS 6) nil1)) addD) (ji 1 (jW 16) (jb (rdS 7) nil1)) addD))) (ps.map rl) (tkE G H R F (.shr (.lst (acc.map hdD))) L l r)= .ok (.nx (tkE G H R F (.shr (.lst ((acc++tops ps).map hdD))) L l' r'))
 | [],acc,l,r,_,_=>⟨l,r,by simp [tops];rfl⟩
 |p::ps,acc,l,r,h,hl=>by
  have hr:=h p aax;have h1:=Yy 16 p.1 hr.tl (by have:=hr.hl;omega) (by have:=hr.nl;omega);have h2:=Yy 16 p.2 hr.tr (by have:=hr.hr;omega) (by have:=hr.nr;omega);have a1:=Wh (pts p.1);have a2:=Wh (pts p.2);rw [yD] at a1 a2;have:=hr.nl;have:=hr.nr;simp only [aal] at hl;obtain ⟨l',r',e⟩:=WP (G:=G) (H:=H) (R:=R) (F:=F) (L:=L) ps (acc++(hdL (pts p.1)++hdL (pts p.2))) (.shr p.1) (.shr p.2) (fun q hq=>h q (aao _ hq)) (by rw [aau,aau];omega);refine ⟨l',r',(zK ?_).trans (e.trans ?_)⟩
  · rw [zI (env':=tkE G H R F (.shr (.lst (acc.map hdD))) L (.shr p.1) (.shr p.2)) rfl];refine (jz (d:= .lst ((acc++(hdL (pts p.1)++hdL (pts p.2))).map hdD)) ?_).trans rfl;refine (jj (jj rfl (jn (jc rfl rfl) rfl h1) (zd (by rw [aak,aak];exact jy (by omega)))) (jn (jc rfl rfl) rfl h2) (zd (by rw [aau,aak,aak,aak];exact jy (by omega)))).trans ?_;rw [abM,abM,aaW]
  · have e9:tops (p::ps)=(hdL (pts p.1)++hdL (pts p.2))++tops ps:=by simp [tops]
    rw [e9,aaW]
def vE (ps:List (D×D)) (hs:List D):jV [obj ps hs]= .ok (.lst hs):=by
 refine zJ ?_;show qo [.shr (obj ps hs)]=_;unfold qo;exact jL (qB (jc (d:= .lst hs) rfl rfl) rfl)
def jfy (ps:List (D×D)) (hs:List D):qM [obj ps hs]= .ok (.lst (ps.map rl)):=by
 refine zJ ?_;show zt [.shr (obj ps hs)]=_;unfold zt;exact jL (qB (jc (d:= .lst (ps.map rl)) rfl rfl) rfl)
def jaH {c:Str} {n:Nat} {F:FO} {g:T0} {env:Sl} {ds:List D} {d:D} (h:g env= .ok ds) (hl:ds.length=n) (hF:F (.obj c [] []) ds= .ok (.non,d)):Je c n F g env= .ok d:=by
 unfold Je;rw [h];dsimp only;rw [if_pos hl,hF]
def jaJ {i:Nat} {f:T5} {env:Sl} {ds:List D} {d:D} (hi:env[i]?=some (.own (.lst ds))) (h:f (env.set i (.shr (.scr ds)))= .ok d) (hn:noS d=true):Yz i f env= .ok d:=by
 unfold Yz;rw [hi];dsimp only;rw [h];exact jl hn
def UI (hl5:ns.length=5) (hnm: ∀z∈ns,isNm (.str z)=true) {ps:List (D×D)} (h:Rus ns ps) (hl:ps.length<=40):qf [.lst (ps.map rl)]= .ok (.bl true):=by
 obtain ⟨l,hi,hin,hm⟩:=jf1 hl5 hnm h hl;obtain ⟨O,hO⟩: ∃O,O=obj ps ((qJ l).map hdD):=⟨_,rfl⟩
 have hfew:=QR hin.1 hin.2;have same:qJ (ddH (tops ps))=qJ l:=WZ hin.1 ((ac9 (uj _) hin.1).mpr fun x=>by rw [ddH_mem,hm]);have dl:(ddH (tops ps)).length=l.length:=((ac9 (uj _) hin.1).mpr fun x=>by rw [ddH_mem,hm]).length_eq
 have hsrt:ZF (.lst ((tops ps).map hdD))= .ok (.lst ((qJ l).map hdD)):=by
  show (match Wg ((tops ps).map hdD) with
    |some hs=>must ((ddH hs).length<64) (Res.ok (D.lst ((qJ (ddH hs)).map hdD)))
    |none=>Res.stuck)=_
  rw [Xu];dsimp only;rw [jl (by rw [dl];omega),same]
 have mT: ∀ {env:Sl},rdS 2 env= .ok O->JH "Rules" "told" 1 qM (rdS 2) noA env= .ok (.lst (ps.map rl)):=fun h=>by
  rw [hO] at h;exact Z6 h (by decide) rfl rfl (jfy ps _)
 have mH: ∀ {env:Sl},rdS 2 env= .ok O->JH "Rules" "heads_of" 1 jV (rdS 2) noA env= .ok (.lst ((qJ l).map hdD)):=fun h=>by
  rw [hO] at h;exact Z6 h (by decide) rfl rfl (vE ps _)
 have hpl:(ps.map rl).length<=40:=by rw [aak];exact hl
 generalize hG:ps.map rl=Gd at*;refine zJ ?_;show wz _ _ _ _ (tkE (.shr (.lst Gd)) .un .un .un .un .un .un .un)=_;unfold wz;refine (jm (Jz (d:= .lst Gd) (qB (jc rfl rfl) rfl))).trans ?_
 have s2:jE 2 (Yz 1 (uy (Je "Rules" 1 jA (jb (rdS 1) nil1)))) (tkE (.shr (.lst Gd)) (.own (.lst Gd)) .un .un .un .un .un .un)= .ok (.nx (tkE (.shr (.lst Gd)) (.own (.lst Gd)) (.shr O) .un .un .un .un .un)):=by
  refine jz (jaJ rfl (jbq (jaH (ds:=[.scr Gd]) (jc rfl rfl) rfl ?_)) ?_)
  · rw [hO];exact hi
  · rw [hO];exact jcJ h _
 refine (jm s2).trans ?_;refine (jm (Wx (ds:=Gd) rfl)).trans ?_;refine (jm (Jz (d:= .lst Gd) (mT rfl))).trans ?_;have hEq:=jf9 h;rw [hG] at hEq;have t1:orB (notB (asB (isiF "list" (rdB 3)))) (asB (two (rdB 3) (rdS 0) neR)) (tkE (.shr (.lst Gd)) (.own (.lst [])) (.shr O) (.own (.lst Gd)) .un .un .un .un)= .ok false:=y7 (b:=false) (b2:=false) (jZ (b:=true) (jO (Xo rfl rfl))) (jO (jj rfl rfl (kW hEq)));refine (jm ((if_f t1).trans rfl)).trans ?_;refine (jm (jb6 (ds:=Gd) rfl rfl (Nat.lt_of_le_of_lt hpl (by decide)))).trans ?_;refine (jm (jz (d:= .lst []) (qd rfl (sm1 0 rfl (by decide))))).trans ?_;obtain ⟨l',r',el⟩:=WP (G:= .shr (.lst Gd)) (H:= .own (.lst [])) (R:= .shr O) (F:= .own (.lst (Gd++[.int 0]))) (L:= .un) ps [] .un .un h (by simp;omega);rw [hG,List.nil_append] at el;have it:itF (rdS 0) (tkE (.shr (.lst Gd)) (.own (.lst [])) (.shr O) (.own (.lst (Gd++[.int 0]))) (.shr (.lst [])) .un .un .un)= .ok Gd:=QK rfl rfl;refine (jm ((yl it).trans el)).trans ?_;refine (jm (Jz (d:= .lst ((qJ l).map hdD)) (mH rfl))).trans ?_;have hE2:=jga (qJ l);have sF: ∀ {env:Sl},rdS 4 env= .ok (.lst ((tops ps).map hdD))->J1 (rdS 4) env= .ok (.lst ((qJ l).map hdD)):=fun h=>by unfold J1;rw [h];exact hsrt
 have t2:orB (notB (asB (isiF "list" (rdB 5)))) (asB (two (rdB 5) (J1 (rdS 4)) neR)) (tkE (.shr (.lst Gd)) (.own (.lst [])) (.shr O) (.own (.lst (Gd++[.int 0]))) (.shr (.lst ((tops ps).map hdD))) (.own (.lst ((qJ l).map hdD))) l' r')= .ok false:=y7 (b:=false) (b2:=false) (jZ (b:=true) (jO (Xo rfl rfl))) (jO (jj rfl (sF rfl) (kW hE2)));refine (jm ((if_f t2).trans rfl)).trans ?_;refine (jm (Wx (ds:=(qJ l).map hdD) rfl)).trans (jL ?_);have u1:two (JH "Rules" "heads_of" 1 jV (rdS 2) noA) (J1 (rdS 4)) eqR (tkE (.shr (.lst Gd)) (.own (.lst [])) (.shr O) (.own (.lst (Gd++[.int 0]))) (.shr (.lst ((tops ps).map hdD))) (.own (.lst [])) l' r')= .ok (.bl true):=jj (mH rfl) (sF rfl) (vU hE2);have u2:two (JH "Rules" "told" 1 qM (rdS 2) noA) (rdS 0) eqR (tkE (.shr (.lst Gd)) (.own (.lst [])) (.shr O) (.own (.lst (Gd++[.int 0]))) (.shr (.lst ((tops ps).map hdD))) (.own (.lst [])) l' r')= .ok (.bl true):=jj (mT rfl) rfl (vU hEq);show (two (JH "Rules" "heads_of" 1 jV (rdS 2) noA) (J1 (rdS 4)) eqR (tkE (.shr (.lst Gd)) (.own (.lst [])) (.shr O) (.own (.lst (Gd++[.int 0]))) (.shr (.lst ((tops ps).map hdD))) (.own (.lst [])) l' r')>>=_)=_;rw [u1];exact u2
theorem jcp: ∀ {ts:List D},(∀t∈ts,∃p,t=rl p/\Ru ns p.1 p.2)-> ∃ps:List (D×D),ts=ps.map rl/\Rus ns ps
 | [],_=>⟨[],rfl,fun p hp=>by cases hp⟩
 |t::r,h=>by
  obtain ⟨p,rfl,hp⟩:=h t (by simp);obtain ⟨ps,rfl,hps⟩:=jcp (ts:=r) fun x hx=>h x (by simp [hx])
  exact ⟨p::ps,rfl,fun q hq=>by
   rcases aam.mp hq with e|e
   · rw [e];exact hp
   · exact hps q e⟩
def ZC {nm:D} (hn:Fiv ns nm) (m:Int) (hm:0<=m/\m<2^140) {fi:T0} {env:Sl} (n:Nat) (hi:fi env= .ok (xM 0 n)) (hl:n<=40) (hc:[1,0].map (capS false env)=[.shr nm,.shr (.int m)]):
  ∃ps:List (D×D),xt false 1 [1,0] fi (gN 0) qV (ji 2 j7 (jb (ji 2 jt (jb (rdS 2) (jb (rdS 0) nil1))) (jb (rdS 1) nil1))) env= .ok (.lst (ps.map rl))/\Rus ns ps/\ps.length=n:=by
 obtain ⟨ts,hts,h1,hR⟩:=Ww (js:=[1,0]) (fi:=fi) (fe:=ji 2 j7 (jb (ji 2 jt (jb (rdS 2) (jb (rdS 0) nil1))) (jb (rdS 1) nil1)))
  (env:=env) (ds:=xM 0 n) (cs:=[.shr nm,.shr (.int m)])
  (fun d=> ∃p,d=rl p/\Ru ns p.1 p.2) (fun d=> ∃k:Int,d= .int k/\0<=k/\k<100) hc hi (fun d hd=>by
   obtain ⟨k,rfl,k0,k1⟩:=Jd hd
   exact ⟨k,rfl,k0,by omega⟩) (by rw [qu];exact jy (by omega)) (by
   rintro d acc ⟨k,rfl,k0,k1⟩;obtain ⟨m4,hm4,hb4⟩:=zm m k hm (by omega);obtain ⟨l,r,hr,ru⟩:=Zl hn m4 hb4
   exact ⟨_,jn (jc (jn (jc rfl (jc rfl rfl)) rfl hm4) (jc rfl rfl)) rfl hr,(l,r),rfl,ru⟩)
 rw [qu] at h1;obtain ⟨ps,rfl,hps⟩:=jcp hR;rw [aak] at h1;exact ⟨ps,hts,hps,h1⟩
def Ya {nm:D} (hn:Fiv ns nm) (m:Int) (hm:0<=m/\m<2^140): ∃ps:List (D×D),zF [.int m,nm]= .ok (.lst (ps.map rl))/\Rus ns ps/\ps.length<=40:=by
 have hm':0<=m/12/\m/12<2^140:=⟨by omega,by omega⟩
 have hm2:0<=m/12/5/\m/12/5<2^140:=⟨by omega,by omega⟩
 have s1:asgO (app (jb (rdS 0) (jb (cI 12) nil1)) qz) (g2 (gN 0) (gN 2)) [.shr (.int m),.shr nm,.un,.un,.un]= .ok (.nx [.shr (.int (m/12)),.shr nm,.shr (.int (m%12)),.un,.un]):=yQ (Ug rfl rfl (by omega));have tst:asB (two (rdS 2) (cI 7) eqR) [.shr (.int (m/12)),.shr nm,.shr (.int (m%12)),.un,.un]= .ok (m%12==7):=jO (jj rfl rfl Wp)
 by_cases c:m%12=7
 · rw [show (m%12==7)=true by simpa using c] at tst;obtain ⟨ps,e1,R,h3⟩:=ZC hn (m/12) hm' (fi:=rngF (jb (cI 3) nil1)) (env:=[.shr (.int (m/12)),.shr nm,.shr (.int (m%12)),.un,.un]) 3 (yC (j:=3) (jc rfl rfl) ⟨by omega,by omega⟩) (by omega) rfl
   obtain ⟨ts,hts,h1,hR⟩:=Ww (js:=[3]) (fi:=rngF (jb (cI 40) nil1)) (fe:=two (rdS 1) (two (two (rdS 0) (rdS 0) mulI) (cI 3) modI) ixD)
    (env:=[.shr (.int (m/12)),.shr nm,.shr (.int (m%12)),.shr (.lst (ps.map rl)),.un]) (ds:=xM 0 40) (cs:=[.shr (.lst (ps.map rl))])
    (fun d=> ∃p,d=rl p/\Ru ns p.1 p.2) (fun d=> ∃k:Int,d= .int k/\0<=k/\k<100) rfl (yC (j:=40) (jc rfl rfl) (by omega)) (fun d hd=>by
     obtain ⟨k,rfl,k0,k1⟩:=Jd hd
     exact ⟨k,rfl,k0,by omega⟩) (by rw [qu];exact jy (by omega)) (by
     rintro d acc ⟨k,rfl,k0,k1⟩;obtain ⟨x,hx,hxm⟩:=ixL (ds:=ps.map rl) (i:=k*k%3) (by omega) (by rw [aak,h3];omega);obtain ⟨p,hp,rfl⟩:=aaD.mp hxm;have kb:k.natAbs<2^7:=by omega
     exact ⟨_,jj rfl (xm (xl (a:=7) (b:=7) rfl rfl kb kb (by decide)) rfl (by decide)) hx,p,rfl,R p hp⟩)
   rw [qu] at h1;obtain ⟨qs,rfl,hqs⟩:=jcp hR;rw [aak] at h1;refine ⟨qs,zJ ?_,hqs,by omega⟩;show qR j7 jt [.shr (.int m),.shr nm,.un,.un,.un]=_;unfold qR;exact (jm s1).trans (J2 ((if_t tst).trans ((jm (jz e1)).trans (jL hts))))
 · rw [show (m%12==7)=false by simpa using c] at tst;obtain ⟨ps,e1,R,h3⟩:=ZC hn (m/12/5) hm2 (fi:=rngF (jb (rdS 4) nil1)) (env:=[.shr (.int (m/12/5)),.shr nm,.shr (.int (m%12)),.un,.shr (.int (m/12%5))]) (m/12%5).toNat (yC (j:=m/12%5) (jc rfl rfl) ⟨by omega,by omega⟩) (by omega) rfl;refine ⟨ps,zJ ?_,R,by omega⟩;show qR j7 jt [.shr (.int m),.shr nm,.un,.un,.un]=_;unfold qR;have s3:asgO (app (jb (rdS 0) (jb (cI 5) nil1)) qz) (g2 (gN 0) (gN 4)) [.shr (.int (m/12)),.shr nm,.shr (.int (m%12)),.un,.un]= .ok (.nx [.shr (.int (m/12/5)),.shr nm,.shr (.int (m%12)),.un,.shr (.int (m/12%5))]):=yQ (Ug rfl rfl (by omega));exact (jm s1).trans ((jm ((if_f tst).trans rfl)).trans ((jm s3).trans (jL e1)))
def u6 {i:Nat} {fk fv:T5} {env:Sl} {ds:List D} {d:D} {k:Int} (hi:env[i]?=some (.own (.lst ds))) (hv:fv env= .ok d) (hk:fk env= .ok (.int k)) (h0:0<=k) (h1:k<ds.length):Vs i fk fv env= .ok (.nx (env.set i (.own (.lst (ds.set k.toNat d))))):=by
 have e:ixN ds.length k=some k.toNat:=by unfold ixN;simp [h0,h1];try omega
 unfold Vs;rw [Qy hi];show (fv env>>=_)=_;rw [hv];show (fk env>>=_)=_;rw [hk];show (match ixN ds.length k with|some j=>Res.ok (Out.nx (env.set i (.own (.lst (ds.set j d)))))|none=> .stuck)=_;rw [e]
def jcq {i:Nat} {env:Sl} {ds:List D} (hi:env[i]?=some (.own (.lst ds))) (h:ds≠[]):popE i env= .ok (.nx (env.set i (.own (.lst ds.dropLast)))):=by
 unfold popE;rw [Qy hi]
 cases ds with
 |nil=>exact (h rfl).elim
 |cons d r=>rfl
def VU {i:Nat} {f1 f2:T5} {env:Sl} {ds:List D} {d:D} {k:Int} (hi:env[i]?=some (.own (.lst ds))) (hk:f1 env= .ok (.int k)) (hv:f2 env= .ok d) (h0:0<=k) (h1:k<2^63) (h2:ds.length<aah):JJ i f1 f2 env= .ok (.nx (env.set i (.own (.lst (ds.take k.toNat++d::ds.drop k.toNat))))):=by
 unfold JJ;rw [Qy hi];show (f1 env>>=_)=_;rw [hk];show (f2 env>>=_)=_;rw [hv];exact jl ⟨h0,h1,h2⟩
def WU (hnm: ∀z∈ns,isNm (.str z)=true) {ps:List (D×D)} (h:Rus ns ps) (hl:40<ps.length) (hl2:ps.length<=1000):jF [.lst (ps.map rl)]= .ok (.bl true):=by
 refine ZO ?_
 rw [WC (.inl rfl) (fun _=>true) (fun e he=>by
  obtain ⟨p,hp,rfl⟩:=aaD.mp he
  exact Wa hnm (h p hp)) (by rw [aak];omega),aak,decide_eq_false (by omega)]
 rfl
def U9:Res D->Bool
 | .ok (.bl c)=>c
 |_=>false
def Yb (hnm: ∀z∈ns,isNm (.str z)=true) {ps:List (D×D)} {b:D} {k:Nat} (h:Rus ns ps) (hb:Br b) (hl:ps.length<=100):jF [.lst ((ps.map rl).take k++b::(ps.map rl).drop k)]= .ok (.bl true):=by
 refine ZO ?_;have hb:jG [b]= .ok (.bl false):=hb;have qb:U9 (jG [b])=false:=by rw [hb];rfl
 have hq: ∀e∈(ps.map rl).take k++b::(ps.map rl).drop k,jG [e]= .ok (.bl (U9 (jG [e]))):=fun e he=>by
  have old:e∈ps.map rl->jG [e]= .ok (.bl (U9 (jG [e]))):=fun he=>by
    obtain ⟨p,hp,rfl⟩:=aaD.mp he;have:=Wa hnm (h p hp);show jG [.tup [p.1,p.2]]= .ok (.bl (U9 (jG [.tup [p.1,p.2]])));rw [this];rfl
  rcases aa6.mp he with z|z
  · exact old (aeb z)
  · rcases aam.mp z with z|z
    · subst z;rw [hb];rfl
    · exact old (aec z)
 have hlen:((ps.map rl).take k++b::(ps.map rl).drop k).length<=1000:=by
  rw [aau,aal,adj,ad5,aak];omega
 have hall:((ps.map rl).take k++b::(ps.map rl).drop k).all (fun e=>U9 (jG [e]))=false:=by
  rw [List.all_append,adA,qb,aeE,adb]
 rw [WC (.inl rfl) _ hq hlen,hall,adb]
def jd8 (ps:List (D×D)) (k:Nat) (l r:D):(ps.map rl).set k (.tup [l,r])=(ps.set k (l,r)).map rl:=by rw [List.map_set];rfl
def jcg {ps:List (D×D)} {k:Nat} {l r:D} (h:Rus ns ps) (ru:Ru ns l r):Rus ns (ps.set k (l,r)):=fun p hp=>by
 rcases List.mem_or_eq_of_mem_set hp with z|z
 · exact h p z
 · subst z;exact ru
def if40:Sl->Res Out:=(ifO (asB (two (app (jb (rdB 7) nil1) lenD) (cI 40) eqR)) (seqO (Vs 7 (two (two (rdS 4) (cI 60) divW) (cI 40) modI) (rdS 6)) (seqO (ifO (orB (notB (asB (ji 1 qf (jb (rdB 7) nil1)))) (notB (asB (ji 1 jF (jb (two (rdB 7) (lstF (jb (rdS 6) nil1)) addD) nil1))))) (retO (cB false)) nxO) (popE 7))) nxO)
def oddB:Sl->Res Out:=(ifO (notB (asB (ji 1 jF (jb (two (lstF (jb (app (jb (rdS 5) nil1) wn) (jb cN (jb cD (jb (cS "") (jb (cI 0) (jb (cB true) nil1))))))) (two (two (rdS 4) (cI 7) divW) (cI 6) modI) ixD) nil1)))) (retO (cB false)) nxO)
def lawB:Sl->Res Out:=(seqO (jE 4 (ji 2 qI (jb (rdS 3) (jb (two (rdS 2) (cI 1) addD) nil1)))) (seqO (jE 5 (ji 2 zF (jb (rdS 4) (jb (rdS 1) nil1)))) (seqO (ifO (notB (asB (ji 1 qf (jb (rdS 5) nil1)))) (retO (cB false)) nxO) (seqO (jE 6 (ji 2 j7 (jb (ji 2 jt (jb (rdS 4) (jb (cI 5) nil1))) (jb (rdS 1) nil1)))) (seqO (setO 7 (app (jb (rdS 5) nil1) Xi)) (seqO if40 (seqO (JJ 7 (two (two (rdS 4) (cI 60) divW) (two (app (jb (rdB 7) nil1) lenD) (cI 1) addD) modI) (ji 3 j5 (jb (ji 2 jt (jb (rdS 4) (jb (cI 6) nil1))) (jb (rdS 1) (jb (rdS 6) nil1))))) (seqO (ifO (orB (notB (asB (ji 1 jF (jb (rdB 7) nil1)))) (notB (asB (ji 1 qf (jb (rdS 5) nil1))))) (retO (cB false)) nxO) oddB))))))))
def jaA {S:D} {nm:D} {j i m:Int} {ps:List (D×D)} {v6 v7:Slot} (hl:ps.length<=40) (hm:0<=m):oddB [.shr S,.shr nm,.shr (.int j),.shr (.int i),.shr (.int m),.shr (.lst (ps.map rl)),v6,v7]= .ok (.nx [.shr S,.shr nm,.shr (.int j),.shr (.int i),.shr (.int m),.shr (.lst (ps.map rl)),v6,v7]):=by
 have hls:lstF (jb (app (jb (rdS 5) nil1) wn) (jb cN (jb cD (jb (cS "") (jb (cI 0) (jb (cB true) nil1)))))) [.shr S,.shr nm,.shr (.int j),.shr (.int i),.shr (.int m),.shr (.lst (ps.map rl)),v6,v7]= .ok (.lst [.tup (ps.map rl),.non,.dic [] [],.str "",.int 0,.bl true]):=qd (jc (qB (jc rfl rfl) rfl) (jc rfl (jc rfl (jc rfl (jc rfl (jc rfl rfl)))))) (sm1 6 rfl (by decide));obtain ⟨x,hx,hxm⟩:=ixL (ds:=[.tup (ps.map rl),.non,.dic [] [],.str "",.int 0,.bl true]) (i:=m/7%6) (by omega) (by simp only [aal,aaR];omega)
 have hr:jF [x]= .ok (.bl true):=by
  refine ZO (jdM ?_ ?_)
  · simp only [aam,aa2,or_false] at hxm;rcases hxm with e|e|e|e|e|e<;>subst e<;>rfl
  · simp only [aam,aa2,or_false] at hxm;rcases hxm with e|e|e|e|e|e<;>subst e<;>intro ds h<;>cases h
 unfold oddB;refine (if_f (jZ (b:=true) (jO (jn (jc (jj hls (xm (jj rfl rfl (JQ (by decide))) rfl (by decide)) hx) rfl) rfl hr)))).trans rfl
def jdW (hl5:ns.length=5) (hnm: ∀z∈ns,isNm (.str z)=true) {S:D} {nm:D} {j i m:Int} {ps:List (D×D)} {l r:D} {v5:Slot} (h:Rus ns ps) (hl:ps.length<=40) (ru:Ru ns l r) (hm:0<=m):
   ∃qs,Rus ns qs/\qs.length<=40/\if40 [.shr S,.shr nm,.shr (.int j),.shr (.int i),.shr (.int m),v5,.shr (.tup [l,r]),.own (.lst (ps.map rl))]= .ok (.nx [.shr S,.shr nm,.shr (.int j),.shr (.int i),.shr (.int m),v5,.shr (.tup [l,r]),.own (.lst (qs.map rl))]):=by
 have tst:asB (two (app (jb (rdB 7) nil1) lenD) (cI 40) eqR) [.shr S,.shr nm,.shr (.int j),.shr (.int i),.shr (.int m),v5,.shr (.tup [l,r]),.own (.lst (ps.map rl))]= .ok (((ps.map rl).length:Int)==40):=jO (jj (qB (jc rfl rfl) rfl) rfl Wp);rw [aak] at tst
 by_cases c:ps.length=40
 · rw [show ((ps.length:Int)==40)=true by simp;omega] at tst;obtain ⟨k,hk⟩: ∃k:Nat,k=(m/60%40).toNat:=⟨_,rfl⟩
   have hR:=jcg (k:=k) h ru;have hL:(ps.set k (l,r)).length=40:=by rw [List.length_set,c]
   generalize hQ:ps.set k (l,r)=qs at hR hL;refine ⟨qs.dropLast,fun p hp=>hR p (List.dropLast_subset _ hp),by rw [List.length_dropLast];omega,?_⟩;unfold if40;refine (if_t tst).trans ?_
   have s1:Vs 7 (two (two (rdS 4) (cI 60) divW) (cI 40) modI) (rdS 6) [.shr S,.shr nm,.shr (.int j),.shr (.int i),.shr (.int m),v5,.shr (.tup [l,r]),.own (.lst (ps.map rl))]= .ok (.nx [.shr S,.shr nm,.shr (.int j),.shr (.int i),.shr (.int m),v5,.shr (.tup [l,r]),.own (.lst (qs.map rl))]):=by
    refine (u6 (ds:=ps.map rl) (k:=m/60%40) rfl rfl (xm (jj rfl rfl (JQ (by decide))) rfl (by decide)) (by omega) (by rw [aak,c];omega)).trans ?_;rw [←hk,jd8,hQ];rfl
   refine (jm s1).trans ?_;have t1:=UI hl5 hnm hR (by omega)
   have t2:jF [.lst (qs.map rl++[.tup [l,r]])]= .ok (.bl true):=by
    have:=WU hnm (ps:=qs++[(l,r)]) (fun p hp=>by
     rcases aa6.mp hp with z|z
     · exact hR p z
     · rw [acT.mp z];exact ru) (by rw [aau,hL,acX];decide) (by rw [aau,hL,acX];decide)
    rw [abM] at this;exact this
   have a1:two (rdB 7) (lstF (jb (rdS 6) nil1)) addD [.shr S,.shr nm,.shr (.int j),.shr (.int i),.shr (.int m),v5,.shr (.tup [l,r]),.own (.lst (qs.map rl))]= .ok (.lst (qs.map rl++[.tup [l,r]])):=jj rfl (qd (jc rfl rfl) (sm1 1 rfl (by decide))) (zd (by rw [aak,hL];exact jy (by simp)));refine (jm ((if_f (y7 (b:=false) (b2:=false) (jZ (b:=true) (jO (jn (jc rfl rfl) rfl t1))) (jZ (b:=true) (jO (jn (jc a1 rfl) rfl t2))))).trans rfl)).trans ?_;refine (jcq (ds:=qs.map rl) rfl (by intro z;rw [←adE,aak] at z;omega)).trans ?_;rw [←List.map_dropLast];rfl
 · rw [show ((ps.length:Int)==40)=false by simp;omega] at tst;exact ⟨ps,h,hl,(if_f tst).trans rfl⟩
def jaL {S:D} {nm:D} (hn:Fiv ns nm) (j:Nat) (hj:j<=63) (i:Int) (v4 v5 v6 v7:Slot): ∃w4 w5 w6 w7,lawB [.shr S,.shr nm,.shr (.int j),.shr (.int i),v4,v5,v6,v7]= .ok (.nx [.shr S,.shr nm,.shr (.int j),.shr (.int i),w4,w5,w6,w7]):=by
 obtain ⟨m,e1,hb⟩:=J0 i (j+1) (by omega);obtain ⟨ps,e2,R,hl⟩:=Ya hn m hb;have t1:=UI hn.2.1 hn.2.2 R hl;obtain ⟨m5,e5,hb5⟩:=zm m 5 hb (by omega);obtain ⟨l,r,e6,ru⟩:=Zl hn m5 hb5;obtain ⟨m6,e7,hb6⟩:=zm m 6 hb (by omega);obtain ⟨b,e8,hbr⟩:=uI hn ru m6 hb6.1;obtain ⟨qs,R2,hl2,e40⟩:=jdW hn.2.1 hn.2.2 (S:=S) (nm:=nm) (j:=j) (i:=i) (m:=m) (v5:= .shr (.lst (ps.map rl))) R hl ru hb.1;obtain ⟨k,hk⟩: ∃k:Nat,k=(m/60%(qs.length+1)).toNat:=⟨_,rfl⟩
 have t2:=Yb hn.2.2 (k:=k) R2 hbr (by omega);have q0:0<=m/60%((qs.length:Int)+1):=aer _ (by omega);have q1:m/60%((qs.length:Int)+1)< (qs.length:Int)+1:=adD _ (by omega)
 have s1:JJ 7 (two (two (rdS 4) (cI 60) divW) (two (app (jb (rdB 7) nil1) lenD) (cI 1) addD) modI) (ji 3 j5 (jb (ji 2 jt (jb (rdS 4) (jb (cI 6) nil1))) (jb (rdS 1) (jb (rdS 6) nil1)))) [.shr S,.shr nm,.shr (.int j),.shr (.int i),.shr (.int m),.shr (.lst (ps.map rl)),.shr (.tup [l,r]),.own (.lst (qs.map rl))]= .ok (.nx [.shr S,.shr nm,.shr (.int j),.shr (.int i),.shr (.int m),.shr (.lst (ps.map rl)),.shr (.tup [l,r]),.own (.lst ((qs.map rl).take k++b::(qs.map rl).drop k))]):=by
  rw [hk];refine VU (ds:=qs.map rl) (k:=m/60%(qs.length+1)) rfl ?_ (jn (jc (jn (jc rfl (jc rfl rfl)) rfl e7) (jc rfl (jc rfl rfl))) rfl e8) q0 (by omega) (by rw [aak];exact aaA (by omega) (jy (k:=100) (by decide)));refine xm (jj rfl rfl (JQ (by decide))) (wS (i:=(qs.length:Int)) ?_ rfl) (by omega);refine qB (jc rfl rfl) ?_;show Res.ok (D.int ((qs.map rl).length:Int))=_;rw [aak]
 refine ⟨.shr (.int m),.shr (.lst (ps.map rl)),.shr (.tup [l,r]),.own (.lst ((qs.map rl).take k++b::(qs.map rl).drop k)),?_⟩;unfold lawB;refine (jm (jz (d:= .int m) (jn (jc rfl (jc (jj rfl rfl rfl) rfl)) rfl e1))).trans ?_;refine (jm (jz (d:= .lst (ps.map rl)) (jn (jc rfl (jc rfl rfl)) rfl e2))).trans ?_;refine (jm ((if_f (jZ (b:=true) (jO (jn (jc rfl rfl) rfl t1)))).trans rfl)).trans ?_;refine (jm (jz (d:= .tup [l,r]) (jn (jc (jn (jc rfl (jc rfl rfl)) rfl e5) (jc rfl rfl)) rfl e6))).trans ?_;refine (jm (Jz (d:= .lst (ps.map rl)) (qB (jc rfl rfl) rfl))).trans ?_;refine (jm e40).trans ?_;refine (jm s1).trans ?_;refine (jm ((if_f (y7 (b:=false) (b2:=false) (jZ (b:=true) (jO (jn (jc rfl rfl) rfl t2))) (jZ (b:=true) (jO (jn (jc rfl rfl) rfl t1))))).trans rfl)).trans ?_;exact jaA hl hb.1
end
theorem W0: ∀(ds:List D) (k:Nat) (d:D),d∈j8 k ds-> ∃(j:Nat) (x:D),d= .tup [.int (j:Int),x]/\j<k+ds.length/\x∈ds
 | [],k,d,h=>by cases h
 |x::r,k,d,h=>by
  rcases aam.mp h with e|e
  · exact ⟨k,x,e,by simp,by simp⟩
  · obtain ⟨j,y,h1,h2,h3⟩:=W0 r (k+1) d e;exact ⟨j,y,h1,by simp only [aal];omega,by simp [h3]⟩
def law_true (sc:List Int) (hlen:sc.length<=63) (hb: ∀i∈sc,abT i<=2^20):F_law [.scr (sc.map D.int)]= .ok (.bl true):=by
 obtain ⟨c0,hc0⟩: ∃c0:Int,ixD (.lst (sc.map D.int++[.int 0])) (.int 0)= .ok (.int c0):=by
  cases sc with
  |nil=>exact ⟨0,ixL0 _ _⟩
  |cons c r=>exact ⟨c,ixL0 _ _⟩
 have hadd:addS (.scr (sc.map D.int)) (.lst [.int 0])= .ok (.lst (sc.map D.int++[.int 0])):=jl (by simp only [aak,aal,aaR];exact jy (by omega));obtain ⟨lead,hlead,hl0⟩:=J0 c0 0 (by omega);obtain ⟨nm,hnm,h5⟩:=Yt lead;obtain ⟨ns,hn⟩:=ja6 h5;have hslice:slS (.scr (sc.map D.int)) none (some 6)= .ok (.lst (cutD (sc.map D.int) none (some 6))):=rfl;generalize hS:D.scr (sc.map D.int)=S at*;have hcut: ∀x∈cutD (sc.map D.int) none (some 6),x∈sc.map D.int:=fun x hx=>aec (aeb hx)
 have hcl:(cutD (sc.map D.int) none (some 6)).length<=63:=by
  unfold cutD;rw [adj,ad5,aak];omega
 generalize hcells:cutD (sc.map D.int) none (some 6)=cells at*
 obtain ⟨env1,l1,v2,v3,v4,v5,v6,v7,rfl,_⟩:=Wm (body:=zl (g2 (gN 2) (gN 3)) lawB)
  (fun ds env=> ∃(v2 v3 v4 v5 v6 v7:Slot),env=[.shr S,.shr nm,v2,v3,v4,v5,v6,v7]/\ ∀d∈ds,∃(j:Nat) (i:Int),d= .tup [.int (j:Int),.int i]/\j<=63)
  (by
   rintro d ds env ⟨v2,v3,v4,v5,v6,v7,rfl,hd⟩;obtain ⟨j,i,rfl,hj⟩:=hd d (by simp);obtain ⟨w4,w5,w6,w7,h3⟩:=jaL (S:=S) hn j hj i v4 v5 v6 v7
   refine ⟨_,UE rfl h3,_,_,_,_,_,_,rfl,fun x hx=>hd x (by simp [hx])⟩)
  (j8 0 cells) [.shr S,.shr nm,.un,.un,.un,.un,.un,.un]
  ⟨.un,.un,.un,.un,.un,.un,rfl,fun d hd=>by
   obtain ⟨j,x,rfl,hj,hx⟩:=W0 cells 0 d hd;obtain ⟨i,_,rfl⟩:=aaD.mp (hcut x hx)
   exact ⟨j,i,rfl,by omega⟩⟩
 have hend:=UI hn.2.1 hn.2.2 (ps:=[]) (fun p hp=>by cases hp) (by decide);refine zJ ?_;show ja4 zG qf qI zF j7 jt j5 jF [.shr S,.un,.un,.un,.un,.un,.un,.un]=_
 have hfirst:jE 1 (ji 1 zG (jb (ji 2 qI (jb (two (two (rdS 0) (lstF (jb (cI 0) nil1)) addS) (cI 0) ixD) (jb (cI 0) nil1))) nil1)) [.shr S,.un,.un,.un,.un,.un,.un,.un]= .ok (.nx [.shr S,.shr nm,.un,.un,.un,.un,.un,.un]):=
  jz (jn (jc (jn (jc (jj (jj rfl (qd (jc rfl rfl) (sm1 1 rfl (by decide))) hadd) rfl hc0) (jc rfl rfl)) rfl hlead) rfl) rfl hnm)
 have hloop:forO (Uc (zy (rdS 0) yG (yk (cI 6)) slS)) (g2 (gN 2) (gN 3)) lawB [.shr S,.shr nm,.un,.un,.un,.un,.un,.un]= .ok (.nx [.shr S,.shr nm,v2,v3,v4,v5,v6,v7]):=by
  refine jbR (vY ?_) l1;exact (show slS S none (some 6)=_ from hslice)
 have hfin:retO (ji 1 qf (jb (lstF nil1) nil1)) [.shr S,.shr nm,v2,v3,v4,v5,v6,v7]= .ok (.rt true (.bl true)):=jL (jn (jc (qd rfl (sm1 0 rfl (by decide))) rfl) rfl hend);unfold ja4;exact (jm hfirst).trans ((jm hloop).trans hfin)
end G
namespace PySem.W.Fast
theorem tw7757140577598072803:True:=⟨⟩
theorem te1412416757782036239:True:=⟨⟩
theorem tw3117072711930473243:True:=⟨⟩
theorem tw15978420677463303778:True:=⟨⟩
theorem tw877004312874799050:True:=⟨⟩
theorem tw10144163653923288568:True:=⟨⟩
theorem tw11209797471596171926:True:=⟨⟩
theorem tw9114329411292840473:True:=⟨⟩
theorem tw7966923991376958618:True:=⟨⟩
theorem tw14365083969281797676:True:=⟨⟩
theorem tw4170084519627320210:True:=⟨⟩
theorem tw5546108746879312946:True:=⟨⟩
theorem tw6655285202777866323:True:=⟨⟩
theorem tw12359222616715188128:True:=⟨⟩
theorem tw10152929275789802724:True:=⟨⟩
theorem tw8585083310534498534:True:=⟨⟩
theorem tw11392600406416239688:True:=⟨⟩
theorem tw14126986652551690904:True:=⟨⟩
theorem tw4830288332619595418:True:=⟨⟩
theorem tw2064660649071897462:True:=⟨⟩
theorem tw8957466622745182620:True:=⟨⟩
theorem tw14843835520938669430:True:=⟨⟩
theorem tw7324297791902010951:True:=⟨⟩
theorem tw13609305932296888690:True:=⟨⟩
theorem tw9168927527548841429:True:=⟨⟩
theorem tw7513539100691691372:True:=⟨⟩
theorem tw13265635927541406963:True:=⟨⟩
theorem tw10932472307838610748:True:=⟨⟩
end PySem.W.Fast
open PySem PySem.W PyProof.Rows
set_option maxRecDepth 100000 in
set_option maxHeartbeats 0 in
theorem PySem.Challenge.cw_endwise_k21_what_are_rules_holds : PySem.Challenge.rw_endwise_k21_what_are_rules.Holds := by
  w_on; o_law; k_head; (case hw => w_witness2)
  k_fill
  refine M.walk_law (l := PySem.Challenge.rw_endwise_k21_what_are_rules) (n := 63) (k := 72) (x := "_law_script") (F := G.F_law) rfl (by decide) rfl ⟨rfl, by decide, by decide⟩ (fun w h Y => PySem.W.kIn_of Y) ?F G.law_true
  case F =>
    intro w mg fa h KX Gn hmg
    refine' G.all_mk KX Gn hmg ?d0 ?d1 ?d2 ?d3 ?d4 ?d5 ?d6 ?d7 ?d8 ?d9 ?d10 ?d11 ?d12 ?d13 ?d14 ?d15 ?d16 ?d17 ?d18 ?d19 ?d20 ?d21 ?d22 ?d23 ?d24 ?d25 ?d26 ?d27 ?d28 ?d29 ?d30 ?d31 ?a32 ?l32 ?c32 ?k32 ?z0 ?z1 ?z2 ?z3 ?z4 ?z5 ?z6 ?z7 ?z8 ?z9 ?z10 ?z11 ?z12 ?z13 ?y_LETTERS ?y_MOST_LETTERS ?y_MOST_PLACES ?y_MOST_BLANK ?y_MOST_LEVELS ?y_MOST_PARTS ?y_MOST_RULES ?yf ?y4 ?Ji ?yZ ?yX ?wa ?wN ?Z5 ?Z9 ?e_NoRule ?e_EndError ?e_TooGreat ?e_NoText ?e_NoStep ?q_NoRule ?x_EndError_NoRule ?i_ValueError_NoRule ?w_NoRule ?zj ?zT ?zU ?zV
    (case yf => k_is)
    (case d0 | d1 | d2 | d3 | d4 | d5 | d6 | d7 | d8 | d9 | d10 | d11 | d12 | d13 | d14 => exact ⟨_, by k_is, ⟨_, _, _, _, _, _, _, _, _, by k_is, by k_is⟩, by k_is⟩)
    (case d15 | d16 | d17 => exact ⟨_, by k_is, by k_is, ⟨_, _, _, _, _, _, _, _, _, by k_is, by k_is⟩, by k_is⟩)
    (case d18 | d19 | d20 | d21 | d22 | d23 | d24 | d25 | d26 | d27 | d28 | d29 | d30 | d31 => exact ⟨_, by k_is, ⟨_, _, _, _, _, _, _, _, _, by k_is, by k_is⟩, by k_is⟩)
    (case a32 | l32 | c32 | k32 | z0 | z1 | z2 | z3 | z4 | z5 | z6 | z7 | z8 | z9 | z10 | z11 | z12 | z13 => k_is)
    (case y_LETTERS | y_MOST_LETTERS | y_MOST_PLACES | y_MOST_BLANK | y_MOST_LEVELS | y_MOST_PARTS | y_MOST_RULES => exact ⟨_, by k_is⟩)
    (case y4 | Ji | yZ | yX | wa | wN | Z5 | Z9 | e_NoRule | e_EndError | e_TooGreat | e_NoText | e_NoStep => k_is)
    (case q_NoRule => k_exc)
    (case x_EndError_NoRule | i_ValueError_NoRule => kernel_rfl)
    (case w_NoRule => exact ⟨by kernel_rfl, by k_is, by k_is, by k_is, by k_is, by k_is, by k_is, by k_is⟩)
    (case zj | zT | zU | zV => kernel_rfl)

import PyProof.Rows.All
import Wide.All
import OpenK.AllK
import Wide.FinOn
import Lean
import PyProof.TupleKey
import PyProof.IsRules
import PyProof.DictKeyH
import PyProof.EqAt
import PyProof.EqKinds
import PyProof.TupleCall
import PyProof.Cells
import PyProof.NeKinds
import KE.IntBitsLaws
import KE.KDictList
import KE.KRevIter
import KE.KSortTup
import KE.KDictSum
import PyProof.EnumMake
import PyProof.EnumFor
import PyProof.LayNew
import PyProof.Rows.EnumRows
import PyProof.SumAny
import PyProof.ListRange
import PyProof.FString5
import PyProof.CollectIter
import PyProof.TupleOfSeq
import PyProof.Rows.Tup
import OpenK.KRaise
import PyProof.StationsW
import KE.KTryMore
import PyProof.NsDelKeeps
import KE.KEqDict
import PyProof.ExcArgs
import PyProof.Draws
import PyProof.ZipIter
import PyProof.Rows.ZipGen
import PyProof.DictWalks
import PyProof.Conv_int_bool
import PyProof.Rows.SeqMore
import PyProof.Rows.SetFrom
import PyProof.SetRoads
import PyProof.MeetsSeq2
import PyProof.FactsAll.NoneType_1
import PyProof.DictFindH
import PyProof.DictRoadsH
import PyProof.AttrMissHeap
import KE.KDictOf
import PyProof.Rows.StrJoin2
import PySem.Challenge.RW_endwise_k34_kept_by_filling
open Array renaming getElem?_toList -> aav, getElem?_eq_getElem -> aay, length_toList -> aaD, getD_eq_getD_getElem? -> abC, getElem?_eq_some_iff -> abG, forIn_toList -> adn, getD -> aeC
open Bool renaming and_eq_true -> aax, false_ne_true -> aaH, false_eq_true -> aa0, not_false -> abh, not_true -> abZ, eq_iff_iff -> ad7, or_eq_true -> aeg
open Classical renaming propDecidable -> abN, byContradiction -> acw
open False renaming elim -> acl
open ForInStep renaming yield -> aef
open Int renaming emod_lt_of_pos -> abq, toNat_natCast -> abK, emod_nonneg -> abS, toNat_of_nonneg -> acf, fdiv_eq_ediv_of_nonneg -> acZ
open List renaming getElem?_eq_getElem -> aac, size_toArray -> aag, mem_cons_of_mem -> aaj, length_map -> aak, replicate -> aal, mem_cons_self -> aam, getElem?_append_right -> aap, mem_cons -> aaq, map_cons -> aat, length_cons -> aau, getElem?_eq_some_iff -> aaz, getElem?_append_left -> aaA, mem_map -> aaB, length_append -> aaE, getElem?_map -> aaG, mem_of_getElem? -> aaN, mem_range -> aaO, getElem?_cons_succ -> aaQ, mem_append_right -> aaR, append_assoc -> aaS, range -> aaT, getElem?_eq_none -> aaU, all_eq_true -> aaW, replicate_succ -> aa1, nodup_cons -> aa5, mem_append -> aa8, getElem?_replicate -> abb, getElem_mem -> abd, append_nil -> abe, mem_iff_getElem? -> abk, lookup_cons -> abl, zip_cons_cons -> abp, lookup -> abz, mem_singleton -> abB, map_map -> abE, not_mem_nil -> abF, getElem?_set_self -> abH, length_pos_of_mem -> abI, pairwise_iff_getElem -> abO, map_append -> abR, flatten_cons -> ab5, pairwise_map -> ab6, length_nil -> aca, find?_cons -> acd, getD_eq_getElem?_getD -> acj, pairwise_cons -> acq, mem_append_left -> acx, set_cons_succ -> acM, all_cons -> acU, nodup_range -> adc, cons_append -> ade, filterMap_cons -> adf, map_congr_left -> adg, getElem?_take_of_lt -> adi, length_erase_of_mem -> adj, toArray -> adk, any_cons -> ads, append_cancel_left -> adz, ext_getElem? -> adD, length_range -> adK, nodup_nil -> adL, length_replicate -> adO, set_append_right -> adU, any_eq_true -> adW, filter_cons -> adX, getElem?_set_ne -> adY, mem_erase_of_ne -> ad1, mem_of_mem_drop -> ad2, mem_filter -> ad8, foldl_cons -> aec, nil_append -> aed, mem_filterMap -> aem, getElem?_drop -> aep, findIdx?_cons -> aeq, any_eq_false -> aeA, nodup_append -> aeD, getElem_inj -> aeL, length_take -> aeM, mem_flatMap -> aeO, range'_succ -> aeP
open List.Perm renaming refl -> aew
open List.cons renaming injEq -> abf
open Nat renaming le_refl -> aae, lt_of_lt_of_le -> aaC, le_trans -> aaF, ne_of_lt -> aaJ, zero_le -> aa7, not_lt_zero -> abv, lt_irrefl -> ab0, le_add_right -> acm, le_succ -> act, lt_succ_self -> ada, le_of_not_lt -> adb, lt_of_le_of_lt -> adt, lt_succ_of_lt -> adJ, zero_add -> adQ, add_zero -> adS, le_of_lt -> aek, le_of_lt_succ -> aeE, le_of_eq -> aeW, lt_trans -> aeX, succ_pos -> ae0
open Ne renaming symm -> acK
open Option renaming map_eq_some_iff -> abr, isSome_iff_exists -> acC, isSome_map -> aeB, getD_some -> aeJ, getD_none -> aeN
open Option.some renaming inj -> aaI, injEq -> ab7
open Or renaming inr -> abj, inl -> abV
open PyProof.Rows renaming boot_tuple -> aaX, slot_tuple_getitem -> aa3, callWith_type1 -> ab9, boot_int -> acr, seqObj -> adw, envOfC -> adN, boot_all -> adT, get?_update_seq -> aeh, boot_bool -> aeR, AllBare -> aeT
open PyProof.Rows.F renaming plain_set_update_loop -> ab3, entry_set_update_loop -> ac7
open PySem renaming wpAny_bind -> aab, wpAny_pure -> aaf, Shared -> aah, sizeLine -> aai, starEach -> aao, mainGlobals -> aar, Program -> aaL, tupleKeyHash -> aaP, Around -> aaZ, attributeBase -> aa4, compareOp -> aa9, wpAny_holding -> aba, boot_len -> abi, wpAny_truthy_bool -> abm, wpAny_newObj_type -> abn, bootBuiltins -> abo, IsTupleKey -> abt, backTo -> abw, wpAny_callSpecial?_slot -> abA, mem_of_lookup -> abJ, SetTable -> abP, wpAny_mono -> abT, sysModules -> abU, wpAny_call_entry -> abW, wpAny_typeNameOfWhole_keyiter -> abX, swapsWith -> abY, FuncData -> ab1, assignEach -> ab4, keywordEach -> acb, binaryOp -> acg, sizeLine_eq -> acs, wpAny_passesOwn -> acy, foldedSetIterable -> acz, wpAny_typeNameOf_keyiter -> acE, wpAny_setState_of -> acF, behindInMarks -> acG, tupleKind -> acN, wpAny_execs_nil -> acO, Keyword -> acQ, wpAny_pyIter_list -> acV, ofAClassStatement -> acY, wpAny_seqItems -> ac1, carriedByValue -> ac6, wpAny_forIn_list -> ac8, wpAny_execs_cons -> ac9, wpAny_Call_Name_kw -> adq, backToKw -> adr, wpAny_loadPart' -> adu, codeAny_builtin -> ady, wpAny_field -> adG, sliceBounds -> adH, wpAny_pyIter_enum -> adI, codeAny_mono -> adM, wpAny_typeOf -> adP, wpAny_isOneOf_keyiter -> adR, holding -> adV, wpAny_loadName_local -> adZ, strLen_append -> ad3, call_meets -> ad5, Builtin -> ad6, wpAny_loadName_cell -> ad9, letOwnedTupleGo -> aea, storedH -> aee, Operator -> ael, getItem -> aet, wpAny_fieldsOf -> aeu, wpAny_setField -> aev, wpAny_Name -> aez, codeAny -> aeH, Paired -> aeK
open PySem.Around renaming under_plainId -> ac0
open PySem.Builtin.Dict renaming updateFrom -> aeI, pairItems -> aeQ, showsAll -> aeZ
open PySem.Builtin.Dict_items renaming ownsTuple -> ad4
open PySem.Builtin.Int renaming intBits -> abL
open PySem.Builtin.List renaming listTooLong -> aby
open PySem.Builtin.Slice renaming slicePlaces -> acu, sliceAdjust -> ac3, sliceApplied -> aei
open PySem.Builtin.SmallTypes renaming nextOf -> acv
open PySem.Builtin.Str renaming strSliceIndices -> aaM, occurrences -> adp
open PySem.Builtin.Tuple renaming tupleExact -> acD, tupleItemsOf -> aej, tupleHashOf -> aer
open PySem.F renaming slot_dict_keyiterator_next -> abg, slot_tuple_iterator_next -> ack, plainAttrs_list -> acH, called_set -> acR, slot_dict_getitem -> ac4, args_dict_keyiterator_next_1 -> ac5, entry_dict_keyiterator_next -> adh, slot_list_getattribute -> adl, slot_list_append -> adB, slot_list_extend -> ad0
open PySem.Heap renaming get?_push_of_some -> aad, get?_push_size -> aan, lt_size -> aas, get?_update_other -> ach, SameBut -> acn, get?_update_self -> acP, size_push -> ac2
open PySem.Heap.SameBut renaming update -> ace
open PySem.NameKind renaming free -> acW, cell -> acX
open PySem.Obj renaming mapSeq -> acJ, data_mapFields -> adx, putSet -> ae1
open PySem.Paired renaming length -> ado
open PySem.PassesOwn renaming never -> aa2
open PySem.SeqAt.EqAt renaming of_refs -> aeS
open PySem.SeqAt.RcAt renaming lists_lengths -> aeo
open PySem.SetTable renaming turns -> abQ, sizeAbove -> acL, toList_insertAt -> adm, insertAt_perm -> adC, grown -> aex
open PySem.SetTable.layClean renaming free -> aci
open PySem.SetTable.probe renaming go -> abM
open PySem.Value renaming ref -> aaK, none -> abD, bool -> acS, type -> adE
open PySem.W renaming Frag -> aaa, nsIn -> aaw, mg_none_of -> aaV, keepIn -> aaY, findIn -> aa6, kia_one -> abu, emptyDict -> abx, kitOne -> ab2, instObj -> ab8, fnOf -> aco, mg_of -> acp, makesIn -> acA, plainGet -> acI, hasDictIn -> acT, codeIn -> adA, plainOver -> adF, plainGet_of -> aeb, callWith_K -> aen, lookIn -> aes, methodObj -> aey, isFn -> aeU, takerIn -> aeV, OpenLaw -> aeY
open Sum renaming inl -> aeF, inr -> aeG
open True renaming intro -> acB
noncomputable section
set_option Elab.async false
set_option linter.all false
set_option maxRecDepth 100000
set_option maxHeartbeats 4000000
namespace M
open PySem PyProof.Rows
open PySem.SeqAt (EqAt RcAt)
inductive NK where
 |int (i:Int)|str (x:Str)|tup (l:List NK)
noncomputable instance nkDec:DecidableEq NK:=fun _ _=>abN _
mutual
def NK.at (h:Heap):NK->Value->Prop
 | .int i,v=> ∃t,v= .int i t
 | .str x,v=> ∃t,v= .str x t
 | .tup l,v=> ∃a its,v= .ref a/\IsTup h a its/\NK.ats h l its.toList
def NK.ats (h:Heap):List NK->List Value->Prop
 | [],vs=>vs=[]
 |k::l,vs=> ∃u us,vs=u::us/\NK.at h k u/\NK.ats h l us
end
mutual
def NK.dep:NK->Nat
 | .tup l=>NK.deps l+1
 |_=>0
def NK.deps:List NK->Nat
 | []=>0
 |k::l=>max (NK.dep k) (NK.deps l)
end
mutual
def NK.draws:NK->Nat
 | .tup l=>NK.drawss l+1
 |_=>1
def NK.drawss:List NK->Nat
 | []=>0
 |k::l=>NK.draws k+NK.drawss l
end
mutual
def NK.hash (w:World):NK->Int
 | .int i=>hashInt i
 | .str x=>hashStr w x
 | .tup l=>reduceHash (aer (NK.hashs w l))
def NK.hashs (w:World):List NK->List Int
 | []=>[]
 |k::l=>NK.hash w k::NK.hashs w l
end
def NK.ind {P:NK->Prop} (h1: ∀i,P (.int i)) (h2: ∀x,P (.str x)) (h3: ∀l,(∀k∈l,P k)->P (.tup l)) (k:NK):P k:=
 NK.rec (motive_1:=P) (motive_2:=fun l=> ∀k∈l,P k) h1 h2 h3 (fun _ h=>by cases h) (fun k l hk hl q hq=>by
  rcases aaq.mp hq with e|e
  · rw [e];exact hk
  · exact hl q e) k
def at_int {h:Heap} {i:Int} {v:Value}:NK.at h (.int i) v↔ ∃t,v= .int i t:=by simp only [NK.at]
def at_str {h:Heap} {x:Str} {v:Value}:NK.at h (.str x) v↔ ∃t,v= .str x t:=by simp only [NK.at]
def at_tup {h:Heap} {l:List NK} {v:Value}:NK.at h (.tup l) v↔ ∃a its,v= .ref a/\IsTup h a its/\NK.ats h l its.toList:=by simp only [NK.at]
def ats_nil {h:Heap} {vs:List Value}:NK.ats h [] vs↔vs=[]:=by simp only [NK.ats]
def ats_cons {h:Heap} {k:NK} {l:List NK} {vs:List Value}:NK.ats h (k::l) vs↔ ∃u us,vs=u::us/\NK.at h k u/\NK.ats h l us:=by simp only [NK.ats]
theorem Jo {h:Heap}: ∀ {l:List NK} {vs:List Value},NK.ats h l vs->vs.length=l.length
 | [],vs,x=>by rw [ats_nil.mp x];rfl
 |k::l,vs,x=>by
  obtain ⟨u,us,rfl,_,y⟩:=ats_cons.mp x;rw [aau,aau,Jo y]
theorem Jp {h:Heap}: ∀ {l:List NK} {vs:List Value} {j:Nat} {k:NK} {u:Value},NK.ats h l vs->l[j]?=some k->vs[j]?=some u->NK.at h k u
 | [],vs,j,k,u,x,hk,hu=>by cases hk
 |k'::l,vs,j,k,u,x,hk,hu=>by
  obtain ⟨u',us,rfl,hx,y⟩:=ats_cons.mp x
  cases j with
  |zero=>cases hk;cases hu;exact hx
  |succ j=>exact Jp y hk hu
theorem QM {k:NK}: ∀ {l:List NK},k∈l->NK.dep k<=NK.deps l
 | [],h=>by cases h
 |k'::l,h=>by
  simp only [NK.deps];rcases aaq.mp h with e|e
  · rw [e];omega
  · have:=QM e;omega
def uR {h:Heap} (x:NK): ∀(y:NK) (v:Value),NK.at h x v->NK.at h y v->x=y:=by
 induction x using NK.ind with
 |h1 i=>
  intro y v hx hy;obtain ⟨t,rfl⟩:=at_int.mp hx
  cases y with
  |int j=>obtain ⟨t',e⟩:=at_int.mp hy;cases e;rfl
  |str z=>obtain ⟨t',e⟩:=at_str.mp hy;cases e
  |tup l=>obtain ⟨a,its,e,_⟩:=at_tup.mp hy;cases e
 |h2 z=>
  intro y v hx hy;obtain ⟨t,rfl⟩:=at_str.mp hx
  cases y with
  |int j=>obtain ⟨t',e⟩:=at_int.mp hy;cases e
  |str z=>obtain ⟨t',e⟩:=at_str.mp hy;cases e;rfl
  |tup l=>obtain ⟨a,its,e,_⟩:=at_tup.mp hy;cases e
 |h3 l ih=>
  intro y v hx hy;obtain ⟨a,its,rfl,⟨o,ho,_,n,hd⟩,hl⟩:=at_tup.mp hx
  cases y with
  |int j=>obtain ⟨t',e⟩:=at_int.mp hy;cases e
  |str z=>obtain ⟨t',e⟩:=at_str.mp hy;cases e
  |tup m=>
   obtain ⟨a',its',e,⟨o',ho',_,n',hd'⟩,hm⟩:=at_tup.mp hy;cases e;rw [ho] at ho';cases ho';rw [hd] at hd';cases hd';congr 1;apply adD;intro j;have e1:=Jo hl;have e2:=Jo hm
   by_cases hj:j<l.length
   · have hj2:j<m.length:=by omega
     have hj3:j<its.toList.length:=by omega
     rw [aac hj,aac hj2];congr 1;exact ih _ (abd hj) _ _ (Jp hl (aac hj) (aac hj3)) (Jp hm (aac hj2) (aac hj3))
   · rw [aaU (by omega),aaU (by omega)]
theorem uP {h h':Heap}: ∀ {l:List NK} {vs:List Value},(∀k∈l,∀v,NK.at h k v->NK.at h' k v)->NK.ats h l vs->NK.ats h' l vs
 | [],vs,_,x=>ats_nil.mpr (ats_nil.mp x)
 |k::l,vs,f,x=>by
  obtain ⟨u,us,e,hx,y⟩:=ats_cons.mp x;exact ats_cons.mpr ⟨u,us,e,f k aam u hx,uP (fun q hq=>f q (aaj _ hq)) y⟩
def jbG {h h':Heap} (ht: ∀a its,IsTup h a its->IsTup h' a its) (k:NK): ∀v,NK.at h k v->NK.at h' k v:=by
 induction k using NK.ind with
 |h1 i=>exact fun v x=>at_int.mpr (at_int.mp x)
 |h2 z=>exact fun v x=>at_str.mpr (at_str.mp x)
 |h3 l ih=>
  intro v x;obtain ⟨a,its,e,t,y⟩:=at_tup.mp x;exact at_tup.mpr ⟨a,its,e,ht a its t,uP ih y⟩
def J5 {s:aah} {a:Addr} {its:Array Value} (h:IsTup s.heap a its):s.TypeIs (.ref a) "tuple" :=let ⟨o,ho,hc,_⟩:=h;⟨o,ho,hc⟩
section
variable {prog:aaL} {w:World}
def jaQ (k:NK): ∀(A:aaZ) (E:Value->aah->Prop) (s:aah) (v:Value) (Q:Int->aah->Prop),NK.at s.heap k v->A.units+k.dep<cLine->Q (k.hash w) {s with toks:=s.toks+k.draws}->wpAny (model prog w) A (pyHash v) Q E s:=by
 induction k using NK.ind with
 |h1 i=>
  intro A E s v Q x hu q;obtain ⟨t,rfl⟩:=at_int.mp x;simp only [NK.hash,NK.draws] at q;exact wpAny_pyHash_int q
 |h2 z=>
  intro A E s v Q x hu q;obtain ⟨t,rfl⟩:=at_str.mp x;simp only [NK.hash,NK.draws] at q;exact wpAny_pyHash_str q
 |h3 l ih=>
  intro A E s v Q x hu q;obtain ⟨a,its,rfl,t,y⟩:=at_tup.mp x;simp only [NK.dep] at hu;simp only [NK.hash,NK.draws] at q;obtain ⟨o,ho,hc,n,hd⟩:=id t;show wpAny _ _ (pyHashByItsType (.ref a)) _ _ s;refine PySem.W.pyHash_slot (J5 t) F.slot_tuple_hash F.entry_tuple_hash (F.args_tuple_hash_1 _) (by decide) (.inr (by omega)) ?_;unfold ad6.«tuple.__hash__»;refine aab (aaf (aab (wpAny_tupleItemsOf ho hd (aab ?_))));rw [←adn];refine ac8 _ (fun rest r s'=> ∃done rl,done++rl=l/\NK.ats s.heap rl rest/\r=(NK.hashs w done).toArray/\s'={s with toks:=s.toks+NK.drawss done}) _ ?_ ?_ _ _ ⟨[],l,rfl,y,rfl,rfl⟩
  · rintro u rest r s' ⟨done,rl,hl,ha,rfl,rfl⟩
    cases rl with
    |nil=>have:=ats_nil.mp ha;cases this
    |cons k' rl=>
     obtain ⟨u',us,e,hu1,hu2⟩:=ats_cons.mp ha;obtain ⟨rfl,rfl⟩:=List.cons.inj e;have hm:k'∈l:=by rw [←hl];simp
     have hdep:=QM hm;refine aab (ih k' hm A.in1 E {s with toks:=s.toks+NK.drawss done} u _ hu1 (by show A.units+1+k'.dep<cLine;omega) ?_);refine aaf ⟨done++[k'],rl,by simp [hl],hu2,?_,?_⟩
     · have: ∀d:List NK,NK.hashs w (d++[k'])=NK.hashs w d++[k'.hash w]:=fun d=>by
        induction d with
        |nil=>simp [NK.hashs]
        |cons b d ihd=>simp [NK.hashs,ihd]
       rw [this];simp
     · have: ∀d:List NK,NK.drawss (d++[k'])=NK.drawss d+k'.draws:=fun d=>by
        induction d with
        |nil=>simp [NK.drawss]
        |cons b d ihd=>simp [NK.drawss,ihd];omega
       rw [this,Nat.add_assoc]
  · rintro r s' ⟨done,rl,hl,ha,rfl,rfl⟩
    have e0:rl=[]:=by
     cases rl with
     |nil=>rfl
     |cons k' rl=>obtain ⟨_,_,e,_⟩:=ats_cons.mp ha;cases e
    subst e0;rw [abe] at hl;subst hl;show wpAny _ _ (do ret (←mkInt (aer (NK.hashs w done).toArray.toList))) _ _ _;refine abT (wpAny_ret_mkInt (Q:=fun v s'=> ∃n t,v= .int n t/\Q (reduceHash n) s') ?_) (fun fin s' ⟨v,e,n,t,e2,q⟩=>⟨n,t,by rw [e,e2],q⟩) (fun _ _ x=>x);refine ⟨_,_,rfl,?_⟩;simpa [Nat.add_assoc] using q
end
def UJ {α:Type} [BEq α] [LawfulBEq α] {β:Type} {f:α->β} (hf: ∀a b,f a=f b->a=b) (a b:α) [Decidable (f a=f b)]:(a==b)=decide (f a=f b):=by
 by_cases h:a=b
 · subst h;simp
 · rw [decide_eq_false (fun e=>h (hf _ _ e))];simpa using h
def jee {s:aah} (x:NK): ∀(A:aaZ) (y:NK) (u v:Value),NK.at s.heap x u->NK.at s.heap y v->A.units+x.dep<cLine->EqAt A s u v (decide (x=y)):=by
 induction x using NK.ind with
 |h1 i=>
  intro A y u v hx hy hu;obtain ⟨t,rfl⟩:=at_int.mp hx;simp only [NK.dep] at hu
  cases y with
  |int j=>
   obtain ⟨t',rfl⟩:=at_int.mp hy;rw [←UJ (f:=NK.int) (fun a b e=>by cases e;rfl)];exact EqAt.int_int _ _ _ _
  |str z=>obtain ⟨t',rfl⟩:=at_str.mp hy;rw [decide_eq_false (by intro e;cases e)];exact EqAt.int_str _ _ _ _
  |tup l=>obtain ⟨a,its,rfl,p,_⟩:=at_tup.mp hy;rw [decide_eq_false (by intro e;cases e)];exact EqAt.int_tuple _ _ p (by omega)
 |h2 z=>
  intro A y u v hx hy hu;obtain ⟨t,rfl⟩:=at_str.mp hx;simp only [NK.dep] at hu
  cases y with
  |int j=>obtain ⟨t',rfl⟩:=at_int.mp hy;rw [decide_eq_false (by intro e;cases e)];exact EqAt.str_int _ _ _ _
  |str z'=>
   obtain ⟨t',rfl⟩:=at_str.mp hy;rw [←UJ (f:=NK.str) (fun a b e=>by cases e;rfl)];exact EqAt.str_str _ _ _ _
  |tup l=>obtain ⟨a,its,rfl,p,_⟩:=at_tup.mp hy;rw [decide_eq_false (by intro e;cases e)];exact EqAt.str_tuple _ _ p (by omega)
 |h3 l ih=>
  intro A y u v hx hy hu;obtain ⟨a,its,rfl,p,hl⟩:=at_tup.mp hx;simp only [NK.dep] at hu
  cases y with
  |int j=>obtain ⟨t',rfl⟩:=at_int.mp hy;rw [decide_eq_false (by intro e;cases e)];exact EqAt.tuple_int _ _ p (by omega)
  |str z'=>obtain ⟨t',rfl⟩:=at_str.mp hy;rw [decide_eq_false (by intro e;cases e)];exact EqAt.tuple_str _ _ p (by omega)
  |tup m=>
   obtain ⟨a',its',rfl,p',hm⟩:=at_tup.mp hy
   by_cases z:a=a'
   · subst z;rw [decide_eq_true (uR _ _ _ hx hy)];exact EqAt.same _
   · have l1:=Jo hl;have l2:=Jo hm
     have q:=RcAt.tuples (A:=A) (e:=fun j=>decide (l[j]?=m[j]?)) p p' (by omega) (fun j h1 h2=>by
      have j1:j<l.length:=by rw [←l1,aaD];exact h1
      have j2:j<m.length:=by rw [←l2,aaD];exact h2
      have g1:its.toList[j]?=some its[j]:=by rw [aav];exact aay h1
      have g2:its'.toList[j]?=some its'[j]:=by rw [aav];exact aay h2
      have hd:=QM (abd j1);have:=ih l[j] (abd j1) A.in1 m[j] its[j] its'[j] (Jp hl (aac j1) g1) (Jp hm (aac j2) g2) (by show A.units+1+l[j].dep<cLine;omega);rw [aac j1,aac j2]
      simpa using this)
     have e:((aaT (min its.size its'.size)).all (fun j=>decide (l[j]?=m[j]?))&&its.size==its'.size)=decide (NK.tup l=NK.tup m):=by
      rw [←aaD,←aaD,l1,l2];rw [ad7,aax,aaW,decide_eq_true_iff]
      constructor
      · rintro ⟨h1,h2⟩;have hlen:l.length=m.length:=by simpa using h2
        congr 1;apply adD;intro j
        by_cases hj:j<l.length
        · simpa using h1 j (aaO.mpr (by omega))
        · rw [aaU (by omega),aaU (by omega)]
      · intro h;cases h;exact ⟨fun j _=>by simp,by simp⟩
     rw [←e];exact aeS z q
section
variable {prog:aaL} {w:World} {A:aaZ} {E:Value->aah->Prop} {s:aah}
def kE (k:NK): ∀(n:Nat) (v:Value) (Q:Bool->aah->Prop),NK.at s.heap k v->k.dep<=n->Q true s->wpAny (model prog w) A (eqIsQuiet n v) Q E s:=by
 induction k using NK.ind with
 |h1 i=>intro n v Q x _ q;obtain ⟨t,rfl⟩:=at_int.mp x;cases n<;>exact aaf q
 |h2 z=>intro n v Q x _ q;obtain ⟨t,rfl⟩:=at_str.mp x;cases n<;>exact aaf q
 |h3 l ih=>
  intro n v Q x hn q;obtain ⟨a,its,rfl,p,hl⟩:=at_tup.mp x;simp only [NK.dep] at hn;obtain ⟨n,rfl⟩: ∃m,n=m+1:=⟨n-1,by omega⟩
  obtain ⟨o,ho,hc,nn,hd⟩:=id p;rw [eqIsQuiet.eq_def];refine aab (wpAny_specialOf (J5 p) F.slot_tuple_eq.lookup ?_);dsimp only;refine aab (wpAny_isInstance (b:=true) (J5 p) (by first|rfl|decide|exact isSubtype_type "tuple" _) ?_);simp only [abZ,aa0,if_false];refine aab (ac1 ho hd (aab ?_));simp only [aeJ];rw [←adn];refine ac8 _ (fun rest r s'=>r=(none,())/\s'=s/\ ∃rl,NK.ats s.heap rl rest/\ ∀k∈rl,k∈l) _ ?_ ?_ _ _ ⟨rfl,rfl,l,hl,fun _ h=>h⟩
  · rintro u rest r s' ⟨rfl,rfl,rl,ha,hs⟩
    cases rl with
    |nil=>have:=ats_nil.mp ha;cases this
    |cons k' rl=>
     obtain ⟨u',us,e,hu1,hu2⟩:=ats_cons.mp ha;obtain ⟨rfl,rfl⟩:=List.cons.inj e;have hm:=hs k' aam;have hdp:=QM hm;refine aab (ih k' hm n u _ hu1 (by omega) ?_);simp only [abZ,aa0,if_false];exact aaf ⟨rfl,rfl,rl,hu2,fun q hq=>hs q (aaj _ hq)⟩
  · rintro r s' ⟨rfl,rfl,_⟩;exact aaf q
end
noncomputable def nkKind (prog:aaL) (w:World):HeapKind prog w NK where
 is:=fun h k a=>NK.at h k (.ref a)/\k.dep<=8
 hash:=NK.hash w
 draws:=NK.draws
 room:=fun A=>A.units+8<cLine
 inj:=fun x y=>uR _ _ _ x.1 y.1
 keeps:=fun {h h' k a d o es ep} x ho hd hs=>⟨jbG (fun b its ⟨ob,hb,hc,n,hdb⟩=>⟨ob,hs.extBut b ob (fun z=>by
  subst z;rw [ho] at hb;cases hb
  rw [hd] at hdb;cases hdb) hb,hc,n,hdb⟩) k _ x.1,x.2⟩
 pyHash:=fun {A E s k a Q} hr x q=>jaQ k A E s _ Q x.1 (by have:=x.2;omega) q
 eqBool:=fun {A E s x y a b Q} hr hx hy q=>jee x A y _ _ hx.1 hy.1 (by have:=hx.2;omega) _ _ _ _ q
 quiet:=fun {A E s k a Q} x q=>kE k 8 _ Q x.1 x.2 q
end M
section
open PySem
abbrev Ym (x:Str):Prop:=(x==("__debug__" :Str))=false
abbrev Yl (x:Str):Prop:=(x==("__classdict__" :Str))=false
abbrev W9:=Str->Option Value
abbrev Wb:=Addr->Prop
abbrev T9:=Value->aah->Prop
theorem T5 {l:List Str} (h:l.Nodup:=by decide+kernel):l.Nodup:=h
end
namespace L2
open PySem PySem.Spec PyProof.Rows
abbrev Key:=Sum Int Str
def YD:Key->Value->Bool
 | .inl k,v=>Value.isInt k v
 | .inr x,v=>Value.isStrOf x v
def keyH (w:World):Key->Int
 | .inl k=>hashInt k
 | .inr x=>hashStr w x
theorem jS: ∀ {k:Key} {v:Value},YD k v=true->(∃i t,k=aeF i/\v=Value.int i t)\/(∃x t,k=aeG x/\v=Value.str x t)
 | .inl i,v,h=>by
  obtain ⟨t,e⟩:=Value.isInt_shape (k:=i) (v:=v) h;exact .inl ⟨i,t,rfl,e⟩
 | .inr x,v,h=>by
  obtain ⟨t,e⟩:=Value.isStrOf_shape (x:=x) (v:=v) h;exact .inr ⟨x,t,rfl,e⟩
def Vu (i:Int) (t:Tok):YD (.inl i) (.int i t)=true:=by simp [YD,Value.isInt]
def Vt (x:Str) (t:Tok):YD (.inr x) (.str x t)=true:=by simp [YD,Value.isStrOf]
def jc7 (a b:Int):decide ((aeF a:Key)=aeF b)=(a==b):=by
 by_cases e:a=b
 · subst e;simp
 · have h: ¬(aeF a:Key)=aeF b:=fun q=>e (Sum.inl.inj q)
   rw [decide_eq_false h];exact (beq_eq_false_iff_ne.mpr e).symm
def jc4 (a b:Str):decide ((aeG a:Key)=aeG b)=decide (a=b):=by
 by_cases e:a=b
 · subst e;simp
 · have h: ¬(aeG a:Key)=aeG b:=fun q=>e (Sum.inr.inj q)
   rw [decide_eq_false h,decide_eq_false e]
def jc6 (a:Int) (b:Str):decide ((aeF a:Key)=aeG b)=false:=decide_eq_false (fun q=>nomatch q)
def jc5 (a:Str) (b:Int):decide ((aeG a:Key)=aeF b)=false:=decide_eq_false (fun q=>nomatch q)
def jF (prog:aaL) (w:World):PySem.KeyKind prog w Key where
 is:=YD
 hash:=keyH w
 inj:=fun v a b ha hb=>by
  rcases jS ha with ⟨i,t,rfl,rfl⟩| ⟨x,t,rfl,rfl⟩
  · rcases jS hb with ⟨j,u,rfl,e⟩| ⟨y,u,rfl,e⟩
    · injection e with e1 _;rw [e1]
    · exact nomatch e
  · rcases jS hb with ⟨j,u,rfl,e⟩| ⟨y,u,rfl,e⟩
    · exact nomatch e
    · injection e with e1 _;rw [e1]
 byValue:=fun k v h=>by
  rcases jS h with ⟨i,t,rfl,rfl⟩| ⟨x,t,rfl,rfl⟩<;>rfl
 pyHash:=fun hv h=>by
  rcases jS hv with ⟨i,t,rfl,rfl⟩| ⟨x,t,rfl,rfl⟩
  · exact wpAny_pyHash_int h
  · exact wpAny_pyHash_str h
 eqBool:=fun hu hv h=>by
  rcases jS hu with ⟨i,t,rfl,rfl⟩| ⟨x,t,rfl,rfl⟩
  · rcases jS hv with ⟨j,u,rfl,rfl⟩| ⟨y,u,rfl,rfl⟩
    · rw [jc7] at h;exact wpAny_eqBool_int h
    · rw [jc6] at h;exact SeqAt.EqAt.int_str i t y u _ _ _ _ h
  · rcases jS hv with ⟨j,u,rfl,rfl⟩| ⟨y,u,rfl,rfl⟩
    · rw [jc5] at h;exact SeqAt.EqAt.str_int x t j u _ _ _ _ h
    · rw [jc4] at h;exact wpAny_eqBool_str h
 «strs» :=fun k x t v h=>by
  rcases jS h with ⟨i,u,rfl,e⟩| ⟨y,u,rfl,e⟩
  · exact nomatch e
  · injection e with e1 _;subst e1;cases v<;>rfl
def Wu (prog:aaL) (w:World) (i:Int) (t:Tok):(jF prog w).is (.inl i) (.int i t)=true:=Vu i t
def Wt (prog:aaL) (w:World) (x:Str) (t:Tok):(jF prog w).is (.inr x) (.str x t)=true:=Vt x t
inductive V where
 |non|bl (b:Bool)|int (i:Int)|str (x:Str)|byt (b:Array UInt8)|flt (b:UInt64)|ref (a:Addr)|ty (n:String)
 deriving DecidableEq
def RelV:V->Value->Prop
 | .non,u=>u=abD
 | .bl b,u=>u=acS b
 | .int i,u=> ∃t,u=Value.int i t
 | .str x,u=> ∃t,u=Value.str x t
 | .byt b,u=> ∃t,u=Value.bytes b t
 | .flt b,u=> ∃t,u=Value.float b t
 | .ref a,u=>u=aaK a
 | .ty n,u=>u=adE n
abbrev Vals:List V->List Value->Prop:=aeK RelV
def Vals.length {xs:List V} {us:List Value} (r:Vals xs us):xs.length=us.length:=ado r
theorem Vals.get: ∀ {xs:List V} {us:List Value} {i:Nat} {x:V},Vals xs us->xs[i]?=some x-> ∃u,us[i]?=some u/\RelV x u
 |_,_,_,_,.nil,e=>by simp at e
 |_,_,0,_,.cons r _,e=>by simp at e;subst e;exact ⟨_,rfl,r⟩
 |_,_,i+1,x,.cons _ t,e=>by
  obtain ⟨u,h1,h2⟩:=Vals.get (i:=i) (x:=x) t (by simpa using e);exact ⟨u,by simpa using h1,h2⟩
theorem Vals.set {x:V} {u:Value} (r:RelV x u): ∀ {xs:List V} {us:List Value} (i:Nat),Vals xs us->Vals (xs.set i x) (us.set i u)
 |_,_,_,.nil=> .nil
 |_,_,0,.cons _ t=> .cons r t
 |_,_,i+1,.cons q t=> .cons q (Vals.set r i t)
theorem Vals.append: ∀ {xs ys:List V} {us ws:List Value},Vals xs us->Vals ys ws->Vals (xs++ys) (us++ws)
 |_,_,_,_,.nil,s=>s
 |_,_,_,_,.cons r t,s=> .cons r (Vals.append t s)
theorem Vals.take: ∀ {xs:List V} {us:List Value} (n:Nat),Vals xs us->Vals (xs.take n) (us.take n)
 |_,_,0,_=> .nil
 |_,_,_+1,.nil=> .nil
 |_,_,n+1,.cons r t=> .cons r (Vals.take n t)
theorem Vals.drop: ∀ {xs:List V} {us:List Value} (n:Nat),Vals xs us->Vals (xs.drop n) (us.drop n)
 |_,_,0,r=>r
 |_,_,_+1,.nil=> .nil
 |_,_,n+1,.cons _ t=>Vals.drop n t
def RelO:Option V->Option Value->Prop
 |some v,some u=>RelV v u
 |none,none=>True
 |_,_=>False
def KV {κ:Type}:List (κ×V)->List (κ×Value)->Prop:=aeK fun (p:κ×V) (q:κ×Value)=>p.1=q.1/\RelV p.2 q.2
def kV:Key->V
 | .inl i=> .int i
 | .inr x=> .str x
inductive HO where
 |lst (xs:List V)
 |tup (xs:List V)
 |dK (kvs:List (Key×V))|dT (kvs:List (List Key×V))
 |set (S:Int->Bool) (n:Nat)
 |ins (C dx:Addr) (fs:List (Str×V))
 |own (x:Addr)
 |xd (fs:List (Str×V))
 |met (f x:Addr)
 |rng (lo hi:Int)
 |frz (o:Obj) (u:HO)
 |tbl (ps:Array Value)
 |ext (φ:Heap->Prop)
 |memo (B:List M.NK) (Φ:M.NK->Option M.NK->Prop)
abbrev Hp:=Addr->Option HO
def upd (H:Hp) (a:Addr) (o:HO):Hp:=fun b=>if b=a then some o else H b
def jt {H:Hp} {a:Addr} {o:HO}:upd H a o a=some o:=by unfold upd;rw [if_pos rfl]
def jH {H:Hp} {a b:Addr} {o:HO} (h:b≠a):upd H a o b=H b:=by unfold upd;rw [if_neg h]
def jef {H:Hp} {a b:Addr} {o u:HO} (h:H a=some o) (h':H b=some u) (d:o≠u):a≠b:=by
 intro e;subst e;rw [h] at h';exact d (aaI h')
def jU {H:Hp} {a b:Addr} {o:HO} (h:H a=some o) (h':H b=none):a≠b:=by
 intro e;subst e;rw [h] at h';cases h'
mutual
def NkH (H:Hp):M.NK->V->Prop
 | .int i,v=>v= .int i
 | .str x,v=>v= .str x
 | .tup l,v=> ∃b vs,v= .ref b/\H b=some (.tup vs)/\NkHs H l vs
def NkHs (H:Hp):List M.NK->List V->Prop
 | [],vs=>vs=[]
 |k::l,vs=> ∃u us,vs=u::us/\NkH H k u/\NkHs H l us
end
def NvH (H:Hp):Option M.NK->V->Prop
 |none,v=>v= .non
 |some k,v=>NkH H k v
theorem NkHs.mono {H H':Hp}: ∀ {l:List M.NK} {vs:List V},(∀k∈l,∀v,NkH H k v->NkH H' k v)->NkHs H l vs->NkHs H' l vs
 | [],vs,_,x=>by simp only [NkHs] at x ⊢;exact x
 |k::l,vs,f,x=>by
  simp only [NkHs] at x ⊢;obtain ⟨u,us,e,hx,y⟩:=x;exact ⟨u,us,e,f k aam u hx,NkHs.mono (fun q hq=>f q (aaj _ hq)) y⟩
def NkH.mono {H H':Hp} (ht: ∀b xs,H b=some (.tup xs)->H' b=some (.tup xs)) (k:M.NK): ∀v,NkH H k v->NkH H' k v:=by
 induction k using M.NK.ind with
 |h1 i=>intro v x;simp only [NkH] at x ⊢;exact x
 |h2 z=>intro v x;simp only [NkH] at x ⊢;exact x
 |h3 l ih=>
  intro v x;simp only [NkH] at x ⊢;obtain ⟨b,vs,e,hb,y⟩:=x;exact ⟨b,vs,e,ht b vs hb,NkHs.mono ih y⟩
def NvH.mono {H H':Hp} (ht: ∀b xs,H b=some (.tup xs)->H' b=some (.tup xs)) {k:Option M.NK} {v:V} (x:NvH H k v):NvH H' k v:=by
 cases k with
 |none=>exact x
 |some k=>exact NkH.mono ht k v x
section
variable (P:aaL) (w:World)
def ObjOk (H:Hp) (h:Heap) (a:Addr):HO->Prop
 | .lst xs=>xs.length<=aai/\ ∃(its:List Value) (n:Nat),Vals xs its/\h.get? a=some {cls:= .type "list",data:= .seq its.toArray n}
 | .tup xs=>xs.length<=aai/\ ∃its:List Value,Vals xs its/\IsTup h a its.toArray
 | .dK kvs=>kvs.length<=aai/\(a==abU)=false/\ ∃vs,KV kvs vs/\h.DictOf (jF P w) a vs
 | .dT kvs=>kvs.length<=aai/\(a==abU)=false/\ ∃xs:List (List Key×Addr×Value),
  aeK (fun (p:List Key×V) (q:List Key×Addr×Value)=>p.1=q.1/\H q.2.1=some (.tup (p.1.map kV))/\RelV p.2 q.2.2) kvs xs/\
  ∃o es ep,h.get? a=some o/\o.ExactDict/\o.data= .dict es ep/\es.toList=xs.map (entryOfKey (acN (jF P w)))/\(xs.map (·.1)).Nodup
 | .set S n=>h.SetOf (intKind P w) a S n
 | .ins C dx fs=>H dx=some (.own a)/\fs.length<=1000/\dx≠a/\h.get? a=some (ab8 C dx)/\
  ∃mA,h.Ns1 dx mA/\(∀f,RelO (fs.lookup f) (mA f))/\PySem.Within mA (fs.map (·.1))
 | .own _=> ∃o,h.get? a=some o
 | .xd fs=> ∃mA,h.Ns1 a mA/\ ∀f,RelO (fs.lookup f) (mA f)
 | .rng lo hi=> ∃t u v,h.get? a=some {cls:= .type "range",data:= .fields #[.int lo t,.int hi u,.int 1 v]}
 | .frz o u=>h.get? a=some o/\ObjOk H h a u
 | .tbl ps=>h.get? a=some {cls:= .none,data:= .fields ps}
 | .met f x=>h.get? a=some (aey (.ref f) (.ref x))
 | .ext φ=>φ h/\(∃o,h.get? a=some o)/\ ∀h1 h2:Heap,φ h1->(∀o,h1.get? a=some o->h2.get? a=some o)->φ h2
 | .memo B Φ=>B.length<aai/\(a==abU)=false/\ ∃xs:List (M.NK×Addr×Value),(∀x∈xs,x.1∈B/\NkH H x.1 (.ref x.2.1)/\x.1.dep<=8/\ ∃v nv,RelV v x.2.2/\NvH H nv v/\Φ x.1 nv)/\
  ∃o es ep,h.get? a=some o/\o.ExactDict/\o.data= .dict es ep/\es.toList=xs.map (entryOfKey (M.nkKind P w))/\(xs.map (·.1)).Nodup
def HOk (H:Hp) (h:Heap):Prop:= ∀a o,H a=some o->ObjOk P w H h a o
end
section
variable {P:aaL} {w:World} {H H':Hp} {h h':Heap} {a:Addr} {o:HO}
def ObjOk.lt (x:ObjOk P w H h a o):a<h.objs.size:=by
 cases o with
 |lst xs=>obtain ⟨_,_,_,_,e⟩:=x;exact aas e
 |tup xs=>obtain ⟨_,_,_,p⟩:=x;exact p.lt
 |dK kvs=>obtain ⟨_,_,_,_,o,_,_,e,_⟩:=x;exact aas e
 |dT kvs=>obtain ⟨_,_,_,_,o,_,_,e,_⟩:=x;exact aas e
 |set S n=>obtain ⟨o,_,_,_,e,_⟩:=x;exact aas e
 |ins C dx fs=>obtain ⟨_,_,_,e,_⟩:=x;exact aas e
 |own y=>obtain ⟨_,e⟩:=x;exact aas e
 |xd fs=>obtain ⟨_,⟨_,_,_,e,_⟩,_⟩:=x;exact aas e
 |rng lo hi=>obtain ⟨_,_,_,e⟩:=x;exact aas e
 |frz ob u=>obtain ⟨e,_⟩:=x;exact aas e
 |tbl ps=>exact aas (show h.get? a=some _ from x)
 |met f y=>exact aas (show h.get? a=some _ from x)
 |ext φ=>obtain ⟨_,⟨_,e⟩,_⟩:=x;exact aas e
 |memo B Φ=>obtain ⟨_,_,_,_,o,_,_,e,_⟩:=x;exact aas e
theorem aeK.mapP {α β:Type} {F G:α->β->Prop}: ∀ {l₁:List α} {l₂:List β},aeK F l₁ l₂->(∀a b,F a b->G a b)->aeK G l₁ l₂
 |_,_,.nil,_=> .nil
 |_,_,.cons r t,f=> .cons (f _ _ r) (aeK.mapP t f)
def ObjOk.stay (x:ObjOk P w H h a o) (k: ∀b u,(b=a\/H b=some (.own a))->h.get? b=some u->h'.get? b=some u)
  (ho: ∀b,H b=some (.own a)->H' b=some (.own a)) (ht: ∀b xs,H b=some (.tup xs)->H' b=some (.tup xs)):ObjOk P w H' h' a o:=by
 induction o with
 |lst xs=>obtain ⟨z,its,n,r,e⟩:=x;exact ⟨z,its,n,r,k _ _ (.inl rfl) e⟩
 |tup xs=>obtain ⟨z,its,r,ob,e,c⟩:=x;exact ⟨z,its,r,ob,k _ _ (.inl rfl) e,c⟩
 |dK kvs=>obtain ⟨z,y,vs,r,ob,es,ep,e,c⟩:=x;exact ⟨z,y,vs,r,ob,es,ep,k _ _ (.inl rfl) e,c⟩
 |dT kvs=>
  obtain ⟨z,y,xs,r,ob,es,ep,e,c⟩:=x;exact ⟨z,y,xs,aeK.mapP r fun p q z=>⟨z.1,ht _ _ z.2.1,z.2.2⟩,ob,es,ep,k _ _ (.inl rfl) e,c⟩
 |set S n=>obtain ⟨ob,es,ep,t,e,c⟩:=x;exact ⟨ob,es,ep,t,k _ _ (.inl rfl) e,c⟩
 |ins C dx fs=>
  obtain ⟨d,z,ne,e,mA,⟨od,es,ep,e2,c⟩,r⟩:=x;exact ⟨ho _ d,z,ne,k _ _ (.inl rfl) e,mA,⟨od,es,ep,k _ _ (.inr d) e2,c⟩,r⟩
 |own y=>obtain ⟨ob,e⟩:=x;exact ⟨ob,k _ _ (.inl rfl) e⟩
 |xd fs=>obtain ⟨mA,⟨od,es,ep,e,c⟩,r⟩:=x;exact ⟨mA,⟨od,es,ep,k _ _ (.inl rfl) e,c⟩,r⟩
 |rng lo hi=>obtain ⟨t,u,v,e⟩:=x;exact ⟨t,u,v,k _ _ (.inl rfl) e⟩
 |frz ob u ih=>obtain ⟨e,q⟩:=x;exact ⟨k _ _ (.inl rfl) e,ih q⟩
 |tbl ps=>
  have e:h.get? a=some {cls:= .none,data:= .fields ps}:=x;show h'.get? a=some {cls:= .none,data:= .fields ps};exact k a _ (.inl rfl) e
 |met f y=>
  have e:h.get? a=some (aey (.ref f) (.ref y)):=x;show h'.get? a=some (aey (.ref f) (.ref y));exact k a _ (.inl rfl) e
 |ext φ=>obtain ⟨p,⟨o,e⟩,st⟩:=x;exact ⟨st _ _ p fun o q=>k _ _ (.inl rfl) q,⟨o,k _ _ (.inl rfl) e⟩,st⟩
 |memo B Φ=>
  obtain ⟨z,y,xs,r,ob,es,ep,e,c⟩:=x;exact ⟨z,y,xs,fun q hq=>let ⟨b1,b2,b3,v,nv,b4,b5,b6⟩:=r q hq;⟨b1,NkH.mono ht _ _ b2,b3,v,nv,b4,NvH.mono ht b5,b6⟩,ob,es,ep,k _ _ (.inl rfl) e,c⟩
def HOk.lt (x:HOk P w H h) (e:H a=some o):a<h.objs.size:=(x a o e).lt
def HOk.fresh (x:HOk P w H h) (e:h.objs.size<=a):H a=none:=by
 cases q:H a with
 |none=>rfl
 |some u=>exact absurd (aaC (x.lt q) e) (ab0 _)
def HOk.kept (x:HOk P w H h) (k: ∀b u,h.get? b=some u->h'.get? b=some u):HOk P w H h':=fun a o e=>
 (x a o e).stay (fun b u _ q=>k b u q) (fun _ q=>q) fun _ _ q=>q
def HOk.laid (x:HOk P w H h) (k: ∀b u,h.get? b=some u->h'.get? b=some u) (hp:h.objs.size<=a) (new:ObjOk P w (upd H a o) h' a o):HOk P w (upd H a o) h':=fun b u e=>by
 have hn:=x.fresh hp
 by_cases hb:b=a
 · subst hb;rw [jt] at e;cases e;exact new
 · rw [jH hb] at e;exact (x b u e).stay (fun c v _ q=>k c v q) (fun c q=>by rw [jH (jU q hn)];exact q) fun c xs q=>by rw [jH (jU q hn)];exact q
end
def Rd (H:Hp) (a:Addr) (u:HO):Prop:=H a=some u\/ ∃o,H a=some (.frz o u)
def Rd.of {H:Hp} {a:Addr} {u:HO} (h:H a=some u):Rd H a u:= .inl h
def Rd.ok {P:aaL} {w:World} {H:Hp} {h:Heap} {a:Addr} {u:HO} (r:Rd H a u) (x:HOk P w H h):ObjOk P w H h a u:=by
 rcases r with r| ⟨o,r⟩
 · exact x a u r
 · obtain ⟨_,q⟩:=x a _ r;exact q
def Mut:Option HO->Prop
 |some (.lst _)=>True
 |some (.dK _)=>True
 |some (.dT _)=>True
 |some (.set _ _)=>True
 |some (.ins _ _ _)=>True
 |some (.ext _)=>True
 |some (.memo _ _)=>True
 |_=>False
section
variable {P:aaL} {w:World} {H:Hp} {h h':Heap} {x e:Addr} {o':HO}
def HOk.write (ok:HOk P w H h) (mu:Mut (H x)) (he:e=x\/H e=some (.own x)) (k: ∀b u,b≠e->h.get? b=some u->h'.get? b=some u) (heo: ∃u,h'.get? e=some u)
   (new:ObjOk P w (upd H x o') h' x o'):HOk P w (upd H x o') h':=fun b u q=>by
 have nown: ∀c y,H c=some (.own y)->c≠x:=fun c y r z=>by subst z;rw [r] at mu;exact mu
 have ntup: ∀c xs,H c=some (.tup xs)->c≠x:=fun c xs r z=>by subst z;rw [r] at mu;exact mu
 by_cases hb:b=x
 · subst hb;rw [jt] at q;cases q;exact new
 · rw [jH hb] at q
   by_cases hbe:b=e
   · have q':H b=some (.own x):=by
       rcases he with z|z
       · exact absurd (hbe.trans z) hb
       · rw [hbe];exact z
     rw [q] at q';cases q';obtain ⟨v,hv⟩:=heo;exact ⟨v,by rw [hbe];exact hv⟩
   · refine (ok b u q).stay (fun c v hc r=>k c v ?_ r) (fun c r=>by rw [jH (nown c b r)];exact r) fun c xs r=>by rw [jH (ntup c xs r)];exact r
     rcases hc with rfl|hc
     · exact hbe
     · rintro rfl;rcases he with z|z
       · exact nown c b hc z
       · rw [hc] at z;cases z;exact hb rfl
end
structure Un (fs ex:List Addr) (H H':Hp) (h h':Heap):Prop where
 keep: ∀b o,h.get? b=some o->H b=none->b∉fs->b∉ex->h'.get? b=some o
 slot: ∀b o,h.get? b=some o->H b=none->b∈fs->b∉ex-> ∃sl,h'.get? b=some {o with slots:=sl}
 free: ∀b o,h.get? b=some o->H b=none->b∉ex->H' b=none
 there: ∀b o,h.get? b=some o->b∉ex-> ∃o',h'.get? b=some o'
 tups: ∀b xs,H b=some (.tup xs)->H' b=some (.tup xs)
 frzs: ∀b o u,H b=some (.frz o u)->H' b=some (.frz o u)
 tbls: ∀b ps,H b=some (.tbl ps)-> ∃more,H' b=some (.tbl (ps++more))
section
variable {fs fs' ex ex':List Addr} {H H1 H2:Hp} {h h1 h2 h':Heap} {a x e:Addr} {o:HO}
def Un.any (u:Un fs ex H H1 h h1) {b:Addr} {ob:Obj} (q:h.get? b=some ob) (n:H b=none) (hx:b∉ex): ∃sl,h1.get? b=some {ob with slots:=sl}:=by
 by_cases hb:b∈fs
 · exact u.slot b ob q n hb hx
 · exact ⟨ob.slots,u.keep b ob q n hb hx⟩
def Un.kept (k: ∀b u,h.get? b=some u->h'.get? b=some u):Un fs ex H H h h':=
 ⟨fun b ob q _ _ _=>k b ob q,fun b ob q _ _ _=>⟨ob.slots,k b ob q⟩,fun _ _ _ n _=>n,fun b ob q _=>⟨ob,k b ob q⟩,fun _ _ q=>q,fun _ _ _ q=>q,fun _ ps q=>⟨#[],by rw [q];simp⟩⟩
def Un.refl:Un fs ex H H h h:=Un.kept fun _ _ q=>q
def Un.laid (k: ∀b u,h.get? b=some u->h'.get? b=some u) (hp:h.objs.size<=a) (hn:H a=none):Un fs ex H (upd H a o) h h' where
 keep:=fun b u q _ _ _=>k b u q
 slot:=fun b u q _ _ _=>⟨u.slots,k b u q⟩
 free:=fun b u q n _=>by rw [jH (aaJ (aaC (aas q) hp))];exact n
 there:=fun b u q _=>⟨u,k b u q⟩
 tups:=fun b xs q=>by rw [jH (jU q hn)];exact q
 frzs:=fun b u xs q=>by rw [jH (jU q hn)];exact q
 tbls:=fun b ps q=>⟨#[],by rw [jH (jU q hn),q];simp⟩
def Un.write (mu:Mut (H x)) (he:e=x\/H e=some (.own x)) (k: ∀b u,b≠e->h.get? b=some u->h'.get? b=some u) (heo: ∃u,h'.get? e=some u):Un fs ex H (upd H x o) h h':=by
 have hx: ∀b,H b=none->b≠x:=fun b n z=>by subst z;rw [n] at mu;exact mu
 have hb: ∀b,H b=none->b≠e:=fun b n z=>by
   subst z;rcases he with r|r
   · exact hx b n r
   · rw [n] at r;cases r
 have hm: ∀b u,H b=some u-> ¬Mut (some u)->b≠x:=fun b u q nm z=>by subst z;rw [q] at mu;exact nm mu
 refine ⟨fun b u q n _ _=>k b u (hb b n) q,fun b u q n _ _=>⟨u.slots,k b u (hb b n) q⟩,fun b u q n _=>by rw [jH (hx b n)];exact n,fun b u q _=>?_,
   fun b xs q=>by rw [jH (hm b _ q fun z=>z)];exact q,fun b u xs q=>by rw [jH (hm b _ q fun z=>z)];exact q,fun b ps q=>⟨#[],by rw [jH (hm b _ q fun z=>z),q];simp⟩⟩
 by_cases hbe:b=e
 · subst hbe;exact heo
 · exact ⟨u,k b u hbe q⟩
end
def trk (h:Heap) (H:Hp):List Addr:=(aaT h.objs.size).filter fun a=>(H a).isSome
def hidT (h:Heap) (H:Hp):Heap:=PySem.W.hideAll h (trk h H)
def VF (h:Heap) (H:Hp):(hidT h H).objs.size=h.objs.size:=PySem.W.hideAll_size _ _
def kU {h:Heap} {H:Hp} {b:Addr} {o:Obj} (e:h.get? b=some o) (n:H b=none):(hidT h H).get? b=some o:=
 PySem.W.hideAll_get _ e fun hm=>by
  have q:(H b).isSome=true:=(ad8.mp hm).2;rw [n] at q;simp at q
def jaL {h:Heap} {H:Hp} {b:Addr} {o:Obj} (e:(hidT h H).get? b=some o):h.get? b=some o/\H b=none:=by
 have e':h.get? b=some o:=PySem.W.of_hideAll (trk h H) e;refine ⟨e',?_⟩
 cases q:H b with
 |none=>rfl
 |some x=>
  have hm:b∈trk h H:=ad8.mpr ⟨aaO.mpr (aas e'),by simp [q]⟩;have z:(hidT h H).get? b=none:=PySem.W.hideAll_none (trk h H) hm;rw [z] at e;cases e
def jbK (g h:Heap) (L:Addr):List (Addr×Obj):=(aaT h.objs.size).filterMap fun a=>if a=L\/(g.get? a).isSome=true then none else (h.get? a).map fun o=>(a,o)
def rest (g h:Heap) (L d:Addr):List (Addr×Obj):=(jbK g h L).filter fun p=>decide (p.1≠d)
structure Mod (K:aaa) (mg:W9) (base:Heap):Prop where
 kin:K.In base
 glob:base.Ns aar mg
 blt: ∃mb,base.Ns builtinsNs mb/\ ∀x:Str,x≠ "__name__" ->mb x=abo x
 nolimit:base.NoLimit
structure Cx where
 prog:aaL
 w:World
 K:aaa
 mg:Str->Option Value
 base:Heap
 A:aaZ
 N:List Str
 s₀:aah
 H₀:Hp
 env:Env
 outer:List Env
 stack:List Env
 ex:List Addr
 fn:Str->Bool
 calm:Bool
 pn:List (Addr×Obj)
 xe:Value->aah->Prop
abbrev T8 (X:Cx) (e:Expr) (es:List Expr):Prop:=aao (e::es) X.env=(false,eval e X.env)::aao es X.env
abbrev T7 (X:Cx) (p:Pos) (es:List Expr):Prop:=(abw p (aao es X.env)).any (·.1)=false
abbrev T6 (X:Cx) (x:Str):Prop:=X.fn x=true\/X.env.scope.names.lookup x=some .local
def frs (l:List Env):List Addr:=l.filterMap (·.frame)
abbrev Cx.fs (X:Cx):List Addr:=frs X.outer
def Vis (sc:Scope) (x:Str):Prop:=sc.names.lookup x=some .local\/sc.names.lookup x=some .cell\/sc.names.lookup x=some .free
def Loc (sc:Scope) (x:Str):Prop:=sc.names.lookup x=some .local\/sc.names.lookup x=some .cell
def Look (env:Env) (h:Heap) (m:W9) (x:Str) (u:Value):Prop:=
 (env.kindOf x=some .local/\m x=some u)\/((env.kindOf x=some .cell\/env.kindOf x=some .free)/\ ∃c,env.cells.lookup x=some c/\h.IsCell c (some u))
structure Cx.Ok (X:Cx):Prop where
 mod:Mod X.K X.mg X.base
 kind:X.env.scope.kind= .function
 glob:X.env.globals=aar
 blt:X.env.builtins=builtinsNs
 above:X.s₀.heap.objs.size<=X.env.locals
 inj: ∀x y c,X.env.cells.lookup x=some c->X.env.cells.lookup y=some c->x=y
 has: ∀x,(X.env.kindOf x=some .cell\/X.env.kindOf x=some .free)-> ∃c,X.env.cells.lookup x=some c
 cab: ∀x c,X.fn x=true->X.env.cells.lookup x=some c->X.s₀.heap.objs.size<=c
 hd:X.calm=true->X.A.handled=none
 frames:X.A.frames=some X.stack
 stk:X.stack=X.outer\/(X.stack=X.env::X.outer/\X.env.frame=some X.env.locals)
 exf: ∀b∈X.ex,b≠X.env.locals/\ ∀x c,X.env.cells.lookup x=some c->c≠b
 bs: ∀b o,X.base.get? b=some o->X.s₀.heap.get? b=some o/\X.H₀ b=none
 bsz:X.base.objs.size<=X.s₀.heap.objs.size
 noex: ∀b o,X.base.get? b=some o->b∉X.ex
 exfs: ∀b∈X.ex,b∉X.fs
 funs:X.s₀.heap.FunFrames X.base X.outer
 frf: ∀b∈X.fs,X.H₀ b=none
structure Inv (X:Cx) (pins:List (Addr×Obj)) (σ:List (Option V)) (H:Hp) (s:aah):Prop where
 ok:X.Ok
 os:s.os=X.s₀.os
 bare:aeT s.gens
 base:Un X.fs X.ex X.H₀ H X.s₀.heap s.heap
 loc: ∃m,s.heap.Ns X.env.locals m/\ ∀(i:Nat) (x:Str) (v:V),X.N[i]?=some x->σ[i]?=some (some v)->Vis X.env.scope x-> ∃u,RelV v u/\Look X.env s.heap m x u
 cell: ∀x c,X.env.cells.lookup x=some c-> ∃v,s.heap.IsCell c v
 free:H X.env.locals=none
 freeC: ∀x c,X.env.cells.lookup x=some c->H c=none
 pin: ∀p∈X.pn++pins,s.heap.get? p.1=some p.2/\H p.1=none/\p.1≠X.env.locals/\p.1∉X.fs/\ ∀v,p.2.data≠ .cell v
 hok:HOk X.prog X.w H s.heap
 len:σ.length=X.N.length
section
variable {X:Cx} {pins:List (Addr×Obj)} {σ:List (Option V)} {H H':Hp} {s:aah} {h':Heap}
def Cx.Ok.nofr (ok:X.Ok) {b:Addr} {o:Obj} (e:X.base.get? b=some o):b∉X.fs:=fun hb=>by
 have:=(ok.funs.mem hb).1;rw [e] at this;cases this
def Inv.bs (I:Inv X pins σ H s): ∀b o,X.base.get? b=some o->s.heap.get? b=some o/\H b=none:=fun b o e=>
 ⟨I.base.keep b o (I.ok.bs b o e).1 (I.ok.bs b o e).2 (I.ok.nofr e) (I.ok.noex b o e),I.base.free b o (I.ok.bs b o e).1 (I.ok.bs b o e).2 (I.ok.noex b o e)⟩
def Inv.bk (I:Inv X pins σ H s): ∀b o,X.base.get? b=some o->s.heap.get? b=some o:=fun b o e=>(I.bs b o e).1
def Inv.mod (I:Inv X pins σ H s):Mod X.K X.mg X.base:=I.ok.mod
def Inv.kIn (I:Inv X pins σ H s):X.K.In s.heap:=I.ok.mod.kin.keeps I.bk
def Inv.lt (I:Inv X pins σ H s):X.env.locals<s.heap.objs.size:=let ⟨_,hn,_⟩:=I.loc;hn.lt
def Inv.sz (I:Inv X pins σ H s):X.s₀.heap.objs.size<=s.heap.objs.size:=aaF I.ok.above (aek I.lt)
def Inv.nofs (I:Inv X pins σ H s) {a:Addr} (h:s.heap.objs.size<=a):a∉X.fs:=fun hb=>by
 obtain ⟨_,o,ho,_⟩:=I.ok.funs.mem hb;exact absurd (aaC (aas ho) (aaF I.sz h)) (ab0 _)
def Inv.cne (I:Inv X pins σ H s): ∀x c,X.env.cells.lookup x=some c->c≠X.env.locals:=fun x c e z=>by
 obtain ⟨v,o,ho,hd⟩:=I.cell x c e;obtain ⟨m,⟨o',es,ep,ho',hd',_⟩,_⟩:=I.loc;rw [z,ho'] at ho;cases ho;rw [hd'] at hd;cases hd
def Inv.funs (I:Inv X pins σ H s):s.heap.FunFrames X.base X.outer:=by
 have all: ∀(l:List Env),(∀b∈frs l,b∈X.fs)->X.s₀.heap.FunFrames X.base l->s.heap.FunFrames X.base l:=by
  intro l
  induction l with
  |nil=>intro _ _;trivial
  |cons env r ih=>
   intro hs hl;obtain ⟨hk,⟨L,o,hf,hn,ho,hd⟩,hr⟩:=hl;have hL:L∈X.fs:=hs L (by unfold frs;rw [adf,hf];exact aam);obtain ⟨sl,e⟩:=I.base.slot L o ho (I.ok.frf L hL) hL fun z=>I.ok.exfs L z hL
   exact ⟨hk,⟨L,_,hf,hn,e,hd⟩,ih (fun b hb=>hs b (by unfold frs;rw [adf,hf];exact aaj _ hb)) hr⟩
 exact all X.outer (fun _ hb=>hb) I.ok.funs
def Inv.stack (I:Inv X pins σ H s):s.heap.FunFrames X.base X.stack:=by
 rcases I.ok.stk with e| ⟨e,hf⟩
 · rw [e];exact I.funs
 · rw [e];obtain ⟨m,hn,_⟩:=I.loc;refine .cons (by rw [I.ok.kind];decide) hf hn ?_ I.funs;exact Heap.get?_none_of_le (aaF I.ok.bsz I.ok.above)
def Inv.stkSub (I:Inv X pins σ H s): ∀b∈frs X.stack,b∈X.env.locals::X.fs:=fun b hb=>by
 rcases I.ok.stk with e| ⟨e,hf⟩
 · rw [e] at hb;exact aaj _ hb
 · rw [e] at hb;unfold frs at hb;rw [adf,hf] at hb;exact hb
def Inv.stkFree (I:Inv X pins σ H s): ∀b∈frs X.stack,H b=none:=fun b hb=>by
 rcases aaq.mp (I.stkSub b hb) with e|hb
 · rw [e];exact I.free
 · obtain ⟨_,o,ho,_⟩:=I.ok.funs.mem hb;exact I.base.free b o ho (I.ok.frf b hb) fun z=>I.ok.exfs b z hb
def Inv.step {g':Array GenState} {t':Nat} {d':Drawn} {ch:List Addr} (I:Inv X pins σ H s)
   (hch: ∀b∈ch,(b∈X.ex\/X.s₀.heap.objs.size<=b)/\b≠X.env.locals/\(∀x c,X.env.cells.lookup x=some c->c≠b)/\ ∀p∈X.pn++pins,p.1≠b)
   (keep: ∀b o,b≠X.env.locals->b∉X.fs->b∉ch->s.heap.get? b=some o->H b=none->h'.get? b=some o)
   (slot: ∀b o,b≠X.env.locals->b∈X.fs->b∉ch->s.heap.get? b=some o->H b=none-> ∃sl,h'.get? b=some {o with slots:=sl}) (free: ∀b o,b∉ch->s.heap.get? b=some o->H b=none->H' b=none)
   (there: ∀b o,b∉ch->s.heap.get? b=some o-> ∃o',h'.get? b=some o')
   (tups: ∀b xs,H b=some (.tup xs)->H' b=some (.tup xs)) (frzs: ∀b o u,H b=some (.frz o u)->H' b=some (.frz o u)) (tbls: ∀b ps,H b=some (.tbl ps)-> ∃more,H' b=some (.tbl (ps++more)))
   (ns: ∀m,s.heap.Ns X.env.locals m->h'.Ns X.env.locals m) (hok:HOk X.prog X.w H' h') (hg:aeT g'):
   Inv X pins σ H' {s with heap:=h',gens:=g',drawn:=d',toks:=t'}:=by
 have neL: ∀b o,X.s₀.heap.get? b=some o->b≠X.env.locals:=fun b o e=>aaJ (aaC (aas e) I.ok.above)
 have neC: ∀b o,X.s₀.heap.get? b=some o->b∉X.ex->b∉ch:=fun b o e hx hb=>by
   rcases (hch b hb).1 with z|z
   · exact hx z
   · exact absurd (aaC (aas e) z) (ab0 _)
 have cellK: ∀x c,X.env.cells.lookup x=some c-> ∀v,s.heap.IsCell c v->h'.IsCell c v:=fun x c e v ⟨o,ho,hd⟩=>by
   have nch:c∉ch:=fun z=>(hch c z).2.2.1 x c e rfl
   by_cases hc:c∈X.fs
   · obtain ⟨sl,q⟩:=slot c o (I.cne x c e) hc nch ho (I.freeC x c e);exact ⟨_,q,hd⟩
   · exact ⟨o,keep c o (I.cne x c e) hc nch ho (I.freeC x c e),hd⟩
 refine ⟨I.ok,I.os,hg,⟨fun b o e n hb hx=>?_,fun b o e n hb hx=>?_,fun b o e n hx=>?_,fun b o e hx=>?_,fun b xs e=>tups b xs (I.base.tups b xs e),fun b o xs e=>frzs b o xs (I.base.frzs b o xs e),fun b ps e=>?_⟩,?_,fun x c e=>?_,?_,fun x c e=>?_,fun p hp=>?_,hok,I.len⟩
 · exact keep b o (neL b o e) hb (neC b o e hx) (I.base.keep b o e n hb hx) (I.base.free b o e n hx)
 · obtain ⟨sl,e1⟩:=I.base.slot b o e n hb hx;obtain ⟨sl',e2⟩:=slot b _ (neL b o e) hb (neC b o e hx) e1 (I.base.free b o e n hx);exact ⟨sl',e2⟩
 · obtain ⟨o',e1⟩:=I.base.there b o e hx;exact free b o' (neC b o e hx) e1 (I.base.free b o e n hx)
 · obtain ⟨o',e1⟩:=I.base.there b o e hx;exact there b o' (neC b o e hx) e1
 · obtain ⟨m1,e1⟩:=I.base.tbls b ps e;obtain ⟨m2,e2⟩:=tbls b _ e1;exact ⟨m1++m2,by rw [e2,Array.append_assoc]⟩
 · obtain ⟨m,hn,hl⟩:=I.loc;refine ⟨m,ns m hn,fun i x v e1 e2 e3=>?_⟩;obtain ⟨u,r,l⟩:=hl i x v e1 e2 e3;refine ⟨u,r,?_⟩;rcases l with l| ⟨k,c,e,z⟩
   · exact .inl l
   · exact .inr ⟨k,c,e,cellK x c e _ z⟩
 · obtain ⟨v,z⟩:=I.cell x c e;exact ⟨v,cellK x c e v z⟩
 · obtain ⟨m,⟨o,_,_,ho,_⟩,_⟩:=I.loc;exact free _ o (fun z=>(hch _ z).2.1 rfl) ho I.free
 · obtain ⟨v,o,ho,hd⟩:=I.cell x c e;exact free c o (fun z=>(hch c z).2.2.1 x c e rfl) ho (I.freeC x c e)
 · obtain ⟨e,n,ne,nf,d⟩:=I.pin p hp;have nch:p.1∉ch:=fun z=>(hch p.1 z).2.2.2 p hp rfl
   exact ⟨keep p.1 p.2 ne nf nch e n,free p.1 p.2 nch e n,ne,nf,d⟩
def Inv.un {t':Nat} (I:Inv X pins σ H s) (u:Un X.fs [] H H' s.heap h') (hok:HOk X.prog X.w H' h'):Inv X pins σ H' {s with heap:=h',toks:=t'}:=by
 obtain ⟨m,⟨o,es,ep,ho,r⟩,_⟩:=id I.loc;obtain ⟨sl,hL⟩:=u.any ho I.free (by simp)
 exact I.step (g':=s.gens) (d':=s.drawn) (ch:=[]) (fun _ z=>nomatch z) (fun b o _ hb _ e n=>u.keep b o e n hb (by simp)) (fun b o _ hb _ e n=>u.slot b o e n hb (by simp)) (fun b o _ e n=>u.free b o e n (by simp)) (fun b o _ e=>u.there b o e (by simp)) u.tups u.frzs u.tbls (fun m' hm=>by
  obtain ⟨o',es',ep',ho',r'⟩:=hm;rw [ho] at ho';cases ho'
  exact ⟨_,es',ep',hL,r'⟩) hok I.bare
def Inv.call {g':Array GenState} {t':Nat} {d':Drawn} {ch:List Addr} (I:Inv X pins σ H s) (u:Un (frs X.stack) ch H H' s.heap h') (hok:HOk X.prog X.w H' h') (hg:aeT g')
  (hch: ∀b∈ch,(b∈X.ex\/X.s₀.heap.objs.size<=b)/\b≠X.env.locals/\(∀x c,X.env.cells.lookup x=some c->c≠b)/\ ∀p∈X.pn++pins,p.1≠b):
  Inv X pins σ H' {s with heap:=h',gens:=g',drawn:=d',toks:=t'}:=by
 obtain ⟨m,⟨o,es,ep,ho,r⟩,_⟩:=id I.loc;obtain ⟨sl,hL⟩:=u.any ho I.free fun z=>(hch _ z).2.1 rfl
 exact I.step (ch:=ch) hch (fun b o hL hb hc e n=>u.keep b o e n (fun z=>(aaq.mp (I.stkSub b z)).elim hL hb) hc) (fun b o _ _ hc e n=>u.any e n hc) (fun b o hc e n=>u.free b o e n hc) (fun b o hc e=>u.there b o e hc) u.tups u.frzs u.tbls (fun m' hm=>by
  obtain ⟨o',es',ep',ho',r'⟩:=hm;rw [ho] at ho';cases ho'
  exact ⟨_,es',ep',hL,r'⟩) hok hg
def Inv.turned {t':Nat} {it:Addr} (I:Inv X pins σ H s) (k: ∀b o,b≠it->s.heap.get? b=some o->h'.get? b=some o) (hn:H it=none) (hL:it≠X.env.locals)
   (h1:it∈X.ex\/X.s₀.heap.objs.size<=it) (h2: ∀x c,X.env.cells.lookup x=some c->c≠it) (h3: ∀p∈X.pn++pins,p.1≠it):Inv X pins σ H {s with heap:=h',toks:=t'}:=by
 have nit: ∀b u,H b=some u->b≠it:=fun b u e z=>by rw [z,hn] at e;cases e
 refine I.step (g':=s.gens) (d':=s.drawn) (ch:=[it]) (fun b hb=>?_) (fun b o _ _ hc e _=>k b o (fun z=>hc (by simp [z])) e) (fun b o _ _ hc e _=>⟨o.slots,k b o (fun z=>hc (by simp [z])) e⟩) (fun _ _ _ _ n=>n)
   (fun b o hc e=>⟨o,k b o (fun z=>hc (by simp [z])) e⟩) (fun _ _ e=>e) (fun _ _ _ e=>e) (fun b ps e=>⟨#[],by rw [e];simp⟩) (fun m hm=>?_) (fun b u e=>?_) I.bare
 · have e:b=it:=by simpa using hb
   subst e;exact ⟨h1,hL,h2,h3⟩
 · obtain ⟨o,es,ep,ho,r⟩:=hm;exact ⟨o,es,ep,k _ o (acK hL) ho,r⟩
 · refine (I.hok b u e).stay (fun c v hc q=>k c v ?_ q) (fun _ q=>q) fun _ _ q=>q
   rcases hc with z|z
   · rw [z];exact nit b u e
   · exact nit c _ z
def Inv.tok (I:Inv X pins σ H s) (t:Nat):Inv X pins σ H {s with toks:=t}:=I.un (h':=s.heap) (t':=t) Un.refl I.hok
def Inv.kept {t':Nat} (I:Inv X pins σ H s) (k: ∀b u,s.heap.get? b=some u->h'.get? b=some u):Inv X pins σ H {s with heap:=h',toks:=t'}:=I.un (Un.kept k) (I.hok.kept k)
def Inv.laid {a:Addr} {o:HO} {t':Nat} (I:Inv X pins σ H s) (k: ∀b u,s.heap.get? b=some u->h'.get? b=some u) (hp:s.heap.objs.size<=a) (new:ObjOk X.prog X.w (upd H a o) h' a o):
 Inv X pins σ (upd H a o) {s with heap:=h',toks:=t'}:=I.un (Un.laid k hp (I.hok.fresh hp)) (I.hok.laid k hp new)
def Inv.write {x e:Addr} {o:HO} {t':Nat} (I:Inv X pins σ H s) (mu:Mut (H x)) (he:e=x\/H e=some (.own x)) (k: ∀b u,b≠e->s.heap.get? b=some u->h'.get? b=some u) (heo: ∃u,h'.get? e=some u)
 (new:ObjOk X.prog X.w (upd H x o) h' x o):Inv X pins σ (upd H x o) {s with heap:=h',toks:=t'}:=I.un (Un.write mu he k heo) (I.hok.write mu he k heo new)
def Inv.pins_of {pins':List (Addr×Obj)} (I:Inv X pins σ H s) (h: ∀p∈pins',s.heap.get? p.1=some p.2/\H p.1=none/\p.1≠X.env.locals/\p.1∉X.fs/\ ∀v,p.2.data≠ .cell v):Inv X pins' σ H s:=
 ⟨I.ok,I.os,I.bare,I.base,I.loc,I.cell,I.free,I.freeC,fun p hp=>(aa8.mp hp).elim (fun z=>I.pin p (acx _ z)) (h p),I.hok,I.len⟩
def Xn {N:List Str} (hN:N.Nodup) {i j:Nat} {x:Str} (a:N[i]?=some x) (b:N[j]?=some x):i=j:=by
 obtain ⟨h1,e1⟩:=aaz.mp a;obtain ⟨h2,e2⟩:=aaz.mp b;exact (aeL hN).mp (e1.trans e2.symm)
def Q6 {M:Model} {A:aaZ} {E:T9} {i:Nat} {x:Str} {v:V} {u:Value} {Q:Unit->aah->Prop} (I:Inv X pins σ H s) (hN:X.N.Nodup) (hi:X.N[i]?=some x) (hx:Loc X.env.scope x) (r:RelV v u)
   (h: ∀s',Inv X pins (σ.set i (some v)) H s'->(∃a,acn a s.heap s'.heap/\(a=X.env.locals\/X.env.cells.lookup x=some a))->Q () s') (hf:T6 X x:=by first|exact .inl rfl|exact .inr rfl|assumption):wpAny M A (storeName X.env x u) Q E s:=by
 obtain ⟨m,hn,hl⟩:=id I.loc;have hcls:(X.env.scope.kind== .class|| (X.env.scope.kind== .module&&X.env.locals !=X.env.globals))=false:=by rw [I.ok.kind];rfl
 have hiσ:i<σ.length:=by rw [I.len];exact (aaz.mp hi).1
 have cne:=I.cne
 have tracked: ∀ {a:Addr} {h':Heap},(∃o,s.heap.get? a=some o/\H a=none)->acn a s.heap h'->HOk X.prog X.w H h':=fun {a h'} ha hs b ob e=>by
   obtain ⟨_,_,hfree⟩:=ha;refine (I.hok b ob e).stay (fun c w' hc q=>(hs.2 c ?_).trans q) (fun _ q=>q) fun _ _ q=>q
   rintro rfl;rcases hc with rfl|hc
   · rw [hfree] at e;cases e
   · rw [hfree] at hc;cases hc
 rcases hx with hk|hk
 · refine wpAny_storeName_local hk hn (fun h' hn' hs=>?_) hcls;obtain ⟨oL,_,_,hoL,_⟩:=id hn;refine h _ ⟨I.ok,I.os,I.bare,⟨fun b o e n hb hx=>?_,fun b o e n hb hx=>?_,I.base.free,fun b o e hx=>?_,I.base.tups,I.base.frzs,I.base.tbls⟩,⟨_,hn',fun j y v' e1 e2 e3=>?_⟩,fun y c e=>?_,I.free,I.freeC,fun p hp=>?_,tracked ⟨oL,hoL,I.free⟩ hs,by simpa using I.len⟩ ⟨_,hs,.inl rfl⟩
   · exact (hs.2 b (aaJ (aaC (aas e) I.ok.above))).trans (I.base.keep b o e n hb hx)
   · obtain ⟨sl,e1⟩:=I.base.slot b o e n hb hx;exact ⟨sl,(hs.2 b (aaJ (aaC (aas e) I.ok.above))).trans e1⟩
   · obtain ⟨o',e1⟩:=I.base.there b o e hx;exact ⟨o',(hs.2 b (aaJ (aaC (aas e) I.ok.above))).trans e1⟩
   · by_cases hj:j=i
     · subst hj;rw [hi] at e1;cases e1;rw [abH hiσ] at e2;cases e2;exact ⟨u,r,.inl ⟨hk,by simp⟩⟩
     · rw [adY (acK hj)] at e2;obtain ⟨u',r',q⟩:=hl j y v' e1 e2 e3;refine ⟨u',r',?_⟩;rcases q with ⟨k,e⟩| ⟨k,c,e,z⟩
       · refine .inl ⟨k,?_⟩;have:y≠x:=fun e=>hj (Xn hN e1 (e▸hi))
         simp [this,e]
       · exact .inr ⟨k,c,e,z.sameBut hs (cne y c e)⟩
   · obtain ⟨w',z⟩:=I.cell y c e;exact ⟨w',z.sameBut hs (cne y c e)⟩
   · obtain ⟨e,n,ne,nf,d⟩:=I.pin p hp;exact ⟨(hs.2 p.1 ne).trans e,n,ne,nf,d⟩
 · have hfn:X.fn x=true:=by
     rcases hf with z|z
     · exact z
     · rw [z] at hk;cases hk
   obtain ⟨c,hc⟩:=I.ok.has x (.inl hk);obtain ⟨w',z⟩:=I.cell x c hc;refine wpAny_storeName_cell I.ok.kind hk hc z (fun h' hc' hs=>?_);obtain ⟨oc,hoc,hocd⟩:=id z;refine h {s with heap:=h'} ⟨I.ok,I.os,I.bare,⟨fun b o e n hb hx=>?_,fun b o e n hb hx=>?_,I.base.free,fun b o e hx=>?_,I.base.tups,I.base.frzs,I.base.tbls⟩,⟨m,hn.sameBut hs (acK (cne x c hc)),fun j y v' e1 e2 e3=>?_⟩,fun y c' e=>?_,I.free,I.freeC,fun p hp=>?_,tracked ⟨oc,hoc,I.freeC x c hc⟩ hs,by simpa using I.len⟩ ⟨c,hs,.inr hc⟩
   · exact (hs.2 b (aaJ (aaC (aas e) (I.ok.cab x c hfn hc)))).trans (I.base.keep b o e n hb hx)
   · obtain ⟨sl,e1⟩:=I.base.slot b o e n hb hx;exact ⟨sl,(hs.2 b (aaJ (aaC (aas e) (I.ok.cab x c hfn hc)))).trans e1⟩
   · obtain ⟨o',e1⟩:=I.base.there b o e hx;exact ⟨o',(hs.2 b (aaJ (aaC (aas e) (I.ok.cab x c hfn hc)))).trans e1⟩
   · by_cases hj:j=i
     · subst hj;rw [hi] at e1;cases e1;rw [abH hiσ] at e2;cases e2;exact ⟨u,r,.inr ⟨.inl hk,c,hc,hc'⟩⟩
     · rw [adY (acK hj)] at e2;obtain ⟨u',r',q⟩:=hl j y v' e1 e2 e3;refine ⟨u',r',?_⟩;rcases q with q| ⟨k,c',e,z'⟩
       · exact .inl q
       · refine .inr ⟨k,c',e,z'.sameBut hs ?_⟩;rintro rfl;exact hj (Xn hN e1 (I.ok.inj _ _ _ e hc▸hi))
   · by_cases hcc:c'=c
     · subst hcc;exact ⟨_,hc'⟩
     · obtain ⟨w2,z2⟩:=I.cell y c' e;exact ⟨w2,z2.sameBut hs hcc⟩
   · obtain ⟨e,n,ne,nf,d⟩:=I.pin p hp;refine ⟨(hs.2 p.1 ?_).trans e,n,ne,nf,d⟩;intro q;rw [q,hoc] at e;have q':oc=p.2:=aaI e;exact d w' (by rw [←q'];exact hocd)
def J7 {M:Model} {A:aaZ} {E:T9} {i:Nat} {x:Str} {v:V} {u:Value} {Q:Unit->aah->Prop} (I:Inv X pins σ H s) (hN:X.N.Nodup) (hi:X.N[i]?=some x) (hx:Loc X.env.scope x) (r:RelV v u)
  (h: ∀s',Inv X pins (σ.set i (some v)) H s'->Q () s') (hf:T6 X x:=by first|exact .inl rfl|exact .inr rfl|assumption):wpAny M A (storeName X.env x u) Q E s:=
 Q6 I hN hi hx r (fun s' I' _=>h s' I') hf
def Inv.call' {s':aah} {ch:List Addr} (I:Inv X pins σ H s) (ho:s'.os=s.os) (u:Un (frs X.stack) ch H H' s.heap s'.heap) (hok:HOk X.prog X.w H' s'.heap) (hg:aeT s'.gens)
  (hch: ∀b∈ch,(b∈X.ex\/X.s₀.heap.objs.size<=b)/\b≠X.env.locals/\(∀x c,X.env.cells.lookup x=some c->c≠b)/\ ∀p∈X.pn++pins,p.1≠b):Inv X pins σ H' s':=by
 obtain ⟨h',g',d',t',o'⟩:=s';have e:o'=s.os:=ho;subst e;exact I.call (g':=g') (t':=t') (d':=d') u hok hg hch
end
abbrev XK:=Value->Option Addr->Hp->Prop
abbrev St:=List (Option V)
abbrev VK:=V->Hp->Prop
abbrev TE:=St->Hp->VK->Prop
abbrev TT:=St->Hp->(Bool->Hp->Prop)->Prop
abbrev TA:=St->Hp->(List V->Hp->Prop)->Prop
structure Ends where
 nx:St->Hp->Prop
 rt:VK
 bk:St->Hp->Prop:=fun _ _=>False
 ct:St->Hp->Prop:=fun _ _=>False
abbrev TS:=Ends->St->Hp->Prop
def EP (X:Cx) (pins:List (Addr×Obj)) (σ:St) (Q:VK) (u:Value) (s':aah):Prop:= ∃v H',Inv X pins σ H' s'/\RelV v u/\Q v H'
def TP (X:Cx) (pins:List (Addr×Obj)) (σ:St) (Q:Bool->Hp->Prop) (b:Bool) (s':aah):Prop:= ∃H',Inv X pins σ H' s'/\Q b H'
def AP (X:Cx) (pins:List (Addr×Obj)) (σ:St) (Q:List V->Hp->Prop) (us:List Value) (s':aah):Prop:= ∃vs H',Inv X pins σ H' s'/\Vals vs us/\Q vs H'
def SP (X:Cx) (pins:List (Addr×Obj)) (D:Ends) (f:Flow) (s':aah):Prop:=
 match f with
 | .next=> ∃σ' H',Inv X pins σ' H' s'/\D.nx σ' H'
 | .brk=> ∃σ' H',Inv X pins σ' H' s'/\D.bk σ' H'
 | .cont=> ∃σ' H',Inv X pins σ' H' s'/\D.ct σ' H'
 | .ret u=> ∃v σ' H',Inv X pins σ' H' s'/\RelV v u/\D.rt v H'
def PE (X:Cx) (e:Expr) (t:TE):Prop:=
 ∀(pins:List (Addr×Obj)) (s:aah) (σ:St) (H:Hp) (Q:VK),Inv X pins σ H s->t σ H Q->wpAny (model X.prog X.w) X.A (eval e X.env) (EP X pins σ Q) X.xe s
def PT (X:Cx) (e:Expr) (t:TT):Prop:=
 ∀(pins:List (Addr×Obj)) (s:aah) (σ:St) (H:Hp) (Q:Bool->Hp->Prop),Inv X pins σ H s->t σ H Q->wpAny (model X.prog X.w) X.A (isTrue e X.env (eval e X.env)) (TP X pins σ Q) X.xe s
def PW (X:Cx) (e:Expr) (t:TT):Prop:=
 ∀(whole:Sem Value) (pins:List (Addr×Obj)) (s:aah) (σ:St) (H:Hp) (Q:Bool->Hp->Prop),Inv X pins σ H s->t σ H Q->wpAny (model X.prog X.w) X.A (isTrue e X.env whole) (TP X pins σ Q) X.xe s
def PW.pt {X:Cx} {e:Expr} {t:TT} (h:PW X e t):PT X e t:=h _
def PA (X:Cx) (es:List Expr) (t:TA):Prop:=
 ∀(pos:Pos) (pins:List (Addr×Obj)) (s:aah) (σ:St) (H:Hp) (Q:List V->Hp->Prop),Inv X pins σ H s->t σ H Q->wpAny (model X.prog X.w) X.A (spliced (abw pos (aao es X.env))) (AP X pins σ Q) X.xe s
def PS (X:Cx) (st:Stmt) (t:TS):Prop:=
 ∀(pins:List (Addr×Obj)) (s:aah) (σ:St) (H:Hp) (D:Ends),Inv X pins σ H s->t D σ H->wpAny (model X.prog X.w) X.A (exec st X.env) (SP X pins D) X.xe s
def PSs (X:Cx) (st:List Stmt) (t:TS):Prop:=
 ∀(pins:List (Addr×Obj)) (s:aah) (σ:St) (H:Hp) (D:Ends),Inv X pins σ H s->t D σ H->wpAny (model X.prog X.w) X.A (execs st X.env) (SP X pins D) X.xe s
def thn {α:Type} {t:Sem α} {Q Q':α->aah->Prop} {M:Model} {A:aaZ} {E:T9} {s:aah} (h:wpAny M A t Q E s) (hQ: ∀a s,Q a s->Q' a s):wpAny M A t Q' E s:=abT h hQ fun _ _ x=>x
section
variable {X:Cx}
def tVar (i:Nat):TE:=fun σ H Q=> ∃v,σ[i]?=some (some v)/\Q v H
def tC (v:V):TE:=fun _ H Q=>Q v H
def wn {i:Nat} {x:Str} {pos:Pos} (hN:X.N[i]?=some x) (hv:Vis X.env.scope x) (hd:Ym x:=by decide) (hcd:Yl x:=by decide):PE X (.Name x pos) (tVar i):=by
 intro pins s σ H Q I h;obtain ⟨v,e,h⟩:=h;obtain ⟨m,hn,hl⟩:=I.loc;obtain ⟨u,r,l⟩:=hl i x v hN e hv;have fin:EP X pins σ Q u s:=⟨v,H,I,r,h⟩
 rcases l with ⟨hk,hm⟩| ⟨hk,c,hc,hcell⟩
 · exact aez (adZ I.ok.kind hk hn hm fin) hd
 · rcases hk with hk|hk
   · exact aez (ad9 I.ok.kind hk hc hcell fin) hd
   · exact aez (wpAny_loadName_free I.ok.kind hk hc hcell fin hcd) hd
def jcD {i j pos}:PE X (.Constant (.int i) j pos) (tC (.int i)):=fun _ _ _ H _ I h=>wpAny_Constant_int ⟨.int i,H,I.tok _,⟨_,rfl⟩,h⟩
def jd9 {b j pos}:PE X (.Constant (.bool b) j pos) (tC (.bl b)):=fun _ _ _ H _ I h=>Constant_bool ⟨.bl b,H,I,rfl,h⟩
def jcB {j pos}:PE X (.Constant .none j pos) (tC .non):=fun _ _ _ H _ I h=>Constant_none ⟨.non,H,I,rfl,h⟩
def jcx {x j pos}:PE X (.Constant (.str x) j pos) (tC (.str x)):=fun _ _ _ H _ I h=>Calls.Constant_str ⟨.str x,H,I.tok _,⟨_,rfl⟩,h⟩
def Gl (X:Cx) (x:Str):Prop:=X.env.kindOf x=some .globalImplicit
def Wx {E:T9} {pins:List (Addr×Obj)} {s:aah} {σ:St} {H:Hp} {x:Str} {u:Value} {pos:Pos} {Q:T9} (I:Inv X pins σ H s) (hg:Gl X x) (hm:X.mg x=some u) (h:Q u s)
  (hd:Ym x:=by decide):wpAny (model X.prog X.w) X.A (eval (.Name x pos) X.env) Q E s:=
 Calls.Name_function_global I.ok.kind hg (Calls.loadGlobal_global (by rw [I.ok.glob];exact I.mod.glob.keeps I.bk) hm h) hd
def JQ {E:T9} {pins:List (Addr×Obj)} {s:aah} {σ:St} {H:Hp} {x:Str} {u:Value} {pos:Pos} {Q:T9} (I:Inv X pins σ H s) (hg:Gl X x) (hm:X.mg x=none) (hv:abo x=some u) (h:Q u s)
  (hn:x≠ "__name__" :=by decide) (hd:Ym x:=by decide):wpAny (model X.prog X.w) X.A (eval (.Name x pos) X.env) Q E s:=by
 obtain ⟨mb,h1,h2⟩:=I.mod.blt;exact Calls.Name_function_global I.ok.kind hg (Calls.loadGlobal_builtin (by rw [I.ok.glob];exact I.mod.glob.keeps I.bk) hm (by rw [I.ok.blt];exact h1.keeps I.bk) ((h2 x hn).trans hv) h) hd
def KK {x:Str} {v:V} {u:Value} {pos:Pos} (hg:Gl X x) (hm:X.mg x=some u) (r:RelV v u) (hd:Ym x:=by decide):PE X (.Name x pos) (tC v):=
 fun _ _ _ H _ I h=>Wx I hg hm ⟨v,H,I,r,h⟩ hd
def jaC {x:Str} {v:V} {u:Value} {pos:Pos} (hg:Gl X x) (hm:X.mg x=none) (hv:abo x=some u) (r:RelV v u) (hn:x≠ "__name__" :=by decide) (hd:Ym x:=by decide):PE X (.Name x pos) (tC v):=
 fun _ _ _ H _ I h=>JQ I hg hm hv ⟨v,H,I,r,h⟩ hn hd
variable {a b:Expr} {ta tb:TE} {pos:Pos}
def tB (t:TE):TT:=fun σ H Q=>t σ H fun x H1=> ∃c,x= .bl c/\Q c H1
def jco {e:Expr} {t:TE} (h:PE X e t) (he: ∀whole,isTrue e X.env whole=(do let v←whole;standAt e.pos;adV [v] (truthy v)):=by intro _;rfl):PT X e (tB t):=by
 intro pins s σ H Q I hw;refine isTrue_plain (thn (h pins s σ H _ I hw) fun v s1 ⟨x,H1,I1,r1,q1⟩=>?_) (he _);obtain ⟨d,rfl,q⟩:=q1;cases r1;exact abm ⟨H1,I1,q⟩
variable {tA tB':TT} {rest:List Expr}
def tAnd (t u:TT):TT:=fun σ H Q=>t σ H fun c H1=>if c=true then u σ H1 Q else Q false H1
def tOr (t u:TT):TT:=fun σ H Q=>t σ H fun c H1=>if c=true then Q true H1 else u σ H1 Q
def tNot (t:TT):TT:=fun σ H Q=>t σ H fun c H1=>Q (!c) H1
def jal (ha:PT X a tA):PW X (.BoolOp .And [a] pos) tA:=by
 intro wh pins s σ H Q I h;refine isTrue_and (thn (ha pins s σ H Q I h) fun c s1 e=>?_)
 cases c with
 |true=>exact isTrue_and_nil e
 |false=>exact e
def jck (ha:PT X a tA):PW X (.BoolOp .Or [a] pos) tA:=by
 intro wh pins s σ H Q I h;refine isTrue_or (thn (ha pins s σ H Q I h) fun c s1 e=>?_)
 cases c with
 |false=>exact isTrue_or_nil e
 |true=>exact e
def jcl (ha:PT X a tA) (hb:PW X (.BoolOp .And (b::rest) pos) tB'):PW X (.BoolOp .And (a::b::rest) pos) (tAnd tA tB'):=by
 intro wh pins s σ H Q I h;refine isTrue_and (thn (ha pins s σ H _ I h) fun c s1 ⟨H1,I1,q1⟩=>?_)
 cases c with
 |true=>exact hb wh pins s1 σ H1 Q I1 q1
 |false=>exact ⟨H1,I1,q1⟩
def jd7 (ha:PT X a tA) (hb:PW X (.BoolOp .Or (b::rest) pos) tB'):PW X (.BoolOp .Or (a::b::rest) pos) (tOr tA tB'):=by
 intro wh pins s σ H Q I h;refine isTrue_or (thn (ha pins s σ H _ I h) fun c s1 ⟨H1,I1,q1⟩=>?_)
 cases c with
 |true=>exact ⟨H1,I1,q1⟩
 |false=>exact hb wh pins s1 σ H1 Q I1 q1
def jcp (ha:PT X a tA):PT X (.UnaryOp .Not a pos) (tNot tA):=by
 intro pins s σ H Q I h;exact isTrue_not (ha pins s σ H (fun c H1=>Q (!c) H1) I h)
def jdZ (ta tb:TE):TE:=fun σ H Q=>ta σ H fun x H1=> ∃c,x= .bl c/\if c=true then tb σ H1 Q else Q (.bl false) H1
def jdO (ta:TE):TE:=fun σ H Q=>ta σ H fun x H1=> ∃c,x= .bl c/\Q (.bl (!c)) H1
def jcz {op} {t:TE} (h:PE X a t):PE X (.BoolOp op [a] pos) t:=fun pins s σ H Q I hw=>BoolOp_one (h pins s σ H Q I hw)
def jcF (ha:PE X a ta) (hb:PE X (.BoolOp .And (b::rest) pos) tb):PE X (.BoolOp .And (a::b::rest) pos) (jdZ ta tb):=by
 intro pins s σ H Q I h;refine BoolOp_and (thn (ha pins s σ H _ I h) fun v s1 ⟨x,H1,I1,r1,q1⟩=>?_);obtain ⟨c,rfl,q1⟩:=q1;cases r1;refine abm ?_
 cases c with
 |true=>exact hb pins s1 σ H1 Q I1 q1
 |false=>exact ⟨.bl false,H1,I1,rfl,q1⟩
def jcA (ha:PE X a ta):PE X (.UnaryOp .Not a pos) (jdO ta):=by
 intro pins s σ H Q I h;refine UnaryOp_ (thn (ha pins s σ H _ I h) fun v s1 ⟨x,H1,I1,r1,q1⟩=>?_);obtain ⟨c,rfl,q1⟩:=q1;cases r1;exact not_of (abm ⟨.bl (!c),H1,I1,rfl,q1⟩)
def tIf (t:TT) (ta tb:TE):TE:=fun σ H Q=>t σ H fun c H1=>if c=true then ta σ H1 Q else tb σ H1 Q
def ki {c:Expr} (hc:PT X c tA) (ha:PE X a ta) (hb:PE X b tb):PE X (.IfExp c a b pos) (tIf tA ta tb):=by
 intro pins s σ H Q I h;refine wpAny_IfExp (thn (hc pins s σ H _ I h) fun d s1 ⟨H1,I1,q1⟩=>?_)
 cases d with
 |true=>exact ha pins s1 σ H1 Q I1 q1
 |false=>exact hb pins s1 σ H1 Q I1 q1
end
def SqL (K:aaa) (H:Hp) (a:Addr) (xs:List V):Prop:=
 Rd H a (.lst xs)\/
  ∃(o:Obj) (its:Array Value) (n:Nat),K.lookup a=some o/\o.cls= .type "list" /\o.dict=none/\o.data= .seq its n/\its.size<=aai/\Vals xs its.toList
def SqT (K:aaa) (H:Hp) (a:Addr) (xs:List V):Prop:=
 Rd H a (.tup xs)\/
  ∃(o:Obj) (its:Array Value) (n:Nat),K.lookup a=some o/\o.cls= .type "tuple" /\o.data= .seq its n/\its.size<=aai/\Vals xs its.toList
def absV:Value->Option V
 | .none=>some .non
 | .bool b=>some (.bl b)
 | .int i _=>some (.int i)
 | .str x _=>some (.str x)
 | .bytes b _=>some (.byt b)
 | .float b _=>some (.flt b)
 | .ref a=>some (.ref a)
 | .type n=>some (.ty n)
 |_=>none
def RelV.abs {x:V} {u:Value} (r:RelV x u):absV u=some x:=by
 cases x with
 |non=>cases r;rfl
 |bl _=>cases r;rfl
 |int _=>obtain ⟨t,rfl⟩:=r;rfl
 |str _=>obtain ⟨t,rfl⟩:=r;rfl
 |byt _=>obtain ⟨t,rfl⟩:=r;rfl
 |flt _=>obtain ⟨t,rfl⟩:=r;rfl
 |ref _=>cases r;rfl
 |ty _=>cases r;rfl
def RelV.inj {x y:V} {u:Value} (r:RelV x u) (q:RelV y u):x=y:=aaI (r.abs.symm.trans q.abs)
theorem Vals.inj: ∀ {xs ys:List V} {us:List Value},Vals xs us->Vals ys us->xs=ys
 |_,_,_,.nil,.nil=>rfl
 |_,_,_,.cons r t,.cons r' t'=>by rw [r.inj r',Vals.inj t t']
section
variable {X:Cx} {pins:List (Addr×Obj)} {σ:St} {H:Hp} {s:aah} {a:Addr} {xs ys:List V}
def SqL.of {K:aaa} (h:H a=some (.lst xs)):SqL K H a xs:= .inl (.inl h)
def SqT.of {K:aaa} (h:H a=some (.tup xs)):SqT K H a xs:= .inl (.inl h)
def Inv.list (I:Inv X pins σ H s) (h:SqL X.K H a xs): ∃its:List Value,Vals xs its/\PlainL s.heap a its.toArray/\xs.length<=aai:=by
 rcases h with h| ⟨o,its,n,hk,hc,hd,hs,hz,r⟩
 · obtain ⟨z,its,n,r,e⟩:=h.ok I.hok;exact ⟨its,r,⟨_,n,e,rfl,rfl,rfl⟩,z⟩
 · refine ⟨its.toList,r,⟨o,n,I.kIn a o hk,hc,hd,by simpa using hs⟩,?_⟩;have e:=r.length;simp only [aaD] at e;omega
def Inv.tuple (I:Inv X pins σ H s) (h:SqT X.K H a xs): ∃its:List Value,Vals xs its/\IsTup s.heap a its.toArray/\xs.length<=aai:=by
 rcases h with h| ⟨o,its,n,hk,hc,hs,hz,r⟩
 · obtain ⟨z,its,r,p⟩:=h.ok I.hok;exact ⟨its,r,p,z⟩
 · refine ⟨its.toList,r,⟨o,I.kIn a o hk,hc,n,by simpa using hs⟩,?_⟩;have e:=r.length;simp only [aaD] at e;omega
def Inv.list_inj (I:Inv X pins σ H s) (h:SqL X.K H a xs) (h':SqL X.K H a ys):xs=ys:=by
 obtain ⟨its,r,⟨o,n,e,_,_,d⟩,_⟩:=I.list h;obtain ⟨its',r',⟨o',n',e',_,_,d'⟩,_⟩:=I.list h';rw [e] at e';cases e';rw [d] at d';injection d' with d1 _;have:its=its':=by simpa using congrArg Array.toList d1
 subst this;exact r.inj r'
def Inv.tuple_inj (I:Inv X pins σ H s) (h:SqT X.K H a xs) (h':SqT X.K H a ys):xs=ys:=by
 obtain ⟨its,r,⟨o,e,_,n,d⟩,_⟩:=I.tuple h;obtain ⟨its',r',⟨o',e',_,n',d'⟩,_⟩:=I.tuple h';rw [e] at e';cases e';rw [d] at d';injection d' with d1 _;have:its=its':=by simpa using congrArg Array.toList d1
 subst this;exact r.inj r'
end
abbrev Cx.wish (X:Cx) (E:T9):Cx:={X with xe:=E}
abbrev Cx.nox (X:Cx):Cx:=X.wish fun _ _=>False
def Cx.Ok.wish {X:Cx} (ok:X.Ok) (E:T9):(X.wish E).Ok:=
 ⟨ok.mod,ok.kind,ok.glob,ok.blt,ok.above,ok.inj,ok.has,ok.cab,ok.hd,ok.frames,ok.stk,ok.exf,ok.bs,ok.bsz,ok.noex,ok.exfs,ok.funs,ok.frf⟩
def Cx.Ok.unwish {X:Cx} {E:T9} (ok:(X.wish E).Ok):X.Ok:=
 ⟨ok.mod,ok.kind,ok.glob,ok.blt,ok.above,ok.inj,ok.has,ok.cab,ok.hd,ok.frames,ok.stk,ok.exf,ok.bs,ok.bsz,ok.noex,ok.exfs,ok.funs,ok.frf⟩
section
variable {X:Cx} {pins:List (Addr×Obj)} {σ:St} {H:Hp} {s:aah} {E:T9}
def Inv.wish (I:Inv X pins σ H s) (E:T9):Inv (X.wish E) pins σ H s:=⟨I.ok.wish E,I.os,I.bare,I.base,I.loc,I.cell,I.free,I.freeC,I.pin,I.hok,I.len⟩
def Inv.unwish (I:Inv (X.wish E) pins σ H s):Inv X pins σ H s:=⟨I.ok.unwish,I.os,I.bare,I.base,I.loc,I.cell,I.free,I.freeC,I.pin,I.hok,I.len⟩
def SP.unwish {D:Ends} {f:Flow} {s':aah} (h:SP (X.wish E) pins D f s'):SP X pins D f s':=by
 cases f with
 |next=>obtain ⟨σ',H',I,q⟩:=h;exact ⟨σ',H',I.unwish,q⟩
 |brk=>obtain ⟨σ',H',I,q⟩:=h;exact ⟨σ',H',I.unwish,q⟩
 |cont=>obtain ⟨σ',H',I,q⟩:=h;exact ⟨σ',H',I.unwish,q⟩
 |ret u=>obtain ⟨v,σ',H',I,r,q⟩:=h;exact ⟨v,σ',H',I.unwish,r,q⟩
def PSs.nox {st:List Stmt} {t:TS} (h:PSs X.nox st t):PSs X st t:=fun pins s σ H D I hw=>
 abT (h pins s σ H D (I.wish _) hw) (fun _ _ q=>q.unwish) fun _ _ z=>acl z
end
section
variable {X:Cx} {st:Stmt} {rest:List Stmt} {t u:TS} {e:Expr} {te:TE} {pos:Pos}
def jdP:TS:=fun D σ H=>D.nx σ H
def tSeq (t u:TS):TS:=fun D σ H=>t {D with nx:=u D} σ H
def Ky:PSs X [] jdP:=fun _ _ σ H _ I h=>acO ⟨σ,H,I,h⟩
def Xg (h1:PS X st t) (h2:PSs X rest u):PSs X (st::rest) (tSeq t u):=by
 intro pins s σ H D I h;refine ac9 (thn (h1 pins s σ H {D with nx:=u D} I h) fun f s1 q=>?_)
 cases f with
 |next=>
  obtain ⟨σ',H',I',q⟩:=q;exact h2 pins s1 σ' H' D I' q
 |ret v=>exact q
 |brk=>exact q
 |cont=>exact q
def Kx (h1:PS X st t):PSs X [st] t:=by
 intro pins s σ H D I h;refine ac9 (thn (h1 pins s σ H D I h) fun f s1 q=>?_)
 cases f with
 |next=>exact acO q
 |ret v=>exact q
 |brk=>exact q
 |cont=>exact q
def Inv.quiet {pins:List (Addr×Obj)} {σ:St} {H:Hp} {s:aah} (I:Inv X pins σ H s):interactive X.env=false:=by simp [interactive,I.ok.kind]
def jdU (te:TE):TS:=fun D σ H=>te σ H fun _ H1=>D.nx σ H1
def Qg (he:PE X e te) (hs:abY e none pos.line X.env=pure false:=by rfl):PS X (.Expr e pos) (jdU te):=by
 intro pins s σ H D I h;exact wpAny_Expr_any (thn (he pins s σ H _ I h) fun v s1 ⟨x,H1,I1,r1,q1⟩=>⟨σ,H1,I1,q1⟩) I.quiet hs
def tRet (te:TE):TS:=fun D σ H=>te σ H D.rt
def KB (he:PE X e te):PS X (.Return (some e) pos) (tRet te):=by
 intro pins s σ H D I h;exact wpAny_Return_some (thn (he pins s σ H _ I h) fun v s1 ⟨x,H1,I1,r1,q1⟩=>⟨x,σ,H1,I1,r1,q1⟩)
def tIfS (c:TT) (t u:TS):TS:=fun D σ H=>c σ H fun b H1=>if b=true then t D σ H1 else u D σ H1
def jcq {c:Expr} {a b:List Stmt} {tc:TT} (hc:PT X c tc) (ha:PSs X a t) (hb:PSs X b u):PS X (.If c a b pos) (tIfS tc t u):=by
 intro pins s σ H D I h;refine wpAny_If (thn (hc pins s σ H _ I h) fun d s1 ⟨H1,I1,q1⟩=>?_)
 cases d with
 |true=>exact ha pins s1 σ H1 D I1 q1
 |false=>exact hb pins s1 σ H1 D I1 q1
def jbZ:TS:=fun _ _ _=>False
def Kz {sts:List Stmt}:PSs X sts jbZ:=fun _ _ _ _ _ _ h=>h.elim
end
abbrev TG:=V->St->Hp->(St->Hp->Prop)->Prop
abbrev TGs:=List V->St->Hp->(St->Hp->Prop)->Prop
def PG (X:Cx) (target:Expr) (t:TG):Prop:=
 ∀(pins:List (Addr×Obj)) (s:aah) (σ:St) (H:Hp) (v:V) (u:Value) (Q:St->Hp->Prop),Inv X pins σ H s->RelV v u->t v σ H Q->
  wpAny (model X.prog X.w) X.A (assign target X.env u) (fun _ s'=> ∃σ' H',Inv X pins σ' H' s'/\Q σ' H') X.xe s
def PGs (X:Cx) (ts:List Expr) (t:TGs):Prop:=
 ∀(pins:List (Addr×Obj)) (s:aah) (σ:St) (H:Hp) (vs:List V) (us:List Value) (Q:St->Hp->Prop),Inv X pins σ H s->Vals vs us->t vs σ H Q->
  wpAny (model X.prog X.w) X.A (assignInOrder ((ab4 ts X.env).map (·.2)) us) (fun _ s'=> ∃σ' H',Inv X pins σ' H' s'/\Q σ' H') X.xe s
abbrev TSet:=V->V->V->Hp->(Hp->Prop)->Prop
def PSet (X:Cx) (t:TSet):Prop:=
 ∀(pins:List (Addr×Obj)) (s:aah) (σ:St) (H:Hp) (o i v:V) (ov iv u:Value) (Q:Hp->Prop),Inv X pins σ H s->RelV o ov->RelV i iv->RelV v u->t o i v H Q->
  wpAny (model X.prog X.w) X.A (setItem ov iv u) (fun _ s'=> ∃H',Inv X pins σ H' s'/\Q H') X.xe s
abbrev TIp:=V->V->Hp->VK->Prop
def PIp (X:Cx) (op:ael) (t:TIp):Prop:=
 ∀(pins:List (Addr×Obj)) (s:aah) (σ:St) (H:Hp) (x y:V) (v u:Value) (Q:VK),Inv X pins σ H s->RelV x v->RelV y u->t x y H Q->
  wpAny (model X.prog X.w) X.A (inplaceOp op v u) (EP X pins σ Q) X.xe s
section
variable {X:Cx} {pos:Pos}
def jdk (i:Nat):TG:=fun v σ H Q=>Q (σ.set i (some v)) H
def jav {i:Nat} {x:Str} (hN:X.N.Nodup) (hi:X.N[i]?=some x) (hx:Loc X.env.scope x) (hf:T6 X x:=by first|exact .inl rfl|exact .inr rfl|assumption):PG X (.Name x pos) (jdk i):=by
 intro pins s σ H v u Q I r h;exact wpAny_assign_Name (J7 I hN hi hx r (fun s' I'=>⟨_,H,I',h⟩) hf)
def gNil:TGs:=fun vs σ H Q=>vs=[]/\Q σ H
def jes (t:TG) (u:TGs):TGs:=fun vs σ H Q=> ∃v r,vs=v::r/\t v σ H fun σ' H'=>u r σ' H' Q
def jau:PGs X [] gNil:=by
 intro pins s σ H vs us Q I r h;obtain ⟨e,h⟩:=h;subst e;cases r;exact assignInOrder_nil ⟨σ,H,I,h⟩
def Xj {e:Expr} {es:List Expr} {t:TG} {u:TGs} (h1:PG X e t) (h2:PGs X es u)
  (hs:(ab4 (e::es) X.env).map (·.2)=assign e X.env::(ab4 es X.env).map (·.2):=by rfl):PGs X (e::es) (jes t u):=by
 intro pins s σ H vs us Q I r h;obtain ⟨v,vr,e1,h⟩:=h;subst e1
 cases r with
 |cons r rr=>
  rw [hs];refine assignInOrder_cons (thn (h1 pins s σ H _ _ _ I r h) fun _ s1 ⟨σ1,H1,I1,q1⟩=>?_);exact h2 pins s1 σ1 H1 _ _ Q I1 rr q1
def gTup (K:aaa) (n:Nat) (t:TGs):TG:=fun v σ H Q=> ∃a xs,v= .ref a/\SqT K H a xs/\xs.length=n/\t xs σ H Q
def jcu {es:List Expr} {k:Nat} {t:TGs} {n:Nat} (hc:X.calm=true) (h:PGs X es t)
  (hn:(ab4 es X.env).length=n:=by rfl) (hst:(ab4 es X.env).findIdx? (·.1)=none:=by rfl):PG X (.Tuple es k pos) (gTup X.K n t):=by
 intro pins s σ H v u Q I r hw;obtain ⟨a,xs,e1,hq,hl,hw⟩:=hw;subst e1;cases r;obtain ⟨its,rv,ht,hz⟩:=I.tuple hq;refine assign_Tuple_tuple (I.ok.hd hc) ht (by simp [hn,←hl,rv.length]) hst fun h' hx=>?_
 have I1:Inv X pins σ H {s with heap:=h'}:=I.kept (t':=s.toks) fun b o e=>hx b o (aaJ (aas e)) e
 exact h pins _ σ H xs _ Q I1 (by simpa using rv) hw
def gSub (to ti:TE) (t:TSet):TG:=fun v σ H Q=>to σ H fun o H1=>ti σ H1 fun i H2=>t o i v H2 fun H3=>Q σ H3
def jcv {o i:Expr} {to ti:TE} {t:TSet} (ho:PE X o to) (hi:PE X i ti) (hs:PSet X t)
  (ha: ∀v,assign (.Subscript o i pos) X.env v=(do
   let ov←adV [v] (eval o X.env)
   let iv←adV [v,ov] (eval i X.env)
   standAt pos
   adV [v,ov,iv] (setItem ov iv v)
   release [v,ov,iv] []):=by intro _;rfl):PG X (.Subscript o i pos) (gSub to ti t):=by
 intro pins s σ H v u Q I r h;rw [ha];refine aab (aba (thn (ho pins s σ H _ I h) fun ov s1 ⟨x,H1,I1,r1,q1⟩=>?_));refine aab (aba (thn (hi pins s1 σ H1 _ I1 q1) fun iv s2 ⟨y,H2,I2,r2,q2⟩=>?_));refine aab (wpAny_standAt (aab (aba (thn (hs pins s2 σ H2 x y v ov iv u _ I2 r1 r2 r q2) fun _ s3 ⟨H3,I3,q3⟩=>?_))));exact wpAny_release ⟨σ,H3,I3,q3⟩
def tAsg (te:TE) (g:TG):TS:=fun D σ H=>te σ H fun x H1=>g x σ H1 D.nx
def v0 {tg e:Expr} {te:TE} {g:TG} (he:PE X e te) (hg:PG X tg g) (hs:swapsWithSole [tg] e pos.line X.env=pure false:=by rfl) (hw:swappedStores [tg] e X.env=pure none:=by rfl)
  (h1:(ab4 [tg] X.env).map (·.2)=[assign tg X.env]:=by rfl):PS X (.Assign [tg] e pos) (tAsg te g):=by
 intro pins s σ H D I h;refine wpAny_Assign_stores (thn (he pins s σ H _ I h) fun v s1 ⟨x,H1,I1,r1,q1⟩=>?_) hs hw;rw [h1];exact thn (hg pins s1 σ H1 x v _ I1 r1 q1) fun _ s2 q=>q
def vZ {i:Nat} {x:Str} {e:Expr} {te:TE} {pos':Pos} (hN:X.N.Nodup) (hi:X.N[i]?=some x) (hx:Loc X.env.scope x) (he:PE X e te) (hs:abY e (some (.Name x pos')) pos.line X.env=pure false:=by rfl) (hf:T6 X x:=by first|exact .inl rfl|exact .inr rfl|assumption):
  PS X (.Assign [.Name x pos'] e pos) (tAsg te (jdk i)):=by
 intro pins s σ H D I h;refine wpAny_Assign_Name (thn (he pins s σ H _ I h) fun v s1 ⟨y,H1,I1,r1,q1⟩=>?_) hs;exact J7 I1 hN hi hx r1 (fun s2 I2=>⟨_,H1,I2,q1⟩) hf
def tAug (i:Nat) (te:TE) (ti:TIp):TS:=fun D σ H=> ∃x,σ[i]?=some (some x)/\te σ H fun y H1=>ti x y H1 fun z H2=>D.nx (σ.set i (some z)) H2
def jct {i:Nat} {x:Str} {e:Expr} {te:TE} {op:ael} {ti:TIp} {pos':Pos} (hN:X.N.Nodup) (hi:X.N[i]?=some x) (hx:Loc X.env.scope x) (he:PE X e te) (ho:PIp X op ti) (hf:T6 X x:=by first|exact .inl rfl|exact .inr rfl|assumption):
   PS X (.AugAssign (.Name x pos') op e pos) (tAug i te ti):=by
 intro pins s σ H D I h;obtain ⟨v,e1,h⟩:=h;obtain ⟨m,hn,hl⟩:=I.loc;have vis:Vis X.env.scope x:=by rcases hx with k|k;exact .inl k;exact .inr (.inl k)
 obtain ⟨u,r,l⟩:=hl i x v hi e1 vis;refine wpAny_AugAssign_Name ?_
 have go:wpAny (model X.prog X.w) X.A (eval e X.env) (fun w s₂=>wpAny (model X.prog X.w) X.A (inplaceOp op u w) (fun r s₃=>wpAny (model X.prog X.w) X.A (storeName X.env x r) (fun _=>SP X pins D .next) X.xe s₃) X.xe s₂) X.xe s:=by
   refine thn (he pins s σ H _ I h) fun w s1 ⟨y,H1,I1,r1,q1⟩=>?_
   refine thn (ho pins s1 σ H1 v y u w _ I1 r r1 q1) fun z s2 ⟨zv,H2,I2,r2,q2⟩=>?_
   exact J7 I2 hN hi hx r2 (fun s3 I3=>⟨_,H2,I3,q2⟩) hf
 rcases l with ⟨hk,hm⟩| ⟨hk,c,hc,hcell⟩
 · exact adZ I.ok.kind hk hn hm go
 · rcases hk with hk|hk
   · exact ad9 I.ok.kind hk hc hcell go
   · rcases hx with k|k
     · have:X.env.scope.names.lookup x=some .free:=hk;rw [k] at this;cases this
     · have:X.env.scope.names.lookup x=some .free:=hk;rw [k] at this;cases this
def ipI (f:Int->Int->Int):TIp:=fun x y H Q=> ∃i j,x= .int i/\y= .int j/\Q (.int (f i j)) H
def jdb:PIp X .Add (ipI fun i j=>i+j):=by
 intro pins s σ H x y v u Q I r1 r2 h;obtain ⟨i,j,e1,e2,q⟩:=h;subst e1;subst e2;obtain ⟨t,rfl⟩:=r1;obtain ⟨t',rfl⟩:=r2;exact iadd_int ⟨.int _,H,I.tok _,⟨_,rfl⟩,q⟩
def jbY (c:TT) (tb:TS):TS:=fun D σ H=> ∃W:Nat->St->Hp->Prop,(∃m,W m σ H)/\ ∀m σ H,W m σ H->
 c σ H fun b H1=>if b=true then∃N:St->Hp->Prop,(∀σ' H',N σ' H'-> ∃m',m'<m/\W m' σ' H')/\tb {D with nx:=N,ct:=N,bk:=D.nx} σ H1 else D.nx σ H1
def U9 {c:Expr} {body:List Stmt} {tc:TT} {tb:TS} (hp:PassesOwn (model X.prog X.w) X.A X.env X.xe) (hc:PT X c tc) (hb:PSs X body tb):PS X (.While c body [] pos) (jbY tc tb):=by
 intro pins s σ H D I h;obtain ⟨W,⟨m0,w0⟩,turn⟩:=h;refine wpAny_While (codeAny_whileLoop (fun n s'=> ∃σ' H',Inv X pins σ' H' s'/\W n σ' H') ?_ m0 ⟨σ,H,I,w0⟩);rintro n s1 ⟨σ1,H1,I1,w1⟩;refine acy hp (thn (hc pins s1 σ1 H1 _ I1 (turn n σ1 H1 w1)) fun b s2 ⟨H2,I2,q2⟩=>?_)
 cases b with
 |true=>
  obtain ⟨N,hN,q2⟩:=q2;rw [if_pos rfl];refine acy hp (thn (hb pins s2 σ1 H2 _ I2 q2) fun f s3 q3=>?_)
  cases f with
  |next=>
   obtain ⟨σ3,H3,I3,n3⟩:=q3;obtain ⟨m',hm,w3⟩:=hN σ3 H3 n3;exact ⟨m',hm,σ3,H3,I3,w3⟩
  |cont=>
   obtain ⟨σ3,H3,I3,n3⟩:=q3;obtain ⟨m',hm,w3⟩:=hN σ3 H3 n3;exact ⟨m',hm,σ3,H3,I3,w3⟩
  |brk=>exact q3
  |ret v=>exact q3
 |false=>
  rw [if_neg aaH];exact acO ⟨σ1,H2,I2,q2⟩
end
structure It where
 go:Nat->Hp->Prop
 yld:Nat->Hp->V->Hp->Prop
 stop:Nat->Hp->Prop
def FpOk (X:Cx) (pins:List (Addr×Obj)) (H:Hp) (b:Addr):Prop:=
 H b=none/\b≠X.env.locals/\b∉X.fs/\(b∈X.ex\/X.s₀.heap.objs.size<=b)/\(∀x c,X.env.cells.lookup x=some c->c≠b)/\ ∀p∈X.pn++pins,p.1≠b
def Inv.fpOk {X:Cx} {pins:List (Addr×Obj)} {σ:St} {H H':Hp} {s:aah} {b:Addr} (I:Inv X pins σ H s) (hb:s.heap.objs.size<=b) (hn:H' b=none):FpOk X pins H' b:=by
 refine ⟨hn,Nat.ne_of_gt (aaC I.lt hb),I.nofs hb,.inr (aaF I.sz hb),fun x c e z=>?_,fun p hp z=>?_⟩
 · obtain ⟨v,q⟩:=I.cell x c e;exact absurd (aaC q.lt (by rw [z];exact hb)) (ab0 _)
 · exact absurd (aaC (aas (I.pin p hp).1) (by rw [z];exact hb)) (ab0 _)
structure Turn (P:aaL) (w:World) (K:aaa) (tg:Expr) (J:It) (fp:List Addr) (it:Addr) (tn:Nat->Heap->Prop):Prop where
 mem:it∈fp
 obj: ∀i h,tn i h-> ∀b∈fp,∃o,h.get? b=some o/\ ∀v,o.data≠ .cell v
 keep: ∀i h h',tn i h->(∀b∈fp,∀o,h.get? b=some o->h'.get? b=some o)->tn i h'
 item: ∀(X:Cx),X.prog=P->X.w=w->X.K=K->X.calm=true-> ∀(i:Nat) (pins:List (Addr×Obj)) (s:aah) (σ:St) (H:Hp) (E:T9),Inv X pins σ H s->(∀b∈fp,FpOk X pins H b)->tn i s.heap->J.go i H->
  wpAny (model P w) X.A (pyNext (.ref it)) (fun r s1=> ∃u,r=some u/\
   wpAny (model P w) X.A (aea tg (.ref it) u) (fun _ s2=> ∃x H',Inv X pins σ H' s2/\RelV x u/\J.yld i H x H'/\tn (i+1) s2.heap/\ ∀b∈fp,H' b=none) E s1) E s
 done: ∀(X:Cx),X.prog=P->X.w=w->X.K=K->X.calm=true-> ∀(i:Nat) (pins:List (Addr×Obj)) (s:aah) (σ:St) (H:Hp) (E:T9),Inv X pins σ H s->(∀b∈fp,FpOk X pins H b)->tn i s.heap->J.stop i H->
  wpAny (model P w) X.A (pyNext (.ref it)) (fun r s1=>r=none/\Inv X pins σ H s1) E s
 self: ∀(A:aaZ) (i:Nat) (s:aah) (Q:T9) (E:T9),tn i s.heap->Q (.ref it) s->wpAny (model P w) A (pyIter (.ref it)) Q E s
abbrev TI:=St->Hp->(It->Hp->Prop)->Prop
def PIE (X:Cx) (pins:List (Addr×Obj)) (σ:St) (tg:Expr) (R:It->Hp->Prop) (itv:Value) (s2:aah):Prop:=
 ∃(it:Addr) (fp:List Addr) (tn:Nat->Heap->Prop) (J:It) (H':Hp),itv= .ref it/\Inv X pins σ H' s2/\Turn X.prog X.w X.K tg J fp it tn/\tn 0 s2.heap/\(∀b∈fp,FpOk X pins H' b)/\R J H'
def PI (X:Cx) (tg iter:Expr) (wi:TI):Prop:=
 ∀(pins:List (Addr×Obj)) (s:aah) (σ:St) (H:Hp) (R:It->Hp->Prop),Inv X pins σ H s->wi σ H R->
  wpAny (model X.prog X.w) X.A (eval iter X.env) (fun v s1=>wpAny (model X.prog X.w) X.A (pyIter v) (PIE X pins σ tg R) X.xe s1) X.xe s
def VN {M : Model} {A : aaZ} {E : Value -> aah -> Prop} {s : aah} {tg : Expr} {it : Addr} {u : Value} {o : Obj} {n : String} {vs : Array Value} {Q : Unit -> aah -> Prop} (ho : s.heap.get? it = some o) (hc : o.cls = .type n) (hd : o.data = .fields vs)
    (hn : ["enumerate", "zip", "dict_itemiterator", "dict_reverseitemiterator", "odict_iterator", "itertools.zip_longest", "itertools.pairwise"].contains n = false) (hQ : Q () s) : wpAny M A (aea tg (.ref it) u) Q E s := by
  unfold aea
  cases tg <;> first
    | exact aaf hQ
    | (cases u <;> first
        | exact aaf hQ
        | (refine aab (wpAny_load ho ?_)
           rw [hc, hd]
           show wpAny M A (if (["enumerate", "zip", "dict_itemiterator", "dict_reverseitemiterator", "odict_iterator", "itertools.zip_longest", "itertools.pairwise"].contains n && vs[0]? == some (rawInt _)) = true then _ else _) Q E s
           rw [if_neg (by intro h; rw [hn, Bool.false_and] at h; cases h)]
           exact aaf hQ))
def Itl (K:aaa) (a:Addr):It:=
 ⟨fun i H=> ∃xs x,SqL K H a xs/\xs[i]?=some x,fun i H x H'=>H'=H/\ ∀xs,SqL K H a xs->xs[i]?=some x,fun i H=> ∃xs,SqL K H a xs/\xs.length<=i⟩
def Itt (K:aaa) (a:Addr):It:=
 ⟨fun i H=> ∃xs x,SqT K H a xs/\xs[i]?=some x,fun i H x H'=>H'=H/\ ∀xs,SqT K H a xs->xs[i]?=some x,fun i H=> ∃xs,SqT K H a xs/\xs.length<=i⟩
def Itr (lo:Int) (n:Nat):It:=⟨fun i _=>i<n,fun i H x H'=>H'=H/\x= .int (lo+i),fun i _=>n<=i⟩
def Q4 {P:aaL} {w:World} {K:aaa} {tg:Expr} (a it:Addr):Turn P w K tg (Itl K a) [it] it (fun i h=>h.IsListIter it a i) where
 mem:=by simp
 obj:=fun i h st b hb=>by
  have e:b=it:=by simpa using hb
  subst e;obtain ⟨o,e,c,d⟩:=st;exact ⟨o,e,fun v z=>by rw [d] at z;cases z⟩
 keep:=fun i h h' st k=>st.at fun o e=>k it (by simp) o e
 item:=by
  intro X hP hw hK hc i pins s σ H E I hf st hg;subst hP hw hK;obtain ⟨xs,x,hq,hx⟩:=hg;obtain ⟨its,rv,p,hz⟩:=I.list hq;obtain ⟨u,hu,ru⟩:=rv.get hx;obtain ⟨f0,f1,f2,f3,f4,f5⟩:=hf it (by simp);refine wpAny_pyNext_list_item st p.isList (x:=u) (by simpa using hu) fun h' st' sb=>?_
  have I1:Inv X pins σ H {s with heap:=h'}:=I.turned (t':=s.toks) (fun b o hb e=>(sb.2 b hb).trans e) f0 f1 f3 f4 f5;obtain ⟨o,e,c,d⟩:=id st';exact ⟨u,rfl,VN (s:={s with heap:=h'}) e c d (by decide) ⟨x,H,I1,ru,⟨rfl,fun ys hy=>by rw [I.list_inj hy hq];exact hx⟩,st',fun b hb=>(hf b hb).1⟩⟩
 done:=by
  intro X hP hw hK hc i pins s σ H E I hf st hg;subst hP hw hK;obtain ⟨xs,hq,hx⟩:=hg;obtain ⟨its,rv,p,hz⟩:=I.list hq;obtain ⟨f0,f1,f2,f3,f4,f5⟩:=hf it (by simp);have hl:=rv.length;exact wpAny_pyNext_list_end (I.ok.hd hc) st p.isList (by simp;omega) fun h' eb=>⟨rfl,I.turned (t':=s.toks) (fun b o hb e=>eb b o hb e) f0 f1 f3 f4 f5⟩
 self:=fun _ _ _ _ _ st h=>wpAny_pyIter_listiter st h
def X9 {P:aaL} {w:World} {K:aaa} {tg:Expr} (a it:Addr):Turn P w K tg (Itt K a) [it] it (fun i h=>h.IsTupleIter it a i) where
 mem:=by simp
 obj:=fun i h st b hb=>by
  have e:b=it:=by simpa using hb
  subst e;obtain ⟨o,e,c,d⟩:=st;exact ⟨o,e,fun v z=>by rw [d] at z;cases z⟩
 keep:=fun i h h' st k=>st.at fun o e=>k it (by simp) o e
 item:=by
  intro X hP hw hK hc i pins s σ H E I hf st hg;subst hP hw hK;obtain ⟨xs,x,hq,hx⟩:=hg;obtain ⟨its,rv,p,hz⟩:=I.tuple hq;obtain ⟨u,hu,ru⟩:=rv.get hx;obtain ⟨f0,f1,f2,f3,f4,f5⟩:=hf it (by simp);refine wpAny_pyNext_tuple_item st (show s.heap.IsTuple a its.toArray from p) (x:=u) (by simpa using hu) fun h' st' sb=>?_
  have I1:Inv X pins σ H {s with heap:=h'}:=I.turned (t':=s.toks) (fun b o hb e=>(sb.2 b hb).trans e) f0 f1 f3 f4 f5;obtain ⟨o,e,c,d⟩:=id st';exact ⟨u,rfl,VN (s:={s with heap:=h'}) e c d (by decide) ⟨x,H,I1,ru,⟨rfl,fun ys hy=>by rw [I.tuple_inj hy hq];exact hx⟩,st',fun b hb=>(hf b hb).1⟩⟩
 done:=by
  intro X hP hw hK hc i pins s σ H E I hf st hg;subst hP hw hK;obtain ⟨xs,hq,hx⟩:=hg;obtain ⟨its,rv,p,hz⟩:=I.tuple hq;obtain ⟨f0,f1,f2,f3,f4,f5⟩:=hf it (by simp);have hl:=rv.length;exact wpAny_pyNext_tuple_end (I.ok.hd hc) st (show s.heap.IsTuple a its.toArray from p) (by simp;omega) fun h' eb=>⟨rfl,I.turned (t':=s.toks) (fun b o hb e=>eb b o hb e) f0 f1 f3 f4 f5⟩
 self:=fun _ _ _ _ _ st h=>wpAny_pyIter_tupleiter st h
def Ya {P:aaL} {w:World} {K:aaa} {tg:Expr} (it:Addr) (lo:Int) (n:Nat):Turn P w K tg (Itr lo n) [it] it (fun i h=>IsRangeIter h it (lo+(i:Nat)*1) ((n:Int)-(i:Nat)) 1) where
 mem:=by simp
 obj:=fun i h st b hb=>by
  have e:b=it:=by simpa using hb
  subst e
  exact ⟨_,st,fun v z=>by
   have z':Data.fields _=Data.cell v:=z
   cases z'⟩
 keep:=fun i h h' st k=>k it (by simp) _ st
 item:=by
  intro X hP hw hK hc i pins s σ H E I hf st hg;subst hP hw hK;obtain ⟨f0,f1,f2,f3,f4,f5⟩:=hf it (by simp);have W:=Walks.range (prog:=X.prog) (w:=X.w) (I.ok.hd hc) it lo 1 n;refine W.item i s _ _ hg st fun v h' tk hv st' kk=>?_
  obtain ⟨t,rfl⟩:=hv;have I1:Inv X pins σ H {s with heap:=h',toks:=tk}:=I.turned (fun b o hb e=>kk b o (by simpa using hb) e) f0 f1 f3 f4 f5;refine ⟨_,rfl,VN (s:={s with heap:=h',toks:=tk}) (n:= "range_iterator") st' rfl rfl (by decide) ⟨.int (lo+i),H,I1,⟨t,?_⟩,⟨rfl,rfl⟩,st',fun b hb=>(hf b hb).1⟩⟩;rw [Int.mul_one]
 done:=by
  intro X hP hw hK hc i pins s σ H E I hf st hg;subst hP hw hK;obtain ⟨f0,f1,f2,f3,f4,f5⟩:=hf it (by simp);exact wpAny_pyNext_range_end (I.ok.hd hc) st (by have:n<=i:=hg;omega) fun h' eb=>⟨rfl,I.turned (t':=s.toks) (fun b o hb e=>eb b o hb e) f0 f1 f3 f4 f5⟩
 self:=fun _ _ _ _ _ st h=>wpAny_pyIter_rangeiter st h
section
variable {X:Cx} {tg:Expr}
def U4 {pins:List (Addr×Obj)} {σ:St} {H:Hp} {s:aah} {R:It->Hp->Prop} {E:T9} {lo hi:Int} {t u v:Tok} {tk:Nat} (I:Inv X pins σ H s) (h1: -(2^62)<=lo) (h2:lo<2^62) (h3: -(2^62)<=hi) (h4:hi<2^62)
   (q:R (Itr lo (hi-lo).toNat) H):wpAny (model X.prog X.w) X.A (pyIter (.ref s.heap.objs.size)) (PIE X pins σ tg R) E {s with heap:=s.heap.push {cls:= .type "range",data:= .fields #[.int lo t,.int hi u,.int 1 v]},toks:=tk}:=by
 refine wpAny_pyIter_range (IsRange.new ..) (small_one h1 h2 h3 h4) ?_;have I1:Inv X pins σ H {s with heap:=s.heap.push {cls:= .type "range",data:= .fields #[.int lo t,.int hi u,.int 1 v]},toks:=tk}:=I.kept fun b o e=>aad _ e
 refine ⟨(s.heap.push {cls:= .type "range",data:= .fields #[.int lo t,.int hi u,.int 1 v]}).objs.size,[(s.heap.push {cls:= .type "range",data:= .fields #[.int lo t,.int hi u,.int 1 v]}).objs.size],_,_,H,rfl,
   I1.kept (t':=tk) fun b o e=>aad _ e,Ya _ lo (hi-lo).toNat,?_,fun b hb=>?_,q⟩
 · have e1:lo+((0:Nat):Int)*1=lo:=by simp
   have e2:(((hi-lo).toNat:Nat):Int)-((0:Nat):Int)=Builtin.Range.rangeSize lo hi 1:=by rw [rangeSize_one];split<;>omega
   show IsRangeIter _ _ (lo+((0:Nat):Int)*1) ((((hi-lo).toNat:Nat):Int)-((0:Nat):Int)) 1;rw [e1,e2];exact aan _ rfl
 · have e:b=(s.heap.push {cls:= .type "range",data:= .fields #[.int lo t,.int hi u,.int 1 v]}).objs.size:=by simpa using hb
   subst e;exact I1.fpOk (aae _) (I1.hok.fresh (aae _))
def jep (ta:TA):TI:=fun σ H R=>ta σ H fun vs H1=> ∃j:Int,vs=[.int j]/\ -(2^62)<=j/\j<2^62/\R (Itr 0 j.toNat) H1
def KJ {a:Expr} {ta:TA} {p pos:Pos} (hg:Gl X "range") (hm:X.mg "range" =none) (ha:PA X [a] ta) (hs:aao [a] X.env=[(false,eval a X.env)]:=by rfl):PI X tg (.Call (.Name "range" p) [a] [] pos) (jep ta):=by
 intro pins s σ H R I h;refine Call_ (JQ I hg hm boot_range (ab9 (thn (ha pos pins s σ H _ I h) fun us s1 ⟨vs,H1,I1,r1,q1⟩=>?_) hs rfl));obtain ⟨j,e,q1,q2,q⟩:=q1;subst e
 cases r1 with
 |cons r rr=>
  cases rr;obtain ⟨t,rfl⟩:=r;exact call_range_1 (U4 I1 (by omega) (by omega) q1 q2 (by simpa using q))
def tFor (wi:TI) (g:TG) (tb:TS):TS:=fun D σ H=>wi σ H fun J H1=> ∃W:Nat->Nat->St->Hp->Prop,(∃m,W 0 m σ H1)/\ ∀i m σ H,W i m σ H->
 (J.stop i H/\D.nx σ H)\/(J.go i H/\ ∃N:St->Hp->Prop,(∀σ' H',N σ' H'-> ∃m',m'<m/\W (i+1) m' σ' H')/\ ∀x H',J.yld i H x H'->g x σ H' fun σ2 H2=>tb {D with nx:=N,ct:=N,bk:=D.nx} σ2 H2)
def Zg (fp:List Addr) (h:Heap):List (Addr×Obj):=fp.filterMap fun b=>(h.get? b).map fun o=>(b,o)
def xb {fp:List Addr} {h:Heap} {b:Addr} {o:Obj} (hb:b∈fp) (e:h.get? b=some o):(b,o)∈Zg fp h:=aem.mpr ⟨b,hb,by rw [e];rfl⟩
def K5 {fp:List Addr} {h:Heap} {p:Addr×Obj} (hp:p∈Zg fp h):p.1∈fp/\h.get? p.1=some p.2:=by
 obtain ⟨b,hb,e⟩:=aem.mp hp
 cases q:h.get? b with
 |none=>rw [q] at e;cases e
 |some o=>
  rw [q] at e;have e':(b,o)=p:=aaI e;subst e';exact ⟨hb,q⟩
def Inv.pinned {pins:List (Addr×Obj)} {σ:St} {H:Hp} {s:aah} {fp:List Addr} (I:Inv X pins σ H s) (hf: ∀b∈fp,FpOk X pins H b) (ho: ∀b∈fp,∃o,s.heap.get? b=some o/\ ∀v,o.data≠ .cell v):Inv X (pins++Zg fp s.heap) σ H s:=
 I.pins_of fun p hp=>(aa8.mp hp).elim (fun z=>I.pin p (aaR _ z)) fun z=>by
  obtain ⟨hb,e⟩:=K5 z;obtain ⟨f0,f1,f2,_⟩:=hf p.1 hb;obtain ⟨o,e',d⟩:=ho p.1 hb;rw [e] at e';cases e';exact ⟨e,f0,f1,f2,d⟩
def Inv.unpinned {pins pl:List (Addr×Obj)} {σ:St} {H:Hp} {s:aah} (I:Inv X (pins++pl) σ H s):Inv X pins σ H s:=I.pins_of fun p hp=>I.pin p (aaR _ (acx _ hp))
def jcr {iter:Expr} {body:List Stmt} {wi:TI} {g:TG} {tb:TS} {pos:Pos} (hp:PassesOwn (model X.prog X.w) X.A X.env X.xe) (hc:X.calm=true) (hi:PI X tg iter wi) (hg:PG X tg g) (hb:PSs X body tb)
   (hs: ∀x,acz iter X.env x=pure x:=by intro _;rfl):PS X (.For tg iter body [] pos) (tFor wi g tb):=by
 intro pins s σ H D I h;refine wpAny_For (thn (hi pins s σ H _ I h) fun v s1 h1=>thn h1 fun itv s2 h2=>?_) hs;obtain ⟨it,fp,tn,J,H2,e,I2,T,st2,f2,W,⟨m0,w0⟩,turn⟩:=h2;subst e;have stat: ∀ {H':Hp},(∀b∈fp,H' b=none)-> ∀b∈fp,FpOk X pins H' b:=fun hn b hb=>⟨hn b hb,(f2 b hb).2⟩
 refine codeAny_forLoop_any (fun n s'=> ∃i σ' H',Inv X pins σ' H' s'/\tn i s'.heap/\(∀b∈fp,H' b=none)/\W i n σ' H') ?_ m0 ⟨0,σ,H2,I2,st2,fun b hb=>(f2 b hb).1,w0⟩;rintro n s3 ⟨i,σ3,H3,I3,st3,fr3,w3⟩;rcases turn i n σ3 H3 w3 with ⟨stop,qn⟩| ⟨go,N,hN,step⟩
 · refine acy hp (thn (T.done X rfl rfl rfl hc i pins s3 σ3 H3 X.xe I3 (stat fr3) st3 stop) fun r s4 ⟨hr,I4⟩=>?_);subst hr;exact acO ⟨σ3,H3,I4,qn⟩
 · refine acy hp (thn (T.item X rfl rfl rfl hc i pins s3 σ3 H3 X.xe I3 (stat fr3) st3 go) fun r s4 ⟨u,hr,h4⟩=>?_);subst hr;refine acy hp (thn h4 fun _ s5 ⟨x,H5,I5,r5,y5,st5,fr5⟩=>?_);have I5':=I5.pinned (stat fr5) (T.obj _ _ st5);refine acy hp (thn (hg _ s5 σ3 H5 x u _ I5' r5 (step x H5 y5)) fun _ s6 ⟨σ6,H6,I6,q6⟩=>?_);refine acy hp (thn (hb _ s6 σ6 H6 _ I6 q6) fun f s7 q7=>?_)
   have again: ∀ {σ7:St} {H7:Hp},Inv X (pins++Zg fp s5.heap) σ7 H7 s7->N σ7 H7-> ∃m,m<n/\ ∃i σ' H',Inv X pins σ' H' s7/\tn i s7.heap/\(∀b∈fp,H' b=none)/\W i m σ' H':=fun {σ7 H7} I7 n7=>by
    obtain ⟨m',hm,w7⟩:=hN σ7 H7 n7;refine ⟨m',hm,i+1,σ7,H7,I7.unpinned,T.keep _ _ _ st5 fun b hb o e=>(I7.pin (b,o) (aaR _ (aaR _ (xb hb e)))).1,fun b hb=>?_,w7⟩;obtain ⟨o,e,d⟩:=T.obj _ _ st5 b hb;exact (I7.pin (b,o) (aaR _ (aaR _ (xb hb e)))).2.1
   cases f with
   |next=>obtain ⟨σ7,H7,I7,n7⟩:=q7;exact again I7 n7
   |cont=>obtain ⟨σ7,H7,I7,n7⟩:=q7;exact again I7 n7
   |brk=>obtain ⟨σ7,H7,I7,q7⟩:=q7;exact ⟨σ7,H7,I7.unpinned,q7⟩
   |ret v=>obtain ⟨x7,σ7,H7,I7,r7,q7⟩:=q7;exact ⟨x7,σ7,H7,I7.unpinned,r7,q7⟩
end
abbrev R2:=V->V->Hp->VK->Prop
def OpR (X:Cx) (f:Value->Value->Sem Value) (r:R2):Prop:=
 ∀(pins:List (Addr×Obj)) (s:aah) (σ:St) (H:Hp) (x y:V) (v u:Value) (Q:VK),Inv X pins σ H s->RelV x v->RelV y u->r x y H Q->
  wpAny (model X.prog X.w) X.A (f v u) (EP X pins σ Q) X.xe s
def CallR (X:Cx) (f:Value) (r:List V->Hp->VK->Prop):Prop:=
 ∀(pins:List (Addr×Obj)) (s:aah) (σ:St) (H:Hp) (xs:List V) (us:List Value) (Q:VK),Inv X pins σ H s->Vals xs us->r xs H Q->
  wpAny (model X.prog X.w) X.A (call f us) (EP X pins σ Q) X.xe s
def TruR (X:Cx) (r:V->Hp->(Bool->Hp->Prop)->Prop):Prop:=
 ∀(pins:List (Addr×Obj)) (s:aah) (σ:St) (H:Hp) (x:V) (v:Value) (Q:Bool->Hp->Prop),Inv X pins σ H s->RelV x v->r x H Q->
  wpAny (model X.prog X.w) X.A (truthy v) (TP X pins σ Q) X.xe s
def tOp (r:R2) (ta tb:TE):TE:=fun σ H Q=>ta σ H fun x H1=>tb σ H1 fun y H2=>r x y H2 Q
def rI (C:Int->Int->Prop) (g:Int->Int->V):R2:=fun x y H Q=> ∃i j,x= .int i/\y= .int j/\C i j/\Q (g i j) H
def rI0 (g:Int->Int->V):R2:=fun x y H Q=> ∃i j,x= .int i/\y= .int j/\Q (g i j) H
section
variable {X:Cx} {a b c:Expr} {ta tb tc:TE} {pos:Pos}
def binT (ha:PE X a ta) (hb:PE X b tb) {pins:List (Addr×Obj)} {s:aah} {σ:St} {H:Hp} {R:V->V->Hp->Prop} (I:Inv X pins σ H s)
  (h:ta σ H fun x H1=>tb σ H1 fun y H2=>R x y H2) {Q:T9} {f:Value->Value->Sem Value}
  (hf: ∀v u s2 x y H2,Inv X pins σ H2 s2->RelV x v->RelV y u->R x y H2->wpAny (model X.prog X.w) X.A (f v u) Q X.xe s2):
  wpAny (model X.prog X.w) X.A (eval a X.env) (fun v s₁=>wpAny (model X.prog X.w) X.A (eval b X.env) (fun u s₂=>wpAny (model X.prog X.w) X.A (f v u) Q X.xe s₂) X.xe s₁) X.xe s:=by
 refine thn (ha pins s σ H _ I h) fun v s1 ⟨x,H1,I1,r1,q1⟩=>?_
 refine thn (hb pins s1 σ H1 _ I1 q1) fun u s2 ⟨y,H2,I2,r2,q2⟩=>?_
 exact hf v u s2 x y H2 I2 r1 r2 q2
def jaw {op:ael} {r:R2} (ho:OpR X (acg op) r) (ha:PE X a ta) (hb:PE X b tb):PE X (.BinOp a op b pos) (tOp r ta tb):=by
 intro pins s σ H Q I h;exact wpAny_BinOp (binT ha hb I h fun v u s2 x y H2 I2 rx ry q=>ho pins s2 σ H2 x y v u Q I2 rx ry q)
def opI {f:Value->Value->Sem Value} {C:Int->Int->Prop} {g:Int->Int->Int}
  (rule: ∀(i j:Int) (t u:Tok) (s:aah) (Q:T9) (E:T9),C i j->Q (.int (g i j) s.toks) {s with toks:=s.toks+1}->wpAny (model X.prog X.w) X.A (f (.int i t) (.int j u)) Q E s):
  OpR X f (rI C fun i j=> .int (g i j)):=by
 intro pins s σ H x y v u Q I rx ry h;obtain ⟨i,j,rfl,rfl,hc,q⟩:=h;obtain ⟨t,rfl⟩:=rx;obtain ⟨t',rfl⟩:=ry;exact rule i j t t' s _ _ hc ⟨.int (g i j),H,I.tok _,⟨_,rfl⟩,q⟩
def opI0 {f:Value->Value->Sem Value} {g:Int->Int->Int}
  (rule: ∀(i j:Int) (t u:Tok) (s:aah) (Q:T9) (E:T9),Q (.int (g i j) s.toks) {s with toks:=s.toks+1}->wpAny (model X.prog X.w) X.A (f (.int i t) (.int j u)) Q E s):
  OpR X f (rI0 fun i j=> .int (g i j)):=by
 intro pins s σ H x y v u Q I rx ry h;obtain ⟨i,j,rfl,rfl,q⟩:=h;obtain ⟨t,rfl⟩:=rx;obtain ⟨t',rfl⟩:=ry;exact rule i j t t' s _ _ ⟨.int (g i j),H,I.tok _,⟨_,rfl⟩,q⟩
def opB0 {f:Value->Value->Sem Value} {g:Int->Int->Bool}
  (rule: ∀(i j:Int) (t u:Tok) (s:aah) (Q:T9) (E:T9),Q (.bool (g i j)) s->wpAny (model X.prog X.w) X.A (f (.int i t) (.int j u)) Q E s):
  OpR X f (rI0 fun i j=> .bl (g i j)):=by
 intro pins s σ H x y v u Q I rx ry h;obtain ⟨i,j,rfl,rfl,q⟩:=h;obtain ⟨t,rfl⟩:=rx;obtain ⟨t',rfl⟩:=ry;exact rule i j t t' s _ _ ⟨.bl (g i j),H,I,rfl,q⟩
def CDiv (i j:Int):Prop:=0<j/\j<1073741824
def CPow (i j:Int):Prop:=0<=j/\j<=1000000/\i.natAbs<2^64
def op_add:OpR X (acg .Add) (rI0 fun i j=> .int (i+j)):=opI0 fun _ _ _ _ _ _ _ q=>add_int q
def KZ:OpR X (acg .Sub) (rI0 fun i j=> .int (i-j)):=opI0 fun _ _ _ _ _ _ _ q=>sub_int q
def Ql:OpR X (acg .FloorDiv) (rI CDiv fun i j=> .int (i/j)):=opI fun i j _ _ _ _ _ hc q=>by
 have h1:(0:Int)<j:=hc.1;have h2:j<1073741824:=hc.2;exact floordiv_int (by omega) (by rw [acZ i (by omega)];exact q) (.inl (PyProof.noPylong_small (by omega)))
def xm:OpR X (acg .Mod) (rI (fun _ j=>0<j) fun i j=> .int (i%j)):=opI fun i j _ _ _ _ _ hc q=>by
 have h1:(0:Int)<j:=hc;exact mod_int' (by omega) (by rw [Int.fmod_eq_emod_of_nonneg i (by omega)];exact q)
def jcH:OpR X (acg .Pow) (rI CPow fun i j=> .int (i^j.toNat)):=opI fun _ _ _ _ _ _ _ hc q=>pow_int_small hc.1 hc.2.1 hc.2.2 q
def VV {pins:List (Addr×Obj)} {σ:St} {H:Hp} {s:aah} {Q:VK} {k k':Bool} (I:Inv X pins σ H s) (q:Q (.bl k) H) (e:k=k'):EP X pins σ Q (.bool k') s:=by
 subst e;exact ⟨.bl k,H,I,rfl,q⟩
def jcI:OpR X (aa9 .Lt) (rI0 fun i j=> .bl (decide (i<j))):=opB0 fun _ _ _ _ _ _ _ q=>lt_int q
def ky:OpR X (aa9 .LtE) (rI0 fun i j=> .bl (decide (i<=j))):=opB0 fun _ _ _ _ _ _ _ q=>le_int q
def jcL:OpR X (aa9 .Gt) (rI0 fun i j=> .bl (decide (j<i))):=opB0 fun _ _ _ _ _ _ _ q=>gt_int q
def jea:OpR X (aa9 .GtE) (rI0 fun i j=> .bl (decide (j<=i))):=opB0 fun _ _ _ _ _ _ _ q=>ge_int q
def K3:OpR X (aa9 .In) (fun x y H Q=> ∃i j,x= .str i/\y= .str j/\Q (.bl (!(adp j i 0 j.length 1).isEmpty)) H):=by
 intro pins s σ H x y v u Q I rx ry h;obtain ⟨i,j,rfl,rfl,q⟩:=h;obtain ⟨t,rfl⟩:=rx;obtain ⟨t',rfl⟩:=ry;exact in_str (VV I q rfl)
def K2:OpR X (aa9 .Is) (fun x y H Q=>y= .non/\Q (.bl (decide (x= .non))) H):=by
 intro pins s σ H x y v u Q I rx ry h;obtain ⟨rfl,q⟩:=h;cases ry;refine is_none_gen (VV I q ?_)
 cases x<;>first
  | (cases rx;rfl)
  | (obtain ⟨t,rfl⟩:=rx;rfl)
def K0:OpR X (aa9 .IsNot) (fun x y H Q=>y= .non/\Q (.bl (!decide (x= .non))) H):=by
 intro pins s σ H x y v u Q I rx ry h;obtain ⟨rfl,q⟩:=h;cases ry;refine isnot_none_gen (VV I q ?_)
 cases x<;>first
  | (cases rx;rfl)
  | (obtain ⟨t,rfl⟩:=rx;rfl)
def OpR.or {f:Value->Value->Sem Value} {r r':R2} (h:OpR X f r) (h':OpR X f r'):OpR X f (fun x y H Q=>r x y H Q\/r' x y H Q):=by
 intro pins s σ H x y v u Q I rx ry q;rcases q with q|q
 · exact h pins s σ H x y v u Q I rx ry q
 · exact h' pins s σ H x y v u Q I rx ry q
def ue (b:Expr) {op:CmpOp} (h:op≠ .In:=by decide) (h2:op≠ .NotIn:=by decide):acG op b=false:=by
 have e1:(op==CmpOp.In)=false:=by cases op<;>first|rfl|exact absurd rfl h
 have e2:(op==CmpOp.NotIn)=false:=by cases op<;>first|rfl|exact absurd rfl h2
 cases b<;>simp [acG,e1,e2]
def jaB {op:CmpOp} {r:R2} (ho:OpR X (aa9 op) r) (ha:PE X a ta) (hb:PE X b tb) (hm:acG op b=false):PE X (.Compare a [op] [b] pos) (tOp r ta tb):=by
 intro pins s σ H Q I h;exact wpAny_Compare1 (binT ha hb I h fun v u s2 x y H2 I2 rx ry q=>ho pins s2 σ H2 x y v u Q I2 rx ry q) hm
def uW (t:TE):TT:=fun σ H Q=>t σ H fun x H'=> ∃k,x= .bl k/\Q k H'
def jap {op:CmpOp} {r:R2} (ho:OpR X (aa9 op) r) (ha:PE X a ta) (hb:PE X b tb) (hm:acG op b=false):PT X (.Compare a [op] [b] pos) (uW (tOp r ta tb)):=by
 intro pins s σ H Q I h
 refine wpAny_isTrue_Compare1 (thn (ha pins s σ H _ I h) fun v s1 ⟨x,H1,I1,r1,q1⟩=>thn (hb pins s1 σ H1 _ I1 q1) fun u s2 ⟨y,H2,I2,r2,q2⟩=>
  thn (ho pins s2 σ H2 x y v u _ I2 r1 r2 q2) fun c s3 ⟨z,H3,I3,r3,k,e,q3⟩=>?_) hm
 subst e;cases r3;exact abm ⟨H3,I3,q3⟩
def Y6 (r r':R2) (ta tb tc:TE):TE:=fun σ H Q=>ta σ H fun x H1=>tb σ H1 fun y H2=>r x y H2 fun z H3=> ∃k,z= .bl k/\
 (if k=true then tc σ H3 fun w' H4=>r' y w' H4 Q else Q (.bl false) H3)
def kn {op op':CmpOp} {r r':R2} (ho:OpR X (aa9 op) r) (ho':OpR X (aa9 op') r') (ha:PE X a ta) (hb:PE X b tb) (hc:PE X c tc)
  (hm:lastMarks [op,op'] [b,c]=false:=by with_unfolding_all rfl):PE X (.Compare a [op,op'] [b,c] pos) (Y6 r r' ta tb tc):=by
 intro pins s σ H Q I h
 refine Compare_chain (thn (ha pins s σ H _ I h) fun v s1 ⟨x,H1,I1,r1,q1⟩=>chain_link (thn (hb pins s1 σ H1 _ I1 q1) fun u s2 ⟨y,H2,I2,r2,q2⟩=>
  thn (ho pins s2 σ H2 x y v u _ I2 r1 r2 q2) fun d s3 ⟨z,H3,I3,r3,k,e,q3⟩=>?_)) hm
 subst e;cases r3;refine abm ?_
 cases k with
 |false=>exact ite_ff ⟨.bl false,H3,I3,rfl,q3⟩
 |true=>exact ite_tt (chain_last (thn (hc pins s3 σ H3 _ I3 q3) fun w' s4 ⟨z',H4,I4,r4,q4⟩=>ho' pins s4 σ H4 y z' u w' Q I4 r2 r4 q4))
def U7 {op op':CmpOp} {r r':R2} (ho:OpR X (aa9 op) r) (ho':OpR X (aa9 op') r') (ha:PE X a ta) (hb:PE X b tb) (hc:PE X c tc)
  (hm:lastMarks [op,op'] [b,c]=false:=by with_unfolding_all rfl):PT X (.Compare a [op,op'] [b,c] pos) (uW (Y6 r r' ta tb tc)):=by
 intro pins s σ H Q I h
 refine isTrue_chain (thn (ha pins s σ H _ I h) fun v s1 ⟨x,H1,I1,r1,q1⟩=>test_link (thn (hb pins s1 σ H1 _ I1 q1) fun u s2 ⟨y,H2,I2,r2,q2⟩=>
  thn (ho pins s2 σ H2 x y v u _ I2 r1 r2 q2) fun d s3 ⟨z,H3,I3,r3,k,e,q3⟩=>?_)) hm
 subst e;cases r3;refine abm ?_
 cases k with
 |false=>
  obtain ⟨k',e',q'⟩:=q3;cases e';exact ite_ff ⟨H3,I3,q'⟩
 |true=>
  refine ite_tt (test_last (thn (hc pins s3 σ H3 _ I3 q3) fun w' s4 ⟨z',H4,I4,r4,q4⟩=>thn (ho' pins s4 σ H4 y z' u w' _ I4 r2 r4 q4) fun d' s5 ⟨z2,H5,I5,r5,k2,e2,q5⟩=>?_));subst e2;cases r5;exact abm ⟨H5,I5,q5⟩
def TruV (K:aaa) (x:V) (H:Hp) (k:Bool):Prop:=
 match x with
 | .non=>k=false
 | .bl b=>k=b
 | .int i=>k=(i !=0)
 | .str y=>y.length<=aai/\k=((y.length:Int) !=0)
 | .byt y=>y.size<=aai/\k=((y.size:Int) !=0)
 | .ref p=>(∃xs,SqL K H p xs/\k=!xs.isEmpty)\/(∃xs,SqT K H p xs/\k=!xs.isEmpty)\/ ∃kvs,H p=some (.dK kvs)/\k=!kvs.isEmpty
 |_=>False
def YE {κ:Type} {kvs:List (κ×V)} {vs:List (κ×Value)} (r:KV kvs vs):(!vs.isEmpty)=!kvs.isEmpty:=by
 cases r<;>rfl
def JS {xs:List V} {its:List Value} (r:Vals xs its):(!its.toArray.isEmpty)=!xs.isEmpty:=by
 cases r<;>simp
def yX:(aai:Nat)<2^63:=by rw [acs];decide
def vT:TruR X (fun x H Q=> ∃k,TruV X.K x H k/\Q k H):=by
 intro pins s σ H x v Q I rx h;obtain ⟨k,e,q⟩:=h;have hl:=yX;have hs:aai=16777216:=acs
 cases x with
 |non=>
  cases rx;have e':k=false:=e;subst e';exact truthy_none ⟨H,I,q⟩
 |bl b=>
  cases rx;have e':k=b:=e;subst e';exact abm ⟨H,I,q⟩
 |int i=>
  obtain ⟨t,rfl⟩:=rx;have e':k=(i !=0):=e;subst e';exact PySem.P.truthy_int ⟨H,I,q⟩
 |str y=>
  obtain ⟨t,rfl⟩:=rx;obtain ⟨hy,e'⟩:y.length<=aai/\k=((y.length:Int) !=0):=e;subst e';exact PySem.P.truthy_str (by omega) ⟨H,I.tok _,q⟩
 |byt y=>
  obtain ⟨t,rfl⟩:=rx;obtain ⟨hy,e'⟩:y.size<=aai/\k=((y.size:Int) !=0):=e;subst e';exact PySem.W.truthy_bytes (by omega) ⟨H,I.tok _,q⟩
 |ref p=>
  cases rx;have e':(∃xs,SqL X.K H p xs/\k=!xs.isEmpty)\/(∃xs,SqT X.K H p xs/\k=!xs.isEmpty)\/ ∃kvs,H p=some (.dK kvs)/\k=!kvs.isEmpty:=e;rcases e' with ⟨xs,hx,e'⟩| ⟨xs,hx,e'⟩| ⟨kvs,hx,e'⟩
  · subst e';obtain ⟨its,r,pl,hz⟩:=I.list hx;have hlen:=r.length;exact wpAny_truthy_list pl.isList (by simp only [aag];omega) ⟨H,I.tok _,by rw [JS r];exact q⟩
  · subst e';obtain ⟨its,r,pl,hz⟩:=I.tuple hx;have hlen:=r.length;exact truthy_tuple pl (by simp only [aag];omega) ⟨H,I.tok _,by rw [JS r];exact q⟩
  · subst e';obtain ⟨hz,hS,vs,r,m⟩:kvs.length<=aai/\(p==abU)=false/\ ∃vs,KV kvs vs/\s.heap.DictOf (jF X.prog X.w) p vs:=I.hok p _ hx;have hlen:kvs.length=vs.length:=ado r;exact wpAny_truthy_dict hS m (by omega) ⟨H,I.tok _,by rw [YE r];exact q⟩
 |_=>exact (show False from e).elim
def U6 (ha:PE X a ta) (he: ∀whole,isTrue a X.env whole=(do let v←whole;standAt a.pos;adV [v] (truthy v))):
  PT X a (fun σ H Q=>ta σ H fun x H'=> ∃k,TruV X.K x H' k/\Q k H'):=by
 intro pins s σ H Q I h;exact isTrue_plain (thn (ha pins s σ H _ I h) fun v s1 ⟨x,H1,I1,r1,q1⟩=>vT pins s1 σ H1 x v Q I1 r1 q1) (he _)
def op_add_str:OpR X (acg .Add) (fun x y H Q=> ∃i j,x= .str i/\y= .str j/\i.length+j.length<=aai/\Q (.str (i++j)) H):=by
 intro pins s σ H x y v u Q I rx ry h;obtain ⟨i,j,rfl,rfl,hz,q⟩:=h;obtain ⟨t,rfl⟩:=rx;obtain ⟨t',rfl⟩:=ry;exact add_str (fun t' tk=>⟨.str (i++j),H,I.tok _,⟨_,rfl⟩,q⟩) hz
def yo {x:V} {us:List Value} (r:Vals [x] us): ∃u,us=[u]/\RelV x u:=by
 cases r with
 |cons r1 r2=>cases r2;exact ⟨_,rfl,r1⟩
def jbR {x y:V} {us:List Value} (r:Vals [x,y] us): ∃u w',us=[u,w']/\RelV x u/\RelV y w':=by
 cases r with
 |cons r1 r2=>
  cases r2 with
  |cons r3 r4=>cases r4;exact ⟨_,_,rfl,r1,r3⟩
def wg:CallR X (.builtin "divmod") (fun xs H Q=> ∃i j,xs=[.int i,.int j]/\CDiv i j/\ ∀p,H p=none->Q (.ref p) (upd H p (.tup [.int (i/j),.int (i%j)]))):=by
 intro pins s σ H xs us Q I r h;obtain ⟨i,j,rfl,⟨h1,h2⟩,q⟩:=h;obtain ⟨u,w',rfl,⟨t,rfl⟩,⟨t',rfl⟩⟩:=jbR r;refine divmod_int (by omega) ?_ (.inl (PyProof.noPylong_small (by omega)));rw [acZ i (by omega),Int.fmod_eq_emod_of_nonneg i (by omega)];have hn:H s.heap.objs.size=none:=I.hok.fresh (aae _);refine ⟨.ref s.heap.objs.size,_,?_,rfl,q _ hn⟩;refine I.laid (fun b o e=>aad _ e) (aae _) ⟨by simp only [aau,aca];rw [acs];decide,[.int (i/j) s.toks,.int (i%j) (s.toks+1)],.cons ⟨_,rfl⟩ (.cons ⟨_,rfl⟩ .nil),?_⟩;exact ⟨_,aan s.heap rfl,rfl,0,rfl⟩
end
structure ObjM (h:Heap) (x dx C:Addr) (mA:W9):Prop where
 obj:h.get? x=some (ab8 C dx)
 ns:h.Ns1 dx mA
 ne:dx≠x
def Vn {h:Heap} {dx:Addr} {mA:W9} (n:h.Ns1 dx mA): ∃od,h.get? dx=some od/\ ∀name,aes name od=some (mA name):=by
 obtain ⟨o,es,ep,ho,hd,hk,_,hm⟩:=n;refine ⟨o,ho,fun name=>?_⟩;have e:=hm name;unfold nsFind findBy at e;rw [←Array.find?_toList] at e;unfold aes;rw [hd];dsimp only
 split
 · rename_i y q;rw [q] at e;exact congrArg some e
 · rename_i q;rw [q] at e
   have a:es.toList.any (·.refKey)=false:=by
    rw [aeA];intro y hy;obtain ⟨z,t,hkey⟩:=hk y (Array.mem_toList_iff.mp hy);simp [DictEntry.refKey,hkey]
   have a': ¬es.toList.any (·.refKey)=true:=by rw [a];exact aaH
   rw [if_neg a'];exact congrArg some e
def ObjM.look {h:Heap} {x dx C:Addr} {mA:W9} (I:ObjM h x dx C mA): ∃od,PySem.W.InstAt h x (ab8 C dx) C (some od)/\ ∀name,aes name od=some (mA name):=
 let ⟨od,ho,hl⟩:=Vn I.ns
 ⟨od,⟨I.obj,rfl,rfl,ho⟩,hl⟩
section
variable {prog:aaL} {w:World} {A:aaZ} {E:T9} {s:aah} {K:aaa} {x dx C f:Addr} {mA:W9} {name:Str} {v:Value}
def VO {expr:Bool} {Q:T9} (X:K.In s.heap) (I:ObjM s.heap x dx C mA) (hg:acI K C name=true) (hh:acT K C=true)
  (ha:aa6 K (.ref C) name=some none) (hv:mA name=some v) (hv':PySem.W.handedIn v=true) (h:Q v {s with toks:=s.toks+1}):
  wpAny (model prog w) A (getAttr (.ref x) name expr) Q E s:=by
 obtain ⟨od,J,hl⟩:=I.look;exact PySem.W.get_value X J (aeb hg).1 (PySem.W.findObj_own hh ha rfl (by rw [hl,hv])) hv' h
def kX {pl:Sem Bool} {Q:Value×List Value->aah->Prop} (X:K.In s.heap) (I:ObjM s.heap x dx C mA) (hg:acI K C name=true)
  (hf:aa6 K (.ref C) name=some (some (.ref f))) (ht:aeU K (.ref f)=true) (hv:mA name=none) (h:Q (.ref f,[.ref x]) s):
  wpAny (model prog w) A (getMethod (.ref x) name pl) Q E s:=by
 obtain ⟨od,J,hl⟩:=I.look;exact PySem.W.method_fn X J (aeb hg).1 (aeb hg).2 hf (beq_iff_eq.mp ht) (by show (aes name od).map (·.isSome)=some false;rw [hl,hv];rfl) h
def jaa {ns:List Str} {Q:Unit->aah->Prop} (X:K.In s.heap) (I:ObjM s.heap x dx C mA)
  (hs:aa6 K (.ref C) "__setattr__" =some (some (.builtin "object.__setattr__"))) (hp:adF K C=true) (ht:aeV K C name=some none) (hh:acT K C=true)
  (hw:PySem.Within mA ns) (hsz:ns.length<=aai)
  (h: ∀h',ObjM h' x dx C (fun y=>if y=name then some v else mA y)->acn dx s.heap h'->Q () {s with heap:=h',toks:=s.toks+2}):
  wpAny (model prog w) A (setAttr (.ref x) name v) Q E s:=by
 obtain ⟨od,J,hl⟩:=I.look;refine PySem.W.set_plain X J hs (PySem.W.osa_open (s:={s with toks:=s.toks+1}) (r:=none) X J hp ht fun b=>?_);obtain ⟨cd,hc,hd'⟩:=PySem.W.any_some hh;have hx:s.heap.get? x=some ⟨.ref C,some dx,.plain, #[]⟩:=I.obj;refine aab (aaf (aab (aab (wpAny_loadPart hx (aab (PySem.W.Looks.here (s:={s with toks:=s.toks+1}) (PySem.W.looks_clsIn X hc) ?_))))));rw [hd'];refine aaf (a:=some dx) (aab (aaf (aab ?_)));refine wpAny_nsSet1 (s:={s with toks:=s.toks+1}) I.ns fun h' hn2 hs2=>?_
 obtain ⟨oD,esD,epD,hoD,hdD,hcD⟩:=hn2.count (PySem.Within.cons name v hw);refine aab (wpAny_lookBehind hoD (by rw [hdD];exact pastItsLine_dict (aaF hcD (by rw [aau];omega))) ?_);exact aaf (h _ ⟨(hs2.2 _ (acK I.ne)).trans I.obj,hn2,I.ne⟩ hs2)
def kK {R:Result->aah->Prop} {vs:List Value} {kw:List (Str×Value)} (X:K.In s.heap) (hm:acA K C=true)
  (hi:aa6 K (.ref C) "__init__" =some (some (.ref f))) (hf:PySem.W.typeIn K (.ref f)=some (.type "function"))
  (h:aeH (model prog w) (A.under (.builtin "type.__call__" ⟨.ref C::vs,kw⟩)) (.call (.ref f) ⟨.ref (s.heap.objs.size+1)::vs,kw⟩) (PySem.W.InitBack (s.heap.objs.size+1) R)
   {s with heap:=(s.heap.push abx).push (ab8 C s.heap.objs.size)}):
  aeH (model prog w) A (.call (.ref C) ⟨vs,kw⟩) R s:=by
 obtain ⟨hh,g,d,t,os⟩:=s;exact PySem.W.make_core (PySem.W.makes_of X hm) (PySem.W.looks_findIn X hi) (fun self=>PySem.W.bind_fn X self hf) (.inl rfl) h
end
def putF (f:Str) (v:V):List (Str×V)->List (Str×V)
 | []=>[(f,v)]
 | (g,x)::r=>if g=f then (g,v)::r else (g,x)::putF f v r
theorem yW (f g:Str) (v:V): ∀fs:List (Str×V),(putF f v fs).lookup g=if g=f then some v else fs.lookup g
 | []=>by
  show abz g [(f,v)]=_
  by_cases h:g=f
  · have hb:(g==f)=true:=beq_iff_eq.mpr h;simp only [abz,hb,if_pos h]
  · have hb:(g==f)=false:=beq_eq_false_iff_ne.mpr h;simp only [abz,hb,if_neg h]
 | (k,x)::r=>by
  have ih:=yW f g v r;rw [show putF f v ((k,x)::r)=(if k=f then (k,v)::r else (k,x)::putF f v r) from rfl]
  by_cases hk:k=f
  · rw [if_pos hk]
    by_cases h:g=k
    · have hb:(g==k)=true:=beq_iff_eq.mpr h;simp only [abz,hb,if_pos (h.trans hk)]
    · have hb:(g==k)=false:=beq_eq_false_iff_ne.mpr h;simp only [abz,hb,if_neg (fun e:g=f=>h (e.trans hk.symm))]
  · rw [if_neg hk]
    by_cases h:g=k
    · have hb:(g==k)=true:=beq_iff_eq.mpr h;simp only [abz,hb,if_neg (fun e:g=f=>hk (h.symm.trans e))]
    · have hb:(g==k)=false:=beq_eq_false_iff_ne.mpr h;simp only [abz,hb];exact ih
theorem y4 (f:Str) (v:V): ∀fs:List (Str×V),f∈(putF f v fs).map (·.1)/\ ∀g,g∈fs.map (·.1)->g∈(putF f v fs).map (·.1)
 | []=>⟨by simp [putF],fun g h=>by simp at h⟩
 | (k,x)::r=>by
  obtain ⟨i1,i2⟩:=y4 f v r;rw [show putF f v ((k,x)::r)=(if k=f then (k,v)::r else (k,x)::putF f v r) from rfl]
  by_cases hk:k=f
  · rw [if_pos hk];subst hk;exact ⟨by simp,fun g h=>by simpa using h⟩
  · rw [if_neg hk];refine ⟨?_,fun g h=>?_⟩
    · rw [aat];exact aaj _ i1
    · rw [aat] at h ⊢;rcases aaq.mp h with e|e
      · exact aaq.mpr (.inl e)
      · exact aaj _ (i2 g e)
theorem yZ (f:Str) (v:V): ∀fs:List (Str×V),(putF f v fs).length<=fs.length+1
 | []=>by simp [putF]
 | (k,x)::r=>by
  have ih:=yZ f v r;rw [show putF f v ((k,x)::r)=(if k=f then (k,v)::r else (k,x)::putF f v r) from rfl]
  by_cases hk:k=f
  · rw [if_pos hk,aau,aau];omega
  · rw [if_neg hk,aau,aau];omega
def RelO.some_of {v:V} {o:Option Value} (r:RelO (some v) o): ∃u,o=some u/\RelV v u:=by
 cases o with
 |none=>exact (show False from r).elim
 |some u=>exact ⟨u,rfl,r⟩
def RelO.none_of {o:Option Value} (r:RelO none o):o=none:=by
 cases o with
 |none=>rfl
 |some u=>exact (show False from r).elim
def ZB {v:V} {u:Value} (r:RelV v u):PySem.W.handedIn u=true:=by
 cases v with
 |non=>cases (show u=abD from r);rfl
 |bl b=>cases (show u=acS b from r);rfl
 |int i=>obtain ⟨t,e⟩:=(show∃t,u=Value.int i t from r);cases e;rfl
 |str x=>obtain ⟨t,e⟩:=(show∃t,u=Value.str x t from r);cases e;rfl
 |byt b=>obtain ⟨t,e⟩:=(show∃t,u=Value.bytes b t from r);cases e;rfl
 |flt b=>obtain ⟨t,e⟩:=(show∃t,u=Value.float b t from r);cases e;rfl
 |ref a=>cases (show u=aaK a from r);rfl
 |ty n=>cases (show u=adE n from r);rfl
section
variable {P:aaL} {w:World} {H H':Hp} {h h':Heap} {a C dx:Addr} {fs fs':List (Str×V)}
def y8 (hok:HOk P w H h) (e:H a=some (.ins C dx fs)): ∃mA,ObjM h a dx C mA/\(∀f,RelO (fs.lookup f) (mA f))/\PySem.Within mA (fs.map (·.1))/\fs.length<=1000/\H dx=some (.own a):=by
 obtain ⟨d,z,ne,ob,mA,n,r,q⟩:=(show ObjOk P w H h a (.ins C dx fs) from hok a _ e)
 exact ⟨mA,⟨ob,n,ne⟩,r,q,z,d⟩
end
structure Cls (K:aaa) (C:Addr):Prop where
 pg:acI K C Str.empty=true
 hd:acT K C=true
 po:adF K C=true
 sa:aa6 K (.ref C) "__setattr__" =some (some (.builtin "object.__setattr__"))
def Cls.get {K:aaa} {C:Addr} (c:Cls K C) (f:Str):acI K C f=true:=c.pg
def NoAttr (K:aaa) (C:Addr) (f:Str):Prop:=aa6 K (.ref C) f=some none
def NoAttr.taker {K:aaa} {C:Addr} {f:Str} (n:NoAttr K C f):aeV K C f=some none:=by
 unfold aeV;rw [show aa6 K (.ref C) f=some none from n];rfl
structure Meth (K:aaa) (C:Addr) (m:Str) (f:Addr):Prop where
 at_:aa6 K (.ref C) m=some (some (.ref f))
 fn:aeU K (.ref f)=true
 kp:aaY K (.ref f)=true
section
variable {X:Cx} {pins:List (Addr×Obj)} {σ:St} {H:Hp} {s:aah} {a C dx:Addr} {fs:List (Str×V)} {f:Str} {v:V} {A:aaZ} {E:T9}
def YI {b:Bool} {Q:T9} (I:Inv X pins σ H s) (e:H a=some (.ins C dx fs)) (c:Cls X.K C) (n:NoAttr X.K C f) (l:fs.lookup f=some v)
  (h: ∀u s',Inv X pins σ H s'->RelV v u->Q u s'):wpAny (model X.prog X.w) A (getAttr (.ref a) f b) Q E s:=by
 obtain ⟨mA,O,r,_,_,_⟩:=y8 I.hok e;obtain ⟨u,hu,ru⟩:=RelO.some_of (v:=v) (o:=mA f) (by rw [←l];exact r f);exact VO I.kIn O (c.get f) c.hd n hu (ZB ru) (h u _ (I.tok _) ru)
def YH {m:Str} {g:Addr} {pl:Sem Bool} {Q:Value×List Value->aah->Prop} (I:Inv X pins σ H s) (e:H a=some (.ins C dx fs)) (c:Cls X.K C) (k:Meth X.K C m g) (l:fs.lookup m=none)
  (h:Q (.ref g,[.ref a]) s):wpAny (model X.prog X.w) A (getMethod (.ref a) m pl) Q E s:=by
 obtain ⟨mA,O,r,_,_,_⟩:=y8 I.hok e;have hn:mA m=none:=RelO.none_of (by rw [←l];exact r m);exact kX I.kIn O (c.get m) k.at_ k.fn hn h
def Yj {y:V} {u:Value} {Q:Unit->aah->Prop} (I:Inv X pins σ H s) (e:H a=some (.ins C dx fs)) (c:Cls X.K C) (n:NoAttr X.K C f) (hl:fs.length<1000) (ry:RelV y u)
   (h: ∀s',Inv X pins σ (upd H a (.ins C dx (putF f y fs))) s'->Q () s'):wpAny (model X.prog X.w) A (setAttr (.ref a) f u) Q E s:=by
 obtain ⟨mA,O,r,wi,_,ho⟩:=y8 I.hok e;have hz:(fs.map (·.1)).length<=aai:=by rw [aak,acs];omega
 refine jaa I.kIn O c.sa c.po n.taker c.hd wi hz fun h' O' sb=>h _ ?_
 have hd: ∃o,h'.get? dx=some o:=let ⟨o,_,_,e',_⟩:=O'.ns;⟨o,e'⟩
 refine I.write (x:=a) (e:=dx) (by rw [e];exact acB) (.inr ho) (fun b q hb z=>(sb.2 b hb).trans z) hd ?_;refine ⟨by rw [jH O.ne];exact ho,?_,O.ne,O'.obj,_,O'.ns,fun g=>?_,fun g hg=>?_⟩
 · have:=yZ f y fs;omega
 · show RelO ((putF f y fs).lookup g) (if g=f then some u else mA g);rw [yW]
   by_cases q:g=f
   · rw [if_pos q,if_pos q];exact ry
   · rw [if_neg q,if_neg q];exact r g
 · by_cases q:g=f
   · rw [q];exact (y4 f y fs).1
   · refine (y4 f y fs).2 g (wi g fun z=>hg ?_);show (if g=f then some u else mA g)=none;rw [if_neg q];exact z
def Inv.made (I:Inv X pins σ H s):Inv X pins σ (upd (upd H s.heap.objs.size (.own (s.heap.objs.size+1))) (s.heap.objs.size+1) (.ins C s.heap.objs.size []))
  {s with heap:=(s.heap.push abx).push (ab8 C s.heap.objs.size)}:=by
 have e1:(s.heap.push abx).get? s.heap.objs.size=some abx:=aan s.heap rfl
 have e2:((s.heap.push abx).push (ab8 C s.heap.objs.size)).get? (s.heap.objs.size+1)=some (ab8 C s.heap.objs.size):=by
  have:=aan (s.heap.push abx) (o:=ab8 C s.heap.objs.size) rfl
  rwa [ac2] at this
 have e3:(s.heap.push abx).Ns s.heap.objs.size (fun _=>none):=⟨abx, #[],_,e1,rfl,(fun e he=>absurd he (by simp)),fun _=>rfl⟩
 have I1:=I.laid (a:=s.heap.objs.size) (o:= .own (s.heap.objs.size+1)) (h':=s.heap.push abx) (t':=s.toks) (fun b u q=>aad _ q) (aae _) ⟨_,e1⟩;refine I1.laid (a:=s.heap.objs.size+1) (o:= .ins C s.heap.objs.size []) (t':=s.toks) (fun b u q=>aad _ q) (aeW (ac2 _ _)) ?_;have ne:s.heap.objs.size≠s.heap.objs.size+1:=aaJ (ada _);refine ⟨by rw [jH ne,jt],aa7 _,ne,e2,fun _=>none,(Heap.Ns1.of_empty e3).at fun o q=>aad _ q,fun _=>acB,fun y hy=>absurd rfl hy⟩
def UK {prog:aaL} {w:World} {env:Env} {e:Expr} {f:Str} {pos:Pos} {s:aah} {Q:T9} (hb:aa4 e f env (eval e env)=eval e env)
  (h:wpAny (model prog w) A (eval e env) (fun o s₁=>wpAny (model prog w) A (getAttr o f true) Q E s₁) E s):wpAny (model prog w) A (eval (.Attribute e f pos) env) Q E s:=
 Attribute_any_ h (by rw [arm_eval_Attribute,hb])
end
def tFld (K:aaa) (ta:TE) (f:Str):TE:=fun σ H Q=>ta σ H fun x H1=> ∃a C dx fs v,x= .ref a/\H1 a=some (.ins C dx fs)/\Cls K C/\NoAttr K C f/\fs.lookup f=some v/\Q v H1
def sFld (K:aaa) (ta tv:TE) (f:Str):TS:=fun D σ H=>tv σ H fun y H1=>ta σ H1 fun x H2=> ∃a C dx fs,x= .ref a/\H2 a=some (.ins C dx fs)/\Cls K C/\NoAttr K C f/\fs.length<1000/\
 D.nx σ (upd H2 a (.ins C dx (putF f y fs)))
section
variable {X:Cx} {o e value:Expr} {f:Str} {pos pos' tpos:Pos} {ta tv:TE}
def jcE (he:PE X e ta) (hb:aa4 e f X.env (eval e X.env)=eval e X.env):PE X (.Attribute e f pos) (tFld X.K ta f):=by
 intro pins s σ H Q I h;refine UK hb (thn (he pins s σ H _ I h) fun u s1 ⟨x,H1,I1,rx,a,C,dx,fs,v,ex,ea,c,n,l,q⟩=>?_);subst ex;obtain rfl:u=aaK a:=rx;exact YI I1 ea c n l fun u' s2 I2 ru=>⟨v,H1,I2,ru,q⟩
def jcs (ha:PE X o ta) (hv:PE X value tv) (hs:abY value (some (.Attribute o f pos')) pos.line X.env=pure false):PS X (.Assign [.Attribute o f pos'] value pos) (sFld X.K ta tv f):=by
 intro pins s σ H D I h;refine plainObj_wpAny_Assign_Attribute (thn (hv pins s σ H _ I h) fun u s1 ⟨y,H1,I1,ry,q⟩=>thn (ha pins s1 σ H1 _ I1 q) fun ov s2 ⟨x,H2,I2,rx,a,C,dx,fs,ex,ea,c,n,l,q2⟩=>?_) hs;subst ex;obtain rfl:ov=aaK a:=rx;exact Yj I2 ea c n l ry fun s3 I3=>⟨σ,_,I3,q2⟩
end
section
variable {X:Cx} {pins:List (Addr×Obj)} {σ:St} {H:Hp} {s:aah} {A:aaZ} {E:T9} {Q:T9} {c:Value} {b:Bool}
inductive TyOf (K:aaa) (H:Hp):V->Value->Prop where
 |non:TyOf K H .non (.type "NoneType")
 |bl (x:Bool):TyOf K H (.bl x) (.type "bool")
 |int (i:Int):TyOf K H (.int i) (.type "int")
 |str (x:Str):TyOf K H (.str x) (.type "str")
 |flt (x:UInt64):TyOf K H (.flt x) (.type "float")
 |lst {a:Addr} {xs:List V} (e:H a=some (.lst xs)):TyOf K H (.ref a) (.type "list")
 |frz {a:Addr} {o:Obj} {xs:List V} (e:H a=some (.frz o (.lst xs))):TyOf K H (.ref a) (.type "list")
 |tup {a:Addr} {xs:List V} (e:H a=some (.tup xs)):TyOf K H (.ref a) (.type "tuple")
 |dK {a:Addr} {kvs:List (Key×V)} (e:H a=some (.dK kvs)):TyOf K H (.ref a) (.type "dict")
 |dT {a:Addr} {kvs:List (List Key×V)} (e:H a=some (.dT kvs)):TyOf K H (.ref a) (.type "dict")
 |ins {a C dx:Addr} {fs:List (Str×V)} (e:H a=some (.ins C dx fs)) (cl:Cls K C) (ha:aa6 K (.ref C) "__class__" =some (some (.builtin "object.__class__")))
  (hn:PySem.W.specialIn K (.builtin "object.__class__") "__get__" =some (some (.builtin "getset_descriptor.__get__"))) (htk:PySem.W.takesIn K (.builtin "object.__class__")=some true)
  (hm:PySem.W.mroIn K C (.type "object")=some true):TyOf K H (.ref a) (.ref C)
def Vx {x:V} {u t:Value} (I:Inv X pins σ H s) (rx:RelV x u) (ty:TyOf X.K H x t) (e:ab2 X.K t c=some b) (h: ∀tk,Q (.bool b) {s with toks:=tk}):
  wpAny (model X.prog X.w) A (call (.builtin "isinstance") [u,c]) Q E s:=by
 cases ty with
 |non=>cases (show u=abD from rx);exact abu PySem.W.kitx_none I.kIn acB e (fun z=>nomatch z) h
 |bl y=>cases (show u=acS y from rx);exact abu PySem.W.kitx_bool I.kIn acB e (fun z=>nomatch z) h
 |int i=>obtain ⟨t,q⟩:=(show∃t,u=Value.int i t from rx);cases q;exact abu PySem.W.kitx_int I.kIn acB e (fun z=>nomatch z) h
 |str y=>obtain ⟨t,q⟩:=(show∃t,u=Value.str y t from rx);cases q;exact abu PySem.W.kitx_str I.kIn acB e (fun z=>nomatch z) h
 |flt y=>obtain ⟨t,q⟩:=(show∃t,u=Value.float y t from rx);cases q;exact abu PySem.W.kitx_float I.kIn acB e (fun z=>nomatch z) h
 | @lst a xs ea=>
  cases (show u=aaK a from rx);obtain ⟨_,_,n,_,h1⟩:=(show ObjOk X.prog X.w H s.heap a (.lst xs) from I.hok a _ ea)
  exact abu PySem.W.kitx_list I.kIn ⟨_,h1,rfl⟩ e (fun z=>nomatch z) h
 | @frz a ob xs ea=>
  cases (show u=aaK a from rx);obtain ⟨_,_,_,n,_,h1⟩:=(show ObjOk X.prog X.w H s.heap a (.frz ob (.lst xs)) from I.hok a _ ea)
  exact abu PySem.W.kitx_list I.kIn ⟨_,h1,rfl⟩ e (fun z=>nomatch z) h
 | @tup a xs ea=>
  cases (show u=aaK a from rx);obtain ⟨_,_,_,p⟩:=(show ObjOk X.prog X.w H s.heap a (.tup xs) from I.hok a _ ea)
  obtain ⟨o,h1,h2,_⟩:=p;exact abu PySem.W.kitx_tuple I.kIn ⟨o,h1,h2⟩ e (fun z=>nomatch z) h
 | @dK a kvs ea=>
  cases (show u=aaK a from rx);obtain ⟨_,_,vs,_,p⟩:=(show ObjOk X.prog X.w H s.heap a (.dK kvs) from I.hok a _ ea)
  obtain ⟨o,es,ep,h1,h2,_⟩:=p;exact abu PySem.W.kitx_dict I.kIn ⟨o,h1,h2.1⟩ e (fun z=>nomatch z) h
 | @dT a kvs ea=>
  cases (show u=aaK a from rx);obtain ⟨_,_,xs,_,o,es,ep,h1,h2,_⟩:=(show ObjOk X.prog X.w H s.heap a (.dT kvs) from I.hok a _ ea)
  exact abu PySem.W.kitx_dict I.kIn ⟨o,h1,h2.1⟩ e (fun z=>nomatch z) h
 | @ins a C dx fs ea cl ha hn htk hm=>
  cases (show u=aaK a from rx);obtain ⟨mA,O,_⟩:=y8 I.hok ea;obtain ⟨od,J,_⟩:=O.look;exact abu (PySem.W.kitx_own (cl.get _) cl.hd ha hn htk hm) I.kIn J e (fun z=>nomatch z) h
end
structure Room (k:Nat) (A:aaZ):Prop where
 hd:A.handled=none
 dp:A.depth+3*k+5<recursionLimit
 un:A.units+16*k+200<cLine
def Room.mono {j k:Nat} {A:aaZ} (r:Room k A) (h:j<=k):Room j A:=⟨r.hd,by have:=r.dp;omega,by have:=r.un;omega⟩
def Room.deeper {k:Nat} {A:aaZ} (r:Room (k+1) A) (env:Env):Room k (A.deeper env):=
 ⟨r.hd,by have:=r.dp;show A.depth+1+3*k+5<_;omega,by have:=r.un;show A.units+3+16*k+200<_;omega⟩
def Yy {A:aaZ} {C:Addr} {us:List Value} {kw:List (Str×Value)}:(A.under (.builtin "type.__call__" ⟨.ref C::us,kw⟩)).depth=A.depth+1:=by
 first|rfl|simp [Around.under,Code.weight,Code.isCreation,Code.isGuard,Code.isCaller,Code.frames,Code.isFrame,guardIds]
def Yx {A:aaZ} {C:Addr} {us:List Value} {kw:List (Str×Value)}:(A.under (.builtin "type.__call__" ⟨.ref C::us,kw⟩)).units=A.units+1:=by
 first|rfl|simp [Around.under,Code.cUnits,Code.frames,Code.isFrame]
def Room.make {k:Nat} {A:aaZ} (r:Room (k+1) A) (C:Addr) (us:List Value) (kw:List (Str×Value)):Room k (A.under (.builtin "type.__call__" ⟨.ref C::us,kw⟩)):=
 ⟨r.hd,by have:=r.dp;rw [Yy];omega,by have:=r.un;rw [Yx];omega⟩
def Room.depth {k:Nat} {A:aaZ} (r:Room k A):A.depth<recursionLimit:=by have:=r.dp;omega
def Room.units {k:Nat} {A:aaZ} (r:Room k A):A.units+64<cLine:=by have:=r.un;omega
def tNil:TA:=fun _ H Q=>Q [] H
def jdV (ta:TE) (tr:TA):TA:=fun σ H Q=>ta σ H fun x H1=>tr σ H1 fun xs H2=>Q (x::xs) H2
section
variable {X:Cx} {e:Expr} {es:List Expr} {te:TE} {t:TA} {pos:Pos}
def xl:PA X [] tNil:=fun _ _ _ _ H Q I h=>Calls.spliced_nil ⟨[],H,I,.nil,h⟩
def zf (ha:PE X e te) (hr:PA X es t) (hs:T8 X e es:=by rfl):PA X (e::es) (jdV te t):=by
 intro pos pins s σ H Q I h;rw [hs];show wpAny _ _ (spliced ((false,eval e X.env)::abw pos (aao es X.env))) _ _ s;refine Calls.spliced_cons (thn (ha pins s σ H _ I h) fun u s1 ⟨x,H1,I1,r1,q1⟩=>?_);exact thn (hr pos pins s1 σ H1 _ I1 q1) fun us s2 ⟨xs,H2,I2,r2,q2⟩=>⟨x::xs,H2,I2,.cons r1 r2,q2⟩
def tTup (t:TA):TE:=fun σ H Q=>t σ H fun xs H1=>xs.length<=aai/\ ∀p,H1 p=none->Q (.ref p) (upd H1 p (.tup xs))
def tLst (t:TA):TE:=fun σ H Q=>t σ H fun xs H1=>xs.length<=aai/\ ∀p,H1 p=none->Q (.ref p) (upd H1 p (.lst xs))
def jcw {x1} (h:PA X es t):PE X (.Tuple es x1 pos) (tTup t):=by
 intro pins s σ H Q I hq;refine wpAny_Tuple_spliced (thn (h pos pins s σ H _ I hq) fun us s1 ⟨xs,H1,I1,r,z,q⟩=>⟨by rw [←r.length];exact z,?_⟩);have hf:H1 s1.heap.objs.size=none:=I1.hok.fresh (aae _);refine ⟨.ref s1.heap.objs.size,upd H1 s1.heap.objs.size (.tup xs),I1.laid (t':=s1.toks) (fun b u e=>aad _ e) (aae _) ?_,rfl,q _ hf⟩;exact ⟨z,us,r,⟨_,aan _ rfl,rfl,_,rfl⟩⟩
def jcC (h:PA X es t):PE X (.List es pos) (tLst t):=by
 intro pins s σ H Q I hq;refine wpAny_List_spliced (thn (h pos pins s σ H _ I hq) fun us s1 ⟨xs,H1,I1,r,z,q⟩=>⟨by rw [←r.length];exact z,?_⟩);have hf:H1 s1.heap.objs.size=none:=I1.hok.fresh (aae _);refine ⟨.ref s1.heap.objs.size,upd H1 s1.heap.objs.size (.lst xs),I1.laid (t':=s1.toks) (fun b u e=>aad _ e) (aae _) ?_,rfl,q _ hf⟩;exact ⟨z,us,0,r,aan _ rfl⟩
end
abbrev Sp:=List V->Hp->VK->XK->Prop
abbrev CXT:=List Env->Hp->aah->XK->Value->aah->Prop
structure Env0 (P:aaL) (w:World) (K:aaa) (mg:W9) (base:Heap) (A:aaZ) (outer:List Env) (s:aah) (H:Hp):Prop where
 frames:A.frames=some outer
 mod:Mod K mg base
 bs: ∀b o,base.get? b=some o->s.heap.get? b=some o/\H b=none
 bsz:base.objs.size<=s.heap.objs.size
 funs:s.heap.FunFrames base outer
 frf: ∀b∈frs outer,H b=none
 hok:HOk P w H s.heap
 bare:aeT s.gens
def CE (outer:List Env) (P:aaL) (w:World) (H:Hp) (s:aah) (Q:VK) (u:Value) (s':aah):Prop:=
 ∃v H',s'.os=s.os/\aeT s'.gens/\Un (frs outer) [] H H' s.heap s'.heap/\HOk P w H' s'.heap/\RelV v u/\Q v H'
def CR (CX:CXT) (outer:List Env) (P:aaL) (w:World) (H:Hp) (s:aah) (Q:VK) (E:XK) (r:Result) (s':aah):Prop:=
 match r with
 | .ok (.ret u)=>CE outer P w H s Q u s'
 | .ok _=>False
 | .error e=>CX outer H s E e s'
structure FnOk (P:aaL) (w:World) (K:aaa) (mg:W9) (base:Heap) (CX:CXT) (k:Nat) (f:Addr) (fd:ab1) (ps:List Str) (sp:Sp):Prop where
 len: ∀vs H Q E,sp vs H Q E->vs.length=ps.length
 run: ∀(A:aaZ) (outer:List Env) (s:aah) (H:Hp) (args:Args) (us:List Value) (vs:List V) (Q:VK) (E:XK),Room k A->Env0 P w K mg base A outer s H->BindsTo s fd args (ps.zip us)->Vals vs us->sp vs H Q E->
  aeH (model P w) A (.call (.ref f) args) (CR CX outer P w H s Q E) s
def FnOk.mono {P:aaL} {w:World} {K:aaa} {mg:W9} {base:Heap} {CX:CXT} {j k:Nat} {f:Addr} {fd:ab1} {ps:List Str} {sp:Sp} (F:FnOk P w K mg base CX j f fd ps sp) (h:j<=k):
 FnOk P w K mg base CX k f fd ps sp:=⟨F.len,fun A outer s H args us vs Q E hr=>F.run A outer s H args us vs Q E (hr.mono h)⟩
def Env0.make {P:aaL} {w:World} {K:aaa} {mg:W9} {base:Heap} {A:aaZ} {outer:List Env} {s:aah} {H:Hp} (e:Env0 P w K mg base A outer s H) (C:Addr) (us:List Value) (kw:List (Str×Value)):
 Env0 P w K mg base (A.under (.builtin "type.__call__" ⟨.ref C::us,kw⟩)) outer s H:=⟨by first|exact e.frames| (simpa [Around.under,Code.envs,Code.isFrame,pushEnvs] using e.frames),e.mod,e.bs,e.bsz,e.funs,e.frf,e.hok,e.bare⟩
section
variable {X:Cx} {pins:List (Addr×Obj)} {σ:St} {H:Hp} {s s':aah}
def Inv.env0 (I:Inv X pins σ H s):Env0 X.prog X.w X.K X.mg X.base X.A X.stack s H:=
 ⟨I.ok.frames,I.ok.mod,I.bs,aaF I.ok.bsz I.sz,I.stack,I.stkFree,I.hok,I.bare⟩
def Inv.after {Q:VK} {u:Value} (I:Inv X pins σ H s) (h:CE X.stack X.prog X.w H s Q u s'):EP X pins σ Q u s':=by
 obtain ⟨v,H',os,bare,un,hok,r,q⟩:=h;obtain ⟨hh,g,d,t,os'⟩:=s';obtain rfl:os'=s.os:=os;exact ⟨v,H',I.call (h':=hh) (g':=g) (d':=d) (t':=t) (ch:=[]) un hok bare (fun b z=>absurd z (by simp)),r,q⟩
end
def jdW (sp:Sp) (dvs:List V) (E:XK) (t:TA):TE:=fun σ H Q=>t σ H fun vs H1=>sp (vs++dvs) H1 Q E
def jdQ (C:Addr) (m:Str) (sp:Sp) (dvs:List V) (E:XK) (ta:TE) (t:TA):TE:=fun σ H Q=>ta σ H fun x H1=> ∃a dx fs,x= .ref a/\H1 a=some (.ins C dx fs)/\fs.lookup m=none/\
 t σ H1 fun vs H2=>sp (x::(vs++dvs)) H2 Q E
def jdS (C:Addr) (sp:Sp) (dvs:List V) (E:XK) (t:TA):TE:=fun σ H Q=>t σ H fun vs H1=> ∀x dx,H1 x=none->H1 dx=none->dx≠x->
 sp (.ref x::(vs++dvs)) (upd (upd H1 dx (.own x)) x (.ins C dx [])) (fun v H2=>v= .non/\Q (.ref x) H2) E
def Binds (K:aaa) (fd:ab1) (ps:List Str) (ds:List Value):Prop:=
 ∀(s:aah) (us:List Value),K.In s.heap->(us++ds).length=ps.length->BindsTo s fd ⟨us,[]⟩ (ps.zip (us++ds))
def Binds.all {K:aaa} {fd:ab1} {ps:List Str} (h: ∀us:List Value,us.length=ps.length->bindArgs fd ⟨us,[]⟩=pure (ps.zip us)):Binds K fd ps []:=fun s us _ hl=>by
 rw [abe] at hl ⊢;exact .of_eq (h us hl)
def x3 (CX:CXT) (X:Cx) (E:XK):Prop:= ∀(pins:List (Addr×Obj)) (σ:St) (H:Hp) (s:aah) (e:Value) (s':aah),Inv X pins σ H s->CX X.stack H s E e s'->X.xe e s'
section
variable {X:Cx} {CX:CXT} {k:Nat} {f C:Addr} {fd:ab1} {ps:List Str} {sp:Sp} {dvs:List V} {ds:List Value} {E:XK} {x m:Str} {p pos apos:Pos} {e o:Expr} {es:List Expr} {ta:TE} {t:TA}
def vY {pins:List (Addr×Obj)} {σ:St} {H:Hp} {s:aah} {Q:VK} {us:List Value} {vs:List V} (F:FnOk X.prog X.w X.K X.mg X.base CX k f fd ps sp) (hr:Room k X.A) (hb:Binds X.K fd ps ds) (hd:Vals dvs ds) (hx:x3 CX X E)
  (I:Inv X pins σ H s) (r:Vals vs us) (h:sp (vs++dvs) H Q E):wpAny (model X.prog X.w) X.A (call (.ref f) us) (EP X pins σ Q) X.xe s:=by
 have r2:Vals (vs++dvs) (us++ds):=r.append hd;have hl:(us++ds).length=ps.length:=by rw [←r2.length];exact F.len _ _ _ _ h
 refine wpAny_call (adM (F.run X.A X.stack s H ⟨us,[]⟩ (us++ds) (vs++dvs) Q E hr I.env0 (hb s us I.kIn hl) r2 h) fun r s' hq=>?_)
 cases r with
 |error e=>exact hx pins σ H s e s' I hq
 |ok fl=>
  cases fl with
  |ret u=>exact I.after hq
  |next=>exact acl hq
  |brk=>exact acl hq
  |cont=>exact acl hq
def Wj (F:FnOk X.prog X.w X.K X.mg X.base CX k f fd ps sp) (hr:Room k X.A) (hg:Gl X x) (hm:X.mg x=some (.ref f)) (hk:aaY X.K (.ref f)=true) (hb:Binds X.K fd ps ds) (hd:Vals dvs ds) (hx:x3 CX X E)
  (ha:PA X (e::es) t) (hdb:Ym x:=by decide) (he:T8 X e es:=by rfl) (hpl:T7 X pos es:=by rfl):
  PE X (.Call (.Name x p) (e::es) [] pos) (jdW sp dvs E t):=by
 intro pins s σ H Q I h;refine adq (Wx I hg hm ?_ hdb);refine aen (h₀:=X.base) I.ok.mod.kin hk (thn (ha pos pins s σ H _ I h) fun us s1 ⟨vs,H1,I1,r,q⟩=>⟨I1.kIn,?_⟩) he hpl;exact vY F hr hb hd hx I1 r q
def jay {pl:Sem Bool} (he:PE X o ta) (c:Cls X.K C) (hm:Meth X.K C m f) (F:FnOk X.prog X.w X.K X.mg X.base CX k f fd ps sp) (hr:Room k X.A) (hb:Binds X.K fd ps ds) (hd:Vals dvs ds) (hx:x3 CX X E) (ha:PA X (e::es) t)
  (hst:T8 X e es:=by rfl) (hpl:T7 X pos es:=by rfl)
  (ht:eval (.Call (.Attribute o m apos) (e::es) [] pos) X.env=(do
   let ov←eval o X.env
   standAt apos.atName
   let (f,first)←adV [ov] (getMethod ov m pl)
   callWith pos f first (abw pos (aao (e::es) X.env)) (adr pos (acb [] X.env))):=by rfl):
  PE X (.Call (.Attribute o m apos) (e::es) [] pos) (jdQ C m sp dvs E ta t):=by
 intro pins s σ H Q I h;refine PySem.W.methodCall_KW (pl:=pl) (thn (he pins s σ H _ I h) fun u s1 ⟨x,H1,I1,rx,a,dx,fs,ex,ea,l,q⟩=>?_) ht;subst ex;obtain rfl:u=aaK a:=rx;refine YH I1 ea c hm l ?_;refine aen (first:=[.ref a]) (h₀:=X.base) I.ok.mod.kin hm.kp (thn (ha pos pins s1 σ H1 _ I1 q) fun us s2 ⟨vs,H2,I2,r,q2⟩=>⟨I2.kIn,?_⟩) hst hpl;exact vY (us:= .ref a::us) (vs:= .ref a::vs) F hr hb hd hx I2 (.cons rfl r) q2
structure Mk (K:aaa) (C f:Addr):Prop where
 makes:acA K C=true
 init:aa6 K (.ref C) "__init__" =some (some (.ref f))
 fn:aeU K (.ref f)=true
 kp:aaY K (.ref C)=true
def U2 {pins:List (Addr×Obj)} {σ:St} {H:Hp} {s:aah} {Q:VK} {us:List Value} {vs:List V} (M:Mk X.K C f) (F:FnOk X.prog X.w X.K X.mg X.base CX k f fd ps sp) (hr:Room (k+1) X.A) (hb:Binds X.K fd ps ds) (hd:Vals dvs ds)
  (hx:x3 CX X E) (I:Inv X pins σ H s) (r:Vals vs us)
  (h: ∀x dx,H x=none->H dx=none->dx≠x->sp (.ref x::(vs++dvs)) (upd (upd H dx (.own x)) x (.ins C dx [])) (fun v H2=>v= .non/\Q (.ref x) H2) E):
  wpAny (model X.prog X.w) X.A (call (.ref C) us) (EP X pins σ Q) X.xe s:=by
 have hq:=h (s.heap.objs.size+1) s.heap.objs.size (I.hok.fresh (act _)) (I.hok.fresh (aae _)) (aaJ (ada _));have I2:=Inv.made (C:=C) I;have r2:Vals (V.ref (s.heap.objs.size+1)::(vs++dvs)) (aaK (s.heap.objs.size+1)::(us++ds)):= .cons rfl (r.append hd)
 have hl:(aaK (s.heap.objs.size+1)::us++ds).length=ps.length:=by
  have e:=r2.length;rw [F.len _ _ _ _ hq] at e;exact e.symm
 refine wpAny_call (kK (f:=f) I.kIn M.makes M.init (beq_iff_eq.mp M.fn) (adM (F.run _ X.stack _ _ ⟨aaK (s.heap.objs.size+1)::us,[]⟩ (aaK (s.heap.objs.size+1)::(us++ds)) _ _ E (hr.make C us [])
  (I2.env0.make C us []) (hb _ (aaK (s.heap.objs.size+1)::us) I2.kIn hl) r2 hq) fun r s' hq'=>?_))
 cases r with
 |error e=>exact hx pins σ _ _ e s' I2 hq'
 |ok fl=>
  cases fl with
  |ret u=>
   obtain ⟨v,H',I3,rv,ev,q3⟩:=I2.after hq';subst ev;exact ⟨rv,⟨V.ref (s.heap.objs.size+1),H',I3,rfl,q3⟩⟩
  |next=>exact acl hq'
  |brk=>exact acl hq'
  |cont=>exact acl hq'
def jaz (M:Mk X.K C f) (F:FnOk X.prog X.w X.K X.mg X.base CX k f fd ps sp) (hr:Room (k+1) X.A) (hg:Gl X x) (hm:X.mg x=some (.ref C)) (hb:Binds X.K fd ps ds) (hd:Vals dvs ds) (hx:x3 CX X E)
  (ha:PA X (e::es) t) (hdb:Ym x:=by decide) (he:T8 X e es:=by rfl) (hpl:T7 X pos es:=by rfl):
  PE X (.Call (.Name x p) (e::es) [] pos) (jdS C sp dvs E t):=by
 intro pins s σ H Q I h;refine adq (Wx I hg hm ?_ hdb);refine aen (h₀:=X.base) I.ok.mod.kin M.kp (thn (ha pos pins s σ H _ I h) fun us s1 ⟨vs,H1,I1,r,q⟩=>⟨I1.kIn,?_⟩) he hpl;exact U2 M F hr hb hd hx I1 r q
end
structure FnScope (N P:List Str) (sc:Scope):Prop where
 kind:sc.kind= .function
 co:sc.isCoroutine=false
 gen:sc.isGenerator=false
 nd:N.Nodup
 pre:N.take P.length=P
 par: ∀x∈P,sc.names.lookup x=some .local\/sc.names.lookup x=some .cell
 nofree: ∀y∈sc.names,y.2≠ .free
theorem ZX {kindOf:Str->Option NameKind} {x:Str}: ∀ {binds:List (Str×Value)} {m:W9},(∀v,(x,v)∉binds)->bindL kindOf binds m x=m x
 | [],_,_=>rfl
 | (n,v)::r,m,h=>by
  unfold bindL;rw [ZX fun w hw=>h w (aaj _ hw)]
  split
  · have:x≠n:=by rintro rfl;exact h v aam
    simp [this]
  · rfl
theorem ZZ {kindOf:Str->Option NameKind} {x:Str}: ∀ {binds:List (Str×Value)} {m:W9},(∀v,(x,v)∉binds)->bindC kindOf binds m x=m x
 | [],_,_=>rfl
 | (n,v)::r,m,h=>by
  unfold bindC;rw [ZZ fun w hw=>h w (aaj _ hw)]
  split
  · rfl
  · have:x≠n:=by rintro rfl;exact h v aam
    simp [this]
theorem ZY {kindOf:Str->Option NameKind} {x:Str} {v:Value}: ∀ {P:List Str} {vs:List Value} {i:Nat} {m:W9},P.Nodup->P[i]?=some x->vs[i]?=some v->kindOf x=some .local->
  bindL kindOf (P.zip vs) m x=some v
 | [],_,_,_,_,h,_,_=>by simp at h
 |_::_,[],_,_,_,_,h,_=>by simp at h
 |p::P,w::vs,0,m,nd,h1,h2,hk=>by
  simp at h1 h2;subst h1;subst h2;show bindL kindOf ((p,w)::P.zip vs) m p=_;unfold bindL;rw [ZX fun v hv=>(aa5.mp nd).1 (List.of_mem_zip hv).1,if_pos hk];simp
 |p::P,w::vs,i+1,m,nd,h1,h2,hk=>by
  show bindL kindOf ((p,w)::P.zip vs) m x=_;unfold bindL;exact ZY (i:=i) (aa5.mp nd).2 (by simpa using h1) (by simpa using h2) hk
theorem Z0 {kindOf:Str->Option NameKind} {x:Str} {v:Value}: ∀ {P:List Str} {vs:List Value} {i:Nat} {m:W9},P.Nodup->P[i]?=some x->vs[i]?=some v->kindOf x≠some .local->
  bindC kindOf (P.zip vs) m x=some v
 | [],_,_,_,_,h,_,_=>by simp at h
 |_::_,[],_,_,_,_,h,_=>by simp at h
 |p::P,w::vs,0,m,nd,h1,h2,hk=>by
  simp at h1 h2;subst h1;subst h2;show bindC kindOf ((p,w)::P.zip vs) m p=_;unfold bindC;rw [ZZ fun v hv=>(aa5.mp nd).1 (List.of_mem_zip hv).1,if_neg hk];simp
 |p::P,w::vs,i+1,m,nd,h1,h2,hk=>by
  show bindC kindOf ((p,w)::P.zip vs) m x=_;unfold bindC;exact Z0 (i:=i) (aa5.mp nd).2 (by simpa using h1) (by simpa using h2) hk
def start (N:List Str) (vs:List V):St:=vs.map some++aal (N.length-vs.length) none
def cxOf (CX:CXT) (P:aaL) (w:World) (K:aaa) (mg:W9) (base:Heap) (N:List Str) (qual:Str) (scope:Scope) (f:Addr) (cd:Value) (A:aaZ) (outer:List Env) (s:aah) (H:Hp) (E:XK):Cx where
 prog:=P
 w:=w
 K:=K
 mg:=mg
 base:=base
 A:=A.deeper (adN qual scope s.heap.objs.size f cd)
 N:=N
 s₀:=s
 H₀:=H
 env:=adN qual scope s.heap.objs.size f cd
 outer:=outer
 stack:=adN qual scope s.heap.objs.size f cd::outer
 ex:=[]
 calm:=true
 fn:=fun _=>true
 pn:=[]
 xe:=fun e s'=>wpAny (model P w) (A.deeper (adN qual scope s.heap.objs.size f cd)) (leaving (adN qual scope s.heap.objs.size f cd) e) (fun _ s''=>CX outer H s E e s'') (fun e' s''=>CX outer H s E e' s'') s'
def X1 {sc:Scope} {n:Nat} {x:Str} (h:sc.names.lookup x=some .cell): ∃c,(cellsFrom n sc.names []).lookup x=some c:=by
 have q:=PySem.W.cellsFrom_some sc.names n [] (.inl h);exact acC.mp q
def VA {CX:CXT} {P:aaL} {w:World} {K:aaa} {mg:W9} {base:Heap} {N ps:List Str} {qual:Str} {scope:Scope} {f:Addr} {cd:Value} {A:aaZ} {outer:List Env} {s s1:aah} {H:Hp} {E:XK} {us:List Value} {vs:List V}
   (S:FnScope N ps scope) (hd:A.handled=none) (e0:Env0 P w K mg base A outer s H) (hl:vs.length=ps.length) (r:Vals vs us)
   (x:InCallC s s.heap.objs.size (bindL (adN qual scope s.heap.objs.size f cd).kindOf (ps.zip us) fun _=>none) (cellsFrom (s.heap.objs.size+1) scope.names []) (bindC (adN qual scope s.heap.objs.size f cd).kindOf (ps.zip us) fun _=>none) s1):
   Inv (cxOf CX P w K mg base N qual scope f cd A outer s H E) [] (start N vs) H s1:=by
 have hpl:ps.length<=N.length:=by have:=congrArg List.length S.pre;rw [aeM] at this;omega
 obtain ⟨h1,tk,rfl,hk⟩:=x.done;have noA: ∀b:Addr,b∉(cxOf CX P w K mg base N qual scope f cd A outer s H E).ex:=fun b z=>absurd (show b∈([]:List Addr) from z) (by simp)
 refine ⟨⟨e0.mod,S.kind,rfl,rfl,aae _,fun y z c h1 h2=>?_,fun y hy=>?_,fun y c _ h=>?_,fun _=>hd,Around.frames_deeper e0.frames,.inr ⟨rfl,rfl⟩,fun b z=>absurd z (noA b),e0.bs,e0.bsz,fun b _ _=>noA b,fun b z=>absurd z (noA b),e0.funs,e0.frf⟩,
   rfl,e0.bare,Un.kept hk,⟨_,x.toInCall.ns,fun i y v h1 h2 h3=>?_⟩,fun y c h=>⟨_,x.cell y c h⟩,e0.hok.fresh (aae _),fun y c h=>?_,fun p hp=>absurd (show p∈([]:List (Addr×Obj)) from hp) (by simp),e0.hok.kept hk,?_⟩
 · exact name_of_addr x.apart (abJ h1) (abJ h2)
 · have hy:scope.names.lookup y=some .cell\/scope.names.lookup y=some .free:=hy;rcases hy with hy|hy
   · exact X1 hy
   · exact absurd rfl (S.nofree _ (abJ hy))
 · exact aek (x.above y c (abJ h))
 · have hi:i<vs.length:=by
     unfold start at h2
     by_cases hi:i<vs.length
     · exact hi
     · rw [aap (by simpa using hi)] at h2;rw [abb] at h2
       split at h2<;>cases h2
   have ha:vs[i]?=some v:=by
     unfold start at h2;rw [aaA (by simpa using hi),aaG] at h2
     cases e:vs[i]? with
     |none=>rw [e] at h2;cases h2
     |some a=>rw [e] at h2;cases h2;rfl
   obtain ⟨u,hu,rv⟩:=r.get ha
   have hp:ps[i]?=some y:=by
     rw [←S.pre,adi (by omega)];exact h1
   have ndP:ps.Nodup:=by rw [←S.pre];exact S.nd.sublist (List.take_sublist _ _)
   refine ⟨u,rv,?_⟩;rcases S.par y (aaN hp) with k|k
   · exact .inl ⟨k,ZY ndP hp hu k⟩
   · obtain ⟨c,e⟩:=X1 (n:=s.heap.objs.size+1) k;refine .inr ⟨.inl k,c,e,?_⟩;have q:=x.cell y c e;rw [Z0 ndP hp hu (by show scope.names.lookup y≠_;rw [k];decide)] at q;exact q
 · exact e0.hok.fresh (aek (x.above y c (abJ h)))
 · unfold start;show _=N.length;rw [aaE,aak,adO];omega
def jeu {CX:CXT} {P:aaL} {w:World} {K:aaa} {mg:W9} {base:Heap} {k:Nat} {f:Addr} {name qual:Str} {params:Arguments} {body:List Stmt} {scope:Scope} {dV kV doc pm cdv ct oc:Value} {an od:Option Addr}
  {osl:Array (Option Value)} {N ps:List Str} {sp:Sp} (lk:K.lookup f=some ⟨oc,od,.func (aco name qual params body scope dV kV doc pm an cdv ct),osl⟩) (hcd:adA K cdv qual=true) (S:FnScope N ps scope)
  (len: ∀vs H Q E,sp vs H Q E->vs.length=ps.length)
  (hbody: ∀(A:aaZ) (outer:List Env) (s:aah) (H:Hp) (vs:List V) (Q:VK) (E:XK),Room k (A.deeper (adN qual scope s.heap.objs.size f cdv))->sp vs H Q E->
    ∃t,PSs (cxOf CX P w K mg base N qual scope f cdv A outer s H E) body t/\t {nx:=fun _ H'=>Q .non H',rt:=Q} (start N vs) H):
  FnOk P w K mg base CX (k+1) f (aco name qual params body scope dV kV doc pm an cdv ct) ps sp:=by
 refine ⟨len,fun A outer s H args us vs Q E hr e0 hb r hsp=>?_⟩;have hl:=len _ _ _ _ hsp;have KX:K.In s.heap:=e0.mod.kin.keeps fun b o e=>(e0.bs b o e).1
 have lim:s.heap.NoLimit:=e0.mod.nolimit.keeps fun b o e=>(e0.bs b o e).1
 have hkind: ∀y∈ps.zip us,scope.names.lookup y.1=some .local\/(scope.names.lookup y.1=some .cell/\((cellsFrom (s.heap.objs.size+1) scope.names []).lookup y.1).isSome=true):=fun ⟨n,v⟩ hy=>by
  rcases S.par n (List.of_mem_zip hy).1 with q|q
  · exact .inl q
  · exact .inr ⟨q,PySem.W.cellsFrom_some _ _ _ (.inl q)⟩
 refine codeAny_call_function hr.depth (KX _ _ lk) rfl S.co S.gen rfl (PySem.W.codeRec_of KX hcd) (hb _ _ _ _ ?_);refine wpAny_newFunctionEnv_cells S.kind hkind fun env he s1 x=>?_
 subst he;refine ⟨lim.keeps x.toInCall.keep,codeAny_func ?_⟩;obtain ⟨t,ht,hq⟩:=hbody A outer s H vs Q E (hr.deeper _) hsp;have I:Inv (cxOf CX P w K mg base N qual scope f cdv A outer s H E) [] (start N vs) H s1:=VA S hr.hd e0 hl r x;refine abT (ht [] s1 (start N vs) H _ I hq) (fun fl s' hs=>?_) fun e s' hs=>hs
 have fin: ∀ {σ':St} {H':Hp} {v:V} {u:Value},Inv (cxOf CX P w K mg base N qual scope f cdv A outer s H E) [] σ' H' s'->RelV v u->Q v H'->CE outer P w H s Q u s':=
  fun {σ' H' v u} J rv q=>⟨v,H',J.os,J.bare,J.base,J.hok,rv,q⟩
 cases fl with
 |ret u=>
  obtain ⟨v,σ',H',J,rv,q⟩:=hs;exact fin J rv q
 |next=>
  obtain ⟨σ',H',J,q⟩:=hs;exact fin (v:=V.non) (u:=abD) J rfl q
 |brk=>
  obtain ⟨_,_,_,q⟩:=hs;exact acl q
 |cont=>
  obtain ⟨_,_,_,q⟩:=hs;exact acl q
section
variable {X:Cx} {x:Str} {p pos:Pos} {e:Expr} {es:List Expr} {t:TA} {id T:String} {r:List V->Hp->VK->Prop}
def tCB (r:List V->Hp->VK->Prop) (t:TA):TE:=fun σ H Q=>t σ H fun vs H1=>r vs H1 Q
def yy (hc:CallR X (.builtin id) r) (hg:Gl X x) (hm:X.mg x=none) (hv:abo x=some (.builtin id)) (ha:PA X (e::es) t) (hn:x≠ "__name__" :=by decide) (hdb:Ym x:=by decide)
  (he:T8 X e es:=by rfl) (hpl:T7 X pos es:=by rfl):PE X (.Call (.Name x p) (e::es) [] pos) (tCB r t):=by
 intro pins s σ H Q I h;refine adq (JQ I hg hm hv ?_ hn hdb);exact PyProof.Rows.callWith_builtin1 (thn (ha pos pins s σ H _ I h) fun us s1 ⟨vs,H1,I1,r1,q1⟩=>hc pins s1 σ H1 vs us Q I1 r1 q1) he hpl
def yO (hc:CallR X (.type T) r) (hg:Gl X x) (hm:X.mg x=none) (hv:abo x=some (.type T)) (ha:PA X (e::es) t) (hn:x≠ "__name__" :=by decide) (hdb:Ym x:=by decide)
  (he:T8 X e es:=by rfl) (hpl:T7 X pos es:=by rfl):PE X (.Call (.Name x p) (e::es) [] pos) (tCB r t):=by
 intro pins s σ H Q I h;refine adq (JQ I hg hm hv ?_ hn hdb);exact ab9 (thn (ha pos pins s σ H _ I h) fun us s1 ⟨vs,H1,I1,r1,q1⟩=>hc pins s1 σ H1 vs us Q I1 r1 q1) he hpl
end
end L2
namespace HT
open PySem PyProof.Rows
section
variable {prog:aaL} {w:World} {A:aaZ} {E:T9} {s:aah}
def cat_tup {t b:Addr} {vs ws:List Value} {Q:T9} (ht:IsTup s.heap t vs.toArray) (hb:IsTup s.heap b ws.toArray) (hv:vs≠[])
   (h1:ws=[]->Q (.ref t) s) (h2:ws≠[]->Q (.ref s.heap.objs.size) {s with heap:=s.heap.push {cls:= .type "tuple",data:= .seq (vs++ws).toArray}})
   (hsz:vs.length+ws.length<=aai):wpAny (model prog w) A (acg .Add (.ref t) (.ref b)) Q E s:=by
 obtain ⟨⟨cls,dd,data,sl⟩,ho,hc,n,hd⟩:=id ht;obtain ⟨⟨cls2,dd2,data2,sl2⟩,ho2,hc2,n2,hd2⟩:=id hb;simp only at hc hd hc2 hd2;subst hc hd hc2 hd2;have e:vs.toArray++ws.toArray=(vs++ws).toArray:=by simp
 by_cases hw:ws=[]
 · exact concat_meets ⟨_,ho,rfl⟩ ⟨_,ho2,rfl⟩ noFill_tuple_add seq_tuple_add PySem.F.slot_tuple_add PySem.F.entry_tuple_add (PySem.F.args_tuple_add_2 _ _)
    (tuple_addW1 t b vs.toArray ws.toArray n n2 dd dd2 sl sl2 (by simpa using hv) (by simp [hw])) ⟨ho,ho2,h1 hw⟩
 · refine concat_meets ⟨_,ho,rfl⟩ ⟨_,ho2,rfl⟩ noFill_tuple_add seq_tuple_add PySem.F.slot_tuple_add PySem.F.entry_tuple_add (PySem.F.args_tuple_add_2 _ _)
    (tuple_addW2 t b vs.toArray ws.toArray n n2 dd dd2 sl sl2 (by simpa using hv) (by simpa using hw) (by rw [aag,aag];exact hsz)) ⟨ho,ho2,?_⟩
   rw [e];exact h2 hw
def sIx (n d:Nat):Option Int->Nat
 |none=>d
 |some v=>if v<0 then (v+(n:Int)).toNat else min v.toNat n
def sIx_none (n d:Nat):sIx n d none=d:=rfl
def sIx_nat (n d k:Nat):sIx n d (some (k:Int))=min k n:=by
 show (if (k:Int)<0 then ((k:Int)+(n:Int)).toNat else min (k:Int).toNat n)=min k n;rw [if_neg (by omega),abK]
def jca (n d:Nat) (hd:d<=n) (o:Option Int):sIx n d o<=n:=by
 cases o with
 |none=>exact hd
 |some v=>
  show (if v<0 then (v+(n:Int)).toNat else min v.toNat n)<=n
  by_cases hv:v<0
  · rw [if_pos hv];omega
  · rw [if_neg hv];exact Nat.min_le_right _ _
def UD (v:Int) (n d:Nat):(if v<0 then max (v+(n:Int)) 0 else min v (n:Int))=((sIx n d (some v):Nat):Int):=by
 show (if v<0 then max (v+(n:Int)) 0 else min v (n:Int))=(((if v<0 then (v+(n:Int)).toNat else min v.toNat n):Nat):Int)
 by_cases hv:v<0
 · simp only [if_pos hv];omega
 · simp only [if_neg hv];omega
def YV (lo hi:Option Int) (n:Nat):ac3 lo hi 1 (n:Int)=(((sIx n 0 lo:Nat):Int),((sIx n n hi:Nat):Int)):=by
 have h1: ¬((1:Int)<0):=by omega
 unfold ac3;simp only [h1,if_false];refine Prod.ext ?_ ?_
 · cases lo with
   |none=>rfl
   |some v=>exact UD v n 0
 · cases hi with
   |none=>rfl
   |some v=>exact UD v n n
def Yo (i j:Nat):acu (i:Int) (j:Int) 1=j-i:=by
 unfold acu;have h1:(1:Int)>0:=by omega
 simp only [h1,if_true,Int.ediv_one]
 split<;>omega
def JH {v:Value} {o:Option Int} {Q:Option Int->aah->Prop} (p:IsPart v o) (h:Q o s):wpAny (model prog w) A (Builtin.Slice.slicePartIndex v) Q E s:=by
 cases p with
 |none=>exact slicePart_none h
 |int i t=>exact slicePart_int h
def sliceApplied_gen {sl:Addr} {vl vu:Value} {lo hi:Option Int} {n:Nat} {Q:Int×Int×Nat->aah->Prop} (hs:s.heap.IsSliceOf sl vl vu .none) (pl:IsPart vl lo) (pu:IsPart vu hi)
  (h:Q (((sIx n 0 lo:Nat):Int),1,sIx n n hi-sIx n 0 lo) s):wpAny (model prog w) A (aei (.ref sl) (pure (n:Int))) Q E s:=by
 obtain ⟨os,hos,hcs,hds⟩:=id hs;unfold aei Builtin.Slice.sliceFields;refine aab (aab (adG hos hds (x:=vl) rfl (aab (adG hos hds (x:=vu) rfl (aab (adG hos hds (x:= .none) rfl (aaf ?_)))))));refine aab (slicePart_none ?_);show wpAny _ _ (if ((1:Int)==0)=true then _ else _) _ _ s;rw [if_neg (by decide)];refine aab (JH pl (aab (JH pu (aab (aaf ?_)))));show wpAny _ _ (match ac3 lo hi 1 (n:Int) with| (lo,hi)=>pure (lo,(1:Int),acu lo hi 1)) _ _ s;rw [YV lo hi n];show wpAny _ _ (pure (((sIx n 0 lo:Nat):Int),(1:Int),acu ((sIx n 0 lo:Nat):Int) ((sIx n n hi:Nat):Int) 1)) _ _ s;rw [Yo];exact aaf h
def kf (xs:Array Value) (i k:Nat):((aaT k).filterMap fun (m:Nat)=>xs[((i:Int)+(m:Int)*1).toNat]?).toArray=((xs.toList.drop i).take k).toArray:=by
 have e:(fun (m:Nat)=>xs[((i:Int)+(m:Int)*1).toNat]?)=fun m=>xs[i+m]?:=by
  funext m;have:((i:Int)+(m:Int)*1).toNat=i+m:=by omega
  rw [this]
 rw [e];have:=pick_run xs i k;rw [List.filterMap_map] at this;have e2:((fun x=>xs[x]?) ∘ fun x=>i+x)=fun m=>xs[i+m]?:=rfl
 rw [e2] at this;rw [this]
def getItem_tuple_cut {t sl:Addr} {items:Array Value} {vl vu:Value} {lo hi:Option Int} {Q:T9} (ht:IsTup s.heap t items) (hs:s.heap.IsSliceOf sl vl vu .none) (pl:IsPart vl lo) (pu:IsPart vu hi)
  (hw: ¬(sIx items.size 0 lo=0/\sIx items.size items.size hi=items.size))
  (h:Q (.ref s.heap.objs.size) {s with heap:=s.heap.push {cls:= .type "tuple",data:= .seq ((items.toList.drop (sIx items.size 0 lo)).take (sIx items.size items.size hi-sIx items.size 0 lo)).toArray}})
  (hsz:items.size<=aai):wpAny (model prog w) A (aet (.ref t) (.ref sl)) Q E s:=by
 have htake:sizeOk (.seq ((items.toList.drop (sIx items.size 0 lo)).take (sIx items.size items.size hi-sIx items.size 0 lo)).toArray):=by
  show ((items.toList.drop (sIx items.size 0 lo)).take (sIx items.size items.size hi-sIx items.size 0 lo)).toArray.size<=aai;rw [aag,aeM,List.length_drop,aaD];omega
 have hj:sIx items.size items.size hi<=items.size:=jca _ _ (aae _) hi;obtain ⟨os,hos,hcs,hds⟩:=id hs;have hTs:s.TypeIs (.ref sl) "slice" :=⟨os,hos,hcs⟩
 unfold aet
 try with_reducible refine aba ?_
 first|refine aab (aaf ?_)|skip
 refine aab (wpAny_sequenceKey ht.typeIs (by decide) ?_)
 refine aab (abA (name:=Str.ofString "__getitem__") ht.typeIs aa3
  (abW aa3 ht.typeIs entry_tuple_getitem ?_ (args_tuple_getitem _ _)))
 show wpAny _ _ (aej (.ref t)>>=_) _ _ s;refine aab (tupleItemsOf_ ht ?_);refine aab (adP hTs ?_);rw [if_pos (by decide)];refine aab (sliceApplied_gen hs pl pu ?_)
 have hno: ¬((((sIx items.size 0 lo:Nat):Int)==0&&(1:Int)==1&&(sIx items.size items.size hi-sIx items.size 0 lo)==items.size)=true):=by
  intro q;rw [aax,aax] at q;have q1:((sIx items.size 0 lo:Nat):Int)=0:=eq_of_beq q.1.1;have q2:sIx items.size items.size hi-sIx items.size 0 lo=items.size:=eq_of_beq q.2;exact hw ⟨by omega,by omega⟩
 show wpAny _ _ (if (((sIx items.size 0 lo:Nat):Int)==0&&(1:Int)==1&&(sIx items.size items.size hi-sIx items.size 0 lo)==items.size)=true then _ else _) _ _ s;rw [if_neg hno,kf]
 first
  |exact aab (m:=acD _) (abn (aaf ⟨_,rfl,aaf h⟩) htake)
  |exact aab (m:=acD _) (abn (aab (aaf (aaf ⟨_,rfl,aaf h⟩))) htake)
  |exact aab (aab (m:=acD _) (abn (aaf (aaf ⟨_,rfl,aaf h⟩)) htake))
  |exact aab (aab (m:=acD _) (abn (aaf ⟨_,rfl,aaf h⟩) htake))
end
end HT
namespace L2
open PySem PySem.Spec PyProof.Rows
abbrev TO:=St->Hp->(Option Int->Hp->Prop)->Prop
def PO (X:Cx) (e:Option Expr) (t:TO):Prop:=
 ∀(pins:List (Addr×Obj)) (s:aah) (σ:St) (H:Hp) (Q:Option Int->Hp->Prop),Inv X pins σ H s->t σ H Q->
  wpAny (model X.prog X.w) X.A (evalPart e X.env) (fun u s'=> ∃o H',Inv X pins σ H' s'/\IsPart u o/\Q o H') X.xe s
def uY:TO:=fun _ H Q=>Q none H
def jdL (t:TE):TO:=fun σ H Q=>t σ H fun x H1=> ∃i,x= .int i/\Q (some i) H1
section
variable {X:Cx} {e:Expr} {te:TE} {lo hi:Option Expr} {tl th:TO} {pos p2:Pos}
def jar:PO X none uY:=by
 intro pins s σ H Q I h;rw [evalPart_none];exact aaf ⟨none,H,I,.none,h⟩
def jaq (h:PE X e te):PO X (some e) (jdL te):=by
 intro pins s σ H Q I hw;rw [evalPart_some];refine thn (h pins s σ H _ I hw) fun u s1 ⟨x,H1,I1,r1,q1⟩=>?_
 obtain ⟨i,rfl,q⟩:=q1;obtain ⟨t,rfl⟩:=r1;exact ⟨some i,H1,I1,.int i t,q⟩
def SlR (X:Cx) (r:V->Option Int->Option Int->Hp->VK->Prop):Prop:=
 ∀(pins:List (Addr×Obj)) (s:aah) (σ:St) (H:Hp) (x:V) (v vl vu:Value) (lo hi:Option Int) (sl:Addr) (Q:VK),Inv X pins σ H s->RelV x v->s.heap.IsSliceOf sl vl vu .none->IsPart vl lo->IsPart vu hi->r x lo hi H Q->
  ∃T id,typeLookup (.type T) "__getitem__" =pure (some (.builtin id))/\s.TypeIs v T/\wpAny (model X.prog X.w) X.A (aet v (.ref sl)) (EP X pins σ Q) X.xe s
def SlR.or {r r':V->Option Int->Option Int->Hp->VK->Prop} (h:SlR X r) (h':SlR X r'):SlR X (fun x lo hi H Q=>r x lo hi H Q\/r' x lo hi H Q):=by
 intro pins s σ H x v vl vu lo hi sl Q I rx hs pl pu q;rcases q with q|q
 · exact h pins s σ H x v vl vu lo hi sl Q I rx hs pl pu q
 · exact h' pins s σ H x v vl vu lo hi sl Q I rx hs pl pu q
def tSl (r:V->Option Int->Option Int->Hp->VK->Prop) (te:TE) (tl th:TO):TE:=fun σ H Q=>te σ H fun x H1=>tl σ H1 fun l H2=>th σ H2 fun u H3=>r x l u H3 Q
def Xk {r:V->Option Int->Option Int->Hp->VK->Prop} (hr:SlR X r) (he:PE X e te) (hl:PO X lo tl) (hu:PO X hi th):PE X (.Subscript e (.Slice lo hi none p2) pos) (tSl r te tl th):=by
 intro pins s σ H Q I h;refine Subscript_ (thn (he pins s σ H _ I h) fun v s1 ⟨x,H1,I1,r1,q1⟩=>?_);refine wpAny_Slice (thn (hl pins s1 σ H1 _ I1 q1) fun vl s2 ⟨l,H2,I2,pl,q2⟩=>thn (hu pins s2 σ H2 _ I2 q2) fun vu s3 ⟨u,H3,I3,pu,q3⟩=>?_);rw [evalPart_none];refine aaf ?_;have I4:Inv X pins σ H3 {s3 with heap:=s3.heap.push {cls:= .type "slice",data:= .fields #[vl,vu,.none]}}:=I3.kept (t':=s3.toks) fun b ob q=>aad _ q
 obtain ⟨T,id,hT,ht,hg⟩:=hr pins {s3 with heap:=s3.heap.push {cls:= .type "slice",data:= .fields #[vl,vu,.none]}} σ H3 x v vl vu l u s3.heap.objs.size Q I4 r1 (Heap.IsSliceOf.new ..) pl pu q3;show wpAny (model X.prog X.w) X.A (subscriptTail e (.Slice lo hi none p2) v (.ref s3.heap.objs.size)) (EP X pins σ Q) X.xe {s3 with heap:=s3.heap.push {cls:= .type "slice",data:= .fields #[vl,vu,.none]}};exact tail_any (ops:=[.ref s3.heap.objs.size,v]) ht hT hg (by with_unfolding_all rfl)
def cutV (xs:List V) (lo hi:Option Int):List V:=(xs.drop (HT.sIx xs.length 0 lo)).take (HT.sIx xs.length xs.length hi-HT.sIx xs.length 0 lo)
def Jj (xs:List V) (lo hi:Option Int):(cutV xs lo hi).length<=xs.length:=by
 unfold cutV;rw [aeM,List.length_drop];omega
def rSlT (K:aaa):V->Option Int->Option Int->Hp->VK->Prop:=fun x lo hi H Q=> ∃a xs,x= .ref a/\SqT K H a xs/\
 ¬(HT.sIx xs.length 0 lo=0/\HT.sIx xs.length xs.length hi=xs.length)/\ ∀p,H p=none->Q (.ref p) (upd H p (.tup (cutV xs lo hi)))
def sl_tup:SlR X (rSlT X.K):=by
 intro pins s σ H x v vl vu lo hi sl Q I rx hs pl pu h;obtain ⟨a,xs,rfl,hx,hw,q⟩:=h;cases rx;obtain ⟨its,r,ht,hz⟩:=I.tuple hx;have hlen:its.toArray.size=xs.length:=by rw [aag];exact r.length.symm
 refine ⟨"tuple",_,aa3.lookup,ht.typeIs,?_⟩;refine HT.getItem_tuple_cut ht hs pl pu (by rw [hlen];exact hw) ?_ (by rw [hlen];exact hz);rw [hlen];refine ⟨.ref s.heap.objs.size,_,I.laid (t':=s.toks) (o:= .tup (cutV xs lo hi)) (fun b ob q=>aad _ q) (aae _) ?_,rfl,q _ (I.hok.fresh (aae _))⟩;exact ⟨aaF (Jj xs lo hi) hz,_,(r.drop (HT.sIx xs.length 0 lo)).take (HT.sIx xs.length xs.length hi-HT.sIx xs.length 0 lo),IsTup.new _ _⟩
def jaj (K:aaa):R2:=fun x y H Q=> ∃a b xs ys,x= .ref a/\y= .ref b/\SqT K H a xs/\SqT K H b ys/\xs≠[]/\xs.length+ys.length<=aai/\
 (ys=[]->Q (.ref a) H)/\(ys≠[]-> ∀p,H p=none->Q (.ref p) (upd H p (.tup (xs++ys))))
def Vals.nil_iff {xs:List V} {us:List Value} (r:Vals xs us):us=[]↔xs=[]:=by
 cases r with
 |nil=>simp
 |cons _ _=>simp
def jaG:OpR X (acg .Add) (jaj X.K):=by
 intro pins s σ H x y v u Q I rx ry h;obtain ⟨a,b,xs,ys,rfl,rfl,ha,hb,hx,hz,q1,q2⟩:=h;cases rx;cases ry;obtain ⟨its,r1,p1,_⟩:=I.tuple ha;obtain ⟨its2,r2,p2,_⟩:=I.tuple hb;refine HT.cat_tup p1 p2 (fun z=>hx (r1.nil_iff.mp z)) (fun z=>⟨.ref a,H,I,rfl,q1 (r2.nil_iff.mp z)⟩) (fun z=>?_) (by rw [←r1.length,←r2.length];exact hz);refine ⟨.ref s.heap.objs.size,_,I.laid (t':=s.toks) (o:= .tup (xs++ys)) (fun b ob q=>aad _ q) (aae _) ?_,rfl,q2 (fun w=>z (r2.nil_iff.mpr w)) _ (I.hok.fresh (aae _))⟩;exact ⟨by rw [aaE];exact hz,_,r1.append r2,IsTup.new _ _⟩
end
def ixN (n:Nat) (i:Int):Option Nat:=if 0<=i then (if i<n then some i.toNat else none) else if-(n:Int)<=i then some (i+n).toNat else none
def atI {α:Type} (xs:List α) (i:Int):Option α:=(ixN xs.length i).bind fun j=>xs[j]?
def Vv {n:Nat} {i:Int} {j:Nat} (h:ixN n i=some j):seqIndex? i n=some j/\j<n/\ -(n:Int)<=i/\i<n:=by
 unfold ixN at h
 by_cases h0:0<=i
 · rw [if_pos h0] at h
   by_cases h1:i<n
   · rw [if_pos h1] at h;have e:i.toNat=j:=aaI h;exact ⟨by rw [seqIndex_of h0 h1,e],by omega,by omega,h1⟩
   · rw [if_neg h1] at h;cases h
 · rw [if_neg h0] at h
   by_cases h1: -(n:Int)<=i
   · rw [if_pos h1] at h;have e:(i+n).toNat=j:=aaI h;exact ⟨by rw [seqIndex_neg (by omega) h1,e],by omega,h1,by omega⟩
   · rw [if_neg h1] at h;cases h
def WX {α:Type} {xs:List α} {i:Int} {v:α} (h:atI xs i=some v): ∃j,seqIndex? i xs.length=some j/\xs[j]?=some v/\j<xs.length/\ -(xs.length:Int)<=i/\i<xs.length:=by
 unfold atI at h
 cases e:ixN xs.length i with
 |none=>rw [e] at h;cases h
 |some j=>
  rw [e] at h;obtain ⟨h1,h2,h3,h4⟩:=Vv e;exact ⟨j,h1,h,h2,h3,h4⟩
def atI_nat {α:Type} {xs:List α} {j:Nat} {v:α} (h:xs[j]?=some v):atI xs (j:Int)=some v:=by
 have hj:j<xs.length:=(aaz.mp h).1
 have e:ixN xs.length (j:Int)=some j:=by
  unfold ixN;rw [if_pos (by omega),if_pos (by omega)];simp
 unfold atI;rw [e];exact h
def QW (b:Expr):Prop:= ∀o i,subscripted b false o i=operate [o,i] (aet o i)
def IxR (X:Cx) (r:R2):Prop:=
 ∀(value slice:Expr) (pins:List (Addr×Obj)) (s:aah) (σ:St) (H:Hp) (x y:V) (v u:Value) (Q:VK),Inv X pins σ H s->RelV x v->RelV y u->r x y H Q->
  subscripted slice false v u=operate [v,u] (aet v u)->wpAny (model X.prog X.w) X.A (subscriptTail value slice v u) (EP X pins σ Q) X.xe s
def MtR (X:Cx) (id:String) (r:V->List V->Hp->VK->Prop):Prop:=
 ∀(pins:List (Addr×Obj)) (s:aah) (σ:St) (H:Hp) (x:V) (xs:List V) (v:Value) (us:List Value) (Q:VK),Inv X pins σ H s->RelV x v->Vals xs us->r x xs H Q->
  wpAny (model X.prog X.w) X.A (call (.builtin id) (v::us)) (EP X pins σ Q) X.xe s
section
variable {X:Cx} {a b:Expr} {ta tb:TE} {pos:Pos}
def IxR.or {r r':R2} (h:IxR X r) (h':IxR X r'):IxR X (fun x y H Q=>r x y H Q\/r' x y H Q):=by
 intro value slice pins s σ H x y v u Q I rx ry q hs;rcases q with q|q
 · exact h value slice pins s σ H x y v u Q I rx ry q hs
 · exact h' value slice pins s σ H x y v u Q I rx ry q hs
def MtR.or {id:String} {r r':V->List V->Hp->VK->Prop} (h:MtR X id r) (h':MtR X id r'):MtR X id (fun x xs H Q=>r x xs H Q\/r' x xs H Q):=by
 intro pins s σ H x xs v us Q I rx rs q;rcases q with q|q
 · exact h pins s σ H x xs v us Q I rx rs q
 · exact h' pins s σ H x xs v us Q I rx rs q
def jaA {r:R2} (hr:IxR X r) (ha:PE X a ta) (hb:PE X b tb) (hs:QW b):PE X (.Subscript a b pos) (tOp r ta tb):=by
 intro pins s σ H Q I h;exact Subscript_ (binT ha hb I h fun v u s2 x y H2 I2 rx ry q=>hr a b pins s2 σ H2 x y v u Q I2 rx ry q (hs _ _))
def rIxL (K:aaa):R2:=fun x y H Q=> ∃p xs i v,x= .ref p/\y= .int i/\SqL K H p xs/\atI xs i=some v/\Q v H
def rIxT (K:aaa):R2:=fun x y H Q=> ∃p xs i v,x= .ref p/\y= .int i/\SqT K H p xs/\atI xs i=some v/\Q v H
def rIxS:R2:=fun x y H Q=> ∃z i c,x= .str z/\y= .int i/\z.length<=aai/\atI z.cps.toList i=some c/\Q (.str ⟨#[c]⟩) H
def ix_list:IxR X (rIxL X.K):=by
 intro value slice pins s σ H x y v u Q I rx ry h hs;obtain ⟨p,xs,i,z,rfl,rfl,hq,he,q⟩:=h;cases rx;obtain ⟨t,rfl⟩:=ry;obtain ⟨its,r,pl,hz⟩:=I.list hq;obtain ⟨j,h1,h2,h3,h4,h5⟩:=WX he;obtain ⟨w,ew,rw'⟩:=r.get h2;have hl:=r.length;have hn:=yX;have fin:EP X pins σ Q w s:=⟨z,H,I,rw',q⟩
 by_cases h0:0<=i
 · have hj:i.toNat=j:=by
    rw [seqIndex_of h0 h5] at h1;exact aaI h1
   exact item_listR pl.isList h0 (by omega) (by rw [hj];simpa using ew) fin hs
 · have hj:(i+(its.toArray.size:Int)).toNat=j:=by
    rw [seqIndex_neg (by omega) h4] at h1;rw [aag,←hl];exact aaI h1
   exact subscriptTail_builtinR (x:=w) pl.isList.typeIs slot_list_getitem.lookup
    (wpAny_getItem_list_neg (Q:=fun r s'=>r=w/\EP X pins σ Q r s') pl.isList (by omega) (by rw [aag]<;>omega) (by omega) (by rw [hj];simpa using ew) ⟨rfl,fin⟩) hs
def ix_tup:IxR X (rIxT X.K):=by
 intro value slice pins s σ H x y v u Q I rx ry h hs;obtain ⟨p,xs,i,z,rfl,rfl,hq,he,q⟩:=h;cases rx;obtain ⟨t,rfl⟩:=ry;obtain ⟨its,r,pl,hz⟩:=I.tuple hq;obtain ⟨j,h1,h2,h3,h4,h5⟩:=WX he;obtain ⟨w,ew,rw'⟩:=r.get h2;have hl:=r.length;have hn:=yX;have fin:EP X pins σ Q w s:=⟨z,H,I,rw',q⟩
 exact subscriptTail_builtinR (x:=w) pl.typeIs aa3.lookup
  (getItem_tuple (j:=j) (Q:=fun r s'=>r=w/\EP X pins σ Q r s') pl (by omega) (by omega) (by rw [aag,←hl];exact h1) (by simpa using ew) ⟨rfl,fin⟩) hs
def jc8:IxR X rIxS:=by
 intro value slice pins s σ H x y v u Q I rx ry h hs;obtain ⟨z,i,c,rfl,rfl,hz,he,q⟩:=h;obtain ⟨t,rfl⟩:=rx;obtain ⟨t',rfl⟩:=ry;obtain ⟨j,h1,h2,h3,h4,h5⟩:=WX he;have hl:z.cps.toList.length=z.length:=by simp [Str.length]
 rw [hl] at h1 h4 h5;have hn:=yX
 exact tail_any (typeIs_str s z t) slot_str_getitem.lookup (getItem_str (c:=c) (by
  have e1:decide (i< -(2^63:Int))=false:=decide_eq_false (by omega);have e2:decide (i>=2^63)=false:=decide_eq_false (by omega)
  rw [e1,e2,Bool.or_false]) (by rw [h1];simpa using h2) ⟨.str ⟨#[c]⟩,H,I.tok _,⟨_,rfl⟩,q⟩) hs
def rIx (K:aaa):R2:=fun x y H Q=>rIxL K x y H Q\/rIxT K x y H Q\/rIxS x y H Q
def jc9:IxR X (rIx X.K):=ix_list.or (ix_tup.or jc8)
def Yw (its:List Value) (n j:Nat) (u:Value):acJ (·.setIfInBounds j u) {cls:= .type "list",data:= .seq its.toArray n}={cls:= .type "list",data:= .seq (its.set j u).toArray n}:=by
 simp [acJ]
def Inv.lst {pins:List (Addr×Obj)} {σ:St} {H:Hp} {s:aah} {p:Addr} {xs:List V} (I:Inv X pins σ H s) (h:H p=some (.lst xs)):
  ∃(its:List Value) (n:Nat),Vals xs its/\s.heap.get? p=some {cls:= .type "list",data:= .seq its.toArray n}/\xs.length<=aai:=by
 obtain ⟨z,its,n,r,e⟩:=I.hok p _ h;exact ⟨its,n,r,e,z⟩
def Inv.lstUpd {pins:List (Addr×Obj)} {σ:St} {H:Hp} {s:aah} {p:Addr} {xs ys:List V} {its its':List Value} {n n':Nat} {f:Obj->Obj} (I:Inv X pins σ H s) (h:H p=some (.lst xs))
  (ho:s.heap.get? p=some {cls:= .type "list",data:= .seq its.toArray n}) (hf:f {cls:= .type "list",data:= .seq its.toArray n}={cls:= .type "list",data:= .seq its'.toArray n'}) (r:Vals ys its') (hz:ys.length<=aai) (t:Nat):
  Inv X pins σ (upd H p (.lst ys)) {s with heap:=s.heap.update p f,toks:=t}:=by
 have e:(s.heap.update p f).get? p=some {cls:= .type "list",data:= .seq its'.toArray n'}:=by
  rw [acP f ho (by rw [hf]<;>rfl),hf]
 refine I.write (x:=p) (e:=p) (by rw [h];trivial) (.inl rfl) (fun b u hb q=>(ach _ _ (acK hb)).trans q) ⟨_,e⟩ ?_;exact ⟨hz,its',n',r,e⟩
def jd6:V->V->V->Hp->(Hp->Prop)->Prop:=fun o i v H Q=> ∃p xs k j,o= .ref p/\i= .int k/\H p=some (.lst xs)/\ixN xs.length k=some j/\Q (upd H p (.lst (xs.set j v)))
def U0:PSet X jd6:=by
 intro pins s σ H o i v ov iv u Q I ro ri rv h;obtain ⟨p,xs,k,j,rfl,rfl,hp,hj,q⟩:=h;cases ro;obtain ⟨t,rfl⟩:=ri;obtain ⟨its,n,r,ho,hz⟩:=I.lst hp;obtain ⟨h1,h2,h3,h4⟩:=Vv hj;have hl:=r.length;have hn:=yX
 have I':Inv X pins σ (upd H p (.lst (xs.set j v))) {s with heap:=s.heap.update p (acJ (·.setIfInBounds j u))}:=
   I.lstUpd hp ho (Yw its n j u) (r.set rv j) (by rw [List.length_set];exact hz) s.toks
 by_cases h0:0<=k
 · have hk:k.toNat=j:=by
    rw [seqIndex_of h0 h4] at h1;exact aaI h1
   exact PySem.W.ki_setAt ho h0 (by omega) (by rw [aag,←hl];exact h4) (by rw [hk];exact ⟨_,I',q⟩)
 · have hk:(k+(its.toArray.size:Int)).toNat=j:=by
    rw [seqIndex_neg (by omega) h3] at h1;rw [aag,←hl];exact aaI h1
   exact PySem.W.ki_setBack ho (by omega) (by rw [aag,←hl];exact h3) (by omega) (by rw [hk];exact ⟨_,I',q⟩)
def Q8 (lo hi:Option Int) (n:Nat):(adH lo hi none n).1=((HT.sIx n 0 lo:Nat):Int)/\(adH lo hi none n).2.1=((HT.sIx n n hi:Nat):Int)/\(adH lo hi none n).2.2=1:=by
 refine ⟨?_,?_,rfl⟩
 · cases lo with
   |none=>simp [adH,HT.sIx]
   |some i=>
    simp only [adH,HT.sIx,aeN,show (1:Int)>0 by decide,if_true]
    by_cases h:i<0
    · simp only [h,if_true]<;>omega
    · simp only [h,if_false]<;>omega
 · cases hi with
   |none=>simp [adH,HT.sIx]
   |some i=>
    simp only [adH,HT.sIx,aeN,show (1:Int)>0 by decide,if_true]
    by_cases h:i<0
    · simp only [h,if_true]<;>omega
    · simp only [h,if_false]<;>omega
def J9 (its:List Value) (lo hi:Option Int):slicePick its.toArray lo hi none=((its.drop (HT.sIx its.length 0 lo)).take (HT.sIx its.length its.length hi-HT.sIx its.length 0 lo)).toArray:=by
 obtain ⟨h1,h2,h3⟩:=Q8 lo hi its.toArray.size;unfold slicePick;rw [h1,h2,h3];simp only [sliceRange_one,pick_run,aag]<;>rfl
def rSlL (K:aaa):V->Option Int->Option Int->Hp->VK->Prop:=fun x lo hi H Q=> ∃a xs,x= .ref a/\SqL K H a xs/\ ∀p,H p=none->Q (.ref p) (upd H p (.lst (cutV xs lo hi)))
def sl_list:SlR X (rSlL X.K):=by
 intro pins s σ H x v vl vu lo hi sl Q I rx hs pl pu h;obtain ⟨a,xs,rfl,hx,q⟩:=h;cases rx;obtain ⟨its,r,ht,hz⟩:=I.list hx;have hlen:=r.length;refine ⟨"list",_,slot_list_getitem.lookup,ht.isList.typeIs,?_⟩;refine wpAny_getItem_list_slice ht.isList hs pl pu .none (by simp) ?_ (by rw [aag]<;>omega);rw [J9,←hlen];refine ⟨.ref s.heap.objs.size,_,I.laid (t':=s.toks) (o:= .lst (cutV xs lo hi)) (fun b ob q=>aad _ q) (aae _) ?_,rfl,q _ (I.hok.fresh (aae _))⟩;exact ⟨aaF (Jj xs lo hi) hz,_,0,(r.drop (HT.sIx xs.length 0 lo)).take (HT.sIx xs.length xs.length hi-HT.sIx xs.length 0 lo),aan _ rfl⟩
def call_len_seq:CallR X (.builtin "len") (fun xs H Q=> ∃p ys,xs=[.ref p]/\(SqL X.K H p ys\/SqT X.K H p ys)/\Q (.int ys.length) H):=by
 intro pins s σ H xs us Q I r h;obtain ⟨p,ys,rfl,hq,q⟩:=h;obtain ⟨u,rfl,rx⟩:=yo r;cases rx;have hn:=yX;rcases hq with hq|hq
 · obtain ⟨its,r',pl,hz⟩:=I.list hq;have hlen:=r'.length;exact Calls.call_len_list pl.isList (by simp only [aag]<;>omega) ⟨.int ys.length,H,I.tok _,⟨s.toks+1,by rw [aag,hlen]⟩,q⟩
 · obtain ⟨its,r',pl,hz⟩:=I.tuple hq;have hlen:=r'.length;exact len_tuple pl (by simp only [aag]<;>omega) ⟨.int ys.length,H,I.tok _,⟨s.toks+1,by rw [aag,hlen]⟩,q⟩
def ZT:CallR X (.builtin "len") (fun xs H Q=> ∃z,xs=[.str z]/\z.length<=aai/\Q (.int z.length) H):=by
 intro pins s σ H xs us Q I r h;obtain ⟨z,rfl,hz,q⟩:=h;obtain ⟨u,rfl,t,rfl⟩:=yo r;have hn:=yX;exact len_str (by omega) ⟨.int z.length,H,I.tok _,⟨_,rfl⟩,q⟩
def CallR.or {f:Value} {r r':List V->Hp->VK->Prop} (h:CallR X f r) (h':CallR X f r'):CallR X f (fun xs H Q=>r xs H Q\/r' xs H Q):=by
 intro pins s σ H xs us Q I rs q;rcases q with q|q
 · exact h pins s σ H xs us Q I rs q
 · exact h' pins s σ H xs us Q I rs q
def ZS:CallR X (.type "list") (fun xs H Q=> ∃p ys,xs=[.ref p]/\(SqL X.K H p ys\/SqT X.K H p ys)/\ ∀l,H l=none->Q (.ref l) (upd H l (.lst ys))):=by
 intro pins s σ H xs us Q I r h;obtain ⟨p,ys,rfl,hq,q⟩:=h;obtain ⟨u,rfl,rx⟩:=yo r;cases rx
 have fin: ∀(its:List Value),Vals ys its->ys.length<=aai-> ∀(h':Heap) (c':Nat),(∀b o',s.heap.get? b=some o'->h'.get? b=some o')->
    h'.get? s.heap.objs.size=some {cls:= .type "list",dict:=none,data:= .seq its.toArray c',slots:= #[]}->EP X pins σ Q (.ref s.heap.objs.size) {s with heap:=h'}:=fun its r' hz h' c' kp e=>
   ⟨.ref s.heap.objs.size,_,I.laid (t':=s.toks) kp (aae _) (show ObjOk X.prog X.w _ h' _ (.lst ys) from ⟨hz,its,c',r',e⟩),rfl,q _ (I.hok.fresh (aae _))⟩
 rcases hq with hq|hq
 · obtain ⟨its,r',pl,hz⟩:=I.list hq;have hlen:=r'.length;obtain ⟨o,ho,hc,n,hd⟩:=pl.isList;exact call_list_seq p (.inl rfl) ho hc hd (fun h' c' kp e=>fin its r' hz h' c' kp e) (by simp only [aag]<;>omega)
 · obtain ⟨its,r',pl,hz⟩:=I.tuple hq;have hlen:=r'.length;obtain ⟨o,ho,hc,n,hd⟩:=pl;exact call_list_seq p (.inr rfl) ho hc hd (fun h' c' kp e=>fin its r' hz h' c' kp e) (by simp only [aag]<;>omega)
def wf:CallR X (.type "tuple") (fun xs H Q=> ∃p ys,xs=[.ref p]/\((SqL X.K H p ys/\ ∀l,H l=none->Q (.ref l) (upd H l (.tup ys)))\/(SqT X.K H p ys/\Q (.ref p) H))):=by
 intro pins s σ H xs us Q I r h;obtain ⟨p,ys,rfl,h⟩:=h;obtain ⟨u,rfl,rx⟩:=yo r;cases rx;rcases h with ⟨hq,q⟩| ⟨hq,q⟩
 · obtain ⟨its,r',pl,hz⟩:=I.list hq;have hlen:=r'.length;refine call_tuple_list pl.isList (fun h' kp=>?_) (by simp only [aag]<;>omega);have I1:Inv X pins σ H {s with heap:=h'}:=I.kept (t':=s.toks) kp
   have I2:Inv X pins σ (upd H h'.objs.size (.tup ys)) {s with heap:=h'.push {cls:= .type "tuple",data:= .seq its.toArray}}:=
    I1.laid (t':=s.toks) (fun b o e=>aad _ e) (aae _) (show ObjOk X.prog X.w _ _ _ (.tup ys) from ⟨hz,its,r',IsTup.new _ _⟩)
   exact ⟨.ref h'.objs.size,_,I2,rfl,q _ (I1.hok.fresh (aae _))⟩
 · obtain ⟨its,r',pl,hz⟩:=I.tuple hq;exact call_tuple_same pl ⟨.ref p,H,I,rfl,q⟩
def tyV (K:aaa) (T:String) (x:V) (H:Hp):Prop:=match x with
 | .str _=>T= "str"
 | .int _=>T= "int"
 | .ref p=>(T= "list" /\ ∃xs,SqL K H p xs)\/(T= "tuple" /\ ∃o,K.lookup p=some o/\o.cls= .type "tuple" /\o.dict=none)\/
  (T= "dict" /\((∃kvs,H p=some (.dK kvs))\/ ∃kvs,H p=some (.dT kvs)))\/(T= "set" /\ ∃S n,H p=some (.set S n))
 |_=>False
def jbU {pins:List (Addr×Obj)} {σ:St} {H:Hp} {s:aah} {T:String} {x:V} {v:Value} (I:Inv X pins σ H s) (r:RelV x v) (ty:tyV X.K T x H):
  s.TypeIs v T/\ ∀a,v= .ref a-> ∃ob,s.heap.get? a=some ob/\ob.dict=none:=by
 cases x with
 |str z=>
  obtain ⟨t,rfl⟩:=r;cases (show T= "str" from ty);exact ⟨typeIs_str s z t,fun _ e=>nomatch e⟩
 |int i=>
  obtain ⟨t,rfl⟩:=r;cases (show T= "int" from ty);exact ⟨typeIs_int s i t,fun _ e=>nomatch e⟩
 |ref p=>
  cases r;rcases ty with ⟨rfl,xs,hq⟩| ⟨rfl,o,hk,hc,hd⟩| ⟨rfl,hk⟩| ⟨rfl,S,n,hk⟩
  · obtain ⟨its,_,pl,_⟩:=I.list hq;refine ⟨pl.isList.typeIs,fun a e=>?_⟩;cases e;obtain ⟨o,n,e,c,hd,_⟩:=pl;exact ⟨o,e,hd⟩
  · refine ⟨⟨o,I.kIn p o hk,hc⟩,fun a e=>?_⟩;cases e;exact ⟨o,I.kIn _ o hk,hd⟩
  · have z: ∃o,s.heap.get? p=some o/\o.ExactDict:=by
     rcases hk with ⟨kvs,hk⟩| ⟨kvs,hk⟩
     · obtain ⟨_,_,_,_,o,_,_,e,ex,_⟩:=I.hok p _ hk;exact ⟨o,e,ex⟩
     · obtain ⟨_,_,_,_,o,_,_,e,ex,_⟩:=I.hok p _ hk;exact ⟨o,e,ex⟩
    obtain ⟨o,e,ex⟩:=z;refine ⟨⟨o,e,ex.1⟩,fun a e2=>?_⟩;cases e2;exact ⟨o,e,ex.2.1⟩
  · obtain ⟨o,_,_,_,e,ex,_⟩:=I.hok p _ hk;refine ⟨⟨o,e,ex.1⟩,fun a e2=>?_⟩;cases e2;exact ⟨o,e,ex.2.1⟩
 |_=>exact acl ty
def tBM (K:aaa) (T:String) (r:V->List V->Hp->VK->Prop) (to:TE) (t:TA):TE:=fun σ H Q=>to σ H fun x H1=>tyV K T x H1/\t σ H1 fun xs H2=>r x xs H2 Q
variable {o e:Expr} {es:List Expr} {to:TE} {t:TA} {name:Str} {apos cpos:Pos} {T id:String} {r:V->List V->Hp->VK->Prop}
def KL (pa:PlainAttrs T) (slot:Slot T name id) (hty:typeOf (.builtin id)=pure (.type "method_descriptor")) (hm:MtR X id r) (ho:PE X o to) (ha:PA X (e::es) t)
  (hbase:aa4 o name X.env (eval o X.env)=eval o X.env:=by rfl)
  (hfew:((abw cpos (aao (e::es) X.env)).all (fun x=>!x.1)&&(adr cpos (acb [] X.env)).all (fun x=>x.1.isSome)
   &&decide ((e::es).length+([]:List acQ).length+(if ([]:List acQ).isEmpty then 0 else 1)<30))=true:=by rfl)
  (hline:(apos.endLine==cpos.line)=true:=by rfl) (hs:T8 X e es:=by rfl) (hplain:T7 X cpos es:=by rfl):
  PE X (.Call (.Attribute o name apos) (e::es) [] cpos) (tBM X.K T r to t):=by
 intro pins s σ H Q I h;refine wpAny_Call_method_late hbase hfew hline rfl (thn (ho pins s σ H _ I h) fun v s1 ⟨x,H1,I1,r1,ty,q1⟩=>?_);obtain ⟨h1,h2⟩:=jbU I1 r1 ty;refine ⟨T,id,pa,slot,hty,h1,h2,?_⟩;have hA:=ha cpos pins s1 σ H1 _ I1 q1;rw [hs] at hA ⊢;refine Calls.callWith_builtin (by show (false|| (abw cpos (aao es X.env)).any (·.1))=false;rw [hplain]<;>rfl) (Calls.evalArgs_plain ?_);exact thn hA fun us s2 ⟨vs,H2,I2,r2,q2⟩=>hm pins s2 σ H2 x vs v us Q I2 r1 r2 q2
/-xs.append(e),list.index on a module's tuple .. are MtR facts of 06m-/
end
def MtM (X:Cx) (id:String) (r:V->List V->Hp->VK->Prop):Prop:=
 ∀(pins:List (Addr×Obj)) (s:aah) (σ:St) (H:Hp) (x:V) (xs:List V) (v:Value) (us:List Value) (Q:VK),Inv X pins σ H s->RelV x v->Vals xs us->r x xs H Q->
  wpAny (model X.prog X.w) X.A (call (.builtin id) (v::us)) (EP X pins σ Q) X.xe s
theorem Vals.one: ∀ {x:V} {us:List Value},Vals [x] us-> ∃u,us=[u]/\RelV x u
 |_,_,.cons r .nil=>⟨_,rfl,r⟩
theorem Vals.eraseIdx: ∀ {xs:List V} {us:List Value} (i:Nat),Vals xs us->Vals (xs.eraseIdx i) (us.eraseIdx i)
 |_,_,_,.nil=> .nil
 |_,_,0,.cons _ t=>t
 |_,_,i+1,.cons r t=> .cons r (Vals.eraseIdx i t)
theorem Vals.rep {xs:List V} {us:List Value} (h:Vals xs us): ∀k:Nat,Vals (aal k xs).flatten (aal k us).flatten
 |0=> .nil
 |k+1=>by
  rw [aa1,aa1,ab5,ab5];exact Vals.append h (Vals.rep h k)
theorem Zs {α:Type}: ∀(l:List α) (i:Nat),(l.eraseIdx i).length<=l.length
 | [],_=>aae _
 |_::_,0=>act _
 |_::r,i+1=>Nat.succ_le_succ (Zs r i)
theorem ZF (its:List Value): ∀(k:Nat) (acc:List Value),
  List.foldl (fun x1 x2=>x1++x2) acc.toArray (aal k its.toArray)=(acc++(aal k its).flatten).toArray
 |0,acc=>by simp
 |k+1,acc=>by
  have e:acc.toArray++its.toArray=(acc++its).toArray:=by simp
  have e2:(acc++its)++(aal k its).flatten=acc++(aal (k+1) its).flatten:=by
   rw [aa1,ab5,aaS]
  rw [←e2,←ZF its k (acc++its),←e,aa1,aec]
section
variable {X:Cx} {pins:List (Addr×Obj)} {σ:St} {H:Hp} {s:aah} {l b:Addr} {xs ys zs:List V}
def Inv.lset {its its':List Value} {n:Nat} {f:Array Value->Array Value} {t':Nat} (I:Inv X pins σ H s) (hH:H l=some (.lst xs))
  (e:s.heap.get? l=some {cls:= .type "list",data:= .seq its.toArray n}) (hf:f its.toArray=its'.toArray) (hv:Vals ys its') (hz:ys.length<=aai):
  Inv X pins σ (upd H l (.lst ys)) {s with heap:=s.heap.update l (acJ f),toks:=t'}:=by
 have q:=PySem.IsL.update e f;rw [hf] at q;refine I.write (x:=l) (e:=l) (by rw [hH];exact trivial) (.inl rfl) (fun b' u hb hu=>(ach s.heap (acJ f) (acK hb)).trans hu) ⟨_,q⟩ ?_;exact ⟨hz,its',_,hv,q⟩
def Inv.lnew {its:List Value} {t':Nat} (I:Inv X pins σ H s) (hv:Vals ys its) (hz:ys.length<=aai):
  Inv X pins σ (upd H s.heap.objs.size (.lst ys)) {s with heap:=s.heap.push {cls:= .type "list",data:= .seq its.toArray},toks:=t'}:=
 I.laid (fun _ _ q=>aad _ q) (aae _) ⟨hz,its,0,hv,aan _ rfl⟩
def Inv.fresh (I:Inv X pins σ H s):H s.heap.objs.size=none:=I.hok.fresh (aae _)
def Inv.lstM (I:Inv X pins σ H s) (hH:H l=some (.lst xs)):xs.length<=aai/\ ∃(its:List Value) (n:Nat),Vals xs its/\xs.length=its.length/\s.heap.get? l=some {cls:= .type "list",data:= .seq its.toArray n}:=by
 obtain ⟨z,its,n,r,e⟩:=I.hok l _ hH;exact ⟨z,its,n,r,r.length,e⟩
def Qw {n:Nat} (h:n<=aai):aby n=false:=by
 unfold aby
 exact decide_eq_false (by omega)
end
section
variable {X:Cx}
def jak:V->List V->Hp->VK->Prop:=fun x vs H Q=> ∃l xs y,x= .ref l/\vs=[y]/\H l=some (.lst xs)/\xs.length<aai/\Q .non (upd H l (.lst (xs++[y])))
def yV:MtM X "list.append" jak:=by
 intro pins s σ H x vs v us Q I rx rv h;obtain ⟨l,xs,y,rfl,rfl,hH,hz,q⟩:=h;cases rx;obtain ⟨u,rfl,ru⟩:=rv.one;obtain ⟨z,its,n,r,hl,e⟩:=I.lstM hH;refine ad5 adB ⟨_,e,rfl⟩ F.entry_list_append (F.args_list_append_2 _ _) (PySem.list_append l its.toArray n u (by rw [aag];omega)) ⟨e,?_⟩;refine ⟨.non,_,I.lset (its':=its++[u]) hH e (by simp) (r.append (.cons ru .nil)) ?_,rfl,q⟩;rw [aaE,List.length_singleton];omega
def jai:V->List V->Hp->VK->Prop:=fun x vs H Q=> ∃l b xs zs,x= .ref l/\vs=[.ref b]/\H l=some (.lst xs)/\H b=some (.lst zs)/\xs.length+zs.length<=aai/\Q .non (upd H l (.lst (xs++zs)))
def Vf:MtM X "list.extend" jai:=by
 intro pins s σ H x vs v us Q I rx rv h;obtain ⟨l,b,xs,zs,rfl,rfl,hH,hB,hz,q⟩:=h;cases rx;obtain ⟨u,rfl,ru⟩:=rv.one;cases ru;obtain ⟨z,its,n,r,hl,e⟩:=I.lstM hH;obtain ⟨z2,its2,n2,r2,hl2,e2⟩:=I.lstM hB;have hsz:its.toArray.size+its2.toArray.size<=aai:=by rw [aag,aag];omega
 have hlong: ¬(!its.toArray.isEmpty&&aby (its.toArray.size+its2.toArray.size))=true:=by
  rw [Qw hsz,Bool.and_false];exact aaH
 refine ad5 ad0 ⟨_,e,rfl⟩ F.entry_list_extend (F.args_list_extend_2 _ _)
  (AutoSeq1.list_extend_list_list_0 l its.toArray n b its2.toArray n2 hlong (by rw [aag];omega) (by omega)) ⟨e,e2,?_⟩
 refine ⟨.non,_,I.lset (its':=its++its2) hH e (by simp) (r.append r2) ?_,rfl,q⟩;rw [aaE];omega
def jcg:V->List V->Hp->VK->Prop:=fun x vs H Q=> ∃l xs i k y,x= .ref l/\vs=[.int i]/\H l=some (.lst xs)/\ -(2^63)<=i/\i<2^63/\seqIndex? i xs.length=some k/\xs[k]?=some y/\Q y (upd H l (.lst (xs.eraseIdx k)))
def kH:MtM X "list.pop" jcg:=by
 intro pins s σ H x vs v us Q I rx rv h;obtain ⟨l,xs,i,k,y,rfl,rfl,hH,h1,h2,hk,hy,q⟩:=h;cases rx;obtain ⟨u,rfl,ru⟩:=rv.one;obtain ⟨t,rfl⟩:=ru;obtain ⟨z,its,n,r,hl,e⟩:=I.lstM hH;obtain ⟨w,hw,rw'⟩:=r.get hy
 refine ad5 F.slot_list_pop ⟨_,e,rfl⟩ F.entry_list_pop (F.args_list_pop_2 _ _)
   (MeetsSeq.list_pop_at l its.toArray n i t k w (fitsIndex_both h1 h2) (by rw [aag,←hl];exact hk) (by rw [←aav];exact hw) (by rw [aag];omega)) ⟨e,?_⟩
 refine ⟨y,_,I.lset (its':=its.eraseIdx k) hH e ?_ (r.eraseIdx k) ?_,rw',q⟩
 · show its.toArray.eraseIdxIfInBounds k=(its.eraseIdx k).toArray;rw [List.eraseIdxIfInBounds_toArray]
 · have:=Zs xs k;omega
def rCat:R2:=fun x y H Q=> ∃l b xs zs,x= .ref l/\y= .ref b/\H l=some (.lst xs)/\H b=some (.lst zs)/\xs.length+zs.length<=aai/\ ∀p,H p=none->Q (.ref p) (upd H p (.lst (xs++zs)))
def op_cat:OpR X (acg .Add) rCat:=by
 intro pins s σ H x y v u Q I rx ry h;obtain ⟨l,b,xs,zs,rfl,rfl,hH,hB,hz,q⟩:=h;cases rx;cases ry;obtain ⟨z,its,n,r,hl,e⟩:=I.lstM hH;obtain ⟨z2,its2,n2,r2,hl2,e2⟩:=I.lstM hB;refine PySem.P.add_list e e2 ?_ (by rw [aag,aag];omega);have ea:its.toArray++its2.toArray=(its++its2).toArray:=by simp
 rw [ea];exact ⟨.ref _,_,I.lnew (t':=s.toks) (r.append r2) (by rw [aaE];omega),rfl,q _ I.fresh⟩
def rRep:R2:=fun x y H Q=> ∃l k xs,x= .ref l/\y= .int k/\H l=some (.lst xs)/\ -(2^63)<=k/\k<2^63/\xs.length*k.toNat<=aai/\
 ∀p,H p=none->Q (.ref p) (upd H p (.lst (aal k.toNat xs).flatten))
def jaZ {α:Type} (xs:List α) (k:Nat):(aal k xs).flatten.length=k*xs.length:=by
 induction k with
 |zero=>simp
 |succ k ih=>rw [aa1,ab5,aaE,ih,Nat.succ_mul,Nat.add_comm]
def jcG:OpR X (acg .Mult) rRep:=by
 intro pins s σ H x y v u Q I rx ry h;obtain ⟨l,k,xs,rfl,rfl,hH,h1,h2,hz,q⟩:=h;cases rx;obtain ⟨t,rfl⟩:=ry;obtain ⟨z,its,n,r,hl,e⟩:=I.lstM hH;have hlen:its.toArray.size*k.toNat<=aai:=by rw [aag,←hl];exact hz
 have hcap: ¬its.toArray.size*k.toNat>(2^63-1)/8:=by
  have:(aai:Nat)<=(2^63-1)/8:=by decide
  omega
 have hfit: ¬(!Builtin.List.listFitsIndex k)=true:=by
  rw [fitsIndex_both h1 h2];exact aaH
 have hlong: ¬aby (its.toArray.size*k.toNat)=true:=by
  rw [Qw hlen];exact aaH
 have hnew:List.foldl (fun x1 x2=>x1++x2) #[] (aal (if its.toArray.isEmpty=true then 0 else k.toNat) its.toArray)=(aal k.toNat its).flatten.toArray:=by
  have f0: ∀m:Nat,List.foldl (fun x1 x2=>x1++x2) #[] (aal m its.toArray)=(aal m its).flatten.toArray:=fun m=>by
   have:=ZF its m [];rw [aed] at this;exact this
  rw [f0]
  cases its with
  |nil=>simp
  |cons a r'=>rw [if_neg (by simp)]
 refine wpAny_binaryOp_repeat_ref (T:= "list") (U:= "int") (by decide) ⟨_,e,rfl⟩ (fun s'=>typeIs_int s' k t) noFill_list_mul F.fills_int_mul F.slot_int_rmul repeat_list F.slot_int_index.lookup
  (ad5 F.slot_int_rmul (typeIs_int s k t) F.entry_int_rmul (F.args_int_rmul_2 _ _) (int___rmul___int_list k t l its.toArray n)
   ⟨e,rfl,⟨_,e,rfl⟩,ad5 F.slot_list_mul ⟨_,e,rfl⟩ F.entry_list_mul (F.args_list_mul_2 _ _) (AutoListH.list___mul___list_int_3 l its.toArray n k t hfit hcap hlong) ⟨e,?_⟩⟩)
 rw [hnew];exact ⟨.ref _,_,I.lnew (t':=s.toks) (r.rep k.toNat) (by rw [jaZ,Nat.mul_comm];exact hz),rfl,q _ I.fresh⟩
end
section
variable {κ:Type} [DecidableEq κ]
def valV (kvs:List (κ×V)) (k:κ):Option V:=(kvs.find? fun kv=>decide (kv.1=k)).map (·.2)
def putK (kvs:List (κ×V)) (k:κ) (v:V):List (κ×V):=
 if (kvs.any fun kv=>decide (kv.1=k))=true then kvs.map (fun kv=>if kv.1=k then (kv.1,v) else kv) else kvs++[(k,v)]
def J2 {p:κ×V} {r:List (κ×V)} {k:κ} (e:p.1=k):valV (p::r) k=some p.2:=by simp [valV,acd,e]
def J3 {p:κ×V} {r:List (κ×V)} {k:κ} (e: ¬p.1=k):valV (p::r) k=valV r k:=by simp [valV,acd,e]
theorem J4 (k:κ): ∀kvs:List (κ×V),(kvs.any fun kv=>decide (kv.1=k))=(valV kvs k).isSome
 | []=>rfl
 |p::r=>by
  rw [ads]
  by_cases e:p.1=k
  · simp only [J2 e,decide_eq_true e,Bool.true_or,Option.isSome_some]
  · rw [J3 e,decide_eq_false e,Bool.false_or];exact J4 k r
def yY (kvs:List (κ×V)) (k:κ) (v:V):(putK kvs k v).length<=kvs.length+1:=by
 unfold putK
 split
 · rw [aak];omega
 · rw [aaE,aau,aca];omega
def RelO.isSome_eq {o:Option V} {u:Option Value} (r:RelO o u):o.isSome=u.isSome:=by
 cases o with
 |none=>cases u with
  |none=>rfl
  |some _=>exact (show False from r).elim
 |some _=>cases u with
  |none=>exact (show False from r).elim
  |some _=>rfl
def KV.val {kvs:List (κ×V)} {vs:List (κ×Value)} (r:KV kvs vs) (k:κ):RelO (valV kvs k) (valueAt vs k):=by
 unfold KV at r
 induction r with
 |nil=>exact acB
 | @cons p q ps qs h t ih=>
  obtain ⟨h1,h2⟩:=h
  by_cases e:p.1=k
  · have e':q.1=k:=h1.symm.trans e;have b:valueAt (q::qs) k=some q.2:=by simp [valueAt,acd,e']
    rw [J2 e,b];exact h2
  · have e': ¬q.1=k:=fun z=>e (h1.trans z)
    have b:valueAt (q::qs) k=valueAt qs k:=by simp [valueAt,acd,e']
    rw [J3 e,b];exact ih
def KV.any {kvs:List (κ×V)} {vs:List (κ×Value)} (r:KV kvs vs) (k:κ):(kvs.any fun kv=>decide (kv.1=k))=vs.any fun kv=>decide (kv.1=k):=by
 unfold KV at r
 induction r with
 |nil=>rfl
 |cons h t ih=>rw [ads,ads,ih,h.1]
def KV.repl {kvs:List (κ×V)} {vs:List (κ×Value)} (r:KV kvs vs) (k:κ) {y:V} {u:Value} (ry:RelV y u):
  KV (kvs.map fun kv=>if kv.1=k then (kv.1,y) else kv) (vs.map fun kv=>if kv.1=k then (kv.1,u) else kv):=by
 unfold KV at r ⊢
 induction r with
 |nil=>exact .nil
 | @cons p q ps qs h t ih=>
  rw [aat,aat];refine .cons ?_ ih;obtain ⟨h1,h2⟩:=h
  by_cases e:p.1=k
  · rw [if_pos e,if_pos (h1.symm.trans e)];exact ⟨h1,ry⟩
  · rw [if_neg e,if_neg (fun z=>e (h1.trans z))];exact ⟨h1,h2⟩
def KV.put {kvs:List (κ×V)} {vs:List (κ×Value)} (r:KV kvs vs) (k:κ) {y:V} {u:Value} (ry:RelV y u):KV (putK kvs k y) (stored vs k u):=by
 unfold putK stored;rw [r.any k]
 by_cases e:(vs.any fun kv=>decide (kv.1=k))=true
 · rw [if_pos e,if_pos e];exact r.repl k ry
 · rw [if_neg e,if_neg e];exact Paired.snoc r ⟨rfl,ry⟩
def KV.length {kvs:List (κ×V)} {vs:List (κ×Value)} (r:KV kvs vs):kvs.length=vs.length:=ado r
end
def kO {P:aaL} {w:World} {k:Key} {u:Value} (r:RelV (kV k) u):(jF P w).is k u=true:=by
 cases k with
 |inl i=>obtain ⟨t,e⟩:=(show∃t,u=Value.int i t from r);subst e;exact Wu P w i t
 |inr x=>obtain ⟨t,e⟩:=(show∃t,u=Value.str x t from r);subst e;exact Wt P w x t
theorem Zu {P:aaL} {w:World}: ∀ {ks:List Key} {us:List Value},Vals (ks.map kV) us->ItemsAre (jF P w) ks us
 | [],_,r=>by rw [List.map_nil] at r;cases r;exact .nil
 |k::ks,_,r=>by
  rw [aat] at r
  cases r with
  |cons h t=>exact .cons (kO h) (Zu t)
abbrev KT (H:Hp):List (List Key×V)->List (List Key×Addr×Value)->Prop:=aeK fun p q=>p.1=q.1/\H q.2.1=some (.tup (p.1.map kV))/\RelV p.2 q.2.2
def KT.val {H:Hp} {kvs:List (List Key×V)} {xs:List (List Key×Addr×Value)} (r:KT H kvs xs) (k:List Key):RelO (valV kvs k) ((atKey xs k).map (·.2)):=by
 induction r with
 |nil=>exact acB
 | @cons p q ps qs h t ih=>
  obtain ⟨h1,_,h2⟩:=h
  by_cases e:p.1=k
  · have e':q.1=k:=h1.symm.trans e;have b:atKey (q::qs) k=some q.2:=by simp [atKey,acd,e']
    rw [J2 e,b];exact h2
  · have e': ¬q.1=k:=fun z=>e (h1.trans z)
    have b:atKey (q::qs) k=atKey qs k:=by simp [atKey,acd,e']
    rw [J3 e,b];exact ih
def KT.repl {H:Hp} {kvs:List (List Key×V)} {xs:List (List Key×Addr×Value)} (r:KT H kvs xs) (k:List Key) {y:V} {u:Value} (ry:RelV y u):
  KT H (kvs.map fun kv=>if kv.1=k then (kv.1,y) else kv) (xs.map (putAt k u)):=by
 induction r with
 |nil=>exact .nil
 | @cons p q ps qs h t ih=>
  rw [aat,aat];refine .cons ?_ ih;obtain ⟨h1,h2,h3⟩:=h;unfold putAt
  by_cases e:p.1=k
  · rw [if_pos e,if_pos (h1.symm.trans e)];exact ⟨h1,h2,ry⟩
  · rw [if_neg e,if_neg (fun z=>e (h1.trans z))];exact ⟨h1,h2,h3⟩
def KT.put {H:Hp} {kvs:List (List Key×V)} {xs:List (List Key×Addr×Value)} (r:KT H kvs xs) (k:List Key) {b:Addr} {y:V} {u:Value} (hb:H b=some (.tup (k.map kV))) (ry:RelV y u):
   KT H (putK kvs k y) (aee xs k b u):=by
 have e:(kvs.any fun kv=>decide (kv.1=k))=(atKey xs k).isSome:=by
   rw [J4,(r.val k).isSome_eq,aeB]
 unfold putK aee;rw [e]
 by_cases q:(atKey xs k).isSome=true
 · rw [if_pos q,if_pos q];exact r.repl k ry
 · rw [if_neg q,if_neg q];exact Paired.snoc r ⟨rfl,hb,ry⟩
def KT.keeps {H H':Hp} {kvs:List (List Key×V)} {xs:List (List Key×Addr×Value)} (r:KT H kvs xs) (ht: ∀b ys,H b=some (.tup ys)->H' b=some (.tup ys)):KT H' kvs xs:=
 aeK.mapP r fun _ _ z=>⟨z.1,ht _ _ z.2.1,z.2.2⟩
section
variable {P:aaL} {w:World} {H:Hp} {h:Heap} {a:Addr}
def jcf {u:HO} (ok:HOk P w H h) (e:Rd H a u):ObjOk P w H h a u:=e.ok ok
def vy {kvs:List (Key×V)} (ok:HOk P w H h) (e:Rd H a (.dK kvs)):kvs.length<=aai/\(a==abU)=false/\ ∃vs,KV kvs vs/\h.DictOf (jF P w) a vs:=
 show ObjOk P w H h a (.dK kvs) from jcf ok e
def jew {kvs:List (Key×V)} (ok:HOk P w H h) (e:H a=some (.dK kvs)):kvs.length<=aai/\(a==abU)=false/\ ∃vs,KV kvs vs/\h.DictOf (jF P w) a vs:=vy ok (.inl e)
def JR {ks:List Key} (ok:HOk P w H h) (e:H a=some (.tup (ks.map kV))):(acN (jF P w)).is h ks a:=by
 obtain ⟨_,its,r,o,h1,h2,n,h3⟩:=(show ObjOk P w H h a (.tup (ks.map kV)) from ok a _ e)
 exact ⟨o,its.toArray,n,h1,h2,h3,by simpa using Zu r⟩
def vi {kvs:List (List Key×V)} (ok:HOk P w H h) (e:Rd H a (.dT kvs)):kvs.length<=aai/\(a==abU)=false/\
  ∃xs,KT H kvs xs/\h.DictOfH (acN (jF P w)) a xs:=by
 obtain ⟨z,y,xs,r,o,es,ep,h1,h2,h3,h4,h5⟩:=(show ObjOk P w H h a (.dT kvs) from jcf ok e)
 refine ⟨z,y,xs,r,o,es,ep,h1,h2,h3,h4,fun x hx=>?_,h5⟩
 have all: ∀ {l:List (List Key×V)} {m:List (List Key×Addr×Value)},KT H l m-> ∀x∈m,(acN (jF P w)).is h x.1 x.2.1:=by
  intro l m q
  induction q with
  |nil=>intro x hx;exact nomatch hx
  | @cons p q ps qs hq t ih=>
   intro x hx;rcases aaq.mp hx with e|hx
   · subst e;exact JR ok (by rw [←hq.1];exact hq.2.1)
   · exact ih x hx
 exact all r x hx
def jev {kvs:List (List Key×V)} (ok:HOk P w H h) (e:H a=some (.dT kvs)):kvs.length<=aai/\(a==abU)=false/\
 ∃xs,KT H kvs xs/\h.DictOfH (acN (jF P w)) a xs:=vi ok (.inl e)
end
def DGet (H:Hp) (a:Addr) (y:V) (r:Option V):Prop:=
 (∃kvs k,Rd H a (.dK kvs)/\y=kV k/\r=valV kvs k)\/ ∃kvs k b,Rd H a (.dT kvs)/\y= .ref b/\H b=some (.tup (k.map kV))/\r=valV kvs k
def DPut (H:Hp) (a:Addr) (y v:V) (H':Hp):Prop:=
 (∃kvs k,H a=some (.dK kvs)/\y=kV k/\kvs.length<aai/\H'=upd H a (.dK (putK kvs k v)))\/
 ∃kvs k b,H a=some (.dT kvs)/\y= .ref b/\H b=some (.tup (k.map kV))/\kvs.length<aai/\H'=upd H a (.dT (putK kvs k v))
def DGet.k {H:Hp} {a:Addr} {kvs:List (Key×V)} {k:Key} (e:H a=some (.dK kvs)):DGet H a (kV k) (valV kvs k):= .inl ⟨kvs,k,.inl e,rfl,rfl⟩
def DGet.t {H:Hp} {a b:Addr} {kvs:List (List Key×V)} {k:List Key} (e:H a=some (.dT kvs)) (eb:H b=some (.tup (k.map kV))):DGet H a (.ref b) (valV kvs k):= .inr ⟨kvs,k,b,.inl e,rfl,eb,rfl⟩
def DPut.k {H:Hp} {a:Addr} {kvs:List (Key×V)} {k:Key} {v:V} (e:H a=some (.dK kvs)) (hl:kvs.length<aai):DPut H a (kV k) v (upd H a (.dK (putK kvs k v))):= .inl ⟨kvs,k,e,rfl,hl,rfl⟩
def DPut.t {H:Hp} {a b:Addr} {kvs:List (List Key×V)} {k:List Key} {v:V} (e:H a=some (.dT kvs)) (eb:H b=some (.tup (k.map kV))) (hl:kvs.length<aai):
 DPut H a (.ref b) v (upd H a (.dT (putK kvs k v))):= .inr ⟨kvs,k,b,e,rfl,eb,hl,rfl⟩
section
variable {X:Cx} {pins:List (Addr×Obj)} {σ:St} {H:Hp} {s:aah} {a:Addr} {y v:V} {u r:Value} {o:Option V} {A:aaZ} {E:T9}
def Inv.big (I:Inv X pins σ H s):abU<s.heap.objs.size:=by
 have h:aar<s.heap.objs.size:=(I.mod.glob.keeps I.bk).lt;exact aeX (by decide) h
def ZM {Q:T9} (hu:A.units+1<cLine) (I:Inv X pins σ H s) (g:DGet H a y (some v)) (ry:RelV y u) (h: ∀w' s',Inv X pins σ H s'->RelV v w'->Q w' s'):
   wpAny (model X.prog X.w) A (aet (.ref a) u) Q E s:=by
 rcases g with ⟨kvs,k,e,ey,l⟩| ⟨kvs,k,b,e,ey,eb,l⟩
 · subst ey;obtain ⟨z,hd,vs,rel,dd⟩:=vy I.hok e;obtain ⟨w',hw,rw'⟩:=RelO.some_of (v:=v) (o:=valueAt vs k) (by rw [l];exact rel.val k);exact wpAny_getItem_of (kO ry) dd.mapOf hw (h w' _ (I.tok _) rw')
 · subst ey;cases (show u=aaK b from ry);obtain ⟨z,hd,xs,rel,dd⟩:=vi I.hok e;obtain ⟨w',hw,rw'⟩:=RelO.some_of (v:=v) (o:=(atKey xs k).map (·.2)) (by rw [l];exact rel.val k);obtain ⟨p,hp,hp2⟩:=abr.mp hw;refine wpAny_getItem_heap (tupleKind_room_in1 hu) (JR I.hok eb) dd hp ?_;rw [hp2];exact h w' _ (I.tok _) rw'
def jbw {Q:T9} (hu:A.units+1<cLine) (I:Inv X pins σ H s) (g:DGet H a y o) (ry:RelV y u) (h: ∀s',Inv X pins σ H s'->Q (.bool (!o.isSome)) s'):
   wpAny (model X.prog X.w) A (aa9 .NotIn u (.ref a)) Q E s:=by
 rcases g with ⟨kvs,k,e,ey,l⟩| ⟨kvs,k,b,e,ey,eb,l⟩
 · subst ey;obtain ⟨z,hd,vs,rel,dd⟩:=vy I.hok e;refine wpAny_notIn_of (kO ry) hd dd.mapOf ?_;rw [←(rel.val k).isSome_eq,←l];exact h _ (I.tok _)
 · subst ey;cases (show u=aaK b from ry);obtain ⟨z,hd,xs,rel,dd⟩:=vi I.hok e;refine wpAny_notIn_heap (tupleKind_room_in1 hu) (JR I.hok eb) hd dd ?_;have q:=(rel.val k).isSome_eq;rw [aeB] at q;rw [←q,←l];exact h _ (I.tok _)
def WP {h':Heap} {t':Nat} {ob:HO} (I:Inv X pins σ H s) (mu:Mut (H a)) (hs:acn a s.heap h') (he: ∃q,h'.get? a=some q) (new:ObjOk X.prog X.w (upd H a ob) h' a ob):
  Inv X pins σ (upd H a ob) {s with heap:=h',toks:=t'}:=
 I.write (x:=a) (e:=a) mu (.inl rfl) (fun b q hb z=>(hs.2 b hb).trans z) he new
def jdv {P:aaL} {w:World} {H':Hp} {h':Heap} {kvs:List (Key×V)} {vs:List (Key×Value)} (z:kvs.length<=aai) (hd:(a==abU)=false) (rel:KV kvs vs) (dd:h'.DictOf (jF P w) a vs):
 ObjOk P w H' h' a (.dK kvs):=⟨z,hd,vs,rel,dd⟩
def UA {H':Hp} {Q:Unit->aah->Prop} (hu:A.units+1<cLine) (I:Inv X pins σ H s) (g:DPut H a y v H') (ry:RelV y u) (rv:RelV v r) (h: ∀s',Inv X pins σ H' s'->Q () s'):
   wpAny (model X.prog X.w) A (setItem (.ref a) u r) Q E s:=by
 rcases g with ⟨kvs,k,e,ey,l,eH⟩| ⟨kvs,k,b,e,ey,eb,l,eH⟩
 · subst ey eH;obtain ⟨z,hd,vs,rel,dd⟩:=jew I.hok e;have hz:vs.length<=aai:=by rw [←rel.length];exact z
   have hl:(putK kvs k v).length<=aai:=by have:=yY kvs k v;omega
   refine wpAny_setItem_pairs (hsz:=hz) (kO ry) dd fun h' dd' hs=>h _ ?_
   have he: ∃q,h'.get? a=some q:=let ⟨q,_,_,hq,_⟩:=dd';⟨q,hq⟩
   exact WP I (by rw [e];exact acB) hs he (jdv hl hd (rel.put k rv) dd')
 · subst ey eH;cases (show u=aaK b from ry);obtain ⟨z,hd,xs,rel,dd⟩:=jev I.hok e;have hz:xs.length<=aai:=by rw [←ado rel];exact z
   have hl:(putK kvs k v).length<=aai:=by have:=yY kvs k v;omega
   refine wpAny_setItem_heap (hsz:=hz) (tupleKind_room_in1 hu) (JR I.hok eb) dd fun h' dd' hs=>h _ ?_
   obtain ⟨q,es,ep,hq,h2,h3,h4,_,h5⟩:=dd';refine WP I (by rw [e];exact acB) hs ⟨q,hq⟩ ⟨hl,hd,_,(rel.put k eb rv).keeps fun c ys ec=>?_,q,es,ep,hq,h2,h3,h4,h5⟩;rw [jH (jef ec e (fun z=>nomatch z))];exact ec
end
def NoSl (i:Expr):Prop:= ∀ov iv,subscripted i false ov iv=operate [ov,iv] (aet ov iv)
def uZ {prog:aaL} {w:World} {A:aaZ} {E:T9} {s:aah} {env:Env} {value slice:Expr} {pos:Pos} {T id:String} {Q:T9}
  (hl:typeLookup (.type T) "__getitem__" =pure (some (.builtin id))) (hs:NoSl slice)
  (h:wpAny (model prog w) A (eval value env) (fun o s₁=>wpAny (model prog w) A (eval slice env) (fun i s₂=>s₂.TypeIs o T/\wpAny (model prog w) A (aet o i) Q E s₂) E s₁) E s):
  wpAny (model prog w) A (eval (.Subscript value slice pos) env) Q E s:=by
 refine Subscript_ (abT h (fun o s₁ h₁=>abT h₁ (fun i s₂ h₂=>?_) fun _ _ x=>x) fun _ _ x=>x);obtain ⟨hT,h₂⟩:=h₂;unfold subscriptTail;refine aab ?_;rw [getitemInPython_of_ne hT.not_modules];refine aab (wpAny_specialOf hT hl ?_)
 have fin:wpAny (model prog w) A (subscripted slice false o i) (fun r s₃=>wpAny (model prog w) A (letTemporaryGo value o r>>=fun _=>pure r) Q E s₃) E s₂:=by
  rw [hs o i];exact wpAny_operating (abT h₂ (fun r s₃ h₃=>aab (wpAny_letTemporaryGo (aaf h₃))) fun _ _ x=>x)
 first
  |exact aaf (aab fin)
  |exact aab (aaf (aab fin))
  |exact aab fin
def Jf {X:Cx} {pins:List (Addr×Obj)} {σ:St} {H:Hp} {s:aah} {a:Addr} {y:V} {o:Option V} (I:Inv X pins σ H s) (g:DGet H a y o):s.TypeIs (.ref a) "dict" :=by
 rcases g with ⟨kvs,k,e,_,_⟩| ⟨kvs,k,b,e,_,_,_⟩
 · obtain ⟨_,_,vs,_,dd⟩:=vy I.hok e;exact dd.typeIs
 · obtain ⟨_,_,xs,_,dd⟩:=vi I.hok e;exact dd.typeIs
def jd1 (td ty tv:TE):TS:=fun D σ H=>tv σ H fun v H1=>td σ H1 fun x H2=>ty σ H2 fun y H3=> ∃a H4,x= .ref a/\DPut H3 a y v H4/\D.nx σ H4
section
variable {X:Cx} {o i e value:Expr} {pos pos' tpos:Pos} {td ty tv:TE}
def KD (hu:X.A.units+1<cLine) (ho:PE X o td) (hi:PE X i ty) (hv:PE X value tv) (hs:abY value (some (.Subscript o i pos')) pos.line X.env=pure false):
  PS X (.Assign [.Subscript o i pos'] value pos) (jd1 td ty tv):=by
 intro pins s σ H D I h;refine wpAny_Assign_Subscript (thn (hv pins s σ H _ I h) fun r s1 ⟨v,H1,I1,rv,q1⟩=>thn (ho pins s1 σ H1 _ I1 q1) fun u s2 ⟨x,H2,I2,rx,q2⟩=>thn (hi pins s2 σ H2 _ I2 q2) fun iv s3 ⟨y,H3,I3,ry,a,H4,ex,g,q3⟩=>?_) hs;subst ex;obtain rfl:u=aaK a:=rx;exact UA hu I3 g ry rv fun s4 I4=>⟨σ,H4,I4,q3⟩
end
def vz {P:aaL} {w:World} {H:Hp} (h:Heap) (hb:abU<h.objs.size):ObjOk P w H (h.push {cls:= .type "dict",data:= .dict #[]}) h.objs.size (.dK []):=
 ⟨aa7 _,beq_eq_false_iff_ne.mpr (acK (aaJ hb)),[],.nil,Heap.DictOf.new h⟩
def vj {P:aaL} {w:World} {H:Hp} (h:Heap) (hb:abU<h.objs.size):ObjOk P w H (h.push {cls:= .type "dict",data:= .dict #[]}) h.objs.size (.dT []):=
 ⟨aa7 _,beq_eq_false_iff_ne.mpr (acK (aaJ hb)),[],.nil,_, #[],0,aan _ rfl,⟨rfl,rfl,rfl⟩,rfl,rfl,adL⟩
def jb1:TE:=fun _ H Q=> ∀p,H p=none->Q (.ref p) (upd H p (.dK []))
def jb0:TE:=fun _ H Q=> ∀p,H p=none->Q (.ref p) (upd H p (.dT []))
section
variable {X:Cx} {pos:Pos}
def km:PE X (.Dict [] [] pos) jb1:=fun pins s σ H Q I h=>
 wpAny_Dict_empty ⟨.ref s.heap.objs.size,_,I.laid (a:=s.heap.objs.size) (o:= .dK []) (t':=s.toks) (fun _ _ q=>aad _ q) (aae _) (vz s.heap I.big),rfl,h _ (I.hok.fresh (aae _))⟩
def kj:PE X (.Dict [] [] pos) jb0:=fun pins s σ H Q I h=>
 wpAny_Dict_empty ⟨.ref s.heap.objs.size,_,I.laid (a:=s.heap.objs.size) (o:= .dT []) (t':=s.toks) (fun _ _ q=>aad _ q) (aae _) (vj s.heap I.big),rfl,h _ (I.hok.fresh (aae _))⟩
end
structure M1 (X:Cx) (o:Expr) (m:Str) (apos:Pos) (e:Expr) (cpos:Pos):Prop where
 base:aa4 o m X.env (eval o X.env)=eval o X.env
 few:((abw cpos (aao [e] X.env)).all (fun x=>!x.1)&&(adr cpos (acb [] X.env)).all (fun x=>x.1.isSome)
  &&decide (([e]:List Expr).length+([]:List acQ).length+(if ([]:List acQ).isEmpty then 0 else 1)<30))=true
 line:(apos.endLine==cpos.line)=true
 trees:abw cpos (aao [e] X.env)=[(false,eval e X.env)]
structure M2 (X:Cx) (o:Expr) (m:Str) (apos:Pos) (e f:Expr) (cpos:Pos):Prop where
 base:aa4 o m X.env (eval o X.env)=eval o X.env
 few:((abw cpos (aao [e,f] X.env)).all (fun x=>!x.1)&&(adr cpos (acb [] X.env)).all (fun x=>x.1.isSome)
  &&decide (([e,f]:List Expr).length+([]:List acQ).length+(if ([]:List acQ).isEmpty then 0 else 1)<30))=true
 line:(apos.endLine==cpos.line)=true
 trees:abw cpos (aao [e,f] X.env)=[(false,eval e X.env),(false,eval f X.env)]
end L2
namespace Att
open PySem PySem.W PySem.Calls PyProof.Rows
def y7 {P:Params} {h:Heap}: ∀(ns:List Int) (vs:List Value),WellAll P h vs (ns.map WData.int)->IntsAre vs ns:=by
 intro ns
 induction ns with
 |nil=>
  intro vs w;rw [List.map_nil] at w;cases w;exact .nil
 |cons n ns ih=>
  intro vs w;rw [aat] at w
  cases w with
  |cons a b=>
   cases a;exact .cons _ _ (ih _ b)
def Kl {l:aeY} {n:Nat} (hn:l.most=some n) {P:Params} {h:Heap} {args:List WData} {vals:List Value}
  (hpre:l.row.toRowW.claim.pre args=true) (hwl:WellAll P h vals args):
  ∃a vs ns,vals=[aaK a]/\args=[WData.list (ns.map WData.int)]/\h.get? a=some {cls:= .type "list",data:= .seq vs.toArray}/\IntsAre vs ns/\ns.length<=n:=by
 have hsh:WShape.hasAll [] args [.list .int]=true:=(pre_splitW hpre).1;have hc:l.pre.holds [] {args:=args}=true:=(pre_splitW hpre).2;obtain ⟨d,r,rfl,h1,h2⟩:=hasAllW_cons hsh;obtain rfl:=hasAllW_nil h2;obtain ⟨xs,rfl,h3⟩:=hasW_list h1;obtain ⟨ns,rfl⟩:=items_int h3
 have hlen:ns.length<=n:=by
  unfold OpenLaw.pre at hc
  have h4:(WTm.not (.lt (.lit (.int (n:Int))) (.len (.arg 0)))).holds [] {args:=[.list (ns.map .int)]}=true:=by
   have h4:=(holds_andW hc).1;rw [hn] at h4;exact h4
  have h5:=condW_of h4 (w_not (w_lt w_lit (w_len_list (w_arg rfl))));rw [aak] at h5;refine adb fun q=>?_
  have q':(n:Int)< ((ns.length:Nat):Int):=by omega
  first
   | (rw [decide_eq_true q'] at h5;exact absurd h5 (by decide))
   | (simp at h5;omega)
 cases hwl with
 |cons w1 w2=>
  cases w2
  cases w1 with
  |list ho hall=>exact ⟨_,_,ns,rfl,rfl,ho,y7 ns _ hall,hlen⟩
def KH (l:aeY) (args:List WData):l.row.toRowW.claim.post args (.bool true) args=true:=
 postW_of (r:=l.row.toRowW) (X:=(true==true))
  (show WShape.has [] (.bool true) .bool=true by first|rfl|decide|simp [WShape.has,WShape.arms,WShape.armsAll])
  (show (WTm.eq .res (.lit (.bool true))).value [] {args:=args,res:=some (.bool true),after:=args}=some (.bool (true==true)) from w_eq_bool (w_res rfl) w_lit) rfl
end Att
namespace L2
open PySem PySem.Spec PyProof.Rows
theorem QZ: ∀ {vs:List Value} {ns:List Int},IntsAre vs ns->Vals (ns.map V.int) vs
 |_,_,.nil=> .nil
 |_,_,.cons n t h=> .cons ⟨t,rfl⟩ (QZ h)
def Only (H:Hp):Prop:= ∀b,H b=none\/ ∃o xs,H b=some (.frz o (.lst xs))
def kN {P:aaL} {w:World} {K:aaa} {mg mb:W9} {CX:CXT} {k:Nat} {fa a:Addr} {fd:ab1} {x:Str} {sp:Sp} {s₁:aah} {vs:List Value} {ns:List Int}
  (KX:K.In s₁.heap) (hns:s₁.heap.Ns aar mg) (hb:s₁.heap.Ns builtinsNs mb) (hbb: ∀x:Str,x≠ "__name__" ->mb x=abo x) (hlim:s₁.heap.NoLimit) (hg:s₁.gens= #[])
  (ha:s₁.heap.get? a=some {cls:= .type "list",data:= .seq vs.toArray}) (hi:IntsAre vs ns) (hl:ns.length<=aai) (hr:Room k callerA)
  (F: ∀base:Heap,K.In base->base.Ns aar mg->FnOk P w K mg base CX k fa fd [x] sp) (hbind: ∀(s:aah) (u:Value),BindsTo s fd ⟨[u],[]⟩ [(x,u)])
  (hsp: ∀H:Hp,Only H->SqL K H a (ns.map V.int)->sp [.ref a] H (fun v _=>v= .bl true) fun _ _ _=>False)
  (hCX: ∀H e s',CX [] H s₁ (fun _ _ _=>False) e s'->False):
  aeH (model P w) callerA (.call (.ref fa) ⟨[.ref a],[]⟩) (fun r s'=>r= .ok (.ret (.bool true))/\OldK s₁.heap s'.heap/\s'.os=s₁.os/\aeT s'.gens) s₁:=by
 have rv:=QZ hi;have lenV:=hi.length
 have core: ∀H:Hp,Only H->SqL K H a (ns.map V.int)->HOk P w H s₁.heap->(∀b,H b≠none->b=a)->(H a≠none->K.lookup a=none)->
    aeH (model P w) callerA (.call (.ref fa) ⟨[.ref a],[]⟩) (fun r s'=>r= .ok (.ret (.bool true))/\OldK s₁.heap s'.heap/\s'.os=s₁.os/\aeT s'.gens) s₁:=by
  intro H hO hS hok hA hK;have base_of: ∀ {b:Addr} {o:Obj},s₁.heap.get? b=some o->H b=none->(hidT s₁.heap H).get? b=some o:=fun e n=>kU e n
  have noA: ∀ {b:Addr} {o:Obj} {es:Array DictEntry} {ep:Nat},s₁.heap.get? b=some o->o.data= .dict es ep->H b=none:=fun {b o es ep} e d=>by
    cases q:H b with
    |none=>rfl
    |some u=>
      have e':b=a:=hA b (by rw [q];simp);subst e';rw [ha] at e;cases e;have d':Data.seq vs.toArray _=Data.dict es ep:=d;cases d'
  have nsK: ∀ {b:Addr} {m:W9},s₁.heap.Ns b m->(hidT s₁.heap H).Ns b m:=fun {b m} ⟨o,es,ep,e,d,r⟩=>⟨o,es,ep,base_of e (noA e d),d,r⟩
  have hKb:K.In (hidT s₁.heap H):=fun b o e=>base_of (KX b o e) (by
    cases q:H b with
    |none=>rfl
    |some u=>
      have e':b=a:=hA b (by rw [q];simp);subst e'
      rw [hK (by rw [q];simp)] at e;cases e)
  have hM:Mod K mg (hidT s₁.heap H):=⟨hKb,nsK hns,⟨mb,nsK hb,hbb⟩,let ⟨mc,h1,h2⟩:=hlim;⟨mc,nsK h1,h2⟩⟩
  have e0:Env0 P w K mg (hidT s₁.heap H) callerA [] s₁ H:=⟨rfl,hM,fun b o e=>jaL e,aeW (VF _ _),trivial,fun b hb=>absurd (show b∈([]:List Addr) from hb) (by simp),hok,.of_eq hg⟩
  refine adM ((F _ hKb (nsK hns)).run callerA [] s₁ H ⟨[.ref a],[]⟩ [.ref a] [.ref a] _ _ hr e0 (hbind s₁ (.ref a)) (.cons rfl .nil) (hsp H hO hS)) fun r s' h=>?_
  cases r with
  |error e=>exact (hCX H e s' h).elim
  |ok fl=>
    cases fl with
    |next=>exact acl h
    |brk=>exact acl h
    |cont=>exact acl h
    |ret u=>
      obtain ⟨v,H',os,bare,un,hok',r',q⟩:=h;have q':v= .bl true:=q;subst q';obtain rfl:u=acS true:=r';refine ⟨rfl,OldK.of_keep fun b o e=>?_,os,bare⟩
      cases q:H b with
      |none=>exact un.keep b o e q (by intro z;exact absurd (show b∈([]:List Addr) from z) (by simp)) (by simp)
      |some u=>
       rcases hO b with z| ⟨ob,xs,z⟩
       · rw [q] at z;cases z
       · have z2:=un.frzs b ob _ z;obtain ⟨e1,_⟩:=hok b _ z;obtain ⟨e2,_⟩:=hok' b _ z2;rw [e] at e1;cases e1;exact e2
 cases hk:K.lookup a with
 |some o=>
  have e:=KX a o hk;rw [ha] at e;cases e;refine core (fun _=>none) (fun _=> .inl rfl) (.inr ⟨_,vs.toArray,_,hk,rfl,rfl,rfl,by rw [aag,lenV];exact hl,by simpa using rv⟩) (fun b u z=>by have z':(none:Option HO)=some u:=z;cases z') (fun b z=>absurd rfl z) fun z=>absurd rfl z
 |none=>
  refine core (fun b=>if b=a then some (.frz {cls:= .type "list",data:= .seq vs.toArray} (.lst (ns.map V.int))) else none) (fun b=>?_) (.inl (.inr ⟨{cls:= .type "list",data:= .seq vs.toArray},if_pos rfl⟩)) (fun b u z=>?_) (fun b z=>?_) fun _=>hk
  · by_cases hb:b=a
    · exact .inr ⟨_,_,if_pos hb⟩
    · exact .inl (if_neg hb)
  · by_cases hb:b=a
    · have z':=(if_pos hb).symm.trans z;cases z';subst hb;exact ⟨ha,by rw [aak];exact hl,vs,_,rv,ha⟩
    · have z':=(if_neg hb).symm.trans z;cases z'
  · by_cases hb:b=a
    · exact hb
    · exact absurd (if_neg hb) z
end L2
/-THE LAST THEOREM (shape;LID,My.*are yours):
 My.Adr:a structure of the addresses that your layer names (classes,functions);My.Txt K t:a structure (Prop) of the equations over K;
 My.txt_mk:{K} {implicit addresses ..} (e1:nsIn K aar "law" =some (some (.ref f))) (e2:K.lookup f=some ⟨oc,od,.func (fnOf "law" "law" params body scope dV kV doc pm an cdv ct),sl⟩) (e3:adA K cdv "law" =true) .. : ∃t,My.Txt K t
set_option maxRecDepth 100000 in
set_option maxHeartbeats 0 in
theorem PySem.Challenge.cw_LID_holds:PySem.Challenge.rw_LID.Holds:=by
 w_on;o_law;k_head;(case hw=>w_witness2)
 k_fill
 refine L2.walk_of (l:=PySem.Challenge.rw_LID) (n:=63) (k:=40) (x:= "script") (CX:=fun w=> ..) (sp:=fun _=>My.sp_law) rfl (by decide) rfl ⟨rfl,by decide,by decide⟩ (fun w h Y=>PySem.W.kIn_of Y) ?F ?S ?C
 case F=>
  intro w mg fa h KX G hmg
  have T: ∃t,My.Txt (L2.KOf KX) t:=by
   dsimp only [L2.KOf]                          --K must stand as «<heap const>w.params» for k_is;refine' My.txt_mk ?e1 ?e2 ?e3 ..
   (case e1=>PySem.W.k_is)                    --in the order:a name->its address->its object->its parts
   (case e2=>PySem.W.k_is)
   ..
  obtain ⟨t,T⟩:=T;have e0:=hmg.symm.trans (acp KX G T.law);cases e0                                       --fa is the law's own address;exact ⟨_,fun s u=> .of_eq rfl,fun base kb nb=>My.law_fn T kb nb⟩     --if «.of_eq rfl» comes too early:refine' ⟨_,?b,fun base kb nb=>My.law_fn T kb nb⟩;exact fun s u=> .of_eq rfl
 case S=>exact fun w H a ns hl hO hS=> ..
 case C=>exact ..
(the tactic k_is has no namespace:write k_is)-/
namespace L2
open PySem PySem.Spec PyProof.Rows
def xz (s:Stmt) (j:Nat):Stmt:=match s with
 | .ClassDef _ _ _ body _ _ _ _ _ _ _=>body.getD j (.Pass ⟨0,0,0,0⟩)
 |_=> .Pass ⟨0,0,0,0⟩
def wQ (s:Stmt):Arguments:=match s with
 | .FunctionDef _ a _ _ _ _ _ _ _ _=>a
 |_=> {posonlyargs:=[],args:=[],vararg:=none,kwonlyargs:=[],kw_defaults:=[],kwarg:=none,defaults:=[]}
def jY (s:Stmt):List Stmt:=match s with
 | .FunctionDef _ _ b _ _ _ _ _ _ _=>b
 |_=>[]
def jh (s:Stmt):Scope:=match s with
 | .FunctionDef _ _ _ _ _ _ sc _ _ _=>sc
 |_=> {kind:= .function,names:=[],isGenerator:=false,isCoroutine:=false}
abbrev CX0:CXT:=fun _ _ _ _ _ _=>False
abbrev E0:XK:=fun _ _ _=>False
def KM {X:Cx}:x3 CX0 X E0:=fun _ _ _ _ _ _ _ h=>h.elim
structure Fun (K:aaa) (x qual:Str) (st:Stmt) (f:Addr) (fd:ab1):Prop where
 ex: ∃(oc:Value) (od:Option Addr) (kV doc pm:Value) (an:Option Addr) (cdv ct:Value) (osl:Array (Option Value)),
  fd=aco x qual (wQ st) (jY st) (jh st) .none kV doc pm an cdv ct/\K.lookup f=some ⟨oc,od,.func fd,osl⟩/\adA K cdv qual=true
 kp:aaY K (.ref f)=true
section
variable {P:aaL} {w:World} {K:aaa} {mg:W9} {base:Heap}
def Fun.ok {x qual:Str} {st:Stmt} {f:Addr} {fd:ab1} {N ps:List Str} {k:Nat} {sp:Sp} (F:Fun K x qual st f fd) (S:FnScope N ps (jh st)) (len: ∀vs H Q E,sp vs H Q E->vs.length=ps.length)
  (hbody: ∀(cdv:Value) (A:aaZ) (outer:List Env) (s:aah) (H:Hp) (vs:List V) (Q:VK) (E:XK),Room k (A.deeper (adN qual (jh st) s.heap.objs.size f cdv))->sp vs H Q E->
   ∃t,PSs (cxOf CX0 P w K mg base N qual (jh st) f cdv A outer s H E).nox (jY st) t/\t {nx:=fun _ H'=>Q .non H',rt:=Q} (start N vs) H):FnOk P w K mg base CX0 (k+1) f fd ps sp:=by
 obtain ⟨oc,od,kV,doc,pm,an,cdv,ct,osl,rfl,lk,hcd⟩:=F.ex;refine jeu lk hcd S len fun A outer s H vs Q E hr hsp=>?_
 obtain ⟨t,h,q⟩:=hbody cdv A outer s H vs Q E hr hsp;exact ⟨t,h.nox,q⟩
def Fun.binds {x qual:Str} {st:Stmt} {f:Addr} {fd:ab1} {ps:List Str} (F:Fun K x qual st f fd)
  (h: ∀(kV doc pm:Value) (an:Option Addr) (cdv ct:Value) (us:List Value),us.length=ps.length->bindArgs (aco x qual (wQ st) (jY st) (jh st) .none kV doc pm an cdv ct) ⟨us,[]⟩=pure (ps.zip us)):Binds K fd ps []:=by
 obtain ⟨oc,od,kV,doc,pm,an,cdv,ct,osl,rfl,lk,hcd⟩:=F.ex;exact .all (h kV doc pm an cdv ct)
def uw {x qual:Str} {st:Stmt} {f:Addr} {oc:Value} {od an:Option Addr} {osl:Array (Option Value)} {kV doc pm cdv ct:Value} (l:K.lookup f=some ⟨oc,od,.func (aco x qual (wQ st) (jY st) (jh st) .none kV doc pm an cdv ct),osl⟩)
 (c:adA K cdv qual=true) (k:aaY K (.ref f)=true):Fun K x qual st f (aco x qual (wQ st) (jY st) (jh st) .none kV doc pm an cdv ct):=⟨⟨oc,od,kV,doc,pm,an,cdv,ct,osl,rfl,l,c⟩,k⟩
end
def YG {A:aaZ} {k:Nat} (hr:Room k A):A.units+1<cLine:=adt (Nat.add_le_add_left (by decide:1<=64) _) hr.units
def Same (H H':Hp):Prop:= ∀b o,H b=some o->H' b=some o
def Same.refl (H:Hp):Same H H:=fun _ _ h=>h
def Same.trans {H H1 H2:Hp} (a:Same H H1) (b:Same H1 H2):Same H H2:=fun c o h=>b c o (a c o h)
def Same.free {H H':Hp} (e:Same H H') {l:Addr} (h:H' l=Option.none):H l=Option.none:=by
 cases q:H l with
 |none=>rfl
 |some o=>
  rw [e l o q] at h;cases h
section
variable {X:Cx} {pins:List (Addr×Obj)} {σ:St} {H:Hp} {s:aah} {E:T9}
def yt {i:Nat} {x:Str} {pos:Pos} {v:V} {Q:T9} (I:Inv X pins σ H s) (hN:X.N[i]?=some x) (hv:Vis X.env.scope x) (e:σ[i]?=some (some v)) (h: ∀u,RelV v u->Q u s)
   (hd:Ym x:=by decide) (hcd:Yl x:=by decide):wpAny (model X.prog X.w) X.A (eval (.Name x pos) X.env) Q E s:=by
 obtain ⟨m,hn,hl⟩:=I.loc;obtain ⟨u,r,l⟩:=hl i x v hN e hv;rcases l with ⟨hk,hm⟩| ⟨hk,c,hc,hcell⟩
 · exact aez (adZ I.ok.kind hk hn hm (h u r)) hd
 · rcases hk with hk|hk
   · exact aez (ad9 I.ok.kind hk hc hcell (h u r)) hd
   · exact aez (wpAny_loadName_free I.ok.kind hk hc hcell (h u r) hcd) hd
def QF {i:Nat} {x f:Str} {p pos:Pos} {a C dx:Addr} {fs:List (Str×V)} {v:V} {Q:T9} (I:Inv X pins σ H s) (hN:X.N[i]?=some x) (hv:Vis X.env.scope x) (e:σ[i]?=some (some (.ref a)))
  (ha:H a=some (.ins C dx fs)) (c:Cls X.K C) (n:NoAttr X.K C f) (l:fs.lookup f=some v) (hb:aa4 (.Name x p) f X.env (eval (.Name x p) X.env)=eval (.Name x p) X.env) (h: ∀u,RelV v u->Q u {s with toks:=s.toks+1})
  (hd:Ym x:=by decide) (hcd:Yl x:=by decide):wpAny (model X.prog X.w) X.A (eval (.Attribute (.Name x p) f pos) X.env) Q E s:=by
 refine UK hb (yt I hN hv e (fun u ru=>?_) hd hcd);cases ru;obtain ⟨mA,O,r,_,_,_⟩:=y8 I.hok ha;obtain ⟨u,hu,ru⟩:=RelO.some_of (v:=v) (o:=mA f) (by rw [←l];exact r f);exact VO I.kIn O (c.get f) c.hd n hu (ZB ru) (h u ru)
def jed (ok:HOk X.prog X.w H s.heap) (k:M.NK): ∀v u,NkH H k v->RelV v u->M.NK.at s.heap k u:=by
 induction k using M.NK.ind with
 |h1 i=>intro v u x r;simp only [NkH] at x;subst x;exact M.at_int.mpr r
 |h2 z=>intro v u x r;simp only [NkH] at x;subst x;exact M.at_str.mpr r
 |h3 l ih=>
  intro v u x r;simp only [NkH] at x;obtain ⟨b,vs,rfl,hb,y⟩:=x;cases r;obtain ⟨_,its,rv,p⟩:=(show ObjOk X.prog X.w H s.heap b (.tup vs) from ok b _ hb)
  refine M.at_tup.mpr ⟨b,its.toArray,rfl,p,?_⟩
  have go: ∀(l:List M.NK) (vs:List V) (its:List Value),(∀k∈l,∀v u,NkH H k v->RelV v u->M.NK.at s.heap k u)->NkHs H l vs->Vals vs its->M.NK.ats s.heap l its:=by
   intro l
   induction l with
   |nil=>
    intro vs its _ h r;simp only [NkHs] at h;subst h;cases r;exact M.ats_nil.mpr rfl
   |cons k l ihl=>
    intro vs its f h r;simp only [NkHs] at h;obtain ⟨u,us,rfl,h1,h2⟩:=h
    cases r with
    |cons r1 r2=>exact M.ats_cons.mpr ⟨_,_,rfl,f k aam _ _ h1 r1,ihl _ _ (fun q hq=>f q (aaj _ hq)) h2 r2⟩
  simpa using go l vs its ih y rv
def Xs (ok:HOk X.prog X.w H s.heap) {k:M.NK} {c:Addr} (x:NkH H k (.ref c)) (hd:k.dep<=8):(M.nkKind X.prog X.w).is s.heap k c:=⟨jed ok k _ _ x rfl,hd⟩
structure MemAt (X:Cx) (H:Hp) (h:Heap) (b:Addr) (B:List M.NK) (Φ:M.NK->Option M.NK->Prop) (xs:List (M.NK×Addr×Value)):Prop where
 len:B.length<aai
 sys:(b==abU)=false
 all: ∀x∈xs,x.1∈B/\NkH H x.1 (.ref x.2.1)/\x.1.dep<=8/\ ∃v nv,RelV v x.2.2/\NvH H nv v/\Φ x.1 nv
 dict:h.DictOfH (M.nkKind X.prog X.w) b xs
def ug {b:Addr} {B:List M.NK} {Φ:M.NK->Option M.NK->Prop} (ok:HOk X.prog X.w H s.heap) (hb:H b=some (.memo B Φ)): ∃xs,MemAt X H s.heap b B Φ xs:=by
 obtain ⟨z,y,xs,r,o,es,ep,h1,h2,h3,h4,h5⟩:=(show ObjOk X.prog X.w H s.heap b (.memo B Φ) from ok b _ hb)
 exact ⟨xs,z,y,r,o,es,ep,h1,h2,h3,h4,fun x hx=>Xs ok (r x hx).2.1 (r x hx).2.2.1,h5⟩
def MemAt.few {h:Heap} {b:Addr} {B:List M.NK} {Φ:M.NK->Option M.NK->Prop} {xs:List (M.NK×Addr×Value)} (m:MemAt X H h b B Φ xs):xs.length<=B.length:=by
 obtain ⟨o,es,ep,h1,h2,h3,h4,h5,nd⟩:=m.dict
 have go: ∀(l B:List M.NK),l.Nodup->(∀k∈l,k∈B)->l.length<=B.length:=by
  intro l
  induction l with
  |nil=>intro B _ _;exact aa7 _
  |cons k l ih=>
   intro B nd hB;have nd':=aa5.mp nd;have hk:=hB k aam;have:=ih (B.erase k) nd'.2 fun q hq=>(ad1 fun e=>nd'.1 (by rw [←e];exact hq)).mpr (hB q (aaj _ hq))
   rw [adj hk] at this;have hp:0<B.length:=abI hk;rw [aau];omega
 have:=go (xs.map (·.1)) B nd fun k hk=>by
  obtain ⟨x,hx,rfl⟩:=aaB.mp hk;exact (m.all x hx).1
 rwa [aak] at this
def Has (X:Cx) (H:Hp) (h:Heap) (b:Addr) (B:List M.NK) (Φ:M.NK->Option M.NK->Prop) (k:M.NK):Prop:= ∃xs p,MemAt X H h b B Φ xs/\atKey xs k=some p
def uQ {K:Type} [DecidableEq K] {xs:List (K×Addr×Value)} {k:K} {p:Addr×Value} (h:atKey xs k=some p):(k,p)∈xs:=by
 unfold atKey at h;rw [abr] at h;obtain ⟨q,hq,rfl⟩:=h;have h1:=List.mem_of_find?_eq_some hq;have h2:=List.find?_some hq;have:q.1=k:=by simpa using h2
 rw [←this];exact h1
def UL {K:Type} [DecidableEq K] {xs:List (K×Addr×Value)} {k:K} {a:Addr} {v:Value}: ∃p,atKey (aee xs k a v) k=some p:=by
 have:((aee xs k a v).find? fun x=>decide (x.1=k)).isSome=true:=by
  rw [List.find?_isSome];unfold aee
  split
  · rename_i h;obtain ⟨p,hp⟩:=acC.mp h;exact ⟨_,aaB.mpr ⟨_,uQ hp,rfl⟩,by simp [putAt]⟩
  · exact ⟨(k,a,v),by simp,by simp⟩
 obtain ⟨p,hp⟩:=acC.mp this;exact ⟨p.2,by unfold atKey;rw [hp];rfl⟩
def Ye {K:Type} [DecidableEq K] {xs:List (K×Addr×Value)} {k:K} {a:Addr} {v:Value} {x:K×Addr×Value} (h:x∈aee xs k a v):x∈xs\/x=(k,a,v)\/ ∃y∈xs,y.1=k/\x=(k,y.2.1,v):=by
 unfold aee at h
 split at h
 · obtain ⟨y,hy,rfl⟩:=aaB.mp h;unfold putAt
   split
   · rename_i e;exact .inr (.inr ⟨y,hy,e,by rw [e]⟩)
   · exact .inl hy
 · rcases aa8.mp h with h|h
   · exact .inl h
   · exact .inr (.inl (by simpa using h))
variable {A:aaZ} {b c:Addr} {B:List M.NK} {Φ:M.NK->Option M.NK->Prop} {k:M.NK}
def Wd (hu:A.units+9<cLine):(M.nkKind X.prog X.w).room A.in1:=by
 show A.in1.units+8<cLine;have:A.in1.units=A.units+1:=rfl;omega
def W4 {o:HO} (h:H b=some o):upd H b o=H:=by
 funext x
 by_cases e:x=b
 · subst e;rw [jt];exact h.symm
 · rw [jH e]
def jaT {Q:Unit->aah->Prop} {v:V} {r:Value} {nv:Option M.NK} (hu:A.units+9<cLine) (I:Inv X pins σ H s) (hb:H b=some (.memo B Φ)) (hk:NkH H k (.ref c)) (hd:k.dep<=8) (hB:k∈B) (hv:NvH H nv v) (hΦ:Φ k nv) (rv:RelV v r)
  (h: ∀s',Inv X pins σ H s'->Has X H s'.heap b B Φ k->Q () s'):wpAny (model X.prog X.w) A (setItem (.ref b) (.ref c) r) Q E s:=by
 obtain ⟨xs,m⟩:=ug I.hok hb;refine wpAny_setItem_heap (hsz:=aaF m.few (aek m.len)) (Wd hu) (Xs I.hok hk hd) m.dict fun h' dd' hs=>?_
 have all: ∀x∈aee xs k c r,x.1∈B/\NkH H x.1 (.ref x.2.1)/\x.1.dep<=8/\ ∃v nv,RelV v x.2.2/\NvH H nv v/\Φ x.1 nv:=by
  intro x hx;rcases Ye hx with z|rfl| ⟨y,hy,e,rfl⟩
  · exact m.all x z
  · exact ⟨hB,hk,hd,v,nv,rv,hv,hΦ⟩
  · obtain ⟨_,q2,_⟩:=m.all y hy;rw [e] at q2;exact ⟨hB,q2,hd,v,nv,rv,hv,hΦ⟩
 obtain ⟨p,hp⟩:=UL (xs:=xs) (k:=k) (a:=c) (v:=r);have dd:=dd';obtain ⟨q,es,ep,hq,h2,h3,h4,_,h5⟩:=dd'
 have I':Inv X pins σ (upd H b (.memo B Φ)) {s with heap:=h',toks:=s.toks+(M.nkKind X.prog X.w).draws k}:=by
  refine WP I (by rw [hb];exact acB) hs ⟨q,hq⟩ ⟨m.len,m.sys,_,?_,q,es,ep,hq,h2,h3,h4,h5⟩;rw [W4 hb];exact all
 rw [W4 hb] at I';exact h _ I' ⟨_,p,⟨m.len,m.sys,all,dd⟩,hp⟩
def jaU {Q:T9} (hu:A.units+9<cLine) (I:Inv X pins σ H s) (hk:NkH H k (.ref c)) (hd:k.dep<=8) (hh:Has X H s.heap b B Φ k)
  (h: ∀w' s',Inv X pins σ H s'->(∃v nv,RelV v w'/\NvH H nv v/\Φ k nv)->Q w' s'):wpAny (model X.prog X.w) A (aet (.ref b) (.ref c)) Q E s:=by
 obtain ⟨xs,p,m,hp⟩:=hh;exact wpAny_getItem_heap (Wd hu) (Xs I.hok hk hd) m.dict hp (h _ _ (I.tok _) (m.all _ (uQ hp)).2.2.2)
def Vi {Q:T9} (hu:A.units+9<cLine) (I:Inv X pins σ H s) (hb:H b=some (.memo B Φ)) (hk:NkH H k (.ref c)) (hd:k.dep<=8)
  (h: ∀s' y,Inv X pins σ H s'->(y=false->Has X H s'.heap b B Φ k)->Q (.bool y) s'):wpAny (model X.prog X.w) A (aa9 .NotIn (.ref c) (.ref b)) Q E s:=by
 obtain ⟨xs,m⟩:=ug I.hok hb;refine wpAny_notIn_heap (Wd hu) (Xs I.hok hk hd) m.sys m.dict (h _ _ (I.tok _) fun e=>?_);obtain ⟨p,hp⟩:=acC.mp (by simpa using e:(atKey xs k).isSome=true);exact ⟨xs,p,m,hp⟩
def jdR (K:aaa) (i j:Nat) (f:Str) (te:TE):TS:=fun D σ H=> ∃(a C dx b c:Addr) (fs:List (Str×V)) (k:M.NK) (B:List M.NK) (Φ:M.NK->Option M.NK->Prop),σ[i]?=some (some (.ref a))/\H a=some (.ins C dx fs)/\Cls K C/\NoAttr K C f/\fs.lookup f=some (.ref b)/\
 H b=some (.memo B Φ)/\σ[j]?=some (some (.ref c))/\NkH H k (.ref c)/\k.dep<=8/\k∈B/\(∀nv v,Φ k nv->NvH H nv v->D.rt v H)/\te σ H fun v H1=>Same H H1/\(∃nv,NvH H1 nv v/\Φ k nv)/\ ∀nv v',Φ k nv->NvH H1 nv v'->D.rt v' H1
def U8 {i j:Nat} {x y f:Str} {p1 p2 p3 p4 p5 p6 p7 p8 p9 q1 q2 q3 q4 q5 q6:Pos} {e:Expr} {te:TE} (hu:X.A.units+9<cLine) (he:PE X e te) (hNi:X.N[i]?=some x) (hvi:Vis X.env.scope x) (hNj:X.N[j]?=some y) (hvj:Vis X.env.scope y)
  (hb1:aa4 (.Name x p2) f X.env (eval (.Name x p2) X.env)=eval (.Name x p2) X.env) (hb2:aa4 (.Name x p6) f X.env (eval (.Name x p6) X.env)=eval (.Name x p6) X.env) (hb3:aa4 (.Name x q1) f X.env (eval (.Name x q1) X.env)=eval (.Name x q1) X.env)
  (hm:acG .NotIn (.Attribute (.Name x p2) f p3)=false) (hs:abY e (some (.Subscript (.Attribute (.Name x p6) f p7) (.Name y p8) p9)) p5.line X.env=pure false)
  (hd:Ym x) (hcd:Yl x) (hdy:Ym y) (hcdy:Yl y):
  PSs X [.If (.Compare (.Name y p1) [.NotIn] [.Attribute (.Name x p2) f p3] p4) [.Assign [.Subscript (.Attribute (.Name x p6) f p7) (.Name y p8) p9] e p5] [] q6,.Return (some (.Subscript (.Attribute (.Name x q1) f q2) (.Name y q3) q4)) q5] (jdR X.K i j f te):=by
 intro pins s σ H D I ⟨a,C,dx,b,c,fs,k,B,Φ,ei,ha,hC,hn,hl,hb,ej,hk,hdp,hB,hit,h⟩
 have fin: ∀(H1:Hp) (s1:aah),Same H H1->Inv X pins σ H1 s1->Has X H1 s1.heap b B Φ k->(∀nv v',Φ k nv->NvH H1 nv v'->D.rt v' H1)->wpAny (model X.prog X.w) X.A (execs [.Return (some (.Subscript (.Attribute (.Name x q1) f q2) (.Name y q3) q4)) q5] X.env) (SP X pins D) X.xe s1:=by
  intro H1 s1 sm I1 hh rt;refine ac9 (wpAny_Return_some (uZ (T:= "dict") ac4.lookup (fun _ _=>rfl) (QF I1 hNi hvi ei (sm _ _ ha) hC hn hl hb3 (fun u ru=>?_) hd hcd)));cases ru;refine yt (I1.tok _) hNj hvj ej (fun u ru=>?_) hdy hcdy;cases ru;have hk1:=NkH.mono (fun c ys=>sm c _) k _ hk;obtain ⟨xs,p,m,hp⟩:=hh;refine ⟨m.dict.typeIs,jaU hu (I1.tok _) hk1 hdp (b:=b) (B:=B) (Φ:=Φ) ⟨xs,p,m,hp⟩ fun w' s' I' ⟨v,nv,r1,r2,r3⟩=>⟨v,σ,H1,I',r1,rt nv v r3 r2⟩⟩
 refine ac9 (wpAny_If (wpAny_isTrue_Compare1 (yt I hNj hvj ej (fun u ru=>?_) hdy hcdy) hm));cases ru;refine QF I hNi hvi ei ha hC hn hl hb1 (fun u ru=>?_) hd hcd;cases ru;refine Vi hu (I.tok _) hb hk hdp fun s1 z I1 hz=>abm ?_
 cases z with
 |false=>exact acO (fin H s1 (fun _ _ e=>e) I1 (hz rfl) hit)
 |true=>
  refine ac9 (wpAny_Assign_Subscript (thn (he pins s1 σ H _ I1 h) fun r s2 ⟨v,H1,I2,rv,sm,⟨nv,hv,hΦ⟩,rt⟩=>QF I2 hNi hvi ei (sm _ _ ha) hC hn hl hb2 (fun u ru=>?_) hd hcd) hs);cases ru;refine yt (I2.tok _) hNj hvj ej (fun u ru=>?_) hdy hcdy;cases ru;exact jaT hu (I2.tok _) (sm _ _ hb) (NkH.mono (fun c ys=>sm c _) k _ hk) hdp hB hv hΦ rv fun s3 I3 hh=>acO (fin H1 s3 sm I3 hh rt)
end
end L2
namespace M
open PySem PySem.Spec L2
open PyProof.Rows hiding St
inductive D where
 |non|bl (b:Bool)|int (i:Int)|str (x:Str)
 |tup (ds:List D)|lst (ds:List D)|scr (ds:List D)|dic (ks:List Key) (vs:List D)|dit (ks:List (List Key)) (vs:List D)|exn (c:Str)|fdc (ks:List Key) (vs:List D)|hdc (ks:List Key) (vs:List D)|obj (c:Str) (ns:List Str) (vs:List D)|mem (B:List NK) (Φ:NK->Option NK->Prop)
mutual
def D.imm:D->Bool
 | .non=>true
 | .bl _=>true
 | .int _=>true
 | .str _=>true
 | .tup ds=>D.imms ds
 | .lst _=>false
 | .scr _=>false
 | .dic _ _=>false
 | .dit _ _=>false
 | .exn _=>true
 | .fdc _ _=>false
 | .hdc _ _=>false
 | .obj _ _ _=>false
 | .mem _ _=>false
def D.imms:List D->Bool
 | []=>true
 |d::ds=>D.imm d&&D.imms ds
end
inductive Res (α:Type) where
 |ok (a:α)
 |exc (c:Str)
 |stuck
noncomputable def Res.bind {α β:Type} (r:Res α) (f:α->Res β):Res β:=
 match r with
 | .ok a=>f a
 | .exc c=> .exc c
 | .stuck=> .stuck
instance:Monad Res where
 pure:=Res.ok
 bind:=Res.bind
def zJ {α β:Type} {a:α} {f:α->Res β}:(Res.ok a>>=f)=f a:=rfl
def jd {α β:Type} {r:Res α} {f:α->Res β} {b:β} (h:(r>>=f)= .ok b): ∃a,r= .ok a/\f a= .ok b:=by
 cases r with
 |ok a=>exact ⟨a,rfl,h⟩
 |exc c=>cases h
 |stuck=>cases h
noncomputable def must {α:Type} (c:Prop) [Decidable c] (r:Res α):Res α:=if c then r else .stuck
def jn {α:Type} {c:Prop} [Decidable c] {r:Res α} {a:α} (h:must c r= .ok a):c/\r= .ok a:=by
 unfold must at h
 by_cases hc:c
 · rw [if_pos hc] at h;exact ⟨hc,h⟩
 · rw [if_neg hc] at h;cases h
def jl {α:Type} {c:Prop} [Decidable c] {r:Res α} (h:c):must c r=r:=if_pos h
def LsK (K:aaa) (H:Hp) (a:Addr) (xs:List V):Prop:=
 (∃o,H a=some (.frz o (.lst xs)))\/
  ∃(o:Obj) (its:Array Value) (n:Nat),K.lookup a=some o/\o.cls= .type "list" /\o.dict=none/\o.data= .seq its n/\its.size<=aai/\Vals xs its.toList
def LsK.sql {K:aaa} {H:Hp} {a:Addr} {xs:List V} (h:LsK K H a xs):SqL K H a xs:=by
 rcases h with h|h
 · exact .inl (.inr h)
 · exact .inr h
mutual
inductive Rep (K:aaa):(Addr->Prop)->Hp->V->D->Prop where
 |non {A H}:Rep K A H .non .non
 |bl {A H} (b:Bool):Rep K A H (.bl b) (.bl b)
 |int {A H} (i:Int):Rep K A H (.int i) (.int i)
 |str {A H} (x:Str):x.length<=aai->Rep K A H (.str x) (.str x)
 |tup {A H} {a:Addr} {xs:List V} {ds:List D}:H a=some (.tup xs)->Reps K A H xs ds->Rep K A H (.ref a) (.tup ds)
 |lst {A H} {a:Addr} {xs:List V} {ds:List D}:H a=some (.lst xs)->A a->Reps K (fun c=>A c/\c≠a) H xs ds->Rep K A H (.ref a) (.lst ds)
 |lsk {A H} {a:Addr} {xs:List V} {ds:List D}:LsK K H a xs->Reps K A H xs ds->Rep K A H (.ref a) (.scr ds)
 |dic {A H} {a:Addr} {kvs:List (Key×V)} {vs:List V} {ks:List Key} {ds:List D}:H a=some (.dK kvs)->A a->kvs.map (·.1)=ks->kvs.map (·.2)=vs->Reps K (fun c=>A c/\c≠a) H vs ds->Rep K A H (.ref a) (.dic ks ds)
 |dit {A H} {a:Addr} {kvs:List ((List Key)×V)} {vs:List V} {ks:List (List Key)} {ds:List D}:H a=some (.dT kvs)->A a->kvs.map (·.1)=ks->kvs.map (·.2)=vs->Reps K (fun c=>A c/\c≠a) H vs ds->Rep K A H (.ref a) (.dit ks ds)
 |exn {A H} {a b C:Addr} {o:Obj} {c:Str}:H a=some (.frz o (.own b))->o.cls= .ref C->aaw K aar c=some (some (.ref C))->Rep K A H (.ref a) (.exn c)
 |fdc {A H} {a:Addr} {kvs:List (Key×V)} {vs:List V} {ks:List Key} {ds:List D}:((H a=some (.dK kvs)/\A a)\/ ∃o,H a=some (.frz o (.dK kvs)))->kvs.map (·.1)=ks->kvs.map (·.2)=vs->Reps K (fun c=>A c/\c≠a) H vs ds->Rep K A H (.ref a) (.fdc ks ds)
 |hdc {A H} {a:Addr} {kvs:List (Key×V)} {vs:List V} {ks:List Key} {ds:List D}:(∃o,H a=some (.frz o (.dK kvs)))->kvs.map (·.1)=ks->kvs.map (·.2)=vs->Reps K (fun c=>A c/\c≠a) H vs ds->Rep K A H (.ref a) (.hdc ks ds)
 |obj {A H} {a C dx:Addr} {fs:List (Str×V)} {vs:List V} {c:Str} {ns:List Str} {ds:List D}:H a=some (.ins C dx fs)->A a->(aaw K aar c=some (some (.ref C))/\fs.map (·.1)=ns)->fs.map (·.2)=vs->Reps K (fun c=>A c/\c≠a) H vs ds->Rep K A H (.ref a) (.obj c ns ds)
 |mem {A H} {a:Addr} {B:List NK} {Φ:NK->Option NK->Prop}:H a=some (.memo B Φ)->A a->Rep K A H (.ref a) (.mem B Φ)
inductive Reps (K:aaa):(Addr->Prop)->Hp->List V->List D->Prop where
 |nil {A H}:Reps K A H [] []
 |cons {A H} {v:V} {d:D} {vs:List V} {ds:List D}:Rep K A H v d->Reps K A H vs ds->Reps K A H (v::vs) (d::ds)
end
def Stay (A:Wb) (H H':Hp):Prop:= ∀a o,H a=some o->(Mut (some o)->A a)->H' a=some o
def Stay.mono {A B:Wb} {H H':Hp} (h:Stay A H H') (w: ∀a,B a->A a):Stay B H H':=fun a o e m=>h a o e fun z=>w a (m z)
section
variable {K:aaa}
def LsK.stay {A:Wb} {H H':Hp} {a:Addr} {xs:List V} (h:LsK K H a xs) (st:Stay A H H'):LsK K H' a xs:=by
 rcases h with ⟨o,e⟩|h
 · exact .inl ⟨o,st a _ e (fun z=>z.elim)⟩
 · exact .inr h
def Reps.stay {A A':Wb} {H H':Hp} {vs:List V} {ds:List D} (r:Reps K A H vs ds):Stay A H H'->(∀a,A a->A' a)->Reps K A' H' vs ds:=by
 refine Reps.rec (motive_1:=fun A H v d _=> ∀B:Addr->Prop,Stay A H H'->(∀a,A a->B a)->Rep K B H' v d) (fun _ _ _=> .non) (fun b _ _ _=> .bl b) (fun i _ _ _=> .int i) (fun x h _ _ _=> .str x h) (fun e _ r _ s w=> .tup (s _ _ e fun z=>z.elim) (r _ s w)) (fun e a _ r _ s w=> .lst (s _ _ e fun _=>a) (w _ a) (r _ ?_ ?_)) (fun e _ r _ s w=> .lsk (e.stay s) (r _ s w)) (fun e a k l _ r _ s w=> .dic (s _ _ e fun _=>a) (w _ a) k l (r _ ?_ ?_)) (fun e a k l _ r _ s w=> .dit (s _ _ e fun _=>a) (w _ a) k l (r _ ?_ ?_)) (fun e k l _ s w=> .exn (s _ _ e fun z=>z.elim) k l) (fun e k l _ r _ s w=> .fdc (e.elim (fun z=> .inl ⟨s _ _ z.1 fun _=>z.2,w _ z.2⟩) (fun z=>z.elim fun _ z=> .inr ⟨_,s _ _ z fun z=>z.elim⟩)) k l (r _ ?_ ?_)) (fun e k l _ r _ s w=> .hdc (e.elim fun _ z=>⟨_,s _ _ z fun z=>z.elim⟩) k l (r _ ?_ ?_)) (fun e a k l _ r _ s w=> .obj (s _ _ e fun _=>a) (w _ a) k l (r _ ?_ ?_)) (fun e a _ s w=> .mem (s _ _ e fun _=>a) (w _ a)) (fun _ _ _=> .nil) (fun _ _ h t _ s w=> .cons (h _ s w) (t _ s w)) r A'
 any_goals exact s.mono fun _ z=>z.1
 all_goals exact fun _ z=>⟨w _ z.1,z.2⟩
def Rep.stay {A A':Wb} {H H':Hp} {v:V} {d:D} (r:Rep K A H v d) (s:Stay A H H') (w: ∀a,A a->A' a):Rep K A' H' v d:=by
 cases Reps.stay (.cons r .nil) s w;assumption
def Same.stay {A:Wb} {H H':Hp} (h:Same H H'):Stay A H H':=fun a o e _=>h a o e
variable {A A':Wb} {H H':Hp}
def Rep.grow {v:V} {d:D} (r:Rep K A H v d) (h:Same H H'):Rep K A H' v d:=r.stay (Same.stay h) fun _ z=>z
def Reps.grow {v:List V} {d:List D} (r:Reps K A H v d) (h:Same H H'):Reps K A H' v d:=r.stay (Same.stay h) fun _ z=>z
def Rep.weak {v:V} {d:D} (r:Rep K A H v d) (w: ∀a,A a->A' a):Rep K A' H v d:=r.stay (fun _ _ e _=>e) w
def Reps.weak {v:List V} {d:List D} (r:Reps K A H v d) (w: ∀a,A a->A' a):Reps K A' H v d:=r.stay (fun _ _ e _=>e) w
def Reps.imm {A A':Wb} {H:Hp} {vs:List V} {ds:List D} (r:Reps K A H vs ds):D.imms ds=true->Reps K A' H vs ds:=by
 refine Reps.rec (motive_1:=fun _ H v d _=>d.imm=true->Rep K A' H v d) (fun _=> .non) (fun b _=> .bl b) (fun i _=> .int i) (fun x h _=> .str x h) (fun e _ r i=> .tup e (r (by simpa only [D.imm] using i))) ?_ ?_ ?_ ?_ (fun e k l _=> .exn e k l) ?_ ?_ ?_ ?_ (fun _=> .nil) (fun _ _ h t i=>?_) r
 case refine_9=>simp only [D.imms,aax] at i;exact .cons (h i.1) (t i.2)
 all_goals intros;rename_i i;simp [D.imm] at i
def Rep.imm {A A':Wb} {H:Hp} {v:V} {d:D} (r:Rep K A H v d) (i:d.imm=true):Rep K A' H v d:=by
 cases Reps.imm (.cons r .nil) (by simp [D.imms,i]);assumption
def Reps.length {A:Wb} {H:Hp} {vs:List V} {ds:List D} (r:Reps K A H vs ds):vs.length=ds.length:=by
 induction vs generalizing ds with
 |nil=>cases r;rfl
 |cons v vs ih=>
  cases r with
  |cons _ t=>simp [ih t]
def Reps.get {A:Wb} {H:Hp} {vs:List V} {ds:List D} {i:Nat} {d:D} (r:Reps K A H vs ds) (e:ds[i]?=some d): ∃v,vs[i]?=some v/\Rep K A H v d:=by
 induction vs generalizing ds i with
 |nil=>cases r;simp at e
 |cons v vs ih=>
  cases r with
  |cons r t=>
   cases i with
   |zero=>simp at e;subst e;exact ⟨_,rfl,r⟩
   |succ i=>simpa using ih t (by simpa using e)
def Reps.get' {A:Wb} {H:Hp} {vs:List V} {ds:List D} {i:Nat} {v:V} (r:Reps K A H vs ds) (e:vs[i]?=some v): ∃d,ds[i]?=some d/\Rep K A H v d:=by
 induction vs generalizing ds i with
 |nil=>simp at e
 |cons v vs ih=>
  cases r with
  |cons r t=>
   cases i with
   |zero=>simp at e;subst e;exact ⟨_,rfl,r⟩
   |succ i=>simpa using ih t (by simpa using e)
def Reps.append {A:Wb} {H:Hp} {vs ws:List V} {ds es:List D} (r:Reps K A H vs ds) (s:Reps K A H ws es):Reps K A H (vs++ws) (ds++es):=by
 induction vs generalizing ds with
 |nil=>cases r;exact s
 |cons v vs ih=>
  cases r with
  |cons r t=>exact .cons r (ih t)
def Reps.take {A:Wb} {H:Hp} {vs:List V} {ds:List D} (n:Nat) (r:Reps K A H vs ds):Reps K A H (vs.take n) (ds.take n):=by
 induction vs generalizing ds n with
 |nil=>cases r;simpa using .nil
 |cons v vs ih=>
  cases r with
  |cons r t=>
   cases n with
   |zero=>exact .nil
   |succ n=>exact .cons r (ih n t)
def Reps.drop {A:Wb} {H:Hp} {vs:List V} {ds:List D} (n:Nat) (r:Reps K A H vs ds):Reps K A H (vs.drop n) (ds.drop n):=by
 induction vs generalizing ds n with
 |nil=>cases r;simpa using .nil
 |cons v vs ih=>
  cases n with
  |zero=>exact r
  |succ n=>
   cases r with
   |cons r t=>exact ih n t
theorem Reps.rep {vs:List V} {ds:List D} (r:Reps K A H vs ds): ∀k:Nat,Reps K A H (aal k vs).flatten (aal k ds).flatten
 |0=> .nil
 |k+1=>by
  rw [aa1,aa1,ab5,ab5];exact r.append (Reps.rep r k)
def Reps.isEmpty {xs:List V} {ds:List D} (r:Reps K A H xs ds):ds.isEmpty=xs.isEmpty:=by cases r<;>rfl
def Rep.lstE {v:V} {ds:List D} (r:Rep K A H v (.lst ds)): ∃a xs,v= .ref a/\H a=some (.lst xs)/\A a/\Reps K (fun c=>A c/\c≠a) H xs ds:=by
 cases r with
 |lst e h r=>exact ⟨_,_,rfl,e,h,r⟩
def Rep.scrE {v:V} {ds:List D} (r:Rep K A H v (.scr ds)): ∃a xs,v= .ref a/\LsK K H a xs/\Reps K A H xs ds:=by
 cases r with
 |lsk e r=>exact ⟨_,_,rfl,e,r⟩
def Rep.tupE {v:V} {ds:List D} (r:Rep K A H v (.tup ds)): ∃a xs,v= .ref a/\H a=some (.tup xs)/\Reps K A H xs ds:=by
 cases r with
 |tup e r=>exact ⟨_,_,rfl,e,r⟩
def Rep.intE {v:V} {i:Int} (r:Rep K A H v (.int i)):v= .int i:=by cases r;rfl
def Rep.blE {v:V} {b:Bool} (r:Rep K A H v (.bl b)):v= .bl b:=by cases r;rfl
def Rep.strE {v:V} {x:Str} (r:Rep K A H v (.str x)):v= .str x/\x.length<=aai:=by cases r;exact ⟨rfl,by assumption⟩
def Rep.nonE {v:V} (r:Rep K A H v .non):v= .non:=by cases r;rfl
def Reps.low {a:Addr} {vs:List V} {ds:List D} (r:Reps K (fun c=>A c/\c≠a) H vs ds):Reps K A H vs ds:=r.weak fun _ z=>z.1
def Reps.inDom {A:Wb} {H:Hp} {vs:List V} {ds:List D} (r:Reps K A H vs ds):Reps K (fun c=>A c/\H c≠none) H vs ds:=by
 refine Reps.rec .non (fun b=> .bl b) (fun i=> .int i) (fun x h=> .str x h) (fun e _ r=> .tup e r) (fun e a _ r=> .lst e ⟨a,?_⟩ ?_) (fun e _ r=> .lsk e r) (fun e a k l _ r=> .dic e ⟨a,?_⟩ k l ?_) (fun e a k l _ r=> .dit e ⟨a,?_⟩ k l ?_) (fun e k l=> .exn e k l) (fun e k l _ r=> .fdc (e.elim (fun z=> .inl ⟨z.1,z.2,by simp [z.1]⟩) .inr) k l ?_) (fun e k l _ r=> .hdc e k l ?_) (fun e a k l _ r=> .obj e ⟨a,?_⟩ k l ?_) (fun e a=> .mem e ⟨a,by simp [e]⟩) .nil (fun _ _ h t=> .cons h t) r
 any_goals exact r.weak fun _ z=>⟨⟨z.1.1,z.2⟩,z.1.2⟩
 all_goals simp [e]
def Rep.inDom {A:Wb} {H:Hp} {v:V} {d:D} (r:Rep K A H v d):Rep K (fun c=>A c/\H c≠none) H v d:=by
 cases Reps.inDom (.cons r .nil);assumption
def Same.upd {H:Hp} {p:Addr} {o:HO} (h:H p=none):Same H (L2.upd H p o):=fun b u e=>by rw [jH (jU e h)];exact e
def Reps.laid {p:Addr} {o:HO} {vs:List V} {ds:List D} (r:Reps K A H vs ds) (hp:H p=none):Reps K (fun c=>A c/\c≠p) (L2.upd H p o) vs ds:=
 (r.inDom.grow (Same.upd hp)).weak fun c z=>⟨z.1,fun e=>z.2 (by rw [e];exact hp)⟩
end
inductive Slot where
 |un
 |own (d:D)
 |shr (d:D)
abbrev Sl:=List Slot
def jR (env:Sl) (σ:St) (a:Addr):Prop:= ∃(i:Nat) (d:D),env[i]?=some (.own d)/\σ[i]?=some (some (.ref a))
abbrev NotO (env:Sl) (σ:St):Addr->Prop:=fun a=> ¬jR env σ a
abbrev Sf (G:Wb) (env:Sl) (σ:St):Addr->Prop:=fun a=> ¬jR env σ a/\G a
inductive Top (K:aaa) (A:Wb) (H:Hp) (a:Addr):D->Prop where
 |lst {xs:List V} {ds:List D}:H a=some (.lst xs)->Reps K A H xs ds->Top K A H a (.lst ds)
 |dic {kvs:List (Key×V)} {vs:List V} {ks:List Key} {ds:List D}:H a=some (.dK kvs)->kvs.map (·.1)=ks->kvs.map (·.2)=vs->Reps K A H vs ds->Top K A H a (.dic ks ds)
 |dit {kvs:List ((List Key)×V)} {vs:List V} {ks:List (List Key)} {ds:List D}:H a=some (.dT kvs)->kvs.map (·.1)=ks->kvs.map (·.2)=vs->Reps K A H vs ds->Top K A H a (.dit ks ds)
 |obj {C dx:Addr} {fs:List (Str×V)} {vs:List V} {c:Str} {ns:List Str} {ds:List D}:H a=some (.ins C dx fs)->(aaw K aar c=some (some (.ref C))/\fs.map (·.1)=ns)->fs.map (·.2)=vs->Reps K A H vs ds->Top K A H a (.obj c ns ds)
def Top.rep {K:aaa} {A A':Wb} {H:Hp} {a:Addr} {d:D} (t:Top K A H a d) (w: ∀b,A b->A' b/\b≠a) (ha:A' a):Rep K A' H (.ref a) d:=by
 cases t with
 |lst e r=>exact .lst e ha (r.weak w)
 |dic e k1 k2 r=>exact .dic e ha k1 k2 (r.weak w)
 |dit e k1 k2 r=>exact .dit e ha k1 k2 (r.weak w)
 |obj e k1 k2 r=>exact .obj e ha k1 k2 (r.weak w)
def Top.stay {K:aaa} {A A':Wb} {H H':Hp} {a:Addr} {d:D} (t:Top K A H a d) (st:Stay A H H') (w: ∀b,A b->A' b) (ha: ∀o,H a=some o->H' a=some o):Top K A' H' a d:=by
 cases t with
 |lst e r=>exact .lst (ha _ e) (r.stay st w)
 |dic e k1 k2 r=>exact .dic (ha _ e) k1 k2 (r.stay st w)
 |dit e k1 k2 r=>exact .dit (ha _ e) k1 k2 (r.stay st w)
 |obj e k1 k2 r=>exact .obj (ha _ e) k1 k2 (r.stay st w)
def Top.there {K:aaa} {A:Wb} {H:Hp} {a:Addr} {d:D} (t:Top K A H a d): ∃o,H a=some o/\Mut (some o):=by
 cases t with
 |lst e r=>exact ⟨_,e,trivial⟩
 |dic e _ _ r=>exact ⟨_,e,trivial⟩
 |dit e _ _ r=>exact ⟨_,e,trivial⟩
 |obj e _ _ r=>exact ⟨_,e,trivial⟩
structure EnvOk (K:aaa) (G:Wb) (H0:Hp) (env:Sl) (σ:St) (H:Hp):Prop where
 len:σ.length=env.length
 base:Same H0 H
 g0: ∀a,H0 a=none->G a
 shr: ∀(i:Nat) (d:D),env[i]?=some (.shr d)-> ∃v,σ[i]?=some (some v)/\Rep K (Sf G env σ) H v d
 own: ∀(i:Nat) (d:D),env[i]?=some (.own d)-> ∃a,σ[i]?=some (some (.ref a))/\H0 a=none/\Top K (Sf G env σ) H a d
 dis: ∀(i j:Nat) (d e:D) (a:Addr),env[i]?=some (.own d)->env[j]?=some (.own e)->σ[i]?=some (some (.ref a))->σ[j]?=some (some (.ref a))->i=j
section
variable {K:aaa} {G:Wb} {H0 H H':Hp} {env:Sl} {σ:St}
def EnvOk.grow (e:EnvOk K G H0 env σ H) (h:Same H H'):EnvOk K G H0 env σ H' where
 len:=e.len
 base:=e.base.trans h
 g0:=e.g0
 shr:=fun i d z=>let ⟨v,h1,h2⟩:=e.shr i d z;⟨v,h1,h2.grow h⟩
 own:=fun i d z=>let ⟨a,h1,h2,h3⟩:=e.own i d z;⟨a,h1,h2,h3.stay (Same.stay h) (fun _ z=>z) (fun o q=>h _ o q)⟩
 dis:=e.dis
def EnvOk.there (e:EnvOk K G H0 env σ H) {a:Addr} (o:jR env σ a): ∃u,H a=some u:=by
 obtain ⟨i,d,h1,h2⟩:=o;obtain ⟨b,h3,_,h4⟩:=e.own i d h1;rw [h2] at h3;cases h3;obtain ⟨u,h5,_⟩:=h4.there;exact ⟨u,h5⟩
def EnvOk.mutO (k:EnvOk K G H0 env σ H) {a:Addr} (o:jR env σ a) {u:HO} (e:H a=some u):Mut (some u):=by
 obtain ⟨i,d,h1,h2⟩:=o;obtain ⟨b,h3,_,h4⟩:=k.own i d h1;rw [h2] at h3;cases h3;obtain ⟨u',h5,m⟩:=h4.there;rw [e] at h5;cases h5;exact m
def EnvOk.new (k:EnvOk K G H0 env σ H): ∀a,H a=none->Sf G env σ a:=fun a z=>⟨fun o=>(by
 obtain ⟨u,q⟩:=k.there o
 rw [z] at q;cases q),k.g0 a (Same.free k.base z)⟩
end
inductive Lv where
 |b|s|t
abbrev Any:Addr->Prop:=fun _=>True
def Lv.A (l:Lv) (G:Wb) (env:Sl) (σ:St):Addr->Prop:=
 match l with
 | .b=>Any
 | .s=>Sf G env σ
 | .t=>Sf G env σ
def NewTop (H:Hp) (v:V):Prop:= ∀a,v= .ref a-> ∀o,H a=some o-> ¬Mut (some o)
def Lv.T (l:Lv) (H:Hp) (v:V):Prop:=
 match l with
 | .t=>NewTop H v
 |_=>True
def NewTop.grow {H H':Hp} {v:V} (h:Same H H') (n:NewTop H' v):NewTop H v:=fun a e o q=>n a e o (h a o q)
def Lv.Tgrow {l:Lv} {H H':Hp} {v:V} (h:Same H H') (n:l.T H' v):l.T H v:=by
 cases l with
 |t=>exact NewTop.grow h n
 |b=>trivial
 |s=>trivial
def tE (K:aaa) (l:Lv) (f:Sl->Res D):TE:=fun σ H Q=> ∃G H0 env d,EnvOk K G H0 env σ H/\f env= .ok d/\ ∀v H',Same H H'->Rep K (l.A G env σ) H' v d->l.T H v->Q v H'
def tT (K:aaa) (f:Sl->Res Bool):TT:=fun σ H Q=> ∃G H0 env b,EnvOk K G H0 env σ H/\f env= .ok b/\ ∀H',Same H H'->Q b H'
def tA (K:aaa) (l:Lv) (f:Sl->Res (List D)):TA:=fun σ H Q=> ∃G H0 env ds,EnvOk K G H0 env σ H/\f env= .ok ds/\ ∀vs H',Same H H'->Reps K (l.A G env σ) H' vs ds->Q vs H'
@[irreducible] def DE (X:Cx) (l:Lv) (e:Expr) (f:Sl->Res D):Prop:=PE X e (tE X.K l f)
@[irreducible] def DT (X:Cx) (e:Expr) (f:Sl->Res Bool):Prop:=PT X e (tT X.K f)
@[irreducible] def DA (X:Cx) (l:Lv) (es:List Expr) (f:Sl->Res (List D)):Prop:=PA X es (tA X.K l f)
inductive Out where
 |nx (env:Sl)|rt (fr:Bool) (d:D)|bk (env:Sl)|ct (env:Sl)
abbrev T0:=Sl->Res D
abbrev TZ:=Sl->Res Bool
abbrev TY:=Sl->Res Out
abbrev TX:=Sl->Res (List D)
abbrev TW:=List D->Res D
abbrev TV:=D->Sl->Res Sl
structure Frm (env:Sl) (σ:St) (H:Hp) (env':Sl) (σ':St) (H':Hp):Prop where
 keep: ∀b o,H b=some o-> ¬jR env σ b->H' b=some o
 more: ∀b,jR env' σ' b->jR env σ b\/H b=none
 size: ∀b,H' b=none->H b=none
def Post (K:aaa) (G:Wb) (H0:Hp) (env:Sl) (σ:St) (H:Hp) (E:Ends) (o:Out):Prop:=
 match o with
 | .nx env'=> ∀σ' H',EnvOk K G H0 env' σ' H'->Frm env σ H env' σ' H'->E.nx σ' H'
 | .bk env'=> ∀σ' H',EnvOk K G H0 env' σ' H'->Frm env σ H env' σ' H'->E.bk σ' H'
 | .ct env'=> ∀σ' H',EnvOk K G H0 env' σ' H'->Frm env σ H env' σ' H'->E.ct σ' H'
 | .rt fr d=> ∀v H',Same H0 H'->Rep K G H' v d->(fr=true->NewTop H0 v)->E.rt v H'
def tS (K:aaa) (g:TY):TS:=fun E σ H=> ∃G H0 env o,EnvOk K G H0 env σ H/\g env= .ok o/\Post K G H0 env σ H E o
@[irreducible] def DS (X:Cx) (st:Stmt) (g:TY):Prop:=PS X st (tS X.K g)
@[irreducible] def DSs (X:Cx) (st:List Stmt) (g:TY):Prop:=PSs X st (tS X.K g)
section
variable {X:Cx} {e:Expr} {es:List Expr} {st:Stmt} {sts:List Stmt}
def PE.imp {t t':TE} (h:PE X e t) (w: ∀σ H Q,t' σ H Q->t σ H Q):PE X e t':=fun pins s σ H Q I q=>h pins s σ H Q I (w σ H Q q)
def PT.imp {t t':TT} (h:PT X e t) (w: ∀σ H Q,t' σ H Q->t σ H Q):PT X e t':=fun pins s σ H Q I q=>h pins s σ H Q I (w σ H Q q)
def PA.imp {t t':TA} (h:PA X es t) (w: ∀σ H Q,t' σ H Q->t σ H Q):PA X es t':=fun pos pins s σ H Q I q=>h pos pins s σ H Q I (w σ H Q q)
def PS.imp {t t':TS} (h:PS X st t) (w: ∀E σ H,t' E σ H->t E σ H):PS X st t':=fun pins s σ H E I q=>h pins s σ H E I (w E σ H q)
def PSs.imp {t t':TS} (h:PSs X sts t) (w: ∀E σ H,t' E σ H->t E σ H):PSs X sts t':=fun pins s σ H E I q=>h pins s σ H E I (w E σ H q)
end
def Frm.refl {env:Sl} {σ:St} {H H':Hp} (h:Same H H'):Frm env σ H env σ H':=⟨fun b o e _=>h b o e,fun b o=> .inl o,fun b e=>Same.free h e⟩
def Frm.trans {env env1 env2:Sl} {σ σ1 σ2:St} {H H1 H2:Hp} (a:Frm env σ H env1 σ1 H1) (b:Frm env1 σ1 H1 env2 σ2 H2):Frm env σ H env2 σ2 H2 where
 keep:=fun c o e n=>b.keep c o (a.keep c o e n) fun z=>by
  rcases a.more c z with z|z
  · exact n z
  · rw [e] at z;cases z
 more:=fun c o=>by
  rcases b.more c o with z|z
  · exact a.more c z
  · exact .inr (a.size c z)
 size:=fun c e=>a.size c (b.size c e)
def Frm.grow {env env1:Sl} {σ σ1:St} {H Hm H1:Hp} (h:Same H Hm) (b:Frm env σ Hm env1 σ1 H1):Frm env σ H env1 σ1 H1:=(Frm.refl h).trans b
section
variable {X:Cx} {e:Expr} {f:T0}
def Lv.weak_b {l:Lv} {G:Wb} {env:Sl} {σ:St}: ∀a,l.A G env σ a->Any a:=fun _ _=>trivial
def DE.b {l:Lv} (h:DE X l e f):DE X .b e f:=by
 with_unfolding_all exact (PE.imp h fun σ H Q ⟨G,H0,env,d,k,ef,q⟩=>⟨G,H0,env,d,k,ef,fun v H' s r _=>q v H' s (r.weak Lv.weak_b) trivial⟩)
def DE.s (h:DE X .t e f):DE X .s e f:=by
 with_unfolding_all exact (PE.imp h fun σ H Q ⟨G,H0,env,d,k,ef,q⟩=>⟨G,H0,env,d,k,ef,fun v H' s r _=>q v H' s r trivial⟩)
def WD {K:aaa} {A:Wb} {H H':Hp} {v:V} {d:D} (s:Same H H') (r:Rep K A H' v d) (i:d.imm=true):NewTop H v:=fun a e o q m=>by
 subst e
 cases r with
 |tup e _=>rw [s _ _ q] at e;cases e;exact m
 |lst _ _ _=>simp [D.imm] at i
 |lsk _ _=>simp [D.imm] at i
 |dic _ _ _ _ _=>simp [D.imm] at i
 |dit _ _ _ _ _=>simp [D.imm] at i
 |obj _ _ _ _ _=>simp [D.imm] at i
 |fdc _ _ _ _=>simp [D.imm] at i
 |hdc _ _ _ _=>simp [D.imm] at i
 |mem _ _=>simp [D.imm] at i
 |exn e _ _=>rw [s _ _ q] at e;cases e;exact m
def chk (f:T0):Sl->Res D:=fun env=>f env>>=fun d=>must (d.imm=true) (.ok d)
def DE.chk {l l':Lv} (h:DE X l e f):DE X l' e (chk f):=by
 with_unfolding_all exact (PE.imp h fun σ H Q ⟨G,H0,env,d,k,ef,q⟩=>by
  obtain ⟨d',e1,e2⟩:=jd ef;obtain ⟨i,e3⟩:=jn e2;cases e3;refine ⟨G,H0,env,d,k,e1,fun v H' s r _=>q v H' s (r.imm i) ?_⟩
  cases l' with
  |t=>exact WD s r i
  |b=>trivial
  |s=>trivial)
end
def Qv:Expr->Bool
 | .Starred _ _=>false
 |_=>true
def jp {e:Expr} {es:List Expr} {env:Env} (h:Qv e=true):aao (e::es) env=(false,eval e env)::aao es env:=by
 cases e<;>first|rfl|cases h
def W7 {es:List Expr} {env:Env} (h:es.all Qv=true):(aao es env).all (fun x=>!x.1)=true:=by
 induction es with
 |nil=>rfl
 |cons e r ih=>
  rw [acU,aax] at h;rw [jp h.1,acU,ih h.2];rfl
def X3 {pos:Pos} {l:List (Bool×Sem Value)} (h:l.all (fun x=>!x.1)=true):(abw pos l).all (fun x=>!x.1)=true:=by
 induction l with
 |nil=>rfl
 |cons p r ih=>
  obtain ⟨s,t⟩:=p;rw [acU,aax] at h;show ((!s)&&(abw pos r).all (fun x=>!x.1))=true;rw [ih h.2,Bool.and_true];exact h.1
def jC {pos:Pos} {es:List Expr} {env:Env} (h:es.all Qv=true):(abw pos (aao es env)).any (·.1)=false:=by
 have:=X3 (pos:=pos) (W7 (env:=env) h);rw [aaW] at this;rw [aeA];intro x hx z;have q:=this x hx;rw [z] at q;cases q
def wK {cpos:Pos} {e:Expr} {es:List Expr} {env:Env} (h:(e::es).all Qv=true) (hl:decide ((e::es).length<30)=true):
  ((abw cpos (aao (e::es) env)).all (fun x=>!x.1)&&(adr cpos (acb [] env)).all (fun x=>x.1.isSome)
   &&decide ((e::es).length+([]:List acQ).length+(if ([]:List acQ).isEmpty then 0 else 1)<30))=true:=by
 have hk:(adr cpos (acb [] env)).all (fun x=>x.1.isSome)=true:=rfl;rw [X3 (W7 h),hk];simpa using hl
section
variable {X:Cx} {e a b c o:Expr} {es:List Expr} {pos:Pos} {l l1 l2 l':Lv} {f f1 f2 f3:T0}
def cI (i:Int):Sl->Res D:=fun _=> .ok (.int i)
def cB (b:Bool):Sl->Res D:=fun _=> .ok (.bl b)
def cN:Sl->Res D:=fun _=> .ok .non
def cS (x:Str):Sl->Res D:=fun _=> .ok (.str x)
def rdS (i:Nat):Sl->Res D:=fun env=>match env[i]? with
 |some (.shr d)=> .ok d
 |_=> .stuck
def rdB (i:Nat):Sl->Res D:=fun env=>match env[i]? with
 |some (.shr d)=> .ok d
 |some (.own d)=> .ok d
 |_=> .stuck
def Qe {i:Nat} {env:Sl} {d:D} (h:rdS i env= .ok d):env[i]?=some (.shr d):=by
 unfold rdS at h
 split at h
 · cases h;assumption
 · cases h
def Kt {i:Nat} {env:Sl} {d:D} (h:rdB i env= .ok d):env[i]?=some (.shr d)\/env[i]?=some (.own d):=by
 unfold rdB at h
 split at h
 · cases h;left;assumption
 · cases h;right;assumption
 · cases h
def Zj {K:aaa} {G:Wb} {H0 H:Hp} {env:Sl} {σ:L2.St} {i:Nat} {d:D} {a:Addr} (k:EnvOk K G H0 env σ H) (h1:env[i]?=some (.own d)) (h2:σ[i]?=some (some (.ref a))): ∀c,Sf G env σ c->c≠a:=fun c z e=>z.1 (by rw [e];exact ⟨i,d,h1,h2⟩)
def dv (i:Nat) {x:Str} (hN:X.N[i]?=some x:=by rfl) (hv:Vis X.env.scope x:=by first|exact abV rfl|exact abj (abV rfl)|exact abj (abj rfl)) (hd:Ym x:=by decide)
   (hcd:Yl x:=by decide):DE X .s (.Name x pos) (rdS i):=by
 with_unfolding_all exact (
  PE.imp (wn hN hv hd hcd) fun σ H Q ⟨G,H0,env,d,k,ef,q⟩=>by
   obtain ⟨v,h1,h2⟩:=k.shr i d (Qe ef)
   exact ⟨v,h1,q v H (Same.refl H) h2 trivial⟩)
def db (i:Nat) {x:Str} (hN:X.N[i]?=some x:=by rfl) (hv:Vis X.env.scope x:=by first|exact abV rfl|exact abj (abV rfl)|exact abj (abj rfl)) (hd:Ym x:=by decide)
   (hcd:Yl x:=by decide):DE X .b (.Name x pos) (rdB i):=by
 with_unfolding_all exact (
  PE.imp (wn hN hv hd hcd) fun σ H Q ⟨G,H0,env,d,k,ef,q⟩=>by
   rcases Kt ef with z|z
   · obtain ⟨v,h1,h2⟩:=k.shr i d z;exact ⟨v,h1,q v H (Same.refl H) (h2.weak fun _ _=>trivial) trivial⟩
   · obtain ⟨v,h1,_,h2⟩:=k.own i d z
     exact ⟨_,h1,q _ H (Same.refl H) (h2.rep (fun c y=>⟨trivial,Zj k z h1 c y⟩) trivial) trivial⟩)
def Sc (K:aaa) (v:V) (d:D):Prop:=(∀A H,Rep K A H v d)/\ ∀a,v≠ .ref a
def Sc.T {K:aaa} {v:V} {d:D} {H:Hp} (h:Sc K v d):l.T H v:=by
 cases l with
 |t=>exact fun a e=>absurd e (h.2 a)
 |b=>trivial
 |s=>trivial
def je0 {K:aaa} (i:Int):Sc K (.int i) (.int i):=⟨fun _ _=> .int i,fun a e=>by cases e⟩
def jeX {K:aaa} (i:Bool):Sc K (.bl i) (.bl i):=⟨fun _ _=> .bl i,fun a e=>by cases e⟩
def je6 {K:aaa}:Sc K .non .non:=⟨fun _ _=> .non,fun a e=>by cases e⟩
def je9 {K:aaa} (x:Str) (h:x.length<=aai):Sc K (.str x) (.str x):=⟨fun _ _=> .str x h,fun a e=>by cases e⟩
def de_c {v:V} {d:D} (h:PE X e (tC v)) (r:Sc X.K v d):DE X l e (fun _=> .ok d):=by
 with_unfolding_all exact (
  PE.imp h fun σ H Q ⟨G,H0,env,d',k,ef,q⟩=>by
   cases ef
   exact q v H (Same.refl H) (r.1 _ H) r.T)
def Ux {i:Int} {j}:DE X l (.Constant (.int i) j pos) (cI i):=de_c jcD (je0 i)
def wS {i:Bool} {j}:DE X l (.Constant (.bool i) j pos) (cB i):=de_c jd9 (jeX i)
def zR {j}:DE X l (.Constant .none j pos) cN:=de_c jcB je6
def ZL {x:Str} {j} (h:x.length<=aai:=by decide):DE X l (.Constant (.str x) j pos) (cS x):=de_c jcx (je9 x h)
def jbr {x:Str} {i:Int} {t:Tok} (hg:Gl X x) (hm:X.mg x=some (.int i t)) (hd:Ym x:=by decide):DE X l (.Name x pos) (cI i):=
 de_c (KK (v:= .int i) hg hm ⟨t,rfl⟩ hd) (je0 i)
def jbq {x y:Str} {t:Tok} (hg:Gl X x) (hm:X.mg x=some (.str y t)) (hl:y.length<=aai:=by decide) (hd:Ym x:=by decide):DE X l (.Name x pos) (cS y):=
 de_c (KK (v:= .str y) hg hm ⟨t,rfl⟩ hd) (je9 y hl)
def OpS (K:aaa) (r:R2) (g:D->D->Res D):Prop:= ∀(x y:V) (H:Hp) (a b d:D) (Q:VK),Rep K Any H x a->Rep K Any H y b->g a b= .ok d->(∀v,Sc K v d->Q v H)->r x y H Q
def OpD (K:aaa) (r:R2) (g:D->D->Res D):Prop:= ∀(A:Wb) (x y:V) (H:Hp) (a b d:D) (Q:VK),Rep K A H x a->Rep K A H y b->g a b= .ok d->(∀v H',Same H H'->Rep K (fun c=>H c=none\/A c) H' v d->NewTop H v->Q v H')->r x y H Q
def two (f1 f2:T0) (g:D->D->Res D):Sl->Res D:=fun env=>f1 env>>=fun x=>f2 env>>=fun y=>g x y
def uX {K:aaa} {r:R2} {g:D->D->Res D} (hr:OpS K r g) {σ:L2.St} {H:Hp} {Q:VK} (h:tE K l (two f1 f2 g) σ H Q):tOp r (tE K l1 f1) (tE K l2 f2) σ H Q:=by
 obtain ⟨G,H0,env,d,k,ef,q⟩:=h;obtain ⟨a,e1,ef⟩:=jd ef;obtain ⟨b,e2,e3⟩:=jd ef;refine ⟨G,H0,env,a,k,e1,fun x H1 s1 r1 _=>⟨G,H0,env,b,k.grow s1,e2,fun y H2 s2 r2 _=>?_⟩⟩;exact hr x y H2 a b d Q ((r1.grow s2).weak Lv.weak_b) (r2.weak Lv.weak_b) e3 fun v sc=>q v H2 (s1.trans s2) (sc.1 _ _) sc.T
def jdM {K:aaa} {r:R2} {g:D->D->Res D} (hr:OpD K r g) {σ:L2.St} {H:Hp} {Q:VK} (h:tE K .t (two f1 f2 g) σ H Q):tOp r (tE K .s f1) (tE K .s f2) σ H Q:=by
 obtain ⟨G,H0,env,d,k,ef,q⟩:=h;obtain ⟨a,e1,ef⟩:=jd ef;obtain ⟨b,e2,e3⟩:=jd ef;refine ⟨G,H0,env,a,k,e1,fun x H1 s1 r1 _=>⟨G,H0,env,b,k.grow s1,e2,fun y H2 s2 r2 _=>?_⟩⟩;have sm:=s1.trans s2;exact hr _ x y H2 a b d Q (r1.grow s2) r2 e3 fun v H3 s3 r3 nt=>q v H3 (sm.trans s3) (r3.weak fun c z=>z.elim (fun z=>k.new c (Same.free sm z)) fun z=>z) (nt.grow sm)
def jdN {K:aaa} {r:R2} {g:D->D->Res D} (hr:OpD K r g) {σ:L2.St} {H:Hp} {Q:VK} (h:tE K .b (two f1 f2 g) σ H Q):tOp r (tE K .b f1) (tE K .b f2) σ H Q:=by
 obtain ⟨G,H0,env,d,k,ef,q⟩:=h;obtain ⟨a,e1,ef⟩:=jd ef;obtain ⟨b,e2,e3⟩:=jd ef;refine ⟨G,H0,env,a,k,e1,fun x H1 s1 r1 _=>⟨G,H0,env,b,k.grow s1,e2,fun y H2 s2 r2 _=>?_⟩⟩;have sm:=s1.trans s2;exact hr _ x y H2 a b d Q (r1.grow s2) r2 e3 fun v H3 s3 r3 nt=>q v H3 (sm.trans s3) (r3.weak fun c _=>trivial) trivial
def YM {op:ael} {r:R2} {g:D->D->Res D} (ho:OpR X (acg op) r) (hr:OpS X.K r g) (ha:DE X l1 a f1) (hb:DE X l2 b f2):DE X l (.BinOp a op b pos) (two f1 f2 g):=by
 with_unfolding_all exact (
  PE.imp (jaw ho ha hb) fun _ _ _ h=>uX hr h)
def wR {op:ael} {r:R2} {g:D->D->Res D} (ho:OpR X (acg op) r) (hr:OpD X.K r g) (ha:DE X .s a f1) (hb:DE X .s b f2):DE X .t (.BinOp a op b pos) (two f1 f2 g):=by
 with_unfolding_all exact (
  PE.imp (jaw ho ha hb) fun _ _ _ h=>jdM hr h)
def uI {op:ael} {r:R2} {g:D->D->Res D} (ho:OpR X (acg op) r) (hr:OpD X.K r g) (ha:DE X .b a f1) (hb:DE X .b b f2):DE X .b (.BinOp a op b pos) (two f1 f2 g):=by
 with_unfolding_all exact (
  PE.imp (jaw ho ha hb) fun _ _ _ h=>jdN hr h)
def XU {op:CmpOp} {r:R2} {g:D->D->Res D} (ho:OpR X (aa9 op) r) (hr:OpS X.K r g) (ha:DE X l1 a f1) (hb:DE X l2 b f2) (hm:acG op b=false:=by first|exact ue _| (with_unfolding_all rfl)):DE X l (.Compare a [op] [b] pos) (two f1 f2 g):=by
 with_unfolding_all exact (
  PE.imp (jaB ho ha hb hm) fun _ _ _ h=>uX hr h)
def asB (f:T0):Sl->Res Bool:=fun env=>f env>>=fun d=>match d with
 | .bl b=> .ok b
 |_=> .stuck
def jbI {env:Sl} {b:Bool} (h:asB f env= .ok b):f env= .ok (.bl b):=by
 obtain ⟨d,e1,e2⟩:=jd h
 cases d with
 |bl c=>cases e2;exact e1
 |_=>cases e2
def Z8 {K:aaa} {t:TE} (ht: ∀σ H Q,tE K l f σ H Q->t σ H Q) {σ:L2.St} {H:Hp} {Q:Bool->Hp->Prop} (h:tT K (asB f) σ H Q):uW t σ H Q:=by
 obtain ⟨G,H0,env,b,k,ef,q⟩:=h;refine ht σ H _ ⟨G,H0,env,.bl b,k,jbI ef,fun v H' s r _=>⟨b,r.blE,q H' s⟩⟩
def qc {op:CmpOp} {r:R2} {g:D->D->Res D} (ho:OpR X (aa9 op) r) (hr:OpS X.K r g) (ha:DE X l1 a f1) (hb:DE X l2 b f2) (hm:acG op b=false:=by first|exact ue _| (with_unfolding_all rfl)):DT X (.Compare a [op] [b] pos) (asB (two f1 f2 g)):=by
 with_unfolding_all exact (
  PT.imp (jap ho ha hb hm) fun _ _ _ h=>Z8 (l:= .b) (fun _ _ _ h=>uX hr h) h)
def JA (f1 f2 f3:T0) (g g':D->D->Res D):Sl->Res D:=fun env=>f1 env>>=fun x=>f2 env>>=fun y=>g x y>>=fun z=>match z with
 | .bl true=>f3 env>>=fun w=>g' y w
 | .bl false=> .ok (.bl false)
 |_=> .stuck
def W5 {K:aaa} {l3:Lv} {r r':R2} {g g':D->D->Res D} (hr:OpS K r g) (hr':OpS K r' g') {σ:L2.St} {H:Hp} {Q:VK} (h:tE K l (JA f1 f2 f3 g g') σ H Q):Y6 r r' (tE K l1 f1) (tE K l2 f2) (tE K l3 f3) σ H Q:=by
 obtain ⟨G,H0,env,d,k,ef,q⟩:=h;obtain ⟨a,e1,ef⟩:=jd ef;obtain ⟨b,e2,ef⟩:=jd ef;obtain ⟨z,e3,e4⟩:=jd ef;refine ⟨G,H0,env,a,k,e1,fun x H1 s1 r1 _=>⟨G,H0,env,b,k.grow s1,e2,fun y H2 s2 r2 _=>?_⟩⟩;refine hr x y H2 a b z _ ((r1.grow s2).weak Lv.weak_b) (r2.weak Lv.weak_b) e3 fun v sc=>?_
 cases z with
 |bl t=>
  refine ⟨t,(sc.1 Any H2).blE,?_⟩
  cases t with
  |false=>
   cases e4;rw [if_neg aaH];exact q _ H2 (s1.trans s2) (.bl false) (jeX (K:=K) false).T
  |true=>
   obtain ⟨w,e5,e6⟩:=jd e4;rw [if_pos rfl];refine ⟨G,H0,env,w,(k.grow s1).grow s2,e5,fun y' H4 s4 r4 _=>?_⟩;refine hr' y y' H4 b w d Q ((r2.grow s4).weak Lv.weak_b) (r4.weak Lv.weak_b) e6 fun v sc=>q v H4 (s1.trans (s2.trans s4)) (sc.1 _ _) sc.T
 |_=>cases e4
def vD {op op':CmpOp} {l3:Lv} {r r':R2} {g g':D->D->Res D} (ho:OpR X (aa9 op) r) (hr:OpS X.K r g) (ho':OpR X (aa9 op') r') (hr':OpS X.K r' g') (ha:DE X l1 a f1) (hb:DE X l2 b f2) (hc:DE X l3 c f3)
   (hm:lastMarks [op,op'] [b,c]=false:=by with_unfolding_all rfl):DE X l (.Compare a [op,op'] [b,c] pos) (JA f1 f2 f3 g g'):=by
 with_unfolding_all exact (
  PE.imp (kn ho ho' ha hb hc hm) fun _ _ _ h=>W5 hr hr' h)
def vk {op op':CmpOp} {l3:Lv} {r r':R2} {g g':D->D->Res D} (ho:OpR X (aa9 op) r) (hr:OpS X.K r g) (ho':OpR X (aa9 op') r') (hr':OpS X.K r' g') (ha:DE X l1 a f1) (hb:DE X l2 b f2) (hc:DE X l3 c f3)
   (hm:lastMarks [op,op'] [b,c]=false:=by with_unfolding_all rfl):DT X (.Compare a [op,op'] [b,c] pos) (asB (JA f1 f2 f3 g g')):=by
 with_unfolding_all exact (
  PT.imp (U7 ho ho' ha hb hc hm) fun _ _ _ h=>Z8 (l:= .b) (fun _ _ _ h=>W5 hr hr' h) h)
def qP (h:DE X l e f) (he: ∀whole,isTrue e X.env whole=(do let v←whole;standAt e.pos;adV [v] (truthy v)):=by intro _;rfl):DT X e (asB f):=by
 with_unfolding_all exact (
  PT.imp (jco h he) fun _ _ _ h=>Z8 (fun _ _ _ h=>h) h)
def tru:D->Res Bool
 | .non=> .ok false
 | .bl b=> .ok b
 | .int i=> .ok (i !=0)
 | .str x=> .ok ((x.length:Int) !=0)
 | .tup ds=> .ok (!ds.isEmpty)
 | .lst ds=> .ok (!ds.isEmpty)
 | .scr ds=> .ok (!ds.isEmpty)
 | .dic _ _=> .stuck
 | .dit _ _=> .stuck
 | .exn _=> .stuck
 | .fdc _ _=> .stuck
 | .hdc _ _=> .stuck
 | .obj _ _ _=> .stuck
 | .mem _ _=> .stuck
def jbW {K:aaa} {A:Wb} {H:Hp} {v:V} {d:D} {b:Bool} (r:Rep K A H v d) (h:tru d= .ok b):TruV K v H b:=by
 cases r with
 |non=>cases h;rfl
 |bl c=>cases h;rfl
 |int i=>cases h;rfl
 |str x hx=>cases h;exact ⟨hx,rfl⟩
 |tup e r=>cases h;exact .inr (.inl ⟨_,.of e,by rw [r.isEmpty]⟩)
 |lst e _ r=>cases h;exact .inl ⟨_,.of e,by rw [r.isEmpty]⟩
 |lsk e r=>cases h;exact .inl ⟨_,e.sql,by rw [r.isEmpty]⟩
 |dic _ _ _ _ _=>cases h
 |dit _ _ _ _ _=>cases h
 |exn _ _ _=>cases h
 |fdc _ _ _ _=>cases h
 |hdc _ _ _ _=>cases h
 |obj _ _ _ _ _=>cases h
 |mem _ _=>cases h
def truF (f:T0):Sl->Res Bool:=fun env=>f env>>=tru
def jds (h:DE X l e f) (he: ∀whole,isTrue e X.env whole=(do let v←whole;standAt e.pos;adV [v] (truthy v)):=by intro _;rfl):DT X e (truF f):=by
 with_unfolding_all exact (
  PT.imp (U6 h he) fun σ H Q ⟨G,H0,env,b,k,ef,q⟩=>by
   obtain ⟨d,e1,e2⟩:=jd ef
   exact ⟨G,H0,env,d,k,e1,fun v H' s r _=>⟨b,jbW r e2,q H' s⟩⟩)
section
variable {g g1 g2:TZ} {rest:List Expr}
def notB (g:TZ):Sl->Res Bool:=fun env=>g env>>=fun b=> .ok (!b)
def zQ (h:DT X a g):DT X (.UnaryOp .Not a pos) (notB g):=by
 with_unfolding_all exact (
  PT.imp (jcp h) fun σ H Q ⟨G,H0,env,b,k,ef,q⟩=>by
   obtain ⟨d,e1,e2⟩:=jd ef;cases e2
   exact ⟨G,H0,env,d,k,e1,q⟩)
@[irreducible] def DW (X:Cx) (e:Expr) (f:TZ):Prop:=PW X e (tT X.K f)
theorem PW.imp {t t':TT} (h:PW X e t) (w: ∀σ H Q,t' σ H Q->t σ H Q):PW X e t':=fun wh pins s σ H Q I q=>h wh pins s σ H Q I (w σ H Q q)
def DW.dt (h:DW X e g):DT X e g:=by
 with_unfolding_all exact (PW.pt h)
def Uk (h:DT X a g):DW X (.BoolOp .And [a] pos) g:=by
 with_unfolding_all exact (jal h)
def xV (h:DT X a g):DW X (.BoolOp .Or [a] pos) g:=by
 with_unfolding_all exact (jck h)
def andB (g1 g2:TZ):Sl->Res Bool:=fun env=>g1 env>>=fun b=>if b=true then g2 env else .ok false
def orB (g1 g2:TZ):Sl->Res Bool:=fun env=>g1 env>>=fun b=>if b=true then .ok true else g2 env
def uC (h1:DT X a g1) (h2:DW X (.BoolOp .And (b::rest) pos) g2):DW X (.BoolOp .And (a::b::rest) pos) (andB g1 g2):=by
 with_unfolding_all exact (
  PW.imp (jcl h1 h2) fun σ H Q ⟨G,H0,env,r,k,ef,q⟩=>by
   obtain ⟨d,e1,e2⟩:=jd ef;refine ⟨G,H0,env,d,k,e1,fun H' s=>?_⟩
   cases d with
   |true=>rw [if_pos rfl] at e2 ⊢;exact ⟨G,H0,env,r,k.grow s,e2,fun H2 s2=>q H2 (s.trans s2)⟩
   |false=>rw [if_neg aaH] at e2 ⊢;cases e2;exact q H' s)
def Jz (h1:DT X a g1) (h2:DW X (.BoolOp .Or (b::rest) pos) g2):DW X (.BoolOp .Or (a::b::rest) pos) (orB g1 g2):=by
 with_unfolding_all exact (
  PW.imp (jd7 h1 h2) fun σ H Q ⟨G,H0,env,r,k,ef,q⟩=>by
   obtain ⟨d,e1,e2⟩:=jd ef;refine ⟨G,H0,env,d,k,e1,fun H' s=>?_⟩
   cases d with
   |false=>rw [if_neg aaH] at e2 ⊢;exact ⟨G,H0,env,r,k.grow s,e2,fun H2 s2=>q H2 (s.trans s2)⟩
   |true=>rw [if_pos rfl] at e2 ⊢;cases e2;exact q H' s)
def toB (f:T0) (g:T0) (w:Bool):Sl->Res D:=fun env=>f env>>=fun d=>match d with
 | .bl b=>if b=w then g env else .ok (.bl b)
 |_=> .stuck
def XT {op} (h:DE X l a f):DE X l (.BoolOp op [a] pos) f:=by
 with_unfolding_all exact (jcz h)
def XV (h1:DE X l1 a f1) (h2:DE X l (.BoolOp .And (b::rest) pos) f2):DE X l (.BoolOp .And (a::b::rest) pos) (toB f1 f2 true):=by
 with_unfolding_all exact (
  PE.imp (jcF h1 h2) fun σ H Q ⟨G,H0,env,r,k,ef,q⟩=>by
   obtain ⟨d,e1,e2⟩:=jd ef;refine ⟨G,H0,env,d,k,e1,fun v H' s rr _=>?_⟩
   cases d with
   |bl t=>
    refine ⟨t,rr.blE,?_⟩
    cases t with
    |true=>exact ⟨G,H0,env,r,k.grow s,e2,fun v H2 s2 r2 nt=>q v H2 (s.trans s2) r2 (Lv.Tgrow s nt)⟩
    |false=>cases e2;exact q _ H' s (.bl false) (jeX (K:=X.K) false).T
   |_=>cases e2)
def notD:D->Res D
 | .bl b=> .ok (.bl (!b))
 |_=> .stuck
def notF (f:T0):Sl->Res D:=fun env=>f env>>=notD
def jdw (h:DE X l1 a f):DE X l (.UnaryOp .Not a pos) (notF f):=by
 with_unfolding_all exact (
  PE.imp (jcA h) fun σ H Q ⟨G,H0,env,r,k,ef,q⟩=>by
   obtain ⟨d,e1,e2⟩:=jd ef;refine ⟨G,H0,env,d,k,e1,fun v H' s rr _=>?_⟩
   cases d with
   |bl t=>cases e2;exact ⟨t,rr.blE,q _ H' s (.bl _) (jeX (K:=X.K) _).T⟩
   |_=>cases e2)
def ifD (g:TZ) (f1 f2:T0):Sl->Res D:=fun env=>g env>>=fun b=>if b=true then f1 env else f2 env
def uJ (hc:DT X c g) (h1:DE X l a f1) (h2:DE X l b f2):DE X l (.IfExp c a b pos) (ifD g f1 f2):=by
 with_unfolding_all exact (
  PE.imp (ki hc h1 h2) fun σ H Q ⟨G,H0,env,r,k,ef,q⟩=>by
   obtain ⟨d,e1,e2⟩:=jd ef;refine ⟨G,H0,env,d,k,e1,fun H' s=>?_⟩
   cases d with
   |true=>rw [if_pos rfl] at e2 ⊢;exact ⟨G,H0,env,r,k.grow s,e2,fun v H2 s2 r2 nt=>q v H2 (s.trans s2) r2 (Lv.Tgrow s nt)⟩
   |false=>rw [if_neg aaH] at e2 ⊢;exact ⟨G,H0,env,r,k.grow s,e2,fun v H2 s2 r2 nt=>q v H2 (s.trans s2) r2 (Lv.Tgrow s nt)⟩)
end
def ja (f:T0) (g:TX):Sl->Res (List D):=fun env=>f env>>=fun d=>g env>>=fun ds=> .ok (d::ds)
def nil1:Sl->Res (List D):=fun _=> .ok []
def jf:DA X l [] nil1:=by
 with_unfolding_all exact (PA.imp xl fun σ H Q ⟨G,H0,env,d,k,ef,q⟩=>by cases ef;exact q [] H (Same.refl H) .nil)
def jb {g:TX} (ha:DE X l e f) (hr:DA X l es g) (hs:T8 X e es:=by exact jp rfl):DA X l (e::es) (ja f g):=by
 with_unfolding_all exact (
  PA.imp (zf ha hr hs) fun σ H Q ⟨G,H0,env,ds,k,ef,q⟩=>by
   obtain ⟨d,e1,e2⟩:=jd ef;obtain ⟨ds',e3,e4⟩:=jd e2;cases e4
   exact ⟨G,H0,env,d,k,e1,fun v H1 s1 r1 _=>⟨G,H0,env,ds',k.grow s1,e3,fun vs H2 s2 r2=>q _ H2 (s1.trans s2) (.cons (r1.grow s2) r2)⟩⟩)
def jW {H H1:Hp} {p:Addr} (s:Same H H1) (hp:H1 p=none):NewTop H (.ref p):=fun a e o q=>by
 cases e;rw [s _ _ q] at hp;cases hp
def tupF (g:TX):Sl->Res D:=fun env=>g env>>=fun ds=>must (ds.length<=aai) (.ok (.tup ds))
def lstF (g:TX):Sl->Res D:=fun env=>g env>>=fun ds=>must (ds.length<=aai) (.ok (.lst ds))
def qQ {x1} {g:TX} (h:DA X .s es g):DE X .t (.Tuple es x1 pos) (tupF g):=by
 with_unfolding_all exact (
  PE.imp (jcw h) fun σ H Q ⟨G,H0,env,d,k,ef,q⟩=>by
   obtain ⟨ds,e1,e2⟩:=jd ef;obtain ⟨hz,e3⟩:=jn e2;cases e3;refine ⟨G,H0,env,ds,k,e1,fun vs H1 s1 r1=>⟨by rw [r1.length];exact hz,fun p hp=>?_⟩⟩
   exact q _ _ (s1.trans (Same.upd hp)) (.tup jt (r1.grow (Same.upd hp))) (jW s1 hp))
def qR {g:TX} (h:DA X .s es g):DE X .t (.List es pos) (lstF g):=by
 with_unfolding_all exact (
  PE.imp (jcC h) fun σ H Q ⟨G,H0,env,d,k,ef,q⟩=>by
   obtain ⟨ds,e1,e2⟩:=jd ef;obtain ⟨hz,e3⟩:=jn e2;cases e3;refine ⟨G,H0,env,ds,k,e1,fun vs H1 s1 r1=>⟨by rw [r1.length];exact hz,fun p hp=>?_⟩⟩
   exact q _ _ (s1.trans (Same.upd hp)) (.lst jt (k.new p (Same.free s1 hp)) (r1.laid hp)) (jW s1 hp))
def vR (K:aaa) (r:List V->Hp->VK->Prop) (g:TW):Prop:= ∀(xs:List V) (H:Hp) (ds:List D) (d:D) (Q:VK),Reps K Any H xs ds->g ds= .ok d->(∀v,Sc K v d->Q v H)->r xs H Q
def JB (K:aaa) (r:List V->Hp->VK->Prop) (g:TW):Prop:= ∀(A:Wb) (xs:List V) (H:Hp) (ds:List D) (d:D) (Q:VK),Reps K A H xs ds->g ds= .ok d->(∀v H',Same H H'->Rep K (fun c=>H c=none\/A c) H' v d->NewTop H v->Q v H')->r xs H Q
def app (f:TX) (g:TW):Sl->Res D:=fun env=>f env>>=g
def jdX {K:aaa} {r:List V->Hp->VK->Prop} {g:TW} {fa:TX} (hr:vR K r g) {σ:L2.St} {H:Hp} {Q:VK} (h:tE K l' (app fa g) σ H Q):tCB r (tA K l fa) σ H Q:=by
 obtain ⟨G,H0,env,d,k,ef,q⟩:=h;obtain ⟨ds,e1,e2⟩:=jd ef;refine ⟨G,H0,env,ds,k,e1,fun vs H1 s1 r1=>?_⟩;exact hr vs H1 ds d Q (r1.weak Lv.weak_b) e2 fun v sc=>q v H1 s1 (sc.1 _ _) sc.T
def jb2 {K:aaa} {r:List V->Hp->VK->Prop} {g:TW} {fa:TX} (hr:JB K r g) {σ:L2.St} {H:Hp} {Q:VK} (h:tE K .t (app fa g) σ H Q):tCB r (tA K .s fa) σ H Q:=by
 obtain ⟨G,H0,env,d,k,ef,q⟩:=h;obtain ⟨ds,e1,e2⟩:=jd ef;refine ⟨G,H0,env,ds,k,e1,fun vs H1 s1 r1=>?_⟩;exact hr _ vs H1 ds d Q r1 e2 fun v H2 s2 r2 nt=>q v H2 (s1.trans s2) (r2.weak fun c z=>z.elim (fun z=>k.new c (Same.free s1 z)) fun z=>z) (nt.grow s1)
def jdY {K:aaa} {r:List V->Hp->VK->Prop} {g:TW} {fa:TX} (hr:JB K r g) {σ:L2.St} {H:Hp} {Q:VK} (h:tE K .b (app fa g) σ H Q):tCB r (tA K .b fa) σ H Q:=by
 obtain ⟨G,H0,env,d,k,ef,q⟩:=h;obtain ⟨ds,e1,e2⟩:=jd ef;refine ⟨G,H0,env,ds,k,e1,fun vs H1 s1 r1=>?_⟩;exact hr _ vs H1 ds d Q r1 e2 fun v H2 s2 r2 nt=>q v H2 (s1.trans s2) (r2.weak fun c _=>trivial) trivial
section
variable {x:Str} {id T:String} {p:Pos} {r:List V->Hp->VK->Prop} {g:TW} {fa:TX}
def jO (hc:CallR X (.builtin id) r) (hr:vR X.K r g) (hg:Gl X x) (hm:X.mg x=none) (hv:abo x=some (.builtin id))
   (ha:DA X l (e::es) fa) (hn:x≠ "__name__" :=by decide) (hdb:Ym x:=by decide)
   (he:T8 X e es:=by exact jp rfl) (hpl:T7 X pos es:=by exact jC rfl):DE X l' (.Call (.Name x p) (e::es) [] pos) (app fa g):=by
 with_unfolding_all exact (
  PE.imp (yy hc hg hm hv ha hn hdb he hpl) fun _ _ _ h=>jdX hr h)
def Ji (hc:CallR X (.type T) r) (hr:JB X.K r g) (hg:Gl X x) (hm:X.mg x=none) (hv:abo x=some (.type T))
   (ha:DA X .s (e::es) fa) (hn:x≠ "__name__" :=by decide) (hdb:Ym x:=by decide)
   (he:T8 X e es:=by exact jp rfl) (hpl:T7 X pos es:=by exact jC rfl):DE X .t (.Call (.Name x p) (e::es) [] pos) (app fa g):=by
 with_unfolding_all exact (
  PE.imp (yO hc hg hm hv ha hn hdb he hpl) fun _ _ _ h=>jb2 hr h)
def JY (hc:CallR X (.type T) r) (hr:JB X.K r g) (hg:Gl X x) (hm:X.mg x=none) (hv:abo x=some (.type T))
   (ha:DA X .b (e::es) fa) (hn:x≠ "__name__" :=by decide) (hdb:Ym x:=by decide)
   (he:T8 X e es:=by exact jp rfl) (hpl:T7 X pos es:=by exact jC rfl):DE X .b (.Call (.Name x p) (e::es) [] pos) (app fa g):=by
 with_unfolding_all exact (
  PE.imp (yO hc hg hm hv ha hn hdb he hpl) fun _ _ _ h=>jdY hr h)
end
def spF (K:aaa) (fr:Bool) (n:Nat) (F:TW):Sp:=fun vs H Q _=> ∃B ds d,vs.length=n/\Reps K B H vs ds/\F ds= .ok d/\ ∀v H',Same H H'->Rep K (fun a=>H a=none\/B a) H' v d->(fr=true->NewTop H v)->Q v H'
def jm (n:Nat) (F:TW) (g:TX):Sl->Res D:=fun env=>g env>>=fun ds=>must (ds.length=n) (F ds)
section
variable {CX:CXT} {k:Nat} {x:Str} {fa:Addr} {fd:ab1} {ps:List Str} {p:Pos} {n:Nat} {F:TW} {E:XK} {g:TX} {fr:Bool}
def jbt (G:FnOk X.prog X.w X.K X.mg X.base CX k fa fd ps (spF X.K fr n F)) (hr:Room k X.A) (hg:Gl X x) (hm:X.mg x=some (.ref fa)) (hk:aaY X.K (.ref fa)=true) (hb:Binds X.K fd ps []) (hx:x3 CX X E)
   (ha:DA X .s (e::es) g) (hdb:Ym x:=by decide) (he:T8 X e es:=by exact jp rfl) (hpl:T7 X pos es:=by exact jC rfl):
   DE X .s (.Call (.Name x p) (e::es) [] pos) (jm n F g):=by
 with_unfolding_all exact (
  PE.imp (Wj G hr hg hm hk hb .nil hx ha hdb he hpl) fun σ H Q ⟨GG,H0,env,d,k,ef,q⟩=>by
   obtain ⟨ds,e1,e2⟩:=jd ef;obtain ⟨hn,e3⟩:=jn e2;refine ⟨GG,H0,env,ds,k,e1,fun vs H1 s1 r1=>?_⟩;show spF X.K fr n F (vs++[]) H1 Q E;rw [abe]
   exact ⟨_,ds,d,by rw [r1.length];exact hn,r1,e3,fun v H2 s2 r2 _=>q v H2 (s1.trans s2) (r2.weak fun c z=>z.elim (fun z=>k.new c (Same.free s1 z)) fun z=>z) trivial⟩)
def vE (G:FnOk X.prog X.w X.K X.mg X.base CX k fa fd ps (spF X.K true n F)) (hr:Room k X.A) (hg:Gl X x) (hm:X.mg x=some (.ref fa)) (hk:aaY X.K (.ref fa)=true) (hb:Binds X.K fd ps []) (hx:x3 CX X E)
   (ha:DA X .s (e::es) g) (hdb:Ym x:=by decide) (he:T8 X e es:=by exact jp rfl) (hpl:T7 X pos es:=by exact jC rfl):
   DE X .t (.Call (.Name x p) (e::es) [] pos) (jm n F g):=by
 with_unfolding_all exact (
  PE.imp (Wj G hr hg hm hk hb .nil hx ha hdb he hpl) fun σ H Q ⟨GG,H0,env,d,k,ef,q⟩=>by
   obtain ⟨ds,e1,e2⟩:=jd ef;obtain ⟨hn,e3⟩:=jn e2;refine ⟨GG,H0,env,ds,k,e1,fun vs H1 s1 r1=>?_⟩;show spF X.K true n F (vs++[]) H1 Q E;rw [abe]
   exact ⟨_,ds,d,by rw [r1.length];exact hn,r1,e3,fun v H2 s2 r2 nt=>q v H2 (s1.trans s2) (r2.weak fun c z=>z.elim (fun z=>k.new c (Same.free s1 z)) fun z=>z) ((nt rfl).grow s1)⟩)
def vF (G:FnOk X.prog X.w X.K X.mg X.base CX k fa fd ps (spF X.K fr n F)) (hr:Room k X.A) (hg:Gl X x) (hm:X.mg x=some (.ref fa)) (hk:aaY X.K (.ref fa)=true) (hb:Binds X.K fd ps []) (hx:x3 CX X E)
   (ha:DA X .b (e::es) g) (hdb:Ym x:=by decide) (he:T8 X e es:=by exact jp rfl) (hpl:T7 X pos es:=by exact jC rfl):
   DE X .b (.Call (.Name x p) (e::es) [] pos) (jm n F g):=by
 with_unfolding_all exact (
  PE.imp (Wj G hr hg hm hk hb .nil hx ha hdb he hpl) fun σ H Q ⟨GG,H0,env,d,k,ef,q⟩=>by
   obtain ⟨ds,e1,e2⟩:=jd ef;obtain ⟨hn,e3⟩:=jn e2;refine ⟨GG,H0,env,ds,k,e1,fun vs H1 s1 r1=>?_⟩;show spF X.K fr n F (vs++[]) H1 Q E;rw [abe]
   exact ⟨_,ds,d,by rw [r1.length];exact hn,r1,e3,fun v H2 s2 r2 _=>q v H2 (s1.trans s2) (r2.weak fun c _=>trivial) trivial⟩)
end
def ixD:D->D->Res D
 | .lst ds,.int i=>match atI ds i with
  |some d=> .ok d
  |none=> .stuck
 | .scr ds,.int i=>match atI ds i with
  |some d=> .ok d
  |none=> .stuck
 | .tup ds,.int i=>match atI ds i with
  |some d=> .ok d
  |none=> .stuck
 | .str z,.int i=>match atI z.cps.toList i with
  |some c=> .ok (.str ⟨#[c]⟩)
  |none=> .stuck
 |_,_=> .stuck
def WW {K:aaa} {A:Wb} {H:Hp} {xs:List V} {ds:List D} {i:Int} {d:D} (r:Reps K A H xs ds) (h:atI ds i=some d): ∃v,atI xs i=some v/\Rep K A H v d:=by
 unfold atI at h ⊢;rw [r.length]
 cases e:ixN ds.length i with
 |none=>rw [e] at h;cases h
 |some j=>rw [e] at h;exact r.get h
def jaH (c:Nat):(⟨#[c]⟩:Str).length<=aai:=by show 1<=aai;decide
def jeb {A:Wb} {x y:V} {H:Hp} {a b d:D} {Q:VK} (ra:Rep X.K A H x a) (rb:Rep X.K Any H y b) (h:ixD a b= .ok d) (q: ∀v,Rep X.K A H v d->Q v H):rIx X.K x y H Q:=by
 cases b with
 |int i=>
  cases rb.intE
  cases a with
  |lst ds=>
   unfold ixD at h;dsimp only at h
   cases e:atI ds i with
   |none=>rw [e] at h;cases h
   |some d'=>
    rw [e] at h;cases h;obtain ⟨p,xs,rfl,hq,_,r⟩:=ra.lstE;obtain ⟨v,e2,r2⟩:=WW r.low e;exact .inl ⟨p,xs,i,v,rfl,rfl,.of hq,e2,q v r2⟩
  |scr ds=>
   unfold ixD at h;dsimp only at h
   cases e:atI ds i with
   |none=>rw [e] at h;cases h
   |some d'=>
    rw [e] at h;cases h;obtain ⟨p,xs,rfl,hq,r⟩:=ra.scrE;obtain ⟨v,e2,r2⟩:=WW r e;exact .inl ⟨p,xs,i,v,rfl,rfl,hq.sql,e2,q v r2⟩
  |tup ds=>
   unfold ixD at h;dsimp only at h
   cases e:atI ds i with
   |none=>rw [e] at h;cases h
   |some d'=>
    rw [e] at h;cases h;obtain ⟨p,xs,rfl,hq,r⟩:=ra.tupE;obtain ⟨v,e2,r2⟩:=WW r e;exact .inr (.inl ⟨p,xs,i,v,rfl,rfl,.of hq,e2,q v r2⟩)
  |str z=>
   unfold ixD at h;dsimp only at h
   cases e:atI z.cps.toList i with
   |none=>rw [e] at h;cases h
   |some c=>
    rw [e] at h;cases h;obtain ⟨rfl,hz⟩:=ra.strE;exact .inr (.inr ⟨z,i,c,rfl,rfl,hz,e,q _ (.str _ (by show 1<=aai;decide))⟩)
  |_=>cases h
 |_=>cases a<;>cases h
def qo (ha:DE X .s a f1) (hb:DE X l2 b f2) (hs:QW b:=by intro _ _;rfl):DE X .s (.Subscript a b pos) (two f1 f2 ixD):=by
 with_unfolding_all exact (
  PE.imp (jaA jc9 ha hb hs) fun σ H Q ⟨G,H0,env,d,k,ef,q⟩=>by
   obtain ⟨a',e1,ef⟩:=jd ef;obtain ⟨b',e2,e3⟩:=jd ef;refine ⟨G,H0,env,a',k,e1,fun x H1 s1 r1 _=>⟨G,H0,env,b',k.grow s1,e2,fun y H2 s2 r2 _=>?_⟩⟩
   exact jeb (r1.grow s2) (r2.weak Lv.weak_b) e3 fun v r3=>q v H2 (s1.trans s2) r3 trivial)
@[irreducible] def DO (X:Cx) (e:Option Expr) (f:Sl->Res (Option Int)):Prop:=PO X e (fun σ H Q=> ∃G H0 env i,EnvOk X.K G H0 env σ H/\f env= .ok i/\ ∀H',Same H H'->Q i H')
theorem PO.imp {e:Option Expr} {t t':TO} (h:PO X e t) (w: ∀σ H Q,t' σ H Q->t σ H Q):PO X e t':=fun pins s σ H Q I q=>h pins s σ H Q I (w σ H Q q)
def wu:Sl->Res (Option Int):=fun _=> .ok none
def xF:DO X none wu:=by
 with_unfolding_all exact (PO.imp jar fun σ H Q ⟨G,H0,env,i,k,ef,q⟩=>by cases ef;exact q H (Same.refl H))
def asI:D->Res (Option Int)
 | .int i=> .ok (some i)
 |_=> .stuck
def zb (f:T0):Sl->Res (Option Int):=fun env=>f env>>=asI
def wd (h:DE X l e f):DO X (some e) (zb f):=by
 with_unfolding_all exact (PO.imp (jaq h) fun σ H Q ⟨G,H0,env,i,k,ef,q⟩=>by
  obtain ⟨d,e1,e2⟩:=jd ef
  cases d with
  |int j=>cases e2;exact ⟨G,H0,env,.int j,k,e1,fun v H' s r _=>⟨j,r.intE,q H' s⟩⟩
  |_=>cases e2)
def cutD (ds:List D) (lo hi:Option Int):List D:=(ds.drop (HT.sIx ds.length 0 lo)).take (HT.sIx ds.length ds.length hi-HT.sIx ds.length 0 lo)
def WS {K:aaa} {A:Wb} {H:Hp} {xs:List V} {ds:List D} {lo hi:Option Int} (r:Reps K A H xs ds):Reps K A H (cutV xs lo hi) (cutD ds lo hi):=by
 unfold cutV cutD;rw [r.length];exact (r.drop _).take _
def qf (f:T0) (fl fh:Sl->Res (Option Int)) (g:D->Option Int->Option Int->Res D):Sl->Res D:=fun env=>f env>>=fun a=>fl env>>=fun lo=>fh env>>=fun hi=>g a lo hi
end
section
variable {K:aaa} {G:Wb} {H0 H H1 H':Hp} {env env':Sl} {σ σ':L2.St} {i:Nat} {d:D} {v:V}
def jq {α:Type} {l:List α} {i j:Nat} {x:α} (h:i≠j):(l.set i x)[j]?=l[j]?:=adY h
def jw {α:Type} {l:List α} {i:Nat} {x y:α} (h:(l.set i x)[i]?=some y):y=x/\i<l.length:=by
 have hl:i<l.length:=by
  have:=(aaz.mp h).1;simpa using this
 rw [abH hl] at h;exact ⟨(aaI h).symm,hl⟩
def yR {s:Slot} {a:Addr} (h:jR (env.set i s) (σ.set i (some v)) a):jR env σ a\/(∃d,s= .own d/\v= .ref a):=by
 obtain ⟨j,d,h1,h2⟩:=h
 by_cases e:i=j
 · subst e;obtain ⟨q1,_⟩:=jw h1;obtain ⟨q2,_⟩:=jw h2;exact .inr ⟨d,q1.symm,(aaI q2).symm⟩
 · rw [jq e] at h1 h2;exact .inl ⟨j,d,h1,h2⟩
def EnvOk.setS (k:EnvOk K G H0 env σ H) (r:Rep K (Sf G env σ) H v d):EnvOk K G H0 (env.set i (.shr d)) (σ.set i (some v)) H:=by
 have w: ∀a,Sf G env σ a->Sf G (env.set i (.shr d)) (σ.set i (some v)) a:=fun a n=>⟨fun o=>(by
   rcases yR o with z| ⟨d',z,_⟩
   · exact n.1 z
   · cases z),n.2⟩
 refine ⟨by simp [k.len],k.base,k.g0,fun j e h=>?_,fun j e h=>?_,fun j j' e e' a h1 h2 h3 h4=>?_⟩
 · by_cases z:i=j
   · subst z;obtain ⟨q,hl⟩:=jw h;cases q;exact ⟨v,abH (by rw [k.len];exact hl),r.weak w⟩
   · rw [jq z] at h ⊢;obtain ⟨v',h1,h2⟩:=k.shr j e h;exact ⟨v',h1,h2.weak w⟩
 · by_cases z:i=j
   · subst z;obtain ⟨q,hl⟩:=jw h;cases q
   · rw [jq z] at h ⊢;obtain ⟨v',h1,h0,h2⟩:=k.own j e h;exact ⟨v',h1,h0,h2.stay (fun _ _ e _=>e) w fun _ e=>e⟩
 · have n1:i≠j:=fun z=>by subst z;obtain ⟨q,_⟩:=jw h1;cases q
   have n2:i≠j':=fun z=>by subst z;obtain ⟨q,_⟩:=jw h2;cases q
   rw [jq n1] at h1 h3;rw [jq n2] at h2 h4;exact k.dis j j' e e' a h1 h2 h3 h4
def Qi:D->Bool
 | .lst _=>true
 | .dic _ _=>true
 | .dit _ _=>true
 | .obj _ _ _=>true
 |_=>false
def Wl {A:Wb} (r:Rep K A H v d) (h:Qi d=true): ∃a,v= .ref a/\A a/\(∃o,H a=some o/\Mut (some o))/\Top K (fun c=>A c/\c≠a) H a d:=by
 cases r with
 |lst e a r=>exact ⟨_,rfl,a,⟨_,e,trivial⟩,.lst e r⟩
 |dic e a k1 k2 r=>exact ⟨_,rfl,a,⟨_,e,trivial⟩,.dic e k1 k2 r⟩
 |dit e a k1 k2 r=>exact ⟨_,rfl,a,⟨_,e,trivial⟩,.dit e k1 k2 r⟩
 |obj e a k1 k2 r=>exact ⟨_,rfl,a,⟨_,e,trivial⟩,.obj e k1 k2 r⟩
 |_=>cases h
def jcZ {a:Addr} (s:Same H H1) (nt:NewTop H (.ref a)) (h: ∃o,H1 a=some o/\Mut (some o)):H a=none:=by
 cases e:H a with
 |none=>rfl
 |some o=>
  obtain ⟨o',h1,h2⟩:=h;rw [s a o e] at h1;cases h1;exact (nt a rfl o e h2).elim
def EnvOk.setN (k:EnvOk K G H0 env σ H) (s:Same H H1) (r:Rep K (Sf G env σ) H1 v d) (nt:NewTop H v) (hd:Qi d=true):EnvOk K G H0 (env.set i (.own d)) (σ.set i (some v)) H1/\ ∃a,v= .ref a/\H a=none:=by
 obtain ⟨a,rfl,ga,mt,top⟩:=Wl r hd;have fa:=jcZ s nt mt;refine ⟨?_,a,rfl,fa⟩
 have w: ∀c,(Sf G env σ c/\c≠a)->Sf G (env.set i (.own d)) (σ.set i (some (V.ref a))) c:=fun c n=>⟨fun o=>(by
   rcases yR o with z| ⟨d',z,z2⟩
   · exact n.1.1 z
   · cases z2;exact n.2 rfl),n.1.2⟩
 have w2: ∀c,(Sf G env σ c/\H c≠none)->Sf G (env.set i (.own d)) (σ.set i (some (V.ref a))) c:=fun c n=>w c ⟨n.1,fun e=>n.2 (by rw [e];exact fa)⟩
 have k1:=k.grow s;refine ⟨by simp [k.len],k1.base,k.g0,fun j e h=>?_,fun j e h=>?_,fun j j' e e' b h1 h2 h3 h4=>?_⟩
 · by_cases z:i=j
   · subst z;obtain ⟨q,hl⟩:=jw h;cases q
   · rw [jq z] at h ⊢;obtain ⟨v',h1,h2⟩:=k.shr j e h;exact ⟨v',h1,(h2.inDom.grow s).weak w2⟩
 · by_cases z:i=j
   · subst z;obtain ⟨q,hl⟩:=jw h;cases q;exact ⟨a,abH (by rw [k.len];exact hl),Same.free k.base fa,top.stay (fun _ _ e _=>e) w fun _ e=>e⟩
   · rw [jq z] at h ⊢;obtain ⟨v',h1,h0,h2⟩:=k.own j e h;refine ⟨v',h1,h0,?_⟩
     cases h2 with
     |lst e2 r2=>exact .lst (s _ _ e2) ((r2.inDom.grow s).weak w2)
     |dic e2 k2 k3 r2=>exact .dic (s _ _ e2) k2 k3 ((r2.inDom.grow s).weak w2)
     |dit e2 k2 k3 r2=>exact .dit (s _ _ e2) k2 k3 ((r2.inDom.grow s).weak w2)
     |obj e2 k2 k3 r2=>exact .obj (s _ _ e2) k2 k3 ((r2.inDom.grow s).weak w2)
 · have new: ∀(j:Nat) (e:D),env[j]?=some (.own e)->σ[j]?=some (some (.ref a))->False:=fun j e q1 q2=>by
     obtain ⟨u,q⟩:=k.there ⟨j,e,q1,q2⟩;rw [fa] at q;cases q
   by_cases z1:i=j
   · subst z1
     by_cases z2:i=j'
     · exact z2
     · rw [jq z2] at h2 h4;obtain ⟨q,_⟩:=jw h3;cases q;exact (new j' e' h2 h4).elim
   · rw [jq z1] at h1 h3
     by_cases z2:i=j'
     · subst z2;obtain ⟨q,_⟩:=jw h4;cases q;exact (new j e h1 h3).elim
     · rw [jq z2] at h2 h4;exact k.dis j j' e e' b h1 h2 h3 h4
def Frm.set {s:Slot} (sm:Same H H1) (fresh: ∀a d,s= .own d->v= .ref a->H a=none):Frm env σ H (env.set i s) (σ.set i (some v)) H1:=
 ⟨fun b o e _=>sm b o e,fun b o=>by
  rcases yR o with z| ⟨d',z,z2⟩
  · exact .inl z
  · exact .inr (fresh b d' z z2),fun b e=>Same.free sm e⟩
def Frm.sf (f:Frm env σ H env' σ' H'): ∀a,(Sf G env σ a/\H a≠none)->Sf G env' σ' a:=fun a z=>⟨fun o=>(f.more a o).elim z.1.1 z.2,z.1.2⟩
def Frm.st (k:EnvOk K G H0 env σ H) (f:Frm env σ H env' σ' H'):Stay (fun a=>Sf G env σ a/\H a≠none) H H':=fun a o e m=>f.keep a o e fun ow=>(m (k.mutO ow e)).1.1 ow
def Frm.rep (k:EnvOk K G H0 env σ H) (f:Frm env σ H env' σ' H') (r:Rep K (Sf G env σ) H v d):Rep K (Sf G env' σ') H' v d:=r.inDom.stay (f.st k) f.sf
def Frm.reps (k:EnvOk K G H0 env σ H) (f:Frm env σ H env' σ' H') {vs:List V} {ds:List D} (r:Reps K (Sf G env σ) H vs ds):Reps K (Sf G env' σ') H' vs ds:=r.inDom.stay (f.st k) f.sf
end
def xM (d:D):Slot:=if Qi d=true then .own d else .shr d
def EnvOk.setNew {K:aaa} {G:Wb} {H0 H H1:Hp} {env:Sl} {σ:L2.St} {i:Nat} {d:D} {v:V} (k:EnvOk K G H0 env σ H) (s:Same H H1) (r:Rep K (Sf G env σ) H1 v d) (nt:NewTop H v):
   EnvOk K G H0 (env.set i (xM d)) (σ.set i (some v)) H1/\Frm env σ H (env.set i (xM d)) (σ.set i (some v)) H1:=by
 unfold xM
 by_cases h:Qi d=true
 · rw [if_pos h];obtain ⟨z,a',e',fa⟩:=k.setN s r nt h;refine ⟨z,.set s fun a d' _ e=>?_⟩;rw [e] at e';cases e';exact fa
 · rw [if_neg h];exact ⟨(k.grow s).setS r,.set s fun _ _ z _=>by cases z⟩
def nxO:Sl->Res Out:=fun env=> .ok (.nx env)
def Uq (f:T0):Sl->Res Out:=fun env=>f env>>=fun _=> .ok (.nx env)
def augI (h:Int->Int->Int) (a b:D):Res D:=match a,b with
 | .int m,.int n=> .ok (.int (h m n))
 |_,_=> .stuck
def seqO (g1 g2:TY):Sl->Res Out:=fun env=>g1 env>>=fun o=>match o with
 | .nx env'=>g2 env'
 | .rt fr d=> .ok (.rt fr d)
 | .bk env'=> .ok (.bk env')
 | .ct env'=> .ok (.ct env')
section
variable {X:Cx} {e c tg:Expr} {st:Stmt} {rest body orelse:List Stmt} {pos:Pos} {l:Lv} {f:T0} {g g1 g2:TY}
def jI:DSs X [] nxO:=by
 with_unfolding_all exact (PSs.imp Ky fun E σ H ⟨G,H0,env,o,k,ef,q⟩=>by
  cases ef
  exact q σ H k (Frm.refl (Same.refl H)))
def Zk {K:aaa} {G:Wb} {H0 H H':Hp} {env env':Sl} {σ σ':L2.St} {E:Ends} {o:Out} (f:Frm env σ H env' σ' H') (q:Post K G H0 env σ H E o):Post K G H0 env' σ' H' E o:=by
 cases o with
 |nx e=>exact fun σ2 H2 k2 f2=>q σ2 H2 k2 (f.trans f2)
 |bk e=>exact fun σ2 H2 k2 f2=>q σ2 H2 k2 (f.trans f2)
 |ct e=>exact fun σ2 H2 k2 f2=>q σ2 H2 k2 (f.trans f2)
 |rt fr d=>exact q
def je (h1:DS X st g1) (h2:DSs X rest g2):DSs X (st::rest) (seqO g1 g2):=by
 with_unfolding_all exact (PSs.imp (Xg h1 h2) fun E σ H ⟨G,H0,env,o,k,ef,q⟩=>by
  obtain ⟨o1,e1,e2⟩:=jd ef;refine ⟨G,H0,env,o1,k,e1,?_⟩
  cases o1 with
  |nx env1=>exact fun σ' H' k' f'=>⟨G,H0,env1,o,k',e2,Zk f' q⟩
  |rt fr d=>cases e2;exact q
  |bk e'=>cases e2;exact q
  |ct e'=>cases e2;exact q)
def jj (h1:DS X st g1):DSs X [st] g1:=by
 with_unfolding_all exact (PSs.imp (Kx h1) fun E σ H q=>q)
def retO (f:T0):Sl->Res Out:=fun env=>f env>>=fun d=> .ok (.rt true d)
def jD (h:DE X .t e f):DS X (.Return (some e) pos) (retO f):=by
 with_unfolding_all exact (PS.imp (KB h) fun E σ H ⟨G,H0,env,o,k,ef,q⟩=>by
  obtain ⟨d,e1,e2⟩:=jd ef;cases e2
  exact ⟨G,H0,env,d,k,e1,fun v H' s r nt=>q v H' (k.base.trans s) (r.weak fun a z=>z.2) fun _=>NewTop.grow k.base nt⟩)
def retS (f:T0):Sl->Res Out:=fun env=>f env>>=fun d=> .ok (.rt false d)
def WO (h:DE X .s e f):DS X (.Return (some e) pos) (retS f):=by
 with_unfolding_all exact (PS.imp (KB h) fun E σ H ⟨G,H0,env,o,k,ef,q⟩=>by
  obtain ⟨d,e1,e2⟩:=jd ef;cases e2
  exact ⟨G,H0,env,d,k,e1,fun v H' s r nt=>q v H' (k.base.trans s) (r.weak fun a z=>z.2) fun z=>by cases z⟩)
def rdO (i:Nat):Sl->Res D:=fun env=>match env[i]? with
 |some (.own d)=> .ok d
 |some (.shr d)=>must (d.imm=true) (.ok d)
 |_=> .stuck
def QL (i:Nat) {x:Str} {p:Pos} (hN:X.N[i]?=some x:=by rfl) (hv:Vis X.env.scope x:=by first|exact abV rfl|exact abj (abV rfl)|exact abj (abj rfl)) (hd:Ym x:=by decide)
    (hcd:Yl x:=by decide):DS X (.Return (some (.Name x p)) pos) (retO (rdO i)):=by
 with_unfolding_all exact (PS.imp (KB (wn hN hv hd hcd)) fun E σ H ⟨G,H0,env,o,k,ef,q⟩=>by
  obtain ⟨d,e1,e2⟩:=jd ef;cases e2;unfold rdO at e1
  split at e1
  · rename_i d' hs;cases e1;obtain ⟨a,h1,h0,h2⟩:=k.own i d hs;refine ⟨.ref a,h1,q _ H k.base (h2.rep (fun c z=>⟨z.2,Zj k hs h1 c z⟩) (k.g0 a h0)) fun _ b e o' q'=>?_⟩;cases e;rw [h0] at q';cases q'
  · rename_i d' hs;obtain ⟨hm,e3⟩:=jn e1;cases e3;obtain ⟨v,h1,h2⟩:=k.shr i d hs;exact ⟨v,h1,q v H k.base (h2.imm hm) fun _=>WD k.base h2 hm⟩
  · cases e1)
def ifO (t:TZ) (g1 g2:TY):Sl->Res Out:=fun env=>t env>>=fun b=>if b=true then g1 env else g2 env
def qW {t:TZ} (hc:DT X c t) (h1:DSs X body g1) (h2:DSs X orelse g2):DS X (.If c body orelse pos) (ifO t g1 g2):=by
 with_unfolding_all exact (PS.imp (jcq hc h1 h2) fun E σ H ⟨G,H0,env,o,k,ef,q⟩=>by
  obtain ⟨b,e1,e2⟩:=jd ef;refine ⟨G,H0,env,b,k,e1,fun H' s=>?_⟩
  cases b with
  |true=>rw [if_pos rfl] at e2 ⊢;exact ⟨G,H0,env,o,k.grow s,e2,Zk (Frm.refl s) q⟩
  |false=>rw [if_neg aaH] at e2 ⊢;exact ⟨G,H0,env,o,k.grow s,e2,Zk (Frm.refl s) q⟩)
def setO (i:Nat) (f:T0):Sl->Res Out:=fun env=>f env>>=fun d=> .ok (.nx (env.set i (xM d)))
def xo (i:Nat) {x:Str} {pos':Pos} (hN:X.N.Nodup) (h:DE X .t e f) (hi:X.N[i]?=some x:=by rfl) (hx:Loc X.env.scope x:=by first|exact abV rfl|exact abj rfl) (hs:abY e (some (.Name x pos')) pos.line X.env=pure false:=by rfl)
   (hf:T6 X x:=by first|exact .inl rfl|exact .inr rfl|assumption):DS X (.Assign [.Name x pos'] e pos) (setO i f):=by
 with_unfolding_all exact (
  PS.imp (vZ hN hi hx h hs hf) fun E σ H ⟨G,H0,env,o,k,ef,q⟩=>by
   obtain ⟨d,e1,e2⟩:=jd ef;cases e2
   exact ⟨G,H0,env,d,k,e1,fun v H' s r nt=>q _ H' (k.setNew s r nt).1 (k.setNew s r nt).2⟩)
def jJ (i:Nat) (f:T0):Sl->Res Out:=fun env=>f env>>=fun d=> .ok (.nx (env.set i (.shr d)))
def jG (i:Nat) {x:Str} {pos':Pos} (hN:X.N.Nodup) (h:DE X .s e f) (hi:X.N[i]?=some x:=by rfl) (hx:Loc X.env.scope x:=by first|exact abV rfl|exact abj rfl) (hs:abY e (some (.Name x pos')) pos.line X.env=pure false:=by rfl)
   (hf:T6 X x:=by first|exact .inl rfl|exact .inr rfl|assumption):DS X (.Assign [.Name x pos'] e pos) (jJ i f):=by
 with_unfolding_all exact (
  PS.imp (vZ hN hi hx h hs hf) fun E σ H ⟨G,H0,env,o,k,ef,q⟩=>by
   obtain ⟨d,e1,e2⟩:=jd ef;cases e2
   exact ⟨G,H0,env,d,k,e1,fun v H' s r _=>q _ H' ((k.grow s).setS r) (.set s fun _ _ z _=>by cases z)⟩)
def jdu (i:Nat) {x:Str} {pos':Pos} {op:ael} {h:Int->Int->Int} (hN:X.N.Nodup) (he:DE X l e f) (ho:PIp X op (ipI h)) (hi:X.N[i]?=some x:=by rfl) (hx:Loc X.env.scope x:=by first|exact abV rfl|exact abj rfl)
   (hf:T6 X x:=by first|exact .inl rfl|exact .inr rfl|assumption):
   DS X (.AugAssign (.Name x pos') op e pos) (jJ i (two (rdS i) f (augI h))):=by
 with_unfolding_all exact (
  PS.imp (jct hN hi hx he ho hf) fun E σ H ⟨G,H0,env,o,k,ef,q⟩=>by
   obtain ⟨d,e1,e2⟩:=jd ef;obtain ⟨a,e3,e4⟩:=jd e1;obtain ⟨b,e5,e6⟩:=jd e4;cases e2;obtain ⟨v,h1,h2⟩:=k.shr i a (Qe e3);refine ⟨v,h1,G,H0,env,b,k,e5,fun w H' s r _=>?_⟩
   cases a with
   |int m=>
    cases b with
    |int n=>
     cases e6;cases h2.intE;cases r.intE;exact ⟨m,n,rfl,rfl,q _ H' ((k.grow s).setS (.int _)) (.set s fun _ _ z _=>by cases z)⟩
    |_=>cases e6
   |_=>cases e6)
def jbm (h:DE X l e f) (hs:abY e none pos.line X.env=pure false:=by rfl):DS X (.Expr e pos) (Uq f):=by
 with_unfolding_all exact (PS.imp (Qg h hs) fun E σ H ⟨G,H0,env,o,k,ef,q⟩=>by
  obtain ⟨d,e1,e2⟩:=jd ef;cases e2
  exact ⟨G,H0,env,d,k,e1,fun v H' s r _=>q σ H' (k.grow s) (Frm.refl s)⟩)
end
def Its (x:Str):It:=⟨fun i _=>i<x.cps.size,fun i H v H'=>H'=H/\ ∃c,x.cps[i]?=some c/\v= .str ⟨#[c]⟩,fun i _=>x.cps.size<=i⟩
def Yc {P:aaL} {w:World} {K:aaa} {tg:Expr} (it:Addr) (x:Str) (t:Tok):Turn P w K tg (Its x) [it] it (fun i h=>h.IsStrIter it "str_ascii_iterator" x t i) where
 mem:=by simp
 obj:=fun i h st b hb=>by
  have e:b=it:=by simpa using hb
  subst e;obtain ⟨o,e,c,d⟩:=st;exact ⟨o,e,fun v z=>by rw [d] at z;cases z⟩
 keep:=fun i h h' st k=>let ⟨o,ho,r⟩:=st;⟨o,k it (by simp) o ho,r⟩
 item:=by
  intro X hP hw hK hc i pins s σ H E I hf st hg;subst hP hw hK;have hi:i<x.cps.size:=hg;obtain ⟨f0,f1,f2,f3,f4,f5⟩:=hf it (by simp);refine wpAny_pyNext_ascii_item st (c:=x.cps[i]) (by simp [hi]) fun h' st' sb=>?_
  have I1:Inv X pins σ H {s with heap:=h',toks:=s.toks+1}:=I.turned (fun b o hb e=>(sb.2 b hb).trans e) f0 f1 f3 f4 f5;obtain ⟨o,e,c,d⟩:=id st';exact ⟨_,rfl,VN e c d (by decide) ⟨.str ⟨#[x.cps[i]]⟩,H,I1,⟨_,rfl⟩,⟨rfl,_,by simp [hi],rfl⟩,st',fun b hb=>(hf b hb).1⟩⟩
 done:=by
  intro X hP hw hK hc i pins s σ H E I hf st hg;subst hP hw hK;have hi:=hg;obtain ⟨f0,f1,f2,f3,f4,f5⟩:=hf it (by simp);exact wpAny_pyNext_ascii_end (I.ok.hd hc) st (by simp;exact hi) fun h' eb=>⟨rfl,I.turned (fun b o hb e=>eb b o hb e) f0 f1 f3 f4 f5⟩
 self:=fun _ _ _ _ _ st h=>wpAny_pyIter_striter_ascii st h
def Y0 {P:aaL} {w:World} {K:aaa} {tg:Expr} (it:Addr) (x:Str) (t:Tok):Turn P w K tg (Its x) [it] it (fun i h=>h.IsStrIter it "str_iterator" x t i) where
 mem:=by simp
 obj:=fun i h st b hb=>by
  have e:b=it:=by simpa using hb
  subst e;obtain ⟨o,e,c,d⟩:=st;exact ⟨o,e,fun v z=>by rw [d] at z;cases z⟩
 keep:=fun i h h' st k=>let ⟨o,ho,r⟩:=st;⟨o,k it (by simp) o ho,r⟩
 item:=by
  intro X hP hw hK hc i pins s σ H E I hf st hg;subst hP hw hK;have hi:i<x.cps.size:=hg;obtain ⟨f0,f1,f2,f3,f4,f5⟩:=hf it (by simp);refine wpAny_pyNext_wide_item st (c:=x.cps[i]) (by simp [hi]) fun h' st' sb=>?_
  have I1:Inv X pins σ H {s with heap:=h',toks:=s.toks+1}:=I.turned (fun b o hb e=>(sb.2 b hb).trans e) f0 f1 f3 f4 f5;obtain ⟨o,e,c,d⟩:=id st';exact ⟨_,rfl,VN e c d (by decide) ⟨.str ⟨#[x.cps[i]]⟩,H,I1,⟨_,rfl⟩,⟨rfl,_,by simp [hi],rfl⟩,st',fun b hb=>(hf b hb).1⟩⟩
 done:=by
  intro X hP hw hK hc i pins s σ H E I hf st hg;subst hP hw hK;have hi:=hg;obtain ⟨f0,f1,f2,f3,f4,f5⟩:=hf it (by simp);exact wpAny_pyNext_wide_end (I.ok.hd hc) st (by simp;exact hi) fun h' eb=>⟨rfl,I.turned (fun b o hb e=>eb b o hb e) f0 f1 f3 f4 f5⟩
 self:=fun _ _ _ _ _ st h=>wpAny_pyIter_striter_wide st h
def Walk (J:It) (xs:List V) (P:Hp->Prop):Prop:= ∀i H,P H->(i<xs.length->J.go i H)/\(i<xs.length-> ∀x H',J.yld i H x H'->H'=H/\xs[i]?=some x)/\(xs.length<=i->J.stop i H)
def Yd (K:aaa) (A:Wb) (H1 H H':Hp) (x:V) (d:D):Prop:=
 (H'=H/\Rep K A H1 x d)\/ ∃p vs es,H p=none/\x= .ref p/\H'=L2.upd H p (.tup vs)/\d= .tup es/\Reps K A H1 vs es
def jbN (K:aaa) (A:Wb) (H1:Hp) (J:It) (ds:List D) (P:Hp->Prop):Prop:= ∀i H,P H->(i<ds.length->J.go i H)/\(∀d,ds[i]?=some d-> ∀x H',J.yld i H x H'->Yd K A H1 H H' x d)/\(ds.length<=i->J.stop i H)
def Walk.toD {K:aaa} {A:Wb} {H1:Hp} {J:It} {xs:List V} {ds:List D} {P:Hp->Prop} (rs:Reps K A H1 xs ds) (w:Walk J xs P):jbN K A H1 J ds P:=fun i H p=>by
 have hl:=rs.length;obtain ⟨w1,w2,w3⟩:=w i H p;refine ⟨fun h=>w1 (by omega),fun d hd x H' y=>?_,fun h=>w3 (by omega)⟩;have hi:=(aaz.mp hd).1;obtain ⟨e,hx⟩:=w2 (by omega) x H' y;obtain ⟨d',hd',r⟩:=rs.get' hx;rw [hd] at hd';cases hd';exact .inl ⟨e,r⟩
def tI (K:aaa) (f:TX):TI:=fun σ H R=> ∃G H0 env ds,EnvOk K G H0 env σ H/\f env= .ok ds/\
 ∀J H1 P,Same H H1->jbN K (Sf G env σ) H1 J ds P->P H1->(∀env' σ' H',Frm env σ H1 env' σ' H'->P H')->R J H1
@[irreducible] def DI (X:Cx) (tg e:Expr) (f:TX):Prop:=PI X tg e (tI X.K f)
def Qa (z:Str):List D:=z.cps.toList.map fun c=> .str ⟨#[c]⟩
def Vw:D->Res (List D)
 | .lst ds=> .ok ds
 | .scr ds=> .ok ds
 | .tup ds=> .ok ds
 | .str z=> .ok (Qa z)
 |_=> .stuck
def Yi (z:Str):List V:=z.cps.toList.map fun c=> .str ⟨#[c]⟩
def Kg {K:aaa} {A:Wb} {H:Hp} (z:Str):Reps K A H (Yi z) (Qa z):=by
 unfold Yi Qa;generalize z.cps.toList=l
 induction l with
 |nil=>exact .nil
 |cons c r ih=>exact .cons (.str _ (jaH c)) ih
section
variable {X:Cx} {tg e:Expr} {f:T0} {l:Lv}
def itF (f:T0):Sl->Res (List D):=fun env=>f env>>=Vw
def zj (h:DE X .s e f):DI X tg e (itF f):=by
 with_unfolding_all exact (by
  intro pins s σ H R I ⟨G,H0,env,ds,k,ef,q⟩;obtain ⟨d,e1,e2⟩:=jd ef;refine thn (h pins s σ H (fun v H1=>Same H H1/\Rep X.K (Sf G env σ) H1 v d) I ⟨G,H0,env,d,k,e1,fun v H' s r _=>⟨s,r⟩⟩) fun v s1 ⟨x,H1,I1,r1,sm,rep⟩=>?_
  have k1:=k.grow sm
  cases d with
  |lst ds'=>
   cases e2;obtain ⟨a,xs,rfl,ha,na,rs⟩:=rep.lstE;cases r1;obtain ⟨its,rv,p,hz⟩:=I1.list (.of ha);refine acV p.isList ?_;refine ⟨s1.heap.objs.size,[s1.heap.objs.size],_,_,H1,rfl,I1.kept fun b o e=>aad _ e,Q4 a _,⟨_,aan _ rfl,rfl,rfl⟩,fun b hb=>?_,?_⟩
   · have e:b=s1.heap.objs.size:=by simpa using hb
     subst e;exact I1.fpOk (aae _) (I1.hok.fresh (aae _))
   · refine q _ H1 (fun H=>H a=some (.lst xs)) sm (Walk.toD rs.low fun i H' p=>?_) ha (fun env' σ' H' fr=>fr.keep a _ ha na.1);exact ⟨fun hi=>⟨xs,xs[i],.of p,by simp [hi]⟩,fun _ x H' y=>⟨y.1,y.2 xs (.of p)⟩,fun hi=>⟨xs,.of p,hi⟩⟩
  |scr ds'=>
   cases e2;obtain ⟨a,xs,rfl,ha,rs⟩:=rep.scrE;cases r1;obtain ⟨its,rv,p,hz⟩:=I1.list ha.sql;refine acV p.isList ?_;refine ⟨s1.heap.objs.size,[s1.heap.objs.size],_,_,H1,rfl,I1.kept fun b o e=>aad _ e,Q4 a _,⟨_,aan _ rfl,rfl,rfl⟩,fun b hb=>?_,?_⟩
   · have e:b=s1.heap.objs.size:=by simpa using hb
     subst e;exact I1.fpOk (aae _) (I1.hok.fresh (aae _))
   · refine q _ H1 (fun H=>LsK X.K H a xs) sm (Walk.toD rs fun i H' p=>?_) ha (fun env' σ' H' fr=>?_)
     · exact ⟨fun hi=>⟨xs,xs[i],p.sql,by simp [hi]⟩,fun _ x H' y=>⟨y.1,y.2 xs p.sql⟩,fun hi=>⟨xs,p.sql,hi⟩⟩
     · rcases ha with ⟨o,eo⟩|z
       · exact .inl ⟨o,fr.keep a _ eo fun ow=>(k1.mutO ow eo).elim⟩
       · exact .inr z
  |tup ds'=>
   cases e2;obtain ⟨a,xs,rfl,ha,rs⟩:=rep.tupE;cases r1;obtain ⟨its,rv,p,hz⟩:=I1.tuple (.of ha);refine wpAny_pyIter_tuple (show s1.heap.IsTuple a its.toArray from p) ?_;refine ⟨s1.heap.objs.size,[s1.heap.objs.size],_,_,H1,rfl,I1.kept fun b o e=>aad _ e,X9 a _,⟨_,aan _ rfl,rfl,rfl⟩,fun b hb=>?_,?_⟩
   · have e:b=s1.heap.objs.size:=by simpa using hb
     subst e;exact I1.fpOk (aae _) (I1.hok.fresh (aae _))
   · refine q _ H1 (fun H=>H a=some (.tup xs)) sm (Walk.toD rs fun i H' p=>?_) ha (fun env' σ' H' fr=>fr.keep a _ ha fun ow=>(k1.mutO ow ha).elim);exact ⟨fun hi=>⟨xs,xs[i],.of p,by simp [hi]⟩,fun _ x H' y=>⟨y.1,y.2 xs (.of p)⟩,fun hi=>⟨xs,.of p,hi⟩⟩
  |str z=>
   cases e2;obtain ⟨rfl,hz⟩:=rep.strE;obtain ⟨t,rfl⟩:=r1
   have fin: ∀(J:It),J=Its z-> ∃(xs:List V) (P:Hp->Prop),Reps X.K (Sf G env σ) H1 xs (Qa z)/\Walk J xs P/\P H1/\ ∀env' σ' H',Frm env σ H1 env' σ' H'->P H':=by
     rintro J rfl;refine ⟨Yi z,fun _=>True,Kg z,fun i H' _=>?_,trivial,fun _ _ _ _=>trivial⟩;have hl:(Yi z).length=z.cps.size:=by simp [Yi]
     refine ⟨fun hi=>by rw [hl] at hi;exact hi,fun hi x H2 y=>?_,fun hi=>by rw [hl] at hi;exact hi⟩;obtain ⟨y1,c,y2,y3⟩:=y;refine ⟨y1,?_⟩;subst y3;simp [Yi,y2]
   obtain ⟨xs,P,h1,h2,h3,h4⟩:=fin (Its z) rfl
   cases hall:z.cps.all (· <128) with
   |true=>
     refine wpAny_pyIter_ascii hall ?_;refine ⟨s1.heap.objs.size,[s1.heap.objs.size],_,_,H1,rfl,I1.kept fun b o e=>aad _ e,Yc _ z t,⟨_,aan _ rfl,rfl,rfl⟩,fun b hb=>?_,q _ H1 P sm (Walk.toD h1 h2) h3 h4⟩;have e:b=s1.heap.objs.size:=by simpa using hb
     subst e;exact I1.fpOk (aae _) (I1.hok.fresh (aae _))
   |false=>
     refine wpAny_pyIter_wide hall ?_;refine ⟨s1.heap.objs.size,[s1.heap.objs.size],_,_,H1,rfl,I1.kept fun b o e=>aad _ e,Y0 _ z t,⟨_,aan _ rfl,rfl,rfl⟩,fun b hb=>?_,q _ H1 P sm (Walk.toD h1 h2) h3 h4⟩;have e:b=s1.heap.objs.size:=by simpa using hb
     subst e;exact I1.fpOk (aae _) (I1.hok.fresh (aae _))
  |_=>cases e2)
def Jy (lo:Int) (n:Nat):List D:=(aaT n).map fun (i:Nat)=> .int (lo+(i:Int))
def YF (lo:Int) (n:Nat):List V:=(aaT n).map fun (i:Nat)=> .int (lo+(i:Int))
def VB {K:aaa} {A:Wb} {H:Hp} (lo:Int) (n:Nat):Reps K A H (YF lo n) (Jy lo n):=by
 unfold YF Jy;generalize aaT n=l
 induction l with
 |nil=>exact .nil
 |cons c r ih=>exact .cons (.int _) ih
def X7 (lo:Int) (n:Nat):Walk (Itr lo n) (YF lo n) (fun _=>True):=fun i H _=>by
 have hl:(YF lo n).length=n:=by simp [YF]
 refine ⟨fun hi=>by rw [hl] at hi;exact hi,fun hi x H2 y=>?_,fun hi=>by rw [hl] at hi;exact hi⟩;obtain ⟨y1,y2⟩:=y;refine ⟨y1,?_⟩;subst y2;rw [hl] at hi;simp [YF,hi]
def rng1:List D->Res (List D)
 | [.int j]=>must (-(2^62)<=j/\j<2^62) (.ok (Jy 0 j.toNat))
 |_=> .stuck
def Reps.one {K:aaa} {A:Wb} {H:Hp} {vs:List V} {d:D} (r:Reps K A H vs [d]): ∃v,vs=[v]/\Rep K A H v d:=by
 cases r with
 |cons h t=>cases t;exact ⟨_,rfl,h⟩
def Reps.two {K:aaa} {A:Wb} {H:Hp} {vs:List V} {d d':D} (r:Reps K A H vs [d,d']): ∃v v',vs=[v,v']/\Rep K A H v d/\Rep K A H v' d':=by
 cases r with
 |cons h t=>
  obtain ⟨v',rfl,h'⟩:=t.one;exact ⟨_,_,rfl,h,h'⟩
def PI.imp {t t':TI} (h:PI X tg e t) (w: ∀σ H Q,t' σ H Q->t σ H Q):PI X tg e t':=fun pins s σ H Q I q=>h pins s σ H Q I (w σ H Q q)
def rngF (fa:TX):Sl->Res (List D):=fun env=>fa env>>=rng1
def Jg {a:Expr} {p pos:Pos} {fa:TX} (hg:Gl X "range") (hm:X.mg "range" =none) (ha:DA X l [a] fa) (hs:aao [a] X.env=[(false,eval a X.env)]:=by rfl):DI X tg (.Call (.Name "range" p) [a] [] pos) (rngF fa):=by
 with_unfolding_all exact (
  PI.imp (KJ hg hm ha hs) fun σ H R ⟨G,H0,env,ds,k,ef,q⟩=>by
   obtain ⟨as,e1,e2⟩:=jd ef;refine ⟨G,H0,env,as,k,e1,fun vs H1 s1 r1=>?_⟩;unfold rng1 at e2
   split at e2
   · obtain ⟨⟨h1,h2⟩,e3⟩:=jn e2;cases e3;obtain ⟨v,rfl,r⟩:=r1.one;cases r.intE;exact ⟨_,rfl,h1,h2,q _ H1 _ s1 (Walk.toD (VB 0 _) (X7 0 _)) trivial fun _ _ _ _=>trivial⟩
   · cases e2)
def tG (K:aaa) (t:TV):TG:=fun v σ H Q=> ∃G H0 env d env',EnvOk K G H0 env σ H/\Rep K (Sf G env σ) H v d/\t d env= .ok env'/\ ∀σ',EnvOk K G H0 env' σ' H->Frm env σ H env' σ' H->Q σ' H
@[irreducible] def DG (X:Cx) (tg:Expr) (t:TV):Prop:=PG X tg (tG X.K t)
theorem PG.imp {t t':TG} (h:PG X tg t) (w: ∀v σ H Q,t' v σ H Q->t v σ H Q):PG X tg t':=fun pins s σ H v u Q I r q=>h pins s σ H v u Q I r (w v σ H Q q)
def gN (i:Nat):D->Sl->Res Sl:=fun d env=> .ok (env.set i (.shr d))
def jo (i:Nat) {x:Str} {pos:Pos} (hN:X.N.Nodup) (hi:X.N[i]?=some x:=by rfl) (hx:Loc X.env.scope x:=by first|exact abV rfl|exact abj rfl)
   (hf:T6 X x:=by first|exact .inl rfl|exact .inr rfl|assumption):DG X (.Name x pos) (gN i):=by
 with_unfolding_all exact (
  PG.imp (jav hN hi hx hf) fun v σ H Q ⟨G,H0,env,d,env',k,r,e,q⟩=>by
   cases e
   exact q _ (k.setS r) (.set (Same.refl H) fun _ _ z _=>by cases z))
def g2 (t u:TV):D->Sl->Res Sl:=fun d env=>match d with
 | .tup [x,y]=>t x env>>=fun env'=>u y env'
 |_=> .stuck
def wp {a b:Expr} {k:Nat} {pos:Pos} {t u:TV} (hc:X.calm=true) (h1:DG X a t) (h2:DG X b u)
   (hs:(ab4 [a,b] X.env).map (·.2)=assign a X.env::(ab4 [b] X.env).map (·.2):=by rfl) (hs2:(ab4 [b] X.env).map (·.2)=assign b X.env::(ab4 [] X.env).map (·.2):=by rfl)
   (hn:(ab4 [a,b] X.env).length=2:=by rfl) (hst:(ab4 [a,b] X.env).findIdx? (·.1)=none:=by rfl):DG X (.Tuple [a,b] k pos) (g2 t u):=by
 with_unfolding_all exact (
  PG.imp (jcu hc (Xj h1 (Xj h2 jau hs2) hs) hn hst) fun v σ H Q ⟨G,H0,env,d,env',k,r,e,q⟩=>by
   unfold g2 at e
   split at e
   · obtain ⟨env1,e1,e2⟩:=jd e;obtain ⟨a,xs,rfl,ha,rs⟩:=r.tupE;obtain ⟨v1,v2,rfl,r1,r2⟩:=rs.two;refine ⟨a,_,rfl,.of ha,rfl,v1,[v2],rfl,G,H0,env,_,env1,k,r1,e1,fun σ1 k1 f1=>⟨v2,[],rfl,G,H0,env1,_,env',k1,f1.rep k r2,e2,fun σ2 k2 f2=>⟨rfl,q σ2 k2 (f1.trans f2)⟩⟩⟩
   · cases e)
def asgO (f:T0) (t:TV):Sl->Res Out:=fun env=>f env>>=fun d=>t d env>>=fun env'=> .ok (.nx env')
def xp {pos:Pos} {t:TV} (he:DE X .s e f) (hg:DG X tg t) (hs:swapsWithSole [tg] e pos.line X.env=pure false:=by rfl) (hw:swappedStores [tg] e X.env=pure none:=by rfl)
   (h1:(ab4 [tg] X.env).map (·.2)=[assign tg X.env]:=by rfl):DS X (.Assign [tg] e pos) (asgO f t):=by
 with_unfolding_all exact (
  PS.imp (v0 he hg hs hw h1) fun E σ H ⟨G,H0,env,o,k,ef,q⟩=>by
   obtain ⟨d,e1,e2⟩:=jd ef;obtain ⟨env',e3,e4⟩:=jd e2;cases e4
   exact ⟨G,H0,env,d,k,e1,fun v H' s r _=>⟨G,H0,env,d,env',k.grow s,r,e3,fun σ' k' f'=>q σ' H' k' (f'.grow s)⟩⟩)
def forD (body:D->Sl->Res Out):List D->Sl->Res Out
 | [],env=> .ok (.nx env)
 |d::ds,env=>body d env>>=fun o=>match o with
  | .nx env'=>forD body ds env'
  | .ct env'=>forD body ds env'
  | .bk env'=> .ok (.nx env')
  | .rt fr d=> .ok (.rt fr d)
def qB (t:TV) (g:TY):D->Sl->Res Out:=fun d env=>t d env>>=g
def forO (f:TX) (t:TV) (g:TY):Sl->Res Out:=fun env=>f env>>=fun ds=>forD (qB t g) ds env
def zy {pos:Pos} {body:List Stmt} {fi:TX} {t:TV} {g:TY} (hp:PassesOwn (model X.prog X.w) X.A X.env X.xe) (hc:X.calm=true) (hi:DI X tg e fi) (hg:DG X tg t) (hb:DSs X body g)
   (hs: ∀x,acz e X.env x=pure x:=by intro _;rfl):DS X (.For tg e body [] pos) (forO fi t g):=by
 with_unfolding_all exact (
  PS.imp (jcr hp hc hi hg hb hs) fun E σ H ⟨G,H0,env,o,k,ef,q⟩=>by
   obtain ⟨ds,e1,e2⟩:=jd ef;refine ⟨G,H0,env,ds,k,e1,fun J H1 P sm wk p0 pst=>?_⟩;have k1:=k.grow sm;have q1:=Zk (Frm.refl sm) q;refine ⟨fun i m σ' H'=>m=ds.length-i/\i<=ds.length/\ ∃env',EnvOk X.K G H0 env' σ' H'/\Frm env σ H1 env' σ' H'/\forD (qB t g) (ds.drop i) env'= .ok o,⟨ds.length,by simp,aa7 _,env,k1,Frm.refl (Same.refl H1),by simpa using e2⟩,?_⟩;rintro i m σ' H' ⟨rfl,hi,env',k',f',e'⟩;obtain ⟨w1,w2,w3⟩:=wk i H' (pst env' σ' H' f')
   by_cases hd:i<ds.length
   · refine .inr ⟨w1 hd,?_⟩;rw [List.drop_eq_getElem_cons hd] at e';obtain ⟨o1,e3,e4⟩:=jd e';obtain ⟨env1,e5,e6⟩:=jd e3;refine ⟨fun σ2 H2=>ds.length-(i+1)=ds.length-(i+1)/\i+1<=ds.length/\ ∃env2,EnvOk X.K G H0 env2 σ2 H2/\Frm env σ H1 env2 σ2 H2/\forD (qB t g) (ds.drop (i+1)) env2= .ok o,fun σ2 H2 z=>⟨ds.length-(i+1),by omega,z⟩,fun x H2 y=>?_⟩
     obtain ⟨sm2,rd⟩:Same H' H2/\Rep X.K (Sf G env' σ') H2 x ds[i]:=by
      rcases w2 _ (aac hd) x H2 y with ⟨rfl,rd⟩| ⟨p,vs,es,hp,rfl,rfl,ed,rds⟩
      · exact ⟨Same.refl _,f'.rep k1 rd⟩
      · refine ⟨Same.upd hp,?_⟩;rw [ed];exact .tup jt ((f'.reps k1 rds).grow (Same.upd hp))
     refine ⟨G,H0,env',ds[i],env1,k'.grow sm2,rd,e5,fun σ1 kk1 ff1=>⟨G,H0,env1,o1,kk1,e6,?_⟩⟩;have fr1:=(f'.trans (Frm.refl sm2)).trans ff1
     cases o1 with
     |nx env2=>exact fun σ2 H3 kk2 ff2=>⟨rfl,hd,env2,kk2,fr1.trans ff2,e4⟩
     |ct env2=>exact fun σ2 H3 kk2 ff2=>⟨rfl,hd,env2,kk2,fr1.trans ff2,e4⟩
     |bk env2=>cases e4;exact fun σ2 H3 kk2 ff2=>q1 σ2 H3 kk2 (fr1.trans ff2)
     |rt fr dd=>cases e4;exact q1
   · have he:i=ds.length:=by omega
     refine .inl ⟨w3 (by omega),?_⟩;rw [List.drop_eq_nil_of_le (by omega)] at e';cases e'
     exact q1 σ' H' k' f')
def zo (n:Nat) (t:TZ) (g:TY):Sl->Res Out:=fun env=>match n with
 |0=> .stuck
 |n+1=>t env>>=fun b=>if b=true then g env>>=fun o=>match o with
   | .nx env'=>zo n t g env'
   | .ct env'=>zo n t g env'
   | .bk env'=> .ok (.nx env')
   | .rt fr d=> .ok (.rt fr d)
  else .ok (.nx env)
def XS (n:Nat) {pos:Pos} {c:Expr} {body:List Stmt} {t:TZ} {g:TY} (hp:PassesOwn (model X.prog X.w) X.A X.env X.xe) (hc:DT X c t) (hb:DSs X body g):DS X (.While c body [] pos) (zo n t g):=by
 with_unfolding_all exact (
  PS.imp (U9 hp hc hb) fun E σ H ⟨G,H0,env,o,k,ef,q⟩=>by
   refine ⟨fun m σ' H'=> ∃env',EnvOk X.K G H0 env' σ' H'/\Frm env σ H env' σ' H'/\zo m t g env'= .ok o,⟨n,env,k,Frm.refl (Same.refl H),ef⟩,?_⟩;rintro m σ' H' ⟨env',k',f',e'⟩
   cases m with
   |zero=>cases e'
   |succ m=>
    obtain ⟨b,e1,e2⟩:=jd e';refine ⟨G,H0,env',b,k',e1,fun H1 s1=>?_⟩
    cases b with
    |false=>
     rw [if_neg aaH] at e2 ⊢;cases e2;exact q σ' H1 (k'.grow s1) (f'.trans (Frm.refl s1))
    |true=>
     rw [if_pos rfl] at e2 ⊢;obtain ⟨o1,e3,e4⟩:=jd e2;refine ⟨fun σ2 H2=> ∃env2,EnvOk X.K G H0 env2 σ2 H2/\Frm env σ H env2 σ2 H2/\zo m t g env2= .ok o,fun σ2 H2 z=>⟨m,ada m,z⟩,G,H0,env',o1,k'.grow s1,e3,?_⟩;have fr1:=f'.trans (Frm.refl s1)
     cases o1 with
     |nx env2=>exact fun σ2 H3 kk2 ff2=>⟨env2,kk2,fr1.trans ff2,e4⟩
     |ct env2=>exact fun σ2 H3 kk2 ff2=>⟨env2,kk2,fr1.trans ff2,e4⟩
     |bk env2=>cases e4;exact fun σ2 H3 kk2 ff2=>q σ2 H3 kk2 (fr1.trans ff2)
     |rt fr dd=>cases e4;exact q)
end
def frz (i:Nat) (env:Sl):Sl:=match env[i]? with
 |some (.own d)=>env.set i (.shr d)
 |_=>env
def Zi {i:Nat} {env:Sl} {σ:L2.St} {a:Addr} (h:jR (frz i env) σ a):jR env σ a:=by
 unfold frz at h
 split at h
 · rename_i d hd;obtain ⟨j,e,h1,h2⟩:=h
   by_cases z:i=j
   · subst z;obtain ⟨q,_⟩:=jw h1;cases q
   · rw [jq z] at h1;exact ⟨j,e,h1,h2⟩
 · exact h
def EnvOk.frz {K : aaa} {G : Addr -> Prop} {H0 H : Hp} {env : Sl} {σ : L2.St} (i : Nat) (k : EnvOk K G H0 env σ H) : EnvOk K G H0 (frz i env) σ H := by
  have w : ∀ a, Sf G env σ a -> Sf G (M.frz i env) σ a := fun a n => ⟨fun o => n.1 (Zi o), n.2⟩
  cases hi : env[i]? with
  | none => have e : M.frz i env = env := by unfold M.frz; rw [hi]
            rw [e]; exact k
  | some s =>
    cases s with
    | un => have e : M.frz i env = env := by unfold M.frz; rw [hi]
            rw [e]; exact k
    | shr d => have e : M.frz i env = env := by unfold M.frz; rw [hi]
               rw [e]; exact k
    | own d =>
      have e : M.frz i env = env.set i (.shr d) := by unfold M.frz; rw [hi]
      obtain ⟨a, h1, h0, h2⟩ := k.own i d hi
      have na : NotO (M.frz i env) σ a := by
        rintro ⟨j, d', q1, q2⟩
        rw [e] at q1
        by_cases z : i = j
        · subst z
          obtain ⟨q, _⟩ := jw q1
          cases q
        · rw [jq z] at q1
          exact z (k.dis i j d d' a hi q1 h1 q2)
      rw [e] at w na ⊢
      refine ⟨by simp [k.len], k.base, k.g0, fun j d' h => ?_, fun j d' h => ?_, fun j j' d1 d2 b q1 q2 q3 q4 => ?_⟩
      · by_cases z : i = j
        · subst z
          obtain ⟨q, hl⟩ := jw h
          cases q
          exact ⟨_, h1, h2.rep (fun c z => ⟨w c z, Zj k hi h1 c z⟩) ⟨na, k.g0 a h0⟩⟩
        · rw [jq z] at h
          obtain ⟨v', g1, g2⟩ := k.shr j d' h
          exact ⟨v', g1, g2.weak w⟩
      · by_cases z : i = j
        · subst z
          obtain ⟨q, hl⟩ := jw h
          cases q
        · rw [jq z] at h
          obtain ⟨v', g1, g0, g2⟩ := k.own j d' h
          exact ⟨v', g1, g0, g2.stay (fun _ _ e _ => e) w fun _ e => e⟩
      · have n1 : i ≠ j := fun z => by subst z; obtain ⟨q, _⟩ := jw q1; cases q
        have n2 : i ≠ j' := fun z => by subst z; obtain ⟨q, _⟩ := jw q2; cases q
        rw [jq n1] at q1
        rw [jq n2] at q2
        exact k.dis j j' d1 d2 b q1 q2 q3 q4
def frzO (i:Nat) (g:TY):Sl->Res Out:=fun env=>g (frz i env)
def uE (i:Nat) {X:Cx} {st:Stmt} {g:TY} (h:DS X st g):DS X st (frzO i g):=by
 with_unfolding_all exact (PS.imp h fun E σ H ⟨G,H0,env,o,k,ef,q⟩=>by
  refine ⟨G,H0,frz i env,o,k.frz i,ef,?_⟩;have f:Frm env σ H (frz i env) σ H:=⟨fun _ _ e _=>e,fun b o=> .inl (Zi o),fun _ e=>e⟩
  exact Zk f q)
end M
namespace PySem.AutoSeq1
open PySem Builtin
def list_extend_tupleG (l:Addr) (items:Array Value) (n:Nat) (b:Addr) (items2:Array Value) (n2:Nat) (dd:Option Addr) (sl:Array (Option Value)) (hs0: ¬(!items.isEmpty&&aby (items.size+items2.size))=true) (hs1:items.size<=aai) (hs2:items.size+items2.size<=aai+1):
  Meets (ad6.«list.extend» ⟨[.ref l,.ref b],[]⟩) (fun _ R s=>s.heap.get? l=some {cls:= .type "list",dict:=none,data:= .seq items n,slots:= #[]}/\s.heap.get? b=some {cls:= .type "tuple",dict:=dd,data:= .seq items2 n2,slots:=sl}/\R (.ok (.ret abD)) {s with heap:=s.heap.update l (acJ fun x=>x++items2),toks:=s.toks}):=
 .of_wp fun prog w A R s h=>by
  obtain ⟨hp,g,d,tk,os⟩:=s;obtain ⟨hl,hb,h⟩:=h;have f1:=idx_int;have f2:=sub_tuple_tuple;have f3:=sub_list_list;have f4:=sub_tuple_list;have f5:=sub_list_tuple;
  have hz':(items++items2).size<=aai+1:=by rw [Array.size_append];exact hs2
  wp_walk using (wpAny_updateSeq hl rfl),adu hl,adu hb;exact ⟨_,rfl,h⟩
end PySem.AutoSeq1
namespace M
open PySem PySem.Spec L2
open PyProof.Rows hiding St
theorem imms_iff: ∀ {ds:List D},D.imms ds=true↔ ∀d∈ds,d.imm=true
 | []=>by simp [D.imms]
 |d::ds=>by simp [D.imms,imms_iff]
section
variable {X:Cx}
def U5:V->List V->Hp->VK->Prop:=fun x vs H Q=> ∃l b xs zs,x= .ref l/\vs=[.ref b]/\H l=some (.lst xs)/\H b=some (.tup zs)/\xs.length+zs.length<=aai/\Q .non (upd H l (.lst (xs++zs)))
def Yv:MtM X "list.extend" U5:=by
 intro pins s σ H x vs v us Q I rx rv h;obtain ⟨l,b,xs,zs,rfl,rfl,hH,hB,hz,q⟩:=h;cases rx;obtain ⟨u,rfl,ru⟩:=rv.one;cases ru;obtain ⟨z,its,n,r,hl,e⟩:=I.lstM hH;obtain ⟨its2,r2,⟨ob,e2,hc,n2,hd⟩,z2⟩:=I.tuple (.of hB);have hl2:=r2.length;obtain ⟨c2,dd2,dt2,sl2⟩:=ob;have hc':=hc;have hd':=hd;subst hc' hd';have hsz:its.toArray.size+its2.toArray.size<=aai:=by rw [aag,aag];omega
 have hlong: ¬(!its.toArray.isEmpty&&aby (its.toArray.size+its2.toArray.size))=true:=by
  rw [Qw hsz,Bool.and_false];exact aaH
 refine ad5 ad0 ⟨_,e,rfl⟩ F.entry_list_extend (F.args_list_extend_2 _ _)
  (AutoSeq1.list_extend_tupleG l its.toArray n b its2.toArray n2 dd2 sl2 hlong (by rw [aag];omega) (by omega)) ⟨e,e2,?_⟩
 refine ⟨.non,_,I.lset hH e (by simp) (r.append r2) ?_,rfl,q⟩;rw [aaE];omega
def yc {env:Sl} {σ:L2.St} {i:Nat} {d d':D} {a:Addr} (hi:env[i]?=some (.own d)):jR (env.set i (.own d')) σ a↔jR env σ a:=by
 have hl:=(aaz.mp hi).1
 constructor
 · rintro ⟨j,e,h1,h2⟩
   by_cases z:i=j
   · subst z;exact ⟨i,d,hi,h2⟩
   · rw [jq z] at h1;exact ⟨j,e,h1,h2⟩
 · rintro ⟨j,e,h1,h2⟩
   by_cases z:i=j
   · subst z;exact ⟨i,d',abH hl,h2⟩
   · exact ⟨j,e,by rw [jq z];exact h1,h2⟩
def EnvOk.writeG {K:aaa} {G:Wb} {H0 H:Hp} {env:Sl} {σ:L2.St} {i:Nat} {d0 d':D} {a:Addr} {o0 o':HO} (k:EnvOk K G H0 env σ H) (hi:env[i]?=some (.own d0)) (ha:σ[i]?=some (some (.ref a))) (hx:H a=some o0) (hm:Mut (some o0))
   (top: ∀(A':Wb) (H':Hp),Stay (Sf G env σ) H H'->H' a=some o'->(∀b,Sf G env σ b->A' b)->Top K A' H' a d'):EnvOk K G H0 (env.set i (.own d')) σ (upd H a o')/\Frm env σ H (env.set i (.own d')) σ (upd H a o'):=by
 have hl:=(aaz.mp hi).1;have ow:jR env σ a:=⟨i,_,hi,ha⟩
 have st:Stay (Sf G env σ) H (upd H a o'):=fun c o e m=>by
   rw [jH ?_]
   · exact e
   · rintro rfl;rw [hx] at e;cases e;exact (m hm).1 ow
 have w: ∀c,Sf G env σ c->Sf G (env.set i (.own d')) σ c:=fun c n=>⟨fun o=>n.1 ((yc hi).mp o),n.2⟩
 refine ⟨⟨by simp [k.len],fun c o e=>?_,k.g0,fun j d1 h=>?_,fun j d1 h=>?_,fun j j' d1 d2 b q1 q2 q3 q4=>?_⟩,⟨fun c o e n=>?_,fun c o=> .inl ((yc hi).mp o),fun c e=>?_⟩⟩
 · have hc:c≠a:=by
     rintro rfl;obtain ⟨b,h1,h0,_⟩:=k.own i _ hi;rw [ha] at h1;cases h1;rw [h0] at e;cases e
   rw [jH hc];exact k.base c o e
 · by_cases z:i=j
   · subst z;obtain ⟨q,_⟩:=jw h;cases q
   · rw [jq z] at h;obtain ⟨v,h1,h2⟩:=k.shr j d1 h;exact ⟨v,h1,h2.stay st w⟩
 · by_cases z:i=j
   · subst z;obtain ⟨q,_⟩:=jw h;cases q;obtain ⟨b,h1,h0,_⟩:=k.own i _ hi;rw [ha] at h1;cases h1;exact ⟨a,ha,h0,top _ _ st jt w⟩
   · rw [jq z] at h;obtain ⟨b,h1,h0,h2⟩:=k.own j d1 h
     have hb:b≠a:=by
       rintro rfl;exact z (k.dis i j _ _ b hi h ha h1)
     exact ⟨b,h1,h0,h2.stay st w fun o e=>by rw [jH hb];exact e⟩
 · have real: ∀(j:Nat) (d1:D),(env.set i (.own d'))[j]?=some (.own d1)-> ∃d0:D,env[j]?=some (.own d0):=fun j d1 q=>by
     by_cases z:i=j
     · subst z;exact ⟨_,hi⟩
     · rw [jq z] at q;exact ⟨_,q⟩
   obtain ⟨e1,z1⟩:=real j d1 q1;obtain ⟨e2,z2⟩:=real j' d2 q2;exact k.dis j j' e1 e2 b z1 z2 q3 q4
 · have hc:c≠a:=by
     rintro rfl;exact n ow
   rw [jH hc];exact e
 · by_cases hc:c=a
   · subst hc;rw [jt] at e;cases e
   · rw [jH hc] at e;exact e
def EnvOk.write {K:aaa} {G:Wb} {H0 H:Hp} {env:Sl} {σ:L2.St} {i:Nat} {ds ds':List D} {a:Addr} {xs xs':List V} (k:EnvOk K G H0 env σ H) (hi:env[i]?=some (.own (.lst ds))) (ha:σ[i]?=some (some (.ref a))) (hx:H a=some (.lst xs))
  (r:Reps K (Sf G env σ) H xs' ds'):EnvOk K G H0 (env.set i (.own (.lst ds'))) σ (upd H a (.lst xs'))/\Frm env σ H (env.set i (.own (.lst ds'))) σ (upd H a (.lst xs')):=
 k.writeG hi ha hx trivial fun A' H' st e w=> .lst e (r.stay st w)
def zr {K:aaa} {G:Wb} {H0 H:Hp} {env:Sl} {σ:L2.St} {i:Nat} {ds:List D} (k:EnvOk K G H0 env σ H) (hi:env[i]?=some (.own (.lst ds))): ∃a xs,σ[i]?=some (some (.ref a))/\H a=some (.lst xs)/\Reps K (Sf G env σ) H xs ds:=by
 obtain ⟨a,h1,h0,h2⟩:=k.own i _ hi
 cases h2 with
 |lst e r=>exact ⟨a,_,h1,e,r⟩
variable {e:Expr} {f:T0} {l:Lv} {pos cpos apos p:Pos} {x:Str}
def ownL (i:Nat) (env:Sl):Res (List D):=match env[i]? with
 |some (.own (.lst ds))=> .ok ds
 |_=> .stuck
def zY {i:Nat} {env:Sl} {ds:List D} (h:ownL i env= .ok ds):env[i]?=some (.own (.lst ds)):=by
 unfold ownL at h
 split at h
 · cases h;assumption
 · cases h
def xH (i:Nat) (f:T0):Sl->Res Out:=fun env=>ownL i env>>=fun ds=>f env>>=fun d=>must (ds.length<aai) (.ok (.nx (env.set i (.own (.lst (ds++[d]))))))
def Je (i:Nat) (he:DE X .s e f) (hN:X.N[i]?=some x:=by rfl) (hv:Vis X.env.scope x:=by first|exact abV rfl|exact abj (abV rfl)|exact abj (abj rfl))
   (hd:Ym x:=by decide) (hcd:Yl x:=by decide)
   (hbase:aa4 (.Name x p) "append" X.env (eval (.Name x p) X.env)=eval (.Name x p) X.env:=by rfl)
   (hfew:((abw cpos (aao [e] X.env)).all (fun x=>!x.1)&&(adr cpos (acb [] X.env)).all (fun x=>x.1.isSome)
    &&decide ([e].length+([]:List acQ).length+(if ([]:List acQ).isEmpty then 0 else 1)<30))=true:=by exact wK rfl rfl)
   (hline:(apos.endLine==cpos.line)=true:=by rfl) (hs:aao [e] X.env=(false,eval e X.env)::aao [] X.env:=by exact jp rfl) (hplain:(abw cpos (aao [] X.env)).any (·.1)=false:=by exact jC rfl)
   (hsw:abY (.Call (.Attribute (.Name x p) "append" apos) [e] [] cpos) none pos.line X.env=pure false:=by rfl):
   DS X (.Expr (.Call (.Attribute (.Name x p) "append" apos) [e] [] cpos) pos) (xH i f):=by
 with_unfolding_all exact (
  PS.imp (Qg (KL acH adB PySem.F.type_list_append yV (wn hN hv hd hcd) (zf he xl hs) hbase hfew hline hs hplain) hsw) fun E σ H ⟨G,H0,env,o,k,ef,q⟩=>by
   obtain ⟨ds,e1,e2⟩:=jd ef;obtain ⟨d,e3,e4⟩:=jd e2;obtain ⟨hz,e5⟩:=jn e4;cases e5;have hi:=zY e1;obtain ⟨a,xs,ha,hx,rs⟩:=zr k hi;refine ⟨.ref a,ha,.inl ⟨rfl,xs,.of hx⟩,G,H0,env,d,k,e3,fun v H1 s1 r1 _=>?_⟩;have hx1:=s1 _ _ hx;refine ⟨a,xs,v,rfl,rfl,hx1,by rw [rs.length];exact hz,?_⟩;have W:=(k.grow s1).write hi ha hx1 ((rs.grow s1).append (.cons r1 .nil))
   exact q σ _ W.1 (W.2.grow s1))
def xE (i:Nat) (f:T0):Sl->Res Out:=fun env=>ownL i env>>=fun ds=>f env>>=fun d=>match d with
 | .lst es=>must (ds.length+es.length<=aai) (.ok (.nx (env.set i (.own (.lst (ds++es))))))
 | .tup es=>must (ds.length+es.length<=aai) (.ok (.nx (env.set i (.own (.lst (ds++es))))))
 |_=> .stuck
def ZK (i:Nat) (he:DE X .s e f) (hN:X.N[i]?=some x:=by rfl) (hv:Vis X.env.scope x:=by first|exact abV rfl|exact abj (abV rfl)|exact abj (abj rfl))
   (hd:Ym x:=by decide) (hcd:Yl x:=by decide)
   (hbase:aa4 (.Name x p) "extend" X.env (eval (.Name x p) X.env)=eval (.Name x p) X.env:=by rfl)
   (hfew:((abw cpos (aao [e] X.env)).all (fun x=>!x.1)&&(adr cpos (acb [] X.env)).all (fun x=>x.1.isSome)
    &&decide ([e].length+([]:List acQ).length+(if ([]:List acQ).isEmpty then 0 else 1)<30))=true:=by exact wK rfl rfl)
   (hline:(apos.endLine==cpos.line)=true:=by rfl) (hs:aao [e] X.env=(false,eval e X.env)::aao [] X.env:=by exact jp rfl) (hplain:(abw cpos (aao [] X.env)).any (·.1)=false:=by exact jC rfl)
   (hsw:abY (.Call (.Attribute (.Name x p) "extend" apos) [e] [] cpos) none pos.line X.env=pure false:=by rfl):
   DS X (.Expr (.Call (.Attribute (.Name x p) "extend" apos) [e] [] cpos) pos) (xE i f):=by
 with_unfolding_all exact (
  PS.imp (Qg (KL acH ad0 PySem.F.type_list_extend (MtR.or Vf Yv) (wn hN hv hd hcd) (zf he xl hs) hbase hfew hline hs hplain) hsw) fun E σ H ⟨G,H0,env,o,k,ef,q⟩=>by
   obtain ⟨ds,e1,e2⟩:=jd ef;obtain ⟨d,e3,e4⟩:=jd e2;have hi:=zY e1;obtain ⟨a,xs,ha,hx,rs⟩:=zr k hi;refine ⟨.ref a,ha,.inl ⟨rfl,xs,.of hx⟩,G,H0,env,d,k,e3,fun v H1 s1 r1 _=>?_⟩;have hx1:=s1 _ _ hx
   cases d with
   |lst es=>
    obtain ⟨hz,e5⟩:=jn e4;cases e5;obtain ⟨b,ys,rfl,hb,_,ry⟩:=r1.lstE;have ry':=ry.low;refine .inl ⟨a,b,xs,ys,rfl,rfl,hx1,hb,by rw [rs.length,ry.length];exact hz,?_⟩;have W:=(k.grow s1).write hi ha hx1 ((rs.grow s1).append ry');exact q σ _ W.1 (W.2.grow s1)
   |tup es=>
    obtain ⟨hz,e5⟩:=jn e4;cases e5;obtain ⟨b,ys,rfl,hb,ry⟩:=r1.tupE;have ry':=ry;refine .inr ⟨a,b,xs,ys,rfl,rfl,hx1,hb,by rw [rs.length,ry.length];exact hz,?_⟩;have W:=(k.grow s1).write hi ha hx1 ((rs.grow s1).append ry');exact q σ _ W.1 (W.2.grow s1)
   |_=>cases e4)
end
def ZO {prog:aaL} {w:World} {A:aaZ} {R:Result->aah->Prop} {s:aah} {elt target iter:Expr} {ifs:List Expr} {scope:Scope} {pos:Pos} {it acc:Value} {env:Env} (I:Nat->aah->Prop)
  (turn: ∀n s,I n s->wpAny (model prog w) A (pyNext it) (fun r s₁=>match r with
   |none=>R (.ok .next) s₁
   |some v=>wpAny (model prog w) A (aea target it v) (fun _ s₁'=>wpAny (model prog w) A (assign target env v) (fun _ s₂=>
    wpAny (model prog w) A (forIn ifs true fun c r=>if r=true then do let ok←isTrue c env (eval c env);pure (aef ok) else pure (aef r)) (fun ok s₃=>
     if ok=true then wpAny (model prog w) A (eval elt env) (fun x s₄=>
      wpAny (model prog w) A (call (.builtin "list.append") [acc,x]) (fun _ s₅=> ∃m,m<n/\I m s₅) (fun _ _=>False) s₄) (fun _ _=>False) s₃
     else∃m,m<n/\I m s₃) (fun _ _=>False) s₂) (fun _ _=>False) s₁') (fun _ _=>False) s₁) (fun _ _=>False) s)
  (n:Nat) (h:I n s):aeH (model prog w) A (.compLoop (.ListComp elt [⟨target,iter,ifs,0⟩] scope pos) 0 it acc env) R s:=by
 refine codeAny_loop rfl I (fun n s hI=>?_) n h;refine wpAny_noted ?_;rw [compTurn_list];refine aab (wpAny_standAt (aab (abT (turn n s hI) (fun r s₁ h₁=>?_) fun _ _ h'=>h'.elim)))
 cases r with
 |none=>exact aaf h₁
 |some v=>
  refine aab (abT h₁ (fun _ s₁' h₁'=>?_) fun _ _ h'=>h'.elim);refine aab (abT h₁' (fun _ s₂ h₂=>aab (abT h₂ (fun ok s₃ h₃=>?_) fun _ _ h'=>h'.elim)) fun _ _ h'=>h'.elim)
  cases ok with
  |false=>exact aaf ⟨rfl,h₃⟩
  |true=>
   exact aab (aab (abT h₃ (fun x s₄ h₄=>aab (abT h₄ (fun _ s₅ h₅=>aaf (aaf ⟨rfl,h₅⟩)) fun _ _ h'=>h'.elim)) fun _ _ h'=>h'.elim))
def UB (X:Cx) (N:List Str) (scope:Scope) (cl:List (Str×Addr)) (C:Addr) (s:aah) (H:Hp) (fp:List Addr):Cx where
 prog:=X.prog
 w:=X.w
 K:=X.K
 mg:=X.mg
 base:=X.base
 A:=X.A
 N:=N
 s₀:=s
 H₀:=H
 env:=compEnvC scope cl C X.env
 outer:=X.stack
 stack:=X.stack
 ex:=fp
 fn:=fun _=>false
 calm:=true
 pn:=[]
 xe:=fun _ _=>False
@[irreducible] def DTs (X:Cx) (ifs:List Expr) (c:TZ):Prop:=
 ∀(pins:List (Addr×Obj)) (s:aah) (σ:L2.St) (H:Hp) (Q:Bool->Hp->Prop),Inv X pins σ H s->tT X.K c σ H Q->
  wpAny (model X.prog X.w) X.A (forIn ifs true fun c r=>if r=true then do let ok←isTrue c X.env (eval c X.env);pure (aef ok) else pure (aef r)) (TP X pins σ Q) X.xe s
def qE:Sl->Res Bool:=fun _=> .ok true
def Jd {X:Cx}:DTs X [] qE:=by
 with_unfolding_all exact (fun pins s σ H Q I ⟨G,H0,env,b,k,ef,q⟩=>by
  cases ef
  exact wpAny_tests_nil ⟨H,I,q H (Same.refl H)⟩)
def jbl {X:Cx} {c:Expr} {g:TZ} (h:DT X c g):DTs X [c] g:=by
 with_unfolding_all exact (fun pins s σ H Q I q=>wpAny_tests_one (h pins s σ H Q I q))
def qS (n:Nat) (t:TV) (c:TZ) (fe:T0):List D->Sl->Res Sl
 | [],env=> .ok env
 |d::ds,env=>t d env>>=fun env1=>c env1>>=fun b=>if b=true
  then fe env1>>=fun v=>ownL n env1>>=fun acc=>must (acc.length<aai) (qS n t c fe ds (env1.set n (.own (.lst (acc++[v])))))
  else qS n t c fe ds env1
def capS (im:Bool) (env:Sl) (j:Nat):Slot:=match env[j]? with
 |some (.shr d)=> .shr d
 |some (.own d)=>if im=true then .shr d else .un
 |_=> .un
def zm (im:Bool) (m:Nat) (js:List Nat) (env:Sl):Sl:=aal m .un++js.map (capS im env)++[.own (.lst [])]
def zl (im:Bool) (m:Nat) (js:List Nat) (fi:TX) (t:TV) (c:TZ) (fe:T0):Sl->Res D:=fun env=>
 fi env>>=fun ds=>qS (m+js.length) t c fe ds (zm im m js env)>>=fun env'=>ownL (m+js.length) env'>>=fun acc=>must (im=true->D.imms acc=true) (.ok (.lst acc))
def zS (m:Nat) (js:List Nat) (σ:L2.St) (a:Addr):L2.St:=aal m none++js.map (fun j=>(σ[j]?).join)++[some (.ref a)]
theorem zd {env:Env}: ∀ {names:List (Str×NameKind)} {x:Str} {k:NameKind},
  (names.map fun (n,k)=>if (k==acW&&env.scope.kind== .function&&env.kindOf n==some .cell) then (n,acX) else (n,k)).lookup x=some k-> ∃k',(x,k')∈names/\(k=k'\/k'= .free)
 | [],_,_,h=>by simp at h
 | (n,k')::r,x,k,h=>by
  have h':abz x ((if (k'==acW&&env.scope.kind== .function&&env.kindOf n==some .cell)=true then (n,acX) else (n,k'))::(r.map fun (n,k)=>if (k==acW&&env.scope.kind== .function&&env.kindOf n==some .cell) then (n,acX) else (n,k)))=some k:=h
  by_cases hc:(k'==acW&&env.scope.kind== .function&&env.kindOf n==some .cell)=true
  · rw [if_pos hc] at h';simp only [abl] at h'
    cases hx:x==n with
    |true=>
     rw [hx] at h';have e:x=n:=by simpa using hx
     subst e;refine ⟨k',aam,.inr ?_⟩;simp at hc;exact hc.1.1
    |false=>
     rw [hx] at h';obtain ⟨k2,h1,h2⟩:=zd h';exact ⟨k2,aaj _ h1,h2⟩
  · rw [if_neg hc] at h';simp only [abl] at h'
    cases hx:x==n with
    |true=>
     rw [hx] at h';have e:x=n:=by simpa using hx
     subst e;cases h';exact ⟨_,aam,.inl rfl⟩
    |false=>
     rw [hx] at h';obtain ⟨k2,h1,h2⟩:=zd h';exact ⟨k2,aaj _ h1,h2⟩
def clZ (z:Option Str) (cl:List (Str×Addr)) (C:Addr):List (Str×Addr):=match z with
 |none=>cl
 |some y=>(y,C+1)::cl
def jan (z:Option Str) (h:Heap):Heap:=match z with
 |none=>h
 |some _=>h.push {cls:= .type "cell",data:= .cell none}
abbrev jQ (z:Option Str) (X:Cx) (N:List Str) (scope:Scope) (cl:List (Str×Addr)) (C:Addr) (s:aah) (H:Hp) (fp:List Addr):Cx:={UB X N scope (clZ z cl C) C s H fp with fn:=fun x=>some x==z}
def lk1 {cl:List (Str×Addr)} {z:Option Str} {x:Str} {c C:Addr} (h:abz x (clZ z cl C)=some c):(z=some x/\c=C+1)\/(z≠some x/\cl.lookup x=some c):=by
 cases z with
 |none=>exact .inr ⟨nofun,h⟩
 |some z=>
  have h:abz x ((z,C+1)::cl)=some c:=h;rw [abl] at h
  cases e:x==z with
  |true=>rw [e] at h;cases h;exact .inl ⟨by rw [show x=z by simpa using e],rfl⟩
  |false=>rw [e] at h;exact .inr ⟨fun q=>by simp at e;exact e (aaI q).symm,h⟩
def lk2 {cl:List (Str×Addr)} {z:Option Str} {x:Str} {c C:Addr} (hn:z≠some x) (h:cl.lookup x=some c):abz x (clZ z cl C)=some c:=by
 cases z with
 |none=>exact h
 |some z=>
  show abz x ((z,C+1)::cl)=some c;rw [abl,show (x==z)=false by simpa using fun q=>hn (by rw [q])];exact h
def Yu {M:Model} {A:aaZ} {E:T9} {s:aah} {scope:Scope} {globals:Addr} {cl:List (Str×Addr)} {qual:Str} {func:Option Addr} {code:Value} {around:Env} {builtins:Addr} {z:Option Str} {Q:Env->aah->Prop}
  (made: ∀n,cellsFrom (n+1) scope.names cl=clZ z cl n) (pushed: ∀h,pushCells h scope.names=jan z h)
  (hQ: ∀h',h'.Ns s.heap.objs.size (fun _=>none)->(∀b o,s.heap.get? b=some o->h'.get? b=some o)->(∀y,z=some y->h'.IsCell (s.heap.objs.size+1) none)->Q (newEnv scope s.heap.objs.size globals (clZ z cl s.heap.objs.size) qual func code (some around) builtins) {s with heap:=h'}):
  wpAny M A (newFunctionEnv scope globals cl [] qual func code (some around) builtins) Q E s:=by
 simp only [newFunctionEnv,Option.isSome_some,if_true];refine aab (wpAny_alloc ?_);refine aab (wpAny_layCells _ (fun name kind cells=>by cases hkc:kind==acX<;>simp [hkc]) _ _ _ _ ?_);have hz:(s.heap.push {cls:= .type "dict",data:= .dict #[]}).objs.size=s.heap.objs.size+1:=ac2 ..;have hc:=made s.heap.objs.size;rw [←hz] at hc;rw [hc,pushed];simp;refine aaf ?_;have ns:=Heap.Ns.new s.heap (.type "dict")
 cases z with
 |none=>exact hQ _ ns (fun b o e=>aad _ e) nofun
 |some z=>
  refine hQ ((s.heap.push {cls:= .type "dict",data:= .dict #[]}).push {cls:= .type "cell",data:= .cell none}) (ns.keeps fun b o e=>aad _ e) (fun b o e=>aad _ (aad _ e)) fun _ _=>⟨_,by rw [←hz];exact aan _ rfl,rfl⟩
structure CompSc (z:Option Str) (X:Cx) (scope:Scope) (cl:List (Str×Addr)) (N:List Str) (m:Nat) (js:List Nat):Prop where
 clos:closureFor scope X.env=pure cl
 kind:scope.kind= .function
 names: ∀x∈scope.names,x.2= .local->scope.names.lookup x.1=some .local
 nocell: ∀y∈scope.names,y.2= .cell->z=some y.1
 made: ∀n,cellsFrom (n+1) scope.names cl=clZ z cl n
 pushed: ∀h,pushCells h scope.names=jan z h
 zk: ∀y,z=some y->scope.names.lookup y=some .cell
 cls: ∀x c,cl.lookup x=some c->X.env.cells.lookup x=some c
 free: ∀y∈scope.names,y.2= .free-> ∃c,cl.lookup y.1=some c
 nd:N.Nodup
 len:N.length=m+js.length+1
 cap: ∀(k j:Nat),js[k]?=some j-> ∃y,N[m+k]?=some y/\X.N[j]?=some y/\(X.env.scope.names.lookup y=some .cell\/X.env.scope.names.lookup y=some .free)/\scope.names.lookup y=some .free
 last: ∀y,N[m+js.length]?=some y-> ∀p∈scope.names,p.1≠y
section
variable {X:Cx} {tg iter elt:Expr} {ifs:List Expr} {scope:Scope} {cl:List (Str×Addr)} {N:List Str} {m:Nat} {js:List Nat} {pos:Pos} {im:Bool} {z:Option Str}
 {fi:TX} {t:TV} {c:TZ} {fe:T0}
def jbz {pins:List (Addr×Obj)} {σ:L2.St} {H:Hp} {s:aah} {C:Addr} {fp:List Addr} (S:CompSc z X scope cl N m js) (hc:X.calm=true) (I:Inv X pins σ H s) (hC:s.heap.objs.size<=C) (hf: ∀b∈fp,FpOk X pins H b) (hfp: ∀b∈fp,b<s.heap.objs.size):
  (jQ z X N scope cl C s H fp).Ok where
 mod:=I.ok.mod
 kind:=S.kind
 glob:=I.ok.glob
 blt:=I.ok.blt
 above:=hC
 inj:=fun x y c h1 h2=>by
  have no: ∀u,X.env.cells.lookup u=some (C+1)->False:=fun u e=>by
    obtain ⟨v,o,ho,_⟩:=I.cell u _ e;exact absurd (aas ho) (Nat.not_lt_of_le (aaF hC (act _)))
  rcases lk1 h1 with ⟨ex,ec⟩| ⟨_,g1⟩
  · rcases lk1 h2 with ⟨ey,_⟩| ⟨_,g2⟩
    · rw [ex] at ey;exact aaI ey
    · rw [ec] at g2;exact (no _ (S.cls _ _ g2)).elim
  · rcases lk1 h2 with ⟨ey,ec⟩| ⟨_,g2⟩
    · rw [ec] at g1;exact (no _ (S.cls _ _ g1)).elim
    · exact I.ok.inj x y c (S.cls x c g1) (S.cls y c g2)
 has:=fun x h=>by
  have mem:z=some x\/ ∃k',(x,k')∈scope.names/\k'= .free:=by
    rcases h with h|h<;>obtain ⟨k',h1,h2⟩:=zd h
    · rcases h2 with z|z
      · exact .inl (S.nocell _ h1 z.symm)
      · exact .inr ⟨k',h1,z⟩
    · rcases h2 with z|z
      · exact .inr ⟨k',h1,z.symm⟩
      · exact .inr ⟨k',h1,z⟩
  by_cases hxz:z=some x
  · subst hxz;exact ⟨C+1,by show abz x ((x,C+1)::cl)=_;simp [abl]⟩
  · obtain ⟨k',h1,h2⟩:=mem.resolve_left hxz;obtain ⟨c,hc⟩:=S.free _ h1 h2;exact ⟨c,lk2 hxz hc⟩
 cab:=fun x c h h2=>by
  have e:some x=z:=by simpa using h
  rcases lk1 h2 with ⟨_,rfl⟩| ⟨n,_⟩
  · exact aaF hC (act _)
  · exact (n e.symm).elim
 hd:=fun _=>I.ok.hd hc
 frames:=I.ok.frames
 stk:= .inl rfl
 exf:=fun b hb=>⟨fun z=>absurd (aaC (hfp b hb) (by rw [z];exact hC)) (ab0 _),fun x c h=>by
  rcases lk1 h with ⟨_,rfl⟩| ⟨_,h⟩
  · exact fun e=>absurd (hfp b hb) (Nat.not_lt_of_le (by rw [←e];exact aaF hC (act _)))
  · exact (hf b hb).2.2.2.2.1 x c (S.cls x c h)⟩
 bs:=I.bs
 bsz:=aaF I.ok.bsz I.sz
 noex:=fun b o e hb=>by
  rcases (hf b hb).2.2.2.1 with z|z
  · exact I.ok.noex b o e z
  · exact absurd (aaC (aas e) (aaF I.ok.bsz z)) (ab0 _)
 exfs:=fun b hb z=>by
  rcases aaq.mp (I.stkSub b z) with q|q
  · exact (hf b hb).2.1 q
  · exact (hf b hb).2.2.1 q
 funs:=I.stack
 frf:=I.stkFree
def UG {env:Sl} {j:Nat} {d:D} (h:capS im env j= .own d):False:=by
 unfold capS at h
 split at h
 · cases h
 · split at h<;>cases h
 · cases h
def YN {env:Sl} {σ:L2.St} {a b:Addr} (h:jR (zm im m js env) (zS m js σ a) b):b=a:=by
 obtain ⟨i,d,h,h2⟩:=h
 have hi:i=m+js.length:=by
  unfold zm at h
  by_cases h1:i<m
  · rw [aaS,aaA (by simpa using h1),abb] at h
    split at h<;>cases h
  · rw [aaS,aap (by simpa using h1)] at h;simp at h
    by_cases h2:i-m<js.length
    · rw [aaA (by simpa using h2),aaG] at h
      cases e:js[i-m]? with
      |none=>rw [e] at h;cases h
      |some j=>
        rw [e] at h;have h':=aaI h;exact (UG h').elim
    · rw [aap (by simpa using h2)] at h;simp at h
      by_cases h3:i-m-js.length=0
      · omega
      · rw [aaU (by simp;omega)] at h;cases h
 subst hi
 have at_n:(zS m js σ a)[m+js.length]?=some (some (.ref a)):=by
  unfold zS;rw [aaS,aap (by simp),aap (by simp)];simp
 rw [at_n] at h2;cases h2;rfl
abbrev Gc (im:Bool) (G:Wb) (env:Sl) (σ:L2.St):Addr->Prop:=fun c=>G c/\(im=false-> ¬jR env σ c)
def vg {K:aaa} {G:Wb} {H0 H:Hp} {env:Sl} {σ:L2.St} {a:Addr} (k:EnvOk K G H0 env σ H) (ha:H a=none):
   EnvOk K (Gc im G env σ) H (zm im m js env) (zS m js σ a) (upd H a (.lst [])):=by
 have own1: ∀(i:Nat) (d:D),(zm im m js env)[i]?=some (.own d)->i=m+js.length/\d= .lst []:=fun i d h=>by
   unfold zm at h
   by_cases h1:i<m
   · rw [aaS,aaA (by simpa using h1),abb] at h
     split at h<;>cases h
   · rw [aaS,aap (by simpa using h1)] at h;simp at h
     by_cases h2:i-m<js.length
     · rw [aaA (by simpa using h2),aaG] at h
       cases e:js[i-m]? with
       |none=>rw [e] at h;cases h
       |some j=>
         rw [e] at h;have h':=aaI h;exact (UG h').elim
     · rw [aap (by simpa using h2)] at h;simp at h
       by_cases h3:i-m-js.length=0
       · rw [h3] at h;cases h;exact ⟨by omega,rfl⟩
       · rw [aaU (by simp;omega)] at h;cases h
 have at_n:(zS m js σ a)[m+js.length]?=some (some (.ref a)):=by
   unfold zS;rw [aaS,aap (by simp),aap (by simp)];simp
 have owned: ∀b,jR (zm im m js env) (zS m js σ a) b->b=a:=fun b ⟨i,d,h1,h2⟩=>by
   obtain ⟨rfl,rfl⟩:=own1 i d h1;rw [at_n] at h2;cases h2;rfl
 have sm:Same H (upd H a (.lst [])):=Same.upd ha;refine ⟨by simp [zm,zS],sm,fun c z=>⟨(k.new c z).2,fun _=>(k.new c z).1⟩,fun i d h=>?_,fun i d h=>?_,fun i j d e b h1 h2 h3 h4=>(own1 i d h1).1.trans (own1 j e h2).1.symm⟩
 · unfold zm at h
   by_cases h1:i<m
   · rw [aaS,aaA (by simpa using h1),abb] at h
     split at h<;>cases h
   · rw [aaS,aap (by simpa using h1)] at h;simp at h
     by_cases h2:i-m<js.length
     · rw [aaA (by simpa using h2),aaG] at h
       cases e:js[i-m]? with
       |none=>rw [e] at h;cases h
       |some j=>
         rw [e] at h;have h':=aaI h
         have hσ:(zS m js σ a)[i]?=some ((σ[j]?).join):=by
           unfold zS;rw [aaS,aap (by simpa using h1)];simp;rw [aaA (by simpa using h2),aaG,e];rfl
         have fin: ∀v,σ[j]?=some (some v)->Rep K (Gc im G env σ) H v d-> ∃v,(zS m js σ a)[i]?=some (some v)/\Rep K (Sf (Gc im G env σ) (zm im m js env) (zS m js σ a)) (upd H a (.lst [])) v d:=fun v e1 r=>by
           refine ⟨v,by rw [hσ,e1];rfl,(r.inDom.grow sm).weak fun b z=>⟨fun o=>?_,z.1⟩⟩;rw [owned b o] at z;exact z.2 ha
         unfold capS at h'
         split at h'
         · rename_i d' hd;cases h';obtain ⟨v,h3,h4⟩:=k.shr j d hd;exact fin v h3 (h4.weak fun c z=>⟨z.2,fun _=>z.1⟩)
         · rename_i d' hd
           split at h'
           · rename_i hi';cases h';obtain ⟨v,h3,h0,h4⟩:=k.own j d hd;exact fin _ h3 (h4.rep (fun c z=>⟨⟨z.2,fun _=>z.1⟩,Zj k hd h3 c z⟩) ⟨k.g0 _ h0,fun z=>by rw [hi'] at z;cases z⟩)
           · cases h'
         · cases h'
     · rw [aap (by simpa using h2)] at h;simp at h
       by_cases h3:i-m-js.length=0
       · rw [h3] at h;cases h
       · rw [aaU (by simp;omega)] at h;cases h
 · obtain ⟨rfl,rfl⟩:=own1 i d h;exact ⟨a,at_n,ha,.lst jt .nil⟩
def ZN (use:Option (Value->Sem Unit)) (Q':T9) (im:Bool) (N:List Str) (m:Nat) (js:List Nat) (S:CompSc z X scope cl N m js) (hc:X.calm=true) (hi:PI X tg iter (tI X.K fi))
   (hb: ∀(C:Addr) (s:aah) (H:Hp) (fp:List Addr),PG (jQ z X N scope cl C s H fp) tg (tG X.K t)/\DTs (jQ z X N scope cl C s H fp) ifs c/\PE (jQ z X N scope cl C s H fp) elt (tE X.K .s fe))
   (hs: ∀x,acz iter X.env x=pure x) {pins:List (Addr×Obj)} {s:aah} {σ:L2.St} {H:Hp} {G:Wb} {H0:Hp} {env:Sl} {d:D} (I:Inv X pins σ H s) (k:EnvOk X.K G H0 env σ H) (ef:zl im m js fi t c fe env= .ok d)
   (hend: ∀(a C:Addr) (s':aah) (H':Hp) (mm:W9) (r:Flow),s'.heap.Ns C mm->(∀h',acn C s'.heap h'->Inv X pins σ H' {s' with heap:=h'})->FpOk X pins H' C->Same H H'->Rep X.K (Sf G env σ) H' (.ref a) d->NewTop H (.ref a)->compPost (model X.prog X.w) X.A X.xe use Q' (.ref a) C (.ok r) s'):
   wpAny (model X.prog X.w) X.A (comprehension (.ListComp elt [⟨tg,iter,ifs,0⟩] scope pos) scope X.env (firstIterPos [⟨tg,iter,ifs,0⟩] pos) (newList []) (firstAsync [⟨tg,iter,ifs,0⟩]) (firstIter [⟨tg,iter,ifs,0⟩] X.env) use) Q' X.xe s:=by
 with_unfolding_all exact (by
  obtain ⟨ds,e1,ef⟩:=jd ef;obtain ⟨envF,e2,ef⟩:=jd ef;obtain ⟨accF,e3,e4⟩:=jd ef;obtain ⟨himF,e4⟩:=jn e4;cases e4;refine wpAny_comprehension_free rfl hs S.clos S.kind S.names ?_;refine thn (hi pins s σ H (fun J H1=> ∃P,Same H H1/\jbN X.K (Sf G env σ) H1 J ds P/\P H1/\ ∀env' σ' H',Frm env σ H1 env' σ' H'->P H') I ⟨G,H0,env,ds,k,e1,fun J H1 P a b c' d'=>⟨P,a,b,c',d'⟩⟩) fun v s1 h1=>thn h1 fun itv s2 h2=>?_
  obtain ⟨it,fp,tn,J,H2,rfl,I2,T,st2,f2,P,sm,wk,p0,pst⟩:=h2;have k2:=k.grow sm;refine abn (Yu S.made S.pushed (fun h₁ hns₁ hkp₁ hcl₁=>?_));dsimp only at hns₁ hkp₁ hcl₁ ⊢;have hfr:=I2.hok.fresh (aae _)
  let a:=s2.heap.objs.size
  have ha:=hfr;have I3:=I2.lnew (t':=s2.toks) .nil (aa7 _)
  let s3:aah:={s2 with heap:=s2.heap.push {cls:= .type "list",dict:=none,data:= .seq ([]:List Value).toArray}}
  let C:=s3.heap.objs.size
  have f3: ∀b∈fp,FpOk X pins (upd H2 a (.lst [])) b:=fun b hb'=>by
   obtain ⟨z0,z⟩:=f2 b hb';refine ⟨?_,z⟩
   have hb2:b≠a:=by
     obtain ⟨o,ho,_⟩:=T.obj 0 _ st2 b hb';exact aaJ (aas ho)
   rw [jH hb2];exact z0
  have hfp: ∀b∈fp,b<s3.heap.objs.size:=fun b hb'=>by
   obtain ⟨o,ho,_⟩:=T.obj 0 _ st2 b hb';refine aaC (aas ho) ?_;rw [ac2];exact act _
  have XO:=jbz S hc I3 (aae _) f3 hfp;obtain ⟨DGt,DTc,DEe⟩:=hb C s3 (upd H2 a (.lst [])) fp;have old: ∀b o,s3.heap.get? b=some o->h₁.get? b=some o:=fun b o e=>hkp₁ b o e
  have I4:Inv (jQ z X N scope cl C s3 (upd H2 a (.lst [])) fp) [] (zS m js σ a) (upd H2 a (.lst [])) {s2 with heap:=h₁,toks:=s2.toks+([]:List (Str×Value)).length}:=by
   refine ⟨XO,rfl,I3.bare,Un.kept old,⟨_,hns₁,fun i y v' h1 h2 h3=>?_⟩,fun y c' h=>?_,I3.hok.fresh (aae _),fun y c' h=>(by
     rcases lk1 h with ⟨_,rfl⟩| ⟨_,h⟩
     · exact I3.hok.fresh (act _)
     · exact I3.freeC y c' (S.cls y c' h)),fun p hp=>absurd hp (by simp [UB]),I3.hok.kept old,?_⟩
   · --a captured name
     have hN1:N[i]?=some y:=h1;unfold zS at h2
     by_cases q1:i<m
     · rw [aaS,aaA (by simpa using q1),abb] at h2
       split at h2<;>cases h2
     · rw [aaS,aap (by simpa using q1)] at h2;simp at h2
       by_cases q2:i-m<js.length
       · rw [aaA (by simpa using q2),aaG] at h2
         cases e:js[i-m]? with
         |none=>rw [e] at h2;cases h2
         |some j=>
           rw [e] at h2;have h2':(σ[j]?).join=some v':=aaI h2
           have hj:σ[j]?=some (some v'):=by
             cases z:σ[j]? with
             |none=>rw [z] at h2';cases h2'
             |some w'=>rw [z] at h2';simp at h2';rw [h2']
           obtain ⟨y',g1,g2,g3,g4⟩:=S.cap (i-m) j e
           have ey:y'=y:=by
             rw [show m+(i-m)=i by omega,hN1] at g1;exact (aaI g1).symm
           subst ey;obtain ⟨mm,hn,hl⟩:=I3.loc
           have vis:Vis X.env.scope y':=by
             rcases g3 with z|z
             · exact .inr (.inl z)
             · exact .inr (.inr z)
           obtain ⟨u,ru,lk⟩:=hl j y' v' g2 hj vis;refine ⟨u,ru,.inr ⟨?_,?_⟩⟩
           · rcases h3 with z|z
             · exfalso;obtain ⟨k',m1,m2⟩:=zd z;have lk2:=S.names _ m1;rcases m2 with w'|w'
               · subst w';have:=lk2 rfl;rw [g4] at this;cases this
               · subst w'
                 have: ∀ {names:List (Str×NameKind)},names.lookup y'=some .free->(names.map fun (n,k)=>if (k==acW&&X.env.scope.kind== .function&&X.env.kindOf n==some .cell) then (n,acX) else (n,k)).lookup y'≠some .local:=by
                  intro names
                  induction names with
                  |nil=>intro h;cases h
                  |cons p r ih=>
                   obtain ⟨n,kk⟩:=p;intro h h';have h'':abz y' ((if (kk==acW&&X.env.scope.kind== .function&&X.env.kindOf n==some .cell)=true then (n,acX) else (n,kk))::(r.map fun (n,k)=>if (k==acW&&X.env.scope.kind== .function&&X.env.kindOf n==some .cell) then (n,acX) else (n,k)))=some .local:=h';simp only [abl] at h
                   cases hx:y'==n with
                   |true=>
                    rw [hx] at h;cases h
                    split at h''<;>simp [abl,hx] at h''
                   |false=>
                    rw [hx] at h
                    split at h''<;>(simp only [abl,hx] at h'';exact ih h h'')
                 exact this g4 z
             · exact z
           · rcases lk with ⟨kk,_⟩| ⟨kk,c',hc',cell'⟩
             · exfalso;have kk':X.env.scope.names.lookup y'=some .local:=kk;rcases g3 with z|z<;>(rw [z] at kk';cases kk')
             · obtain ⟨c2,hc2⟩:=S.free (y',.free) (abJ g4) rfl
               have:c2=c':=by
                 have:=S.cls _ _ hc2;rw [hc'] at this;exact (aaI this).symm
               subst this;obtain ⟨o,ho,hd⟩:=cell';exact ⟨c2,lk2 (fun q=>by rw [S.zk _ q] at g4;cases g4) hc2,o,old _ _ ho,hd⟩
       · exfalso
         have hi':i=m+js.length:=by
           have hl:=(aaz.mp hN1).1;rw [S.len] at hl;omega
         subst hi';have no:=S.last y hN1;rcases h3 with z|z|z<;>
         · obtain ⟨k',m1,_⟩:=zd z;exact no _ m1 rfl
   · rcases lk1 h with ⟨q,rfl⟩| ⟨_,h⟩
     · exact ⟨none,hcl₁ _ q⟩
     · obtain ⟨v',o,ho,hd⟩:=I3.cell y c' (S.cls y c' h);exact ⟨v',o,old _ _ ho,hd⟩
   · show (zS m js σ a).length=N.length;rw [S.len];simp [zS];omega
  have kC:EnvOk X.K (Gc im G env σ) H2 (zm im m js env) (zS m js σ a) (upd H2 a (.lst [])):=vg k2 ha
  have fC: ∀b∈fp,FpOk (jQ z X N scope cl C s3 (upd H2 a (.lst [])) fp) [] (upd H2 a (.lst [])) b:=fun b hb'=>by
   obtain ⟨z0,z1,z2,z3,z4,z5⟩:=f3 b hb';exact ⟨z0,(XO.exf b hb').1,XO.exfs b hb',.inl hb',(XO.exf b hb').2,fun p hp=>absurd hp (by simp [UB])⟩
  have stC:=T.keep 0 _ _ st2 fun b hb' o e=>old b o (aad _ e)
  have loop:aeH (model X.prog X.w) X.A (.compLoop (.ListComp elt [⟨tg,iter,ifs,0⟩] scope pos) 0 (.ref it) (.ref a) (compEnvC scope (clZ z cl C) C X.env))
     (compPost (model X.prog X.w) X.A X.xe use Q' (.ref a) C) {s2 with heap:=h₁,toks:=s2.toks+([]:List (Str×Value)).length}:=by
   refine ZO (fun n s'=> ∃i σ' H' env',n=ds.length+1-i/\i<=ds.length/\Inv (jQ z X N scope cl C s3 (upd H2 a (.lst [])) fp) [] σ' H' s'/\tn i s'.heap/\(∀b∈fp,H' b=none)/\(∀b,jR env' σ' b->b=a)/\
       EnvOk X.K (Gc im G env σ) H2 env' σ' H'/\Frm (zm im m js env) (zS m js σ a) (upd H2 a (.lst [])) env' σ' H'/\qS (m+js.length) t c fe (ds.drop i) env'= .ok envF) ?_ (ds.length+1)
     ⟨0,_,_,_,rfl,aa7 _,I4,stC,fun b hb'=>(fC b hb').1,?_,kC,Frm.refl (Same.refl _),by simpa using e2⟩
   · rintro n s' ⟨i,σ',H',env',rfl,hi',Ic,st,fr,hs',kc,fc,ec⟩;have hP:=pst env σ H' (Frm.refl kc.base);obtain ⟨w1,w2,w3⟩:=wk i H' hP;have fpk: ∀ {H':Hp},(∀b∈fp,H' b=none)-> ∀b∈fp,FpOk (jQ z X N scope cl C s3 (upd H2 a (.lst [])) fp) [] H' b:=fun hn b hb'=>⟨hn b hb',(fC b hb').2⟩
     by_cases hlt:i<ds.length
     · have hd:i<ds.length:=by omega
       rw [List.drop_eq_getElem_cons hd] at ec;obtain ⟨env1,e5,ec⟩:=jd ec;obtain ⟨b,e6,ec⟩:=jd ec;refine thn (T.item (jQ z X N scope cl C s3 (upd H2 a (.lst [])) fp) rfl rfl rfl rfl i [] s' σ' H' (fun _ _=>False) Ic (fpk fr) st (w1 hlt)) fun r s4 ⟨u,hr,h4⟩=>?_
       subst hr;refine thn h4 fun _ s5 ⟨x,H5,I5,r5,y5,st5,fr5⟩=>?_
       have wkA: ∀b,(Sf G env σ b/\H2 b≠none)->Sf (Gc im G env σ) env' σ' b:=fun b z=>⟨fun o=>(by
         rw [hs' b o] at z
         exact z.2 ha),z.1.2,fun _=>z.1.1⟩
       obtain ⟨sm5,rd'⟩:Same H' H5/\Rep X.K (Sf (Gc im G env σ) env' σ') H5 x ds[i]:=by
         rcases w2 _ (aac hd) x H5 y5 with ⟨rfl,rd⟩| ⟨p,vs,es,hp,rfl,rfl,ed,rds⟩
         · exact ⟨Same.refl _,(rd.inDom.grow kc.base).weak wkA⟩
         · refine ⟨Same.upd hp,?_⟩;rw [ed];exact .tup jt (((rds.inDom.grow kc.base).weak wkA).grow (Same.upd hp))
       have kc5:=kc.grow sm5;have I5':=I5.pinned (fpk fr5) (T.obj _ _ st5);refine thn (DGt _ s5 σ' H5 x u (fun σ1 Hn=>Hn=H5/\EnvOk X.K (Gc im G env σ) H2 env1 σ1 H5/\Frm env' σ' H5 env1 σ1 H5) I5' r5 ⟨_,H2,env',ds[i],env1,kc5,rd',e5,fun σ1 k1 f1=>⟨rfl,k1,f1⟩⟩) fun _ s6 ⟨σ6,H6,I6,z6,k6,ff6⟩=>?_
       subst z6
       have ow6: ∀b,jR env1 σ6 b->b=a:=fun b o=>by
         rcases ff6.more b o with z|z
         · exact hs' b z
         · obtain ⟨uu,hu⟩:=k6.there o;rw [z] at hu;cases hu
       refine thn (DTc _ s6 σ6 H6 (fun b' Hn=>b'=b/\Same H6 Hn) I6 ⟨_,H2,env1,b,k6,e6,fun Hn sn=>⟨rfl,sn⟩⟩) fun ok s7 ⟨H7,I7,z7,sm7⟩=>?_
       subst z7;have k7:=k6.grow sm7;have fr7:=((fc.trans (Frm.refl sm5)).trans ff6).trans (Frm.refl sm7)
       have out: ∀ {s8:aah} {σ8:L2.St} {H8:Hp} {env8:Sl},Inv (jQ z X N scope cl C s3 (upd H2 a (.lst [])) fp) ([]++Zg fp s5.heap) σ8 H8 s8->(∀b,jR env8 σ8 b->b=a)->EnvOk X.K (Gc im G env σ) H2 env8 σ8 H8->
           Frm (zm im m js env) (zS m js σ a) (upd H2 a (.lst [])) env8 σ8 H8->qS (m+js.length) t c fe (ds.drop (i+1)) env8= .ok envF->
           ∃mm,mm<ds.length+1-i/\ ∃i σ' H' env',mm=ds.length+1-i/\i<=ds.length/\Inv (jQ z X N scope cl C s3 (upd H2 a (.lst [])) fp) [] σ' H' s8/\tn i s8.heap/\(∀b∈fp,H' b=none)/\(∀b,jR env' σ' b->b=a)/\
             EnvOk X.K (Gc im G env σ) H2 env' σ' H'/\Frm (zm im m js env) (zS m js σ a) (upd H2 a (.lst [])) env' σ' H'/\qS (m+js.length) t c fe (ds.drop i) env'= .ok envF:=by
         intro s8 σ8 H8 env8 I8 ow8 k8 f8 e8;refine ⟨ds.length+1-(i+1),by omega,i+1,σ8,H8,env8,rfl,hlt,I8.unpinned,T.keep _ _ _ st5 fun b hb' o e=>(I8.pin (b,o) (aaR _ (aaR _ (xb hb' e)))).1,fun b hb'=>?_,ow8,k8,f8,e8⟩;obtain ⟨o,e,_⟩:=T.obj _ _ st5 b hb';exact (I8.pin (b,o) (aaR _ (aaR _ (xb hb' e)))).2.1
       cases ok with
       |false=>
         rw [if_neg aaH] at ec ⊢;exact out I7 ow6 k7 fr7 ec
       |true=>
         rw [if_pos rfl] at ec ⊢;obtain ⟨vd,e7,ec⟩:=jd ec;obtain ⟨acc,e8,ec⟩:=jd ec;obtain ⟨hz,ec⟩:=jn ec;refine thn (DEe _ s7 σ6 H7 (fun y Hn=>Same H7 Hn/\Rep X.K (Sf (Gc im G env σ) env1 σ6) Hn y vd) I7 ⟨_,H2,env1,vd,k7,e7,fun y Hn sn rn _=>⟨sn,rn⟩⟩) fun yv s8 ⟨y,H8,I8,ry,sm8,rep8⟩=>?_
         have k8:=k7.grow sm8;have hi8:=zY e8;obtain ⟨a8,xs8,ha8,hx8,rs8⟩:=zr k8 hi8;have ea:=ow6 a8 ⟨_,_,hi8,ha8⟩;subst ea;have W:=k8.write hi8 ha8 hx8 (rs8.append (.cons rep8 .nil))
         refine thn (yV _ s8 σ6 H8 (.ref a) [y] (.ref a) [yv] (fun _ Hn=>Hn=upd H8 a (.lst (xs8++[y]))) I8 rfl (.cons ry .nil)
           ⟨a,xs8,y,rfl,rfl,hx8,by rw [rs8.length];exact hz,rfl⟩) fun _ s9 ⟨_,H9,I9,_,z9⟩=>?_
         subst z9;exact out I9 (fun b o=>ow6 b ((yc hi8).mp o)) W.1 ((fr7.trans (Frm.refl sm8)).trans W.2) ec
     · have he:i=ds.length:=by omega
       rw [List.drop_eq_nil_of_le (by omega)] at ec;cases ec;refine thn (T.done (jQ z X N scope cl C s3 (upd H2 a (.lst [])) fp) rfl rfl rfl rfl i [] s' σ' H' (fun _ _=>False) Ic (fpk fr) st (w3 (by omega))) fun r s4 ⟨hr,I5⟩=>?_
       subst hr;have hiF:=zY e3;obtain ⟨aF,xsF,haF,hxF,rsF⟩:=zr kc hiF;have ea:=hs' aF ⟨_,_,hiF,haF⟩;subst ea;obtain ⟨mm,hn,_⟩:=I5.loc;refine hend a C s4 H' mm _ hn (fun h' hsb=>?_) (I3.fpOk (aae _) I5.free) (sm.trans kc.base) (.lst hxF (k.new a (Same.free sm ha)) ?_) (jW sm ha)
       rotate_left
       · cases him:im with
         |true=>exact rsF.imm (himF him)
         |false=>exact rsF.weak fun c z=>⟨⟨z.2.2 him,z.2.1⟩,Zj kc hiF haF c z⟩
       have nC: ∀b o,H' b=some o->b≠C:=fun b o e z=>by
         have:=I5.free;rw [z] at e;have e':H' C=none:=this;rw [e] at e';cases e'
       have B:=I5.base;have ltC: ∀b o,s3.heap.get? b=some o->b≠C:=fun b o e=>aaJ (aas e)
       have U:Un (frs X.stack) fp (upd H2 a (.lst [])) H' s3.heap h':=⟨fun b o e n hb' hx'=>(hsb.2 b (ltC b o e)).trans (B.keep b o e n hb' hx'),
         fun b o e n hb' hx'=>let ⟨sl,z⟩:=B.slot b o e n hb' hx';⟨sl,(hsb.2 b (ltC b o e)).trans z⟩,B.free,
         fun b o e hx'=>let ⟨o',z⟩:=B.there b o e hx';⟨o',(hsb.2 b (ltC b o e)).trans z⟩,B.tups,B.frzs,B.tbls⟩
       refine Inv.call' I3 I5.os U (fun b o e=>(I5.hok b o e).stay (fun c' u hc' qq=>(hsb.2 c' ?_).trans qq) (fun _ z=>z) fun _ _ z=>z) I5.bare (fun b hb'=>?_)
       · rcases hc' with z|z
         · rw [z];exact nC b o e
         · exact nC c' _ z
       · obtain ⟨z0,z1,z2,z3,z4,z5⟩:=f3 b hb';exact ⟨z3,z1,z4,z5⟩
   · exact fun b o=>YN o
  exact codeAny_compStart_list loop (T.self _ 0 _ _ _ stC loop))
def Jh (im:Bool) (N:List Str) (m:Nat) (js:List Nat) (S:CompSc z X scope cl N m js) (hc:X.calm=true) (hi:DI X tg iter fi)
   (hb: ∀(C:Addr) (s:aah) (H:Hp) (fp:List Addr),N.Nodup->DG (jQ z X N scope cl C s H fp) tg t/\DTs (jQ z X N scope cl C s H fp) ifs c/\DE (jQ z X N scope cl C s H fp) .s elt fe)
   (hs: ∀x,acz iter X.env x=pure x:=by intro _;rfl):
   DE X .t (.ListComp elt [⟨tg,iter,ifs,0⟩] scope pos) (zl im m js fi t c fe):=by
 with_unfolding_all exact (by
  intro pins s σ H Q I ⟨G,H0,env,d,k,ef,q⟩;rw [eval_ListComp]
  exact ZN none (EP X pins σ Q) im N m js S hc hi (fun C s H fp=>hb C s H fp S.nd) hs I k ef fun a C s' H' mm r hn hinv hfp sm rep nt=>⟨mm,hn,fun h' hsb=>⟨.ref a,H',hinv h' hsb,rfl,q _ H' sm rep nt⟩⟩)
def vt (sl:D->Slot) (i:Nat) {x:Str} {p ps:Pos} (hW: ∀ {G:Wb} {H0 H H1:Hp} {env:Sl} {σ:L2.St} {v:V} {d:D},EnvOk X.K G H0 env σ H->Same H H1->Rep X.K (Sf G env σ) H1 v d->NewTop H v->EnvOk X.K G H0 (env.set i (sl d)) (σ.set i (some v)) H1/\Frm env σ H (env.set i (sl d)) (σ.set i (some v)) H1) (hN:X.N.Nodup) (im:Bool) (N:List Str) (m:Nat) (js:List Nat) (S:CompSc z X scope cl N m js) (hc:X.calm=true) (hi:DI X tg iter fi)
   (hb: ∀(C:Addr) (s:aah) (H:Hp) (fp:List Addr),N.Nodup->DG (jQ z X N scope cl C s H fp) tg t/\DTs (jQ z X N scope cl C s H fp) ifs c/\DE (jQ z X N scope cl C s H fp) .s elt fe)
   (hxi:X.N[i]?=some x) (hx:Loc X.env.scope x) (hf:T6 X x)
   (hsw:abY (.ListComp elt [⟨tg,iter,ifs,0⟩] scope pos) (some (.Name x p)) ps.line X.env=pure true) (hs: ∀x,acz iter X.env x=pure x):
   DS X (.Assign [.Name x p] (.ListComp elt [⟨tg,iter,ifs,0⟩] scope pos) ps) (fun env=>zl im m js fi t c fe env>>=fun d=> .ok (.nx (env.set i (sl d)))):=by
 with_unfolding_all exact (by
  intro pins s σ H E I ⟨G,H0,env,o,k,ef,q⟩;obtain ⟨d,e1,e2⟩:=jd ef;cases e2;rw [exec_Assign_Name_used _ _ _ _ hsw];refine aab (wpAny_standAt (aab ?_));refine aab (thn (ZN (some (assign (.Name x p) X.env)) (fun _ s'=>SP X pins E .next s') im N m js S hc hi (fun C s H fp=>hb C s H fp S.nd) hs I k e1 fun a C s' H' mm r hn hinv hfp sm rep nt=>?_) fun _ s' hq=>aaf (aaf hq));have I':=hinv s'.heap ⟨rfl,fun _ _=>rfl⟩;obtain ⟨W1,W2⟩:=hW k sm rep nt;obtain ⟨f0,f1,f2,f3,f4,f5⟩:=hfp;refine wpAny_assign_Name (Q6 I' hN hxi hx (show RelV (.ref a) (.ref a) from rfl) (fun s2 I2 hsb=>?_) hf);obtain ⟨b,hsb,hbb⟩:=hsb
  have hCb:C≠b:=by
   rcases hbb with z|z
   · rw [z];exact f1
   · exact fun e=>f4 _ _ z e.symm
  refine ⟨mm,hn.sameBut hsb hCb,fun h' hs'=>⟨_,H',?_,q _ _ W1 W2⟩⟩
  exact I2.turned (fun b o hb e=>(hs'.2 b hb).trans e) f0 f1 f3 f4 f5)
def vq (i:Nat) {x:Str} {p ps:Pos} (hN:X.N.Nodup) (im:Bool) (N:List Str) (m:Nat) (js:List Nat) (S:CompSc z X scope cl N m js) (hc:X.calm=true) (hi:DI X tg iter fi)
  (hb: ∀(C:Addr) (s:aah) (H:Hp) (fp:List Addr),N.Nodup->DG (jQ z X N scope cl C s H fp) tg t/\DTs (jQ z X N scope cl C s H fp) ifs c/\DE (jQ z X N scope cl C s H fp) .s elt fe)
  (hxi:X.N[i]?=some x:=by rfl) (hx:Loc X.env.scope x:=by first|exact abV rfl|exact abj rfl) (hf:T6 X x:=by first|exact .inl rfl|exact .inr rfl|assumption)
  (hsw:abY (.ListComp elt [⟨tg,iter,ifs,0⟩] scope pos) (some (.Name x p)) ps.line X.env=pure true:=by rfl) (hs: ∀x,acz iter X.env x=pure x:=by intro _;rfl):
  DS X (.Assign [.Name x p] (.ListComp elt [⟨tg,iter,ifs,0⟩] scope pos) ps) (jJ i (zl im m js fi t c fe)):=
 vt .shr i (fun k s r nt=>⟨(k.grow s).setS r,.set s fun _ _ z _=>by cases z⟩) hN im N m js S hc hi hb hxi hx hf hsw hs
end
def qC (n:Nat) (ds:List D):Sl:=ds.map .shr++aal (n-ds.length) .un
def Uf {K:aaa} {B:Wb} {N:List Str} {vs:List V} {ds:List D} {H:Hp} (r:Reps K B H vs ds):EnvOk K (fun a=>H a=none\/B a) H (qC N.length ds) (start N vs) H:=by
 have hl:=r.length
 have no: ∀(i:Nat) (d:D),(qC N.length ds)[i]?≠some (.own d):=fun i d h=>by
   unfold qC at h
   by_cases q:i<ds.length
   · rw [aaA (by simpa using q),aaG] at h
     cases e:ds[i]? with
     |none=>rw [e] at h;cases h
     |some x=>rw [e] at h;cases h
   · rw [aap (by simpa using q),abb] at h
     split at h<;>cases h
 refine ⟨by simp [L2.start,qC,hl],Same.refl H,fun _ z=> .inl z,fun i d h=>?_,fun i d h=>(no i d h).elim,fun i j d e a h=>(no i d h).elim⟩;unfold qC at h
 by_cases q:i<ds.length
 · rw [aaA (by simpa using q),aaG] at h
   cases e:ds[i]? with
   |none=>rw [e] at h;cases h
   |some x=>
     rw [e] at h;cases h;obtain ⟨v,h1,h2⟩:=r.get e;refine ⟨v,?_,h2.weak fun a z=>⟨fun o=>?_,.inr z⟩⟩
     · unfold L2.start;rw [aaA (by simp;omega),aaG,h1];rfl
     · obtain ⟨i',d',z,_⟩:=o;exact no i' d' z
 · rw [aap (by simpa using q),abb] at h
   split at h<;>cases h
section
variable {P:aaL} {w:World} {K:aaa} {mg:W9} {base:Heap}
def Meets (fr:Bool) (n:Nat) (g:TY) (ds:List D) (d:D):Prop:=(∃fr',g (qC n ds)= .ok (.rt fr' d)/\(fr=true->fr'=true))\/(d= .non/\ ∃env',g (qC n ds)= .ok (.nx env'))
def jbc {x qual:Str} {st:Stmt} {f:Addr} {fd:ab1} {N ps:List Str} {k:Nat} {fr:Bool} {F:TW} {g:TY} (Fu:Fun K x qual st f fd) (S:FnScope N ps (jh st))
    (hb: ∀(cdv:Value) (A:aaZ) (outer:List Env) (s:aah) (H:Hp) (E:XK),Room k (A.deeper (adN qual (jh st) s.heap.objs.size f cdv))->DSs (cxOf CX0 P w K mg base N qual (jh st) f cdv A outer s H E).nox (jY st) g)
    (hF: ∀ds d,ds.length=ps.length->F ds= .ok d->Meets fr N.length g ds d):
    FnOk P w K mg base CX0 (k+1) f fd ps (spF K fr ps.length F):=by
 with_unfolding_all exact (by
  refine Fu.ok S (fun vs H Q E ⟨B,ds,d,hl,_⟩=>hl) (fun cdv A outer s H vs Q E hr h=>?_);obtain ⟨B,ds,d,hl,r,e,q⟩:=h;refine ⟨_,hb cdv A outer s H E hr,?_⟩;have kk:=Uf (N:=N) r;rcases hF ds d (by rw [←r.length];exact hl) e with ⟨fr',z,hf⟩| ⟨rfl,env',z⟩
  · exact ⟨_,H,_,_,kk,z,fun v H' s r nt=>q v H' s r fun hh=>nt (hf hh)⟩
  · exact ⟨_,H,_,_,kk,z,fun σ' H' k' f'=>q .non H' k'.base .non fun _ a e=>by cases e⟩)
end
open PySem.W in
theorem jbC {ns:List Int} (h:WData.layableAll [WData.list (ns.map WData.int)]=true): ∀n∈ns,abL n<=2^20:=fun n hn=>by
 have h1:=layableW_arg h _ aam;have h2:=layableW_item h1 (.int n) (aaB.mpr ⟨n,hn,rfl⟩);have h3:=(layableW_iff.mp h2).2.2;simpa only [WData.weight,abL] using h3
open PySem.W PySem.Calls Att in
theorem WV {l:aeY} {n:Nat} {q:aaL} {loose:List Str} {XP:(Str->Option Value)->Heap->Prop} {YP:World->Heap->Prop} {d:DefRec}
  (hn:l.most=some n) (hdf:d.params.defaults=[])
  (call: ∀(w:World) (s₀ s₁:aah) (mg mb:W9) (fa:Addr) (o:Obj) (pm cd doc:Value) (a:Addr) (vs:List Value) (ns:List Int),
   Ground q loose [] XP w s₀ mg mb s₁.heap->YP w s₁.heap->
   s₁.heap.get? fa=some o->o.data= .func (docDef d.name d.params d.body d.scope pm cd doc)->s₁.heap.CodeRec cd d.name->mg d.name=some (.ref fa)->
   s₁.heap.get? a=some {cls:= .type "list",data:= .seq vs.toArray}->IntsAre vs ns->ns.length<=n->(∀n∈ns,abL n<=2^20)->s₁.gens= #[]->
   aeH (model l.prog w) callerA (.call (.ref fa) ⟨[.ref a],[]⟩) (fun r s'=>r= .ok (.ret (.bool true))/\OldK s₁.heap s'.heap/\s'.os=s₁.os/\aeT s'.gens) s₁):
  WalkO q loose XP YP l.row.toRowW d [] (fun f vs=>PySem.call f vs):=by
 intro w s₀ s₁ mg mb G Y fa o pm cd doc dV kV ho hd hcd hD hmg hg args vals as hpre hlay hrd hwl hlo;obtain rfl:dV= .none:=Dflts.none hD hdf;obtain rfl:kV= .none:=Dflts.noKw hD;obtain ⟨a,vs,ns,rfl,rfl,hobj,hints,hlen⟩:=Kl hn hpre hwl;refine enter_call (adM (call w s₀ s₁ mg mb fa o pm cd doc a vs ns G Y ho (fd_plain hd) hcd hmg hobj hints hlen (jbC hlay) hg) fun r s' hq=>?_);obtain ⟨rfl,h2,h3,h4⟩:=hq;exact ⟨.inl ⟨.bool true,.bool true,[],rfl,fun _=>rfl,.bool true,KH l _,fun _=>⟨List.Pairwise.nil,fun _ hm=>(nomatch hm)⟩⟩,h2,h3,h4⟩
def kz {K:aaa} {H:Hp} {a:Addr} {xs:List V} (hO:Only H) (h:SqL K H a xs):LsK K H a xs:=by
 rcases h with (h|h)|h
 · rcases hO a with z| ⟨o,ys,z⟩
   · rw [z] at h;cases h
   · rw [z] at h;cases h
 · exact .inl h
 · exact .inr h
theorem Xw {K:aaa} {A:Wb} {H:Hp}: ∀ns:List Int,Reps K A H (ns.map V.int) (ns.map D.int)
 | []=> .nil
 |n::r=> .cons (.int n) (Xw r)
def walk_law {l:aeY} {n k:Nat} {q:aaL} {loose:List Str} {XP:(Str->Option Value)->Heap->Prop} {YP:World->Heap->Prop} {d:DefRec} {K:Params->aaa} {F:TW} {x:Str}
  (hn:l.most=some n) (hn2:n<=aai) (hdf:d.params.defaults=[]) (hr:Room k callerA)
  (hY: ∀(w:World) (h:Heap),YP w h->(K w.params).In h)
  (hF: ∀(w:World) (mg:W9) (fa:Addr) (h:Heap),(K w.params).In h->h.Ns aar mg->mg d.name=some (.ref fa)->
   ∃fd:ab1,(∀(s:aah) (u:Value),BindsTo s fd ⟨[u],[]⟩ [(x,u)])/\
    ∀base:Heap,(K w.params).In base->base.Ns aar mg->FnOk l.prog w (K w.params) mg base CX0 k fa fd [x] (spF (K w.params) true 1 F))
  (ht: ∀ns:List Int,ns.length<=n->(∀i∈ns,abL i<=2^20)->F [.scr (ns.map D.int)]= .ok (.bl true)):
  PySem.W.WalkO q loose XP YP l.row.toRowW d [] (fun f vs=>PySem.call f vs):=by
 refine WV hn hdf fun w s₀ s₁ mg mb fa o pm cd doc a vs ns G Y ho hd hcd hmg hobj hints hlen hbits hg=>?_
 have KX:=hY w _ Y;obtain ⟨fd,hb,hFn⟩:=hF w mg fa _ KX G.T.g hmg;refine kN KX G.T.g G.T.b G.T.builtins G.T.nolimit hg hobj hints (aaF hlen hn2) hr hFn hb (fun H hO hS=>?_) fun H e s' h=>h
 exact ⟨Any,_,_,rfl,.cons (.lsk (kz hO hS) (Xw ns)) .nil,ht ns hlen hbits,fun v H' _ r _=>r.blE⟩
section
variable {X:Cx} {K:aaa}
def iOp (C:Int->Int->Prop) [∀i j,Decidable (C i j)] (g:Int->Int->D):D->D->Res D
 | .int i,.int j=>must (C i j) (.ok (g i j))
 |_,_=> .stuck
def VD {C:Int->Int->Prop} [∀i j,Decidable (C i j)] {g:Int->Int->D} {a b d:D} (h:iOp C g a b= .ok d): ∃i j,a= .int i/\b= .int j/\C i j/\d=g i j:=by
 unfold iOp at h
 split at h
 · obtain ⟨h1,h2⟩:=jn h;cases h2;exact ⟨_,_,rfl,rfl,h1,rfl⟩
 · cases h
def od_I {C C':Int->Int->Prop} [∀i j,Decidable (C i j)] {h:Int->Int->V} {g:Int->Int->D} (w: ∀i j,C i j->C' i j) (r: ∀i j,Sc K (h i j) (g i j)):OpS K (rI C' h) (iOp C g):=by
 intro x y H a b d Q ra rb e q;obtain ⟨i,j,rfl,rfl,hc,rfl⟩:=VD e;exact ⟨i,j,ra.intE,rb.intE,w i j hc,q _ (r i j)⟩
abbrev yr:Int->Int->Prop:=fun _ _=>True
instance: ∀i j,Decidable (yr i j):=fun _ _=>inferInstanceAs (Decidable True)
def Va {h:Int->Int->V} {g:Int->Int->D} (r: ∀i j,Sc K (h i j) (g i j)):OpS K (rI0 h) (iOp yr g):=by
 intro x y H a b d Q ra rb e q;obtain ⟨i,j,rfl,rfl,hc,rfl⟩:=VD e;exact ⟨i,j,ra.intE,rb.intE,q _ (r i j)⟩
def jfa {v:V} {d:D} {H:Hp} (h:Sc K v d):NewTop H v:=fun a e=>absurd e (h.2 a)
def addD:D->D->Res D
 | .int i,.int j=> .ok (.int (i+j))
 | .str i,.str j=>must (i.length+j.length<=aai) (.ok (.str (i++j)))
 | .lst a,.lst b=>must (a.length+b.length<=aai) (.ok (.lst (a++b)))
 | .tup a,.tup b=>must (a.isEmpty=false/\a.length+b.length<=aai) (.ok (.tup (a++b)))
 |_,_=> .stuck
def qT:OpR X (acg .Add) (fun x y H Q=>rI0 (fun i j=> .int (i+j)) x y H Q\/(∃i j,x= .str i/\y= .str j/\i.length+j.length<=aai/\Q (.str (i++j)) H)\/rCat x y H Q\/jaj X.K x y H Q):=
 op_add.or (op_add_str.or (op_cat.or jaG))
def Reps.len_app {A:Wb} {H:Hp} {xs ys:List V} {a b:List D} (r:Reps K A H xs a) (s:Reps K A H ys b) (h:a.length+b.length<=aai):xs.length+ys.length<=aai:=by rw [r.length,s.length];exact h
def orA {A:Wb} {H:Hp}: ∀c,A c->(H c=none\/A c):=fun _ z=> .inr z
def wo:OpD K (fun x y H Q=>rI0 (fun i j=> .int (i+j)) x y H Q\/(∃i j,x= .str i/\y= .str j/\i.length+j.length<=aai/\Q (.str (i++j)) H)\/rCat x y H Q\/jaj K x y H Q) addD:=by
 intro A x y H a b d Q ra rb e q;unfold addD at e
 split at e
 · cases e;exact .inl ⟨_,_,ra.intE,rb.intE,q _ H (Same.refl H) (.int _) (jfa (je0 (K:=K) _))⟩
 · obtain ⟨h1,h2⟩:=jn e;cases h2;have hl: ∀i j:Str,i.length+j.length<=aai->(i++j).length<=aai:=fun i j h=>by rw [ad3];exact h
   exact .inr (.inl ⟨_,_,ra.strE.1,rb.strE.1,h1,q _ H (Same.refl H) (.str _ (hl _ _ h1)) (jfa (je9 (K:=K) _ (hl _ _ h1)))⟩)
 · obtain ⟨h3,h4⟩:=jn e;cases h4;obtain ⟨l,xs,rfl,hl,_,rx⟩:=ra.lstE;obtain ⟨l',ys,rfl,hl',_,ry⟩:=rb.lstE;refine .inr (.inr (.inl ⟨l,l',xs,ys,rfl,rfl,hl,hl',rx.low.len_app ry.low h3,fun p hp=>q _ _ (Same.upd hp) ?_ (jW (Same.refl H) hp)⟩));exact .lst jt (.inl hp) (((rx.low.append ry.low).laid hp).weak fun c z=>⟨.inr z.1,z.2⟩)
 · obtain ⟨⟨h3,h4⟩,h5⟩:=jn e;cases h5;obtain ⟨l,xs,rfl,hl,rx⟩:=ra.tupE;obtain ⟨l',ys,rfl,hl',ry⟩:=rb.tupE;refine .inr (.inr (.inr ⟨l,l',xs,ys,rfl,rfl,.of hl,.of hl',fun z=>?_,rx.len_app ry h4,fun z=>?_,fun z p hp=>q _ _ (Same.upd hp) ?_ (jW (Same.refl H) hp)⟩))
   · subst z;cases rx;cases h3
   · subst z;cases ry;rw [abe] at q;refine q _ H (Same.refl H) (.tup hl (rx.weak orA)) fun a e o q' m=>?_
     cases e;rw [hl] at q';cases q';exact m
   · exact .tup jt (((rx.append ry).weak orA).grow (Same.upd hp))
 · cases e
def K6:OpS K (rI0 fun i j=> .int (i-j)) (iOp yr fun i j=> .int (i-j)):=Va fun i j=>je0 _
abbrev MulC:Int->Int->Prop:=fun i j=>abL i+abL j<=134217728
def Wo:OpR X (acg .Mult) (rI MulC fun i j=> .int (i*j)):=opI fun _ _ _ _ _ _ _ hc q=>mul_int q (IntMulOk.of_le (aae _) (aae _) hc)
def K8:OpS K (rI MulC fun i j=> .int (i*j)) (iOp MulC fun i j=> .int (i*j)):=od_I (fun _ _ h=>h) fun i j=>je0 _
abbrev DivC:Int->Int->Prop:=fun _ j=>0<j/\j<1073741824
def Qu:OpS K (rI CDiv fun i j=> .int (i/j)) (iOp DivC fun i j=> .int (i/j)):=od_I (fun _ _ h=>h) fun i j=>je0 _
abbrev PosC:Int->Int->Prop:=fun _ j=>0<j
def xn:OpS K (rI (fun _ j=>0<j) fun i j=> .int (i%j)) (iOp PosC fun i j=> .int (i%j)):=od_I (fun _ _ h=>h) fun i j=>je0 _
abbrev PowC:Int->Int->Prop:=fun i j=>0<=j/\j<=1000000/\i.natAbs<2^64
def jcO:OpS K (rI CPow fun i j=> .int (i^j.toNat)) (iOp PowC fun i j=> .int (i^j.toNat)):=od_I (fun _ _ h=>h) fun i j=>je0 _
def jcP:OpS K (rI0 fun i j=> .bl (decide (i<j))) (iOp yr fun i j=> .bl (decide (i<j))):=Va fun i j=>jeX _
def kD:OpS K (rI0 fun i j=> .bl (decide (i<=j))) (iOp yr fun i j=> .bl (decide (i<=j))):=Va fun i j=>jeX _
def jcT:OpS K (rI0 fun i j=> .bl (decide (j<i))) (iOp yr fun i j=> .bl (decide (j<i))):=Va fun i j=>jeX _
def jec:OpS K (rI0 fun i j=> .bl (decide (j<=i))) (iOp yr fun i j=> .bl (decide (j<=i))):=Va fun i j=>jeX _
def inS (i j:Str):Bool:=!(adp j i 0 j.length 1).isEmpty
def inD:D->D->Res D
 | .str i,.str j=> .ok (.bl (inS i j))
 |_,_=> .stuck
def jcR:OpS K (fun x y H Q=> ∃i j,x= .str i/\y= .str j/\Q (.bl (!(adp j i 0 j.length 1).isEmpty)) H) inD:=by
 intro x y H a b d Q ra rb e q;unfold inD at e
 split at e
 · cases e;exact ⟨_,_,ra.strE.1,rb.strE.1,q _ (jeX _)⟩
 · cases e
def D.isNon:D->Bool
 | .non=>true
 |_=>false
def isN:D->D->Res D
 |a,.non=> .ok (.bl a.isNon)
 |_,_=> .stuck
def K9:OpS K (fun x y H Q=>y= .non/\Q (.bl (decide (x= .non))) H) isN:=by
 intro x y H a b d Q ra rb e q;unfold isN at e
 split at e
 · cases e;refine ⟨rb.nonE,?_⟩;have:decide (x=V.non)=a.isNon:=by cases ra<;>simp [D.isNon]
   rw [this];exact q _ (jeX _)
 · cases e
def lenD:List D->Res D
 | [.lst ds]=> .ok (.int ds.length)
 | [.scr ds]=> .ok (.int ds.length)
 | [.tup ds]=> .ok (.int ds.length)
 | [.str z]=> .ok (.int z.length)
 |_=> .stuck
def jP:CallR X (.builtin "len") (fun xs H Q=>(∃p ys,xs=[.ref p]/\(SqL X.K H p ys\/SqT X.K H p ys)/\Q (.int ys.length) H)\/(∃z,xs=[.str z]/\z.length<=aai/\Q (.int z.length) H)):=call_len_seq.or ZT
def zA:vR K (fun xs H Q=>(∃p ys,xs=[.ref p]/\(SqL K H p ys\/SqT K H p ys)/\Q (.int ys.length) H)\/(∃z,xs=[.str z]/\z.length<=aai/\Q (.int z.length) H)) lenD:=by
 intro xs H ds d Q r e q;unfold lenD at e
 split at e
 · cases e;obtain ⟨v,rfl,r1⟩:=r.one;obtain ⟨p,ys,rfl,hp,_,ry⟩:=r1.lstE;exact .inl ⟨p,ys,rfl,.inl (.of hp),by rw [ry.length];exact q _ (je0 _)⟩
 · cases e;obtain ⟨v,rfl,r1⟩:=r.one;obtain ⟨p,ys,rfl,hp,ry⟩:=r1.scrE;exact .inl ⟨p,ys,rfl,.inl hp.sql,by rw [ry.length];exact q _ (je0 _)⟩
 · cases e;obtain ⟨v,rfl,r1⟩:=r.one;obtain ⟨p,ys,rfl,hp,ry⟩:=r1.tupE;exact .inl ⟨p,ys,rfl,.inr (.of hp),by rw [ry.length];exact q _ (je0 _)⟩
 · cases e;obtain ⟨v,rfl,r1⟩:=r.one;obtain ⟨rfl,hz⟩:=r1.strE;exact .inr ⟨_,rfl,hz,q _ (je0 _)⟩
 · cases e
def JG:List D->Res D
 | [.lst ds]=>(.ok (.tup ds))
 | [.tup ds]=>(.ok (.tup ds))
 |_=> .stuck
def Y2 {H:Hp} {p:Addr} {xs:List V} (h:H p=some (.tup xs)):NewTop H (.ref p):=fun a e o q m=>by
 cases e;rw [h] at q;cases q;exact m
def QQ:JB K (fun xs H Q=> ∃p ys,xs=[.ref p]/\((SqL K H p ys/\ ∀l,H l=none->Q (.ref l) (upd H l (.tup ys)))\/(SqT K H p ys/\Q (.ref p) H))) JG:=by
 intro A xs H ds d Q r e q;unfold JG at e
 split at e
 · cases e;obtain ⟨v,rfl,r1⟩:=r.one;obtain ⟨p,ys,rfl,hp,_,ry⟩:=r1.lstE;exact ⟨p,ys,rfl,.inl ⟨.of hp,fun l hl=>q _ _ (Same.upd hl) (.tup jt ((ry.low.weak orA).grow (Same.upd hl))) (jW (Same.refl H) hl)⟩⟩
 · cases e;obtain ⟨v,rfl,r1⟩:=r.one;obtain ⟨p,ys,rfl,hp,ry⟩:=r1.tupE;exact ⟨p,ys,rfl,.inr ⟨.of hp,q _ H (Same.refl H) (.tup hp (ry.weak orA)) (Y2 hp)⟩⟩
 · cases e
def kL:List D->Res D
 | [.lst ds]=>(.ok (.lst ds))
 | [.tup ds]=>(.ok (.lst ds))
 |_=> .stuck
def jbA:JB K (fun xs H Q=> ∃p ys,xs=[.ref p]/\(SqL K H p ys\/SqT K H p ys)/\ ∀l,H l=none->Q (.ref l) (upd H l (.lst ys))) kL:=by
 intro A xs H ds d Q r e q;unfold kL at e
 split at e
 · cases e;obtain ⟨v,rfl,r1⟩:=r.one;obtain ⟨p,ys,rfl,hp,_,ry⟩:=r1.lstE;exact ⟨p,ys,rfl,.inl (.of hp),fun l hl=>q _ _ (Same.upd hl) (.lst jt (.inl hl) ((ry.low.laid hl).weak fun c z=>⟨.inr z.1,z.2⟩)) (jW (Same.refl H) hl)⟩
 · cases e;obtain ⟨v,rfl,r1⟩:=r.one;obtain ⟨p,ys,rfl,hp,ry⟩:=r1.tupE;exact ⟨p,ys,rfl,.inr (.of hp),fun l hl=>q _ _ (Same.upd hl) (.lst jt (.inl hl) ((ry.laid hl).weak fun c z=>⟨.inr z.1,z.2⟩)) (jW (Same.refl H) hl)⟩
 · cases e
def tyN:D->Option String
 | .non=>some "NoneType"
 | .bl _=>some "bool"
 | .int _=>some "int"
 | .str _=>some "str"
 | .tup _=>some "tuple"
 | .lst _=>some "list"
 | .scr _=>none
 | .dic _ _=>some "dict"
 | .dit _ _=>some "dict"
 | .exn _=>none
 | .fdc _ _=>none
 | .hdc _ _=>none
 | .obj _ _ _=>none
 | .mem _ _=>none
def jdJ {A:Wb} {H:Hp} {v:V} {d:D} {n:String} (r:Rep K A H v d) (h:tyN d=some n):TyOf K H v (.type n):=by
 cases r with
 |non=>cases h;exact .non
 |bl b=>cases h;exact .bl b
 |int i=>cases h;exact .int i
 |str x _=>cases h;exact .str x
 |tup e _=>cases h;exact .tup e
 |lst e _ _=>cases h;exact .lst e
 |lsk _ _=>cases h
 |dic e _ _ _ _=>cases h;exact .dK e
 |dit e _ _ _ _=>cases h;exact .dT e
 |exn _ _ _=>cases h
 |fdc _ _ _ _=>cases h
 |hdc _ _ _ _=>cases h
 |obj _ _ _ _ _=>cases h
 |mem _ _=>cases h
def isTy (T n:String):Bool:=n==T|| (T== "int" &&n== "bool")
def IsTy (T:String):Prop:= ∀(K:aaa) (n:String),n∈["NoneType", "bool", "int", "str", "tuple", "list", "dict"]->ab2 K (.type n) (.type T)=some (isTy T n)
def jbT {d:D} {n:String} (h:tyN d=some n):n∈["NoneType", "bool", "int", "str", "tuple", "list", "dict"]:=by
 cases d<;>first| (cases h;done)| (cases h;decide)
def y6 {T:String} (h: ∀(K:aaa),ab2 K (.type "NoneType") (.type T)=some (isTy T "NoneType")/\ab2 K (.type "bool") (.type T)=some (isTy T "bool")/\ab2 K (.type "int") (.type T)=some (isTy T "int")/\
  ab2 K (.type "str") (.type T)=some (isTy T "str")/\ab2 K (.type "tuple") (.type T)=some (isTy T "tuple")/\ab2 K (.type "list") (.type T)=some (isTy T "list")/\ab2 K (.type "dict") (.type T)=some (isTy T "dict")):IsTy T:=by
 intro K n hn;obtain ⟨h1,h2,h3,h4,h5,h6,h7⟩:=h K;simp at hn;rcases hn with rfl|rfl|rfl|rfl|rfl|rfl|rfl<;>assumption
def xQ:IsTy "int" :=y6 fun K=>⟨rfl,rfl,rfl,rfl,rfl,rfl,rfl⟩
def Zv:IsTy "bool" :=y6 fun K=>⟨rfl,rfl,rfl,rfl,rfl,rfl,rfl⟩
def kQ:IsTy "str" :=y6 fun K=>⟨rfl,rfl,rfl,rfl,rfl,rfl,rfl⟩
def qI:IsTy "tuple" :=y6 fun K=>⟨rfl,rfl,rfl,rfl,rfl,rfl,rfl⟩
def Vy:IsTy "list" :=y6 fun K=>⟨rfl,rfl,rfl,rfl,rfl,rfl,rfl⟩
def isiD (T:String) (d:D):Res D:=match tyN d with
 |some n=> .ok (.bl (isTy T n))
 |none=> .stuck
def vL (T:String) (h:IsTy T):CallR X (.builtin "isinstance") (fun xs H Q=> ∃x d,xs=[x,.ty T]/\Rep X.K Any H x d/\ ∃b,isiD T d= .ok (.bl b)/\Q (.bl b) H):=by
 intro pins s σ H xs us Q I r ⟨x,d,ex,rp,b,e,q⟩;subst ex;obtain ⟨u,w',rfl,r1,r2⟩:=jbR r;cases (show w'=adE T from r2);unfold isiD at e
 split at e
 · rename_i n hn;cases e;refine Vx I r1 (jdJ rp hn) (h X.K n (jbT hn)) fun tk=>⟨.bl _,H,I.tok tk,rfl,q⟩
 · cases e
def isiF (T:String) (f:T0):Sl->Res D:=fun env=>f env>>=isiD T
def qV (T:String) (Ty:Str) {l l':Lv} {e:Expr} {f:T0} {p p2 pos:Pos} (ht:IsTy T) (he:DE X l e f) (hg:Gl X "isinstance") (hm:X.mg "isinstance" =none) (hg2:Gl X Ty) (hm2:X.mg Ty=none) (hv:abo Ty=some (.type T))
   (hn:Ty≠ "__name__" :=by decide) (hd:Ym Ty:=by decide) (hs:aao [e,.Name Ty p2] X.env=(false,eval e X.env)::aao [.Name Ty p2] X.env:=by exact jp rfl)
   (hs2:aao [.Name Ty p2] X.env=(false,eval (.Name Ty p2) X.env)::aao [] X.env:=by exact jp rfl) (hpl:(abw pos (aao [.Name Ty p2] X.env)).any (·.1)=false:=by exact jC rfl):
   DE X l' (.Call (.Name "isinstance" p) [e,.Name Ty p2] [] pos) (isiF T f):=by
 with_unfolding_all exact (
  PE.imp (yy (vL T ht) hg hm boot_isinstance (zf he (zf (jaC (v:= .ty T) hg2 hm2 hv rfl hn hd) xl hs2) hs) (by decide) (by decide) hs hpl) fun σ H Q ⟨G,H0,env,d,k,ef,q⟩=>by
   obtain ⟨a,e1,e2⟩:=jd ef;refine ⟨G,H0,env,a,k,e1,fun v H' s r _=>?_⟩
   have hb: ∃b,d= .bl b:=by
    unfold isiD at e2
    split at e2
    · cases e2;exact ⟨_,rfl⟩
    · cases e2
   obtain ⟨b,rfl⟩:=hb
   exact ⟨v,a,rfl,r.weak Lv.weak_b,b,e2,q _ H' s (.bl b) (jeX (K:=X.K) b).T⟩)
def WU:List D->Option (List Bool)
 | []=>some []
 | .bl b::r=>(WU r).map (b:: ·)
 |_=>none
theorem ZW: ∀ {ds:List D} {bs:List Bool},WU ds=some bs->ds=bs.map D.bl
 | [],bs,h=>by cases h;rfl
 |d::r,bs,h=>by
  cases d with
  |bl b=>
   simp only [WU,abr] at h;obtain ⟨bs',h1,rfl⟩:=h;rw [ZW h1];rfl
  |_=>cases h
def vO (bs:List Bool):WU (bs.map D.bl)=some bs:=by
 induction bs with
 |nil=>rfl
 |cons b r ih=>simp [WU,ih]
def allD:List D->Res D
 | [.lst ds]=>match WU ds with
  |some bs=> .ok (.bl (bs.all id))
  |none=> .stuck
 |_=> .stuck
theorem JI {A:Wb} {H:Hp}: ∀ {bs:List Bool} {xs:List V},Reps K A H xs (bs.map D.bl)->xs=bs.map V.bl
 | [],_,.nil=>rfl
 |b::bs,_,.cons h t=>by rw [h.blE,JI t];rfl
theorem JF: ∀ {bs:List Bool} {us:List Value},Vals (bs.map V.bl) us->us=bs.map acS
 | [],_,.nil=>rfl
 |b::bs,_,.cons h t=>by
  rw [JF t];have:_=acS b:=h;rw [this];rfl
def Jm (hc:X.calm=true):CallR X (.builtin "all") (fun xs H Q=> ∃(p:Addr) (bs:List Bool),xs=[.ref p]/\SqL X.K H p (bs.map V.bl)/\Q (.bl (bs.all id)) H):=by
 intro pins s σ H xs us Q I r ⟨p,bs,ex,hq,q⟩;subst ex;obtain ⟨u,rfl,ru⟩:=yo r;cases ru;obtain ⟨its,rv,pl,hz⟩:=I.list hq;have hits:=JF rv;subst hits;refine call_all_walk (acV pl.isList ?_)
 have hne:p≠s.heap.objs.size:=by
   obtain ⟨o,n,e,_⟩:=pl;exact aaJ (aas e)
 refine ⟨s.heap.objs.size,_,_,_,_,_,fun i=>(bs[i]?).getD true,rfl,Walks.list (show X.A.in1.handled=none from I.ok.hd hc) s.heap.objs.size p hne (bs.map acS).toArray,⟨⟨_,aan _ rfl,rfl,rfl⟩,pl.isList.at fun o e=>aad _ e⟩,?_,fun h' tk kk=>?_⟩
 · intro i v s' Q' E' hP hQ;have hP':(bs.map acS)[i]?=some v:=by simpa using hP
   rw [aaG] at hP'
   cases e:bs[i]? with
   |none=>rw [e] at hP';cases hP'
   |some b=>
    rw [e] at hP';cases hP';dsimp only at hQ;rw [e] at hQ;exact abm hQ
 · have hn:(bs.map acS).toArray.size=bs.length:=by simp
   have e:((aaT (bs.map acS).toArray.size).all fun i=>(bs[i]?).getD true)=bs.all id:=by
    rw [hn,ad7,aaW,aaW]
    constructor
    · intro hh b hb;obtain ⟨i,hi,rfl⟩:=List.mem_iff_getElem.mp hb;have:=hh i (aaO.mpr hi);rw [aac hi] at this;exact this
    · intro hh i hi;have hi':=aaO.mp hi;rw [aac hi'];exact hh _ (abd hi')
   rw [e];refine ⟨.bl _,H,?_,rfl,q⟩
   exact I.kept fun b o e=>kk b o (by
    intro z;have hb:b=s.heap.objs.size:=by simpa using z
    exact absurd (aas e) (by rw [hb];exact ab0 _)) (aad _ e)
def UF:vR K (fun xs H Q=> ∃(p:Addr) (bs:List Bool),xs=[.ref p]/\SqL K H p (bs.map V.bl)/\Q (.bl (bs.all id)) H) allD:=by
 intro xs H ds d Q r e q;unfold allD at e
 split at e
 · split at e
   · rename_i bs hbs;cases e;obtain ⟨v,rfl,r1⟩:=r.one;obtain ⟨p,ys,rfl,hp,_,ry⟩:=r1.lstE;rw [ZW hbs] at ry;have:=JI ry;subst this;exact ⟨p,bs,rfl,.of hp,q _ (jeX _)⟩
   · cases e
 · cases e
end
end M
namespace M
open PySem PySem.Spec L2
open PyProof.Rows hiding St
open PySem.SeqAt (EqAt RcAt RcNeAt)
mutual
theorem D.ind {P:D->Prop} (h0:P .non) (h1: ∀b,P (.bl b)) (h2: ∀i,P (.int i)) (h3: ∀x,P (.str x)) (h4: ∀ds,(∀d∈ds,P d)->P (.tup ds)) (h5: ∀ds,(∀d∈ds,P d)->P (.lst ds))
  (h6: ∀ds,(∀d∈ds,P d)->P (.scr ds)) (h7:(∀ks ds,(∀d∈ds,P d)->P (.dic ks ds))/\(∀ks ds,(∀d∈ds,P d)->P (.dit ks ds))/\(∀c,P (.exn c))/\(∀ks ds,(∀d∈ds,P d)->P (.fdc ks ds))/\(∀ks ds,(∀d∈ds,P d)->P (.hdc ks ds))/\(∀c ns ds,(∀d∈ds,P d)->P (.obj c ns ds))/\ ∀B Φ,P (.mem B Φ)): ∀d,P d
 | .non=>h0
 | .bl b=>h1 b
 | .int i=>h2 i
 | .str x=>h3 x
 | .tup ds=>h4 ds (D.inds h0 h1 h2 h3 h4 h5 h6 h7 ds)
 | .lst ds=>h5 ds (D.inds h0 h1 h2 h3 h4 h5 h6 h7 ds)
 | .scr ds=>h6 ds (D.inds h0 h1 h2 h3 h4 h5 h6 h7 ds)
 | .dic ks ds=>h7.1 ks ds (D.inds h0 h1 h2 h3 h4 h5 h6 h7 ds)
 | .dit ks ds=>h7.2.1 ks ds (D.inds h0 h1 h2 h3 h4 h5 h6 h7 ds)
 | .exn c=>h7.2.2.1 c
 | .fdc ks ds=>h7.2.2.2.1 ks ds (D.inds h0 h1 h2 h3 h4 h5 h6 h7 ds)
 | .hdc ks ds=>h7.2.2.2.2.1 ks ds (D.inds h0 h1 h2 h3 h4 h5 h6 h7 ds)
 | .obj c ns ds=>h7.2.2.2.2.2.1 c ns ds (D.inds h0 h1 h2 h3 h4 h5 h6 h7 ds)
 | .mem B Φ=>h7.2.2.2.2.2.2 B Φ
theorem D.inds {P:D->Prop} (h0:P .non) (h1: ∀b,P (.bl b)) (h2: ∀i,P (.int i)) (h3: ∀x,P (.str x)) (h4: ∀ds,(∀d∈ds,P d)->P (.tup ds)) (h5: ∀ds,(∀d∈ds,P d)->P (.lst ds))
  (h6: ∀ds,(∀d∈ds,P d)->P (.scr ds)) (h7:(∀ks ds,(∀d∈ds,P d)->P (.dic ks ds))/\(∀ks ds,(∀d∈ds,P d)->P (.dit ks ds))/\(∀c,P (.exn c))/\(∀ks ds,(∀d∈ds,P d)->P (.fdc ks ds))/\(∀ks ds,(∀d∈ds,P d)->P (.hdc ks ds))/\(∀c ns ds,(∀d∈ds,P d)->P (.obj c ns ds))/\ ∀B Φ,P (.mem B Φ)): ∀ds:List D,∀d∈ds,P d
 | [],_,h=>by cases h
 |x::r,d,h=>by
  have p:=D.ind h0 h1 h2 h3 h4 h5 h6 h7 x;have q:=D.inds h0 h1 h2 h3 h4 h5 h6 h7 r;rcases aaq.mp h with z|z
  · rw [z];exact p
  · exact q d z
end
mutual
def D.dep:D->Nat
 | .tup ds=>D.deps ds+1
 | .lst ds=>D.deps ds+1
 |_=>0
def D.deps:List D->Nat
 | []=>0
 |d::ds=>max (D.dep d) (D.deps ds)
end
mutual
def D.eqb:D->Bool
 | .scr _=>false
 | .dic _ _=>false
 | .dit _ _=>false
 | .exn _=>false
 | .fdc _ _=>false
 | .hdc _ _=>false
 | .obj _ _ _=>false
 | .mem _ _=>false
 | .tup ds=>D.eqbs ds
 | .lst ds=>D.eqbs ds
 |_=>true
def D.eqbs:List D->Bool
 | []=>true
 |d::ds=>D.eqb d&&D.eqbs ds
end
mutual
def eqD:D->D->Bool
 | .non,.non=>true
 | .bl a,.bl b=>a==b
 | .bl a,.int j=>(if a then 1 else 0)==j
 | .int i,.bl b=>i==(if b then 1 else 0)
 | .int i,.int j=>i==j
 | .str x,.str y=>x==y
 | .tup a,.tup b=>eqDs a b
 | .lst a,.lst b=>eqDs a b
 |_,_=>false
def eqDs:List D->List D->Bool
 | [],[]=>true
 |a::as,b::bs=>eqD a b&&eqDs as bs
 |_,_=>false
end
theorem xh: ∀ {ds:List D} {d:D},d∈ds->D.dep d<=D.deps ds
 |x::r,d,h=>by
  simp only [D.deps];rcases aaq.mp h with rfl|h
  · omega
  · have:=xh h;omega
theorem yG: ∀ {ds:List D} {d:D},D.eqbs ds=true->d∈ds->D.eqb d=true
 |x::r,d,hb,h=>by
  simp only [D.eqbs,aax] at hb;rcases aaq.mp h with rfl|h
  · exact hb.1
  · exact yG hb.2 h
theorem wP: ∀ {ds:List D},(∀d∈ds,D.eqb d=true->eqD d d=true)->D.eqbs ds=true->eqDs ds ds=true
 | [],_,_=>by simp [eqDs]
 |d::ds,h,hb=>by
  simp only [D.eqbs,aax] at hb;simp only [eqDs,aax];exact ⟨h d aam hb.1,wP (fun x hx=>h x (aaj _ hx)) hb.2⟩
def XQ (d:D):D.eqb d=true->eqD d d=true:=by
 refine D.ind (P:=fun d=>D.eqb d=true->eqD d d=true) ?_ ?_ ?_ ?_ ?_ ?_ ?_ ?_ d
 · intro _;simp [eqD]
 · intro b _;simp [eqD]
 · intro i _;simp [eqD]
 · intro x _;simp [eqD]
 · intro ds ih hb;simp only [eqD];exact wP ih (by simpa only [D.eqb] using hb)
 · intro ds ih hb;simp only [eqD];exact wP ih (by simpa only [D.eqb] using hb)
 · intro ds ih hb;simp [D.eqb] at hb
 · exact ⟨by intro ks ds ih hb;simp [D.eqb] at hb,by intro ks ds ih hb;simp [D.eqb] at hb,by intro c hb;simp [D.eqb] at hb,by intro ks ds ih hb;simp [D.eqb] at hb,by intro ks ds ih hb;simp [D.eqb] at hb,by intro c ns ds ih hb;simp [D.eqb] at hb,by intro B Φ hb;simp [D.eqb] at hb⟩
section
variable {K:aaa} {H:Hp}
def Reps.inj_of {A A':Wb} {vs:List V} {ds ds':List D} (h: ∀d∈ds,∀(A A':Wb) v d',D.eqb d=true->D.eqb d'=true->Rep K A H v d->Rep K A' H v d'->d=d') (hb:D.eqbs ds=true) (hb':D.eqbs ds'=true) (r:Reps K A H vs ds) (r':Reps K A' H vs ds'):ds=ds':=by
 induction vs generalizing ds ds' with
 |nil=>cases r;cases r';rfl
 |cons v vs ih=>
  cases r with
  |cons r t=>
   cases r' with
   |cons r' t'=>
    simp only [D.eqbs,aax] at hb hb';rw [h _ aam _ _ _ _ hb.1 hb'.1 r r',ih (fun d hd=>h d (aaj _ hd)) hb.2 hb'.2 t t']
def Rep.inj (d:D): ∀(A A':Wb) v d',D.eqb d=true->D.eqb d'=true->Rep K A H v d->Rep K A' H v d'->d=d':=by
 refine D.ind (P:=fun d=> ∀(A A':Wb) v d',D.eqb d=true->D.eqb d'=true->Rep K A H v d->Rep K A' H v d'->d=d') ?_ ?_ ?_ ?_ ?_ ?_ ?_ ?_ d
 · intro A A' v d' _ _ r r';cases r.nonE;cases r';rfl
 · intro b A A' v d' _ _ r r';cases r.blE;cases r';rfl
 · intro b A A' v d' _ _ r r';cases r.intE;cases r';rfl
 · intro b A A' v d' _ _ r r';cases r.strE.1;cases r';rfl
 · intro ds ih A A' v d' hb hd' r r';obtain ⟨a,xs,rfl,ha,rs⟩:=r.tupE;have hb':D.eqbs ds=true:=by simpa only [D.eqb] using hb
   cases r' with
   |tup e rs'=>
    rw [ha] at e;cases e;rw [Reps.inj_of ih hb' (by simpa only [D.eqb] using hd') rs rs']
   |lst e _ _=>rw [ha] at e;cases e
   |lsk e _=>simp [D.eqb] at hd'
   |dic e _ _ _ _=>rw [ha] at e;cases e
   |dit e _ _ _ _=>rw [ha] at e;cases e
   |exn e _ _=>rw [ha] at e;cases e
   |fdc e _ _ _=>rcases e with ⟨e,_⟩| ⟨o,e⟩<;>(rw [ha] at e;cases e)
   |hdc e _ _ _=>obtain ⟨o,e⟩:=e;rw [ha] at e;cases e
   |obj e _ _ _ _=>rw [ha] at e;cases e
   |mem e _=>rw [ha] at e;cases e
 · intro ds ih A A' v d' hb hd' r r';obtain ⟨a,xs,rfl,ha,_,rs⟩:=r.lstE;have hb':D.eqbs ds=true:=by simpa only [D.eqb] using hb
   cases r' with
   |tup e rs'=>rw [ha] at e;cases e
   |lst e _ rs'=>
    rw [ha] at e;cases e;rw [Reps.inj_of ih hb' (by simpa only [D.eqb] using hd') rs rs']
   |lsk e _=>simp [D.eqb] at hd'
   |dic e _ _ _ _=>rw [ha] at e;cases e
   |dit e _ _ _ _=>rw [ha] at e;cases e
   |exn e _ _=>rw [ha] at e;cases e
   |fdc e _ _ _=>rcases e with ⟨e,_⟩| ⟨o,e⟩<;>(rw [ha] at e;cases e)
   |hdc e _ _ _=>obtain ⟨o,e⟩:=e;rw [ha] at e;cases e
   |obj e _ _ _ _=>rw [ha] at e;cases e
   |mem e _=>rw [ha] at e;cases e
 · intro ds ih A A' v d' hb;simp [D.eqb] at hb
 · exact ⟨by intro ks ds ih A A' v d' hb;simp [D.eqb] at hb,by intro ks ds ih A A' v d' hb;simp [D.eqb] at hb,by intro c A A' v d' hb;simp [D.eqb] at hb,by intro ks ds ih A A' v d' hb;simp [D.eqb] at hb,by intro ks ds ih A A' v d' hb;simp [D.eqb] at hb,by intro c ns ds ih A A' v d' hb;simp [D.eqb] at hb,by intro B Φ A A' v d' hb;simp [D.eqb] at hb⟩
end
def Ue (a b:List D) (j:Nat):Bool:=match a[j]?,b[j]? with
 |some x,some y=>eqD x y
 |_,_=>true
theorem xg: ∀(a b:List D),a.length=b.length->eqDs a b=(aaT a.length).all (Ue a b)
 | [],[],_=>by simp [eqDs]
 |x::a,y::b,h=>by
  have hl:a.length=b.length:=by simpa using h
  rw [aau,List.range_succ_eq_map,acU,List.all_map];simp only [eqDs];rw [xg a b hl];congr 1
theorem xT: ∀(a b:List D),a.length≠b.length->eqDs a b=false
 | [],[],h=>absurd rfl h
 | [],y::b,_=>by simp [eqDs]
 |x::a,[],_=>by simp [eqDs]
 |x::a,y::b,h=>by
  simp only [eqDs];rw [xT a b (by simpa using h),Bool.and_false]
def XM (a b:List D):eqDs a b=((aaT (min a.length b.length)).all (Ue a b)&&a.length==b.length):=by
 by_cases h:a.length=b.length
 · rw [xg a b h,h];simp
 · rw [xT a b h];simp [h]
section
variable {X:Cx} {pins:List (Addr×Obj)} {σ:L2.St} {H:Hp} {s:aah}
inductive Cm (X:Cx) (H:Hp) (s:aah):Value->D->Prop where
 |non:Cm X H s .none .non
 |bl (b:Bool):Cm X H s (.bool b) (.bl b)
 |int (i:Int) (t:Tok):Cm X H s (.int i t) (.int i)
 |str (x:Str) (t:Tok):Cm X H s (.str x t) (.str x)
 |tup {a:Addr} {xs:List V} {its:List Value} {ds:List D}:H a=some (.tup xs)->s.heap.IsTuple a its.toArray->Vals xs its->Reps X.K Any H xs ds->Cm X H s (.ref a) (.tup ds)
 |lst {a:Addr} {xs:List V} {its:List Value} {ds:List D}:H a=some (.lst xs)->s.heap.IsList a its.toArray->Vals xs its->Reps X.K Any H xs ds->Cm X H s (.ref a) (.lst ds)
def xX (I:Inv X pins σ H s) {v:V} {u:Value} {d:D} (r:Rep X.K Any H v d) (ru:RelV v u) (hb:D.eqb d=true):Cm X H s u d:=by
 cases r with
 |non=>cases ru;exact .non
 |bl b=>cases ru;exact .bl b
 |int i=>obtain ⟨t,rfl⟩:=ru;exact .int i t
 |str x _=>obtain ⟨t,rfl⟩:=ru;exact .str x t
 |tup e rs=>
  cases ru;obtain ⟨its,rv,p,hz⟩:=I.tuple (.of e);exact .tup e p rv rs
 |lst e _ rs=>
  cases ru;obtain ⟨its,rv,p,hz⟩:=I.list (.of e);exact .lst e p.isList rv rs.low
 |lsk _ _=>simp [D.eqb] at hb
 |dic _ _ _ _ _=>simp [D.eqb] at hb
 |dit _ _ _ _ _=>simp [D.eqb] at hb
 |exn _ _ _=>simp [D.eqb] at hb
 |fdc _ _ _ _=>simp [D.eqb] at hb
 |hdc _ _ _ _=>simp [D.eqb] at hb
 |obj _ _ _ _ _=>simp [D.eqb] at hb
 |mem _ _=>simp [D.eqb] at hb
def vh {A:aaZ} {xs ys:List V} {its its2:List Value} {a b:List D} (ra:Reps X.K Any H xs a) (rb:Reps X.K Any H ys b) (va:Vals xs its) (vb:Vals ys its2)
  (ih: ∀d∈a,∀(v v':V) (u u':Value) (d':D),Rep X.K Any H v d->RelV v u->Rep X.K Any H v' d'->RelV v' u'->D.eqb d=true->D.eqb d'=true->EqAt A.in1 s u u' (eqD d d')) (ha:D.eqbs a=true) (hb:D.eqbs b=true):
  ∀j (h1:j<its.toArray.size) (h2:j<its2.toArray.size),EqAt A.in1 s its.toArray[j] its2.toArray[j] (Ue a b j):=by
 intro j h1 h2;have l1:=va.length;have l2:=vb.length;have l3:=ra.length;have l4:=rb.length;have j1:j<a.length:=by simp at h1;omega
 have j2:j<b.length:=by simp at h2;omega
 obtain ⟨v,e1,r1⟩:=ra.get (aac j1);obtain ⟨v',e2,r2⟩:=rb.get (aac j2);obtain ⟨u,e3,r3⟩:=va.get e1;obtain ⟨u',e4,r4⟩:=vb.get e2
 have g1:its.toArray[j]=u:=by
  have:=aaz.mp e3;obtain ⟨_,q⟩:=this;simpa using q
 have g2:its2.toArray[j]=u':=by
  have:=aaz.mp e4;obtain ⟨_,q⟩:=this;simpa using q
 rw [g1,g2];have e:Ue a b j=eqD a[j] b[j]:=by unfold Ue;rw [aac j1,aac j2]
 rw [e];exact ih _ (abd j1) v v' u u' _ r1 r3 r2 r4 (yG ha (abd j1)) (yG hb (abd j2))
def QI (I:Inv X pins σ H s) (d:D): ∀(A:aaZ) (v v':V) (u u':Value) (d':D),A.units+d.dep<cLine->Rep X.K Any H v d->RelV v u->Rep X.K Any H v' d'->RelV v' u'->D.eqb d=true->D.eqb d'=true->EqAt A s u u' (eqD d d'):=by
 refine D.ind (P:=fun d=> ∀(A:aaZ) (v v':V) (u u':Value) (d':D),A.units+d.dep<cLine->Rep X.K Any H v d->RelV v u->Rep X.K Any H v' d'->RelV v' u'->D.eqb d=true->D.eqb d'=true->EqAt A s u u' (eqD d d')) ?_ ?_ ?_ ?_ ?_ ?_ ?_ ?_ d
 · intro A v v' u u' d' hu r ru r' ru' hb hb';cases xX I r ru hb;have hu':A.units<cLine:=by simp only [D.dep] at hu;omega
   cases xX I r' ru' hb'<;>simp only [eqD]
   · exact EqAt.same _
   · exact EqAt.none_bool _
   · exact EqAt.none_int _ _
   · exact EqAt.none_str _ _
   · exact EqAt.none_tuple (by assumption) hu'
   · exact EqAt.none_list (by assumption) hu'
 · intro b A v v' u u' d' hu r ru r' ru' hb hb';cases xX I r ru hb;have hu':A.units<cLine:=by simp only [D.dep] at hu;omega
   cases xX I r' ru' hb'<;>simp only [eqD]
   · exact EqAt.bool_none _
   · exact EqAt.bool_bool _ _
   · exact EqAt.bool_int _ _ _
   · exact EqAt.bool_str _ _ _
   · exact EqAt.bool_tuple _ (by assumption) hu'
   · exact EqAt.bool_list _ (by assumption) hu'
 · intro i A v v' u u' d' hu r ru r' ru' hb hb';cases xX I r ru hb;have hu':A.units<cLine:=by simp only [D.dep] at hu;omega
   cases xX I r' ru' hb'<;>simp only [eqD]
   · exact EqAt.int_none _ _
   · exact EqAt.int_bool _ _ _
   · exact EqAt.int_int _ _ _ _
   · exact EqAt.int_str _ _ _ _
   · exact EqAt.int_tuple _ _ (by assumption) hu'
   · exact EqAt.int_list _ _ (by assumption) hu'
 · intro x A v v' u u' d' hu r ru r' ru' hb hb';cases xX I r ru hb;have hu':A.units<cLine:=by simp only [D.dep] at hu;omega
   cases xX I r' ru' hb'<;>simp only [eqD]
   · exact EqAt.str_none _ _
   · exact EqAt.str_bool _ _ _
   · exact EqAt.str_int _ _ _ _
   · exact EqAt.str_str _ _ _ _
   · exact EqAt.str_tuple _ _ (by assumption) hu'
   · exact EqAt.str_list _ _ (by assumption) hu'
 · intro ds ih A v v' u u' d' hu r ru r' ru' hb hb';have hu':A.units<cLine:=by simp only [D.dep] at hu;omega
   have c1:=xX I r ru hb;have c2:=xX I r' ru' hb'
   cases c1 with
   |tup e p rv rs=>
     cases c2 with
     |non=>simp only [eqD];exact EqAt.tuple_none p hu'
     |bl b=>simp only [eqD];exact EqAt.tuple_bool _ p hu'
     |int i t=>simp only [eqD];exact EqAt.tuple_int _ _ p hu'
     |str x t=>simp only [eqD];exact EqAt.tuple_str _ _ p hu'
     |lst e2 p2 rv2 rs2=>simp only [eqD];exact EqAt.tuple_list p p2 hu'
     | @tup a2 xs2 its2 ds2 e2 p2 rv2 rs2=>
      rename_i a1 xs1 its1
      by_cases z:a1=a2
      · subst z;have ed:=Rep.inj _ Any Any _ _ hb hb' (Rep.tup e rs) (Rep.tup e2 rs2);rw [←ed,XQ _ hb];exact EqAt.same _
      · have q:=RcAt.tuples p p2 hu' (vh rs rs2 rv rv2 (fun d hd v v' u u' d' g1 g2 g3 g4 g5 g6=>ih d hd A.in1 v v' u u' d' (by
          have:=xh hd;simp only [D.dep] at hu;show A.units+1+d.dep<cLine
          omega) g1 g2 g3 g4 g5 g6) (by simpa only [D.eqb] using hb) (by simpa only [D.eqb] using hb'))
        have n1:its1.toArray.size=ds.length:=by rw [aag,←rv.length,rs.length]
        have n2:its2.toArray.size=ds2.length:=by rw [aag,←rv2.length,rs2.length]
        rw [n1,n2,←XM] at q;simp only [eqD];exact aeS z q
 · intro ds ih A v v' u u' d' hu r ru r' ru' hb hb';have hu':A.units<cLine:=by simp only [D.dep] at hu;omega
   have c1:=xX I r ru hb;have c2:=xX I r' ru' hb'
   cases c1 with
   |lst e p rv rs=>
     cases c2 with
     |non=>simp only [eqD];exact EqAt.list_none p hu'
     |bl b=>simp only [eqD];exact EqAt.list_bool _ p hu'
     |int i t=>simp only [eqD];exact EqAt.list_int _ _ p hu'
     |str x t=>simp only [eqD];exact EqAt.list_str _ _ p hu'
     |tup e2 p2 rv2 rs2=>simp only [eqD];exact EqAt.list_tuple p p2 hu'
     | @lst a2 xs2 its2 ds2 e2 p2 rv2 rs2=>
      rename_i a1 xs1 its1;have n1:its1.toArray.size=ds.length:=by rw [aag,←rv.length,rs.length]
      have n2:its2.toArray.size=ds2.length:=by rw [aag,←rv2.length,rs2.length]
      by_cases z:a1=a2
      · subst z
        have ed:D.lst ds=D.lst ds2:=by
          rw [e] at e2;cases e2;rw [Reps.inj_of (fun d _ A A' v d'=>Rep.inj d A A' v d') (by simpa only [D.eqb] using hb) (by simpa only [D.eqb] using hb') rs rs2]
        rw [←ed,XQ _ hb];exact EqAt.same _
      · simp only [eqD]
        by_cases hl:ds.length=ds2.length
        · have q:=RcAt.lists p p2 (by rw [n1,n2];exact hl) hu' (vh rs rs2 rv rv2 (fun d hd v v' u u' d' g1 g2 g3 g4 g5 g6=>ih d hd A.in1 v v' u u' d' (by
           have:=xh hd;simp only [D.dep] at hu;show A.units+1+d.dep<cLine
           omega) g1 g2 g3 g4 g5 g6) (by simpa only [D.eqb] using hb) (by simpa only [D.eqb] using hb'))
          rw [n1,←xg ds ds2 hl] at q;exact aeS z q
        · rw [xT ds ds2 hl];exact aeS z (aeo p p2 (by rw [n1,n2];simp [hl]) hu')
 · intro ds ih A v v' u u' d' hu r ru r' ru' hb;simp [D.eqb] at hb
 · exact ⟨by intro ks ds ih A v v' u u' d' hu r ru r' ru' hb;simp [D.eqb] at hb,by intro ks ds ih A v v' u u' d' hu r ru r' ru' hb;simp [D.eqb] at hb,by intro c A v v' u u' d' hu r ru r' ru' hb;simp [D.eqb] at hb,by intro ks ds ih A v v' u u' d' hu r ru r' ru' hb;simp [D.eqb] at hb,by intro ks ds ih A v v' u u' d' hu r ru r' ru' hb;simp [D.eqb] at hb,by intro c ns ds ih A v v' u u' d' hu r ru r' ru' hb;simp [D.eqb] at hb,by intro B Φ A v v' u u' d' hu r ru r' ru' hb;simp [D.eqb] at hb⟩
def Xd (I:Inv X pins σ H s) {A:aaZ} {v v':V} {u u':Value} {d d':D} (hu:A.units+d.dep<cLine) (r:Rep X.K Any H v d) (ru:RelV v u) (r':Rep X.K Any H v' d') (ru':RelV v' u') (hb:D.eqb d=true) (hb':D.eqb d'=true):
  RcAt A s u u' (eqD d d')/\RcNeAt A s u u' (!eqD d d'):=by
 have hu':A.units<cLine:=by omega
 have c1:=xX I r ru hb;have c2:=xX I r' ru' hb'
 cases c1 with
 |non=>
  cases c2<;>simp only [eqD,abZ,abh]
  · exact ⟨RcAt.none_none,RcNeAt.none_none⟩
  · exact ⟨RcAt.none_bool _,RcNeAt.none_bool _⟩
  · exact ⟨RcAt.none_int _ _,RcNeAt.none_int _ _⟩
  · exact ⟨RcAt.none_str _ _,RcNeAt.none_str _ _⟩
  · exact ⟨RcAt.none_tuple (by assumption) hu',RcNeAt.none_tuple (by assumption) hu'⟩
  · exact ⟨RcAt.none_list (by assumption) hu',RcNeAt.none_list (by assumption) hu'⟩
 |bl b=>
  cases c2<;>simp only [eqD,abZ,abh]
  · exact ⟨RcAt.bool_none _,RcNeAt.bool_none _⟩
  · exact ⟨RcAt.bool_bool _ _,RcNeAt.bool_bool _ _⟩
  · exact ⟨RcAt.bool_int _ _ _,RcNeAt.bool_int _ _ _⟩
  · exact ⟨RcAt.bool_str _ _ _,RcNeAt.bool_str _ _ _⟩
  · exact ⟨RcAt.bool_tuple _ (by assumption) hu',RcNeAt.bool_tuple _ (by assumption) hu'⟩
  · exact ⟨RcAt.bool_list _ (by assumption) hu',RcNeAt.bool_list _ (by assumption) hu'⟩
 |int i t=>
  cases c2<;>simp only [eqD,abZ,abh]
  · exact ⟨RcAt.int_none _ _,RcNeAt.int_none _ _⟩
  · exact ⟨RcAt.int_bool _ _ _,RcNeAt.int_bool _ _ _⟩
  · exact ⟨RcAt.int_int _ _ _ _,RcNeAt.int_int _ _ _ _⟩
  · exact ⟨RcAt.int_str _ _ _ _,RcNeAt.int_str _ _ _ _⟩
  · exact ⟨RcAt.int_tuple _ _ (by assumption) hu',RcNeAt.int_tuple _ _ (by assumption) hu'⟩
  · exact ⟨RcAt.int_list _ _ (by assumption) hu',RcNeAt.int_list _ _ (by assumption) hu'⟩
 |str x t=>
  cases c2<;>simp only [eqD,abZ,abh]
  · exact ⟨RcAt.str_none _ _,RcNeAt.str_none _ _⟩
  · exact ⟨RcAt.str_bool _ _ _,RcNeAt.str_bool _ _ _⟩
  · exact ⟨RcAt.str_int _ _ _ _,RcNeAt.str_int _ _ _ _⟩
  · exact ⟨RcAt.str_str _ _ _ _,RcNeAt.str_str _ _ _ _⟩
  · exact ⟨RcAt.str_tuple _ _ (by assumption) hu',RcNeAt.str_tuple _ _ (by assumption) hu'⟩
  · exact ⟨RcAt.str_list _ _ (by assumption) hu',RcNeAt.str_list _ _ (by assumption) hu'⟩
 | @tup a1 xs1 its1 ds e p rv rs=>
  cases c2 with
  |non=>simp only [eqD,abh];exact ⟨RcAt.tuple_none p hu',RcNeAt.tuple_none p hu'⟩
  |bl b=>simp only [eqD,abh];exact ⟨RcAt.tuple_bool _ p hu',RcNeAt.tuple_bool _ p hu'⟩
  |int i t=>simp only [eqD,abh];exact ⟨RcAt.tuple_int _ _ p hu',RcNeAt.tuple_int _ _ p hu'⟩
  |str x t=>simp only [eqD,abh];exact ⟨RcAt.tuple_str _ _ p hu',RcNeAt.tuple_str _ _ p hu'⟩
  |lst e2 p2 rv2 rs2=>simp only [eqD,abh];exact ⟨RcAt.tuple_list p p2 hu',RcNeAt.tuple_list p p2 hu'⟩
  | @tup a2 xs2 its2 ds2 e2 p2 rv2 rs2=>
    have n1:its1.toArray.size=ds.length:=by rw [aag,←rv.length,rs.length]
    have n2:its2.toArray.size=ds2.length:=by rw [aag,←rv2.length,rs2.length]
    have el:=vh rs rs2 rv rv2 (fun d hd v v' u u' d' g1 g2 g3 g4 g5 g6=>QI I d A.in1 v v' u u' d' (by
      have:=xh hd;simp only [D.dep] at hu;show A.units+1+d.dep<cLine
      omega) g1 g2 g3 g4 g5 g6) (by simpa only [D.eqb] using hb) (by simpa only [D.eqb] using hb')
    have q:=RcAt.tuples p p2 hu' el;have q2:=RcNeAt.tuples p p2 hu' el;rw [n1,n2,←XM] at q q2;simp only [eqD];exact ⟨q,q2⟩
 | @lst a1 xs1 its1 ds e p rv rs=>
  cases c2 with
  |non=>simp only [eqD,abh];exact ⟨RcAt.list_none p hu',RcNeAt.list_none p hu'⟩
  |bl b=>simp only [eqD,abh];exact ⟨RcAt.list_bool _ p hu',RcNeAt.list_bool _ p hu'⟩
  |int i t=>simp only [eqD,abh];exact ⟨RcAt.list_int _ _ p hu',RcNeAt.list_int _ _ p hu'⟩
  |str x t=>simp only [eqD,abh];exact ⟨RcAt.list_str _ _ p hu',RcNeAt.list_str _ _ p hu'⟩
  |tup e2 p2 rv2 rs2=>simp only [eqD,abh];exact ⟨RcAt.list_tuple p p2 hu',RcNeAt.list_tuple p p2 hu'⟩
  | @lst a2 xs2 its2 ds2 e2 p2 rv2 rs2=>
    have n1:its1.toArray.size=ds.length:=by rw [aag,←rv.length,rs.length]
    have n2:its2.toArray.size=ds2.length:=by rw [aag,←rv2.length,rs2.length]
    simp only [eqD]
    by_cases hl:ds.length=ds2.length
    · have el:=vh rs rs2 rv rv2 (fun d hd v v' u u' d' g1 g2 g3 g4 g5 g6=>QI I d A.in1 v v' u u' d' (by
       have:=xh hd;simp only [D.dep] at hu;show A.units+1+d.dep<cLine
       omega) g1 g2 g3 g4 g5 g6) (by simpa only [D.eqb] using hb) (by simpa only [D.eqb] using hb')
      have q:=RcAt.lists p p2 (by rw [n1,n2];exact hl) hu' el;have q2:=RcNeAt.lists p p2 (by rw [n1,n2];exact hl) hu' el;rw [n1,←xg ds ds2 hl] at q q2;exact ⟨q,q2⟩
    · rw [xT ds ds2 hl];exact ⟨aeo p p2 (by rw [n1,n2];simp [hl]) hu',RcNeAt.lists_lengths p p2 (by rw [n1,n2];simp [hl]) hu'⟩
end
section
variable {X:Cx}
def Q3:D->D->Bool
 | .lst a,.lst b=>a.length !=b.length
 |_,_=>false
def Q1 {a b:D} (h:Q3 a b=true):eqD a b=false:=by
 unfold Q3 at h
 split at h
 · simp only [eqD];exact xT _ _ (by simpa using h)
 · cases h
def EqC (a b:D):Prop:=(D.eqb a=true/\D.eqb b=true/\a.dep<=190)\/Q3 a b=true
instance (a b:D):Decidable (EqC a b):=inferInstanceAs (Decidable (_\/_))
def rEqD (K:aaa) (neg:Bool):R2:=fun x y H Q=> ∃a b,Rep K Any H x a/\Rep K Any H y b/\EqC a b/\Q (.bl (if neg then !eqD a b else eqD a b)) H
def Q2 {pins:List (Addr×Obj)} {σ:L2.St} {H:Hp} {s:aah} (I:Inv X pins σ H s) {A:aaZ} {v v':V} {u u':Value} {d d':D} (hu:A.units<cLine) (r:Rep X.K Any H v d) (ru:RelV v u) (r':Rep X.K Any H v' d') (ru':RelV v' u') (h:Q3 d d'=true):
   RcAt A s u u' false/\RcNeAt A s u u' true:=by
 unfold Q3 at h
 split at h
 · obtain ⟨a,xs,rfl,ha,_,rs⟩:=r.lstE;obtain ⟨a',xs',rfl,ha',_,rs'⟩:=r'.lstE;cases ru;cases ru';obtain ⟨its,rv,p,_⟩:=I.list (.of ha);obtain ⟨its',rv',p',_⟩:=I.list (.of ha')
   have e:(its.toArray.size !=its'.toArray.size)=true:=by
    rw [aag,aag,←rv.length,←rv'.length,rs.length,rs'.length];exact h
   exact ⟨aeo p.isList p'.isList e hu,RcNeAt.lists_lengths p.isList p'.isList e hu⟩
 · cases h
def JN (hu:X.A.units+200<cLine):OpR X (aa9 .Eq) (rEqD X.K false):=by
 intro pins s σ H x y v u Q I rx ry ⟨a,b,ra,rb,hc,q⟩;rcases hc with ⟨ha,hb,hd⟩|hc
 · exact (Xd I (by omega) ra rx rb ry ha hb).1 X.prog X.w X.xe _ ⟨.bl _,H,I,rfl,q⟩
 · have q':Q (.bl false) H:=by have:=Q1 hc;simpa [this] using q
   exact (Q2 I (by omega) ra rx rb ry hc).1 X.prog X.w X.xe _ ⟨.bl _,H,I,rfl,q'⟩
def K1 (hu:X.A.units+200<cLine):OpR X (aa9 .NotEq) (rEqD X.K true):=by
 intro pins s σ H x y v u Q I rx ry ⟨a,b,ra,rb,hc,q⟩;rcases hc with ⟨ha,hb,hd⟩|hc
 · exact (Xd I (by omega) ra rx rb ry ha hb).2 X.prog X.w X.xe _ ⟨.bl _,H,I,rfl,q⟩
 · have q':Q (.bl true) H:=by have:=Q1 hc;simpa [this] using q
   exact (Q2 I (by omega) ra rx rb ry hc).2 X.prog X.w X.xe _ ⟨.bl _,H,I,rfl,q'⟩
def eqR (a b:D):Res D:=must (EqC a b) (.ok (.bl (eqD a b)))
def neR (a b:D):Res D:=must (EqC a b) (.ok (.bl (!eqD a b)))
def Yr {K:aaa}:OpS K (rEqD K false) eqR:=fun x y H a b d Q ra rb e q=>by
 obtain ⟨h1,e2⟩:=jn e;cases e2;exact ⟨a,b,ra,rb,h1,q _ (jeX _)⟩
def jaN {K:aaa}:OpS K (rEqD K true) neR:=fun x y H a b d Q ra rb e q=>by
 obtain ⟨h1,e2⟩:=jn e;cases e2;exact ⟨a,b,ra,rb,h1,q _ (jeX _)⟩
def Room.u200 {k:Nat} {A:aaZ} (r:Room k A):A.units+200<cLine:=by have:=r.un;omega
end
end M
namespace M
open PySem PySem.Spec L2
open PyProof.Rows hiding St
section
variable {X:Cx} {K:aaa}
def QD {prog:aaL} {w:World} {A:aaZ} {E:T9} {s:aah} {t sl:Addr} {items:Array Value} {vl vu:Value} {lo hi:Option Int} {Q:T9} (ht:IsTup s.heap t items) (hs:s.heap.IsSliceOf sl vl vu .none) (pl:IsPart vl lo) (pu:IsPart vu hi)
  (hw:HT.sIx items.size 0 lo=0/\HT.sIx items.size items.size hi=items.size) (h:Q (.ref t) s):wpAny (model prog w) A (aet (.ref t) (.ref sl)) Q E s:=by
 obtain ⟨os,hos,hcs,hds⟩:=id hs;have hTs:s.TypeIs (.ref sl) "slice" :=⟨os,hos,hcs⟩
 unfold aet
 try with_reducible refine aba ?_
 first|refine aab (aaf ?_)|skip
 refine aab (wpAny_sequenceKey ht.typeIs (by decide) ?_)
 refine aab (abA ht.typeIs aa3
  (abW aa3 ht.typeIs entry_tuple_getitem ?_ (args_tuple_getitem _ _)))
 show wpAny _ _ (aej (.ref t)>>=_) _ _ s;refine aab (tupleItemsOf_ ht ?_);refine aab (adP hTs ?_);rw [if_pos (by decide)];refine aab (HT.sliceApplied_gen hs pl pu ?_)
 have hyes:(((HT.sIx items.size 0 lo:Nat):Int)==0&&(1:Int)==1&&(HT.sIx items.size items.size hi-HT.sIx items.size 0 lo)==items.size)=true:=by
  rw [hw.1,hw.2];simp
 show wpAny _ _ (if (((HT.sIx items.size 0 lo:Nat):Int)==0&&(1:Int)==1&&(HT.sIx items.size items.size hi-HT.sIx items.size 0 lo)==items.size)=true then _ else _) _ _ s;rw [if_pos hyes];unfold Builtin.Tuple.tupleIsExact;refine aab (aab (adP ht.typeIs (aaf ?_)));rw [if_pos (by decide)]
 first
  |exact aab (wpAny_rule (aab (aaf (aaf ⟨_,rfl,aaf h⟩))))
  |exact aab (wpAny_rule (aaf ⟨_,rfl,aaf h⟩))
  |exact aab (wpAny_rule (aab (aaf ⟨_,rfl,aaf h⟩)))
def rSlW (K:aaa):V->Option Int->Option Int->Hp->VK->Prop:=fun x lo hi H Q=> ∃a xs,x= .ref a/\SqT K H a xs/\(HT.sIx xs.length 0 lo=0/\HT.sIx xs.length xs.length hi=xs.length)/\Q (.ref a) H
def sl_whole:SlR X (rSlW X.K):=by
 intro pins s σ H x v vl vu lo hi sl Q I rx hs pl pu ⟨a,xs,ex,hx,hw,q⟩;subst ex;cases rx;obtain ⟨its,r,ht,hz⟩:=I.tuple hx;have hlen:its.toArray.size=xs.length:=by rw [aag];exact r.length.symm
 exact ⟨"tuple",_,aa3.lookup,ht.typeIs,QD ht hs pl pu (by rw [hlen];exact hw) ⟨.ref a,H,I,rfl,q⟩⟩
def cutS (z:Str) (lo hi:Option Int):Str:=
 if ((aaM lo hi 1 z.length).length==z.length)=true then z else ⟨((aaM lo hi 1 z.length).filterMap (z.cps[·]?)).toArray⟩
def XX (z:Str) (lo hi:Option Int):(cutS z lo hi).length<=z.length:=by
 unfold cutS
 split
 · exact aae _
 · show ((aaM lo hi 1 z.length).filterMap (z.cps[·]?)).toArray.size<=z.length;rw [aag];exact aaF (List.length_filterMap_le _ _) (PyProof.Rows.indices_len_le lo hi z.length)
def rSlS:V->Option Int->Option Int->Hp->VK->Prop:=fun x lo hi H Q=> ∃z,x= .str z/\z.length<=aai/\Q (.str (cutS z lo hi)) H
def KO {v:Value} {o:Option Int} (h:IsPart v o): ∃p:Option (Int×Tok),v=partValue p/\p.map (·.1)=o:=by
 cases h with
 |none=>exact ⟨none,rfl,rfl⟩
 |int i t=>exact ⟨some (i,t),rfl,rfl⟩
def jb6:SlR X rSlS:=by
 intro pins s σ H x v vl vu lo hi sl Q I rx hs pl pu ⟨z,ex,hz,q⟩;subst ex;obtain ⟨t,rfl⟩:=rx;obtain ⟨l,rfl,el⟩:=KO pl;obtain ⟨u,rfl,eu⟩:=KO pu;refine ⟨"str",_,F.slot_str_getitem.lookup,typeIs_str s z t,wpAny_getItem_str_slice (st:=none) hs rfl ?_⟩;have hp:slicePicked z l u none=aaM lo hi 1 z.length:=by unfold slicePicked;rw [el,eu];rfl
 unfold sliceMade;rw [hp]
 by_cases hc:((aaM lo hi 1 z.length).length==z.length)=true
 · have e:cutS z lo hi=z:=by unfold cutS;rw [if_pos hc]
   rw [e] at q;rw [if_pos (by simpa using hc)];exact ⟨.str z,H,I,⟨t,rfl⟩,q⟩
 · have e:cutS z lo hi=⟨((aaM lo hi 1 z.length).filterMap (z.cps[·]?)).toArray⟩:=by unfold cutS;rw [if_neg hc]
   have hl:=XX z lo hi;rw [e] at q hl;rw [if_neg (by simpa using hc)];exact ⟨aaF hl hz,.str _,H,I.tok _,⟨_,rfl⟩,q⟩
def slD:D->Option Int->Option Int->Res D
 | .tup ds,lo,hi=>(.ok (.tup (cutD ds lo hi)))
 | .lst ds,lo,hi=>(.ok (.lst (cutD ds lo hi)))
 | .str z,lo,hi=> .ok (.str (cutS z lo hi))
 |_,_,_=> .stuck
def UC {ds:List D} {lo hi:Option Int} (h1:HT.sIx ds.length 0 lo=0) (h2:HT.sIx ds.length ds.length hi=ds.length):cutD ds lo hi=ds:=by
 unfold cutD;rw [h1,h2];simp
def u2 {A:Wb} {x:V} {H:Hp} {a d:D} {lo hi:Option Int} {Q:VK} (r3:Rep X.K A H x a) (e4:slD a lo hi= .ok d) (q: ∀v H',Same H H'->Rep X.K (fun c=>H c=none\/A c) H' v d->NewTop H v->Q v H'):
  rSlT X.K x lo hi H Q\/rSlW X.K x lo hi H Q\/rSlL X.K x lo hi H Q\/rSlS x lo hi H Q:=by
 cases a with
 |tup ds=>
  cases e4;obtain ⟨b,xs,rfl,hb,rs⟩:=r3.tupE;have hl:=rs.length
  by_cases hw:HT.sIx xs.length 0 lo=0/\HT.sIx xs.length xs.length hi=xs.length
  · refine .inr (.inl ⟨b,xs,rfl,.of hb,hw,?_⟩);rw [hl] at hw;rw [UC hw.1 hw.2] at q;exact q _ H (Same.refl H) (.tup hb (rs.weak orA)) (Y2 hb)
  · exact .inl ⟨b,xs,rfl,.of hb,hw,fun p hp=>q _ _ (Same.upd hp) (.tup jt (((WS rs).weak orA).grow (Same.upd hp))) (jW (Same.refl H) hp)⟩
 |lst ds=>
  cases e4;obtain ⟨b,xs,rfl,hb,_,rs⟩:=r3.lstE;exact .inr (.inr (.inl ⟨b,xs,rfl,.of hb,fun p hp=>q _ _ (Same.upd hp) (.lst jt (.inl hp) (((WS rs.low).laid hp).weak fun c z=>⟨.inr z.1,z.2⟩)) (jW (Same.refl H) hp)⟩))
 |str z=>
  cases e4;obtain ⟨rfl,hz⟩:=r3.strE;have hl:=aaF (XX z lo hi) hz;exact .inr (.inr (.inr ⟨z,rfl,hz,q _ H (Same.refl H) (.str _ hl) (jfa (je9 (K:=X.K) _ hl))⟩))
 |_=>cases e4
def we {e:Expr} {lo hi:Option Expr} {p2 pos:Pos} {f:T0} {fl fh:Sl->Res (Option Int)} (he:DE X .s e f) (hl:DO X lo fl) (hh:DO X hi fh):
   DE X .t (.Subscript e (.Slice lo hi none p2) pos) (qf f fl fh slD):=by
 with_unfolding_all exact (
  PE.imp (Xk (sl_tup.or (sl_whole.or (sl_list.or jb6))) he hl hh) fun σ H Q ⟨G,H0,env,d,k,ef,q⟩=>by
   obtain ⟨a,e1,ef⟩:=jd ef;obtain ⟨lo',e2,ef⟩:=jd ef;obtain ⟨hi',e3,e4⟩:=jd ef;refine ⟨G,H0,env,a,k,e1,fun x H1 s1 r1 _=>⟨G,H0,env,lo',k.grow s1,e2,fun H2 s2=>⟨G,H0,env,hi',(k.grow s1).grow s2,e3,fun H3 s3=>?_⟩⟩⟩;have sm:=s1.trans (s2.trans s3)
   exact u2 ((r1.grow s2).grow s3) e4 fun v H4 s4 r4 nt=>q v H4 (sm.trans s4) (r4.weak fun c z=>z.elim (fun z=>k.new c (Same.free sm z)) fun z=>z) (nt.grow sm))
def MtD (K:aaa) (r:V->List V->Hp->VK->Prop) (g:D->List D->Res D):Prop:= ∀(x:V) (xs:List V) (H:Hp) (a:D) (ds:List D) (d:D) (Q:VK),Rep K Any H x a->Reps K Any H xs ds->g a ds= .ok d->(∀v,Sc K v d->Q v H)->r x xs H Q
def jb4 {A:Wb} {H:Hp} {v:V} {z:Str} (r:Rep K A H v (.str z)):tyV K "str" v H:=by rw [r.strE.1];exact rfl
def smF (f:T0) (fa:TX) (g:Str->List D->Res D):Sl->Res D:=fun env=>f env>>=fun a=>match a with
 | .str z=>fa env>>=fun ds=>g z ds
 |_=> .stuck
def jex {l1 l2 l':Lv} {o e:Expr} {es:List Expr} {name:Str} {apos cpos:Pos} {id:String} {r:V->List V->Hp->VK->Prop} {g:Str->List D->Res D} {f:T0} {fa:TX}
   (slot:PySem.Slot "str" name id) (hty:typeOf (.builtin id)=pure (.type "method_descriptor")) (hm:MtR X id r) (hr:MtD X.K r (fun a ds=>match a with| .str z=>g z ds|_=> .stuck)) (ho:DE X l1 o f) (ha:DA X l2 (e::es) fa)
   (hbase:aa4 o name X.env (eval o X.env)=eval o X.env:=by rfl)
   (hfew:((abw cpos (aao (e::es) X.env)).all (fun x=>!x.1)&&(adr cpos (acb [] X.env)).all (fun x=>x.1.isSome)
    &&decide ((e::es).length+([]:List acQ).length+(if ([]:List acQ).isEmpty then 0 else 1)<30))=true:=by exact wK rfl rfl)
   (hline:(apos.endLine==cpos.line)=true:=by rfl) (hs:T8 X e es:=by exact jp rfl) (hplain:T7 X cpos es:=by exact jC rfl):
   DE X l' (.Call (.Attribute o name apos) (e::es) [] cpos) (smF f fa g):=by
 with_unfolding_all exact (
  PE.imp (KL PySem.F.plainAttrs_str slot hty hm ho ha hbase hfew hline hs hplain) fun σ H Q ⟨G,H0,env,d,k,ef,q⟩=>by
   obtain ⟨a,e1,e2⟩:=jd ef
   cases a with
   |str z=>
    obtain ⟨ds,e3,e4⟩:=jd e2;refine ⟨G,H0,env,_,k,e1,fun x H1 s1 r1 _=>⟨jb4 r1,G,H0,env,ds,k.grow s1,e3,fun xs H2 s2 r2=>?_⟩⟩;exact hr x xs H2 (.str z) ds d Q ((r1.grow s2).weak Lv.weak_b) (r2.weak Lv.weak_b) e4 fun v sc=>q v H2 (s1.trans s2) (sc.1 _ _) sc.T
   |_=>cases e2)
def jaS:MtR X "str.find" (fun x xs H Q=> ∃z y,x= .str z/\xs=[.str y]/\Q (.int (Txt.find z y)) H):=by
 intro pins s σ H x xs v us Q I rx rv ⟨z,y,ex,exs,q⟩;subst ex exs;obtain ⟨t,rfl⟩:=rx;obtain ⟨u,rfl,ru⟩:=yo rv;obtain ⟨t',rfl⟩:=ru;exact SC.find ⟨.int _,H,I.tok _,⟨_,rfl⟩,q⟩
def kZ (z:Str):List D->Res D
 | [.str y]=> .ok (.int (Txt.find z y))
 |_=> .stuck
def jaV:MtD K (fun x xs H Q=> ∃z y,x= .str z/\xs=[.str y]/\Q (.int (Txt.find z y)) H) (fun a ds=>match a with| .str z=>kZ z ds|_=> .stuck):=by
 intro x xs H a ds d Q ra rs e q
 cases a with
 |str z=>
  dsimp only at e;unfold kZ at e
  split at e
  · cases e;obtain ⟨v,rfl,r1⟩:=rs.one;exact ⟨z,_,ra.strE.1,by rw [r1.strE.1],q _ (je0 _)⟩
  · cases e
 |_=>cases e
def cD:Sl->Res D:=fun _=> .ok (.dic [] [])
def vC {pos:Pos}:DE X .t (.Dict [] [] pos) cD:=by
 with_unfolding_all exact (PE.imp km fun σ H Q ⟨G,H0,env,d,k,ef,q⟩=>by
  cases ef
  exact fun p hp=>q _ _ (Same.upd hp) (.dic jt (k.new p hp) rfl rfl .nil) (jW (Same.refl H) hp))
end
abbrev subI:D->D->Res D:=iOp yr fun i j=> .int (i-j)
abbrev mulI:D->D->Res D:=iOp MulC fun i j=> .int (i*j)
abbrev divI:D->D->Res D:=iOp DivC fun i j=> .int (i/j)
abbrev modI:D->D->Res D:=iOp PosC fun i j=> .int (i%j)
abbrev powI:D->D->Res D:=iOp PowC fun i j=> .int (i^j.toNat)
abbrev ltI:D->D->Res D:=iOp yr fun i j=> .bl (decide (i<j))
abbrev leI:D->D->Res D:=iOp yr fun i j=> .bl (decide (i<=j))
abbrev gtI:D->D->Res D:=iOp yr fun i j=> .bl (decide (j<i))
abbrev geI:D->D->Res D:=iOp yr fun i j=> .bl (decide (j<=i))
structure Av (P:aaL) (w:World) (K:aaa) (mg:W9) (base:Heap) (k:Nat) (x:Str) (ps:List Str) (fr:Bool) (F:TW):Prop where
 ex: ∃f fd,FnOk P w K mg base CX0 k f fd ps (spF K fr ps.length F)/\mg x=some (.ref f)/\aaY K (.ref f)=true/\Binds K fd ps []
def Av.mono {P:aaL} {w:World} {K:aaa} {mg:W9} {base:Heap} {j k:Nat} {x:Str} {ps:List Str} {fr:Bool} {F:TW} (h:Av P w K mg base j x ps fr F) (hj:j<=k):Av P w K mg base k x ps fr F:=
 let ⟨f,fd,a,b⟩:=h.ex
 ⟨f,fd,a.mono hj,b⟩
section
variable {X:Cx} {k:Nat} {x:Str} {ps:List Str} {fr:Bool} {F:TW} {e:Expr} {es:List Expr} {p pos:Pos} {g:TX}
def Av.call {n:Nat} (A:Av X.prog X.w X.K X.mg X.base k x ps fr F) (hr:Room k X.A) (ha:DA X .s (e::es) g) (hn:ps.length=n:=by rfl) (hg:Gl X x:=by rfl) (hdb:Ym x:=by decide)
  (he:T8 X e es:=by exact jp rfl) (hpl:T7 X pos es:=by exact jC rfl):DE X .s (.Call (.Name x p) (e::es) [] pos) (jm n F g):=by
 subst hn;obtain ⟨f,fd,h1,h2,h3,h4⟩:=A.ex;exact jbt h1 hr hg h2 h3 h4 KM ha hdb he hpl
def Av.callT {n:Nat} (A:Av X.prog X.w X.K X.mg X.base k x ps true F) (hr:Room k X.A) (ha:DA X .s (e::es) g) (hn:ps.length=n:=by rfl) (hg:Gl X x:=by rfl) (hdb:Ym x:=by decide)
  (he:T8 X e es:=by exact jp rfl) (hpl:T7 X pos es:=by exact jC rfl):DE X .t (.Call (.Name x p) (e::es) [] pos) (jm n F g):=by
 subst hn;obtain ⟨f,fd,h1,h2,h3,h4⟩:=A.ex;exact vE h1 hr hg h2 h3 h4 KM ha hdb he hpl
def Av.callA {n:Nat} (A:Av X.prog X.w X.K X.mg X.base k x ps fr F) (hr:Room k X.A) (ha:DA X .b (e::es) g) (hn:ps.length=n:=by rfl) (hg:Gl X x:=by rfl) (hdb:Ym x:=by decide)
  (he:T8 X e es:=by exact jp rfl) (hpl:T7 X pos es:=by exact jC rfl):DE X .b (.Call (.Name x p) (e::es) [] pos) (jm n F g):=by
 subst hn;obtain ⟨f,fd,h1,h2,h3,h4⟩:=A.ex;exact vF h1 hr hg h2 h3 h4 KM ha hdb he hpl
end
def runF (fr:Bool) (n:Nat) (g:TY) (ds:List D):Res D:=match g (qC n ds) with
 | .ok (.rt fr' d)=>if fr=true/\fr'=false then .stuck else .ok d
 | .ok (.nx _)=> .ok .non
 |_=> .stuck
def ya {fr:Bool} {n:Nat} {g:TY} {ds:List D} {d:D} (h:runF fr n g ds= .ok d):Meets fr n g ds d:=by
 unfold runF at h
 split at h
 · rename_i fr' d' e
   split at h
   · cases h
   · rename_i hn;cases h;refine .inl ⟨fr',e,fun hf=>?_⟩
     cases fr' with
     |true=>rfl
     |false=>exact absurd ⟨hf,rfl⟩ hn
 · rename_i env' e;cases h;exact .inr ⟨rfl,env',e⟩
 · cases h
section
variable {P:aaL} {w:World} {K:aaa} {mg:W9} {base:Heap}
def jeD {x:Str} {st:Stmt} {f:Addr} {fd:ab1} {N ps:List Str} {k:Nat} (fr:Bool) {g:TY} (Fu:Fun K x x st f fd) (hmg:mg x=some (.ref f)) (S:FnScope N ps (jh st)) (hbi:Binds K fd ps [])
  (hb: ∀(cdv:Value) (A:aaZ) (outer:List Env) (s:aah) (H:Hp) (E:XK),Room k (A.deeper (adN x (jh st) s.heap.objs.size f cdv))->DSs (cxOf CX0 P w K mg base N x (jh st) f cdv A outer s H E).nox (jY st) g):
  Av P w K mg base (k+1) x ps fr (runF fr N.length g):=
 ⟨f,fd,jbc Fu S hb fun ds d _ h=>ya h,hmg,Fu.kp,hbi⟩
def jbE {x:Str} {st:Stmt} {f:Addr} {fd:ab1} {ps:List Str} {k:Nat} (fr:Bool) (Fu:Fun K x x st f fd) (hmg:mg x=some (.ref f)) (hbi:Binds K fd ps []):Av P w K mg base k x ps fr (fun _=> .stuck):=
 ⟨f,fd,⟨fun vs H Q E ⟨B,ds,d,hl,_⟩=>hl,fun A outer s H args us vs Q E _ _ _ _ ⟨B,ds,d,_,_,e,_⟩=>by cases e⟩,hmg,Fu.kp,hbi⟩
end
def YJ {P:aaL} {w:World} {K:aaa} {mg:W9} {base:Heap} {x:Str} {st:Stmt} {f:Addr} {fd:ab1} {N ps:List Str} {k:Nat} (fr:Bool) {g:TY} (Fu:Fun K x x st f fd) (S:FnScope N ps (jh st))
 (hb: ∀(cdv:Value) (A:aaZ) (outer:List Env) (s:aah) (H:Hp) (E:XK),Room k (A.deeper (adN x (jh st) s.heap.objs.size f cdv))->DSs (cxOf CX0 P w K mg base N x (jh st) f cdv A outer s H E).nox (jY st) g):
 FnOk P w K mg base CX0 (k+1) f fd ps (spF K fr ps.length (runF fr N.length g)):=jbc Fu S hb fun ds d _ h=>ya h
def JZ:abo "list" =some (.type "list"):=by decide+kernel
def jeA (N0:List Str) (sc0 scope:Scope) (N:List Str) (m:Nat) (js:List Nat):Bool:=(aaT js.length).all fun k=>match N[m+k]?,(js[k]?).bind (N0[·]?) with
 |some y,some y'=>y==y'&&(sc0.names.lookup y==some .cell||sc0.names.lookup y==some .free)&&scope.names.lookup y==some .free
 |_,_=>false
def scOk (z:Option Str) (N0:List Str) (sc0 scope:Scope) (cl:List (Str×Addr)) (N:List Str) (m:Nat) (js:List Nat):Bool:=
 (scope.names.all fun x=>x.2 != .local||scope.names.lookup x.1==some .local)&&(scope.names.all fun x=>x.2 != .cell||z==some x.1)&&(match z with
   |some y=>scope.names.lookup y==some .cell
   |none=>true)&&(scope.names.all fun y=>y.2 != .free||cl.any fun p=>p.1==y.1)&&
  jeA N0 sc0 scope N m js&&(match N[m+js.length]? with
   |some y=>scope.names.all fun p=>p.1 !=y
   |none=>true)&&N.length==m+js.length+1
def YU {cl:List (Str×Addr)} {y:Str} (h:(cl.any fun p=>p.1==y)=true): ∃c,cl.lookup y=some c:=by
 induction cl with
 |nil=>cases h
 |cons p r ih=>
  obtain ⟨n,c⟩:=p;rw [ads,aeg] at h;simp only [abl]
  cases e:y==n with
  |true=>exact ⟨c,rfl⟩
  |false=>
   rcases h with h|h
   · have:n=y:=by simpa using h
     subst this;simp at e
   · exact ih h
def AllC (cells:List (Str×Addr)):List (Str×Addr)->Prop
 | []=>True
 |p::r=>cells.lookup p.1=some p.2/\AllC cells r
theorem AllC.mem {cells:List (Str×Addr)}: ∀ {cl:List (Str×Addr)},AllC cells cl-> ∀p∈cl,cells.lookup p.1=some p.2
 |_::_,h,p,hp=>(aaq.mp hp).elim (fun e=>e▸h.1) (AllC.mem h.2 p)
def yf (z:Option Str) {X:Cx} {scope:Scope} {cl:List (Str×Addr)} {N:List Str} {m:Nat} {js:List Nat} (clos:closureFor scope X.env=pure cl) (kind:scope.kind= .function) (nd:N.Nodup) (cl2:AllC X.env.cells cl)
   (h:scOk z X.N X.env.scope scope cl N m js=true) (made: ∀n,cellsFrom (n+1) scope.names cl=clZ z cl n:=by intro _;rfl) (pushed: ∀h,pushCells h scope.names=jan z h:=by intro _;rfl):CompSc z X scope cl N m js:=by
 simp only [scOk,aax,aaW,beq_iff_eq] at h;obtain ⟨⟨⟨⟨⟨⟨h1,h2⟩,h7⟩,h3⟩,h4⟩,h5⟩,h6⟩:=h;refine ⟨clos,kind,fun x hx e=>?_,fun y hy e=>?_,made,pushed,fun y e=>by rw [e] at h7;exact beq_iff_eq.mp h7,fun x c e=>cl2.mem (x,c) (abJ e),fun y hy e=>?_,nd,h6,fun k j e=>?_,fun y e p hp=>?_⟩
 · have:=h1 x hx;rw [e] at this;simpa using this
 · have:=h2 y hy;rw [e] at this;simpa using this
 · have:=h3 y hy;rw [e] at this;exact YU (by simpa using this)
 · have hk:=(aaz.mp e).1;have:=aaW.mp h4 k (aaO.mpr hk);rw [e] at this;simp at this
   cases e1:N[m+k]? with
   |none=>rw [e1] at this;cases this
   |some y=>
    cases e2:X.N[j]? with
    |none=>rw [e1,e2] at this;cases this
    |some y'=>
     rw [e1,e2] at this;simp at this;obtain ⟨⟨g1,g2⟩,g3⟩:=this;subst g1;exact ⟨y,rfl,rfl,g2,g3⟩
 · rw [e] at h5;have:=aaW.mp h5 p hp;simpa using this
end M
namespace M
open PySem PySem.Spec L2
def qx {body:D->Sl->Res Out} {d:D} {ds:List D} {env env':Sl} (h:body d env= .ok (.nx env')):forD body (d::ds) env=forD body ds env':=by
 show (body d env>>=_)=_;rw [h];rfl
def VS {body:D->Sl->Res Out} {d v:D} {fr:Bool} {ds:List D} {env:Sl} (h:body d env= .ok (.rt fr v)):forD body (d::ds) env= .ok (.rt fr v):=by
 show (body d env>>=_)=_;rw [h];rfl
theorem ZE {α:Type} {body:D->Sl->Res Out} (E:α->Sl) (step:α->D->α) (P:List D->α->Prop)
  (hb: ∀d ds a,P (d::ds) a->body d (E a)= .ok (.nx (E (step a d)))/\P ds (step a d)): ∀(ds:List D) (a:α),P ds a->forD body ds (E a)= .ok (.nx (E (ds.foldl step a)))
 | [],a,_=>rfl
 |d::ds,a,h=>by
  obtain ⟨h1,h2⟩:=hb d ds a h;rw [qx h1,ZE E step P hb ds _ h2];rfl
theorem ZP {n:Nat} {t:TV} {fe:T0} {E:D->List D->Sl} (h:D->D) (P:D->Prop)
  (hn: ∀x acc,ownL n (E x acc)= .ok acc) (hs: ∀x acc acc',(E x acc).set n (.own (.lst acc'))=E x acc')
  (ht: ∀x d acc,t d (E x acc)= .ok (E d acc)) (hf: ∀d acc,P d->fe (E d acc)= .ok (h d)):
  ∀(ds:List D) (x:D) (acc:List D),(∀d∈ds,P d)->acc.length+ds.length<=aai-> ∃y,qS n t qE fe ds (E x acc)= .ok (E y (acc++ds.map h))
 | [],x,acc,_,_=>⟨x,by simp [qS]⟩
 |d::ds,x,acc,hP,hl=>by
  simp at hl;obtain ⟨y,hy⟩:=ZP h P hn hs ht hf ds d (acc++[h d]) (fun e he=>hP e (by simp [he])) (by simp;omega);refine ⟨y,?_⟩
  have h1:qS n t qE fe (d::ds) (E x acc)=qS n t qE fe ds (E d (acc++[h d])):=by
   show (t d (E x acc)>>=_)=_;rw [ht];show (fe (E d acc)>>=_)=_;rw [hf d acc (hP d (by simp))];rw [hn];show must _ _=_;rw [jl (by omega),hs]
  rw [h1,hy];simp
def jez {fi:TX} {fe:T0} {env:Sl} {ds:List D} (h:D->D) (P:D->Prop) (hi:fi env= .ok ds) (hP: ∀d∈ds,P d) (hl:ds.length<=aai)
  (hf: ∀d acc,P d->fe [.shr d,.own (.lst acc)]= .ok (h d)):zl false 1 [] fi (gN 0) qE fe env= .ok (.lst (ds.map h)):=by
 show (fi env>>=_)=_;rw [hi];show (qS 1 (gN 0) qE fe ds [.un,.own (.lst [])]>>=_)=_
 cases ds with
 |nil=>rfl
 |cons d ds=>
  simp at hl;obtain ⟨y,hy⟩:=ZP (n:=1) (t:=gN 0) h P (fun _ _=>rfl) (fun _ _ _=>rfl) (fun _ _ _=>rfl) hf ds d [h d] (fun e he=>hP e (by simp [he])) (by simp;omega)
  have h1:qS 1 (gN 0) qE fe (d::ds) [.un,.own (.lst [])]=qS 1 (gN 0) qE fe ds [.shr d,.own (.lst [h d])]:=by
   show (fe [.shr d,.own (.lst [])]>>=_)=_;rw [hf d [] (hP d (by simp))];exact jl (c:=([]:List D).length<aai) (by simp;omega)
  rw [h1,hy];rfl
variable {env env':Sl} {f f1 f2 f3:T0} {g g1 g2:TY} {t t1 t2:TZ} {fa:TX} {i:Nat} {d:D} {b:Bool}
@[simp] theorem wO {α β:Type} {a:α} {f:α->Res β}:(Res.ok a>>=f)=f a:=rfl
@[simp] theorem uz {α β:Type} {c:Prop} [Decidable c] {a b:Res α} {f:α->Res β}:((if c then a else b)>>=f)=if c then a>>=f else b>>=f:=by split<;>rfl
def outK (g:TY):Out->Res Out
 | .nx e=>g e
 |o=> .ok o
@[simp] theorem KU:outK g (.nx env)=g env:=rfl
@[simp] theorem KS {fr:Bool}:outK g (.rt fr d)= .ok (.rt fr d):=rfl
@[simp] theorem JV:seqO g1 g2 env=(g1 env>>=outK g2):=by
 show (g1 env>>=_)=_;congr 1;funext o;cases o<;>rfl
@[simp] theorem jbe:setO i f env=(f env>>=fun d=> .ok (.nx (env.set i (xM d)))):=rfl
@[simp] theorem ve:jJ i f env=(f env>>=fun d=> .ok (.nx (env.set i (.shr d)))):=rfl
@[simp] theorem WK:retO f env=(f env>>=fun d=> .ok (.rt true d)):=rfl
@[simp] theorem jbf:retS f env=(f env>>=fun d=> .ok (.rt false d)):=rfl
@[simp] theorem uy:nxO env= .ok (.nx env):=rfl
@[simp] theorem XI:ifO t g1 g2 env=(t env>>=fun b=>if b=true then g1 env else g2 env):=rfl
@[simp] theorem jbh:andB t1 t2 env=(t1 env>>=fun b=>if b=true then t2 env else .ok false):=rfl
@[simp] theorem VY:orB t1 t2 env=(t1 env>>=fun b=>if b=true then .ok true else t2 env):=rfl
@[simp] theorem WL:notB t env=(t env>>=fun b=> .ok (!b)):=rfl
def asBD:D->Res Bool
 | .bl b=> .ok b
 |_=> .stuck
@[simp] theorem UO:asBD (.bl b)= .ok b:=rfl
@[simp] theorem Ub:asB f env=(f env>>=asBD):=rfl
@[simp] theorem VX {h:D->D->Res D}:two f1 f2 h env=(f1 env>>=fun x=>f2 env>>=fun y=>h x y):=rfl
@[simp] theorem jdp {j:Int}:cI j env= .ok (.int j):=rfl
@[simp] theorem jdq:cB b env= .ok (.bl b):=rfl
@[simp] theorem QH:ja f fa env=(f env>>=fun d=>fa env>>=fun ds=> .ok (d::ds)):=rfl
@[simp] theorem VZ:nil1 env= .ok []:=rfl
@[simp] theorem Uc {h:TW}:app fa h env=(fa env>>=h):=rfl
@[simp] theorem vf {n:Nat} {F:TW}:jm n F fa env=(fa env>>=fun ds=>must (ds.length=n) (F ds)):=rfl
@[simp] theorem jbd:tupF fa env=(fa env>>=fun ds=>must (ds.length<=aai) (.ok (.tup ds))):=rfl
@[simp] theorem jbg:lstF fa env=(fa env>>=fun ds=>must (ds.length<=aai) (.ok (.lst ds))):=rfl
@[simp] theorem QG {T:String}:isiF T f env=(f env>>=isiD T):=rfl
@[simp] theorem jdo:ifD t f1 f2 env=(t env>>=fun b=>if b=true then f1 env else f2 env):=rfl
@[simp] theorem Ua:itF f env=(f env>>=Vw):=rfl
@[simp] theorem WM {tt:TV} {fi:TX}:forO fi tt g env=(fi env>>=fun ds=>forD (qB tt g) ds env):=rfl
@[simp] theorem vc {fl fh:Sl->Res (Option Int)} {h:D->Option Int->Option Int->Res D}:qf f fl fh h env=(f env>>=fun a=>fl env>>=fun lo=>fh env>>=fun hi=>h a lo hi):=rfl
@[simp] theorem k9:zb f env=(f env>>=asI):=rfl
@[simp] theorem ux:rdS i env=match env[i]? with|some (.shr d)=> .ok d|_=> .stuck:=rfl
def chK (f:Res D) (g':D->D->Res D) (y:D):D->Res D
 | .bl true=>f>>=fun w=>g' y w
 | .bl false=> .ok (.bl false)
 |_=> .stuck
@[simp] theorem uL {r:Res D} {h:D->D->Res D} {y:D}:chK r h y (.bl b)=if b=true then r>>=fun w=>h y w else .ok (.bl false):=by cases b<;>rfl
@[simp] theorem XJ {h h':D->D->Res D}:JA f1 f2 f3 h h' env=(f1 env>>=fun x=>f2 env>>=fun y=>h x y>>=chK (f3 env) h' y):=by
 show (f1 env>>=_)=_;congr 1
@[simp] theorem uA {C:Int->Int->Prop} [∀i j,Decidable (C i j)] {h:Int->Int->D} {m n:Int}:iOp C h (.int m) (.int n)=if C m n then .ok (h m n) else .stuck:=rfl
def runK (fr:Bool):Out->Res D
 | .rt fr' d=>if fr=true/\fr'=false then .stuck else .ok d
 | .nx _=> .ok .non
 |_=> .stuck
def ZH {fr:Bool} {n:Nat} {ds:List D} {o:Out} (h:g (qC n ds)= .ok o):runF fr n g ds=runK fr o:=by
 unfold runF;rw [h];cases o<;>rfl
end M
namespace M
def QY {n:Nat} {t:TZ} {g:TY} {env env':Sl} (ht:t env= .ok true) (h:g env= .ok (.nx env')):zo (n+1) t g env=zo n t g env':=by
 rw [zo,ht,wO,if_pos rfl,h];rfl
def JE {n:Nat} {t:TZ} {g:TY} {env:Sl} (ht:t env= .ok false):zo (n+1) t g env= .ok (.nx env):=by
 rw [zo,ht,wO,if_neg (by simp)]
end M
namespace M
open PySem PySem.Spec L2
def kids:D->List D
 | .tup (_::r)=>r
 |_=>[]
mutual
def num:D->Nat
 | .tup (_::r)=>1+nums r
 |_=>1
def nums:List D->Nat
 | []=>0
 |d::r=>num d+nums r
end
mutual
def hgt:D->Nat
 | .tup (_::r)=>1+hgts r
 |_=>1
def hgts:List D->Nat
 | []=>0
 |d::r=>max (hgt d) (hgts r)
end
mutual
def pts:D->List D
 | .tup (x::r)=> .tup (x::r)::ptss r
 |d=>[d]
def ptss:List D->List D
 | []=>[]
 |d::r=>pts d++ptss r
end
def jaP:D->Bool| .scr _=>false| .exn _=>false| .fdc _ _=>false| .hdc _ _=>false| .obj _ _ _=>false| .mem _ _=>false|_=>true
mutual
def fine:D->Bool
 | .scr _=>false
 | .exn _=>false
 | .fdc _ _=>false
 | .hdc _ _=>false
 | .obj _ _ _=>false
 | .mem _ _=>false
 | .tup ds=>decide (ds.length<=11)&&fines ds
 |_=>true
def fines:List D->Bool
 | []=>true
 |d::r=>fine d&&fines r
end
def jcW (d:D):num d=1+nums (kids d):=by
 cases d with
 |tup ds=>cases ds<;>simp [num,kids,nums]
 |_=>simp [num,kids,nums]
def uo (d:D):hgt d=1+hgts (kids d):=by
 cases d with
 |tup ds=>cases ds<;>simp [hgt,kids,hgts]
 |_=>simp [hgt,kids,hgts]
def jcn (d:D):pts d=d::ptss (kids d):=by
 cases d with
 |tup ds=>cases ds<;>simp [pts,kids,ptss]
 |_=>simp [pts,kids,ptss]
def kY {d:D} (h:fine d=true):jaP d=true:=by
 cases d<;>first|rfl| (simp [fine] at h)
theorem XF: ∀ {ds:List D},(∀d∈ds,fine d=true)->fines ds=true
 | [],_=>rfl
 |x::r,h=>by simp only [fines,aax];exact ⟨h x (by simp),XF fun d hd=>h d (by simp [hd])⟩
def VU {d:D} (h:fine d=true):fines (kids d)=true/\(kids d).length<=10:=by
 cases d with
 |tup ds=>
  cases ds with
  |nil=>exact ⟨rfl,by simp [kids]⟩
  |cons x r=>
   simp only [fine,fines,aax,decide_eq_true_eq,aau] at h;exact ⟨h.2.2,by simp only [kids];omega⟩
 |_=>exact ⟨rfl,by simp [kids]⟩
def ja6 (d:D):1<=hgt d:=by rw [uo];omega
mutual
theorem Qf: ∀d:D,(pts d).length=num d
 | .tup (x::r)=>by simp [pts,num,ptss_len r];omega
 | .tup []=>by simp [pts,num]
 | .non=>by simp [pts,num]
 | .bl _=>by simp [pts,num]
 | .int _=>by simp [pts,num]
 | .str _=>by simp [pts,num]
 | .lst _=>by simp [pts,num]
 | .scr _=>by simp [pts,num]
 | .dic _ _=>by simp [pts,num]
 | .dit _ _=>by simp [pts,num]
 | .exn _=>by simp [pts,num]
 | .fdc _ _=>by simp [pts,num]
 | .hdc _ _=>by simp [pts,num]
 | .obj _ _ _=>by simp [pts,num]
 | .mem _ _=>by simp [pts,num]
theorem ptss_len: ∀ds:List D,(ptss ds).length=nums ds
 | []=>rfl
 |d::r=>by simp [ptss,nums,Qf d,ptss_len r]
end
def atI_nat {α:Type} {xs:List α} {k:Nat}:atI xs (k:Int)=xs[k]?:=by
 unfold atI ixN
 by_cases h:k<xs.length
 · rw [if_pos (by omega),if_pos (by omega)];simp
 · rw [if_pos (by omega),if_neg (by omega)];simp;omega
def ix0 {x:D} {r:List D}:ixD (.tup (x::r)) (.int 0)= .ok x:=by
 have:=atI_nat (xs:=x::r) (k:=0);simp only [ixD];rw [show ((0:Int))=((0:Nat):Int) from rfl,this];rfl
section
variable {env env':Sl} {f f1 f2 f3:T0} {g g1 g2:TY} {t t1 t2:TZ} {fa:TX} {i:Nat} {d x y z:D} {b:Bool} {ds:List D}
def jg {h:D->D->Res D} (h1:f1 env= .ok x) (h2:f2 env= .ok y) (h3:h x y= .ok z):two f1 f2 h env= .ok z:=by rw [VX,h1,wO,h2,wO,h3]
def jA (h:f env= .ok d):jJ i f env= .ok (.nx (env.set i (.shr d))):=by rw [ve,h];rfl
def wx (h:f env= .ok d):setO i f env= .ok (.nx (env.set i (xM d))):=by rw [jbe,h];rfl
def jE (h:f env= .ok d):retO f env= .ok (.rt true d):=by rw [WK,h];rfl
def Qd (h:f env= .ok d):retS f env= .ok (.rt false d):=by rw [jbf,h];rfl
def jk (h:g1 env= .ok (.nx env')):seqO g1 g2 env=g2 env':=by rw [JV,h];rfl
def wz {fr:Bool} (h:g1 env= .ok (.rt fr d)):seqO g1 g2 env= .ok (.rt fr d):=by rw [JV,h];rfl
def if_t (h:t env= .ok true):ifO t g1 g2 env=g1 env:=by rw [XI,h];rfl
def if_f (h:t env= .ok false):ifO t g1 g2 env=g2 env:=by rw [XI,h];rfl
def jc (h1:f env= .ok d) (h2:fa env= .ok ds):ja f fa env= .ok (d::ds):=by rw [QH,h1,wO,h2];rfl
def qg {h:TW} (h1:fa env= .ok ds) (h2:h ds= .ok d):app fa h env= .ok d:=by rw [Uc,h1,wO,h2]
def jr {n:Nat} {F:TW} (h1:fa env= .ok ds) (hn:ds.length=n) (h2:F ds= .ok d):jm n F fa env= .ok d:=by rw [vf,h1,wO,jl hn,h2]
def wm (h1:fa env= .ok ds) (hn:ds.length<=aai):tupF fa env= .ok (.tup ds):=by rw [jbd,h1,wO,jl hn]
def qM (h1:fa env= .ok ds) (hn:ds.length<=aai):lstF fa env= .ok (.lst ds):=by rw [jbg,h1,wO,jl hn]
def jx (h:f env= .ok (.bl b)):asB f env= .ok b:=by rw [Ub,h];rfl
def Qj {b2:Bool} (h1:t1 env= .ok b) (h2:t2 env= .ok b2):orB t1 t2 env= .ok (b||b2):=by rw [VY,h1,wO,h2];cases b<;>rfl
def UP {b2:Bool} (h1:t1 env= .ok b) (h2:t2 env= .ok b2):andB t1 t2 env= .ok (b&&b2):=by rw [jbh,h1,wO,h2];cases b<;>rfl
def qv (h1:t1 env= .ok b):notB t1 env= .ok (!b):=by rw [WL,h1];rfl
def Jq (h1:ownL i env= .ok ds) (h2:f env= .ok d) (h3:ds.length<aai):xH i f env= .ok (.nx (env.set i (.own (.lst (ds++[d]))))):=by
 show (ownL i env>>=_)=_;rw [h1];rw [h2];exact jl h3
def zU {fl fh:Sl->Res (Option Int)} {h:D->Option Int->Option Int->Res D} {lo hi:Option Int} (h1:f env= .ok x) (h2:fl env= .ok lo) (h3:fh env= .ok hi) (h4:h x lo hi= .ok z):qf f fl fh h env= .ok z:=by
 rw [vc,h1,wO,h2,wO,h3,wO,h4]
def zp {j:Int} (h:f env= .ok (.int j)):zb f env= .ok (some j):=by rw [k9,h];rfl
def qO {tt:TV} {fi:TX} (h:fi env= .ok ds):forO fi tt g env=forD (qB tt g) ds env:=by rw [WM,h];rfl
def zO (h:f env= .ok d) (h2:Vw d= .ok ds):itF f env= .ok ds:=by rw [Ua,h,wO,h2]
def UE (h:f env= .ok d) (hd:d.imm=true):chk f env= .ok d:=by
 show (f env>>=_)=_;rw [h];exact jl hd
def jd0 {zz:Str} {h:Str->List D->Res D} (h1:f env= .ok (.str zz)) (h2:fa env= .ok ds) (h3:h zz ds= .ok d):smF f fa h env= .ok d:=by
 show (f env>>=_)=_;rw [h1];rw [h2];exact h3
end
def Zx {C:Int->Int->Prop} [∀i j,Decidable (C i j)] {g:Int->Int->D} {i j:Int} (h:C i j):iOp C g (.int i) (.int j)= .ok (g i j):=if_pos h
def JL {i j:Int} (h:PowC i j):powI (.int i) (.int j)= .ok (.int (i^j.toNat)):=Zx h
def Ve {i j:Int} (h:MulC i j):mulI (.int i) (.int j)= .ok (.int (i*j)):=Zx h
def qU {i j:Int} (h:0<j):modI (.int i) (.int j)= .ok (.int (i%j)):=Zx h
def Uu {i j:Int} (h:0<j/\j<1073741824):divI (.int i) (.int j)= .ok (.int (i/j)):=Zx h
def j4 {t:TV} {g:TY} {d:D} {env env':Sl} (h:t d env= .ok env'):qB t g d env=g env':=by
 show (t d env>>=g)=_;rw [h];rfl
def zN {fr:Bool} {n:Nat} {g:TY} {ds:List D} {d:D} (h:g (qC n ds)= .ok (.rt true d)):runF fr n g ds= .ok d:=by rw [ZH h];simp [runK]
def jac {n:Nat} {g:TY} {ds:List D} {d:D} (h:g (qC n ds)= .ok (.rt false d)):runF false n g ds= .ok d:=by rw [ZH h];simp [runK]
def jad {fa:TX} {env:Sl} {j:Int} (h:fa env= .ok [.int j]) (hb: -(2^62)<=j/\j<2^62):rngF fa env= .ok (Jy 0 j.toNat):=by
 show (fa env>>=rng1)=_;rw [h];exact jl hb
def QU {a b:List D} (h2:a.length+b.length<=aai):addD (.lst a) (.lst b)= .ok (.lst (a++b)):=jl h2
def Ud {a b:Int}:eqR (.int a) (.int b)= .ok (.bl (a==b)):=by
 unfold eqR;rw [jl (by left;simp [D.eqb,D.dep])];simp [eqD]
theorem yF {body:D->Sl->Res Out} (I:List D->Sl->Prop)
  (hb: ∀d ds env,I (d::ds) env-> ∃env',body d env= .ok (.nx env')/\I ds env'): ∀(ds:List D) (env:Sl),I ds env-> ∃env',forD body ds env= .ok (.nx env')/\I [] env'
 | [],env,h=>⟨env,rfl,h⟩
 |d::ds,env,h=>by
  obtain ⟨e1,h1,h2⟩:=hb d ds env h;obtain ⟨e2,h3,h4⟩:=yF I hb ds e1 h2;exact ⟨e2,by rw [qx h1,h3],h4⟩
def Zw (lo:Int) (n:Nat):(Jy lo n).length=n:=by simp [Jy]
def UM {α:Type} {xs:List α} {i:Int} (h0:0<=i) (h1:i<xs.length): ∃x,atI xs i=some x/\x∈xs:=by
 obtain ⟨k,rfl⟩:=Int.eq_ofNat_of_zero_le h0;have hk:k<xs.length:=by omega
 exact ⟨xs[k],by rw [M.atI_nat];exact aac hk,abd hk⟩
def ixS {z:Str} {i:Int} (h0:0<=i) (h1:i<z.length): ∃c,ixD (.str z) (.int i)= .ok (.str ⟨#[c]⟩):=by
 obtain ⟨c,hc,_⟩:=UM (xs:=z.cps.toList) h0 (by simpa [Str.length] using h1);exact ⟨c,by simp only [ixD];rw [hc]⟩
def ixL {ds:List D} {i:Int} (h0:0<=i) (h1:i<ds.length): ∃d,ixD (.lst ds) (.int i)= .ok d/\d∈ds:=by
 obtain ⟨c,hc,hm⟩:=UM h0 h1;exact ⟨c,by simp only [ixD];rw [hc],hm⟩
open Builtin.Int (intBits)
theorem VG {k:Nat}: ∀ {ds:List D},(∀d∈ds,hgt d<=k)->hgts ds<=k
 | [],_=>by simp [hgts]
 |d::ds,h=>by
  simp only [hgts];have:=h d (by simp);have:=VG (ds:=ds) fun e he=>h e (by simp [he])
  omega
end M
namespace M
open PySem PySem.Spec L2
open PyProof.Rows hiding St
def keyD:D->Option Key
 | .int i=>some (.inl i)
 | .str x=>some (.inr x)
 |_=>none
def hasK (ks:List Key) (k:Key):Bool:=ks.any fun x=>decide (x=k)
def valD (ks:List Key) (ds:List D) (k:Key):Option D:=((ks.zip ds).find? fun p=>decide (p.1=k)).map (·.2)
def xi (ks:List Key) (k:Key):List Key:=if hasK ks k=true then ks else ks++[k]
def xw (ks:List Key) (ds:List D) (k:Key) (d:D):List D:=if hasK ks k=true then (ks.zip ds).map (fun p=>if p.1=k then d else p.2) else ds++[d]
section
variable {K:aaa} {A:Wb} {H:Hp}
def WB {y:V} {d:D} {k:Key} (r:Rep K A H y d) (h:keyD d=some k):y=kV k:=by
 cases r with
 |int i=>cases h;rfl
 |str x _=>cases h;rfl
 |_=>cases h
theorem Kq: ∀ {kvs:List (Key×V)} {ds:List D} (k:Key),Reps K A H (kvs.map (·.2)) ds->(∀d,valD (kvs.map (·.1)) ds k=some d-> ∃v,valV kvs k=some v/\Rep K A H v d)/\(valD (kvs.map (·.1)) ds k=none->valV kvs k=none)
 | [],ds,k,r=>⟨fun d h=>by simp [valD] at h,fun _=>rfl⟩
 | (k',v)::kvs,ds,k,r=>by
  cases r with
  | @cons _ _ _ d' _ ds' r1 r2=>
   have ih:=Kq k r2
   by_cases hk:k'=k
   · subst hk;have e1:valD ((((k',v)::kvs)).map (·.1)) (d'::ds') k'=some d':=by simp [valD]
     have e2:valV ((k',v)::kvs) k'=some v:=by simp [valV]
     rw [e1,e2];exact ⟨fun d h=>by cases h;exact ⟨v,rfl,r1⟩,fun h=>by cases h⟩
   · have e1:valD ((((k',v)::kvs)).map (·.1)) (d'::ds') k=valD (kvs.map (·.1)) ds' k:=by simp [valD,hk]
     have e2:valV ((k',v)::kvs) k=valV kvs k:=by simp [valV,hk]
     rw [e1,e2];exact ih
def jbJ (kvs:List (Key×V)) (k:Key):(kvs.any fun kv=>decide (kv.1=k))=hasK (kvs.map (·.1)) k:=by
 unfold hasK;rw [List.any_map];rfl
theorem Xb {v:V} {d:D} (k:Key) (rv:Rep K A H v d): ∀ {kvs:List (Key×V)} {ds:List D},Reps K A H (kvs.map (·.2)) ds->Reps K A H ((kvs.map (fun kv=>if kv.1=k then (kv.1,v) else kv)).map (·.2)) (((kvs.map (·.1)).zip ds).map (fun p=>if p.1=k then d else p.2))
 | [],_,.nil=> .nil
 | (k',v')::kvs,_,.cons r1 r2=>by
  have ih:=Xb k rv r2
  by_cases hk:k'=k
  · simp only [aat,abp,hk,if_true];exact .cons rv (by simpa [hk] using ih)
  · simp only [aat,abp,hk,if_false];exact .cons r1 ih
def jag {v:V} {d:D} {kvs:List (Key×V)} {ds:List D} (k:Key) (r:Reps K A H (kvs.map (·.2)) ds) (rv:Rep K A H v d):
   (putK kvs k v).map (·.1)=xi (kvs.map (·.1)) k/\Reps K A H ((putK kvs k v).map (·.2)) (xw (kvs.map (·.1)) ds k d):=by
 unfold putK xi xw;rw [jbJ]
 by_cases h:hasK (kvs.map (·.1)) k=true
 · rw [if_pos h,if_pos h,if_pos h];refine ⟨?_,Xb k rv r⟩;rw [abE];apply adg;intro p _;simp
   split<;>rfl
 · rw [if_neg h,if_neg h,if_neg h];refine ⟨by simp,?_⟩;rw [abR];exact r.append (.cons rv .nil)
def Rep.dicE {v:V} {ks:List Key} {ds:List D} (r:Rep K A H v (.dic ks ds)): ∃a kvs,v= .ref a/\H a=some (.dK kvs)/\A a/\kvs.map (·.1)=ks/\Reps K (fun c=>A c/\c≠a) H (kvs.map (·.2)) ds:=by
 cases r with
 |dic e a k1 k2 r=>subst k2;exact ⟨_,_,rfl,e,a,k1,r⟩
end
def ko {K:aaa} {G:Wb} {H0 H:Hp} {env:Sl} {σ:L2.St} {i:Nat} {ks:List Key} {ds:List D} (k:EnvOk K G H0 env σ H) (hi:env[i]?=some (.own (.dic ks ds))): ∃a kvs,σ[i]?=some (some (.ref a))/\H a=some (.dK kvs)/\kvs.map (·.1)=ks/\Reps K (Sf G env σ) H (kvs.map (·.2)) ds:=by
 obtain ⟨a,h1,h0,h2⟩:=k.own i _ hi
 cases h2 with
 |dic e k1 k2 r=>subst k2;exact ⟨a,_,h1,e,k1,r⟩
def ownK (i:Nat) (env:Sl):Res (List Key×List D):=match env[i]? with
 |some (.own (.dic ks ds))=> .ok (ks,ds)
 |_=> .stuck
def kr {i:Nat} {env:Sl} {p:List Key×List D} (h:ownK i env= .ok p):env[i]?=some (.own (.dic p.1 p.2)):=by
 unfold ownK at h
 split at h
 · cases h;assumption
 · cases h
def EnvOk.putD {K:aaa} {G:Wb} {H0 H:Hp} {env:Sl} {σ:L2.St} {i:Nat} {ks:List Key} {ds:List D} {a:Addr} {kvs:List (Key×V)} {v:V} {d:D} {kk:Key} (k:EnvOk K G H0 env σ H) (hi:env[i]?=some (.own (.dic ks ds))) (ha:σ[i]?=some (some (.ref a))) (hx:H a=some (.dK kvs)) (hk:kvs.map (·.1)=ks)
  (r:Reps K (Sf G env σ) H (kvs.map (·.2)) ds) (rv:Rep K (Sf G env σ) H v d):EnvOk K G H0 (env.set i (.own (.dic (xi ks kk) (xw ks ds kk d)))) σ (upd H a (.dK (putK kvs kk v)))/\Frm env σ H (env.set i (.own (.dic (xi ks kk) (xw ks ds kk d)))) σ (upd H a (.dK (putK kvs kk v))):=by
 subst hk;obtain ⟨p1,p2⟩:=jag kk r rv;exact k.writeG hi ha hx trivial fun A' H' st e w=> .dic e p1 rfl (p2.stay st w)
section
variable {X:Cx} {K:aaa}
def getK:D->D->Res D
 | .dic ks ds,kd=>match keyD kd with
  |some k=>match valD ks ds k with
   |some d=> .ok d
   |none=> .stuck
  |none=> .stuck
 |_,_=> .stuck
def jcj:R2:=fun x y H Q=> ∃a kvs k v,x= .ref a/\y=kV k/\H a=some (.dK kvs)/\valV kvs k=some v/\Q v H
def ja1 (hu:X.A.units+1<cLine):IxR X jcj:=by
 intro value slice pins s σ H x y v u Q I rx ry h hs;obtain ⟨a,kvs,k,z,rfl,rfl,ha,hv,q⟩:=h;obtain rfl:v=aaK a:=rx;have g:DGet H a (kV k) (some z):=by rw [←hv];exact DGet.k ha
 exact tail_any (Jf I g) ac4.lookup (ZM hu I g ry fun w' s' I' rw'=>⟨z,H,I',rw',q⟩) hs
def jaK {A:Wb} {x y:V} {H:Hp} {a b d:D} {Q:VK} (ra:Rep K A H x a) (rb:Rep K Any H y b) (h:getK a b= .ok d) (q: ∀v,Rep K A H v d->Q v H):jcj x y H Q:=by
 unfold getK at h
 split at h
 · split at h
   · rename_i k hk
     split at h
     · rename_i d' hd;cases h;obtain ⟨a,kvs,rfl,ha,_,rfl,r⟩:=ra.dicE;obtain ⟨v,h1,h2⟩:=(Kq k r.low).1 _ hd;exact ⟨a,kvs,k,v,rfl,WB rb hk,ha,h1,q v h2⟩
     · cases h
   · cases h
 · cases h
variable {a b:Expr} {f1 f2:T0} {l2:Lv} {pos p:Pos}
def jbs (hu:X.A.units+1<cLine) (ha:DE X .s a f1) (hb:DE X l2 b f2) (hs:QW b:=by intro _ _;rfl):DE X .s (.Subscript a b pos) (two f1 f2 getK):=by
 with_unfolding_all exact (
  PE.imp (jaA (ja1 hu) ha hb hs) fun σ H Q ⟨G,H0,env,d,k,ef,q⟩=>by
   obtain ⟨a',e1,ef⟩:=jd ef;obtain ⟨b',e2,e3⟩:=jd ef;refine ⟨G,H0,env,a',k,e1,fun x H1 s1 r1 _=>⟨G,H0,env,b',k.grow s1,e2,fun y H2 s2 r2 _=>?_⟩⟩
   exact jaK (r1.grow s2) (r2.weak Lv.weak_b) e3 fun v r3=>q v H2 (s1.trans s2) r3 trivial)
end
section
variable {X:Cx} {K:aaa} {l1 l2:Lv} {e1 e2:Expr} {fk fv:T0} {pos cpos apos p:Pos} {x:Str}
def Ut (i:Nat) (fk fv:T0):Sl->Res Out:=fun env=>ownK i env>>=fun q=>fv env>>=fun d=>fk env>>=fun kd=>match keyD kd with
 |some k=>must (q.1.length<aai) (.ok (.nx (env.set i (.own (.dic (xi q.1 k) (xw q.1 q.2 k d))))))
 |none=> .stuck
def jbn (i:Nat) (hu:X.A.units+1<cLine) (hk:DE X l1 e1 fk) (hv:DE X .s e2 fv) (hN:X.N[i]?=some x:=by rfl) (hvs:Vis X.env.scope x:=by first|exact abV rfl|exact abj (abV rfl)|exact abj (abj rfl))
   (hd:Ym x:=by decide) (hcd:Yl x:=by decide)
   (hs:abY e2 (some (.Subscript (.Name x p) e1 apos)) pos.line X.env=pure false:=by rfl):
   DS X (.Assign [.Subscript (.Name x p) e1 apos] e2 pos) (Ut i fk fv):=by
 with_unfolding_all exact (
  PS.imp (KD hu (wn hN hvs hd hcd) hk hv hs) fun E σ H ⟨G,H0,env,o,k,ef,q⟩=>by
   obtain ⟨ks,c1,ef⟩:=jd ef;obtain ⟨d,c2,ef⟩:=jd ef;obtain ⟨kd,c3,c4⟩:=jd ef;have hi:=kr c1;obtain ⟨a,kvs,ha,hx,hkk,rs⟩:=ko k hi
   cases hkey:keyD kd with
   |none=>rw [hkey] at c4;cases c4
   |some kk=>
    rw [hkey] at c4;obtain ⟨hz,c5⟩:=jn c4;cases c5;refine ⟨G,H0,env,d,k,c2,fun v H1 s1 r1 _=>⟨.ref a,ha,G,H0,env,kd,k.grow s1,c3,fun y H2 s2 r2 _=>?_⟩⟩;have hx2:=s2 _ _ (s1 _ _ hx);have hy:=WB (r2.weak Lv.weak_b) hkey;subst hy;have hl:kvs.length<aai:=by rw [←hkk,aak] at hz;exact hz
    refine ⟨a,_,rfl,DPut.k hx2 hl,?_⟩;have W:=((k.grow s1).grow s2).putD (kk:=kk) hi ha hx2 hkk ((rs.grow s1).grow s2) (r1.grow s2)
    exact q σ _ W.1 ((W.2.grow s2).grow s1))
end
section
variable {X:Cx} {tg a b c:Expr} {ta:TA} {p pos:Pos}
def Vd:Sl->Res Out:=fun _=> .stuck
def Ul {sts:List Stmt}:DSs X sts Vd:=by
 with_unfolding_all exact (PSs.imp Kz fun E σ H ⟨G,H0,env,o,k,ef,q⟩=>by cases ef)
end
end M
namespace M
open PySem PySem.W PyProof.Rows
def Wk {α:Type} (lt:Nat->Nat->Bool) (n:Nat) (R:α->Prop):KasT α->Prop
 | .ret a=>R a
 | .ask i j k=>i<n/\j<n/\Wk lt n R (k (lt i j))
theorem Wk.bind {α β:Type} {lt:Nat->Nat->Bool} {n:Nat} {R:α->Prop} {R':β->Prop} {f:α->KasT β} (hf: ∀a,R a->Wk lt n R' (f a)): ∀ {t:KasT α},Wk lt n R t->Wk lt n R' (t.bind f)
 | .ret a,h=>hf a h
 | .ask i j k,h=>⟨h.1,h.2.1,Wk.bind hf h.2.2⟩
theorem Wk.imp {α:Type} {lt:Nat->Nat->Bool} {n:Nat} {R R':α->Prop} (hr: ∀a,R a->R' a): ∀ {t:KasT α},Wk lt n R t->Wk lt n R' t
 | .ret a,h=>hr a h
 | .ask i j k,h=>⟨h.1,h.2.1,Wk.imp hr h.2.2⟩
theorem uj {α:Type} {lt:Nat->Nat->Bool} {n:Nat} {R:α->Prop} {Q:α->aah->Prop} {P:aah->Prop} {cmp:Nat->Nat->(Bool->aah->Prop)->aah->Prop}
  (hc: ∀i j C s,i<n->j<n->P s->(∀s',P s'->C (lt i j) s')->cmp i j C s) (hQ: ∀a s,R a->P s->Q a s): ∀(t:KasT α) (s:aah),Wk lt n R t->P s->t.kasWp cmp Q s
 | .ret a,s,h,hs=>hQ a s h hs
 | .ask i j k,s,h,hs=>hc i j _ s h.1 h.2.1 hs fun s' hs'=>uj hc hQ _ s' h.2.2 hs'
structure Ord (lt:Nat->Nat->Bool) (n:Nat):Prop where
 asym: ∀i j,lt i j=true->lt j i=false
 trans: ∀i j k,i<n->j<n->k<n->lt i j=true->lt j k=true->lt i k=true
 total: ∀i j,i<n->j<n->i≠j->lt i j=true\/lt j i=true
abbrev at0 (p:Array Nat) (i:Nat):Nat:=p.getD i 0
structure Pm (p:Array Nat) (n:Nat):Prop where
 size:p.size=n
 perm:p.toList.Perm (aaT n)
def xG {p:Array Nat} {i:Nat} (h:i<p.size):p[i]?=some (at0 p i):=by
 rw [aay h];simp [at0,aeC,h]
def Pm.lt {p:Array Nat} {n i:Nat} (h:Pm p n) (hi:i<n):at0 p i<n:=by
 have hi':i<p.size:=by rw [h.size];exact hi
 have:at0 p i∈p.toList:=by simp [at0,aeC,hi']
 exact aaO.mp (h.perm.mem_iff.mp this)
def Pm.ne {p:Array Nat} {n i j:Nat} (h:Pm p n) (hi:i<n) (hj:j<n) (hij:i≠j):at0 p i≠at0 p j:=by
 have nd:=h.perm.nodup_iff.mpr adc;have hi':i<p.toList.length:=by simp [h.size,hi]
 have hj':j<p.toList.length:=by simp [h.size,hj]
 intro e;have e1:at0 p i=p.toList[i]:=by simp [at0,aeC,h.size,hi]
 have e2:at0 p j=p.toList[j]:=by simp [at0,aeC,h.size,hj]
 rw [e1,e2] at e;have pw:=abO.mp nd;rcases Nat.lt_or_gt_of_ne hij with z|z
 · exact pw i j hi' hj' z e
 · exact pw j i hj' hi' z e.symm
def Pm.of {p q:Array Nat} {n:Nat} (h:Pm p n) (hs:q.size=p.size) (hp:q.Perm p):Pm q n:=⟨by rw [hs,h.size],(Array.perm_iff_toList_perm.mp hp).trans h.perm⟩
def Pm.rev {p:Array Nat} {n:Nat} (h:Pm p n) (i j:Nat):Pm (kas_rev p i j) n:=h.of (mirror_size _ _ _ _) (mirror_perm _ _ _ _)
def UN {p:Array Nat} {n j k:Nat} (h:Pm p n) (hj:j<=n) (hk:k<n):at0 (kas_rev p 0 j) k=if k<j then at0 p (j-1-k) else at0 p k:=by
 have hR:=h.rev 0 j;have e:=getElem?_mirror_all (i:=0) (by rw [h.size];exact hj) k;have e1:=xG (by rw [hR.size];exact hk);unfold kas_rev at e1;rw [e] at e1;simp only [aa7,true_and,adQ] at e1
 split at e1
 · rename_i hkj;rw [if_pos hkj];rw [xG (by rw [h.size];omega)] at e1;exact (aaI e1).symm
 · rename_i hkj;rw [if_neg hkj];rw [xG (by rw [h.size];exact hk)] at e1;exact (aaI e1).symm
section
variable {lt:Nat->Nat->Bool} {n:Nat} (O:Ord lt n)
def Up (lt:Nat->Nat->Bool) (p:Array Nat) (k:Nat):Prop:= ∀i j,i<j->j<k->lt (at0 p i) (at0 p j)=true
def Down (lt:Nat->Nat->Bool) (p:Array Nat) (k:Nat):Prop:= ∀i j,i<j->j<k->lt (at0 p j) (at0 p i)=true
include O
theorem Up.snoc {p:Array Nat} {k:Nat} (hp:Pm p n) (hk:k+1<n) (h:Up lt p (k+1)) (hl:lt (at0 p k) (at0 p (k+1))=true):Up lt p (k+2):=fun i j hij hj=>by
 by_cases e:j=k+1
 · subst e
   by_cases e2:i=k
   · subst e2;exact hl
   · exact O.trans _ _ _ (hp.lt (by omega)) (hp.lt (by omega)) (hp.lt hk) (h i k (by omega) (by omega)) hl
 · exact h i j hij (by omega)
theorem Down.snoc {p:Array Nat} {k:Nat} (hp:Pm p n) (hk:k+1<n) (h:Down lt p (k+1)) (hl:lt (at0 p (k+1)) (at0 p k)=true):Down lt p (k+2):=fun i j hij hj=>by
 by_cases e:j=k+1
 · subst e
   by_cases e2:i=k
   · subst e2;exact hl
   · exact O.trans _ _ _ (hp.lt hk) (hp.lt (by omega)) (hp.lt (by omega)) hl (h i k (by omega) (by omega))
 · exact h i j hij (by omega)
theorem jbQ {p:Array Nat} {i j:Nat} (hp:Pm p n) (hi:i<n) (hj:j<n) (hij:i≠j) (h:lt (at0 p i) (at0 p j)=false):lt (at0 p j) (at0 p i)=true:=by
 rcases O.total _ _ (hp.lt hi) (hp.lt hj) (hp.ne hi hj hij) with z|z
 · rw [h] at z;cases z
 · exact z
theorem jbH {p:Array Nat} (hp:Pm p n): ∀(f m:Nat),1<=m->m+f=n->Up lt p m->Wk lt n (fun r=>m<=r/\r<=n/\Up lt p r/\(r<n->lt (at0 p r) (at0 p (r-1))=true)) (kas_asc p f m)
 |0,m,h1,h2,h=>⟨aae _,by omega,h,fun z=>by omega⟩
 |f+1,m,h1,h2,h=>by
  refine ⟨hp.lt (by omega),hp.lt (by omega),?_⟩
  cases hc:lt (p.getD m 0) (p.getD (m-1) 0) with
  |true=>
   exact ⟨aae _,by omega,h,fun _=>hc⟩
  |false=>
   have hup:Up lt p (m+1):=by
    have e:m=(m-1)+1:=by omega
    have hl:=jbQ O hp (by omega) (by omega) (by omega) hc;rw [e] at h ⊢;exact Up.snoc O hp (by omega) h (by rw [←e];exact hl)
   have ih:=jbH hp f (m+1) (by omega) (by omega) hup;exact Wk.imp (fun r ⟨a,b,c,d⟩=>⟨by omega,b,c,d⟩) ih
theorem uF {p:Array Nat} (hp:Pm p n): ∀(f m:Nat),1<=m->m+f=n->Down lt p m->Wk lt n (fun r=>r.1=p/\m<=r.2.1/\r.2.1<=n/\Down lt p r.2.1/\r.2.2=0) (kas_desc f p m 0)
 |0,m,h1,h2,h=>⟨rfl,aae _,(show m<=n by omega),h,rfl⟩
 |f+1,m,h1,h2,h=>by
  refine ⟨hp.lt (by omega),hp.lt (by omega),?_⟩
  cases hc:lt (p.getD m 0) (p.getD (m-1) 0) with
  |true=>
   have hdn:Down lt p (m+1):=by
    have e:m=(m-1)+1:=by omega
    have hl:=hc;rw [e] at h ⊢;exact Down.snoc O hp (by omega) h (by rw [←e];exact hl)
   have ih:=uF hp f (m+1) (by omega) (by omega) hdn;exact Wk.imp (fun r ⟨a,b,c,d,e⟩=>⟨a,by omega,c,d,e⟩) ih
  |false=>
   have hl:=jbQ O hp (by omega) (by omega) (by omega) hc;refine ⟨hp.lt (by omega),hp.lt (by omega),?_⟩;show Wk lt n _ (if lt (at0 p (m-1)) (at0 p m)=true then _ else _);rw [if_pos hl];exact ⟨rfl,aae _,(show m<=n by omega),h,rfl⟩
theorem Down.rev {p:Array Nat} {k:Nat} (hp:Pm p n) (hk:k<=n) (h:Down lt p k):Up lt (kas_rev p 0 k) k:=fun i j hij hj=>by
 rw [UN hp hk (by omega),UN hp hk (by omega),if_pos (by omega),if_pos hj];exact h _ _ (by omega) (by omega)
theorem jbX {p:Array Nat} {k:Nat} (hp:Pm p n) (h1:1<=k) (hk:k<=n) (h:Down lt p k):Wk lt n (fun r=>1<=r.1/\r.1<=n/\Pm r.2 n/\Up lt r.2 r.1) (kas_tail3 k n p):=by
 unfold kas_tail3;refine Wk.bind (fun r ⟨a,b,c,_⟩=>?_) (jbH O (hp.rev 0 k) (n-k) k h1 (by omega) (Down.rev O hp hk h));exact ⟨by omega,b,hp.rev 0 k,c⟩
theorem jby {p:Array Nat} (hp:Pm p n) (hn:1<=n):Wk lt n (fun r=>1<=r.1/\r.1<=n/\Pm r.2 n/\Up lt r.2 r.1) (kas_count n p):=by
 unfold kas_count;refine Wk.bind (fun r ⟨a,b,c,d⟩=>?_) (jbH O hp (n-1) 1 (aae _) (by omega) (fun i j hij hj=>by omega))
 by_cases e:r=n
 · subst e;rw [if_pos (by simp)];exact ⟨a,b,hp,c⟩
 · rw [if_neg (by simpa using e)]
   by_cases h1:r>1
   · rw [if_pos h1];refine ⟨hp.lt (by omega),hp.lt (by omega),?_⟩;have:lt (p.getD 0 0) (p.getD (r-1) 0)=true:=c 0 (r-1) (by omega) (by omega);show Wk lt n _ (if lt (p.getD 0 0) (p.getD (r-1) 0)=true then _ else _);rw [if_pos this];exact ⟨a,b,hp,c⟩
   · rw [if_neg h1];have hr:r=1:=by omega
     subst hr;unfold kas_descPart
     have hd:Down lt p 2:=fun i j hij hj=>by
      have:i=0/\j=1:=by omega
      obtain ⟨rfl,rfl⟩:=this;exact d (by omega)
     refine Wk.bind (fun q ⟨q1,q2,q3,q4,q5⟩=>?_) (uF O hp (n-2) 2 (by omega) (by omega) hd);rw [if_neg (by omega),q1];exact jbX O hp (by omega) q3 q4
theorem Wh {p:Array Nat} {k:Nat} (hp:Pm p n) (hk:k<n) (hu:Up lt p k): ∀(f l r:Nat),l<=r->r<=k->r-l<=f->(∀i,i<l->lt (at0 p i) (at0 p k)=true)->(∀i,r<=i->i<k->lt (at0 p k) (at0 p i)=true)->
  Wk lt n (fun m=>m<=k/\(∀i,i<m->lt (at0 p i) (at0 p k)=true)/\ ∀i,m<=i->i<k->lt (at0 p k) (at0 p i)=true) (kas_place p k f l r)
 |0,l,r,h1,h2,h3,hl,hr=>⟨by omega,hl,fun i a b=>hr i (by omega) b⟩
 |f+1,l,r,h1,h2,h3,hl,hr=>by
  unfold kas_place
  by_cases e:l>=r
  · rw [if_pos e];exact ⟨by omega,hl,fun i a b=>hr i (by omega) b⟩
  · rw [if_neg e];have hm:(l+r)/2<r:=by omega
    refine ⟨hp.lt hk,hp.lt (by omega),?_⟩
    cases hc:lt (p.getD k 0) (p.getD ((l+r)/2) 0) with
    |true=>
     refine Wh hp hk hu f l ((l+r)/2) (by omega) (by omega) (by omega) hl fun i a b=>?_
     by_cases e2:i=(l+r)/2
     · rw [e2];exact hc
     · exact O.trans _ _ _ (hp.lt hk) (hp.lt (show (l+r)/2<n by omega)) (hp.lt (by omega)) hc (hu _ _ (by omega) b)
    |false=>
     have hl2:=jbQ O hp hk (by omega) (by omega) hc;refine Wh hp hk hu f ((l+r)/2+1) r (by omega) h2 (by omega) (fun i a=>?_) hr
     by_cases e2:i=(l+r)/2
     · rw [e2];exact hl2
     · exact O.trans _ _ _ (hp.lt (by omega)) (hp.lt (show (l+r)/2<n by omega)) (hp.lt hk) (hu _ _ (by omega) (by omega)) hl2
theorem J1 {p:Array Nat} {k l i:Nat} (hp:Pm p n) (hk:k<n) (hl:l<=k) (hi:i<n):at0 (bubble p k (k-l)) i=if i=l then at0 p k else if l<i/\i<=k then at0 p (i-1) else at0 p i:=by
 have hB:Pm (bubble p k (k-l)) n:=hp.of (bubble_size _ _ _) (bubble_perm _ _ _);have e:=getElem?_bubble (by rw [hp.size];exact hk) (k-l) (by omega) i;rw [xG (by rw [hB.size];exact hi)] at e;have ekl:k-(k-l)=l:=by omega
 rw [ekl] at e
 split at e
 · rename_i z;rw [if_pos z];rw [xG (by rw [hp.size];exact hk)] at e;exact aaI e
 · rename_i z;rw [if_neg z]
   split at e
   · rename_i z2;rw [if_pos z2];rw [xG (by rw [hp.size];omega)] at e;exact aaI e
   · rename_i z2;rw [if_neg z2];rw [xG (by rw [hp.size];exact hi)] at e;exact aaI e
theorem jdA : ∀ (f : Nat) (p : Array Nat) (k : Nat), Pm p n -> k + f = n -> Up lt p k -> Wk lt n (fun q => Pm q n /\ Up lt q n) (kas_bin f p k)
  | 0, p, k, hp, hk, h => ⟨hp, by have : k = n := by omega
                                  rw [this] at h; exact h⟩
  | f + 1, p, k, hp, hk, h => by
    unfold kas_bin
    refine Wk.bind (fun l ⟨a, b, c⟩ => ?_) (Wh O hp (by omega) h k 0 k (by omega) (aae _) (by omega) (fun i z => by omega) (fun i z w => by omega))
    refine jdA f _ (k + 1) (hp.of (bubble_size _ _ _) (bubble_perm _ _ _)) (by omega) fun i j hij hj => ?_
    rw [J1 O hp (by omega) a (by omega), J1 O hp (by omega) a (by omega)]
    by_cases e1 : i = l
    · rw [if_pos e1, if_neg (by omega), if_pos (by omega)]
      exact c _ (by omega) (by omega)
    · rw [if_neg e1]
      by_cases e2 : l < i /\ i <= k
      · rw [if_pos e2, if_neg (by omega), if_pos (by omega)]
        exact h _ _ (by omega) (by omega)
      · rw [if_neg e2]
        by_cases e3 : j = l
        · rw [if_pos e3]; exact b _ (by omega)
        · rw [if_neg e3]
          by_cases e4 : l < j /\ j <= k
          · rw [if_pos e4]
            by_cases e5 : i = j - 1
            · omega
            · exact h _ _ (by omega) (by omega)
          · rw [if_neg e4]; exact h _ _ hij (by omega)
theorem jb5 (hn:1<=n):Wk lt n (fun q=>Pm q n/\Up lt q n) (kas_sort n):=by
 have hp:Pm (adk (aaT n)) n:=⟨by simp,by simp⟩
 unfold kas_sort;refine Wk.bind (fun r ⟨a,b,c,d⟩=>?_) (jby O hp hn)
 by_cases e:r.1<n
 · rw [if_pos e];have:max r.1 1=r.1:=by omega
   rw [this];exact jdA O _ _ _ c (by omega) d
 · rw [if_neg e];have:r.1=n:=by omega
   rw [this] at d;exact ⟨c,d⟩
end
section
variable {prog:aaL} {w:World} {A:aaZ} {E:T9} {s:aah} {a:Addr} {vs:List Value} {n:Nat}
def za (h:Heap) (a:Addr) (vs:List Value):Heap:=((h.update a (acJ fun _=>(#[]:Array Value))).push (adw "tuple" vs.toArray 0)).push (adw "list" #[] 0)
def Wm (vs:List Value) (p:Array Nat):List Value:=p.toList.map fun i=>vs.getD i abD
def x5 {h:Heap} {b:Addr} {o:Obj} (hb:b≠a) (e:h.get? b=some o):(za h a vs).get? b=some o:=
 aad _ (aad _ ((ach _ _ (acK hb)).trans e))
def Qz {P:PySem.Fin->aah->Prop} {lt:Nat->Nat->Bool} (O:Ord lt vs.length) (κ:SortKind) (ho:s.heap.get? a=some (adw "list" vs.toArray n)) (h2:2<=vs.length) (h64:vs.length<64)
  (hk: ∀Q:SortKind->aah->Prop,Q κ {s with heap:=za s.heap a vs}->wpAny (model prog w) A (keyKind' vs.toArray) Q (fun _ _=>False) {s with heap:=za s.heap a vs})
  (hc: ∀i j C,i<vs.length->j<vs.length->C (lt i j) {s with heap:=za s.heap a vs}->kas_ask prog w A κ vs i j C {s with heap:=za s.heap a vs})
  (h: ∀p h' c,Pm p vs.length->Up lt p vs.length->(∀b o,b≠a->s.heap.get? b=some o->h'.get? b=some o)->h'.get? a=some (adw "list" (adk (Wm vs p)) c)->P (.done (.ret .none)) {s with heap:=h'}):
  wpAny (model prog w) A (ad6.«list.sort» ⟨[.ref a],[]⟩) P E s:=by
 obtain ⟨c1,b1⟩: ∃c1,(s.heap.update a (acJ fun _=>(#[]:Array Value))).get? a=some (adw "list" #[] c1):=⟨_,aeh ho fun _=> #[]⟩
 have b2:(za s.heap a vs).get? a=some (adw "list" #[] c1):=aad _ (aad _ b1);have big:vs.length<=aai:=by rw [acs];omega
 have walk:(kas_sort vs.length).kasWp (kas_ask prog w A κ vs) (fun p t=>t={s with heap:=za s.heap a vs}/\Pm p vs.length/\Up lt p vs.length) {s with heap:=za s.heap a vs}:=
  uj (P:=fun t=>t={s with heap:=za s.heap a vs}) (fun i j C t hi hj ht hC=>by subst ht;exact hc i j C hi hj (hC _ rfl)) (fun p t hp ht=>⟨ht,hp⟩) _ _ (jb5 O (by omega)) rfl
 rw [list_sort_plain];refine aab (listItems_at ho rfl (aab (listUpdate_at ho rfl (aab (seqEpoch_at b1 rfl (aab (wpAny_newTuple (aab (wpAny_newList (aba ?_) (aa7 _))) (by show vs.length<=aai;exact big))))) (by rw [aag];exact big) (aa7 _))));dsimp only;have small: ¬vs.toArray.size<2:=by rw [aag];omega
 rw [if_neg small,if_neg small];refine aab (abT (hk (fun κ' t=>κ'=κ/\t={s with heap:=za s.heap a vs}) ⟨rfl,rfl⟩) (fun κ' t hkt=>?_) fun _ _ z=>z.elim);obtain ⟨rfl,rfl⟩:=hkt;refine aab (abT (kat_run (Q:=fun st t=> ∃p:Array Nat,p.size=vs.length/\arrOf st=p.map (kas_item (vs.toArray.zip vs.toArray))/\failedOf st=none/\t={s with heap:=za s.heap a vs}/\Pm p vs.length/\Up lt p vs.length) rfl h2 h64 (fun p st t z1 z2 z3 z4=>⟨p,z1,z2,z3,z4⟩) walk) ?_ fun _ _ z=>z);rintro ⟨⟨⟩,st⟩ t ⟨p,hp,har,hf,rfl,hpm,hup⟩;dsimp only;have hsz:(adk (Wm vs p)).size<=aai:=by rw [aag];unfold Wm;rw [aak,aaD,hp];exact big
 rw [kat_snds rfl har];obtain ⟨c2,hc2⟩: ∃c2,((za s.heap a vs).update a (acJ fun _=>adk (Wm vs p))).get? a=some (adw "list" (adk (Wm vs p)) c2):=⟨_,aeh b2 fun _=>adk (Wm vs p)⟩
 refine aab (seqEpoch_at b2 rfl (aab (listUpdate_at b2 rfl ?_ (aa7 _) (Nat.le_succ_of_le hsz))));rw [hf];simp;exact aaf (h p _ c2 hpm hup (fun b o hb e=>(ach _ _ (acK hb)).trans (x5 hb e)) hc2)
end
def DAt (h:Heap) (d:Addr) (ks:List Value) (ep:Nat):Prop:= ∃o es,h.get? d=some o/\o.ExactDict/\o.data= .dict es ep/\es.toList.map (·.key)=ks
section
variable {prog:aaL} {w:World} {A:aaZ} {E:T9} {s:aah} {d it:Addr} {ks:List Value} {ep i:Nat}
def DAt.typeIs (x:DAt s.heap d ks ep):s.TypeIs (.ref d) "dict" :=let ⟨o,es,ho,hc,_⟩:=x;⟨o,ho,hc.1⟩
def DAt.at {h h':Heap} (x:DAt h d ks ep) (e: ∀o,h.get? d=some o->h'.get? d=some o):DAt h' d ks ep:=let ⟨o,es,ho,r⟩:=x;⟨o,es,e _ ho,r⟩
def DAt.lt {h:Heap} (x:DAt h d ks ep):d<h.objs.size:=let ⟨_,_,ho,_⟩:=x;aas ho
def vG {Q:T9} (hd:(d==abU)=false) (hm:DAt s.heap d ks ep)
  (hQ:Q (.ref s.heap.objs.size) {s with heap:=s.heap.push {cls:= .type "dict_keyiterator",data:= .fields #[.ref d,.int 0 0,.int ks.length 0,.int ep 0]}}):wpAny (model prog w) A (pyIter (.ref d)) Q E s:=by
 obtain ⟨o,es,ho,hc,hdat,hkeys⟩:=id hm;have T:=hm.typeIs;have hsz:es.size=ks.length:=by rw [←hkeys];simp
 refine wpAny_pyIter_slot T PySem.F.slot_dict_iter (abW PySem.F.slot_dict_iter T PySem.F.entry_dict_iter ?_ (PySem.F.args_dict_iter_1 _));unfold ad6.«dict.__iter__» Builtin.Dict.dictSlotNone;refine aab (aab (wpAny_notOrdered_dict T (show wpAny _ _ (pure (aaK d)) _ _ s from aaf ?_)));show wpAny _ _ (aeZ d>>=_) _ _ s;unfold aeZ;rw [if_neg (by rw [hd];exact aaH)];refine aab (aaf (aab (wpAny_dictEntries ho hdat (aab (wpAny_dictEpoch ho hdat (aab (abn (aaf ⟨_,rfl, "dict_keyiterator",_,⟨_,aan _ rfl,rfl⟩,abg.lookup,?_⟩))))))));simpa [rawInt,hsz] using hQ
def vH {Q:Option Value->aah->Prop} {k:Value} (hit:s.heap.IsKeyIter it d i ks.length ep) (hm:DAt s.heap d ks ep) (hx:ks[i]?=some k)
  (hQ: ∀h',h'.IsKeyIter it d (i+1) ks.length ep->acn it s.heap h'->Q (some k) {s with heap:=h'}):wpAny (model prog w) A (pyNext (.ref it)) Q E s:=by
 obtain ⟨o,ho,hc,hf⟩:=id hit;obtain ⟨od,es,hod,hcd,hdd,hkeys⟩:=id hm;have hsz:es.size=ks.length:=by rw [←hkeys];simp
 have hlt:i<es.size:=by
  rw [hsz];rcases Nat.lt_or_ge i ks.length with z|z
  · exact z
  · rw [aaU z] at hx;cases hx
 have hk:es[i].key=k:=by
  have:(es.toList.map (·.key))[i]?=some k:=by rw [hkeys];exact hx
  rw [aaG] at this;simpa [hlt] using this
 unfold pyNext;refine aab (wpAny_attempt (abA hit.typeIs abg (abW abg hit.typeIs adh ?_ (ac5 _))));refine aab (aaf (aab (aab ?_)))
 first|refine aab (abX hit.typeIs (aaf (aab (aeu ho hf ?_))))|refine aab (acE hit.typeIs (aaf (aab (aeu ho hf ?_))))
 simp only [show ad4 "dict_keyiterator" =false by decide,aa0,if_false];show wpAny _ _ (if (aaK d==abD)=true then _ else _) _ _ s;rw [if_neg (show¬((aaK d==abD)=true) by exact aaH)];refine aab (aaf (aab (wpAny_dictEntries hod hdd ?_)));rw [if_neg (by rw [hsz];simp)];refine aab (aaf (aab (wpAny_dictEpoch hod hdd ?_)));rw [if_neg (by simp)];refine aaf ?_;simp only [show¬((i:Int)<0) by omega,if_false,abK,aay hlt];refine aab ?_
 first|refine aab (abX hit.typeIs (aaf (aab (adR hit.typeIs ?_))))|refine aab (acE hit.typeIs (aaf (aab (adR hit.typeIs ?_))))
 show wpAny _ _ (setField (.ref it) 1 (rawInt ((i:Int)+1))>>=_) _ _ s;refine aab (aev ho hf (by simp) (aab (aba ?_)))
 have hit2:(s.heap.update it (Obj.mapFields (·.setIfInBounds 1 (rawInt ((i:Int)+1))))).IsKeyIter it d (i+1) ks.length ep:=
  ⟨_,acP _ ho (Obj.isFreed_of_fields (adx hf _)),(Obj.cls_mapFields ..).trans hc,by rw [adx hf];simp [rawInt]⟩
 refine aab (adR hit2.typeIs ?_);rw [hk];exact aaf (aaf ⟨_,rfl,aaf (hQ _ hit2 (ace ..))⟩)
def jbv {Q:Option Value->aah->Prop} (hh:A.handled=none) (hit:s.heap.IsKeyIter it d ks.length ks.length ep) (hm:DAt s.heap d ks ep)
  (hQ: ∀h',Heap.ExtBut it s.heap h'->Q none {s with heap:=h'}):wpAny (model prog w) A (pyNext (.ref it)) Q E s:=by
 obtain ⟨o,ho,hc,hf⟩:=id hit;obtain ⟨od,es,hod,hcd,hdd,hkeys⟩:=id hm;have hsz:es.size=ks.length:=by rw [←hkeys];simp
 unfold pyNext;refine aab (wpAny_attempt (abA hit.typeIs abg (abW abg hit.typeIs adh ?_ (ac5 _))));refine aab (aaf (aab (aab ?_)))
 first|refine aab (abX hit.typeIs (aaf (aab (aeu ho hf ?_))))|refine aab (acE hit.typeIs (aaf (aab (aeu ho hf ?_))))
 simp only [show ad4 "dict_keyiterator" =false by decide,aa0,if_false];show wpAny _ _ (if (aaK d==abD)=true then _ else _) _ _ s;rw [if_neg (show¬((aaK d==abD)=true) by exact aaH)];refine aab (aaf (aab (wpAny_dictEntries hod hdd ?_)));rw [if_neg (by rw [hsz];simp)];refine aab (aaf (aab (wpAny_dictEpoch hod hdd ?_)));rw [if_neg (by simp)];refine aaf ?_;simp only [show¬(((ks.length:Nat):Int)<0) by omega,if_false,abK,Array.getElem?_eq_none (show es.size<=ks.length by omega)];refine aab ?_
 first|refine aab (abX hit.typeIs (aaf ?_))|refine aab (acE hit.typeIs (aaf ?_))
 show wpAny _ _ (setField (.ref it) 0 .none>>=_) _ _ s;refine aab (aev ho hf (by simp) ?_);refine aab ?_;simp only [newExc,newTuple];refine aab (abn (aab (wpAny_of_eq (by first|rfl| (simp;rfl)) (abn ?_ (by size_fits)))) (by size_fits));simp only [raiseNew];refine aab (wpAny_handled ?_);rw [show A.in1.handled=none from hh];refine aab (aaf (wpAny_throw ?_));refine aab (wpAny_isInstance ⟨_,aan _ rfl,rfl⟩ isSubtype_stop ?_);exact aaf (hQ _ (((ace ..).extBut.push _).push _))
def jbu (lo:(d==abU)=false):KdlSrc prog w "dict" d d ks.length (fun i v=>ks[i]?=some v) (fun h=>DAt h d ks ep) where
 type:=fun _ hm=>hm.typeIs
 there:=fun _ hm=>⟨hm.lt,hm.lt⟩
 keep:=fun _ _ hm hk=>hm.at fun o e=>hk d (.inl rfl) o e
 notList:=by decide
 notTuple:=by decide
 hint:=fun _ _ _ _ hm hq=>kdl_hint_dict hm.typeIs hq
 iter:=fun A s hh hm=>⟨_,(fun i h=>h.IsKeyIter s.heap.objs.size d i ks.length ep/\DAt h d ks ep),(fun _ _ hq=>vG lo hm hq),{
  sub:=fun b hb=>by simp at hb;simp [hb]
  frame:=fun _ _ _ st hk=>⟨let ⟨o,ho,r⟩:=st.1;⟨o,hk _ (by simp) o ho,r⟩,st.2.at fun o e=>hk d (by simp) o e⟩
  item:=fun i t Q E hi st hQ=>by
   have hx:ks[i]?=some ks[i]:=by simp [hi]
   exact vH st.1 st.2 hx fun h' hit' hs'=>hQ _ h' t.toks hx ⟨hit',st.2.at fun o e=>hs'.extBut d o (aaJ hm.lt) e⟩ fun b o hb e=>hs'.extBut b o (fun z=>hb (by simp [z])) e
  done:=fun t Q E st hQ=>jbv hh st.1 st.2 fun h' he'=>hQ h' t.toks fun b o hb e=>he' b o (fun z=>hb (by simp [z])) e
  self:=fun _ _ _ _ st hQ=>wpAny_pyIter_keyiter st.1 hQ},⟨⟨_,aan _ rfl,rfl,rfl⟩,hm.at fun o e=>aad _ e⟩⟩
end
abbrev Hd:=Str×Int
def hlt (a b:Hd):Bool:=if a.1=b.1 then decide (a.2<b.2) else decide (a.1.cps.toList<b.1.cps.toList)
def u0 {a b:Str} (h:a.cps.toList=b.cps.toList):a=b:=by
 cases a;cases b;simp;exact Array.toList_inj.mp h
def Xx {a b:Hd} (h:hlt a b=true):hlt b a=false:=by
 unfold hlt at h ⊢
 by_cases e:a.1=b.1
 · rw [if_pos e] at h;rw [if_pos e.symm];simp at h;simp;omega
 · rw [if_neg e] at h;rw [if_neg fun z=>e z.symm];simp at h;simp;exact List.lt_asymm h
def Zy {a b c:Hd} (h1:hlt a b=true) (h2:hlt b c=true):hlt a c=true:=by
 unfold hlt at h1 h2 ⊢
 by_cases e:a.1=b.1
 · rw [if_pos e] at h1
   by_cases e2:b.1=c.1
   · rw [if_pos e2] at h2;rw [if_pos (e.trans e2)];simp at h1 h2 ⊢;omega
   · rw [if_neg e2] at h2;rw [if_neg (by rw [e];exact e2),e];exact h2
 · rw [if_neg e] at h1;simp at h1
   by_cases e2:b.1=c.1
   · rw [if_pos e2] at h2;rw [if_neg (by rw [←e2];exact e),←e2];simpa using h1
   · rw [if_neg e2] at h2;simp at h2;have h3:=List.lt_trans h1 h2;have e3:a.1≠c.1:=fun z=>List.lt_irrefl _ (by rw [z] at h3;exact h3)
     rw [if_neg e3];simpa using h3
def Zz {a b:Hd} (h:a≠b):hlt a b=true\/hlt b a=true:=by
 unfold hlt
 by_cases e:a.1=b.1
 · have e2:a.2≠b.2:=fun z=>h (Prod.ext e z)
   rw [if_pos e,if_pos e.symm];simp;omega
 · rw [if_neg e,if_neg fun z=>e z.symm];simp only [decide_eq_true_eq];have:a.1.cps.toList≠b.1.cps.toList:=fun z=>e (u0 z)
   by_cases z:a.1.cps.toList<b.1.cps.toList
   · exact .inl z
   · exact .inr (Std.lt_of_le_of_ne z (acK this))
def hltI (hs:List Hd) (i j:Nat):Bool:=match hs[i]?,hs[j]? with
 |some a,some b=>hlt a b
 |_,_=>false
def KW {hs:List Hd} (nd:hs.Nodup):Ord (hltI hs) hs.length where
 asym:=fun i j h=>by
  unfold hltI at h ⊢
  cases hi:hs[i]? with
  |none=>rw [hi] at h;cases h
  |some a=>
    cases hj:hs[j]? with
    |none=>rfl
    |some b=>rw [hi,hj] at h;exact Xx h
 trans:=fun i j k hi hj hk h1 h2=>by
  unfold hltI at h1 h2 ⊢;rw [aac hi,aac hj] at h1;rw [aac hj,aac hk] at h2;rw [aac hi,aac hk];exact Zy h1 h2
 total:=fun i j hi hj hij=>by
  unfold hltI;rw [aac hi,aac hj];refine Zz fun e=>?_
  have pw:=abO.mp nd;rcases Nat.lt_or_gt_of_ne hij with z|z
  · exact pw i j hi hj z e
  · exact pw j i hj hi z e.symm
def IsHd (h:Heap) (v:Value) (a:Hd):Prop:= ∃b o n t u,v= .ref b/\h.get? b=some o/\o.cls= .type "tuple" /\o.data= .seq #[.str a.1 t,.int a.2 u] n
section
variable {prog:aaL} {w:World} {A:aaZ} {E:T9} {s:aah}
def jdh {x y:Addr} {ox oy:Obj} {a b:Hd} {n m:Nat} {t u t' u':Tok} {Q:Bool->aah->Prop} (hx:s.heap.get? x=some ox) (dx:ox.data= .seq #[.str a.1 t,.int a.2 u] n) (hy:s.heap.get? y=some oy) (dy:oy.data= .seq #[.str b.1 t',.int b.2 u'] m) (h:Q (hlt a b) s):
   wpAny (model prog w) A (keyLt' (tuples' true) (.ref x) (.ref y)) Q E s:=by
 refine kat_lt hx dx hy dy ?_;refine kat_cons (eqBool_str (kat_go (fun e=>kat_yes (kat_cons (wpAny_eqBool_int (kat_go (fun e2=>kat_yes (kat_nil ?_)) fun e2=>kat_no (kat_one _ _ (wpAny_lt_int ?_)))))) fun e=>kat_no (oneLt_str ?_)))
 · have h1:a.1=b.1:=by simpa using e
   have h2:a.2=b.2:=by simpa using e2
   have:hlt a b=false:=by unfold hlt;rw [if_pos h1];simp [h2]
   rw [this] at h;exact h
 · have h1:a.1=b.1:=by simpa using e
   have:hlt a b=decide (a.2<b.2):=by unfold hlt;rw [if_pos h1]
   rw [this] at h;exact (show Q (decide (a.2<b.2)) s from h)
 · have h1:a.1≠b.1:=by simpa using e
   have:hlt a b=decide (a.1.cps.toList<b.1.cps.toList):=by unfold hlt;rw [if_neg h1]
   rw [this] at h;exact h
def IsHd.keep {h h':Heap} {v:Value} {a:Hd} (x:IsHd h v a) (k: ∀b o,h.get? b=some o->o.cls= .type "tuple" ->h'.get? b=some o):IsHd h' v a:=
 let ⟨b,o,n,t,u,e,ho,hc,hd⟩:=x;⟨b,o,n,t,u,e,k b o ho hc,hc,hd⟩
inductive AreHd (h:Heap):List Value->List Hd->Prop where
 |nil:AreHd h [] []
 |cons {v:Value} {a:Hd} {vs:List Value} {hs:List Hd}:IsHd h v a->AreHd h vs hs->AreHd h (v::vs) (a::hs)
theorem AreHd.length {h:Heap}: ∀ {vs:List Value} {hs:List Hd},AreHd h vs hs->vs.length=hs.length
 |_,_,.nil=>rfl
 |_,_,.cons _ t=>by simp [t.length]
theorem AreHd.keep {h h':Heap} (k: ∀b o,h.get? b=some o->o.cls= .type "tuple" ->h'.get? b=some o): ∀ {vs:List Value} {hs:List Hd},AreHd h vs hs->AreHd h' vs hs
 |_,_,.nil=> .nil
 |_,_,.cons x t=> .cons (x.keep k) (t.keep k)
theorem AreHd.get {h:Heap}: ∀ {vs:List Value} {hs:List Hd} {i:Nat} {a:Hd},AreHd h vs hs->hs[i]?=some a->IsHd h (vs.getD i abD) a
 |_,_,0,a,.cons x t,e=>by simp at e;subst e;simpa using x
 |_,_,i+1,a,.cons x t,e=>by simpa using t.get (by simpa using e)
theorem AreHd.tups {h:Heap}: ∀ {vs:List Value} {hs:List Hd},AreHd h vs hs-> ∃fs,KatTups h vs fs/\fs.length=vs.length/\ ∀f∈fs,∃z t,f= .str z t
 |_,_,.nil=>⟨[],KatTups.nil,rfl,fun _ z=>nomatch z⟩
 |_,_,.cons x r=>by
  obtain ⟨fs,k1,k2,k3⟩:=r.tups;obtain ⟨b,o,n,t,u,rfl,ho,hc,hd⟩:=x
  exact ⟨_::fs,KatTups.cons ho hc hd rfl k1,by simp [k2],fun f hf=>by
   rcases aaq.mp hf with rfl|hf
   · exact ⟨_,_,rfl⟩
   · exact k3 f hf⟩
def Vm {M:Model} {h:Heap} {z:Str} {t:Tok}:Looks M h (typeOf (.str z t)) (.type "str"):=Looks.of_pure rfl
def Yg {P:PySem.Fin->aah->Prop} {a:Addr} {vs:List Value} {hs:List Hd} {n:Nat} (ho:s.heap.get? a=some (adw "list" vs.toArray n)) (hv:AreHd s.heap vs hs) (nd:hs.Nodup) (h2:2<=vs.length) (h64:vs.length<64)
   (h: ∀p h' c,Pm p vs.length->Up (hltI hs) p vs.length->(∀b o,b≠a->s.heap.get? b=some o->h'.get? b=some o)->h'.get? a=some (adw "list" (adk (Wm vs p)) c)->P (.done (.ret .none)) {s with heap:=h'}):
   wpAny (model prog w) A (ad6.«list.sort» ⟨[.ref a],[]⟩) P E s:=by
 have hl:=hv.length
 have keep: ∀b o,s.heap.get? b=some o->o.cls= .type "tuple" ->(za s.heap a vs).get? b=some o:=fun b o e hc=>x5 (fun z=>by
   subst z;rw [ho] at e;cases e;simp [adw] at hc) e
 have hv2:=hv.keep keep;obtain ⟨fs,k1,k2,k3⟩:=hv2.tups;refine Qz (by rw [hl];exact KW nd) (tuples' (adE "str" !=adE "tuple")) ho h2 h64 (fun Q q=>?_) (fun i j C hi hj hC=>?_) h
 · exact kat_kind k1 (by omega) (fun f hf=>by obtain ⟨z,t,rfl⟩:=k3 f hf;exact Vm) rfl q
 · have hi':i<hs.length:=by omega
   have hj':j<hs.length:=by omega
   obtain ⟨b,o,m,t,u,e1,ho1,_,hd1⟩:=hv2.get (aac hi');obtain ⟨b',o',m',t',u',e2,ho2,_,hd2⟩:=hv2.get (aac hj');show wpAny _ _ (keyLt' _ (vs.getD i abD) (vs.getD j abD)) C _ _;rw [e1,e2];refine jdh ho1 hd1 ho2 hd2 ?_;have:hltI hs i j=hlt hs[i] hs[j]:=by unfold hltI;rw [aac hi',aac hj']
   rw [←this];exact hC
end
section
variable {prog:aaL} {w:World} {A:aaZ} {E:T9} {s:aah} {a:Addr} {vs:List Value} {n:Nat}
def UX {P:PySem.Fin->aah->Prop} (ho:s.heap.get? a=some (adw "list" vs.toArray n)) (h2:vs.length<2)
  (h: ∀h' c,(∀b o,b≠a->s.heap.get? b=some o->h'.get? b=some o)->h'.get? a=some (adw "list" vs.toArray c)->P (.done (.ret .none)) {s with heap:=h'}):
  wpAny (model prog w) A (ad6.«list.sort» ⟨[.ref a],[]⟩) P E s:=by
 obtain ⟨c1,b1⟩: ∃c1,(s.heap.update a (acJ fun _=>(#[]:Array Value))).get? a=some (adw "list" #[] c1):=⟨_,aeh ho fun _=> #[]⟩
 have b2:(za s.heap a vs).get? a=some (adw "list" #[] c1):=aad _ (aad _ b1);have big:vs.length<=aai:=by rw [acs];omega
 rw [list_sort_plain];refine aab (listItems_at ho rfl (aab (listUpdate_at ho rfl (aab (seqEpoch_at b1 rfl (aab (wpAny_newTuple (aab (wpAny_newList (aba ?_) (aa7 _))) (by show vs.length<=aai;exact big))))) (by rw [aag];exact big) (aa7 _))));dsimp only;have small:vs.toArray.size<2:=by rw [aag];omega
 rw [if_pos small,if_pos small];refine aab (aaf (aab (aaf ?_)));dsimp only
 have hout:(arrOf (SortSt.mk' general' (vs.toArray.zip vs.toArray) #[] 7 none)).map (·.2)=vs.toArray:=by
  apply Array.toList_inj.mp;simp [List.map_snd_zip]
 rw [hout];obtain ⟨c2,hc2⟩: ∃c2,((za s.heap a vs).update a (acJ fun _=>vs.toArray)).get? a=some (adw "list" vs.toArray c2):=⟨_,aeh b2 fun _=>vs.toArray⟩
 refine aab (seqEpoch_at b2 rfl (aab (listUpdate_at b2 rfl ?_ (aa7 _) (by rw [aag];exact Nat.le_succ_of_le big))));simp;exact aaf (h _ c2 (fun b o hb e=>(ach _ _ (acK hb)).trans (x5 hb e)) hc2)
end
def insH (a:Hd):List Hd->List Hd
 | []=>[a]
 |b::r=>if hlt a b=true then a::b::r else b::insH a r
def xL (hs:List Hd):List Hd:=hs.foldr insH []
theorem y9 (a:Hd): ∀l,(insH a l).Perm (a::l)
 | []=>aew _
 |b::r=>by
  unfold insH
  split
  · exact aew _
  · exact ((y9 a r).cons b).trans (List.Perm.swap a b r)
theorem qZ: ∀hs,(xL hs).Perm hs
 | []=>aew _
 |a::r=>(y9 a (xL r)).trans ((qZ r).cons a)
theorem VC {a:Hd}: ∀ {l:List Hd},l.Pairwise (fun x y=>hlt x y=true)->a∉l->(insH a l).Pairwise (fun x y=>hlt x y=true)
 | [],_,_=>by simp [insH]
 |b::r,h,hn=>by
  have h':=acq.mp h;unfold insH
  by_cases e:hlt a b=true
  · rw [if_pos e];refine acq.mpr ⟨fun c hc=>?_,h⟩;rcases aaq.mp hc with z|z
    · rw [z];exact e
    · exact Zy e (h'.1 c z)
  · rw [if_neg e];have hab:a≠b:=fun z=>hn (by simp [z])
    have hba:=(Zz hab).resolve_left e;refine acq.mpr ⟨fun c hc=>?_,VC h'.2 fun z=>hn (by simp [z])⟩;rcases aaq.mp ((y9 a r).mem_iff.mp hc) with z|z
    · rw [z];exact hba
    · exact h'.1 c z
theorem W8: ∀ {hs:List Hd},hs.Nodup->(xL hs).Pairwise (fun x y=>hlt x y=true)
 | [],_=>List.Pairwise.nil
 |a::r,h=>by
  have h':=aa5.mp h;exact VC (W8 h'.2) fun z=>h'.1 ((qZ r).mem_iff.mp z)
theorem Q0: ∀ {l m:List Hd},l.Pairwise (fun x y=>hlt x y=true)->m.Pairwise (fun x y=>hlt x y=true)->l.Perm m->l=m
 | [],m,_,_,p=>(List.nil_perm.mp p).symm
 |a::l,[],_,_,p=>by have:=p.length_eq;simp at this
 |a::l,b::m,hl,hm,p=>by
  have hl':=acq.mp hl;have hm':=acq.mp hm
  have e:a=b:=by
   by_cases z:a=b
   · exact z
   · have h1:a∈b::m:=p.mem_iff.mp (by simp);have h2:b∈a::l:=p.mem_iff.mpr (by simp);have h1':=(aaq.mp h1).resolve_left z;have h2':=(aaq.mp h2).resolve_left fun y=>z y.symm
     have x1:=hl'.1 b h2';have x2:=hm'.1 a h1';rw [Xx x1] at x2;cases x2
  subst e;rw [Q0 hl'.2 hm'.2 (List.perm_cons a|>.mp p)]
inductive F2 {α β:Type} (R:α->β->Prop):List α->List β->Prop where
 |nil:F2 R [] []
 |cons {a b as bs}:R a b->F2 R as bs->F2 R (a::as) (b::bs)
theorem F2.length {α β:Type} {R:α->β->Prop}: ∀ {as:List α} {bs:List β},F2 R as bs->as.length=bs.length
 |_,_,.nil=>rfl
 |_,_,.cons _ t=>by simp [t.length]
theorem F2.get {α β:Type} {R:α->β->Prop} {a0:α} {b0:β}: ∀ {as:List α} {bs:List β} {i:Nat},F2 R as bs->i<bs.length->R (as.getD i a0) (bs.getD i b0)
 |_,_,0,.cons x t,_=>by simpa using x
 |_,_,i+1,.cons x t,h=>by simpa using t.get (by simpa using h)
theorem F2.map {α β γ:Type} {R:α->β->Prop} {f:γ->α} {g:γ->β}: ∀ {l:List γ},(∀x∈l,R (f x) (g x))->F2 R (l.map f) (l.map g)
 | [],_=> .nil
 |x::l,h=> .cons (h x (by simp)) (F2.map fun y hy=>h y (by simp [hy]))
def KR {hs:List Hd} {p:Array Nat} (nd:hs.Nodup) (hp:Pm p hs.length) (hu:Up (hltI hs) p hs.length):p.toList.map (fun i=>hs.getD i ("",0))=xL hs:=by
 have hmem: ∀i∈p.toList,i<hs.length:=fun i hi=>aaO.mp (hp.perm.mem_iff.mp hi)
 refine Q0 ?_ (W8 nd) ?_
 · rw [ab6,abO];intro i j hi hj hij;have hl:p.toList.length=hs.length:=by rw [aaD,hp.size]
   have:=hu i j hij (by omega);have e1:at0 p i=p.toList[i]:=by simp [at0,aeC,hp.size,show i<hs.length by omega]
   have e2:at0 p j=p.toList[j]:=by simp [at0,aeC,hp.size,show j<hs.length by omega]
   rw [e1,e2] at this;have b1:=hmem _ (abd hi);have b2:=hmem _ (abd hj);unfold hltI at this;rw [aac b1,aac b2] at this;rw [acj,acj,aac b1,aac b2];exact this
 · have h1:=hp.perm.map (fun i=>hs.getD i (("" :Str),(0:Int)))
   have h2:(aaT hs.length).map (fun i=>hs.getD i ("",0))=hs:=by
    apply adD;intro i
    by_cases hi:i<hs.length
    · simp [hi]
    · rw [aaU (by simp;omega),aaU (by omega)]
   rw [h2] at h1;exact h1.trans (qZ hs).symm
def Y7 {hs:List Hd} (h:hs.length<2):xL hs=hs:=by
 match hs,h with
 | [],_=>rfl
 | [a],_=>rfl
section
variable {prog:aaL} {w:World} {A:aaZ} {E:T9} {s:aah} {a:Addr} {vs:List Value} {n:Nat}
def UY {P:PySem.Fin->aah->Prop} {hs:List Hd} (ho:s.heap.get? a=some (adw "list" vs.toArray n)) (hv:AreHd s.heap vs hs) (nd:hs.Nodup) (h64:vs.length<64)
   (h: ∀(us:List Value) h' c,(∀R:Value->Hd->Prop,F2 R vs hs->F2 R us (xL hs))->(∀b o,b≠a->s.heap.get? b=some o->h'.get? b=some o)->h'.get? a=some (adw "list" us.toArray c)->P (.done (.ret .none)) {s with heap:=h'}):
   wpAny (model prog w) A (ad6.«list.sort» ⟨[.ref a],[]⟩) P E s:=by
 have hl:=hv.length
 by_cases h2:vs.length<2
 · exact UX ho h2 fun h' c k e=>h vs h' c (fun R r=>by rw [Y7 (by omega)];exact r) k e
 · refine Yg ho hv nd (by omega) h64 fun p h' c hp hu k e=>h _ h' c (fun R r=>?_) k e
   rw [hl] at hp hu;rw [←KR nd hp hu];exact F2.map fun i hi=>r.get (aaO.mp (hp.perm.mem_iff.mp hi))
end
section
variable {prog:aaL} {w:World} {A:aaZ} {E:T9} {t:aah} {vs:List Value} {hs:List Hd}
def Wa {Q:T9} (hv:AreHd t.heap vs hs) (nd:hs.Nodup) (h64:vs.length<64)
  (h: ∀(us:List Value) h' c,(∀R:Value->Hd->Prop,F2 R vs hs->F2 R us (xL hs))->(∀b o,t.heap.get? b=some o->h'.get? b=some o)->h'.get? t.heap.objs.size=some (adw "list" us.toArray c)->Q (.ref t.heap.objs.size) {t with heap:=h'}):
  wpAny (model prog w) A (newList vs>>=fun l=>adV [l] (call (.builtin "list.sort") [l] [])>>=fun _=>ret l) (fun fin s'=> ∃v,fin= .done (.ret v)/\Q v s') E t:=by
 have hoL:(t.heap.push (adw "list" vs.toArray 0)).get? t.heap.objs.size=some (adw "list" vs.toArray 0):=aan _ rfl;refine aab (wpAny_newList (aab (aba ?_)) (by rw [acs];omega));refine abW slot_list_sort ⟨_,hoL,rfl⟩ entry_list_sort ?_ (args_list_sort _);refine UY hoL (hv.keep fun b o e _=>aad _ e) nd h64 fun us h' c r k e=>⟨_,rfl,aaf ⟨_,rfl,h us h' c r (fun b o e2=>k b o (fun z=>?_) (aad _ e2)) e⟩⟩
 exact ab0 _ (by have:=aas e2;rw [z] at this;exact this)
end
end M
namespace M
open PySem PySem.Spec L2
open PyProof.Rows hiding St
section
variable {X:Cx}
def HdV (H:Hp) (x:V) (a:Hd):Prop:= ∃b,x= .ref b/\H b=some (.tup [.str a.1,.int a.2])
theorem jdg {pins:List (Addr×Obj)} {σ:L2.St} {H:Hp} {s:aah} (I:Inv X pins σ H s): ∀ {ys:List V} {its:List Value} {hs:List Hd},Vals ys its->F2 (HdV H) ys hs->AreHd s.heap its hs/\F2 (fun v a=> ∃b,v=aaK b/\H b=some (.tup [.str a.1,.int a.2])) its hs
 |_,_,_,.nil,.nil=>⟨.nil,.nil⟩
 |_,_,_,.cons r rs,.cons x xs=>by
  obtain ⟨h1,h2⟩:=jdg I rs xs;obtain ⟨b,rfl,hb⟩:=x;cases r;obtain ⟨_,its,rv,o,ho,hc,n,hd⟩:=(show ObjOk X.prog X.w H s.heap b (.tup _) from I.hok b _ hb)
  cases rv with
  |cons q1 q2=>
   cases q2 with
   |cons q3 q4=>
    cases q4;obtain ⟨t,rfl⟩:=q1;obtain ⟨u,rfl⟩:=q3;exact ⟨.cons ⟨b,o,n,t,u,rfl,ho,hc,hd⟩ h1,.cons ⟨b,rfl,hb⟩ h2⟩
theorem uN {H:Hp}: ∀ {us:List Value} {hs:List Hd},F2 (fun v a=> ∃b,v=aaK b/\H b=some (.tup [.str a.1,.int a.2])) us hs-> ∃xs,Vals xs us/\F2 (HdV H) xs hs
 |_,_,.nil=>⟨[],.nil,.nil⟩
 |_,_,.cons ⟨b,e,hb⟩ t=>by
  obtain ⟨xs,h1,h2⟩:=uN t;subst e;exact ⟨.ref b::xs,.cons rfl h1,.cons ⟨b,rfl,hb⟩ h2⟩
end
def Vs:List D->Option (List Key)
 | []=>some []
 |d::r=>match keyD d,Vs r with
  |some k,some ks=>some (k::ks)
  |_,_=>none
def keyT:D->Option (List Key)
 | .tup ds=>Vs ds
 |_=>none
def hasT (ks:List (List Key)) (k:List Key):Bool:=ks.any fun x=>decide (x=k)
def Zc (ks:List (List Key)) (k:List Key):List (List Key):=if hasT ks k=true then ks else ks++[k]
def Zd (ks:List (List Key)) (ds:List D) (k:List Key) (d:D):List D:=if hasT ks k=true then (ks.zip ds).map (fun p=>if p.1=k then d else p.2) else ds++[d]
section
variable {K:aaa} {A:Wb} {H:Hp}
theorem Xr: ∀ {vs:List V} {ds:List D} {ks:List Key},Reps K A H vs ds->Vs ds=some ks->vs=ks.map kV
 |_,_,ks,.nil,h=>by cases h;rfl
 |_,_,ks,.cons r t,h=>by
  rename_i v d vs ds;unfold Vs at h
  cases e1:keyD d with
  |none=>rw [e1] at h;cases h
  |some k=>
   cases e2:Vs ds with
   |none=>rw [e1,e2] at h;cases h
   |some r'=>
    rw [e1,e2] at h;cases h;rw [WB r e1,Xr t e2];rfl
def xP {y:V} {d:D} {k:List Key} (r:Rep K A H y d) (h:keyT d=some k): ∃b,y= .ref b/\H b=some (.tup (k.map kV)):=by
 cases r with
 |tup e rs=>exact ⟨_,rfl,by rw [e,Xr rs h]⟩
 |_=>cases h
def X5 (kvs:List (List Key×V)) (k:List Key):(kvs.any fun kv=>decide (kv.1=k))=hasT (kvs.map (·.1)) k:=by
 unfold hasT;rw [List.any_map];rfl
theorem Za {v:V} {d:D} (k:List Key) (rv:Rep K A H v d): ∀ {kvs:List (List Key×V)} {ds:List D},Reps K A H (kvs.map (·.2)) ds->Reps K A H ((kvs.map (fun kv=>if kv.1=k then (kv.1,v) else kv)).map (·.2)) (((kvs.map (·.1)).zip ds).map (fun p=>if p.1=k then d else p.2))
 | [],_,.nil=> .nil
 | (k',v')::kvs,_,.cons r1 r2=>by
  have ih:=Za k rv r2
  by_cases hk:k'=k
  · simp only [aat,abp,hk,if_true];exact .cons rv (by simpa [hk] using ih)
  · simp only [aat,abp,hk,if_false];exact .cons r1 ih
def Xc {v:V} {d:D} {kvs:List (List Key×V)} {ds:List D} (k:List Key) (r:Reps K A H (kvs.map (·.2)) ds) (rv:Rep K A H v d):
   (putK kvs k v).map (·.1)=Zc (kvs.map (·.1)) k/\Reps K A H ((putK kvs k v).map (·.2)) (Zd (kvs.map (·.1)) ds k d):=by
 unfold putK Zc Zd;rw [X5]
 by_cases h:hasT (kvs.map (·.1)) k=true
 · rw [if_pos h,if_pos h,if_pos h];refine ⟨?_,Za k rv r⟩;rw [abE];apply adg;intro p _;simp
   split<;>rfl
 · rw [if_neg h,if_neg h,if_neg h];refine ⟨by simp,?_⟩;rw [abR];exact r.append (.cons rv .nil)
def Rep.ditE {v:V} {ks:List (List Key)} {ds:List D} (r:Rep K A H v (.dit ks ds)): ∃a kvs,v= .ref a/\H a=some (.dT kvs)/\A a/\kvs.map (·.1)=ks/\Reps K (fun c=>A c/\c≠a) H (kvs.map (·.2)) ds:=by
 cases r with
 |dit e a k1 k2 r=>subst k2;exact ⟨_,_,rfl,e,a,k1,r⟩
end
def jaD {K:aaa} {G:Wb} {H0 H:Hp} {env:Sl} {σ:L2.St} {i:Nat} {ks:List (List Key)} {ds:List D} (k:EnvOk K G H0 env σ H) (hi:env[i]?=some (.own (.dit ks ds))): ∃a kvs,σ[i]?=some (some (.ref a))/\H a=some (.dT kvs)/\kvs.map (·.1)=ks/\Reps K (Sf G env σ) H (kvs.map (·.2)) ds:=by
 obtain ⟨a,h1,h0,h2⟩:=k.own i _ hi
 cases h2 with
 |dit e k1 k2 r=>subst k2;exact ⟨a,_,h1,e,k1,r⟩
def ownT (i:Nat) (env:Sl):Res (List (List Key)×List D):=match env[i]? with
 |some (.own (.dit ks ds))=> .ok (ks,ds)
 |_=> .stuck
def kq {i:Nat} {env:Sl} {p:List (List Key)×List D} (h:ownT i env= .ok p):env[i]?=some (.own (.dit p.1 p.2)):=by
 unfold ownT at h
 split at h
 · cases h;assumption
 · cases h
section
variable {X:Cx} {K:aaa} {l1 l2:Lv} {e1 e2:Expr} {fk fv:T0} {pos cpos apos p:Pos} {x:Str}
def cDT:Sl->Res D:=fun _=> .ok (.dit [] [])
def Uz:DE X .t (.Dict [] [] pos) cDT:=by
 with_unfolding_all exact (PE.imp kj fun σ H Q ⟨G,H0,env,d,k,ef,q⟩=>by
  cases ef
  exact fun p hp=>q _ _ (Same.upd hp) (.dit jt (k.new p hp) rfl rfl .nil) (jW (Same.refl H) hp))
def YL (i:Nat) (fk fv:T0):Sl->Res Out:=fun env=>ownT i env>>=fun q=>fv env>>=fun d=>fk env>>=fun kd=>match keyT kd with
 |some k=>must (q.1.length<aai) (.ok (.nx (env.set i (.own (.dit (Zc q.1 k) (Zd q.1 q.2 k d))))))
 |none=> .stuck
def vp (i:Nat) (hu:X.A.units+1<cLine) (hk:DE X l1 e1 fk) (hv:DE X .s e2 fv) (hN:X.N[i]?=some x:=by rfl) (hvs:Vis X.env.scope x:=by first|exact abV rfl|exact abj (abV rfl)|exact abj (abj rfl))
   (hd:Ym x:=by decide) (hcd:Yl x:=by decide)
   (hs:abY e2 (some (.Subscript (.Name x p) e1 apos)) pos.line X.env=pure false:=by rfl):
   DS X (.Assign [.Subscript (.Name x p) e1 apos] e2 pos) (YL i fk fv):=by
 with_unfolding_all exact (
  PS.imp (KD hu (wn hN hvs hd hcd) hk hv hs) fun E σ H ⟨G,H0,env,o,k,ef,q⟩=>by
   obtain ⟨ks,c1,ef⟩:=jd ef;obtain ⟨d,c2,ef⟩:=jd ef;obtain ⟨kd,c3,c4⟩:=jd ef;have hi:=kq c1;obtain ⟨a,kvs,ha,hx,hkk,rs⟩:=jaD k hi
   cases hkey:keyT kd with
   |none=>rw [hkey] at c4;cases c4
   |some kk=>
    rw [hkey] at c4;obtain ⟨hz,c5⟩:=jn c4;cases c5;refine ⟨G,H0,env,d,k,c2,fun v H1 s1 r1 _=>⟨.ref a,ha,G,H0,env,kd,k.grow s1,c3,fun y H2 s2 r2 _=>?_⟩⟩;have hx2:=s2 _ _ (s1 _ _ hx);obtain ⟨b,rfl,hb⟩:=xP (r2.weak Lv.weak_b) hkey;have hl:kvs.length<aai:=by rw [←hkk,aak] at hz;exact hz
    refine ⟨a,_,rfl,DPut.t hx2 hb hl,?_⟩;obtain ⟨p1,p2⟩:=Xc kk ((rs.grow s1).grow s2) (r1.grow s2);rw [hkk] at p1 p2;have W:=((k.grow s1).grow s2).writeG hi ha hx2 trivial fun A' H' st e w=> .dit e p1 rfl (p2.stay st w)
    exact q σ _ W.1 ((W.2.grow s2).grow s1))
def hdD (a:Hd):D:= .tup [.str a.1,.int a.2]
def jb7 (hs:List Hd):Bool:=hs.all fun a=>decide (a.1.length<=aai)
theorem VI {A:Wb} {H:Hp}: ∀ {vs:List V} {hs:List Hd},F2 (HdV H) vs hs->(∀a∈hs,a.1.length<=aai)->Reps K A H vs (hs.map hdD)
 |_,_,.nil,_=> .nil
 |_,_,.cons ⟨b,e,hb⟩ t,h=>by
  subst e;exact .cons (.tup hb (.cons (.str _ (h _ (by simp))) (.cons (.int _) .nil))) (VI t fun a ha=>h a (by simp [ha]))
end
def hdK (a:Hd):List Key:=[.inr a.1,.inl a.2]
section
variable {X:Cx} {K:aaa}
theorem JM {H:Hp}: ∀ {kvs:List (List Key×V)} {xs:List (List Key×Addr×Value)} {hs:List Hd},KT H kvs xs->kvs.map (·.1)=hs.map hdK->F2 (HdV H) (xs.map fun q=>V.ref q.2.1) hs
 |_,_,hs,.nil,e=>by
  cases hs with
  |nil=>exact .nil
  |cons a r=>cases e
 |_,_,hs,.cons h t,e=>by
  cases hs with
  |nil=>cases e
  |cons a r=>
   simp at e;refine .cons ⟨_,rfl,?_⟩ (JM t e.2);rw [h.2.1,e.1];rfl
theorem Zb: ∀(l:List Addr),Vals (l.map V.ref) (l.map aaK)
 | []=> .nil
 |a::l=> .cons rfl (Zb l)
def ZR (hc:X.calm=true):CallR X (.builtin "sorted") (fun xs H Q=> ∃a kvs hs,xs=[.ref a]/\H a=some (.dT kvs)/\kvs.map (·.1)=hs.map hdK/\hs.Nodup/\hs.length<64/\ ∀l us,H l=none->F2 (HdV H) us (xL hs)->Q (.ref l) (upd H l (.lst us))):=by
 intro pins s σ H xs us Q I r h;obtain ⟨a,kvs,hs,rfl,ha,hk,nd,h64,q⟩:=h;obtain ⟨u,rfl,rx⟩:=yo r;cases rx;obtain ⟨hz,lo,ys,hp,o,es,ep,ho,hx,hd,he,_⟩:=(show ObjOk X.prog X.w H s.heap a (.dT kvs) from I.hok a _ ha)
 have hF:=JM hp hk
 have hV:Vals (ys.map fun q=>V.ref q.2.1) (ys.map fun q=>aaK q.2.1):=by
  have:=Zb (ys.map fun q=>q.2.1);simpa [abE,Function.comp_def] using this
 obtain ⟨hA,hR⟩:=jdg I hV hF;have hlen:ys.length=hs.length:=by simpa using hF.length
 have hD:DAt s.heap a (ys.map fun q=>aaK q.2.1) ep:=⟨o,es,ho,hx,hd,by rw [he,abE];rfl⟩
 refine Calls.call_function_entry kind_sorted plain_sorted entry_sorted (args_sorted1 _) ?_;unfold ad6.«sorted»;refine aab (aaf (aab (PySem.W.kdu_collect (jbu lo) (show X.A.in1.handled=none from I.ok.hd hc) hD (by rw [aak,acs];omega) fun h' tk acc hkp hacc=>?_)))
 have hacc2:acc.toList=ys.map fun q=>aaK q.2.1:=by
  apply adD;intro i;have hl:acc.toList.length=(ys.map fun q=>aaK q.2.1).length:=by rw [aaD];exact hacc.1
  by_cases hi:i<acc.toList.length
  · rw [aac hi];exact (hacc.2 i _ (by rw [←aav];exact aac hi)).symm
  · rw [aaU (by omega),aaU (by omega)]
 rw [hacc2];refine Wa (hA.keep fun b o e _=>hkp b o e) nd (by rw [aak];omega) fun us h2 c hRR k e=>?_
 obtain ⟨zs,v1,v2⟩:=uN (hRR _ hR);have I1:Inv X pins σ H {s with heap:=h',toks:=tk}:=I.kept hkp
 have hl2:zs.length<=aai:=by
  have a1:=v2.length;have a2:=(qZ hs).length_eq;rw [acs];omega
 exact ⟨.ref _,_,I1.laid k (aae _) (show ObjOk X.prog X.w _ h2 _ (.lst zs) from ⟨hl2,us,c,v1,e⟩),rfl,q _ zs (I1.hok.fresh (aae _)) v2⟩
def ja7:List Key->Option Hd
 | [.inr z,.inl k]=>some (z,k)
 |_=>none
def xR:List (List Key)->Option (List Hd)
 | []=>some []
 |d::r=>match ja7 d,xR r with
  |some a,some as=>some (a::as)
  |_,_=>none
theorem ZA: ∀ {ks:List (List Key)} {hs:List Hd},xR ks=some hs->ks=hs.map hdK
 | [],hs,h=>by cases h;rfl
 |d::r,hs,h=>by
  unfold xR at h
  cases e1:ja7 d with
  |none=>rw [e1] at h;cases h
  |some a=>
   cases e2:xR r with
   |none=>rw [e1,e2] at h;cases h
   |some as=>
    rw [e1,e2] at h;cases h;rw [ZA e2];unfold ja7 at e1
    split at e1
    · cases e1;rfl
    · cases e1
def J8:List D->Res D
 | [.dit ks _]=>match xR ks with
  |some hs=>must (hs.Nodup/\hs.length<64/\jb7 hs=true) (.ok (.lst ((xL hs).map hdD)))
  |none=> .stuck
 |_=> .stuck
def YQ:JB K (fun xs H Q=> ∃a kvs hs,xs=[.ref a]/\H a=some (.dT kvs)/\kvs.map (·.1)=hs.map hdK/\hs.Nodup/\hs.length<64/\ ∀l us,H l=none->F2 (HdV H) us (xL hs)->Q (.ref l) (upd H l (.lst us))) J8:=by
 intro A xs H ds d Q r e q;unfold J8 at e
 split at e
 · rename_i ks vs
   cases eh:xR ks with
   |none=>rw [eh] at e;cases e
   |some hs=>
    rw [eh] at e;obtain ⟨⟨nd,h64,hsh⟩,e2⟩:=jn e;cases e2;obtain ⟨v,rfl,r1⟩:=r.one;obtain ⟨p,kvs,rfl,hp,_,hkk,_⟩:=r1.ditE;refine ⟨p,kvs,hs,rfl,hp,by rw [hkk];exact ZA eh,nd,h64,fun l us hl hu=>q _ _ (Same.upd hl) (.lst jt (.inl hl) ?_) (jW (Same.refl H) hl)⟩
    have hs2: ∀a∈xL hs,a.1.length<=aai:=fun a ha=>by
     have:=aaW.mp hsh a ((qZ hs).mem_iff.mp ha);simpa using this
    exact ((VI (A:=fun _=>False) hu hs2).grow (Same.upd hl)).weak fun c z=>z.elim
 · cases e
end
end M
namespace M
open PySem PySem.Spec L2
open PyProof.Rows hiding St
open PySem.SeqAt
section
variable {X:Cx} {K:aaa}
theorem Kp {A:Wb} {H:Hp}: ∀ {xs:List V} {ds:List D} {us:List Value},Reps K A H xs ds->Vals xs us->us.length=ds.length/\ ∀(i:Nat) (u:Value),us[i]?=some u-> ∃x d,ds[i]?=some d/\RelV x u/\Rep K A H x d
 |_,_,_,.nil,.nil=>⟨rfl,fun i u h=>by cases h⟩
 |_,_,_,.cons r t,.cons h hs=>by
  obtain ⟨a,b⟩:=Kp t hs;refine ⟨by simp [a],fun i u hu=>?_⟩
  cases i with
  |zero=>simp at hu;subst hu;exact ⟨_,_,rfl,h,r⟩
  |succ i=>simp at hu;simpa using b i u hu
def inL (ds:List D) (d:D):Bool:=ds.any fun y=>eqD y d
def rInL (K:aaa) (neg:Bool):R2:=fun x y H Q=> ∃p xs ds d,y= .ref p/\SqL K H p xs/\Reps K Any H xs ds/\Rep K Any H x d/\(D.eqbs ds=true/\D.eqb d=true/\D.deps ds<=190)/\Q (.bl (if neg then !inL ds d else inL ds d)) H
open Classical in
theorem ja4 {pins:List (Addr×Obj)} {s:aah} {σ:L2.St} {H:Hp} (I:Inv X pins σ H s) (hu:X.A.units+200<cLine) {its:List Value} {xs:List V} {ds:List D} {x:V} {v:Value} {d:D} (rx:RelV x v) (rs:Reps X.K Any H xs ds) (rv:Vals xs its) (r:Rep X.K Any H x d)
   (hc:D.eqbs ds=true/\D.eqb d=true/\D.deps ds<=190): ∃e:Value->Bool,(∀y,y∈its.toArray->EqAt X.A.in1 s y v (e y))/\its.toArray.any e=inL ds d:=by
 obtain ⟨hl,hat⟩:=Kp rs rv;refine ⟨fun y=>decide (∃(i:Nat) (d1:D),its[i]?=some y/\ds[i]?=some d1/\eqD d1 d=true),fun y hy=>?_,?_⟩
 · have key: ∀(i:Nat) (d1:D),its[i]?=some y->ds[i]?=some d1->EqAt X.A.in1 s y v (eqD d1 d):=fun i d1 h1 h2=>by
     obtain ⟨x1,d2,h3,h4,h5⟩:=hat i y h1;rw [h2] at h3;cases h3;have hm:=aaN h2;have hdp:=xh hm
     exact QI I d1 X.A.in1 x1 x y v d (by
      show X.A.units+1+d1.dep<cLine
      omega) h5 h4 r rx (yG hc.1 hm) hc.2.1
   dsimp only
   by_cases h: ∃(i:Nat) (d1:D),its[i]?=some y/\ds[i]?=some d1/\eqD d1 d=true
   · obtain ⟨i,d1,h1,h2,h3⟩:=h;have:=key i d1 h1 h2;rw [h3] at this;rw [decide_eq_true (show∃(i:Nat) (d1:D),its[i]?=some y/\ds[i]?=some d1/\eqD d1 d=true from ⟨i,d1,h1,h2,h3⟩)];exact this
   · rw [decide_eq_false h];obtain ⟨i,hi⟩:=abk.mp (show y∈its by simpa using hy);obtain ⟨x1,d2,h3,h4,h5⟩:=hat i y hi;have:=key i d2 hi h3
     have e:eqD d2 d=false:=by
      cases z:eqD d2 d with
      |false=>rfl
      |true=>exact absurd ⟨i,d2,hi,h3,z⟩ h
     rw [e] at this;exact this
 · rw [ad7];unfold inL;rw [adW];simp only [List.any_toArray,adW,decide_eq_true_eq]
   constructor
   · rintro ⟨y,_,i,d1,_,h2,h3⟩;exact ⟨d1,aaN h2,h3⟩
   · rintro ⟨d1,hm,h3⟩;obtain ⟨i,hi⟩:=abk.mp hm
     have hlt:i<its.length:=by
      rw [hl];exact (aaz.mp hi).1
     exact ⟨its[i],abd hlt,i,d1,aac hlt,hi,h3⟩
def jcK (hu:X.A.units+200<cLine):OpR X (aa9 .In) (rInL X.K false):=by
 intro pins s σ H x y v u Q I rx ry h;obtain ⟨p,xs,ds,d,rfl,hq,rs,r,hc,q⟩:=h;cases ry;obtain ⟨its,rv,pl,hz⟩:=I.list hq;obtain ⟨e,h1,h2⟩:=ja4 I hu rx rs rv r hc;refine SeqAt.in_listAt e pl.isList h1 ⟨.bl _,H,I,rfl,?_⟩;rw [h2];exact q
def inLR (neg:Bool):D->D->Res D
 |d,.lst ds=>must (D.eqbs ds=true/\D.eqb d=true/\D.deps ds<=190) (.ok (.bl (if neg then !inL ds d else inL ds d)))
 |_,_=> .stuck
def jcS (neg:Bool):OpS K (rInL K neg) (inLR neg):=by
 intro x y H a b d Q ra rb e q;unfold inLR at e
 split at e
 · obtain ⟨hc,e2⟩:=jn e;cases e2;obtain ⟨p,ys,rfl,hp,_,ry⟩:=rb.lstE;exact ⟨p,ys,_,_,rfl,.of hp,ry.weak (fun _ _=>trivial),ra,hc,q _ (jeX _)⟩
 · cases e
end
end M
namespace M
open PySem PySem.Spec L2
open PyProof.Rows hiding St
def ZV:abo "sorted" =some (.builtin "sorted"):=by decide+kernel
section
variable {X:Cx} {id:String} {r:List V->Hp->VK->Prop} {g:TW} {x:Str} {p pos:Pos} {e:Expr} {es:List Expr} {fa:TX}
def xW (hc:CallR X (.builtin id) r) (hr:JB X.K r g) (hg:Gl X x) (hm:X.mg x=none) (hv:abo x=some (.builtin id))
   (ha:DA X .s (e::es) fa) (hn:x≠ "__name__" :=by decide) (hdb:Ym x:=by decide)
   (he:T8 X e es:=by exact jp rfl) (hpl:T7 X pos es:=by exact jC rfl):DE X .t (.Call (.Name x p) (e::es) [] pos) (app fa g):=by
 with_unfolding_all exact (
  PE.imp (yy hc hg hm hv ha hn hdb he hpl) fun _ _ _ h=>jb2 hr h)
variable {ex:Expr} {t:TZ}
end
end M
namespace M
open PySem PySem.Spec L2
mutual
def bare:D->D
 | .tup (x::ts)=> .tup (x::bares ts)
 |_=> .int 0
def bares:List D->List D
 | []=>[]
 |d::r=>bare d::bares r
end
def jaO {ts:List D} {k:Nat} (h: ∀t∈ts,num t<=k):nums ts<=ts.length*k:=by
 induction ts with
 |nil=>simp [nums]
 |cons d r ih=>
  have h1:=h d (by simp);have h2:=ih fun t ht=>h t (by simp [ht])
  simp only [nums,aau,Nat.succ_mul];omega
theorem WN: ∀ {ts:List D},(∀t∈ts,D.eqb t=true)->D.eqbs ts=true
 | [],_=>rfl
 |x::r,h=>by simp only [D.eqbs,aax];exact ⟨h x (by simp),WN fun d hd=>h d (by simp [hd])⟩
theorem deps_le {k:Nat}: ∀ {ts:List D},(∀t∈ts,D.dep t<=k)->D.deps ts<=k
 | [],_=>by simp [D.deps]
 |x::r,h=>by
  simp only [D.deps];have:=h x (by simp);have:=deps_le (ts:=r) fun d hd=>h d (by simp [hd])
  omega
def ins (l:List Int) (x:Int):List Int:=if x∈l then l else l++[x]
def met (l xs:List Int):List Int:=xs.foldl ins l
def dvs (n:Nat):List Int->List D
 | []=>[]
 |_::r=> .int n::dvs (n+1) r
mutual
def tk (ns:List Str):D->Bool
 | .int _=>true
 | .tup (.str z::ts)=>decide (z∈ns)&&(decide (ts.length<=9)&&tks ns ts)
 |_=>false
def tks (ns:List Str):List D->Bool
 | []=>true
 |d::r=>tk ns d&&tks ns r
end
section
variable {ns:List Str}
mutual
theorem Z7 {P:D->Prop} (h1: ∀i,P (.int i)) (h2: ∀z ts,z∈ns->ts.length<=9->(∀t∈ts,tk ns t=true/\P t)->P (.tup (.str z::ts))): ∀t,tk ns t=true->P t
 | .int i,_=>h1 i
 | .tup (x::ts),h=>by
  cases x with
  |str z=>
   simp only [tk,aax,decide_eq_true_eq] at h;exact h2 z ts h.1 h.2.1 (tk_ind2 h1 h2 ts h.2.2)
  |_=>simp [tk] at h
 | .tup [],h=>by simp [tk] at h
 | .non,h=>by simp [tk] at h
 | .bl _,h=>by simp [tk] at h
 | .str _,h=>by simp [tk] at h
 | .lst _,h=>by simp [tk] at h
 | .scr _,h=>by simp [tk] at h
 | .dic _ _,h=>by simp [tk] at h
 | .dit _ _,h=>by simp [tk] at h
 | .exn _,h=>by simp [tk] at h
 | .fdc _ _,h=>by simp [tk] at h
 | .hdc _ _,h=>by simp [tk] at h
 | .obj _ _ _,h=>by simp [tk] at h
 | .mem _ _,h=>by simp [tk] at h
theorem tk_ind2 {P:D->Prop} (h1: ∀i,P (.int i)) (h2: ∀z ts,z∈ns->ts.length<=9->(∀t∈ts,tk ns t=true/\P t)->P (.tup (.str z::ts))): ∀ts,tks ns ts=true-> ∀t∈ts,tk ns t=true/\P t
 | [],_,t,ht=>by cases ht
 |d::r,h,t,ht=>by
  simp only [tks,aax] at h;have a:=Z7 h1 h2 d h.1;have b:=tk_ind2 h1 h2 r h.2;rcases aaq.mp ht with e|e
  · rw [e];exact ⟨h.1,a⟩
  · exact b t e
end
theorem vU: ∀ {ts:List D},(∀t∈ts,tk ns t=true)->tks ns ts=true
 | [],_=>rfl
 |x::r,h=>by simp only [tks,aax];exact ⟨h x (by simp),vU fun d hd=>h d (by simp [hd])⟩
theorem Y4: ∀ {ts:List D} {t:D},tks ns ts=true->t∈ts->tk ns t=true
 |x::r,t,h,ht=>by
  simp only [tks,aax] at h;rcases aaq.mp ht with rfl|ht
  · exact h.1
  · exact Y4 h.2 ht
def uV {z:Str} {ts:List D} (hz:z∈ns) (h:ts.length<=9) (ht: ∀t∈ts,tk ns t=true):tk ns (.tup (.str z::ts))=true:=by
 simp only [tk,aax,decide_eq_true_eq];exact ⟨hz,h,vU ht⟩
def J6 {t:D} (h:tk ns t=true):(∃i,t= .int i)\/ ∃z ts,t= .tup (.str z::ts)/\z∈ns/\ts.length<=9/\ ∀u∈ts,tk ns u=true:=by
 cases t with
 |int i=>exact .inl ⟨i,rfl⟩
 |tup ds=>
  cases ds with
  |nil=>simp [tk] at h
  |cons x ts=>
   cases x with
   |str z=>
    simp only [tk,aax,decide_eq_true_eq] at h;exact .inr ⟨z,ts,rfl,h.1,h.2.1,fun u hu=>Y4 h.2.2 hu⟩
   |_=>simp [tk] at h
 |_=>simp [tk] at h
def VT: ∀t,tk ns t=true->fine t=true:=Z7 (fun i=>rfl) fun z ts _ hl h=>by
 simp only [fine,fines,aax,decide_eq_true_eq,aau,true_and];exact ⟨by omega,XF fun t ht=>(h t ht).2⟩
def Xf: ∀t,tk ns t=true-> ∀p∈pts t,tk ns p=true:=Z7 (fun i=>by simp [pts,tk]) fun z ts hz hl h=>by
 simp only [pts];intro p hp;rcases aaq.mp hp with e|e
 · rw [e];exact uV hz hl fun t ht=>(h t ht).1
 · have flat: ∀us:List D,ptss us=us.flatMap pts:=fun us=>by
    induction us with
    |nil=>rfl
    |cons d r ih=>simp [ptss,ih]
   rw [flat] at e;obtain ⟨t,ht,hpt⟩:=aeO.mp e;exact (h t ht).2 p hpt
def hdL:List D->List Hd
 | []=>[]
 | .tup (.str z::ts)::r=>(z,(ts.length:Int))::hdL r
 |_::r=>hdL r
def VJ (z:Str) (ts r:List D):hdL (.tup (.str z::ts)::r)=(z,(ts.length:Int))::hdL r:=rfl
theorem WF: ∀ {a:List D},(∀t∈a,tk ns t=true)-> ∀x∈hdL a,x.1∈ns/\0<=x.2/\x.2<=9
 | [],_,x,hx=>by cases hx
 |d::r,h,x,hx=>by
  have ih:=WF (a:=r) fun t ht=>h t (by simp [ht])
  rcases J6 (h d (by simp)) with ⟨i,rfl⟩| ⟨z,ts,rfl,hz,hl,_⟩
  · exact ih x hx
  · rw [VJ] at hx;rcases aaq.mp hx with e|e
    · rw [e];exact ⟨hz,by simp,by simp;omega⟩
    · exact ih x e
def hins (l:List Hd) (a:Hd):List Hd:=if a∈l then l else l++[a]
def hmet (l xs:List Hd):List Hd:=xs.foldl hins l
def ja5 {l:List Hd} {a:Hd} (h:l.Nodup):(hins l a).Nodup:=by
 unfold hins
 split
 · exact h
 · rename_i hn;refine aeD.mpr ⟨h,by simp,fun x hx y hy=>?_⟩;simp at hy;rw [hy];intro e;rw [e] at hx;exact hn hx
theorem WE: ∀ {xs l:List Hd},l.Nodup->(hmet l xs).Nodup
 | [],l,h=>h
 |x::xs,l,h=>WE (xs:=xs) (ja5 h)
def kT {l:List Hd} {a x:Hd} (h:x∈hins l a):x∈l\/x=a:=by
 unfold hins at h
 split at h
 · exact .inl h
 · simpa using h
theorem QC: ∀ {xs l:List Hd} {x:Hd},x∈hmet l xs->x∈l\/x∈xs
 | [],l,x,h=> .inl h
 |y::xs,l,x,h=>by
  rcases QC (l:=hins l y) h with z|z
  · rcases kT z with z|z
    · exact .inl z
    · exact .inr (by simp [z])
  · exact .inr (by simp [z])
theorem Zo: ∀ {l m:List Hd},l.Nodup->(∀x∈l,x∈m)->l.length<=m.length
 | [],m,_,_=>by simp
 |a::l,m,h,hs=>by
  have h':=aa5.mp h;have ha:=hs a (by simp)
  have:=Zo (m:=m.erase a) h'.2 fun x hx=>by
   refine (ad1 fun e=>?_).mpr (hs x (by simp [hx]));rw [e] at hx;exact h'.1 hx
  rw [adj ha] at this;have hpos:=abI ha;simp;omega
def VH {l:List Hd} (h:l.Nodup) (hm: ∀x∈l,x.1∈ns/\0<=x.2/\x.2<=9):l.length<=ns.length*10:=by
 have:=Zo (m:=ns.flatMap fun z=>(aaT 10).map fun k=>(z,((k:Nat):Int))) h fun x hx=>by
  obtain ⟨h1,h2,h3⟩:=hm x hx;refine aeO.mpr ⟨x.1,h1,aaB.mpr ⟨x.2.toNat,aaO.mpr (by omega),?_⟩⟩;rw [acf h2]
 have e:(ns.flatMap fun z=>(aaT 10).map fun k=>(z,((k:Nat):Int))).length=ns.length*10:=by
  clear this hm h
  induction ns with
  |nil=>rfl
  |cons z r ih=>rw [List.flatMap_cons,aaE,ih];simp;omega
 omega
def ja8 {a b:Hd}:hdK a=hdK b↔a=b:=by
 constructor
 · intro h;cases a;cases b;simp [hdK] at h;simp [h]
 · intro h;rw [h]
def VM (l:List Hd) (a:Hd):hasT (l.map hdK) (hdK a)=decide (a∈l):=by
 unfold hasT;rw [List.any_map]
 induction l with
 |nil=>rfl
 |cons b l ih=>
  rw [ads,ih];simp only [Function.comp_apply,ja8]
  by_cases h:b=a
  · subst h;simp
  · have:a≠b:=fun e=>h e.symm
    simp [h,this]
def htrs (l:List Hd):List D:=l.map fun _=> .bl true
def jcm (l:List Hd) (a:Hd):Zc (l.map hdK) (hdK a)=(hins l a).map hdK/\Zd (l.map hdK) (htrs l) (hdK a) (.bl true)=htrs (hins l a):=by
 unfold Zc Zd hins;rw [VM]
 by_cases h:a∈l
 · simp only [h,decide_true,if_true,true_and];clear h
   induction l with
   |nil=>rfl
   |cons b l ih=>
    simp only [htrs,aat,abp] at ih ⊢;rw [ih];simp
 · simp [h,htrs]
theorem JT: ∀l:List Hd,xR (l.map hdK)=some l
 | []=>rfl
 |a::l=>by
  simp only [aat,xR,JT l];rfl
def Yf {l:List Hd} {vs:List D} (h1:l.Nodup) (h2:l.length<64) (h3: ∀a∈l,a.1.length<=aai):J8 [.dit (l.map hdK) vs]= .ok (.lst ((xL l).map hdD)):=by
 show (match xR (l.map hdK) with|some hs=>_|none=>_)=_;rw [JT];exact jl ⟨h1,h2,aaW.mpr fun a ha=>by simpa using h3 a ha⟩
def XL {α:Type} {f:α->D} (h: ∀a,D.eqb (f a)=true) (l:List α):D.eqbs (l.map f)=true:=WN fun t ht=>by
 obtain ⟨a,_,rfl⟩:=aaB.mp ht;exact h a
end
end M
namespace M
open PySem PySem.Spec L2
open PyProof.Rows hiding St
def zB:abo "divmod" =some (.builtin "divmod"):=by decide+kernel
def zi:List D->Res D
 | [.int i,.int j]=>must (0<j/\j<1073741824) (.ok (.tup [.int (i/j),.int (i%j)]))
 |_=> .stuck
def xZ {K:aaa}:JB K (fun xs H Q=> ∃i j,xs=[.int i,.int j]/\CDiv i j/\ ∀p,H p=none->Q (.ref p) (upd H p (.tup [.int (i/j),.int (i%j)]))) zi:=by
 intro A xs H ds d Q r e q;unfold zi at e
 split at e
 · obtain ⟨hc,e2⟩:=jn e;cases e2;obtain ⟨v,v',rfl,r1,r2⟩:=r.two;cases r1.intE;cases r2.intE;exact ⟨_,_,rfl,hc,fun p hp=>q _ _ (Same.upd hp) (.tup jt (.cons (.int _) (.cons (.int _) .nil))) (jW (Same.refl H) hp)⟩
 · cases e
section
variable {X:Cx} {pins:List (Addr×Obj)} {σ:L2.St} {H:Hp} {s:aah}
def wb {t':Nat} {h':Heap} {i1 i2:Addr} (I:Inv X pins σ H s) (k: ∀b o,b≠i1->b≠i2->s.heap.get? b=some o->h'.get? b=some o) (f1:FpOk X pins H i1) (f2:FpOk X pins H i2):Inv X pins σ H {s with heap:=h',toks:=t'}:=by
 obtain ⟨a0,a1,_,a3,a4,a5⟩:=f1;obtain ⟨b0,b1,_,b3,b4,b5⟩:=f2;have n1: ∀b u,H b=some u->b≠i1:=fun b u e z=>by rw [z,a0] at e;cases e
 have n2: ∀b u,H b=some u->b≠i2:=fun b u e z=>by rw [z,b0] at e;cases e
 have kk: ∀b o,b∉[i1,i2]->s.heap.get? b=some o->h'.get? b=some o:=fun b o hc e=>k b o (fun z=>hc (by simp [z])) (fun z=>hc (by simp [z])) e
 refine I.step (fun b hb=>?_) (fun b o _ _ hc e _=>kk b o hc e) (fun b o _ _ hc e _=>⟨o.slots,kk b o hc e⟩) (fun _ _ _ _ n=>n)
   (fun b o hc e=>⟨o,kk b o hc e⟩) (fun _ _ e=>e) (fun _ _ _ e=>e) (fun b ps e=>⟨#[],by rw [e];simp⟩) (fun m hm=>?_) (fun b u e=>?_) I.bare
 · simp at hb;rcases hb with rfl|rfl
   · exact ⟨a3,a1,a4,a5⟩
   · exact ⟨b3,b1,b4,b5⟩
 · obtain ⟨o,es,ep,ho,r⟩:=hm;exact ⟨o,es,ep,k _ o (acK a1) (acK b1) ho,r⟩
 · refine (I.hok b u e).stay (fun c v hc q=>k c v ?_ ?_ q) (fun _ q=>q) fun _ _ q=>q
   · rcases hc with z|z
     · rw [z];exact n1 b u e
     · exact n1 c _ z
   · rcases hc with z|z
     · rw [z];exact n2 b u e
     · exact n2 c _ z
end
def ItE (K:aaa) (a:Addr) (xs:List V):It:=⟨fun i H=>SqL K H a xs/\i<xs.length,fun i H v H'=> ∃p x,H p=none/\xs[i]?=some x/\v= .ref p/\H'=upd H p (.tup [.int (i:Int),x]),fun i H=>SqL K H a xs/\xs.length<=i⟩
def Y1 {P:aaL} {w:World} {K:aaa} {elts:List Expr} {n:Nat} {pos:Pos} (a it e:Addr) (xs:List V) (hei:e≠it):Turn P w K (.Tuple elts n pos) (ItE K a xs) [e,it] e (fun i h=>(∃old,IsEnum h e it (i:Int) old)/\h.IsListIter it a i) where
 mem:=by simp
 obj:=fun i h st b hb=>by
  obtain ⟨⟨old,he⟩,o,ho,hc,hd⟩:=st;simp at hb;rcases hb with rfl|rfl
  · exact ⟨_,he,fun v z=>by cases z⟩
  · exact ⟨o,ho,fun v z=>by rw [hd] at z;cases z⟩
 keep:=fun i h h' st k=>by
  obtain ⟨⟨old,he⟩,hit⟩:=st;exact ⟨⟨old,k e (by simp) _ he⟩,hit.at fun o x=>k it (by simp) o x⟩
 item:=by
  intro X hP hw hK hc i pins s σ H E I hf st hg;subst hP hw hK;obtain ⟨hq,hi⟩:=hg;obtain ⟨its,rv,p,hz⟩:=I.list hq;have hx:=aac hi;obtain ⟨u,hu,ru⟩:=rv.get hx;obtain ⟨⟨old,he⟩,hit⟩:=st;have fe:=hf e (by simp);have fi:=hf it (by simp);refine wpAny_pyNext_enum_item he hit p.isList (by simpa using hu) hei fun h' ho hit' hT hsz hk=>?_
  refine ⟨_,rfl,wpAny_letOwnedTupleGo_enum ho fun h'' he' hs'=>?_⟩;have helt:=aas he;have hilt:it<s.heap.objs.size:=by obtain ⟨_,x,_⟩:=hit;exact aas x
  have hfr:=I.hok.fresh (aae _)
  have I1:Inv X pins σ (upd H s.heap.objs.size (.tup [.int (i:Int),xs[i]])) {s with heap:=s.heap.push {cls:= .type "tuple",data:= .seq #[.int i s.toks,u]}}:=
    I.laid (fun b o e=>aad _ e) (aae _) ⟨aaF (show 2<=20 by decide) (by decide),[.int i s.toks,u],.cons ⟨_,rfl⟩ (.cons ru .nil),⟨_,aan _ rfl,rfl,_,rfl⟩⟩
  have fe1:FpOk X pins (upd H s.heap.objs.size (.tup [.int (i:Int),xs[i]])) e:=⟨by rw [jH (aaJ helt)];exact fe.1,fe.2⟩
  have fi1:FpOk X pins (upd H s.heap.objs.size (.tup [.int (i:Int),xs[i]])) it:=⟨by rw [jH (aaJ hilt)];exact fi.1,fi.2⟩
  have I2:=wb (t':=s.toks+1) I1 (fun b o hbe hbi eo=>by
    refine (hs'.2 b hbe).trans ?_
    by_cases hb:b=s.heap.objs.size
    · subst hb;rw [aan _ rfl] at eo;rw [←eo];exact hT
    · have eo':s.heap.get? b=some o:=by
       rcases Heap.get?_push_cases eo with ⟨z,_⟩|z
       · exact absurd z hb
       · exact z
      exact hk b o hbe hbi eo') fe1 fi1
  refine ⟨.ref s.heap.objs.size,_,I2,rfl,⟨_,_,hfr,hx,rfl,rfl⟩,⟨⟨_,by simpa using he'⟩,hit'.at fun o y=>(hs'.2 it hei.symm).trans y⟩,fun b hb=>?_⟩;simp at hb;rcases hb with rfl|rfl
  · exact fe1.1
  · exact fi1.1
 done:=by
  intro X hP hw hK hc i pins s σ H E I hf st hg;subst hP hw hK;obtain ⟨hq,hi⟩:=hg;obtain ⟨its,rv,p,hz⟩:=I.list hq;obtain ⟨⟨old,he⟩,hit⟩:=st;have hl:=rv.length;refine wpAny_pyNext_enum_end (I.ok.hd hc) he hit p.isList (by simp;omega) fun h' eb=>⟨rfl,wb I (fun b o hbe hbi eo=>eb b o hbi eo) (hf e (by simp)) (hf it (by simp))⟩
 self:=fun _ _ _ _ _ st h=>let ⟨⟨_,he⟩,_⟩:=st;adI he h
section
variable {X:Cx} {elts:List Expr} {n:Nat} {tpos p pos:Pos} {e:Expr} {f:T0}
def jz:Nat->List D->List D
 |_,[]=>[]
 |k,d::r=> .tup [.int (k:Int),d]::jz (k+1) r
theorem yP: ∀(k:Nat) (ds:List D),(jz k ds).length=ds.length
 |_,[]=>rfl
 |k,d::r=>by simp [jz,yP (k+1) r]
theorem yQ: ∀(k i:Nat) (ds:List D),(jz k ds)[i]?=(ds[i]?).map fun d=> .tup [.int ((k+i:Nat):Int),d]
 |k,i,[]=>by simp [jz]
 |k,0,d::r=>by simp [jz]
 |k,i+1,d::r=>by
  simp only [jz,aaQ];rw [yQ (k+1) i r];congr 1;funext d;congr 3;omega
def ZI (f:T0):Sl->Res (List D):=fun env=>f env>>=fun d=>match d with
 | .lst ds=> .ok (jz 0 ds)
 | .scr ds=> .ok (jz 0 ds)
 |_=> .stuck
def jbo (hg:Gl X "enumerate") (hm:X.mg "enumerate" =none) (h:DE X .s e f) (hs:aao [e] X.env=[(false,eval e X.env)]:=by rfl):DI X (.Tuple elts n tpos) (.Call (.Name "enumerate" p) [e] [] pos) (ZI f):=by
 have hE:PE X e (tE X.K .s f):=by with_unfolding_all exact h
 with_unfolding_all exact (show PI X (.Tuple elts n tpos) (.Call (.Name "enumerate" p) [e] [] pos) (tI X.K (ZI f)) from by
  intro pins s σ H R I ⟨G,H0,env,ds,k,ef,q⟩;obtain ⟨d,e1,e2⟩:=jd ef
  have hA:PA X [e] (tA X.K .s fun env=>f env>>=fun d=> .ok [d]):=by
   have:=zf hE xl hs;intro ps pins s σ H Q I ⟨G,H0,env,ds,k,ef,q⟩;obtain ⟨d,c1,c2⟩:=jd ef;cases c2;exact this ps pins s σ H Q I ⟨G,H0,env,d,k,c1,fun v H1 s1 r1 _=>q [v] H1 s1 (.cons r1 .nil)⟩
  refine Call_ (JQ I hg hm boot_enumerate (ab9 (thn (hA pos pins s σ H (fun vs H1=> ∃v,vs=[v]/\Same H H1/\Rep X.K (Sf G env σ) H1 v d) I ⟨G,H0,env,[d],k,by show (f env>>=_)=_;rw [e1];rfl,fun vs H1 s1 r1=>by obtain ⟨v,rfl,r⟩:=r1.one;exact ⟨v,rfl,s1,r⟩⟩) fun us s1 ⟨vs,H1,I1,r1,v,ev,sm,rep⟩=>?_) hs rfl));subst ev;obtain ⟨u,rfl,ru⟩:=yo r1;have k1:=k.grow sm
  have main: ∀(a:Addr) (xs:List V) (es:List D) (P:Hp->Prop),u= .ref a->SqL X.K H1 a xs->Reps X.K (Sf G env σ) H1 xs es->ds=jz 0 es->P H1->(∀H',P H'->SqL X.K H' a xs)->(∀env' σ' H',Frm env σ H1 env' σ' H'->P H')->wpAny (model X.prog X.w) X.A (call (.type "enumerate") [u]) (fun v s1=>wpAny (model X.prog X.w) X.A (pyIter v) (PIE X pins σ (.Tuple elts n tpos) R) X.xe s1) X.xe s1:=by
   intro a xs es P eu hq rs eds p0 pq pst;subst eu;obtain ⟨its,rv,pl,hz⟩:=I1.list hq;refine call_enumerate_list pl.isList fun h' he hit hsz hk=>adI he ?_
   have I2:=I1.kept (t':=s1.toks) hk;refine ⟨s1.heap.objs.size+1,[s1.heap.objs.size+1,s1.heap.objs.size],_,_,H1,rfl,I2,Y1 a s1.heap.objs.size (s1.heap.objs.size+1) xs (Nat.succ_ne_self _),⟨⟨_,he⟩,hit⟩,fun b hb=>?_,?_⟩
   · simp at hb;rcases hb with rfl|rfl
     · exact I1.fpOk (act _) (I1.hok.fresh (act _))
     · exact I1.fpOk (aae _) (I1.hok.fresh (aae _))
   · refine q _ H1 P sm (fun i H' pp=>?_) p0 pst;have hl:=rs.length;subst eds;rw [yP];refine ⟨fun hi=>⟨pq H' pp,by omega⟩,fun d hd x H2 y=>?_,fun hi=>⟨pq H' pp,by omega⟩⟩;obtain ⟨p,x',hp,hx',rfl,rfl⟩:=y;obtain ⟨d',hd',rd⟩:=rs.get' hx';rw [yQ,hd'] at hd;cases hd;exact .inr ⟨p,_,_,hp,rfl,rfl,rfl,.cons (by rw [adQ];exact .int _) (.cons rd .nil)⟩
  cases d with
  |lst es=>
   cases e2;obtain ⟨a,xs,rfl,ha,na,rs⟩:=rep.lstE;exact main a xs es (fun H=>H a=some (.lst xs)) ru (.of ha) rs.low rfl ha (fun H' z=> .of z) fun env' σ' H' fr=>fr.keep a _ ha na.1
  |scr es=>
   cases e2;obtain ⟨a,xs,rfl,ha,rs⟩:=rep.scrE;refine main a xs es (fun H=>LsK X.K H a xs) ru ha.sql rs rfl ha (fun H' z=>z.sql) fun env' σ' H' fr=>?_
   rcases ha with ⟨o,eo⟩|z
   · exact .inl ⟨o,fr.keep a _ eo fun ow=>(k1.mutO ow eo).elim⟩
   · exact .inr z
  |_=>cases e2)
end
end M
namespace M
open PySem PySem.Spec L2
open Classical in
noncomputable instance decD:DecidableEq D:=fun a b=>abN (a=b)
mutual
def nb:D->Bool
 | .int _=>true
 | .str _=>true
 | .tup ds=>nbs ds
 |_=>false
def nbs:List D->Bool
 | []=>true
 |d::r=>nb d&&nbs r
end
theorem Wr: ∀ {ds:List D} {d:D},nbs ds=true->d∈ds->nb d=true
 |x::r,d,h,ht=>by
  simp only [nbs,aax] at h;rcases aaq.mp ht with rfl|ht
  · exact h.1
  · exact Wr h.2 ht
theorem Xo: ∀ {ds:List D},(∀d∈ds,nb d=true)->nbs ds=true
 | [],_=>rfl
 |x::r,h=>by simp only [nbs,aax];exact ⟨h x (by simp),Xo fun d hd=>h d (by simp [hd])⟩
def jdH (a:D):Prop:=nb a=true-> ∀b,nb b=true->(eqD a b=true↔a=b)
theorem XN: ∀ {as:List D},(∀a∈as,jdH a)->nbs as=true-> ∀bs,nbs bs=true->(eqDs as bs=true↔as=bs)
 | [],_,_,[],_=>by simp [eqDs]
 | [],_,_,b::bs,_=>by simp [eqDs]
 |a::as,_,_,[],_=>by simp [eqDs]
 |a::as,h,ha,b::bs,hb=>by
  simp only [nbs,aax] at ha hb;simp only [eqDs,aax,abf];rw [h a (by simp) ha.1 b hb.1,XN (fun x hx=>h x (by simp [hx])) ha.2 bs hb.2]
def jbk (a:D):jdH a:=by
 refine D.ind ?_ ?_ ?_ ?_ ?_ ?_ ?_ ?_ a
 · intro h;simp [nb] at h
 · intro b h;simp [nb] at h
 · intro i _ b hb;cases b<;>first| (simp [nb] at hb;done)|simp [eqD]
 · intro x _ b hb;cases b<;>first| (simp [nb] at hb;done)|simp [eqD]
 · intro ds ih ha b hb
   cases b with
   |tup es=>
    simp;exact XN ih (by simpa only [nb] using ha) es (by simpa only [nb] using hb)
   |int i=>simp [eqD]
   |str x=>simp [eqD]
   |_=>simp [nb] at hb
 · intro ds _ h;simp [nb] at h
 · intro ds _ h;simp [nb] at h
 · exact ⟨fun ks ds _ h=>by simp [nb] at h,fun ks ds _ h=>by simp [nb] at h,fun c h=>by simp [nb] at h,fun ks ds _ h=>by simp [nb] at h,fun ks ds _ h=>by simp [nb] at h,fun c ns ds _ h=>by simp [nb] at h,fun B Φ h=>by simp [nb] at h⟩
def XR {a b:D} (ha:nb a=true) (hb:nb b=true):eqD a b=decide (a=b):=by
 have:=jbk a ha b hb
 by_cases h:a=b
 · rw [decide_eq_true h];exact this.mpr h
 · rw [decide_eq_false h]
   cases e:eqD a b with
   |false=>rfl
   |true=>exact absurd (this.mp e) h
def uB (d:D):nb d=true->D.eqb d=true:=by
 refine D.ind (P:=fun d=>nb d=true->D.eqb d=true) ?_ ?_ ?_ ?_ ?_ ?_ ?_ ?_ d
 · intro h;simp [nb] at h
 · intro b h;simp [nb] at h
 · intro i _;rfl
 · intro x _;rfl
 · intro ds ih h;simp only [D.eqb];exact WN fun t ht=>ih t ht (Wr (by simpa only [nb] using h) ht)
 · intro ds _ h;simp [nb] at h
 · intro ds _ h;simp [nb] at h
 · exact ⟨fun ks ds _ h=>by simp [nb] at h,fun ks ds _ h=>by simp [nb] at h,fun c h=>by simp [nb] at h,fun ks ds _ h=>by simp [nb] at h,fun ks ds _ h=>by simp [nb] at h,fun c ns ds _ h=>by simp [nb] at h,fun B Φ h=>by simp [nb] at h⟩
def um (d:D):nb d=true->d.imm=true:=by
 refine D.ind (P:=fun d=>nb d=true->d.imm=true) ?_ ?_ ?_ ?_ ?_ ?_ ?_ ?_ d
 · intro h;simp [nb] at h
 · intro b h;simp [nb] at h
 · intro i _;rfl
 · intro x _;rfl
 · intro ds ih h;simp only [D.imm];exact imms_iff.mpr fun t ht=>ih t ht (Wr (by simpa only [nb] using h) ht)
 · intro ds _ h;simp [nb] at h
 · intro ds _ h;simp [nb] at h
 · exact ⟨fun ks ds _ h=>by simp [nb] at h,fun ks ds _ h=>by simp [nb] at h,fun c h=>by simp [nb] at h,fun ks ds _ h=>by simp [nb] at h,fun ks ds _ h=>by simp [nb] at h,fun c ns ds _ h=>by simp [nb] at h,fun B Φ h=>by simp [nb] at h⟩
end M
namespace M
open PySem PySem.Spec L2
open PyProof.Rows hiding St
section
variable {X:Cx}
def YT:abo "dict" =some (.type "dict"):=by decide+kernel
end
theorem Reps.set {K:aaa} {A:Wb} {H:Hp} {v:V} {d:D} (rv:Rep K A H v d): ∀ {xs:List V} {ds:List D} (j:Nat),Reps K A H xs ds->Reps K A H (xs.set j v) (ds.set j d)
 |_,_,_,.nil=> .nil
 |_,_,0,.cons _ t=> .cons rv t
 |_,_,j+1,.cons h t=> .cons h (Reps.set rv j t)
def U1 (i:Nat) (fk fv:T0):Sl->Res Out:=fun env=>ownL i env>>=fun ds=>fv env>>=fun d=>fk env>>=fun kd=>match kd with
 | .int n=>match ixN ds.length n with
  |some j=> .ok (.nx (env.set i (.own (.lst (ds.set j d)))))
  |none=> .stuck
 |_=> .stuck
def vo {X:Cx} {l1:Lv} {e1 e2:Expr} {fk fv:T0} {pos apos p:Pos} {x:Str} (i:Nat) (hk:DE X l1 e1 fk) (hv:DE X .s e2 fv) (hN:X.N[i]?=some x:=by rfl) (hvs:Vis X.env.scope x:=by first|exact abV rfl|exact abj (abV rfl)|exact abj (abj rfl))
   (hd:Ym x:=by decide) (hcd:Yl x:=by decide)
   (ha: ∀v,assign (.Subscript (.Name x p) e1 apos) X.env v=(do
    let ov←adV [v] (eval (.Name x p) X.env)
    let iv←adV [v,ov] (eval e1 X.env)
    standAt apos
    adV [v,ov,iv] (setItem ov iv v)
    release [v,ov,iv] []):=by intro _;rfl)
   (hs:swapsWithSole [.Subscript (.Name x p) e1 apos] e2 pos.line X.env=pure false:=by rfl) (hw:swappedStores [.Subscript (.Name x p) e1 apos] e2 X.env=pure none:=by rfl)
   (h1:(ab4 [.Subscript (.Name x p) e1 apos] X.env).map (·.2)=[assign (.Subscript (.Name x p) e1 apos) X.env]:=by rfl):
   DS X (.Assign [.Subscript (.Name x p) e1 apos] e2 pos) (U1 i fk fv):=by
 with_unfolding_all exact (
  PS.imp (v0 hv (jcv (wn hN hvs hd hcd) hk U0 ha) hs hw h1) fun E σ H ⟨G,H0,env,o,k,ef,q⟩=>by
   obtain ⟨ds,c1,ef⟩:=jd ef;obtain ⟨d,c2,ef⟩:=jd ef;obtain ⟨kd,c3,c4⟩:=jd ef;have hi:=zY c1;obtain ⟨a,xs,ha,hx,rs⟩:=zr k hi
   cases kd with
   |int n=>
    dsimp only at c4
    cases e5:ixN ds.length n with
    |none=>rw [e5] at c4;cases c4
    |some j=>
     rw [e5] at c4;cases c4;refine ⟨G,H0,env,d,k,c2,fun v H1 s1 r1 _=>⟨.ref a,ha,G,H0,env,.int n,k.grow s1,c3,fun y H2 s2 r2 _=>?_⟩⟩;have hx2:=s2 _ _ (s1 _ _ hx);cases (r2.weak Lv.weak_b).intE;refine ⟨a,xs,n,j,rfl,rfl,hx2,by rw [rs.length];exact e5,?_⟩;have W:=((k.grow s1).grow s2).write hi ha hx2 (Reps.set (r1.grow s2) j ((rs.grow s1).grow s2));exact q σ _ W.1 ((W.2.grow s2).grow s1)
   |_=>cases c4)
section
variable {prog:aaL} {w:World} {A:aaZ} {E:T9} {s:aah} {it t:Addr} {i:Nat} {items:Array Value} {Q:T9}
def kF {x:Value} (hit:s.heap.IsTupleIter it t i) (ht:s.heap.IsTuple t items) (hx:items[i]?=some x) (hQ: ∀h',h'.IsTupleIter it t (i+1)->acn it s.heap h'->Q x {s with heap:=h'}):
  wpAny (model prog w) A (acv (.ref it)) Q E s:=by
 obtain ⟨o,ho,hc,hd⟩:=id hit;obtain ⟨o2,ho2,_,n2,hd2⟩:=ht;unfold acv
 refine aab (abA hit.typeIs ack (abW ack hit.typeIs F.entry_tuple_iterator_next
  (show wpAny _ _ (field (.ref it) 0>>=_) _ _ s from aab (adG ho hd rfl (show wpAny _ _ (if (aaK t==abD)=true then _ else _) _ _ s from ?_))) (F.args_tuple_iterator_next_1 _)))
 rw [if_neg (show¬((aaK t==abD)=true) from aaH)];refine (show wpAny _ _ (field (.ref it) 1>>=_) _ _ s from aab (adG ho hd rfl (show wpAny _ _ (seqItems? (.ref t)>>=_) _ _ s from aab (ac1 ho2 hd2 ?_))));simp only [abK,hx];exact aab (aev ho hd (by simp) (aaf ⟨x,rfl,aaf (hQ _ ⟨_,acP _ ho (Obj.isFreed_of_fields (adx hd _)),(Obj.cls_mapFields ..).trans hc,by rw [adx hd];simp [rawInt]⟩ (ace ..))⟩))
def Uj (hh:A.handled=none) (hit:s.heap.IsTupleIter it t i) (ht:s.heap.IsTuple t items) (hx:items[i]?=none)
  (hE: ∀h' e,Heap.ExtBut it s.heap h'->(∃o,h'.get? e=some o/\o.cls= .type "StopIteration")->E (.ref e) {s with heap:=h'}):
  wpAny (model prog w) A (acv (.ref it)) Q E s:=by
 obtain ⟨o,ho,hc,hd⟩:=id hit;obtain ⟨o2,ho2,_,n2,hd2⟩:=ht;unfold acv
 refine aab (abA hit.typeIs ack (abW ack hit.typeIs F.entry_tuple_iterator_next
  (show wpAny _ _ (field (.ref it) 0>>=_) _ _ s from aab (adG ho hd rfl (show wpAny _ _ (if (aaK t==abD)=true then _ else _) _ _ s from ?_))) (F.args_tuple_iterator_next_1 _)))
 rw [if_neg (show¬((aaK t==abD)=true) from aaH)];refine (show wpAny _ _ (field (.ref it) 1>>=_) _ _ s from aab (adG ho hd rfl (show wpAny _ _ (seqItems? (.ref t)>>=_) _ _ s from aab (ac1 ho2 hd2 ?_))));simp only [abK,hx];refine aab (wpAny_rule (aab (aev ho hd (by simp) (show wpAny _ _ (newExc (.type "StopIteration") []>>=_) _ _ _ from aab ?_))));simp only [newExc,newTuple];refine aab (abn (aab (wpAny_of_eq (by first|rfl| (simp;rfl)) (abn ?_ (by size_fits)))) (by size_fits));simp only [raiseNew];refine aab (wpAny_handled ?_);rw [show A.in1.handled=none from hh];exact aab (aaf (wpAny_throw (hE _ _ (((ace ..).extBut.push _).push _) ⟨_,aan _ rfl,rfl⟩)))
def Ur (hh:A.handled=none) (it l:Addr) (hne:l≠it) (items:Array Value):Draws prog w A it [it,l] items.size (fun i v=>items[i]?=some v) (fun i h=>h.IsTupleIter it l i/\h.IsTuple l items) where
 live:=fun _ _ st=>let ⟨o,ho,_⟩:=st.1;⟨o,ho⟩
 frame:=fun _ _ _ st hk=>⟨st.1.at fun o e=>hk it (by simp) o e,let ⟨o,ho,r⟩:=st.2;⟨o,hk l (by simp) o ho,r⟩⟩
 item:=fun i s Q E hi st hQ=>kF st.1 st.2 (x:=items[i]) (by simp [hi]) fun h' hit' hs'=>hQ _ h' s.toks (by simp [hi]) ⟨hit',st.2.extBut hs'.extBut hne⟩ hs'
 done:=fun s Q E st hE=>Uj hh st.1 st.2 (by simp) hE
def vw (hh:A.handled=none) (it l:Addr) (items:Array Value) (i:Nat) (hi:items.size<=i):Draws prog w A it [it,l] i (fun _ _=>True) (fun j h=>j=i/\h.IsTupleIter it l j/\h.IsTuple l items) where
 live:=fun _ _ st=>let ⟨o,ho,_⟩:=st.2.1;⟨o,ho⟩
 frame:=fun _ _ _ st hk=>⟨st.1,st.2.1.at fun o e=>hk it (by simp) o e,let ⟨o,ho,r⟩:=st.2.2;⟨o,hk l (by simp) o ho,r⟩⟩
 item:=fun j s Q E hj st hQ=>absurd st.1 (aaJ hj)
 done:=fun s Q E st hE=>Uj hh st.2.1 st.2.2 (by simp;omega) hE
end
open AutoSeq1 (wpAny_loadPart') in
theorem Uh (l:Addr) (items:Array Value) (n:Nat) (dct:Option Addr) (sl:Array (Option Value)):
  PySem.Meets (ad6.«enumerate.__new__» ⟨[.type "enumerate",.ref l],[]⟩) (fun _ R s=>s.heap.get? l=some {cls:= .type "tuple",dict:=dct,data:= .seq items n,slots:=sl}/\
    R (.ok (.ret (.ref (s.heap.push {cls:= .type "tuple_iterator",data:= .fields #[.ref l,.int 0 0]}).objs.size)))
     {s with heap:=(s.heap.push {cls:= .type "tuple_iterator",data:= .fields #[.ref l,.int 0 0]}).push {cls:= .type "enumerate",data:= .fields #[.none,.bool false,.ref s.heap.objs.size,rawInt 0,.none,.none]}}):=
 .of_wp fun prog w A R s h=>by
  obtain ⟨hp,g,d,tk,os⟩:=s;obtain ⟨hl,h⟩:=h;have hsub:=sub_enumerate;have hT:Heap.IsTuple (Shared.heap ⟨hp,g,d,tk,os⟩) l items:=⟨_,hl,rfl,n,rfl⟩
  wp_walk using adu hl
  refine wpAny_stack_any fun st=>aaf ?_
  split
  · rename_i c _ _ _ _ _;cases (c==adE "enumerate")<;>(wp_walk using adu hl,wpAny_pyIter_tuple hT;exact ⟨_,rfl,h⟩)
  · wp_walk using adu hl,wpAny_pyIter_tuple hT
    exact ⟨_,rfl,h⟩
section
variable {prog:aaL} {w:World} {A:aaZ} {E:T9} {s:aah}
def YR {l:Addr} {items:Array Value} {Q:T9} (hL:s.heap.IsTuple l items)
  (h: ∀h',IsEnum h' (s.heap.objs.size+1) s.heap.objs.size 0 .none->h'.IsTupleIter s.heap.objs.size l 0->(∀b o,s.heap.get? b=some o->h'.get? b=some o)->Q (.ref (s.heap.objs.size+1)) {s with heap:=h'}):
  wpAny (model prog w) A (call (.type "enumerate") [.ref l]) Q E s:=by
 obtain ⟨⟨c,dct,dt,sl⟩,hl,hc,n,hd⟩:=hL;cases (show c= .type "tuple" from hc);cases (show dt= .seq items n from hd);refine callType_new F.called_enumerate (by decide) (F.typeCall_enumerate_1 _) (F.newCall_enumerate_1 _) (fun obj=>F.args_object_init_2 obj _) F.entry_enumerate_new (Uh l items n dct sl) ⟨hl,?_⟩;generalize hI:s.heap.push {cls:= .type "tuple_iterator",data:= .fields #[.ref l,.int 0 0]}=hi;have hz:hi.objs.size=s.heap.objs.size+1:=by rw [←hI];exact ac2 ..
 have hit:hi.get? s.heap.objs.size=some {cls:= .type "tuple_iterator",data:= .fields #[.ref l,.int 0 0]}:=by rw [←hI];exact aan _ rfl
 have hk: ∀b o,s.heap.get? b=some o->hi.get? b=some o:=fun b o x=>by rw [←hI];exact aad _ x
 have he:=aan hi (o:={cls:= .type "enumerate",data:= .fields #[.none,.bool false,.ref s.heap.objs.size,rawInt 0,.none,.none]}) rfl;rw [hz] at he;rw [hz];exact ⟨⟨_,he,rfl⟩,h _ he ⟨_,aad _ hit,rfl,rfl⟩ fun b o x=>aad _ (hk b o x)⟩
end
def ItET (K:aaa) (a:Addr) (xs:List V):It:=⟨fun i H=>SqT K H a xs/\i<xs.length,fun i H v H'=> ∃p x,H p=none/\xs[i]?=some x/\v= .ref p/\H'=upd H p (.tup [.int (i:Int),x]),fun i H=>SqT K H a xs/\xs.length<=i⟩
def Yb {P:aaL} {w:World} {K:aaa} {elts:List Expr} {n:Nat} {pos:Pos} (a it e:Addr) (xs:List V) (hei:e≠it) (hai:a≠it) (hae:a≠e):Turn P w K (.Tuple elts n pos) (ItET K a xs) [e,it] e (fun i h=>(∃old,IsEnum h e it (i:Int) old)/\h.IsTupleIter it a i) where
 mem:=by simp
 obj:=fun i h st b hb=>by
  obtain ⟨⟨old,he⟩,o,ho,hc,hd⟩:=st;simp at hb;rcases hb with rfl|rfl
  · exact ⟨_,he,fun v z=>by cases z⟩
  · exact ⟨o,ho,fun v z=>by rw [hd] at z;cases z⟩
 keep:=fun i h h' st k=>by
  obtain ⟨⟨old,he⟩,hit⟩:=st;exact ⟨⟨old,k e (by simp) _ he⟩,hit.at fun o x=>k it (by simp) o x⟩
 item:=by
  intro X hP hw hK hc i pins s σ H E I hf st hg;subst hP hw hK;obtain ⟨hq,hi⟩:=hg;obtain ⟨its,rv,p,hz⟩:=I.tuple hq;have hx:=aac hi;obtain ⟨u,hu,ru⟩:=rv.get hx;obtain ⟨⟨old,he⟩,hit⟩:=st;have fe:=hf e (by simp);have fi:=hf it (by simp);have hl:=rv.length;refine wpAny_pyNext_enum_itemD (Ur (A:=X.A.in1) (I.ok.hd hc) it a hai its.toArray) he ⟨hit,show s.heap.IsTuple a its.toArray from p⟩ (by simp;omega) hei (by simp [hei,acK hae]) fun x h' tk px ho st' hT hsz hk=>?_
  have hxu:x=u:=by
    have:its.toArray[i]?=some u:=by simpa using hu
    rw [this] at px;exact (aaI px).symm
  subst hxu;refine ⟨_,rfl,wpAny_letOwnedTupleGo_enum ho fun h'' he' hs'=>?_⟩;have helt:=aas he;have hilt:it<s.heap.objs.size:=by obtain ⟨_,x,_⟩:=hit;exact aas x
  have hfr:=I.hok.fresh (aae _)
  have I1:Inv X pins σ (upd H s.heap.objs.size (.tup [.int (i:Int),xs[i]])) {s with heap:=s.heap.push {cls:= .type "tuple",data:= .seq #[.int i tk,x]}}:=
    I.laid (fun b o e=>aad _ e) (aae _) ⟨aaF (show 2<=20 by decide) (by decide),[.int i tk,x],.cons ⟨_,rfl⟩ (.cons ru .nil),⟨_,aan _ rfl,rfl,_,rfl⟩⟩
  have fe1:FpOk X pins (upd H s.heap.objs.size (.tup [.int (i:Int),xs[i]])) e:=⟨by rw [jH (aaJ helt)];exact fe.1,fe.2⟩
  have fi1:FpOk X pins (upd H s.heap.objs.size (.tup [.int (i:Int),xs[i]])) it:=⟨by rw [jH (aaJ hilt)];exact fi.1,fi.2⟩
  have I2:=wb (t':=tk+1) I1 (fun b o hbe hbi eo=>by
    refine (hs'.2 b hbe).trans ?_
    by_cases hb:b=s.heap.objs.size
    · subst hb;rw [aan _ rfl] at eo;rw [←eo];exact hT
    · have eo':s.heap.get? b=some o:=by
       rcases Heap.get?_push_cases eo with ⟨z,_⟩|z
       · exact absurd z hb
       · exact z
      exact hk b o hbe hbi eo') fe1 fi1
  refine ⟨.ref s.heap.objs.size,_,I2,rfl,⟨_,_,hfr,hx,rfl,rfl⟩,⟨⟨_,by simpa using he'⟩,st'.1.at fun o y=>(hs'.2 it hei.symm).trans y⟩,fun b hb=>?_⟩;simp at hb;rcases hb with rfl|rfl
  · exact fe1.1
  · exact fi1.1
 done:=by
  intro X hP hw hK hc i pins s σ H E I hf st hg;subst hP hw hK;obtain ⟨hq,hi⟩:=hg;obtain ⟨its,rv,p,hz⟩:=I.tuple hq;obtain ⟨⟨old,he⟩,hit⟩:=st;have hl:=rv.length;refine wpAny_pyNext_enum_endD (vw (A:=X.A.in1) (I.ok.hd hc) it a its.toArray i (by simp;omega)) he ⟨rfl,hit,show s.heap.IsTuple a its.toArray from p⟩ fun h' eb=>⟨rfl,wb I (fun b o hbe hbi eo=>eb b o hbi eo) (hf e (by simp)) (hf it (by simp))⟩
 self:=fun _ _ _ _ _ st h=>let ⟨⟨_,he⟩,_⟩:=st;adI he h
section
variable {X:Cx} {elts:List Expr} {n:Nat} {tpos p pos:Pos} {e:Expr} {f:T0}
def Ui (f:T0):Sl->Res (List D):=fun env=>f env>>=fun d=>match d with
 | .tup ds=> .ok (jz 0 ds)
 |_=> .stuck
def vB (hg:Gl X "enumerate") (hm:X.mg "enumerate" =none) (h:DE X .s e f) (hs:aao [e] X.env=[(false,eval e X.env)]:=by rfl):DI X (.Tuple elts n tpos) (.Call (.Name "enumerate" p) [e] [] pos) (Ui f):=by
 have hE:PE X e (tE X.K .s f):=by with_unfolding_all exact h
 with_unfolding_all exact (show PI X (.Tuple elts n tpos) (.Call (.Name "enumerate" p) [e] [] pos) (tI X.K (Ui f)) from by
  intro pins s σ H R I ⟨G,H0,env,ds,k,ef,q⟩;obtain ⟨d,e1,e2⟩:=jd ef
  have hA:PA X [e] (tA X.K .s fun env=>f env>>=fun d=> .ok [d]):=by
   have:=zf hE xl hs;intro ps pins s σ H Q I ⟨G,H0,env,ds,k,ef,q⟩;obtain ⟨d,c1,c2⟩:=jd ef;cases c2;exact this ps pins s σ H Q I ⟨G,H0,env,d,k,c1,fun v H1 s1 r1 _=>q [v] H1 s1 (.cons r1 .nil)⟩
  refine Call_ (JQ I hg hm boot_enumerate (ab9 (thn (hA pos pins s σ H (fun vs H1=> ∃v,vs=[v]/\Same H H1/\Rep X.K (Sf G env σ) H1 v d) I ⟨G,H0,env,[d],k,by show (f env>>=_)=_;rw [e1];rfl,fun vs H1 s1 r1=>by obtain ⟨v,rfl,r⟩:=r1.one;exact ⟨v,rfl,s1,r⟩⟩) fun us s1 ⟨vs,H1,I1,r1,v,ev,sm,rep⟩=>?_) hs rfl));subst ev;obtain ⟨u,rfl,ru⟩:=yo r1;have k1:=k.grow sm
  cases d with
  |tup es=>
   cases e2;obtain ⟨a,xs,rfl,ha,rs⟩:=rep.tupE;cases ru;have hq:SqT X.K H1 a xs:= .inl (.of ha);obtain ⟨its,rv,pl,hz⟩:=I1.tuple hq;have hlt:a<s1.heap.objs.size:=by obtain ⟨o,ho,_⟩:=pl;exact aas ho
   refine YR (show s1.heap.IsTuple a its.toArray from pl) fun h' he hit hk=>adI he ?_
   have I2:=I1.kept (t':=s1.toks) hk;refine ⟨s1.heap.objs.size+1,[s1.heap.objs.size+1,s1.heap.objs.size],_,_,H1,rfl,I2,Yb a s1.heap.objs.size (s1.heap.objs.size+1) xs (Nat.succ_ne_self _) (aaJ hlt) (aaJ (adJ hlt)),⟨⟨_,he⟩,hit⟩,fun b hb=>?_,?_⟩
   · simp at hb;rcases hb with rfl|rfl
     · exact I1.fpOk (act _) (I1.hok.fresh (act _))
     · exact I1.fpOk (aae _) (I1.hok.fresh (aae _))
   · refine q _ H1 (fun H=>H a=some (.tup xs)) sm (fun i H' pp=>?_) ha fun env' σ' H' fr=>fr.keep a _ ha fun ow=>(k1.mutO ow ha).elim
     have hl:=rs.length;rw [yP];refine ⟨fun hi=>⟨.inl (.of pp),by omega⟩,fun d hd x H2 y=>?_,fun hi=>⟨.inl (.of pp),by omega⟩⟩;obtain ⟨p,x',hp,hx',rfl,rfl⟩:=y;obtain ⟨d',hd',rd⟩:=rs.get' hx';rw [yQ,hd'] at hd;cases hd;exact .inr ⟨p,_,_,hp,rfl,rfl,rfl,.cons (by rw [adQ];exact .int _) (.cons rd .nil)⟩
  |_=>cases e2)
end
section
variable {X:Cx} {K:aaa}
def notN:D->D->Res D
 |a,.non=> .ok (.bl (!a.isNon))
 |_,_=> .stuck
def K7:OpS K (fun x y H Q=>y= .non/\Q (.bl (!decide (x= .non))) H) notN:=by
 intro x y H a b d Q ra rb e q;unfold notN at e
 split at e
 · cases e;refine ⟨rb.nonE,?_⟩;have:decide (x=V.non)=a.isNon:=by cases ra<;>simp [D.isNon]
   rw [this];exact q _ (jeX _)
 · cases e
def jcJ:OpR X (aa9 .Is) (fun x y H Q=> ∃a b,x= .bl a/\y= .bl b/\Q (.bl (a==b)) H):=by
 intro pins s σ H x y v u Q I rx ry ⟨a,b,ex,ey,q⟩;subst ex ey;cases rx;cases ry;exact wpAny_is_plain (by cases a<;>cases b<;>rfl) ⟨.bl _,H,I,by cases a<;>cases b<;>rfl,q⟩
def isB:D->D->Res D
 | .bl a,.bl b=> .ok (.bl (a==b))
 |_,_=> .stuck
def jcQ:OpS K (fun x y H Q=> ∃a b,x= .bl a/\y= .bl b/\Q (.bl (a==b)) H) isB:=by
 intro x y H a b d Q ra rb e q;unfold isB at e
 split at e
 · cases e;cases ra.blE;cases rb.blE;exact ⟨_,_,rfl,rfl,q _ (jeX _)⟩
 · cases e
end
inductive OutI where
 |nx (env:Sl)|rt (b:Bool) (env:Sl)
abbrev At (σ:L2.St) (i:Nat) (a:Addr):Prop:=σ[i]?=some (some (V.ref a))
abbrev FI:=List D->List Key->List D->Res (Bool×List Key×List D)
section
variable {X:Cx}
def slS:D->Option Int->Option Int->Res D
 | .scr ds,lo,hi=> .ok (.lst (cutD ds lo hi))
 |_,_,_=> .stuck
def Uv {e:Expr} {lo hi:Option Expr} {p2 pos:Pos} {f:T0} {fl fh:Sl->Res (Option Int)} (he:DE X .s e f) (hl:DO X lo fl) (hh:DO X hi fh):
   DE X .t (.Subscript e (.Slice lo hi none p2) pos) (qf f fl fh slS):=by
 with_unfolding_all exact (
  PE.imp (Xk sl_list he hl hh) fun σ H Q ⟨G,H0,env,d,k,ef,q⟩=>by
   obtain ⟨a,e1,ef⟩:=jd ef;obtain ⟨lo',e2,ef⟩:=jd ef;obtain ⟨hi',e3,e4⟩:=jd ef;refine ⟨G,H0,env,a,k,e1,fun x H1 s1 r1 _=>⟨G,H0,env,lo',k.grow s1,e2,fun H2 s2=>⟨G,H0,env,hi',(k.grow s1).grow s2,e3,fun H3 s3=>?_⟩⟩⟩;have sm:=s1.trans (s2.trans s3)
   cases a with
   |scr ds=>
    cases e4;obtain ⟨b,xs,rfl,hb,rs⟩:=((r1.grow s2).grow s3).scrE;refine ⟨b,xs,rfl,hb.sql,fun p hp=>q _ _ (sm.trans (Same.upd hp)) (.lst jt (k.new p (Same.free sm hp)) (((WS rs).laid hp).weak fun c z=>⟨z.1,z.2⟩)) ((jW (Same.refl H3) hp).grow sm)⟩
   |_=>cases e4)
def jdI (i j:Int):Prop:=0<j/\j<2^200
def yz:OpR X (acg .FloorDiv) (rI jdI fun i j=> .int (i/j)):=opI fun i j _ _ _ _ _ hc q=>by
 have h1:=hc.1;have h2:=hc.2;refine floordiv_int (by omega) (by rw [acZ i (by omega)];exact q) (.inl (PyProof.noPylong_of_log2 ?_));have h3:j.natAbs<2^200:=by omega
 exact aaC ((Nat.log2_lt (by omega)).mpr h3) (by omega)
abbrev DivW:Int->Int->Prop:=fun _ j=>0<j/\j<2^200
def yA {K:aaa}:OpS K (rI jdI fun i j=> .int (i/j)) (iOp DivW fun i j=> .int (i/j)):=od_I (fun _ _ h=>h) fun i j=>je0 _
abbrev divW:=iOp DivW fun i j=> .int (i/j)
end
def getN (f:Str):List Str->List D->Option D
 |n::ns,d::ds=>if n=f then some d else getN f ns ds
 |_,_=>none
def Ku (f:Str):List Str->List Str
 | []=>[f]
 |n::ns=>if n=f then n::ns else n::Ku f ns
def Kv (f:Str) (d:D):List Str->List D->List D
 | [],_=>[d]
 |n::ns,e::es=>if n=f then d::es else e::Kv f d ns es
 |_::_,[]=>[]
theorem yE {K:aaa} {A:Wb} {H:Hp} {f:Str}: ∀ {fs:List (Str×V)} {ds:List D} {d:D},Reps K A H (fs.map (·.2)) ds->getN f (fs.map (·.1)) ds=some d-> ∃v,fs.lookup f=some v/\Rep K A H v d
 | [],_,_,_,h=>by simp [getN] at h
 | (n,v)::r,_,d,.cons q t,h=>by
  by_cases e:n=f
  · subst e;simp only [aat,getN,if_pos] at h;cases h;exact ⟨v,by simp [abz],q⟩
  · simp only [aat,getN,if_neg e] at h;obtain ⟨v',h1,h2⟩:=yE t h;exact ⟨v',by rw [abl];simp [show (f==n)=false from by simpa using fun z=>e z.symm,h1],h2⟩
theorem Xe {K:aaa} {A:Wb} {H:Hp} {f:Str} {v:V} {d:D} (rv:Rep K A H v d): ∀ {fs:List (Str×V)} {ds:List D},Reps K A H (fs.map (·.2)) ds->(putF f v fs).map (·.1)=Ku f (fs.map (·.1))/\Reps K A H ((putF f v fs).map (·.2)) (Kv f d (fs.map (·.1)) ds)
 | [],_,.nil=>⟨rfl,.cons rv .nil⟩
 | (n,u)::r,_,.cons q t=>by
  by_cases e:n=f
  · simp only [putF,aat,Ku,Kv,if_pos e];exact ⟨trivial,.cons rv t⟩
  · simp only [putF,aat,Ku,Kv,if_neg e];obtain ⟨h1,h2⟩:=Xe rv t;exact ⟨by rw [h1],.cons q h2⟩
theorem Zq {f:Str}: ∀ {fs:List (Str×V)},(fs.map (·.1)).contains f=false->fs.lookup f=none
 | [],_=>rfl
 | (n,u)::r,h=>by
  simp only [aat,List.contains_cons,Bool.or_eq_false_iff] at h;rw [abl];simp [h.1,Zq h.2]
def Rep.objE {K:aaa} {A:Wb} {H:Hp} {v:V} {c:Str} {ns:List Str} {ds:List D} (r:Rep K A H v (.obj c ns ds)): ∃a C dx fs,v= .ref a/\H a=some (.ins C dx fs)/\A a/\aaw K aar c=some (some (.ref C))/\fs.map (·.1)=ns/\Reps K (fun c=>A c/\c≠a) H (fs.map (·.2)) ds:=by
 cases r with
 |obj e a k1 k2 r=>subst k2;exact ⟨_,_,_,_,rfl,e,a,k1.1,k1.2,r⟩
def KQ {K:aaa} {G:Wb} {H0 H:Hp} {env:Sl} {σ:L2.St} {i:Nat} {c:Str} {ns:List Str} {ds:List D} (k:EnvOk K G H0 env σ H) (hi:env[i]?=some (.own (.obj c ns ds))):
  ∃a C dx fs,σ[i]?=some (some (.ref a))/\H a=some (.ins C dx fs)/\aaw K aar c=some (some (.ref C))/\fs.map (·.1)=ns/\Reps K (Sf G env σ) H (fs.map (·.2)) ds:=by
 obtain ⟨a,h1,_,h2⟩:=k.own i _ hi
 cases h2 with
 |obj e k1 k2 r=>subst k2;exact ⟨a,_,_,_,h1,e,k1.1,k1.2,r⟩
structure FldN (K:aaa) (c f:Str):Prop where
 ex: ∃C,aaw K aar c=some (some (.ref C))/\Cls K C/\NoAttr K C f
def FldN.at {K:aaa} {c f:Str} {C:Addr} (h:FldN K c f) (e:aaw K aar c=some (some (.ref C))):Cls K C/\NoAttr K C f:=by
 obtain ⟨C',h1,h2⟩:=h.ex;rw [e] at h1;cases h1;exact h2
def fldD (c f:Str):D->Res D
 | .obj c' ns ds=>must (c'=c) (match getN f ns ds with
  |some d=> .ok d
  |none=> .stuck)
 |_=> .stuck
def XE {c f:Str} {o d:D} (h:fldD c f o= .ok d): ∃ns ds,o= .obj c ns ds/\getN f ns ds=some d:=by
 unfold fldD at h
 split at h
 · rename_i c' ns ds;obtain ⟨hc,h2⟩:=jn h;subst hc
   cases e:getN f ns ds with
   |none=>rw [e] at h2;cases h2
   |some d'=>rw [e] at h2;cases h2;exact ⟨ns,ds,rfl,e⟩
 · cases h
def fldF (c f:Str) (fo:T0):Sl->Res D:=fun env=>fo env>>=fldD c f
section
variable {X:Cx} {e:Expr} {fo:T0} {pos p:Pos} {c f:Str}
def QN (i:Nat) {x:Str} (hf:FldN X.K c f) (hN:X.N[i]?=some x:=by rfl) (hv:Vis X.env.scope x:=by first|exact abV rfl|exact abj (abV rfl)|exact abj (abj rfl))
   (hd:Ym x:=by decide) (hcd:Yl x:=by decide)
   (hb:aa4 (.Name x p) f X.env (eval (.Name x p) X.env)=eval (.Name x p) X.env:=by rfl):DE X .s (.Attribute (.Name x p) f pos) (fldF c f (rdB i)):=by
 with_unfolding_all exact (
  PE.imp (jcE (wn hN hv hd hcd) hb) fun σ H Q ⟨G,H0,env,d,k,ef,q⟩=>by
   obtain ⟨o,e1,e2⟩:=jd ef;obtain ⟨ns,ds,rfl,e3⟩:=XE e2;rcases Kt e1 with z|z
   · obtain ⟨v,h1,h2⟩:=k.shr i _ z;obtain ⟨a,C,dx,fs,rfl,ha,_,hc,hn,rs⟩:=h2.objE;subst hn;obtain ⟨v',g1,g2⟩:=yE rs e3;exact ⟨_,h1,a,C,dx,fs,v',rfl,ha,(hf.at hc).1,(hf.at hc).2,g1,q v' H (Same.refl H) (g2.weak fun _ z=>z.1) trivial⟩
   · obtain ⟨a,C,dx,fs,h1,ha,hc,hn,rs⟩:=KQ k z;subst hn;obtain ⟨v',g1,g2⟩:=yE rs e3
     exact ⟨_,h1,a,C,dx,fs,v',rfl,ha,(hf.at hc).1,(hf.at hc).2,g1,q v' H (Same.refl H) g2 trivial⟩)
end
inductive OutO where
 |nx (env:Sl)|rt (d:D) (env:Sl)
def jbP (K:aaa) (G:Wb) (H0:Hp) (i:Nat) (a:Addr) (env:Sl) (σ:L2.St) (H:Hp) (E:Ends):OutO->Prop
 | .nx env'=> ∀σ' H',EnvOk K G H0 env' σ' H'->At σ' i a->Frm env σ H env' σ' H'->E.nx σ' H'
 | .rt d env'=> ∀v σ' H',EnvOk K G H0 env' σ' H'->At σ' i a->Frm env σ H env' σ' H'->Rep K (Sf G env' σ') H' v d->E.rt v H'
def tSO (K:aaa) (i:Nat) (g:Sl->Res OutO):TS:=fun E σ H=> ∃G H0 env o a,EnvOk K G H0 env σ H/\At σ i a/\g env= .ok o/\jbP K G H0 i a env σ H E o
@[irreducible] def DSO (X:Cx) (i:Nat) (st:Stmt) (g:Sl->Res OutO):Prop:=PS X st (tSO X.K i g)
@[irreducible] def DSsO (X:Cx) (i:Nat) (st:List Stmt) (g:Sl->Res OutO):Prop:=PSs X st (tSO X.K i g)
theorem Wn {K:aaa} {G:Wb} {H0 H H':Hp} {env env':Sl} {σ σ':L2.St} {i:Nat} {a:Addr} {E:Ends} {o:OutO} (f:Frm env σ H env' σ' H') (q:jbP K G H0 i a env σ H E o):jbP K G H0 i a env' σ' H' E o:=by
 cases o with
 |nx e=>exact fun σ2 H2 k2 a2 f2=>q σ2 H2 k2 a2 (f.trans f2)
 |rt b e=>exact fun v σ2 H2 k2 a2 f2 r2=>q v σ2 H2 k2 a2 (f.trans f2) r2
section
variable {X:Cx} {i:Nat} {e c0 tg:Expr} {st:Stmt} {rest body orelse:List Stmt} {pos p apos:Pos} {l:Lv} {f:T0} {g g1 g2:Sl->Res OutO} {c n x:Str}
def seqJ (g1 g2:Sl->Res OutO):Sl->Res OutO:=fun env=>g1 env>>=fun o=>match o with
 | .nx env'=>g2 env'
 | .rt b e=> .ok (.rt b e)
def ZJ (h1:DSO X i st g1) (h2:DSsO X i rest g2):DSsO X i (st::rest) (seqJ g1 g2):=by
 with_unfolding_all exact (PSs.imp (Xg h1 h2) fun E σ H ⟨G,H0,env,o,a,k,ha,ef,q⟩=>by
  obtain ⟨o1,e1,e2⟩:=jd ef;refine ⟨G,H0,env,o1,a,k,ha,e1,?_⟩
  cases o1 with
  |nx env1=>exact fun σ' H' k' a' f'=>⟨G,H0,env1,o,a,k',a',e2,Wn f' q⟩
  |rt b env1=>cases e2;exact q)
def QJ (h1:DSO X i st g1):DSsO X i [st] g1:=by
 with_unfolding_all exact (PSs.imp (Kx h1) fun E σ H q=>q)
def nxJ:Sl->Res OutO:=fun env=> .ok (.nx env)
def vm:DSsO X i [] nxJ:=by
 with_unfolding_all exact (PSs.imp Ky fun E σ H ⟨G,H0,env,o,a,k,ha,ef,q⟩=>by
  cases ef
  exact q σ H k ha (Frm.refl (Same.refl H)))
def ifJ (t:TZ) (g1 g2:Sl->Res OutO):Sl->Res OutO:=fun env=>t env>>=fun b=>if b=true then g1 env else g2 env
def jdt {t:TZ} (hc:DT X c0 t) (h1:DSsO X i body g1) (h2:DSsO X i orelse g2):DSO X i (.If c0 body orelse pos) (ifJ t g1 g2):=by
 with_unfolding_all exact (PS.imp (jcq hc h1 h2) fun E σ H ⟨G,H0,env,o,a,k,ha,ef,q⟩=>by
  obtain ⟨b,e1,e2⟩:=jd ef;refine ⟨G,H0,env,b,k,e1,fun H' s=>?_⟩
  cases b with
  |true=>
   rw [if_pos rfl] at e2 ⊢;exact ⟨G,H0,env,o,a,k.grow s,ha,e2,Wn (Frm.refl s) q⟩
  |false=>
   rw [if_neg aaH] at e2 ⊢
   exact ⟨G,H0,env,o,a,k.grow s,ha,e2,Wn (Frm.refl s) q⟩)
def W6:Sl->Res OutO:=fun _=> .stuck
def Um:DSO X i st W6:=by
 with_unfolding_all exact (fun pins s σ H E I ⟨G,H0,env,o,a,k,ha,ef,q⟩=>by cases ef)
def ownJ (i:Nat) (c:Str):Sl->Res (List Str×List D):=fun env=>match env[i]? with
 |some (.own (.obj c' ns ds))=>must (c'=c) (.ok (ns,ds))
 |_=> .stuck
def ku {q:List Str×List D} {env:Sl} (h:ownJ i c env= .ok q):env[i]?=some (.own (.obj c q.1 q.2)):=by
 unfold ownJ at h
 split at h
 · rename_i c' ns ds e;obtain ⟨hc,h2⟩:=jn h;subst hc;cases h2;exact e
 · cases h
def Yk (i:Nat) (c n:Str) (f:T0):Sl->Res OutO:=fun env=>f env>>=fun d=>ownJ i c env>>=fun q=>must (q.1.length<1000) (.ok (.nx (env.set i (.own (.obj c (Ku n q.1) (Kv n d q.1 q.2))))))
def QK (hf:FldN X.K c n) (h:DE X .s e f) (hN:X.N[i]?=some x:=by rfl) (hv:Vis X.env.scope x:=by first|exact abV rfl|exact abj (abV rfl)|exact abj (abj rfl))
   (hd:Ym x:=by decide) (hcd:Yl x:=by decide)
   (hs:abY e (some (.Attribute (.Name x p) n apos)) pos.line X.env=pure false:=by rfl):DSO X i (.Assign [.Attribute (.Name x p) n apos] e pos) (Yk i c n f):=by
 with_unfolding_all exact (
  PS.imp (jcs (wn hN hv hd hcd) h hs) fun E σ H ⟨G,H0,env,o,a,k,ha,ef,q⟩=>by
   obtain ⟨d,e1,ef⟩:=jd ef;obtain ⟨ns,e2,ef⟩:=jd ef;obtain ⟨hz,e3⟩:=jn ef;cases e3;have hi:=ku e2;refine ⟨G,H0,env,d,k,e1,fun y H1 s1 r1 _=>?_⟩;obtain ⟨a',C,dx,fs,h1,hx,hc,hn,rs⟩:=KQ (k.grow s1) hi;rw [ha] at h1;cases h1;refine ⟨_,ha,a,C,dx,fs,rfl,hx,(hf.at hc).1,(hf.at hc).2,by rw [←hn,aak] at hz;exact hz,?_⟩;obtain ⟨p1,p2⟩:=Xe r1 rs;rw [hn] at p1 p2;have W:=(k.grow s1).writeG (o':= .ins C dx (putF n y fs)) hi ha hx trivial fun A' H' st e w=> .obj e ⟨hc,p1⟩ rfl (p2.stay st w)
   exact q σ _ W.1 ha (W.2.grow s1))
end
structure AvM (P:aaL) (w:World) (K:aaa) (mg:W9) (base:Heap) (k:Nat) (c m:Str) (ps:List Str) (fr:Bool) (F:TW):Prop where
 ex: ∃C f fd,FnOk P w K mg base CX0 k f fd ps (spF K fr ps.length F)/\aaw K aar c=some (some (.ref C))/\Cls K C/\Meth K C m f/\Binds K fd ps []
def AvM.mono {P:aaL} {w:World} {K:aaa} {mg:W9} {base:Heap} {j k:Nat} {c m:Str} {ps:List Str} {fr:Bool} {F:TW} (h:AvM P w K mg base j c m ps fr F) (hj:j<=k):AvM P w K mg base k c m ps fr F:=
 let ⟨C,f,fd,a,b⟩:=h.ex
 ⟨C,f,fd,a.mono hj,b⟩
def j3 (c m:Str) (n:Nat) (F:TW) (fo:T0) (g:TX):Sl->Res D:=fun env=>fo env>>=fun o=>match o with
 | .obj c' ns vs=>must (c'=c/\ns.contains m=false) (g env>>=fun ds=>must (ds.length+1=n) (F (.obj c' ns vs::ds)))
 |_=> .stuck
def Vg {c m:Str} {n:Nat} {F:TW} {fo:T0} {g:TX} {env:Sl} {d:D} (h:j3 c m n F fo g env= .ok d): ∃ns vs ds,fo env= .ok (.obj c ns vs)/\ns.contains m=false/\g env= .ok ds/\ds.length+1=n/\F (.obj c ns vs::ds)= .ok d:=by
 obtain ⟨o,h1,h⟩:=jd h
 cases o with
 |obj c' ns vs=>
  obtain ⟨⟨hc,h2⟩,h'⟩:=jn h;subst hc;obtain ⟨ds,h3,h''⟩:=jd h';obtain ⟨h4,h5⟩:=jn h'';exact ⟨ns,vs,ds,h1,h2,h3,h4,h5⟩
 |_=>cases h
section
variable {X:Cx} {k n:Nat} {c m:Str} {ps:List Str} {fr:Bool} {F:TW} {o e:Expr} {es:List Expr} {pos apos:Pos} {fo:T0} {g:TX} {pl:Sem Bool}
def AvM.callT (A:AvM X.prog X.w X.K X.mg X.base k c m ps true F) (hr:Room k X.A) (ho:DE X .s o fo) (ha:DA X .s (e::es) g) (hn:ps.length=n:=by rfl)
  (hst:T8 X e es:=by exact jp rfl) (hpl:T7 X pos es:=by exact jC rfl)
  (ht:eval (.Call (.Attribute o m apos) (e::es) [] pos) X.env=(do
   let ov←eval o X.env
   standAt apos.atName
   let (f,first)←adV [ov] (getMethod ov m pl)
   callWith pos f first (abw pos (aao (e::es) X.env)) (adr pos (acb [] X.env))):=by rfl):DE X .t (.Call (.Attribute o m apos) (e::es) [] pos) (j3 c m n F fo g):=by
 subst hn;obtain ⟨C,f,fd,h1,h2,h3,h4,h5⟩:=A.ex
 with_unfolding_all exact (
 PE.imp (jay ho h3 h4 h1 hr h5 .nil KM ha hst hpl ht) fun σ H Q ⟨GG,H0,env,d,k,ef,q⟩=>by
  obtain ⟨ns,vs,ds,e1,e2,e3,e4,e5⟩:=Vg ef;refine ⟨GG,H0,env,_,k,e1,fun v H1 s1 r1 _=>?_⟩;obtain ⟨a,C',dx,fs,rfl,hx,_,hc,hn,rs⟩:=r1.objE;rw [h2] at hc;cases hc;refine ⟨a,dx,fs,rfl,hx,Zq (by rw [hn];exact e2),GG,H0,env,ds,k.grow s1,e3,fun ws H2 s2 r2=>?_⟩;show spF X.K true ps.length F (.ref a::(ws++[])) H2 Q (fun _ _ _=>False);rw [abe]
  exact ⟨_,_::ds,d,by simp [r2.length,e4],.cons (r1.grow s2) r2,e5,fun v H3 s3 r3 nt=>q v H3 (s1.trans (s2.trans s3)) (r3.weak fun c z=>z.elim (fun z=>k.new c (Same.free s1 (Same.free s2 z))) fun z=>z) (((nt rfl).grow s2).grow s1)⟩)
def noA:Sl->Res (List D):=fun _=> .ok []
end
section
variable {P:aaL} {w:World} {K:aaa} {mg:W9} {base:Heap}
def jdB {c m qual:Str} {st:Stmt} {C f:Addr} {fd:ab1} {N ps:List Str} {k:Nat} (fr:Bool) {g:TY} (Fu:Fun K m qual st f fd) (hC:aaw K aar c=some (some (.ref C))) (cl:Cls K C) (me:Meth K C m f) (S:FnScope N ps (jh st)) (hbi:Binds K fd ps [])
  (hb: ∀(cdv:Value) (A:aaZ) (outer:List Env) (s:aah) (H:Hp) (E:XK),Room k (A.deeper (adN qual (jh st) s.heap.objs.size f cdv))->DSs (cxOf CX0 P w K mg base N qual (jh st) f cdv A outer s H E).nox (jY st) g):
  AvM P w K mg base (k+1) c m ps fr (runF fr N.length g):=
 ⟨C,f,fd,jbc Fu S hb fun ds d _ h=>ya h,hC,cl,me,hbi⟩
end
abbrev FO:=D->List D->Res (D×D)
def spJ (K:aaa) (n:Nat) (F:FO):Sp:=fun vs H Q _=> ∃(B:Wb) (ds:List D) (us:List V) (a:Addr) (d0 r d1:D),vs=V.ref a::us/\us.length=n/\Reps K (fun c=>B c/\c≠a) H us ds/\Top K (fun c=>B c/\c≠a) H a d0/\F d0 ds= .ok (r,d1)/\
 ∀v H',(∀c o,c≠a->H c=some o->H' c=some o)->Top K (fun c=>(H c=none\/B c)/\c≠a) H' a d1->Rep K (fun c=>(H c=none\/B c)/\c≠a) H' v r->Q v H'
def yj (n:Nat) (d0:D) (ds:List D):Sl:= .own d0::(ds.map .shr++aal (n-ds.length-1) .un)
def w5 {n:Nat} {d0:D} {ds:List D} {j:Nat} {s:Slot} (h:(yj n d0 ds)[j]?=some s):(j=0/\s= .own d0)\/(∃j' d,j=j'+1/\ds[j']?=some d/\s= .shr d)\/s= .un:=by
 unfold yj at h
 cases j with
 |zero=>simp at h;exact .inl ⟨rfl,h.symm⟩
 |succ j=>
  rw [aaQ] at h
  by_cases q:j<ds.length
  · rw [aaA (by simpa using q),aaG] at h
    cases e:ds[j]? with
    |none=>rw [e] at h;cases h
    |some x=>rw [e] at h;cases h;exact .inr (.inl ⟨j,x,rfl,e,rfl⟩)
  · rw [aap (by simpa using q),abb] at h
    split at h
    · cases h;exact .inr (.inr rfl)
    · cases h
def YK {K:aaa} {B:Wb} {N:List Str} {us:List V} {ds:List D} {a:Addr} {d0:D} {H:Hp} (r:Reps K (fun c=>B c/\c≠a) H us ds) (t:Top K (fun c=>B c/\c≠a) H a d0) (hN:ds.length+1<=N.length):
   EnvOk K (fun c=>H c=none\/c=a\/B c) (fun c=>if c=a then none else H c) (yj N.length d0 ds) (start N (V.ref a::us)) H/\At (start N (V.ref a::us)) 0 a:=by
 have hl:=r.length
 have hat:At (start N (V.ref a::us)) 0 a:=by
   show (L2.start N (V.ref a::us))[0]?=_;unfold L2.start;simp
 have hget: ∀(j:Nat) (v:V),us[j]?=some v->(start N (V.ref a::us))[j+1]?=some (some v):=fun j v h=>by
   have hj:=(aaz.mp h).1;unfold L2.start;rw [aaA (by simp;omega),aaG,aaQ,h];rfl
 have own1: ∀c,jR (yj N.length d0 ds) (start N (V.ref a::us)) c->c=a:=fun c ⟨j,d,h1,h2⟩=>by
   rcases w5 h1 with ⟨rfl,_⟩| ⟨_,_,_,_,z⟩|z
   · rw [hat] at h2;cases h2;rfl
   · cases z
   · cases z
 have w: ∀c,B c/\c≠a->Sf (fun c=>H c=none\/c=a\/B c) (yj N.length d0 ds) (start N (V.ref a::us)) c:=fun c z=>⟨fun o=>z.2 (own1 c o),.inr (.inr z.1)⟩
 refine ⟨⟨?_,fun c o e=>?_,fun c e=>?_,fun j d h=>?_,fun j d h=>?_,fun j j' d e b h1 h2 h3 h4=>?_⟩,hat⟩
 · simp [L2.start,yj,hl];omega
 · split at e
   · cases e
   · exact e
 · split at e
   · rename_i z;exact .inr (.inl z)
   · exact .inl e
 · rcases w5 h with ⟨_,z⟩| ⟨j',d',rfl,e,z⟩|z
   · cases z
   · cases z;obtain ⟨v,h1,h2⟩:=r.get e;exact ⟨v,hget j' v h1,h2.weak w⟩
   · cases z
 · rcases w5 h with ⟨rfl,z⟩| ⟨j',d',_,e,z⟩|z
   · cases z;exact ⟨a,hat,if_pos rfl,t.stay (fun _ _ e _=>e) w fun _ e=>e⟩
   · cases z
   · cases z
 · have real: ∀(j:Nat) (d:D),(yj N.length d0 ds)[j]?=some (.own d)->j=0:=fun j d h=>by
     rcases w5 h with ⟨z,_⟩| ⟨_,_,_,_,z⟩|z
     · exact z
     · cases z
     · cases z
   rw [real j d h1,real j' e h2]
def Kj:Sl->Res D
 | .own d::_=> .ok d
 |_=> .stuck
def Ki {env:Sl} {d:D} (h:Kj env= .ok d):env[0]?=some (.own d):=by
 unfold Kj at h
 split at h
 · cases h;rfl
 · cases h
def runJ (N n:Nat) (g:Sl->Res OutO):FO:=fun d0 ds=>must (ds.length=n) (g (yj N d0 ds)>>=fun o=>match o with
 | .nx env=>Kj env>>=fun d=> .ok (.non,d)
 | .rt r env=>Kj env>>=fun d=> .ok (r,d))
section
variable {P:aaL} {w:World} {K:aaa} {mg:W9} {base:Heap}
def jdl {m qual:Str} {st:Stmt} {f:Addr} {fd:ab1} {N ps:List Str} {k n:Nat} {g:Sl->Res OutO} (Fu:Fun K m qual st f fd) (S:FnScope N ps (jh st)) (hn:ps.length=n+1) (hN:n+1<=N.length)
  (hb: ∀(cdv:Value) (A:aaZ) (outer:List Env) (s:aah) (H:Hp) (E:XK),Room k (A.deeper (adN qual (jh st) s.heap.objs.size f cdv))->DSsO (cxOf CX0 P w K mg base N qual (jh st) f cdv A outer s H E).nox 0 (jY st) g):
  FnOk P w K mg base CX0 (k+1) f fd ps (spJ K n (runJ N.length n g)):=by
 with_unfolding_all exact (by
 refine Fu.ok S (fun vs H Q E ⟨B,ds,us,a,d0,r,d1,ev,hl,_⟩=>by rw [ev,aau,hl,hn]) (fun cdv A outer s H vs Q E hr h=>?_);obtain ⟨B,ds,us,a,d0,r,d1,ev,hl,rs,t,eF,q⟩:=h;refine ⟨_,hb cdv A outer s H E hr,?_⟩;obtain ⟨e0,eF⟩:=jn eF;obtain ⟨o,e1,eF⟩:=jd eF;subst ev;obtain ⟨kk,hat⟩:=YK (N:=N) rs t (by omega)
 have fin: ∀(env':Sl) (σ':L2.St) (H':Hp) (v:V),EnvOk K (fun c=>H c=none\/c=a\/B c) (fun c=>if c=a then none else H c) env' σ' H'->At σ' 0 a->Kj env'= .ok d1->Rep K (Sf (fun c=>H c=none\/c=a\/B c) env' σ') H' v r->Q v H':=fun env' σ' H' v k' a' e2 rv=>by
  have hi:=Ki e2;obtain ⟨a2,h1,_,t2⟩:=k'.own 0 _ hi;rw [a'] at h1;cases h1
  have ww: ∀c,Sf (fun c=>H c=none\/c=a\/B c) env' σ' c->(H c=none\/B c)/\c≠a:=fun c z=>by
   have hca:c≠a:=by
     rintro rfl;exact z.1 ⟨0,_,hi,a'⟩
   refine ⟨?_,hca⟩;rcases z.2 with z|z|z
   · exact .inl z
   · exact absurd z hca
   · exact .inr z
  exact q v H' (fun c o hc e=>k'.base c o (by rw [if_neg hc];exact e)) (t2.stay (fun _ _ e _=>e) ww fun _ e=>e) (rv.weak ww)
 refine ⟨_,_,_,o,a,kk,hat,e1,?_⟩
 cases o with
 |nx env'=>
  obtain ⟨d,e2,e3⟩:=jd eF;cases e3;exact fun σ' H' k' a' f'=>fin env' σ' H' .non k' a' e2 .non
 |rt r' env'=>
  obtain ⟨d,e2,e3⟩:=jd eF;cases e3
  exact fun v σ' H' k' a' f' rv=>fin env' σ' H' v k' a' e2 rv)
end
structure AvK (P:aaL) (w:World) (K:aaa) (mg:W9) (base:Heap) (k:Nat) (c:Str) (n:Nat) (F:FO):Prop where
 ex: ∃C f fd ps,FnOk P w K mg base CX0 k f fd ps (spJ K n F)/\aaw K aar c=some (some (.ref C))/\mg c=some (.ref C)/\Mk K C f/\Binds K fd ps []
def Yz (c:Str) (n:Nat) (F:FO) (g:TX):Sl->Res D:=fun env=>g env>>=fun ds=>must (ds.length=n) (F (.obj c [] []) ds>>=fun q=>match q with
 | (.non,d)=> .ok d
 |_=> .stuck)
section
variable {X:Cx} {k n:Nat} {c:Str} {F:FO} {e:Expr} {es:List Expr} {pos p:Pos} {g:TX}
def AvK.make (A:AvK X.prog X.w X.K X.mg X.base k c n F) (hr:Room (k+1) X.A) (ha:DA X .s (e::es) g) (hg:Gl X c:=by rfl) (hdb:Ym c:=by decide)
  (he:T8 X e es:=by exact jp rfl) (hpl:T7 X pos es:=by exact jC rfl):
  DE X .t (.Call (.Name c p) (e::es) [] pos) (Yz c n F g):=by
 obtain ⟨C,f,fd,ps,h1,h2,h3,h4,h5⟩:=A.ex
 with_unfolding_all exact (
 PE.imp (jaz h4 h1 hr hg h3 h5 .nil KM ha hdb he hpl) fun σ H Q ⟨G,H0,env,d,k,ef,q⟩=>by
  obtain ⟨ds,e1,ef⟩:=jd ef;obtain ⟨hn,ef⟩:=jn ef;obtain ⟨⟨r,d1⟩,e2,ef⟩:=jd ef
  cases r with
  |non=>
   cases ef;refine ⟨G,H0,env,ds,k,e1,fun vs H1 s1 r1 x dx hx hdx ne=>?_⟩
   have S:Same H1 (upd (upd H1 dx (.own x)) x (.ins C dx [])):=fun b o eb=>by
    rw [jH (jU eb hx),jH (jU eb hdx)];exact eb
   have kx:=k.new x (Same.free s1 hx);have rr:=r1.inDom.grow S;rw [abe];refine ⟨Sf G env σ,ds,vs,x,_,.non,d,rfl,by rw [r1.length];exact hn,rr.weak fun b z=>⟨z.1,by rintro rfl;exact z.2 hx⟩,.obj jt ⟨h2,rfl⟩ rfl .nil,e2,fun v H' hs t rv=>⟨rv.nonE,?_⟩⟩;have sH:Same H H':=fun b o eb=>hs b o (jU (s1 b o eb) hx) (S b o (s1 b o eb))
   refine q _ H' sH (t.rep (fun b z=>⟨z.1.elim (fun z=>k.new b (Same.free s1 (Same.free S z))) fun z=>z,z.2⟩) kx) fun b eb o qb m=>?_
   cases eb;rw [s1 _ _ qb] at hx;cases hx
  |_=>cases ef)
end
section
variable {P:aaL} {w:World} {K:aaa} {mg:W9} {base:Heap}
def jdD {c m qual:Str} {st:Stmt} {C f:Addr} {fd:ab1} {N ps:List Str} {k n:Nat} {g:Sl->Res OutO} (Fu:Fun K m qual st f fd) (hC:aaw K aar c=some (some (.ref C))) (hmg:mg c=some (.ref C)) (mk:Mk K C f) (S:FnScope N ps (jh st)) (hbi:Binds K fd ps []) (hn:ps.length=n+1) (hN:n+1<=N.length)
  (hb: ∀(cdv:Value) (A:aaZ) (outer:List Env) (s:aah) (H:Hp) (E:XK),Room k (A.deeper (adN qual (jh st) s.heap.objs.size f cdv))->DSsO (cxOf CX0 P w K mg base N qual (jh st) f cdv A outer s H E).nox 0 (jY st) g):
  AvK P w K mg base (k+1) c n (runJ N.length n g):=
 ⟨C,f,fd,ps,jdl Fu S hn hN hb,hC,hmg,mk,hbi⟩
end
section
variable {prog:aaL} {w:World} {A:aaZ} {E:T9} {s:aah}
def Zr:typeLookup (.type "list") "keys" =pure none:=by rw [typeLookup_type,builtinLookup_eq_fast];kernel_rfl
def Vq {a:Addr} {o:Obj} {xs:Array Value} {k:Nat} {Q:Option Value->aah->Prop} (ho:s.heap.get? a=some o) (hc:o.cls= .type "list") (hdd:o.dict=none) (hd:o.data= .seq xs k) (hA:A.handled=none)
  (h: ∀h' tk,(∀b ob,s.heap.get? b=some ob->h'.get? b=some ob)->Q none {s with heap:=h',toks:=tk}):wpAny (model prog w) A (getAttr? (.ref a) "keys") Q E s:=by
 obtain ⟨hp,g,d,tk,os⟩:=s;obtain ⟨oc,od,odata,osl⟩:=o;simp only at hc hdd hd;subst hc hdd hd;have hT:(⟨hp,g,d,tk,os⟩:aah).TypeIs (.ref a) "list" :=⟨_,ho,rfl⟩
 have hT':(⟨hp,g,d,tk+1,os⟩:aah).TypeIs (.ref a) "list" :=⟨_,ho,rfl⟩
 have f1:=sub_AttributeError;have f3:=adl.lookup;have f4:=adl.bind (.ref a);have f5:=am_list_getattr_none;unfold getAttr? getAttrBy? getAttrBy
 repeat (any_goals (first | assumption | ((with_reducible show wpAny _ _ (call (Value.builtin "list.__getattribute__") _ _) _ _ _); refine ad5 adl hT' am_entry_list_getattribute (F.args_list_getattribute_2 _ _) (meets_getattribute_miss_list a xs k osl "keys" _ Zr (by decide)) ⟨ho, hA, fun h' tk' e hx => ?_⟩) | wp_step))
 obtain ⟨t',u',he⟩:=hx.there;unfold getattributeRaised
 repeat (any_goals (first|assumption|wp_step))
 exact h h' _ hx.keeps
def qD:entryFor table "dict.update.loop" =some ad6.«dict.update.loop» :=entryFor_of_tree (by kernel_rfl)
def jM:plainId "dict.update.loop" =true:=by decide+kernel
def Qh {t:Addr} {o:Obj} {n:Nat} {its:Array Value} {Q:List Value->aah->Prop} (ho:s.heap.get? t=some o) (hc:o.cls= .type "tuple") (hd:o.data= .seq its n) (h:Q its.toList s):wpAny (model prog w) A (aeQ (.ref t)) Q E s:=by
 unfold aeQ;refine aab (adP (show s.TypeIs (.ref t) "tuple" from ⟨o,ho,hc⟩) ?_);rw [if_pos (by decide)];refine aab (ac1 ho hd ?_);exact aaf h
def ZU (pr:Nat->List Key×Addr×Value):Nat->List (List Key×Addr×Value)
 |0=>[]
 |i+1=>aee (ZU pr i) (pr i).1 (pr i).2.1 (pr i).2.2
def Z9 (xs:List (List Key×Addr×Value)) (k:List Key) (a:Addr) (v:Value):(aee xs k a v).length<=xs.length+1:=by
 cases h:atKey xs k with
 |none=>rw [storedH_new h];simp
 |some p=>rw [storedH_old h];simp
theorem Jn (pr:Nat->List Key×Addr×Value): ∀i,(ZU pr i).length<=i
 |0=>aae _
 |i+1=>aaF (Z9 _ _ _ _) (Nat.succ_le_succ (Jn pr i))
def Q5 {xs:List (List Key×Addr×Value)} {k:List Key} {a:Addr} {v:Value} {N:Nat} (h: ∀x∈xs,x.2.1<N) (ha:a<N): ∀x∈aee xs k a v,x.2.1<N:=by
 intro x hx
 cases q:atKey xs k with
 |none=>
  rw [storedH_new q] at hx;rcases aa8.mp hx with z|z
  · exact h x z
  · rw [abB] at z;subst z;exact ha
 |some p=>
  rw [storedH_old q] at hx;obtain ⟨y,hy,rfl⟩:=aaB.mp hx;unfold putAt
  split
  · exact h y hy
  · exact h y hy
theorem yg {pr:Nat->List Key×Addr×Value} {N n:Nat} (h: ∀i,i<n->(pr i).2.1<N): ∀i,i<=n-> ∀x∈ZU pr i,x.2.1<N
 |0,_,x,hx=>by cases hx
 |i+1,hi,x,hx=>Q5 (yg h i (by omega)) (h i (by omega)) x hx
variable {R:Result->aah->Prop} {I:Addr} {fp wr:List Addr} {G:Array GenState->Array GenState->Prop} {n:Nat} {P:Nat->Value->Prop} {St:Nat->aah->Prop}
def YA (W:WalksS prog w A.in1 I fp wr G n P St) (d:Addr) (hdf:d∉fp) (pr:Nat->List Key×Addr×Value) (h0:Heap) (hkey: ∀i,i<n->abt (jF prog w) h0 (pr i).1 (pr i).2.1)
  (hval: ∀i v,P i v-> ∃t o m,v= .ref t/\h0.get? t=some o/\o.cls= .type "tuple" /\o.data= .seq #[.ref (pr i).2.1,(pr i).2.2] m)
  (hdw:h0.objs.size<=d) (hIw: ∀b∈wr,h0.objs.size<=b) (hu:A.in1.units<cLine) (hn:n<=aai):
  ∀(k i:Nat) (s:aah),n-i=k->i<=n->St i s->s.heap.DictOfH (acN (jF prog w)) d (ZU pr i)->(∀b o,b<h0.objs.size->h0.get? b=some o->s.heap.get? b=some o)->
    (∀s',Moved (d::wr) G s s'->s'.heap.DictOfH (acN (jF prog w)) d (ZU pr n)->R (.ok (.ret .none)) s')->
    aeH (model prog w) A (.builtin "dict.update.loop" ⟨[.ref d,.ref I,rawInt i,.none],[]⟩) R s:=by
 have hSw:d∉wr:=fun h=>hdf (W.sub _ h)
 have hsub: ∀b∈wr,b∈d::wr:=fun b hb=>aaj _ hb
 have hka: ∀i,i<n->(pr i).2.1<h0.objs.size:=fun i hi=>by
  obtain ⟨o',items,n',g1,g2⟩:=hkey i hi;exact aas g1
 have dkeep: ∀ {s s':aah} {xs:List (List Key×Addr×Value)},s.heap.DictOfH (acN (jF prog w)) d xs->(∀x∈xs,x.2.1<h0.objs.size)->Moved wr G s s'->s'.heap.DictOfH (acN (jF prog w)) d xs:=fun hS hx hm=>by
  obtain ⟨o,es,ep,ho,hc,hd,he,his,hnd⟩:=hS;refine ⟨o,es,ep,hm.heap d _ hSw ho,hc,hd,he,fun x hxx=>?_,hnd⟩;obtain ⟨o',items,n',g1,g2⟩:=(show abt (jF prog w) _ x.1 x.2.1 from his x hxx)
  exact ⟨o',items,n',hm.heap _ _ (fun z=>absurd (hIw _ z) (Nat.not_le_of_lt (hx x hxx))) g1,g2⟩
 intro k
 induction k with
 |zero=>
  intro i s hk hi hst hS hold hR;have hin:i=n:=by omega
  subst hin;refine ady qD ?_;rw [ac0 jM _];refine aab (W.done s _ _ hst fun s' hm=>?_);refine aab (aaf ?_);exact aaf (hR s' (hm.mono hsub) (dkeep hS (yg hka _ (aae _)) hm))
 |succ k ih=>
  intro i s hk hi hst hS hold hR;have hlt:i<n:=by omega
  refine ady qD ?_;rw [ac0 jM _];refine aab (W.item i s _ _ hlt hst fun v s' hP hst' hm=>?_);obtain ⟨t,o,m,rfl,ht,hc,hd⟩:=hval i v hP;have hold': ∀b o,b<h0.objs.size->h0.get? b=some o->s'.heap.get? b=some o:=fun b o hb e=>hm.heap b o (fun z=>absurd (hIw _ z) (Nat.not_le_of_lt hb)) (hold b o hb e)
  have hS':=dkeep hS (yg hka _ hi) hm;have ht':=hold' _ _ (aas ht) ht;refine aab (aba ?_);refine aab (wpAny_tryCatch (Qh ht' hc hd ?_));refine aba ?_
  have hk':(acN (jF prog w)).is s'.heap (pr i).1 (pr i).2.1:=by
    obtain ⟨o',items,n',g1,g2⟩:=hkey i hlt;exact ⟨o',items,n',hold' _ _ (aas g1) g1,g2⟩
  refine wpAny_dictSet_heap hu hk' hS' (fun h' dd' hs=>?_) (aaF (Jn pr i) (aaF hi hn));refine aaf ⟨plainId_quiet jM _,?_⟩;have hrun:=ih (i+1) {s' with heap:=h',toks:=s'.toks+(acN (jF prog w)).draws (pr i).1} (by omega) hlt (W.frame _ s' _ _ hst' (acm _ _) fun b hb o e=>?_) dd' (fun b o hb e=>?_) fun s'' hm'' hS''=>?_
  · exact hrun
  · rw [hs.2 b (fun h:b=d=>hdf (by rw [←h];exact hb))];exact e
  · rw [hs.2 b (fun h:b=d=>absurd hdw (by rw [←h];exact Nat.not_le_of_lt hb))];exact hold' b o hb e
  · refine hR s'' (Moved.trans W.gtrans ((hm.mono hsub).then_heap (acm _ _) fun b o hb e=>?_) hm'') hS'';rw [hs.2 b (fun h:b=d=>hb (by rw [h];exact aam))];exact e
def Jl {l:Addr} {ol:Obj} {its:Array Value} {m:Nat} {Q:T9} (pr:Nat->List Key×Addr×Value) (hh:A.handled=none) (ho:s.heap.get? l=some ol) (hc:ol.cls= .type "list") (hdd:ol.dict=none) (hd:ol.data= .seq its m)
  (hkey: ∀i,i<its.size->abt (jF prog w) s.heap (pr i).1 (pr i).2.1)
  (hval: ∀i v,its[i]?=some v-> ∃t o m,v= .ref t/\s.heap.get? t=some o/\o.cls= .type "tuple" /\o.data= .seq #[.ref (pr i).2.1,(pr i).2.2] m) (hu:A.units+2<cLine) (hn:its.size<=aai)
  (h: ∀h' tk,(∀b o,s.heap.get? b=some o->h'.get? b=some o)->h'.DictOfH (acN (jF prog w)) s.heap.objs.size (ZU pr its.size)->Q (.ref s.heap.objs.size) {s with heap:=h',toks:=tk}):
  wpAny (model prog w) A (call (.type "dict") [.ref l]) Q E s:=by
 refine callType_codes (Q₁:=fun obj s₁=>obj= .ref s.heap.objs.size/\s₁={s with heap:=s.heap.push {cls:= .type "dict",data:= .dict #[]}}) F.kt_called_dict (F.kt_typeCall_dict_1 _) F.entry_dict_init (kt_code_dict_new _ ⟨rfl,rfl⟩) ?_;rintro obj s₁ ⟨rfl,rfl⟩;have kp: ∀b o,s.heap.get? b=some o->(s.heap.push {cls:= .type "dict",data:= .dict #[]}).get? b=some o:=fun b o e=>aad _ e
 have hT:Shared.TypeIs {s with heap:=s.heap.push {cls:= .type "dict",data:= .dict #[]}} (.ref s.heap.objs.size) "dict" :=⟨_,aan _ rfl,rfl⟩
 have hTl:Shared.TypeIs {s with heap:=s.heap.push {cls:= .type "dict",data:= .dict #[]}} (.ref l) "list" :=⟨_,kp _ _ ho,hc⟩
 refine ⟨hT,F.args_dict_init_2 _ _,?_⟩;unfold ad6.«dict.__init__»;refine aab ?_;unfold Builtin.Dict.selfAndRest;refine aab (wpAny_notOrdered_dict hT ?_);refine aaf ?_;show wpAny _ _ (aeI "dict.__init__" s.heap.objs.size (.ref l) [] .none) _ _ _;unfold aeI;refine aab (adP hTl ?_);rw [if_pos (by decide)];refine aab (Vq (kp _ _ ho) hc hdd hd (by simp [hh]) fun h1 tk1 k1=>?_);simp;refine aab (wpAny_rule ?_);have hl1:h1.IsList l its:=⟨_,k1 _ _ (kp _ _ ho),hc,m,hd⟩
 refine aab (acV hl1 ?_);have hz1:=aas (k1 _ _ (aan _ rfl));have hlS:=aas ho;have hneI:=aaJ (aeX hlS hz1);refine aaf ⟨plainId_quiet jM _,?_⟩;have hh3:A.in1.in1.handled=none:=by simp [hh]
 refine YA ((Walks.list hh3 h1.objs.size l hneI its).toS) s.heap.objs.size (by simp;exact ⟨aaJ hz1,Nat.ne_of_gt hlS⟩) pr s.heap hkey (fun i v hv=>hval i v hv) (aae _) (fun b hb=>by simp at hb;subst hb;exact aek hz1) (by simpa [Around.in1] using hu) hn (its.size-0) 0 _ (by omega) (aa7 _)
  ⟨⟨_,aan _ rfl,rfl,rfl⟩,hl1.push _⟩ ?hd0 (fun b o hb e=>aad _ (k1 _ _ (kp _ _ e))) ?hR
 case hd0=>
  exact ⟨_, #[],0,aad _ (k1 _ _ (aan _ rfl)),⟨rfl,rfl,rfl⟩,rfl,rfl,(fun x hx=>by cases hx),adL⟩
 case hR=>
  intro s' hm hS';obtain ⟨h',g',d',tk',os'⟩:=s';have eg:=hm.gens;have ed:=hm.drawn;have eo:=hm.os;subst eg;subst ed;subst eo;refine ⟨rfl,h h' tk' (fun b o e=>?_) hS'⟩;have hb:=aas e;exact hm.heap b o (by simp;exact ⟨aaJ hb,aaJ (aeX hb hz1)⟩) (aad _ (k1 _ _ (kp _ _ e)))
end
def jdc {A:aaZ} {k:Nat} (hr:Room k A):A.units+2<cLine:=adt (Nat.add_le_add_left (by decide:2<=64) _) hr.units
section
variable {X:Cx} {K:aaa}
inductive Prs (H:Hp):List V->List (List Key×V)->Prop where
 |nil:Prs H [] []
 |cons {t b:Addr} {k:List Key} {v:V} {r:List V} {ps:List (List Key×V)}:H t=some (.tup [.ref b,v])->H b=some (.tup (k.map kV))->Prs H r ps->Prs H (.ref t::r) ((k,v)::ps)
def yN (ps:List (List Key×V)):List (List Key×V):=ps.foldl (fun kvs p=>putK kvs p.1 p.2) []
theorem KF {pins:List (Addr×Obj)} {σ:L2.St} {H:Hp} {s:aah} (I:Inv X pins σ H s): ∀ {ys:List V} {ps:List (List Key×V)} {its:List Value},Prs H ys ps->Vals ys its->
  ∃qs:List (List Key×Addr×Value),qs.length=its.length/\aeK (fun (p:List Key×V) (q:List Key×Addr×Value)=>p.1=q.1/\H q.2.1=some (.tup (p.1.map kV))/\RelV p.2 q.2.2) ps qs/\
   ∀(i:Nat) (v:Value),its[i]?=some v-> ∃q,qs[i]?=some q/\ ∃t o m,v= .ref t/\s.heap.get? t=some o/\o.cls= .type "tuple" /\o.data= .seq #[.ref q.2.1,q.2.2] m
 |_,_,_,.nil,.nil=>⟨[],rfl,.nil,fun i v h=>by simp at h⟩
 |_,_,_,.cons (t:=t) (b:=b) (k:=k) ht hb hr,.cons r1 rr=>by
  obtain ⟨qs,h1,h2,h3⟩:=KF I hr rr;obtain ⟨its2,r2,⟨o,e1,e2,m,e3⟩,_⟩:=I.tuple (.inl (.of ht))
  cases r2 with
  |cons ra r2=>
   cases r2 with
   |cons rb r2=>
    cases r2;rename_i ua ub;cases (show ua=aaK b from ra);cases r1;refine ⟨(k,b,ub)::qs,by simp [h1],.cons ⟨rfl,hb,rb⟩ h2,fun i v hv=>?_⟩
    cases i with
    |zero=>
     simp at hv;subst hv;exact ⟨_,rfl,t,o,m,rfl,e1,e2,e3⟩
    |succ i=>
     simp at hv;obtain ⟨q,g1,g2⟩:=h3 i v hv;exact ⟨q,by simpa using g1,g2⟩
theorem yb {α β:Type} {F:α->β->Prop}: ∀ {l₁:List α} {l₂:List β},aeK F l₁ l₂-> ∀(i:Nat) (y:β),l₂[i]?=some y-> ∃x,l₁[i]?=some x/\F x y
 |_,_,.nil,i,y,h=>by simp at h
 |_,_,.cons r t,0,y,h=>by simp at h;subst h;exact ⟨_,rfl,r⟩
 |_,_,.cons r t,i+1,y,h=>by
  obtain ⟨x,h1,h2⟩:=yb t i y (by simpa using h);exact ⟨x,by simpa using h1,h2⟩
theorem X2 {H:Hp} {ps:List (List Key×V)} {qs:List (List Key×Addr×Value)} (r:aeK (fun (p:List Key×V) (q:List Key×Addr×Value)=>p.1=q.1/\H q.2.1=some (.tup (p.1.map kV))/\RelV p.2 q.2.2) ps qs):
  ∀i,i<=qs.length->KT H (yN (ps.take i)) (ZU (fun j=>qs.getD j ([],0,.none)) i)
 |0,_=> .nil
 |i+1,hi=>by
  have ih:=X2 r i (by omega);obtain ⟨q,hq⟩: ∃q,qs[i]?=some q:=⟨qs[i]'(by omega),aac _⟩
  obtain ⟨p,hp,⟨e1,e2,e3⟩⟩:=yb r i q hq;have hg:qs.getD i ([],0,.none)=q:=by simp [List.getD,hq]
  have ht:ps.take (i+1)=ps.take i++[p]:=by rw [List.take_add_one,hp];rfl
  have hpa:yN (ps.take (i+1))=putK (yN (ps.take i)) p.1 p.2:=by unfold yN;rw [ht,List.foldl_append];rfl
  rw [hpa];show KT H _ (aee (ZU (fun j=>qs.getD j ([],0,.none)) i) (qs.getD i ([],0,.none)).1 (qs.getD i ([],0,.none)).2.1 (qs.getD i ([],0,.none)).2.2);rw [hg,←e1];exact ih.put p.1 e2 e3
def YS (hc:X.calm=true) (hu:X.A.units+2<cLine):CallR X (.type "dict") (fun xs H Q=> ∃p ys ps,xs=[.ref p]/\H p=some (.lst ys)/\Prs H ys ps/\ ∀l,H l=none->Q (.ref l) (upd H l (.dT (yN ps)))):=by
 intro pins s σ H xs us Q I r ⟨p,ys,ps,ex,hp,hps,q⟩;subst ex;obtain ⟨u,rfl,ru⟩:=yo r;cases ru;obtain ⟨its,rv,⟨o,n,ho,hcl,hdd,hd⟩,hz⟩:=I.list (SqL.of hp);obtain ⟨qs,h1,h2,h3⟩:=KF I hps rv;have hsz:its.toArray.size=qs.length:=by rw [aag,h1]
 have hql:qs.length<=aai:=by rw [h1,←rv.length];exact hz
 refine Jl (fun j=>qs.getD j ([],0,.none)) (I.ok.hd hc) ho hcl hdd hd (fun i hi=>?_) (fun i v hv=>?_) hu (by rw [hsz];exact hql) fun h' tk hk dd=>?_
 · obtain ⟨qq,hq⟩: ∃q,qs[i]?=some q:=⟨qs[i]'(by rw [hsz] at hi;exact hi),aac _⟩
   obtain ⟨pp,hp',⟨e1,e2,e3⟩⟩:=yb h2 i qq hq;have hg:qs.getD i ([],0,.none)=qq:=by simp [List.getD,hq]
   rw [hg,←e1];exact JR I.hok e2
 · obtain ⟨qq,hq,g⟩:=h3 i v (by rw [←hv];simp);have hg:qs.getD i ([],0,.none)=qq:=by simp [List.getD,hq]
   rw [hg];exact g
 · have hl:=I.hok.fresh (aae _);rw [hsz] at dd;have kt:=X2 h2 qs.length (aae _);have hpl:=ado h2;rw [List.take_of_length_le (by omega)] at kt;have kl:=ado kt;have hbl:=Jn (fun j=>qs.getD j ([],0,.none)) qs.length;obtain ⟨qq,es,ep,hq,g2,g3,g4,_,g5⟩:=dd;refine ⟨.ref s.heap.objs.size,_,I.laid hk (aae _) (show ObjOk X.prog X.w _ h' _ (.dT (yN ps)) from ⟨by omega,beq_eq_false_iff_ne.mpr (acK (aaJ I.big)),_,kt.keeps fun c ys ec=>?_,qq,es,ep,hq,g2,g3,g4,g5⟩),rfl,q _ hl⟩;rw [jH (jU ec hl)];exact ec
def prsD:List D->Option (List (List Key×D))
 | []=>some []
 | .tup [kd,d]::r=>match keyT kd,prsD r with
  |some k,some q=>some ((k,d)::q)
  |_,_=>none
 |_=>none
theorem Xh {A:Wb} {H:Hp}: ∀ {vs:List V} {ds:List D} {ps:List (List Key×D)},Reps K A H vs ds->prsD ds=some ps-> ∃qs:List (List Key×V),Prs H vs qs/\qs.map (·.1)=ps.map (·.1)/\Reps K A H (qs.map (·.2)) (ps.map (·.2))
 |_,[],ps,.nil,h=>by simp [prsD] at h;subst h;exact ⟨[],.nil,rfl,.nil⟩
 |_,d::ds,ps,.cons r rs,h=>by
  unfold prsD at h
  split at h
  · rename_i e;cases e
  · rename_i kd d' r' e;cases e
    cases hk:keyT kd with
    |none=>rw [hk] at h;cases h
    |some k=>
     cases hq:prsD ds with
     |none=>rw [hk,hq] at h;cases h
     |some q=>
      rw [hk,hq] at h;cases h;obtain ⟨qs,g1,g2,g3⟩:=Xh rs hq;obtain ⟨t,xs,rfl,ht,rx⟩:=r.tupE;obtain ⟨v1,v2,rfl,r1,r2⟩:=rx.two;obtain ⟨b,rfl,hb⟩:=xP r1 hk;exact ⟨(k,v2)::qs,.cons ht hb g1,by simp [g2],.cons r2 g3⟩
  · cases h
def Jv (q:List (List Key)×List D) (p:List Key×D):List (List Key)×List D:=(Zc q.1 p.1,Zd q.1 q.2 p.1 p.2)
def JX:List D->Res D
 | [.lst ds]=>match prsD ds with
  |some ps=> .ok (.dit (ps.foldl Jv ([],[])).1 (ps.foldl Jv ([],[])).2)
  |none=> .stuck
 |_=> .stuck
theorem JJ {A:Wb} {H:Hp}: ∀ {qs:List (List Key×V)} {ps:List (List Key×D)} {kvs:List (List Key×V)} {q:List (List Key)×List D},qs.map (·.1)=ps.map (·.1)->Reps K A H (qs.map (·.2)) (ps.map (·.2))->kvs.map (·.1)=q.1->Reps K A H (kvs.map (·.2)) q.2->
  (qs.foldl (fun kvs p=>putK kvs p.1 p.2) kvs).map (·.1)=(ps.foldl Jv q).1/\Reps K A H ((qs.foldl (fun kvs p=>putK kvs p.1 p.2) kvs).map (·.2)) (ps.foldl Jv q).2
 | [],[],kvs,q,_,_,h1,h2=>⟨h1,h2⟩
 | [],_::_,_,_,h,_,_,_=>by cases h
 |_::_,[],_,_,h,_,_,_=>by cases h
 | (k,v)::qs,(k',d)::ps,kvs,q,h,.cons r rs,h1,h2=>by
  simp at h;obtain ⟨rfl,h⟩:=h;obtain ⟨p1,p2⟩:=Xc k h2 r;rw [h1] at p1 p2;exact JJ (kvs:=putK kvs k v) (q:=Jv q (k,d)) h rs p1 p2
def vK:JB K (fun xs H Q=> ∃p ys ps,xs=[.ref p]/\H p=some (.lst ys)/\Prs H ys ps/\ ∀l,H l=none->Q (.ref l) (upd H l (.dT (yN ps)))) JX:=by
 intro A xs H ds d Q r e q;unfold JX at e
 split at e
 · split at e
   · rename_i ps hps;cases e;obtain ⟨v,rfl,r1⟩:=r.one;obtain ⟨p,ys,rfl,hp,_,ry⟩:=r1.lstE;obtain ⟨qs,g1,g2,g3⟩:=Xh ry.low hps;obtain ⟨a1,a2⟩:=JJ (kvs:=[]) (q:=([],[])) g2 g3 rfl .nil;exact ⟨p,ys,qs,rfl,hp,g1,fun l hl=>q _ _ (Same.upd hl) (.dit jt (.inl hl) a1 rfl ((a2.laid hl).weak fun c z=>⟨.inr z.1,z.2⟩)) (jW (Same.refl H) hl)⟩
   · cases e
 · cases e
end
def fsc {N P:List Str} {sc:Scope} (h1:sc.kind= .function:=by rfl) (h2:sc.isCoroutine=false:=by rfl) (h3:sc.isGenerator=false:=by rfl) (h4:N.Nodup:=by decide+kernel) (h5:N.take P.length=P:=by rfl) (h6: ∀x∈P,sc.names.lookup x=some .local\/sc.names.lookup x=some .cell:=by decide+kernel) (h7: ∀y∈sc.names,y.2≠ .free:=by decide+kernel):FnScope N P sc:=⟨h1,h2,h3,h4,h5,h6,h7⟩
def Dx (K:aaa) (mg:W9) (x:Str) (st:Stmt) (ps:List Str):Prop:= ∃f fd,Fun K x x st f fd/\mg x=some (.ref f)/\Binds K fd ps []
def LkF (K:aaa) (p:Addr) (x q:Str) (st:Stmt):Prop:= ∃(oc:Value) (od an:Option Addr) (osl:Array (Option Value)) (kV doc pm cdv ct:Value),
 K.lookup p=some ⟨oc,od,.func (aco x q (wQ st) (jY st) (jh st) .none kV doc pm an cdv ct),osl⟩/\adA K cdv q=true
def DefN (K:aaa) (x:Str) (st:Stmt):Prop:= ∃p:Addr,aaw K aar x=some (some (.ref p))/\LkF K p x x st/\aaY K (.ref p)=true
def Dm (K:aaa) (C:Addr) (m q:Str) (st:Stmt) (ps:List Str):Prop:= ∃f fd,Fun K m q st f fd/\Meth K C m f/\Binds K fd ps []
def DefM (K:aaa) (C:Addr) (m q:Str) (st:Stmt):Prop:= ∃p:Addr,aa6 K (.ref C) m=some (some (.ref p))/\aeU K (.ref p)=true/\LkF K p m q st/\aaY K (.ref p)=true
abbrev Tk (x q:Str) (st:Stmt) (us:List Value) (ps:List Str):Prop:= ∀(kV doc pm:Value) (an:Option Addr) (cdv ct:Value),bindArgs (aco x q (wQ st) (jY st) (jh st) .none kV doc pm an cdv ct) ⟨us,[]⟩=pure (ps.zip us)
section
variable {K:aaa} {mg:W9} {x q m:Str} {st:Stmt} {ps:List Str} {h:Heap} {C:Addr}
def LkF.fn {p:Addr} (l:LkF K p x q st) (k:aaY K (.ref p)=true) (hb: ∀us,us.length=ps.length->Tk x q st us ps): ∃fd,Fun K x q st p fd/\Binds K fd ps []:=by
 obtain ⟨oc,od,an,osl,kV,doc,pm,cdv,ct,l,c⟩:=l;have F:=uw l c k;exact ⟨_,F,F.binds fun a b c d e f us hl=>hb us hl a b c d e f⟩
def DefN.dx (d:DefN K x st) (KX:K.In h) (G:h.Ns aar mg) (hb: ∀us,us.length=ps.length->Tk x x st us ps):Dx K mg x st ps:=by
 obtain ⟨p,a,l,k⟩:=d;obtain ⟨fd,F,B⟩:=l.fn k hb;exact ⟨p,fd,F,acp KX G a,B⟩
def DefM.dm (d:DefM K C m q st) (hb: ∀us,us.length=ps.length->Tk m q st us ps):Dm K C m q st ps:=by
 obtain ⟨p,a,i,l,k⟩:=d;obtain ⟨fd,F,B⟩:=l.fn k hb;exact ⟨p,fd,F,⟨a,i,k⟩,B⟩
theorem tk1 {x q:Str} {st:Stmt} {p:Str} (h: ∀a,Tk x q st [a] [p]:=by intro _ _ _ _ _ _ _;rfl): ∀us:List Value,us.length=[p].length->Tk x q st us [p]
 | [a],_=>h a
theorem tk2 {x q:Str} {st:Stmt} {p p2:Str} (h: ∀a b,Tk x q st [a,b] [p,p2]:=by intro _ _ _ _ _ _ _ _;rfl): ∀us:List Value,us.length=[p,p2].length->Tk x q st us [p,p2]
 | [a,b],_=>h a b
theorem tk3 {x q:Str} {st:Stmt} {p p2 p3:Str} (h: ∀a b c,Tk x q st [a,b,c] [p,p2,p3]:=by intro _ _ _ _ _ _ _ _ _;rfl): ∀us:List Value,us.length=[p,p2,p3].length->Tk x q st us [p,p2,p3]
 | [a,b,c],_=>h a b c
theorem tk4 {x q:Str} {st:Stmt} {p p2 p3 p4:Str} (h: ∀a b c d,Tk x q st [a,b,c,d] [p,p2,p3,p4]:=by intro _ _ _ _ _ _ _ _ _ _;rfl): ∀us:List Value,us.length=[p,p2,p3,p4].length->Tk x q st us [p,p2,p3,p4]
 | [a,b,c,d],_=>h a b c d
end
section
variable {P:aaL} {w:World} {K:aaa} {mg:W9} {base:Heap}
def zT {x:Str} {st:Stmt} {N ps:List Str} {k:Nat} (fr:Bool) {g:TY} (d:Dx K mg x st ps) (S:FnScope N ps (jh st))
  (hb: ∀(f:Addr) (cdv:Value) (A:aaZ) (outer:List Env) (s:aah) (H:Hp) (E:XK),Room k (A.deeper (adN x (jh st) s.heap.objs.size f cdv))->DSs (cxOf CX0 P w K mg base N x (jh st) f cdv A outer s H E).nox (jY st) g):
  Av P w K mg base (k+1) x ps fr (runF fr N.length g):=by
 obtain ⟨f,fd,F,m,B⟩:=d;exact jeD fr F m S B (hb f)
def Z1 {c m q:Str} {st:Stmt} {C:Addr} {N ps:List Str} {k:Nat} (fr:Bool) {g:TY} (d:Dm K C m q st ps) (hC:aaw K aar c=some (some (.ref C))/\Cls K C) (S:FnScope N ps (jh st))
  (hb: ∀(f:Addr) (cdv:Value) (A:aaZ) (outer:List Env) (s:aah) (H:Hp) (E:XK),Room k (A.deeper (adN q (jh st) s.heap.objs.size f cdv))->DSs (cxOf CX0 P w K mg base N q (jh st) f cdv A outer s H E).nox (jY st) g):
  AvM P w K mg base (k+1) c m ps fr (runF fr N.length g):=by
 obtain ⟨f,fd,F,m,B⟩:=d;exact jdB fr F hC.1 hC.2 m S B (hb f)
def uO {c q:Str} {st:Stmt} {C:Addr} {N ps:List Str} {k n:Nat} {g:Sl->Res OutO} (d:Dm K C "__init__" q st ps) (hC:aaw K aar c=some (some (.ref C))/\Cls K C) (hmg:mg c=some (.ref C)) (mk:acA K C=true/\aaY K (.ref C)=true) (S:FnScope N ps (jh st)) (hn:ps.length=n+1) (hN:n+1<=N.length)
  (hb: ∀(f:Addr) (cdv:Value) (A:aaZ) (outer:List Env) (s:aah) (H:Hp) (E:XK),Room k (A.deeper (adN q (jh st) s.heap.objs.size f cdv))->DSsO (cxOf CX0 P w K mg base N q (jh st) f cdv A outer s H E).nox 0 (jY st) g):
  AvK P w K mg base (k+1) c n (runJ N.length n g):=by
 obtain ⟨f,fd,F,m,B⟩:=d;exact jdD F hC.1 hmg ⟨mk.1,m.at_,m.fn,mk.2⟩ S B hn hN (hb f)
def vQ {x:Str} {st:Stmt} {ps:List Str} {k:Nat} (fr:Bool) (d:Dx K mg x st ps):Av P w K mg base k x ps fr (fun _=> .stuck):=by
 obtain ⟨f,fd,F,m,B⟩:=d;exact jbE fr F m B
end
section
variable {X:Cx} {a b e:Expr} {f f1 f2:T0} {pos:Pos} {x:Str}
def vb (i:Nat) {x:Str} (hN:X.N[i]?=some x:=by rfl) (hv:Vis X.env.scope x:=by first|exact abV rfl|exact abj (abV rfl)|exact abj (abj rfl)) (hd:Ym x:=by decide) (hcd:Yl x:=by decide):DE X .b (.Name x pos) (rdS i):=DE.b (dv i hN hv hd hcd)
def ib {i:Int} {j}:DE X .b (.Constant (.int i) j pos) (cI i):=Ux
def i_s {i:Int} {j}:DE X .s (.Constant (.int i) j pos) (cI i):=Ux
def ob {op:ael} {r:R2} {g:D->D->Res D} (ho:OpR X (acg op) r) (hr:OpS X.K r g) (ha:DE X .b a f1) (hb:DE X .b b f2):DE X .b (.BinOp a op b pos) (two f1 f2 g):=YM ho hr ha hb
def o_s {op:ael} {r:R2} {g:D->D->Res D} (ho:OpR X (acg op) r) (hr:OpS X.K r g) (ha:DE X .b a f1) (hb:DE X .b b f2):DE X .s (.BinOp a op b pos) (two f1 f2 g):=YM ho hr ha hb
def Jx (ha:DE X .b a f1) (hb:DE X .b b f2):DE X .b (.BinOp a .Mod b pos) (two f1 f2 modI):=YM xm xn ha hb
def Ys (ha:DE X .b a f1) (hb:DE X .b b f2):DE X .b (.BinOp a .Pow b pos) (two f1 f2 powI):=YM jcH jcO ha hb
def Yt (ha:DE X .b a f1) (hb:DE X .b b f2):DE X .b (.BinOp a .FloorDiv b pos) (two f1 f2 divW):=YM yz yA ha hb
def gi {x:Str} {i:Int} (hg:Gl X x) (hm: ∃t,X.mg x=some (.int i t)) (hd:Ym x:=by decide):DE X .b (.Name x pos) (cI i):=hm.elim fun _ h=>jbr hg h hd
def gst {x y:Str} (hg:Gl X x) (hm: ∃t,X.mg x=some (.str y t)) (hl:y.length<=aai:=by decide) (hd:Ym x:=by decide):DE X .b (.Name x pos) (cS y):=hm.elim fun _ h=>jbq hg h hl hd
end
abbrev FJ:=Sl->Res (D×Sl)
end M
namespace M
open PySem
namespace Tab
open SetTable (Probe runEnd leap bits)
def adv (m:Nat) (p:Probe):Probe:=
 if p.more>0 then {p with j:=p.j+1,more:=p.more-1} else
 {p with j:=(leap m p.i p.perturb).1,more:=runEnd m (leap m p.i p.perturb).1-(leap m p.i p.perturb).1,i:=(leap m p.i p.perturb).1,perturb:=(leap m p.i p.perturb).2}
def beg (m:Nat) (i q:Nat):Probe:={j:=i,more:=runEnd m i-i,i:=i,perturb:=q,dummy:=none}
def pth (m:Nat) (h:Int):Nat->Probe
 |0=>beg m (bits h%(m+1)) (bits h)
 |n+1=>adv m (pth m h n)
def at' (m:Nat) (h:Int) (n:Nat):Nat:=(pth m h n).j
def lp (m:Nat) (h:Int):Nat->Nat×Nat
 |0=>(bits h%(m+1),bits h)
 |c+1=>leap m (lp m h c).1 (lp m h c).2
def off (m:Nat) (h:Int):Nat->Nat
 |0=>0
 |c+1=>off m h c+(runEnd m (lp m h c).1-(lp m h c).1)+1
theorem We {m:Nat} {h:Int} {n i q:Nat} (e:pth m h n=beg m i q): ∀k,k<=runEnd m i-i->pth m h (n+k)={j:=i+k,more:=runEnd m i-i-k,i:=i,perturb:=q,dummy:=none}
 |0,_=>by rw [adS,e];rfl
 |k+1,hk=>by
  have:=We e k (by omega);rw [←Nat.add_assoc];show adv m (pth m h (n+k))=_;rw [this];unfold adv;rw [if_pos (show runEnd m i-i-k>0 by omega)];simp;omega
theorem Kw (m:Nat) (h:Int): ∀c,pth m h (off m h c)=beg m (lp m h c).1 (lp m h c).2
 |0=>rfl
 |c+1=>by
  have e:=We (Kw m h c) _ (aae _);show adv m (pth m h (off m h c+(runEnd m (lp m h c).1-(lp m h c).1)))=_;rw [e];unfold adv;rw [if_neg (by simp)];rfl
def Z2 {m:Nat} {h:Int} {c k:Nat} (hk:k<=runEnd m (lp m h c).1-(lp m h c).1):at' m h (off m h c+k)=(lp m h c).1+k:=by
 unfold at';rw [We (Kw m h c) k hk]
def jcb (m i:Nat):runEnd m i-i<=9:=by unfold runEnd;split<;>omega
theorem ud (m:Nat) (h:Int): ∀c,off m h c<=10*c
 |0=>aae _
 |c+1=>by
  have:=ud m h c;have:=jcb m (lp m h c).1;show off m h c+(runEnd m (lp m h c).1-(lp m h c).1)+1<=_;omega
theorem jc1 (m:Nat) (h:Int): ∀c,(lp m h c).1<=m
 |0=>aeE (Nat.mod_lt _ (ae0 _))
 |c+1=>aeE (Nat.mod_lt _ (ae0 _))
def jbD (h:Int):bits h<2^64:=by
 unfold bits;have h1:(0:Int)<=h%(2^64:Int):=abS _ (by decide);have h2:h%(2^64:Int)< (2^64:Int):=abq _ (by decide);omega
theorem JO (m:Nat) (h:Int): ∀c,(lp m h c).2=bits h/32^c
 |0=>by simp [lp]
 |c+1=>by
  show (lp m h c).2/32=_;rw [JO m h c,Nat.div_div_eq_div_mul,Nat.pow_succ]
def jaW (m:Nat) (h:Int) {c:Nat} (hc:13<=c):(lp m h c).2=0:=by
 rw [JO];refine Nat.div_eq_of_lt (aaC (jbD h) ?_);exact aaF (by decide:2^64<=32^13) (Nat.pow_le_pow_right (by decide) hc)
def fv (m:Nat):Nat->Nat->Nat
 |0,i=>i
 |d+1,i=>(fv m d i*5+1)%(m+1)
theorem jc2 (m:Nat) (h:Int): ∀d,(lp m h (13+d)).1=fv m d (lp m h 13).1
 |0=>rfl
 |d+1=>by
  show (leap m (lp m h (13+d)).1 (lp m h (13+d)).2).1=_;rw [jaW m h (by omega)];rw [jc2 m h d];rfl
def Cyc (m:Nat):Prop:= ∀i j,i<=m->j<=m-> ∃d,d<=m/\fv m d i=j
theorem XC (m:Nat) (a i:Nat): ∀b,fv m (a+b) i=fv m b (fv m a i)
 |0=>rfl
 |b+1=>by show (fv m (a+b) i*5+1)%(m+1)=_;rw [XC m a i b];rfl
def jdx {m:Nat} (h0:fv m (m+1) 0=0) (h: ∀j,j<=m-> ∃d,d<=m/\fv m d 0=j):Cyc m:=fun i j hi hj=>by
 obtain ⟨a,ha,ea⟩:=h i hi;obtain ⟨b,hb,eb⟩:=h j hj
 by_cases hab:a<=b
 · exact ⟨b-a,by omega,by rw [←ea,←XC,show a+(b-a)=b by omega,eb]⟩
 · refine ⟨m+1-a+b,by omega,?_⟩;rw [←ea,←XC,show a+(m+1-a+b)=m+1+b by omega,XC,h0,eb]
def orb (m:Nat):Nat->Nat->List Nat
 |0,_=>[]
 |n+1,i=>i::orb m n ((i*5+1)%(m+1))
theorem uv (m:Nat) (i:Nat): ∀d,fv m (d+1) i=fv m d ((i*5+1)%(m+1))
 |0=>rfl
 |d+1=>by show (fv m (d+1) i*5+1)%(m+1)=_;rw [uv m i d];rfl
theorem KY (m:Nat): ∀n i j,j∈orb m n i-> ∃d,d<n/\fv m d i=j
 |0,_,_,h=>by cases h
 |n+1,i,j,h=>by
  rcases aaq.mp h with rfl|h
  · exact ⟨0,ae0 _,rfl⟩
  · obtain ⟨d,h1,h2⟩:=KY m n _ j h;exact ⟨d+1,by omega,by rw [uv];exact h2⟩
def WQ {m:Nat} (h0:fv m (m+1) 0=0) (h:(aaT (m+1)).all (fun j=>(orb m (m+1) 0).contains j)=true):Cyc m:=
 jdx h0 fun j hj=>by
  have h1:=aaW.mp h j (aaO.mpr (by omega));obtain ⟨d,h2,h3⟩:=KY m _ _ _ (List.contains_iff_mem.mp h1);exact ⟨d,by omega,h3⟩
def cyc7:Cyc 7:=WQ (by decide+kernel) (by decide+kernel)
def jey:Cyc 31:=WQ (by decide+kernel) (by decide+kernel)
def jdy:Cyc 127:=WQ (by decide+kernel) (by decide+kernel)
def JP {m:Nat} (C:Cyc m) (h:Int) {j:Nat} (hj:j<=m): ∃c,c<=m+13/\(lp m h c).1=j:=by
 obtain ⟨d,h1,h2⟩:=C _ j (jc1 m h 13) hj;exact ⟨13+d,by omega,by rw [jc2,h2]⟩
def Yn {m:Nat} (C:Cyc m) (h:Int) {j:Nat} (hj:j<=m): ∃n,n<=10*(m+13)/\at' m h n=j:=by
 obtain ⟨c,h1,h2⟩:=JP C h hj;refine ⟨off m h c,aaF (ud m h c) (by omega),?_⟩;have:=Z2 (m:=m) (h:=h) (c:=c) (aa7 _);rw [adS] at this;rw [this,h2,adS]
def jbF {m:Nat} (h:Int) (n:Nat):at' m h n<=m:=by
 suffices hs: ∀n,(pth m h n).j+(pth m h n).more<=m by exact aaF (acm _ _) (hs n)
 have hb: ∀i q,i<=m->(beg m i q).j+(beg m i q).more<=m:=fun i q hi=>by
  show i+(runEnd m i-i)<=m;unfold runEnd;split<;>omega
 intro n
 induction n with
 |zero=>exact hb _ _ (jc1 m h 0)
 |succ n ih=>
  show (adv m (pth m h n)).j+(adv m (pth m h n)).more<=m;unfold adv
  split
  · show (pth m h n).j+1+((pth m h n).more-1)<=m;omega
  · exact hb _ 0 (aeE (Nat.mod_lt _ (ae0 _)))
def JU {m:Nat} (C:Cyc m) (h:Int) (occ:Nat->Prop) [DecidablePred occ] {j:Nat} (hj:j<=m) (hf: ¬occ j): ∃n,n<=10*(m+13)/\ ¬occ (at' m h n)/\ ∀k,k<n->occ (at' m h k):=by
 obtain ⟨n,h1,h2⟩:=Yn C h hj
 suffices hs: ∀N,¬occ (at' m h N)-> ∃n,n<=N/\ ¬occ (at' m h n)/\ ∀k,k<n->occ (at' m h k) by
  obtain ⟨n',a,b⟩:=hs n (by rw [h2];exact hf);exact ⟨n',by omega,b⟩
 intro N
 induction N using Nat.strongRecOn with
 |ind N ih=>
  intro hN
  by_cases hk: ∀k,k<N->occ (at' m h k)
  · exact ⟨N,aae _,hN,hk⟩
  · simp at hk;obtain ⟨k,hkN,hk⟩:=hk;obtain ⟨n',a,b⟩:=ih k hkN hk;exact ⟨n',by omega,b⟩
end Tab
end M
namespace M
open PySem
namespace Tab
open SetTable (Probe runEnd leap bits below insertAt)
theorem QR (xs:Array Nat) (j:Nat) (up:xs.toList.Pairwise (· < ·)): ∀(fuel lo hi:Nat),hi-lo<=fuel->lo<=hi->hi<=xs.size->(∀k v,k<lo->xs[k]?=some v->v<j)->(∀k v,hi<=k->xs[k]?=some v->j<=v)->
  (∀k v,k<below.go xs j fuel lo hi->xs[k]?=some v->v<j)/\(∀k v,below.go xs j fuel lo hi<=k->xs[k]?=some v->j<=v)/\below.go xs j fuel lo hi<=xs.size
 |0,lo,hi,h1,h2,h3,h4,h5=>by
  obtain rfl:lo=hi:=by omega
  exact ⟨h4,h5,h3⟩
 |fuel+1,lo,hi,h1,h2,h3,h4,h5=>by
  unfold below.go
  by_cases hl:lo<hi
  · rw [if_pos hl];have hm:(lo+hi)/2<xs.size:=by omega
    have hg:xs.getD ((lo+hi)/2) j=xs[(lo+hi)/2]:=by rw [abC,aay hm];rfl
    have mono: ∀a b va vb,a<b->xs[a]?=some va->xs[b]?=some vb->va<vb:=fun a b va vb hab ha hb=>by
      rw [←aav] at ha hb;obtain ⟨ha1,ha2⟩:=aaz.mp ha;obtain ⟨hb1,hb2⟩:=aaz.mp hb;rw [←ha2,←hb2];exact abO.mp up a b ha1 hb1 hab
    dsimp only;rw [hg]
    by_cases hc:xs[(lo+hi)/2]<j
    · rw [if_pos hc];refine QR xs j up fuel _ hi (by omega) (by omega) h3 (fun k v hk e=>?_) h5
      by_cases hk2:k=(lo+hi)/2
      · subst hk2;rw [aay hm] at e;cases e;exact hc
      · exact aeX (mono k _ v _ (by omega) e (aay hm)) hc
    · rw [if_neg hc];refine QR xs j up fuel lo _ (by omega) (by omega) (by omega) h4 (fun k v hk e=>?_)
      by_cases hk2:k=(lo+hi)/2
      · subst hk2;rw [aay hm] at e;cases e;omega
      · have:=mono _ k _ v (by omega) (aay hm) e;omega
  · rw [if_neg hl];obtain rfl:lo=hi:=by omega
    exact ⟨h4,h5,h3⟩
def J0 {xs:Array Nat} (up:xs.toList.Pairwise (· < ·)) (j:Nat):(∀k v,k<below xs j->xs[k]?=some v->v<j)/\(∀k v,below xs j<=k->xs[k]?=some v->j<=v)/\below xs j<=xs.size:=
 QR xs j up xs.size 0 xs.size (by omega) (aa7 _) (aae _) (fun k v h _=>absurd h (abv _)) fun k v h e=>by
  rw [Array.getElem?_eq_none h] at e;cases e
def x0 {xs:Array Nat} (up:xs.toList.Pairwise (· < ·)) {j i:Nat} (e:xs[i]?=some j):below xs j=i:=by
 obtain ⟨h1,h2,h3⟩:=J0 up j
 have hi:below xs j<=i:=by
  refine adb fun h=>?_
  exact absurd (h1 i j h e) (ab0 _)
 have hi2:=(abG.mp e).1;refine Nat.le_antisymm hi (adb fun h=>?_);have hb:below xs j<xs.size:=by omega
 have:=h2 _ _ (aae _) (aay hb)
 have h4:xs[below xs j]<xs[i]:=by
  have:=abO.mp up (below xs j) i (by simpa using hb) (by simpa using hi2) h;simpa using this
 rw [aay hi2] at e;cases e;omega
theorem Y8 {t:abP} (up:t.place.toList.Pairwise (· < ·)) (dm:t.dummies= #[]) (j:Nat):t.slot j=match t.place[below t.place j]? with
  |some v=>if v=j then .live (below t.place j) else .empty
  |none=> .empty:=by
 unfold SetTable.slot;have hd:SetTable.has t.dummies j=false:=by rw [dm];rfl
 dsimp only;rw [hd]
 cases h:t.place[below t.place j]? with
 |none=>simp
 |some v=>simp
def yI {t:abP} (up:t.place.toList.Pairwise (· < ·)) (dm:t.dummies= #[]) {i j:Nat} (e:t.place[i]?=some j):t.slot j= .live i:=by
 rw [Y8 up dm,x0 up e,e];simp
def Yh {t:abP} (up:t.place.toList.Pairwise (· < ·)) (dm:t.dummies= #[]) {j:Nat} (e:j∉t.place.toList):t.slot j= .empty:=by
 rw [Y8 up dm]
 split
 · rename_i v h;rw [if_neg];rintro rfl;rw [←aav] at h;exact e (aaN h)
 · rfl
structure Tb (m:Nat) (t:abP) (es:Array (Int×Value)):Prop where
 mask:t.mask=m
 dm:t.dummies= #[]
 sz:t.place.size=es.size
 up:t.place.toList.Pairwise (· < ·)
 le: ∀j∈t.place.toList,j<=m
 road: ∀(i j:Nat) (e:Int×Value),t.place[i]?=some j->es[i]?=some e-> ∃n,at' m e.1 n=j/\ ∀k,k<n->at' m e.1 k∈t.place.toList
def Tb.fresh (led:Bool):Tb 7 (.fresh 0 0 led) #[]:=⟨rfl,rfl,rfl,.nil,(fun _ h=>by cases h),(fun i j e h=>by simp [SetTable.fresh] at h)⟩
section
variable {m:Nat} {t:abP} {es:Array (Int×Value)}
def Tb.el (T:Tb m t es) {i j:Nat} (h:t.place[i]?=some j): ∃e,es[i]?=some e:=by
 have:=(abG.mp h).1;exact ⟨_,aay (by rw [←T.sz];exact this)⟩
def Tb.met (T:Tb m t es) {i:Nat} {e:Int×Value} (he:es[i]?=some e) {N:Nat} (hN:at' m e.1 N∉t.place.toList): ∃n j,n<N/\at' m e.1 n=j/\t.place[i]?=some j:=by
 have hi:=(abG.mp he).1;have hj:t.place[i]?=some (t.place[i]'(by rw [T.sz];exact hi)):=aay _;obtain ⟨n,h1,h2⟩:=T.road i _ e hj he;refine ⟨n,_,Nat.lt_of_le_of_ne (adb fun h=>hN (h2 N h)) ?_,h1,hj⟩;rintro rfl;rw [h1] at hN;exact hN (by rw [←aav] at hj;exact aaN hj)
def yk {α:Type} (xs:Array α) {p:Nat} (x:α) (hp:p<=xs.size) (i:Nat):(insertAt xs p x)[i]?=if i<p then xs[i]? else if i=p then some x else xs[i-1]?:=by
 rw [←aav,adm];rw [show xs[i]?=xs.toList[i]? from aav.symm,show xs[i-1]?=xs.toList[i-1]? from aav.symm];have hl:(xs.toList.take p).length=p:=by simp;omega
 by_cases h1:i<p
 · rw [if_pos h1,aaA (by omega),adi h1]
 · rw [if_neg h1,aap (by omega),hl]
   by_cases h2:i=p
   · subst h2;simp
   · rw [if_neg h2,show i-p=(i-p-1)+1 by omega,aaQ,aep,show p+(i-p-1)=i-1 by omega]
def Tb.put (T:Tb m t es) {h:Int} {x:Value} {N j:Nat} (hj:at' m h N=j) (hf:j∉t.place.toList) (ho: ∀k,k<N->at' m h k∈t.place.toList):Tb m (t.put j).1 (insertAt es (t.put j).2 (h,x)):=by
 obtain ⟨b1,b2,b3⟩:=J0 T.up j
 have hmem: ∀k,k∈(insertAt t.place (below t.place j) j).toList↔k=j\/k∈t.place.toList:=fun k=>by
   rw [adm];have:t.place.toList=t.place.toList.take (below t.place j)++t.place.toList.drop (below t.place j):=(List.take_append_drop _ _).symm
   constructor
   · intro z;rcases aa8.mp z with z|z
     · exact .inr (List.mem_of_mem_take z)
     · rcases aaq.mp z with z|z
       · exact .inl z
       · exact .inr (ad2 z)
   · rintro (rfl|z)
     · exact aaR _ aam
     · rw [this] at z;rcases aa8.mp z with z|z
       · exact acx _ z
       · exact aaR _ (aaj _ z)
 have hd:(t.put j).1.dummies= #[]:=by
   show (if SetTable.has t.dummies j then _ else t.dummies)= #[];rw [T.dm];rfl
 refine ⟨T.mask,hd,?_,?_,?_,?_⟩
 · show (insertAt t.place (below t.place j) j).size=(insertAt es (below t.place j) (h,x)).size;have:=T.sz;rw [←aaD,←aaD,(adC _ _ _).length_eq,(adC _ _ _).length_eq];simp [this]
 · show (insertAt t.place (below t.place j) j).toList.Pairwise (· < ·);rw [adm,List.pairwise_append,acq];refine ⟨T.up.sublist (List.take_sublist _ _),⟨fun v hv=>?_,T.up.sublist (List.drop_sublist _ _)⟩,fun v hv w hw=>?_⟩
   · obtain ⟨q,hq⟩:=abk.mp hv;rw [aep,aav] at hq;have:=b2 _ _ (acm _ _) hq;refine Nat.lt_of_le_of_ne this ?_;rintro rfl;exact hf (by rw [←aav] at hq;exact aaN hq)
   · have hvj:v<j:=by
       obtain ⟨q,hq⟩:=abk.mp hv;obtain ⟨q1,q2⟩:=aaz.mp hq;have q3:q<below t.place j:=by simp at q1;omega
       rw [adi q3,aav] at hq;exact b1 q v q3 hq
     rcases aaq.mp hw with rfl|hw
     · exact hvj
     · obtain ⟨q,hq⟩:=abk.mp hw;rw [aep,aav] at hq;exact aaC hvj (b2 _ _ (acm _ _) hq)
 · intro k hk;rcases (hmem k).mp hk with rfl|hk
   · rw [←hj];exact jbF h N
   · exact T.le k hk
 · intro i k e hk he;have hb4:below t.place j<=es.size:=by rw [←T.sz];exact b3
   rw [show (t.put j).1.place=insertAt t.place (below t.place j) j from rfl,yk _ _ b3] at hk;rw [show (t.put j).2=below t.place j from rfl,yk _ _ hb4] at he
   have old: ∀i',t.place[i']?=some k->es[i']?=some e-> ∃n,at' m e.1 n=k/\ ∀q,q<n->at' m e.1 q∈(t.put j).1.place.toList:=fun i' a b=>by
     obtain ⟨n,c,d⟩:=T.road i' k e a b;exact ⟨n,c,fun q hq=>(hmem _).mpr (.inr (d q hq))⟩
   by_cases h1:i<below t.place j
   · rw [if_pos h1] at hk he;exact old i hk he
   · rw [if_neg h1] at hk he
     by_cases h2:i=below t.place j
     · rw [if_pos h2] at hk he;cases hk;cases he;exact ⟨N,hj,fun q hq=>(hmem _).mpr (.inr (ho q hq))⟩
     · rw [if_neg h2] at hk he;exact old _ hk he
theorem jaR: ∀ {l l':List Nat},l.Nodup->(∀x∈l,x∈l')->l.length<=l'.length
 | [],_,_,_=>aa7 _
 |a::l,l',nd,h=>by
  obtain ⟨n1,n2⟩:=aa5.mp nd;have h1:=jaR n2 fun x hx=>(ad1 (by rintro rfl;exact n1 hx)).mpr (h x (aaj _ hx))
  have h2:=adj (h a aam);have h3:=abI (h a aam);rw [aau];omega
def Tb.free (T:Tb m t es) (hs:es.size<=m): ∃j,j<=m/\j∉t.place.toList:=by
 refine acw fun h=>?_
 have hall: ∀j,j∈aaT (m+1)->j∈t.place.toList:=fun j hj=>acw fun z=>h ⟨j,by have:=aaO.mp hj;omega,z⟩
 have h1:=jaR (adc) hall;rw [adK,aaD,T.sz] at h1;omega
end
end Tab
end M
namespace M
open PySem
namespace Tab
open SetTable (Probe runEnd leap bits below insertAt)
def jR (ow:Array (Option Nat)) (j:Nat):Prop:=(ow.getD j (some 0)).isNone=false
instance (ow:Array (Option Nat)):DecidablePred (jR ow):=fun j=>inferInstanceAs (Decidable (_=false))
def jcc (m i:Nat):i<=runEnd m i:=by unfold runEnd;split<;>omega
def Qs (m:Nat) (h:Int) (c:Nat):off m h (c+1)=off m h c+(runEnd m (lp m h c).1-(lp m h c).1)+1:=rfl
def kB (m:Nat) (h:Int) {a b:Nat} (hab:a<b):off m h a<off m h b:=by
 induction b with
 |zero=>omega
 |succ b ih=>
  rw [Qs]
  by_cases e:a=b
  · subst e;omega
  · have:=ih (by omega);omega
theorem VR {m:Nat} {h:Int} {ow:Array (Option Nat)} {N:Nat} (hN: ¬jR ow (at' m h N)) (hb: ∀k,k<N->jR ow (at' m h k)): ∀(fuel c:Nat),off m h c<=N->N<off m h (c+fuel)->
  aci m ow fuel (lp m h c).1 (lp m h c).2=some (at' m h N)
 |0,c,h1,h2=>by rw [adS] at h2;omega
 |fuel+1,c,h1,h2=>by
  have hr:=jcc m (lp m h c).1;unfold aci
  by_cases hc:N<off m h (c+1)
  · rw [Qs] at hc
    have hat:at' m h N=(lp m h c).1+(N-off m h c):=by
     rw [←Z2 (by omega)];congr 1;omega
    have hf:(aaT (runEnd m (lp m h c).1+1-(lp m h c).1)).find? (fun k=>(ow.getD ((lp m h c).1+k) (some 0)).isNone)=some (N-off m h c):=by
     rw [List.find?_range_eq_some];refine ⟨?_,by rw [aaO];omega,fun k hk=>?_⟩
     · rw [←hat];unfold jR at hN;simpa using hN
     · have h3:=hb (off m h c+k) (by omega);rw [Z2 (by omega)] at h3;unfold jR at h3;simpa using h3
    rw [hf,hat]
  · have hf:(aaT (runEnd m (lp m h c).1+1-(lp m h c).1)).find? (fun k=>(ow.getD ((lp m h c).1+k) (some 0)).isNone)=none:=by
     rw [List.find?_eq_none];intro k hk;have hk:=aaO.mp hk;rw [Qs] at hc;have h3:=hb (off m h c+k) (by omega);rw [Z2 (by omega)] at h3;unfold jR at h3;rw [Bool.not_eq_true];exact h3
    rw [hf];exact VR hN hb fuel (c+1) (by omega) (by rw [show c+1+fuel=c+(fuel+1) by omega];exact h2)
def jbb {m:Nat} (C:Cyc m) (h:Int) {ow:Array (Option Nat)} {j:Nat} (hj:j<=m) (hf: ¬jR ow j): ∃N,aci m ow (abQ m) (bits h%(m+1)) (bits h)=some (at' m h N)/\ ¬jR ow (at' m h N)/\ ∀k,k<N->jR ow (at' m h k):=by
 obtain ⟨c,h1,h2⟩:=JP C h hj;obtain ⟨N,_,h3,h4⟩:=JU C h (jR ow) hj hf;refine ⟨N,?_,h3,h4⟩
 have hc:N<=off m h c:=by
  refine adb fun z=>?_
  have:=h4 _ z;have e:=Z2 (m:=m) (h:=h) (c:=c) (aa7 _);rw [adS,adS,h2] at e;rw [e] at this;exact hf this
 have:=kB m h (show c<0+abQ m by unfold abQ;omega);exact VR h3 h4 (abQ m) 0 (aa7 _) (by omega)
structure Ow (m:Nat) (hs:List Int) (ow:Array (Option Nat)) (k:Nat):Prop where
 sz:ow.size=m+1
 own: ∀(j q:Nat),ow[j]?=some (some q)->q<k/\ ∃hq,hs[q]?=some hq/\ ∃n,at' m hq n=j/\ ∀r,r<n->jR ow (at' m hq r)
 all: ∀q,q<k-> ∃j:Nat,ow[j]?=some (some q)
 one: ∀(j j' q:Nat),ow[j]?=some (some q)->ow[j']?=some (some q)->j=j'
def yS {ow:Array (Option Nat)} {j:Nat} (hj:j<ow.size):jR ow j↔ ∃q,ow[j]?=some (some q):=by
 unfold jR;rw [abC,aay hj];cases h:ow[j]<;>simp [h]
def Ow.room {m:Nat} {hs:List Int} {ow:Array (Option Nat)} {k:Nat} (O:Ow m hs ow k) (hk:k<=m): ∃j,j<=m/\ ¬jR ow j:=by
 refine acw fun h=>?_
 have hall: ∀j,j<=m-> ∃q,ow[j]?=some (some q):=fun j hj=>by
   have:jR ow j:=acw fun z=>h ⟨j,hj,z⟩
   exact (yS (by rw [O.sz];omega)).mp this
 have hL:=jaR (l:=(aaT (m+1)).map fun j=>((ow[j]?).getD none).getD 0) (l':=aaT k) ?_ ?_
 · rw [aak,adK,adK] at hL;omega
 · refine ab6.mpr ((adc).imp_of_mem fun {a b} ha hb hab e=>?_);obtain ⟨qa,ea⟩:=hall a (by have:=aaO.mp ha;omega);obtain ⟨qb,eb⟩:=hall b (by have:=aaO.mp hb;omega);simp only [ea,eb,aeJ] at e;subst e;exact hab (O.one a b qa ea eb)
 · intro x hx;obtain ⟨j,hj,rfl⟩:=aaB.mp hx;obtain ⟨q,e⟩:=hall j (by have:=aaO.mp hj;omega);simp only [e,aeJ];exact aaO.mpr (O.own j q e).1
def Ow.step {m:Nat} {hs:List Int} {ow:Array (Option Nat)} {k N:Nat} {h:Int} (O:Ow m hs ow k) (hh:hs[k]?=some h) (hN: ¬jR ow (at' m h N)) (hb: ∀r,r<N->jR ow (at' m h r)):Ow m hs (ow.setIfInBounds (at' m h N) (some k)) (k+1):=by
 have hlt:at' m h N<ow.size:=by rw [O.sz];have:=jbF (m:=m) h N;omega
 have get: ∀j:Nat,(ow.setIfInBounds (at' m h N) (some k))[j]?=if at' m h N=j then some (some k) else ow[j]?:=fun j=>by
   rw [Array.getElem?_setIfInBounds]
   split
   · rename_i e;subst e;simp [hlt]
   · rfl
 have mono: ∀j,jR ow j->jR (ow.setIfInBounds (at' m h N) (some k)) j:=fun j hj=>by
   unfold jR at hj ⊢;rw [abC] at hj ⊢;rw [get];split
   · rfl
   · exact hj
 refine ⟨by rw [Array.size_setIfInBounds];exact O.sz,fun j q e=>?_,fun q hq=>?_,fun j j' q e e'=>?_⟩
 · rw [get] at e
   split at e
   · rename_i z;cases e;exact ⟨ada _,h,hh,N,z,fun r hr=>mono _ (hb r hr)⟩
   · obtain ⟨a,hq,b,n,c,d⟩:=O.own j q e;exact ⟨by omega,hq,b,n,c,fun r hr=>mono _ (d r hr)⟩
 · by_cases z:q=k
   · subst z;exact ⟨_,by rw [get,if_pos rfl]⟩
   · obtain ⟨j,e⟩:=O.all q (by omega);refine ⟨j,?_⟩;rw [get,if_neg];exact e;intro ej;subst ej;exact hN ((yS hlt).mpr ⟨q,e⟩)
 · rw [get] at e e'
   split at e
   · rename_i z
     split at e'
     · rename_i z';rw [←z,←z']
     · cases e;have:=(O.own _ _ e').1;omega
   · split at e'
     · cases e';have:=(O.own _ _ e).1;omega
     · exact O.one j j' q e e'
theorem uh {m:Nat} (C:Cyc m) {hs:List Int} (hm:hs.length<=m): ∀(l done:List Int) (ow:Array (Option Nat)),done++l=hs->Ow m hs ow done.length->
  ∃ow',l.foldl (fun (acc:Option (Array (Option Nat)×Nat)) h=>do
   let (owner,k)←acc
   let j←aci m owner (abQ m) (bits h%(m+1)) (bits h)
   pure (owner.setIfInBounds j (some k),k+1)) (some (ow,done.length))=some (ow',hs.length)/\Ow m hs ow' hs.length
 | [],done,ow,e,O=>by
  rw [abe] at e;subst e;exact ⟨ow,rfl,O⟩
 |h::l,done,ow,e,O=>by
  have hl:done.length<hs.length:=by rw [←e];simp
  obtain ⟨j,hj,hf⟩:=O.room (by omega);obtain ⟨N,h1,h2,h3⟩:=jbb C h hj hf;have O':=O.step (by rw [←e];simp) h2 h3;obtain ⟨ow',a,b⟩:=uh C hm l (done++[h]) _ (by rw [←e];simp) (by rw [aaE];exact O');refine ⟨ow',?_,b⟩;rw [←a,aec];congr 1;show (aci m ow (abQ m) (bits h%(m+1)) (bits h)>>=fun j=>_)=_;rw [h1,aaE];rfl
def Wy {m:Nat} (C:Cyc m) {hs:Array Int} (hm:hs.size<=m): ∃ow,SetTable.layClean m hs=some ow/\Ow m hs.toList ow hs.size:=by
 have O0:Ow m hs.toList (Array.replicate (m+1) none) 0:=⟨by simp,fun j q e=>by rw [Array.getElem?_replicate] at e;split at e<;>simp at e,fun q h=>absurd h (abv _),fun j j' q e=>by rw [Array.getElem?_replicate] at e;split at e<;>simp at e⟩
 obtain ⟨ow,a,b⟩:=uh C (by simpa using hm) hs.toList [] _ rfl O0;refine ⟨ow,?_,by simpa using b⟩;unfold SetTable.layClean;rw [←Array.foldl_toList];have a':=a;simp only [aca] at a';rw [a'];rfl
theorem xS {α β:Type} {f:α->Option β} {g:α->β}: ∀ {l:List α},(∀x∈l,f x=some (g x))->l.filterMap f=l.map g
 | [],_=>rfl
 |x::l,h=>by rw [adf,h x aam,aat,xS fun y hy=>h y (aaj _ hy)]
def Ks {m m':Nat} {t:abP} {es:Array (Int×Value)} {wanted:Nat} (T:Tb m t es) (hw:acL wanted-1=m') (C:Cyc m') (hm:es.size<=m'):
   ∃t' order,t.relaid (es.map (·.1)) wanted=some (t',order)/\Tb m' t' (order.filterMap (es[·]?))/\(order.filterMap (es[·]?)).toList.Perm es.toList:=by
 obtain ⟨ow,h1,O⟩:=Wy C (hs:=es.map (·.1)) (by simpa using hm);rw [Array.size_map] at O;unfold SetTable.relaid SetTable.laid;rw [hw,h1];generalize hlv:(aaT (m'+1)).filterMap (fun j=>(ow.getD j none).map (j, ·))=live
 have mem: ∀j q,(j,q)∈live↔ow[j]?=some (some q):=fun j q=>by
   rw [←hlv,aem]
   constructor
   · rintro ⟨a,ha,e⟩;rw [abr] at e;obtain ⟨b,e1,e2⟩:=e;cases e2;have ha:=aaO.mp ha;rw [abC,aay (by rw [O.sz];exact ha)] at e1;rw [aay (by rw [O.sz];exact ha)];simpa using e1
   · intro e;have hj:=(abG.mp e).1;rw [O.sz] at hj;exact ⟨j,aaO.mpr hj,by rw [abC,e];rfl⟩
 have up:live.Pairwise (fun a b=>a.1<b.1):=by
   rw [←hlv];refine List.pairwise_filterMap.mpr ((List.pairwise_lt_range).imp fun {a b} hab x hx y hy=>?_);rw [abr] at hx hy;obtain ⟨_,_,rfl⟩:=hx;obtain ⟨_,_,rfl⟩:=hy;exact hab
 have hlt: ∀p∈live,p.2<es.size:=fun p hp=>(O.own p.1 p.2 ((mem _ _).mp hp)).1
 have hord:(live.map (·.2)).Perm (aaT es.size):=by
   refine (List.perm_ext_iff_of_nodup ?_ adc).mpr fun q=>?_
   · refine ab6.mpr (up.imp_of_mem fun {a b} ha hb hab e=>?_);have:=O.one a.1 b.1 a.2 ((mem _ _).mp ha) (by rw [e];exact (mem _ _).mp hb);omega
   · rw [aaO]
     constructor
     · intro h;obtain ⟨p,hp,rfl⟩:=aaB.mp h;exact hlt p hp
     · intro h;obtain ⟨j,e⟩:=O.all q h;exact aaB.mpr ⟨(j,q),(mem _ _).mpr e,rfl⟩
 have hes:((live.map (·.2)).toArray.filterMap (es[·]?)).toList=(live.map (·.2)).filterMap (es[·]?):=by simp
 have hperm:((live.map (·.2)).toArray.filterMap (es[·]?)).toList.Perm es.toList:=by
   rw [hes];have:=hord.filterMap (es[·]?)
   rwa [filterMap_getElem?_range] at this
 have hmap: ∃g:Nat->Int×Value,(∀q,q<es.size->es[q]?=some (g q))/\(live.map (·.2)).filterMap (es[·]?)=(live.map (·.2)).map g:=by
   refine ⟨fun q=>(es[q]?).getD (0,.none),fun q hq=>by show es[q]?=some ((es[q]?).getD (0,.none));rw [aay hq];rfl,xS fun q hq=>?_⟩;obtain ⟨p,hp,rfl⟩:=aaB.mp hq;show es[p.2]?=some ((es[p.2]?).getD (0,.none));rw [aay (hlt p hp)];rfl
 obtain ⟨g,hg,hmap⟩:=hmap;refine ⟨{mask:=m',place:=(live.map (·.1)).toArray,dummies:= #[],finger:=t.finger,led:=t.led,moves:=t.movedTo m',plain:=t.plain},(live.map (·.2)).toArray,by rw [←hlv];rfl,⟨rfl,rfl,?_,?_,?_,?_⟩,hperm⟩
 · show (live.map (·.1)).toArray.size=_;rw [←aaD (xs:=Array.filterMap _ _),hes,hmap];simp
 · show ((live.map (·.1)).toArray).toList.Pairwise (· < ·);exact ab6.mpr up
 · intro j hj;obtain ⟨p,hp,rfl⟩:=aaB.mp (show j∈live.map (·.1) from hj);have:=(abG.mp ((mem p.1 p.2).mp hp)).1;rw [O.sz] at this;omega
 · intro i j e hj he;have hj:(live.map (·.1))[i]?=some j:=by rw [←aav] at hj;exact hj
   rw [←aav,hes,hmap,abE,aaG] at he;rw [aaG] at hj
   cases hp:live[i]? with
   |none=>rw [hp] at hj;cases hj
   |some p=>
     rw [hp] at hj he;cases hj;cases he;have hp:=aaN hp;obtain ⟨a,hq,b,n,c,d⟩:=O.own p.1 p.2 ((mem _ _).mp hp)
     have e1:hq=(g p.2).1:=by
       rw [aav,Array.getElem?_map,hg _ (hlt p hp)] at b;simpa using b.symm
     subst e1;refine ⟨n,c,fun k hk=>?_⟩;have h3:=d k hk;obtain ⟨q,h4⟩:=(yS (by rw [O.sz];have:=jbF (m:=m') (g p.2).1 k;omega)).mp h3;exact aaB.mpr ⟨_,(mem _ _).mpr h4,rfl⟩
end Tab
end M
namespace M
open PySem
namespace Tab
open SetTable (Probe runEnd leap bits below insertAt)
theorem Zf (m:Nat) (h:Int): ∀n,(pth m h n).dummy=none
 |0=>rfl
 |n+1=>by
  show (adv m (pth m h n)).dummy=none;unfold adv;split<;>exact Zf m h n
def jdF (t:abP) (p:Probe):t.advance p=adv t.mask p:=by unfold SetTable.advance adv;split<;>rfl
def UW (t:abP) (h:Int):t.probeStart h=pth t.mask h 0:=rfl
section
variable {m:Nat} {t:abP} {es:Array (Int×Value)}
theorem Xi (T:Tb m t es) {hashAt:Nat->Int} (hA: ∀(i:Nat) (e:Int×Value),es[i]?=some e->hashAt i=e.1) (h:Int) {N:Nat} (hN:at' m h N∉t.place.toList) (hb: ∀k,k<N->at' m h k∈t.place.toList):
  ∀(F n:Nat),N-n<F->n<=N->
    (abM t hashAt h F (pth m h n)=some (.empty (at' m h N) none)/\ ∀q (i:Nat) (e:Int×Value),n<=q->q<N->t.place[i]?=some (at' m h q)->es[i]?=some e->e.1≠h)\/
    (∃(q i:Nat) (e:Int×Value),n<=q/\q<N/\t.place[i]?=some (at' m h q)/\es[i]?=some e/\e.1=h/\abM t hashAt h F (pth m h n)=some (.candidate (at' m h q) i (pth m h (q+1)))/\ ∀r (i:Nat) (e:Int×Value),n<=r->r<q->t.place[i]?=some (at' m h r)->es[i]?=some e->e.1≠h)
 |0,n,h1,_=>absurd h1 (abv _)
 |F+1,n,h1,h2=>by
  by_cases hn:n=N
  · subst hn;refine .inl ⟨?_,fun q i e a b=>by omega⟩;unfold abM;rw [show (pth m h n).j=at' m h n from rfl,Yh T.up T.dm hN];rw [Zf]
  · obtain ⟨i,hi⟩:=abk.mp (hb n (by omega));rw [aav] at hi;obtain ⟨e,he⟩:=T.el hi
    have one: ∀(i':Nat) (e':Int×Value),t.place[i']?=some (at' m h n)->es[i']?=some e'->e'=e:=fun i' e' a b=>by
      have:=x0 T.up hi;have h3:=x0 T.up a;rw [this] at h3;subst h3;rw [he] at b;cases b;rfl
    have hgo:abM t hashAt h (F+1) (pth m h n)=if hashAt i==h then some (.candidate (at' m h n) i (pth m h (n+1))) else abM t hashAt h F (pth m h (n+1)):=by
      rw [abM];rw [show (pth m h n).j=at' m h n from rfl,yI T.up T.dm hi];simp only [jdF,T.mask];rfl
    rw [hgo,hA i e he]
    by_cases hh:e.1=h
    · refine .inr ⟨n,i,e,aae _,by omega,hi,he,hh,by rw [hh];simp,fun r i e a b=>by omega⟩
    · rw [show (e.1==h)=false by simpa using hh];simp only [aa0,if_false];rcases Xi T hA h hN hb F (n+1) (by omega) (by omega) with ⟨a,b⟩| ⟨q,i',e',a,b,c,d,f,g,k⟩
      · refine .inl ⟨a,fun q i e' h3 h4 h5 h6=>?_⟩
        by_cases hq:q=n
        · subst hq;rw [one i e' h5 h6];exact hh
        · exact b q i e' (by omega) h4 h5 h6
      · refine .inr ⟨q,i',e',by omega,b,c,d,f,g,fun r i e' h3 h4 h5 h6=>?_⟩
        by_cases hq:r=n
        · subst hq;rw [one i e' h5 h6];exact hh
        · exact k r i e' (by omega) h4 h5 h6
end
section
variable {prog:aaL} {w:World} {K:Type} [DecidableEq K] {knd:KeyKind prog w K} {A:aaZ} {E:T9} {s:aah}
def QP (n:Nat) {v:Value} (h:ac6 v=true):acY n v=pure false:=by
 cases v with
 |ref a=>simp [ac6] at h
 |_=>first|rfl|simp [acY]| (unfold acY;rfl)
def xY {ks:List K} {a:Addr} {Q:Bool->aah->Prop} (hk:abt knd s.heap ks a) (h:Q false s):wpAny (model prog w) A (acY 8 (.ref a)) Q E s:=by
 have hT:=hk.typeIs;obtain ⟨o,items,n,ho,_,hd,hi⟩:=hk;unfold acY;refine aab (adP hT ?_);refine aab (aaf ?_);simp;refine aab (ac1 ho hd ?_);dsimp only;refine aab ?_;rw [←adn];refine ac8 _ (fun rest r s'=>r.1=none/\s'=s/\ ∀v∈rest,ac6 v=true) _ ?_ ?_ _ _ ⟨rfl,rfl,hi.byValue⟩
 · rintro v rest r s' ⟨hr,rfl,hall⟩;rw [QP _ (hall v aam)];refine aab (aaf ?_);simp;exact aaf ⟨rfl,rfl,fun u hu'=>hall u (aaj _ hu')⟩
 · rintro ⟨r1,r2⟩ s' ⟨hr,rfl,_⟩;simp only at hr;subst hr;exact aaf h
def WG (n:Nat) {v:Value} (h:ac6 v=true): ∃b,hashByValue n v=pure b:=by
 cases v with
 |ref a=>simp [ac6] at h
 |_=>cases n<;>first|exact ⟨_,rfl⟩| (unfold hashByValue;exact ⟨_,rfl⟩)
def WH {ks:List K} {a:Addr} {Q:Bool->aah->Prop} (hk:abt knd s.heap ks a) (h: ∀b,Q b s):wpAny (model prog w) A (hashByValue 8 (.ref a)) Q E s:=by
 have hT:=hk.typeIs;obtain ⟨o,items,n,ho,_,hd,hi⟩:=hk;unfold hashByValue;refine aab (wpAny_specialOf hT F.slot_tuple_hash.lookup ?_);refine aab (ac1 ho hd ?_);refine aab ?_;rw [←adn];refine ac8 _ (fun rest r s'=>s'=s/\ ∀v∈rest,ac6 v=true) _ ?_ ?_ _ _ ⟨rfl,hi.byValue⟩
 · rintro v rest r s' ⟨rfl,hall⟩;obtain ⟨b,hb⟩:=WG 7 (hall v aam);rw [hb];refine aab (aaf ?_)
   cases b with
   |true=>
    simp;exact aaf ⟨rfl,fun u hu'=>hall u (aaj _ hu')⟩
   |false=>
    simp;exact aaf (aaf (h _))
 · rintro ⟨r1,r2⟩ s' ⟨rfl,_⟩
   cases r1 with
   |none=>exact aaf (h _)
   |some b=>exact aaf (h _)
def X8 {ks:List K} {a:Addr} (hk:abt knd s.heap ks a) (l:List Value) (hl: ∀y∈l,∃b k,y= .ref b/\abt knd s.heap k b) {Q:Bool->aah->Prop} (h:Q false s):wpAny (model prog w) A (searchCouldBeSeen (.ref a) l) Q E s:=by
 unfold searchCouldBeSeen;refine aab ?_;refine ac8 _ (fun rest r s'=>r.1=none/\s'=s/\ ∀y∈rest,∃b k,y= .ref b/\abt knd s.heap k b) _ ?_ ?_ _ _ ⟨rfl,rfl,hl⟩
 · rintro y rest r s' ⟨hr,rfl,hall⟩;obtain ⟨b,k,rfl,hb⟩:=hall y aam;have go: ∀u hu',_:=fun u (hu':u∈rest)=>hall u (aaj _ hu')
   dsimp only
   split
   · exact aaf ⟨rfl,rfl,go⟩
   · refine aab (wpAny_eqIsQuiet_tuple hk ?_);simp only [abZ,aa0,if_false];refine aab (wpAny_eqIsQuiet_tuple hb ?_);simp only [abZ,aa0,if_false];refine aab (xY hk ?_);simp only [aa0,if_false];refine aab (xY hb ?_);simp only [aa0,if_false];exact aaf ⟨rfl,rfl,go⟩
 · rintro ⟨r1,r2⟩ s' ⟨hr,rfl,_⟩;simp only at hr;subst hr;exact aaf h
end
end Tab
end M
namespace M
open PySem
namespace Tab
open SetTable (Probe runEnd leap bits below insertAt)
def Sz (m n:Nat):Prop:=(m=7/\n<=4)\/(m=31/\n<=18)\/(m=127/\n<=76)
def Sz.cyc {m n:Nat} (S:Sz m n):Cyc m:=by
 rcases S with ⟨rfl,_⟩| ⟨rfl,_⟩| ⟨rfl,_⟩
 · exact cyc7
 · exact jey
 · exact jdy
def Sz.le {m n:Nat} (S:Sz m n):n<=m/\m<=127/\m%2=1/\n<=76:=by rcases S with ⟨rfl,h⟩| ⟨rfl,h⟩| ⟨rfl,h⟩<;>omega
def Tb.fits {m:Nat} {t:abP} {es:Array (Int×Value)} (T:Tb m t es) (h:es.size<=m):t.fits es.size=true:=by
 unfold SetTable.fits SetTable.fill;rw [T.dm,T.sz,T.mask];simpa using h
section
variable {prog:aaL} {w:World} {K:Type} [DecidableEq K] {knd:KeyKind prog w K} {A:aaZ} {E:T9} {s:aah}
def Kk (hu:A.units<cLine) {a:Addr} {o:Obj} {es:Array (Int×Value)} {ep:Nat} {t:abP} {m:Nat} {kp:List (List K×Addr)} (ho:s.heap.get? a=some o) (hd:o.data= .set es ep t) (T:Tb m t es) (S:Sz m es.size)
  (he:es.toList=kp.map fun p=>(aaP knd p.1,aaK p.2)) (hk: ∀p∈kp,abt knd s.heap p.1 p.2) {k0:List K} {xa:Addr} (hx:abt knd s.heap k0 xa) {Q:SetFound->aah->Prop}
  (h1:k0∈kp.map (·.1)->Q (.there none) s) {N:Nat} (hN:at' m (aaP knd k0) N∉t.place.toList) (hb: ∀k,k<N->at' m (aaP knd k0) k∈t.place.toList) (hN2:N<=10*(m+13)) (h2:k0∉kp.map (·.1)->Q (.free (at' m (aaP knd k0) N) false) s):
  ∀(F n:Nat) (stand:Option Probe),N-n<F->n<=N->stand.getD (t.probeStart (aaP knd k0))=pth m (aaP knd k0) n->
    (∀q (i:Nat) (p:List K×Addr),q<n->t.place[i]?=some (at' m (aaP knd k0) q)->kp[i]?=some p->p.1≠k0)->
    wpAny (model prog w) A (setSearchFrom a (.ref xa) (aaP knd k0) true F stand) Q E s:=by
 have hf:=T.fits S.le.1
 have get: ∀(i:Nat) (e:Int×Value),es[i]?=some e-> ∃p,kp[i]?=some p/\e=(aaP knd p.1,aaK p.2):=fun i e h=>by
  rw [←aav,he,aaG] at h
  cases hp:kp[i]? with
  |none=>rw [hp] at h;cases h
  |some p=>rw [hp] at h;cases h;exact ⟨p,rfl,rfl⟩
 intro F
 induction F with
 |zero=>intro n _ z;exact absurd z (abv _)
 |succ F ih=>
  intro n stand hF hn hst hseen;unfold setSearchFrom;refine aab (acF ho hd hf ?_);dsimp only;have hgw:t.gaveWay=false:=by unfold SetTable.gaveWay;rw [T.mask];have:=S.le.2.2.1;simp [this]
  rw [hgw];simp;rw [hst];unfold SetTable.probe;generalize e0:abM t _ (aaP knd k0) (10*abQ t.mask) (pth m (aaP knd k0) n)=R;have e0:abM t (fun i=>(es[i]?.map (·.1)).getD 0) (aaP knd k0) (10*abQ t.mask) (pth m (aaP knd k0) n)=R:=e0;rcases Xi T (hashAt:=fun i=>(es[i]?.map (·.1)).getD 0) (fun i e h=>by simp [h]) _ hN hb (10*abQ t.mask) n (by rw [T.mask];unfold abQ;omega) hn with ⟨e1,e2⟩| ⟨q,i,e,a1,a2,a3,a4,a5,a6,a7⟩
  · rw [e0] at e1;subst e1;dsimp only;refine aaf (h2 fun z=>?_);obtain ⟨p,hp,e3⟩:=aaB.mp z;obtain ⟨i,hi⟩:=abk.mp hp;have hei:es[i]?=some (aaP knd p.1,aaK p.2):=by rw [←aav,he,aaG,hi];rfl
    subst e3;obtain ⟨n',j,b1,b2,b3⟩:=T.met hei hN;subst b2
    by_cases hq:n'<n
    · exact hseen n' i p hq b3 hi rfl
    · exact e2 n' i _ (by omega) b1 b3 hei rfl
  · rw [e0] at a6;subst a6;dsimp only;obtain ⟨p,hp,rfl⟩:=get i e a4;have hpk:=hk p (aaN hp);have hmv:t.sameMemory t.moves t.mask=some true:=by unfold SetTable.sameMemory;simp
    have next:p.1≠k0-> ∀q' (i':Nat) (p':List K×Addr),q'<q+1->t.place[i']?=some (at' m (aaP knd k0) q')->kp[i']?=some p'->p'.1≠k0:=fun hne q' i' p' g1 g2 g3=>by
      by_cases hq:q'<n
      · exact hseen q' i' p' hq g2 g3
      · by_cases hq2:q'=q
        · subst hq2;have:=x0 T.up a3;have h4:=x0 T.up g2;rw [this] at h4;subst h4;rw [hp] at g3;cases g3;exact hne
        · have hei:es[i']?=some (aaP knd p'.1,aaK p'.2):=by rw [←aav,he,aaG,g3];rfl
          rintro rfl;exact a7 q' i' _ (by omega) (by omega) g2 hei rfl
    split
    · refine aab (X8 hx _ (fun y hy=>?_) ?_)
      · obtain ⟨e',he',rfl⟩:=aaB.mp hy;have he':e'∈es/\e'.1=aaP knd k0:=by simpa using he'
        have:=Array.mem_toList_iff.mpr he'.1;obtain ⟨i',hi'⟩:=abk.mp this;rw [aav] at hi';obtain ⟨p',hp',rfl⟩:=get i' e' hi';exact ⟨_,_,rfl,hk p' (aaN hp')⟩
      simp;rw [a4];dsimp only;refine aab (aba (wpAny_eqBool_tuple hu hpk hx ?_));refine aab (acF ho hd hf ?_)
      by_cases hkk:p.1=k0
      · rw [decide_eq_true hkk];simp;exact aaf (h1 (aaB.mpr ⟨p,aaN hp,hkk⟩))
      · rw [decide_eq_false hkk];simp;rw [hmv];simp;rw [yI T.up T.dm a3];dsimp only;rw [a4];dsimp only;refine aab (wpAny_isSame_ref_self ?_);simp;exact ih (q+1) _ (by omega) (by omega) rfl (next hkk)
    · rw [a4];dsimp only;refine aab (aba (wpAny_eqBool_tuple hu hpk hx ?_));refine aab (acF ho hd hf ?_)
      by_cases hkk:p.1=k0
      · rw [decide_eq_true hkk];simp;exact aaf (h1 (aaB.mpr ⟨p,aaN hp,hkk⟩))
      · rw [decide_eq_false hkk];simp;rw [hmv];simp;rw [yI T.up T.dm a3];dsimp only;rw [a4];dsimp only;refine aab (wpAny_isSame_ref_self ?_);simp;exact ih (q+1) _ (by omega) (by omega) rfl (next hkk)
end
end Tab
end M
namespace M
open PySem
namespace Tab
open SetTable (Probe runEnd leap bits below insertAt)
def Tb.led {m:Nat} {t:abP} {es:Array (Int×Value)} (T:Tb m t es) (b:Bool):Tb m {t with plain:=b} es:=⟨T.mask,T.dm,T.sz,T.up,T.le,T.road⟩
def kh {α β:Type} {f:α->β} {l l':List β} (p:l.Perm l'): ∀k',l'=k'.map f-> ∃k:List α,l=k.map f/\k.Perm k':=by
 induction p with
 |nil=>intro k' e;exact ⟨k',e,.refl _⟩
 |cons x p ih=>
  intro k' e
  cases k' with
  |nil=>cases e
  |cons a k'=>
   simp at e;obtain ⟨k,h1,h2⟩:=ih k' e.2;exact ⟨a::k,by rw [h1,e.1];rfl,h2.cons a⟩
 |swap x y l=>
  intro k' e
  cases k' with
  |nil=>cases e
  |cons a k'=>
   cases k' with
   |nil=>cases e
   |cons b k'=>
    simp at e;obtain ⟨rfl,rfl,rfl⟩:=e;exact ⟨b::a::k',rfl,.swap a b k'⟩
 |trans p q ih1 ih2=>
  intro k' e;obtain ⟨k1,h1,h2⟩:=ih2 k' e;obtain ⟨k2,h3,h4⟩:=ih1 k1 h1;exact ⟨k2,h3,h4.trans h2⟩
section
variable {prog:aaL} {w:World} {K:Type} [DecidableEq K] (knd:KeyKind prog w K)
def ent (p:List K×Addr):Int×Value:=(aaP knd p.1,aaK p.2)
def SetT (G:Wb) (h:Heap) (a:Addr) (ks:List (List K)):Prop:= ∃(o:Obj) (es:Array (Int×Value)) (ep:Nat) (t:abP) (m:Nat) (kp:List (List K×Addr)),h.get? a=some o/\o.ExactSet/\o.data= .set es ep t/\Tb m t es/\Sz m es.size/\es.toList=kp.map (ent knd)/\(∀p∈kp,abt knd h p.1 p.2/\G p.2)/\(kp.map (·.1)).Perm ks/\ks.Nodup
variable {knd} {G:Wb} {A:aaZ} {E:T9} {s:aah}
def Zt {h h':Heap} {ks:List K} {a d:Addr} {o:Obj} {es:Array (Int×Value)} {ep:Nat} {t:abP} (x:abt knd h ks a) (ho:h.get? d=some o) (hd:o.data= .set es ep t) (hs:acn d h h'):abt knd h' ks a:=by
 obtain ⟨o',items,n,ho',hc,hd',hi⟩:=x
 have hne:a≠d:=by
  rintro rfl;obtain rfl:o'=o:=aaI (ho'.symm.trans ho);rw [hd] at hd';exact nomatch hd'
 exact ⟨o',items,n,(hs.2 a hne).trans ho',hc,hd',hi⟩
def Q7 {h:Heap} {a:Addr} {o:Obj} {es:Array (Int×Value)} {ep:Nat} {t:abP} (ho:h.get? a=some o) (hd:o.data= .set es ep t) (es':Array (Int×Value)) (t':abP):
  (h.update a (ae1 es' t')).get? a=some {o with data:= .set es' (ep+1) t'}:=by
 have:=acP (ae1 es' t') ho (by rw [putSet_of es' t' hd];rfl);rw [putSet_of es' t' hd] at this;exact this
def U3 {a:Addr} {o:Obj} {es:Array (Int×Value)} {ep:Nat} {t:abP} {m m' wanted:Nat} (ho:s.heap.get? a=some o) (hd:o.data= .set es ep t) (T:Tb m t es) (hm:es.size<=m) (hw:acL wanted-1=m') (hz:acL wanted<=aai) (C:Cyc m') (hm':es.size<=m') (hl:es.size<=aai) {Q:Unit->aah->Prop}
  (h: ∀es' t',Tb m' t' es'->es'.toList.Perm es.toList->Q () {s with heap:=s.heap.update a (ae1 es' t')}):wpAny (model prog w) A (setRelay a wanted) Q E s:=by
 obtain ⟨t',order,e1,T',pm⟩:=Ks T hw C hm';have hsz:(order.filterMap (es[·]?)).size=es.size:=by rw [←aaD,pm.length_eq,aaD]
 unfold setRelay;refine aab (acF ho hd (T.fits hm) ?_);dsimp only;rw [if_neg (Nat.not_lt.mpr hz)];rw [e1];refine aab ?_;show wpAny _ _ (if (order.filterMap (es[·]?)).size !=es.size then _ else _) _ _ _;rw [hsz];simp;refine aaf ?_;exact wpAny_storeSet_of ho hd (h _ _ T' pm) (by rw [hsz];exact hl)
def jbL (hu:A.units<cLine) {a:Addr} {ks:List (List K)} (hS:SetT knd G s.heap a ks) {k0:List K} {xa:Addr} (hx:abt knd s.heap k0 xa) (hg:G xa) (hn:ks.length<76) {Q:Bool->aah->Prop}
   (h: ∀h' b,acn a s.heap h'->SetT knd G h' a (if k0∈ks then ks else ks++[k0])->Q b {s with heap:=h'}):wpAny (model prog w) A (setAddHashed a (.ref xa) (aaP knd k0)) Q E s:=by
 obtain ⟨o,es,ep,t,m,kp,ho,hex,hd,T,S,he,hk,pm,nd⟩:=hS;have hf:=T.fits S.le.1;have hlen:es.size=ks.length:=by rw [←aaD,he,aak,←pm.length_eq,aak]
 unfold setAddHashed setAddHashedIn;refine aba (aab (acF ho hd hf ?_));dsimp only;have hbs:byScan (.ref xa) es=false:=rfl;rw [hbs];simp only [aa0,if_false];obtain ⟨j0,hj0,hf0⟩:=T.free S.le.1;obtain ⟨N,hN2,hN,hb⟩:=JU S.cyc (aaP knd k0) (fun j=>j∈t.place.toList) hj0 hf0;unfold setSearch;refine aab (Kk hu ho hd T S he (fun p hp=>(hk p hp).1) hx (fun hin=>?_) hN hb hN2 (fun hout=>?_) 100000 0 none (by have:=S.le;omega) (aa7 _) (by rw [aeN,UW,T.mask]) (fun q i p hq=>absurd hq (abv _)))
 · dsimp only;have hmem:=pm.mem_iff.mp hin;have:=h s.heap false (Heap.SameBut.refl a s.heap) (by rw [if_pos hmem];exact ⟨o,es,ep,t,m,kp,ho,hex,hd,T,S,he,hk,pm,nd⟩);exact aaf this
 · dsimp only;have hmem:k0∉ks:=fun z=>hout (pm.mem_iff.mpr z)
   refine aab (acF ho hd hf ?_);dsimp only;have T1:=T.put (x:= .ref xa) rfl hN hb;generalize htp:t.put (at' m (aaP knd k0) N)=tp at T1 ⊢;obtain ⟨t1,p1⟩:=tp;dsimp only at T1 ⊢;generalize hes1:insertAt es p1 (aaP knd k0,aaK xa)=es1 at T1 ⊢
   have hperm1:es1.toList.Perm (es.toList++[(aaP knd k0,aaK xa)]):=by
     rw [←hes1];have:=adC es p1 (aaP knd k0,aaK xa)
     rwa [Array.toList_push] at this
   have hsz1:es1.size=es.size+1:=by rw [←aaD,hperm1.length_eq,aaE,aaD];rfl
   have hle:es1.size<=m:=by
     have:=S.le;rcases S with ⟨rfl,h⟩| ⟨rfl,h⟩| ⟨rfl,h⟩<;>omega
   have hline:es1.size<=aai:=by rw [acs];have:=S.le;omega
   have keys: ∀(es2:Array (Int×Value)),es2.toList.Perm (es.toList++[(aaP knd k0,aaK xa)])-> ∃kp2:List (List K×Addr),es2.toList=kp2.map (ent knd)/\kp2.Perm (kp++[(k0,xa)]):=fun es2 p2=>by
     rw [he,show [(aaP knd k0,aaK xa)]=[(k0,xa)].map (ent knd) from rfl,←abR] at p2;exact kh p2 _ rfl
   have fin: ∀(h':Heap) (es2:Array (Int×Value)) (t2:abP) (m2 ep2:Nat),acn a s.heap h'->h'.get? a=some {o with data:= .set es2 ep2 t2}->Tb m2 t2 es2->Sz m2 es2.size->es2.toList.Perm (es.toList++[(aaP knd k0,aaK xa)])->Q true {s with heap:=h'}:=fun h' es2 t2 m2 ep2 sb g T2 S2 p2=>by
     obtain ⟨kp2,e2,q2⟩:=keys es2 p2;refine h h' true sb ?_;rw [if_neg hmem];refine ⟨_,es2,ep2,t2,m2,kp2,g,hex,rfl,T2,S2,e2,fun p hp=>?_,?_,?_⟩
     · rcases aa8.mp (q2.mem_iff.mp hp) with z|z
       · exact ⟨Zt (hk p z).1 ho hd sb,(hk p z).2⟩
       · rw [abB] at z;subst z;exact ⟨Zt hx ho hd sb,hg⟩
     · exact (q2.map _).trans (by rw [abR];exact pm.append_right _)
     · exact aeD.mpr ⟨nd,by simp,fun x hx' y hy e=>by rw [abB] at hy;subst hy;subst e;exact hmem hx'⟩
   have tail: ∀b:Bool,wpAny (model prog w) A (do
       storeSet a es1 {t1 with plain:=b}
       if (!false&&({t1 with plain:=b}:abP).tooFull)=true then do
          setRelay a (aex (es.size+1))
          pure true
         else pure true) Q E s:=fun b=>by
     refine aab (wpAny_storeSet_of ho hd ?_ hline);have g1:=Q7 ho hd es1 {t1 with plain:=b};have sb1:=ace s.heap a (ae1 es1 {t1 with plain:=b})
     by_cases hfull:({t1 with plain:=b}:abP).tooFull=true
     · rw [hfull];simp
       have relay: ∀m',acL (aex (es.size+1))-1=m'->acL (aex (es.size+1))<=128->Sz m' es1.size->wpAny (model prog w) A (do
          setRelay a (aex (es.size+1))
          pure true) Q E {s with heap:=s.heap.update a (ae1 es1 {t1 with plain:=b})}:=fun m' hw hz S'=>by
         refine aab (U3 g1 rfl (T1.led b) hle hw (by rw [acs];omega) S'.cyc S'.le.1 hline fun es2 t2 T2 p2=>?_);refine aaf ?_;have hs2:es2.size=es1.size:=by rw [←aaD,p2.length_eq,aaD]
         exact fin _ es2 t2 m' _ (sb1.trans (ace _ a _)) (Q7 g1 rfl es2 t2) T2 (by rw [hs2];exact S') (p2.trans hperm1)
       have hq:m*3<=(es.size+1)*5:=by
         unfold SetTable.tooFull SetTable.fill at hfull;have h1:=(T1.led b).dm;have h2:=(T1.led b).sz;have h3:=(T1.led b).mask;rw [h1,h2,h3,hsz1] at hfull;simpa using hfull
       rcases S with ⟨rfl,h4⟩| ⟨rfl,h4⟩| ⟨rfl,h4⟩
       · have h5:es.size=4:=by omega
         rw [hsz1,h5] at relay;rw [h5];exact relay 31 (by decide+kernel) (by decide+kernel) (.inr (.inl ⟨rfl,by omega⟩))
       · have h5:es.size=18:=by omega
         rw [hsz1,h5] at relay;rw [h5];exact relay 127 (by decide+kernel) (by decide+kernel) (.inr (.inr ⟨rfl,by omega⟩))
       · omega
     · rw [Bool.not_eq_true] at hfull;rw [hfull];simp;refine aaf (fin _ es1 _ m _ sb1 g1 (T1.led b) ?_ hperm1)
       have hq: ¬m*3<=(es.size+1)*5:=by
         unfold SetTable.tooFull SetTable.fill at hfull;have h1:=(T1.led b).dm;have h2:=(T1.led b).sz;have h3:=(T1.led b).mask;rw [h1,h2,h3,hsz1] at hfull;simpa using hfull
       rw [hsz1];rcases S with ⟨rfl,h4⟩| ⟨rfl,h4⟩| ⟨rfl,h4⟩
       · exact .inl ⟨rfl,by omega⟩
       · exact .inr (.inl ⟨rfl,by omega⟩)
       · exact .inr (.inr ⟨rfl,by omega⟩)
   have t1e:({t1 with plain:=t1.plain}:abP)=t1:=rfl
   split
   · refine aab (WH hx fun b=>?_)
     cases b with
     |true=>exact tail t1.plain
     |false=>exact tail false
   · refine aab (aaf ?_);exact tail t1.plain
end
end Tab
end M
namespace M
open PySem
open PyProof.Rows
namespace Tab
def fstT {α:Type} [DecidableEq α] (val:Nat->α):Nat->List α
 |0=>[]
 |i+1=>if val i∈fstT val i then fstT val i else fstT val i++[val i]
section
variable {prog:aaL} {w:World} {K:Type} [DecidableEq K] {knd:KeyKind prog w K} {Gd:Wb}
def yB {h h':Heap} {k:List K} {b:Addr} (x:abt knd h k b) (e: ∀o,h.get? b=some o->h'.get? b=some o):abt knd h' k b:=
 let ⟨o,i,n,h1,h2⟩:=x
 ⟨o,i,n,e o h1,h2⟩
def SetT.same {h h':Heap} {a:Addr} {ks:List (List K)} (x:SetT knd Gd h a ks) (e: ∀b o,(b=a\/Gd b)->h.get? b=some o->h'.get? b=some o):SetT knd Gd h' a ks:=by
 obtain ⟨o,es,ep,t,m,kp,ho,hex,hd,T,S,he,hk,pm⟩:=x;exact ⟨o,es,ep,t,m,kp,e a o (.inl rfl) ho,hex,hd,T,S,he,fun p hp=>⟨yB (hk p hp).1 fun o=>e p.2 o (.inr (hk p hp).2),(hk p hp).2⟩,pm⟩
variable {A:aaZ} {R:Result->aah->Prop} {I:Addr} {fp wr:List Addr} {G:Array GenState->Array GenState->Prop} {n:Nat} {P:Nat->Value->Prop} {St:Nat->aah->Prop}
def jek (W:WalksS prog w A.in1 I fp wr G n P St) (S:Addr) (hSf:S∉fp) (hu:A.in1.units<cLine) (val:Nat->List K) (hG: ∀b,Gd b->b≠S/\b∉wr) (hb: ∀i,i<n->(fstT val i).length<76):
  ∀(k i:Nat) (s:aah),n-i=k->i<=n->St i s->SetT knd Gd s.heap S (fstT val i)->(∀i v,P i v-> ∃b,v= .ref b/\Gd b/\abt knd s.heap (val i) b)->
    (∀s',Moved (S::wr) G s s'->SetT knd Gd s'.heap S (fstT val n)->R (.ok (.ret .none)) s')->
    aeH (model prog w) A (.builtin "set.update.loop" ⟨[.ref S,.ref I],[]⟩) R s:=by
 have hSw:S∉wr:=fun h=>hSf (W.sub _ h)
 have up: ∀b∈wr,b∈S::wr:=fun b z=>aaj _ z
 have walk: ∀ {s s':aah} {ks:List (List K)},Moved wr G s s'->SetT knd Gd s.heap S ks->SetT knd Gd s'.heap S ks:=fun hm x=>x.same fun b o hb e=>hm.heap b o (by rcases hb with rfl|hb;exact hSw;exact (hG b hb).2) e
 intro k
 induction k with
 |zero=>
  intro i s hk hi hst hS hK hR;obtain rfl:i=n:=by omega
  refine ady ac7 ?_;rw [ac0 ab3 _];refine aab (W.done s _ _ hst fun s' hm=>?_);exact aaf (hR s' (hm.mono up) (walk hm hS))
 |succ k ih=>
  intro i s hk hi hst hS hK hR;have hlt:i<n:=by omega
  refine ady ac7 ?_;rw [ac0 ab3 _];refine aab (W.item i s _ _ hlt hst fun v s' hP hst' hm=>?_);obtain ⟨b,rfl,hGb,hkb⟩:=hK i v hP;have hkb':=yB hkb fun o e=>hm.heap b o (hG b hGb).2 e
  refine aab (aba ?_);unfold setAdd;refine aba (aab (wpAny_pyHash_tuple hu hkb' ?_));have hS1:=walk hm hS;refine jbL (s:={s' with toks:=s'.toks+((val i).length+1)}) hu hS1 hkb' hGb (hb i hlt) fun h' bb hsb hS2=>?_
  have mv: ∀c o,c≠S->s'.heap.get? c=some o->h'.get? c=some o:=fun c o hc e=>by rw [hsb.2 c hc];exact e
  have hS3:SetT knd Gd h' S (fstT val (i+1)):=by
    rw [fstT]
    by_cases hm:val i∈fstT val i
    · rw [if_pos hm] at hS2 ⊢;exact hS2
    · rw [if_neg hm] at hS2 ⊢;exact hS2
  refine aaf ⟨plainId_quiet ab3 _,ih (i+1) _ (by omega) hlt (W.frame _ s' _ _ hst' (acm _ _) fun c hc o e=>?_) hS3 (fun i' v' hP'=>?_) fun s'' hm'' hS''=>?_⟩
  · exact mv c o (fun z=>hSf (by rw [←z];exact hc)) e
  · obtain ⟨c,e,g,x⟩:=hK i' v' hP';exact ⟨c,e,g,yB x fun o z=>mv c o (hG c g).1 (hm.heap c o (hG c g).2 z)⟩
  · refine hR s'' (Moved.trans W.gtrans ((hm.mono up).then_heap (acm _ _) fun c o hc e=>?_) hm'') hS'';exact mv c o (fun z=>hc (by rw [z];exact aam)) e
end
section
variable {prog:aaL} {w:World} {K:Type} [DecidableEq K] {knd:KeyKind prog w K} {A:aaZ} {E:T9} {s:aah}
def jdr {h:Heap} {a:Addr} {o:Obj} {led:Bool} {G:Wb} (ho:h.get? a=some o) (hx:o.ExactSet) (hd:o.data= .set #[] 0 (.fresh 0 0 led)):SetT knd G h a []:=
 ⟨o, #[],0,_,7,[],ho,hx,hd,Tb.fresh led,.inl ⟨rfl,by decide⟩,rfl,(fun _ z=>by cases z),.refl _,.nil⟩
def call_setT (hu:A.units+6<cLine) (hh:A.handled=none) {l:Addr} {items:Array Value} {val:Nat->List K} {Q:T9} (hl:s.heap.IsList l items)
  (hi: ∀(i:Nat) v,items[i]?=some v-> ∃b,v= .ref b/\abt knd s.heap (val i) b) (hb: ∀i,i<items.size->(fstT val i).length<76)
  (h: ∀(h':Heap) (tk:Nat),SetT knd (fun b=>b<s.heap.objs.size) h' s.heap.objs.size (fstT val items.size)->(∀b o,b<s.heap.objs.size->s.heap.get? b=some o->h'.get? b=some o)->Q (.ref s.heap.objs.size) {s with heap:=h',toks:=tk}):
  wpAny (model prog w) A (call (.type "set") [.ref l]) Q E s:=by
 obtain ⟨c,tl,hmro⟩:=acR.mro;have hmade:=acR.made;have hsub:=acR.sub;refine wpAny_call (codeAny_of_tree ?_);refine aaf ⟨Code.quiet_builtin _ (by decide+kernel),ady F.entry_type_call ?_⟩;rw [Around.under_plain (weight_type_call_type "set" [.ref l] []) rfl];have h1:=acR.notType;have h2:=acR.canCreate;have hct:=F.typeCall_set_1 (.ref l)
 repeat (any_goals (first|assumption|wp_step))
 refine adM (code_set_new_1 (.ref l) (E:=E) (Q₁:=fun obj s₁=> ∃led:Bool,obj= .ref s.heap.objs.size/\s₁={s with heap:=s.heap.push {cls:= .type "set",dict:=none,data:= .set #[] 0 (.fresh 0 0 led)}}) fun led=>⟨led,rfl,rfl⟩) fun r s₁ hr=>?_
 cases r with
 |error e=>exact hr
 |ok fl=>
  cases fl with
  |ret obj=>
   obtain ⟨led,rfl,rfl⟩:=hr;generalize hso:({cls:= .type "set",dict:=none,data:= .set #[] 0 (.fresh 0 0 led)}:Obj)=so;have hS:(s.heap.push so).get? s.heap.objs.size=some so:=aan _ (by rw [←hso];rfl);have hT:Shared.TypeIs {s with heap:=s.heap.push so} (.ref s.heap.objs.size) "set" :=⟨_,hS,by rw [←hso]⟩
   have hli:=acR.init.lookup;have hbi:=acR.init.bind (.ref s.heap.objs.size)
   repeat (any_goals (first|assumption|wp_step))
   refine adM (codeAny_call_builtin (R:=wants (fun r s₂=>r= .none/\ ∃h' tk,s₂={s with heap:=h',toks:=tk}/\
       SetT knd (fun b=>b<s.heap.objs.size) h' s.heap.objs.size (fstT val items.size)/\(∀b o,b<s.heap.objs.size->s.heap.get? b=some o->h'.get? b=some o)) E) acR.init.plain F.entry_set_init (check_set_init_1 hT ?_)) fun r₂ s₂ hr₂=>?_
   · obtain ⟨ol,hol,hcl,nl,hdl⟩:=hl;obtain ⟨ocls,odict,odata,oslots⟩:=ol;simp only at hcl hdl;subst hcl;subst hdl;have hol':(s.heap.push so).get? l=some {cls:= .type "list",dict:=odict,data:= .seq items nl,slots:=oslots}:=aad _ hol;have hsls:=F.sub_list_set;have hslf:=F.sub_list_frozenset;have hne:(adE "list" ==adE "dict")=false:=by decide
     have hl1:(s.heap.push so).IsList l items:=⟨_,hol',rfl,nl,rfl⟩
     have hlt:=aas hol;have hsz:(s.heap.push so).objs.size=s.heap.objs.size+1:=ac2 _ _
     have hset:SetT knd (fun b=>b<s.heap.objs.size) ((s.heap.push so).push {cls:= .type "list_iterator",data:= .fields #[.ref l,.int 0 0]}) s.heap.objs.size []:=
       jdr (aad _ hS) (by rw [←hso];exact ⟨rfl,rfl,rfl⟩) (by rw [←hso])
     subst hso;unfold ad6.«set.__init__» noKeywords Builtin.Frozenset.updateFrom;generalize hPI:pyIter=PI
     wp_walk
     subst hPI;refine acV hl1 ?_;refine aab (wpAny_runValue ?_)
     refine jek ((Walks.list (show A.in1.in1.in1.handled=none by simp [hh]) _ l (by rw [hsz];exact aaJ (adJ hlt)) items).toS) s.heap.objs.size (by rw [hsz];simp only [aaq,abF,or_false,not_or];exact ⟨aaJ (ada _),Nat.ne_of_gt hlt⟩) (by simp;omega) val
       (fun b hb=>by rw [hsz];simp;exact ⟨aaJ hb,aaJ (adJ hb)⟩) hb (items.size-0) 0 _ rfl (aa7 _) ⟨⟨_,aan _ rfl,rfl,rfl⟩,hl1.push _⟩ hset (fun i v hv=>?_) fun s' hm hS'=>?_
     · obtain ⟨b,e,x⟩:=hi i v hv;refine ⟨b,e,?_,yB x fun o z=>aad _ (aad _ z)⟩;obtain ⟨o,_,_,ho,_⟩:=x;exact aas ho
     · obtain ⟨h',g',d',tk',os'⟩:=s';have eg:=hm.gens;have ed:=hm.drawn;have eo:=hm.os;subst eg;subst ed;subst eo;refine aaf (aaf ⟨rfl,h',tk',rfl,hS',fun b o hb e=>?_⟩);refine hm.heap b o ?_ (aad _ (aad _ e));rw [hsz];simp;exact ⟨aaJ hb,aaJ (adJ hb)⟩
   · cases r₂ with
     |error e=>exact hr₂
     |ok fl₂=>
       cases fl₂ with
       |ret r=>
        obtain ⟨rfl,h',tk,rfl,hS',hk'⟩:=hr₂
        repeat (any_goals (first|assumption|wp_step))
        exact h _ _ hS' hk'
       |_=>exact hr₂.elim
  |_=>exact hr.elim
end
end Tab
end M
namespace M
open PySem PySem.Spec L2
open PyProof.Rows hiding St
def tksD:List D->Option (List (List Key))
 | []=>some []
 |d::r=>match keyT d,tksD r with
  |some k,some ks=>some (k::ks)
  |_,_=>none
def nT (ks:List (List Key)):Nat:=(Tab.fstT (fun i=>ks.getD i []) ks.length).length
theorem WI {α:Type} [DecidableEq α] (val:Nat->α): ∀i,(Tab.fstT val i).length<=i
 |0=>aae _
 |i+1=>by
  have:=WI val i;unfold Tab.fstT;split
  · omega
  · rw [aaE];simp;omega
theorem XD {α:Type} [DecidableEq α] (val:Nat->α): ∀i x,x∈Tab.fstT val i↔ ∃j,j<i/\val j=x
 |0,x=>by simp [Tab.fstT]
 |i+1,x=>by
  have ih:=XD val i
  have h1:x∈Tab.fstT val (i+1)↔x∈Tab.fstT val i\/x=val i:=by
    rw [Tab.fstT]
    by_cases h:val i∈Tab.fstT val i
    · rw [if_pos h];exact ⟨.inl,fun z=>z.elim id fun e=>e▸h⟩
    · rw [if_neg h];simp
  rw [h1,ih]
  constructor
  · rintro (⟨j,a,b⟩|rfl)
    · exact ⟨j,by omega,b⟩
    · exact ⟨i,by omega,rfl⟩
  · rintro ⟨j,a,rfl⟩
    by_cases e:j=i
    · subst e;exact .inr rfl
    · exact .inl ⟨j,by omega,rfl⟩
def kG {ks:List (List Key)} (h:ks.Nodup):nT ks=ks.length:=by
 unfold nT
 suffices hs: ∀i,i<=ks.length->(Tab.fstT (fun i=>ks.getD i []) i).length=i from hs _ (aae _)
 intro i
 induction i with
 |zero=>intro _;rfl
 |succ i ih=>
  intro hi
  have hn:ks.getD i []∉Tab.fstT (fun i=>ks.getD i []) i:=fun z=>by
   obtain ⟨j,a,b⟩:=(XD _ _ _).mp z;rw [acj,acj,aac (by omega),aac (by omega)] at b;have:=(aeL h).mp b;omega
  rw [Tab.fstT,if_neg hn,aaE,ih (by omega)];rfl
def KyV (H:Hp) (x:V) (k:List Key):Prop:= ∃b,x= .ref b/\H b=some (.tup (k.map kV))
theorem vW {K:aaa} {A:Wb} {H:Hp}: ∀ {vs:List V} {ds:List D} {ks:List (List Key)},Reps K A H vs ds->tksD ds=some ks->F2 (KyV H) vs ks
 |_,_,ks,.nil,h=>by cases h;exact .nil
 |_,_,ks,.cons (d:=d) (ds:=ds) r t,h=>by
  unfold tksD at h
  cases e1:keyT d with
  |none=>rw [e1] at h;cases h
  |some k=>
   cases e2:tksD ds with
   |none=>rw [e1,e2] at h;cases h
   |some r'=>
    rw [e1,e2] at h;cases h;exact .cons (xP r e1) (vW t e2)
def LenO (o:Obj) (n:Nat):Prop:=o.ExactSet/\ ∃(es:Array (Int×Value)) (ep:Nat) (t:abP),o.data= .set es ep t/\t.fits es.size=true/\es.size=n/\n<=76
section
variable {X:Cx}
theorem Vr {pins:List (Addr×Obj)} {σ:L2.St} {H:Hp} {s:aah} (I:Inv X pins σ H s): ∀ {ys:List V} {its:List Value} {ks:List (List Key)},Vals ys its->F2 (KyV H) ys ks-> ∀(i:Nat) v,its[i]?=some v-> ∃b,v= .ref b/\abt (jF X.prog X.w) s.heap (ks.getD i []) b
 |_,_,_,.nil,.nil,i,v,h=>by simp at h
 |_,_,_,.cons r rs,.cons x xs,0,v,h=>by
  obtain ⟨b,rfl,hb⟩:=x;simp at h;subst h;cases r;exact ⟨b,rfl,JR I.hok hb⟩
 |_,_,_,.cons r rs,.cons x xs,i+1,v,h=>by
  simpa using Vr I rs xs i v (by simpa using h)
def UH (hc:X.calm=true) (hu:X.A.units+200<cLine):CallR X (.type "set") (fun xs H Q=> ∃p us ks,xs=[.ref p]/\SqL X.K H p us/\F2 (KyV H) us ks/\ks.length<=76/\ ∀l o,H l=none->LenO o (nT ks)->Q (.ref l) (upd H l (.frz o (.own l)))):=by
 intro pins s σ H xs us Q I r ⟨p,vs,ks,ex,hq,hk,hz,q⟩;subst ex;obtain ⟨u,rfl,ru⟩:=yo r;cases ru;obtain ⟨its,rv,pl,_⟩:=I.list hq;have hlen:its.toArray.size=ks.length:=by rw [aag,←rv.length,hk.length]
 refine Tab.call_setT (by omega) (I.ok.hd hc) pl.isList (fun i v h=>Vr I rv hk i v (by simpa using h)) (fun i hi=>adt (WI _ i) (by omega)) fun h' tk hS hkp=>?_
 have hl:=I.hok.fresh (aae _);rw [hlen] at hS;obtain ⟨o,es,ep,t,m,kp,ho,hex,hd,T,S,he,hkk,pm,nd⟩:=hS
 have hsz:es.size=nT ks:=by
  rw [←aaD,he,aak];have:=pm.length_eq;rw [aak] at this;rw [this];rfl
 have hn:nT ks<=76:=aaF (WI _ _) hz;exact ⟨.ref s.heap.objs.size,_,I.laid (fun b o e=>hkp b o (aas e) e) (aae _) (show ObjOk X.prog X.w _ h' _ (.frz o (.own _)) from ⟨ho,o,ho⟩),rfl,q _ o hl ⟨hex,es,ep,t,hd,T.fits S.le.1,hsz,hn⟩⟩
def UI:CallR X (.builtin "len") (fun xs H Q=> ∃a b o n,xs=[.ref a]/\H a=some (.frz o (.own b))/\LenO o n/\Q (.int n) H):=by
 intro pins s σ H xs us Q I r ⟨a,b,o,n,ex,ha,⟨hx,es,ep,t,hd,hf,hn,h76⟩,q⟩;subst ex;obtain ⟨u,rfl,ru⟩:=yo r;cases ru;obtain ⟨ho,_⟩:=(show ObjOk X.prog X.w H s.heap a (.frz o (.own b)) from I.hok a _ ha)
 subst hn;exact call_len_set ho hx hd hf (by omega) ⟨.int es.size,H,I.tok _,⟨_,rfl⟩,q⟩
def Xq:D->Res D
 | .lst ds=>match tksD ds with
  |some ks=>must (ks.length<=76) (.ok (.int (nT ks)))
  |none=> .stuck
 |_=> .stuck
def YB {a d:D} (h:Xq a= .ok d): ∃ds ks,a= .lst ds/\tksD ds=some ks/\ks.length<=76/\d= .int (nT ks):=by
 unfold Xq at h
 split at h
 · rename_i ds
   split at h
   · rename_i ks e;obtain ⟨h1,h2⟩:=jn h;cases h2;exact ⟨ds,ks,rfl,e,h1,rfl⟩
   · cases h
 · cases h
def kM (f:T0):Sl->Res D:=fun env=>f env>>=Xq
variable {l1:Lv} {e1:Expr} {f1:T0} {p1 p3 q1 q3:Pos}
def Uw (hc:X.calm=true) (hu:X.A.units+200<cLine) (h1:DE X l1 e1 f1) (hgl:Gl X "len") (hml:X.mg "len" =none) (hgs:Gl X "set") (hms:X.mg "set" =none)
   (he0:aao [.Call (.Name "set" p1) [e1] [] q1] X.env=(false,eval (.Call (.Name "set" p1) [e1] [] q1) X.env)::aao [] X.env:=by exact jp rfl)
   (he1:aao [e1] X.env=(false,eval e1 X.env)::aao [] X.env:=by exact jp rfl):
   DE X .b (.Call (.Name "len" p3) [.Call (.Name "set" p1) [e1] [] q1] [] q3) (kM f1):=by
 with_unfolding_all exact (
  PE.imp (yy UI hgl hml rfl (zf (yO (UH hc hu) hgs hms rfl (zf h1 xl he1) (by decide) (by decide) he1 rfl) xl he0) (by decide) (by decide) he0 rfl) fun σ H Q ⟨G,H0,env,d,k,ef,q⟩=>by
   obtain ⟨a,c1,ef⟩:=jd ef;obtain ⟨ds,ks,rfl,e1,e2,rfl⟩:=YB ef;refine ⟨G,H0,env,_,k,c1,fun x1 H1 s1 r1 _=>?_⟩;obtain ⟨p,xs,rfl,hp,_,rs⟩:=(r1.weak Lv.weak_b).lstE;refine ⟨p,xs,ks,rfl,.inl (.inl hp),vW rs e1,e2,fun l o hl hO=>?_⟩
   exact ⟨l,l,o,_,rfl,jt,hO,q _ _ (s1.trans (Same.upd hl)) (.int _) trivial⟩)
end
section
variable {X:Cx} {K:aaa}
def jch:R2:=fun x y H Q=> ∃a kvs b k,y= .ref a/\H a=some (.dT kvs)/\x= .ref b/\H b=some (.tup (k.map kV))/\Q (.bl (!(valV kvs k).isSome)) H
def jaF (hu:X.A.units+1<cLine):OpR X (aa9 .NotIn) jch:=by
 intro pins s σ H x y v u Q I rx ry ⟨a,kvs,b,k,ey,ha,ex,hb,q⟩;subst ey;subst ex;obtain rfl:u=aaK a:=ry;exact jbw hu I (DGet.t ha hb) rx fun s' I'=>⟨.bl _,H,I',rfl,q⟩
def ninT:D->D->Res D
 |kd,.dit ks _=>match keyT kd with
  |some k=> .ok (.bl (!hasT ks k))
  |none=> .stuck
 |_,_=> .stuck
def jaM:OpS K jch ninT:=by
 intro x y H a b d Q ra rb e q;unfold ninT at e
 split at e
 · obtain ⟨p,kvs,rfl,hp,_,rfl,r⟩:=rb.ditE
   split at e
   · rename_i k hk;cases e;obtain ⟨b',rfl,hb⟩:=xP ra hk;refine ⟨p,kvs,b',k,rfl,hp,rfl,hb,?_⟩;rw [←J4,X5];exact q _ (jeX _)
   · cases e
 · cases e
def valT (ks:List (List Key)) (ds:List D) (k:List Key):Option D:=((ks.zip ds).find? fun p=>decide (p.1=k)).map (·.2)
theorem Xa {A:Wb} {H:Hp}: ∀ {kvs:List (List Key×V)} {ds:List D} (k:List Key) {d:D},Reps K A H (kvs.map (·.2)) ds->valT (kvs.map (·.1)) ds k=some d-> ∃v,valV kvs k=some v/\Rep K A H v d
 | [],ds,k,d,r,h=>by simp [valT] at h
 | (k',v)::kvs,ds,k,d,r,h=>by
  cases r with
  |cons r1 r2=>
   by_cases hk:k'=k
   · subst hk;simp [valT] at h;subst h;exact ⟨v,by simp [valV],r1⟩
   · obtain ⟨w,h1,h2⟩:=Xa k r2 (by simpa [valT,hk] using h);exact ⟨w,by simpa [valV,hk] using h1,h2⟩
def jci:R2:=fun x y H Q=> ∃a kvs b k v,x= .ref a/\H a=some (.dT kvs)/\y= .ref b/\H b=some (.tup (k.map kV))/\valV kvs k=some v/\Q v H
def kP (hu:X.A.units+1<cLine):IxR X jci:=by
 intro value slice pins s σ H x y v u Q I rx ry h hs;obtain ⟨a,kvs,b,k,z,rfl,ha,rfl,hb,hv,q⟩:=h;obtain rfl:v=aaK a:=rx;have g:DGet H a (.ref b) (some z):=by rw [←hv];exact DGet.t ha hb
 exact tail_any (Jf I g) ac4.lookup (ZM hu I g ry fun w' s' I' rw'=>⟨z,H,I',rw',q⟩) hs
def getT:D->D->Res D
 | .dit ks ds,kd=>match keyT kd with
  |some k=>match valT ks ds k with
   |some d=> .ok d
   |none=> .stuck
  |none=> .stuck
 |_,_=> .stuck
def jaJ {A:Wb} {x y:V} {H:Hp} {a b d:D} {Q:VK} (ra:Rep K A H x a) (rb:Rep K Any H y b) (h:getT a b= .ok d) (q: ∀v,Rep K A H v d->Q v H):jci x y H Q:=by
 unfold getT at h
 split at h
 · split at h
   · rename_i k hk
     split at h
     · rename_i d' hd;cases h;obtain ⟨a,kvs,rfl,ha,_,rfl,r⟩:=ra.ditE;obtain ⟨v,h1,h2⟩:=Xa k r.low hd;obtain ⟨b',rfl,hb⟩:=xP rb hk;exact ⟨a,kvs,b',k,v,rfl,ha,rfl,hb,h1,q v h2⟩
     · cases h
   · cases h
 · cases h
variable {a b:Expr} {f1 f2:T0} {l2:Lv} {pos p:Pos}
def Uy (hu:X.A.units+1<cLine) (ha:DE X .s a f1) (hb:DE X l2 b f2) (hs:QW b:=by intro _ _;rfl):DE X .s (.Subscript a b pos) (two f1 f2 getT):=by
 with_unfolding_all exact (
  PE.imp (jaA (kP hu) ha hb hs) fun σ H Q ⟨G,H0,env,d,k,ef,q⟩=>by
   obtain ⟨a',e1,ef⟩:=jd ef;obtain ⟨b',e2,e3⟩:=jd ef;refine ⟨G,H0,env,a',k,e1,fun x H1 s1 r1 _=>⟨G,H0,env,b',k.grow s1,e2,fun y H2 s2 r2 _=>?_⟩⟩
   exact jaJ (r1.grow s2) (r2.weak Lv.weak_b) e3 fun v r3=>q v H2 (s1.trans s2) r3 trivial)
end
def jdC {P:aaL} {w:World} {K:aaa} {mg:W9} {base:Heap} {c m q:Str} {st:Stmt} {C:Addr} {ps:List Str} {k:Nat} (fr:Bool) (d:Dm K C m q st ps) (hC:aaw K aar c=some (some (.ref C))/\Cls K C):AvM P w K mg base k c m ps fr (fun _=> .stuck):=by
 obtain ⟨f,fd,F,me,B⟩:=d;exact ⟨C,f,fd,⟨fun vs H Q E ⟨B,ds,d,hl,_⟩=>hl,fun A outer s H args us vs Q E _ _ _ _ ⟨B,ds,d,hl,rs,eF,_⟩=>by cases eF⟩,hC.1,hC.2,me,B⟩
def repL:D->D->Res D
 | .lst ds,.int k=>must (-(2^63)<=k/\k<2^63/\ds.length*k.toNat<=aai) (.ok (.lst (aal k.toNat ds).flatten))
 |_,_=> .stuck
def jcN {K:aaa}:OpD K rRep repL:=by
 intro A x y H a b d Q ra rb e q;unfold repL at e
 split at e
 · obtain ⟨⟨h2,h3,h5⟩,e2⟩:=jn e;cases e2;cases rb.intE;obtain ⟨l,xs,rfl,hl,_,rx⟩:=ra.lstE;refine ⟨l,_,xs,rfl,rfl,hl,h2,h3,by rw [rx.length];exact h5,fun p hp=>q _ _ (Same.upd hp) ?_ (jW (Same.refl H) hp)⟩;exact .lst jt (.inl hp) (((rx.low.rep _).laid hp).weak fun c z=>⟨.inr z.1,z.2⟩)
 · cases e
theorem tk6 {x q:Str} {st:Stmt} {p p2 p3 p4 p5 p6:Str} (h: ∀a b c d e f,Tk x q st [a,b,c,d,e,f] [p,p2,p3,p4,p5,p6]:=by intro _ _ _ _ _ _ _ _ _ _ _ _;rfl): ∀us:List Value,us.length=[p,p2,p3,p4,p5,p6].length->Tk x q st us [p,p2,p3,p4,p5,p6]
 | [a,b,c,d,e,f],_=>h a b c d e f
end M
namespace L2
open PySem PySem.Spec PyProof.Rows
section
variable {X:Cx} {a b:Expr} {rest:List Expr} {ta tb:TE} {pos:Pos}
def tOrG (K:aaa) (ta tb:TE):TE:=fun σ H Q=>ta σ H fun x H1=> ∃c,TruV K x H1 c/\if c=true then Q x H1 else tb σ H1 Q
def jcy (ha:PE X a ta) (hb:PE X (.BoolOp .Or (b::rest) pos) tb):PE X (.BoolOp .Or (a::b::rest) pos) (tOrG X.K ta tb):=by
 intro pins s σ H Q I h;refine BoolOp_or (thn (ha pins s σ H _ I h) fun v s1 ⟨x,H1,I1,r1,c,tv,q1⟩=>?_);refine thn (vT pins s1 σ H1 x v (fun d H2=>d=c/\H2=H1) I1 r1 ⟨c,tv,rfl,rfl⟩) fun d s2 ⟨H2,I2,e1,e2⟩=>?_
 subst e1 e2
 cases d with
 |true=>exact ⟨x,H2,I2,r1,q1⟩
 |false=>exact hb pins s2 σ H2 Q I2 q1
def jdT (B:List M.NK) (Φ:M.NK->Option M.NK->Prop):TE:=fun _ H Q=>B.length<aai/\ ∀p,H p=none->Q (.ref p) (upd H p (.memo B Φ))
def jax {B:List M.NK} {Φ:M.NK->Option M.NK->Prop}:PE X (.Dict [] [] pos) (jdT B Φ):=fun pins s σ H Q I ⟨hz,h⟩=>
 wpAny_Dict_empty ⟨.ref s.heap.objs.size,_,I.laid (a:=s.heap.objs.size) (o:= .memo B Φ) (t':=s.toks) (fun _ _ q=>aad _ q) (aae _)
  ⟨hz,beq_eq_false_iff_ne.mpr (acK (aaJ I.big)),[],(fun _ z=>by cases z),_, #[],0,aan _ rfl,⟨rfl,rfl,rfl⟩,rfl,rfl,adL⟩,rfl,h _ (I.hok.fresh (aae _))⟩
end
end L2
namespace M
open PySem PySem.Spec L2
open PyProof.Rows hiding St
mutual
def keyN:D->Option NK
 | .int i=>some (.int i)
 | .str x=>some (.str x)
 | .tup ds=>match keyNs ds with
  |some l=>some (.tup l)
  |none=>none
 | .non=>none
 | .bl _=>none
 | .lst _=>none
 | .scr _=>none
 | .dic _ _=>none
 | .dit _ _=>none
 | .exn _=>none
 | .fdc _ _=>none
 | .hdc _ _=>none
 | .obj _ _ _=>none
 | .mem _ _=>none
def keyNs:List D->Option (List NK)
 | []=>some []
 |d::ds=>match keyN d,keyNs ds with
  |some k,some l=>some (k::l)
  |_,_=>none
end
mutual
def NK.short:NK->Bool
 | .int _=>true
 | .str x=>decide (x.length<=aai)
 | .tup l=>NK.shorts l
def NK.shorts:List NK->Bool
 | []=>true
 |k::l=>NK.short k&&NK.shorts l
end
def YC {d:D} {ds:List D} {l:List NK} (h:keyNs (d::ds)=some l): ∃k r,l=k::r/\keyN d=some k/\keyNs ds=some r:=by
 simp only [keyNs] at h
 split at h
 · rename_i k r e1 e2;cases h;exact ⟨k,r,rfl,e1,e2⟩
 · cases h
section
variable {K:aaa} {H:Hp}
def Xu (d:D): ∀k,keyN d=some k->d.imm=true/\(∀A v,Rep K A H v d->NkH H k v)/\(k.short=true-> ∀A v,NkH H k v->Rep K A H v d):=by
 refine D.ind (P:=fun d=> ∀k,keyN d=some k->d.imm=true/\(∀A v,Rep K A H v d->NkH H k v)/\(k.short=true-> ∀A v,NkH H k v->Rep K A H v d)) ?_ ?_ ?_ ?_ ?_ ?_ ?_ ⟨?_,?_,?_,?_,?_,?_,?_⟩ d
 case refine_3=>
  intro i k h;simp only [keyN,ab7] at h;subst h;exact ⟨rfl,fun A v r=>by simp only [NkH];exact r.intE,fun _ A v x=>by simp only [NkH] at x;subst x;exact .int i⟩
 case refine_4=>
  intro z k h;simp only [keyN,ab7] at h;subst h;exact ⟨rfl,fun A v r=>by simp only [NkH];exact r.strE.1,fun s A v x=>by simp only [NkH] at x;subst x;exact .str z (by simpa [NK.short] using s)⟩
 case refine_5=>
  intro ds ih k h
  have go: ∀(ds:List D) (l:List NK),(∀d∈ds,∀k,keyN d=some k->d.imm=true/\(∀A v,Rep K A H v d->NkH H k v)/\(k.short=true-> ∀A v,NkH H k v->Rep K A H v d))->keyNs ds=some l->
      D.imms ds=true/\(∀A vs,Reps K A H vs ds->NkHs H l vs)/\(NK.shorts l=true-> ∀A vs,NkHs H l vs->Reps K A H vs ds):=by
    intro ds
    induction ds with
    |nil=>
      intro l _ h;simp only [keyNs,ab7] at h;subst h;exact ⟨rfl,fun A vs r=>by cases r;simp only [NkHs],fun _ A vs x=>by simp only [NkHs] at x;subst x;exact .nil⟩
    |cons d ds ihl=>
      intro l f h;obtain ⟨k,r,rfl,e1,e2⟩:=YC h;obtain ⟨a1,a2,a3⟩:=f d aam k e1;obtain ⟨b1,b2,b3⟩:=ihl r (fun q hq=>f q (aaj _ hq)) e2;refine ⟨by simp [D.imms,a1,b1],fun A vs r=>?_,fun s A vs x=>?_⟩
      · cases r with
        |cons r1 r2=>simp only [NkHs];exact ⟨_,_,rfl,a2 _ _ r1,b2 _ _ r2⟩
      · simp only [NkHs] at x;simp only [NK.shorts,aax] at s;obtain ⟨u,us,rfl,h1,h2⟩:=x;exact .cons (a3 s.1 A u h1) (b3 s.2 A us h2)
  simp only [keyN] at h
  split at h
  · rename_i l e;cases h;obtain ⟨b1,b2,b3⟩:=go ds l ih e;refine ⟨by simp only [D.imm];exact b1,fun A v r=>?_,fun s A v x=>?_⟩
    · obtain ⟨a,xs,rfl,ha,rs⟩:=r.tupE;simp only [NkH];exact ⟨a,xs,rfl,ha,b2 _ _ rs⟩
    · simp only [NkH] at x;obtain ⟨a,xs,rfl,ha,y⟩:=x;exact .tup ha (b3 (by simpa only [NK.short] using s) A xs y)
  · cases h
 all_goals
  intros
  rename_i h;simp [keyN] at h
def nvN:D->Option (Option NK)
 | .non=>some none
 |d=>(keyN d).map some
def nvS:Option NK->Bool
 |none=>true
 |some k=>k.short
def Vb {d:D} {nv:Option NK} (h:nvN d=some nv):d.imm=true/\(∀A v,Rep K A H v d->NvH H nv v)/\(nvS nv=true-> ∀A v,NvH H nv v->Rep K A H v d):=by
 by_cases e:d= .non
 · subst e;simp only [nvN,ab7] at h;subst h;exact ⟨rfl,fun A v r=>r.nonE,fun _ A v x=>by cases (show v= .non from x);exact .non⟩
 · have h':(keyN d).map some=some nv:=by
    cases d<;>first|exact h|exact (e rfl).elim
   obtain ⟨k,e1,rfl⟩:=abr.mp h';exact Xu d k e1
noncomputable def memo1 (m kd d:D):Res Out:=match m with
 | .mem B Φ=>match keyN kd,nvN d with
  |some (.tup l),some nv=> @must _ (NK.tup l∈B/\(NK.tup l).dep<=8/\nvS nv=true/\ ∀z,Φ (.tup l) z↔z=nv) (abN _) (.ok (.rt true d))
  |_,_=> .stuck
 |_=> .stuck
def Vh {m kd d:D} {o:Out} (h:memo1 m kd d= .ok o): ∃B Φ l nv,m= .mem B Φ/\keyN kd=some (.tup l)/\nvN d=some nv/\NK.tup l∈B/\(NK.tup l).dep<=8/\nvS nv=true/\(∀z,Φ (.tup l) z↔z=nv)/\o= .rt true d:=by
 unfold memo1 at h
 split at h
 · split at h
   · rename_i B Φ _ _ l nv e1 e2;obtain ⟨⟨h1,h2,h3,h4⟩,h5⟩:= @jn _ _ (abN _) _ _ h;cases h5;exact ⟨B,Φ,l,nv,rfl,e1,e2,h1,h2,h3,h4,rfl⟩
   · cases h
 · cases h
def kJ {B:List NK} {Φ:NK->Option NK->Prop} {kd d:D} {l:List NK} {nv:Option NK} (h1:keyN kd=some (.tup l)) (h2:nvN d=some nv) (h3:NK.tup l∈B) (h4:(NK.tup l).dep<=8) (h5:nvS nv=true) (h6: ∀z,Φ (.tup l) z↔z=nv):memo1 (.mem B Φ) kd d= .ok (.rt true d):=by
 unfold memo1;rw [h1,h2];exact @jl _ _ (abN _) _ ⟨h3,h4,h5,h6⟩
noncomputable def memoO (c f:Str) (i j:Nat) (fe:T0):Sl->Res Out:=fun env=>rdS i env>>=fun o=>fldD c f o>>=fun m=>rdS j env>>=fun kd=>fe env>>=fun d=>memo1 m kd d
variable {X:Cx} {e a b:Expr} {l:Lv} {pos:Pos}
def vn {i j:Nat} {x y c f:Str} {p1 p2 p3 p4 p5 p6 p7 p8 p9 q1 q2 q3 q4 q5 q6:Pos} {fe:T0} (hu:X.A.units+200<cLine) (hf:FldN X.K c f) (he:DE X l e fe) (hNi:X.N[i]?=some x:=by rfl) (hNj:X.N[j]?=some y:=by rfl) (hvi:Vis X.env.scope x:=by first|exact abV rfl|exact abj (abV rfl)|exact abj (abj rfl)) (hvj:Vis X.env.scope y:=by first|exact abV rfl|exact abj (abV rfl)|exact abj (abj rfl))
   (hb1:aa4 (.Name x p2) f X.env (eval (.Name x p2) X.env)=eval (.Name x p2) X.env:=by rfl) (hb2:aa4 (.Name x p6) f X.env (eval (.Name x p6) X.env)=eval (.Name x p6) X.env:=by rfl) (hb3:aa4 (.Name x q1) f X.env (eval (.Name x q1) X.env)=eval (.Name x q1) X.env:=by rfl)
   (hm:acG .NotIn (.Attribute (.Name x p2) f p3)=false:=by rfl) (hs:abY e (some (.Subscript (.Attribute (.Name x p6) f p7) (.Name y p8) p9)) p5.line X.env=pure false:=by rfl)
   (hd:Ym x:=by decide) (hcd:Yl x:=by decide) (hdy:Ym y:=by decide) (hcdy:Yl y:=by decide):
   DSs X [.If (.Compare (.Name y p1) [.NotIn] [.Attribute (.Name x p2) f p3] p4) [.Assign [.Subscript (.Attribute (.Name x p6) f p7) (.Name y p8) p9] e p5] [] q6,.Return (some (.Subscript (.Attribute (.Name x q1) f q2) (.Name y q3) q4)) q5] (memoO c f i j fe):=by
 with_unfolding_all exact (PSs.imp (U8 (by omega) he hNi hvi hNj hvj hb1 hb2 hb3 hm hs hd hcd hdy hcdy) fun E σ H ⟨G,H0,env,o,k,ef,q⟩=>by
  obtain ⟨ob,e1,ef1⟩:=jd ef;obtain ⟨m,e2,ef2⟩:=jd ef1;obtain ⟨kd,e3,ef3⟩:=jd ef2;obtain ⟨d,e4,ef4⟩:=jd ef3;obtain ⟨ns,ds,rfl,e5⟩:=XE e2;obtain ⟨B,Φ,lk,nv,rfl,h1,h2,h3,h4,h5,h6,rfl⟩:=Vh ef4;obtain ⟨v,s1,r1⟩:=k.shr i _ (Qe e1);obtain ⟨ad,C,dx,fs,rfl,ha,_,hc,hn,rs⟩:=r1.objE;subst hn;obtain ⟨v',g1,g2⟩:=yE rs e5
  cases g2 with
  |mem hb _=>
   obtain ⟨w,s2,r2⟩:=k.shr j _ (Qe e3);have hk:=(Xu (K:=X.K) (H:=H) kd _ h1).2.1 _ _ r2
   have hw: ∃cc,w= .ref cc:=by
    simp only [NkH] at hk;obtain ⟨bb,vs,rfl,_⟩:=hk;exact ⟨bb,rfl⟩
   obtain ⟨cc,rfl⟩:=hw
   have fin: ∀H1,Same H H1-> ∀nv' v',Φ (.tup lk) nv'->NvH H1 nv' v'->E.rt v' H1:=fun H1 sm nv' v' hp hv=>by
    have:=(h6 nv').mp hp;subst this;have n:=Vb (K:=X.K) (H:=H1) h2;have r:=n.2.2 h5 G v' hv;exact q v' H1 (k.base.trans sm) r fun _=>WD (k.base.trans sm) r n.1
   refine ⟨ad,C,dx,_,cc,fs,.tup lk,B,Φ,s1,ha,(hf.at hc).1,(hf.at hc).2,g1,hb,s2,hk,h4,h3,fin H (Same.refl H),G,H0,env,d,k,e4,fun v1 H1 sm r3 _=>⟨sm,⟨nv,(Vb (K:=X.K) (H:=H1) h2).2.1 _ _ r3,(h6 nv).mpr rfl⟩,fin H1 sm⟩⟩)
def kg {α:Type} (c:Sl->α) (f:α->Sl->Res D):Sl->Res D:=fun env=>f (c env) env
def DE.pick {α:Type} {f:α->Sl->Res D} (c:Sl->α) (h: ∀p,DE X l e (f p)):DE X l e (kg c f):=by
 with_unfolding_all exact (fun pins s σ H Q I ⟨G,H0,env,d,k,ef,q⟩=>by
  exact (show PE X e (tE X.K l (f (c env))) from h (c env)) pins s σ H Q I ⟨G,H0,env,d,k,ef,q⟩)
def orV (f g:T0):Sl->Res D:=fun env=>f env>>=fun d=>tru d>>=fun b=>if b=true then .ok d else g env
def uH {b:Expr} {rest:List Expr} {f g:T0} (h1:DE X l a f) (h2:DE X l (.BoolOp .Or (b::rest) pos) g):DE X l (.BoolOp .Or (a::b::rest) pos) (orV f g):=by
 with_unfolding_all exact (PE.imp (jcy h1 h2) fun σ H Q ⟨G,H0,env,r,k,ef,q⟩=>by
  obtain ⟨d,e1,ef1⟩:=jd ef;obtain ⟨t,e2,ef2⟩:=jd ef1;refine ⟨G,H0,env,d,k,e1,fun v H' s rr nt=>⟨t,jbW rr e2,?_⟩⟩
  cases t with
  |true=>cases ef2;exact q v H' s rr nt
  |false=>exact ⟨G,H0,env,r,k.grow s,ef2,fun v H2 s2 r2 nt=>q v H2 (s.trans s2) r2 (Lv.Tgrow s nt)⟩)
def cM (p:List NK×(NK->Option NK->Prop)):Sl->Res D:=fun _=>must (p.1.length<aai) (.ok (.mem p.1 p.2))
def jbp (p:List NK×(NK->Option NK->Prop)):DE X .t (.Dict [] [] pos) (cM p):=by
 with_unfolding_all exact (PE.imp (jax (B:=p.1) (Φ:=p.2)) fun σ H Q ⟨G,H0,env,d,k,ef,q⟩=>by
  obtain ⟨hz,e⟩:=jn ef;cases e
  exact ⟨hz,fun p hp=>q _ _ (Same.upd hp) (.mem jt (k.new p hp)) (jW (Same.refl H) hp)⟩)
def Qk:OpR X (aa9 .IsNot) (fun x y H Q=> ∃a b,x= .bl a/\y= .bl b/\Q (.bl (!(a==b))) H):=by
 intro pins s σ H x y v u Q I rx ry ⟨a,b,ex,ey,q⟩;subst ex ey;cases rx;cases ry;exact wpAny_isNot_plain (by cases a<;>cases b<;>rfl) ⟨.bl _,H,I,by cases a<;>cases b<;>rfl,q⟩
def isnB:D->D->Res D
 | .bl a,.bl b=> .ok (.bl (!(a==b)))
 |_,_=> .stuck
def Qt:OpS K (fun x y H Q=> ∃a b,x= .bl a/\y= .bl b/\Q (.bl (!(a==b))) H) isnB:=by
 intro x y H a b d Q ra rb e q;unfold isnB at e
 split at e
 · cases e;cases ra.blE;cases rb.blE;exact ⟨_,_,rfl,rfl,q _ (jeX _)⟩
 · cases e
def Reps.eraseIdx {A:Wb} {H:Hp} {vs:List V} {ds:List D} (n:Nat) (r:Reps K A H vs ds):Reps K A H (vs.eraseIdx n) (ds.eraseIdx n):=by
 induction vs generalizing ds n with
 |nil=>cases r;exact .nil
 |cons v vs ih=>
  cases r with
  |cons r t=>
   cases n with
   |zero=>exact t
   |succ n=>exact .cons r (ih n t)
def popA (i j:Nat) (env:Sl) (ds es:List D):D->Res Out
 | .int z=>match es[z.toNat]? with
  |some y=>must ((0<=z/\z<2^63)/\i≠j/\ds.length<aai) (.ok (.nx ((env.set j (.own (.lst (es.eraseIdx z.toNat)))).set i (.own (.lst (ds++[y]))))))
  |none=> .stuck
 |_=> .stuck
def X4 (i j:Nat) (f:T0):Sl->Res Out:=fun env=>ownL i env>>=fun ds=>ownL j env>>=fun es=>f env>>=fun d=>popA i j env ds es d
def vv (i j:Nat) {x y:Str} {f:T0} {p p' apos apos' cpos cpos':Pos} (he:DE X l e f) (hN:X.N[i]?=some x:=by rfl) (hv:Vis X.env.scope x:=by first|exact abV rfl|exact abj (abV rfl)|exact abj (abj rfl))
   (hN':X.N[j]?=some y:=by rfl) (hv':Vis X.env.scope y:=by first|exact abV rfl|exact abj (abV rfl)|exact abj (abj rfl))
   (hd:Ym x:=by decide) (hcd:Yl x:=by decide) (hd':Ym y:=by decide) (hcd':Yl y:=by decide)
   (hbase:aa4 (.Name x p) "append" X.env (eval (.Name x p) X.env)=eval (.Name x p) X.env:=by rfl) (hbase':aa4 (.Name y p') "pop" X.env (eval (.Name y p') X.env)=eval (.Name y p') X.env:=by rfl)
   (hline:(apos.endLine==cpos.line)=true:=by rfl) (hline':(apos'.endLine==cpos'.line)=true:=by rfl)
   (hfew:((abw cpos' (aao [e] X.env)).all (fun x=>!x.1)&&(adr cpos' (acb [] X.env)).all (fun x=>x.1.isSome)
    &&decide ([e].length+([]:List acQ).length+(if ([]:List acQ).isEmpty then 0 else 1)<30))=true:=by exact wK rfl rfl)
   (hs:aao [e] X.env=(false,eval e X.env)::aao [] X.env:=by exact jp rfl) (hplain:(abw cpos' (aao [] X.env)).any (·.1)=false:=by exact jC rfl)
   (hfew2:((abw cpos (aao [.Call (.Attribute (.Name y p') "pop" apos') [e] [] cpos'] X.env)).all (fun x=>!x.1)&&(adr cpos (acb [] X.env)).all (fun x=>x.1.isSome)
    &&decide ([Expr.Call (.Attribute (.Name y p') "pop" apos') [e] [] cpos'].length+([]:List acQ).length+(if ([]:List acQ).isEmpty then 0 else 1)<30))=true:=by exact wK rfl rfl)
   (hs2:aao [.Call (.Attribute (.Name y p') "pop" apos') [e] [] cpos'] X.env=(false,eval (.Call (.Attribute (.Name y p') "pop" apos') [e] [] cpos') X.env)::aao [] X.env:=by exact jp rfl) (hplain2:(abw cpos (aao [] X.env)).any (·.1)=false:=by exact jC rfl)
   (hsw:abY (.Call (.Attribute (.Name x p) "append" apos) [.Call (.Attribute (.Name y p') "pop" apos') [e] [] cpos'] [] cpos) none pos.line X.env=pure false:=by rfl):
   DS X (.Expr (.Call (.Attribute (.Name x p) "append" apos) [.Call (.Attribute (.Name y p') "pop" apos') [e] [] cpos'] [] cpos) pos) (X4 i j f):=by
 with_unfolding_all exact (
  PS.imp (Qg (KL acH adB PySem.F.type_list_append yV (wn hN hv hd hcd) (zf (KL acH PySem.F.slot_list_pop PySem.F.type_list_pop kH (wn hN' hv' hd' hcd') (zf he xl hs) hbase' hfew hline' hs hplain) xl hs2) hbase hfew2 hline hs2 hplain2) hsw) fun E σ H ⟨G,H0,env,o,k,ef,q⟩=>by
   obtain ⟨ds,e1,ef1⟩:=jd ef;obtain ⟨es,e2,ef2⟩:=jd ef1;obtain ⟨d,e3,ef3⟩:=jd ef2;have hi:=zY e1;have hj:=zY e2;obtain ⟨a,xs,ha,hx,rs⟩:=zr k hi;obtain ⟨b,ys,hb,hy,rs'⟩:=zr k hj
   cases d with
   |int z=>
    simp only [popA] at ef3
    cases hg:es[z.toNat]? with
    |none=>rw [hg] at ef3;cases ef3
    |some w=>
     rw [hg] at ef3;obtain ⟨⟨⟨hz0,hz1⟩,hne,hz⟩,e5⟩:=jn ef3;cases e5;refine ⟨.ref a,ha,.inl ⟨rfl,xs,.of hx⟩,.ref b,hb,.inl ⟨rfl,ys,.of hy⟩,G,H0,env,.int z,k,e3,fun v H1 s1 r1 _=>?_⟩;cases r1.intE;obtain ⟨u,hu,ru⟩:=rs'.get hg;have hlt:z.toNat<ys.length:=(aaz.mp hu).1;have W:=(k.grow s1).write hj hb (s1 _ _ hy) ((rs'.grow s1).eraseIdx z.toNat);have hab:a≠b:=fun z=>hne (k.dis i j _ _ a hi hj ha (by rw [hb,z]))
     have hi':(env.set j (.own (.lst (es.eraseIdx z.toNat))))[i]?=some (.own (.lst ds)):=by rw [jq (acK hne)];exact hi
     obtain ⟨a',xs',ha',hx',rs2⟩:=zr W.1 hi';rw [ha] at ha';cases ha';have hxx:upd H1 b (.lst (ys.eraseIdx z.toNat)) a=some (.lst xs):=by rw [jH hab];exact s1 _ _ hx
     rw [hxx] at hx';cases hx';refine ⟨b,ys,z,z.toNat,u,rfl,rfl,s1 _ _ hy,by omega,hz1,PySem.StrLaws.seqIndex_nonneg hz0 (by omega),hu,a,xs,u,rfl,rfl,hxx,by rw [rs.length];exact hz,?_⟩;have W2:=W.1.write hi' ha hxx (rs2.append (.cons (W.2.rep (k.grow s1) (ru.grow s1)) .nil));exact q σ _ W2.1 ((W.2.trans W2.2).grow s1)
   |_=>cases ef3)
end
end M
namespace M
open PySem
inductive Tr where
 |bk (i:Nat)
 |nd (x:Str) (l:List Tr)
noncomputable instance:DecidableEq Tr:=fun _ _=>abN _
namespace Tr
def ind {P:Tr->Prop} (b: ∀i,P (.bk i)) (h: ∀x l,(∀t∈l,P t)->P (.nd x l)) (t:Tr):P t:=
 Tr.rec (motive_1:=P) (motive_2:=fun l=> ∀t∈l,P t) b h (fun _ z=>by cases z) (fun t l a b u hu=>by
  rcases aaq.mp hu with e|e
  · rw [e];exact a
  · exact b u e) t
def kids:Tr->List Tr
 |bk _=>[]
 |nd _ l=>l
def hd:Tr->Option (Str×Nat)
 |bk _=>none
 |nd x l=>some (x,l.length)
def hd_len {t:Tr} {a:Str×Nat} (h:t.hd=some a):a.2=t.kids.length:=by
 cases t with
 |bk i=>cases h
 |nd x l=>cases h;rfl
def len_eq {s t:Tr} (h:s.hd=t.hd):s.kids.length=t.kids.length:=by
 cases s with
 |bk i=>cases t with
  |bk j=>rfl
  |nd y m=>cases h
 |nd x l=>cases t with
  |bk j=>cases h
  |nd y m=>simp only [hd,ab7,Prod.mk.injEq] at h;exact h.2
def ext {s t:Tr} {a:Str×Nat} (h0:s.hd=some a) (h1:s.hd=t.hd) (h2:s.kids=t.kids):s=t:=by
 cases s with
 |bk i=>cases h0
 |nd x l=>cases t with
  |bk j=>cases h1
  |nd y m=>
   simp only [hd,kids,ab7,Prod.mk.injEq] at h1 h2;rw [h1.1,h2]
mutual
def sz:Tr->Nat
 |bk _=>1
 |nd _ l=>1+szs l
def szs:List Tr->Nat
 | []=>0
 |t::l=>sz t+szs l
end
theorem jb3: ∀ {l:List Tr} {p:Tr},p∈l->sz p<=szs l
 |t::l,p,h=>by
  simp only [szs];rcases aaq.mp h with e|e
  · rw [e];omega
  · have:=jb3 e;omega
def sz_kid {t p:Tr} (h:p∈t.kids):sz p<sz t:=by
 cases t with
 |bk i=>cases h
 |nd x l=>
  simp only [sz];have:=jb3 (show p∈l from h);omega
def sz_pos (t:Tr):0<sz t:=by cases t<;>simp only [sz]<;>omega
end Tr
noncomputable def fu:List Tr->List Tr->Nat
 |a::l,b::m=>if a=b then fu l m+1 else 0
 |_,_=>0
theorem QE: ∀ {l m:List Tr},l.length=m.length->l≠m-> ∃pre a b u v,l=pre++a::u/\m=pre++b::v/\a≠b/\fu l m=pre.length
 | [],[],_,h=>(h rfl).elim
 |a::l,b::m,hl,h=>by
  by_cases e:a=b
  · subst e;obtain ⟨pre,x,y,u,v,h1,h2,h3,h4⟩:=QE (l:=l) (m:=m) (by simpa using hl) (fun z=>h (by rw [z]));exact ⟨a::pre,x,y,u,v,by rw [h1];rfl,by rw [h2];rfl,h3,by simp only [fu,if_true,aau,h4]⟩
  · exact ⟨[],a,b,l,m,rfl,rfl,e,by simp only [fu,if_neg e,aca]⟩
def jet {pre u v:List Tr} {a b:Tr} (h:a≠b):fu (pre++a::u) (pre++b::v)=pre.length:=by
 induction pre with
 |nil=>simp only [aed,fu,if_neg h,aca]
 |cons c pre ih=>simp only [ade,fu,if_true,ih,aau]
inductive WR where
 |part (n:Nat)|head|row (n:Nat)
section
variable (rk:Str×Nat->Nat)
def rl (s t:Tr):Bool:=match s.hd,t.hd with
 |some a,some b=>decide (rk a<rk b)
 |_,_=>false
def yM {s t:Tr} (h:rl rk s t=true): ∃a b,s.hd=some a/\t.hd=some b/\rk a<rk b:=by
 unfold rl at h
 split at h
 · exact ⟨_,_,by assumption,by assumption,of_decide_eq_true h⟩
 · cases h
def jae {s t:Tr} {a b:Str×Nat} (h1:s.hd=some a) (h2:t.hd=some b) (h:rk a<rk b):rl rk s t=true:=by
 unfold rl;rw [h1,h2];exact decide_eq_true h
def jd2 {s t u:Tr} (h1:rl rk s t=true) (h2:rl rk t u=true):rl rk s u=true:=by
 obtain ⟨a,b,e1,e2,h⟩:=yM rk h1;obtain ⟨c,d,e3,e4,h'⟩:=yM rk h2;rw [e2] at e3;cases e3;exact jae rk e1 e4 (by omega)
def rl_l {s t u:Tr} (h1:s.hd=t.hd) (h2:rl rk t u=true):rl rk s u=true:=by
 unfold rl at h2 ⊢;rw [h1];exact h2
def rl_r {s t u:Tr} (h1:rl rk s t=true) (h2:t.hd=u.hd):rl rk s u=true:=by
 unfold rl at h1 ⊢;rw [←h2];exact h1
noncomputable def wrow (f:Tr->Tr->Bool) (s t:Tr):Option WR:=
 if s.hd=t.hd/\s≠t then
  match s.kids[fu s.kids t.kids]?,t.kids[fu s.kids t.kids]? with
  |some a,some b=>if (f a b&&(t.kids.drop (fu s.kids t.kids+1)).all (f s))=true then some (.row (fu s.kids t.kids)) else none
  |_,_=>none
 else none
noncomputable def whead (f:Tr->Tr->Bool) (s t:Tr):Option WR:=if rl rk s t=true/\t.kids.all (f s)=true then some .head else none
noncomputable def wpart (f:Tr->Tr->Bool) (s t:Tr):Option WR:=(s.kids.findIdx? fun p=>decide (p=t)||f p t).map .part
noncomputable def wbody (f:Tr->Tr->Bool) (s t:Tr):Option WR:=(wpart f s t).or ((whead rk f s t).or (wrow f s t))
noncomputable def wy:Nat->Tr->Tr->Option WR
 |0,_,_=>none
 |n+1,s,t=>wbody rk (fun a b=>(wy n a b).isSome) s t
def yH {f g:Tr->Tr->Bool} {s t:Tr} (h1: ∀p∈s.kids,f p t=g p t) (h2: ∀p∈t.kids,f s p=g s p) (h3: ∀p∈s.kids,∀q∈t.kids,f p q=g p q):wbody rk f s t=wbody rk g s t:=by
 have e1:wpart f s t=wpart g s t:=by
  unfold wpart;congr 1
  have: ∀l:List Tr,(∀p∈l,f p t=g p t)->(l.findIdx? fun p=>decide (p=t)||f p t)=l.findIdx? fun p=>decide (p=t)||g p t:=by
    intro l
    induction l with
    |nil=>intro _;rfl
    |cons a l ih=>intro h;rw [aeq,aeq,h a aam,ih fun p hp=>h p (aaj _ hp)]
  exact this _ h1
 have al: ∀l:List Tr,(∀p∈l,p∈t.kids)->l.all (f s)=l.all (g s):=by
  intro l
  induction l with
  |nil=>intro _;rfl
  |cons a l ih=>intro h;rw [acU,acU,h2 a (h a aam),ih fun p hp=>h p (aaj _ hp)]
 have e2:whead rk f s t=whead rk g s t:=by
  unfold whead;rw [al _ fun _ h=>h]
 have e3:wrow f s t=wrow g s t:=by
  unfold wrow
  split
  · cases ha:s.kids[fu s.kids t.kids]? with
    |none=>rfl
    |some a=>
     cases hb:t.kids[fu s.kids t.kids]? with
     |none=>rfl
     |some b=>
      simp only;rw [h3 a (aaN ha) b (aaN hb),al _ fun p hp=>ad2 hp]
  · rfl
 unfold wbody;rw [e1,e2,e3]
theorem xq: ∀(n m:Nat) (s t:Tr),s.sz+t.sz<=n->s.sz+t.sz<=m->wy rk n s t=wy rk m s t
 |0,m,s,t,h,_=>by have:=s.sz_pos;omega
 |n+1,0,s,t,_,h=>by have:=s.sz_pos;omega
 |n+1,m+1,s,t,h1,h2=>by
  show wbody rk _ s t=wbody rk _ s t;refine yH rk (fun p hp=>?_) (fun p hp=>?_) (fun p hp q hq=>?_)
  · have:=Tr.sz_kid hp;rw [xq n m p t (by omega) (by omega)]
  · have:=Tr.sz_kid hp;rw [xq n m s p (by omega) (by omega)]
  · have:=Tr.sz_kid hp;have:=Tr.sz_kid hq;rw [xq n m p q (by omega) (by omega)]
noncomputable def way (s t:Tr):Option WR:=wy rk (s.sz+t.sz) s t
def gt (s t:Tr):Prop:=(way rk s t).isSome=true
noncomputable def gtB (s t:Tr):Bool:=(way rk s t).isSome
def YZ (s t:Tr):way rk s t=wbody rk (gtB rk) s t:=by
 have:way rk s t=wy rk (s.sz+t.sz+1) s t:=xq rk _ _ s t (aae _) (by omega);rw [this];show wbody rk _ s t=_;refine yH rk (fun p hp=>?_) (fun p hp=>?_) (fun p hp q hq=>?_)
 · have:=Tr.sz_kid hp;show (wy rk _ p t).isSome=(wy rk _ p t).isSome;rw [xq rk (s.sz+t.sz) (p.sz+t.sz) p t (by omega) (by omega)]
 · have:=Tr.sz_kid hp;show (wy rk _ s p).isSome=(wy rk _ s p).isSome;rw [xq rk (s.sz+t.sz) (s.sz+p.sz) s p (by omega) (by omega)]
 · have:=Tr.sz_kid hp;have:=Tr.sz_kid hq;show (wy rk _ p q).isSome=(wy rk _ p q).isSome;rw [xq rk (s.sz+t.sz) (p.sz+q.sz) p q (by omega) (by omega)]
def zu (s t:Tr):gt rk s t↔(∃p∈s.kids,p=t\/gt rk p t)\/(rl rk s t=true/\ ∀p∈t.kids,gt rk s p)\/(s.hd=t.hd/\ ∃pre a b u v,s.kids=pre++a::u/\t.kids=pre++b::v/\a≠b/\gt rk a b/\ ∀p∈v,gt rk s p):=by
 have e:gt rk s t↔(wpart (gtB rk) s t).isSome=true\/(whead rk (gtB rk) s t).isSome=true\/(wrow (gtB rk) s t).isSome=true:=by
   unfold gt;rw [YZ];unfold wbody;rw [Option.isSome_or,Option.isSome_or,aeg,aeg]
 rw [e];refine or_congr ?_ (or_congr ?_ ?_)
 · unfold wpart;rw [aeB,List.findIdx?_isSome,adW];simp only [aeg,decide_eq_true_eq];rfl
 · unfold whead
   by_cases h:rl rk s t=true/\t.kids.all (gtB rk s)=true
   · rw [if_pos h];exact ⟨fun _=>⟨h.1,fun p hp=>aaW.mp h.2 p hp⟩,fun _=>rfl⟩
   · rw [if_neg h];exact ⟨fun z=>(by cases z),fun z=>(h ⟨z.1,aaW.mpr z.2⟩).elim⟩
 · unfold wrow
   by_cases h:s.hd=t.hd/\s≠t
   · rw [if_pos h];have hl:s.kids.length=t.kids.length:=Tr.len_eq h.1
     cases hb:s.hd with
     |none=>
       have ek:s.kids=[]:=by
         cases s with
         |bk i=>rfl
         |nd x l=>cases hb
       rw [ek];simp only [List.getElem?_nil];refine ⟨fun z=>(by cases z),?_⟩;rintro ⟨_,pre,a,b,u,v,g1,_⟩;simp at g1
     |some hh=>
     rw [←hb];obtain ⟨pre,a,b,u,v,h1,h2,h3,h4⟩:=QE hl fun z=>h.2 (Tr.ext hb h.1 z)
     have ea:s.kids[fu s.kids t.kids]?=some a:=by rw [h4,h1];simp
     have eb:t.kids[fu s.kids t.kids]?=some b:=by rw [h4,h2];simp
     have ed:t.kids.drop (fu s.kids t.kids+1)=v:=by rw [h4,h2];simp
     rw [ea,eb,ed];simp only
     constructor
     · intro z
       split at z
       · rename_i hh;rw [aax] at hh;exact ⟨h.1,pre,a,b,u,v,h1,h2,h3,hh.1,fun p hp=>aaW.mp hh.2 p hp⟩
       · cases z
     · rintro ⟨_,pre',a',b',u',v',g1,g2,g3,g4,g5⟩;have hp:pre'.length=pre.length:=by rw [←h4,g1,g2,jet g3]
       rw [h1] at g1;rw [h2] at g2;obtain ⟨_,g1'⟩:=List.append_inj g1 hp.symm;obtain ⟨_,g2'⟩:=List.append_inj g2 hp.symm;cases g1';cases g2';rw [if_pos]
       · rfl
       · rw [aax];exact ⟨g4,aaW.mpr g5⟩
   · rw [if_neg h];refine ⟨fun z=>(by cases z),fun ⟨z1,pre,a,b,u,v,h1,h2,h3,_⟩=>(h ⟨z1,fun e=>h3 ?_⟩).elim⟩;rw [e,h2] at h1;have:=adz h1;cases this;rfl
variable {rk}
def zF {s t p:Tr} (h:p∈s.kids) (h2:p=t\/gt rk p t):gt rk s t:=(zu rk s t).mpr (.inl ⟨p,h,h2⟩)
def jdj {i:Nat} {t:Tr} (h:gt rk (.bk i) t):False:=by
 rcases (zu rk _ t).mp h with ⟨p,hp,_⟩| ⟨h1,_⟩| ⟨_,pre,a,b,u,v,h1,_⟩
 · cases hp
 · obtain ⟨a,b,e,_⟩:=yM rk h1;cases e
 · simp [Tr.kids] at h1
def yD {q:Tr} (s:Tr): ∀t,gt rk s t->q∈t.kids->gt rk s q:=by
 induction s using Tr.ind with
 |b i=>intro t h;exact (jdj h).elim
 |h x l ih=>
  intro t h hq;rcases (zu rk _ t).mp h with ⟨p,hp,e|e⟩| ⟨_,h2⟩| ⟨_,pre,a,b,u,v,h1,h2,_,h4,h5⟩
  · subst e;exact zF hp (.inr (zF hq (.inl rfl)))
  · exact zF hp (.inr (ih p hp t e hq))
  · exact h2 q hq
  · rw [h2] at hq;rcases aa8.mp hq with z|z
    · exact zF (by rw [h1];exact acx _ z) (.inl rfl)
    · rcases aaq.mp z with z|z
      · subst z;exact zF (p:=a) (by rw [h1];simp) (.inr h4)
      · exact h5 q z
def ZC (s:Tr): ¬gt rk s s:=by
 induction s using Tr.ind with
 |b i=>exact jdj
 |h x l ih=>
  intro h;rcases (zu rk _ _).mp h with ⟨p,hp,e|e⟩| ⟨h1,_⟩| ⟨_,pre,a,b,u,v,h1,h2,h3,_⟩
  · have:=Tr.sz_kid hp;rw [e] at this;omega
  · exact ih p hp (yD p _ e hp)
  · obtain ⟨a,b,e1,e2,h⟩:=yM rk h1;rw [e1] at e2;cases e2;omega
  · rw [h1] at h2;have:=adz h2;cases this;exact h3 rfl
theorem xf: ∀(n:Nat) (s t u:Tr),s.sz+t.sz+u.sz<=n->gt rk s t->gt rk t u->gt rk s u
 |0,s,t,u,h,_,_=>by have:=s.sz_pos;omega
 |n+1,s,t,u,hn,h1,h2=>by
  have hu: ∀q∈u.kids,gt rk s q:=fun q hq=>by
    have:=Tr.sz_kid hq;exact xf n s t q (by omega) h1 (yD t u h2 hq)
  rcases (zu rk s t).mp h1 with ⟨p,hp,e|e⟩|H1
  · subst e;exact zF hp (.inr h2)
  · have:=Tr.sz_kid hp;exact zF hp (.inr (xf n p t u (by omega) e h2))
  · rcases (zu rk t u).mp h2 with ⟨p,hp,e|e⟩|H2
    · subst e;exact yD s t h1 hp
    · have:=Tr.sz_kid hp;exact xf n s p u (by omega) (yD s t h1 hp) e
    · rcases H1 with ⟨r1,_⟩| ⟨r1,pre,a,b,x,y,k1,k2,k3,k4,k5⟩
      · rcases H2 with ⟨r2,_⟩| ⟨r2,_⟩
        · exact (zu rk s u).mpr (.inr (.inl ⟨jd2 rk r1 r2,hu⟩))
        · exact (zu rk s u).mpr (.inr (.inl ⟨rl_r rk r1 r2,hu⟩))
      · rcases H2 with ⟨r2,_⟩| ⟨r2,pre',a',b',x',y',m1,m2,m3,m4,m5⟩
        · exact (zu rk s u).mpr (.inr (.inl ⟨rl_l rk r1 r2,hu⟩))
        · have key: ∃pre a b x y,s.kids=pre++a::x/\u.kids=pre++b::y/\gt rk a b:=by
           have hh:pre++b::y=pre'++a'::x':=k2.symm.trans m1;rcases List.append_eq_append_iff.mp hh with ⟨w,z1,z2⟩| ⟨w,z1,z2⟩
           · cases w with
             |nil=>
              simp only [abe] at z1;simp only [aed] at z2;cases z2;subst z1;have ha:a∈s.kids:=by rw [k1];simp
              have hb:b∈t.kids:=by rw [k2];simp
              have hc:b'∈u.kids:=by rw [m2];simp
              have:=Tr.sz_kid ha;have:=Tr.sz_kid hb;have:=Tr.sz_kid hc;exact ⟨_,a,b',x,y',k1,m2,xf n a b b' (by omega) k4 m4⟩
             |cons c w=>
              simp only [ade,abf] at z2;obtain ⟨z2,z3⟩:=z2;subst z2;refine ⟨pre,a,b,x,w++b'::y',k1,?_,k4⟩;rw [m2,z1];simp
           · cases w with
             |nil=>
              simp only [abe] at z1;simp only [aed] at z2;cases z2;subst z1;have ha:a∈s.kids:=by rw [k1];simp
              have hb:b∈t.kids:=by rw [k2];simp
              have hc:b'∈u.kids:=by rw [m2];simp
              have:=Tr.sz_kid ha;have:=Tr.sz_kid hb;have:=Tr.sz_kid hc;exact ⟨_,a,b',x,y',k1,m2,xf n a b b' (by omega) k4 m4⟩
             |cons c w=>
              simp only [ade,abf] at z2;obtain ⟨z2,z3⟩:=z2;subst z2;refine ⟨pre',a',b',w++a::x,y',?_,m2,m4⟩;rw [k1,z1];simp
          obtain ⟨pre,a,b,x,y,q1,q2,q3⟩:=key;refine (zu rk s u).mpr (.inr (.inr ⟨r1.trans r2,pre,a,b,x,y,q1,q2,fun e=>ZC a (by rw [←e] at q3;exact q3),q3,fun p hp=>hu p (by rw [q2];simp [hp])⟩))
def jer {s t u:Tr} (h1:gt rk s t) (h2:gt rk t u):gt rk s u:=xf _ s t u (aae _) h1 h2
def jba {s t:Tr} (h1:gt rk s t) (h2:gt rk t s):False:=ZC s (jer h1 h2)
end
mutual
def Tr.fil (σ:Nat->Tr):Tr->Tr
 | .bk i=>σ i
 | .nd x l=> .nd x (Tr.fils σ l)
def Tr.fils (σ:Nat->Tr):List Tr->List Tr
 | []=>[]
 |t::l=>Tr.fil σ t::Tr.fils σ l
end
theorem XG (σ:Nat->Tr): ∀l:List Tr,Tr.fils σ l=l.map (Tr.fil σ)
 | []=>rfl
 |t::l=>by simp only [Tr.fils,aat,XG σ l]
def XH (σ:Nat->Tr) (x:Str) (l:List Tr):Tr.fil σ (.nd x l)= .nd x (l.map (Tr.fil σ)):=by simp only [Tr.fil,XG]
def yl {σ:Nat->Tr} {t:Tr} {a:Str×Nat} (h:t.hd=some a):(Tr.fil σ t).hd=some a/\(Tr.fil σ t).kids=t.kids.map (Tr.fil σ):=by
 cases t with
 |bk i=>cases h
 |nd x l=>
  rw [XH];cases h;exact ⟨by simp [Tr.hd],rfl⟩
def WA {t p:Tr} (h:p∈t.kids): ∃a,t.hd=some a:=by
 cases t with
 |bk i=>cases h
 |nd x l=>exact ⟨_,rfl⟩
section
variable {rk:Str×Nat->Nat}
theorem ZD (σ:Nat->Tr): ∀(n:Nat) (s t:Tr),s.sz+t.sz<=n->gt rk s t->gt rk (Tr.fil σ s) (Tr.fil σ t)
 |0,s,t,h,_=>by have:=s.sz_pos;omega
 |n+1,s,t,hn,h=>by
  rcases (zu rk s t).mp h with ⟨p,hp,e⟩| ⟨r,hk⟩| ⟨r,pre,a,b,u,v,h1,h2,h3,h4,h5⟩
  · obtain ⟨q,hq⟩:=WA hp;have hp':Tr.fil σ p∈(Tr.fil σ s).kids:=by rw [(yl hq).2];exact aaB.mpr ⟨p,hp,rfl⟩
    refine zF hp' ?_;rcases e with e|e
    · exact .inl (by rw [e])
    · have:=Tr.sz_kid hp;exact .inr (ZD σ n p t (by omega) e)
  · obtain ⟨a,b,e1,e2,hr⟩:=yM rk r;refine (zu rk _ _).mpr (.inr (.inl ⟨jae rk (yl e1).1 (yl e2).1 hr,fun p hp=>?_⟩));rw [(yl e2).2] at hp;obtain ⟨q,hq,rfl⟩:=aaB.mp hp;have:=Tr.sz_kid hq;exact ZD σ n s q (by omega) (hk q hq)
  · have ha:a∈s.kids:=by rw [h1];simp
    have hb:b∈t.kids:=by rw [h2];simp
    obtain ⟨q,hq⟩:=WA ha;have hq2:t.hd=some q:=by rw [←r];exact hq
    have:=Tr.sz_kid ha;have:=Tr.sz_kid hb;have g:=ZD σ n a b (by omega) h4;refine (zu rk _ _).mpr (.inr (.inr ⟨(yl hq).1.trans (yl hq2).1.symm,pre.map (Tr.fil σ),Tr.fil σ a,Tr.fil σ b,u.map (Tr.fil σ),v.map (Tr.fil σ),?_,?_,fun e=>?_,g,fun p hp=>?_⟩))
    · rw [(yl hq).2,h1];simp
    · rw [(yl hq2).2,h2];simp
    · rw [e] at g;exact ZC _ g
    · obtain ⟨w,hw,rfl⟩:=aaB.mp hp;have hw2:w∈t.kids:=by rw [h2];simp [hw]
      have:=Tr.sz_kid hw2;exact ZD σ n s w (by omega) (h5 w hw)
def jdi {s t:Tr} {x:Str} {pre post:List Tr} (h:gt rk s t):gt rk (.nd x (pre++s::post)) (.nd x (pre++t::post)):=
 (zu rk _ _).mpr (.inr (.inr ⟨by simp [Tr.hd],pre,s,t,post,post,rfl,rfl,fun e=>by rw [e] at h;exact ZC _ h,h,fun p hp=>zF (p:=p) (by simp [Tr.kids,hp]) (.inl rfl)⟩))
end
end M
namespace M
open PySem PySem.Spec L2
namespace Tr
mutual
def d:Tr->D
 |bk i=> .int i
 |nd x l=> .tup (.str x::ds l)
def ds:List Tr->List D
 | []=>[]
 |t::l=>d t::ds l
end
mutual
def k:Tr->NK
 |bk i=> .int i
 |nd x l=> .tup (.str x::ks l)
def ks:List Tr->List NK
 | []=>[]
 |t::l=>k t::ks l
end
theorem uD: ∀l:List Tr,ds l=l.map d
 | []=>rfl
 |t::l=>by simp only [ds,aat,uD l]
theorem ui: ∀l:List Tr,ks l=l.map k
 | []=>rfl
 |t::l=>by simp only [ks,aat,ui l]
def d_nd (x:Str) (l:List Tr):(nd x l).d= .tup (.str x::l.map d):=by simp only [d,uD]
def k_nd (x:Str) (l:List Tr):(nd x l).k= .tup (.str x::l.map k):=by simp only [k,ui]
theorem map_inj {α β:Type} {f:α->β}: ∀ {l m:List α},(∀a∈l,∀b,f a=f b->a=b)->l.map f=m.map f->l=m
 | [],[],_,_=>rfl
 | [],b::m,_,h=>by simp at h
 |a::l,[],_,h=>by simp at h
 |a::l,b::m,hi,h=>by
  simp only [aat,abf] at h;rw [hi a aam b h.1,map_inj (fun c hc=>hi c (aaj _ hc)) h.2]
def d_inj (s:Tr): ∀t,s.d=t.d->s=t:=by
 induction s using ind with
 |b i=>
  intro t h
  cases t with
  |bk j=>simp only [d,D.int.injEq] at h;rw [show i=j by omega]
  |nd y m=>rw [d_nd] at h;simp only [d] at h;cases h
 |h x l ih=>
  intro t h
  cases t with
  |bk j=>rw [d_nd] at h;simp only [d] at h;cases h
  |nd y m=>
   rw [d_nd,d_nd] at h;simp only [D.tup.injEq,abf,D.str.injEq] at h;rw [h.1,map_inj ih h.2]
def k_inj (s:Tr): ∀t,s.k=t.k->s=t:=by
 induction s using ind with
 |b i=>
  intro t h
  cases t with
  |bk j=>simp only [k,NK.int.injEq] at h;rw [show i=j by omega]
  |nd y m=>rw [k_nd] at h;simp only [k] at h;cases h
 |h x l ih=>
  intro t h
  cases t with
  |bk j=>rw [k_nd] at h;simp only [k] at h;cases h
  |nd y m=>
   rw [k_nd,k_nd] at h;simp only [NK.tup.injEq,abf,NK.str.injEq] at h;rw [h.1,map_inj ih h.2]
theorem Xt: ∀ {l:List Tr},(∀t∈l,keyN t.d=some t.k)->keyNs (l.map d)=some (l.map k)
 | [],_=>rfl
 |t::l,h=>by
  simp only [aat,keyNs,h t aam,Xt fun u hu=>h u (aaj _ hu)]
def keyN_d (t:Tr):keyN t.d=some t.k:=by
 induction t using ind with
 |b i=>simp only [d,k,keyN]
 |h x l ih=>
  rw [d_nd,k_nd];simp only [keyN,keyNs,Xt ih]
theorem Xo: ∀ {l:List Tr},(∀t∈l,nb t.d=true)->nbs (l.map d)=true
 | [],_=>rfl
 |t::l,h=>by
  simp only [aat,nbs,h t aam,Xo fun u hu=>h u (aaj _ hu),Bool.and_self]
def nb_d (t:Tr):nb t.d=true:=by
 induction t using ind with
 |b i=>simp only [d,nb]
 |h x l ih=>
  rw [d_nd];simp only [nb,nbs,Xo ih,Bool.and_self]
def eqD_d (s t:Tr):eqD s.d t.d=decide (s=t):=by
 rw [XR (nb_d s) (nb_d t)]
 by_cases e:s=t
 · rw [decide_eq_true e,decide_eq_true (by rw [e])]
 · rw [decide_eq_false e,decide_eq_false fun z=>e (d_inj s t z)]
end Tr
def Tn (hs:List (Str×Nat)):Nat->Tr->Prop
 |0,t=>t.hd=none\/ ∃h∈hs,t.hd=some h/\t.kids=[]
 |n+1,t=>t.hd=none\/ ∃h∈hs,t.hd=some h/\ ∀p∈t.kids,Tn hs n p
def Tn.bk {hs:List (Str×Nat)} {n i:Nat}:Tn hs n (.bk i):=by
 cases n<;>exact .inl rfl
def Tn.hd {hs:List (Str×Nat)} {n:Nat} {t:Tr} (h:Tn hs n t) {a:Str×Nat} (e:t.hd=some a):a∈hs:=by
 cases n<;>rcases h with h| ⟨b,hb,h1,_⟩
 · rw [h] at e;cases e
 · rw [h1] at e;cases e;exact hb
 · rw [h] at e;cases e
 · rw [h1] at e;cases e;exact hb
theorem Tn.kid1 {hs:List (Str×Nat)}: ∀ {n:Nat} {t:Tr},Tn hs (n+1) t-> ∀p∈t.kids,Tn hs n p
 |n,t,h,p,hp=>by
  rcases h with h| ⟨b,hb,h1,h2⟩
  · obtain ⟨a,e⟩:=WA hp;rw [h] at e;cases e
  · exact h2 p hp
def Tn.no {hs:List (Str×Nat)} {t:Tr} (h:Tn hs 0 t):t.kids=[]:=by
 rcases h with h| ⟨b,hb,h1,h2⟩
 · cases t with
   |bk i=>rfl
   |nd x l=>cases h
 · exact h2
theorem Tn.up {hs:List (Str×Nat)}: ∀ {n:Nat} {t:Tr},Tn hs n t->Tn hs (n+1) t
 |0,t,h=>by
  rcases h with h| ⟨b,hb,h1,h2⟩
  · exact .inl h
  · exact .inr ⟨b,hb,h1,by rw [h2];intro p hp;cases hp⟩
 |n+1,t,h=>by
  rcases h with h| ⟨b,hb,h1,h2⟩
  · exact .inl h
  · exact .inr ⟨b,hb,h1,fun p hp=>(h2 p hp).up⟩
def Tn.le {hs:List (Str×Nat)} {n m:Nat} {t:Tr} (h:Tn hs n t) (hm:n<=m):Tn hs m t:=by
 induction hm with
 |refl=>exact h
 |step _ ih=>exact ih.up
theorem Tn.kid {hs:List (Str×Nat)}: ∀ {n:Nat} {t:Tr},Tn hs n t-> ∀p∈t.kids,Tn hs n p
 |0,t,h,p,hp=>by rw [h.no] at hp;cases hp
 |n+1,t,h,p,hp=>(h.kid1 p hp).up
def jdK {l:List Tr} {n:Nat} (h: ∀t∈l,D.dep t.d<=n):D.deps (l.map Tr.d)<=n:=deps_le fun d hd=>by
 obtain ⟨t,ht,rfl⟩:=aaB.mp hd;exact h t ht
theorem uG {hs:List (Str×Nat)}: ∀ {n:Nat} {t:Tr},Tn hs n t->D.dep t.d<=n+1
 |n,.bk i,h=>by simp [Tr.d,D.dep]
 |0,.nd x l,h=>by cases (show l=[] from h.no);simp [Tr.d,Tr.ds,D.dep,D.deps]
 |n+1,.nd x l,h=>by
  rw [Tr.d_nd];simp only [D.dep,D.deps];have:=jdK (l:=l) (n:=n+1) fun p hp=>uG (h.kid1 p hp)
  omega
theorem NK.deps_le: ∀ {l:List NK} {n:Nat},(∀k∈l,k.dep<=n)->NK.deps l<=n
 | [],n,_=>by simp only [NK.deps];omega
 |k::l,n,h=>by
  simp only [NK.deps];have h1:=h k aam;have h2:=NK.deps_le fun q hq=>h q (aaj _ hq)
  omega
theorem WC {hs:List (Str×Nat)}: ∀ {n:Nat} {t:Tr},Tn hs n t->t.k.dep<=n+1
 |n,.bk i,h=>by simp [Tr.k,NK.dep]
 |0,.nd x l,h=>by cases (show l=[] from h.no);simp [Tr.k,Tr.ks,NK.dep,NK.deps]
 |n+1,.nd x l,h=>by
  rw [Tr.k_nd];simp only [NK.dep,NK.deps]
  have:=NK.deps_le (l:=l.map Tr.k) (n:=n+1) fun q hq=>by
   obtain ⟨t,ht,rfl⟩:=aaB.mp hq;exact WC (h.kid1 t ht)
  omega
def jbj {hs:List (Str×Nat)} {n:Nat} (hn:n<=100) {s t:Tr} (h:Tn hs n s):eqR s.d t.d= .ok (.bl (decide (s=t))):=by
 unfold eqR;rw [Tr.eqD_d];exact jl (.inl ⟨uB _ (Tr.nb_d s),uB _ (Tr.nb_d t),by have:=uG h;omega⟩)
def sN:Nat->Nat
 |0=>1
 |n+1=>1+3*sN n
theorem vX: ∀ {l:List Tr} {b:Nat},(∀t∈l,t.sz<=b)->Tr.szs l<=l.length*b
 | [],b,_=>by simp [Tr.szs]
 |t::l,b,h=>by
  simp only [Tr.szs,aau];have h1:=h t aam;have h2:=vX fun u hu=>h u (aaj _ hu)
  rw [Nat.succ_mul];omega
theorem jb9: ∀n,1<=sN n
 |0=>aae _
 |n+1=>by show 1<=1+_;omega
theorem UV {hs:List (Str×Nat)} (h3: ∀h∈hs,h.2<=3): ∀ {n:Nat} {t:Tr},Tn hs n t->t.sz<=sN n
 |n,.bk i,h=>by simp only [Tr.sz];exact jb9 n
 |0,.nd x l,h=>by cases (show l=[] from h.no);simp [Tr.sz,Tr.szs,sN]
 |n+1,.nd x l,h=>by
  have h2:=h3 _ (h.hd (a:=(x,l.length)) rfl);simp only [Tr.sz,sN];have h1:=vX (l:=l) (b:=sN n) fun p hp=>UV h3 (h.kid1 p hp)
  have h4:=Nat.mul_le_mul_right (sN n) (show l.length<=3 from h2);omega
mutual
def Tr.ps:Tr->List Tr
 | .bk i=>[.bk i]
 | .nd x l=> .nd x l::Tr.pss l
def Tr.pss:List Tr->List Tr
 | []=>[]
 |t::l=>Tr.ps t++Tr.pss l
end
def ze (t:Tr):t∈t.ps:=by cases t<;>simp only [Tr.ps]<;>exact aam
def KC (t:Tr):t.ps.length=t.sz:=by
 refine Tr.rec (motive_1:=fun t=>t.ps.length=t.sz) (motive_2:=fun l=>(Tr.pss l).length=Tr.szs l) (fun i=>rfl) ?_ rfl ?_ t
 · intro x l h;simp only [Tr.ps,Tr.sz,aau,h];omega
 · intro t l h1 h2;simp only [Tr.pss,Tr.szs,aaE,h1,h2]
theorem KA: ∀ {l:List Tr} {p:Tr},p∈l-> ∀q∈p.ps,q∈Tr.pss l
 |t::l,p,h,q,hq=>by
  simp only [Tr.pss];rcases aaq.mp h with e|e
  · subst e;exact acx _ hq
  · exact aaR _ (KA e q hq)
def JK {t p:Tr} (h:p∈t.kids): ∀q∈p.ps,q∈t.ps:=fun q hq=>by
 cases t with
 |bk i=>cases h
 |nd x l=>simp only [Tr.ps];exact aaj _ (KA h q hq)
def xN (t:Tr): ∀p∈t.ps,∀q∈p.ps,q∈t.ps:=by
 induction t using Tr.ind with
 |b i=>
  intro p hp q hq;simp only [Tr.ps,abB] at hp;rw [hp] at hq;exact hq
 |h x l ih=>
  intro p hp q hq;simp only [Tr.ps] at hp;rcases aaq.mp hp with e|e
  · subst e;exact hq
  · have: ∀(l:List Tr),p∈Tr.pss l-> ∃t∈l,p∈t.ps:=by
     intro l
     induction l with
     |nil=>intro h;simp only [Tr.pss] at h;cases h
     |cons t l ih=>
      intro h;simp only [Tr.pss] at h;rcases aa8.mp h with z|z
      · exact ⟨t,aam,z⟩
      · obtain ⟨u,h1,h2⟩:=ih z;exact ⟨u,aaj _ h1,h2⟩
    obtain ⟨u,hu,h2⟩:=this l e;exact JK (t:= .nd x l) hu q (ih u hu p h2 q hq)
def WR.d:WR->D
 | .part n=> .tup [.str "part",.int n]
 | .head=> .tup [.str "head"]
 | .row n=> .tup [.str "row",.int n]
def WR.k:WR->NK
 | .part n=> .tup [.str "part",.int n]
 | .head=> .tup [.str "head"]
 | .row n=> .tup [.str "row",.int n]
def wD:Option WR->D
 |none=> .non
 |some w=>w.d
def jcV (w:Option WR):nvN (wD w)=some (w.map WR.k):=by
 cases w with
 |none=>rfl
 |some w=>cases w<;>rfl
def jcU (w:Option WR):nvS (w.map WR.k)=true:=by
 cases w with
 |none=>rfl
 |some w=>cases w<;>(simp only [Option.map,WR.k,nvS,NK.short,NK.shorts,Bool.and_true];decide)
def jbV (w:Option WR):tru (wD w)= .ok w.isSome:=by
 cases w with
 |none=>rfl
 |some w=>cases w<;>rfl
def prsN (s t:Tr):List NK:=s.ps.flatMap fun p=>t.ps.map fun q=> .tup [p.k,q.k]
def ka {s t p q:Tr} (hp:p∈s.ps) (hq:q∈t.ps):NK.tup [p.k,q.k]∈prsN s t:=
 aeO.mpr ⟨p,hp,aaB.mpr ⟨q,hq,rfl⟩⟩
def ke (s t:Tr):(prsN s t).length=s.sz*t.sz:=by
 unfold prsN;rw [List.length_flatMap,adg (g:=fun _=>t.sz) fun p _=>by rw [aak,KC]];rw [List.map_const',List.sum_replicate_nat,KC]
def phi (rk:Str×Nat->Nat):NK->Option NK->Prop:=fun k z=> ∀s t:Tr,k= .tup [s.k,t.k]->z=(way rk s t).map WR.k
def jat (rk:Str×Nat->Nat) (s t:Tr) (z:Option NK):phi rk (.tup [s.k,t.k]) z↔z=(way rk s t).map WR.k:=by
 constructor
 · intro h;exact h s t rfl
 · rintro rfl s' t' e;simp only [NK.tup.injEq,abf,and_true] at e;rw [Tr.k_inj s s' e.1,Tr.k_inj t t' e.2]
def rkI (hs:List (Str×Nat)) (h:Str×Nat):Nat:=hs.idxOf h
def kyP (h:Str×Nat):List Key:=[aeG h.1,aeF (h.2:Int)]
def Wz {a b:Str×Nat} (h:kyP a=kyP b):a=b:=by
 simp only [kyP,abf,Sum.inr.injEq,Sum.inl.injEq,and_true] at h;exact Prod.ext h.1 (by omega)
def rkD (hs:List (Str×Nat)):D:= .dit (hs.map kyP) ((aaT hs.length).map fun (i:Nat)=>D.int i)
def jaf {a b:List (Str×Nat)} (h:rkD a=rkD b):a=b:=by
 unfold rkD at h;simp only [D.dit.injEq] at h;exact Tr.map_inj (fun x _ y e=>Wz e) h.1
def rcD (hs:List (Str×Nat)):D:= .obj "Ranks" ["rank"] [rkD hs]
noncomputable def mpOf (hs:List (Str×Nat)) (s t:Tr):List NK×(NK->Option NK->Prop):=(prsN s t,phi (rkI hs))
noncomputable def pkOf (env:Sl):List NK×(NK->Option NK->Prop):=Classical.epsilon fun p=> ∃hs s t,env=[.shr (rcD hs),.shr s.d,.shr t.d]/\p=mpOf hs s t
def jd8 (hs:List (Str×Nat)) (s t:Tr):pkOf [.shr (rcD hs),.shr s.d,.shr t.d]=mpOf hs s t:=by
 obtain ⟨hs',s',t',e,h⟩:=Classical.epsilon_spec (p:=fun p=> ∃hs' s' t',([.shr (rcD hs),.shr s.d,.shr t.d]:Sl)=[.shr (rcD hs'),.shr s'.d,.shr t'.d]/\p=mpOf hs' s' t') ⟨mpOf hs s t,hs,s,t,rfl,rfl⟩;simp only [abf,Slot.shr.injEq,and_true] at e;obtain ⟨e1,e2,e3⟩:=e
 have e1':rkD hs=rkD hs':=by
  unfold rcD at e1;simp only [D.obj.injEq,abf,and_true,true_and] at e1;exact e1
 cases jaf e1';cases Tr.d_inj _ _ e2;cases Tr.d_inj _ _ e3;exact h
end M
namespace M
open PySem PySem.Spec L2
open PyProof.Rows hiding St
section
variable {f f1 f2:T0} {fa:TX} {t t1 t2:TZ} {g ga gb:TY} {env env':Sl} {d x y z:D} {ds:List D} {b:Bool} {i:Nat}
def jd4 (h:env[i]?=some (.shr d)):rdB i env= .ok d:=by unfold rdB;rw [h]
def jd5 (h:env[i]?=some (.own d)):rdB i env= .ok d:=by unfold rdB;rw [h]
def zh {T:String} (h:f env= .ok x) (h2:isiD T x= .ok d):isiF T f env= .ok d:=by rw [QG,h];exact h2
def Uo (h:f env= .ok d):Uq f env= .ok (.nx env):=by unfold Uq;rw [h];rfl
def jel {α:Type} {c:Bool} {a b r:α} (hc:c=true) (h:a=r):(if c=true then a else b)=r:=(if_pos hc).trans h
def jem {α:Type} {c:Bool} {a b r:α} (hc:c=false) (h:b=r):(if c=true then a else b)=r:=(if_neg (by rw [hc];decide)).trans h
def zI {i j:Int} (h:0<j/\j<2^200):divW (.int i) (.int j)= .ok (.int (i/j)):=Zx (C:=DivW) h
def ixL0 (x:D) (r:List D):ixD (.lst (x::r)) (.int 0)= .ok x:=by
 simp only [ixD];rw [show ((0:Int))=((0:Nat):Int) from rfl,M.atI_nat];rfl
def ixL1 (x y:D) (r:List D):ixD (.lst (x::y::r)) (.int 1)= .ok y:=by
 simp only [ixD];rw [show ((1:Int))=((1:Nat):Int) from rfl,M.atI_nat];rfl
def ixT1 (x y:D) (r:List D):ixD (.tup (x::y::r)) (.int 1)= .ok y:=by
 simp only [ixD];rw [show ((1:Int))=((1:Nat):Int) from rfl,M.atI_nat];rfl
def Ug (h:f env= .ok (.lst ds)):ZI f env= .ok (jz 0 ds):=by unfold ZI;rw [h];rfl
def Qy {c m:Str} {n:Nat} {F:TW} {fo:T0} {g:TX} {env:Sl} {fs:List Str} {vs ds:List D} {d:D} (h1:fo env= .ok (.obj c fs vs)) (h2:fs.contains m=false) (h3:g env= .ok ds) (h4:ds.length+1=n) (h5:F (.obj c fs vs::ds)= .ok d):j3 c m n F fo g env= .ok d:=by
 unfold j3;rw [h1];refine (jl (c:=c=c/\fs.contains m=false) ⟨rfl,h2⟩).trans ?_;rw [h3];exact (jl (c:=ds.length+1=n) h4).trans h5
def KP:powI (.int 10) (.int 14)= .ok (.int 100000000000000):=(JL (by decide)).trans rfl
def Wv {c:Str} {n:Nat} {F:FO} {g:TX} (h1:g env= .ok ds) (h2:ds.length=n) (h3:F (.obj c [] []) ds= .ok (.non,d)):Yz c n F g env= .ok d:=by
 unfold Yz;rw [h1];refine (jl (c:=ds.length=n) h2).trans ?_;rw [h3];rfl
def jaE {ks:List Key} {es:List D} (h:env[i]?=some (.own (.dic ks es))):ownK i env= .ok (ks,es):=by unfold ownK;rw [h]
def Us {ks:List Key} {es:List D} {k:Int} (h:env[i]?=some (.own (.dic ks es))) (h1:f2 env= .ok d) (h2:f1 env= .ok (.int k)) (h3:ks.length<aai):Ut i f1 f2 env= .ok (.nx (env.set i (.own (.dic (xi ks (.inl k)) (xw ks es (.inl k) d))))):=by
 unfold Ut;rw [jaE h,zJ,h1,zJ,h2,zJ];exact jl h3
def Kf {ks:List Key} {es:List D}:xM (.dic ks es)= .own (.dic ks es):=rfl
def Kc:xM (.lst ds)= .own (.lst ds):=rfl
def Ke {ks:List (List Key)} {es:List D}:xM (.dit ks es)= .own (.dit ks es):=rfl
def Kb:xM .non= .shr .non:=rfl
def UZ:xM (.bl b)= .shr (.bl b):=rfl
def Kd {j:Int}:xM (.int j)= .shr (.int j):=rfl
def Ka {j:Str}:xM (.str j)= .shr (.str j):=rfl
def Y9:xM (.tup ds)= .shr (.tup ds):=rfl
end
section
variable {f f1 f2:T0} {fa:TX} {t t1 t2:TZ} {g ga gb:TY} {env env':Sl} {d x y z:D} {ds:List D} {b:Bool} {i:Nat} {c:Str}
def Y3 (h:f env= .ok d) (h2:tru d= .ok b):truF f env= .ok b:=by unfold truF;rw [h];exact h2
end
end M
namespace G
open PySem PySem.Spec L2 M
open PyProof.Rows hiding St
def top (i:Nat):Stmt:=PySem.Challenge.pw_endwise_k34_kept_by_filling.main.body.getD i (.Pass ⟨0,0,0,0⟩)
abbrev wG:Stmt:=top 27
abbrev wC:Stmt:=top 28
abbrev ql:Stmt:=top 29
abbrev wF:Stmt:=top 31
abbrev yK:Stmt:=top 13
abbrev x8:Stmt:=top 12
abbrev yL:Stmt:=top 14
abbrev xt:Stmt:=top 23
abbrev qu:Stmt:=xz (top 21) 0
abbrev zE:Stmt:=top 26
abbrev xv:Stmt:=top 30
abbrev x6:Stmt:=top 7
abbrev Qb:Stmt:=top 15
abbrev Wc:Stmt:=top 17
abbrev Ko:Stmt:=top 16
abbrev xu:Stmt:=top 18
abbrev j5:Stmt:=xz (top 22) 2
abbrev j6:Stmt:=xz (top 22) 3
abbrev zD:Stmt:=top 24
abbrev qh:Stmt:=xz (top 22) 4
abbrev qF:Stmt:=xz (top 22) 1
abbrev jV:Stmt:=xz (top 22) 0
abbrev zc:Stmt:=xz (top 21) 2
abbrev wB:Stmt:=top 33
abbrev zX:Stmt:=top 32
abbrev wA:Stmt:=top 34
abbrev wE:Stmt:=top 35
abbrev Qc:Stmt:=top 36
abbrev MP:=List NK×(NK->Option NK->Prop)
noncomputable def pk_Reckoning:Sl->MP:=pkOf
noncomputable def g__law_great:Sl->Res Out:=
 (seqO (jJ 1 (two (two (cI 10) (cI 60) powI) (two (cI 10) (cI 24) powI) mulI)) (retO (two (two (two (two (rdS 0) (two (cI 10) (cI 60) powI) modI) (cI 41) addD) (two (cI 23) (cI 64) powI) mulI) (rdS 1) modI)))
noncomputable def F__law_great:List D->Res D:=runF true 2 (g__law_great)
noncomputable def g__law_names:Sl->Res Out:=
 (seqO (jJ 1 (cS "abcdefghijklmnopqrstuvwxyz")) (seqO (jJ 2 (two (cI 1) (two (rdS 0) (cI 8) modI) addD)) (seqO (jJ 0 (two (rdS 0) (cI 8) divI)) (seqO (jJ 3 (cS "")) (seqO (forO (rngF (ja (rdS 2) nil1)) (gN 4) (seqO (jJ 3 (two (rdS 3) (two (rdS 1) (two (rdS 0) (cI 26) modI) ixD) addD)) (jJ 0 (two (rdS 0) (cI 26) divI)))) (seqO (jJ 5 (two (rdS 0) (rdS 2) modI)) (seqO (setO 6 (lstF nil1)) (seqO (forO (rngF (ja (cI 7) nil1)) (gN 4) (seqO (jJ 7 (two (rdS 1) (two (two (smF (rdS 1) (ja (two (rdS 3) (rdS 5) ixD) nil1) kZ) (two (cI 5) (rdS 4) mulI) addD) (cI 26) modI) ixD)) (xH 6 (two (two (qf (rdS 3) wu (zb (rdS 5)) slD) (rdS 7) addD) (qf (rdS 3) (zb (two (rdS 5) (cI 1) addD)) wu slD) addD)))) (retO (rdO 6))))))))))
noncomputable def F__law_names:List D->Res D:=runF true 8 (g__law_names)
noncomputable def g__law_turned_about:Sl->Res Out:=
 (seqO (setO 2 (app (ja (rdS 1) nil1) kL)) (seqO (setO 3 (lstF nil1)) (seqO (zo 64 (asB (two (rdB 2) (lstF nil1) neR)) (seqO (asgO (app (ja (rdS 0) (ja (app (ja (rdB 2) nil1) lenD) nil1)) zi) (g2 (gN 0) (gN 4))) (X4 3 2 (rdS 4)))) (retO (rdO 3)))))
noncomputable def F__law_turned_about:List D->Res D:=runF true 5 (g__law_turned_about)
noncomputable def g__law_heads (wL:TW) (qm:TW):Sl->Res Out:=
 (seqO (jJ 1 (jm 1 wL (ja (rdS 0) nil1))) (seqO (jJ 0 (two (rdS 0) (two (cI 10) (cI 14) powI) divW)) (seqO (setO 2 (lstF (ja (tupF (ja (two (rdS 1) (cI 0) ixD) (ja (cI 0) nil1))) (ja (tupF (ja (two (rdS 1) (cI 1) ixD) (ja (cI 1) nil1))) (ja (tupF (ja (two (rdS 1) (cI 2) ixD) (ja (cI 2) nil1))) (ja (tupF (ja (two (rdS 1) (cI 3) ixD) (ja (two (rdS 0) (cI 4) modI) nil1))) (ja (tupF (ja (two (rdS 1) (cI 4) ixD) (ja (two (two (rdS 0) (cI 4) divW) (cI 4) modI) nil1))) nil1))))))) (seqO (xH 2 (tupF (ja (two (rdS 1) (two (two (rdS 0) (cI 16) divW) (cI 3) modI) ixD) (ja (cI 3) nil1)))) (frzO 2 (retO (jm 2 qm (ja (two (rdS 0) (cI 48) divW) (ja (rdS 2) nil1)))))))))
noncomputable def F__law_heads:List D->Res D:=runF true 3 (g__law_heads F__law_names F__law_turned_about)
noncomputable def g_is_name:Sl->Res Out:=
 (seqO (ifO (orB (notB (asB (isiF "str" (rdS 0)))) (notB (asB (JA (cI 1) (app (ja (rdS 0) nil1) lenD) (cI 8) leI leI)))) (retO (cB false)) nxO) (retO (app (ja (zl false 1 [] (itF (rdS 0)) (gN 0) qE (two (rdS 0) (cS "abcdefghijklmnopqrstuvwxyz") inD)) nil1) allD)))
noncomputable def F_is_name:List D->Res D:=runF true 1 (g_is_name)
noncomputable def g_is_whole:Sl->Res Out:=
 (retO (toB (isiF "int" (rdS 0)) (notF (isiF "bool" (rdS 0))) true))
noncomputable def F_is_whole:List D->Res D:=runF true 1 (g_is_whole)
noncomputable def g_is_head (Jb:TW) (ye:TW):Sl->Res Out:=
 (seqO (ifO (orB (notB (asB (isiF "tuple" (rdS 0)))) (asB (two (app (ja (rdS 0) nil1) lenD) (cI 2) neR))) (retO (cB false)) nxO) (retO (toB (jm 1 Jb (ja (two (rdS 0) (cI 0) ixD) nil1)) (toB (jm 1 ye (ja (two (rdS 0) (cI 1) ixD) nil1)) (JA (cI 0) (two (rdS 0) (cI 1) ixD) (cI 9) leI leI) true) true)))
noncomputable def F_is_head:List D->Res D:=runF true 1 (g_is_head F_is_name F_is_whole)
noncomputable def g_are_ranks (Jc:TW):Sl->Res Out:=
 (seqO (ifO (orB (notB (asB (isiF "list" (rdS 0)))) (asB (two (app (ja (rdS 0) nil1) lenD) (cI 60) gtI))) (retO (cB false)) nxO) (retO (toB (app (ja (zl false 1 [] (itF (rdS 0)) (gN 0) qE (jm 1 Jc (ja (rdS 0) nil1))) nil1) allD) (two (kM (rdS 0)) (app (ja (rdS 0) nil1) lenD) eqR) true)))
noncomputable def F_are_ranks:List D->Res D:=runF true 1 (g_are_ranks F_is_head)
noncomputable def g_Ranks_o___init__ (xC:TW):Sl->Res OutO:=
 (seqJ (ifJ (notB (asB (jm 1 xC (ja (rdS 1) nil1)))) W6 nxJ) (Yk 0 "Ranks" "rank" (app (ja (zl false 2 [] (ZI (rdS 1)) (g2 (gN 0) (gN 1)) qE (tupF (ja (rdS 1) (ja (rdS 0) nil1)))) nil1) JX)))
noncomputable def F_Ranks_o___init__:FO:=runJ 2 1 (g_Ranks_o___init__ F_are_ranks)
noncomputable def g__law_cell_at:Sl->Res Out:=
 (seqO (ifO (asB (two (rdS 1) (app (ja (rdS 0) nil1) lenD) ltI)) (retS (two (rdS 0) (rdS 1) ixD)) nxO) (retO (cI 0)))
noncomputable def F__law_cell_at:List D->Res D:=runF false 2 (g__law_cell_at)
noncomputable def g__law_term (jT:TW):Sl->Res Out:=
 (seqO (asgO (app (ja (rdS 0) (ja (two (app (ja (rdS 1) nil1) lenD) (cI 2) addD) nil1)) zi) (g2 (gN 0) (gN 6))) (seqO (ifO (orB (asB (two (rdS 6) (cI 2) ltI)) (asB (two (rdS 3) (cI 0) eqR))) (seqO (asgO (app (ja (rdS 0) (ja (app (ja (rdS 2) nil1) lenD) nil1)) zi) (g2 (gN 0) (gN 5))) (retO (tupF (ja (two (rdS 2) (rdS 5) ixD) (ja (rdS 0) nil1))))) nxO) (seqO (asgO (two (rdS 1) (two (rdS 6) (cI 2) subI) ixD) (g2 (gN 7) (gN 8))) (seqO (setO 4 (lstF nil1)) (seqO (forO (rngF (ja (rdS 8) nil1)) (gN 5) (seqO (asgO (jm 4 jT (ja (rdS 0) (ja (rdS 1) (ja (rdS 2) (ja (two (rdS 3) (cI 1) subI) nil1))))) (g2 (gN 9) (gN 0))) (xH 4 (rdS 9)))) (retO (tupF (ja (chk (app (ja (two (lstF (ja (rdS 7) nil1)) (rdB 4) addD) nil1) JG)) (ja (rdS 0) nil1)))))))))
noncomputable def F__law_term:Nat->List D->Res D
 |0=>fun _=> .stuck
 |n+1=>runF true 10 (g__law_term (F__law_term n))
noncomputable def g_look_for:Sl->Res Out:=
 (forO (itF (rdS 0)) (gN 2) (ifO (asB (two (rdS 2) (rdS 1) ninT)) Vd nxO))
noncomputable def F_look_for:List D->Res D:=runF true 3 (g_look_for)
noncomputable def g_places:Sl->Res Out:=
 (retO (ifD (asB (isiF "tuple" (rdS 0))) (qf (rdS 0) (zb (cI 1)) wu slD) (tupF nil1)))
noncomputable def F_places:List D->Res D:=runF true 1 (g_places)
noncomputable def g_parts (jB:TW) (xB:TW):Sl->Res Out:=
 (seqO (setO 1 (lstF (ja (rdS 0) nil1))) (seqO (forO (itF (jm 1 jB (ja (rdS 0) nil1))) (gN 2) (xE 1 (jm 1 xB (ja (rdS 2) nil1)))) (retO (rdO 1))))
noncomputable def F_parts:Nat->List D->Res D
 |0=>fun _=> .stuck
 |n+1=>runF true 3 (g_parts F_places (F_parts n))
noncomputable def g_head:Sl->Res Out:=
 (retO (ifD (asB (isiF "tuple" (rdS 0))) (tupF (ja (two (rdS 0) (cI 0) ixD) (ja (two (app (ja (rdS 0) nil1) lenD) (cI 1) subI) nil1))) cN))
noncomputable def F_head:List D->Res D:=runF true 1 (g_head)
noncomputable def g_all_heads (xB:TW) (zP:TW):Sl->Res Out:=
 (seqO (setO 1 cDT) (seqO (forO (itF (rdS 0)) (gN 2) (forO (itF (jm 1 xB (ja (rdS 2) nil1))) (gN 3) (ifO (asB (isiF "tuple" (rdS 3))) (YL 1 (jm 1 zP (ja (rdS 3) nil1)) (cB true)) nxO))) (frzO 1 (retO (app (ja (rdS 1) nil1) J8)))))
noncomputable def F_all_heads:List D->Res D:=runF true 4 (g_all_heads (F_parts 64) F_head)
noncomputable def g_Reckoning_o_by_part (jB:TW) (ji:TW):Sl->Res Out:=
 (seqO (forO (Ui (jm 1 jB (ja (rdS 1) nil1))) (g2 (gN 3) (gN 4)) (ifO (orB (asB (two (rdS 4) (rdS 2) eqR)) (asB (two (j3 "Reckoning" "way" 3 ji (rdS 0) (ja (rdS 4) (ja (rdS 2) nil1))) cN notN))) (retO (tupF (ja (cS "part") (ja (rdS 3) nil1)))) nxO)) (retO cN))
noncomputable def F_Reckoning_o_by_part (ji:TW):List D->Res D:=runF true 5 (g_Reckoning_o_by_part F_places ji)
noncomputable def g_Reckoning_o_by_head (jB:TW) (zP:TW) (ji:TW):Sl->Res Out:=
 (seqO (ifO (orB (notB (asB (isiF "tuple" (rdS 1)))) (notB (asB (isiF "tuple" (rdS 2))))) (retO cN) nxO) (seqO (ifO (asB (two (two (fldF "Reckoning" "rank" (rdB 0)) (jm 1 zP (ja (rdS 1) nil1)) getT) (two (fldF "Reckoning" "rank" (rdB 0)) (jm 1 zP (ja (rdS 2) nil1)) getT) geI)) (retO cN) nxO) (seqO (forO (itF (jm 1 jB (ja (rdS 2) nil1))) (gN 3) (ifO (asB (two (j3 "Reckoning" "way" 3 ji (rdS 0) (ja (rdS 1) (ja (rdS 3) nil1))) cN isN)) (retO cN) nxO)) (retO (tupF (ja (cS "head") nil1))))))
noncomputable def F_Reckoning_o_by_head (ji:TW):List D->Res D:=runF true 4 (g_Reckoning_o_by_head F_places F_head ji)
noncomputable def g_first_unlike (jB:TW):Sl->Res Out:=
 (seqO (jJ 2 (cI 0)) (seqO (zo 64 (asB (two (two (jm 1 jB (ja (rdS 0) nil1)) (rdS 2) ixD) (two (jm 1 jB (ja (rdS 1) nil1)) (rdS 2) ixD) eqR)) (jJ 2 (two (rdS 2) (cI 1) (augI fun i j=>i+j)))) (retS (rdS 2))))
noncomputable def F_first_unlike:List D->Res D:=runF false 3 (g_first_unlike F_places)
noncomputable def g_Reckoning_o_by_row (zG:TW) (ji:TW) (jB:TW) (zP:TW):Sl->Res Out:=
 (seqO (ifO (orB (notB (asB (isiF "tuple" (rdS 1)))) (orB (asB (two (jm 1 zP (ja (rdS 1) nil1)) (jm 1 zP (ja (rdS 2) nil1)) neR)) (asB (two (rdS 1) (rdS 2) eqR)))) (retO cN) nxO) (seqO (jJ 3 (jm 2 zG (ja (rdS 1) (ja (rdS 2) nil1)))) (seqO (ifO (asB (two (j3 "Reckoning" "way" 3 ji (rdS 0) (ja (two (jm 1 jB (ja (rdS 1) nil1)) (rdS 3) ixD) (ja (two (jm 1 jB (ja (rdS 2) nil1)) (rdS 3) ixD) nil1))) cN isN)) (retO cN) nxO) (seqO (forO (itF (qf (jm 1 jB (ja (rdS 2) nil1)) (zb (two (rdS 3) (cI 1) addD)) wu slD)) (gN 4) (ifO (asB (two (j3 "Reckoning" "way" 3 ji (rdS 0) (ja (rdS 1) (ja (rdS 4) nil1))) cN isN)) (retO cN) nxO)) (retO (tupF (ja (cS "row") (ja (rdS 3) nil1))))))))
noncomputable def F_Reckoning_o_by_row (ji:TW):List D->Res D:=runF true 5 (g_Reckoning_o_by_row F_first_unlike ji F_places F_head)
noncomputable def g_Reckoning_o_way (j8:TW) (j9:TW) (qi:TW):Sl->Res Out:=
 (seqO (jJ 3 (tupF (ja (rdS 1) (ja (rdS 2) nil1)))) (memoO "Reckoning" "ways" 0 3 (orV (j3 "Reckoning" "by_part" 3 j8 (rdS 0) (ja (rdS 1) (ja (rdS 2) nil1))) (orV (j3 "Reckoning" "by_head" 3 j9 (rdS 0) (ja (rdS 1) (ja (rdS 2) nil1))) (j3 "Reckoning" "by_row" 3 qi (rdS 0) (ja (rdS 1) (ja (rdS 2) nil1)))))))
noncomputable def F_Reckoning_o_way:Nat->List D->Res D
 |0=>fun _=> .stuck
 |n+1=>runF true 4 (g_Reckoning_o_way (F_Reckoning_o_by_part (F_Reckoning_o_way n)) (F_Reckoning_o_by_head (F_Reckoning_o_way n)) (F_Reckoning_o_by_row (F_Reckoning_o_way n)))
noncomputable def g_Reckoning_o___init__ (p:MP):Sl->Res OutO:=
 (seqJ (Yk 0 "Reckoning" "rank" (rdS 1)) (Yk 0 "Reckoning" "ways" (cM p)))
noncomputable def F_Reckoning_o___init__ (p:MP):FO:=runJ 2 1 (g_Reckoning_o___init__ p)
noncomputable def g_Ranks_o_falls (yd:TW) (xD:TW) (ji:TW) (jX:MP->FO):Sl->Res Out:=
 (seqO (Uq (jm 2 yd (ja (jm 1 xD (ja (lstF (ja (rdS 1) (ja (rdS 2) nil1))) nil1)) (ja (fldF "Ranks" "rank" (rdB 0)) nil1)))) (retO (two (kg pk_Reckoning fun p=>(j3 "Reckoning" "way" 3 ji (Yz "Reckoning" 1 (jX p) (ja (fldF "Ranks" "rank" (rdB 0)) nil1)) (ja (rdS 1) (ja (rdS 2) nil1)))) cN notN)))
noncomputable def F_Ranks_o_falls:List D->Res D:=runF true 3 (g_Ranks_o_falls F_look_for F_all_heads (F_Reckoning_o_way 16) F_Reckoning_o___init__)
noncomputable def g__law_parts (j7:TW):Sl->Res Out:=
 (seqO (setO 1 (lstF (ja (rdS 0) nil1))) (seqO (ifO (notB (asB (isiF "int" (rdS 0)))) (forO (itF (qf (rdS 0) (zb (cI 1)) wu slD)) (gN 2) (xE 1 (jm 1 j7 (ja (rdS 2) nil1)))) nxO) (retO (rdO 1))))
noncomputable def F__law_parts:Nat->List D->Res D
 |0=>fun _=> .stuck
 |n+1=>runF true 3 (g__law_parts (F__law_parts n))
noncomputable def g__law_filled (jN:TW):Sl->Res Out:=
 (seqO (ifO (asB (isiF "int" (rdS 0))) (retS (two (rdS 1) (rdS 0) getK)) nxO) (retO (app (ja (two (lstF (ja (two (rdS 0) (cI 0) ixD) nil1)) (zl false 1 [1] (itF (qf (rdS 0) (zb (cI 1)) wu slD)) (gN 0) qE (jm 2 jN (ja (rdS 0) (ja (rdS 1) nil1)))) addD) nil1) JG)))
noncomputable def F__law_filled:Nat->List D->Res D
 |0=>fun _=> .stuck
 |n+1=>runF false 2 (g__law_filled (F__law_filled n))
noncomputable def g__law_round:Sl->Res Out:=
 (seqO (jJ 4 (zl false 1 [] (itF (rdS 1)) (gN 0) (asB (two (two (rdS 0) (cI 1) ixD) (cI 0) gtI)) (rdS 0))) (seqO (asgO (two (rdS 4) (two (rdS 0) (app (ja (rdS 4) nil1) lenD) modI) ixD) (g2 (gN 6) (gN 7))) (seqO (setO 5 (two (lstF (ja (rdS 3) nil1)) (rdS 7) repL)) (seqO (U1 5 (two (two (rdS 0) (cI 6) divI) (rdS 7) modI) (rdS 2)) (retO (chk (app (ja (two (lstF (ja (rdS 6) nil1)) (rdB 5) addD) nil1) JG)))))))
noncomputable def F__law_round:List D->Res D:=runF true 8 (g__law_round)
noncomputable def g__law_holds (ju:TW) (jN:TW) (zw:TW):Sl->Res Out:=
 (seqO (ifO (asB (two (j3 "Ranks" "falls" 3 ju (rdS 0) (ja (rdS 4) (ja (rdS 3) nil1))) (cB false) isnB)) (retO (cB false)) nxO) (seqO (ifO (asB (two (j3 "Ranks" "falls" 3 ju (rdS 0) (ja (jm 2 jN (ja (rdS 3) (ja (rdS 5) nil1))) (ja (jm 2 jN (ja (rdS 4) (ja (rdS 5) nil1))) nil1))) (cB true) isnB)) (retO (cB false)) nxO) (seqO (forO (itF (lstF (ja (cI 5) (ja (tupF (ja (two (two (rdS 1) (two (two (rdS 2) (cI 100) divI) (app (ja (rdS 1) nil1) lenD) modI) ixD) (cI 0) ixD) nil1)) nil1)))) (gN 6) (ifO (orB (asB (isiF "int" (rdS 6))) (asB (two (tupF (ja (two (rdS 6) (cI 0) ixD) (ja (cI 0) nil1))) (rdS 1) (inLR false)))) (seqO (jJ 7 (jm 4 zw (ja (rdS 2) (ja (rdS 1) (ja (rdS 3) (ja (rdS 6) nil1)))))) (seqO (jJ 8 (jm 4 zw (ja (rdS 2) (ja (rdS 1) (ja (rdS 4) (ja (rdS 6) nil1)))))) (ifO (asB (two (j3 "Ranks" "falls" 3 ju (rdS 0) (ja (rdS 7) (ja (rdS 8) nil1))) (cB true) isnB)) (retO (cB false)) nxO))) nxO)) (retO (cB true)))))
noncomputable def F__law_holds:List D->Res D:=runF true 9 (g__law_holds F_Ranks_o_falls (F__law_filled 16) F__law_round)
noncomputable def g_law (zx:TW) (wN:TW) (qy:FO) (zH:TW) (jT:TW) (ju:TW) (j7:TW) (wM:TW):Sl->Res Out:=
 (seqO (jJ 1 (jm 1 zx (ja (jm 2 zH (ja (rdS 0) (ja (cI 0) nil1))) nil1))) (seqO (jJ 2 (jm 1 wN (ja (rdS 1) nil1))) (seqO (jJ 3 (lstF (ja (two (rdS 1) (cI 1000) modI) (ja (two (two (rdS 1) (cI 1000) divW) (cI 1000) modI) (ja (two (lstF (ja (cI 7) (ja (two (rdS 1) (cI 1000) modI) nil1))) (two (two (rdS 1) (two (cI 10) (cI 6) powI) divW) (cI 2) modI) ixD) nil1))))) (seqO (jJ 4 (Yz "Ranks" 1 qy (ja (rdS 2) nil1))) (seqO (forO (itF (qf (rdS 0) (zb (cI 1)) (zb (cI 17)) slS)) (gN 5) (seqO (asgO (app (ja (jm 1 zx (ja (rdS 5) nil1)) (ja (cI 2) nil1)) zi) (g2 (gN 10) (gN 11))) (seqO (asgO (jm 4 jT (ja (rdS 10) (ja (rdS 2) (ja (rdS 3) (ja (cI 2) nil1))))) (g2 (gN 12) (gN 10))) (seqO (jJ 6 (rdS 3)) (seqO (ifO (asB (two (rdS 11) (cI 0) eqR)) (seqO (jJ 13 (jm 1 j7 (ja (rdS 12) nil1))) (seqO (jJ 6 (lstF (ja (two (rdS 13) (two (rdS 10) (app (ja (rdS 13) nil1) lenD) modI) ixD) (ja (two (rdS 13) (two (two (rdS 10) (cI 13) divW) (app (ja (rdS 13) nil1) lenD) modI) ixD) (ja (two (rdS 13) (two (two (rdS 10) (cI 169) divW) (app (ja (rdS 13) nil1) lenD) modI) ixD) nil1))))) (jJ 10 (two (rdS 10) (cI 2197) divW)))) nxO) (seqO (asgO (jm 4 jT (ja (rdS 10) (ja (rdS 2) (ja (rdS 6) (ja (cI 1) nil1))))) (g2 (gN 14) (gN 10))) (seqO (setO 7 cD) (seqO (forO (itF (rdS 3)) (gN 8) (seqO (asgO (jm 4 jT (ja (rdS 10) (ja (rdS 2) (ja (lstF (ja (rdS 8) (ja (two (rdS 3) (cI 0) ixD) (ja (cI 999) nil1)))) (ja (cI 1) nil1))))) (g2 (gN 15) (gN 10))) (Ut 7 (rdS 8) (rdS 15)))) (seqO (jJ 9 (j3 "Ranks" "falls" 3 ju (rdS 4) (ja (rdS 12) (ja (rdS 14) nil1)))) (seqO (ifO (andB (truF (rdS 9)) (notB (asB (jm 6 wM (ja (rdS 4) (ja (rdS 2) (ja (rdS 10) (ja (rdS 12) (ja (rdS 14) (ja (rdB 7) nil1)))))))))) (retO (cB false)) nxO) (seqO (ifO (orB (notB (asB (isiF "bool" (rdS 9)))) (asB (two (j3 "Ranks" "falls" 3 ju (rdS 4) (ja (rdS 12) (ja (rdS 12) nil1))) (cB false) isnB))) (retO (cB false)) nxO) (ifO (andB (notB (asB (isiF "int" (rdS 12)))) (notB (asB (app (ja (zl false 1 [12,4] (itF (qf (rdS 12) (zb (cI 1)) wu slD)) (gN 0) qE (two (j3 "Ranks" "falls" 3 ju (rdS 2) (ja (rdS 1) (ja (rdS 0) nil1))) (cB true) isB)) nil1) allD)))) (retO (cB false)) nxO)))))))))))) (retO (cB true)))))))
noncomputable def F_law:List D->Res D:=runF true 16 (g_law F__law_great F__law_heads F_Ranks_o___init__ F__law_cell_at (F__law_term 6) F_Ranks_o_falls (F__law_parts 16) F__law_holds)
structure Gm (K:aaa) (mg:W9):Prop where
 b_isinstance:mg "isinstance" =none
 b_bool:mg "bool" =none
 b_int:mg "int" =none
 b_all:mg "all" =none
 b_tuple:mg "tuple" =none
 b_len:mg "len" =none
 b_sorted:mg "sorted" =none
 b_set:mg "set" =none
 b_range:mg "range" =none
 b_divmod:mg "divmod" =none
 b_list:mg "list" =none
 b_str:mg "str" =none
 b_enumerate:mg "enumerate" =none
 b_dict:mg "dict" =none
 c_LETTERS: ∃t,mg "LETTERS" =some (.str "abcdefghijklmnopqrstuvwxyz" t)
 c_MOST_LETTERS: ∃t,mg "MOST_LETTERS" =some (.int 8 t)
 c_MOST_PLACES: ∃t,mg "MOST_PLACES" =some (.int 9 t)
 c_MOST_RANKED: ∃t,mg "MOST_RANKED" =some (.int 60 t)
 f_Ranks_rank:FldN K "Ranks" "rank"
 f_Reckoning_rank:FldN K "Reckoning" "rank"
 f_Reckoning_ways:FldN K "Reckoning" "ways"
def jeN:FnScope ["_law_cell", "_law_bound"] ["_law_cell"] (jh wG):=fsc
def jeQ:FnScope ["_law_number", "_law_letters", "_law_size", "_law_first", "_law_k", "_law_at", "_law_names_here", "_law_sign"] ["_law_number"] (jh wC):=fsc
def jeU:FnScope ["_law_number", "_law_some", "_law_left", "_law_found", "_law_k"] ["_law_number", "_law_some"] (jh ql):=fsc
def jeO:FnScope ["_law_number", "_law_names_here", "_law_some"] ["_law_number"] (jh wF):=fsc
def je2:FnScope ["thing"] ["thing"] (jh yK):=fsc
def je3:FnScope ["thing"] ["thing"] (jh x8):=fsc
def je1:FnScope ["thing"] ["thing"] (jh yL):=fsc
def jeW:FnScope ["thing"] ["thing"] (jh xt):=fsc
def jeE:FnScope ["self", "heads"] ["self", "heads"] (jh qu):=fsc
def jeL:FnScope ["_law_script", "_law_k"] ["_law_script", "_law_k"] (jh zE):=fsc
def jeT:FnScope ["_law_number", "_law_some", "_law_leaves", "_law_deep", "_law_places", "_law_k", "_law_pick", "_law_name", "_law_many", "_law_place"] ["_law_number", "_law_some", "_law_leaves", "_law_deep"] (jh xv):=fsc
def je5:FnScope ["met", "known", "found"] ["met", "known"] (jh x6):=fsc
def je8:FnScope ["term"] ["term"] (jh Qb):=fsc
def je7:FnScope ["term", "found", "place"] ["term"] (jh Wc):=fsc
def jeZ:FnScope ["term"] ["term"] (jh Ko):=fsc
def jeV:FnScope ["terms", "met", "term", "found"] ["terms"] (jh xu):=fsc
def jeI:FnScope ["self", "one", "other", "number", "place"] ["self", "one", "other"] (jh j5):=fsc
def jeH:FnScope ["self", "one", "other", "place"] ["self", "one", "other"] (jh j6):=fsc
def jeY:FnScope ["one", "other", "number"] ["one", "other"] (jh zD):=fsc
def jeJ:FnScope ["self", "one", "other", "number", "place"] ["self", "one", "other"] (jh qh):=fsc
def jeK:FnScope ["self", "one", "other", "pair"] ["self", "one", "other"] (jh qF):=fsc
def jeG:FnScope ["self", "rank"] ["self", "rank"] (jh jV):=fsc
def jeF:FnScope ["self", "one", "other"] ["self", "one", "other"] (jh zc):=fsc
def jeR:FnScope ["_law_term_here", "_law_found", "_law_place"] ["_law_term_here"] (jh wB):=fsc
def jeM:FnScope ["_law_term_here", "_law_filling"] ["_law_term_here", "_law_filling"] (jh zX):=fsc
def jeS:FnScope ["_law_number", "_law_some", "_law_term_here", "_law_leaf", "_law_greater", "_law_places", "_law_name", "_law_many"] ["_law_number", "_law_some", "_law_term_here", "_law_leaf"] (jh wA):=fsc
def jeP:FnScope ["_law_paper", "_law_some", "_law_number", "_law_one", "_law_other", "_law_filling", "_law_leaf", "_law_here", "_law_there"] ["_law_paper", "_law_some", "_law_number", "_law_one", "_law_other", "_law_filling"] (jh wE):=fsc
def je4:FnScope ["_law_script", "_law_first", "_law_some", "_law_holes", "_law_paper", "_law_cell", "_law_leaves", "_law_filling", "_law_blank", "_law_found", "_law_number", "_law_way", "_law_one", "_law_parts_here", "_law_other", "_law_term_here"] ["_law_script"] (jh Qc):=fsc
section
variable (P:aaL) (w:World) (K:aaa) (mg:W9) (base:Heap) (k:Nat)
abbrev wX (f:TW):Prop:=Av P w K mg base k "_law_great" ["_law_cell"] true f
abbrev wU (f:TW):Prop:=Av P w K mg base k "_law_names" ["_law_number"] true f
abbrev qp (f:TW):Prop:=Av P w K mg base k "_law_turned_about" ["_law_number", "_law_some"] true f
abbrev wW (f:TW):Prop:=Av P w K mg base k "_law_heads" ["_law_number"] true f
abbrev Jr (f:TW):Prop:=Av P w K mg base k "is_name" ["thing"] true f
abbrev yi (f:TW):Prop:=Av P w K mg base k "is_whole" ["thing"] true f
abbrev Js (f:TW):Prop:=Av P w K mg base k "is_head" ["thing"] true f
abbrev xI (f:TW):Prop:=Av P w K mg base k "are_ranks" ["thing"] true f
abbrev qA (f:FO):Prop:=AvK P w K mg base k "Ranks" 1 f
abbrev zM (f:TW):Prop:=Av P w K mg base k "_law_cell_at" ["_law_script", "_law_k"] false f
abbrev wl (f:TW):Prop:=Av P w K mg base k "_law_term" ["_law_number", "_law_some", "_law_leaves", "_law_deep"] true f
abbrev yh (f:TW):Prop:=Av P w K mg base k "look_for" ["met", "known"] true f
abbrev wj (f:TW):Prop:=Av P w K mg base k "places" ["term"] true f
abbrev QX (f:TW):Prop:=Av P w K mg base k "parts" ["term"] true f
abbrev Z3 (f:TW):Prop:=Av P w K mg base k "head" ["term"] true f
abbrev xJ (f:TW):Prop:=Av P w K mg base k "all_heads" ["terms"] true f
abbrev qd (f:TW):Prop:=AvM P w K mg base k "Reckoning" "by_part" ["self", "one", "other"] true f
abbrev qe (f:TW):Prop:=AvM P w K mg base k "Reckoning" "by_head" ["self", "one", "other"] true f
abbrev zL (f:TW):Prop:=Av P w K mg base k "first_unlike" ["one", "other"] false f
abbrev qj (f:TW):Prop:=AvM P w K mg base k "Reckoning" "by_row" ["self", "one", "other"] true f
abbrev jK (f:TW):Prop:=AvM P w K mg base k "Reckoning" "way" ["self", "one", "other"] true f
abbrev jZ (f:FO):Prop:=AvK P w K mg base k "Reckoning" 1 f
abbrev qz (f:TW):Prop:=AvM P w K mg base k "Ranks" "falls" ["self", "one", "other"] true f
abbrev zC (f:TW):Prop:=Av P w K mg base k "_law_parts" ["_law_term_here"] true f
abbrev qX (f:TW):Prop:=Av P w K mg base k "_law_filled" ["_law_term_here", "_law_filling"] false f
abbrev wT (f:TW):Prop:=Av P w K mg base k "_law_round" ["_law_number", "_law_some", "_law_term_here", "_law_leaf"] true f
abbrev wV (f:TW):Prop:=Av P w K mg base k "_law_holds" ["_law_paper", "_law_some", "_law_number", "_law_one", "_law_other", "_law_filling"] true f
end
section
variable {P:aaL} {w:World} {K:aaa} {mg:W9} {base:Heap} {k:Nat} {C:Addr}
variable (T:Gm K  mg)
include T
theorem Qr (d:Dx K mg "_law_great" wG ["_law_cell"]):
  wX P w K mg base (k+1) (runF true 2 (g__law_great)):=
 zT true d jeN fun f cdv A outer s H E hr=>
  (je (by exact (jG 1 jeN.nd (o_s Wo K8 (Ys ib ib) (Ys ib ib)))) (by exact (jj (jD (YM (l:= .t) xm xn (ob Wo K8 (DE.b (wR qT wo (o_s xm xn (vb 0) (Ys ib ib)) i_s)) (Ys ib ib)) (vb 1))))))
theorem Qo (d:Dx K mg "_law_names" wC ["_law_number"]):
  wU P w K mg base (k+1) (runF true 8 (g__law_names)):=
 zT true d jeQ fun f cdv A outer s H E hr=>
  (je (by exact (jG 1 jeQ.nd (ZL (l:= .s)))) (by exact (je (by exact (jG 2 jeQ.nd (DE.s (wR qT wo i_s (o_s xm xn (vb 0) ib))))) (by exact (je (by exact (jG 0 jeQ.nd (o_s Ql Qu (vb 0) ib))) (by exact (je (by exact (jG 3 jeQ.nd (ZL (l:= .s)))) (by exact (je (by exact (zy aa2 rfl (Jg rfl T.b_range (jb (vb 2) jf)) (jo 4 jeQ.nd) (je (by exact (jG 3 jeQ.nd (DE.s (wR qT wo (dv 3) (qo (dv 1) (Jx (vb 0) ib)))))) (by exact (jj (jG 0 jeQ.nd (o_s Ql Qu (vb 0) ib))))))) (by exact (je (by exact (jG 5 jeQ.nd (o_s xm xn (vb 0) (vb 2)))) (by exact (je (by exact (xo 6 jeQ.nd (qR jf))) (by exact (je (by exact (zy aa2 rfl (Jg rfl T.b_range (jb ib jf)) (jo 4 jeQ.nd) (je (by exact (jG 7 jeQ.nd (qo (dv 1) (Jx (DE.b (wR qT wo (jex (l':= .s) PySem.F.slot_str_find PySem.F.type_str_find jaS jaV (vb 1) (jb (by exact (DE.b (qo (dv 3) (vb 5)))) jf)) (o_s Wo K8 ib (vb 4)))) ib)))) (by exact (jj (Je 6 (DE.s (wR qT wo (DE.s (wR qT wo (DE.s (we (dv 3) xF (wd (vb 5)))) (dv 7))) (DE.s (we (dv 3) (wd (DE.b (wR qT wo (dv 5) i_s))) xF)))))))))) (by exact (jj (QL 6))))))))))))))))))
theorem xj (d:Dx K mg "_law_turned_about" ql ["_law_number", "_law_some"]):
  qp P w K mg base (k+1) (runF true 5 (g__law_turned_about)):=
 zT true d jeU fun f cdv A outer s H E hr=>
  (je (by exact (xo 2 jeU.nd (Ji ZS jbA rfl T.b_list JZ (jb (dv 1) jf)))) (by exact (je (by exact (xo 3 jeU.nd (qR jf))) (by exact (je (by exact (XS 64 aa2 (qc (K1 (Room.u200 hr)) jaN (db 2) (DE.b (qR jf))) (je (by exact (xp (DE.s (xW wg xZ rfl T.b_divmod zB (jb (dv 0) (jb (by exact (jO (l':= .s) jP zA rfl T.b_len abi (jb (db 2) jf))) jf)))) (wp rfl (jo 0 jeU.nd) (jo 4 jeU.nd)))) (by exact (jj (vv 3 2 (vb 4))))))) (by exact (jj (QL 3))))))))
theorem Qq (d:Dx K mg "_law_heads" wF ["_law_number"]) (Z4:wU P w K mg base k wL) (xK:qp P w K mg base k qm):
  wW P w K mg base (k+1) (runF true 3 (g__law_heads wL qm)):=
 zT true d jeO fun f cdv A outer s H E hr=>
  (je (by exact (jG 1 jeO.nd (DE.s (by exact Av.callT Z4 hr (jb (dv 0) jf))))) (by exact (je (by exact (jG 0 jeO.nd (o_s yz yA (vb 0) (Ys ib ib)))) (by exact (je (by exact (xo 2 jeO.nd (qR (jb (by exact (DE.s (qQ (jb (by exact (qo (dv 1) ib)) (jb i_s jf))))) (jb (by exact (DE.s (qQ (jb (by exact (qo (dv 1) ib)) (jb i_s jf))))) (jb (by exact (DE.s (qQ (jb (by exact (qo (dv 1) ib)) (jb i_s jf))))) (jb (by exact (DE.s (qQ (jb (by exact (qo (dv 1) ib)) (jb (by exact (o_s xm xn (vb 0) ib)) jf))))) (jb (by exact (DE.s (qQ (jb (by exact (qo (dv 1) ib)) (jb (by exact (o_s xm xn (Yt (vb 0) ib) ib)) jf))))) jf)))))))) (by exact (je (by exact (Je 2 (DE.s (qQ (jb (by exact (qo (dv 1) (Jx (Yt (vb 0) ib) ib))) (jb i_s jf)))))) (by exact (jj (uE 2 (jD (by exact Av.callT xK hr (jb (by exact (o_s yz yA (vb 0) ib)) (jb (dv 2) jf))))))))))))))
theorem Yp (d:Dx K mg "is_name" yK ["thing"]):
  Jr P w K mg base (k+1) (runF true 1 (g_is_name)):=
 zT true d je2 fun f cdv A outer s H E hr=>
  (je (by exact (qW (DW.dt (Jz (zQ (qP (qV (l':= .b) "str" "str" kQ (vb 0) rfl T.b_isinstance rfl T.b_str PyProof.Rows.boot_str))) (xV (zQ (vk ky kD ky kD ib (jO (l':= .b) jP zA rfl T.b_len abi (jb (vb 0) jf)) (gi rfl T.c_MOST_LETTERS)))))) (jj (jD (wS (l:= .t)))) jI)) (by exact (jj (jD (jO (l':= .t) (Jm rfl) UF rfl T.b_all adT (jb (by exact (DE.b (Jh false ["sign", "."] 1 [] (yf none rfl rfl (by decide+kernel) trivial rfl) rfl (zj (dv 0)) (fun C s₂ H₂ fp nd₂=>⟨(jo 0 nd₂),Jd,(XU (l:= .s) K3 jcR (vb 0) (gst rfl T.c_LETTERS))⟩)))) jf))))))
theorem Wq (d:Dx K mg "is_whole" x8 ["thing"]):
  yi P w K mg base (k+1) (runF true 1 (g_is_whole)):=
 zT true d je3 fun f cdv A outer s H E hr=>
  (jj (jD (XV (qV (l':= .b) "int" "int" xQ (vb 0) rfl T.b_isinstance rfl T.b_int acr) (XT (jdw (l:= .t) (qV (l':= .b) "bool" "bool" Zv (vb 0) rfl T.b_isinstance rfl T.b_bool aeR))))))
theorem Yq (d:Dx K mg "is_head" yL ["thing"]) (US:Jr P w K mg base k Jb) (YX:yi P w K mg base k ye):
  Js P w K mg base (k+1) (runF true 1 (g_is_head Jb ye)):=
 zT true d je1 fun f cdv A outer s H E hr=>
  (je (by exact (qW (DW.dt (Jz (zQ (qP (qV (l':= .b) "tuple" "tuple" qI (vb 0) rfl T.b_isinstance rfl T.b_tuple aaX))) (xV (qc (K1 (Room.u200 hr)) jaN (jO (l':= .b) jP zA rfl T.b_len abi (jb (vb 0) jf)) ib)))) (jj (jD (wS (l:= .t)))) jI)) (by exact (jj (jD (XV (DE.b (by exact Av.callT US hr (jb (by exact (qo (dv 0) ib)) jf))) (XV (DE.b (by exact Av.callT YX hr (jb (by exact (qo (dv 0) ib)) jf))) (XT (vD (l:= .t) ky kD ky kD ib (DE.b (qo (dv 0) ib)) (gi rfl T.c_MOST_PLACES)))))))))
theorem Zl (d:Dx K mg "are_ranks" xt ["thing"]) (UT:Js P w K mg base k Jc):
  xI P w K mg base (k+1) (runF true 1 (g_are_ranks Jc)):=
 zT true d jeW fun f cdv A outer s H E hr=>
  (je (by exact (qW (DW.dt (Jz (zQ (qP (qV (l':= .b) "list" "list" Vy (vb 0) rfl T.b_isinstance rfl T.b_list JZ))) (xV (qc jcL jcT (jO (l':= .b) jP zA rfl T.b_len abi (jb (vb 0) jf)) (gi rfl T.c_MOST_RANKED))))) (jj (jD (wS (l:= .t)))) jI)) (by exact (jj (jD (XV (jO (l':= .b) (Jm rfl) UF rfl T.b_all adT (jb (by exact (DE.b (Jh false ["found", "."] 1 [] (yf none rfl rfl (by decide+kernel) trivial rfl) rfl (zj (dv 0)) (fun C s₂ H₂ fp nd₂=>⟨(jo 0 nd₂),Jd,(DE.s (by exact Av.callT UT hr (jb (dv 0) jf)))⟩)))) jf)) (XT (XU (l:= .t) (JN (Room.u200 hr)) Yr (Uw rfl (Room.u200 hr) (vb 0) rfl T.b_len rfl T.b_set) (jO (l':= .b) jP zA rfl T.b_len abi (jb (vb 0) jf)))))))))
theorem xy (d:Dm K C "__init__" "Ranks.__init__" qu ["self", "heads"]) (hC:aaw K aar "Ranks" =some (some (.ref C))/\Cls K C) (hmg:mg "Ranks" =some (.ref C)) (mk:acA K C=true/\aaY K (.ref C)=true) (WZ:xI P w K mg base k xC):
  qA P w K mg base (k+1) (runJ 2 1 (g_Ranks_o___init__ xC)):=
 uO d hC hmg mk jeE rfl (by decide) fun f cdv A outer s H E hr=>
  (ZJ (by exact (jdt (zQ (qP (DE.b (by exact Av.callT WZ hr (jb (dv 1) jf))))) (QJ Um) vm)) (by exact (QJ (QK (i:=0) T.f_Ranks_rank (by exact (DE.s (Ji (YS rfl (jdc hr)) vK rfl T.b_dict YT (jb (by exact (DE.s (Jh false ["number", "found", "."] 2 [] (yf none rfl rfl (by decide+kernel) trivial rfl) rfl (jbo rfl T.b_enumerate (dv 1)) (fun C s₂ H₂ fp nd₂=>⟨(wp rfl (jo 0 nd₂) (jo 1 nd₂)),Jd,(DE.s (qQ (jb (dv 1) (jb (dv 0) jf))))⟩)))) jf))))))))
theorem yU (d:Dx K mg "_law_cell_at" zE ["_law_script", "_law_k"]):
  zM P w K mg base (k+1) (runF false 2 (g__law_cell_at)):=
 zT false d jeL fun f cdv A outer s H E hr=>
  (je (by exact (qW (qc jcI jcP (vb 1) (jO (l':= .b) jP zA rfl T.b_len abi (jb (vb 0) jf))) (jj (WO (qo (dv 0) (vb 1)))) jI)) (by exact (jj (jD (Ux (l:= .t))))))
theorem Zn (d:Dx K mg "_law_term" xv ["_law_number", "_law_some", "_law_leaves", "_law_deep"]) (zn:wl P w K mg base k jT):
  wl P w K mg base (k+1) (runF true 10 (g__law_term jT)):=
 zT true d jeT fun f cdv A outer s H E hr=>
  (je (by exact (xp (DE.s (xW wg xZ rfl T.b_divmod zB (jb (dv 0) (jb (by exact (DE.s (wR qT wo (jO (l':= .s) jP zA rfl T.b_len abi (jb (vb 1) jf)) i_s))) jf)))) (wp rfl (jo 0 jeT.nd) (jo 6 jeT.nd)))) (by exact (je (by exact (qW (DW.dt (Jz (qc jcI jcP (vb 6) ib) (xV (qc (JN (Room.u200 hr)) Yr (vb 3) ib)))) (je (by exact (xp (DE.s (xW wg xZ rfl T.b_divmod zB (jb (dv 0) (jb (by exact (jO (l':= .s) jP zA rfl T.b_len abi (jb (vb 2) jf))) jf)))) (wp rfl (jo 0 jeT.nd) (jo 5 jeT.nd)))) (by exact (jj (jD (qQ (jb (by exact (qo (dv 2) (vb 5))) (jb (dv 0) jf))))))) jI)) (by exact (je (by exact (xp (qo (dv 1) (ob KZ K6 (vb 6) ib)) (wp rfl (jo 7 jeT.nd) (jo 8 jeT.nd)))) (by exact (je (by exact (xo 4 jeT.nd (qR jf))) (by exact (je (by exact (zy aa2 rfl (Jg rfl T.b_range (jb (vb 8) jf)) (jo 5 jeT.nd) (je (by exact (xp (DE.s (by exact Av.callT zn hr (jb (dv 0) (jb (dv 1) (jb (dv 2) (jb (by exact (o_s KZ K6 (vb 3) ib)) jf)))))) (wp rfl (jo 9 jeT.nd) (jo 0 jeT.nd)))) (by exact (jj (Je 4 (dv 9))))))) (by exact (jj (jD (qQ (jb (by exact (DE.chk (l':= .s) (JY wf QQ rfl T.b_tuple aaX (jb (by exact (uI qT wo (DE.b (qR (jb (dv 7) jf))) (db 4))) jf)))) (jb (dv 0) jf)))))))))))))))
theorem Wp (d:Dx K mg "look_for" x6 ["met", "known"]):
  yh P w K mg base (k+1) (runF true 3 (g_look_for)):=
 zT true d je5 fun f cdv A outer s H E hr=>
  (jj (zy aa2 rfl (zj (dv 0)) (jo 2 je5.nd) (jj (qW (qc (jaF (YG hr)) jaM (vb 2) (vb 1)) Ul jI))))
theorem K4 (d:Dx K mg "places" Qb ["term"]):
  wj P w K mg base (k+1) (runF true 1 (g_places)):=
 zT true d je8 fun f cdv A outer s H E hr=>
  (jj (jD (uJ (qP (qV (l':= .b) "tuple" "tuple" qI (vb 0) rfl T.b_isinstance rfl T.b_tuple aaX)) (we (dv 0) (wd ib) xF) (qQ jf))))
theorem kA (d:Dx K mg "parts" Wc ["term"]) (qk:wj P w K mg base k jB) (WY:QX P w K mg base k xB):
  QX P w K mg base (k+1) (runF true 3 (g_parts jB xB)):=
 zT true d je7 fun f cdv A outer s H E hr=>
  (je (by exact (xo 1 je7.nd (qR (jb (dv 0) jf)))) (by exact (je (by exact (zy aa2 rfl (zj (DE.s (by exact Av.callT qk hr (jb (dv 0) jf)))) (jo 2 je7.nd) (jj (ZK 1 (DE.s (by exact Av.callT WY hr (jb (dv 2) jf))))))) (by exact (jj (QL 1))))))
theorem jaI (d:Dx K mg "head" Ko ["term"]):
  Z3 P w K mg base (k+1) (runF true 1 (g_head)):=
 zT true d jeZ fun f cdv A outer s H E hr=>
  (jj (jD (uJ (qP (qV (l':= .b) "tuple" "tuple" qI (vb 0) rfl T.b_isinstance rfl T.b_tuple aaX)) (qQ (jb (by exact (qo (dv 0) ib)) (jb (by exact (o_s KZ K6 (jO (l':= .b) jP zA rfl T.b_len abi (jb (vb 0) jf)) ib)) jf))) (zR (l:= .t)))))
theorem Zm (d:Dx K mg "all_heads" xu ["terms"]) (WY:QX P w K mg base k xB) (Jt:Z3 P w K mg base k zP):
  xJ P w K mg base (k+1) (runF true 4 (g_all_heads xB zP)):=
 zT true d jeV fun f cdv A outer s H E hr=>
  (je (by exact (xo 1 jeV.nd Uz)) (by exact (je (by exact (zy aa2 rfl (zj (dv 0)) (jo 2 jeV.nd) (jj (zy aa2 rfl (zj (DE.s (by exact Av.callT WY hr (jb (dv 2) jf)))) (jo 3 jeV.nd) (jj (qW (qP (qV (l':= .b) "tuple" "tuple" qI (vb 3) rfl T.b_isinstance rfl T.b_tuple aaX)) (jj (vp 1 (YG hr) (DE.b (by exact Av.callT Jt hr (jb (dv 3) jf))) (wS (l:= .s)))) jI)))))) (by exact (jj (uE 1 (jD (xW (ZR rfl) YQ rfl T.b_sorted ZV (jb (dv 1) jf)))))))))
theorem wq (d:Dm K C "by_part" "Reckoning.by_part" j5 ["self", "one", "other"]) (hC:aaw K aar "Reckoning" =some (some (.ref C))/\Cls K C) (qk:wj P w K mg base k jB) (jy:jK P w K mg base k ji):
  qd P w K mg base (k+1) (runF true 5 (g_Reckoning_o_by_part jB ji)):=
 Z1 true d hC jeI fun f cdv A outer s H E hr=>
  (je (by exact (zy aa2 rfl (vB rfl T.b_enumerate (by exact (DE.s (by exact Av.callT qk hr (jb (dv 1) jf))))) (wp rfl (jo 3 jeI.nd) (jo 4 jeI.nd)) (jj (qW (DW.dt (Jz (qc (JN (Room.u200 hr)) Yr (vb 4) (vb 2)) (xV (qc K0 K7 (DE.b (by exact AvM.callT jy hr (dv 0) (by exact (jb (dv 4) (jb (dv 2) jf))))) (zR (l:= .b)))))) (jj (jD (qQ (jb (ZL (l:= .s)) (jb (dv 3) jf))))) jI)))) (by exact (jj (jD (zR (l:= .t))))))
theorem wt (d:Dm K C "by_head" "Reckoning.by_head" j6 ["self", "one", "other"]) (hC:aaw K aar "Reckoning" =some (some (.ref C))/\Cls K C) (qk:wj P w K mg base k jB) (Jt:Z3 P w K mg base k zP) (jy:jK P w K mg base k ji):
  qe P w K mg base (k+1) (runF true 4 (g_Reckoning_o_by_head jB zP ji)):=
 Z1 true d hC jeH fun f cdv A outer s H E hr=>
  (je (by exact (qW (DW.dt (Jz (zQ (qP (qV (l':= .b) "tuple" "tuple" qI (vb 1) rfl T.b_isinstance rfl T.b_tuple aaX))) (xV (zQ (qP (qV (l':= .b) "tuple" "tuple" qI (vb 2) rfl T.b_isinstance rfl T.b_tuple aaX)))))) (jj (jD (zR (l:= .t)))) jI)) (by exact (je (by exact (qW (qc jea jec (DE.b (Uy (YG hr) (by exact (QN 0 T.f_Reckoning_rank)) (by exact (DE.b (by exact Av.callT Jt hr (jb (dv 1) jf)))))) (DE.b (Uy (YG hr) (by exact (QN 0 T.f_Reckoning_rank)) (by exact (DE.b (by exact Av.callT Jt hr (jb (dv 2) jf))))))) (jj (jD (zR (l:= .t)))) jI)) (by exact (je (by exact (zy aa2 rfl (zj (DE.s (by exact Av.callT qk hr (jb (dv 2) jf)))) (jo 3 jeH.nd) (jj (qW (qc K2 K9 (DE.b (by exact AvM.callT jy hr (dv 0) (by exact (jb (dv 1) (jb (dv 3) jf))))) (zR (l:= .b))) (jj (jD (zR (l:= .t)))) jI)))) (by exact (jj (jD (qQ (jb (ZL (l:= .s)) jf))))))))))
theorem yT (d:Dx K mg "first_unlike" zD ["one", "other"]) (qk:wj P w K mg base k jB):
  zL P w K mg base (k+1) (runF false 3 (g_first_unlike jB)):=
 zT false d jeY fun f cdv A outer s H E hr=>
  (je (by exact (jG 2 jeY.nd i_s)) (by exact (je (by exact (XS 64 aa2 (qc (JN (Room.u200 hr)) Yr (DE.b (qo (DE.s (by exact Av.callT qk hr (jb (dv 0) jf))) (vb 2))) (DE.b (qo (DE.s (by exact Av.callT qk hr (jb (dv 1) jf))) (vb 2)))) (jj (jdu 2 jeY.nd ib jdb)))) (by exact (jj (WO (dv 2)))))))
theorem wH (d:Dm K C "by_row" "Reckoning.by_row" qh ["self", "one", "other"]) (hC:aaw K aar "Reckoning" =some (some (.ref C))/\Cls K C) (JC:zL P w K mg base k zG) (jy:jK P w K mg base k ji) (qk:wj P w K mg base k jB) (Jt:Z3 P w K mg base k zP):
  qj P w K mg base (k+1) (runF true 5 (g_Reckoning_o_by_row zG ji jB zP)):=
 Z1 true d hC jeJ fun f cdv A outer s H E hr=>
  (je (by exact (qW (DW.dt (Jz (zQ (qP (qV (l':= .b) "tuple" "tuple" qI (vb 1) rfl T.b_isinstance rfl T.b_tuple aaX))) (Jz (qc (K1 (Room.u200 hr)) jaN (DE.b (by exact Av.callT Jt hr (jb (dv 1) jf))) (DE.b (by exact Av.callT Jt hr (jb (dv 2) jf)))) (xV (qc (JN (Room.u200 hr)) Yr (vb 1) (vb 2)))))) (jj (jD (zR (l:= .t)))) jI)) (by exact (je (by exact (jG 3 jeJ.nd (by exact Av.call JC hr (jb (dv 1) (jb (dv 2) jf))))) (by exact (je (by exact (qW (qc K2 K9 (DE.b (by exact AvM.callT jy hr (dv 0) (by exact (jb (by exact (qo (DE.s (by exact Av.callT qk hr (jb (dv 1) jf))) (vb 3))) (jb (by exact (qo (DE.s (by exact Av.callT qk hr (jb (dv 2) jf))) (vb 3))) jf))))) (zR (l:= .b))) (jj (jD (zR (l:= .t)))) jI)) (by exact (je (by exact (zy aa2 rfl (zj (DE.s (we (DE.s (by exact Av.callT qk hr (jb (dv 2) jf))) (wd (DE.b (wR qT wo (dv 3) i_s))) xF))) (jo 4 jeJ.nd) (jj (qW (qc K2 K9 (DE.b (by exact AvM.callT jy hr (dv 0) (by exact (jb (dv 1) (jb (dv 4) jf))))) (zR (l:= .b))) (jj (jD (zR (l:= .t)))) jI)))) (by exact (jj (jD (qQ (jb (ZL (l:= .s)) (jb (dv 3) jf)))))))))))))
theorem xO (d:Dm K C "way" "Reckoning.way" qF ["self", "one", "other"]) (hC:aaw K aar "Reckoning" =some (some (.ref C))/\Cls K C) (wZ:qd P w K mg base k j8) (w4:qe P w K mg base k j9) (xk:qj P w K mg base k qi):
  jK P w K mg base (k+1) (runF true 4 (g_Reckoning_o_way j8 j9 qi)):=
 Z1 true d hC jeK fun f cdv A outer s H E hr=>
  (je (by exact (jG 3 jeK.nd (DE.s (qQ (jb (dv 1) (jb (dv 2) jf)))))) (by exact (vn (i:=0) (j:=3) (Room.u200 hr) T.f_Reckoning_ways (by exact (uH (by exact (DE.b (by exact AvM.callT wZ hr (dv 0) (by exact (jb (dv 1) (jb (dv 2) jf)))))) (by exact (uH (by exact (DE.b (by exact AvM.callT w4 hr (dv 0) (by exact (jb (dv 1) (jb (dv 2) jf)))))) (by exact (XT (DE.b (by exact AvM.callT xk hr (dv 0) (by exact (jb (dv 1) (jb (dv 2) jf))))))))))))))
theorem zZ (d:Dm K C "__init__" "Reckoning.__init__" jV ["self", "rank"]) (hC:aaw K aar "Reckoning" =some (some (.ref C))/\Cls K C) (p:MP) (hmg:mg "Reckoning" =some (.ref C)) (mk:acA K C=true/\aaY K (.ref C)=true):
  jZ P w K mg base (k+1) (runJ 2 1 (g_Reckoning_o___init__ p)):=
 uO d hC hmg mk jeG rfl (by decide) fun f cdv A outer s H E hr=>
  (ZJ (by exact (QK (i:=0) T.f_Reckoning_rank (dv 1))) (by exact (QJ (QK (i:=0) T.f_Reckoning_ways (DE.s (jbp p))))))
theorem yq (d:Dm K C "falls" "Ranks.falls" zc ["self", "one", "other"]) (hC:aaw K aar "Ranks" =some (some (.ref C))/\Cls K C) (YW:yh P w K mg base k yd) (W0:xJ P w K mg base k xD) (jy:jK P w K mg base k ji) {qw:Nat} (wv: ∀p:MP,jZ P w K mg base qw (jX p)) (wc:qw+1<=k):
  qz P w K mg base (k+1) (runF true 3 (g_Ranks_o_falls yd xD ji jX)):=
 Z1 true d hC jeF fun f cdv A outer s H E hr=>
  (je (by exact (jbm (DE.b (by exact Av.callT YW hr (jb (by exact (DE.s (by exact Av.callT W0 hr (jb (by exact (DE.s (qR (jb (dv 1) (jb (dv 2) jf))))) jf)))) (jb (by exact (QN 0 T.f_Ranks_rank)) jf)))))) (by exact (jj (jD (XU (l:= .t) K0 K7 (DE.b (DE.pick pk_Reckoning fun p=>(by exact AvM.callT jy hr (by exact (DE.s (by exact AvK.make (wv p) (hr.mono wc) (by exact (jb (by exact (QN 0 T.f_Ranks_rank)) jf))))) (by exact (jb (dv 1) (jb (dv 2) jf)))))) (zR (l:= .b)))))))
theorem Qn (d:Dx K mg "_law_parts" wB ["_law_term_here"]) (wY:zC P w K mg base k j7):
  zC P w K mg base (k+1) (runF true 3 (g__law_parts j7)):=
 zT true d jeR fun f cdv A outer s H E hr=>
  (je (by exact (xo 1 jeR.nd (qR (jb (dv 0) jf)))) (by exact (je (by exact (qW (zQ (qP (qV (l':= .b) "int" "int" xQ (vb 0) rfl T.b_isinstance rfl T.b_int acr))) (jj (zy aa2 rfl (zj (DE.s (we (dv 0) (wd ib) xF))) (jo 2 jeR.nd) (jj (ZK 1 (DE.s (by exact Av.callT wY hr (jb (dv 2) jf))))))) jI)) (by exact (jj (QL 1))))))
theorem Jw (d:Dx K mg "_law_filled" zX ["_law_term_here", "_law_filling"]) (qY:qX P w K mg base k jN):
  qX P w K mg base (k+1) (runF false 2 (g__law_filled jN)):=
 zT false d jeM fun f cdv A outer s H E hr=>
  (je (by exact (qW (qP (qV (l':= .b) "int" "int" xQ (vb 0) rfl T.b_isinstance rfl T.b_int acr)) (jj (WO (jbs (YG hr) (dv 1) (vb 0)))) jI)) (by exact (jj (jD (Ji wf QQ rfl T.b_tuple aaX (jb (by exact (DE.s (wR qT wo (DE.s (qR (jb (by exact (qo (dv 0) ib)) jf))) (DE.s (Jh false ["_law_place", "_law_filling", "."] 1 [1] (yf none rfl rfl (by decide+kernel) ⟨rfl,trivial⟩ rfl) rfl (zj (DE.s (we (dv 0) (wd ib) xF))) (fun C s₂ H₂ fp nd₂=>⟨(jo 0 nd₂),Jd,(by exact Av.call qY hr (jb (dv 0) (jb (dv 1) jf)))⟩)))))) jf))))))
theorem Qm (d:Dx K mg "_law_round" wA ["_law_number", "_law_some", "_law_term_here", "_law_leaf"]):
  wT P w K mg base (k+1) (runF true 8 (g__law_round)):=
 zT true d jeS fun f cdv A outer s H E hr=>
  (je (by exact (vq 4 jeS.nd false ["_law_one", "."] 1 [] (yf none rfl rfl (by decide+kernel) trivial rfl) rfl (zj (dv 1)) (fun C s₂ H₂ fp nd₂=>⟨(jo 0 nd₂),(jbl (qc jcL jcT (DE.b (qo (dv 0) ib)) ib)),(dv 0)⟩))) (by exact (je (by exact (xp (qo (dv 4) (Jx (vb 0) (jO (l':= .b) jP zA rfl T.b_len abi (jb (vb 4) jf)))) (wp rfl (jo 6 jeS.nd) (jo 7 jeS.nd)))) (by exact (je (by exact (xo 5 jeS.nd (wR jcG jcN (DE.s (qR (jb (dv 3) jf))) (dv 7)))) (by exact (je (by exact (vo 5 (Jx (ob Ql Qu (vb 0) ib) (vb 7)) (dv 2))) (by exact (jj (jD (DE.chk (l':= .t) (JY wf QQ rfl T.b_tuple aaX (jb (by exact (uI qT wo (DE.b (qR (jb (dv 6) jf))) (db 5))) jf)))))))))))))
theorem Qp (d:Dx K mg "_law_holds" wE ["_law_paper", "_law_some", "_law_number", "_law_one", "_law_other", "_law_filling"]) (jL:qz P w K mg base k ju) (qY:qX P w K mg base k jN) (ym:wT P w K mg base k zw):
  wV P w K mg base (k+1) (runF true 9 (g__law_holds ju jN zw)):=
 zT true d jeP fun f cdv A outer s H E hr=>
  (je (by exact (qW (qc Qk Qt (DE.b (by exact AvM.callT jL hr (dv 0) (by exact (jb (dv 4) (jb (dv 3) jf))))) (wS (l:= .b))) (jj (jD (wS (l:= .t)))) jI)) (by exact (je (by exact (qW (qc Qk Qt (DE.b (by exact AvM.callT jL hr (dv 0) (by exact (jb (by exact (by exact Av.call qY hr (jb (dv 3) (jb (dv 5) jf)))) (jb (by exact (by exact Av.call qY hr (jb (dv 4) (jb (dv 5) jf)))) jf))))) (wS (l:= .b))) (jj (jD (wS (l:= .t)))) jI)) (by exact (je (by exact (zy aa2 rfl (zj (DE.s (qR (jb i_s (jb (by exact (DE.s (qQ (jb (by exact (qo (qo (dv 1) (Jx (ob Ql Qu (vb 2) ib) (jO (l':= .b) jP zA rfl T.b_len abi (jb (vb 1) jf)))) ib)) jf)))) jf))))) (jo 6 jeP.nd) (jj (qW (DW.dt (Jz (qP (qV (l':= .b) "int" "int" xQ (vb 6) rfl T.b_isinstance rfl T.b_int acr)) (xV (qc (jcK (Room.u200 hr)) (jcS false) (DE.b (qQ (jb (by exact (qo (dv 6) ib)) (jb i_s jf)))) (vb 1))))) (je (by exact (jG 7 jeP.nd (DE.s (by exact Av.callT ym hr (jb (dv 2) (jb (dv 1) (jb (dv 3) (jb (dv 6) jf)))))))) (by exact (je (by exact (jG 8 jeP.nd (DE.s (by exact Av.callT ym hr (jb (dv 2) (jb (dv 1) (jb (dv 4) (jb (dv 6) jf)))))))) (by exact (jj (qW (qc Qk Qt (DE.b (by exact AvM.callT jL hr (dv 0) (by exact (jb (dv 7) (jb (dv 8) jf))))) (wS (l:= .b))) (jj (jD (wS (l:= .t)))) jI)))))) jI)))) (by exact (jj (jD (wS (l:= .t))))))))))
theorem jcM {f:Addr} {fd:ab1} (Fu:Fun K "law" "law" Qc f fd) (yn:wX P w K mg base k zx) (Z6:wW P w K mg base k wN) {zg:Nat} (x4:qA P w K mg base zg qy) (xA:zg+1<=k) (JD:zM P w K mg base k zH) (zn:wl P w K mg base k jT) (jL:qz P w K mg base k ju) (wY:zC P w K mg base k j7) (Z5:wV P w K mg base k wM):
  FnOk P w K mg base CX0 (k+1) f fd ["_law_script"] (spF K true 1 (runF true 16 (g_law zx wN qy zH jT ju j7 wM))):=
 YJ true Fu je4 fun cdv A outer s H E hr=>
  (je (by exact (jG 1 je4.nd (DE.s (by exact Av.callT yn hr (jb (by exact (by exact Av.call JD hr (jb (dv 0) (jb i_s jf)))) jf))))) (by exact (je (by exact (jG 2 je4.nd (DE.s (by exact Av.callT Z6 hr (jb (dv 1) jf))))) (by exact (je (by exact (jG 3 je4.nd (DE.s (qR (jb (by exact (o_s xm xn (vb 1) ib)) (jb (by exact (o_s xm xn (Yt (vb 1) ib) ib)) (jb (by exact (qo (DE.s (qR (jb i_s (jb (by exact (o_s xm xn (vb 1) ib)) jf)))) (Jx (Yt (vb 1) (Ys ib ib)) ib))) jf))))))) (by exact (je (by exact (jG 4 je4.nd (DE.s (by exact AvK.make x4 (hr.mono xA) (jb (dv 2) jf))))) (by exact (je (by exact (zy aa2 rfl (zj (DE.s (Uv (dv 0) (wd ib) (wd ib)))) (jo 5 je4.nd) (je (by exact (xp (DE.s (xW wg xZ rfl T.b_divmod zB (jb (by exact (DE.s (by exact Av.callT yn hr (jb (dv 5) jf)))) (jb i_s jf)))) (wp rfl (jo 10 je4.nd) (jo 11 je4.nd)))) (by exact (je (by exact (xp (DE.s (by exact Av.callT zn hr (jb (dv 10) (jb (dv 2) (jb (dv 3) (jb i_s jf)))))) (wp rfl (jo 12 je4.nd) (jo 10 je4.nd)))) (by exact (je (by exact (jG 6 je4.nd (dv 3))) (by exact (je (by exact (qW (qc (JN (Room.u200 hr)) Yr (vb 11) ib) (je (by exact (jG 13 je4.nd (DE.s (by exact Av.callT wY hr (jb (dv 12) jf))))) (by exact (je (by exact (jG 6 je4.nd (DE.s (qR (jb (by exact (qo (dv 13) (Jx (vb 10) (jO (l':= .b) jP zA rfl T.b_len abi (jb (vb 13) jf))))) (jb (by exact (qo (dv 13) (Jx (Yt (vb 10) ib) (jO (l':= .b) jP zA rfl T.b_len abi (jb (vb 13) jf))))) (jb (by exact (qo (dv 13) (Jx (Yt (vb 10) ib) (jO (l':= .b) jP zA rfl T.b_len abi (jb (vb 13) jf))))) jf))))))) (by exact (jj (jG 10 je4.nd (o_s yz yA (vb 10) ib))))))) jI)) (by exact (je (by exact (xp (DE.s (by exact Av.callT zn hr (jb (dv 10) (jb (dv 2) (jb (dv 6) (jb i_s jf)))))) (wp rfl (jo 14 je4.nd) (jo 10 je4.nd)))) (by exact (je (by exact (xo 7 je4.nd vC)) (by exact (je (by exact (zy aa2 rfl (zj (dv 3)) (jo 8 je4.nd) (je (by exact (xp (DE.s (by exact Av.callT zn hr (jb (dv 10) (jb (dv 2) (jb (by exact (DE.s (qR (jb (dv 8) (jb (by exact (qo (dv 3) ib)) (jb i_s jf)))))) (jb i_s jf)))))) (wp rfl (jo 15 je4.nd) (jo 10 je4.nd)))) (by exact (jj (jbn 7 (YG hr) (vb 8) (dv 15))))))) (by exact (je (by exact (jG 9 je4.nd (DE.s (by exact AvM.callT jL hr (dv 4) (by exact (jb (dv 12) (jb (dv 14) jf))))))) (by exact (je (by exact (qW (DW.dt (uC (jds (vb 9)) (Uk (zQ (qP (by exact Av.callA Z5 hr (jb (vb 4) (jb (vb 2) (jb (vb 10) (jb (vb 12) (jb (vb 14) (jb (db 7) jf)))))))))))) (jj (jD (wS (l:= .t)))) jI)) (by exact (je (by exact (qW (DW.dt (Jz (zQ (qP (qV (l':= .b) "bool" "bool" Zv (vb 9) rfl T.b_isinstance rfl T.b_bool aeR))) (xV (qc Qk Qt (DE.b (by exact AvM.callT jL hr (dv 4) (by exact (jb (dv 12) (jb (dv 12) jf))))) (wS (l:= .b)))))) (jj (jD (wS (l:= .t)))) jI)) (by exact (jj (qW (DW.dt (uC (zQ (qP (qV (l':= .b) "int" "int" xQ (vb 12) rfl T.b_isinstance rfl T.b_int acr))) (Uk (zQ (qP (jO (l':= .b) (Jm rfl) UF rfl T.b_all adT (jb (by exact (DE.b (Jh false ["_law_place", "_law_one", "_law_paper", "."] 1 [12,4] (yf none rfl rfl (by decide+kernel) ⟨rfl,rfl,trivial⟩ rfl) rfl (zj (DE.s (we (dv 12) (wd ib) xF))) (fun C s₂ H₂ fp nd₂=>⟨(jo 0 nd₂),Jd,(XU (l:= .s) jcJ jcQ (DE.b (by exact AvM.callT jL hr (dv 2) (by exact (jb (dv 1) (jb (dv 0) jf))))) (wS (l:= .b)))⟩)))) jf))))))) (jj (jD (wS (l:= .t)))) jI)))))))))))))))))))))))) (by exact (jj (jD (wS (l:= .t))))))))))))))
end
def all_mk {l:aeY} {w:World} {K:aaa} {h:Heap} {mg:W9} {fa p27:Addr} (KX:K.In h) (G:h.Ns aar mg) (hfa:mg "law" =some (.ref fa))
  {od27 an27:Option Addr} {sl27:Array (Option Value)} {oc27 kV27 dc27 pm27 cd27 ct27:Value} {T4 T3:Addr}
  (d0:DefN K "_law_great" wG)
  (d1:DefN K "_law_names" wC)
  (d2:DefN K "_law_turned_about" ql)
  (d3:DefN K "_law_heads" wF)
  (d4:DefN K "is_name" yK)
  (d5:DefN K "is_whole" x8)
  (d6:DefN K "is_head" yL)
  (d7:DefN K "are_ranks" xt)
  (d8:DefM K T3 "__init__" "Ranks.__init__" qu)
  (d9:DefN K "_law_cell_at" zE)
  (d10:DefN K "_law_term" xv)
  (d11:DefN K "look_for" x6)
  (d12:DefN K "places" Qb)
  (d13:DefN K "parts" Wc)
  (d14:DefN K "head" Ko)
  (d15:DefN K "all_heads" xu)
  (d16:DefM K T4 "by_part" "Reckoning.by_part" j5)
  (d17:DefM K T4 "by_head" "Reckoning.by_head" j6)
  (d18:DefN K "first_unlike" zD)
  (d19:DefM K T4 "by_row" "Reckoning.by_row" qh)
  (d20:DefM K T4 "way" "Reckoning.way" qF)
  (d21:DefM K T4 "__init__" "Reckoning.__init__" jV)
  (d22:DefM K T3 "falls" "Ranks.falls" zc)
  (d23:DefN K "_law_parts" wB)
  (d24:DefN K "_law_filled" zX)
  (d25:DefN K "_law_round" wA)
  (d26:DefN K "_law_holds" wE)
  (a27:aaw K aar "law" =some (some (.ref p27))) (l27:K.lookup p27=some ⟨oc27,od27,.func (aco "law" "law" (wQ Qc) (jY Qc) (jh Qc) .none kV27 dc27 pm27 an27 cd27 ct27),sl27⟩) (c27:adA K cd27 "law" =true) (k27:aaY K (.ref p27)=true)
  (z0:aaw K aar "isinstance" =some none)
  (z1:aaw K aar "bool" =some none)
  (z2:aaw K aar "int" =some none)
  (z3:aaw K aar "all" =some none)
  (z4:aaw K aar "tuple" =some none)
  (z5:aaw K aar "len" =some none)
  (z6:aaw K aar "sorted" =some none)
  (z7:aaw K aar "set" =some none)
  (z8:aaw K aar "range" =some none)
  (z9:aaw K aar "divmod" =some none)
  (z10:aaw K aar "list" =some none)
  (z11:aaw K aar "str" =some none)
  (z12:aaw K aar "enumerate" =some none)
  (z13:aaw K aar "dict" =some none)
  (y_LETTERS: ∃t,aaw K aar "LETTERS" =some (some (.str "abcdefghijklmnopqrstuvwxyz" t)))
  (y_MOST_LETTERS: ∃t,aaw K aar "MOST_LETTERS" =some (some (.int 8 t)))
  (y_MOST_PLACES: ∃t,aaw K aar "MOST_PLACES" =some (some (.int 9 t)))
  (y_MOST_RANKED: ∃t,aaw K aar "MOST_RANKED" =some (some (.int 60 t)))
  (qr:aaw K aar "Reckoning" =some (some (.ref T4))) (qL:acI K T4 Str.empty=true) (qN:acT K T4=true) (qK:adF K T4=true) (qJ:aa6 K (.ref T4) "__setattr__" =some (some (.builtin "object.__setattr__")))
  (xU:aaw K aar "Ranks" =some (some (.ref T3))) (yx:acI K T3 Str.empty=true) (yC:acT K T3=true) (yw:adF K T3=true) (yu:aa6 K (.ref T3) "__setattr__" =some (some (.builtin "object.__setattr__")))
  (wa:aa6 K (.ref T3) "rank" =some none)
  (qH:aa6 K (.ref T4) "rank" =some none)
  (qG:aa6 K (.ref T4) "ways" =some none)
  (wI:acA K T4=true) (wJ:aaY K (.ref T4)=true)
  (Qx:acA K T3=true) (QA:aaY K (.ref T3)=true)
  : ∃fd:ab1,(∀(s:aah) (v:Value),BindsTo s fd ⟨[v],[]⟩ [("_law_script",v)])/\ ∀base:Heap,K.In base->base.Ns aar mg->FnOk l.prog w K mg base CX0 69 fa fd ["_law_script"] (spF K true 1 F_law):=by
 have e:=hfa.symm.trans (acp KX G a27);cases e;have T:Gm K  mg:=⟨aaV KX G z0,aaV KX G z1,aaV KX G z2,aaV KX G z3,aaV KX G z4,aaV KX G z5,aaV KX G z6,aaV KX G z7,aaV KX G z8,aaV KX G z9,aaV KX G z10,aaV KX G z11,aaV KX G z12,aaV KX G z13,y_LETTERS.imp fun _ h=>acp KX G h,y_MOST_LETTERS.imp fun _ h=>acp KX G h,y_MOST_PLACES.imp fun _ h=>acp KX G h,y_MOST_RANKED.imp fun _ h=>acp KX G h,⟨T3,xU,⟨yx,yC,yw,yu⟩,wa⟩,⟨T4,qr,⟨qL,qN,qK,qJ⟩,qH⟩,⟨T4,qr,⟨qL,qN,qK,qJ⟩,qG⟩⟩
 have U:=uw (st:=Qc) l27 c27 k27;have qt:aaw K aar "Reckoning" =some (some (.ref T4))/\Cls K T4:=⟨qr,qL,qN,qK,qJ⟩
 have X0:aaw K aar "Ranks" =some (some (.ref T3))/\Cls K T3:=⟨xU,yx,yC,yw,yu⟩
 refine ⟨aco "law" "law" (wQ Qc) (jY Qc) (jh Qc) .none kV27 dc27 pm27 an27 cd27 ct27,fun s v=> .of_eq rfl,fun base _ _=>?_⟩;have V0:wX l.prog w K mg base 1 F__law_great:=Qr (k:=0) T (d0.dx KX G tk1);have V1:wU l.prog w K mg base 1 F__law_names:=Qo (k:=0) T (d1.dx KX G tk1);have V2:qp l.prog w K mg base 1 F__law_turned_about:=xj (k:=0) T (d2.dx KX G tk2);have V3:wW l.prog w K mg base 2 F__law_heads:=Qq (k:=1) T (d3.dx KX G tk1) (V1.mono (by decide)) (V2.mono (by decide));have V4:Jr l.prog w K mg base 1 F_is_name:=Yp (k:=0) T (d4.dx KX G tk1);have V5:yi l.prog w K mg base 1 F_is_whole:=Wq (k:=0) T (d5.dx KX G tk1);have V6:Js l.prog w K mg base 2 F_is_head:=Yq (k:=1) T (d6.dx KX G tk1) (V4.mono (by decide)) (V5.mono (by decide));have V7:xI l.prog w K mg base 3 F_are_ranks:=Zl (k:=2) T (d7.dx KX G tk1) (V6.mono (by decide));have V8:qA l.prog w K mg base 4 F_Ranks_o___init__:=xy (k:=3) T (d8.dm tk2) X0 (acp KX G xU) ⟨Qx,QA⟩ (V7.mono (by decide));have V9:zM l.prog w K mg base 1 F__law_cell_at:=yU (k:=0) T (d9.dx KX G tk2)
 have V10: ∀n,wl l.prog w K mg base (0+n) (F__law_term n):=by
  intro n
  induction n with
  |zero=>exact vQ true (d10.dx KX G tk4)
  |succ n ih=>exact Zn (k:=0+n) T (d10.dx KX G tk4) ih
 have V11:yh l.prog w K mg base 1 F_look_for:=Wp (k:=0) T (d11.dx KX G tk2);have V12:wj l.prog w K mg base 1 F_places:=K4 (k:=0) T (d12.dx KX G tk1)
 have V13: ∀n,QX l.prog w K mg base (1+n) (F_parts n):=by
  intro n
  induction n with
  |zero=>exact vQ true (d13.dx KX G tk1)
  |succ n ih=>exact kA (k:=1+n) T (d13.dx KX G tk1) (V12.mono (by omega)) ih
 have V14:Z3 l.prog w K mg base 1 F_head:=jaI (k:=0) T (d14.dx KX G tk1);have V15:xJ l.prog w K mg base 66 F_all_heads:=Zm (k:=65) T (d15.dx KX G tk1) ((V13 64).mono (by decide)) (V14.mono (by decide));have V18:zL l.prog w K mg base 2 F_first_unlike:=yT (k:=1) T (d18.dx KX G tk2) (V12.mono (by decide))
 have V20: ∀n,jK l.prog w K mg base (2+2*n) (F_Reckoning_o_way n):=by
  intro n
  induction n with
  |zero=>exact jdC true (d20.dm tk3) qt
  |succ n ih=>
   have R16:qd l.prog w K mg base (2+2*n+1) (F_Reckoning_o_by_part (F_Reckoning_o_way n)):=wq (k:=2+2*n) T (d16.dm tk3) qt (V12.mono (by omega)) ih;have R17:qe l.prog w K mg base (2+2*n+1) (F_Reckoning_o_by_head (F_Reckoning_o_way n)):=wt (k:=2+2*n) T (d17.dm tk3) qt (V12.mono (by omega)) (V14.mono (by omega)) ih;have R19:qj l.prog w K mg base (2+2*n+1) (F_Reckoning_o_by_row (F_Reckoning_o_way n)):=wH (k:=2+2*n) T (d19.dm tk3) qt (V18.mono (by omega)) ih (V12.mono (by omega)) (V14.mono (by omega));exact xO (k:=2+2*n+1) T (d20.dm tk3) qt R16 R17 R19
 have V21: ∀p:MP,jZ l.prog w K mg base 1 (F_Reckoning_o___init__ p):=fun p=>zZ (k:=0) T (d21.dm tk2) qt p (acp KX G qr) ⟨wI,wJ⟩
 have V22:qz l.prog w K mg base 67 F_Ranks_o_falls:=yq (k:=66) T (d22.dm tk3) X0 (V11.mono (by decide)) (V15.mono (by decide)) ((V20 16).mono (by decide)) V21 (by decide)
 have V23: ∀n,zC l.prog w K mg base (0+n) (F__law_parts n):=by
  intro n
  induction n with
  |zero=>exact vQ true (d23.dx KX G tk1)
  |succ n ih=>exact Qn (k:=0+n) T (d23.dx KX G tk1) ih
 have V24: ∀n,qX l.prog w K mg base (0+n) (F__law_filled n):=by
  intro n
  induction n with
  |zero=>exact vQ false (d24.dx KX G tk2)
  |succ n ih=>exact Jw (k:=0+n) T (d24.dx KX G tk2) ih
 have V25:wT l.prog w K mg base 1 F__law_round:=Qm (k:=0) T (d25.dx KX G tk4);have V26:wV l.prog w K mg base 68 F__law_holds:=Qp (k:=67) T (d26.dx KX G tk6) (V22.mono (by decide)) ((V24 16).mono (by decide)) (V25.mono (by decide));exact jcM (k:=68) T U (V0.mono (by decide)) (V3.mono (by decide)) V8 (by decide) (V9.mono (by decide)) ((V10 6).mono (by decide)) (V22.mono (by decide)) ((V23 16).mono (by decide)) (V26.mono (by decide))
end G
namespace G
open PySem PySem.Spec L2 M
open Builtin.Int (intBits)
local macro_rules | `(tactic| decreasing_trivial) => `(tactic| first
  | (dsimp only [List.set, Kf, Kc, Ke, Kb, UZ, Kd, Ka, Y9])
  | (with_reducible (show _ = _; assumption))
  | (with_reducible first | apply jA | apply wx | apply jE | apply Qd | apply jg | apply jc | apply jr | apply qg | apply wm | apply qM | apply zh | apply jx | apply qv | apply UP | apply Qj | apply zU | apply zp | apply zO | apply Uo | apply qU | apply Uu | apply zI | apply ix0 | apply ixL0 | apply ixL1 | apply Wv | apply Qy | apply Us | apply ixT1 | apply Ug | apply QU | apply UE | apply Y3)
  | ((with_reducible apply jd4); exact rfl) | ((with_reducible apply jd5); exact rfl)
  | ((with_reducible show powI _ _ = _); first | exact KP)
  | ((with_reducible show cD _ = _); exact rfl)
  | ((with_reducible show cDT _ = _); exact rfl)
  | ((with_reducible show isiD _ _ = _); exact rfl)
  | ((with_reducible show lenD _ = _); exact rfl)
  | ((with_reducible show List.contains _ _ = _); exact rfl)
  | ((with_reducible show fldD _ _ _ = _); exact rfl)
  | ((with_reducible show getElem? _ _ = _); exact rfl)
  | ((with_reducible show List.length _ = _); exact rfl)
  | ((with_reducible show wu _ = _); exact rfl)
  | ((with_reducible show Vw _ = _); exact rfl)
  | ((with_reducible show isN _ _ = _); exact rfl)
  | ((with_reducible show notN _ _ = _); exact rfl)
  | ((with_reducible show slD _ _ _ = _); exact rfl)
  | ((with_reducible show JG _ = _); exact rfl)
  | ((with_reducible show kL _ = _); exact rfl)
  | ((with_reducible show addD _ _ = _); exact rfl)
  | ((with_reducible show augI _ _ _ = _); exact rfl)
  | ((with_reducible show iOp _ _ _ _ = _); exact rfl)
  | ((with_reducible show ite _ _ _ = _); first | refine jel (by first | rfl | assumption) ?_ | refine jem (by first | rfl | assumption) ?_)
  | ((with_reducible show _ < _); first | omega | (simp only [aau, aca, aaE, aak]; omega)) | ((with_reducible show _ <= _); first | omega | (simp only [aau, aca, aaE, aak]; omega)) | ((with_reducible show _ /\ _); omega))
local macro_rules | `(tactic| decreasing_with $t) => `(tactic| (apply Eq.trans (b := Res.ok _); (repeat' decreasing_trivial); all_goals (try ($t))))
def abc:Str:= "abcdefghijklmnopqrstuvwxyz"
def cut1 (x:D) (r:List D):cutD (x::r) (some 1) none=r:=by
 have h1:HT.sIx (x::r).length 0 (some 1)=1:=by
  have:=HT.sIx_nat (x::r).length 0 1;simp at this ⊢;exact this.trans (by omega)
 unfold cutD;rw [h1,HT.sIx_none];simp
def KI {d:D} (h:jaP d=true):F_places [d]= .ok (.tup (kids d)):=by
 cases d with
 |tup ds=>
  cases ds with
  |nil=>rfl
  |cons x r=>
   show Res.ok (D.tup (cutD (x::r) (some 1) none))=_;rw [cut1];rfl
 |_=>first|rfl|cases h
def isNm:D->Bool| .str z=>(decide (1<=(z.length:Int))&&decide ((z.length:Int)<=8))&&z.cps.toList.all (fun c=>inS ⟨#[c]⟩ abc)|_=>false
def QB (z:Str):isNm (.str z)=((decide (1<=(z.length:Int))&&decide ((z.length:Int)<=8))&&z.cps.toList.all (fun c=>inS ⟨#[c]⟩ abc)):=rfl
def QT {α:Type} (l:List α) (p:α->Bool):allD [.lst (l.map fun c=>D.bl (p c))]= .ok (.bl (l.all p)):=by
 have:l.map (fun c=>D.bl (p c))=(l.map p).map D.bl:=by simp
 rw [this];show (match WU ((l.map p).map D.bl) with|some bs=>Res.ok (D.bl (bs.all id))|none=>Res.stuck)=_;rw [vO];simp
def Kh (z:Str):(Qa z).length=z.length:=by simp [Qa,Str.length]
def jc0 {d:D} (h:jaP d=true):F_is_name [d]= .ok (.bl (isNm d)):=by
 cases d with
 |str z=>
  have e1:g_is_name (qC 1 [.str z])= .ok (.rt true (.bl (isNm (.str z)))):=by
   have h0:qC 1 [.str z]=[.shr (.str z)]:=rfl;rw [h0];have hi:isiD "str" (.str z)= .ok (.bl true):=rfl;have hl:lenD [.str z]= .ok (.int z.length):=rfl;rw [QB]
   by_cases h2:(z.length:Int)<=8
   · have key:zl false 1 [] (itF (rdS 0)) (gN 0) qE (two (rdS 0) (cS "abcdefghijklmnopqrstuvwxyz") inD) [.shr (.str z)]= .ok (.lst ((Qa z).map fun d=>D.bl (match d with| .str c=>inS c abc|_=>false))):=by
      refine jez _ (fun d=> ∃c,d= .str c) rfl (by intro d hd;obtain ⟨c,_,e⟩:=aaB.mp hd;exact ⟨_,e.symm⟩) (by rw [Kh];exact aaF (by omega:z.length<=8) (by decide)) ?_;intro d acc ⟨c,e⟩;subst e;rfl
     have hany:(Qa z).all (fun d=>match d with| .str c=>inS c abc|_=>false)=(z.cps.toList.all (fun c=>inS ⟨#[c]⟩ abc)):=by
      simp only [Qa,List.all_map];rfl
     have h2':decide ((z.length:Int)<=8)=true:=by simp;omega
     generalize z.cps.toList.all (fun c=>inS ⟨#[c]⟩ abc)=q at hany ⊢;simp only [g_is_name,hi,hl,key,JV,XI,VY,WL,Ub,QG,ux,Uc,QH,VZ,wO,VX,jdp,uA,WK,jdq,uy,WM,Ua,uz,KU,KS,List.getElem?_cons_zero,UO,if_true,abZ,aa0,if_false,decide_eq_true_eq,XJ,uL,QT,hany]
     by_cases h1:(1:Int)<=z.length<;>simp [h1,h2]
   · have h2':decide ((z.length:Int)<=8)=false:=by simp;omega
     simp only [g_is_name,hi,hl,JV,XI,VY,WL,Ub,QG,ux,Uc,QH,VZ,wO,VX,jdp,uA,WK,jdq,uy,WM,Ua,uz,KU,KS,List.getElem?_cons_zero,UO,if_true,abZ,aa0,if_false,decide_eq_true_eq,XJ,uL]
     by_cases h1:(1:Int)<=z.length<;>simp [h1,h2,h2']
  exact ZH e1
 |_=>first|rfl|cases h
def Low (z:Str):Prop:= ∀c∈z.cps.toList,inS ⟨#[c]⟩ abc=true
def Ww {a b:Str} (ha:Low a) (hb:Low b):Low (a++b):=fun c hc=>by
 have h:c∈(a.cps++b.cps).toList:=hc;rw [Array.toList_append,aa8] at h;exact h.elim (ha c) (hb c)
def Vl {z:Str} (lo hi:Option Int) (h:Low z):Low (cutS z lo hi):=fun c hc=>by
 unfold cutS at hc
 split at hc
 · exact h c hc
 · simp at hc;obtain ⟨i,_,hi⟩:=hc;exact h c (by rw [←aav] at hi;exact aaN hi)
def jbM:Low abc:=by
 intro c hc;have:abc.cps.toList.all (fun c=>inS ⟨#[c]⟩ abc)=true:=by decide+kernel
 exact aaW.mp this c hc
def ixS2 {z:Str} {i:Int} (h0:0<=i) (h1:i<z.length): ∃c,ixD (.str z) (.int i)= .ok (.str ⟨#[c]⟩)/\c∈z.cps.toList:=by
 obtain ⟨c,hc,hm⟩:=UM (xs:=z.cps.toList) h0 (by simpa [Str.length] using h1);exact ⟨c,by simp only [ixD];rw [hc],hm⟩
def Vk {c:Nat} (h:c∈abc.cps.toList):Low ⟨#[c]⟩:=fun x hx=>by
 have:x=c:=by simpa using hx
 rw [this];exact jbM c h
def uk (i:Int) (n:Nat) (h:0<=i):(aaM none (some i) 1 n).length<=i.toNat:=by
 unfold aaM sliceRange;simp
 split<;>(try split)<;>(try split)<;>(try simp)<;>omega
def ul (i:Int) (n:Nat) (h:0<=i):(aaM (some i) none 1 n).length<=n-i.toNat:=by
 unfold aaM sliceRange;simp
 split<;>(try split)<;>(try split)<;>(try simp)<;>omega
def XW (z:Str) (lo hi:Option Int):(cutS z lo hi).length<=(aaM lo hi 1 z.length).length:=by
 unfold cutS
 split
 · rename_i h;rw [beq_iff_eq] at h;omega
 · show ((aaM lo hi 1 z.length).filterMap (z.cps[·]?)).toArray.size<=_;rw [aag];exact List.length_filterMap_le _ _
def ja3 {z:Str} (h1:1<=z.length) (h2:z.length<=8) (h:Low z):isNm (.str z)=true:=by
 rw [QB];simp only [aax,decide_eq_true_eq,aaW];exact ⟨⟨by omega,by omega⟩,h⟩
def QV:abc.length=26:=by decide
def big1:20000<=aai:=by decide
def jv {k:Nat} (h:k<=20000):k<=aai:=aaF h big1
theorem XZ {cs:List Slot} {fe:T0} (h:D->D) (P:D->Prop) (hf: ∀d acc,P d->fe (.shr d::(cs++[.own (.lst acc)]))= .ok (h d)):
  ∀(ds:List D) (x:Slot) (acc:List D),(∀d∈ds,P d)->acc.length+ds.length<=aai->
   ∃(y:Slot),qS (1+cs.length) (gN 0) qE fe ds (x::(cs++[.own (.lst acc)]))= .ok (y::(cs++[.own (.lst (acc++ds.map h))]))
 | [],x,acc,_,_=>⟨x,by simp [qS]⟩
 |d::ds,x,acc,hP,hl=>by
  simp at hl;have ht:=hf d acc (hP d (by simp));obtain ⟨y,h1⟩:=XZ h P hf ds (.shr d) (acc++[h d]) (fun e he=>hP e (by simp [he])) (by simp;omega);refine ⟨y,?_⟩
  have e1:ownL (1+cs.length) (.shr d::(cs++[.own (.lst acc)]))= .ok acc:=by
   unfold ownL;rw [show (1+cs.length)=cs.length+1 by omega,aaQ,aap (aae _)];simp
  have e2:(Slot.shr d::(cs++[Slot.own (.lst acc)])).set (1+cs.length) (.own (.lst (acc++[h d])))= .shr d::(cs++[.own (.lst (acc++[h d]))]):=by
   rw [show (1+cs.length)=cs.length+1 by omega,acM,adU _ _ (aae _)];simp
  show (fe (.shr d::(cs++[.own (.lst acc)]))>>=_)=_;rw [ht];show (ownL (1+cs.length) (.shr d::(cs++[.own (.lst acc)]))>>=_)=_;rw [e1];show must _ _=_;rw [jl (by omega)];show qS _ _ _ _ ds ((Slot.shr d::(cs++[Slot.own (.lst acc)])).set (1+cs.length) (.own (.lst (acc++[h d]))))=_;rw [e2,h1];simp
def WT {js:List Nat} {fi:TX} {fe:T0} {env:Sl} {ds:List D} {cs:List Slot} (h:D->D) (P:D->Prop) (hc:js.map (capS false env)=cs) (hi:fi env= .ok ds) (hP: ∀d∈ds,P d) (hl:ds.length<=aai)
  (hf: ∀d acc,P d->fe (.shr d::(cs++[.own (.lst acc)]))= .ok (h d)):zl false 1 js fi (gN 0) qE fe env= .ok (.lst (ds.map h)):=by
 obtain ⟨y,h1⟩:=XZ h P hf ds .un [] hP (by simpa using hl);have hlen:js.length=cs.length:=by rw [←hc];simp
 show (fi env>>=_)=_;rw [hi];show (qS (1+js.length) (gN 0) qE fe ds (zm false 1 js env)>>=_)=_
 have he:zm false 1 js env= .un::(cs++[.own (.lst [])]):=by
  unfold zm;rw [hc];rfl
 rw [he,hlen,h1];show (ownL (1+cs.length) (y::(cs++[.own (.lst ([]++ds.map h))]))>>=_)=_
 have e1:ownL (1+cs.length) (y::(cs++[.own (.lst ([]++ds.map h))]))= .ok (ds.map h):=by
  unfold ownL;rw [show (1+cs.length)=cs.length+1 by omega,aaQ,aap (aae _)];simp
 rw [e1];exact jl (c:=false=true->D.imms (ds.map h)=true) (fun h=>by cases h)
def YO (ds:List Int): ∃c:Int,F__law_cell_at [.scr (ds.map D.int),.int 0]= .ok (.int c)/\(c=0\/c∈ds):=by
 cases ds with
 |nil=>exact ⟨0,rfl,.inl rfl⟩
 |cons c r=>
  refine ⟨c,?_,.inr (by simp)⟩;refine jac ?_;have e0:qC 2 [.scr ((c::r).map D.int),.int 0]=[.shr (.scr ((c::r).map D.int)),.shr (.int 0)]:=rfl;rw [e0]
  have ht:asB (two (rdS 1) (app (ja (rdS 0) nil1) lenD) ltI) [.shr (.scr ((c::r).map D.int)),.shr (.int 0)]= .ok true:=by
   refine jx (jg rfl (qg (jc rfl rfl) rfl) ?_);simp
  refine wz ((if_t ht).trans (Qd (jg rfl rfl ?_)));have:=M.atI_nat (xs:=(c::r).map D.int) (k:=0);simp only [ixD];rw [show ((0:Int))=((0:Nat):Int) from rfl,this];rfl
def cs (z:Str):List Nat:=z.cps.toList
def uK (z:Str):(cs z).length=z.length:=aaD
def XY (a b:Str):cs (a++b)=cs a++cs b:=PySem.W.KT.app_list a b
def UQ:abc.cps.toList.Nodup:=by decide+kernel
def ixS3 {z:Str} {i:Int} (h0:0<=i) (h1:i<z.length): ∃c,ixD (.str z) (.int i)= .ok (.str ⟨#[c]⟩)/\(cs z)[i.toNat]?=some c/\c∈z.cps.toList:=by
 obtain ⟨k,rfl⟩:=Int.eq_ofNat_of_zero_le h0;have hl:k< (cs z).length:=by rw [uK];omega
 have ha:atI z.cps.toList (k:Int)=some (cs z)[k]:=by
  rw [M.atI_nat];exact aac hl
 exact ⟨(cs z)[k],by simp only [ixD];rw [ha],by rw [abK];exact aac hl,abd hl⟩
def Sev (ns:List Str):Prop:=ns.length=7/\(∀z∈ns,isNm (.str z)=true)/\ns.Nodup
def nm42 (f:Str) (at1:Int) (p:Int) (k:Int):Str:=(cutS f none (some at1)++(⟨#[((cs abc)[((p+5*k)%26).toNat]?).getD 0]⟩:Str))++cutS f (some (at1+1)) none
def jcX {f:Str} {at1 p i j:Int} (hi:0<=i/\i<7) (hj:0<=j/\j<7) (h:nm42 f at1 p i=nm42 f at1 p j):i=j:=by
 have h1:=congrArg cs h;unfold nm42 at h1;rw [XY,XY,XY,XY,aaS,aaS] at h1;have h2:=adz h1;have e: ∀c:Nat,cs (⟨#[c]⟩:Str)=[c]:=fun _=>rfl
 rw [e,e] at h2;simp at h2;have l:(cs abc).length=26:=by rw [uK];exact QV
 have a1:((p+5*i)%26).toNat< (cs abc).length:=by omega
 have a2:((p+5*j)%26).toNat< (cs abc).length:=by omega
 rw [aac a1,aac a2] at h2;have h3:=(aeL UQ).mp (show (cs abc)[((p+5*i)%26).toNat]=(cs abc)[((p+5*j)%26).toNat] from h2);omega
def Ws (m:Int): ∃ns,F__law_names [.int m]= .ok (.lst (ns.map D.str))/\Sev ns:=by
 have hs:1<=1+m%8/\1+m%8<=8:=by omega
 have e0:qC 8 [.int m]=[.shr (.int m),.un,.un,.un,.un,.un,.un,.un]:=rfl;generalize hsz:1+m%8=sz at hs
 obtain ⟨env1,l1,n1,f1,u1,rfl,hf1,lw1⟩:=yF (body:=qB (gN 4) (seqO (jJ 3 (two (rdS 3) (two (rdS 1) (two (rdS 0) (cI 26) modI) ixD) addD)) (jJ 0 (two (rdS 0) (cI 26) divI))))
   (fun ds env=> ∃(n:Int) (f:Str) (u:Slot),env=[.shr (.int n),.shr (.str abc),.shr (.int sz),.shr (.str f),u,.un,.un,.un]/\f.length+ds.length=sz.toNat/\Low f)
   (by
    rintro d ds env ⟨n,f,u,rfl,hl,lw⟩;obtain ⟨c,hc,hcm⟩:=ixS2 (i:=n%26) (by omega) (by rw [QV];omega);simp at hl;have hlen:(f++(⟨#[c]⟩:Str)).length=f.length+1:=ad3 _ _;refine ⟨[.shr (.int (n/26)),.shr (.str abc),.shr (.int sz),.shr (.str (f++(⟨#[c]⟩:Str))),.shr d,.un,.un,.un],?_,_,_,_,rfl,by rw [hlen];omega,Ww lw (Vk hcm)⟩;rw [j4 rfl];rw [jk ((jA (jg rfl (jg rfl rfl hc) (jl (aaF (show f.length+1<=8 by omega) (by decide))))))]
    rfl)
   (Jy 0 sz.toNat) [.shr (.int (m/8)),.shr (.str abc),.shr (.int sz),.shr (.str ""),.un,.un,.un,.un] ⟨m/8, "",.un,rfl,by rw [Zw,show ("" :Str).length=0 by decide,adQ],fun c hc=>by cases hc⟩
 simp at hf1;have hat:0<=n1%sz/\n1%sz<sz:=⟨abS _ (by omega),abq _ (by omega)⟩
 generalize hq:n1%sz=at1 at hat;obtain ⟨c1,hc1⟩:=ixS (z:=f1) hat.1 (by omega);generalize hp:(Txt.find abc (⟨#[c1]⟩:Str):Int)=p
 obtain ⟨env2,l2,js,k2,s2,rfl,_,hj⟩:=yF (body:=qB (gN 4) (seqO (jJ 7 (two (rdS 1) (two (two (smF (rdS 1) (ja (two (rdS 3) (rdS 5) ixD) nil1) kZ) (two (cI 5) (rdS 4) mulI) addD) (cI 26) modI) ixD))
   (xH 6 (two (two (qf (rdS 3) wu (zb (rdS 5)) slD) (rdS 7) addD) (qf (rdS 3) (zb (two (rdS 5) (cI 1) addD)) wu slD) addD))))
   (fun ds env=> ∃(js:Nat) (k s:Slot),env=[.shr (.int n1),.shr (.str abc),.shr (.int sz),.shr (.str f1),k,.shr (.int at1),.own (.lst ((aaT js).map fun (j:Nat)=>D.str (nm42 f1 at1 p j))),s]/\ds=(List.range' js (7-js)).map (fun (j:Nat)=>D.int j)/\js+ds.length=7)
   (by
    rintro d ds env ⟨js,k,s,rfl,hd,hl⟩;simp at hl;have hjs:js<7:=by omega
    have e7:7-js=(7-(js+1))+1:=by omega
    rw [e7,aeP,aat,abf] at hd;obtain ⟨rfl,hd⟩:=hd
    have hm:MulC 5 js:=by
     have:js=0\/js=1\/js=2\/js=3\/js=4\/js=5\/js=6:=by omega
     rcases this with rfl|rfl|rfl|rfl|rfl|rfl|rfl<;>decide
    obtain ⟨c,hc,hcx,hcm⟩:=ixS3 (i:=(p+5*js)%26) (by omega) (by rw [QV];omega);have hnm:nm42 f1 at1 p js=(cutS f1 none (some at1)++(⟨#[c]⟩:Str))++cutS f1 (some (at1+1)) none:=by unfold nm42;rw [hcx];rfl
    have hA:=aaF (XW f1 none (some at1)) (uk at1 f1.length (by omega));have hB:=aaF (XW f1 (some (at1+1)) none) (ul (at1+1) f1.length (by omega));have h1:(cutS f1 none (some at1)++(⟨#[c]⟩:Str)).length=(cutS f1 none (some at1)).length+1:=ad3 _ _;have hbig:20<=aai:=by decide
    refine ⟨[.shr (.int n1),.shr (.str abc),.shr (.int sz),.shr (.str f1),.shr (.int js),.shr (.int at1),.own (.lst ((aaT (js+1)).map fun (j:Nat)=>D.str (nm42 f1 at1 p j))),.shr (.str ⟨#[c]⟩)],?_,js+1,_,_,rfl,hd,by omega⟩;rw [j4 rfl];rw [jk (jA (jg rfl (jg (jg (jd0 rfl (jc (jg rfl rfl hc1) rfl) rfl) (jg rfl rfl (Ve hm)) rfl) rfl rfl) (by rw [hp];exact hc)))];refine (Jq rfl (jg (jg (zU rfl rfl (zp rfl) rfl) rfl (jl (aaF (show _+1<=20 by omega) hbig))) (zU rfl (zp (jg rfl rfl rfl)) rfl rfl) (jl (by omega))) (by rw [aak,adK];omega)).trans ?_;rw [List.range_succ,abR,aat,List.map_nil,hnm]
    rfl)
   (Jy 0 7) [.shr (.int n1),.shr (.str abc),.shr (.int sz),.shr (.str f1),u1,.shr (.int at1),.own (.lst []),.un] ⟨0,u1,.un,rfl,rfl,rfl⟩
 obtain rfl:js=7:=by simpa using hj
 refine ⟨(aaT 7).map fun (j:Nat)=>nm42 f1 at1 p j,?_,by simp,?_,?_⟩
 · refine zN ?_;rw [e0];unfold g__law_names;rw [jk rfl];rw [jk (env':=[.shr (.int m),.shr (.str abc),.shr (.int sz),.un,.un,.un,.un,.un]) (by rw [←hsz];rfl)];rw [jk rfl];rw [jk (env':=[.shr (.int (m/8)),.shr (.str abc),.shr (.int sz),.shr (.str ""),.un,.un,.un,.un]) rfl]
   rw [jk ((qO (by
    exact jl (by omega))).trans l1)]
   rw [jk (env':=[.shr (.int n1),.shr (.str abc),.shr (.int sz),.shr (.str f1),u1,.shr (.int at1),.un,.un]) (by rw [←hq];exact (jA (jg rfl rfl (qU (by omega)))))];rw [jk (env':=[.shr (.int n1),.shr (.str abc),.shr (.int sz),.shr (.str f1),u1,.shr (.int at1),.own (.lst []),.un]) rfl];rw [jk ((qO rfl).trans l2)];rw [abE];rfl
 · intro z hz;obtain ⟨j,hj,rfl⟩:=aaB.mp hz;have hj:=aaO.mp hj;obtain ⟨c,hc,hcx,hcm⟩:=ixS3 (i:=(p+5*j)%26) (by omega) (by rw [QV];omega);have hnm:nm42 f1 at1 p j=(cutS f1 none (some at1)++(⟨#[c]⟩:Str))++cutS f1 (some (at1+1)) none:=by unfold nm42;rw [hcx];rfl
   have hA:=aaF (XW f1 none (some at1)) (uk at1 f1.length (by omega));have hB:=aaF (XW f1 (some (at1+1)) none) (ul (at1+1) f1.length (by omega));have h1:(cutS f1 none (some at1)++(⟨#[c]⟩:Str)).length=(cutS f1 none (some at1)).length+1:=ad3 _ _;have h2:((cutS f1 none (some at1)++(⟨#[c]⟩:Str))++cutS f1 (some (at1+1)) none).length=(cutS f1 none (some at1)++(⟨#[c]⟩:Str)).length+(cutS f1 (some (at1+1)) none).length:=ad3 _ _;rw [hnm];exact ja3 (by omega) (by omega) (Ww (Ww (Vl _ _ lw1) (Vk hcm)) (Vl _ _ lw1))
 · refine ab6.mpr ((adc).imp_of_mem fun {a b} ha hb hab e=>?_);have:=jcX (by have:=aaO.mp ha;omega) (by have:=aaO.mp hb;omega) e;exact hab (by omega)
def vx {f1 f2:T0} {env:Sl} {i j:Int} (h1:f1 env= .ok (.int i)) (h2:f2 env= .ok (.int j)) (hj:0<j/\j<1073741824):app (ja f1 (ja f2 nil1)) zi env= .ok (.tup [.int (i/j),.int (i%j)]):=
 qg (jc h1 (jc h2 rfl)) (jl hj)
def zK {f:T0} {env:Sl} {a b:Nat} {x y:D} (h:f env= .ok (.tup [x,y])):asgO f (g2 (gN a) (gN b)) env= .ok (.nx ((env.set a (.shr x)).set b (.shr y))):=by
 show (f env>>=_)=_;rw [h];rfl
def hdN (z:Str) (m:Nat):D:= .tup [.str z,.int m]
def uU {f1 f2:T0} {env:Sl} (h:f1 env= .ok (.bl true)):toB f1 f2 true env=f2 env:=by
 show (f1 env>>=_)=_;rw [h];rfl
def YY (i:Int):F_is_whole [.int i]= .ok (.bl true):=rfl
def jeq {z:Str} {m:Nat} (hz:isNm (.str z)=true) (hm:m<=9):F_is_head [hdN z m]= .ok (.bl true):=by
 have hn:F_is_name [.str z]= .ok (.bl true):=by rw [jc0 rfl,hz]
 refine zN ?_;unfold g_is_head;refine (jk rfl).trans ?_;refine jE ?_
 have c3:JA (cI 0) (two (rdS 0) (cI 1) ixD) (cI 9) leI leI [.shr (hdN z m)]= .ok (.bl true):=by
  have e:JA (cI 0) (two (rdS 0) (cI 1) ixD) (cI 9) leI leI [.shr (hdN z m)]= .ok (.bl (decide ((0:Int)<=m)&&decide ((m:Int)<=9))):=by
   by_cases h:(0:Int)<=m
   · rw [decide_eq_true h];exact (show JA _ _ _ _ _ _=_ from by unfold JA;simp;rfl)
   · omega
  rw [e,decide_eq_true (by omega),decide_eq_true (by omega)];rfl
 exact (uU (jr (jc (jg rfl rfl rfl) rfl) rfl hn)).trans ((uU (jr (jc (jg rfl rfl rfl) rfl) rfl (YY _))).trans c3)
theorem ZQ {α:Type} {pr:α->D×D} {cs:List Slot} {fe:T0} (h:α->D) (P:α->Prop) (hf: ∀q acc,P q->fe (.shr (pr q).1:: .shr (pr q).2::(cs++[.own (.lst acc)]))= .ok (h q)):
  ∀(L:List α) (x x2:Slot) (acc:List D),(∀q∈L,P q)->acc.length+L.length<=aai->
   ∃(y y2:Slot),qS (2+cs.length) (g2 (gN 0) (gN 1)) qE fe (L.map fun q=> .tup [(pr q).1,(pr q).2]) (x::x2::(cs++[.own (.lst acc)]))= .ok (y::y2::(cs++[.own (.lst (acc++L.map h))]))
 | [],x,x2,acc,_,_=>⟨x,x2,by simp [qS]⟩
 |q::L,x,x2,acc,hP,hl=>by
  simp at hl;have ht:=hf q acc (hP q (by simp));obtain ⟨y,y2,h1⟩:=ZQ h P hf L (.shr (pr q).1) (.shr (pr q).2) (acc++[h q]) (fun e he=>hP e (by simp [he])) (by simp;omega);refine ⟨y,y2,?_⟩
  have e1:ownL (2+cs.length) (.shr (pr q).1:: .shr (pr q).2::(cs++[.own (.lst acc)]))= .ok acc:=by
   unfold ownL;rw [show (2+cs.length)=cs.length+1+1 by omega,aaQ,aaQ,aap (aae _)];simp
  have e2:(Slot.shr (pr q).1::Slot.shr (pr q).2::(cs++[Slot.own (.lst acc)])).set (2+cs.length) (.own (.lst (acc++[h q])))= .shr (pr q).1:: .shr (pr q).2::(cs++[.own (.lst (acc++[h q]))]):=by
   rw [show (2+cs.length)=cs.length+1+1 by omega,acM,acM,adU _ _ (aae _)];simp
  show (fe (.shr (pr q).1:: .shr (pr q).2::(cs++[.own (.lst acc)]))>>=_)=_;rw [ht];show (ownL (2+cs.length) (.shr (pr q).1:: .shr (pr q).2::(cs++[.own (.lst acc)]))>>=_)=_;rw [e1];show must _ _=_;rw [jl (by omega)];show qS _ _ _ _ (L.map fun q=>D.tup [(pr q).1,(pr q).2]) ((Slot.shr (pr q).1::Slot.shr (pr q).2::(cs++[Slot.own (.lst acc)])).set (2+cs.length) (.own (.lst (acc++[h q]))))=_;rw [e2,h1];simp
def vI {α:Type} (pr:α->D×D) {js:List Nat} {fi:TX} {fe:T0} {env:Sl} {L:List α} {cs:List Slot} (h:α->D) (P:α->Prop) (hc:js.map (capS false env)=cs) (hi:fi env= .ok (L.map fun q=> .tup [(pr q).1,(pr q).2])) (hP: ∀q∈L,P q) (hl:L.length<=aai)
  (hf: ∀q acc,P q->fe (.shr (pr q).1:: .shr (pr q).2::(cs++[.own (.lst acc)]))= .ok (h q)):zl false 2 js fi (g2 (gN 0) (gN 1)) qE fe env= .ok (.lst (L.map h)):=by
 obtain ⟨y,y2,h1⟩:=ZQ h P hf L .un .un [] hP (by simpa using hl);have hlen:js.length=cs.length:=by rw [←hc];simp
 show (fi env>>=_)=_;rw [hi];show (qS (2+js.length) (g2 (gN 0) (gN 1)) qE fe (L.map fun q=>D.tup [(pr q).1,(pr q).2]) (zm false 2 js env)>>=_)=_
 have he:zm false 2 js env= .un:: .un::(cs++[.own (.lst [])]):=by
  unfold zm;rw [hc];rfl
 rw [he,hlen,h1];show (ownL (2+cs.length) (y::y2::(cs++[.own (.lst ([]++L.map h))]))>>=_)=_
 have e1:ownL (2+cs.length) (y::y2::(cs++[.own (.lst ([]++L.map h))]))= .ok (L.map h):=by
  unfold ownL;rw [show (2+cs.length)=cs.length+1+1 by omega,aaQ,aaQ,aap (aae _)];simp
 rw [e1];exact jl (c:=false=true->D.imms (L.map h)=true) (fun h=>by cases h)
theorem vV: ∀l:List (Str×Nat),tksD (l.map fun h=>hdN h.1 h.2)=some (l.map fun h=>[aeG h.1,aeF (h.2:Int)])
 | []=>rfl
 |x::r=>by
  show (match keyT (hdN x.1 x.2),tksD (r.map fun h=>hdN h.1 h.2) with
   |some k,some ks=>some (k::ks)
   |_,_=>none)=_
  rw [vV r];rfl
def Vp {l:List (Str×Nat)} (h:l.Nodup) (hl:l.length<=76):Xq (.lst (l.map fun h=>hdN h.1 h.2))= .ok (.int l.length):=by
 have hn:(l.map fun h=>([aeG h.1,aeF (h.2:Int)]:List Key)).Nodup:=ab6.mpr (h.imp fun {a b} hab e=>hab (by
  simp at e
  exact Prod.ext e.1 (by omega)))
 show (match tksD (l.map fun h=>hdN h.1 h.2) with
   |some ks=>must (ks.length<=76) (Res.ok (D.int (nT ks)))
   |none=>Res.stuck)=_
 rw [vV];dsimp only;rw [jl (by rw [aak];exact hl),kG hn,aak]
def jbi (i:Int):eqR (.int i) (.int i)= .ok (.bl true):=(show eqR (.int i) (.int i)= .ok (.bl (i==i)) from rfl).trans (by simp)
def ja9 {ks:List (List Key)} {k:List Key} (h:k∉ks):hasT ks k=false:=by
 unfold hasT;rw [aeA];intro x hx e;exact h (by rw [←of_decide_eq_true e];exact hx)
theorem Ze: ∀(ps:List (List Key×D)) (q:List (List Key)×List D),(q.1++ps.map (·.1)).Nodup->ps.foldl Jv q=(q.1++ps.map (·.1),q.2++ps.map (·.2))
 | [],q,_=>by simp
 |p::ps,q,h=>by
  have hno:p.1∉q.1:=fun z=>by
   rw [aat] at h;exact (aeD.mp h).2.2 _ z _ aam rfl
  rw [aec]
  have e:Jv q p=(q.1++[p.1],q.2++[p.2]):=by
   unfold Jv Zc Zd;rw [ja9 hno];rfl
  rw [e,Ze ps _ (by simpa using h)];simp
def hsD (hs:List (Str×Nat)):D:= .lst (hs.map fun h=>hdN h.1 h.2)
structure Hok (hs:List (Str×Nat)):Prop where
 nm: ∀h∈hs,isNm (.str h.1)=true
 ar: ∀h∈hs,h.2<=3
 nd:hs.Nodup
 ln:hs.length=6
def are1 {hs:List (Str×Nat)} (ok:Hok hs):F_are_ranks [hsD hs]= .ok (.bl true):=by
 refine zN ?_;unfold g_are_ranks;have hlen:lenD [hsD hs]= .ok (.int hs.length):=by show Res.ok (D.int ((hs.map fun h=>hdN h.1 h.2).length))=_;rw [aak]
 have a1:asB (two (app (ja (rdS 0) nil1) lenD) (cI 60) gtI) [.shr (hsD hs)]= .ok (decide ((60:Int)<hs.length)):=jx (jg (qg (jc rfl rfl) hlen) rfl rfl);rw [decide_eq_false (by have:=ok.ln;omega)] at a1;refine (jk ((if_f (Qj (qv (jx (zh (x:=hsD hs) rfl rfl))) a1)))).trans ?_
 have a2:app (ja (zl false 1 [] (itF (rdS 0)) (gN 0) qE (jm 1 F_is_head (ja (rdS 0) nil1))) nil1) allD [.shr (hsD hs)]= .ok (.bl true):=by
  refine qg (jc (WT (fun _=>D.bl true) (fun d=> ∃h∈hs,d=hdN h.1 h.2) rfl (zO rfl rfl) (fun d hd=>?_) ?_ (fun d acc hd=>?_)) rfl) ?_
  · obtain ⟨p,hp,rfl⟩:=aaB.mp hd;exact ⟨p,hp,rfl⟩
  · rw [aak];have:=ok.ln;exact jv (by omega)
  · obtain ⟨p,hp,rfl⟩:=hd;exact jr (jc rfl rfl) rfl (jeq (ok.nm p hp) (by have:=ok.ar p hp;omega))
  · have:=QT (hs.map fun h=>hdN h.1 h.2) (fun _=>true);rw [this];simp
 have c2:kM (rdS 0) [.shr (hsD hs)]= .ok (.int hs.length):=by
  unfold kM;exact Vp ok.nd (by have:=ok.ln;omega)
 exact jE ((uU a2).trans (jg c2 (qg (jc rfl rfl) hlen) (jbi _)))
theorem KG: ∀(hs:List (Str×Nat)) (i:Nat),prsD ((hs.zipIdx i).map fun q=>D.tup [hdN q.1.1 q.1.2,.int (q.2:Nat)])=some ((hs.zipIdx i).map fun q=>(kyP q.1,D.int (q.2:Nat)))
 | [],i=>rfl
 |h::hs,i=>by
  rw [List.zipIdx_cons,aat,aat]
  show (match keyT (hdN h.1 h.2),prsD ((hs.zipIdx (i+1)).map fun q=>D.tup [hdN q.1.1 q.1.2,.int (q.2:Nat)]) with
   |some k,some q=>some ((k,D.int (i:Nat))::q)
   |_,_=>none)=_
  rw [KG hs];rfl
theorem Xl: ∀(hs:List (Str×Nat)) (i:Nat),jz i (hs.map fun h=>hdN h.1 h.2)=(hs.zipIdx i).map fun q=>D.tup [.int (q.2:Nat),hdN q.1.1 q.1.2]
 | [],i=>rfl
 |h::hs,i=>by
  rw [List.zipIdx_cons,aat,aat];show D.tup [.int (i:Int),hdN h.1 h.2]::jz (i+1) (hs.map fun h=>hdN h.1 h.2)=_;rw [Xl hs]
def vA {hs:List (Str×Nat)} (nd:hs.Nodup):JX [.lst ((hs.zipIdx 0).map fun q=>D.tup [hdN q.1.1 q.1.2,.int (q.2:Nat)])]= .ok (rkD hs):=by
 show (match prsD ((hs.zipIdx 0).map fun q=>D.tup [hdN q.1.1 q.1.2,.int (q.2:Nat)]) with
  |some ps=>Res.ok (D.dit (ps.foldl Jv ([],[])).1 (ps.foldl Jv ([],[])).2)
  |none=>Res.stuck)=_
 rw [KG];dsimp only
 have e1:((hs.zipIdx 0).map fun q=>(kyP q.1,D.int (q.2:Nat))).map (·.1)=hs.map kyP:=by
  rw [abE];have:=congrArg (List.map kyP) (List.zipIdx_map_fst 0 hs);rw [abE] at this;exact this
 have e2:((hs.zipIdx 0).map fun q=>(kyP q.1,D.int (q.2:Nat))).map (·.2)=(aaT hs.length).map fun (i:Nat)=>D.int i:=by
  rw [abE];have:=congrArg (List.map fun (i:Nat)=>D.int i) (List.zipIdx_map_snd 0 hs);rw [abE] at this;rw [List.range_eq_range'];exact this
 have hn:(hs.map kyP).Nodup:=ab6.mpr (nd.imp fun {a b} hab e=>hab (Wz e));rw [Ze _ _ (by rw [e1];simpa using hn),e1,e2];simp [rkD]
def jen {hs:List (Str×Nat)} (ok:Hok hs):F_Ranks_o___init__ (.obj "Ranks" [] []) [hsD hs]= .ok (.non,rcD hs):=by
 have c:asB (jm 1 F_are_ranks (ja (rdS 1) nil1)) [.own (.obj "Ranks" [] []),.shr (hsD hs)]= .ok true:=jx (jr (jc rfl rfl) rfl (are1 ok))
 have en:ZI (rdS 1) [.own (.obj "Ranks" [] []),.shr (hsD hs)]= .ok ((hs.zipIdx 0).map fun q=>D.tup [.int (q.2:Nat),hdN q.1.1 q.1.2]):=by
  rw [←Xl];exact Ug rfl
 have d:app (ja (zl false 2 [] (ZI (rdS 1)) (g2 (gN 0) (gN 1)) qE (tupF (ja (rdS 1) (ja (rdS 0) nil1)))) nil1) JX [.own (.obj "Ranks" [] []),.shr (hsD hs)]= .ok (rkD hs):=qg (jc (vI (fun q:(Str×Nat)×Nat=>(D.int (q.2:Nat),hdN q.1.1 q.1.2)) (fun q=>D.tup [hdN q.1.1 q.1.2,.int (q.2:Nat)]) (fun _=>True) rfl en (fun _ _=>trivial) (by rw [List.length_zipIdx];have:=ok.ln;exact jv (by omega)) (fun e acc _=>wm (jc rfl (jc rfl rfl)) (jv (show 2<=20000 by decide)))) rfl) (vA ok.nd)
 have hg:g_Ranks_o___init__ F_are_ranks [.own (.obj "Ranks" [] []),.shr (hsD hs)]= .ok (.nx [.own (rcD hs),.shr (hsD hs)]):=by
  have h1:ifJ (notB (asB (jm 1 F_are_ranks (ja (rdS 1) nil1)))) W6 nxJ [.own (.obj "Ranks" [] []),.shr (hsD hs)]= .ok (.nx [.own (.obj "Ranks" [] []),.shr (hsD hs)]):=by
   show (notB (asB (jm 1 F_are_ranks (ja (rdS 1) nil1))) _>>=_)=_;rw [qv c];rfl
  unfold g_Ranks_o___init__;show (ifJ (notB (asB (jm 1 F_are_ranks (ja (rdS 1) nil1)))) W6 nxJ _>>=_)=_;rw [h1];show (app (ja (zl false 2 [] (ZI (rdS 1)) (g2 (gN 0) (gN 1)) qE (tupF (ja (rdS 1) (ja (rdS 0) nil1)))) nil1) JX [.own (.obj "Ranks" [] []),.shr (hsD hs)]>>=_)=_;rw [d];rfl
 show must (([hsD hs]:List D).length=1) (g_Ranks_o___init__ F_are_ranks [.own (.obj "Ranks" [] []),.shr (hsD hs)]>>=_)=_;refine (jl (show ([hsD hs]:List D).length=1 from rfl)).trans ?_;rw [hg];rfl
def jej {hs:List (Str×Nat)} (ok:Hok hs) {f:TX} {env:Sl} (h:f env= .ok [hsD hs]):Yz "Ranks" 1 F_Ranks_o___init__ f env= .ok (rcD hs):=Wv h rfl (jen ok)
section
variable {ns:List Str}
theorem KN: ∀(n:Nat) (d:D),fine d=true->hgt d<=n->num d<=1000->F_parts n [d]= .ok (.lst (pts d))
 |0,d,_,h,_=>by have:=ja6 d;omega
 |n+1,d,hf,hh,hn=>by
  have hk:=VU hf;rw [uo] at hh;rw [jcW] at hn
  have key:=ZE (body:=qB (gN 2) (xE 1 (jm 1 (F_parts n) (ja (rdS 2) nil1)))) (fun (a:List D×Slot)=>[.shr d,.own (.lst a.1),a.2]) (fun a e=>(a.1++pts e,.shr e)) (fun ds a=>fines ds=true/\hgts ds<=n/\a.1.length+nums ds<=1000) (fun e ds a ⟨h1,h2,h3⟩=>by
   simp only [fines,aax] at h1;simp only [hgts] at h2;simp only [nums] at h3;have hl:=Qf e;refine ⟨?_,h1.2,by omega,by simp;omega⟩;show xE 1 (jm 1 (F_parts n) (ja (rdS 2) nil1)) [.shr d,.own (.lst a.1),.shr e]=_;show (Res.ok a.1>>=fun ds=>F_parts n [e]>>=_)=_;rw [KN n e h1.1 (by omega) (by omega)]
   exact jl (aaF (by omega:_<=10000) (by decide))) (kids d) ([d],.un) ⟨hk.1,by omega,by simp;omega⟩
  have hfold: ∀(ds:List D) (a:List D×Slot),(ds.foldl (fun (a:List D×Slot) e=>(a.1++pts e,Slot.shr e)) a).1=a.1++ptss ds:=by
   intro ds
   induction ds with
   |nil=>intro a;simp [ptss]
   |cons d ds ih=>intro a;rw [aec,ih];simp [ptss]
  have e1:g_parts F_places (F_parts n) (qC 3 [d])= .ok (.rt true (.lst (pts d))):=by
   have e0:g_parts F_places (F_parts n) (qC 3 [d])=((F_places [d]>>=Vw)>>=fun ds=>forD (qB (gN 2) (xE 1 (jm 1 (F_parts n) (ja (rdS 2) nil1)))) ds [.shr d,.own (.lst [d]),.un])>>=outK (retO (rdO 1)):=by
    unfold g_parts;rw [JV];show (seqO _ _) _=_;rw [JV];rfl
   rw [e0,KI (kY hf)];show (forD _ (kids d) _>>=_)=_;rw [key];rw [hfold,jcn];rfl
  exact ZH e1
def isT:D->Bool
 | .tup _=>true
 |_=>false
def jda {t:D} (h:tk ns t=true):isiD "tuple" t= .ok (.bl (isT t)):=by
 rcases J6 h with ⟨i,rfl⟩| ⟨z,ts,rfl,_⟩<;>rfl
def Xy (l:List Hd) (x:Hd):(hins l x).length<=l.length+1:=by
 unfold hins;split<;>simp
def XA (z:Str) (ts:List D):F_head [.tup (.str z::ts)]= .ok (hdD (z,(ts.length:Int))):=by
 refine zN ?_;unfold g_head;refine (jE ?_).trans rfl;rw [jdo];refine wm (jc (jg rfl rfl ix0) (jc ?_ rfl)) (jv (show 2<=20000 by decide));refine jg (qg (jc rfl rfl) rfl) rfl ?_;simp
theorem xc (t s:Slot): ∀(ds:List D) (l:List Hd) (u:Slot),(∀d∈ds,tk ns d=true)->l.length+ds.length<=2000-> ∃u',forD (qB (gN 3) (ifO (asB (isiF "tuple" (rdS 3))) (YL 1 (jm 1 F_head (ja (rdS 3) nil1)) (cB true)) nxO)) ds [t,.own (.dit (l.map hdK) (htrs l)),s,u]= .ok (.nx [t,.own (.dit ((hmet l (hdL ds)).map hdK) (htrs (hmet l (hdL ds)))),s,u'])
 | [],l,u,_,_=>⟨u,rfl⟩
 |d::ds,l,u,h,hl=>by
  simp at hl;have hd:=h d (by simp);have htest:asB (isiF "tuple" (rdS 3)) [t,.own (.dit (l.map hdK) (htrs l)),s,.shr d]= .ok (isT d):=jx (by rw [QG];exact jda hd);rcases J6 hd with ⟨i,rfl⟩| ⟨z,ts,rfl,_⟩
  · have hstep:qB (gN 3) (ifO (asB (isiF "tuple" (rdS 3))) (YL 1 (jm 1 F_head (ja (rdS 3) nil1)) (cB true)) nxO) (.int i) [t,.own (.dit (l.map hdK) (htrs l)),s,u]= .ok (.nx [t,.own (.dit (l.map hdK) (htrs l)),s,.shr (.int i)]):=by
     rw [j4 (env':=[t,.own (.dit (l.map hdK) (htrs l)),s,.shr (.int i)]) rfl,if_f htest];rfl
    obtain ⟨u',hu⟩:=xc t s ds l (.shr (.int i)) (fun e he=>h e (by simp [he])) (by omega);exact ⟨u',by rw [qx hstep,hu];rfl⟩
  · obtain ⟨p1,p2⟩:=jcm l (z,(ts.length:Int));have hk:(l.map hdK).length<aai:=by rw [aak];exact aaC (show l.length<20000 by omega) big1
    have hc:jm 1 F_head (ja (rdS 3) nil1) [t,.own (.dit (l.map hdK) (htrs l)),s,.shr (.tup (.str z::ts))]= .ok (hdD (z,(ts.length:Int))):=jr (jc rfl rfl) rfl (XA z ts)
    have hstep:qB (gN 3) (ifO (asB (isiF "tuple" (rdS 3))) (YL 1 (jm 1 F_head (ja (rdS 3) nil1)) (cB true)) nxO) (.tup (.str z::ts)) [t,.own (.dit (l.map hdK) (htrs l)),s,u]= .ok (.nx [t,.own (.dit ((hins l (z,(ts.length:Int))).map hdK) (htrs (hins l (z,(ts.length:Int))))),s,.shr (.tup (.str z::ts))]):=by
     rw [j4 (env':=[t,.own (.dit (l.map hdK) (htrs l)),s,.shr (.tup (.str z::ts))]) rfl,if_t htest];show (jm 1 F_head (ja (rdS 3) nil1) [t,.own (.dit (l.map hdK) (htrs l)),s,.shr (.tup (.str z::ts))]>>=_)=_;rw [hc];show must ((l.map hdK).length<aai) (Res.ok (Out.nx [t,.own (.dit (Zc (l.map hdK) (hdK (z,(ts.length:Int)))) (Zd (l.map hdK) (htrs l) (hdK (z,(ts.length:Int))) (.bl true))),s,.shr (.tup (.str z::ts))]))=_;rw [jl hk,p1,p2]
    have:=Xy l (z,(ts.length:Int));obtain ⟨u',hu⟩:=xc t s ds (hins l (z,(ts.length:Int))) (.shr (.tup (.str z::ts))) (fun e he=>h e (by simp [he])) (by omega);exact ⟨u',by rw [qx hstep,hu];rfl⟩
def Few (ns:List Str):Prop:=ns.length<=6/\ ∀z∈ns,z.length<=20
end
def sortH_mem {l:List Hd} {a:Hd}:a∈xL l↔a∈l:=(qZ l).mem_iff
theorem VL: ∀a b:List D,hdL (a++b)=hdL a++hdL b
 | [],b=>rfl
 |d::r,b=>by
  have ih:=VL r b
  cases d with
  |tup ts=>cases ts with
   |nil=>simpa [hdL] using ih
   |cons x ts=>cases x<;>simp [hdL,ih]
  |_=>simp [hdL,ih]
theorem XB: ∀ {ts:List D} {a:Hd},a∈hdL (ptss ts)↔ ∃t∈ts,a∈hdL (pts t)
 | [],a=>by simp [ptss,hdL]
 |d::r,a=>by
  simp only [ptss,VL,aa8,XB,aaq,exists_eq_or_imp]
def jao (z:Str) (ts:List D):pts (.tup (.str z::ts))= .tup (.str z::ts)::ptss ts:=by simp only [pts]
def Xm (z:Str) (ts:List D):num (.tup (.str z::ts))=1+nums ts:=by simp only [num]
def Xz (z:Str) (ts:List D):hgt (.tup (.str z::ts))=1+hgts ts:=by simp only [hgt]
def hd_tup {z:Str} {ts:List D} {a:Hd}:a∈hdL (pts (.tup (.str z::ts)))↔a=(z,(ts.length:Int))\/ ∃t∈ts,a∈hdL (pts t):=by
 rw [jao,VJ,aaq,XB]
def nN:Nat->Nat
 |0=>1
 |n+1=>1+3*nN n
theorem jei: ∀n,1<=nN n
 |0=>aae _
 |n+1=>by show 1<=1+_;omega
structure Is (ns:List Str) (hs:List Hd) (n:Nat) (t:D):Prop where
 tk:tk ns t=true
 hgt:hgt t<=n+1
 num:num t<=nN n
 hd: ∀a∈hdL (pts t),a∈hs
def hsH (hs:List (Str×Nat)):List Hd:=hs.map fun h=>(h.1,(h.2:Int))
theorem ja2 {ns:List Str} {hs:List (Str×Nat)} (h3: ∀h∈hs,h.1∈ns/\h.2<=3): ∀(n:Nat) (t:Tr),Tn hs n t->Is ns (hsH hs) n t.d
 |n,.bk i,h=>by
  refine ⟨rfl,?_,?_,?_⟩
  · simp [Tr.d,hgt]
  · simp [Tr.d,num];exact jei n
  · intro b hb;simp [Tr.d,pts,hdL] at hb
 |0,.nd x l,h=>by
  cases (show l=[] from h.no);have hz:(x,0)∈hs:=h.hd (a:=(x,0)) rfl;rw [Tr.d_nd];refine ⟨uV (h3 _ hz).1 (by simp) (by simp),?_,?_,?_⟩
  · rw [Xz];simp [hgts]
  · rw [Xm];simp [nums,nN]
  · intro b hb;rcases hd_tup.mp hb with e| ⟨t,ht,_⟩
    · rw [e];exact aaB.mpr ⟨_,hz,rfl⟩
    · simp at ht
 |n+1,.nd x l,h=>by
  have hz:(x,l.length)∈hs:=h.hd (a:=(x,l.length)) rfl
  have ih: ∀d∈l.map Tr.d,Is ns (hsH hs) n d:=fun d hd=>by
    obtain ⟨p,hp,rfl⟩:=aaB.mp hd;exact ja2 h3 n p (h.kid1 p hp)
  have a:=h3 _ hz;have hl:(l.map Tr.d).length<=3:=by rw [aak];exact a.2
  rw [Tr.d_nd];refine ⟨uV a.1 (by omega) fun t ht=>(ih t ht).tk,?_,?_,?_⟩
  · rw [Xz];have:=VG fun t ht=>(ih t ht).hgt
    omega
  · rw [Xm];have h1:=jaO fun t ht=>(ih t ht).num
    have h2:=Nat.mul_le_mul_right (nN n) hl;show _<=1+3*nN n;omega
  · intro b hb;rcases hd_tup.mp hb with e| ⟨t,ht,hb⟩
    · rw [e,aak];exact aaB.mpr ⟨_,hz,rfl⟩
    · exact (ih t ht).hd b hb
def jde {ns:List Str} (hf:Few ns) {s t:D} (hs:tk ns s=true) (ht:tk ns t=true) (h1:hgt s<=64) (h2:hgt t<=64) (n1:num s<=900) (n2:num t<=900): ∃l:List Hd,F_all_heads [.lst [s,t]]= .ok (.lst (l.map hdD))/\ ∀a∈l,a∈hdL (pts s)\/a∈hdL (pts t):=by
 have ps:=KN 64 s (VT s hs) h1 (by omega);have pt:=KN 64 t (VT t ht) h2 (by omega);have ls:=Qf s;have lt:=Qf t
 have hmm: ∀x∈hmet (hmet [] (hdL (pts s))) (hdL (pts t)),x∈hdL (pts s)\/x∈hdL (pts t):=fun x hx=>by
  rcases QC hx with z|z
  · rcases QC z with z|z
    · cases z
    · exact .inl z
  · exact .inr z
 have nd:(hmet (hmet [] (hdL (pts s))) (hdL (pts t))).Nodup:=WE (WE adL)
 have hm: ∀x∈hmet (hmet [] (hdL (pts s))) (hdL (pts t)),x.1∈ns/\0<=x.2/\x.2<=9:=fun x hx=>by
  rcases hmm x hx with z|z
  · exact WF (Xf s hs) x z
  · exact WF (Xf t ht) x z
 have few:=VH nd hm;have hf1:=hf.1
 have ll:(hmet [] (hdL (pts s))).length<=900:=by
  have: ∀(xs l:List Hd),(hmet l xs).length<=l.length+xs.length:=by
    intro xs
    induction xs with
    |nil=>intro l;exact aae _
    |cons x xs ih=>
      intro l;have:=ih (hins l x);have:=Xy l x;simp only [aau];show (hmet (hins l x) xs).length<=_;omega
  have hq: ∀ds:List D,(hdL ds).length<=ds.length:=by
    intro ds
    induction ds with
    |nil=>exact aae _
    |cons d r ih=>
      cases d with
      |tup ts=>cases ts with
       |nil=>simp only [hdL,aau];omega
       |cons x ts=>cases x<;>simp only [hdL,aau]<;>omega
      |_=>simp only [hdL,aau];omega
  have h3:=this (hdL (pts s)) [];have h4:=hq (pts s);simp only [aca] at h3;omega
 obtain ⟨u,hu⟩:=xc (.shr (.lst [s,t])) (.shr s) (pts s) [] .un (Xf s hs) (by simp;omega);obtain ⟨v,hv⟩:=xc (.shr (.lst [s,t])) (.shr t) (pts t) (hmet [] (hdL (pts s))) u (Xf t ht) (by omega);have hit: ∀(o:Slot) (q:Slot),itF (jm 1 (F_parts 64) (ja (rdS 2) nil1)) [.shr (.lst [s,t]),o,.shr s,q]= .ok (pts s):=fun o q=>zO (jr (jc rfl rfl) rfl ps) rfl
 have hit2: ∀(o:Slot) (q:Slot),itF (jm 1 (F_parts 64) (ja (rdS 2) nil1)) [.shr (.lst [s,t]),o,.shr t,q]= .ok (pts t):=fun o q=>zO (jr (jc rfl rfl) rfl pt) rfl
 refine ⟨xL (hmet (hmet [] (hdL (pts s))) (hdL (pts t))),?_,fun a ha=>hmm a (sortH_mem.mp ha)⟩;refine zN ?_;unfold g_all_heads;rw [jk (env':=[.shr (.lst [s,t]),.own (.dit [] []),.un,.un]) rfl]
 have hout:forO (itF (rdS 0)) (gN 2) (forO (itF (jm 1 (F_parts 64) (ja (rdS 2) nil1))) (gN 3) (ifO (asB (isiF "tuple" (rdS 3))) (YL 1 (jm 1 F_head (ja (rdS 3) nil1)) (cB true)) nxO)) [.shr (.lst [s,t]),.own (.dit [] []),.un,.un]= .ok (.nx [.shr (.lst [s,t]),.own (.dit ((hmet (hmet [] (hdL (pts s))) (hdL (pts t))).map hdK) (htrs (hmet (hmet [] (hdL (pts s))) (hdL (pts t))))),.shr t,v]):=by
  rw [qO (ds:=[s,t]) rfl];refine (qx (env':=[.shr (.lst [s,t]),.own (.dit ((hmet [] (hdL (pts s))).map hdK) (htrs (hmet [] (hdL (pts s))))),.shr s,u]) ?_).trans ((qx (env':=[.shr (.lst [s,t]),.own (.dit ((hmet (hmet [] (hdL (pts s))) (hdL (pts t))).map hdK) (htrs (hmet (hmet [] (hdL (pts s))) (hdL (pts t))))),.shr t,v]) ?_).trans rfl)
  · rw [j4 (env':=[.shr (.lst [s,t]),.own (.dit [] []),.shr s,.un]) rfl,qO (hit _ _)];exact hu
  · rw [j4 (env':=[.shr (.lst [s,t]),.own (.dit ((hmet [] (hdL (pts s))).map hdK) (htrs (hmet [] (hdL (pts s))))),.shr t,u]) rfl,qO (hit2 _ _)];exact hv
 rw [jk hout];exact jE (qg (jc rfl rfl) (Yf nd (by omega) fun a ha=>jv (aaF (hf.2 _ (hm a ha).1) (by decide))))
def jce (hs:List (Str×Nat)):rkD hs= .dit ((hsH hs).map hdK) ((aaT hs.length).map fun (i:Nat)=>D.int i):=by
 unfold rkD hsH;rw [abE];rfl
def jcY (hs:List (Str×Nat)) (a:Hd):ninT (hdD a) (rkD hs)= .ok (.bl (!decide (a∈hsH hs))):=by
 rw [jce];show Res.ok (D.bl (!hasT ((hsH hs).map hdK) (hdK a)))=_;rw [VM]
theorem Xp {hs:List (Str×Nat)} {L:Slot}: ∀(l:List Hd) (u:Slot),(∀a∈l,a∈hsH hs)-> ∃v,forD (qB (gN 2) (ifO (asB (two (rdS 2) (rdS 1) ninT)) Vd nxO)) (l.map hdD) [L,.shr (rkD hs),u]= .ok (.nx [L,.shr (rkD hs),v])
 | [],u,_=>⟨u,rfl⟩
 |a::l,u,h=>by
  obtain ⟨v,e⟩:=Xp l (.shr (hdD a)) fun b hb=>h b (aaj _ hb)
  refine ⟨v,(qx ?_).trans e⟩;rw [j4 (env':=[L,.shr (rkD hs),.shr (hdD a)]) rfl];have:=jcY hs a;rw [decide_eq_true (h a aam)] at this;exact (if_f (jx (jg rfl rfl this))).trans rfl
def jaX {hs:List (Str×Nat)} {l:List Hd} (h: ∀a∈l,a∈hsH hs):F_look_for [.lst (l.map hdD),rkD hs]= .ok .non:=by
 obtain ⟨v,e⟩:=Xp l .un h;have:g_look_for (qC 3 [.lst (l.map hdD),rkD hs])= .ok (.nx [.shr (.lst (l.map hdD)),.shr (rkD hs),v]):=(qO (zO rfl rfl)).trans e;show runF true 3 g_look_for _=_;rw [ZH this];rfl
def QO (l:List D) (k:Nat):cutD l (some (k:Int)) none=l.drop k:=by
 unfold cutD;rw [HT.sIx_none,HT.sIx_nat]
 by_cases h:k<=l.length
 · rw [Nat.min_eq_left h];exact List.take_of_length_le (by simp)
 · rw [Nat.min_eq_right (by omega),List.drop_of_length_le (aae _),List.drop_of_length_le (by omega)];simp
def ixT {l:List D} {k:Nat} {x:D} (h:l[k]?=some x):ixD (.tup l) (.int (k:Int))= .ok x:=by
 simp only [ixD];rw [M.atI_nat,h]
def roD (hs:List (Str×Nat)) (S T:Tr):D:= .obj "Reckoning" ["rank", "ways"] [rkD hs,.mem (prsN S T) (phi (rkI hs))]
def xx (t:Tr):F_places [t.d]= .ok (.tup (t.kids.map Tr.d)):=by
 cases t with
 |bk i=>rfl
 |nd x l=>rw [Tr.d_nd,KI rfl];rfl
def hoD:Option (Str×Nat)->D
 |none=> .non
 |some a=>hdD (a.1,(a.2:Int))
def kW (t:Tr):F_head [t.d]= .ok (hoD t.hd):=by
 cases t with
 |bk i=>rfl
 |nd x l=>rw [Tr.d_nd,XA,aak];rfl
def kR (t:Tr):isiD "tuple" t.d= .ok (.bl t.hd.isSome):=by
 cases t with
 |bk i=>rfl
 |nd x l=>rw [Tr.d_nd];rfl
theorem vS: ∀(hs:List (Str×Nat)) (i:Nat) {h:Str×Nat},h∈hs->valT (hs.map kyP) ((List.range' i hs.length).map fun (j:Nat)=>D.int j) (kyP h)=some (.int ((i+hs.idxOf h:Nat):Int))
 | [],i,h,hm=>by cases hm
 |x::hs,i,h,hm=>by
  by_cases e:x=h
  · subst e;simp [valT,aeP,List.idxOf_cons]
  · have hm':h∈hs:=by
     rcases aaq.mp hm with z|z
     · exact (e z.symm).elim
     · exact z
    have ih:=vS hs (i+1) hm';have hne: ¬kyP x=kyP h:=fun z=>e (Wz z)
    have hb:(x==h)=false:=by simpa using e
    simp only [valT,aat,aau,aeP,abp,acd,hne,decide_false] at ih ⊢;rw [ih,List.idxOf_cons,hb];simp only [cond_false];congr 2;omega
def ut {hs:List (Str×Nat)} {h:Str×Nat} (hm:h∈hs):getT (rkD hs) (hdD (h.1,(h.2:Int)))= .ok (.int (rkI hs h)):=by
 have e:=vS hs 0 hm;rw [←List.range_eq_range',adQ] at e
 show (match valT (hs.map kyP) ((aaT hs.length).map fun (j:Nat)=>D.int j) (kyP h) with
  |some d=>Res.ok d
  |none=> .stuck)=_
 rw [e];rfl
def Xv (w:Option WR):(wD w).isNon=!w.isSome:=by
 cases w with
 |none=>rfl
 |some w=>cases w<;>rfl
def Vz (w:Option WR):isN (wD w) .non= .ok (.bl (!w.isSome)):=by
 show Res.ok (D.bl (wD w).isNon)=_;rw [Xv]
def Vc (w:Option WR):notN (wD w) .non= .ok (.bl w.isSome):=by
 show Res.ok (D.bl (!(wD w).isNon))=_;rw [Xv,Bool.not_not]
def zt {hs:List (Str×Nat)} {S T:Tr} {f:TW} {fo:T0} {g:TX} {env:Sl} {a b d:D} {m:Str} (hm:(["rank", "ways"]:List Str).contains m=false) (h1:fo env= .ok (roD hs S T)) (h2:g env= .ok [a,b]) (h3:f [roD hs S T,a,b]= .ok d):j3 "Reckoning" m 3 f fo g env= .ok d:=Qy h1 hm h2 rfl h3
section
variable {hs:List (Str×Nat)} {S T:Tr} {f:TW} {N:Nat}
abbrev pB (f:TW):Sl->Res Out:=ifO (orB (asB (two (rdS 4) (rdS 2) eqR)) (asB (two (j3 "Reckoning" "way" 3 f (rdS 0) (ja (rdS 4) (ja (rdS 2) nil1))) cN notN))) (retO (tupF (ja (cS "part") (ja (rdS 3) nil1)))) nxO
theorem Zh {t:Tr} {S1:Slot} (hN:N<=100): ∀(l:List Tr) (j:Nat) (u3 u4:Slot),(∀p∈l,Tn hs N p/\f [roD hs S T,p.d,t.d]= .ok (wD (way (rkI hs) p t)))->
  (∀i,(l.findIdx? fun p=>decide (p=t)||gtB (rkI hs) p t)=some i->forD (qB (g2 (gN 3) (gN 4)) (pB f)) (jz j (l.map Tr.d)) [.shr (roD hs S T),S1,.shr t.d,u3,u4]= .ok (.rt true (wD (some (.part (j+i))))))/\
  ((l.findIdx? fun p=>decide (p=t)||gtB (rkI hs) p t)=none-> ∃v3 v4,forD (qB (g2 (gN 3) (gN 4)) (pB f)) (jz j (l.map Tr.d)) [.shr (roD hs S T),S1,.shr t.d,u3,u4]= .ok (.nx [.shr (roD hs S T),S1,.shr t.d,v3,v4]))
 | [],j,u3,u4,_=>⟨fun i h=>by simp at h,fun _=>⟨u3,u4,rfl⟩⟩
 |p::l,j,u3,u4,h=>by
  obtain ⟨hp,hw⟩:=h p aam;have ih:=Zh (S1:=S1) hN l (j+1) (.shr (.int (j:Int))) (.shr p.d) fun q hq=>h q (aaj _ hq)
  have test:orB (asB (two (rdS 4) (rdS 2) eqR)) (asB (two (j3 "Reckoning" "way" 3 f (rdS 0) (ja (rdS 4) (ja (rdS 2) nil1))) cN notN)) [.shr (roD hs S T),S1,.shr t.d,.shr (.int (j:Int)),.shr p.d]= .ok (decide (p=t)||gtB (rkI hs) p t):=
   Qj (jx (jg rfl rfl (jbj hN hp))) (jx (jg (zt (by decide) rfl (jc rfl (jc rfl rfl)) hw) rfl (Vc _)))
  have step:forD (qB (g2 (gN 3) (gN 4)) (pB f)) (jz j ((p::l).map Tr.d)) [.shr (roD hs S T),S1,.shr t.d,u3,u4]=forD (qB (g2 (gN 3) (gN 4)) (pB f)) (.tup [.int (j:Int),p.d]::jz (j+1) (l.map Tr.d)) [.shr (roD hs S T),S1,.shr t.d,u3,u4]:=rfl;rw [step,aeq]
  cases c:(decide (p=t)||gtB (rkI hs) p t) with
  |true=>
   rw [c] at test;refine ⟨fun i e=>?_,fun e=>by simp at e⟩;simp only [if_true,ab7] at e;subst e;refine VS ?_;rw [j4 (env':=[.shr (roD hs S T),S1,.shr t.d,.shr (.int (j:Int)),.shr p.d]) rfl];exact (if_t test).trans (jE (wm (jc rfl (jc rfl rfl)) (jv (show 2<=20000 by decide))))
  |false=>
   rw [c] at test
   have go:qB (g2 (gN 3) (gN 4)) (pB f) (.tup [.int (j:Int),p.d]) [.shr (roD hs S T),S1,.shr t.d,u3,u4]= .ok (.nx [.shr (roD hs S T),S1,.shr t.d,.shr (.int (j:Int)),.shr p.d]):=by
     rw [j4 (env':=[.shr (roD hs S T),S1,.shr t.d,.shr (.int (j:Int)),.shr p.d]) rfl];exact (if_f test).trans rfl
   rw [qx go];simp only [aa0,if_false];refine ⟨fun i e=>?_,fun e=>?_⟩
   · rw [abr] at e;obtain ⟨i',e1,rfl⟩:=e;rw [ih.1 i' e1,show j+1+i'=j+(i'+1) by omega]
   · rw [Option.map_eq_none_iff] at e;exact ih.2 e
def vM (hN:N<=100) {s t:Tr} (h: ∀p∈s.kids,Tn hs N p/\f [roD hs S T,p.d,t.d]= .ok (wD (way (rkI hs) p t))):F_Reckoning_o_by_part f [roD hs S T,s.d,t.d]= .ok (wD (wpart (gtB (rkI hs)) s t)):=by
 have L:=Zh (T:=T) (S:=S) (S1:= .shr s.d) hN s.kids 0 .un .un h
 have en:Ui (jm 1 F_places (ja (rdS 1) nil1)) [.shr (roD hs S T),.shr s.d,.shr t.d,.un,.un]= .ok (jz 0 (s.kids.map Tr.d)):=by
  have e:jm 1 F_places (ja (rdS 1) nil1) [.shr (roD hs S T),.shr s.d,.shr t.d,.un,.un]= .ok (.tup (s.kids.map Tr.d)):=jr (jc rfl rfl) rfl (xx s);unfold Ui;rw [e];rfl
 refine zN ?_;show g_Reckoning_o_by_part F_places f [.shr (roD hs S T),.shr s.d,.shr t.d,.un,.un]=_;unfold g_Reckoning_o_by_part wpart
 cases c:(s.kids.findIdx? fun p=>decide (p=t)||gtB (rkI hs) p t) with
 |some i=>
  have:=L.1 i c;rw [adQ] at this;exact wz ((qO en).trans this)
 |none=>
  obtain ⟨v3,v4,e⟩:=L.2 c;exact (jk ((qO en).trans e)).trans (jE rfl)
theorem QS {body:D->Sl->Res Out} (E:Slot->Sl) (g:Tr->Bool): ∀(l:List Tr) (u:Slot),(∀p∈l,∀u,body p.d (E u)=if g p=true then .ok (.nx (E (.shr p.d))) else .ok (.rt true .non))->
  (l.all g=true-> ∃v,forD body (l.map Tr.d) (E u)= .ok (.nx (E v)))/\(l.all g=false->forD body (l.map Tr.d) (E u)= .ok (.rt true .non))
 | [],u,_=>⟨fun _=>⟨u,rfl⟩,fun h=>by simp at h⟩
 |p::l,u,h=>by
  have hp:=h p aam u;have ih:=QS E g l (.shr p.d) fun q hq=>h q (aaj _ hq)
  rw [acU,aat]
  cases c:g p with
  |true=>
   rw [c,if_pos rfl] at hp;rw [qx hp,Bool.true_and];exact ih
  |false=>
   rw [c,if_neg aaH] at hp;exact ⟨fun z=>by simp at z,fun _=>VS hp⟩
def vN {s t:Tr} (hs1: ∀a,s.hd=some a->a∈hs) (ht1: ∀a,t.hd=some a->a∈hs) (h: ∀p∈t.kids,f [roD hs S T,s.d,p.d]= .ok (wD (way (rkI hs) s p))):F_Reckoning_o_by_head f [roD hs S T,s.d,t.d]= .ok (wD (whead (rkI hs) (gtB (rkI hs)) s t)):=by
 refine zN ?_;show g_Reckoning_o_by_head F_places F_head f [.shr (roD hs S T),.shr s.d,.shr t.d,.un]=_;unfold g_Reckoning_o_by_head whead;have t0:orB (notB (asB (isiF "tuple" (rdS 1)))) (notB (asB (isiF "tuple" (rdS 2)))) [.shr (roD hs S T),.shr s.d,.shr t.d,.un]= .ok (!s.hd.isSome||!t.hd.isSome):=Qj (qv (jx (zh rfl (kR s)))) (qv (jx (zh rfl (kR t))))
 have no:(!s.hd.isSome||!t.hd.isSome)=true->rl (rkI hs) s t=false:=fun z=>by
   cases e:rl (rkI hs) s t with
   |false=>rfl
   |true=>
    obtain ⟨a,b,e1,e2,_⟩:=yM _ e;rw [e1,e2] at z;cases z
 cases c0:(!s.hd.isSome||!t.hd.isSome) with
 |true=>
   rw [c0] at t0;rw [if_neg (fun z=>aaH ((no c0).symm.trans z.1))];exact wz ((if_t t0).trans (jE rfl))
 |false=>
 rw [c0] at t0
 obtain ⟨a,b,ea,eb⟩: ∃a b,s.hd=some a/\t.hd=some b:=by
   cases e1:s.hd with
   |none=>rw [e1] at c0;cases c0
   |some a=>
    cases e2:t.hd with
    |none=>rw [e1,e2] at c0;cases c0
    |some b=>exact ⟨a,b,rfl,rfl⟩
 refine (jk ((if_f t0).trans rfl)).trans ?_;have h1:=kW s;have h2:=kW t;rw [ea] at h1;rw [eb] at h2
 have tst:asB (two (two (fldF "Reckoning" "rank" (rdB 0)) (jm 1 F_head (ja (rdS 1) nil1)) getT) (two (fldF "Reckoning" "rank" (rdB 0)) (jm 1 F_head (ja (rdS 2) nil1)) getT) geI) [.shr (roD hs S T),.shr s.d,.shr t.d,.un]= .ok (decide ((rkI hs a:Int)>=rkI hs b)):=
   jx (jg (jg rfl (jr (jc rfl rfl) rfl h1) (ut (hs1 a ea))) (jg rfl (jr (jc rfl rfl) rfl h2) (ut (ht1 b eb))) rfl)
 by_cases c:rkI hs a<rkI hs b
 · rw [decide_eq_false (by omega)] at tst;have cr:=jae (rkI hs) ea eb c;refine (jk ((if_f tst).trans rfl)).trans ?_
   have L:=QS (body:=qB (gN 3) (ifO (asB (two (j3 "Reckoning" "way" 3 f (rdS 0) (ja (rdS 1) (ja (rdS 3) nil1))) cN isN)) (retO cN) nxO)) (fun u=>[.shr (roD hs S T),.shr s.d,.shr t.d,u]) (gtB (rkI hs) s) t.kids .un (fun p hp u=>by
    rw [j4 (env':=[.shr (roD hs S T),.shr s.d,.shr t.d,.shr p.d]) rfl];have tt:asB (two (j3 "Reckoning" "way" 3 f (rdS 0) (ja (rdS 1) (ja (rdS 3) nil1))) cN isN) [.shr (roD hs S T),.shr s.d,.shr t.d,.shr p.d]= .ok (!gtB (rkI hs) s p):=jx (jg (zt (by decide) rfl (jc rfl (jc rfl rfl)) (h p hp)) rfl (Vz _))
    cases e:gtB (rkI hs) s p with
    |true=>rw [e] at tt;exact (if_f tt).trans rfl
    |false=>rw [e] at tt;exact (if_t tt).trans rfl)
   have it:itF (jm 1 F_places (ja (rdS 2) nil1)) [.shr (roD hs S T),.shr s.d,.shr t.d,.un]= .ok (t.kids.map Tr.d):=zO (jr (jc rfl rfl) rfl (xx t)) rfl
   cases a:t.kids.all (gtB (rkI hs) s) with
   |true=>
    obtain ⟨v,e⟩:=L.1 a;rw [if_pos ⟨cr,rfl⟩];exact (jk ((qO it).trans e)).trans (jE (wm (jc rfl rfl) (jv (show 1<=20000 by decide))))
   |false=>
    rw [if_neg (fun z=>aaH z.2)];exact wz ((qO it).trans (L.2 a))
 · rw [decide_eq_true (by omega)] at tst
   rw [if_neg (fun z=>by
    obtain ⟨a',b',e1,e2,z2⟩:=yM _ z.1;rw [ea] at e1;rw [eb] at e2;cases e1;cases e2
    exact c z2)]
   exact wz ((if_t tst).trans (jE rfl))
noncomputable abbrev fuT:Sl->Res Bool:=asB (two (two (jm 1 F_places (ja (rdS 0) nil1)) (rdS 2) ixD) (two (jm 1 F_places (ja (rdS 1) nil1)) (rdS 2) ixD) eqR)
abbrev fuB:Sl->Res Out:=jJ 2 (two (rdS 2) (cI 1) (augI fun i j=>i+j))
def VP {s t a b:Tr} {i:Nat} (hN:N<=100) (ha:s.kids[i]?=some a) (hb:t.kids[i]?=some b) (hT:Tn hs N a):fuT [.shr s.d,.shr t.d,.shr (.int (i:Int))]= .ok (decide (a=b)):=by
 have e1:(s.kids.map Tr.d)[i]?=some a.d:=by rw [aaG,ha];rfl
 have e2:(t.kids.map Tr.d)[i]?=some b.d:=by rw [aaG,hb];rfl
 exact jx (jg (jg (jr (jc rfl rfl) rfl (xx s)) rfl (ixT e1)) (jg (jr (jc rfl rfl) rfl (xx t)) rfl (ixT e2)) (jbj hN hT))
theorem VQ {s t a b:Tr} {pre u v:List Tr} (hN:N<=100) (h1:s.kids=pre++a::u) (h2:t.kids=pre++b::v) (hab:a≠b) (hT: ∀p∈s.kids,Tn hs N p): ∀(k n i:Nat),i+k=pre.length->k<n->zo n fuT fuB [.shr s.d,.shr t.d,.shr (.int (i:Int))]= .ok (.nx [.shr s.d,.shr t.d,.shr (.int (pre.length:Int))])
 |k,0,i,_,h=>absurd h (abv _)
 |0,n+1,i,hi,_=>by
  have hi':i=pre.length:=by omega
  subst hi';have ea:s.kids[pre.length]?=some a:=by rw [h1];simp
  have eb:t.kids[pre.length]?=some b:=by rw [h2];simp
  have tt:=VP hN ea eb (hT a (by rw [h1];simp));rw [decide_eq_false hab] at tt;exact JE tt
 |k+1,n+1,i,hi,hn=>by
  have hl:i<pre.length:=by omega
  have ea:s.kids[i]?=some pre[i]:=by rw [h1,aaA hl,aac hl]
  have eb:t.kids[i]?=some pre[i]:=by rw [h2,aaA hl,aac hl]
  have tt:=VP hN ea eb (hT _ (aaN ea));rw [decide_eq_true rfl] at tt;have bb:fuB [.shr s.d,.shr t.d,.shr (.int (i:Int))]= .ok (.nx [.shr s.d,.shr t.d,.shr (.int ((i+1:Nat):Int))]):=rfl;rw [QY tt bb];exact VQ hN h1 h2 hab hT k n (i+1) (by omega) (by omega)
def jdm {s t a b:Tr} {pre u v:List Tr} (hN:N<=100) (h1:s.kids=pre++a::u) (h2:t.kids=pre++b::v) (hab:a≠b) (hT: ∀p∈s.kids,Tn hs N p) (hl:pre.length<64):F_first_unlike [s.d,t.d]= .ok (.int (pre.length:Int)):=by
 refine jac ?_;show g_first_unlike F_places [.shr s.d,.shr t.d,.un]=_;unfold g_first_unlike;refine (jk (jA rfl)).trans ?_;refine (jk (VQ hN h1 h2 hab hT pre.length 64 0 (by omega) hl)).trans ?_;exact Qd rfl
def jeg (a:Str×Nat) (b:Option (Str×Nat)):neR (hoD (some a)) (hoD b)= .ok (.bl (!decide (some a=b))):=by
 have e:eqD (hoD (some a)) (hoD b)=decide (some a=b):=by
  cases b with
  |none=>rw [decide_eq_false (fun z=>by cases z)];rfl
  |some b=>
  rw [XR (by rfl) (by rfl)]
  by_cases h:a=b
  · rw [decide_eq_true (by rw [h]),decide_eq_true (by rw [h])]
  · rw [decide_eq_false (fun z=>h ?_),decide_eq_false fun z=>h (by cases z;rfl)];simp only [hoD,hdD,D.tup.injEq,abf,D.str.injEq,D.int.injEq,and_true] at z;exact Prod.ext z.1 (by omega)
 unfold neR;rw [e];refine jl (.inl ⟨rfl,?_,by simp [hoD,hdD,D.dep,D.deps]⟩);cases b<;>rfl
def uS {f:Tr->Tr->Bool} {s t:Tr} (h:s.hd=none):wrow f s t=none:=by
 cases s with
 |bk i=>
  unfold wrow
  split
  · simp [Tr.kids]
  · rfl
 |nd x l=>cases h
def jbB (hN:N<=100) {s t:Tr} (hT:Tn hs N s) (hK: ∀p∈s.kids,Tn hs N p) (h3:s.kids.length<=60) (h: ∀p∈t.kids,f [roD hs S T,s.d,p.d]= .ok (wD (way (rkI hs) s p))) (hh: ∀p∈s.kids,∀q∈t.kids,f [roD hs S T,p.d,q.d]= .ok (wD (way (rkI hs) p q))):F_Reckoning_o_by_row f [roD hs S T,s.d,t.d]= .ok (wD (wrow (gtB (rkI hs)) s t)):=by
 refine zN ?_;show g_Reckoning_o_by_row F_first_unlike f F_places F_head [.shr (roD hs S T),.shr s.d,.shr t.d,.un,.un]=_;unfold g_Reckoning_o_by_row
 cases c0:s.hd with
 |none=>
   have t0:=kR s;rw [c0] at t0;rw [uS c0]
   have t1:orB (notB (asB (isiF "tuple" (rdS 1)))) (orB (asB (two (jm 1 F_head (ja (rdS 1) nil1)) (jm 1 F_head (ja (rdS 2) nil1)) neR)) (asB (two (rdS 1) (rdS 2) eqR))) [.shr (roD hs S T),.shr s.d,.shr t.d,.un,.un]= .ok true:=by
    show (notB (asB (isiF "tuple" (rdS 1))) _>>=_)=_;rw [qv (jx (zh rfl t0))];rfl
   exact wz ((if_t t1).trans (jE rfl))
 |some hq=>
 have h0:=kW s;have h9:=kR s;rw [c0] at h0 h9;unfold wrow
 have tst:orB (notB (asB (isiF "tuple" (rdS 1)))) (orB (asB (two (jm 1 F_head (ja (rdS 1) nil1)) (jm 1 F_head (ja (rdS 2) nil1)) neR)) (asB (two (rdS 1) (rdS 2) eqR))) [.shr (roD hs S T),.shr s.d,.shr t.d,.un,.un]= .ok (!true|| (!decide (some hq=t.hd)||decide (s=t))):=
   Qj (qv (jx (zh rfl h9))) (Qj (jx (jg (jr (jc rfl rfl) rfl h0) (jr (jc rfl rfl) rfl (kW t)) (jeg _ _))) (jx (jg rfl rfl (jbj hN hT))))
 rw [←c0] at tst
 by_cases c:s.hd=t.hd/\s≠t
 · rw [decide_eq_true c.1,decide_eq_false c.2] at tst;rw [if_pos c];have hl:s.kids.length=t.kids.length:=Tr.len_eq c.1;obtain ⟨pre,a,b,u,v,h1,h2,hab,h4⟩:=QE hl fun z=>c.2 (Tr.ext c0 c.1 z)
   have ea:s.kids[fu s.kids t.kids]?=some a:=by rw [h4,h1];simp
   have eb:t.kids[fu s.kids t.kids]?=some b:=by rw [h4,h2];simp
   have ed:t.kids.drop (fu s.kids t.kids+1)=v:=by rw [h4,h2];simp
   rw [ea,eb,ed,h4];rw [h4] at ea eb ed;simp only;have hpl:pre.length<64:=by rw [h1,aaE,aau] at h3;omega
   have ha:a∈s.kids:=by rw [h1];simp
   have hb:b∈t.kids:=by rw [h2];simp
   refine (jk ((if_f tst).trans rfl)).trans ?_;refine (jk (jA (jr (jc rfl (jc rfl rfl)) rfl (jdm hN h1 h2 hab hK hpl)))).trans ?_;show seqO _ _ [.shr (roD hs S T),.shr s.d,.shr t.d,.shr (.int (pre.length:Int)),.un]=_;have e1:(s.kids.map Tr.d)[pre.length]?=some a.d:=by rw [aaG,ea];rfl
   have e2:(t.kids.map Tr.d)[pre.length]?=some b.d:=by rw [aaG,eb];rfl
   have t2:asB (two (j3 "Reckoning" "way" 3 f (rdS 0) (ja (two (jm 1 F_places (ja (rdS 1) nil1)) (rdS 3) ixD) (ja (two (jm 1 F_places (ja (rdS 2) nil1)) (rdS 3) ixD) nil1))) cN isN) [.shr (roD hs S T),.shr s.d,.shr t.d,.shr (.int (pre.length:Int)),.un]= .ok (!gtB (rkI hs) a b):=
    jx (jg (zt (by decide) rfl (jc (jg (jr (jc rfl rfl) rfl (xx s)) rfl (ixT e1)) (jc (jg (jr (jc rfl rfl) rfl (xx t)) rfl (ixT e2)) rfl)) (hh a ha b hb)) rfl (Vz _))
   cases g:gtB (rkI hs) a b with
   |false=>
    rw [g] at t2;rw [if_neg (by simp)];exact wz ((if_t t2).trans (jE rfl))
   |true=>
    rw [g] at t2;refine (jk ((if_f t2).trans rfl)).trans ?_
    have L:=QS (body:=qB (gN 4) (ifO (asB (two (j3 "Reckoning" "way" 3 f (rdS 0) (ja (rdS 1) (ja (rdS 4) nil1))) cN isN)) (retO cN) nxO)) (fun w=>[.shr (roD hs S T),.shr s.d,.shr t.d,.shr (.int (pre.length:Int)),w]) (gtB (rkI hs) s) v .un (fun p hp w=>by
      have hp':p∈t.kids:=by rw [h2];simp [hp]
      rw [j4 (env':=[.shr (roD hs S T),.shr s.d,.shr t.d,.shr (.int (pre.length:Int)),.shr p.d]) rfl];have tt:asB (two (j3 "Reckoning" "way" 3 f (rdS 0) (ja (rdS 1) (ja (rdS 4) nil1))) cN isN) [.shr (roD hs S T),.shr s.d,.shr t.d,.shr (.int (pre.length:Int)),.shr p.d]= .ok (!gtB (rkI hs) s p):=jx (jg (zt (by decide) rfl (jc rfl (jc rfl rfl)) (h p hp')) rfl (Vz _))
      cases e:gtB (rkI hs) s p with
      |true=>rw [e] at tt;exact (if_f tt).trans rfl
      |false=>rw [e] at tt;exact (if_t tt).trans rfl)
    have it:itF (qf (jm 1 F_places (ja (rdS 2) nil1)) (zb (two (rdS 3) (cI 1) addD)) wu slD) [.shr (roD hs S T),.shr s.d,.shr t.d,.shr (.int (pre.length:Int)),.un]= .ok (v.map Tr.d):=by
      refine zO (zU (jr (jc rfl rfl) rfl (xx t)) (zp (jg rfl rfl rfl)) rfl rfl) ?_;show Res.ok (cutD (t.kids.map Tr.d) (some ((pre.length+1:Nat):Int)) none)=_;rw [QO,←List.map_drop,ed]
    cases al:v.all (gtB (rkI hs) s) with
    |true=>
      obtain ⟨w,e⟩:=L.1 al;rw [if_pos (by rfl)];exact (jk ((qO it).trans e)).trans (jE (wm (jc rfl (jc rfl rfl)) (jv (show 2<=20000 by decide))))
    |false=>
      rw [if_neg (by simp)];exact wz ((qO it).trans (L.2 al))
 · rw [if_neg c]
   have:(!true|| (!decide (s.hd=t.hd)||decide (s=t)))=true:=by
    by_cases e:s.hd=t.hd
    · by_cases e2:s=t
      · rw [decide_eq_true e2];simp
      · exact (c ⟨e,e2⟩).elim
    · rw [decide_eq_false e];rfl
   rw [this] at tst;exact wz ((if_t tst).trans (jE rfl))
def uc {f1 f2:T0} {env:Sl} {w1 w2:Option WR} (h1:f1 env= .ok (wD w1)) (h2:f2 env= .ok (wD w2)):orV f1 f2 env= .ok (wD (w1.or w2)):=by
 unfold orV;rw [h1,zJ,jbV,zJ]
 cases w1 with
 |none=>exact h2
 |some w=>rfl
def kI {c n:Str} {i j:Nat} {fe:T0} {env:Sl} {o m kd d:D} {r:Out} (h1:rdS i env= .ok o) (h2:fldD c n o= .ok m) (h3:rdS j env= .ok kd) (h4:fe env= .ok d) (h5:memo1 m kd d= .ok r):memoO c n i j fe env= .ok r:=by
 unfold memoO;rw [h1,zJ,h2,zJ,h3,zJ,h4,zJ,h5]
theorem way1 (hN:N<=6) (h3: ∀h∈hs,h.2<=3): ∀(n x y:Nat) (s t:Tr),s∈S.ps->t∈T.ps->Tn hs x s->Tn hs y t->x<=N->y<=N->x+y<n->F_Reckoning_o_way n [roD hs S T,s.d,t.d]= .ok (wD (way (rkI hs) s t))
 |0,x,y,s,t,_,_,_,_,_,_,h=>absurd h (abv _)
 |n+1,x,y,s,t,hs1,ht1,ts',tt',hx,hy,hz=>by
  have ts:Tn hs N s:=ts'.le hx;have tt:Tn hs N t:=tt'.le hy
  have lo: ∀ {z:Nat} {q:Tr},Tn hs z q-> ∀p∈q.kids,∃w,z=w+1/\Tn hs w p:=fun {z q} hq p hp=>by
   cases z with
   |zero=>rw [hq.no] at hp;cases hp
   |succ w=>exact ⟨w,rfl,hq.kid1 p hp⟩
  have kt: ∀p∈t.kids,F_Reckoning_o_way n [roD hs S T,s.d,p.d]= .ok (wD (way (rkI hs) s p)):=fun p hp=>by
   obtain ⟨w,rfl,hw⟩:=lo tt' p hp;exact way1 hN h3 n x w s p hs1 (xN T t ht1 p (JK hp p (ze p))) ts' hw hx (by omega) (by omega)
  have ks: ∀p∈s.kids,Tn hs N p/\F_Reckoning_o_way n [roD hs S T,p.d,t.d]= .ok (wD (way (rkI hs) p t)):=fun p hp=>by
   obtain ⟨w,rfl,hw⟩:=lo ts' p hp;exact ⟨ts.kid p hp,way1 hN h3 n w y p t (xN S s hs1 p (JK hp p (ze p))) ht1 hw tt' (by omega) hy (by omega)⟩
  have kk: ∀p∈s.kids,∀q∈t.kids,F_Reckoning_o_way n [roD hs S T,p.d,q.d]= .ok (wD (way (rkI hs) p q)):=fun p hp q hq=>by
   obtain ⟨w,rfl,hw⟩:=lo ts' p hp;obtain ⟨v,rfl,hv⟩:=lo tt' q hq;exact way1 hN h3 n w v p q (xN S s hs1 p (JK hp p (ze p))) (xN T t ht1 q (JK hq q (ze q))) hw hv (by omega) (by omega) (by omega)
  have hl:s.kids.length<=60:=by
   cases c:s.hd with
   |none=>
    cases s with
    |bk i=>simp [Tr.kids]
    |nd x l=>cases c
   |some a=>
    have:=h3 _ (ts.hd c);rw [Tr.hd_len c] at this;omega
  have b1:=vM (S:=S) (T:=T) (by omega) ks;have b2:=vN (S:=S) (T:=T) (fun _=>ts.hd) (fun _=>tt.hd) kt;have b3:=jbB (S:=S) (T:=T) (by omega) ts (fun p hp=>ts.kid p hp) hl kt kk
  have key:keyN (.tup [s.d,t.d])=some (.tup [s.k,t.k]):=by
   simp only [keyN,keyNs,Tr.keyN_d]
  have dp:(NK.tup [s.k,t.k]).dep<=8:=by
   simp only [NK.dep,NK.deps];have:=WC ts;have:=WC tt;omega
  refine zN ?_;show g_Reckoning_o_way _ _ _ [.shr (roD hs S T),.shr s.d,.shr t.d,.un]=_;unfold g_Reckoning_o_way;have pr:tupF (ja (rdS 1) (ja (rdS 2) nil1)) [.shr (roD hs S T),.shr s.d,.shr t.d,.un]= .ok (.tup [s.d,t.d]):=wm (jc rfl (jc rfl rfl)) (jv (show 2<=20000 by decide));refine (jk (jA pr)).trans ?_;show memoO _ _ _ _ _ [.shr (roD hs S T),.shr s.d,.shr t.d,.shr (.tup [s.d,t.d])]=_;rw [YZ];refine kI rfl rfl rfl (uc (zt (by decide) rfl (jc rfl (jc rfl rfl)) b1) (uc (zt (by decide) rfl (jc rfl (jc rfl rfl)) b2) (zt (by decide) rfl (jc rfl (jc rfl rfl)) b3))) ?_;refine kJ key (jcV _) (ka hs1 ht1) dp (jcU _) fun z=>?_
  rw [jat,YZ];rfl
end
def jas {α:Type} {c:Sl->α} {f:α->Sl->Res D} {env:Sl} {d:D} {p:α} (hc:c env=p) (h:f p env= .ok d):kg c f env= .ok d:=by
 unfold kg;rw [hc];exact h
def jd3 {hs:List (Str×Nat)} {S T:Tr} (hl:(prsN S T).length<aai):F_Reckoning_o___init__ (mpOf hs S T) (.obj "Reckoning" [] []) [rkD hs]= .ok (.non,roD hs S T):=by
 have cm:cM (mpOf hs S T) [.own (.obj "Reckoning" ["rank"] [rkD hs]),.shr (rkD hs)]= .ok (.mem (prsN S T) (phi (rkI hs))):=jl hl
 have hg:g_Reckoning_o___init__ (mpOf hs S T) [.own (.obj "Reckoning" [] []),.shr (rkD hs)]= .ok (.nx [.own (roD hs S T),.shr (rkD hs)]):=by
  unfold g_Reckoning_o___init__;have h1:Yk 0 "Reckoning" "rank" (rdS 1) [.own (.obj "Reckoning" [] []),.shr (rkD hs)]= .ok (.nx [.own (.obj "Reckoning" ["rank"] [rkD hs]),.shr (rkD hs)]):=rfl;show (Yk 0 "Reckoning" "rank" (rdS 1) [.own (.obj "Reckoning" [] []),.shr (rkD hs)]>>=_)=_;rw [h1];show (cM (mpOf hs S T) [.own (.obj "Reckoning" ["rank"] [rkD hs]),.shr (rkD hs)]>>=_)=_;rw [cm];rfl
 show must (([rkD hs]:List D).length=1) (g_Reckoning_o___init__ (mpOf hs S T) [.own (.obj "Reckoning" [] []),.shr (rkD hs)]>>=_)=_;refine (jl (show ([rkD hs]:List D).length=1 from rfl)).trans ?_;rw [hg];rfl
def jdn {ns:List Str} {hs:List (Str×Nat)} (hf:Few ns) (h3: ∀h∈hs,h.1∈ns/\h.2<=3) {s t:Tr} (ts:Tn hs 4 s) (tt:Tn hs 4 t):F_Ranks_o_falls [rcD hs,s.d,t.d]= .ok (.bl (gtB (rkI hs) s t)):=by
 have a3: ∀h∈hs,h.2<=3:=fun h hh=>(h3 h hh).2
 have is1:=ja2 h3 4 s ts;have is2:=ja2 h3 4 t tt;have z1:=UV a3 ts;have z2:=UV a3 tt;have n13:sN 4=121:=rfl;have m13:nN 4=121:=rfl;have q1:=is1.hgt;have q2:=is2.hgt;have q3:=is1.num;have q4:=is2.num;obtain ⟨l,e1,e2⟩:=jde hf is1.tk is2.tk (by omega) (by omega) (by omega) (by omega);have lk:=jaX (hs:=hs) (l:=l) fun a ha=>(e2 a ha).elim (is1.hd a) (is2.hd a)
 have hl:(prsN s t).length<aai:=by
  rw [ke];have:=Nat.mul_le_mul z1 z2;exact adt this (by rw [n13];decide)
 have wy:=way1 (S:=s) (T:=t) (N:=4) (by decide) a3 16 4 4 s t (ze s) (ze t) ts tt (aae _) (aae _) (by decide);refine zN ?_;show g_Ranks_o_falls _ _ _ _ [.shr (rcD hs),.shr s.d,.shr t.d]=_;unfold g_Ranks_o_falls
 have h1:Uq (jm 2 F_look_for (ja (jm 1 F_all_heads (ja (lstF (ja (rdS 1) (ja (rdS 2) nil1))) nil1)) (ja (fldF "Ranks" "rank" (rdB 0)) nil1))) [.shr (rcD hs),.shr s.d,.shr t.d]= .ok (.nx [.shr (rcD hs),.shr s.d,.shr t.d]):=
  Uo (jr (jc (jr (jc (qM (jc rfl (jc rfl rfl)) (jv (show 2<=20000 by decide))) rfl) rfl e1) (jc rfl rfl)) rfl lk)
 refine (jk h1).trans (jE (jg (jas (jd8 hs s t) (zt (by decide) ?_ (jc rfl (jc rfl rfl)) wy)) rfl (Vc _)));exact Wv (jc rfl rfl) rfl (jd3 hl)
def ixLn {l:List D} {k:Nat} {x:D} (h:l[k]?=some x):ixD (.lst l) (.int (k:Int))= .ok x:=by
 simp only [ixD];rw [M.atI_nat,h]
theorem JW {α:Type}: ∀ {l:List α} {i:Nat} {x:α},l[i]?=some x->(x::l.eraseIdx i).Perm l
 | [],i,x,h=>by simp at h
 |a::l,0,x,h=>by simp at h;subst h;exact aew _
 |a::l,i+1,x,h=>by
  have ih:=JW (l:=l) (i:=i) (x:=x) (by simpa using h);rw [List.eraseIdx_cons_succ];exact (List.Perm.swap a x _).trans (ih.cons a)
theorem Zp {α β:Type} (f:α->β): ∀(l:List α) (i:Nat),(l.map f).eraseIdx i=(l.eraseIdx i).map f
 | [],i=>rfl
 |a::l,0=>rfl
 |a::l,i+1=>by simp only [aat,List.eraseIdx_cons_succ,Zp f l i]
def hN (h:Str×Nat):D:=hdN h.1 h.2
def jeh (l:List (Str×Nat)):D.eqb (.lst (l.map hN))=true:=by
 simp only [D.eqb];exact XL (fun _=>rfl) l
def uf (l:List (Str×Nat)):neR (.lst (l.map hN)) (.lst [])= .ok (.bl (!l.isEmpty)):=by
 have e:eqD (.lst (l.map hN)) (.lst [])=l.isEmpty:=by
  cases l<;>rfl
 unfold neR;rw [e];refine jl (.inl ⟨jeh l,rfl,?_⟩);simp only [D.dep]
 have:D.deps (l.map hN)<=1:=deps_le fun d hd=>by
  obtain ⟨h,_,rfl⟩:=aaB.mp hd;exact aeW rfl
 omega
abbrev taT:Sl->Res Bool:=asB (two (rdB 2) (lstF nil1) neR)
abbrev taB:Sl->Res Out:=seqO (asgO (app (ja (rdS 0) (ja (app (ja (rdB 2) nil1) lenD) nil1)) zi) (g2 (gN 0) (gN 4))) (X4 3 2 (rdS 4))
theorem Y5 {A:Slot}: ∀(k fuel:Nat) (left found:List (Str×Nat)) (n:Int) (u4:Slot),left.length=k->k<fuel->k+found.length<=1000-> ∃(found':List (Str×Nat)) (n':Int) (v4:Slot),zo fuel taT taB [.shr (.int n),A,.own (.lst (left.map hN)),.own (.lst (found.map hN)),u4]= .ok (.nx [.shr (.int n'),A,.own (.lst []),.own (.lst (found'.map hN)),v4])/\found'.Perm (found++left)
 |k,0,left,found,n,u4,_,h,_=>absurd h (abv _)
 |0,fuel+1,left,found,n,u4,hl,_,_=>by
  cases List.length_eq_zero_iff.mp hl;refine ⟨found,n,u4,JE ?_,by simp⟩;have e0:lstF nil1 [.shr (.int n),A,.own (.lst (([]:List (Str×Nat)).map hN)),.own (.lst (found.map hN)),u4]= .ok (.lst []):=qM rfl (jv (show 0<=20000 by decide));exact jx (jg rfl e0 (uf []))
 |k+1,fuel+1,left,found,n,u4,hl,hf,hm=>by
  have hp:(0:Int)<left.length:=by omega
  have tt:taT [.shr (.int n),A,.own (.lst (left.map hN)),.own (.lst (found.map hN)),u4]= .ok true:=by
   have e0:lstF nil1 [.shr (.int n),A,.own (.lst (left.map hN)),.own (.lst (found.map hN)),u4]= .ok (.lst []):=qM rfl (jv (show 0<=20000 by decide));refine jx ((jg rfl e0 (uf left)).trans ?_)
   cases left with
   |nil=>simp at hl
   |cons a l=>rfl
  have z0:=abS n (show ((left.length:Int))≠0 by omega);have z1:=abq n hp;have hi:(n%left.length).toNat<left.length:=by omega
  obtain ⟨x,hx⟩: ∃x,left[(n%left.length).toNat]?=some x:=⟨_,aac hi⟩
  have lenE:lenD [.lst (left.map hN)]= .ok (.int left.length):=by show Res.ok (D.int ((left.map hN).length))=_;rw [aak]
  have bb:taB [.shr (.int n),A,.own (.lst (left.map hN)),.own (.lst (found.map hN)),u4]= .ok (.nx [.shr (.int (n/left.length)),A,.own (.lst ((left.eraseIdx (n%left.length).toNat).map hN)),.own (.lst ((found++[x]).map hN)),.shr (.int (n%left.length))]):=by
   refine (jk (zK (vx rfl (qg (jc rfl rfl) lenE) (by omega)))).trans ?_;show X4 3 2 (rdS 4) [.shr (.int (n/left.length)),A,.own (.lst (left.map hN)),.own (.lst (found.map hN)),.shr (.int (n%left.length))]=_;show popA 3 2 _ (found.map hN) (left.map hN) (.int (n%left.length))=_;simp only [popA];rw [aaG,hx];simp only [Option.map_some];rw [jl ⟨⟨z0,by omega⟩,by decide,by rw [aak];exact aaC (show found.length<20000 by omega) big1⟩,Zp,abR];rfl
  rw [QY tt bb]
  have hl2:(left.eraseIdx (n%left.length).toNat).length=k:=by
   rw [List.length_eraseIdx_of_lt hi];omega
  obtain ⟨f',n',v4,e,pm⟩:=Y5 (A:=A) k fuel (left.eraseIdx (n%left.length).toNat) (found++[x]) (n/left.length) (.shr (.int (n%left.length))) hl2 (by omega) (by simp;omega);refine ⟨f',n',v4,e,pm.trans ?_⟩;rw [aaS];exact List.Perm.append_left found (JW hx)
def uT (n:Int) (hs:List (Str×Nat)) (hl:hs.length<=60): ∃hs':List (Str×Nat),F__law_turned_about [.int n,.lst (hs.map hN)]= .ok (.lst (hs'.map hN))/\hs'.Perm hs:=by
 obtain ⟨f',n',v4,e,pm⟩:=Y5 (A:= .shr (.lst (hs.map hN))) hs.length 64 hs [] n .un rfl (by omega) (by simp;omega);refine ⟨f',?_,by simpa using pm⟩;refine zN ?_;show g__law_turned_about [.shr (.int n),.shr (.lst (hs.map hN)),.un,.un,.un]=_;unfold g__law_turned_about;refine (jk (wx (qg (jc rfl rfl) rfl))).trans ?_;have e0: ∀env,lstF nil1 env= .ok (.lst []):=fun env=>qM rfl (jv (show 0<=20000 by decide))
 refine (jk (wx (e0 _))).trans ?_;exact (jk e).trans (jE rfl)
def jc3 {z:Str} (h:isNm (.str z)=true):z.length<=8:=by
 rw [QB] at h;simp only [aax,decide_eq_true_eq] at h;omega
def KP:powI (.int 10) (.int 14)= .ok (.int (10^14)):=(JL (by decide)).trans rfl
def six (n0 n1 n2 n3 n4 nc:Str) (a b:Nat):List (Str×Nat):=[(n0,0),(n1,1),(n2,2),(n3,a),(n4,b),(nc,3)]
def jdf (n:Int): ∃(hs:List (Str×Nat)) (ns:List Str),F__law_heads [.int n]= .ok (hsD hs)/\Hok hs/\Few ns/\(∀h∈hs,h.1∈ns/\h.2<=3)/\ ∃h∈hs,0<h.2:=by
 obtain ⟨L,eL,hL,hnm,hnd⟩:=Ws n
 match L,hL with
 | [n0,n1,n2,n3,n4,n5,n6],_=>
  have q0:0<=n/10^14%4/\n/10^14%4<4:=by omega
  have q1:0<=n/10^14/4%4/\n/10^14/4%4<4:=by omega
  have q2:0<=n/10^14/16%3/\n/10^14/16%3<3:=by omega
  obtain ⟨a,ea⟩: ∃a:Nat,n/10^14%4=a:=⟨_,(acf q0.1).symm⟩
  obtain ⟨b,eb⟩: ∃b:Nat,n/10^14/4%4=b:=⟨_,(acf q1.1).symm⟩
  have ix: ∀(k:Nat) (x:Str),([n0,n1,n2,n3,n4,n5,n6]:List Str)[k]?=some x->ixD (.lst ([n0,n1,n2,n3,n4,n5,n6].map D.str)) (.int (k:Int))= .ok (.str x):=fun k x h=>ixLn (by rw [aaG,h];rfl)
  obtain ⟨c,nc,ec,hc,hcm⟩: ∃(c:Nat) (nc:Str),n/10^14/16%3=c/\([n0,n1,n2,n3,n4,n5,n6]:List Str)[c]?=some nc/\(nc=n0\/nc=n1\/nc=n2):=by
    have:n/10^14/16%3=0\/n/10^14/16%3=1\/n/10^14/16%3=2:=by omega
    rcases this with e|e|e
    · exact ⟨0,n0,e,rfl,.inl rfl⟩
    · exact ⟨1,n1,e,rfl,.inr (.inl rfl)⟩
    · exact ⟨2,n2,e,rfl,.inr (.inr rfl)⟩
  have nm: ∀z∈([n0,n1,n2,n3,n4,n5,n6]:List Str),isNm (.str z)=true:=hnm;simp only [aa5,aaq,abF,or_false,not_or] at hnd
  have hok:Hok (six n0 n1 n2 n3 n4 nc a b):=by
    refine ⟨fun h hh=>?_,fun h hh=>?_,?_,rfl⟩
    · simp only [six,aaq,abF,or_false] at hh;rcases hh with e|e|e|e|e|e<;>subst e
      · exact nm n0 (by simp)
      · exact nm n1 (by simp)
      · exact nm n2 (by simp)
      · exact nm n3 (by simp)
      · exact nm n4 (by simp)
      · rcases hcm with e|e|e<;>subst e<;>exact nm _ (by simp)
    · simp only [six,aaq,abF,or_false] at hh;rcases hh with e|e|e|e|e|e<;>subst e<;>simp<;>omega
    · obtain ⟨⟨a1,a2,a3,a4,a5,a6⟩,⟨b1,b2,b3,b4,b5⟩,⟨c1,c2,c3,c4⟩,⟨d1,d2,d3⟩,_⟩:=hnd;have ne: ∀ {x y:Str} {i j:Nat},(x=y->i=j->False)->(x,i)≠(y,j):=fun h e=>h (congrArg Prod.fst e) (congrArg Prod.snd e)
      have nn: ∀ {q:Str×Nat} {l:List (Str×Nat)},(∀y∈l,q≠y)->q∉l:=fun h z=>h _ z rfl
      have al: ∀ {q x:Str×Nat} {l:List (Str×Nat)},q≠x->(∀y∈l,q≠y)-> ∀y∈x::l,q≠y:=fun h1 h2 y hy=>by
        rcases aaq.mp hy with e|e
        · rw [e];exact h1
        · exact h2 y e
      have an: ∀ {q:Str×Nat},∀y∈([]:List (Str×Nat)),q≠y:=fun y hy=>by cases hy
      have l0:(n0,0)≠(nc,3):=ne fun _ z=>by omega
      have l1:(n1,1)≠(nc,3):=ne fun _ z=>by omega
      have l2:(n2,2)≠(nc,3):=ne fun _ z=>by omega
      have l3:(n3,a)≠(nc,3):=ne fun z _=>by
        rcases hcm with e|e|e<;>subst e
        · exact a3 z.symm
        · exact b2 z.symm
        · exact c1 z.symm
      have l4:(n4,b)≠(nc,3):=ne fun z _=>by
        rcases hcm with e|e|e<;>subst e
        · exact a4 z.symm
        · exact b3 z.symm
        · exact c2 z.symm
      exact aa5.mpr ⟨nn (al (ne fun z _=>a1 z) (al (ne fun z _=>a2 z) (al (ne fun z _=>a3 z) (al (ne fun z _=>a4 z) (al l0 an))))),
        aa5.mpr ⟨nn (al (ne fun z _=>b1 z) (al (ne fun z _=>b2 z) (al (ne fun z _=>b3 z) (al l1 an)))),
        aa5.mpr ⟨nn (al (ne fun z _=>c1 z) (al (ne fun z _=>c2 z) (al l2 an))),
        aa5.mpr ⟨nn (al (ne fun z _=>d1 z) (al l3 an)),aa5.mpr ⟨nn (al l4 an),aa5.mpr ⟨nn an,adL⟩⟩⟩⟩⟩⟩
  obtain ⟨hs,e1,pm⟩:=uT (n/10^14/48) (six n0 n1 n2 n3 n4 nc a b) (by simp [six]);refine ⟨hs,[n0,n1,n2,n3,n4],?_,⟨fun h hh=>hok.nm h (pm.mem_iff.mp hh),fun h hh=>hok.ar h (pm.mem_iff.mp hh),pm.nodup_iff.mpr hok.nd,by rw [pm.length_eq];rfl⟩,⟨by simp,fun z hz=>?_⟩,fun h hh=>⟨?_,hok.ar h (pm.mem_iff.mp hh)⟩,(n1,1),pm.mem_iff.mpr (by simp [six]),Nat.one_pos⟩
  · refine zN ?_;show g__law_heads F__law_names F__law_turned_about [.shr (.int n),.un,.un]=_;unfold g__law_heads;refine (jk (jA (jr (jc rfl rfl) rfl eL))).trans ?_;have s2:jJ 0 (two (rdS 0) (two (cI 10) (cI 14) powI) divW) [.shr (.int n),.shr (.lst ([n0,n1,n2,n3,n4,n5,n6].map D.str)),.un]= .ok (.nx [.shr (.int (n/10^14)),.shr (.lst ([n0,n1,n2,n3,n4,n5,n6].map D.str)),.un]):=jA (jg rfl (jg rfl rfl KP) (zI (by decide)));refine (jk s2).trans ?_;have sm:(2:Nat)<=aai:=jv (show 2<=20000 by decide);have tp: ∀ {f1 f2:T0} {env:Sl} {x:Str} {k:Nat},f1 env= .ok (.str x)->f2 env= .ok (.int (k:Int))->tupF (ja f1 (ja f2 nil1)) env= .ok (hN (x,k)):=fun h1 h2=>wm (jc h1 (jc h2 rfl)) sm
    have s3:lstF (ja (tupF (ja (two (rdS 1) (cI 0) ixD) (ja (cI 0) nil1))) (ja (tupF (ja (two (rdS 1) (cI 1) ixD) (ja (cI 1) nil1))) (ja (tupF (ja (two (rdS 1) (cI 2) ixD) (ja (cI 2) nil1))) (ja (tupF (ja (two (rdS 1) (cI 3) ixD) (ja (two (rdS 0) (cI 4) modI) nil1))) (ja (tupF (ja (two (rdS 1) (cI 4) ixD) (ja (two (two (rdS 0) (cI 4) divW) (cI 4) modI) nil1))) nil1))))) [.shr (.int (n/10^14)),.shr (.lst ([n0,n1,n2,n3,n4,n5,n6].map D.str)),.un]= .ok (.lst ([(n0,0),(n1,1),(n2,2),(n3,a),(n4,b)].map hN)):=by
      refine qM (jc (tp (k:=0) (jg rfl rfl (ix 0 n0 rfl)) rfl) (jc (tp (k:=1) (jg rfl rfl (ix 1 n1 rfl)) rfl) (jc (tp (k:=2) (jg rfl rfl (ix 2 n2 rfl)) rfl) (jc (tp (k:=a) (jg rfl rfl (ix 3 n3 rfl)) (jg rfl rfl ?_)) (jc (tp (k:=b) (jg rfl rfl (ix 4 n4 rfl)) (jg (jg rfl rfl (zI (by decide))) rfl ?_)) rfl))))) (jv (show 5<=20000 by decide))
      · rw [←ea];exact qU (by decide)
      · rw [←eb];exact qU (by decide)
    refine (jk (wx s3)).trans ?_
    have s4:tupF (ja (two (rdS 1) (two (two (rdS 0) (cI 16) divW) (cI 3) modI) ixD) (ja (cI 3) nil1)) [.shr (.int (n/10^14)),.shr (.lst ([n0,n1,n2,n3,n4,n5,n6].map D.str)),.own (.lst ([(n0,0),(n1,1),(n2,2),(n3,a),(n4,b)].map hN))]= .ok (hN (nc,3)):=by
      refine tp (k:=3) (jg rfl (jg (jg rfl rfl (zI (by decide))) rfl (qU (by decide))) ?_) rfl;rw [ec];exact ix c nc hc
    refine (jk (Jq rfl s4 (aaC (show 5<20000 by decide) big1))).trans ?_;show frzO 2 _ [.shr (.int (n/10^14)),.shr (.lst ([n0,n1,n2,n3,n4,n5,n6].map D.str)),.own (.lst ((six n0 n1 n2 n3 n4 nc a b).map hN))]=_;show retO _ [.shr (.int (n/10^14)),.shr (.lst ([n0,n1,n2,n3,n4,n5,n6].map D.str)),.shr (.lst ((six n0 n1 n2 n3 n4 nc a b).map hN))]=_;exact jE (jr (jc (jg rfl rfl (zI (by decide))) (jc rfl rfl)) rfl e1)
  · simp only [aaq,abF,or_false] at hz;have:isNm (.str z)=true:=nm z (by rcases hz with e|e|e|e|e<;>subst e<;>simp);have:=jc3 this;omega
  · have:=pm.mem_iff.mp hh;simp only [six,aaq,abF,or_false] at this;rcases this with e|e|e|e|e|e<;>subst e<;>simp;rcases hcm with e|e|e<;>simp [e]
def lvD (lv:List Tr):D:= .lst (lv.map Tr.d)
def bl (B:Nat->Prop) (t:Tr):Prop:= ∀i,Tr.bk i∈t.ps->B i
theorem Wf: ∀ {l:List Tr} {p:Tr},p∈Tr.pss l-> ∃t∈l,p∈t.ps
 | [],p,h=>by simp only [Tr.pss] at h;cases h
 |t::l,p,h=>by
  simp only [Tr.pss] at h;rcases aa8.mp h with z|z
  · exact ⟨t,aam,z⟩
  · obtain ⟨u,h1,h2⟩:=Wf z;exact ⟨u,aaj _ h1,h2⟩
def jeB {B:Nat->Prop} {x:Str} {l:List Tr} (h: ∀t∈l,bl B t):bl B (.nd x l):=fun i hi=>by
 simp only [Tr.ps] at hi;rcases aaq.mp hi with e|e
 · cases e
 · obtain ⟨t,ht,h2⟩:=Wf e;exact h t ht i h2
def jdz {B:Nat->Prop} {t p:Tr} (h:bl B t) (hp:p∈t.ps):bl B p:=fun i hi=>h i (xN t p hp _ hi)
def uM {B:Nat->Prop} {t p:Tr} (h:bl B t) (hp:p∈t.kids):bl B p:=jdz h (JK hp p (ze p))
def jeC {B:Nat->Prop} {i:Nat} (h:B i):bl B (.bk i):=fun j hj=>by
 simp only [Tr.ps,abB,Tr.bk.injEq] at hj;rw [hj];exact h
def jbO {hs:List (Str×Nat)} {n:Nat} {x:Str} {l:List Tr} (h1:(x,l.length)∈hs) (h2: ∀p∈l,Tn hs n p):Tn hs (n+1) (.nd x l):= .inr ⟨_,h1,rfl,h2⟩
noncomputable abbrev tmB (f:TW):Sl->Res Out:=seqO (asgO (jm 4 f (ja (rdS 0) (ja (rdS 1) (ja (rdS 2) (ja (two (rdS 3) (cI 1) subI) nil1))))) (g2 (gN 9) (gN 0))) (xH 4 (rdS 9))
theorem UU {hs:List (Str×Nat)} (hl:hs.length=6) (har: ∀h∈hs,h.2<=3) {lv:List Tr} {j:Nat} {B:Nat->Prop} (hlv:0<lv.length/\lv.length<=6) (hz: ∀z∈lv,Tn hs j z/\bl B z): ∀(m k:Nat) (n:Int),k<m-> ∃(t:Tr) (n':Int),F__law_term m [.int n,hsD hs,lvD lv,.int k]= .ok (.tup [t.d,.int n'])/\Tn hs (k+j) t/\bl B t
 |0,k,n,h=>absurd h (abv _)
 |m+1,k,n,hm=>by
  have hlen:lenD [hsD hs]= .ok (.int 6):=by show Res.ok (D.int ((hs.map fun h=>hdN h.1 h.2).length))=_;rw [aak,hl];rfl
  have hlenH:lenD [lvD lv]= .ok (.int lv.length):=by show Res.ok (D.int ((lv.map Tr.d).length))=_;rw [aak]
  have hst: ∀r,g__law_term (F__law_term m) [.shr (.int n),.shr (hsD hs),.shr (lvD lv),.shr (.int k),.un,.un,.un,.un,.un,.un]= .ok (.rt true r)->F__law_term (m+1) [.int n,hsD hs,lvD lv,.int k]= .ok r:=fun r h=>zN h
  have s1:asgO (app (ja (rdS 0) (ja (two (app (ja (rdS 1) nil1) lenD) (cI 2) addD) nil1)) zi) (g2 (gN 0) (gN 6)) [.shr (.int n),.shr (hsD hs),.shr (lvD lv),.shr (.int k),.un,.un,.un,.un,.un,.un]= .ok (.nx [.shr (.int (n/8)),.shr (hsD hs),.shr (lvD lv),.shr (.int k),.un,.un,.shr (.int (n%8)),.un,.un,.un]):=zK (vx rfl (jg (qg (jc rfl rfl) hlen) rfl rfl) (by omega));have t1:orB (asB (two (rdS 6) (cI 2) ltI)) (asB (two (rdS 3) (cI 0) eqR)) [.shr (.int (n/8)),.shr (hsD hs),.shr (lvD lv),.shr (.int k),.un,.un,.shr (.int (n%8)),.un,.un,.un]= .ok (decide (n%8<2)|| ((k:Int)==0)):=Qj (jx (jg rfl rfl rfl)) (jx (jg rfl rfl Ud))
  by_cases hc:n%8<2\/k=0
  · have hb:(decide (n%8<2)|| ((k:Int)==0))=true:=by
     rcases hc with h|h
     · rw [decide_eq_true h];rfl
     · subst h;simp
    rw [hb] at t1;have z0:=abS (n/8) (show ((lv.length:Int))≠0 by omega);have z1:=abq (n/8) (show (0:Int)<lv.length by omega);obtain ⟨d,hd,hdm⟩:=ixL (ds:=lv.map Tr.d) (i:=n/8%lv.length) z0 (by rw [aak];omega);obtain ⟨x,hx,rfl⟩:=aaB.mp hdm;refine ⟨x,n/8/lv.length,hst _ ?_,(hz x hx).1.le (by omega),(hz x hx).2⟩;unfold g__law_term;refine (jk s1).trans (wz ((if_t t1).trans ?_));refine (jk (zK (vx rfl (qg (jc rfl rfl) hlenH) (by omega)))).trans ?_;exact jE (wm (jc (jg rfl rfl hd) (jc rfl rfl)) (jv (show 2<=20000 by decide)))
  · have hb:(decide (n%8<2)|| ((k:Int)==0))=false:=by
     rw [decide_eq_false (fun h=>hc (.inl h))];simp;exact fun h=>hc (.inr (by omega))
    rw [hb] at t1;obtain ⟨k,rfl⟩: ∃q,k=q+1:=⟨k-1,by omega⟩
    obtain ⟨d,hd,hdm⟩:=ixL (ds:=hs.map fun h=>hdN h.1 h.2) (i:=n%8-2) (by omega) (by rw [aak,hl];omega);obtain ⟨⟨z,a⟩,hza,rfl⟩:=aaB.mp hdm;have ha:=har _ hza;simp only at ha
    have loop: ∀(N0:Int) (P6:Slot),∃(n1:Int) (ts:List Tr) (v5 v9:Slot),forD (qB (gN 5) (tmB (F__law_term m))) (Jy 0 a) [.shr (.int N0),.shr (hsD hs),.shr (lvD lv),.shr (.int ((k+1:Nat):Int)),.own (.lst []),.un,P6,.shr (.str z),.shr (.int a),.un]= .ok (.nx [.shr (.int n1),.shr (hsD hs),.shr (lvD lv),.shr (.int ((k+1:Nat):Int)),.own (.lst (ts.map Tr.d)),v5,P6,.shr (.str z),.shr (.int a),v9])/\ts.length=a/\ ∀t∈ts,Tn hs (k+j) t/\bl B t:=by
     intro N0 P6
     obtain ⟨env1,l1,n1,ts,v5,v9,rfl,hlt,htt⟩:=yF (body:=qB (gN 5) (tmB (F__law_term m)))
       (fun ds env=> ∃(n:Int) (ts:List Tr) (v5 v9:Slot),env=[.shr (.int n),.shr (hsD hs),.shr (lvD lv),.shr (.int ((k+1:Nat):Int)),.own (.lst (ts.map Tr.d)),v5,P6,.shr (.str z),.shr (.int a),v9]/\ts.length+ds.length=a/\ ∀t∈ts,Tn hs (k+j) t/\bl B t)
       (by
        rintro d ds env ⟨n,ts,v5,v9,rfl,hlt,htt⟩;simp at hlt;obtain ⟨t,n',e1,h1⟩:=UU hl har hlv hz m k n (by omega);refine ⟨[.shr (.int n'),.shr (hsD hs),.shr (lvD lv),.shr (.int ((k+1:Nat):Int)),.own (.lst ((ts++[t]).map Tr.d)),.shr d,P6,.shr (.str z),.shr (.int a),.shr t.d],?_,n',ts++[t],_,_,rfl,by rw [aaE];simp;omega,fun u hu=>?_⟩
        · rw [j4 rfl];refine (jk ((zK (jr (jc rfl (jc rfl (jc rfl (jc (jg rfl rfl ?_) rfl)))) rfl e1)))).trans ?_
          · show Res.ok (D.int (((k+1:Nat):Int)-1))=_;rw [show (((k+1:Nat):Int)-1)=k by omega]
          · refine (Jq (ds:=ts.map Tr.d) rfl rfl (by rw [aak];exact aaC (show ts.length<20 by omega) (by decide))).trans ?_;rw [abR];rfl
        · rcases aa8.mp hu with h|h
          · exact htt u h
          · rw [abB] at h;subst h;exact h1)
       (Jy 0 a) [.shr (.int N0),.shr (hsD hs),.shr (lvD lv),.shr (.int ((k+1:Nat):Int)),.own (.lst []),.un,P6,.shr (.str z),.shr (.int a),.un] ⟨N0,[],.un,.un,rfl,by rw [Zw];simp,fun _ h=>by cases h⟩
     exact ⟨n1,ts,v5,v9,l1,by simpa using hlt,htt⟩
    obtain ⟨n1,ts,v5,v9,l1,hlt,htt⟩:=loop (n/8) (.shr (.int (n%8)));have hT:Tn hs (k+j+1) (.nd z ts):=jbO (by rw [hlt];exact hza) fun p hp=>(htt p hp).1
    refine ⟨.nd z ts,n1,hst _ ?_,by rw [show k+1+j=k+j+1 by omega];exact hT,jeB fun p hp=>(htt p hp).2⟩;rw [Tr.d_nd];unfold g__law_term;refine (jk s1).trans ?_;refine (jk ((if_f t1))).trans ?_;refine (jk (zK (jg rfl (jg rfl rfl rfl) hd))).trans ?_;refine (jk rfl).trans ?_;refine (jk ((qO (jad (jc rfl rfl) (by omega))).trans l1)).trans ?_;have hli:(.str z::ts.map Tr.d:List D).length<=20000:=by simp;omega
    have him:D.imm (.tup (.str z::ts.map Tr.d))=true:=by rw [←Tr.d_nd];exact um _ (Tr.nb_d _)
    refine jE (wm (jc (UE (qg (jc (jg (qM (jc rfl rfl) (jv (show 1<=20000 by decide))) rfl (QU (by simp;exact jv (by omega)))) rfl) rfl) him) (jc rfl rfl)) (jv (show 2<=20000 by decide)))
def vP {x:Int} {c:Nat} (h0:0<=x):intBits x<=c↔x<2^c:=by
 rw [PySem.intBits_le_iff];have e:((2^c:Nat):Int)=2^c:=by simp
 constructor
 · intro h;omega
 · intro h;omega
def ur (c:Int): ∃m:Int,F__law_great [.int c]= .ok (.int m):=by
 have hp:(0:Int)<10^60:=Int.pow_pos (by decide);have hp2:(0:Int)<10^24:=Int.pow_pos (by decide);have hm0:=abS c (show (10:Int)^60≠0 by omega);have hm1:=abq c hp
 have b1:intBits (c%10^60+41)<=201:=(vP (by omega)).mpr (by
  have:(10:Int)^60+41<=2^201:=by decide+kernel
  omega)
 have b2:intBits ((23:Int)^64)<=5*64+1:=intBits_pow_le (by decide) 64;have b3:intBits ((10:Int)^60)<=4*60+1:=intBits_pow_le (by decide) 60;have b4:intBits ((10:Int)^24)<=4*24+1:=intBits_pow_le (by decide) 24;have p60:powI (.int 10) (.int 60)= .ok (.int (10^60)):=JL ⟨by decide,by decide,by decide⟩;have p24:powI (.int 10) (.int 24)= .ok (.int (10^24)):=JL ⟨by decide,by decide,by decide⟩;have p23:powI (.int 23) (.int 64)= .ok (.int (23^64)):=JL ⟨by decide,by decide,by decide⟩;generalize (10:Int)^60=A at*;generalize (10:Int)^24=B at*;generalize (23:Int)^64=C at*;refine ⟨(c%A+41)*C%(A*B),zN ?_⟩;unfold g__law_great;refine (jk ((jA (jg (jg rfl rfl p60) (jg rfl rfl p24) (Ve (show MulC A B by unfold MulC;omega)))))).trans ?_;exact jE (jg (jg (jg (jg rfl (jg rfl rfl p60) (qU hp)) rfl rfl) (jg rfl rfl p23) (Ve (show MulC (c%A+41) C by unfold MulC;omega))) rfl (qU (Int.mul_pos hp hp2)))
def jbx {ds:List D} {lo hi:Option Int} {d:D} (h:d∈cutD ds lo hi):d∈ds:=ad2 (List.mem_of_mem_take h)
theorem Jk {cs:List Slot} {fc:TZ} {fe:T0} (p:D->Bool) (h:D->D) (P:D->Prop) (hp: ∀d acc,P d->fc (.shr d::(cs++[.own (.lst acc)]))= .ok (p d)) (hf: ∀d acc,P d->fe (.shr d::(cs++[.own (.lst acc)]))= .ok (h d)):
  ∀(ds:List D) (x:Slot) (acc:List D),(∀d∈ds,P d)->acc.length+ds.length<=aai->
   ∃(y:Slot),qS (1+cs.length) (gN 0) fc fe ds (x::(cs++[.own (.lst acc)]))= .ok (y::(cs++[.own (.lst (acc++(ds.filter p).map h))]))
 | [],x,acc,_,_=>⟨x,by simp [qS]⟩
 |d::ds,x,acc,hP,hl=>by
  simp at hl;have ht:=hf d acc (hP d (by simp));have hq:=hp d acc (hP d (by simp))
  have e1:ownL (1+cs.length) (.shr d::(cs++[.own (.lst acc)]))= .ok acc:=by
   unfold ownL;rw [show (1+cs.length)=cs.length+1 by omega,aaQ,aap (aae _)];simp
  have e2:(Slot.shr d::(cs++[Slot.own (.lst acc)])).set (1+cs.length) (.own (.lst (acc++[h d])))= .shr d::(cs++[.own (.lst (acc++[h d]))]):=by
   rw [show (1+cs.length)=cs.length+1 by omega,acM,adU _ _ (aae _)];simp
  cases c:p d with
  |true=>
   obtain ⟨y,h1⟩:=Jk p h P hp hf ds (.shr d) (acc++[h d]) (fun e he=>hP e (by simp [he])) (by simp;omega);refine ⟨y,?_⟩;show (fc (.shr d::(cs++[.own (.lst acc)]))>>=_)=_;rw [hq,c];show (fe (.shr d::(cs++[.own (.lst acc)]))>>=_)=_;rw [ht];show (ownL (1+cs.length) (.shr d::(cs++[.own (.lst acc)]))>>=_)=_;rw [e1];show must _ _=_;rw [jl (by omega)];show qS _ _ _ _ ds ((Slot.shr d::(cs++[Slot.own (.lst acc)])).set (1+cs.length) (.own (.lst (acc++[h d]))))=_;rw [e2,h1];simp [adX,c]
  |false=>
   obtain ⟨y,h1⟩:=Jk p h P hp hf ds (.shr d) acc (fun e he=>hP e (by simp [he])) (by omega);refine ⟨y,?_⟩;show (fc (.shr d::(cs++[.own (.lst acc)]))>>=_)=_;rw [hq,c];show qS _ _ _ _ ds (.shr d::(cs++[.own (.lst acc)]))=_;rw [h1];simp [adX,c]
def vJ {js:List Nat} {fi:TX} {fc:TZ} {fe:T0} {env:Sl} {ds:List D} {cs:List Slot} (p:D->Bool) (h:D->D) (P:D->Prop) (hc:js.map (capS false env)=cs) (hi:fi env= .ok ds) (hP: ∀d∈ds,P d) (hl:ds.length<=aai)
  (hp: ∀d acc,P d->fc (.shr d::(cs++[.own (.lst acc)]))= .ok (p d)) (hf: ∀d acc,P d->fe (.shr d::(cs++[.own (.lst acc)]))= .ok (h d)):zl false 1 js fi (gN 0) fc fe env= .ok (.lst ((ds.filter p).map h)):=by
 obtain ⟨y,h1⟩:=Jk p h P hp hf ds .un [] hP (by simpa using hl);have hlen:js.length=cs.length:=by rw [←hc];simp
 show (fi env>>=_)=_;rw [hi];show (qS (1+js.length) (gN 0) fc fe ds (zm false 1 js env)>>=_)=_
 have he:zm false 1 js env= .un::(cs++[.own (.lst [])]):=by
  unfold zm;rw [hc];rfl
 rw [he,hlen,h1];show (ownL (1+cs.length) (y::(cs++[.own (.lst ([]++(ds.filter p).map h))]))>>=_)=_
 have e1:ownL (1+cs.length) (y::(cs++[.own (.lst ([]++(ds.filter p).map h))]))= .ok ((ds.filter p).map h):=by
  unfold ownL;rw [show (1+cs.length)=cs.length+1 by omega,aaQ,aap (aae _)];simp
 rw [e1];exact jl (c:=false=true->D.imms ((ds.filter p).map h)=true) (fun h=>by cases h)
def q9 (a:Key) (x:D) (ks:List Key) (ds:List D) (k:Key):valD (a::ks) (x::ds) k=if a=k then some x else valD ks ds k:=by
 simp only [valD,abp,acd]
 by_cases e:a=k
 · rw [decide_eq_true e,if_pos e];rfl
 · rw [decide_eq_false e,if_neg e]
def Ja (a:Key) (ks:List Key) (k:Key):hasK (a::ks) k=(decide (a=k)||hasK ks k):=by
 unfold hasK;rw [ads]
theorem W3 {k:Key} {d:D}: ∀ {ks:List Key} {ds:List D},ks.length=ds.length-> ∀k',valD (xi ks k) (xw ks ds k d) k'=if k'=k then some d else valD ks ds k'
 | [],[],_,k'=>by
  show valD [k] [d] k'=_;rw [q9]
  by_cases e:k=k'
  · rw [if_pos e,if_pos e.symm]
  · rw [if_neg e,if_neg (fun z=>e z.symm)]
 |a::ks,x::ds,hl,k'=>by
  have hl':ks.length=ds.length:=by simpa using hl
  have ih:=W3 (k:=k) (d:=d) hl' k'
  by_cases e:a=k
  · subst e;have h1:xi (a::ks) a=a::ks:=by unfold xi;rw [Ja,decide_eq_true rfl];rfl
    have h2:xw (a::ks) (x::ds) a d=d::(ks.zip ds).map (fun p=>if p.1=a then d else p.2):=by
      unfold xw;rw [Ja,decide_eq_true rfl];simp
    rw [h1,h2,q9,q9]
    by_cases c:a=k'
    · rw [if_pos c,if_pos c.symm]
    · rw [if_neg c,if_neg (fun z=>c z.symm),if_neg c]
      have: ∀(ks:List Key) (ds:List D),ks.length=ds.length->valD ks ((ks.zip ds).map fun p=>if p.1=a then d else p.2) k'=valD ks ds k':=by
        intro ks
        induction ks with
        |nil=>intro ds h;cases ds with
         |nil=>rfl
         |cons y ds=>cases h
        |cons b ks ih2=>intro ds h;cases ds with
         |nil=>cases h
         |cons y ds=>
          rw [abp,aat,q9,q9,ih2 ds (by simpa using h)]
          by_cases g:b=k'
          · rw [if_pos g,if_pos g,if_neg (fun z=>c (z.symm.trans g))]
          · rw [if_neg g,if_neg g]
      exact this ks ds hl'
  · have hh:hasK (a::ks) k=hasK ks k:=by rw [Ja,decide_eq_false e];rfl
    have h1:xi (a::ks) k=a::xi ks k:=by
      unfold xi;rw [hh];split<;>rfl
    have h2:xw (a::ks) (x::ds) k d=x::xw ks ds k d:=by
      unfold xw;rw [hh];split
      · rw [abp,aat,if_neg e]
      · rfl
    rw [h1,h2,q9,q9,ih]
    by_cases c:a=k'
    · rw [if_pos c,if_pos c,if_neg (fun z=>e (c.trans z))]
    · rw [if_neg c,if_neg c]
def jam {k:Key} {d:D} {ks:List Key} {ds:List D} (h:ks.length=ds.length):(xi ks k).length=(xw ks ds k d).length/\(xi ks k).length<=ks.length+1:=by
 unfold xi xw
 split
 · constructor
   · rw [aak,List.length_zip];omega
   · omega
 · rw [aaE,aaE];exact ⟨by simp;omega,by simp⟩
def sm1 {l:List D} (k:Nat) (h:l.length=k) (h2:k<=20000):l.length<=aai:=by rw [h];exact jv h2
def kS (t:Tr):isiD "int" t.d= .ok (.bl (!t.hd.isSome)):=by
 cases t with
 |bk i=>rfl
 |nd x l=>rw [Tr.d_nd];rfl
def ar3 {hs:List (Str×Nat)} (h3: ∀h∈hs,h.2<=3) {n:Nat} {x:Str} {l:List Tr} (h:Tn hs n (.nd x l)):l.length<=3:=h3 _ (h.hd (a:=(x,l.length)) rfl)
def slT (x:Str) (l:List Tr) {S:Sl}:itF (qf (rdS 0) (zb (cI 1)) wu slD) (.shr (Tr.nd x l).d::S)= .ok (l.map Tr.d):=by
 rw [Tr.d_nd];refine zO (zU rfl (zp rfl) rfl rfl) ?_;show Res.ok (cutD (.str x::l.map Tr.d) (some ((1:Nat):Int)) none)=_;rw [QO];rfl
instance:Nonempty Tr:=⟨.bk 0⟩
noncomputable def unD (d:D):Tr:=Classical.epsilon fun t=>d=Tr.d t
def jbS (t:Tr):unD t.d=t:=(Tr.d_inj _ _ (Classical.epsilon_spec (p:=fun s=>t.d=Tr.d s) ⟨t,rfl⟩)).symm
theorem WJ {hs:List (Str×Nat)} (h3: ∀h∈hs,h.2<=3) {B:Nat->Prop} {σ:Nat->Tr} {ks:List Key} {ds:List D} (hv: ∀i,B i->valD ks ds (.inl (i:Int))=some (σ i).d): ∀(m n:Nat) (t:Tr),Tn hs n t->n<m->bl B t->F__law_filled m [t.d,.dic ks ds]= .ok (Tr.fil σ t).d
 |0,n,t,_,h,_=>absurd h (abv _)
 |m+1,n,.bk i,_,_,hb=>by
  refine jac ?_;show g__law_filled (F__law_filled m) [.shr (.int (i:Int)),.shr (.dic ks ds)]=_;unfold g__law_filled
  have e:getK (.dic ks ds) (.int (i:Int))= .ok (σ i).d:=by
   show (match valD ks ds (.inl (i:Int)) with|some d=>Res.ok d|none=> .stuck)=_;rw [hv i (hb i (ze _))]
  exact wz ((if_t (jx (zh rfl rfl))).trans (Qd (jg rfl rfl e)))
 |m+1,n,.nd x l,hT,hm,hb=>by
  have hl:=ar3 h3 hT;refine zN ?_;show g__law_filled (F__law_filled m) [.shr (Tr.nd x l).d,.shr (.dic ks ds)]=_;unfold g__law_filled;have t1:asB (isiF "int" (rdS 0)) [.shr (Tr.nd x l).d,.shr (.dic ks ds)]= .ok false:=jx (zh rfl (kS _));refine (jk ((if_f t1).trans rfl)).trans ?_
  have c1:zl false 1 [1] (itF (qf (rdS 0) (zb (cI 1)) wu slD)) (gN 0) qE (jm 2 (F__law_filled m) (ja (rdS 0) (ja (rdS 1) nil1))) [.shr (Tr.nd x l).d,.shr (.dic ks ds)]= .ok (.lst ((l.map Tr.d).map fun d=>(Tr.fil σ (unD d)).d)):=by
   refine WT (cs:=[.shr (.dic ks ds)]) _ (fun d=> ∃t∈l,d=Tr.d t) rfl (slT x l) (fun d hd=>?_) (by rw [aak];exact jv (by omega)) (fun d acc hd=>?_)
   · obtain ⟨t,ht,rfl⟩:=aaB.mp hd;exact ⟨t,ht,rfl⟩
   · obtain ⟨t,ht,rfl⟩:=hd;rw [jbS]
     obtain ⟨n',rfl⟩: ∃n',n=n'+1:=by
      cases n with
      |zero=>rw [show l=[] from hT.no] at ht;cases ht
      |succ n=>exact ⟨n,rfl⟩
     exact jr (jc rfl (jc rfl rfl)) rfl (WJ h3 hv m n' t (hT.kid1 t ht) (by omega) (uM hb ht))
  have e2:((l.map Tr.d).map fun d=>(Tr.fil σ (unD d)).d)=(l.map (Tr.fil σ)).map Tr.d:=by
   rw [abE,abE];exact adg fun t _=>by simp only [Function.comp,jbS]
  rw [e2] at c1;have i0:two (rdS 0) (cI 0) ixD [.shr (Tr.nd x l).d,.shr (.dic ks ds)]= .ok (.str x):=by rw [Tr.d_nd];exact jg rfl rfl ix0
  have e3:(Tr.fil σ (.nd x l)).d= .tup (.str x::(l.map (Tr.fil σ)).map Tr.d):=by rw [XH,Tr.d_nd]
  rw [e3];have a1:addD (.lst [.str x]) (.lst ((l.map (Tr.fil σ)).map Tr.d))= .ok (.lst ([.str x]++(l.map (Tr.fil σ)).map Tr.d)):=QU (by rw [aak,aak];exact jv (show 1+l.length<=20000 by omega));exact jE (qg (jc (jg (qM (jc i0 rfl) (sm1 1 rfl (by decide))) c1 a1) rfl) rfl)
theorem Wg: ∀a b:List Tr,Tr.pss (a++b)=Tr.pss a++Tr.pss b
 | [],b=>rfl
 |t::a,b=>by simp only [ade,Tr.pss,Wg a b,aaS]
theorem Vj {hs:List (Str×Nat)} (h3: ∀h∈hs,h.2<=3): ∀(m n:Nat) (t:Tr),Tn hs n t->n<m->t.sz<=1000->F__law_parts m [t.d]= .ok (.lst (t.ps.map Tr.d))
 |0,n,t,_,h,_=>absurd h (abv _)
 |m+1,n,.bk i,_,_,_=>by
  refine zN ?_;show g__law_parts (F__law_parts m) [.shr (.int (i:Int)),.un,.un]=_;unfold g__law_parts;refine (jk (wx (d:= .lst [.int (i:Int)]) (qM (jc rfl rfl) (sm1 1 rfl (by decide))))).trans ?_;have t1:notB (asB (isiF "int" (rdS 0))) [.shr (.int (i:Int)),.own (.lst [.int (i:Int)]),.un]= .ok false:=qv (b:=true) (jx (zh rfl rfl));exact (jk ((if_f t1).trans rfl)).trans (jE rfl)
 |m+1,n,.nd x l,hT,hm,hz=>by
  refine zN ?_;show g__law_parts (F__law_parts m) [.shr (Tr.nd x l).d,.un,.un]=_;unfold g__law_parts;refine (jk (wx (d:= .lst [(Tr.nd x l).d]) (qM (jc rfl rfl) (sm1 1 rfl (by decide))))).trans ?_;show seqO _ _ [.shr (Tr.nd x l).d,.own (.lst [(Tr.nd x l).d]),.un]=_;have t1:notB (asB (isiF "int" (rdS 0))) [.shr (Tr.nd x l).d,.own (.lst [(Tr.nd x l).d]),.un]= .ok true:=qv (b:=false) (jx (zh rfl (kS (.nd x l))))
  have lo: ∀(r done:List Tr) (u:Slot),done++r=l-> ∃v,forD (qB (gN 2) (xE 1 (jm 1 (F__law_parts m) (ja (rdS 2) nil1)))) (r.map Tr.d) [.shr (Tr.nd x l).d,.own (.lst ((Tr.nd x l).d::(Tr.pss done).map Tr.d)),u]= .ok (.nx [.shr (Tr.nd x l).d,.own (.lst ((Tr.nd x l).d::(Tr.pss l).map Tr.d)),v]):=by
   intro r
   induction r with
   |nil=>intro done u h;rw [abe] at h;subst h;exact ⟨u,rfl⟩
   |cons p r ih=>
    intro done u h;obtain ⟨v,e⟩:=ih (done++[p]) (.shr p.d) (by rw [←h];simp);refine ⟨v,(qx ?_).trans e⟩;rw [j4 (env':=[.shr (Tr.nd x l).d,.own (.lst ((Tr.nd x l).d::(Tr.pss done).map Tr.d)),.shr p.d]) rfl];have hp:p∈l:=by rw [←h];simp
    obtain ⟨n',rfl⟩: ∃n',n=n'+1:=by
     cases n with
     |zero=>rw [show l=[] from hT.no] at hp;cases hp
     |succ n=>exact ⟨n,rfl⟩
    have hzp:=Tr.sz_kid (t:= .nd x l) hp;have ee:=Vj h3 m n' p (hT.kid1 p hp) (by omega) (by omega)
    have hzz:(Tr.pss l).length=Tr.szs l:=by
     have:=KC (.nd x l);simp only [Tr.ps,Tr.sz,aau] at this;omega
    have hz1:(Tr.pss done).length+p.ps.length<=1000:=by
     have h5:(Tr.pss l).length=(Tr.pss done).length+(p.ps.length+(Tr.pss r).length):=by
      rw [←h,Wg];simp only [Tr.pss,aaE]
     simp only [Tr.sz] at hz;omega
    show (Res.ok ((Tr.nd x l).d::(Tr.pss done).map Tr.d)>>=fun ds=>F__law_parts m [p.d]>>=_)=_;rw [ee]
    have e9:(Tr.nd x l).d::(Tr.pss (done++[p])).map Tr.d=((Tr.nd x l).d::(Tr.pss done).map Tr.d)++p.ps.map Tr.d:=by
     rw [Wg];simp only [Tr.pss,abe,abR,ade]
    rw [e9];exact jl (aaF (by simp only [aau,aak];omega:_<=10000) (by decide))
  obtain ⟨v,e⟩:=lo l [] .un rfl;refine (jk ((if_t t1).trans ((qO (slT x l)).trans e))).trans ?_;refine jE ?_;simp only [Tr.ps,aat];rfl
def ar1:D->Bool
 | .tup [_,.int i]=>decide (0<i)
 |_=>false
def jdE (h:Str×Nat):ar1 (hdN h.1 h.2)=decide (0<h.2):=by
 show decide (0< (h.2:Int))=_
 by_cases c:0<h.2
 · rw [decide_eq_true c,decide_eq_true (by omega)]
 · rw [decide_eq_false c,decide_eq_false (by omega)]
theorem VW: ∀hs:List (Str×Nat),((hs.map fun h=>hdN h.1 h.2).filter ar1).map id=(hs.filter fun h=>decide (0<h.2)).map fun h=>hdN h.1 h.2
 | []=>rfl
 |h::hs=>by
  have ih:=VW hs;rw [List.map_id] at ih ⊢;rw [aat,adX,adX,jdE]
  split
  · rw [aat,ih]
  · exact ih
def jah (m:Nat) (d:D):(aal m [d]).flatten=aal m d:=by
 induction m with
 |zero=>rfl
 |succ m ih=>rw [aa1,ab5,ih,aa1];rfl
theorem Kr {d e:D}: ∀(j m:Nat),j<m->(aal m d).set j e=aal j d++e::aal (m-1-j) d
 |0,m+1,_=>by simp [aa1]
 |j+1,m+1,h=>by
  rw [aa1,acM,Kr j m (by omega),show m+1-1-(j+1)=m-1-j by omega,aa1];rfl
def jcd {hs:List (Str×Nat)} (ok:Hok hs) (hg: ∃h∈hs,0<h.2) (num:Int) (lf:Tr): ∃(x:Str) (a b:Nat),(x,a+1+b)∈hs/\ ∀t:Tr,F__law_round [.int num,hsD hs,t.d,lf.d]= .ok (Tr.nd x (aal a lf++t::aal b lf)).d:=by
 obtain ⟨gs,hgs⟩: ∃gs,gs=hs.filter fun h=>decide (0<h.2):=⟨_,rfl⟩
 have gl:gs.length<=6:=by
  rw [hgs];have:=List.length_filter_le (fun h:Str×Nat=>decide (0<h.2)) hs;have:=ok.ln;omega
 have gp:0<gs.length:=by
  obtain ⟨h,h1,h2⟩:=hg;rw [hgs];exact abI (ad8.mpr ⟨h1,decide_eq_true h2⟩)
 have z0:=abS num (show ((gs.length:Int))≠0 by omega);have z1:=abq num (show (0:Int)<gs.length by omega);obtain ⟨d,hd,hdm⟩:=ixL (ds:=gs.map fun h=>hdN h.1 h.2) (i:=num%gs.length) z0 (by rw [aak];omega);obtain ⟨⟨x,m⟩,hxm,rfl⟩:=aaB.mp hdm;have hxm':=hxm;rw [hgs] at hxm';obtain ⟨hin,hpos⟩:=ad8.mp hxm';have mp:0<m:=of_decide_eq_true hpos;have m3:=ok.ar _ hin;simp only at m3;have y0:=abS (num/6) (show ((m:Int))≠0 by omega);have y1:=abq (num/6) (show (0:Int)<m by omega);obtain ⟨j,hj⟩: ∃j:Nat,num/6%m=j:=⟨_,(acf y0).symm⟩
 have hjm:j<m:=by omega
 refine ⟨x,j,m-1-j,by rw [show j+1+(m-1-j)=m by omega];exact hin,fun t=>?_⟩;refine zN ?_;show g__law_round [.shr (.int num),.shr (hsD hs),.shr t.d,.shr lf.d,.un,.un,.un,.un]=_;unfold g__law_round
 have c1:zl false 1 [] (itF (rdS 1)) (gN 0) (asB (two (two (rdS 0) (cI 1) ixD) (cI 0) gtI)) (rdS 0) [.shr (.int num),.shr (hsD hs),.shr t.d,.shr lf.d,.un,.un,.un,.un]= .ok (.lst (gs.map fun h=>hdN h.1 h.2)):=by
  rw [hgs,←VW];refine vJ ar1 id (fun d=> ∃h∈hs,d=hdN h.1 h.2) rfl (zO rfl rfl) (fun d hd=>?_) ?_ (fun d acc hd=>?_) (fun d acc hd=>rfl)
  · obtain ⟨p,hp,rfl⟩:=aaB.mp hd;exact ⟨p,hp,rfl⟩
  · rw [aak];have:=ok.ln;exact jv (by omega)
  · obtain ⟨p,hp,rfl⟩:=hd;exact jx (jg (jg rfl rfl (ixT1 _ _ _)) rfl rfl)
 refine (jk (jA c1)).trans ?_;have lenE:lenD [.lst (gs.map fun h=>hdN h.1 h.2)]= .ok (.int gs.length):=by show Res.ok (D.int ((gs.map fun h=>hdN h.1 h.2).length))=_;rw [aak]
 refine (jk (zK (x:= .str x) (y:= .int m) (jg rfl (jg rfl (qg (jc rfl rfl) lenE) (qU (by omega))) hd))).trans ?_;show seqO _ _ [.shr (.int num),.shr (hsD hs),.shr t.d,.shr lf.d,.shr (.lst (gs.map fun h=>hdN h.1 h.2)),.un,.shr (.str x),.shr (.int m)]=_
 have r1:repL (.lst [lf.d]) (.int m)= .ok (.lst (aal m lf.d)):=by
  rw [←jah];show must _ (Res.ok (D.lst (aal (m:Int).toNat [lf.d]).flatten))=_;rw [abK];refine jl ⟨by omega,by omega,?_⟩;exact jv (by simp;omega)
 refine (jk (wx (d:= .lst (aal m lf.d)) (jg (qM (jc rfl rfl) (sm1 1 rfl (by decide))) rfl r1))).trans ?_;show seqO _ _ [.shr (.int num),.shr (hsD hs),.shr t.d,.shr lf.d,.shr (.lst (gs.map fun h=>hdN h.1 h.2)),.own (.lst (aal m lf.d)),.shr (.str x),.shr (.int m)]=_
 have k1:two (two (rdS 0) (cI 6) divI) (rdS 7) modI [.shr (.int num),.shr (hsD hs),.shr t.d,.shr lf.d,.shr (.lst (gs.map fun h=>hdN h.1 h.2)),.own (.lst (aal m lf.d)),.shr (.str x),.shr (.int m)]= .ok (.int (j:Int)):=by
  rw [←hj];exact jg (jg rfl rfl (Uu (by decide))) rfl (qU (by omega))
 have s1:U1 5 (two (two (rdS 0) (cI 6) divI) (rdS 7) modI) (rdS 2) [.shr (.int num),.shr (hsD hs),.shr t.d,.shr lf.d,.shr (.lst (gs.map fun h=>hdN h.1 h.2)),.own (.lst (aal m lf.d)),.shr (.str x),.shr (.int m)]= .ok (.nx [.shr (.int num),.shr (hsD hs),.shr t.d,.shr lf.d,.shr (.lst (gs.map fun h=>hdN h.1 h.2)),.own (.lst ((aal j lf++t::aal (m-1-j) lf).map Tr.d)),.shr (.str x),.shr (.int m)]):=by
  unfold U1;show (two (two (rdS 0) (cI 6) divI) (rdS 7) modI _>>=_)=_;rw [k1,zJ];dsimp only
  have ei:ixN (aal m lf.d).length (j:Int)=some j:=by
    rw [adO];unfold ixN;rw [if_pos (by omega),if_pos (by omega),abK]
  rw [ei];dsimp only;rw [Kr j m hjm,abR,aat,List.map_replicate,List.map_replicate];rfl
 refine (jk s1).trans ?_;rw [Tr.d_nd];have him:D.imm (.tup (.str x::(aal j lf++t::aal (m-1-j) lf).map Tr.d))=true:=by rw [←Tr.d_nd];exact um _ (Tr.nb_d _)
 have a1:addD (.lst [.str x]) (.lst ((aal j lf++t::aal (m-1-j) lf).map Tr.d))= .ok (.lst ([.str x]++(aal j lf++t::aal (m-1-j) lf).map Tr.d)):=QU (by rw [aak];exact jv (by simp;omega));exact jE (UE (qg (jc (jg (qM (jc rfl rfl) (sm1 1 rfl (by decide))) rfl a1) rfl) rfl) him)
def gtB_iff {rk:Str×Nat->Nat} {s t:Tr}:gtB rk s t=true↔gt rk s t:=Iff.rfl
def uq {rk:Str×Nat->Nat} {s t:Tr} (h:gt rk s t->False):gtB rk s t=false:=by
 cases c:gtB rk s t with
 |false=>rfl
 |true=>exact (h c).elim
theorem UR {hs:List (Str×Nat)} {B:Nat->Prop} {σ:Nat->Tr} {j:Nat} (hB: ∀i,B i->Tn hs j (σ i)): ∀(n:Nat) (t:Tr),Tn hs n t->bl B t->Tn hs (n+j) (Tr.fil σ t)
 |n,.bk i,_,hb=>by
  have:=hB i (hb i (ze _));simp only [Tr.fil];exact this.le (by omega)
 |0,.nd x l,h,_=>by
  cases (show l=[] from h.no);rw [XH];exact Tn.le (n:=0) (.inr ⟨(x,0),h.hd (a:=(x,0)) rfl,rfl,rfl⟩) (by omega)
 |n+1,.nd x l,h,hb=>by
  rw [XH,show n+1+j=n+j+1 by omega];refine jbO (by rw [aak];exact h.hd (a:=(x,l.length)) rfl) fun p hp=>?_
  obtain ⟨q,hq,rfl⟩:=aaB.mp hp;exact UR hB n q (h.kid1 q hq) (uM hb hq)
def q8 {hs:List (Str×Nat)} {ns:List Str} (hf:Few ns) (h3: ∀h∈hs,h.1∈ns/\h.2<=3) {fo:T0} {g:TX} {env:Sl} {s t:Tr} (ts:Tn hs 4 s) (tt:Tn hs 4 t) (h1:fo env= .ok (rcD hs)) (h2:g env= .ok [s.d,t.d]):j3 "Ranks" "falls" 3 F_Ranks_o_falls fo g env= .ok (.bl (gtB (rkI hs) s t)):=Qy h1 (by decide) h2 rfl (jdn hf h3 ts tt)
structure Fi (hs:List (Str×Nat)) (B:Nat->Prop) (σ:Nat->Tr) (ks:List Key) (ds:List D):Prop where
 v: ∀i,B i->valD ks ds (.inl (i:Int))=some (σ i).d
 t: ∀i,B i->Tn hs 1 (σ i)
section
variable {hs:List (Str×Nat)} {ns:List Str}
def jeo (z:Str):inLR false (hdN z 0) (hsD hs)= .ok (.bl (decide ((z,0)∈hs))):=by
 have e:inL (hs.map fun h=>hdN h.1 h.2) (hdN z 0)=decide ((z,0)∈hs):=by
  unfold inL;rw [ad7,adW,decide_eq_true_eq]
  constructor
  · rintro ⟨d,hd,he⟩;obtain ⟨h,hh,rfl⟩:=aaB.mp hd;rw [XR (by rfl) (by rfl),decide_eq_true_eq] at he;simp only [hdN,D.tup.injEq,abf,D.str.injEq,D.int.injEq,and_true] at he;have:h=(z,0):=Prod.ext he.1 (by have:=he.2;omega);rw [←this];exact hh
  · intro h;refine ⟨hdN z 0,aaB.mpr ⟨(z,0),h,rfl⟩,?_⟩;rw [XR (by rfl) (by rfl)];exact decide_eq_true rfl
 show must _ (Res.ok (D.bl (inL (hs.map fun h=>hdN h.1 h.2) (hdN z 0))))=_;rw [e];refine jl ⟨XL (fun _=>rfl) hs,rfl,?_⟩
 have:D.deps (hs.map fun h=>hdN h.1 h.2)<=1:=deps_le fun d hd=>by
  obtain ⟨h,_,rfl⟩:=aaB.mp hd;exact aeW rfl
 omega
abbrev hoE (hs:List (Str×Nat)) (num:Int) (one other:Tr) (F:D) (u6 u7 u8:Slot):Sl:=[.shr (rcD hs),.shr (hsD hs),.shr (.int num),.shr one.d,.shr other.d,.shr F,u6,u7,u8]
noncomputable abbrev hoB:Sl->Res Out:=(ifO (orB (asB (isiF "int" (rdS 6))) (asB (two (tupF (ja (two (rdS 6) (cI 0) ixD) (ja (cI 0) nil1))) (rdS 1) (inLR false)))) (seqO (jJ 7 (jm 4 F__law_round (ja (rdS 2) (ja (rdS 1) (ja (rdS 3) (ja (rdS 6) nil1)))))) (seqO (jJ 8 (jm 4 F__law_round (ja (rdS 2) (ja (rdS 1) (ja (rdS 4) (ja (rdS 6) nil1)))))) (ifO (asB (two (j3 "Ranks" "falls" 3 F_Ranks_o_falls (rdS 0) (ja (rdS 7) (ja (rdS 8) nil1))) (cB true) isnB)) (retO (cB false)) nxO))) nxO)
def X6 {lf t:Tr} {x:Str} {a b n:Nat} (h:(x,a+1+b)∈hs) (hl:Tn hs 0 lf) (ht:Tn hs n t):Tn hs (n+1) (.nd x (aal a lf++t::aal b lf)):=by
 refine jbO (by simp only [aaE,aau,adO];rw [show a+(b+1)=a+1+b by omega];exact h) fun p hp=>?_
 rcases aa8.mp hp with z|z
 · rw [(List.mem_replicate.mp z).2];exact hl.le (by omega)
 · rcases aaq.mp z with z|z
   · rw [z];exact ht
   · rw [(List.mem_replicate.mp z).2];exact hl.le (by omega)
def VE (ok:Hok hs) (hg: ∃h∈hs,0<h.2) (hf:Few ns) (h3: ∀h∈hs,h.1∈ns/\h.2<=3) {one other lf:Tr} {num:Int} {F:D} (t1:Tn hs 3 one) (t2:Tn hs 3 other) (g:gt (rkI hs) one other) (hl:Tn hs 0 lf) (u7 u8:Slot):
  ∃v7 v8,(seqO (jJ 7 (jm 4 F__law_round (ja (rdS 2) (ja (rdS 1) (ja (rdS 3) (ja (rdS 6) nil1)))))) (seqO (jJ 8 (jm 4 F__law_round (ja (rdS 2) (ja (rdS 1) (ja (rdS 4) (ja (rdS 6) nil1)))))) (ifO (asB (two (j3 "Ranks" "falls" 3 F_Ranks_o_falls (rdS 0) (ja (rdS 7) (ja (rdS 8) nil1))) (cB true) isnB)) (retO (cB false)) nxO))) (hoE hs num one other F (.shr lf.d) u7 u8)= .ok (.nx (hoE hs num one other F (.shr lf.d) v7 v8)):=by
 obtain ⟨x,a,b,hx,hr⟩:=jcd ok hg num lf;have r1:=hr one;have r2:=hr other;refine ⟨.shr (Tr.nd x (aal a lf++one::aal b lf)).d,.shr (Tr.nd x (aal a lf++other::aal b lf)).d,(jk (jA (jr (jc rfl (jc rfl (jc rfl (jc rfl rfl)))) rfl r1))).trans ((jk (jA (jr (jc rfl (jc rfl (jc rfl (jc rfl rfl)))) rfl r2))).trans ?_)⟩;have gg:=jdi (rk:=rkI hs) (x:=x) (pre:=aal a lf) (post:=aal b lf) g;have m:=q8 hf h3 (fo:=rdS 0) (g:=ja (rdS 7) (ja (rdS 8) nil1)) (env:=hoE hs num one other F (.shr lf.d) (.shr (Tr.nd x (aal a lf++one::aal b lf)).d) (.shr (Tr.nd x (aal a lf++other::aal b lf)).d)) (X6 hx hl t1) (X6 hx hl t2) rfl (jc rfl (jc rfl rfl));rw [gtB_iff.mpr gg] at m;exact (if_f (jx (jg m rfl rfl))).trans rfl
def jdd (ok:Hok hs) (hg: ∃h∈hs,0<h.2) (hf:Few ns) (h3: ∀h∈hs,h.1∈ns/\h.2<=3) {one other:Tr} {num:Int} {B:Nat->Prop} {σ:Nat->Tr} {ks:List Key} {ds:List D} (fi:Fi hs B σ ks ds) (t1:Tn hs 2 one) (t2:Tn hs 3 other) (b1:bl B one) (b2:bl B other) (g:gt (rkI hs) one other):
  F__law_holds [rcD hs,hsD hs,.int num,one.d,other.d,.dic ks ds]= .ok (.bl true):=by
 have a3: ∀h∈hs,h.2<=3:=fun h hh=>(h3 h hh).2
 refine zN ?_;show g__law_holds _ _ _ (hoE hs num one other (.dic ks ds) .un .un .un)=_;unfold g__law_holds;have m1:=q8 hf h3 (fo:=rdS 0) (g:=ja (rdS 4) (ja (rdS 3) nil1)) (env:=hoE hs num one other (.dic ks ds) .un .un .un) (t2.le (by decide)) (t1.le (by decide)) rfl (jc rfl (jc rfl rfl));rw [uq fun z=>jba g z] at m1;refine (jk ((if_f (jx (jg m1 rfl rfl))).trans rfl)).trans ?_;have f1:=WJ a3 fi.v 16 2 one t1 (by decide) b1;have f2:=WJ a3 fi.v 16 3 other t2 (by decide) b2;have m2:=q8 hf h3 (fo:=rdS 0) (g:=ja (jm 2 (F__law_filled 16) (ja (rdS 3) (ja (rdS 5) nil1))) (ja (jm 2 (F__law_filled 16) (ja (rdS 4) (ja (rdS 5) nil1))) nil1)) (env:=hoE hs num one other (.dic ks ds) .un .un .un) (Tn.le (UR fi.t 2 one t1 b1) (by decide)) (UR fi.t 3 other t2 b2) rfl (jc (jr (jc rfl (jc rfl rfl)) rfl f1) (jc (jr (jc rfl (jc rfl rfl)) rfl f2) rfl));rw [gtB_iff.mpr (ZD σ _ one other (aae _) g)] at m2;refine (jk ((if_f (jx (jg m2 rfl rfl))).trans rfl)).trans ?_;have hl6:=ok.ln;have z0:=abS (num/100) (show ((6:Int))≠0 by decide);have z1:=abq (num/100) (show (0:Int)<6 by decide);obtain ⟨d,hd,hdm⟩:=ixL (ds:=hs.map fun h=>hdN h.1 h.2) (i:=num/100%6) z0 (by rw [aak,hl6];omega);obtain ⟨⟨z,m⟩,hzm,rfl⟩:=aaB.mp hdm;have lenE:lenD [hsD hs]= .ok (.int 6):=by show Res.ok (D.int ((hs.map fun h=>hdN h.1 h.2).length))=_;rw [aak,hl6];rfl
 have it:itF (lstF (ja (cI 5) (ja (tupF (ja (two (two (rdS 1) (two (two (rdS 2) (cI 100) divI) (app (ja (rdS 1) nil1) lenD) modI) ixD) (cI 0) ixD) nil1)) nil1))) (hoE hs num one other (.dic ks ds) .un .un .un)= .ok [(Tr.bk 5).d,(Tr.nd z []).d]:=by
  refine zO (qM (jc rfl (jc (wm (jc (jg (jg rfl (jg (jg rfl rfl (Uu (by decide))) (qg (jc rfl rfl) lenE) (qU (by decide))) hd) rfl ix0) rfl) (sm1 1 rfl (by decide))) rfl)) (sm1 2 rfl (by decide))) ?_;rw [Tr.d_nd];rfl
 obtain ⟨v7,v8,e1⟩:=VE (F:= .dic ks ds) (num:=num) ok hg hf h3 (t1.le (by decide)) t2 g (lf:= .bk 5) Tn.bk .un .un
 have s1:qB (gN 6) hoB (Tr.bk 5).d (hoE hs num one other (.dic ks ds) .un .un .un)= .ok (.nx (hoE hs num one other (.dic ks ds) (.shr (Tr.bk 5).d) v7 v8)):=by
  rw [j4 (env':=hoE hs num one other (.dic ks ds) (.shr (Tr.bk 5).d) .un .un) rfl];refine (if_t ?_).trans e1;show (asB (isiF "int" (rdS 6)) _>>=_)=_;rw [jx (zh rfl rfl)];rfl
 have s2: ∃w7 w8,qB (gN 6) hoB (Tr.nd z []).d (hoE hs num one other (.dic ks ds) (.shr (Tr.bk 5).d) v7 v8)= .ok (.nx (hoE hs num one other (.dic ks ds) (.shr (Tr.nd z []).d) w7 w8)):=by
  rw [j4 (env':=hoE hs num one other (.dic ks ds) (.shr (Tr.nd z []).d) v7 v8) rfl];have i0:two (rdS 6) (cI 0) ixD (hoE hs num one other (.dic ks ds) (.shr (Tr.nd z []).d) v7 v8)= .ok (.str z):=by rw [Tr.d_nd];exact jg rfl rfl ix0
  have tt:orB (asB (isiF "int" (rdS 6))) (asB (two (tupF (ja (two (rdS 6) (cI 0) ixD) (ja (cI 0) nil1))) (rdS 1) (inLR false))) (hoE hs num one other (.dic ks ds) (.shr (Tr.nd z []).d) v7 v8)= .ok (false||decide ((z,0)∈hs)):=Qj (jx (zh rfl (kS _))) (jx (jg (x:=hdN z 0) (wm (jc i0 (jc rfl rfl)) (sm1 2 rfl (by decide))) rfl (jeo z)))
  by_cases c:(z,0)∈hs
  · rw [decide_eq_true c] at tt;obtain ⟨w7,w8,e2⟩:=VE (F:= .dic ks ds) (num:=num) ok hg hf h3 (t1.le (by decide)) t2 g (lf:= .nd z []) (.inr ⟨(z,0),c,rfl,rfl⟩) v7 v8;exact ⟨w7,w8,(if_t tt).trans e2⟩
  · rw [decide_eq_false c] at tt;exact ⟨v7,v8,(if_f tt).trans rfl⟩
 obtain ⟨w7,w8,s2⟩:=s2;have lo:forO (itF (lstF (ja (cI 5) (ja (tupF (ja (two (two (rdS 1) (two (two (rdS 2) (cI 100) divI) (app (ja (rdS 1) nil1) lenD) modI) ixD) (cI 0) ixD) nil1)) nil1)))) (gN 6) hoB (hoE hs num one other (.dic ks ds) .un .un .un)= .ok (.nx (hoE hs num one other (.dic ks ds) (.shr (Tr.nd z []).d) w7 w8)):=(qO it).trans ((qx s1).trans ((qx s2).trans rfl));exact (jk lo).trans (jE rfl)
end
section
variable {hs:List (Str×Nat)} {ns:List Str} {S0 S1:Slot}
def hoL (h0 h1 h2:Nat):List Tr:=[.bk h0,.bk h1,.bk h2]
abbrev laE (hs:List (Str×Nat)) (S0 S1:Slot) (H:List Tr) (u5 u6 u7 u8 u9 u10 u11 u12 u13 u14 u15:Slot):Sl:=[S0,S1,.shr (hsD hs),.shr (lvD H),.shr (rcD hs),u5,u6,u7,u8,u9,u10,u11,u12,u13,u14,u15]
noncomputable abbrev flB:Sl->Res Out:=seqO (asgO (jm 4 (F__law_term 6) (ja (rdS 10) (ja (rdS 2) (ja (lstF (ja (rdS 8) (ja (two (rdS 3) (cI 0) ixD) (ja (cI 999) nil1)))) (ja (cI 1) nil1))))) (g2 (gN 15) (gN 10))) (Ut 7 (rdS 8) (rdS 15))
theorem ZG (ok:Hok hs) {h0 h1 h2:Nat} {u5 u6 u9 u11 u12 u13 u14:Slot}: ∀(r:List Nat) (B:Nat->Prop) (σ:Nat->Tr) (ks:List Key) (ds:List D) (n:Int) (u8 u15:Slot),Fi hs B σ ks ds->ks.length=ds.length->ks.length+r.length<=10->
  ∃(σ':Nat->Tr) (ks':List Key) (ds':List D) (n':Int) (v8 v15:Slot),forD (qB (gN 8) flB) (r.map fun b=>(Tr.bk b).d) (laE hs S0 S1 (hoL h0 h1 h2) u5 u6 (.own (.dic ks ds)) u8 u9 (.shr (.int n)) u11 u12 u13 u14 u15)= .ok (.nx (laE hs S0 S1 (hoL h0 h1 h2) u5 u6 (.own (.dic ks' ds')) v8 u9 (.shr (.int n')) u11 u12 u13 u14 v15))/\Fi hs (fun i=>B i\/i∈r) σ' ks' ds'
 | [],B,σ,ks,ds,n,u8,u15,fi,_,_=>⟨σ,ks,ds,n,u8,u15,rfl,⟨fun i h=>fi.v i (h.elim id fun z=>by cases z),fun i h=>fi.t i (h.elim id fun z=>by cases z)⟩⟩
 |b::r,B,σ,ks,ds,n,u8,u15,fi,hl,hm=>by
  simp only [aau] at hm
  obtain ⟨t,n',et,hT,_⟩:=UU (lv:=[.bk b,.bk h0,.bk 999]) (j:=0) (B:=fun _=>True) ok.ln ok.ar ⟨by simp,by simp⟩ (fun z hz=>by
    simp only [aaq,abF,or_false] at hz
    rcases hz with e|e|e<;>subst e<;>exact ⟨Tn.bk,fun _ _=>trivial⟩) 6 1 n (by decide)
  have pl:=jam (k:= .inl (b:Int)) (d:=t.d) hl
  have fi':Fi hs (fun i=>B i\/i=b) (fun i=>if i=b then t else σ i) (xi ks (.inl (b:Int))) (xw ks ds (.inl (b:Int)) t.d):=by
    refine ⟨fun i h=>?_,fun i h=>?_⟩
    · rw [W3 hl]
      by_cases c:i=b
      · subst c;rw [if_pos rfl];simp only [if_true]
      · have hB:B i:=h.resolve_right c;rw [if_neg (fun z=>c (by simp only [Sum.inl.injEq] at z;omega)),fi.v i hB];simp only [if_neg c]
    · by_cases c:i=b
      · simp only [if_pos c];exact hT
      · simp only [if_neg c];exact fi.t i (h.resolve_right c)
  obtain ⟨σ',ks',ds',n2,v8,v15,e,fi2⟩:=ZG ok (h0:=h0) (h1:=h1) (h2:=h2) (u5:=u5) (u6:=u6) (u9:=u9) (u11:=u11) (u12:=u12) (u13:=u13) (u14:=u14) r _ _ _ _ n' (.shr (Tr.bk b).d) (.shr t.d) fi' pl.1 (by omega);refine ⟨σ',ks',ds',n2,v8,v15,(qx ?_).trans e,⟨fun i h=>fi2.v i ?_,fun i h=>fi2.t i ?_⟩⟩
  · rw [j4 (env':=laE hs S0 S1 (hoL h0 h1 h2) u5 u6 (.own (.dic ks ds)) (.shr (Tr.bk b).d) u9 (.shr (.int n)) u11 u12 u13 u14 u15) rfl];have l1:lstF (ja (rdS 8) (ja (two (rdS 3) (cI 0) ixD) (ja (cI 999) nil1))) (laE hs S0 S1 (hoL h0 h1 h2) u5 u6 (.own (.dic ks ds)) (.shr (Tr.bk b).d) u9 (.shr (.int n)) u11 u12 u13 u14 u15)= .ok (lvD [.bk b,.bk h0,.bk 999]):=qM (jc rfl (jc (jg rfl rfl (ixL0 _ _)) (jc rfl rfl))) (sm1 3 rfl (by decide));refine (jk (zK (jr (jc rfl (jc rfl (jc l1 (jc rfl rfl)))) rfl et))).trans ?_;exact Us (k:=(b:Int)) rfl rfl rfl (aaC (show ks.length<20000 by omega) big1)
  · rcases h with h|h
    · exact .inl (.inl h)
    · rcases aaq.mp h with h|h
      · exact .inl (.inr h)
      · exact .inr h
  · rcases h with h|h
    · exact .inl (.inl h)
    · rcases aaq.mp h with h|h
      · exact .inl (.inr h)
      · exact .inr h
noncomputable abbrev pkB:Sl->Res Out:=ifO (asB (two (rdS 11) (cI 0) eqR)) (seqO (jJ 13 (jm 1 (F__law_parts 16) (ja (rdS 12) nil1))) (seqO (jJ 6 (lstF (ja (two (rdS 13) (two (rdS 10) (app (ja (rdS 13) nil1) lenD) modI) ixD) (ja (two (rdS 13) (two (two (rdS 10) (cI 13) divW) (app (ja (rdS 13) nil1) lenD) modI) ixD) (ja (two (rdS 13) (two (two (rdS 10) (cI 169) divW) (app (ja (rdS 13) nil1) lenD) modI) ixD) nil1))))) (jJ 10 (two (rdS 10) (cI 2197) divW)))) nxO
def ja0 {t:Tr} (n:Int): ∃p∈t.ps,ixD (.lst (t.ps.map Tr.d)) (.int (n%(t.ps.length:Int)))= .ok p.d:=by
 have hp:0<t.ps.length:=abI (ze t);obtain ⟨d,hd,hm⟩:=ixL (ds:=t.ps.map Tr.d) (i:=n%t.ps.length) (abS n (by omega)) (by rw [aak];exact abq n (by omega));obtain ⟨p,h1,rfl⟩:=aaB.mp hm;exact ⟨p,h1,hd⟩
theorem jdG: ∀(n:Nat) (t p:Tr),Tn hs n t->p∈t.ps->Tn hs n p
 |n,.bk i,p,h,hp=>by
  simp only [Tr.ps,abB] at hp;rw [hp];exact h
 |0,.nd x l,p,h,hp=>by
  cases (show l=[] from h.no);simp only [Tr.ps,Tr.pss,abB] at hp;rw [hp];exact h
 |n+1,.nd x l,p,h,hp=>by
  simp only [Tr.ps] at hp;rcases aaq.mp hp with e|e
  · rw [e];exact h
  · obtain ⟨q,hq,h2⟩:=Wf e;exact (jdG n q p (h.kid1 q hq) h2).up
def Wi (h3: ∀h∈hs,h.2<=3) {B:Nat->Prop} {H:List Tr} {one:Tr} (hT:Tn hs 2 one) (hb:bl B one) (hH:H.length=3) (hHb: ∀z∈H,Tn hs 2 z/\bl B z) (n w:Int) {u5 u7 u8 u9 u13 u14 u15:Slot}:
  ∃(lv:List Tr) (n':Int) (v13:Slot),pkB (laE hs S0 S1 H u5 (.shr (lvD H)) u7 u8 u9 (.shr (.int n)) (.shr (.int w)) (.shr one.d) u13 u14 u15)= .ok (.nx (laE hs S0 S1 H u5 (.shr (lvD lv)) u7 u8 u9 (.shr (.int n')) (.shr (.int w)) (.shr one.d) v13 u14 u15))/\lv.length=3/\ ∀z∈lv,Tn hs 2 z/\bl B z:=by
 have t1:asB (two (rdS 11) (cI 0) eqR) (laE hs S0 S1 H u5 (.shr (lvD H)) u7 u8 u9 (.shr (.int n)) (.shr (.int w)) (.shr one.d) u13 u14 u15)= .ok (w==0):=jx (jg rfl rfl Ud)
 cases c:(w==0) with
 |false=>
  rw [c] at t1;exact ⟨H,n,u13,(if_f t1).trans rfl,hH,hHb⟩
 |true=>
  rw [c] at t1;have z:=UV h3 hT;have n13:sN 2=13:=rfl;have lp:=Vj h3 16 2 one hT (by decide) (by omega);have pp:0<one.ps.length:=abI (ze one);have lenE:lenD [.lst (one.ps.map Tr.d)]= .ok (.int one.ps.length):=by show Res.ok (D.int ((one.ps.map Tr.d).length))=_;rw [aak]
  obtain ⟨p0,m0,e0⟩:=ja0 (t:=one) n;obtain ⟨p1,m1,e1⟩:=ja0 (t:=one) (n/13);obtain ⟨p2,m2,e2⟩:=ja0 (t:=one) (n/169);refine ⟨[p0,p1,p2],n/2197,.shr (.lst (one.ps.map Tr.d)),(if_t t1).trans ?_,rfl,fun q hq=>?_⟩
  · refine (jk (jA (jr (jc rfl rfl) rfl lp))).trans ?_
    have ll:lstF (ja (two (rdS 13) (two (rdS 10) (app (ja (rdS 13) nil1) lenD) modI) ixD) (ja (two (rdS 13) (two (two (rdS 10) (cI 13) divW) (app (ja (rdS 13) nil1) lenD) modI) ixD) (ja (two (rdS 13) (two (two (rdS 10) (cI 169) divW) (app (ja (rdS 13) nil1) lenD) modI) ixD) nil1))) (laE hs S0 S1 H u5 (.shr (lvD H)) u7 u8 u9 (.shr (.int n)) (.shr (.int w)) (.shr one.d) (.shr (.lst (one.ps.map Tr.d))) u14 u15)= .ok (lvD [p0,p1,p2]):=by
     refine qM (jc (jg rfl (jg rfl (qg (jc rfl rfl) lenE) (qU (by omega))) e0) (jc (jg rfl (jg (jg rfl rfl (zI (by decide))) (qg (jc rfl rfl) lenE) (qU (by omega))) e1) (jc (jg rfl (jg (jg rfl rfl (zI (by decide))) (qg (jc rfl rfl) lenE) (qU (by omega))) e2) rfl))) (sm1 3 rfl (by decide))
    refine (jk (jA ll)).trans ?_;exact jA (jg rfl rfl (zI (by decide)))
  · have:q∈one.ps:=by
     simp only [aaq,abF,or_false] at hq;rcases hq with e|e|e<;>subst e<;>assumption
    exact ⟨jdG 2 one q hT this,jdz hb this⟩
noncomputable abbrev loB:Sl->Res Out:=(seqO (asgO (app (ja (jm 1 F__law_great (ja (rdS 5) nil1)) (ja (cI 2) nil1)) zi) (g2 (gN 10) (gN 11))) (seqO (asgO (jm 4 (F__law_term 6) (ja (rdS 10) (ja (rdS 2) (ja (rdS 3) (ja (cI 2) nil1))))) (g2 (gN 12) (gN 10))) (seqO (jJ 6 (rdS 3)) (seqO pkB (seqO (asgO (jm 4 (F__law_term 6) (ja (rdS 10) (ja (rdS 2) (ja (rdS 6) (ja (cI 1) nil1))))) (g2 (gN 14) (gN 10))) (seqO (setO 7 cD) (seqO (forO (itF (rdS 3)) (gN 8) flB) (seqO (jJ 9 (j3 "Ranks" "falls" 3 F_Ranks_o_falls (rdS 4) (ja (rdS 12) (ja (rdS 14) nil1)))) (seqO (ifO (andB (truF (rdS 9)) (notB (asB (jm 6 F__law_holds (ja (rdS 4) (ja (rdS 2) (ja (rdS 10) (ja (rdS 12) (ja (rdS 14) (ja (rdB 7) nil1)))))))))) (retO (cB false)) nxO) (seqO (ifO (orB (notB (asB (isiF "bool" (rdS 9)))) (asB (two (j3 "Ranks" "falls" 3 F_Ranks_o_falls (rdS 4) (ja (rdS 12) (ja (rdS 12) nil1))) (cB false) isnB))) (retO (cB false)) nxO) (ifO (andB (notB (asB (isiF "int" (rdS 12)))) (notB (asB (app (ja (zl false 1 [12,4] (itF (qf (rdS 12) (zb (cI 1)) wu slD)) (gN 0) qE (two (j3 "Ranks" "falls" 3 F_Ranks_o_falls (rdS 2) (ja (rdS 1) (ja (rdS 0) nil1))) (cB true) isB)) nil1) allD)))) (retO (cB false)) nxO)))))))))))
def jaY (ok:Hok hs) (hg: ∃h∈hs,0<h.2) (hf:Few ns) (h3: ∀h∈hs,h.1∈ns/\h.2<=3) {h0 h1 h2:Nat} (i:Int) {u6 u7 u8 u9 u10 u11 u12 u13 u14 u15:Slot}:
  ∃v6 v7 v8 v9 v10 v11 v12 v13 v14 v15,loB (laE hs S0 S1 (hoL h0 h1 h2) (.shr (.int i)) u6 u7 u8 u9 u10 u11 u12 u13 u14 u15)= .ok (.nx (laE hs S0 S1 (hoL h0 h1 h2) (.shr (.int i)) v6 v7 v8 v9 v10 v11 v12 v13 v14 v15)):=by
 have a3: ∀h∈hs,h.2<=3:=fun h hh=>(h3 h hh).2
 obtain ⟨g,eg⟩:=ur i;obtain ⟨B,hB⟩: ∃B:Nat->Prop,B=fun j=>False\/j∈[h0,h1,h2]:=⟨_,rfl⟩
 have hH: ∀ {n:Nat},∀z∈hoL h0 h1 h2,Tn hs n z/\bl B z:=fun {n} z hz=>by
  simp only [hoL,aaq,abF,or_false] at hz;rcases hz with e|e|e<;>subst e<;>exact ⟨Tn.bk,jeC (by rw [hB];simp)⟩
 obtain ⟨one,n1,e1,t1,b1⟩:=UU (j:=0) ok.ln ok.ar (lv:=hoL h0 h1 h2) (B:=B) ⟨by simp [hoL],by simp [hoL]⟩ hH 6 2 (g/2) (by decide);have s1:asgO (app (ja (jm 1 F__law_great (ja (rdS 5) nil1)) (ja (cI 2) nil1)) zi) (g2 (gN 10) (gN 11)) (laE hs S0 S1 (hoL h0 h1 h2) (.shr (.int i)) u6 u7 u8 u9 u10 u11 u12 u13 u14 u15)= .ok (.nx (laE hs S0 S1 (hoL h0 h1 h2) (.shr (.int i)) u6 u7 u8 u9 (.shr (.int (g/2))) (.shr (.int (g%2))) u12 u13 u14 u15)):=zK (vx (jr (jc rfl rfl) rfl eg) rfl (by decide));have s2:asgO (jm 4 (F__law_term 6) (ja (rdS 10) (ja (rdS 2) (ja (rdS 3) (ja (cI 2) nil1))))) (g2 (gN 12) (gN 10)) (laE hs S0 S1 (hoL h0 h1 h2) (.shr (.int i)) u6 u7 u8 u9 (.shr (.int (g/2))) (.shr (.int (g%2))) u12 u13 u14 u15)= .ok (.nx (laE hs S0 S1 (hoL h0 h1 h2) (.shr (.int i)) u6 u7 u8 u9 (.shr (.int n1)) (.shr (.int (g%2))) (.shr one.d) u13 u14 u15)):=zK (jr (jc rfl (jc rfl (jc rfl (jc rfl rfl)))) rfl e1);obtain ⟨lv,n2,v13,s4,hlv,hlb⟩:=Wi (S0:=S0) (S1:=S1) a3 t1 b1 (H:=hoL h0 h1 h2) rfl hH n1 (g%2) (u5:= .shr (.int i)) (u7:=u7) (u8:=u8) (u9:=u9) (u13:=u13) (u14:=u14) (u15:=u15);obtain ⟨other,n3,e2,t2,b2⟩:=UU (j:=2) ok.ln ok.ar (lv:=lv) (B:=B) ⟨by omega,by omega⟩ hlb 6 1 n2 (by decide);have s5:asgO (jm 4 (F__law_term 6) (ja (rdS 10) (ja (rdS 2) (ja (rdS 6) (ja (cI 1) nil1))))) (g2 (gN 14) (gN 10)) (laE hs S0 S1 (hoL h0 h1 h2) (.shr (.int i)) (.shr (lvD lv)) u7 u8 u9 (.shr (.int n2)) (.shr (.int (g%2))) (.shr one.d) v13 u14 u15)= .ok (.nx (laE hs S0 S1 (hoL h0 h1 h2) (.shr (.int i)) (.shr (lvD lv)) u7 u8 u9 (.shr (.int n3)) (.shr (.int (g%2))) (.shr one.d) v13 (.shr other.d) u15)):=zK (jr (jc rfl (jc rfl (jc rfl (jc rfl rfl)))) rfl e2);obtain ⟨σ,ks,ds,n4,v8,v15,s7,fi⟩:=ZG (S0:=S0) (S1:=S1) ok (h0:=h0) (h1:=h1) (h2:=h2) (u5:= .shr (.int i)) (u6:= .shr (lvD lv)) (u9:=u9) (u11:= .shr (.int (g%2))) (u12:= .shr one.d) (u13:=v13) (u14:= .shr other.d) [h0,h1,h2] (fun _=>False) (fun _=> .bk 0) [] [] n3 u8 u15 ⟨fun _ h=>h.elim,fun _ h=>h.elim⟩ rfl (by simp);rw [←hB] at fi;have it:itF (rdS 3) (laE hs S0 S1 (hoL h0 h1 h2) (.shr (.int i)) (.shr (lvD lv)) (.own (.dic [] [])) u8 u9 (.shr (.int n3)) (.shr (.int (g%2))) (.shr one.d) v13 (.shr other.d) u15)= .ok ([h0,h1,h2].map fun b=>(Tr.bk b).d):=zO rfl rfl;have t14:Tn hs 4 one:=t1.le (by decide);have t24:Tn hs 4 other:=t2.le (by decide);have s8:jJ 9 (j3 "Ranks" "falls" 3 F_Ranks_o_falls (rdS 4) (ja (rdS 12) (ja (rdS 14) nil1))) (laE hs S0 S1 (hoL h0 h1 h2) (.shr (.int i)) (.shr (lvD lv)) (.own (.dic ks ds)) v8 u9 (.shr (.int n4)) (.shr (.int (g%2))) (.shr one.d) v13 (.shr other.d) v15)= .ok (.nx (laE hs S0 S1 (hoL h0 h1 h2) (.shr (.int i)) (.shr (lvD lv)) (.own (.dic ks ds)) v8 (.shr (.bl (gtB (rkI hs) one other))) (.shr (.int n4)) (.shr (.int (g%2))) (.shr one.d) v13 (.shr other.d) v15)):=jA (q8 hf h3 t14 t24 rfl (jc rfl (jc rfl rfl)));refine ⟨.shr (lvD lv),.own (.dic ks ds),v8,.shr (.bl (gtB (rkI hs) one other)),.shr (.int n4),.shr (.int (g%2)),.shr one.d,v13,.shr other.d,v15,?_⟩;have s3:jJ 6 (rdS 3) (laE hs S0 S1 (hoL h0 h1 h2) (.shr (.int i)) u6 u7 u8 u9 (.shr (.int n1)) (.shr (.int (g%2))) (.shr one.d) u13 u14 u15)= .ok (.nx (laE hs S0 S1 (hoL h0 h1 h2) (.shr (.int i)) (.shr (lvD (hoL h0 h1 h2))) u7 u8 u9 (.shr (.int n1)) (.shr (.int (g%2))) (.shr one.d) u13 u14 u15)):=jA rfl;have s6:setO 7 cD (laE hs S0 S1 (hoL h0 h1 h2) (.shr (.int i)) (.shr (lvD lv)) u7 u8 u9 (.shr (.int n3)) (.shr (.int (g%2))) (.shr one.d) v13 (.shr other.d) u15)= .ok (.nx (laE hs S0 S1 (hoL h0 h1 h2) (.shr (.int i)) (.shr (lvD lv)) (.own (.dic [] [])) u8 u9 (.shr (.int n3)) (.shr (.int (g%2))) (.shr one.d) v13 (.shr other.d) u15)):=wx (d:= .dic [] []) rfl;have s77:forO (itF (rdS 3)) (gN 8) flB (laE hs S0 S1 (hoL h0 h1 h2) (.shr (.int i)) (.shr (lvD lv)) (.own (.dic [] [])) u8 u9 (.shr (.int n3)) (.shr (.int (g%2))) (.shr one.d) v13 (.shr other.d) u15)=_:=(qO it).trans s7;refine (jk s1).trans ?_;refine (jk s2).trans ?_;refine (jk s3).trans ?_;refine (jk s4).trans ?_;refine (jk s5).trans ?_;refine (jk s6).trans ?_;refine (jk s77).trans ?_;refine (jk s8).trans ?_;generalize hE:laE hs S0 S1 (hoL h0 h1 h2) (.shr (.int i)) (.shr (lvD lv)) (.own (.dic ks ds)) v8 (.shr (.bl (gtB (rkI hs) one other))) (.shr (.int n4)) (.shr (.int (g%2))) (.shr one.d) v13 (.shr other.d) v15=E
 have x9:andB (truF (rdS 9)) (notB (asB (jm 6 F__law_holds (ja (rdS 4) (ja (rdS 2) (ja (rdS 10) (ja (rdS 12) (ja (rdS 14) (ja (rdB 7) nil1))))))))) E= .ok false:=by
  subst hE
  cases c:gtB (rkI hs) one other with
  |false=>
   show (truF (rdS 9) _>>=_)=_;rw [Y3 rfl rfl];rfl
  |true=>
   have hh:=jdd (num:=n4) ok hg hf h3 fi t1 t2 b1 b2 (gtB_iff.mp c);exact (UP (b:=true) (b2:=false) (Y3 rfl rfl) (qv (b:=true) (jx (jr (jc rfl (jc rfl (jc rfl (jc rfl (jc rfl (jc rfl rfl)))))) rfl hh))))
 refine (jk ((if_f x9).trans rfl)).trans ?_
 have x10:orB (notB (asB (isiF "bool" (rdS 9)))) (asB (two (j3 "Ranks" "falls" 3 F_Ranks_o_falls (rdS 4) (ja (rdS 12) (ja (rdS 12) nil1))) (cB false) isnB)) E= .ok false:=by
  subst hE;have m:=q8 hf h3 (fo:=rdS 4) (g:=ja (rdS 12) (ja (rdS 12) nil1)) (env:=laE hs S0 S1 (hoL h0 h1 h2) (.shr (.int i)) (.shr (lvD lv)) (.own (.dic ks ds)) v8 (.shr (.bl (gtB (rkI hs) one other))) (.shr (.int n4)) (.shr (.int (g%2))) (.shr one.d) v13 (.shr other.d) v15) t14 t14 rfl (jc rfl (jc rfl rfl));rw [uq (ZC one)] at m;exact Qj (b:=false) (b2:=false) (qv (b:=true) (jx (zh rfl rfl))) (jx (jg m rfl rfl))
 refine (jk ((if_f x10).trans rfl)).trans ?_
 have x11:andB (notB (asB (isiF "int" (rdS 12)))) (notB (asB (app (ja (zl false 1 [12,4] (itF (qf (rdS 12) (zb (cI 1)) wu slD)) (gN 0) qE (two (j3 "Ranks" "falls" 3 F_Ranks_o_falls (rdS 2) (ja (rdS 1) (ja (rdS 0) nil1))) (cB true) isB)) nil1) allD))) E= .ok false:=by
  subst hE
  cases one with
  |bk q=>
   show (notB (asB (isiF "int" (rdS 12))) _>>=_)=_;rw [qv (b:=true) (jx (zh rfl rfl))];rfl
  |nd x l=>
   have hl:=ar3 a3 t1;have q1:notB (asB (isiF "int" (rdS 12))) (laE hs S0 S1 (hoL h0 h1 h2) (.shr (.int i)) (.shr (lvD lv)) (.own (.dic ks ds)) v8 (.shr (.bl (gtB (rkI hs) (.nd x l) other))) (.shr (.int n4)) (.shr (.int (g%2))) (.shr (Tr.nd x l).d) v13 (.shr other.d) v15)= .ok true:=qv (b:=false) (jx (zh rfl (kS (.nd x l))))
   have sl:itF (qf (rdS 12) (zb (cI 1)) wu slD) (laE hs S0 S1 (hoL h0 h1 h2) (.shr (.int i)) (.shr (lvD lv)) (.own (.dic ks ds)) v8 (.shr (.bl (gtB (rkI hs) (.nd x l) other))) (.shr (.int n4)) (.shr (.int (g%2))) (.shr (Tr.nd x l).d) v13 (.shr other.d) v15)= .ok (l.map Tr.d):=by
    rw [Tr.d_nd];refine zO (zU rfl (zp rfl) rfl rfl) ?_;show Res.ok (cutD (.str x::l.map Tr.d) (some ((1:Nat):Int)) none)=_;rw [QO];rfl
   have q2:zl false 1 [12,4] (itF (qf (rdS 12) (zb (cI 1)) wu slD)) (gN 0) qE (two (j3 "Ranks" "falls" 3 F_Ranks_o_falls (rdS 2) (ja (rdS 1) (ja (rdS 0) nil1))) (cB true) isB) (laE hs S0 S1 (hoL h0 h1 h2) (.shr (.int i)) (.shr (lvD lv)) (.own (.dic ks ds)) v8 (.shr (.bl (gtB (rkI hs) (.nd x l) other))) (.shr (.int n4)) (.shr (.int (g%2))) (.shr (Tr.nd x l).d) v13 (.shr other.d) v15)= .ok (.lst ((l.map Tr.d).map fun _=>D.bl true)):=by
    refine WT (cs:=[.shr (Tr.nd x l).d,.shr (rcD hs)]) (fun _=>D.bl true) (fun d=> ∃t∈l,d=Tr.d t) rfl sl (fun d hd=>?_) (by rw [aak];exact jv (by omega)) (fun d acc hd=>?_)
    · obtain ⟨t,ht,rfl⟩:=aaB.mp hd;exact ⟨t,ht,rfl⟩
    · obtain ⟨t,ht,rfl⟩:=hd;have m:=q8 hf h3 (fo:=rdS 2) (g:=ja (rdS 1) (ja (rdS 0) nil1)) (env:= .shr t.d::([.shr (Tr.nd x l).d,.shr (rcD hs)]++[.own (.lst acc)])) t14 (t14.kid t ht) rfl (jc rfl (jc rfl rfl));rw [gtB_iff.mpr (zF (s:= .nd x l) ht (.inl rfl))] at m;exact jg m rfl rfl
   have q3:=QT (l.map Tr.d) (fun _=>true);rw [show ((l.map Tr.d).all fun _=>true)=true by simp] at q3;exact UP (b:=true) (b2:=false) q1 (qv (b:=true) (jx (qg (jc q2 rfl) q3)))
 exact (if_f x11).trans rfl
theorem Vo (ok:Hok hs) (hg: ∃h∈hs,0<h.2) (hf:Few ns) (h3: ∀h∈hs,h.1∈ns/\h.2<=3) {h0 h1 h2:Nat}: ∀(r:List D) (u5 u6 u7 u8 u9 u10 u11 u12 u13 u14 u15:Slot),(∀d∈r,∃i:Int,d= .int i)->
  ∃v5 v6 v7 v8 v9 v10 v11 v12 v13 v14 v15,forD (qB (gN 5) loB) r (laE hs S0 S1 (hoL h0 h1 h2) u5 u6 u7 u8 u9 u10 u11 u12 u13 u14 u15)= .ok (.nx (laE hs S0 S1 (hoL h0 h1 h2) v5 v6 v7 v8 v9 v10 v11 v12 v13 v14 v15))
 | [],u5,u6,u7,u8,u9,u10,u11,u12,u13,u14,u15,_=>⟨u5,u6,u7,u8,u9,u10,u11,u12,u13,u14,u15,rfl⟩
 |d::r,u5,u6,u7,u8,u9,u10,u11,u12,u13,u14,u15,h=>by
  obtain ⟨i,rfl⟩:=h d aam;obtain ⟨w6,w7,w8,w9,w10,w11,w12,w13,w14,w15,e⟩:=jaY (S0:=S0) (S1:=S1) ok hg hf h3 (h0:=h0) (h1:=h1) (h2:=h2) i (u6:=u6) (u7:=u7) (u8:=u8) (u9:=u9) (u10:=u10) (u11:=u11) (u12:=u12) (u13:=u13) (u14:=u14) (u15:=u15);obtain ⟨v5,v6,v7,v8,v9,v10,v11,v12,v13,v14,v15,e2⟩:=Vo ok hg hf h3 (h0:=h0) (h1:=h1) (h2:=h2) r (.shr (.int i)) w6 w7 w8 w9 w10 w11 w12 w13 w14 w15 fun d hd=>h d (aaj _ hd)
  refine ⟨v5,v6,v7,v8,v9,v10,v11,v12,v13,v14,v15,(qx ?_).trans e2⟩;exact (j4 (env':=laE hs S0 S1 (hoL h0 h1 h2) (.shr (.int i)) u6 u7 u8 u9 u10 u11 u12 u13 u14 u15) rfl).trans e
end
def law_true (sc:List Int) (hlen:sc.length<=63) (hb: ∀i∈sc,abL i<=2^20):F_law [.scr (sc.map D.int)]= .ok (.bl true):=by
 obtain ⟨c0,ec0,_⟩:=YO sc;obtain ⟨m0,em0⟩:=ur c0;obtain ⟨hs,ns,eh,ok,hf,h3,hg⟩:=jdf m0;have p6:powI (.int 10) (.int 6)= .ok (.int (10^6)):=(JL (by decide)).trans rfl;obtain ⟨h0,e0⟩: ∃a:Nat,m0%1000=a:=⟨_,(acf (by omega)).symm⟩
 obtain ⟨h1,e1⟩: ∃a:Nat,m0/1000%1000=a:=⟨_,(acf (by omega)).symm⟩
 obtain ⟨h2,e2⟩: ∃a:Nat,ixD (.lst [.int 7,.int (h0:Int)]) (.int (m0/10^6%2))= .ok (Tr.bk a).d:=by
  have:m0/10^6%2=0\/m0/10^6%2=1:=by omega
  rcases this with e|e<;>rw [e]
  · exact ⟨7,ixL0 _ _⟩
  · exact ⟨h0,ixL1 _ _ _⟩
 refine zN ?_;show g_law _ _ _ _ _ _ _ _ [.shr (.scr (sc.map D.int)),.un,.un,.un,.un,.un,.un,.un,.un,.un,.un,.un,.un,.un,.un,.un]=_;unfold g_law;refine (jk (jA (jr (jc (jr (jc rfl (jc rfl rfl)) rfl ec0) rfl) rfl em0))).trans ?_;refine (jk (jA (jr (jc rfl rfl) rfl eh))).trans ?_
 have hm:two (rdS 1) (cI 1000) modI [.shr (.scr (sc.map D.int)),.shr (.int m0),.shr (hsD hs),.un,.un,.un,.un,.un,.un,.un,.un,.un,.un,.un,.un,.un]= .ok (.int (h0:Int)):=by
  rw [←e0];exact jg rfl rfl (qU (by decide))
 have hm1:two (two (rdS 1) (cI 1000) divW) (cI 1000) modI [.shr (.scr (sc.map D.int)),.shr (.int m0),.shr (hsD hs),.un,.un,.un,.un,.un,.un,.un,.un,.un,.un,.un,.un,.un]= .ok (.int (h1:Int)):=by
  rw [←e1];exact jg (jg rfl rfl (zI (by decide))) rfl (qU (by decide))
 have ho:lstF (ja (two (rdS 1) (cI 1000) modI) (ja (two (two (rdS 1) (cI 1000) divW) (cI 1000) modI) (ja (two (lstF (ja (cI 7) (ja (two (rdS 1) (cI 1000) modI) nil1))) (two (two (rdS 1) (two (cI 10) (cI 6) powI) divW) (cI 2) modI) ixD) nil1))) [.shr (.scr (sc.map D.int)),.shr (.int m0),.shr (hsD hs),.un,.un,.un,.un,.un,.un,.un,.un,.un,.un,.un,.un,.un]= .ok (lvD (hoL h0 h1 h2)):=
  qM (jc hm (jc hm1 (jc (jg (qM (jc rfl (jc hm rfl)) (sm1 2 rfl (by decide))) (jg (jg rfl (jg rfl rfl p6) (zI (by decide))) rfl (qU (by decide))) e2) rfl))) (sm1 3 rfl (by decide))
 refine (jk (jA ho)).trans ?_;refine (jk (jA (jej ok (jc rfl rfl)))).trans ?_;have hsl:itF (qf (rdS 0) (zb (cI 1)) (zb (cI 17)) slS) (laE hs (.shr (.scr (sc.map D.int))) (.shr (.int m0)) (hoL h0 h1 h2) .un .un .un .un .un .un .un .un .un .un .un)= .ok (cutD (sc.map D.int) (some 1) (some 17)):=zO (zU rfl (zp rfl) (zp rfl) rfl) rfl
 obtain ⟨v5,v6,v7,v8,v9,v10,v11,v12,v13,v14,v15,el⟩:=Vo (S0:= .shr (.scr (sc.map D.int))) (S1:= .shr (.int m0)) ok hg hf h3 (h0:=h0) (h1:=h1) (h2:=h2) (cutD (sc.map D.int) (some 1) (some 17)) .un .un .un .un .un .un .un .un .un .un .un (fun d hd=>by
  obtain ⟨i,_,rfl⟩:=aaB.mp (jbx hd)
  exact ⟨i,rfl⟩)
 exact (jk ((qO hsl).trans el)).trans (jE rfl)
end G
namespace PySem.W.Fast
theorem tw589610836466947818:True:=⟨⟩
theorem te8615352570216154738:True:=⟨⟩
theorem tw16523783623676752147:True:=⟨⟩
theorem tw10988807290566143586:True:=⟨⟩
theorem tw13000883227020696828:True:=⟨⟩
theorem tw9239161429152702903:True:=⟨⟩
theorem tw17506613324239473176:True:=⟨⟩
theorem tw14614111749819846779:True:=⟨⟩
theorem tw5198238403229728516:True:=⟨⟩
theorem tw3544477988389295397:True:=⟨⟩
theorem tw5096475986131709468:True:=⟨⟩
theorem tw17668402323352971467:True:=⟨⟩
theorem tw10069605408965757370:True:=⟨⟩
theorem tw1428233388092033324:True:=⟨⟩
theorem tw15964973549751265543:True:=⟨⟩
theorem tw16440349815031353315:True:=⟨⟩
theorem tw17099062251924916920:True:=⟨⟩
theorem tw17791094035127997199:True:=⟨⟩
theorem tw5781399052543848845:True:=⟨⟩
theorem tw10584789428955124521:True:=⟨⟩
theorem tw8857745895115002445:True:=⟨⟩
theorem tw1253200539781048280:True:=⟨⟩
theorem tw7346233981920139758:True:=⟨⟩
theorem tw3570047781104067227:True:=⟨⟩
theorem tw3955961833507668165:True:=⟨⟩
theorem tw10454185096993450151:True:=⟨⟩
theorem tw9606491713462596517:True:=⟨⟩
end PySem.W.Fast
open PySem PySem.W PyProof.Rows
set_option maxRecDepth 100000 in
set_option maxHeartbeats 0 in
theorem PySem.Challenge.cw_endwise_k34_kept_by_filling_holds : PySem.Challenge.rw_endwise_k34_kept_by_filling.Holds := by
  w_on; o_law; k_head; (case hw => w_witness2)
  k_fill
  refine M.walk_law (l := PySem.Challenge.rw_endwise_k34_kept_by_filling) (n := 63) (k := 69) (x := "_law_script") (F := G.F_law) rfl (by decide) rfl ⟨rfl, by decide, by decide⟩ (fun w h Y => PySem.W.kIn_of Y) ?F G.law_true
  case F =>
    intro w mg fa h KX Gn hmg
    refine' G.all_mk KX Gn hmg ?d0 ?d1 ?d2 ?d3 ?d4 ?d5 ?d6 ?d7 ?d8 ?d9 ?d10 ?d11 ?d12 ?d13 ?d14 ?d15 ?d16 ?d17 ?d18 ?d19 ?d20 ?d21 ?d22 ?d23 ?d24 ?d25 ?d26 ?a27 ?l27 ?c27 ?k27 ?z0 ?z1 ?z2 ?z3 ?z4 ?z5 ?z6 ?z7 ?z8 ?z9 ?z10 ?z11 ?z12 ?z13 ?y_LETTERS ?y_MOST_LETTERS ?y_MOST_PLACES ?y_MOST_RANKED ?qr ?qL ?qN ?qK ?qJ ?xU ?yx ?yC ?yw ?yu ?wa ?qH ?qG ?wI ?wJ ?Qx ?QA
    (case qr | xU => k_is)
    (case d0 | d1 | d2 | d3 | d4 | d5 | d6 | d7 => exact ⟨_, by k_is, ⟨_, _, _, _, _, _, _, _, _, by k_is, by k_is⟩, by k_is⟩)
    (case d8 => exact ⟨_, by k_is, by k_is, ⟨_, _, _, _, _, _, _, _, _, by k_is, by k_is⟩, by k_is⟩)
    (case d9 | d10 | d11 | d12 | d13 | d14 | d15 => exact ⟨_, by k_is, ⟨_, _, _, _, _, _, _, _, _, by k_is, by k_is⟩, by k_is⟩)
    (case d16 | d17 => exact ⟨_, by k_is, by k_is, ⟨_, _, _, _, _, _, _, _, _, by k_is, by k_is⟩, by k_is⟩)
    (case d18 => exact ⟨_, by k_is, ⟨_, _, _, _, _, _, _, _, _, by k_is, by k_is⟩, by k_is⟩)
    (case d19 | d20 | d21 | d22 => exact ⟨_, by k_is, by k_is, ⟨_, _, _, _, _, _, _, _, _, by k_is, by k_is⟩, by k_is⟩)
    (case d23 | d24 | d25 | d26 => exact ⟨_, by k_is, ⟨_, _, _, _, _, _, _, _, _, by k_is, by k_is⟩, by k_is⟩)
    (case a27 | l27 | c27 | k27 | z0 | z1 | z2 | z3 | z4 | z5 | z6 | z7 | z8 | z9 | z10 | z11 | z12 | z13 => k_is)
    (case y_LETTERS | y_MOST_LETTERS | y_MOST_PLACES | y_MOST_RANKED => exact ⟨_, by k_is⟩)
    (case qL | qN | qK | qJ | yx | yC | yw | yu | wa | qH | qG | wI | wJ | Qx | QA => k_is)

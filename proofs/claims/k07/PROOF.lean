import PyProof.Rows.All
import Wide.All
import OpenK.AllK
import Wide.FinOn
import Lean
import PyProof.TupleKey
import PyProof.IsRules
import PyProof.DictKeyH
import PyProof.EqAt
import PyProof.EqKinds
import PyProof.TupleCall
import PyProof.Cells
import PyProof.NeKinds
import KE.IntBitsLaws
import KE.KDictList
import KE.KRevIter
import KE.KSortTup
import KE.KDictSum
import PyProof.EnumMake
import PyProof.EnumFor
import PyProof.LayNew
import PyProof.Rows.EnumRows
import PyProof.SumAny
import PyProof.ListRange
import PyProof.FString5
import PyProof.CollectIter
import PyProof.TupleOfSeq
import PyProof.Rows.Tup
import OpenK.KRaise
import PyProof.StationsW
import KE.KTryMore
import PyProof.NsDelKeeps
import KE.KEqDict
import PyProof.ExcArgs
import PyProof.Draws
import PyProof.ZipIter
import PyProof.Rows.ZipGen
import PyProof.DictWalks
import PyProof.Conv_int_bool
import PyProof.Rows.SeqMore
import PyProof.Rows.SetFrom
import PyProof.SetRoads
import PyProof.MeetsSeq2
import PyProof.FactsAll.NoneType_1
import PyProof.DictFindH
import PyProof.DictRoadsH
import PyProof.AttrMissHeap
import KE.KDictOf
import PyProof.Rows.StrJoin2
import PySem.Challenge.RW_endwise_k07_no_text
open Array renaming length_toList -> abk, getElem?_toList -> ab0
open Bool renaming and_eq_true -> aap, false_ne_true -> aaz, not_false -> aa5, not_true -> abV, eq_iff_iff -> ab1, false_eq_true -> ach, or_eq_true -> acP, not_eq_true -> adf
open False renaming elim -> aba
open ForInStep renaming yield -> acN
open List renaming length_cons -> aab, size_toArray -> aag, length_append -> aai, getElem?_append_right -> aan, getElem?_eq_getElem -> aao, mem_cons_of_mem -> aar, length_nil -> aav, mem_cons -> aaw, getElem?_eq_some_iff -> aax, getElem?_append_left -> aay, mem_cons_self -> aaA, lookup -> aaE, replicate -> aaH, length_map -> aaK, suffix_cons -> aaM, mem_append_right -> aaQ, all_eq_true -> aaT, lookup_cons -> aaU, append_nil -> aaV, getElem?_map -> aaW, append_assoc -> aaX, takeWhile_append_dropWhile -> aaY, getElem?_replicate -> aa3, mem_append -> aa4, getElem?_set_self -> aa7, getElem?_eq_none -> abd, map_cons -> abj, dropWhile_suffix -> abo, mem_append_left -> abr, not_mem_nil -> abt, range -> abu, replicate_succ -> abw, getElem_mem -> abC, suffix_refl -> abD, mem_map -> abL, length -> abN, getElem?_set_ne -> abP, flatten_cons -> abU, getElem?_cons_succ -> abW, lookup_append -> abZ, mem_range -> ab9, filterMap_cons -> acf, mem_filterMap -> acj, nodup_cons -> acm, getElem?_cons_zero -> acn, all_takeWhile -> aco, drop_eq_nil_of_le -> acr, length_singleton -> acy, length_take -> acA, length_drop -> acB, mem_flatMap -> acC, map_append -> acQ, contains_cons -> acU, take_left -> ac0, tail_cons -> ac1, nodup_append -> ac8, length_range -> ac9, all_cons -> adb, cons_append -> ade, foldl -> ado
open Nat renaming le_trans -> aaq, le_refl -> aas, lt_of_lt_of_le -> aat, ne_of_lt -> aa0, lt_irrefl -> abI, lt_succ_self -> ace, zero_le -> acL, le_succ -> acM
open Ne renaming symm -> ab8
open Option renaming isSome_iff_exists -> acg
open Option.some renaming inj -> aaF
open Or renaming inr -> aaI, inl -> aa6
open PyProof.Rows renaming slot_tuple_getitem -> aaP, boot_tuple -> abb, boot_str -> abM, envOfC -> ab7, boot_int -> acz, callWith_type1 -> acJ, boot_isinstance -> acO, AllBare -> ada, ext_toList -> adc
open PySem renaming starEach -> aac, Shared -> aad, sizeLine -> aae, wpAny_bind -> aaf, mainGlobals -> aah, wpAny_pure -> aam, Program -> aaB, boot_len -> aaL, Around -> aaZ, backTo -> aa1, attributeBase -> aa2, strLen_append -> aa8, wpAny_truthy_bool -> abf, keywordEach -> abi, compareOp -> abl, FuncData -> abp, mem_of_lookup -> abv, bootBuiltins -> aby, swapsWith -> abA, assignEach -> abE, Keyword -> abG, binaryOp -> abH, behindInMarks -> abJ, backToKw -> abQ, wpAny_mono -> abR, wpAny_passesOwn -> abS, wpAny_Call_Name_kw -> abX, wpAny_newObj_type -> ab3, wpAny_execs_nil -> aci, foldedSetIterable -> acs, sliceBounds -> acu, Operator -> acv, codeAny_mono -> acw, wpAny_holding -> acG, letOwnedTupleGo -> acI, codeAny -> acX, sysModules -> ac2, wpAny_call -> ac5, call_meets -> ac7, standAt -> adi, holding -> adj
open PySem.Builtin.Int renaming intBits -> abx
open PySem.Builtin.List renaming listTooLong -> abn
open PySem.Builtin.Slice renaming slicePlaces -> abO, sliceAdjust -> aca, sliceApplied -> acR
open PySem.Builtin.Str renaming strSliceIndices -> aal, occurrences -> ack
open PySem.Builtin.Tuple renaming tupleExact -> abT, tupleItemsOf -> acS, tupleHashOf -> acV
open PySem.Calls renaming callWith_builtin -> acq, evalArgs_plain -> acD
open PySem.F renaming excBase_ValueError -> aaO, plainAttrs_list -> abg, slot_list_append -> abq, type_list_append -> abB, slot_list_extend -> acE
open PySem.Heap renaming get?_push_of_some -> aak, lt_size -> aau, get?_push_size -> aaG, SameBut -> acT, size_push -> acZ
open PySem.Heap.TracedAtW renaming there -> adp
open PySem.NameKind renaming free -> ab4, cell -> ab5
open PySem.PassesOwn renaming never -> abe
open PySem.Str renaming ofString -> aaD, length -> ac6
open PySem.Value renaming ref -> aaJ, bool -> ab2, int -> adh, none -> adn
open PySem.W renaming Frag -> aaa, nsIn -> aaj, mg_of -> aaC, keepIn -> aaN, kitOne -> aaR, findIn -> aaS, mg_none_of -> aa9, kia_one -> abh, emptyDict -> abm, instObj -> abF, fnOf -> abK, callWith_K -> abY, excIn -> ab6, kitAny -> acb, plainGet -> acd, makesIn -> acl, codeIn -> acp, hasDictIn -> act, methodCall_KW -> acx, plainGet_of -> acK, lookIn -> acW, looks_findIn -> acY, methodObj -> ac3, plainOver -> ac4, specialIn -> adg, isFn -> adk, takerIn -> adl, OpenLaw -> adm
open PySem.W.Looks renaming ld -> acF
open True renaming intro -> acH
noncomputable section
set_option compiler.extract_closed false
set_option bootstrap.genMatcherCode false
set_option genSizeOfSpec false
set_option Elab.async false
set_option linter.all false
set_option maxRecDepth 100000
set_option maxHeartbeats 4000000
namespace M
open PySem PyProof.Rows
open PySem.SeqAt (EqAt RcAt)
inductive NK where
 |int (i:Int)|str (x:Str)|tup (l:List NK)
noncomputable instance nkDec:DecidableEq NK:=fun _ _=>Classical.propDecidable _
mutual
def NK.at (h:Heap):NK->Value->Prop
 | .int i,v=> ∃t,v= .int i t
 | .str x,v=> ∃t,v= .str x t
 | .tup l,v=> ∃a its,v= .ref a/\IsTup h a its/\NK.ats h l its.toList
def NK.ats (h:Heap):List NK->List Value->Prop
 | [],vs=>vs=[]
 |k::l,vs=> ∃u us,vs=u::us/\NK.at h k u/\NK.ats h l us
end
mutual
def NK.dep:NK->Nat
 | .tup l=>NK.deps l+1
 |_=>0
def NK.deps:List NK->Nat
 | []=>0
 |k::l=>max (NK.dep k) (NK.deps l)
end
mutual
def NK.draws:NK->Nat
 | .tup l=>NK.drawss l+1
 |_=>1
def NK.drawss:List NK->Nat
 | []=>0
 |k::l=>NK.draws k+NK.drawss l
end
mutual
def NK.hash (w:World):NK->Int
 | .int i=>hashInt i
 | .str x=>hashStr w x
 | .tup l=>reduceHash (acV (NK.hashs w l))
def NK.hashs (w:World):List NK->List Int
 | []=>[]
 |k::l=>NK.hash w k::NK.hashs w l
end
def NK.ind {P:NK->Prop} (h1: ∀i,P (.int i)) (h2: ∀x,P (.str x)) (h3: ∀l,(∀k∈l,P k)->P (.tup l)) (k:NK):P k:=
 NK.rec (motive_1:=P) (motive_2:=fun l=> ∀k∈l,P k) h1 h2 h3 (fun _ h=>by cases h) (fun k l hk hl q hq=>by
  rcases aaw.mp hq with e|e
  · rw [e];exact hk
  · exact hl q e) k
def at_int {h:Heap} {i:Int} {v:Value}:NK.at h (.int i) v↔ ∃t,v= .int i t:=by simp only [NK.at]
def at_str {h:Heap} {x:Str} {v:Value}:NK.at h (.str x) v↔ ∃t,v= .str x t:=by simp only [NK.at]
def at_tup {h:Heap} {l:List NK} {v:Value}:NK.at h (.tup l) v↔ ∃a its,v= .ref a/\IsTup h a its/\NK.ats h l its.toList:=by simp only [NK.at]
def ats_nil {h:Heap} {vs:List Value}:NK.ats h [] vs↔vs=[]:=by simp only [NK.ats]
def ats_cons {h:Heap} {k:NK} {l:List NK} {vs:List Value}:NK.ats h (k::l) vs↔ ∃u us,vs=u::us/\NK.at h k u/\NK.ats h l us:=by simp only [NK.ats]
theorem QB {h:Heap}: ∀ {l:List NK} {vs:List Value},NK.ats h l vs->vs.length=l.length
 | [],vs,x=>by rw [ats_nil.mp x];rfl
 |k::l,vs,x=>by
  obtain ⟨u,us,rfl,_,y⟩:=ats_cons.mp x;rw [aab,aab,QB y]
theorem QC {h:Heap}: ∀ {l:List NK} {vs:List Value} {j:Nat} {k:NK} {u:Value},NK.ats h l vs->l[j]?=some k->vs[j]?=some u->NK.at h k u
 | [],vs,j,k,u,x,hk,hu=>by cases hk
 |k'::l,vs,j,k,u,x,hk,hu=>by
  obtain ⟨u',us,rfl,hx,y⟩:=ats_cons.mp x
  cases j with
  |zero=>cases hk;cases hu;exact hx
  |succ j=>exact QC y hk hu
theorem Z7 {k:NK}: ∀ {l:List NK},k∈l->NK.dep k<=NK.deps l
 | [],h=>by cases h
 |k'::l,h=>by
  simp only [NK.deps];rcases aaw.mp h with e|e
  · rw [e];omega
  · have:=Z7 e;omega
def uZ {h:Heap} (x:NK): ∀(y:NK) (v:Value),NK.at h x v->NK.at h y v->x=y:=by
 induction x using NK.ind with
 |h1 i=>
  intro y v hx hy;obtain ⟨t,rfl⟩:=at_int.mp hx
  cases y with
  |int j=>obtain ⟨t',e⟩:=at_int.mp hy;cases e;rfl
  |str z=>obtain ⟨t',e⟩:=at_str.mp hy;cases e
  |tup l=>obtain ⟨a,its,e,_⟩:=at_tup.mp hy;cases e
 |h2 z=>
  intro y v hx hy;obtain ⟨t,rfl⟩:=at_str.mp hx
  cases y with
  |int j=>obtain ⟨t',e⟩:=at_int.mp hy;cases e
  |str z=>obtain ⟨t',e⟩:=at_str.mp hy;cases e;rfl
  |tup l=>obtain ⟨a,its,e,_⟩:=at_tup.mp hy;cases e
 |h3 l ih=>
  intro y v hx hy;obtain ⟨a,its,rfl,⟨o,ho,_,n,hd⟩,hl⟩:=at_tup.mp hx
  cases y with
  |int j=>obtain ⟨t',e⟩:=at_int.mp hy;cases e
  |str z=>obtain ⟨t',e⟩:=at_str.mp hy;cases e
  |tup m=>
   obtain ⟨a',its',e,⟨o',ho',_,n',hd'⟩,hm⟩:=at_tup.mp hy;cases e;rw [ho] at ho';cases ho';rw [hd] at hd';cases hd';congr 1;apply List.ext_getElem?;intro j;have e1:=QB hl;have e2:=QB hm
   by_cases hj:j<l.length
   · have hj2:j<m.length:=by omega
     have hj3:j<its.toList.length:=by omega
     rw [aao hj,aao hj2];congr 1;exact ih _ (abC hj) _ _ (QC hl (aao hj) (aao hj3)) (QC hm (aao hj2) (aao hj3))
   · rw [abd (by omega),abd (by omega)]
theorem uY {h h':Heap}: ∀ {l:List NK} {vs:List Value},(∀k∈l,∀v,NK.at h k v->NK.at h' k v)->NK.ats h l vs->NK.ats h' l vs
 | [],vs,_,x=>ats_nil.mpr (ats_nil.mp x)
 |k::l,vs,f,x=>by
  obtain ⟨u,us,e,hx,y⟩:=ats_cons.mp x;exact ats_cons.mpr ⟨u,us,e,f k aaA u hx,uY (fun q hq=>f q (aar _ hq)) y⟩
def jbD {h h':Heap} (ht: ∀a its,IsTup h a its->IsTup h' a its) (k:NK): ∀v,NK.at h k v->NK.at h' k v:=by
 induction k using NK.ind with
 |h1 i=>exact fun v x=>at_int.mpr (at_int.mp x)
 |h2 z=>exact fun v x=>at_str.mpr (at_str.mp x)
 |h3 l ih=>
  intro v x;obtain ⟨a,its,e,t,y⟩:=at_tup.mp x;exact at_tup.mpr ⟨a,its,e,ht a its t,uY ih y⟩
def Zl {s:aad} {a:Addr} {its:Array Value} (h:IsTup s.heap a its):s.TypeIs (.ref a) "tuple" :=let ⟨o,ho,hc,_⟩:=h;⟨o,ho,hc⟩
section
variable {prog:aaB} {w:World}
def jaK (k:NK): ∀(A:aaZ) (E:Value->aad->Prop) (s:aad) (v:Value) (Q:Int->aad->Prop),NK.at s.heap k v->A.units+k.dep<cLine->Q (k.hash w) {s with toks:=s.toks+k.draws}->wpAny (model prog w) A (pyHash v) Q E s:=by
 induction k using NK.ind with
 |h1 i=>
  intro A E s v Q x hu q;obtain ⟨t,rfl⟩:=at_int.mp x;simp only [NK.hash,NK.draws] at q;exact wpAny_pyHash_int q
 |h2 z=>
  intro A E s v Q x hu q;obtain ⟨t,rfl⟩:=at_str.mp x;simp only [NK.hash,NK.draws] at q;exact wpAny_pyHash_str q
 |h3 l ih=>
  intro A E s v Q x hu q;obtain ⟨a,its,rfl,t,y⟩:=at_tup.mp x;simp only [NK.dep] at hu;simp only [NK.hash,NK.draws] at q;obtain ⟨o,ho,hc,n,hd⟩:=id t;show wpAny _ _ (pyHashByItsType (.ref a)) _ _ s;refine PySem.W.pyHash_slot (Zl t) F.slot_tuple_hash F.entry_tuple_hash (F.args_tuple_hash_1 _) (by decide) (.inr (by omega)) ?_;unfold Builtin.«tuple.__hash__»;refine aaf (aam (aaf (wpAny_tupleItemsOf ho hd (aaf ?_))));rw [←Array.forIn_toList];refine wpAny_forIn_list _ (fun rest r s'=> ∃done rl,done++rl=l/\NK.ats s.heap rl rest/\r=(NK.hashs w done).toArray/\s'={s with toks:=s.toks+NK.drawss done}) _ ?_ ?_ _ _ ⟨[],l,rfl,y,rfl,rfl⟩
  · rintro u rest r s' ⟨done,rl,hl,ha,rfl,rfl⟩
    cases rl with
    |nil=>have:=ats_nil.mp ha;cases this
    |cons k' rl=>
     obtain ⟨u',us,e,hu1,hu2⟩:=ats_cons.mp ha;obtain ⟨rfl,rfl⟩:=List.cons.inj e;have hm:k'∈l:=by rw [←hl];simp
     have hdep:=Z7 hm;refine aaf (ih k' hm A.in1 E {s with toks:=s.toks+NK.drawss done} u _ hu1 (by show A.units+1+k'.dep<cLine;omega) ?_);refine aam ⟨done++[k'],rl,by simp [hl],hu2,?_,?_⟩
     · have: ∀d:List NK,NK.hashs w (d++[k'])=NK.hashs w d++[k'.hash w]:=fun d=>by
        induction d with
        |nil=>simp [NK.hashs]
        |cons b d ihd=>simp [NK.hashs,ihd]
       rw [this];simp
     · have: ∀d:List NK,NK.drawss (d++[k'])=NK.drawss d+k'.draws:=fun d=>by
        induction d with
        |nil=>simp [NK.drawss]
        |cons b d ihd=>simp [NK.drawss,ihd];omega
       rw [this,Nat.add_assoc]
  · rintro r s' ⟨done,rl,hl,ha,rfl,rfl⟩
    have e0:rl=[]:=by
     cases rl with
     |nil=>rfl
     |cons k' rl=>obtain ⟨_,_,e,_⟩:=ats_cons.mp ha;cases e
    subst e0;rw [aaV] at hl;subst hl;show wpAny _ _ (do ret (←mkInt (acV (NK.hashs w done).toArray.toList))) _ _ _;refine abR (wpAny_ret_mkInt (Q:=fun v s'=> ∃n t,v= .int n t/\Q (reduceHash n) s') ?_) (fun fin s' ⟨v,e,n,t,e2,q⟩=>⟨n,t,by rw [e,e2],q⟩) (fun _ _ x=>x);refine ⟨_,_,rfl,?_⟩;simpa [Nat.add_assoc] using q
end
def kE {α:Type} [BEq α] [LawfulBEq α] {β:Type} {f:α->β} (hf: ∀a b,f a=f b->a=b) (a b:α) [Decidable (f a=f b)]:(a==b)=decide (f a=f b):=by
 by_cases h:a=b
 · subst h;simp
 · rw [decide_eq_false (fun e=>h (hf _ _ e))];simpa using h
def jdJ {s:aad} (x:NK): ∀(A:aaZ) (y:NK) (u v:Value),NK.at s.heap x u->NK.at s.heap y v->A.units+x.dep<cLine->EqAt A s u v (decide (x=y)):=by
 induction x using NK.ind with
 |h1 i=>
  intro A y u v hx hy hu;obtain ⟨t,rfl⟩:=at_int.mp hx;simp only [NK.dep] at hu
  cases y with
  |int j=>
   obtain ⟨t',rfl⟩:=at_int.mp hy;rw [←kE (f:=NK.int) (fun a b e=>by cases e;rfl)];exact EqAt.int_int _ _ _ _
  |str z=>obtain ⟨t',rfl⟩:=at_str.mp hy;rw [decide_eq_false (by intro e;cases e)];exact EqAt.int_str _ _ _ _
  |tup l=>obtain ⟨a,its,rfl,p,_⟩:=at_tup.mp hy;rw [decide_eq_false (by intro e;cases e)];exact EqAt.int_tuple _ _ p (by omega)
 |h2 z=>
  intro A y u v hx hy hu;obtain ⟨t,rfl⟩:=at_str.mp hx;simp only [NK.dep] at hu
  cases y with
  |int j=>obtain ⟨t',rfl⟩:=at_int.mp hy;rw [decide_eq_false (by intro e;cases e)];exact EqAt.str_int _ _ _ _
  |str z'=>
   obtain ⟨t',rfl⟩:=at_str.mp hy;rw [←kE (f:=NK.str) (fun a b e=>by cases e;rfl)];exact EqAt.str_str _ _ _ _
  |tup l=>obtain ⟨a,its,rfl,p,_⟩:=at_tup.mp hy;rw [decide_eq_false (by intro e;cases e)];exact EqAt.str_tuple _ _ p (by omega)
 |h3 l ih=>
  intro A y u v hx hy hu;obtain ⟨a,its,rfl,p,hl⟩:=at_tup.mp hx;simp only [NK.dep] at hu
  cases y with
  |int j=>obtain ⟨t',rfl⟩:=at_int.mp hy;rw [decide_eq_false (by intro e;cases e)];exact EqAt.tuple_int _ _ p (by omega)
  |str z'=>obtain ⟨t',rfl⟩:=at_str.mp hy;rw [decide_eq_false (by intro e;cases e)];exact EqAt.tuple_str _ _ p (by omega)
  |tup m=>
   obtain ⟨a',its',rfl,p',hm⟩:=at_tup.mp hy
   by_cases z:a=a'
   · subst z;rw [decide_eq_true (uZ _ _ _ hx hy)];exact EqAt.same _
   · have l1:=QB hl;have l2:=QB hm
     have q:=RcAt.tuples (A:=A) (e:=fun j=>decide (l[j]?=m[j]?)) p p' (by omega) (fun j h1 h2=>by
      have j1:j<l.length:=by rw [←l1,abk];exact h1
      have j2:j<m.length:=by rw [←l2,abk];exact h2
      have g1:its.toList[j]?=some its[j]:=by rw [ab0];exact Array.getElem?_eq_getElem h1
      have g2:its'.toList[j]?=some its'[j]:=by rw [ab0];exact Array.getElem?_eq_getElem h2
      have hd:=Z7 (abC j1);have:=ih l[j] (abC j1) A.in1 m[j] its[j] its'[j] (QC hl (aao j1) g1) (QC hm (aao j2) g2) (by show A.units+1+l[j].dep<cLine;omega);rw [aao j1,aao j2]
      simpa using this)
     have e:((abu (min its.size its'.size)).all (fun j=>decide (l[j]?=m[j]?))&&its.size==its'.size)=decide (NK.tup l=NK.tup m):=by
      rw [←abk,←abk,l1,l2];rw [ab1,aap,aaT,decide_eq_true_iff]
      constructor
      · rintro ⟨h1,h2⟩;have hlen:l.length=m.length:=by simpa using h2
        congr 1;apply List.ext_getElem?;intro j
        by_cases hj:j<l.length
        · simpa using h1 j (ab9.mpr (by omega))
        · rw [abd (by omega),abd (by omega)]
      · intro h;cases h;exact ⟨fun j _=>by simp,by simp⟩
     rw [←e];exact EqAt.of_refs z q
section
variable {prog:aaB} {w:World} {A:aaZ} {E:Value->aad->Prop} {s:aad}
def vD (k:NK): ∀(n:Nat) (v:Value) (Q:Bool->aad->Prop),NK.at s.heap k v->k.dep<=n->Q true s->wpAny (model prog w) A (eqIsQuiet n v) Q E s:=by
 induction k using NK.ind with
 |h1 i=>intro n v Q x _ q;obtain ⟨t,rfl⟩:=at_int.mp x;cases n<;>exact aam q
 |h2 z=>intro n v Q x _ q;obtain ⟨t,rfl⟩:=at_str.mp x;cases n<;>exact aam q
 |h3 l ih=>
  intro n v Q x hn q;obtain ⟨a,its,rfl,p,hl⟩:=at_tup.mp x;simp only [NK.dep] at hn;obtain ⟨n,rfl⟩: ∃m,n=m+1:=⟨n-1,by omega⟩
  obtain ⟨o,ho,hc,nn,hd⟩:=id p;rw [eqIsQuiet.eq_def];refine aaf (wpAny_specialOf (Zl p) F.slot_tuple_eq.lookup ?_);dsimp only;refine aaf (wpAny_isInstance (b:=true) (Zl p) (by first|rfl|decide|exact isSubtype_type "tuple" _) ?_);simp only [abV,ach,if_false];refine aaf (wpAny_seqItems ho hd (aaf ?_));simp only [Option.getD_some];rw [←Array.forIn_toList];refine wpAny_forIn_list _ (fun rest r s'=>r=(none,())/\s'=s/\ ∃rl,NK.ats s.heap rl rest/\ ∀k∈rl,k∈l) _ ?_ ?_ _ _ ⟨rfl,rfl,l,hl,fun _ h=>h⟩
  · rintro u rest r s' ⟨rfl,rfl,rl,ha,hs⟩
    cases rl with
    |nil=>have:=ats_nil.mp ha;cases this
    |cons k' rl=>
     obtain ⟨u',us,e,hu1,hu2⟩:=ats_cons.mp ha;obtain ⟨rfl,rfl⟩:=List.cons.inj e;have hm:=hs k' aaA;have hdp:=Z7 hm;refine aaf (ih k' hm n u _ hu1 (by omega) ?_);simp only [abV,ach,if_false];exact aam ⟨rfl,rfl,rl,hu2,fun q hq=>hs q (aar _ hq)⟩
  · rintro r s' ⟨rfl,rfl,_⟩;exact aam q
end
noncomputable def nkKind (prog:aaB) (w:World):HeapKind prog w NK where
 is:=fun h k a=>NK.at h k (.ref a)/\k.dep<=8
 hash:=NK.hash w
 draws:=NK.draws
 room:=fun A=>A.units+8<cLine
 inj:=fun x y=>uZ _ _ _ x.1 y.1
 keeps:=fun {h h' k a d o es ep} x ho hd hs=>⟨jbD (fun b its ⟨ob,hb,hc,n,hdb⟩=>⟨ob,hs.extBut b ob (fun z=>by
  subst z;rw [ho] at hb;cases hb
  rw [hd] at hdb;cases hdb) hb,hc,n,hdb⟩) k _ x.1,x.2⟩
 pyHash:=fun {A E s k a Q} hr x q=>jaK k A E s _ Q x.1 (by have:=x.2;omega) q
 eqBool:=fun {A E s x y a b Q} hr hx hy q=>jdJ x A y _ _ hx.1 hy.1 (by have:=hx.2;omega) _ _ _ _ q
 quiet:=fun {A E s k a Q} x q=>vD k 8 _ Q x.1 x.2 q
end M
section
open PySem
abbrev Zu (x:Str):Prop:=(x==("__debug__" :Str))=false
abbrev Zt (x:Str):Prop:=(x==("__classdict__" :Str))=false
abbrev Yq:=Str->Option Value
abbrev Xl:=Addr->Prop
abbrev Xk:=Value->aad->Prop
theorem T9 {l:List Str} (h:l.Nodup:=by decide+kernel):l.Nodup:=h
end
namespace L2
open PySem PySem.Spec PyProof.Rows
abbrev Key:=Sum Int Str
def jcL:Key->Value->Bool
 | .inl k,v=>Value.isInt k v
 | .inr x,v=>Value.isStrOf x v
def keyH (w:World):Key->Int
 | .inl k=>hashInt k
 | .inr x=>hashStr w x
theorem qp: ∀ {k:Key} {v:Value},jcL k v=true->(∃i t,k=Sum.inl i/\v=adh i t)\/(∃x t,k=Sum.inr x/\v=Value.str x t)
 | .inl i,v,h=>by
  obtain ⟨t,e⟩:=Value.isInt_shape (k:=i) (v:=v) h;exact .inl ⟨i,t,rfl,e⟩
 | .inr x,v,h=>by
  obtain ⟨t,e⟩:=Value.isStrOf_shape (x:=x) (v:=v) h;exact .inr ⟨x,t,rfl,e⟩
def jcK (a b:Int):decide ((Sum.inl a:Key)=Sum.inl b)=(a==b):=by
 by_cases e:a=b
 · subst e;simp
 · have h: ¬(Sum.inl a:Key)=Sum.inl b:=fun q=>e (Sum.inl.inj q)
   rw [decide_eq_false h];exact (beq_eq_false_iff_ne.mpr e).symm
def jcH (a b:Str):decide ((Sum.inr a:Key)=Sum.inr b)=decide (a=b):=by
 by_cases e:a=b
 · subst e;simp
 · have h: ¬(Sum.inr a:Key)=Sum.inr b:=fun q=>e (Sum.inr.inj q)
   rw [decide_eq_false h,decide_eq_false e]
def jcJ (a:Int) (b:Str):decide ((Sum.inl a:Key)=Sum.inr b)=false:=decide_eq_false (fun q=>nomatch q)
def jcI (a:Str) (b:Int):decide ((Sum.inr a:Key)=Sum.inl b)=false:=decide_eq_false (fun q=>nomatch q)
def XH (prog:aaB) (w:World):PySem.KeyKind prog w Key where
 is:=jcL
 hash:=keyH w
 inj:=fun v a b ha hb=>by
  rcases qp ha with ⟨i,t,rfl,rfl⟩| ⟨x,t,rfl,rfl⟩
  · rcases qp hb with ⟨j,u,rfl,e⟩| ⟨y,u,rfl,e⟩
    · injection e with e1 _;rw [e1]
    · exact nomatch e
  · rcases qp hb with ⟨j,u,rfl,e⟩| ⟨y,u,rfl,e⟩
    · exact nomatch e
    · injection e with e1 _;rw [e1]
 byValue:=fun k v h=>by
  rcases qp h with ⟨i,t,rfl,rfl⟩| ⟨x,t,rfl,rfl⟩<;>rfl
 pyHash:=fun hv h=>by
  rcases qp hv with ⟨i,t,rfl,rfl⟩| ⟨x,t,rfl,rfl⟩
  · exact wpAny_pyHash_int h
  · exact wpAny_pyHash_str h
 eqBool:=fun hu hv h=>by
  rcases qp hu with ⟨i,t,rfl,rfl⟩| ⟨x,t,rfl,rfl⟩
  · rcases qp hv with ⟨j,u,rfl,rfl⟩| ⟨y,u,rfl,rfl⟩
    · rw [jcK] at h;exact wpAny_eqBool_int h
    · rw [jcJ] at h;exact SeqAt.EqAt.int_str i t y u _ _ _ _ h
  · rcases qp hv with ⟨j,u,rfl,rfl⟩| ⟨y,u,rfl,rfl⟩
    · rw [jcI] at h;exact SeqAt.EqAt.str_int x t j u _ _ _ _ h
    · rw [jcH] at h;exact wpAny_eqBool_str h
 «strs» :=fun k x t v h=>by
  rcases qp h with ⟨i,u,rfl,e⟩| ⟨y,u,rfl,e⟩
  · exact nomatch e
  · injection e with e1 _;subst e1;cases v<;>rfl
inductive V where
 |non|bl (b:Bool)|int (i:Int)|str (x:Str)|byt (b:Array UInt8)|flt (b:UInt64)|ref (a:Addr)|ty (n:String)
 deriving DecidableEq
def RelV:V->Value->Prop
 | .non,u=>u=adn
 | .bl b,u=>u=ab2 b
 | .int i,u=> ∃t,u=adh i t
 | .str x,u=> ∃t,u=Value.str x t
 | .byt b,u=> ∃t,u=Value.bytes b t
 | .flt b,u=> ∃t,u=Value.float b t
 | .ref a,u=>u=aaJ a
 | .ty n,u=>u=Value.type n
abbrev Vals:List V->List Value->Prop:=Paired RelV
def Vals.length {xs:List V} {us:List Value} (r:Vals xs us):xs.length=us.length:=Paired.length r
theorem Vals.get: ∀ {xs:List V} {us:List Value} {i:Nat} {x:V},Vals xs us->xs[i]?=some x-> ∃u,us[i]?=some u/\RelV x u
 |_,_,_,_,.nil,e=>by simp at e
 |_,_,0,_,.cons r _,e=>by simp at e;subst e;exact ⟨_,rfl,r⟩
 |_,_,i+1,x,.cons _ t,e=>by
  obtain ⟨u,h1,h2⟩:=Vals.get (i:=i) (x:=x) t (by simpa using e);exact ⟨u,by simpa using h1,h2⟩
theorem Vals.append: ∀ {xs ys:List V} {us ws:List Value},Vals xs us->Vals ys ws->Vals (xs++ys) (us++ws)
 |_,_,_,_,.nil,s=>s
 |_,_,_,_,.cons r t,s=> .cons r (Vals.append t s)
theorem Vals.take: ∀ {xs:List V} {us:List Value} (n:Nat),Vals xs us->Vals (xs.take n) (us.take n)
 |_,_,0,_=> .nil
 |_,_,_+1,.nil=> .nil
 |_,_,n+1,.cons r t=> .cons r (Vals.take n t)
theorem Vals.drop: ∀ {xs:List V} {us:List Value} (n:Nat),Vals xs us->Vals (xs.drop n) (us.drop n)
 |_,_,0,r=>r
 |_,_,_+1,.nil=> .nil
 |_,_,n+1,.cons _ t=>Vals.drop n t
def RelO:Option V->Option Value->Prop
 |some v,some u=>RelV v u
 |none,none=>True
 |_,_=>False
def KV {κ:Type}:List (κ×V)->List (κ×Value)->Prop:=Paired fun (p:κ×V) (q:κ×Value)=>p.1=q.1/\RelV p.2 q.2
def kV:Key->V
 | .inl i=> .int i
 | .inr x=> .str x
inductive HO where
 |lst (xs:List V)
 |tup (xs:List V)
 |dK (kvs:List (Key×V))|dT (kvs:List (List Key×V))
 |set (S:Int->Bool) (n:Nat)
 |ins (C dx:Addr) (fs:List (Str×V))
 |own (x:Addr)
 |xd (fs:List (Str×V))
 |met (f x:Addr)
 |rng (lo hi:Int)
 |frz (o:Obj) (u:HO)
 |tbl (ps:Array Value)
 |ext (φ:Heap->Prop)
 |memo (B:List M.NK) (Φ:M.NK->Option M.NK->Prop)
 |nst (rs:List (Addr×List V))
abbrev Hp:=Addr->Option HO
def upd (H:Hp) (a:Addr) (o:HO):Hp:=fun b=>if b=a then some o else H b
def jo {H:Hp} {a:Addr} {o:HO}:upd H a o a=some o:=by unfold upd;rw [if_pos rfl]
def jr {H:Hp} {a b:Addr} {o:HO} (h:b≠a):upd H a o b=H b:=by unfold upd;rw [if_neg h]
def Vd {H:Hp} {a:Addr} {o u:HO}:upd (upd H a o) a u=upd H a u:=by
 funext b;unfold upd;split<;>rfl
def jM {H:Hp} {a b:Addr} {o:HO} (h:H a=some o) (h':H b=none):a≠b:=by
 intro e;subst e;rw [h] at h';cases h'
mutual
def NkH (H:Hp):M.NK->V->Prop
 | .int i,v=>v= .int i
 | .str x,v=>v= .str x
 | .tup l,v=> ∃b vs,v= .ref b/\H b=some (.tup vs)/\NkHs H l vs
def NkHs (H:Hp):List M.NK->List V->Prop
 | [],vs=>vs=[]
 |k::l,vs=> ∃u us,vs=u::us/\NkH H k u/\NkHs H l us
end
def NvH (H:Hp):Option M.NK->V->Prop
 |none,v=>v= .non
 |some k,v=>NkH H k v
theorem NkHs.mono {H H':Hp}: ∀ {l:List M.NK} {vs:List V},(∀k∈l,∀v,NkH H k v->NkH H' k v)->NkHs H l vs->NkHs H' l vs
 | [],vs,_,x=>by simp only [NkHs] at x ⊢;exact x
 |k::l,vs,f,x=>by
  simp only [NkHs] at x ⊢;obtain ⟨u,us,e,hx,y⟩:=x;exact ⟨u,us,e,f k aaA u hx,NkHs.mono (fun q hq=>f q (aar _ hq)) y⟩
def NkH.mono {H H':Hp} (ht: ∀b xs,H b=some (.tup xs)->H' b=some (.tup xs)) (k:M.NK): ∀v,NkH H k v->NkH H' k v:=by
 induction k using M.NK.ind with
 |h1 i=>intro v x;simp only [NkH] at x ⊢;exact x
 |h2 z=>intro v x;simp only [NkH] at x ⊢;exact x
 |h3 l ih=>
  intro v x;simp only [NkH] at x ⊢;obtain ⟨b,vs,e,hb,y⟩:=x;exact ⟨b,vs,e,ht b vs hb,NkHs.mono ih y⟩
def NvH.mono {H H':Hp} (ht: ∀b xs,H b=some (.tup xs)->H' b=some (.tup xs)) {k:Option M.NK} {v:V} (x:NvH H k v):NvH H' k v:=by
 cases k with
 |none=>exact x
 |some k=>exact NkH.mono ht k v x
section
variable (P:aaB) (w:World)
def ObjOk (H:Hp) (h:Heap) (a:Addr):HO->Prop
 | .lst xs=>xs.length<=aae/\ ∃(its:List Value) (n:Nat),Vals xs its/\h.get? a=some {cls:= .type "list",data:= .seq its.toArray n}
 | .tup xs=>xs.length<=aae/\ ∃its:List Value,Vals xs its/\IsTup h a its.toArray
 | .dK kvs=>kvs.length<=aae/\(a==ac2)=false/\ ∃vs,KV kvs vs/\h.DictOf (XH P w) a vs
 | .dT kvs=>kvs.length<=aae/\(a==ac2)=false/\ ∃xs:List (List Key×Addr×Value),
  Paired (fun (p:List Key×V) (q:List Key×Addr×Value)=>p.1=q.1/\H q.2.1=some (.tup (p.1.map kV))/\RelV p.2 q.2.2) kvs xs/\
  ∃o es ep,h.get? a=some o/\o.ExactDict/\o.data= .dict es ep/\es.toList=xs.map (entryOfKey (tupleKind (XH P w)))/\(xs.map (·.1)).Nodup
 | .set S n=>h.SetOf (intKind P w) a S n
 | .ins C dx fs=>H dx=some (.own a)/\fs.length<=1000/\dx≠a/\h.get? a=some (abF C dx)/\
  ∃mA,h.Ns1 dx mA/\(∀f,RelO (fs.lookup f) (mA f))/\PySem.Within mA (fs.map (·.1))
 | .own _=> ∃o,h.get? a=some o
 | .xd fs=> ∃mA,h.Ns1 a mA/\ ∀f,RelO (fs.lookup f) (mA f)
 | .rng lo hi=> ∃t u v,h.get? a=some {cls:= .type "range",data:= .fields #[.int lo t,.int hi u,.int 1 v]}
 | .frz o u=>h.get? a=some o/\ObjOk H h a u
 | .tbl ps=>h.get? a=some {cls:= .none,data:= .fields ps}
 | .met f x=>h.get? a=some (ac3 (.ref f) (.ref x))
 | .ext φ=>φ h/\(∃o,h.get? a=some o)/\ ∀h1 h2:Heap,φ h1->(∀o,h1.get? a=some o->h2.get? a=some o)->φ h2
 | .memo B Φ=>B.length<aae/\(a==ac2)=false/\ ∃xs:List (M.NK×Addr×Value),(∀x∈xs,x.1∈B/\NkH H x.1 (.ref x.2.1)/\x.1.dep<=8/\ ∃v nv,RelV v x.2.2/\NvH H nv v/\Φ x.1 nv)/\
  ∃o es ep,h.get? a=some o/\o.ExactDict/\o.data= .dict es ep/\es.toList=xs.map (entryOfKey (M.nkKind P w))/\(xs.map (·.1)).Nodup
 | .nst rs=>rs.length<=aae/\(rs.map (·.1)).Nodup/\(∃n,h.get? a=some {cls:= .type "list",data:= .seq (rs.map fun r=>aaJ r.1).toArray n})/\
  ∀r∈rs,r.1≠a/\H r.1=some (.own a)/\r.2.length<=aae/\ ∃(its:List Value) (n:Nat),Vals r.2 its/\h.get? r.1=some {cls:= .type "list",data:= .seq its.toArray n}
def HOk (H:Hp) (h:Heap):Prop:= ∀a o,H a=some o->ObjOk P w H h a o
end
section
variable {P:aaB} {w:World} {H H':Hp} {h h':Heap} {a:Addr} {o:HO}
def ObjOk.lt (x:ObjOk P w H h a o):a<h.objs.size:=by
 cases o with
 |lst xs=>obtain ⟨_,_,_,_,e⟩:=x;exact aau e
 |tup xs=>obtain ⟨_,_,_,p⟩:=x;exact p.lt
 |dK kvs=>obtain ⟨_,_,_,_,o,_,_,e,_⟩:=x;exact aau e
 |dT kvs=>obtain ⟨_,_,_,_,o,_,_,e,_⟩:=x;exact aau e
 |set S n=>obtain ⟨o,_,_,_,e,_⟩:=x;exact aau e
 |ins C dx fs=>obtain ⟨_,_,_,e,_⟩:=x;exact aau e
 |own y=>obtain ⟨_,e⟩:=x;exact aau e
 |xd fs=>obtain ⟨_,⟨_,_,_,e,_⟩,_⟩:=x;exact aau e
 |rng lo hi=>obtain ⟨_,_,_,e⟩:=x;exact aau e
 |frz ob u=>obtain ⟨e,_⟩:=x;exact aau e
 |tbl ps=>exact aau (show h.get? a=some _ from x)
 |met f y=>exact aau (show h.get? a=some _ from x)
 |ext φ=>obtain ⟨_,⟨_,e⟩,_⟩:=x;exact aau e
 |memo B Φ=>obtain ⟨_,_,_,_,o,_,_,e,_⟩:=x;exact aau e
 |nst rs=>obtain ⟨_,_,⟨_,e⟩,_⟩:=x;exact aau e
theorem Paired.mapP {α β:Type} {F G:α->β->Prop}: ∀ {l₁:List α} {l₂:List β},Paired F l₁ l₂->(∀a b,F a b->G a b)->Paired G l₁ l₂
 |_,_,.nil,_=> .nil
 |_,_,.cons r t,f=> .cons (f _ _ r) (Paired.mapP t f)
def ObjOk.stay (x:ObjOk P w H h a o) (k: ∀b u,(b=a\/H b=some (.own a))->h.get? b=some u->h'.get? b=some u)
  (ho: ∀b,H b=some (.own a)->H' b=some (.own a)) (ht: ∀b xs,H b=some (.tup xs)->H' b=some (.tup xs)):ObjOk P w H' h' a o:=by
 induction o with
 |lst xs=>obtain ⟨z,its,n,r,e⟩:=x;exact ⟨z,its,n,r,k _ _ (.inl rfl) e⟩
 |tup xs=>obtain ⟨z,its,r,ob,e,c⟩:=x;exact ⟨z,its,r,ob,k _ _ (.inl rfl) e,c⟩
 |dK kvs=>obtain ⟨z,y,vs,r,ob,es,ep,e,c⟩:=x;exact ⟨z,y,vs,r,ob,es,ep,k _ _ (.inl rfl) e,c⟩
 |nst rs=>
  obtain ⟨z,nd,⟨n,e⟩,pr⟩:=x;exact ⟨z,nd,⟨n,k _ _ (.inl rfl) e⟩,fun q hq=>let ⟨h1,h2,h3,its,m,r,e2⟩:=pr q hq;⟨h1,ho _ h2,h3,its,m,r,k _ _ (.inr h2) e2⟩⟩
 |dT kvs=>
  obtain ⟨z,y,xs,r,ob,es,ep,e,c⟩:=x;exact ⟨z,y,xs,Paired.mapP r fun p q z=>⟨z.1,ht _ _ z.2.1,z.2.2⟩,ob,es,ep,k _ _ (.inl rfl) e,c⟩
 |set S n=>obtain ⟨ob,es,ep,t,e,c⟩:=x;exact ⟨ob,es,ep,t,k _ _ (.inl rfl) e,c⟩
 |ins C dx fs=>
  obtain ⟨d,z,ne,e,mA,⟨od,es,ep,e2,c⟩,r⟩:=x;exact ⟨ho _ d,z,ne,k _ _ (.inl rfl) e,mA,⟨od,es,ep,k _ _ (.inr d) e2,c⟩,r⟩
 |own y=>obtain ⟨ob,e⟩:=x;exact ⟨ob,k _ _ (.inl rfl) e⟩
 |xd fs=>obtain ⟨mA,⟨od,es,ep,e,c⟩,r⟩:=x;exact ⟨mA,⟨od,es,ep,k _ _ (.inl rfl) e,c⟩,r⟩
 |rng lo hi=>obtain ⟨t,u,v,e⟩:=x;exact ⟨t,u,v,k _ _ (.inl rfl) e⟩
 |frz ob u ih=>obtain ⟨e,q⟩:=x;exact ⟨k _ _ (.inl rfl) e,ih q⟩
 |tbl ps=>
  have e:h.get? a=some {cls:= .none,data:= .fields ps}:=x;show h'.get? a=some {cls:= .none,data:= .fields ps};exact k a _ (.inl rfl) e
 |met f y=>
  have e:h.get? a=some (ac3 (.ref f) (.ref y)):=x;show h'.get? a=some (ac3 (.ref f) (.ref y));exact k a _ (.inl rfl) e
 |ext φ=>obtain ⟨p,⟨o,e⟩,st⟩:=x;exact ⟨st _ _ p fun o q=>k _ _ (.inl rfl) q,⟨o,k _ _ (.inl rfl) e⟩,st⟩
 |memo B Φ=>
  obtain ⟨z,y,xs,r,ob,es,ep,e,c⟩:=x;exact ⟨z,y,xs,fun q hq=>let ⟨b1,b2,b3,v,nv,b4,b5,b6⟩:=r q hq;⟨b1,NkH.mono ht _ _ b2,b3,v,nv,b4,NvH.mono ht b5,b6⟩,ob,es,ep,k _ _ (.inl rfl) e,c⟩
def HOk.lt (x:HOk P w H h) (e:H a=some o):a<h.objs.size:=(x a o e).lt
def HOk.fresh (x:HOk P w H h) (e:h.objs.size<=a):H a=none:=by
 cases q:H a with
 |none=>rfl
 |some u=>exact absurd (aat (x.lt q) e) (abI _)
def HOk.kept (x:HOk P w H h) (k: ∀b u,h.get? b=some u->h'.get? b=some u):HOk P w H h':=fun a o e=>
 (x a o e).stay (fun b u _ q=>k b u q) (fun _ q=>q) fun _ _ q=>q
def HOk.laid (x:HOk P w H h) (k: ∀b u,h.get? b=some u->h'.get? b=some u) (hp:h.objs.size<=a) (new:ObjOk P w (upd H a o) h' a o):HOk P w (upd H a o) h':=fun b u e=>by
 have hn:=x.fresh hp
 by_cases hb:b=a
 · subst hb;rw [jo] at e;cases e;exact new
 · rw [jr hb] at e;exact (x b u e).stay (fun c v _ q=>k c v q) (fun c q=>by rw [jr (jM q hn)];exact q) fun c xs q=>by rw [jr (jM q hn)];exact q
end
def Rd (H:Hp) (a:Addr) (u:HO):Prop:=H a=some u\/ ∃o,H a=some (.frz o u)
def Rd.ok {P:aaB} {w:World} {H:Hp} {h:Heap} {a:Addr} {u:HO} (r:Rd H a u) (x:HOk P w H h):ObjOk P w H h a u:=by
 rcases r with r| ⟨o,r⟩
 · exact x a u r
 · obtain ⟨_,q⟩:=x a _ r;exact q
def Mut:Option HO->Prop
 |some (.lst _)=>True
 |some (.dK _)=>True
 |some (.dT _)=>True
 |some (.set _ _)=>True
 |some (.ins _ _ _)=>True
 |some (.ext _)=>True
 |some (.memo _ _)=>True
 |some (.nst _)=>True
 |_=>False
section
variable {P:aaB} {w:World} {H:Hp} {h h':Heap} {x e:Addr} {o':HO}
def HOk.write (ok:HOk P w H h) (mu:Mut (H x)) (he:e=x\/H e=some (.own x)) (k: ∀b u,b≠e->h.get? b=some u->h'.get? b=some u) (heo: ∃u,h'.get? e=some u)
   (new:ObjOk P w (upd H x o') h' x o'):HOk P w (upd H x o') h':=fun b u q=>by
 have nown: ∀c y,H c=some (.own y)->c≠x:=fun c y r z=>by subst z;rw [r] at mu;exact mu
 have ntup: ∀c xs,H c=some (.tup xs)->c≠x:=fun c xs r z=>by subst z;rw [r] at mu;exact mu
 by_cases hb:b=x
 · subst hb;rw [jo] at q;cases q;exact new
 · rw [jr hb] at q
   by_cases hbe:b=e
   · have q':H b=some (.own x):=by
       rcases he with z|z
       · exact absurd (hbe.trans z) hb
       · rw [hbe];exact z
     rw [q] at q';cases q';obtain ⟨v,hv⟩:=heo;exact ⟨v,by rw [hbe];exact hv⟩
   · refine (ok b u q).stay (fun c v hc r=>k c v ?_ r) (fun c r=>by rw [jr (nown c b r)];exact r) fun c xs r=>by rw [jr (ntup c xs r)];exact r
     rcases hc with rfl|hc
     · exact hbe
     · rintro rfl;rcases he with z|z
       · exact nown c b hc z
       · rw [hc] at z;cases z;exact hb rfl
end
structure Un (fs ex:List Addr) (H H':Hp) (h h':Heap):Prop where
 keep: ∀b o,h.get? b=some o->H b=none->b∉fs->b∉ex->h'.get? b=some o
 slot: ∀b o,h.get? b=some o->H b=none->b∈fs->b∉ex-> ∃sl,h'.get? b=some {o with slots:=sl}
 free: ∀b o,h.get? b=some o->H b=none->b∉ex->H' b=none
 there: ∀b o,h.get? b=some o->b∉ex-> ∃o',h'.get? b=some o'
 tups: ∀b xs,H b=some (.tup xs)->H' b=some (.tup xs)
 frzs: ∀b o u,H b=some (.frz o u)->H' b=some (.frz o u)
 tbls: ∀b ps,H b=some (.tbl ps)-> ∃more,H' b=some (.tbl (ps++more))
section
variable {fs fs' ex ex':List Addr} {H H1 H2:Hp} {h h1 h2 h':Heap} {a x e:Addr} {o:HO}
def Un.any (u:Un fs ex H H1 h h1) {b:Addr} {ob:Obj} (q:h.get? b=some ob) (n:H b=none) (hx:b∉ex): ∃sl,h1.get? b=some {ob with slots:=sl}:=by
 by_cases hb:b∈fs
 · exact u.slot b ob q n hb hx
 · exact ⟨ob.slots,u.keep b ob q n hb hx⟩
def Un.kept (k: ∀b u,h.get? b=some u->h'.get? b=some u):Un fs ex H H h h':=
 ⟨fun b ob q _ _ _=>k b ob q,fun b ob q _ _ _=>⟨ob.slots,k b ob q⟩,fun _ _ _ n _=>n,fun b ob q _=>⟨ob,k b ob q⟩,fun _ _ q=>q,fun _ _ _ q=>q,fun _ ps q=>⟨#[],by rw [q];simp⟩⟩
def Un.refl:Un fs ex H H h h:=Un.kept fun _ _ q=>q
def Un.laid (k: ∀b u,h.get? b=some u->h'.get? b=some u) (hp:h.objs.size<=a) (hn:H a=none):Un fs ex H (upd H a o) h h' where
 keep:=fun b u q _ _ _=>k b u q
 slot:=fun b u q _ _ _=>⟨u.slots,k b u q⟩
 free:=fun b u q n _=>by rw [jr (aa0 (aat (aau q) hp))];exact n
 there:=fun b u q _=>⟨u,k b u q⟩
 tups:=fun b xs q=>by rw [jr (jM q hn)];exact q
 frzs:=fun b u xs q=>by rw [jr (jM q hn)];exact q
 tbls:=fun b ps q=>⟨#[],by rw [jr (jM q hn),q];simp⟩
def Un.write (mu:Mut (H x)) (he:e=x\/H e=some (.own x)) (k: ∀b u,b≠e->h.get? b=some u->h'.get? b=some u) (heo: ∃u,h'.get? e=some u):Un fs ex H (upd H x o) h h':=by
 have hx: ∀b,H b=none->b≠x:=fun b n z=>by subst z;rw [n] at mu;exact mu
 have hb: ∀b,H b=none->b≠e:=fun b n z=>by
   subst z;rcases he with r|r
   · exact hx b n r
   · rw [n] at r;cases r
 have hm: ∀b u,H b=some u-> ¬Mut (some u)->b≠x:=fun b u q nm z=>by subst z;rw [q] at mu;exact nm mu
 refine ⟨fun b u q n _ _=>k b u (hb b n) q,fun b u q n _ _=>⟨u.slots,k b u (hb b n) q⟩,fun b u q n _=>by rw [jr (hx b n)];exact n,fun b u q _=>?_,
   fun b xs q=>by rw [jr (hm b _ q fun z=>z)];exact q,fun b u xs q=>by rw [jr (hm b _ q fun z=>z)];exact q,fun b ps q=>⟨#[],by rw [jr (hm b _ q fun z=>z),q];simp⟩⟩
 by_cases hbe:b=e
 · subst hbe;exact heo
 · exact ⟨u,k b u hbe q⟩
end
def trk (h:Heap) (H:Hp):List Addr:=(abu h.objs.size).filter fun a=>(H a).isSome
def hidT (h:Heap) (H:Hp):Heap:=PySem.W.hideAll h (trk h H)
def Ux (h:Heap) (H:Hp):(hidT h H).objs.size=h.objs.size:=PySem.W.hideAll_size _ _
def vK {h:Heap} {H:Hp} {b:Addr} {o:Obj} (e:h.get? b=some o) (n:H b=none):(hidT h H).get? b=some o:=
 PySem.W.hideAll_get _ e fun hm=>by
  have q:(H b).isSome=true:=(List.mem_filter.mp hm).2;rw [n] at q;simp at q
def jaI {h:Heap} {H:Hp} {b:Addr} {o:Obj} (e:(hidT h H).get? b=some o):h.get? b=some o/\H b=none:=by
 have e':h.get? b=some o:=PySem.W.of_hideAll (trk h H) e;refine ⟨e',?_⟩
 cases q:H b with
 |none=>rfl
 |some x=>
  have hm:b∈trk h H:=List.mem_filter.mpr ⟨ab9.mpr (aau e'),by simp [q]⟩;have z:(hidT h H).get? b=none:=PySem.W.hideAll_none (trk h H) hm;rw [z] at e;cases e
def jbI (g h:Heap) (L:Addr):List (Addr×Obj):=(abu h.objs.size).filterMap fun a=>if a=L\/(g.get? a).isSome=true then none else (h.get? a).map fun o=>(a,o)
def rest (g h:Heap) (L d:Addr):List (Addr×Obj):=(jbI g h L).filter fun p=>decide (p.1≠d)
structure Mod (K:aaa) (mg:Yq) (base:Heap):Prop where
 kin:K.In base
 glob:base.Ns aah mg
 blt: ∃mb,base.Ns builtinsNs mb/\ ∀x:Str,x≠ "__name__" ->mb x=aby x
 nolimit:base.NoLimit
structure Cx where
 prog:aaB
 w:World
 K:aaa
 mg:Str->Option Value
 base:Heap
 A:aaZ
 N:List Str
 s₀:aad
 H₀:Hp
 env:Env
 outer:List Env
 stack:List Env
 ex:List Addr
 fn:Str->Bool
 calm:Bool
 pn:List (Addr×Obj)
 xe:Value->aad->Prop
abbrev Xj (X:Cx) (e:Expr) (es:List Expr):Prop:=aac (e::es) X.env=(false,eval e X.env)::aac es X.env
abbrev Wt (X:Cx) (p:Pos) (es:List Expr):Prop:=(aa1 p (aac es X.env)).any (·.1)=false
abbrev Vy (X:Cx) (x:Str):Prop:=X.fn x=true\/X.env.scope.names.lookup x=some .local
def frs (l:List Env):List Addr:=l.filterMap (·.frame)
abbrev Cx.fs (X:Cx):List Addr:=frs X.outer
def Vis (sc:Scope) (x:Str):Prop:=sc.names.lookup x=some .local\/sc.names.lookup x=some .cell\/sc.names.lookup x=some .free
def Loc (sc:Scope) (x:Str):Prop:=sc.names.lookup x=some .local\/sc.names.lookup x=some .cell
def Look (env:Env) (h:Heap) (m:Yq) (x:Str) (u:Value):Prop:=
 (env.kindOf x=some .local/\m x=some u)\/((env.kindOf x=some .cell\/env.kindOf x=some .free)/\ ∃c,env.cells.lookup x=some c/\h.IsCell c (some u))
structure Cx.Ok (X:Cx):Prop where
 mod:Mod X.K X.mg X.base
 kind:X.env.scope.kind= .function
 glob:X.env.globals=aah
 blt:X.env.builtins=builtinsNs
 above:X.s₀.heap.objs.size<=X.env.locals
 inj: ∀x y c,X.env.cells.lookup x=some c->X.env.cells.lookup y=some c->x=y
 has: ∀x,(X.env.kindOf x=some .cell\/X.env.kindOf x=some .free)-> ∃c,X.env.cells.lookup x=some c
 cab: ∀x c,X.fn x=true->X.env.cells.lookup x=some c->X.s₀.heap.objs.size<=c
 hd:X.calm=true->X.A.handled=none
 frames:X.A.frames=some X.stack
 stk:X.stack=X.outer\/(X.stack=X.env::X.outer/\X.env.frame=some X.env.locals)
 exf: ∀b∈X.ex,b≠X.env.locals/\ ∀x c,X.env.cells.lookup x=some c->c≠b
 bs: ∀b o,X.base.get? b=some o->X.s₀.heap.get? b=some o/\X.H₀ b=none
 bsz:X.base.objs.size<=X.s₀.heap.objs.size
 noex: ∀b o,X.base.get? b=some o->b∉X.ex
 exfs: ∀b∈X.ex,b∉X.fs
 funs:X.s₀.heap.FunFrames X.base X.outer
 frf: ∀b∈X.fs,X.H₀ b=none
structure Inv (X:Cx) (pins:List (Addr×Obj)) (σ:List (Option V)) (H:Hp) (s:aad):Prop where
 ok:X.Ok
 os:s.os=X.s₀.os
 bare:ada s.gens
 base:Un X.fs X.ex X.H₀ H X.s₀.heap s.heap
 loc: ∃m,s.heap.Ns X.env.locals m/\ ∀(i:Nat) (x:Str) (v:V),X.N[i]?=some x->σ[i]?=some (some v)->Vis X.env.scope x-> ∃u,RelV v u/\Look X.env s.heap m x u
 cell: ∀x c,X.env.cells.lookup x=some c-> ∃v,s.heap.IsCell c v
 free:H X.env.locals=none
 freeC: ∀x c,X.env.cells.lookup x=some c->H c=none
 pin: ∀p∈X.pn++pins,s.heap.get? p.1=some p.2/\H p.1=none/\p.1≠X.env.locals/\p.1∉X.fs/\ ∀v,p.2.data≠ .cell v
 hok:HOk X.prog X.w H s.heap
 len:σ.length=X.N.length
section
variable {X:Cx} {pins:List (Addr×Obj)} {σ:List (Option V)} {H H':Hp} {s:aad} {h':Heap}
def Cx.Ok.nofr (ok:X.Ok) {b:Addr} {o:Obj} (e:X.base.get? b=some o):b∉X.fs:=fun hb=>by
 have:=(ok.funs.mem hb).1;rw [e] at this;cases this
def Inv.bs (I:Inv X pins σ H s): ∀b o,X.base.get? b=some o->s.heap.get? b=some o/\H b=none:=fun b o e=>
 ⟨I.base.keep b o (I.ok.bs b o e).1 (I.ok.bs b o e).2 (I.ok.nofr e) (I.ok.noex b o e),I.base.free b o (I.ok.bs b o e).1 (I.ok.bs b o e).2 (I.ok.noex b o e)⟩
def Inv.bk (I:Inv X pins σ H s): ∀b o,X.base.get? b=some o->s.heap.get? b=some o:=fun b o e=>(I.bs b o e).1
def Inv.mod (I:Inv X pins σ H s):Mod X.K X.mg X.base:=I.ok.mod
def Inv.kIn (I:Inv X pins σ H s):X.K.In s.heap:=I.ok.mod.kin.keeps I.bk
def Inv.lt (I:Inv X pins σ H s):X.env.locals<s.heap.objs.size:=let ⟨_,hn,_⟩:=I.loc;hn.lt
def Inv.sz (I:Inv X pins σ H s):X.s₀.heap.objs.size<=s.heap.objs.size:=aaq I.ok.above (Nat.le_of_lt I.lt)
def Inv.nofs (I:Inv X pins σ H s) {a:Addr} (h:s.heap.objs.size<=a):a∉X.fs:=fun hb=>by
 obtain ⟨_,o,ho,_⟩:=I.ok.funs.mem hb;exact absurd (aat (aau ho) (aaq I.sz h)) (abI _)
def Inv.cne (I:Inv X pins σ H s): ∀x c,X.env.cells.lookup x=some c->c≠X.env.locals:=fun x c e z=>by
 obtain ⟨v,o,ho,hd⟩:=I.cell x c e;obtain ⟨m,⟨o',es,ep,ho',hd',_⟩,_⟩:=I.loc;rw [z,ho'] at ho;cases ho;rw [hd'] at hd;cases hd
def Inv.funs (I:Inv X pins σ H s):s.heap.FunFrames X.base X.outer:=by
 have all: ∀(l:List Env),(∀b∈frs l,b∈X.fs)->X.s₀.heap.FunFrames X.base l->s.heap.FunFrames X.base l:=by
  intro l
  induction l with
  |nil=>intro _ _;trivial
  |cons env r ih=>
   intro hs hl;obtain ⟨hk,⟨L,o,hf,hn,ho,hd⟩,hr⟩:=hl;have hL:L∈X.fs:=hs L (by unfold frs;rw [acf,hf];exact aaA);obtain ⟨sl,e⟩:=I.base.slot L o ho (I.ok.frf L hL) hL fun z=>I.ok.exfs L z hL
   exact ⟨hk,⟨L,_,hf,hn,e,hd⟩,ih (fun b hb=>hs b (by unfold frs;rw [acf,hf];exact aar _ hb)) hr⟩
 exact all X.outer (fun _ hb=>hb) I.ok.funs
def Inv.stack (I:Inv X pins σ H s):s.heap.FunFrames X.base X.stack:=by
 rcases I.ok.stk with e| ⟨e,hf⟩
 · rw [e];exact I.funs
 · rw [e];obtain ⟨m,hn,_⟩:=I.loc;refine .cons (by rw [I.ok.kind];decide) hf hn ?_ I.funs;exact Heap.get?_none_of_le (aaq I.ok.bsz I.ok.above)
def Inv.stkSub (I:Inv X pins σ H s): ∀b∈frs X.stack,b∈X.env.locals::X.fs:=fun b hb=>by
 rcases I.ok.stk with e| ⟨e,hf⟩
 · rw [e] at hb;exact aar _ hb
 · rw [e] at hb;unfold frs at hb;rw [acf,hf] at hb;exact hb
def Inv.stkFree (I:Inv X pins σ H s): ∀b∈frs X.stack,H b=none:=fun b hb=>by
 rcases aaw.mp (I.stkSub b hb) with e|hb
 · rw [e];exact I.free
 · obtain ⟨_,o,ho,_⟩:=I.ok.funs.mem hb;exact I.base.free b o ho (I.ok.frf b hb) fun z=>I.ok.exfs b z hb
def Inv.step {g':Array GenState} {t':Nat} {d':Drawn} {ch:List Addr} (I:Inv X pins σ H s)
   (hch: ∀b∈ch,(b∈X.ex\/X.s₀.heap.objs.size<=b)/\b≠X.env.locals/\(∀x c,X.env.cells.lookup x=some c->c≠b)/\ ∀p∈X.pn++pins,p.1≠b)
   (keep: ∀b o,b≠X.env.locals->b∉X.fs->b∉ch->s.heap.get? b=some o->H b=none->h'.get? b=some o)
   (slot: ∀b o,b≠X.env.locals->b∈X.fs->b∉ch->s.heap.get? b=some o->H b=none-> ∃sl,h'.get? b=some {o with slots:=sl}) (free: ∀b o,b∉ch->s.heap.get? b=some o->H b=none->H' b=none)
   (there: ∀b o,b∉ch->s.heap.get? b=some o-> ∃o',h'.get? b=some o')
   (tups: ∀b xs,H b=some (.tup xs)->H' b=some (.tup xs)) (frzs: ∀b o u,H b=some (.frz o u)->H' b=some (.frz o u)) (tbls: ∀b ps,H b=some (.tbl ps)-> ∃more,H' b=some (.tbl (ps++more)))
   (ns: ∀m,s.heap.Ns X.env.locals m->h'.Ns X.env.locals m) (hok:HOk X.prog X.w H' h') (hg:ada g'):
   Inv X pins σ H' {s with heap:=h',gens:=g',drawn:=d',toks:=t'}:=by
 have neL: ∀b o,X.s₀.heap.get? b=some o->b≠X.env.locals:=fun b o e=>aa0 (aat (aau e) I.ok.above)
 have neC: ∀b o,X.s₀.heap.get? b=some o->b∉X.ex->b∉ch:=fun b o e hx hb=>by
   rcases (hch b hb).1 with z|z
   · exact hx z
   · exact absurd (aat (aau e) z) (abI _)
 have cellK: ∀x c,X.env.cells.lookup x=some c-> ∀v,s.heap.IsCell c v->h'.IsCell c v:=fun x c e v ⟨o,ho,hd⟩=>by
   have nch:c∉ch:=fun z=>(hch c z).2.2.1 x c e rfl
   by_cases hc:c∈X.fs
   · obtain ⟨sl,q⟩:=slot c o (I.cne x c e) hc nch ho (I.freeC x c e);exact ⟨_,q,hd⟩
   · exact ⟨o,keep c o (I.cne x c e) hc nch ho (I.freeC x c e),hd⟩
 refine ⟨I.ok,I.os,hg,⟨fun b o e n hb hx=>?_,fun b o e n hb hx=>?_,fun b o e n hx=>?_,fun b o e hx=>?_,fun b xs e=>tups b xs (I.base.tups b xs e),fun b o xs e=>frzs b o xs (I.base.frzs b o xs e),fun b ps e=>?_⟩,?_,fun x c e=>?_,?_,fun x c e=>?_,fun p hp=>?_,hok,I.len⟩
 · exact keep b o (neL b o e) hb (neC b o e hx) (I.base.keep b o e n hb hx) (I.base.free b o e n hx)
 · obtain ⟨sl,e1⟩:=I.base.slot b o e n hb hx;obtain ⟨sl',e2⟩:=slot b _ (neL b o e) hb (neC b o e hx) e1 (I.base.free b o e n hx);exact ⟨sl',e2⟩
 · obtain ⟨o',e1⟩:=I.base.there b o e hx;exact free b o' (neC b o e hx) e1 (I.base.free b o e n hx)
 · obtain ⟨o',e1⟩:=I.base.there b o e hx;exact there b o' (neC b o e hx) e1
 · obtain ⟨m1,e1⟩:=I.base.tbls b ps e;obtain ⟨m2,e2⟩:=tbls b _ e1;exact ⟨m1++m2,by rw [e2,Array.append_assoc]⟩
 · obtain ⟨m,hn,hl⟩:=I.loc;refine ⟨m,ns m hn,fun i x v e1 e2 e3=>?_⟩;obtain ⟨u,r,l⟩:=hl i x v e1 e2 e3;refine ⟨u,r,?_⟩;rcases l with l| ⟨k,c,e,z⟩
   · exact .inl l
   · exact .inr ⟨k,c,e,cellK x c e _ z⟩
 · obtain ⟨v,z⟩:=I.cell x c e;exact ⟨v,cellK x c e v z⟩
 · obtain ⟨m,⟨o,_,_,ho,_⟩,_⟩:=I.loc;exact free _ o (fun z=>(hch _ z).2.1 rfl) ho I.free
 · obtain ⟨v,o,ho,hd⟩:=I.cell x c e;exact free c o (fun z=>(hch c z).2.2.1 x c e rfl) ho (I.freeC x c e)
 · obtain ⟨e,n,ne,nf,d⟩:=I.pin p hp;have nch:p.1∉ch:=fun z=>(hch p.1 z).2.2.2 p hp rfl
   exact ⟨keep p.1 p.2 ne nf nch e n,free p.1 p.2 nch e n,ne,nf,d⟩
def Inv.un {t':Nat} (I:Inv X pins σ H s) (u:Un X.fs [] H H' s.heap h') (hok:HOk X.prog X.w H' h'):Inv X pins σ H' {s with heap:=h',toks:=t'}:=by
 obtain ⟨m,⟨o,es,ep,ho,r⟩,_⟩:=id I.loc;obtain ⟨sl,hL⟩:=u.any ho I.free (by simp)
 exact I.step (g':=s.gens) (d':=s.drawn) (ch:=[]) (fun _ z=>nomatch z) (fun b o _ hb _ e n=>u.keep b o e n hb (by simp)) (fun b o _ hb _ e n=>u.slot b o e n hb (by simp)) (fun b o _ e n=>u.free b o e n (by simp)) (fun b o _ e=>u.there b o e (by simp)) u.tups u.frzs u.tbls (fun m' hm=>by
  obtain ⟨o',es',ep',ho',r'⟩:=hm;rw [ho] at ho';cases ho'
  exact ⟨_,es',ep',hL,r'⟩) hok I.bare
def Inv.call {g':Array GenState} {t':Nat} {d':Drawn} {ch:List Addr} (I:Inv X pins σ H s) (u:Un (frs X.stack) ch H H' s.heap h') (hok:HOk X.prog X.w H' h') (hg:ada g')
  (hch: ∀b∈ch,(b∈X.ex\/X.s₀.heap.objs.size<=b)/\b≠X.env.locals/\(∀x c,X.env.cells.lookup x=some c->c≠b)/\ ∀p∈X.pn++pins,p.1≠b):
  Inv X pins σ H' {s with heap:=h',gens:=g',drawn:=d',toks:=t'}:=by
 obtain ⟨m,⟨o,es,ep,ho,r⟩,_⟩:=id I.loc;obtain ⟨sl,hL⟩:=u.any ho I.free fun z=>(hch _ z).2.1 rfl
 exact I.step (ch:=ch) hch (fun b o hL hb hc e n=>u.keep b o e n (fun z=>(aaw.mp (I.stkSub b z)).elim hL hb) hc) (fun b o _ _ hc e n=>u.any e n hc) (fun b o hc e n=>u.free b o e n hc) (fun b o hc e=>u.there b o e hc) u.tups u.frzs u.tbls (fun m' hm=>by
  obtain ⟨o',es',ep',ho',r'⟩:=hm;rw [ho] at ho';cases ho'
  exact ⟨_,es',ep',hL,r'⟩) hok hg
def Inv.turned {t':Nat} {it:Addr} (I:Inv X pins σ H s) (k: ∀b o,b≠it->s.heap.get? b=some o->h'.get? b=some o) (hn:H it=none) (hL:it≠X.env.locals)
   (h1:it∈X.ex\/X.s₀.heap.objs.size<=it) (h2: ∀x c,X.env.cells.lookup x=some c->c≠it) (h3: ∀p∈X.pn++pins,p.1≠it):Inv X pins σ H {s with heap:=h',toks:=t'}:=by
 have nit: ∀b u,H b=some u->b≠it:=fun b u e z=>by rw [z,hn] at e;cases e
 refine I.step (g':=s.gens) (d':=s.drawn) (ch:=[it]) (fun b hb=>?_) (fun b o _ _ hc e _=>k b o (fun z=>hc (by simp [z])) e) (fun b o _ _ hc e _=>⟨o.slots,k b o (fun z=>hc (by simp [z])) e⟩) (fun _ _ _ _ n=>n)
   (fun b o hc e=>⟨o,k b o (fun z=>hc (by simp [z])) e⟩) (fun _ _ e=>e) (fun _ _ _ e=>e) (fun b ps e=>⟨#[],by rw [e];simp⟩) (fun m hm=>?_) (fun b u e=>?_) I.bare
 · have e:b=it:=by simpa using hb
   subst e;exact ⟨h1,hL,h2,h3⟩
 · obtain ⟨o,es,ep,ho,r⟩:=hm;exact ⟨o,es,ep,k _ o (ab8 hL) ho,r⟩
 · refine (I.hok b u e).stay (fun c v hc q=>k c v ?_ q) (fun _ q=>q) fun _ _ q=>q
   rcases hc with z|z
   · rw [z];exact nit b u e
   · exact nit c _ z
def Inv.tok (I:Inv X pins σ H s) (t:Nat):Inv X pins σ H {s with toks:=t}:=I.un (h':=s.heap) (t':=t) Un.refl I.hok
def Inv.kept {t':Nat} (I:Inv X pins σ H s) (k: ∀b u,s.heap.get? b=some u->h'.get? b=some u):Inv X pins σ H {s with heap:=h',toks:=t'}:=I.un (Un.kept k) (I.hok.kept k)
def Inv.laid {a:Addr} {o:HO} {t':Nat} (I:Inv X pins σ H s) (k: ∀b u,s.heap.get? b=some u->h'.get? b=some u) (hp:s.heap.objs.size<=a) (new:ObjOk X.prog X.w (upd H a o) h' a o):
 Inv X pins σ (upd H a o) {s with heap:=h',toks:=t'}:=I.un (Un.laid k hp (I.hok.fresh hp)) (I.hok.laid k hp new)
def Inv.write {x e:Addr} {o:HO} {t':Nat} (I:Inv X pins σ H s) (mu:Mut (H x)) (he:e=x\/H e=some (.own x)) (k: ∀b u,b≠e->s.heap.get? b=some u->h'.get? b=some u) (heo: ∃u,h'.get? e=some u)
 (new:ObjOk X.prog X.w (upd H x o) h' x o):Inv X pins σ (upd H x o) {s with heap:=h',toks:=t'}:=I.un (Un.write mu he k heo) (I.hok.write mu he k heo new)
def Inv.pins_of {pins':List (Addr×Obj)} (I:Inv X pins σ H s) (h: ∀p∈pins',s.heap.get? p.1=some p.2/\H p.1=none/\p.1≠X.env.locals/\p.1∉X.fs/\ ∀v,p.2.data≠ .cell v):Inv X pins' σ H s:=
 ⟨I.ok,I.os,I.bare,I.base,I.loc,I.cell,I.free,I.freeC,fun p hp=>(aa4.mp hp).elim (fun z=>I.pin p (abr _ z)) (h p),I.hok,I.len⟩
def ZM {N:List Str} (hN:N.Nodup) {i j:Nat} {x:Str} (a:N[i]?=some x) (b:N[j]?=some x):i=j:=by
 obtain ⟨h1,e1⟩:=aax.mp a;obtain ⟨h2,e2⟩:=aax.mp b;exact (List.getElem_inj hN).mp (e1.trans e2.symm)
def Vl {M:Model} {A:aaZ} {E:Xk} {i:Nat} {x:Str} {v:V} {u:Value} {Q:Unit->aad->Prop} (I:Inv X pins σ H s) (hN:X.N.Nodup) (hi:X.N[i]?=some x) (hx:Loc X.env.scope x) (r:RelV v u)
   (h: ∀s',Inv X pins (σ.set i (some v)) H s'->(∃a,acT a s.heap s'.heap/\(a=X.env.locals\/X.env.cells.lookup x=some a))->Q () s') (hf:Vy X x:=by first|exact .inl rfl|exact .inr rfl|assumption):wpAny M A (storeName X.env x u) Q E s:=by
 obtain ⟨m,hn,hl⟩:=id I.loc;have hcls:(X.env.scope.kind== .class|| (X.env.scope.kind== .module&&X.env.locals !=X.env.globals))=false:=by rw [I.ok.kind];rfl
 have hiσ:i<σ.length:=by rw [I.len];exact (aax.mp hi).1
 have cne:=I.cne
 have tracked: ∀ {a:Addr} {h':Heap},(∃o,s.heap.get? a=some o/\H a=none)->acT a s.heap h'->HOk X.prog X.w H h':=fun {a h'} ha hs b ob e=>by
   obtain ⟨_,_,hfree⟩:=ha;refine (I.hok b ob e).stay (fun c w' hc q=>(hs.2 c ?_).trans q) (fun _ q=>q) fun _ _ q=>q
   rintro rfl;rcases hc with rfl|hc
   · rw [hfree] at e;cases e
   · rw [hfree] at hc;cases hc
 rcases hx with hk|hk
 · refine wpAny_storeName_local hk hn (fun h' hn' hs=>?_) hcls;obtain ⟨oL,_,_,hoL,_⟩:=id hn;refine h _ ⟨I.ok,I.os,I.bare,⟨fun b o e n hb hx=>?_,fun b o e n hb hx=>?_,I.base.free,fun b o e hx=>?_,I.base.tups,I.base.frzs,I.base.tbls⟩,⟨_,hn',fun j y v' e1 e2 e3=>?_⟩,fun y c e=>?_,I.free,I.freeC,fun p hp=>?_,tracked ⟨oL,hoL,I.free⟩ hs,by simpa using I.len⟩ ⟨_,hs,.inl rfl⟩
   · exact (hs.2 b (aa0 (aat (aau e) I.ok.above))).trans (I.base.keep b o e n hb hx)
   · obtain ⟨sl,e1⟩:=I.base.slot b o e n hb hx;exact ⟨sl,(hs.2 b (aa0 (aat (aau e) I.ok.above))).trans e1⟩
   · obtain ⟨o',e1⟩:=I.base.there b o e hx;exact ⟨o',(hs.2 b (aa0 (aat (aau e) I.ok.above))).trans e1⟩
   · by_cases hj:j=i
     · subst hj;rw [hi] at e1;cases e1;rw [aa7 hiσ] at e2;cases e2;exact ⟨u,r,.inl ⟨hk,by simp⟩⟩
     · rw [abP (ab8 hj)] at e2;obtain ⟨u',r',q⟩:=hl j y v' e1 e2 e3;refine ⟨u',r',?_⟩;rcases q with ⟨k,e⟩| ⟨k,c,e,z⟩
       · refine .inl ⟨k,?_⟩;have:y≠x:=fun e=>hj (ZM hN e1 (e▸hi))
         simp [this,e]
       · exact .inr ⟨k,c,e,z.sameBut hs (cne y c e)⟩
   · obtain ⟨w',z⟩:=I.cell y c e;exact ⟨w',z.sameBut hs (cne y c e)⟩
   · obtain ⟨e,n,ne,nf,d⟩:=I.pin p hp;exact ⟨(hs.2 p.1 ne).trans e,n,ne,nf,d⟩
 · have hfn:X.fn x=true:=by
     rcases hf with z|z
     · exact z
     · rw [z] at hk;cases hk
   obtain ⟨c,hc⟩:=I.ok.has x (.inl hk);obtain ⟨w',z⟩:=I.cell x c hc;refine wpAny_storeName_cell I.ok.kind hk hc z (fun h' hc' hs=>?_);obtain ⟨oc,hoc,hocd⟩:=id z;refine h {s with heap:=h'} ⟨I.ok,I.os,I.bare,⟨fun b o e n hb hx=>?_,fun b o e n hb hx=>?_,I.base.free,fun b o e hx=>?_,I.base.tups,I.base.frzs,I.base.tbls⟩,⟨m,hn.sameBut hs (ab8 (cne x c hc)),fun j y v' e1 e2 e3=>?_⟩,fun y c' e=>?_,I.free,I.freeC,fun p hp=>?_,tracked ⟨oc,hoc,I.freeC x c hc⟩ hs,by simpa using I.len⟩ ⟨c,hs,.inr hc⟩
   · exact (hs.2 b (aa0 (aat (aau e) (I.ok.cab x c hfn hc)))).trans (I.base.keep b o e n hb hx)
   · obtain ⟨sl,e1⟩:=I.base.slot b o e n hb hx;exact ⟨sl,(hs.2 b (aa0 (aat (aau e) (I.ok.cab x c hfn hc)))).trans e1⟩
   · obtain ⟨o',e1⟩:=I.base.there b o e hx;exact ⟨o',(hs.2 b (aa0 (aat (aau e) (I.ok.cab x c hfn hc)))).trans e1⟩
   · by_cases hj:j=i
     · subst hj;rw [hi] at e1;cases e1;rw [aa7 hiσ] at e2;cases e2;exact ⟨u,r,.inr ⟨.inl hk,c,hc,hc'⟩⟩
     · rw [abP (ab8 hj)] at e2;obtain ⟨u',r',q⟩:=hl j y v' e1 e2 e3;refine ⟨u',r',?_⟩;rcases q with q| ⟨k,c',e,z'⟩
       · exact .inl q
       · refine .inr ⟨k,c',e,z'.sameBut hs ?_⟩;rintro rfl;exact hj (ZM hN e1 (I.ok.inj _ _ _ e hc▸hi))
   · by_cases hcc:c'=c
     · subst hcc;exact ⟨_,hc'⟩
     · obtain ⟨w2,z2⟩:=I.cell y c' e;exact ⟨w2,z2.sameBut hs hcc⟩
   · obtain ⟨e,n,ne,nf,d⟩:=I.pin p hp;refine ⟨(hs.2 p.1 ?_).trans e,n,ne,nf,d⟩;intro q;rw [q,hoc] at e;have q':oc=p.2:=aaF e;exact d w' (by rw [←q'];exact hocd)
def JL {M:Model} {A:aaZ} {E:Xk} {i:Nat} {x:Str} {v:V} {u:Value} {Q:Unit->aad->Prop} (I:Inv X pins σ H s) (hN:X.N.Nodup) (hi:X.N[i]?=some x) (hx:Loc X.env.scope x) (r:RelV v u)
  (h: ∀s',Inv X pins (σ.set i (some v)) H s'->Q () s') (hf:Vy X x:=by first|exact .inl rfl|exact .inr rfl|assumption):wpAny M A (storeName X.env x u) Q E s:=
 Vl I hN hi hx r (fun s' I' _=>h s' I') hf
def Inv.call' {s':aad} {ch:List Addr} (I:Inv X pins σ H s) (ho:s'.os=s.os) (u:Un (frs X.stack) ch H H' s.heap s'.heap) (hok:HOk X.prog X.w H' s'.heap) (hg:ada s'.gens)
  (hch: ∀b∈ch,(b∈X.ex\/X.s₀.heap.objs.size<=b)/\b≠X.env.locals/\(∀x c,X.env.cells.lookup x=some c->c≠b)/\ ∀p∈X.pn++pins,p.1≠b):Inv X pins σ H' s':=by
 obtain ⟨h',g',d',t',o'⟩:=s';have e:o'=s.os:=ho;subst e;exact I.call (g':=g') (t':=t') (d':=d') u hok hg hch
end
abbrev XK:=Value->Option Addr->Hp->Prop
abbrev St:=List (Option V)
abbrev VK:=V->Hp->Prop
abbrev TE:=St->Hp->VK->Prop
abbrev TT:=St->Hp->(Bool->Hp->Prop)->Prop
abbrev TA:=St->Hp->(List V->Hp->Prop)->Prop
structure Ends where
 nx:St->Hp->Prop
 rt:VK
 bk:St->Hp->Prop:=fun _ _=>False
 ct:St->Hp->Prop:=fun _ _=>False
abbrev TS:=Ends->St->Hp->Prop
def EP (X:Cx) (pins:List (Addr×Obj)) (σ:St) (Q:VK) (u:Value) (s':aad):Prop:= ∃v H',Inv X pins σ H' s'/\RelV v u/\Q v H'
def TP (X:Cx) (pins:List (Addr×Obj)) (σ:St) (Q:Bool->Hp->Prop) (b:Bool) (s':aad):Prop:= ∃H',Inv X pins σ H' s'/\Q b H'
def AP (X:Cx) (pins:List (Addr×Obj)) (σ:St) (Q:List V->Hp->Prop) (us:List Value) (s':aad):Prop:= ∃vs H',Inv X pins σ H' s'/\Vals vs us/\Q vs H'
def SP (X:Cx) (pins:List (Addr×Obj)) (D:Ends) (f:Flow) (s':aad):Prop:=
 match f with
 | .next=> ∃σ' H',Inv X pins σ' H' s'/\D.nx σ' H'
 | .brk=> ∃σ' H',Inv X pins σ' H' s'/\D.bk σ' H'
 | .cont=> ∃σ' H',Inv X pins σ' H' s'/\D.ct σ' H'
 | .ret u=> ∃v σ' H',Inv X pins σ' H' s'/\RelV v u/\D.rt v H'
def PE (X:Cx) (e:Expr) (t:TE):Prop:=
 ∀(pins:List (Addr×Obj)) (s:aad) (σ:St) (H:Hp) (Q:VK),Inv X pins σ H s->t σ H Q->wpAny (model X.prog X.w) X.A (eval e X.env) (EP X pins σ Q) X.xe s
def PT (X:Cx) (e:Expr) (t:TT):Prop:=
 ∀(pins:List (Addr×Obj)) (s:aad) (σ:St) (H:Hp) (Q:Bool->Hp->Prop),Inv X pins σ H s->t σ H Q->wpAny (model X.prog X.w) X.A (isTrue e X.env (eval e X.env)) (TP X pins σ Q) X.xe s
def PW (X:Cx) (e:Expr) (t:TT):Prop:=
 ∀(whole:Sem Value) (pins:List (Addr×Obj)) (s:aad) (σ:St) (H:Hp) (Q:Bool->Hp->Prop),Inv X pins σ H s->t σ H Q->wpAny (model X.prog X.w) X.A (isTrue e X.env whole) (TP X pins σ Q) X.xe s
def PW.pt {X:Cx} {e:Expr} {t:TT} (h:PW X e t):PT X e t:=h _
def PA (X:Cx) (es:List Expr) (t:TA):Prop:=
 ∀(pos:Pos) (pins:List (Addr×Obj)) (s:aad) (σ:St) (H:Hp) (Q:List V->Hp->Prop),Inv X pins σ H s->t σ H Q->wpAny (model X.prog X.w) X.A (spliced (aa1 pos (aac es X.env))) (AP X pins σ Q) X.xe s
def PS (X:Cx) (st:Stmt) (t:TS):Prop:=
 ∀(pins:List (Addr×Obj)) (s:aad) (σ:St) (H:Hp) (D:Ends),Inv X pins σ H s->t D σ H->wpAny (model X.prog X.w) X.A (exec st X.env) (SP X pins D) X.xe s
def PSs (X:Cx) (st:List Stmt) (t:TS):Prop:=
 ∀(pins:List (Addr×Obj)) (s:aad) (σ:St) (H:Hp) (D:Ends),Inv X pins σ H s->t D σ H->wpAny (model X.prog X.w) X.A (execs st X.env) (SP X pins D) X.xe s
def thn {α:Type} {t:Sem α} {Q Q':α->aad->Prop} {M:Model} {A:aaZ} {E:Xk} {s:aad} (h:wpAny M A t Q E s) (hQ: ∀a s,Q a s->Q' a s):wpAny M A t Q' E s:=abR h hQ fun _ _ x=>x
section
variable {X:Cx}
def bin {a b:Expr} {ta tb:TE} (ha:PE X a ta) (hb:PE X b tb) {pins:List (Addr×Obj)} {s:aad} {σ:St} {H:Hp} {R:V->V->Hp->Prop} (I:Inv X pins σ H s) (h:ta σ H fun x H1=>tb σ H1 fun y H2=>R x y H2)
  {α:Type} {Q:α->aad->Prop} {f:Value->Value->Sem α}
  (hf: ∀v u s2 x y H2,Inv X pins σ H2 s2->RelV x v->RelV y u->R x y H2->wpAny (model X.prog X.w) X.A (f v u) Q X.xe s2):
  wpAny (model X.prog X.w) X.A (eval a X.env) (fun v s₁=>wpAny (model X.prog X.w) X.A (eval b X.env) (fun u s₂=>wpAny (model X.prog X.w) X.A (f v u) Q X.xe s₂) X.xe s₁) X.xe s:=by
 refine thn (ha pins s σ H _ I h) fun v s1 ⟨x,H1,I1,r1,q1⟩=>?_
 refine thn (hb pins s1 σ H1 _ I1 q1) fun u s2 ⟨y,H2,I2,r2,q2⟩=>?_
 exact hf v u s2 x y H2 I2 r1 r2 q2
def tVar (i:Nat):TE:=fun σ H Q=> ∃v,σ[i]?=some (some v)/\Q v H
def tC (v:V):TE:=fun _ H Q=>Q v H
def qS {i:Nat} {x:Str} {pos:Pos} (hN:X.N[i]?=some x) (hv:Vis X.env.scope x) (hd:Zu x:=by decide) (hcd:Zt x:=by decide):PE X (.Name x pos) (tVar i):=by
 intro pins s σ H Q I h;obtain ⟨v,e,h⟩:=h;obtain ⟨m,hn,hl⟩:=I.loc;obtain ⟨u,r,l⟩:=hl i x v hN e hv;have fin:EP X pins σ Q u s:=⟨v,H,I,r,h⟩
 rcases l with ⟨hk,hm⟩| ⟨hk,c,hc,hcell⟩
 · exact wpAny_Name (wpAny_loadName_local I.ok.kind hk hn hm fin) hd
 · rcases hk with hk|hk
   · exact wpAny_Name (wpAny_loadName_cell I.ok.kind hk hc hcell fin) hd
   · exact wpAny_Name (wpAny_loadName_free I.ok.kind hk hc hcell fin hcd) hd
def Wv {i j pos}:PE X (.Constant (.int i) j pos) (tC (.int i)):=fun _ _ _ H _ I h=>wpAny_Constant_int ⟨.int i,H,I.tok _,⟨_,rfl⟩,h⟩
def jdE {b j pos}:PE X (.Constant (.bool b) j pos) (tC (.bl b)):=fun _ _ _ H _ I h=>Constant_bool ⟨.bl b,H,I,rfl,h⟩
def uB {j pos}:PE X (.Constant .none j pos) (tC .non):=fun _ _ _ H _ I h=>Constant_none ⟨.non,H,I,rfl,h⟩
def jcj {x j pos}:PE X (.Constant (.str x) j pos) (tC (.str x)):=fun _ _ _ H _ I h=>Calls.Constant_str ⟨.str x,H,I.tok _,⟨_,rfl⟩,h⟩
def Gl (X:Cx) (x:Str):Prop:=X.env.kindOf x=some .globalImplicit
def Jj {E:Xk} {pins:List (Addr×Obj)} {s:aad} {σ:St} {H:Hp} {x:Str} {u:Value} {pos:Pos} {Q:Xk} (I:Inv X pins σ H s) (hg:Gl X x) (hm:X.mg x=some u) (h:Q u s)
  (hd:Zu x:=by decide):wpAny (model X.prog X.w) X.A (eval (.Name x pos) X.env) Q E s:=
 Calls.Name_function_global I.ok.kind hg (Calls.loadGlobal_global (by rw [I.ok.glob];exact I.mod.glob.keeps I.bk) hm h) hd
def YT {E:Xk} {pins:List (Addr×Obj)} {s:aad} {σ:St} {H:Hp} {x:Str} {u:Value} {pos:Pos} {Q:Xk} (I:Inv X pins σ H s) (hg:Gl X x) (hm:X.mg x=none) (hv:aby x=some u) (h:Q u s)
  (hn:x≠ "__name__" :=by decide) (hd:Zu x:=by decide):wpAny (model X.prog X.w) X.A (eval (.Name x pos) X.env) Q E s:=by
 obtain ⟨mb,h1,h2⟩:=I.mod.blt;exact Calls.Name_function_global I.ok.kind hg (Calls.loadGlobal_builtin (by rw [I.ok.glob];exact I.mod.glob.keeps I.bk) hm (by rw [I.ok.blt];exact h1.keeps I.bk) ((h2 x hn).trans hv) h) hd
def ZB {x:Str} {v:V} {u:Value} {pos:Pos} (hg:Gl X x) (hm:X.mg x=some u) (r:RelV v u) (hd:Zu x:=by decide):PE X (.Name x pos) (tC v):=
 fun _ _ _ H _ I h=>Jj I hg hm ⟨v,H,I,r,h⟩ hd
def VM {x:Str} {v:V} {u:Value} {pos:Pos} (hg:Gl X x) (hm:X.mg x=none) (hv:aby x=some u) (r:RelV v u) (hn:x≠ "__name__" :=by decide) (hd:Zu x:=by decide):PE X (.Name x pos) (tC v):=
 fun _ _ _ H _ I h=>YT I hg hm hv ⟨v,H,I,r,h⟩ hn hd
def t2I (ta tb:TE) (k:Int->Int->Hp->Prop):St->Hp->Prop:=fun σ H=>ta σ H fun x H1=>tb σ H1 fun y H2=> ∃i j,x= .int i/\y= .int j/\k i j H2
variable {a b:Expr} {ta tb:TE} {pos:Pos}
def PC (X:Cx) (op:CmpOp) (a b:Expr) (t:TE):Prop:=
 ∀(pins:List (Addr×Obj)) (s:aad) (σ:St) (H:Hp) (Q:VK),Inv X pins σ H s->t σ H Q->
  wpAny (model X.prog X.w) X.A (eval a X.env) (fun v s₁=>wpAny (model X.prog X.w) X.A (eval b X.env) (fun u s₂=>wpAny (model X.prog X.w) X.A (abl op v u) (EP X pins σ Q) X.xe s₂) X.xe s₁) X.xe s
def vC (b:Expr) {op:CmpOp} (h:op≠ .In) (h2:op≠ .NotIn):abJ op b=false:=by
 have e1:(op==CmpOp.In)=false:=by cases op<;>first|rfl|exact absurd rfl h
 have e2:(op==CmpOp.NotIn)=false:=by cases op<;>first|rfl|exact absurd rfl h2
 cases b<;>simp [abJ,e1,e2]
def tCmp (p:Int->Int->Bool) (ta tb:TE):TE:=fun σ H Q=>t2I ta tb (fun i j H2=>Q (.bl (p i j)) H2) σ H
abbrev tGt:TE->TE->TE:=tCmp fun i j=>decide (j<i)
def jcq {op:CmpOp} {p:Int->Int->Bool} (ha:PE X a ta) (hb:PE X b tb)
  (rule: ∀(i j:Int) (t u:Tok) (Q:Xk) (s:aad),Q (.bool (p i j)) s->wpAny (model X.prog X.w) X.A (abl op (.int i t) (.int j u)) Q X.xe s):PC X op a b (tCmp p ta tb):=by
 intro pins s σ H Q I h;refine bin ha hb I h fun v u s2 x y H2 I2 rx ry q=>?_
 obtain ⟨i,j,rfl,rfl,q⟩:=q;obtain ⟨t,rfl⟩:=rx;obtain ⟨t',rfl⟩:=ry;exact rule i j t t' _ s2 ⟨.bl _,H2,I2,rfl,q⟩
def jdF (ha:PE X a ta) (hb:PE X b tb):PC X .Gt a b (tGt ta tb):=jcq ha hb fun _ _ _ _ _ _ h=>gt_int h
def tB (t:TE):TT:=fun σ H Q=>t σ H fun x H1=> ∃c,x= .bl c/\Q c H1
def jcc {op:CmpOp} {t:TE} (h:PC X op a b t) (h1:abJ op b=false:=by first|exact vC _ (by decide) (by decide)|rfl):PT X (.Compare a [op] [b] pos) (tB t):=by
 intro pins s σ H Q I hw;refine wpAny_isTrue_Compare1 (thn (h pins s σ H _ I hw) fun v s1 h1=>thn h1 fun u s2 h2=>thn h2 fun c s3 ⟨x,H1,I1,r1,q1⟩=>?_) h1;obtain ⟨d,rfl,q⟩:=q1;cases r1;exact abf ⟨H1,I1,q⟩
def ux {e:Expr} {t:TE} (h:PE X e t) (he: ∀whole,isTrue e X.env whole=(do let v←whole;adi e.pos;adj [v] (truthy v)):=by intro _;rfl):PT X e (tB t):=by
 intro pins s σ H Q I hw;refine isTrue_plain (thn (h pins s σ H _ I hw) fun v s1 ⟨x,H1,I1,r1,q1⟩=>?_) (he _);obtain ⟨d,rfl,q⟩:=q1;cases r1;exact abf ⟨H1,I1,q⟩
variable {tA tB':TT} {rest:List Expr}
def tAnd (t u:TT):TT:=fun σ H Q=>t σ H fun c H1=>if c=true then u σ H1 Q else Q false H1
def tOr (t u:TT):TT:=fun σ H Q=>t σ H fun c H1=>if c=true then Q true H1 else u σ H1 Q
def tNot (t:TT):TT:=fun σ H Q=>t σ H fun c H1=>Q (!c) H1
def jan (ha:PT X a tA):PW X (.BoolOp .And [a] pos) tA:=by
 intro wh pins s σ H Q I h;refine isTrue_and (thn (ha pins s σ H Q I h) fun c s1 e=>?_)
 cases c with
 |true=>exact isTrue_and_nil e
 |false=>exact e
def jca (ha:PT X a tA):PW X (.BoolOp .Or [a] pos) tA:=by
 intro wh pins s σ H Q I h;refine isTrue_or (thn (ha pins s σ H Q I h) fun c s1 e=>?_)
 cases c with
 |false=>exact isTrue_or_nil e
 |true=>exact e
def jcb (ha:PT X a tA) (hb:PW X (.BoolOp .And (b::rest) pos) tB'):PW X (.BoolOp .And (a::b::rest) pos) (tAnd tA tB'):=by
 intro wh pins s σ H Q I h;refine isTrue_and (thn (ha pins s σ H _ I h) fun c s1 ⟨H1,I1,q1⟩=>?_)
 cases c with
 |true=>exact hb wh pins s1 σ H1 Q I1 q1
 |false=>exact ⟨H1,I1,q1⟩
def jdB (ha:PT X a tA) (hb:PW X (.BoolOp .Or (b::rest) pos) tB'):PW X (.BoolOp .Or (a::b::rest) pos) (tOr tA tB'):=by
 intro wh pins s σ H Q I h;refine isTrue_or (thn (ha pins s σ H _ I h) fun c s1 ⟨H1,I1,q1⟩=>?_)
 cases c with
 |true=>exact ⟨H1,I1,q1⟩
 |false=>exact hb wh pins s1 σ H1 Q I1 q1
def uy (ha:PT X a tA):PT X (.UnaryOp .Not a pos) (tNot tA):=by
 intro pins s σ H Q I h;exact isTrue_not (ha pins s σ H (fun c H1=>Q (!c) H1) I h)
def jdt (ta tb:TE):TE:=fun σ H Q=>ta σ H fun x H1=> ∃c,x= .bl c/\if c=true then tb σ H1 Q else Q (.bl false) H1
def jdj (ta:TE):TE:=fun σ H Q=>ta σ H fun x H1=> ∃c,x= .bl c/\Q (.bl (!c)) H1
def jck {op} {t:TE} (h:PE X a t):PE X (.BoolOp op [a] pos) t:=fun pins s σ H Q I hw=>BoolOp_one (h pins s σ H Q I hw)
def jcp (ha:PE X a ta) (hb:PE X (.BoolOp .And (b::rest) pos) tb):PE X (.BoolOp .And (a::b::rest) pos) (jdt ta tb):=by
 intro pins s σ H Q I h;refine BoolOp_and (thn (ha pins s σ H _ I h) fun v s1 ⟨x,H1,I1,r1,q1⟩=>?_);obtain ⟨c,rfl,q1⟩:=q1;cases r1;refine abf ?_
 cases c with
 |true=>exact hb pins s1 σ H1 Q I1 q1
 |false=>exact ⟨.bl false,H1,I1,rfl,q1⟩
def jcl (ha:PE X a ta):PE X (.UnaryOp .Not a pos) (jdj ta):=by
 intro pins s σ H Q I h;refine UnaryOp_ (thn (ha pins s σ H _ I h) fun v s1 ⟨x,H1,I1,r1,q1⟩=>?_);obtain ⟨c,rfl,q1⟩:=q1;cases r1;exact not_of (abf ⟨.bl (!c),H1,I1,rfl,q1⟩)
def tIf (t:TT) (ta tb:TE):TE:=fun σ H Q=>t σ H fun c H1=>if c=true then ta σ H1 Q else tb σ H1 Q
def vq {c:Expr} (hc:PT X c tA) (ha:PE X a ta) (hb:PE X b tb):PE X (.IfExp c a b pos) (tIf tA ta tb):=by
 intro pins s σ H Q I h;refine wpAny_IfExp (thn (hc pins s σ H _ I h) fun d s1 ⟨H1,I1,q1⟩=>?_)
 cases d with
 |true=>exact ha pins s1 σ H1 Q I1 q1
 |false=>exact hb pins s1 σ H1 Q I1 q1
end
def SqL (K:aaa) (H:Hp) (a:Addr) (xs:List V):Prop:=
 Rd H a (.lst xs)\/
  ∃(o:Obj) (its:Array Value) (n:Nat),K.lookup a=some o/\o.cls= .type "list" /\o.dict=none/\o.data= .seq its n/\its.size<=aae/\Vals xs its.toList
def SqT (K:aaa) (H:Hp) (a:Addr) (xs:List V):Prop:=
 Rd H a (.tup xs)\/
  ∃(o:Obj) (its:Array Value) (n:Nat),K.lookup a=some o/\o.cls= .type "tuple" /\o.data= .seq its n/\its.size<=aae/\Vals xs its.toList
def absV:Value->Option V
 | .none=>some .non
 | .bool b=>some (.bl b)
 | .int i _=>some (.int i)
 | .str x _=>some (.str x)
 | .bytes b _=>some (.byt b)
 | .float b _=>some (.flt b)
 | .ref a=>some (.ref a)
 | .type n=>some (.ty n)
 |_=>none
def RelV.abs {x:V} {u:Value} (r:RelV x u):absV u=some x:=by
 cases x with
 |non=>cases r;rfl
 |bl _=>cases r;rfl
 |int _=>obtain ⟨t,rfl⟩:=r;rfl
 |str _=>obtain ⟨t,rfl⟩:=r;rfl
 |byt _=>obtain ⟨t,rfl⟩:=r;rfl
 |flt _=>obtain ⟨t,rfl⟩:=r;rfl
 |ref _=>cases r;rfl
 |ty _=>cases r;rfl
def RelV.inj {x y:V} {u:Value} (r:RelV x u) (q:RelV y u):x=y:=aaF (r.abs.symm.trans q.abs)
theorem Vals.inj: ∀ {xs ys:List V} {us:List Value},Vals xs us->Vals ys us->xs=ys
 |_,_,_,.nil,.nil=>rfl
 |_,_,_,.cons r t,.cons r' t'=>by rw [r.inj r',Vals.inj t t']
section
variable {X:Cx} {pins:List (Addr×Obj)} {σ:St} {H:Hp} {s:aad} {a:Addr} {xs ys:List V}
def SqL.of {K:aaa} (h:H a=some (.lst xs)):SqL K H a xs:= .inl (.inl h)
def SqT.of {K:aaa} (h:H a=some (.tup xs)):SqT K H a xs:= .inl (.inl h)
def Inv.list (I:Inv X pins σ H s) (h:SqL X.K H a xs): ∃its:List Value,Vals xs its/\PlainL s.heap a its.toArray/\xs.length<=aae:=by
 rcases h with h| ⟨o,its,n,hk,hc,hd,hs,hz,r⟩
 · obtain ⟨z,its,n,r,e⟩:=h.ok I.hok;exact ⟨its,r,⟨_,n,e,rfl,rfl,rfl⟩,z⟩
 · refine ⟨its.toList,r,⟨o,n,I.kIn a o hk,hc,hd,by simpa using hs⟩,?_⟩;have e:=r.length;simp only [abk] at e;omega
def Inv.tuple (I:Inv X pins σ H s) (h:SqT X.K H a xs): ∃its:List Value,Vals xs its/\IsTup s.heap a its.toArray/\xs.length<=aae:=by
 rcases h with h| ⟨o,its,n,hk,hc,hs,hz,r⟩
 · obtain ⟨z,its,r,p⟩:=h.ok I.hok;exact ⟨its,r,p,z⟩
 · refine ⟨its.toList,r,⟨o,I.kIn a o hk,hc,n,by simpa using hs⟩,?_⟩;have e:=r.length;simp only [abk] at e;omega
def Inv.list_inj (I:Inv X pins σ H s) (h:SqL X.K H a xs) (h':SqL X.K H a ys):xs=ys:=by
 obtain ⟨its,r,⟨o,n,e,_,_,d⟩,_⟩:=I.list h;obtain ⟨its',r',⟨o',n',e',_,_,d'⟩,_⟩:=I.list h';rw [e] at e';cases e';rw [d] at d';injection d' with d1 _;have:its=its':=by simpa using congrArg Array.toList d1
 subst this;exact r.inj r'
def Inv.tuple_inj (I:Inv X pins σ H s) (h:SqT X.K H a xs) (h':SqT X.K H a ys):xs=ys:=by
 obtain ⟨its,r,⟨o,e,_,n,d⟩,_⟩:=I.tuple h;obtain ⟨its',r',⟨o',e',_,n',d'⟩,_⟩:=I.tuple h';rw [e] at e';cases e';rw [d] at d';injection d' with d1 _;have:its=its':=by simpa using congrArg Array.toList d1
 subst this;exact r.inj r'
end
abbrev Cx.wish (X:Cx) (E:Xk):Cx:={X with xe:=E}
abbrev Cx.nox (X:Cx):Cx:=X.wish fun _ _=>False
def Cx.Ok.wish {X:Cx} (ok:X.Ok) (E:Xk):(X.wish E).Ok:=
 ⟨ok.mod,ok.kind,ok.glob,ok.blt,ok.above,ok.inj,ok.has,ok.cab,ok.hd,ok.frames,ok.stk,ok.exf,ok.bs,ok.bsz,ok.noex,ok.exfs,ok.funs,ok.frf⟩
def Cx.Ok.unwish {X:Cx} {E:Xk} (ok:(X.wish E).Ok):X.Ok:=
 ⟨ok.mod,ok.kind,ok.glob,ok.blt,ok.above,ok.inj,ok.has,ok.cab,ok.hd,ok.frames,ok.stk,ok.exf,ok.bs,ok.bsz,ok.noex,ok.exfs,ok.funs,ok.frf⟩
section
variable {X:Cx} {pins:List (Addr×Obj)} {σ:St} {H:Hp} {s:aad} {E:Xk}
def Inv.wish (I:Inv X pins σ H s) (E:Xk):Inv (X.wish E) pins σ H s:=⟨I.ok.wish E,I.os,I.bare,I.base,I.loc,I.cell,I.free,I.freeC,I.pin,I.hok,I.len⟩
def Inv.unwish (I:Inv (X.wish E) pins σ H s):Inv X pins σ H s:=⟨I.ok.unwish,I.os,I.bare,I.base,I.loc,I.cell,I.free,I.freeC,I.pin,I.hok,I.len⟩
def SP.unwish {D:Ends} {f:Flow} {s':aad} (h:SP (X.wish E) pins D f s'):SP X pins D f s':=by
 cases f with
 |next=>obtain ⟨σ',H',I,q⟩:=h;exact ⟨σ',H',I.unwish,q⟩
 |brk=>obtain ⟨σ',H',I,q⟩:=h;exact ⟨σ',H',I.unwish,q⟩
 |cont=>obtain ⟨σ',H',I,q⟩:=h;exact ⟨σ',H',I.unwish,q⟩
 |ret u=>obtain ⟨v,σ',H',I,r,q⟩:=h;exact ⟨v,σ',H',I.unwish,r,q⟩
def PSs.nox {st:List Stmt} {t:TS} (h:PSs X.nox st t):PSs X st t:=fun pins s σ H D I hw=>
 abR (h pins s σ H D (I.wish _) hw) (fun _ _ q=>q.unwish) fun _ _ z=>aba z
end
section
variable {X:Cx} {st:Stmt} {rest:List Stmt} {t u:TS} {e:Expr} {te:TE} {pos:Pos}
def jdk:TS:=fun D σ H=>D.nx σ H
def tSeq (t u:TS):TS:=fun D σ H=>t {D with nx:=u D} σ H
def Zz:PSs X [] jdk:=fun _ _ σ H _ I h=>aci ⟨σ,H,I,h⟩
def zK (h1:PS X st t) (h2:PSs X rest u):PSs X (st::rest) (tSeq t u):=by
 intro pins s σ H D I h;refine wpAny_execs_cons (thn (h1 pins s σ H {D with nx:=u D} I h) fun f s1 q=>?_)
 cases f with
 |next=>
  obtain ⟨σ',H',I',q⟩:=q;exact h2 pins s1 σ' H' D I' q
 |ret v=>exact q
 |brk=>exact q
 |cont=>exact q
def J5 (h1:PS X st t):PSs X [st] t:=by
 intro pins s σ H D I h;refine wpAny_execs_cons (thn (h1 pins s σ H D I h) fun f s1 q=>?_)
 cases f with
 |next=>exact aci q
 |ret v=>exact q
 |brk=>exact q
 |cont=>exact q
def jdo:TS:=fun D σ H=>D.ct σ H
def Xp:PS X (.Continue pos) jdo:=fun _ _ σ H _ I h=>wpAny_Continue ⟨σ,H,I,h⟩
def Inv.quiet {pins:List (Addr×Obj)} {σ:St} {H:Hp} {s:aad} (I:Inv X pins σ H s):interactive X.env=false:=by simp [interactive,I.ok.kind]
def jdn (te:TE):TS:=fun D σ H=>te σ H fun _ H1=>D.nx σ H1
def Je (he:PE X e te) (hs:abA e none pos.line X.env=pure false:=by rfl):PS X (.Expr e pos) (jdn te):=by
 intro pins s σ H D I h;exact wpAny_Expr_any (thn (he pins s σ H _ I h) fun v s1 ⟨x,H1,I1,r1,q1⟩=>⟨σ,H1,I1,q1⟩) I.quiet hs
def tRet (te:TE):TS:=fun D σ H=>te σ H D.rt
def Q0 (he:PE X e te):PS X (.Return (some e) pos) (tRet te):=by
 intro pins s σ H D I h;exact wpAny_Return_some (thn (he pins s σ H _ I h) fun v s1 ⟨x,H1,I1,r1,q1⟩=>⟨x,σ,H1,I1,r1,q1⟩)
def tIfS (c:TT) (t u:TS):TS:=fun D σ H=>c σ H fun b H1=>if b=true then t D σ H1 else u D σ H1
def Xo {c:Expr} {a b:List Stmt} {tc:TT} (hc:PT X c tc) (ha:PSs X a t) (hb:PSs X b u):PS X (.If c a b pos) (tIfS tc t u):=by
 intro pins s σ H D I h;refine wpAny_If (thn (hc pins s σ H _ I h) fun d s1 ⟨H1,I1,q1⟩=>?_)
 cases d with
 |true=>exact ha pins s1 σ H1 D I1 q1
 |false=>exact hb pins s1 σ H1 D I1 q1
end
abbrev TG:=V->St->Hp->(St->Hp->Prop)->Prop
abbrev TGs:=List V->St->Hp->(St->Hp->Prop)->Prop
def PG (X:Cx) (target:Expr) (t:TG):Prop:=
 ∀(pins:List (Addr×Obj)) (s:aad) (σ:St) (H:Hp) (v:V) (u:Value) (Q:St->Hp->Prop),Inv X pins σ H s->RelV v u->t v σ H Q->
  wpAny (model X.prog X.w) X.A (assign target X.env u) (fun _ s'=> ∃σ' H',Inv X pins σ' H' s'/\Q σ' H') X.xe s
def PGs (X:Cx) (ts:List Expr) (t:TGs):Prop:=
 ∀(pins:List (Addr×Obj)) (s:aad) (σ:St) (H:Hp) (vs:List V) (us:List Value) (Q:St->Hp->Prop),Inv X pins σ H s->Vals vs us->t vs σ H Q->
  wpAny (model X.prog X.w) X.A (assignInOrder ((abE ts X.env).map (·.2)) us) (fun _ s'=> ∃σ' H',Inv X pins σ' H' s'/\Q σ' H') X.xe s
abbrev TIp:=V->V->Hp->VK->Prop
def PIp (X:Cx) (op:acv) (t:TIp):Prop:=
 ∀(pins:List (Addr×Obj)) (s:aad) (σ:St) (H:Hp) (x y:V) (v u:Value) (Q:VK),Inv X pins σ H s->RelV x v->RelV y u->t x y H Q->
  wpAny (model X.prog X.w) X.A (inplaceOp op v u) (EP X pins σ Q) X.xe s
section
variable {X:Cx} {pos:Pos}
def jcU (i:Nat):TG:=fun v σ H Q=>Q (σ.set i (some v)) H
def VJ {i:Nat} {x:Str} (hN:X.N.Nodup) (hi:X.N[i]?=some x) (hx:Loc X.env.scope x) (hf:Vy X x:=by first|exact .inl rfl|exact .inr rfl|assumption):PG X (.Name x pos) (jcU i):=by
 intro pins s σ H v u Q I r h;exact wpAny_assign_Name (JL I hN hi hx r (fun s' I'=>⟨_,H,I',h⟩) hf)
def gNil:TGs:=fun vs σ H Q=>vs=[]/\Q σ H
def jdN (t:TG) (u:TGs):TGs:=fun vs σ H Q=> ∃v r,vs=v::r/\t v σ H fun σ' H'=>u r σ' H' Q
def jay:PGs X [] gNil:=by
 intro pins s σ H vs us Q I r h;obtain ⟨e,h⟩:=h;subst e;cases r;exact assignInOrder_nil ⟨σ,H,I,h⟩
def Yx {e:Expr} {es:List Expr} {t:TG} {u:TGs} (h1:PG X e t) (h2:PGs X es u)
  (hs:(abE (e::es) X.env).map (·.2)=assign e X.env::(abE es X.env).map (·.2):=by rfl):PGs X (e::es) (jdN t u):=by
 intro pins s σ H vs us Q I r h;obtain ⟨v,vr,e1,h⟩:=h;subst e1
 cases r with
 |cons r rr=>
  rw [hs];refine assignInOrder_cons (thn (h1 pins s σ H _ _ _ I r h) fun _ s1 ⟨σ1,H1,I1,q1⟩=>?_);exact h2 pins s1 σ1 H1 _ _ Q I1 rr q1
def gTup (K:aaa) (n:Nat) (t:TGs):TG:=fun v σ H Q=> ∃a xs,v= .ref a/\SqT K H a xs/\xs.length=n/\t xs σ H Q
def jci {es:List Expr} {k:Nat} {t:TGs} {n:Nat} (hc:X.calm=true) (h:PGs X es t)
  (hn:(abE es X.env).length=n:=by rfl) (hst:(abE es X.env).findIdx? (·.1)=none:=by rfl):PG X (.Tuple es k pos) (gTup X.K n t):=by
 intro pins s σ H v u Q I r hw;obtain ⟨a,xs,e1,hq,hl,hw⟩:=hw;subst e1;cases r;obtain ⟨its,rv,ht,hz⟩:=I.tuple hq;refine assign_Tuple_tuple (I.ok.hd hc) ht (by simp [hn,←hl,rv.length]) hst fun h' hx=>?_
 have I1:Inv X pins σ H {s with heap:=h'}:=I.kept (t':=s.toks) fun b o e=>hx b o (aa0 (aau e)) e
 exact h pins _ σ H xs _ Q I1 (by simpa using rv) hw
def tAsg (te:TE) (g:TG):TS:=fun D σ H=>te σ H fun x H1=>g x σ H1 D.nx
def uz {tg e:Expr} {te:TE} {g:TG} (he:PE X e te) (hg:PG X tg g) (hs:swapsWithSole [tg] e pos.line X.env=pure false:=by rfl) (hw:swappedStores [tg] e X.env=pure none:=by rfl)
  (h1:(abE [tg] X.env).map (·.2)=[assign tg X.env]:=by rfl):PS X (.Assign [tg] e pos) (tAsg te g):=by
 intro pins s σ H D I h;refine wpAny_Assign_stores (thn (he pins s σ H _ I h) fun v s1 ⟨x,H1,I1,r1,q1⟩=>?_) hs hw;rw [h1];exact thn (hg pins s1 σ H1 x v _ I1 r1 q1) fun _ s2 q=>q
def JA {i:Nat} {x:Str} {e:Expr} {te:TE} {pos':Pos} (hN:X.N.Nodup) (hi:X.N[i]?=some x) (hx:Loc X.env.scope x) (he:PE X e te) (hs:abA e (some (.Name x pos')) pos.line X.env=pure false:=by rfl) (hf:Vy X x:=by first|exact .inl rfl|exact .inr rfl|assumption):
  PS X (.Assign [.Name x pos'] e pos) (tAsg te (jcU i)):=by
 intro pins s σ H D I h;refine wpAny_Assign_Name (thn (he pins s σ H _ I h) fun v s1 ⟨y,H1,I1,r1,q1⟩=>?_) hs;exact JL I1 hN hi hx r1 (fun s2 I2=>⟨_,H1,I2,q1⟩) hf
def tAug (i:Nat) (te:TE) (ti:TIp):TS:=fun D σ H=> ∃x,σ[i]?=some (some x)/\te σ H fun y H1=>ti x y H1 fun z H2=>D.nx (σ.set i (some z)) H2
def jch {i:Nat} {x:Str} {e:Expr} {te:TE} {op:acv} {ti:TIp} {pos':Pos} (hN:X.N.Nodup) (hi:X.N[i]?=some x) (hx:Loc X.env.scope x) (he:PE X e te) (ho:PIp X op ti) (hf:Vy X x:=by first|exact .inl rfl|exact .inr rfl|assumption):
   PS X (.AugAssign (.Name x pos') op e pos) (tAug i te ti):=by
 intro pins s σ H D I h;obtain ⟨v,e1,h⟩:=h;obtain ⟨m,hn,hl⟩:=I.loc;have vis:Vis X.env.scope x:=by rcases hx with k|k;exact .inl k;exact .inr (.inl k)
 obtain ⟨u,r,l⟩:=hl i x v hi e1 vis;refine wpAny_AugAssign_Name ?_
 have go:wpAny (model X.prog X.w) X.A (eval e X.env) (fun w s₂=>wpAny (model X.prog X.w) X.A (inplaceOp op u w) (fun r s₃=>wpAny (model X.prog X.w) X.A (storeName X.env x r) (fun _=>SP X pins D .next) X.xe s₃) X.xe s₂) X.xe s:=by
   refine thn (he pins s σ H _ I h) fun w s1 ⟨y,H1,I1,r1,q1⟩=>?_
   refine thn (ho pins s1 σ H1 v y u w _ I1 r r1 q1) fun z s2 ⟨zv,H2,I2,r2,q2⟩=>?_
   exact JL I2 hN hi hx r2 (fun s3 I3=>⟨_,H2,I3,q2⟩) hf
 rcases l with ⟨hk,hm⟩| ⟨hk,c,hc,hcell⟩
 · exact wpAny_loadName_local I.ok.kind hk hn hm go
 · rcases hk with hk|hk
   · exact wpAny_loadName_cell I.ok.kind hk hc hcell go
   · rcases hx with k|k
     · have:X.env.scope.names.lookup x=some .free:=hk;rw [k] at this;cases this
     · have:X.env.scope.names.lookup x=some .free:=hk;rw [k] at this;cases this
def ipI (f:Int->Int->Int):TIp:=fun x y H Q=> ∃i j,x= .int i/\y= .int j/\Q (.int (f i j)) H
def uH:PIp X .Add (ipI fun i j=>i+j):=by
 intro pins s σ H x y v u Q I r1 r2 h;obtain ⟨i,j,e1,e2,q⟩:=h;subst e1;subst e2;obtain ⟨t,rfl⟩:=r1;obtain ⟨t',rfl⟩:=r2;exact iadd_int ⟨.int _,H,I.tok _,⟨_,rfl⟩,q⟩
def jbU (c:TT) (tb:TS):TS:=fun D σ H=> ∃W:Nat->St->Hp->Prop,(∃m,W m σ H)/\ ∀m σ H,W m σ H->
 c σ H fun b H1=>if b=true then∃N:St->Hp->Prop,(∀σ' H',N σ' H'-> ∃m',m'<m/\W m' σ' H')/\tb {D with nx:=N,ct:=N,bk:=D.nx} σ H1 else D.nx σ H1
def ZA {c:Expr} {body:List Stmt} {tc:TT} {tb:TS} (hp:PassesOwn (model X.prog X.w) X.A X.env X.xe) (hc:PT X c tc) (hb:PSs X body tb):PS X (.While c body [] pos) (jbU tc tb):=by
 intro pins s σ H D I h;obtain ⟨W,⟨m0,w0⟩,turn⟩:=h;refine wpAny_While (codeAny_whileLoop (fun n s'=> ∃σ' H',Inv X pins σ' H' s'/\W n σ' H') ?_ m0 ⟨σ,H,I,w0⟩);rintro n s1 ⟨σ1,H1,I1,w1⟩;refine abS hp (thn (hc pins s1 σ1 H1 _ I1 (turn n σ1 H1 w1)) fun b s2 ⟨H2,I2,q2⟩=>?_)
 cases b with
 |true=>
  obtain ⟨N,hN,q2⟩:=q2;rw [if_pos rfl];refine abS hp (thn (hb pins s2 σ1 H2 _ I2 q2) fun f s3 q3=>?_)
  cases f with
  |next=>
   obtain ⟨σ3,H3,I3,n3⟩:=q3;obtain ⟨m',hm,w3⟩:=hN σ3 H3 n3;exact ⟨m',hm,σ3,H3,I3,w3⟩
  |cont=>
   obtain ⟨σ3,H3,I3,n3⟩:=q3;obtain ⟨m',hm,w3⟩:=hN σ3 H3 n3;exact ⟨m',hm,σ3,H3,I3,w3⟩
  |brk=>exact q3
  |ret v=>exact q3
 |false=>
  rw [if_neg aaz];exact aci ⟨σ1,H2,I2,q2⟩
end
structure It where
 go:Nat->Hp->Prop
 yld:Nat->Hp->V->Hp->Prop
 stop:Nat->Hp->Prop
def FpOk (X:Cx) (pins:List (Addr×Obj)) (H:Hp) (b:Addr):Prop:=
 H b=none/\b≠X.env.locals/\b∉X.fs/\(b∈X.ex\/X.s₀.heap.objs.size<=b)/\(∀x c,X.env.cells.lookup x=some c->c≠b)/\ ∀p∈X.pn++pins,p.1≠b
def Inv.fpOk {X:Cx} {pins:List (Addr×Obj)} {σ:St} {H H':Hp} {s:aad} {b:Addr} (I:Inv X pins σ H s) (hb:s.heap.objs.size<=b) (hn:H' b=none):FpOk X pins H' b:=by
 refine ⟨hn,Nat.ne_of_gt (aat I.lt hb),I.nofs hb,.inr (aaq I.sz hb),fun x c e z=>?_,fun p hp z=>?_⟩
 · obtain ⟨v,q⟩:=I.cell x c e;exact absurd (aat q.lt (by rw [z];exact hb)) (abI _)
 · exact absurd (aat (aau (I.pin p hp).1) (by rw [z];exact hb)) (abI _)
structure Turn (P:aaB) (w:World) (K:aaa) (tg:Expr) (J:It) (fp:List Addr) (it:Addr) (tn:Nat->Heap->Prop):Prop where
 mem:it∈fp
 obj: ∀i h,tn i h-> ∀b∈fp,∃o,h.get? b=some o/\ ∀v,o.data≠ .cell v
 keep: ∀i h h',tn i h->(∀b∈fp,∀o,h.get? b=some o->h'.get? b=some o)->tn i h'
 item: ∀(X:Cx),X.prog=P->X.w=w->X.K=K->X.calm=true-> ∀(i:Nat) (pins:List (Addr×Obj)) (s:aad) (σ:St) (H:Hp) (E:Xk),Inv X pins σ H s->(∀b∈fp,FpOk X pins H b)->tn i s.heap->J.go i H->
  wpAny (model P w) X.A (pyNext (.ref it)) (fun r s1=> ∃u,r=some u/\
   wpAny (model P w) X.A (acI tg (.ref it) u) (fun _ s2=> ∃x H',Inv X pins σ H' s2/\RelV x u/\J.yld i H x H'/\tn (i+1) s2.heap/\ ∀b∈fp,H' b=none) E s1) E s
 done: ∀(X:Cx),X.prog=P->X.w=w->X.K=K->X.calm=true-> ∀(i:Nat) (pins:List (Addr×Obj)) (s:aad) (σ:St) (H:Hp) (E:Xk),Inv X pins σ H s->(∀b∈fp,FpOk X pins H b)->tn i s.heap->J.stop i H->
  wpAny (model P w) X.A (pyNext (.ref it)) (fun r s1=>r=none/\Inv X pins σ H s1) E s
 self: ∀(A:aaZ) (i:Nat) (s:aad) (Q:Xk) (E:Xk),tn i s.heap->Q (.ref it) s->wpAny (model P w) A (pyIter (.ref it)) Q E s
abbrev TI:=St->Hp->(It->Hp->Prop)->Prop
def PIE (X:Cx) (pins:List (Addr×Obj)) (σ:St) (tg:Expr) (R:It->Hp->Prop) (itv:Value) (s2:aad):Prop:=
 ∃(it:Addr) (fp:List Addr) (tn:Nat->Heap->Prop) (J:It) (H':Hp),itv= .ref it/\Inv X pins σ H' s2/\Turn X.prog X.w X.K tg J fp it tn/\tn 0 s2.heap/\(∀b∈fp,FpOk X pins H' b)/\R J H'
def PI (X:Cx) (tg iter:Expr) (wi:TI):Prop:=
 ∀(pins:List (Addr×Obj)) (s:aad) (σ:St) (H:Hp) (R:It->Hp->Prop),Inv X pins σ H s->wi σ H R->
  wpAny (model X.prog X.w) X.A (eval iter X.env) (fun v s1=>wpAny (model X.prog X.w) X.A (pyIter v) (PIE X pins σ tg R) X.xe s1) X.xe s
def UC {M : Model} {A : aaZ} {E : Value -> aad -> Prop} {s : aad} {tg : Expr} {it : Addr} {u : Value} {o : Obj} {n : String} {vs : Array Value} {Q : Unit -> aad -> Prop} (ho : s.heap.get? it = some o) (hc : o.cls = .type n) (hd : o.data = .fields vs)
    (hn : ["enumerate", "zip", "dict_itemiterator", "dict_reverseitemiterator", "odict_iterator", "itertools.zip_longest", "itertools.pairwise"].contains n = false) (hQ : Q () s) : wpAny M A (acI tg (.ref it) u) Q E s := by
  unfold acI
  cases tg <;> first
    | exact aam hQ
    | (cases u <;> first
        | exact aam hQ
        | (refine aaf (wpAny_load ho ?_)
           rw [hc, hd]
           show wpAny M A (if (["enumerate", "zip", "dict_itemiterator", "dict_reverseitemiterator", "odict_iterator", "itertools.zip_longest", "itertools.pairwise"].contains n && vs[0]? == some (rawInt _)) = true then _ else _) Q E s
           rw [if_neg (by intro h; rw [hn, Bool.false_and] at h; cases h)]
           exact aam hQ))
def Itl (K:aaa) (a:Addr):It:=
 ⟨fun i H=> ∃xs x,SqL K H a xs/\xs[i]?=some x,fun i H x H'=>H'=H/\ ∀xs,SqL K H a xs->xs[i]?=some x,fun i H=> ∃xs,SqL K H a xs/\xs.length<=i⟩
def Itt (K:aaa) (a:Addr):It:=
 ⟨fun i H=> ∃xs x,SqT K H a xs/\xs[i]?=some x,fun i H x H'=>H'=H/\ ∀xs,SqT K H a xs->xs[i]?=some x,fun i H=> ∃xs,SqT K H a xs/\xs.length<=i⟩
def Itr (lo:Int) (n:Nat):It:=⟨fun i _=>i<n,fun i H x H'=>H'=H/\x= .int (lo+i),fun i _=>n<=i⟩
def Wn {P:aaB} {w:World} {K:aaa} {tg:Expr} (a it:Addr):Turn P w K tg (Itl K a) [it] it (fun i h=>h.IsListIter it a i) where
 mem:=by simp
 obj:=fun i h st b hb=>by
  have e:b=it:=by simpa using hb
  subst e;obtain ⟨o,e,c,d⟩:=st;exact ⟨o,e,fun v z=>by rw [d] at z;cases z⟩
 keep:=fun i h h' st k=>st.at fun o e=>k it (by simp) o e
 item:=by
  intro X hP hw hK hc i pins s σ H E I hf st hg;subst hP hw hK;obtain ⟨xs,x,hq,hx⟩:=hg;obtain ⟨its,rv,p,hz⟩:=I.list hq;obtain ⟨u,hu,ru⟩:=rv.get hx;obtain ⟨f0,f1,f2,f3,f4,f5⟩:=hf it (by simp);refine wpAny_pyNext_list_item st p.isList (x:=u) (by simpa using hu) fun h' st' sb=>?_
  have I1:Inv X pins σ H {s with heap:=h'}:=I.turned (t':=s.toks) (fun b o hb e=>(sb.2 b hb).trans e) f0 f1 f3 f4 f5;obtain ⟨o,e,c,d⟩:=id st';exact ⟨u,rfl,UC (s:={s with heap:=h'}) e c d (by decide) ⟨x,H,I1,ru,⟨rfl,fun ys hy=>by rw [I.list_inj hy hq];exact hx⟩,st',fun b hb=>(hf b hb).1⟩⟩
 done:=by
  intro X hP hw hK hc i pins s σ H E I hf st hg;subst hP hw hK;obtain ⟨xs,hq,hx⟩:=hg;obtain ⟨its,rv,p,hz⟩:=I.list hq;obtain ⟨f0,f1,f2,f3,f4,f5⟩:=hf it (by simp);have hl:=rv.length;exact wpAny_pyNext_list_end (I.ok.hd hc) st p.isList (by simp;omega) fun h' eb=>⟨rfl,I.turned (t':=s.toks) (fun b o hb e=>eb b o hb e) f0 f1 f3 f4 f5⟩
 self:=fun _ _ _ _ _ st h=>wpAny_pyIter_listiter st h
def Ku {P:aaB} {w:World} {K:aaa} {tg:Expr} (a it:Addr):Turn P w K tg (Itt K a) [it] it (fun i h=>h.IsTupleIter it a i) where
 mem:=by simp
 obj:=fun i h st b hb=>by
  have e:b=it:=by simpa using hb
  subst e;obtain ⟨o,e,c,d⟩:=st;exact ⟨o,e,fun v z=>by rw [d] at z;cases z⟩
 keep:=fun i h h' st k=>st.at fun o e=>k it (by simp) o e
 item:=by
  intro X hP hw hK hc i pins s σ H E I hf st hg;subst hP hw hK;obtain ⟨xs,x,hq,hx⟩:=hg;obtain ⟨its,rv,p,hz⟩:=I.tuple hq;obtain ⟨u,hu,ru⟩:=rv.get hx;obtain ⟨f0,f1,f2,f3,f4,f5⟩:=hf it (by simp);refine wpAny_pyNext_tuple_item st (show s.heap.IsTuple a its.toArray from p) (x:=u) (by simpa using hu) fun h' st' sb=>?_
  have I1:Inv X pins σ H {s with heap:=h'}:=I.turned (t':=s.toks) (fun b o hb e=>(sb.2 b hb).trans e) f0 f1 f3 f4 f5;obtain ⟨o,e,c,d⟩:=id st';exact ⟨u,rfl,UC (s:={s with heap:=h'}) e c d (by decide) ⟨x,H,I1,ru,⟨rfl,fun ys hy=>by rw [I.tuple_inj hy hq];exact hx⟩,st',fun b hb=>(hf b hb).1⟩⟩
 done:=by
  intro X hP hw hK hc i pins s σ H E I hf st hg;subst hP hw hK;obtain ⟨xs,hq,hx⟩:=hg;obtain ⟨its,rv,p,hz⟩:=I.tuple hq;obtain ⟨f0,f1,f2,f3,f4,f5⟩:=hf it (by simp);have hl:=rv.length;exact wpAny_pyNext_tuple_end (I.ok.hd hc) st (show s.heap.IsTuple a its.toArray from p) (by simp;omega) fun h' eb=>⟨rfl,I.turned (t':=s.toks) (fun b o hb e=>eb b o hb e) f0 f1 f3 f4 f5⟩
 self:=fun _ _ _ _ _ st h=>wpAny_pyIter_tupleiter st h
def Kv {P:aaB} {w:World} {K:aaa} {tg:Expr} (it:Addr) (lo:Int) (n:Nat):Turn P w K tg (Itr lo n) [it] it (fun i h=>IsRangeIter h it (lo+(i:Nat)*1) ((n:Int)-(i:Nat)) 1) where
 mem:=by simp
 obj:=fun i h st b hb=>by
  have e:b=it:=by simpa using hb
  subst e
  exact ⟨_,st,fun v z=>by
   have z':Data.fields _=Data.cell v:=z
   cases z'⟩
 keep:=fun i h h' st k=>k it (by simp) _ st
 item:=by
  intro X hP hw hK hc i pins s σ H E I hf st hg;subst hP hw hK;obtain ⟨f0,f1,f2,f3,f4,f5⟩:=hf it (by simp);have W:=Walks.range (prog:=X.prog) (w:=X.w) (I.ok.hd hc) it lo 1 n;refine W.item i s _ _ hg st fun v h' tk hv st' kk=>?_
  obtain ⟨t,rfl⟩:=hv;have I1:Inv X pins σ H {s with heap:=h',toks:=tk}:=I.turned (fun b o hb e=>kk b o (by simpa using hb) e) f0 f1 f3 f4 f5;refine ⟨_,rfl,UC (s:={s with heap:=h',toks:=tk}) (n:= "range_iterator") st' rfl rfl (by decide) ⟨.int (lo+i),H,I1,⟨t,?_⟩,⟨rfl,rfl⟩,st',fun b hb=>(hf b hb).1⟩⟩;rw [Int.mul_one]
 done:=by
  intro X hP hw hK hc i pins s σ H E I hf st hg;subst hP hw hK;obtain ⟨f0,f1,f2,f3,f4,f5⟩:=hf it (by simp);exact wpAny_pyNext_range_end (I.ok.hd hc) st (by have:n<=i:=hg;omega) fun h' eb=>⟨rfl,I.turned (t':=s.toks) (fun b o hb e=>eb b o hb e) f0 f1 f3 f4 f5⟩
 self:=fun _ _ _ _ _ st h=>wpAny_pyIter_rangeiter st h
section
variable {X:Cx} {tg:Expr}
def vf {pins:List (Addr×Obj)} {σ:St} {H:Hp} {s:aad} {R:It->Hp->Prop} {E:Xk} {lo hi:Int} {t u v:Tok} {tk:Nat} (I:Inv X pins σ H s) (h1: -(2^62)<=lo) (h2:lo<2^62) (h3: -(2^62)<=hi) (h4:hi<2^62)
   (q:R (Itr lo (hi-lo).toNat) H):wpAny (model X.prog X.w) X.A (pyIter (.ref s.heap.objs.size)) (PIE X pins σ tg R) E {s with heap:=s.heap.push {cls:= .type "range",data:= .fields #[.int lo t,.int hi u,.int 1 v]},toks:=tk}:=by
 refine wpAny_pyIter_range (IsRange.new ..) (small_one h1 h2 h3 h4) ?_;have I1:Inv X pins σ H {s with heap:=s.heap.push {cls:= .type "range",data:= .fields #[.int lo t,.int hi u,.int 1 v]},toks:=tk}:=I.kept fun b o e=>aak _ e
 refine ⟨(s.heap.push {cls:= .type "range",data:= .fields #[.int lo t,.int hi u,.int 1 v]}).objs.size,[(s.heap.push {cls:= .type "range",data:= .fields #[.int lo t,.int hi u,.int 1 v]}).objs.size],_,_,H,rfl,
   I1.kept (t':=tk) fun b o e=>aak _ e,Kv _ lo (hi-lo).toNat,?_,fun b hb=>?_,q⟩
 · have e1:lo+((0:Nat):Int)*1=lo:=by simp
   have e2:(((hi-lo).toNat:Nat):Int)-((0:Nat):Int)=Builtin.Range.rangeSize lo hi 1:=by rw [rangeSize_one];split<;>omega
   show IsRangeIter _ _ (lo+((0:Nat):Int)*1) ((((hi-lo).toNat:Nat):Int)-((0:Nat):Int)) 1;rw [e1,e2];exact aaG _ rfl
 · have e:b=(s.heap.push {cls:= .type "range",data:= .fields #[.int lo t,.int hi u,.int 1 v]}).objs.size:=by simpa using hb
   subst e;exact I1.fpOk (aas _) (I1.hok.fresh (aas _))
def jdM (ta:TA):TI:=fun σ H R=>ta σ H fun vs H1=> ∃j:Int,vs=[.int j]/\ -(2^62)<=j/\j<2^62/\R (Itr 0 j.toNat) H1
def VI {a:Expr} {ta:TA} {p pos:Pos} (hg:Gl X "range") (hm:X.mg "range" =none) (ha:PA X [a] ta) (hs:aac [a] X.env=[(false,eval a X.env)]:=by rfl):PI X tg (.Call (.Name "range" p) [a] [] pos) (jdM ta):=by
 intro pins s σ H R I h;refine Call_ (YT I hg hm boot_range (acJ (thn (ha pos pins s σ H _ I h) fun us s1 ⟨vs,H1,I1,r1,q1⟩=>?_) hs rfl));obtain ⟨j,e,q1,q2,q⟩:=q1;subst e
 cases r1 with
 |cons r rr=>
  cases rr;obtain ⟨t,rfl⟩:=r;exact call_range_1 (vf I1 (by omega) (by omega) q1 q2 (by simpa using q))
def tFor (wi:TI) (g:TG) (tb:TS):TS:=fun D σ H=>wi σ H fun J H1=> ∃W:Nat->Nat->St->Hp->Prop,(∃m,W 0 m σ H1)/\ ∀i m σ H,W i m σ H->
 (J.stop i H/\D.nx σ H)\/(J.go i H/\ ∃N:St->Hp->Prop,(∀σ' H',N σ' H'-> ∃m',m'<m/\W (i+1) m' σ' H')/\ ∀x H',J.yld i H x H'->g x σ H' fun σ2 H2=>tb {D with nx:=N,ct:=N,bk:=D.nx} σ2 H2)
def Wu (fp:List Addr) (h:Heap):List (Addr×Obj):=fp.filterMap fun b=>(h.get? b).map fun o=>(b,o)
def xY {fp:List Addr} {h:Heap} {b:Addr} {o:Obj} (hb:b∈fp) (e:h.get? b=some o):(b,o)∈Wu fp h:=acj.mpr ⟨b,hb,by rw [e];rfl⟩
def VV {fp:List Addr} {h:Heap} {p:Addr×Obj} (hp:p∈Wu fp h):p.1∈fp/\h.get? p.1=some p.2:=by
 obtain ⟨b,hb,e⟩:=acj.mp hp
 cases q:h.get? b with
 |none=>rw [q] at e;cases e
 |some o=>
  rw [q] at e;have e':(b,o)=p:=aaF e;subst e';exact ⟨hb,q⟩
def Inv.pinned {pins:List (Addr×Obj)} {σ:St} {H:Hp} {s:aad} {fp:List Addr} (I:Inv X pins σ H s) (hf: ∀b∈fp,FpOk X pins H b) (ho: ∀b∈fp,∃o,s.heap.get? b=some o/\ ∀v,o.data≠ .cell v):Inv X (pins++Wu fp s.heap) σ H s:=
 I.pins_of fun p hp=>(aa4.mp hp).elim (fun z=>I.pin p (aaQ _ z)) fun z=>by
  obtain ⟨hb,e⟩:=VV z;obtain ⟨f0,f1,f2,_⟩:=hf p.1 hb;obtain ⟨o,e',d⟩:=ho p.1 hb;rw [e] at e';cases e';exact ⟨e,f0,f1,f2,d⟩
def Inv.unpinned {pins pl:List (Addr×Obj)} {σ:St} {H:Hp} {s:aad} (I:Inv X (pins++pl) σ H s):Inv X pins σ H s:=I.pins_of fun p hp=>I.pin p (aaQ _ (abr _ hp))
def jcf {iter:Expr} {body:List Stmt} {wi:TI} {g:TG} {tb:TS} {pos:Pos} (hp:PassesOwn (model X.prog X.w) X.A X.env X.xe) (hc:X.calm=true) (hi:PI X tg iter wi) (hg:PG X tg g) (hb:PSs X body tb)
   (hs: ∀x,acs iter X.env x=pure x:=by intro _;rfl):PS X (.For tg iter body [] pos) (tFor wi g tb):=by
 intro pins s σ H D I h;refine wpAny_For (thn (hi pins s σ H _ I h) fun v s1 h1=>thn h1 fun itv s2 h2=>?_) hs;obtain ⟨it,fp,tn,J,H2,e,I2,T,st2,f2,W,⟨m0,w0⟩,turn⟩:=h2;subst e;have stat: ∀ {H':Hp},(∀b∈fp,H' b=none)-> ∀b∈fp,FpOk X pins H' b:=fun hn b hb=>⟨hn b hb,(f2 b hb).2⟩
 refine codeAny_forLoop_any (fun n s'=> ∃i σ' H',Inv X pins σ' H' s'/\tn i s'.heap/\(∀b∈fp,H' b=none)/\W i n σ' H') ?_ m0 ⟨0,σ,H2,I2,st2,fun b hb=>(f2 b hb).1,w0⟩;rintro n s3 ⟨i,σ3,H3,I3,st3,fr3,w3⟩;rcases turn i n σ3 H3 w3 with ⟨stop,qn⟩| ⟨go,N,hN,step⟩
 · refine abS hp (thn (T.done X rfl rfl rfl hc i pins s3 σ3 H3 X.xe I3 (stat fr3) st3 stop) fun r s4 ⟨hr,I4⟩=>?_);subst hr;exact aci ⟨σ3,H3,I4,qn⟩
 · refine abS hp (thn (T.item X rfl rfl rfl hc i pins s3 σ3 H3 X.xe I3 (stat fr3) st3 go) fun r s4 ⟨u,hr,h4⟩=>?_);subst hr;refine abS hp (thn h4 fun _ s5 ⟨x,H5,I5,r5,y5,st5,fr5⟩=>?_);have I5':=I5.pinned (stat fr5) (T.obj _ _ st5);refine abS hp (thn (hg _ s5 σ3 H5 x u _ I5' r5 (step x H5 y5)) fun _ s6 ⟨σ6,H6,I6,q6⟩=>?_);refine abS hp (thn (hb _ s6 σ6 H6 _ I6 q6) fun f s7 q7=>?_)
   have again: ∀ {σ7:St} {H7:Hp},Inv X (pins++Wu fp s5.heap) σ7 H7 s7->N σ7 H7-> ∃m,m<n/\ ∃i σ' H',Inv X pins σ' H' s7/\tn i s7.heap/\(∀b∈fp,H' b=none)/\W i m σ' H':=fun {σ7 H7} I7 n7=>by
    obtain ⟨m',hm,w7⟩:=hN σ7 H7 n7;refine ⟨m',hm,i+1,σ7,H7,I7.unpinned,T.keep _ _ _ st5 fun b hb o e=>(I7.pin (b,o) (aaQ _ (aaQ _ (xY hb e)))).1,fun b hb=>?_,w7⟩;obtain ⟨o,e,d⟩:=T.obj _ _ st5 b hb;exact (I7.pin (b,o) (aaQ _ (aaQ _ (xY hb e)))).2.1
   cases f with
   |next=>obtain ⟨σ7,H7,I7,n7⟩:=q7;exact again I7 n7
   |cont=>obtain ⟨σ7,H7,I7,n7⟩:=q7;exact again I7 n7
   |brk=>obtain ⟨σ7,H7,I7,q7⟩:=q7;exact ⟨σ7,H7,I7.unpinned,q7⟩
   |ret v=>obtain ⟨x7,σ7,H7,I7,r7,q7⟩:=q7;exact ⟨x7,σ7,H7,I7.unpinned,r7,q7⟩
end
abbrev R2:=V->V->Hp->VK->Prop
def OpR (X:Cx) (f:Value->Value->Sem Value) (r:R2):Prop:=
 ∀(pins:List (Addr×Obj)) (s:aad) (σ:St) (H:Hp) (x y:V) (v u:Value) (Q:VK),Inv X pins σ H s->RelV x v->RelV y u->r x y H Q->
  wpAny (model X.prog X.w) X.A (f v u) (EP X pins σ Q) X.xe s
def UnR (X:Cx) (f:Value->Sem Value) (r:V->Hp->VK->Prop):Prop:=
 ∀(pins:List (Addr×Obj)) (s:aad) (σ:St) (H:Hp) (x:V) (v:Value) (Q:VK),Inv X pins σ H s->RelV x v->r x H Q->
  wpAny (model X.prog X.w) X.A (f v) (EP X pins σ Q) X.xe s
def CallR (X:Cx) (f:Value) (r:List V->Hp->VK->Prop):Prop:=
 ∀(pins:List (Addr×Obj)) (s:aad) (σ:St) (H:Hp) (xs:List V) (us:List Value) (Q:VK),Inv X pins σ H s->Vals xs us->r xs H Q->
  wpAny (model X.prog X.w) X.A (call f us) (EP X pins σ Q) X.xe s
def TruR (X:Cx) (r:V->Hp->(Bool->Hp->Prop)->Prop):Prop:=
 ∀(pins:List (Addr×Obj)) (s:aad) (σ:St) (H:Hp) (x:V) (v:Value) (Q:Bool->Hp->Prop),Inv X pins σ H s->RelV x v->r x H Q->
  wpAny (model X.prog X.w) X.A (truthy v) (TP X pins σ Q) X.xe s
def tOp (r:R2) (ta tb:TE):TE:=fun σ H Q=>ta σ H fun x H1=>tb σ H1 fun y H2=>r x y H2 Q
def tUn (r:V->Hp->VK->Prop) (ta:TE):TE:=fun σ H Q=>ta σ H fun x H1=>r x H1 Q
def rI (C:Int->Int->Prop) (g:Int->Int->V):R2:=fun x y H Q=> ∃i j,x= .int i/\y= .int j/\C i j/\Q (g i j) H
def rI0 (g:Int->Int->V):R2:=fun x y H Q=> ∃i j,x= .int i/\y= .int j/\Q (g i j) H
def rU (g:Int->V):V->Hp->VK->Prop:=fun x H Q=> ∃i,x= .int i/\Q (g i) H
section
variable {X:Cx} {a b c:Expr} {ta tb tc:TE} {pos:Pos}
def binT (ha:PE X a ta) (hb:PE X b tb) {pins:List (Addr×Obj)} {s:aad} {σ:St} {H:Hp} {R:V->V->Hp->Prop} (I:Inv X pins σ H s)
  (h:ta σ H fun x H1=>tb σ H1 fun y H2=>R x y H2) {Q:Xk} {f:Value->Value->Sem Value}
  (hf: ∀v u s2 x y H2,Inv X pins σ H2 s2->RelV x v->RelV y u->R x y H2->wpAny (model X.prog X.w) X.A (f v u) Q X.xe s2):
  wpAny (model X.prog X.w) X.A (eval a X.env) (fun v s₁=>wpAny (model X.prog X.w) X.A (eval b X.env) (fun u s₂=>wpAny (model X.prog X.w) X.A (f v u) Q X.xe s₂) X.xe s₁) X.xe s:=by
 refine thn (ha pins s σ H _ I h) fun v s1 ⟨x,H1,I1,r1,q1⟩=>?_
 refine thn (hb pins s1 σ H1 _ I1 q1) fun u s2 ⟨y,H2,I2,r2,q2⟩=>?_
 exact hf v u s2 x y H2 I2 r1 r2 q2
def vp {op:acv} {r:R2} (ho:OpR X (abH op) r) (ha:PE X a ta) (hb:PE X b tb):PE X (.BinOp a op b pos) (tOp r ta tb):=by
 intro pins s σ H Q I h;exact wpAny_BinOp (binT ha hb I h fun v u s2 x y H2 I2 rx ry q=>ho pins s2 σ H2 x y v u Q I2 rx ry q)
def jdD {op:UnaryOp} {r:V->Hp->VK->Prop} (ho:UnR X (unaryOp op) r) (ha:PE X a ta):PE X (.UnaryOp op a pos) (tUn r ta):=by
 intro pins s σ H Q I h;exact UnaryOp_ (thn (ha pins s σ H _ I h) fun v s1 ⟨x,H1,I1,r1,q1⟩=>ho pins s1 σ H1 x v Q I1 r1 q1)
def opI {f:Value->Value->Sem Value} {C:Int->Int->Prop} {g:Int->Int->Int}
  (rule: ∀(i j:Int) (t u:Tok) (s:aad) (Q:Xk) (E:Xk),C i j->Q (.int (g i j) s.toks) {s with toks:=s.toks+1}->wpAny (model X.prog X.w) X.A (f (.int i t) (.int j u)) Q E s):
  OpR X f (rI C fun i j=> .int (g i j)):=by
 intro pins s σ H x y v u Q I rx ry h;obtain ⟨i,j,rfl,rfl,hc,q⟩:=h;obtain ⟨t,rfl⟩:=rx;obtain ⟨t',rfl⟩:=ry;exact rule i j t t' s _ _ hc ⟨.int (g i j),H,I.tok _,⟨_,rfl⟩,q⟩
def opI0 {f:Value->Value->Sem Value} {g:Int->Int->Int}
  (rule: ∀(i j:Int) (t u:Tok) (s:aad) (Q:Xk) (E:Xk),Q (.int (g i j) s.toks) {s with toks:=s.toks+1}->wpAny (model X.prog X.w) X.A (f (.int i t) (.int j u)) Q E s):
  OpR X f (rI0 fun i j=> .int (g i j)):=by
 intro pins s σ H x y v u Q I rx ry h;obtain ⟨i,j,rfl,rfl,q⟩:=h;obtain ⟨t,rfl⟩:=rx;obtain ⟨t',rfl⟩:=ry;exact rule i j t t' s _ _ ⟨.int (g i j),H,I.tok _,⟨_,rfl⟩,q⟩
def opB0 {f:Value->Value->Sem Value} {g:Int->Int->Bool}
  (rule: ∀(i j:Int) (t u:Tok) (s:aad) (Q:Xk) (E:Xk),Q (.bool (g i j)) s->wpAny (model X.prog X.w) X.A (f (.int i t) (.int j u)) Q E s):
  OpR X f (rI0 fun i j=> .bl (g i j)):=by
 intro pins s σ H x y v u Q I rx ry h;obtain ⟨i,j,rfl,rfl,q⟩:=h;obtain ⟨t,rfl⟩:=rx;obtain ⟨t',rfl⟩:=ry;exact rule i j t t' s _ _ ⟨.bl (g i j),H,I,rfl,q⟩
def CDiv (i j:Int):Prop:=0<j/\j<1073741824
def CPow (i j:Int):Prop:=0<=j/\j<=1000000/\i.natAbs<2^64
def op_add:OpR X (abH .Add) (rI0 fun i j=> .int (i+j)):=opI0 fun _ _ _ _ _ _ _ q=>add_int q
def YB:OpR X (abH .Sub) (rI0 fun i j=> .int (i-j)):=opI0 fun _ _ _ _ _ _ _ q=>sub_int q
def qZ:OpR X (abH .FloorDiv) (rI CDiv fun i j=> .int (i/j)):=opI fun i j _ _ _ _ _ hc q=>by
 have h1:(0:Int)<j:=hc.1;have h2:j<1073741824:=hc.2;exact floordiv_int (by omega) (by rw [Int.fdiv_eq_ediv_of_nonneg i (by omega)];exact q) (.inl (PyProof.noPylong_small (by omega)))
def wD:OpR X (abH .Mod) (rI (fun _ j=>0<j) fun i j=> .int (i%j)):=opI fun i j _ _ _ _ _ hc q=>by
 have h1:(0:Int)<j:=hc;exact mod_int' (by omega) (by rw [Int.fmod_eq_emod_of_nonneg i (by omega)];exact q)
def jcs:OpR X (abH .Pow) (rI CPow fun i j=> .int (i^j.toNat)):=opI fun _ _ _ _ _ _ _ hc q=>pow_int_small hc.1 hc.2.1 hc.2.2 q
def unI {f:Value->Sem Value} {g:Int->Int}
  (rule: ∀(i:Int) (t:Tok) (s:aad) (Q:Xk) (E:Xk),Q (.int (g i) s.toks) {s with toks:=s.toks+1}->wpAny (model X.prog X.w) X.A (f (.int i t)) Q E s):
  UnR X f (rU fun i=> .int (g i)):=by
 intro pins s σ H x v Q I rx h;obtain ⟨i,rfl,q⟩:=h;obtain ⟨t,rfl⟩:=rx;exact rule i t s _ _ ⟨.int (g i),H,I.tok _,⟨_,rfl⟩,q⟩
def jbP:UnR X (unaryOp .USub) (rU fun i=> .int (-i)):=unI fun _ _ _ _ _ q=>neg_int q
def uN {pins:List (Addr×Obj)} {σ:St} {H:Hp} {s:aad} {Q:VK} {k k':Bool} (I:Inv X pins σ H s) (q:Q (.bl k) H) (e:k=k'):EP X pins σ Q (.bool k') s:=by
 subst e;exact ⟨.bl k,H,I,rfl,q⟩
def Xv:OpR X (abl .Lt) (rI0 fun i j=> .bl (decide (i<j))):=opB0 fun _ _ _ _ _ _ _ q=>lt_int q
def QH:OpR X (abl .LtE) (rI0 fun i j=> .bl (decide (i<=j))):=opB0 fun _ _ _ _ _ _ _ q=>le_int q
def WB:OpR X (abl .Gt) (rI0 fun i j=> .bl (decide (j<i))):=opB0 fun _ _ _ _ _ _ _ q=>gt_int q
def Qa:OpR X (abl .In) (fun x y H Q=> ∃i j,x= .str i/\y= .str j/\Q (.bl (!(ack j i 0 j.length 1).isEmpty)) H):=by
 intro pins s σ H x y v u Q I rx ry h;obtain ⟨i,j,rfl,rfl,q⟩:=h;obtain ⟨t,rfl⟩:=rx;obtain ⟨t',rfl⟩:=ry;exact in_str (uN I q rfl)
def YD:OpR X (abl .Is) (fun x y H Q=>y= .non/\Q (.bl (decide (x= .non))) H):=by
 intro pins s σ H x y v u Q I rx ry h;obtain ⟨rfl,q⟩:=h;cases ry;refine is_none_gen (uN I q ?_)
 cases x<;>first
  | (cases rx;rfl)
  | (obtain ⟨t,rfl⟩:=rx;rfl)
def OpR.or {f:Value->Value->Sem Value} {r r':R2} (h:OpR X f r) (h':OpR X f r'):OpR X f (fun x y H Q=>r x y H Q\/r' x y H Q):=by
 intro pins s σ H x y v u Q I rx ry q;rcases q with q|q
 · exact h pins s σ H x y v u Q I rx ry q
 · exact h' pins s σ H x y v u Q I rx ry q
def uD (b:Expr) {op:CmpOp} (h:op≠ .In:=by decide) (h2:op≠ .NotIn:=by decide):abJ op b=false:=by
 have e1:(op==CmpOp.In)=false:=by cases op<;>first|rfl|exact absurd rfl h
 have e2:(op==CmpOp.NotIn)=false:=by cases op<;>first|rfl|exact absurd rfl h2
 cases b<;>simp [abJ,e1,e2]
def jaC {op:CmpOp} {r:R2} (ho:OpR X (abl op) r) (ha:PE X a ta) (hb:PE X b tb) (hm:abJ op b=false):PE X (.Compare a [op] [b] pos) (tOp r ta tb):=by
 intro pins s σ H Q I h;exact wpAny_Compare1 (binT ha hb I h fun v u s2 x y H2 I2 rx ry q=>ho pins s2 σ H2 x y v u Q I2 rx ry q) hm
def u6 (t:TE):TT:=fun σ H Q=>t σ H fun x H'=> ∃k,x= .bl k/\Q k H'
def jaq {op:CmpOp} {r:R2} (ho:OpR X (abl op) r) (ha:PE X a ta) (hb:PE X b tb) (hm:abJ op b=false):PT X (.Compare a [op] [b] pos) (u6 (tOp r ta tb)):=by
 intro pins s σ H Q I h
 refine wpAny_isTrue_Compare1 (thn (ha pins s σ H _ I h) fun v s1 ⟨x,H1,I1,r1,q1⟩=>thn (hb pins s1 σ H1 _ I1 q1) fun u s2 ⟨y,H2,I2,r2,q2⟩=>
  thn (ho pins s2 σ H2 x y v u _ I2 r1 r2 q2) fun c s3 ⟨z,H3,I3,r3,k,e,q3⟩=>?_) hm
 subst e;cases r3;exact abf ⟨H3,I3,q3⟩
def Vj (r r':R2) (ta tb tc:TE):TE:=fun σ H Q=>ta σ H fun x H1=>tb σ H1 fun y H2=>r x y H2 fun z H3=> ∃k,z= .bl k/\
 (if k=true then tc σ H3 fun w' H4=>r' y w' H4 Q else Q (.bl false) H3)
def vv {op op':CmpOp} {r r':R2} (ho:OpR X (abl op) r) (ho':OpR X (abl op') r') (ha:PE X a ta) (hb:PE X b tb) (hc:PE X c tc)
  (hm:lastMarks [op,op'] [b,c]=false:=by with_unfolding_all rfl):PE X (.Compare a [op,op'] [b,c] pos) (Vj r r' ta tb tc):=by
 intro pins s σ H Q I h
 refine Compare_chain (thn (ha pins s σ H _ I h) fun v s1 ⟨x,H1,I1,r1,q1⟩=>chain_link (thn (hb pins s1 σ H1 _ I1 q1) fun u s2 ⟨y,H2,I2,r2,q2⟩=>
  thn (ho pins s2 σ H2 x y v u _ I2 r1 r2 q2) fun d s3 ⟨z,H3,I3,r3,k,e,q3⟩=>?_)) hm
 subst e;cases r3;refine abf ?_
 cases k with
 |false=>exact ite_ff ⟨.bl false,H3,I3,rfl,q3⟩
 |true=>exact ite_tt (chain_last (thn (hc pins s3 σ H3 _ I3 q3) fun w' s4 ⟨z',H4,I4,r4,q4⟩=>ho' pins s4 σ H4 y z' u w' Q I4 r2 r4 q4))
def vj {op op':CmpOp} {r r':R2} (ho:OpR X (abl op) r) (ho':OpR X (abl op') r') (ha:PE X a ta) (hb:PE X b tb) (hc:PE X c tc)
  (hm:lastMarks [op,op'] [b,c]=false:=by with_unfolding_all rfl):PT X (.Compare a [op,op'] [b,c] pos) (u6 (Vj r r' ta tb tc)):=by
 intro pins s σ H Q I h
 refine isTrue_chain (thn (ha pins s σ H _ I h) fun v s1 ⟨x,H1,I1,r1,q1⟩=>test_link (thn (hb pins s1 σ H1 _ I1 q1) fun u s2 ⟨y,H2,I2,r2,q2⟩=>
  thn (ho pins s2 σ H2 x y v u _ I2 r1 r2 q2) fun d s3 ⟨z,H3,I3,r3,k,e,q3⟩=>?_)) hm
 subst e;cases r3;refine abf ?_
 cases k with
 |false=>
  obtain ⟨k',e',q'⟩:=q3;cases e';exact ite_ff ⟨H3,I3,q'⟩
 |true=>
  refine ite_tt (test_last (thn (hc pins s3 σ H3 _ I3 q3) fun w' s4 ⟨z',H4,I4,r4,q4⟩=>thn (ho' pins s4 σ H4 y z' u w' _ I4 r2 r4 q4) fun d' s5 ⟨z2,H5,I5,r5,k2,e2,q5⟩=>?_));subst e2;cases r5;exact abf ⟨H5,I5,q5⟩
def TruV (K:aaa) (x:V) (H:Hp) (k:Bool):Prop:=
 match x with
 | .non=>k=false
 | .bl b=>k=b
 | .int i=>k=(i !=0)
 | .str y=>y.length<=aae/\k=((y.length:Int) !=0)
 | .byt y=>y.size<=aae/\k=((y.size:Int) !=0)
 | .ref p=>(∃xs,SqL K H p xs/\k=!xs.isEmpty)\/(∃xs,SqT K H p xs/\k=!xs.isEmpty)\/ ∃kvs,H p=some (.dK kvs)/\k=!kvs.isEmpty
 |_=>False
def KK {κ:Type} {kvs:List (κ×V)} {vs:List (κ×Value)} (r:KV kvs vs):(!vs.isEmpty)=!kvs.isEmpty:=by
 cases r<;>rfl
def Q6 {xs:List V} {its:List Value} (r:Vals xs its):(!its.toArray.isEmpty)=!xs.isEmpty:=by
 cases r<;>simp
def Q3:(aae:Nat)<2^63:=by rw [sizeLine_eq];decide
def jbS:TruR X (fun x H Q=> ∃k,TruV X.K x H k/\Q k H):=by
 intro pins s σ H x v Q I rx h;obtain ⟨k,e,q⟩:=h;have hl:=Q3;have hs:aae=16777216:=sizeLine_eq
 cases x with
 |non=>
  cases rx;have e':k=false:=e;subst e';exact truthy_none ⟨H,I,q⟩
 |bl b=>
  cases rx;have e':k=b:=e;subst e';exact abf ⟨H,I,q⟩
 |int i=>
  obtain ⟨t,rfl⟩:=rx;have e':k=(i !=0):=e;subst e';exact PySem.P.truthy_int ⟨H,I,q⟩
 |str y=>
  obtain ⟨t,rfl⟩:=rx;obtain ⟨hy,e'⟩:y.length<=aae/\k=((y.length:Int) !=0):=e;subst e';exact PySem.P.truthy_str (by omega) ⟨H,I.tok _,q⟩
 |byt y=>
  obtain ⟨t,rfl⟩:=rx;obtain ⟨hy,e'⟩:y.size<=aae/\k=((y.size:Int) !=0):=e;subst e';exact PySem.W.truthy_bytes (by omega) ⟨H,I.tok _,q⟩
 |ref p=>
  cases rx;have e':(∃xs,SqL X.K H p xs/\k=!xs.isEmpty)\/(∃xs,SqT X.K H p xs/\k=!xs.isEmpty)\/ ∃kvs,H p=some (.dK kvs)/\k=!kvs.isEmpty:=e;rcases e' with ⟨xs,hx,e'⟩| ⟨xs,hx,e'⟩| ⟨kvs,hx,e'⟩
  · subst e';obtain ⟨its,r,pl,hz⟩:=I.list hx;have hlen:=r.length;exact wpAny_truthy_list pl.isList (by simp only [aag];omega) ⟨H,I.tok _,by rw [Q6 r];exact q⟩
  · subst e';obtain ⟨its,r,pl,hz⟩:=I.tuple hx;have hlen:=r.length;exact truthy_tuple pl (by simp only [aag];omega) ⟨H,I.tok _,by rw [Q6 r];exact q⟩
  · subst e';obtain ⟨hz,hS,vs,r,m⟩:kvs.length<=aae/\(p==ac2)=false/\ ∃vs,KV kvs vs/\s.heap.DictOf (XH X.prog X.w) p vs:=I.hok p _ hx;have hlen:kvs.length=vs.length:=Paired.length r;exact wpAny_truthy_dict hS m (by omega) ⟨H,I.tok _,by rw [KK r];exact q⟩
 |_=>exact (show False from e).elim
def vh (ha:PE X a ta) (he: ∀whole,isTrue a X.env whole=(do let v←whole;adi a.pos;adj [v] (truthy v))):
  PT X a (fun σ H Q=>ta σ H fun x H'=> ∃k,TruV X.K x H' k/\Q k H'):=by
 intro pins s σ H Q I h;exact isTrue_plain (thn (ha pins s σ H _ I h) fun v s1 ⟨x,H1,I1,r1,q1⟩=>jbS pins s1 σ H1 x v Q I1 r1 q1) (he _)
def op_add_str:OpR X (abH .Add) (fun x y H Q=> ∃i j,x= .str i/\y= .str j/\i.length+j.length<=aae/\Q (.str (i++j)) H):=by
 intro pins s σ H x y v u Q I rx ry h;obtain ⟨i,j,rfl,rfl,hz,q⟩:=h;obtain ⟨t,rfl⟩:=rx;obtain ⟨t',rfl⟩:=ry;exact add_str (fun t' tk=>⟨.str (i++j),H,I.tok _,⟨_,rfl⟩,q⟩) hz
def Xf {x:V} {us:List Value} (r:Vals [x] us): ∃u,us=[u]/\RelV x u:=by
 cases r with
 |cons r1 r2=>cases r2;exact ⟨_,rfl,r1⟩
def Vc {x y:V} {us:List Value} (r:Vals [x,y] us): ∃u w',us=[u,w']/\RelV x u/\RelV y w':=by
 cases r with
 |cons r1 r2=>
  cases r2 with
  |cons r3 r4=>cases r4;exact ⟨_,_,rfl,r1,r3⟩
def ku (hc:X.calm=true):CallR X (.builtin "min") (fun xs H Q=> ∃i j,xs=[.int i,.int j]/\Q (.int (if j<i then j else i)) H):=by
 intro pins s σ H xs us Q I r h;obtain ⟨i,j,rfl,q⟩:=h;obtain ⟨u,w',rfl,⟨t,rfl⟩,⟨t',rfl⟩⟩:=Vc r;refine min_two_ints (I.ok.hd hc) fun h' tk k=>⟨_,H,I.kept k,?_,q⟩
 by_cases hj:j<i
 · rw [if_pos hj,if_pos hj];exact ⟨_,rfl⟩
 · rw [if_neg hj,if_neg hj];exact ⟨_,rfl⟩
def JH:CallR X (.type "str") (fun xs H Q=> ∃i,xs=[.int i]/\i.natAbs.log2<1920/\Q (.str (toString i)) H):=by
 intro pins s σ H xs us Q I r h;obtain ⟨i,rfl,hz,q⟩:=h;obtain ⟨u,rfl,t,rfl⟩:=Xf r;exact PySem.P.str_of_int hz ⟨.str _,H,I.tok _,⟨_,rfl⟩,q⟩
end
structure ObjM (h:Heap) (x dx C:Addr) (mA:Yq):Prop where
 obj:h.get? x=some (abF C dx)
 ns:h.Ns1 dx mA
 ne:dx≠x
def Um {h:Heap} {dx:Addr} {mA:Yq} (n:h.Ns1 dx mA): ∃od,h.get? dx=some od/\ ∀name,acW name od=some (mA name):=by
 obtain ⟨o,es,ep,ho,hd,hk,_,hm⟩:=n;refine ⟨o,ho,fun name=>?_⟩;have e:=hm name;unfold nsFind findBy at e;rw [←Array.find?_toList] at e;unfold acW;rw [hd];dsimp only
 split
 · rename_i y q;rw [q] at e;exact congrArg some e
 · rename_i q;rw [q] at e
   have a:es.toList.any (·.refKey)=false:=by
    rw [List.any_eq_false];intro y hy;obtain ⟨z,t,hkey⟩:=hk y (Array.mem_toList_iff.mp hy);simp [DictEntry.refKey,hkey]
   have a': ¬es.toList.any (·.refKey)=true:=by rw [a];exact aaz
   rw [if_neg a'];exact congrArg some e
def ObjM.look {h:Heap} {x dx C:Addr} {mA:Yq} (I:ObjM h x dx C mA): ∃od,PySem.W.InstAt h x (abF C dx) C (some od)/\ ∀name,acW name od=some (mA name):=
 let ⟨od,ho,hl⟩:=Um I.ns
 ⟨od,⟨I.obj,rfl,rfl,ho⟩,hl⟩
section
variable {prog:aaB} {w:World} {A:aaZ} {E:Xk} {s:aad} {K:aaa} {x dx C f:Addr} {mA:Yq} {name:Str} {v:Value}
def ja2 {expr:Bool} {Q:Xk} (X:K.In s.heap) (I:ObjM s.heap x dx C mA) (hg:acd K C name=true) (hh:act K C=true)
  (ha:aaS K (.ref C) name=some none) (hv:mA name=some v) (hv':PySem.W.handedIn v=true) (h:Q v {s with toks:=s.toks+1}):
  wpAny (model prog w) A (getAttr (.ref x) name expr) Q E s:=by
 obtain ⟨od,J,hl⟩:=I.look;exact PySem.W.get_value X J (acK hg).1 (PySem.W.findObj_own hh ha rfl (by rw [hl,hv])) hv' h
def vM {pl:Sem Bool} {Q:Value×List Value->aad->Prop} (X:K.In s.heap) (I:ObjM s.heap x dx C mA) (hg:acd K C name=true)
  (hf:aaS K (.ref C) name=some (some (.ref f))) (ht:adk K (.ref f)=true) (hv:mA name=none) (h:Q (.ref f,[.ref x]) s):
  wpAny (model prog w) A (getMethod (.ref x) name pl) Q E s:=by
 obtain ⟨od,J,hl⟩:=I.look;exact PySem.W.method_fn X J (acK hg).1 (acK hg).2 hf (beq_iff_eq.mp ht) (by show (acW name od).map (·.isSome)=some false;rw [hl,hv];rfl) h
def jad {ns:List Str} {Q:Unit->aad->Prop} (X:K.In s.heap) (I:ObjM s.heap x dx C mA)
  (hs:aaS K (.ref C) "__setattr__" =some (some (.builtin "object.__setattr__"))) (hp:ac4 K C=true) (ht:adl K C name=some none) (hh:act K C=true)
  (hw:PySem.Within mA ns) (hsz:ns.length<=aae)
  (h: ∀h',ObjM h' x dx C (fun y=>if y=name then some v else mA y)->acT dx s.heap h'->Q () {s with heap:=h',toks:=s.toks+2}):
  wpAny (model prog w) A (setAttr (.ref x) name v) Q E s:=by
 obtain ⟨od,J,hl⟩:=I.look;refine PySem.W.set_plain X J hs (PySem.W.osa_open (s:={s with toks:=s.toks+1}) (r:=none) X J hp ht fun b=>?_);obtain ⟨cd,hc,hd'⟩:=PySem.W.any_some hh;have hx:s.heap.get? x=some ⟨.ref C,some dx,.plain, #[]⟩:=I.obj;refine aaf (aam (aaf (aaf (wpAny_loadPart hx (aaf (PySem.W.Looks.here (s:={s with toks:=s.toks+1}) (PySem.W.looks_clsIn X hc) ?_))))));rw [hd'];refine aam (a:=some dx) (aaf (aam (aaf ?_)));refine wpAny_nsSet1 (s:={s with toks:=s.toks+1}) I.ns fun h' hn2 hs2=>?_
 obtain ⟨oD,esD,epD,hoD,hdD,hcD⟩:=hn2.count (PySem.Within.cons name v hw);refine aaf (wpAny_lookBehind hoD (by rw [hdD];exact pastItsLine_dict (aaq hcD (by rw [aab];omega))) ?_);exact aam (h _ ⟨(hs2.2 _ (ab8 I.ne)).trans I.obj,hn2,I.ne⟩ hs2)
def vF {R:Result->aad->Prop} {vs:List Value} {kw:List (Str×Value)} (X:K.In s.heap) (hm:acl K C=true)
  (hi:aaS K (.ref C) "__init__" =some (some (.ref f))) (hf:PySem.W.typeIn K (.ref f)=some (.type "function"))
  (h:acX (model prog w) (A.under (.builtin "type.__call__" ⟨.ref C::vs,kw⟩)) (.call (.ref f) ⟨.ref (s.heap.objs.size+1)::vs,kw⟩) (PySem.W.InitBack (s.heap.objs.size+1) R)
   {s with heap:=(s.heap.push abm).push (abF C s.heap.objs.size)}):
  acX (model prog w) A (.call (.ref C) ⟨vs,kw⟩) R s:=by
 obtain ⟨hh,g,d,t,os⟩:=s;exact PySem.W.make_core (PySem.W.makes_of X hm) (acY X hi) (fun self=>PySem.W.bind_fn X self hf) (.inl rfl) h
end
def putF (f:Str) (v:V):List (Str×V)->List (Str×V)
 | []=>[(f,v)]
 | (g,x)::r=>if g=f then (g,v)::r else (g,x)::putF f v r
theorem Qi (f g:Str) (v:V): ∀fs:List (Str×V),(putF f v fs).lookup g=if g=f then some v else fs.lookup g
 | []=>by
  show aaE g [(f,v)]=_
  by_cases h:g=f
  · have hb:(g==f)=true:=beq_iff_eq.mpr h;simp only [aaE,hb,if_pos h]
  · have hb:(g==f)=false:=beq_eq_false_iff_ne.mpr h;simp only [aaE,hb,if_neg h]
 | (k,x)::r=>by
  have ih:=Qi f g v r;rw [show putF f v ((k,x)::r)=(if k=f then (k,v)::r else (k,x)::putF f v r) from rfl]
  by_cases hk:k=f
  · rw [if_pos hk]
    by_cases h:g=k
    · have hb:(g==k)=true:=beq_iff_eq.mpr h;simp only [aaE,hb,if_pos (h.trans hk)]
    · have hb:(g==k)=false:=beq_eq_false_iff_ne.mpr h;simp only [aaE,hb,if_neg (fun e:g=f=>h (e.trans hk.symm))]
  · rw [if_neg hk]
    by_cases h:g=k
    · have hb:(g==k)=true:=beq_iff_eq.mpr h;simp only [aaE,hb,if_neg (fun e:g=f=>hk (h.symm.trans e))]
    · have hb:(g==k)=false:=beq_eq_false_iff_ne.mpr h;simp only [aaE,hb];exact ih
theorem Qn (f:Str) (v:V): ∀fs:List (Str×V),f∈(putF f v fs).map (·.1)/\ ∀g,g∈fs.map (·.1)->g∈(putF f v fs).map (·.1)
 | []=>⟨by simp [putF],fun g h=>by simp at h⟩
 | (k,x)::r=>by
  obtain ⟨i1,i2⟩:=Qn f v r;rw [show putF f v ((k,x)::r)=(if k=f then (k,v)::r else (k,x)::putF f v r) from rfl]
  by_cases hk:k=f
  · rw [if_pos hk];subst hk;exact ⟨by simp,fun g h=>by simpa using h⟩
  · rw [if_neg hk];refine ⟨?_,fun g h=>?_⟩
    · rw [abj];exact aar _ i1
    · rw [abj] at h ⊢;rcases aaw.mp h with e|e
      · exact aaw.mpr (.inl e)
      · exact aar _ (i2 g e)
theorem Qk (f:Str) (v:V): ∀fs:List (Str×V),(putF f v fs).length<=fs.length+1
 | []=>by simp [putF]
 | (k,x)::r=>by
  have ih:=Qk f v r;rw [show putF f v ((k,x)::r)=(if k=f then (k,v)::r else (k,x)::putF f v r) from rfl]
  by_cases hk:k=f
  · rw [if_pos hk,aab,aab];omega
  · rw [if_neg hk,aab,aab];omega
def RelO.some_of {v:V} {o:Option Value} (r:RelO (some v) o): ∃u,o=some u/\RelV v u:=by
 cases o with
 |none=>exact (show False from r).elim
 |some u=>exact ⟨u,rfl,r⟩
def RelO.none_of {o:Option Value} (r:RelO none o):o=none:=by
 cases o with
 |none=>rfl
 |some u=>exact (show False from r).elim
def UB {v:V} {u:Value} (r:RelV v u):PySem.W.handedIn u=true:=by
 cases v with
 |non=>cases (show u=adn from r);rfl
 |bl b=>cases (show u=ab2 b from r);rfl
 |int i=>obtain ⟨t,e⟩:=(show∃t,u=adh i t from r);cases e;rfl
 |str x=>obtain ⟨t,e⟩:=(show∃t,u=Value.str x t from r);cases e;rfl
 |byt b=>obtain ⟨t,e⟩:=(show∃t,u=Value.bytes b t from r);cases e;rfl
 |flt b=>obtain ⟨t,e⟩:=(show∃t,u=Value.float b t from r);cases e;rfl
 |ref a=>cases (show u=aaJ a from r);rfl
 |ty n=>cases (show u=Value.type n from r);rfl
section
variable {P:aaB} {w:World} {H H':Hp} {h h':Heap} {a C dx:Addr} {fs fs':List (Str×V)}
def ZS (hok:HOk P w H h) (e:H a=some (.ins C dx fs)): ∃mA,ObjM h a dx C mA/\(∀f,RelO (fs.lookup f) (mA f))/\PySem.Within mA (fs.map (·.1))/\fs.length<=1000/\H dx=some (.own a):=by
 obtain ⟨d,z,ne,ob,mA,n,r,q⟩:=(show ObjOk P w H h a (.ins C dx fs) from hok a _ e)
 exact ⟨mA,⟨ob,n,ne⟩,r,q,z,d⟩
end
structure Cls (K:aaa) (C:Addr):Prop where
 pg:acd K C Str.empty=true
 hd:act K C=true
 po:ac4 K C=true
 sa:aaS K (.ref C) "__setattr__" =some (some (.builtin "object.__setattr__"))
def Cls.get {K:aaa} {C:Addr} (c:Cls K C) (f:Str):acd K C f=true:=c.pg
def NoAttr (K:aaa) (C:Addr) (f:Str):Prop:=aaS K (.ref C) f=some none
def NoAttr.taker {K:aaa} {C:Addr} {f:Str} (n:NoAttr K C f):adl K C f=some none:=by
 unfold adl;rw [show aaS K (.ref C) f=some none from n];rfl
structure Meth (K:aaa) (C:Addr) (m:Str) (f:Addr):Prop where
 at_:aaS K (.ref C) m=some (some (.ref f))
 fn:adk K (.ref f)=true
 kp:aaN K (.ref f)=true
section
variable {X:Cx} {pins:List (Addr×Obj)} {σ:St} {H:Hp} {s:aad} {a C dx:Addr} {fs:List (Str×V)} {f:Str} {v:V} {A:aaZ} {E:Xk}
def Za {b:Bool} {Q:Xk} (I:Inv X pins σ H s) (e:H a=some (.ins C dx fs)) (c:Cls X.K C) (n:NoAttr X.K C f) (l:fs.lookup f=some v)
  (h: ∀u s',Inv X pins σ H s'->RelV v u->Q u s'):wpAny (model X.prog X.w) A (getAttr (.ref a) f b) Q E s:=by
 obtain ⟨mA,O,r,_,_,_⟩:=ZS I.hok e;obtain ⟨u,hu,ru⟩:=RelO.some_of (v:=v) (o:=mA f) (by rw [←l];exact r f);exact ja2 I.kIn O (c.get f) c.hd n hu (UB ru) (h u _ (I.tok _) ru)
def Jl {m:Str} {g:Addr} {pl:Sem Bool} {Q:Value×List Value->aad->Prop} (I:Inv X pins σ H s) (e:H a=some (.ins C dx fs)) (c:Cls X.K C) (k:Meth X.K C m g) (l:fs.lookup m=none)
  (h:Q (.ref g,[.ref a]) s):wpAny (model X.prog X.w) A (getMethod (.ref a) m pl) Q E s:=by
 obtain ⟨mA,O,r,_,_,_⟩:=ZS I.hok e;have hn:mA m=none:=RelO.none_of (by rw [←l];exact r m);exact vM I.kIn O (c.get m) k.at_ k.fn hn h
def QU {y:V} {u:Value} {Q:Unit->aad->Prop} (I:Inv X pins σ H s) (e:H a=some (.ins C dx fs)) (c:Cls X.K C) (n:NoAttr X.K C f) (hl:fs.length<1000) (ry:RelV y u)
   (h: ∀s',Inv X pins σ (upd H a (.ins C dx (putF f y fs))) s'->Q () s'):wpAny (model X.prog X.w) A (setAttr (.ref a) f u) Q E s:=by
 obtain ⟨mA,O,r,wi,_,ho⟩:=ZS I.hok e;have hz:(fs.map (·.1)).length<=aae:=by rw [aaK,sizeLine_eq];omega
 refine jad I.kIn O c.sa c.po n.taker c.hd wi hz fun h' O' sb=>h _ ?_
 have hd: ∃o,h'.get? dx=some o:=let ⟨o,_,_,e',_⟩:=O'.ns;⟨o,e'⟩
 refine I.write (x:=a) (e:=dx) (by rw [e];exact acH) (.inr ho) (fun b q hb z=>(sb.2 b hb).trans z) hd ?_;refine ⟨by rw [jr O.ne];exact ho,?_,O.ne,O'.obj,_,O'.ns,fun g=>?_,fun g hg=>?_⟩
 · have:=Qk f y fs;omega
 · show RelO ((putF f y fs).lookup g) (if g=f then some u else mA g);rw [Qi]
   by_cases q:g=f
   · rw [if_pos q,if_pos q];exact ry
   · rw [if_neg q,if_neg q];exact r g
 · by_cases q:g=f
   · rw [q];exact (Qn f y fs).1
   · refine (Qn f y fs).2 g (wi g fun z=>hg ?_);show (if g=f then some u else mA g)=none;rw [if_neg q];exact z
def Inv.made (I:Inv X pins σ H s):Inv X pins σ (upd (upd H s.heap.objs.size (.own (s.heap.objs.size+1))) (s.heap.objs.size+1) (.ins C s.heap.objs.size []))
  {s with heap:=(s.heap.push abm).push (abF C s.heap.objs.size)}:=by
 have e1:(s.heap.push abm).get? s.heap.objs.size=some abm:=aaG s.heap rfl
 have e2:((s.heap.push abm).push (abF C s.heap.objs.size)).get? (s.heap.objs.size+1)=some (abF C s.heap.objs.size):=by
  have:=aaG (s.heap.push abm) (o:=abF C s.heap.objs.size) rfl
  rwa [acZ] at this
 have e3:(s.heap.push abm).Ns s.heap.objs.size (fun _=>none):=⟨abm, #[],_,e1,rfl,(fun e he=>absurd he (by simp)),fun _=>rfl⟩
 have I1:=I.laid (a:=s.heap.objs.size) (o:= .own (s.heap.objs.size+1)) (h':=s.heap.push abm) (t':=s.toks) (fun b u q=>aak _ q) (aas _) ⟨_,e1⟩;refine I1.laid (a:=s.heap.objs.size+1) (o:= .ins C s.heap.objs.size []) (t':=s.toks) (fun b u q=>aak _ q) (Nat.le_of_eq (acZ _ _)) ?_;have ne:s.heap.objs.size≠s.heap.objs.size+1:=aa0 (ace _);refine ⟨by rw [jr ne,jo],acL _,ne,e2,fun _=>none,(Heap.Ns1.of_empty e3).at fun o q=>aak _ q,fun _=>acH,fun y hy=>absurd rfl hy⟩
def jbC {prog:aaB} {w:World} {env:Env} {e:Expr} {f:Str} {pos:Pos} {s:aad} {Q:Xk} (hb:aa2 e f env (eval e env)=eval e env)
  (h:wpAny (model prog w) A (eval e env) (fun o s₁=>wpAny (model prog w) A (getAttr o f true) Q E s₁) E s):wpAny (model prog w) A (eval (.Attribute e f pos) env) Q E s:=
 Attribute_any_ h (by rw [arm_eval_Attribute,hb])
end
def tFld (K:aaa) (ta:TE) (f:Str):TE:=fun σ H Q=>ta σ H fun x H1=> ∃a C dx fs v,x= .ref a/\H1 a=some (.ins C dx fs)/\Cls K C/\NoAttr K C f/\fs.lookup f=some v/\Q v H1
def sFld (K:aaa) (ta tv:TE) (f:Str):TS:=fun D σ H=>tv σ H fun y H1=>ta σ H1 fun x H2=> ∃a C dx fs,x= .ref a/\H2 a=some (.ins C dx fs)/\Cls K C/\NoAttr K C f/\fs.length<1000/\
 D.nx σ (upd H2 a (.ins C dx (putF f y fs)))
def InOp (X:Cx) (op:acv) (rd:V->V->Hp->VK->Prop):Prop:=
 ∀(pins:List (Addr×Obj)) (s:aad) (σ:St) (H:Hp) (x y:V) (u v:Value) (Q:VK),Inv X pins σ H s->RelV x u->RelV y v->rd x y H Q->wpAny (model X.prog X.w) X.A (inplaceOp op u v) (EP X pins σ Q) X.xe s
def jag (K:aaa) (ta tv:TE) (rd:V->V->Hp->VK->Prop) (f:Str):TS:=fun D σ H=>ta σ H fun x H1=> ∃a C dx fs v,x= .ref a/\H1 a=some (.ins C dx fs)/\Cls K C/\NoAttr K C f/\fs.lookup f=some v/\
 tv σ H1 fun y H2=>rd v y H2 fun z H3=> ∃dx' fs',H3 a=some (.ins C dx' fs')/\fs'.length<1000/\D.nx σ (upd H3 a (.ins C dx' (putF f z fs')))
section
variable {X:Cx} {o e value:Expr} {f:Str} {pos pos' tpos:Pos} {ta tv:TE}
def jco (he:PE X e ta) (hb:aa2 e f X.env (eval e X.env)=eval e X.env):PE X (.Attribute e f pos) (tFld X.K ta f):=by
 intro pins s σ H Q I h;refine jbC hb (thn (he pins s σ H _ I h) fun u s1 ⟨x,H1,I1,rx,a,C,dx,fs,v,ex,ea,c,n,l,q⟩=>?_);subst ex;obtain rfl:u=aaJ a:=rx;exact Za I1 ea c n l fun u' s2 I2 ru=>⟨v,H1,I2,ru,q⟩
def jcg (ha:PE X o ta) (hv:PE X value tv) (hs:abA value (some (.Attribute o f pos')) pos.line X.env=pure false):PS X (.Assign [.Attribute o f pos'] value pos) (sFld X.K ta tv f):=by
 intro pins s σ H D I h;refine plainObj_wpAny_Assign_Attribute (thn (hv pins s σ H _ I h) fun u s1 ⟨y,H1,I1,ry,q⟩=>thn (ha pins s1 σ H1 _ I1 q) fun ov s2 ⟨x,H2,I2,rx,a,C,dx,fs,ex,ea,c,n,l,q2⟩=>?_) hs;subst ex;obtain rfl:ov=aaJ a:=rx;exact QU I2 ea c n l ry fun s3 I3=>⟨σ,_,I3,q2⟩
def VG {op:acv} {rd:V->V->Hp->VK->Prop} (ha:PE X o ta) (hv:PE X value tv) (hop:InOp X op rd):PS X (.AugAssign (.Attribute o f tpos) op value pos) (jag X.K ta tv rd f):=by
 intro pins s σ H D I h;refine wpAny_AugAssign_AttributeAny (thn (ha pins s σ H _ I h) fun ov s1 ⟨x,H1,I1,rx,a,C,dx,fs,v,ex,ea,c,n,l,q⟩=>?_);subst ex;obtain rfl:ov=aaJ a:=rx;refine Za I1 ea c n l fun u s2 I2 ru=>thn (hv pins s2 σ H1 _ I2 q) fun w3 s3 ⟨y,H2,I3,ry,q3⟩=>thn (hop pins s3 σ H2 v y u w3 _ I3 ru ry q3) fun w4 s4 ⟨z,H3,I4,rz,dx',fs',ea',l',q4⟩=>?_
 exact QU I4 ea' c n l' rz fun s5 I5=>⟨σ,_,I5,q4⟩
def rAdd:V->V->Hp->VK->Prop:=fun x y H Q=> ∃i j,x= .int i/\y= .int j/\Q (.int (i+j)) H
def jcP:InOp X .Add rAdd:=by
 rintro pins s σ H x y u v Q I rx ry ⟨i,j,rfl,rfl,q⟩;obtain ⟨t,rfl⟩:=(show∃t,u=adh i t from rx)
 obtain ⟨t',rfl⟩:=(show∃t',v=adh j t' from ry)
 exact PyProof.Rows.iadd_int ⟨.int (i+j),H,I.tok _,⟨_,rfl⟩,q⟩
end
section
variable {X:Cx} {pins:List (Addr×Obj)} {σ:St} {H:Hp} {s:aad} {A:aaZ} {E:Xk} {Q:Xk} {c:Value} {b:Bool}
inductive TyOf (K:aaa) (H:Hp):V->Value->Prop where
 |non:TyOf K H .non (.type "NoneType")
 |bl (x:Bool):TyOf K H (.bl x) (.type "bool")
 |int (i:Int):TyOf K H (.int i) (.type "int")
 |str (x:Str):TyOf K H (.str x) (.type "str")
 |flt (x:UInt64):TyOf K H (.flt x) (.type "float")
 |lst {a:Addr} {xs:List V} (e:H a=some (.lst xs)):TyOf K H (.ref a) (.type "list")
 |frz {a:Addr} {o:Obj} {xs:List V} (e:H a=some (.frz o (.lst xs))):TyOf K H (.ref a) (.type "list")
 |tup {a:Addr} {xs:List V} (e:H a=some (.tup xs)):TyOf K H (.ref a) (.type "tuple")
 |dK {a:Addr} {kvs:List (Key×V)} (e:H a=some (.dK kvs)):TyOf K H (.ref a) (.type "dict")
 |dT {a:Addr} {kvs:List (List Key×V)} (e:H a=some (.dT kvs)):TyOf K H (.ref a) (.type "dict")
 |ins {a C dx:Addr} {fs:List (Str×V)} (e:H a=some (.ins C dx fs)) (cl:Cls K C) (ha:aaS K (.ref C) "__class__" =some (some (.builtin "object.__class__")))
  (hn:adg K (.builtin "object.__class__") "__get__" =some (some (.builtin "getset_descriptor.__get__"))) (htk:PySem.W.takesIn K (.builtin "object.__class__")=some true)
  (hm:PySem.W.mroIn K C (.type "object")=some true):TyOf K H (.ref a) (.ref C)
def Uq {x:V} {u t:Value} (I:Inv X pins σ H s) (rx:RelV x u) (ty:TyOf X.K H x t) (e:aaR X.K t c=some b) (h: ∀tk,Q (.bool b) {s with toks:=tk}):
  wpAny (model X.prog X.w) A (call (.builtin "isinstance") [u,c]) Q E s:=by
 cases ty with
 |non=>cases (show u=adn from rx);exact abh PySem.W.kitx_none I.kIn acH e (fun z=>nomatch z) h
 |bl y=>cases (show u=ab2 y from rx);exact abh PySem.W.kitx_bool I.kIn acH e (fun z=>nomatch z) h
 |int i=>obtain ⟨t,q⟩:=(show∃t,u=adh i t from rx);cases q;exact abh PySem.W.kitx_int I.kIn acH e (fun z=>nomatch z) h
 |str y=>obtain ⟨t,q⟩:=(show∃t,u=Value.str y t from rx);cases q;exact abh PySem.W.kitx_str I.kIn acH e (fun z=>nomatch z) h
 |flt y=>obtain ⟨t,q⟩:=(show∃t,u=Value.float y t from rx);cases q;exact abh PySem.W.kitx_float I.kIn acH e (fun z=>nomatch z) h
 | @lst a xs ea=>
  cases (show u=aaJ a from rx);obtain ⟨_,_,n,_,h1⟩:=(show ObjOk X.prog X.w H s.heap a (.lst xs) from I.hok a _ ea)
  exact abh PySem.W.kitx_list I.kIn ⟨_,h1,rfl⟩ e (fun z=>nomatch z) h
 | @frz a ob xs ea=>
  cases (show u=aaJ a from rx);obtain ⟨_,_,_,n,_,h1⟩:=(show ObjOk X.prog X.w H s.heap a (.frz ob (.lst xs)) from I.hok a _ ea)
  exact abh PySem.W.kitx_list I.kIn ⟨_,h1,rfl⟩ e (fun z=>nomatch z) h
 | @tup a xs ea=>
  cases (show u=aaJ a from rx);obtain ⟨_,_,_,p⟩:=(show ObjOk X.prog X.w H s.heap a (.tup xs) from I.hok a _ ea)
  obtain ⟨o,h1,h2,_⟩:=p;exact abh PySem.W.kitx_tuple I.kIn ⟨o,h1,h2⟩ e (fun z=>nomatch z) h
 | @dK a kvs ea=>
  cases (show u=aaJ a from rx);obtain ⟨_,_,vs,_,p⟩:=(show ObjOk X.prog X.w H s.heap a (.dK kvs) from I.hok a _ ea)
  obtain ⟨o,es,ep,h1,h2,_⟩:=p;exact abh PySem.W.kitx_dict I.kIn ⟨o,h1,h2.1⟩ e (fun z=>nomatch z) h
 | @dT a kvs ea=>
  cases (show u=aaJ a from rx);obtain ⟨_,_,xs,_,o,es,ep,h1,h2,_⟩:=(show ObjOk X.prog X.w H s.heap a (.dT kvs) from I.hok a _ ea)
  exact abh PySem.W.kitx_dict I.kIn ⟨o,h1,h2.1⟩ e (fun z=>nomatch z) h
 | @ins a C dx fs ea cl ha hn htk hm=>
  cases (show u=aaJ a from rx);obtain ⟨mA,O,_⟩:=ZS I.hok ea;obtain ⟨od,J,_⟩:=O.look;exact abh (PySem.W.kitx_own (cl.get _) cl.hd ha hn htk hm) I.kIn J e (fun z=>nomatch z) h
end
structure Room (k:Nat) (A:aaZ):Prop where
 hd:A.handled=none
 dp:A.depth+3*k+5<recursionLimit
 un:A.units+16*k+200<cLine
def Room.mono {j k:Nat} {A:aaZ} (r:Room k A) (h:j<=k):Room j A:=⟨r.hd,by have:=r.dp;omega,by have:=r.un;omega⟩
def Room.deeper {k:Nat} {A:aaZ} (r:Room (k+1) A) (env:Env):Room k (A.deeper env):=
 ⟨r.hd,by have:=r.dp;show A.depth+1+3*k+5<_;omega,by have:=r.un;show A.units+3+16*k+200<_;omega⟩
def KJ {A:aaZ} {C:Addr} {us:List Value} {kw:List (Str×Value)}:(A.under (.builtin "type.__call__" ⟨.ref C::us,kw⟩)).depth=A.depth+1:=by
 first|rfl|simp [Around.under,Code.weight,Code.isCreation,Code.isGuard,Code.isCaller,Code.frames,Code.isFrame,guardIds]
def KI {A:aaZ} {C:Addr} {us:List Value} {kw:List (Str×Value)}:(A.under (.builtin "type.__call__" ⟨.ref C::us,kw⟩)).units=A.units+1:=by
 first|rfl|simp [Around.under,Code.cUnits,Code.frames,Code.isFrame]
def Room.make {k:Nat} {A:aaZ} (r:Room (k+1) A) (C:Addr) (us:List Value) (kw:List (Str×Value)):Room k (A.under (.builtin "type.__call__" ⟨.ref C::us,kw⟩)):=
 ⟨r.hd,by have:=r.dp;rw [KJ];omega,by have:=r.un;rw [KI];omega⟩
def Room.depth {k:Nat} {A:aaZ} (r:Room k A):A.depth<recursionLimit:=by have:=r.dp;omega
def tNil:TA:=fun _ H Q=>Q [] H
def jdp (ta:TE) (tr:TA):TA:=fun σ H Q=>ta σ H fun x H1=>tr σ H1 fun xs H2=>Q (x::xs) H2
section
variable {X:Cx} {e:Expr} {es:List Expr} {te:TE} {t:TA} {pos:Pos}
def zn:PA X [] tNil:=fun _ _ _ _ H Q I h=>Calls.spliced_nil ⟨[],H,I,.nil,h⟩
def j5 (ha:PE X e te) (hr:PA X es t) (hs:Xj X e es:=by rfl):PA X (e::es) (jdp te t):=by
 intro pos pins s σ H Q I h;rw [hs];show wpAny _ _ (spliced ((false,eval e X.env)::aa1 pos (aac es X.env))) _ _ s;refine Calls.spliced_cons (thn (ha pins s σ H _ I h) fun u s1 ⟨x,H1,I1,r1,q1⟩=>?_);exact thn (hr pos pins s1 σ H1 _ I1 q1) fun us s2 ⟨xs,H2,I2,r2,q2⟩=>⟨x::xs,H2,I2,.cons r1 r2,q2⟩
def tTup (t:TA):TE:=fun σ H Q=>t σ H fun xs H1=>xs.length<=aae/\ ∀p,H1 p=none->Q (.ref p) (upd H1 p (.tup xs))
def tLst (t:TA):TE:=fun σ H Q=>t σ H fun xs H1=>xs.length<=aae/\ ∀p,H1 p=none->Q (.ref p) (upd H1 p (.lst xs))
def Yy {x1} (h:PA X es t):PE X (.Tuple es x1 pos) (tTup t):=by
 intro pins s σ H Q I hq;refine wpAny_Tuple_spliced (thn (h pos pins s σ H _ I hq) fun us s1 ⟨xs,H1,I1,r,z,q⟩=>⟨by rw [←r.length];exact z,?_⟩);have hf:H1 s1.heap.objs.size=none:=I1.hok.fresh (aas _);refine ⟨.ref s1.heap.objs.size,upd H1 s1.heap.objs.size (.tup xs),I1.laid (t':=s1.toks) (fun b u e=>aak _ e) (aas _) ?_,rfl,q _ hf⟩;exact ⟨z,us,r,⟨_,aaG _ rfl,rfl,_,rfl⟩⟩
def Yz (h:PA X es t):PE X (.List es pos) (tLst t):=by
 intro pins s σ H Q I hq;refine wpAny_List_spliced (thn (h pos pins s σ H _ I hq) fun us s1 ⟨xs,H1,I1,r,z,q⟩=>⟨by rw [←r.length];exact z,?_⟩);have hf:H1 s1.heap.objs.size=none:=I1.hok.fresh (aas _);refine ⟨.ref s1.heap.objs.size,upd H1 s1.heap.objs.size (.lst xs),I1.laid (t':=s1.toks) (fun b u e=>aak _ e) (aas _) ?_,rfl,q _ hf⟩;exact ⟨z,us,0,r,aaG _ rfl⟩
end
abbrev Sp:=List V->Hp->VK->XK->Prop
abbrev CXT:=List Env->Hp->aad->XK->Value->aad->Prop
structure Env0 (P:aaB) (w:World) (K:aaa) (mg:Yq) (base:Heap) (A:aaZ) (outer:List Env) (s:aad) (H:Hp):Prop where
 frames:A.frames=some outer
 mod:Mod K mg base
 bs: ∀b o,base.get? b=some o->s.heap.get? b=some o/\H b=none
 bsz:base.objs.size<=s.heap.objs.size
 funs:s.heap.FunFrames base outer
 frf: ∀b∈frs outer,H b=none
 hok:HOk P w H s.heap
 bare:ada s.gens
def CE (outer:List Env) (P:aaB) (w:World) (H:Hp) (s:aad) (Q:VK) (u:Value) (s':aad):Prop:=
 ∃v H',s'.os=s.os/\ada s'.gens/\Un (frs outer) [] H H' s.heap s'.heap/\HOk P w H' s'.heap/\RelV v u/\Q v H'
def CR (CX:CXT) (outer:List Env) (P:aaB) (w:World) (H:Hp) (s:aad) (Q:VK) (E:XK) (r:Result) (s':aad):Prop:=
 match r with
 | .ok (.ret u)=>CE outer P w H s Q u s'
 | .ok _=>False
 | .error e=>CX outer H s E e s'
structure FnOk (P:aaB) (w:World) (K:aaa) (mg:Yq) (base:Heap) (CX:CXT) (k:Nat) (f:Addr) (fd:abp) (ps:List Str) (sp:Sp):Prop where
 len: ∀vs H Q E,sp vs H Q E->vs.length=ps.length
 run: ∀(A:aaZ) (outer:List Env) (s:aad) (H:Hp) (args:Args) (us:List Value) (vs:List V) (Q:VK) (E:XK),Room k A->Env0 P w K mg base A outer s H->BindsTo s fd args (ps.zip us)->Vals vs us->sp vs H Q E->
  acX (model P w) A (.call (.ref f) args) (CR CX outer P w H s Q E) s
def FnOk.mono {P:aaB} {w:World} {K:aaa} {mg:Yq} {base:Heap} {CX:CXT} {j k:Nat} {f:Addr} {fd:abp} {ps:List Str} {sp:Sp} (F:FnOk P w K mg base CX j f fd ps sp) (h:j<=k):
 FnOk P w K mg base CX k f fd ps sp:=⟨F.len,fun A outer s H args us vs Q E hr=>F.run A outer s H args us vs Q E (hr.mono h)⟩
def Env0.make {P:aaB} {w:World} {K:aaa} {mg:Yq} {base:Heap} {A:aaZ} {outer:List Env} {s:aad} {H:Hp} (e:Env0 P w K mg base A outer s H) (C:Addr) (us:List Value) (kw:List (Str×Value)):
 Env0 P w K mg base (A.under (.builtin "type.__call__" ⟨.ref C::us,kw⟩)) outer s H:=⟨by first|exact e.frames| (simpa [Around.under,Code.envs,Code.isFrame,pushEnvs] using e.frames),e.mod,e.bs,e.bsz,e.funs,e.frf,e.hok,e.bare⟩
section
variable {X:Cx} {pins:List (Addr×Obj)} {σ:St} {H:Hp} {s s':aad}
def Inv.env0 (I:Inv X pins σ H s):Env0 X.prog X.w X.K X.mg X.base X.A X.stack s H:=
 ⟨I.ok.frames,I.ok.mod,I.bs,aaq I.ok.bsz I.sz,I.stack,I.stkFree,I.hok,I.bare⟩
def Inv.after {Q:VK} {u:Value} (I:Inv X pins σ H s) (h:CE X.stack X.prog X.w H s Q u s'):EP X pins σ Q u s':=by
 obtain ⟨v,H',os,bare,un,hok,r,q⟩:=h;obtain ⟨hh,g,d,t,os'⟩:=s';obtain rfl:os'=s.os:=os;exact ⟨v,H',I.call (h':=hh) (g':=g) (d':=d) (t':=t) (ch:=[]) un hok bare (fun b z=>absurd z (by simp)),r,q⟩
end
def jdq (sp:Sp) (dvs:List V) (E:XK) (t:TA):TE:=fun σ H Q=>t σ H fun vs H1=>sp (vs++dvs) H1 Q E
def jdl (C:Addr) (m:Str) (sp:Sp) (dvs:List V) (E:XK) (ta:TE) (t:TA):TE:=fun σ H Q=>ta σ H fun x H1=> ∃a dx fs,x= .ref a/\H1 a=some (.ins C dx fs)/\fs.lookup m=none/\
 t σ H1 fun vs H2=>sp (x::(vs++dvs)) H2 Q E
def jdm (C:Addr) (sp:Sp) (dvs:List V) (E:XK) (t:TA):TE:=fun σ H Q=>t σ H fun vs H1=> ∀x dx,H1 x=none->H1 dx=none->dx≠x->
 sp (.ref x::(vs++dvs)) (upd (upd H1 dx (.own x)) x (.ins C dx [])) (fun v H2=>v= .non/\Q (.ref x) H2) E
def Binds (K:aaa) (fd:abp) (ps:List Str) (ds:List Value):Prop:=
 ∀(s:aad) (us:List Value),K.In s.heap->(us++ds).length=ps.length->BindsTo s fd ⟨us,[]⟩ (ps.zip (us++ds))
def Binds.all {K:aaa} {fd:abp} {ps:List Str} (h: ∀us:List Value,us.length=ps.length->bindArgs fd ⟨us,[]⟩=pure (ps.zip us)):Binds K fd ps []:=fun s us _ hl=>by
 rw [aaV] at hl ⊢;exact .of_eq (h us hl)
def JI (CX:CXT) (X:Cx) (E:XK):Prop:= ∀(pins:List (Addr×Obj)) (σ:St) (H:Hp) (s:aad) (e:Value) (s':aad),Inv X pins σ H s->CX X.stack H s E e s'->X.xe e s'
section
variable {X:Cx} {CX:CXT} {k:Nat} {f C:Addr} {fd:abp} {ps:List Str} {sp:Sp} {dvs:List V} {ds:List Value} {E:XK} {x m:Str} {p pos apos:Pos} {e o:Expr} {es:List Expr} {ta:TE} {t:TA}
def uw {pins:List (Addr×Obj)} {σ:St} {H:Hp} {s:aad} {Q:VK} {us:List Value} {vs:List V} (F:FnOk X.prog X.w X.K X.mg X.base CX k f fd ps sp) (hr:Room k X.A) (hb:Binds X.K fd ps ds) (hd:Vals dvs ds) (hx:JI CX X E)
  (I:Inv X pins σ H s) (r:Vals vs us) (h:sp (vs++dvs) H Q E):wpAny (model X.prog X.w) X.A (call (.ref f) us) (EP X pins σ Q) X.xe s:=by
 have r2:Vals (vs++dvs) (us++ds):=r.append hd;have hl:(us++ds).length=ps.length:=by rw [←r2.length];exact F.len _ _ _ _ h
 refine ac5 (acw (F.run X.A X.stack s H ⟨us,[]⟩ (us++ds) (vs++dvs) Q E hr I.env0 (hb s us I.kIn hl) r2 h) fun r s' hq=>?_)
 cases r with
 |error e=>exact hx pins σ H s e s' I hq
 |ok fl=>
  cases fl with
  |ret u=>exact I.after hq
  |next=>exact aba hq
  |brk=>exact aba hq
  |cont=>exact aba hq
def Xs (F:FnOk X.prog X.w X.K X.mg X.base CX k f fd ps sp) (hr:Room k X.A) (hg:Gl X x) (hm:X.mg x=some (.ref f)) (hk:aaN X.K (.ref f)=true) (hb:Binds X.K fd ps ds) (hd:Vals dvs ds) (hx:JI CX X E)
  (ha:PA X (e::es) t) (hdb:Zu x:=by decide) (he:Xj X e es:=by rfl) (hpl:Wt X pos es:=by rfl):
  PE X (.Call (.Name x p) (e::es) [] pos) (jdq sp dvs E t):=by
 intro pins s σ H Q I h;refine abX (Jj I hg hm ?_ hdb);refine abY (h₀:=X.base) I.ok.mod.kin hk (thn (ha pos pins s σ H _ I h) fun us s1 ⟨vs,H1,I1,r,q⟩=>⟨I1.kIn,?_⟩) he hpl;exact uw F hr hb hd hx I1 r q
def jaA {pl:Sem Bool} (he:PE X o ta) (c:Cls X.K C) (hm:Meth X.K C m f) (F:FnOk X.prog X.w X.K X.mg X.base CX k f fd ps sp) (hr:Room k X.A) (hb:Binds X.K fd ps ds) (hd:Vals dvs ds) (hx:JI CX X E) (ha:PA X (e::es) t)
  (hst:Xj X e es:=by rfl) (hpl:Wt X pos es:=by rfl)
  (ht:eval (.Call (.Attribute o m apos) (e::es) [] pos) X.env=(do
   let ov←eval o X.env
   adi apos.atName
   let (f,first)←adj [ov] (getMethod ov m pl)
   callWith pos f first (aa1 pos (aac (e::es) X.env)) (abQ pos (abi [] X.env))):=by rfl):
  PE X (.Call (.Attribute o m apos) (e::es) [] pos) (jdl C m sp dvs E ta t):=by
 intro pins s σ H Q I h;refine acx (pl:=pl) (thn (he pins s σ H _ I h) fun u s1 ⟨x,H1,I1,rx,a,dx,fs,ex,ea,l,q⟩=>?_) ht;subst ex;obtain rfl:u=aaJ a:=rx;refine Jl I1 ea c hm l ?_;refine abY (first:=[.ref a]) (h₀:=X.base) I.ok.mod.kin hm.kp (thn (ha pos pins s1 σ H1 _ I1 q) fun us s2 ⟨vs,H2,I2,r,q2⟩=>⟨I2.kIn,?_⟩) hst hpl;exact uw (us:= .ref a::us) (vs:= .ref a::vs) F hr hb hd hx I2 (.cons rfl r) q2
structure Mk (K:aaa) (C f:Addr):Prop where
 makes:acl K C=true
 init:aaS K (.ref C) "__init__" =some (some (.ref f))
 fn:adk K (.ref f)=true
 kp:aaN K (.ref C)=true
def k9 {pins:List (Addr×Obj)} {σ:St} {H:Hp} {s:aad} {Q:VK} {us:List Value} {vs:List V} (M:Mk X.K C f) (F:FnOk X.prog X.w X.K X.mg X.base CX k f fd ps sp) (hr:Room (k+1) X.A) (hb:Binds X.K fd ps ds) (hd:Vals dvs ds)
  (hx:JI CX X E) (I:Inv X pins σ H s) (r:Vals vs us)
  (h: ∀x dx,H x=none->H dx=none->dx≠x->sp (.ref x::(vs++dvs)) (upd (upd H dx (.own x)) x (.ins C dx [])) (fun v H2=>v= .non/\Q (.ref x) H2) E):
  wpAny (model X.prog X.w) X.A (call (.ref C) us) (EP X pins σ Q) X.xe s:=by
 have hq:=h (s.heap.objs.size+1) s.heap.objs.size (I.hok.fresh (acM _)) (I.hok.fresh (aas _)) (aa0 (ace _));have I2:=Inv.made (C:=C) I;have r2:Vals (V.ref (s.heap.objs.size+1)::(vs++dvs)) (aaJ (s.heap.objs.size+1)::(us++ds)):= .cons rfl (r.append hd)
 have hl:(aaJ (s.heap.objs.size+1)::us++ds).length=ps.length:=by
  have e:=r2.length;rw [F.len _ _ _ _ hq] at e;exact e.symm
 refine ac5 (vF (f:=f) I.kIn M.makes M.init (beq_iff_eq.mp M.fn) (acw (F.run _ X.stack _ _ ⟨aaJ (s.heap.objs.size+1)::us,[]⟩ (aaJ (s.heap.objs.size+1)::(us++ds)) _ _ E (hr.make C us [])
  (I2.env0.make C us []) (hb _ (aaJ (s.heap.objs.size+1)::us) I2.kIn hl) r2 hq) fun r s' hq'=>?_))
 cases r with
 |error e=>exact hx pins σ _ _ e s' I2 hq'
 |ok fl=>
  cases fl with
  |ret u=>
   obtain ⟨v,H',I3,rv,ev,q3⟩:=I2.after hq';subst ev;exact ⟨rv,⟨V.ref (s.heap.objs.size+1),H',I3,rfl,q3⟩⟩
  |next=>exact aba hq'
  |brk=>exact aba hq'
  |cont=>exact aba hq'
def jaB (M:Mk X.K C f) (F:FnOk X.prog X.w X.K X.mg X.base CX k f fd ps sp) (hr:Room (k+1) X.A) (hg:Gl X x) (hm:X.mg x=some (.ref C)) (hb:Binds X.K fd ps ds) (hd:Vals dvs ds) (hx:JI CX X E)
  (ha:PA X (e::es) t) (hdb:Zu x:=by decide) (he:Xj X e es:=by rfl) (hpl:Wt X pos es:=by rfl):
  PE X (.Call (.Name x p) (e::es) [] pos) (jdm C sp dvs E t):=by
 intro pins s σ H Q I h;refine abX (Jj I hg hm ?_ hdb);refine abY (h₀:=X.base) I.ok.mod.kin M.kp (thn (ha pos pins s σ H _ I h) fun us s1 ⟨vs,H1,I1,r,q⟩=>⟨I1.kIn,?_⟩) he hpl;exact k9 M F hr hb hd hx I1 r q
end
structure FnScope (N P:List Str) (sc:Scope):Prop where
 kind:sc.kind= .function
 co:sc.isCoroutine=false
 gen:sc.isGenerator=false
 nd:N.Nodup
 pre:N.take P.length=P
 par: ∀x∈P,sc.names.lookup x=some .local\/sc.names.lookup x=some .cell
 nofree: ∀y∈sc.names,y.2≠ .free
theorem W8 {kindOf:Str->Option NameKind} {x:Str}: ∀ {binds:List (Str×Value)} {m:Yq},(∀v,(x,v)∉binds)->bindL kindOf binds m x=m x
 | [],_,_=>rfl
 | (n,v)::r,m,h=>by
  unfold bindL;rw [W8 fun w hw=>h w (aar _ hw)]
  split
  · have:x≠n:=by rintro rfl;exact h v aaA
    simp [this]
  · rfl
theorem Xa {kindOf:Str->Option NameKind} {x:Str}: ∀ {binds:List (Str×Value)} {m:Yq},(∀v,(x,v)∉binds)->bindC kindOf binds m x=m x
 | [],_,_=>rfl
 | (n,v)::r,m,h=>by
  unfold bindC;rw [Xa fun w hw=>h w (aar _ hw)]
  split
  · rfl
  · have:x≠n:=by rintro rfl;exact h v aaA
    simp [this]
theorem W9 {kindOf:Str->Option NameKind} {x:Str} {v:Value}: ∀ {P:List Str} {vs:List Value} {i:Nat} {m:Yq},P.Nodup->P[i]?=some x->vs[i]?=some v->kindOf x=some .local->
  bindL kindOf (P.zip vs) m x=some v
 | [],_,_,_,_,h,_,_=>by simp at h
 |_::_,[],_,_,_,_,h,_=>by simp at h
 |p::P,w::vs,0,m,nd,h1,h2,hk=>by
  simp at h1 h2;subst h1;subst h2;show bindL kindOf ((p,w)::P.zip vs) m p=_;unfold bindL;rw [W8 fun v hv=>(acm.mp nd).1 (List.of_mem_zip hv).1,if_pos hk];simp
 |p::P,w::vs,i+1,m,nd,h1,h2,hk=>by
  show bindL kindOf ((p,w)::P.zip vs) m x=_;unfold bindL;exact W9 (i:=i) (acm.mp nd).2 (by simpa using h1) (by simpa using h2) hk
theorem Xb {kindOf:Str->Option NameKind} {x:Str} {v:Value}: ∀ {P:List Str} {vs:List Value} {i:Nat} {m:Yq},P.Nodup->P[i]?=some x->vs[i]?=some v->kindOf x≠some .local->
  bindC kindOf (P.zip vs) m x=some v
 | [],_,_,_,_,h,_,_=>by simp at h
 |_::_,[],_,_,_,_,h,_=>by simp at h
 |p::P,w::vs,0,m,nd,h1,h2,hk=>by
  simp at h1 h2;subst h1;subst h2;show bindC kindOf ((p,w)::P.zip vs) m p=_;unfold bindC;rw [Xa fun v hv=>(acm.mp nd).1 (List.of_mem_zip hv).1,if_neg hk];simp
 |p::P,w::vs,i+1,m,nd,h1,h2,hk=>by
  show bindC kindOf ((p,w)::P.zip vs) m x=_;unfold bindC;exact Xb (i:=i) (acm.mp nd).2 (by simpa using h1) (by simpa using h2) hk
def start (N:List Str) (vs:List V):St:=vs.map some++aaH (N.length-vs.length) none
def cxOf (CX:CXT) (P:aaB) (w:World) (K:aaa) (mg:Yq) (base:Heap) (N:List Str) (qual:Str) (scope:Scope) (f:Addr) (cd:Value) (A:aaZ) (outer:List Env) (s:aad) (H:Hp) (E:XK):Cx where
 prog:=P
 w:=w
 K:=K
 mg:=mg
 base:=base
 A:=A.deeper (ab7 qual scope s.heap.objs.size f cd)
 N:=N
 s₀:=s
 H₀:=H
 env:=ab7 qual scope s.heap.objs.size f cd
 outer:=outer
 stack:=ab7 qual scope s.heap.objs.size f cd::outer
 ex:=[]
 calm:=true
 fn:=fun _=>true
 pn:=[]
 xe:=fun e s'=>wpAny (model P w) (A.deeper (ab7 qual scope s.heap.objs.size f cd)) (leaving (ab7 qual scope s.heap.objs.size f cd) e) (fun _ s''=>CX outer H s E e s'') (fun e' s''=>CX outer H s E e' s'') s'
def Kk {sc:Scope} {n:Nat} {x:Str} (h:sc.names.lookup x=some .cell): ∃c,(cellsFrom n sc.names []).lookup x=some c:=by
 have q:=PySem.W.cellsFrom_some sc.names n [] (.inl h);exact acg.mp q
def Us {CX:CXT} {P:aaB} {w:World} {K:aaa} {mg:Yq} {base:Heap} {N ps:List Str} {qual:Str} {scope:Scope} {f:Addr} {cd:Value} {A:aaZ} {outer:List Env} {s s1:aad} {H:Hp} {E:XK} {us:List Value} {vs:List V}
   (S:FnScope N ps scope) (hd:A.handled=none) (e0:Env0 P w K mg base A outer s H) (hl:vs.length=ps.length) (r:Vals vs us)
   (x:InCallC s s.heap.objs.size (bindL (ab7 qual scope s.heap.objs.size f cd).kindOf (ps.zip us) fun _=>none) (cellsFrom (s.heap.objs.size+1) scope.names []) (bindC (ab7 qual scope s.heap.objs.size f cd).kindOf (ps.zip us) fun _=>none) s1):
   Inv (cxOf CX P w K mg base N qual scope f cd A outer s H E) [] (start N vs) H s1:=by
 have hpl:ps.length<=N.length:=by have:=congrArg abN S.pre;rw [acA] at this;omega
 obtain ⟨h1,tk,rfl,hk⟩:=x.done;have noA: ∀b:Addr,b∉(cxOf CX P w K mg base N qual scope f cd A outer s H E).ex:=fun b z=>absurd (show b∈([]:List Addr) from z) (by simp)
 refine ⟨⟨e0.mod,S.kind,rfl,rfl,aas _,fun y z c h1 h2=>?_,fun y hy=>?_,fun y c _ h=>?_,fun _=>hd,Around.frames_deeper e0.frames,.inr ⟨rfl,rfl⟩,fun b z=>absurd z (noA b),e0.bs,e0.bsz,fun b _ _=>noA b,fun b z=>absurd z (noA b),e0.funs,e0.frf⟩,
   rfl,e0.bare,Un.kept hk,⟨_,x.toInCall.ns,fun i y v h1 h2 h3=>?_⟩,fun y c h=>⟨_,x.cell y c h⟩,e0.hok.fresh (aas _),fun y c h=>?_,fun p hp=>absurd (show p∈([]:List (Addr×Obj)) from hp) (by simp),e0.hok.kept hk,?_⟩
 · exact name_of_addr x.apart (abv h1) (abv h2)
 · have hy:scope.names.lookup y=some .cell\/scope.names.lookup y=some .free:=hy;rcases hy with hy|hy
   · exact Kk hy
   · exact absurd rfl (S.nofree _ (abv hy))
 · exact Nat.le_of_lt (x.above y c (abv h))
 · have hi:i<vs.length:=by
     unfold start at h2
     by_cases hi:i<vs.length
     · exact hi
     · rw [aan (by simpa using hi)] at h2;rw [aa3] at h2
       split at h2<;>cases h2
   have ha:vs[i]?=some v:=by
     unfold start at h2;rw [aay (by simpa using hi),aaW] at h2
     cases e:vs[i]? with
     |none=>rw [e] at h2;cases h2
     |some a=>rw [e] at h2;cases h2;rfl
   obtain ⟨u,hu,rv⟩:=r.get ha
   have hp:ps[i]?=some y:=by
     rw [←S.pre,List.getElem?_take_of_lt (by omega)];exact h1
   have ndP:ps.Nodup:=by rw [←S.pre];exact S.nd.sublist (List.take_sublist _ _)
   refine ⟨u,rv,?_⟩;rcases S.par y (List.mem_of_getElem? hp) with k|k
   · exact .inl ⟨k,W9 ndP hp hu k⟩
   · obtain ⟨c,e⟩:=Kk (n:=s.heap.objs.size+1) k;refine .inr ⟨.inl k,c,e,?_⟩;have q:=x.cell y c e;rw [Xb ndP hp hu (by show scope.names.lookup y≠_;rw [k];decide)] at q;exact q
 · exact e0.hok.fresh (Nat.le_of_lt (x.above y c (abv h)))
 · unfold start;show _=N.length;rw [aai,aaK,List.length_replicate];omega
def ja4 {CX:CXT} {P:aaB} {w:World} {K:aaa} {mg:Yq} {base:Heap} {k:Nat} {f:Addr} {name qual:Str} {params:Arguments} {body:List Stmt} {scope:Scope} {dV kV doc pm cdv ct oc:Value} {an od:Option Addr}
  {osl:Array (Option Value)} {N ps:List Str} {sp:Sp} (lk:K.lookup f=some ⟨oc,od,.func (abK name qual params body scope dV kV doc pm an cdv ct),osl⟩) (hcd:acp K cdv qual=true) (S:FnScope N ps scope)
  (len: ∀vs H Q E,sp vs H Q E->vs.length=ps.length)
  (hbody: ∀(A:aaZ) (outer:List Env) (s:aad) (H:Hp) (vs:List V) (Q:VK) (E:XK),Room k (A.deeper (ab7 qual scope s.heap.objs.size f cdv))->sp vs H Q E->
    ∃t,PSs (cxOf CX P w K mg base N qual scope f cdv A outer s H E) body t/\t {nx:=fun _ H'=>Q .non H',rt:=Q} (start N vs) H):
  FnOk P w K mg base CX (k+1) f (abK name qual params body scope dV kV doc pm an cdv ct) ps sp:=by
 refine ⟨len,fun A outer s H args us vs Q E hr e0 hb r hsp=>?_⟩;have hl:=len _ _ _ _ hsp;have KX:K.In s.heap:=e0.mod.kin.keeps fun b o e=>(e0.bs b o e).1
 have lim:s.heap.NoLimit:=e0.mod.nolimit.keeps fun b o e=>(e0.bs b o e).1
 have hkind: ∀y∈ps.zip us,scope.names.lookup y.1=some .local\/(scope.names.lookup y.1=some .cell/\((cellsFrom (s.heap.objs.size+1) scope.names []).lookup y.1).isSome=true):=fun ⟨n,v⟩ hy=>by
  rcases S.par n (List.of_mem_zip hy).1 with q|q
  · exact .inl q
  · exact .inr ⟨q,PySem.W.cellsFrom_some _ _ _ (.inl q)⟩
 refine codeAny_call_function hr.depth (KX _ _ lk) rfl S.co S.gen rfl (PySem.W.codeRec_of KX hcd) (hb _ _ _ _ ?_);refine wpAny_newFunctionEnv_cells S.kind hkind fun env he s1 x=>?_
 subst he;refine ⟨lim.keeps x.toInCall.keep,codeAny_func ?_⟩;obtain ⟨t,ht,hq⟩:=hbody A outer s H vs Q E (hr.deeper _) hsp;have I:Inv (cxOf CX P w K mg base N qual scope f cdv A outer s H E) [] (start N vs) H s1:=Us S hr.hd e0 hl r x;refine abR (ht [] s1 (start N vs) H _ I hq) (fun fl s' hs=>?_) fun e s' hs=>hs
 have fin: ∀ {σ':St} {H':Hp} {v:V} {u:Value},Inv (cxOf CX P w K mg base N qual scope f cdv A outer s H E) [] σ' H' s'->RelV v u->Q v H'->CE outer P w H s Q u s':=
  fun {σ' H' v u} J rv q=>⟨v,H',J.os,J.bare,J.base,J.hok,rv,q⟩
 cases fl with
 |ret u=>
  obtain ⟨v,σ',H',J,rv,q⟩:=hs;exact fin J rv q
 |next=>
  obtain ⟨σ',H',J,q⟩:=hs;exact fin (v:=V.non) (u:=adn) J rfl q
 |brk=>
  obtain ⟨_,_,_,q⟩:=hs;exact aba q
 |cont=>
  obtain ⟨_,_,_,q⟩:=hs;exact aba q
section
variable {X:Cx} {x:Str} {p pos:Pos} {e:Expr} {es:List Expr} {t:TA} {id T:String} {r:List V->Hp->VK->Prop}
def tCB (r:List V->Hp->VK->Prop) (t:TA):TE:=fun σ H Q=>t σ H fun vs H1=>r vs H1 Q
def wM (hc:CallR X (.builtin id) r) (hg:Gl X x) (hm:X.mg x=none) (hv:aby x=some (.builtin id)) (ha:PA X (e::es) t) (hn:x≠ "__name__" :=by decide) (hdb:Zu x:=by decide)
  (he:Xj X e es:=by rfl) (hpl:Wt X pos es:=by rfl):PE X (.Call (.Name x p) (e::es) [] pos) (tCB r t):=by
 intro pins s σ H Q I h;refine abX (YT I hg hm hv ?_ hn hdb);exact PyProof.Rows.callWith_builtin1 (thn (ha pos pins s σ H _ I h) fun us s1 ⟨vs,H1,I1,r1,q1⟩=>hc pins s1 σ H1 vs us Q I1 r1 q1) he hpl
def Ww (hc:CallR X (.type T) r) (hg:Gl X x) (hm:X.mg x=none) (hv:aby x=some (.type T)) (ha:PA X (e::es) t) (hn:x≠ "__name__" :=by decide) (hdb:Zu x:=by decide)
  (he:Xj X e es:=by rfl) (hpl:Wt X pos es:=by rfl):PE X (.Call (.Name x p) (e::es) [] pos) (tCB r t):=by
 intro pins s σ H Q I h;refine abX (YT I hg hm hv ?_ hn hdb);exact acJ (thn (ha pos pins s σ H _ I h) fun us s1 ⟨vs,H1,I1,r1,q1⟩=>hc pins s1 σ H1 vs us Q I1 r1 q1) he hpl
end
end L2
namespace HT
open PySem PyProof.Rows
section
variable {prog:aaB} {w:World} {A:aaZ} {E:Xk} {s:aad}
def cat_tup {t b:Addr} {vs ws:List Value} {Q:Xk} (ht:IsTup s.heap t vs.toArray) (hb:IsTup s.heap b ws.toArray) (hv:vs≠[])
   (h1:ws=[]->Q (.ref t) s) (h2:ws≠[]->Q (.ref s.heap.objs.size) {s with heap:=s.heap.push {cls:= .type "tuple",data:= .seq (vs++ws).toArray}})
   (hsz:vs.length+ws.length<=aae):wpAny (model prog w) A (abH .Add (.ref t) (.ref b)) Q E s:=by
 obtain ⟨⟨cls,dd,data,sl⟩,ho,hc,n,hd⟩:=id ht;obtain ⟨⟨cls2,dd2,data2,sl2⟩,ho2,hc2,n2,hd2⟩:=id hb;simp only at hc hd hc2 hd2;subst hc hd hc2 hd2;have e:vs.toArray++ws.toArray=(vs++ws).toArray:=by simp
 by_cases hw:ws=[]
 · exact concat_meets ⟨_,ho,rfl⟩ ⟨_,ho2,rfl⟩ noFill_tuple_add seq_tuple_add PySem.F.slot_tuple_add PySem.F.entry_tuple_add (PySem.F.args_tuple_add_2 _ _)
    (tuple_addW1 t b vs.toArray ws.toArray n n2 dd dd2 sl sl2 (by simpa using hv) (by simp [hw])) ⟨ho,ho2,h1 hw⟩
 · refine concat_meets ⟨_,ho,rfl⟩ ⟨_,ho2,rfl⟩ noFill_tuple_add seq_tuple_add PySem.F.slot_tuple_add PySem.F.entry_tuple_add (PySem.F.args_tuple_add_2 _ _)
    (tuple_addW2 t b vs.toArray ws.toArray n n2 dd dd2 sl sl2 (by simpa using hv) (by simpa using hw) (by rw [aag,aag];exact hsz)) ⟨ho,ho2,?_⟩
   rw [e];exact h2 hw
def sIx (n d:Nat):Option Int->Nat
 |none=>d
 |some v=>if v<0 then (v+(n:Int)).toNat else min v.toNat n
def sIx_none (n d:Nat):sIx n d none=d:=rfl
def sIx_nat (n d k:Nat):sIx n d (some (k:Int))=min k n:=by
 show (if (k:Int)<0 then ((k:Int)+(n:Int)).toNat else min (k:Int).toNat n)=min k n;rw [if_neg (by omega),Int.toNat_natCast]
def jb1 (n d:Nat) (hd:d<=n) (o:Option Int):sIx n d o<=n:=by
 cases o with
 |none=>exact hd
 |some v=>
  show (if v<0 then (v+(n:Int)).toNat else min v.toNat n)<=n
  by_cases hv:v<0
  · rw [if_pos hv];omega
  · rw [if_neg hv];exact Nat.min_le_right _ _
def km (v:Int) (n d:Nat):(if v<0 then max (v+(n:Int)) 0 else min v (n:Int))=((sIx n d (some v):Nat):Int):=by
 show (if v<0 then max (v+(n:Int)) 0 else min v (n:Int))=(((if v<0 then (v+(n:Int)).toNat else min v.toNat n):Nat):Int)
 by_cases hv:v<0
 · simp only [if_pos hv];omega
 · simp only [if_neg hv];omega
def K0 (lo hi:Option Int) (n:Nat):aca lo hi 1 (n:Int)=(((sIx n 0 lo:Nat):Int),((sIx n n hi:Nat):Int)):=by
 have h1: ¬((1:Int)<0):=by omega
 unfold aca;simp only [h1,if_false];refine Prod.ext ?_ ?_
 · cases lo with
   |none=>rfl
   |some v=>exact km v n 0
 · cases hi with
   |none=>rfl
   |some v=>exact km v n n
def KB (i j:Nat):abO (i:Int) (j:Int) 1=j-i:=by
 unfold abO;have h1:(1:Int)>0:=by omega
 simp only [h1,if_true,Int.ediv_one]
 split<;>omega
def QT {v:Value} {o:Option Int} {Q:Option Int->aad->Prop} (p:IsPart v o) (h:Q o s):wpAny (model prog w) A (Builtin.Slice.slicePartIndex v) Q E s:=by
 cases p with
 |none=>exact slicePart_none h
 |int i t=>exact slicePart_int h
def sliceApplied_gen {sl:Addr} {vl vu:Value} {lo hi:Option Int} {n:Nat} {Q:Int×Int×Nat->aad->Prop} (hs:s.heap.IsSliceOf sl vl vu .none) (pl:IsPart vl lo) (pu:IsPart vu hi)
  (h:Q (((sIx n 0 lo:Nat):Int),1,sIx n n hi-sIx n 0 lo) s):wpAny (model prog w) A (acR (.ref sl) (pure (n:Int))) Q E s:=by
 obtain ⟨os,hos,hcs,hds⟩:=id hs;unfold acR Builtin.Slice.sliceFields;refine aaf (aaf (wpAny_field hos hds (x:=vl) rfl (aaf (wpAny_field hos hds (x:=vu) rfl (aaf (wpAny_field hos hds (x:= .none) rfl (aam ?_)))))));refine aaf (slicePart_none ?_);show wpAny _ _ (if ((1:Int)==0)=true then _ else _) _ _ s;rw [if_neg (by decide)];refine aaf (QT pl (aaf (QT pu (aaf (aam ?_)))));show wpAny _ _ (match aca lo hi 1 (n:Int) with| (lo,hi)=>pure (lo,(1:Int),abO lo hi 1)) _ _ s;rw [K0 lo hi n];show wpAny _ _ (pure (((sIx n 0 lo:Nat):Int),(1:Int),abO ((sIx n 0 lo:Nat):Int) ((sIx n n hi:Nat):Int) 1)) _ _ s;rw [KB];exact aam h
def vn (xs:Array Value) (i k:Nat):((abu k).filterMap fun (m:Nat)=>xs[((i:Int)+(m:Int)*1).toNat]?).toArray=((xs.toList.drop i).take k).toArray:=by
 have e:(fun (m:Nat)=>xs[((i:Int)+(m:Int)*1).toNat]?)=fun m=>xs[i+m]?:=by
  funext m;have:((i:Int)+(m:Int)*1).toNat=i+m:=by omega
  rw [this]
 rw [e];have:=pick_run xs i k;rw [List.filterMap_map] at this;have e2:((fun x=>xs[x]?) ∘ fun x=>i+x)=fun m=>xs[i+m]?:=rfl
 rw [e2] at this;rw [this]
def getItem_tuple_cut {t sl:Addr} {items:Array Value} {vl vu:Value} {lo hi:Option Int} {Q:Xk} (ht:IsTup s.heap t items) (hs:s.heap.IsSliceOf sl vl vu .none) (pl:IsPart vl lo) (pu:IsPart vu hi)
  (hw: ¬(sIx items.size 0 lo=0/\sIx items.size items.size hi=items.size))
  (h:Q (.ref s.heap.objs.size) {s with heap:=s.heap.push {cls:= .type "tuple",data:= .seq ((items.toList.drop (sIx items.size 0 lo)).take (sIx items.size items.size hi-sIx items.size 0 lo)).toArray}})
  (hsz:items.size<=aae):wpAny (model prog w) A (getItem (.ref t) (.ref sl)) Q E s:=by
 have htake:sizeOk (.seq ((items.toList.drop (sIx items.size 0 lo)).take (sIx items.size items.size hi-sIx items.size 0 lo)).toArray):=by
  show ((items.toList.drop (sIx items.size 0 lo)).take (sIx items.size items.size hi-sIx items.size 0 lo)).toArray.size<=aae;rw [aag,acA,acB,abk];omega
 have hj:sIx items.size items.size hi<=items.size:=jb1 _ _ (aas _) hi;obtain ⟨os,hos,hcs,hds⟩:=id hs;have hTs:s.TypeIs (.ref sl) "slice" :=⟨os,hos,hcs⟩
 unfold getItem
 try with_reducible refine acG ?_
 first|refine aaf (aam ?_)|skip
 refine aaf (wpAny_sequenceKey ht.typeIs (by decide) ?_)
 refine aaf (wpAny_callSpecial?_slot (name:=aaD "__getitem__") ht.typeIs aaP
  (wpAny_call_entry aaP ht.typeIs entry_tuple_getitem ?_ (args_tuple_getitem _ _)))
 show wpAny _ _ (acS (.ref t)>>=_) _ _ s;refine aaf (tupleItemsOf_ ht ?_);refine aaf (wpAny_typeOf hTs ?_);rw [if_pos (by decide)];refine aaf (sliceApplied_gen hs pl pu ?_)
 have hno: ¬((((sIx items.size 0 lo:Nat):Int)==0&&(1:Int)==1&&(sIx items.size items.size hi-sIx items.size 0 lo)==items.size)=true):=by
  intro q;rw [aap,aap] at q;have q1:((sIx items.size 0 lo:Nat):Int)=0:=eq_of_beq q.1.1;have q2:sIx items.size items.size hi-sIx items.size 0 lo=items.size:=eq_of_beq q.2;exact hw ⟨by omega,by omega⟩
 show wpAny _ _ (if (((sIx items.size 0 lo:Nat):Int)==0&&(1:Int)==1&&(sIx items.size items.size hi-sIx items.size 0 lo)==items.size)=true then _ else _) _ _ s;rw [if_neg hno,vn]
 first
  |exact aaf (m:=abT _) (ab3 (aam ⟨_,rfl,aam h⟩) htake)
  |exact aaf (m:=abT _) (ab3 (aaf (aam (aam ⟨_,rfl,aam h⟩))) htake)
  |exact aaf (aaf (m:=abT _) (ab3 (aam (aam ⟨_,rfl,aam h⟩)) htake))
  |exact aaf (aaf (m:=abT _) (ab3 (aam ⟨_,rfl,aam h⟩) htake))
end
end HT
namespace L2
open PySem PySem.Spec PyProof.Rows
abbrev TO:=St->Hp->(Option Int->Hp->Prop)->Prop
def PO (X:Cx) (e:Option Expr) (t:TO):Prop:=
 ∀(pins:List (Addr×Obj)) (s:aad) (σ:St) (H:Hp) (Q:Option Int->Hp->Prop),Inv X pins σ H s->t σ H Q->
  wpAny (model X.prog X.w) X.A (evalPart e X.env) (fun u s'=> ∃o H',Inv X pins σ H' s'/\IsPart u o/\Q o H') X.xe s
def jaa:TO:=fun _ H Q=>Q none H
def jdg (t:TE):TO:=fun σ H Q=>t σ H fun x H1=> ∃i,x= .int i/\Q (some i) H1
section
variable {X:Cx} {e:Expr} {te:TE} {lo hi:Option Expr} {tl th:TO} {pos p2:Pos}
def jav:PO X none jaa:=by
 intro pins s σ H Q I h;rw [evalPart_none];exact aam ⟨none,H,I,.none,h⟩
def jau (h:PE X e te):PO X (some e) (jdg te):=by
 intro pins s σ H Q I hw;rw [evalPart_some];refine thn (h pins s σ H _ I hw) fun u s1 ⟨x,H1,I1,r1,q1⟩=>?_
 obtain ⟨i,rfl,q⟩:=q1;obtain ⟨t,rfl⟩:=r1;exact ⟨some i,H1,I1,.int i t,q⟩
def SlR (X:Cx) (r:V->Option Int->Option Int->Hp->VK->Prop):Prop:=
 ∀(pins:List (Addr×Obj)) (s:aad) (σ:St) (H:Hp) (x:V) (v vl vu:Value) (lo hi:Option Int) (sl:Addr) (Q:VK),Inv X pins σ H s->RelV x v->s.heap.IsSliceOf sl vl vu .none->IsPart vl lo->IsPart vu hi->r x lo hi H Q->
  ∃T id,typeLookup (.type T) "__getitem__" =pure (some (.builtin id))/\s.TypeIs v T/\wpAny (model X.prog X.w) X.A (getItem v (.ref sl)) (EP X pins σ Q) X.xe s
def SlR.or {r r':V->Option Int->Option Int->Hp->VK->Prop} (h:SlR X r) (h':SlR X r'):SlR X (fun x lo hi H Q=>r x lo hi H Q\/r' x lo hi H Q):=by
 intro pins s σ H x v vl vu lo hi sl Q I rx hs pl pu q;rcases q with q|q
 · exact h pins s σ H x v vl vu lo hi sl Q I rx hs pl pu q
 · exact h' pins s σ H x v vl vu lo hi sl Q I rx hs pl pu q
def tSl (r:V->Option Int->Option Int->Hp->VK->Prop) (te:TE) (tl th:TO):TE:=fun σ H Q=>te σ H fun x H1=>tl σ H1 fun l H2=>th σ H2 fun u H3=>r x l u H3 Q
def vo {r:V->Option Int->Option Int->Hp->VK->Prop} (hr:SlR X r) (he:PE X e te) (hl:PO X lo tl) (hu:PO X hi th):PE X (.Subscript e (.Slice lo hi none p2) pos) (tSl r te tl th):=by
 intro pins s σ H Q I h;refine Subscript_ (thn (he pins s σ H _ I h) fun v s1 ⟨x,H1,I1,r1,q1⟩=>?_);refine wpAny_Slice (thn (hl pins s1 σ H1 _ I1 q1) fun vl s2 ⟨l,H2,I2,pl,q2⟩=>thn (hu pins s2 σ H2 _ I2 q2) fun vu s3 ⟨u,H3,I3,pu,q3⟩=>?_);rw [evalPart_none];refine aam ?_;have I4:Inv X pins σ H3 {s3 with heap:=s3.heap.push {cls:= .type "slice",data:= .fields #[vl,vu,.none]}}:=I3.kept (t':=s3.toks) fun b ob q=>aak _ q
 obtain ⟨T,id,hT,ht,hg⟩:=hr pins {s3 with heap:=s3.heap.push {cls:= .type "slice",data:= .fields #[vl,vu,.none]}} σ H3 x v vl vu l u s3.heap.objs.size Q I4 r1 (Heap.IsSliceOf.new ..) pl pu q3;show wpAny (model X.prog X.w) X.A (subscriptTail e (.Slice lo hi none p2) v (.ref s3.heap.objs.size)) (EP X pins σ Q) X.xe {s3 with heap:=s3.heap.push {cls:= .type "slice",data:= .fields #[vl,vu,.none]}};exact tail_any (ops:=[.ref s3.heap.objs.size,v]) ht hT hg (by with_unfolding_all rfl)
def cutV (xs:List V) (lo hi:Option Int):List V:=(xs.drop (HT.sIx xs.length 0 lo)).take (HT.sIx xs.length xs.length hi-HT.sIx xs.length 0 lo)
def Qz (xs:List V) (lo hi:Option Int):(cutV xs lo hi).length<=xs.length:=by
 unfold cutV;rw [acA,acB];omega
def rSlT (K:aaa):V->Option Int->Option Int->Hp->VK->Prop:=fun x lo hi H Q=> ∃a xs,x= .ref a/\SqT K H a xs/\
 ¬(HT.sIx xs.length 0 lo=0/\HT.sIx xs.length xs.length hi=xs.length)/\ ∀p,H p=none->Q (.ref p) (upd H p (.tup (cutV xs lo hi)))
def sl_tup:SlR X (rSlT X.K):=by
 intro pins s σ H x v vl vu lo hi sl Q I rx hs pl pu h;obtain ⟨a,xs,rfl,hx,hw,q⟩:=h;cases rx;obtain ⟨its,r,ht,hz⟩:=I.tuple hx;have hlen:its.toArray.size=xs.length:=by rw [aag];exact r.length.symm
 refine ⟨"tuple",_,aaP.lookup,ht.typeIs,?_⟩;refine HT.getItem_tuple_cut ht hs pl pu (by rw [hlen];exact hw) ?_ (by rw [hlen];exact hz);rw [hlen];refine ⟨.ref s.heap.objs.size,_,I.laid (t':=s.toks) (o:= .tup (cutV xs lo hi)) (fun b ob q=>aak _ q) (aas _) ?_,rfl,q _ (I.hok.fresh (aas _))⟩;exact ⟨aaq (Qz xs lo hi) hz,_,(r.drop (HT.sIx xs.length 0 lo)).take (HT.sIx xs.length xs.length hi-HT.sIx xs.length 0 lo),IsTup.new _ _⟩
def jal (K:aaa):R2:=fun x y H Q=> ∃a b xs ys,x= .ref a/\y= .ref b/\SqT K H a xs/\SqT K H b ys/\xs≠[]/\xs.length+ys.length<=aae/\
 (ys=[]->Q (.ref a) H)/\(ys≠[]-> ∀p,H p=none->Q (.ref p) (upd H p (.tup (xs++ys))))
def Vals.nil_iff {xs:List V} {us:List Value} (r:Vals xs us):us=[]↔xs=[]:=by
 cases r with
 |nil=>simp
 |cons _ _=>simp
def jaE:OpR X (abH .Add) (jal X.K):=by
 intro pins s σ H x y v u Q I rx ry h;obtain ⟨a,b,xs,ys,rfl,rfl,ha,hb,hx,hz,q1,q2⟩:=h;cases rx;cases ry;obtain ⟨its,r1,p1,_⟩:=I.tuple ha;obtain ⟨its2,r2,p2,_⟩:=I.tuple hb;refine HT.cat_tup p1 p2 (fun z=>hx (r1.nil_iff.mp z)) (fun z=>⟨.ref a,H,I,rfl,q1 (r2.nil_iff.mp z)⟩) (fun z=>?_) (by rw [←r1.length,←r2.length];exact hz);refine ⟨.ref s.heap.objs.size,_,I.laid (t':=s.toks) (o:= .tup (xs++ys)) (fun b ob q=>aak _ q) (aas _) ?_,rfl,q2 (fun w=>z (r2.nil_iff.mpr w)) _ (I.hok.fresh (aas _))⟩;exact ⟨by rw [aai];exact hz,_,r1.append r2,IsTup.new _ _⟩
end
def ixN (n:Nat) (i:Int):Option Nat:=if 0<=i then (if i<n then some i.toNat else none) else if-(n:Int)<=i then some (i+n).toNat else none
def atI {α:Type} (xs:List α) (i:Int):Option α:=(ixN xs.length i).bind fun j=>xs[j]?
def jaT {n:Nat} {i:Int} {j:Nat} (h:ixN n i=some j):seqIndex? i n=some j/\j<n/\ -(n:Int)<=i/\i<n:=by
 unfold ixN at h
 by_cases h0:0<=i
 · rw [if_pos h0] at h
   by_cases h1:i<n
   · rw [if_pos h1] at h;have e:i.toNat=j:=aaF h;exact ⟨by rw [seqIndex_of h0 h1,e],by omega,by omega,h1⟩
   · rw [if_neg h1] at h;cases h
 · rw [if_neg h0] at h
   by_cases h1: -(n:Int)<=i
   · rw [if_pos h1] at h;have e:(i+n).toNat=j:=aaF h;exact ⟨by rw [seqIndex_neg (by omega) h1,e],by omega,h1,by omega⟩
   · rw [if_neg h1] at h;cases h
def Ya {α:Type} {xs:List α} {i:Int} {v:α} (h:atI xs i=some v): ∃j,seqIndex? i xs.length=some j/\xs[j]?=some v/\j<xs.length/\ -(xs.length:Int)<=i/\i<xs.length:=by
 unfold atI at h
 cases e:ixN xs.length i with
 |none=>rw [e] at h;cases h
 |some j=>
  rw [e] at h;obtain ⟨h1,h2,h3,h4⟩:=jaT e;exact ⟨j,h1,h,h2,h3,h4⟩
def atI_nat {α:Type} {xs:List α} {j:Nat} {v:α} (h:xs[j]?=some v):atI xs (j:Int)=some v:=by
 have hj:j<xs.length:=(aax.mp h).1
 have e:ixN xs.length (j:Int)=some j:=by
  unfold ixN;rw [if_pos (by omega),if_pos (by omega)];simp
 unfold atI;rw [e];exact h
def atI_last {α:Type} (xs:List α) (v:α):atI (xs++[v]) (-1)=some v:=by
 have hl:(xs++[v]).length=xs.length+1:=by simp
 have e:ixN (xs++[v]).length (-1)=some xs.length:=by
  unfold ixN;rw [hl,if_neg (by decide),if_pos (by omega)];congr 1;omega
 unfold atI;rw [e];show (xs++[v])[xs.length]?=some v;simp
def Jr (b:Expr):Prop:= ∀o i,subscripted b false o i=operate [o,i] (getItem o i)
def IxR (X:Cx) (r:R2):Prop:=
 ∀(value slice:Expr) (pins:List (Addr×Obj)) (s:aad) (σ:St) (H:Hp) (x y:V) (v u:Value) (Q:VK),Inv X pins σ H s->RelV x v->RelV y u->r x y H Q->
  subscripted slice false v u=operate [v,u] (getItem v u)->wpAny (model X.prog X.w) X.A (subscriptTail value slice v u) (EP X pins σ Q) X.xe s
def MtR (X:Cx) (id:String) (r:V->List V->Hp->VK->Prop):Prop:=
 ∀(pins:List (Addr×Obj)) (s:aad) (σ:St) (H:Hp) (x:V) (xs:List V) (v:Value) (us:List Value) (Q:VK),Inv X pins σ H s->RelV x v->Vals xs us->r x xs H Q->
  wpAny (model X.prog X.w) X.A (call (.builtin id) (v::us)) (EP X pins σ Q) X.xe s
section
variable {X:Cx} {a b:Expr} {ta tb:TE} {pos:Pos}
def IxR.or {r r':R2} (h:IxR X r) (h':IxR X r'):IxR X (fun x y H Q=>r x y H Q\/r' x y H Q):=by
 intro value slice pins s σ H x y v u Q I rx ry q hs;rcases q with q|q
 · exact h value slice pins s σ H x y v u Q I rx ry q hs
 · exact h' value slice pins s σ H x y v u Q I rx ry q hs
def MtR.or {id:String} {r r':V->List V->Hp->VK->Prop} (h:MtR X id r) (h':MtR X id r'):MtR X id (fun x xs H Q=>r x xs H Q\/r' x xs H Q):=by
 intro pins s σ H x xs v us Q I rx rs q;rcases q with q|q
 · exact h pins s σ H x xs v us Q I rx rs q
 · exact h' pins s σ H x xs v us Q I rx rs q
def VL {r:R2} (hr:IxR X r) (ha:PE X a ta) (hb:PE X b tb) (hs:Jr b):PE X (.Subscript a b pos) (tOp r ta tb):=by
 intro pins s σ H Q I h;exact Subscript_ (binT ha hb I h fun v u s2 x y H2 I2 rx ry q=>hr a b pins s2 σ H2 x y v u Q I2 rx ry q (hs _ _))
def rIxL (K:aaa):R2:=fun x y H Q=> ∃p xs i v,x= .ref p/\y= .int i/\SqL K H p xs/\atI xs i=some v/\Q v H
def rIxT (K:aaa):R2:=fun x y H Q=> ∃p xs i v,x= .ref p/\y= .int i/\SqT K H p xs/\atI xs i=some v/\Q v H
def rIxS:R2:=fun x y H Q=> ∃z i c,x= .str z/\y= .int i/\z.length<=aae/\atI z.cps.toList i=some c/\Q (.str ⟨#[c]⟩) H
def ix_list:IxR X (rIxL X.K):=by
 intro value slice pins s σ H x y v u Q I rx ry h hs;obtain ⟨p,xs,i,z,rfl,rfl,hq,he,q⟩:=h;cases rx;obtain ⟨t,rfl⟩:=ry;obtain ⟨its,r,pl,hz⟩:=I.list hq;obtain ⟨j,h1,h2,h3,h4,h5⟩:=Ya he;obtain ⟨w,ew,rw'⟩:=r.get h2;have hl:=r.length;have hn:=Q3;have fin:EP X pins σ Q w s:=⟨z,H,I,rw',q⟩
 by_cases h0:0<=i
 · have hj:i.toNat=j:=by
    rw [seqIndex_of h0 h5] at h1;exact aaF h1
   exact item_listR pl.isList h0 (by omega) (by rw [hj];simpa using ew) fin hs
 · have hj:(i+(its.toArray.size:Int)).toNat=j:=by
    rw [seqIndex_neg (by omega) h4] at h1;rw [aag,←hl];exact aaF h1
   exact subscriptTail_builtinR (x:=w) pl.isList.typeIs slot_list_getitem.lookup
    (wpAny_getItem_list_neg (Q:=fun r s'=>r=w/\EP X pins σ Q r s') pl.isList (by omega) (by rw [aag]<;>omega) (by omega) (by rw [hj];simpa using ew) ⟨rfl,fin⟩) hs
def ix_tup:IxR X (rIxT X.K):=by
 intro value slice pins s σ H x y v u Q I rx ry h hs;obtain ⟨p,xs,i,z,rfl,rfl,hq,he,q⟩:=h;cases rx;obtain ⟨t,rfl⟩:=ry;obtain ⟨its,r,pl,hz⟩:=I.tuple hq;obtain ⟨j,h1,h2,h3,h4,h5⟩:=Ya he;obtain ⟨w,ew,rw'⟩:=r.get h2;have hl:=r.length;have hn:=Q3;have fin:EP X pins σ Q w s:=⟨z,H,I,rw',q⟩
 exact subscriptTail_builtinR (x:=w) pl.typeIs aaP.lookup
  (getItem_tuple (j:=j) (Q:=fun r s'=>r=w/\EP X pins σ Q r s') pl (by omega) (by omega) (by rw [aag,←hl];exact h1) (by simpa using ew) ⟨rfl,fin⟩) hs
def jcM:IxR X rIxS:=by
 intro value slice pins s σ H x y v u Q I rx ry h hs;obtain ⟨z,i,c,rfl,rfl,hz,he,q⟩:=h;obtain ⟨t,rfl⟩:=rx;obtain ⟨t',rfl⟩:=ry;obtain ⟨j,h1,h2,h3,h4,h5⟩:=Ya he;have hl:z.cps.toList.length=z.length:=by simp [ac6]
 rw [hl] at h1 h4 h5;have hn:=Q3
 exact tail_any (typeIs_str s z t) slot_str_getitem.lookup (getItem_str (c:=c) (by
  have e1:decide (i< -(2^63:Int))=false:=decide_eq_false (by omega);have e2:decide (i>=2^63)=false:=decide_eq_false (by omega)
  rw [e1,e2,Bool.or_false]) (by rw [h1];simpa using h2) ⟨.str ⟨#[c]⟩,H,I.tok _,⟨_,rfl⟩,q⟩) hs
def rIx (K:aaa):R2:=fun x y H Q=>rIxL K x y H Q\/rIxT K x y H Q\/rIxS x y H Q
def jcN:IxR X (rIx X.K):=ix_list.or (ix_tup.or jcM)
def Wr (lo hi:Option Int) (n:Nat):(acu lo hi none n).1=((HT.sIx n 0 lo:Nat):Int)/\(acu lo hi none n).2.1=((HT.sIx n n hi:Nat):Int)/\(acu lo hi none n).2.2=1:=by
 refine ⟨?_,?_,rfl⟩
 · cases lo with
   |none=>simp [acu,HT.sIx]
   |some i=>
    simp only [acu,HT.sIx,Option.getD_none,show (1:Int)>0 by decide,if_true]
    by_cases h:i<0
    · simp only [h,if_true]<;>omega
    · simp only [h,if_false]<;>omega
 · cases hi with
   |none=>simp [acu,HT.sIx]
   |some i=>
    simp only [acu,HT.sIx,Option.getD_none,show (1:Int)>0 by decide,if_true]
    by_cases h:i<0
    · simp only [h,if_true]<;>omega
    · simp only [h,if_false]<;>omega
def Zq (its:List Value) (lo hi:Option Int):slicePick its.toArray lo hi none=((its.drop (HT.sIx its.length 0 lo)).take (HT.sIx its.length its.length hi-HT.sIx its.length 0 lo)).toArray:=by
 obtain ⟨h1,h2,h3⟩:=Wr lo hi its.toArray.size;unfold slicePick;rw [h1,h2,h3];simp only [sliceRange_one,pick_run,aag]<;>rfl
def rSlL (K:aaa):V->Option Int->Option Int->Hp->VK->Prop:=fun x lo hi H Q=> ∃a xs,x= .ref a/\SqL K H a xs/\ ∀p,H p=none->Q (.ref p) (upd H p (.lst (cutV xs lo hi)))
def sl_list:SlR X (rSlL X.K):=by
 intro pins s σ H x v vl vu lo hi sl Q I rx hs pl pu h;obtain ⟨a,xs,rfl,hx,q⟩:=h;cases rx;obtain ⟨its,r,ht,hz⟩:=I.list hx;have hlen:=r.length;refine ⟨"list",_,slot_list_getitem.lookup,ht.isList.typeIs,?_⟩;refine wpAny_getItem_list_slice ht.isList hs pl pu .none (by simp) ?_ (by rw [aag]<;>omega);rw [Zq,←hlen];refine ⟨.ref s.heap.objs.size,_,I.laid (t':=s.toks) (o:= .lst (cutV xs lo hi)) (fun b ob q=>aak _ q) (aas _) ?_,rfl,q _ (I.hok.fresh (aas _))⟩;exact ⟨aaq (Qz xs lo hi) hz,_,0,(r.drop (HT.sIx xs.length 0 lo)).take (HT.sIx xs.length xs.length hi-HT.sIx xs.length 0 lo),aaG _ rfl⟩
def call_len_seq:CallR X (.builtin "len") (fun xs H Q=> ∃p ys,xs=[.ref p]/\(SqL X.K H p ys\/SqT X.K H p ys)/\Q (.int ys.length) H):=by
 intro pins s σ H xs us Q I r h;obtain ⟨p,ys,rfl,hq,q⟩:=h;obtain ⟨u,rfl,rx⟩:=Xf r;cases rx;have hn:=Q3;rcases hq with hq|hq
 · obtain ⟨its,r',pl,hz⟩:=I.list hq;have hlen:=r'.length;exact Calls.call_len_list pl.isList (by simp only [aag]<;>omega) ⟨.int ys.length,H,I.tok _,⟨s.toks+1,by rw [aag,hlen]⟩,q⟩
 · obtain ⟨its,r',pl,hz⟩:=I.tuple hq;have hlen:=r'.length;exact len_tuple pl (by simp only [aag]<;>omega) ⟨.int ys.length,H,I.tok _,⟨s.toks+1,by rw [aag,hlen]⟩,q⟩
def W5:CallR X (.builtin "len") (fun xs H Q=> ∃z,xs=[.str z]/\z.length<=aae/\Q (.int z.length) H):=by
 intro pins s σ H xs us Q I r h;obtain ⟨z,rfl,hz,q⟩:=h;obtain ⟨u,rfl,t,rfl⟩:=Xf r;have hn:=Q3;exact len_str (by omega) ⟨.int z.length,H,I.tok _,⟨_,rfl⟩,q⟩
def CallR.or {f:Value} {r r':List V->Hp->VK->Prop} (h:CallR X f r) (h':CallR X f r'):CallR X f (fun xs H Q=>r xs H Q\/r' xs H Q):=by
 intro pins s σ H xs us Q I rs q;rcases q with q|q
 · exact h pins s σ H xs us Q I rs q
 · exact h' pins s σ H xs us Q I rs q
def zN:CallR X (.type "tuple") (fun xs H Q=> ∃p ys,xs=[.ref p]/\((SqL X.K H p ys/\ ∀l,H l=none->Q (.ref l) (upd H l (.tup ys)))\/(SqT X.K H p ys/\Q (.ref p) H))):=by
 intro pins s σ H xs us Q I r h;obtain ⟨p,ys,rfl,h⟩:=h;obtain ⟨u,rfl,rx⟩:=Xf r;cases rx;rcases h with ⟨hq,q⟩| ⟨hq,q⟩
 · obtain ⟨its,r',pl,hz⟩:=I.list hq;have hlen:=r'.length;refine call_tuple_list pl.isList (fun h' kp=>?_) (by simp only [aag]<;>omega);have I1:Inv X pins σ H {s with heap:=h'}:=I.kept (t':=s.toks) kp
   have I2:Inv X pins σ (upd H h'.objs.size (.tup ys)) {s with heap:=h'.push {cls:= .type "tuple",data:= .seq its.toArray}}:=
    I1.laid (t':=s.toks) (fun b o e=>aak _ e) (aas _) (show ObjOk X.prog X.w _ _ _ (.tup ys) from ⟨hz,its,r',IsTup.new _ _⟩)
   exact ⟨.ref h'.objs.size,_,I2,rfl,q _ (I1.hok.fresh (aas _))⟩
 · obtain ⟨its,r',pl,hz⟩:=I.tuple hq;exact call_tuple_same pl ⟨.ref p,H,I,rfl,q⟩
def tyV (K:aaa) (T:String) (x:V) (H:Hp):Prop:=match x with
 | .str _=>T= "str"
 | .int _=>T= "int"
 | .ref p=>(T= "list" /\ ∃xs,SqL K H p xs)\/(T= "tuple" /\ ∃o,K.lookup p=some o/\o.cls= .type "tuple" /\o.dict=none)\/
  (T= "dict" /\((∃kvs,H p=some (.dK kvs))\/ ∃kvs,H p=some (.dT kvs)))\/(T= "set" /\ ∃S n,H p=some (.set S n))
 |_=>False
def um {pins:List (Addr×Obj)} {σ:St} {H:Hp} {s:aad} {T:String} {x:V} {v:Value} (I:Inv X pins σ H s) (r:RelV x v) (ty:tyV X.K T x H):
  s.TypeIs v T/\ ∀a,v= .ref a-> ∃ob,s.heap.get? a=some ob/\ob.dict=none:=by
 cases x with
 |str z=>
  obtain ⟨t,rfl⟩:=r;cases (show T= "str" from ty);exact ⟨typeIs_str s z t,fun _ e=>nomatch e⟩
 |int i=>
  obtain ⟨t,rfl⟩:=r;cases (show T= "int" from ty);exact ⟨typeIs_int s i t,fun _ e=>nomatch e⟩
 |ref p=>
  cases r;rcases ty with ⟨rfl,xs,hq⟩| ⟨rfl,o,hk,hc,hd⟩| ⟨rfl,hk⟩| ⟨rfl,S,n,hk⟩
  · obtain ⟨its,_,pl,_⟩:=I.list hq;refine ⟨pl.isList.typeIs,fun a e=>?_⟩;cases e;obtain ⟨o,n,e,c,hd,_⟩:=pl;exact ⟨o,e,hd⟩
  · refine ⟨⟨o,I.kIn p o hk,hc⟩,fun a e=>?_⟩;cases e;exact ⟨o,I.kIn _ o hk,hd⟩
  · have z: ∃o,s.heap.get? p=some o/\o.ExactDict:=by
     rcases hk with ⟨kvs,hk⟩| ⟨kvs,hk⟩
     · obtain ⟨_,_,_,_,o,_,_,e,ex,_⟩:=I.hok p _ hk;exact ⟨o,e,ex⟩
     · obtain ⟨_,_,_,_,o,_,_,e,ex,_⟩:=I.hok p _ hk;exact ⟨o,e,ex⟩
    obtain ⟨o,e,ex⟩:=z;refine ⟨⟨o,e,ex.1⟩,fun a e2=>?_⟩;cases e2;exact ⟨o,e,ex.2.1⟩
  · obtain ⟨o,_,_,_,e,ex,_⟩:=I.hok p _ hk;refine ⟨⟨o,e,ex.1⟩,fun a e2=>?_⟩;cases e2;exact ⟨o,e,ex.2.1⟩
 |_=>exact aba ty
def tBM (K:aaa) (T:String) (r:V->List V->Hp->VK->Prop) (to:TE) (t:TA):TE:=fun σ H Q=>to σ H fun x H1=>tyV K T x H1/\t σ H1 fun xs H2=>r x xs H2 Q
variable {o e:Expr} {es:List Expr} {to:TE} {t:TA} {name:Str} {apos cpos:Pos} {T id:String} {r:V->List V->Hp->VK->Prop}
def vw (pa:PlainAttrs T) (slot:Slot T name id) (hty:typeOf (.builtin id)=pure (.type "method_descriptor")) (hm:MtR X id r) (ho:PE X o to) (ha:PA X (e::es) t)
  (hbase:aa2 o name X.env (eval o X.env)=eval o X.env:=by rfl)
  (hfew:((aa1 cpos (aac (e::es) X.env)).all (fun x=>!x.1)&&(abQ cpos (abi [] X.env)).all (fun x=>x.1.isSome)
   &&decide ((e::es).length+([]:List abG).length+(if ([]:List abG).isEmpty then 0 else 1)<30))=true:=by rfl)
  (hline:(apos.endLine==cpos.line)=true:=by rfl) (hs:Xj X e es:=by rfl) (hplain:Wt X cpos es:=by rfl):
  PE X (.Call (.Attribute o name apos) (e::es) [] cpos) (tBM X.K T r to t):=by
 intro pins s σ H Q I h;refine wpAny_Call_method_late hbase hfew hline rfl (thn (ho pins s σ H _ I h) fun v s1 ⟨x,H1,I1,r1,ty,q1⟩=>?_);obtain ⟨h1,h2⟩:=um I1 r1 ty;refine ⟨T,id,pa,slot,hty,h1,h2,?_⟩;have hA:=ha cpos pins s1 σ H1 _ I1 q1;rw [hs] at hA ⊢;refine acq (by show (false|| (aa1 cpos (aac es X.env)).any (·.1))=false;rw [hplain]<;>rfl) (acD ?_);exact thn hA fun us s2 ⟨vs,H2,I2,r2,q2⟩=>hm pins s2 σ H2 x vs v us Q I2 r1 r2 q2
/-xs.append(e),list.index on a module's tuple .. are MtR facts of 06m-/
end
def MtM (X:Cx) (id:String) (r:V->List V->Hp->VK->Prop):Prop:=
 ∀(pins:List (Addr×Obj)) (s:aad) (σ:St) (H:Hp) (x:V) (xs:List V) (v:Value) (us:List Value) (Q:VK),Inv X pins σ H s->RelV x v->Vals xs us->r x xs H Q->
  wpAny (model X.prog X.w) X.A (call (.builtin id) (v::us)) (EP X pins σ Q) X.xe s
theorem Vals.one: ∀ {x:V} {us:List Value},Vals [x] us-> ∃u,us=[u]/\RelV x u
 |_,_,.cons r .nil=>⟨_,rfl,r⟩
theorem Vals.zero: ∀ {us:List Value},Vals [] us->us=[]
 |_,.nil=>rfl
def Vals.dropLast {xs:List V} {us:List Value} (h:Vals xs us):Vals xs.dropLast us.dropLast:=by
 induction h with
 |nil=>exact .nil
 |cons r t ih=>
  cases t with
  |nil=>exact .nil
  |cons q t'=>exact .cons r ih
theorem Vals.rep {xs:List V} {us:List Value} (h:Vals xs us): ∀k:Nat,Vals (aaH k xs).flatten (aaH k us).flatten
 |0=> .nil
 |k+1=>by
  rw [abw,abw,abU,abU];exact Vals.append h (Vals.rep h k)
def KQ {α:Type} (l:List α):l.eraseIdx (l.length-1)=l.dropLast:=by
 induction l with
 |nil=>rfl
 |cons a r ih=>
  cases r with
  |nil=>rfl
  |cons b r=>
   have e:(a::b::r).length-1=((b::r).length-1)+1:=by
    have h1:(a::b::r).length=r.length+2:=rfl;have h2:(b::r).length=r.length+1:=rfl;omega
   rw [e,List.eraseIdx_cons_succ,ih]
   all_goals rfl
theorem WT (its:List Value): ∀(k:Nat) (acc:List Value),
  ado (fun x1 x2=>x1++x2) acc.toArray (aaH k its.toArray)=(acc++(aaH k its).flatten).toArray
 |0,acc=>by simp
 |k+1,acc=>by
  have e:acc.toArray++its.toArray=(acc++its).toArray:=by simp
  have e2:(acc++its)++(aaH k its).flatten=acc++(aaH (k+1) its).flatten:=by
   rw [abw,abU,aaX]
  rw [←e2,←WT its k (acc++its),←e,abw,List.foldl_cons]
section
variable {X:Cx} {pins:List (Addr×Obj)} {σ:St} {H:Hp} {s:aad} {l b:Addr} {xs ys zs:List V}
def Inv.lset {its its':List Value} {n:Nat} {f:Array Value->Array Value} {t':Nat} (I:Inv X pins σ H s) (hH:H l=some (.lst xs))
  (e:s.heap.get? l=some {cls:= .type "list",data:= .seq its.toArray n}) (hf:f its.toArray=its'.toArray) (hv:Vals ys its') (hz:ys.length<=aae):
  Inv X pins σ (upd H l (.lst ys)) {s with heap:=s.heap.update l (Obj.mapSeq f),toks:=t'}:=by
 have q:=PySem.IsL.update e f;rw [hf] at q;refine I.write (x:=l) (e:=l) (by rw [hH];exact trivial) (.inl rfl) (fun b' u hb hu=>(Heap.get?_update_other s.heap (Obj.mapSeq f) (ab8 hb)).trans hu) ⟨_,q⟩ ?_;exact ⟨hz,its',_,hv,q⟩
def Inv.lnew {its:List Value} {t':Nat} (I:Inv X pins σ H s) (hv:Vals ys its) (hz:ys.length<=aae):
  Inv X pins σ (upd H s.heap.objs.size (.lst ys)) {s with heap:=s.heap.push {cls:= .type "list",data:= .seq its.toArray},toks:=t'}:=
 I.laid (fun _ _ q=>aak _ q) (aas _) ⟨hz,its,0,hv,aaG _ rfl⟩
def Inv.fresh (I:Inv X pins σ H s):H s.heap.objs.size=none:=I.hok.fresh (aas _)
def Inv.lstM (I:Inv X pins σ H s) (hH:H l=some (.lst xs)):xs.length<=aae/\ ∃(its:List Value) (n:Nat),Vals xs its/\xs.length=its.length/\s.heap.get? l=some {cls:= .type "list",data:= .seq its.toArray n}:=by
 obtain ⟨z,its,n,r,e⟩:=I.hok l _ hH;exact ⟨z,its,n,r,r.length,e⟩
def ZK {n:Nat} (h:n<=aae):abn n=false:=by
 unfold abn;exact decide_eq_false (by omega)
end
section
variable {X:Cx}
def jam:V->List V->Hp->VK->Prop:=fun x vs H Q=> ∃l xs y,x= .ref l/\vs=[y]/\H l=some (.lst xs)/\xs.length<aae/\Q .non (upd H l (.lst (xs++[y])))
def xA:MtM X "list.append" jam:=by
 intro pins s σ H x vs v us Q I rx rv h;obtain ⟨l,xs,y,rfl,rfl,hH,hz,q⟩:=h;cases rx;obtain ⟨u,rfl,ru⟩:=rv.one;obtain ⟨z,its,n,r,hl,e⟩:=I.lstM hH;refine ac7 abq ⟨_,e,rfl⟩ F.entry_list_append (F.args_list_append_2 _ _) (PySem.list_append l its.toArray n u (by rw [aag];omega)) ⟨e,?_⟩;refine ⟨.non,_,I.lset (its':=its++[u]) hH e (by simp) (r.append (.cons ru .nil)) ?_,rfl,q⟩;rw [aai,acy];omega
def jak:V->List V->Hp->VK->Prop:=fun x vs H Q=> ∃l b xs zs,x= .ref l/\vs=[.ref b]/\H l=some (.lst xs)/\H b=some (.lst zs)/\xs.length+zs.length<=aae/\Q .non (upd H l (.lst (xs++zs)))
def Uf:MtM X "list.extend" jak:=by
 intro pins s σ H x vs v us Q I rx rv h;obtain ⟨l,b,xs,zs,rfl,rfl,hH,hB,hz,q⟩:=h;cases rx;obtain ⟨u,rfl,ru⟩:=rv.one;cases ru;obtain ⟨z,its,n,r,hl,e⟩:=I.lstM hH;obtain ⟨z2,its2,n2,r2,hl2,e2⟩:=I.lstM hB;have hsz:its.toArray.size+its2.toArray.size<=aae:=by rw [aag,aag];omega
 have hlong: ¬(!its.toArray.isEmpty&&abn (its.toArray.size+its2.toArray.size))=true:=by
  rw [ZK hsz,Bool.and_false];exact aaz
 refine ac7 acE ⟨_,e,rfl⟩ F.entry_list_extend (F.args_list_extend_2 _ _)
  (AutoSeq1.list_extend_list_list_0 l its.toArray n b its2.toArray n2 hlong (by rw [aag];omega) (by omega)) ⟨e,e2,?_⟩
 refine ⟨.non,_,I.lset (its':=its++its2) hH e (by simp) (r.append r2) ?_,rfl,q⟩;rw [aai];omega
def rPop:V->List V->Hp->VK->Prop:=fun x vs H Q=> ∃l xs y,x= .ref l/\vs=[]/\H l=some (.lst xs)/\xs[xs.length-1]?=some y/\Q y (upd H l (.lst xs.dropLast))
def jcE:MtM X "list.pop" rPop:=by
 intro pins s σ H x vs v us Q I rx rv h;obtain ⟨l,xs,y,rfl,rfl,hH,hy,q⟩:=h;cases rx;have hus:=rv.zero;subst hus;obtain ⟨z,its,n,r,hl,e⟩:=I.lstM hH;obtain ⟨u,hu,ru⟩:=r.get hy
 have hy':its.toArray[its.toArray.size-1]?=some u:=by
   show its.toArray[its.length-1]?=some u;rw [←ab0,←hl];exact hu
 refine ac7 F.slot_list_pop ⟨_,e,rfl⟩ F.entry_list_pop (F.args_list_pop_1 _) (MeetsSeq.list_pop_last l its.toArray n u hy' (by rw [aag];omega)) ⟨e,?_⟩;refine ⟨y,_,I.lset (its':=its.dropLast) hH e ?_ r.dropLast ?_,ru,q⟩
 · show its.toArray.eraseIdxIfInBounds (its.toArray.size-1)=its.dropLast.toArray;rw [aag,List.eraseIdxIfInBounds_toArray,KQ]
 · rw [List.length_dropLast];omega
def rCat:R2:=fun x y H Q=> ∃l b xs zs,x= .ref l/\y= .ref b/\H l=some (.lst xs)/\H b=some (.lst zs)/\xs.length+zs.length<=aae/\ ∀p,H p=none->Q (.ref p) (upd H p (.lst (xs++zs)))
def op_cat:OpR X (abH .Add) rCat:=by
 intro pins s σ H x y v u Q I rx ry h;obtain ⟨l,b,xs,zs,rfl,rfl,hH,hB,hz,q⟩:=h;cases rx;cases ry;obtain ⟨z,its,n,r,hl,e⟩:=I.lstM hH;obtain ⟨z2,its2,n2,r2,hl2,e2⟩:=I.lstM hB;refine PySem.P.add_list e e2 ?_ (by rw [aag,aag];omega);have ea:its.toArray++its2.toArray=(its++its2).toArray:=by simp
 rw [ea];exact ⟨.ref _,_,I.lnew (t':=s.toks) (r.append r2) (by rw [aai];omega),rfl,q _ I.fresh⟩
def rRep:R2:=fun x y H Q=> ∃l k xs,x= .ref l/\y= .int k/\H l=some (.lst xs)/\ -(2^63)<=k/\k<2^63/\xs.length*k.toNat<=aae/\
 ∀p,H p=none->Q (.ref p) (upd H p (.lst (aaH k.toNat xs).flatten))
def jaQ {α:Type} (xs:List α) (k:Nat):(aaH k xs).flatten.length=k*xs.length:=by
 induction k with
 |zero=>simp
 |succ k ih=>rw [abw,abU,aai,ih,Nat.succ_mul,Nat.add_comm]
def jcr:OpR X (abH .Mult) rRep:=by
 intro pins s σ H x y v u Q I rx ry h;obtain ⟨l,k,xs,rfl,rfl,hH,h1,h2,hz,q⟩:=h;cases rx;obtain ⟨t,rfl⟩:=ry;obtain ⟨z,its,n,r,hl,e⟩:=I.lstM hH;have hlen:its.toArray.size*k.toNat<=aae:=by rw [aag,←hl];exact hz
 have hcap: ¬its.toArray.size*k.toNat>(2^63-1)/8:=by
  have:(aae:Nat)<=(2^63-1)/8:=by decide
  omega
 have hfit: ¬(!Builtin.List.listFitsIndex k)=true:=by
  rw [fitsIndex_both h1 h2];exact aaz
 have hlong: ¬abn (its.toArray.size*k.toNat)=true:=by
  rw [ZK hlen];exact aaz
 have hnew:ado (fun x1 x2=>x1++x2) #[] (aaH (if its.toArray.isEmpty=true then 0 else k.toNat) its.toArray)=(aaH k.toNat its).flatten.toArray:=by
  have f0: ∀m:Nat,ado (fun x1 x2=>x1++x2) #[] (aaH m its.toArray)=(aaH m its).flatten.toArray:=fun m=>by
   have:=WT its m [];rw [List.nil_append] at this;exact this
  rw [f0]
  cases its with
  |nil=>simp
  |cons a r'=>rw [if_neg (by simp)]
 refine wpAny_binaryOp_repeat_ref (T:= "list") (U:= "int") (by decide) ⟨_,e,rfl⟩ (fun s'=>typeIs_int s' k t) noFill_list_mul F.fills_int_mul F.slot_int_rmul repeat_list F.slot_int_index.lookup
  (ac7 F.slot_int_rmul (typeIs_int s k t) F.entry_int_rmul (F.args_int_rmul_2 _ _) (int___rmul___int_list k t l its.toArray n)
   ⟨e,rfl,⟨_,e,rfl⟩,ac7 F.slot_list_mul ⟨_,e,rfl⟩ F.entry_list_mul (F.args_list_mul_2 _ _) (AutoListH.list___mul___list_int_3 l its.toArray n k t hfit hcap hlong) ⟨e,?_⟩⟩)
 rw [hnew];exact ⟨.ref _,_,I.lnew (t':=s.toks) (r.rep k.toNat) (by rw [jaQ,Nat.mul_comm];exact hz),rfl,q _ I.fresh⟩
end
section
variable {X:Cx} {pins:List (Addr×Obj)} {σ:St} {H:Hp} {s:aad} {a:Addr} {y v:V} {u r:Value} {o:Option V} {A:aaZ} {E:Xk}
def Inv.big (I:Inv X pins σ H s):ac2<s.heap.objs.size:=by
 have h:aah<s.heap.objs.size:=(I.mod.glob.keeps I.bk).lt;exact Nat.lt_trans (by decide) h
end
def v7 {P:aaB} {w:World} {H:Hp} (h:Heap) (hb:ac2<h.objs.size):ObjOk P w H (h.push {cls:= .type "dict",data:= .dict #[]}) h.objs.size (.dK []):=
 ⟨acL _,beq_eq_false_iff_ne.mpr (ab8 (aa0 hb)),[],.nil,Heap.DictOf.new h⟩
def jbV:TE:=fun _ H Q=> ∀p,H p=none->Q (.ref p) (upd H p (.dK []))
section
variable {X:Cx} {pos:Pos}
def vt:PE X (.Dict [] [] pos) jbV:=fun pins s σ H Q I h=>
 wpAny_Dict_empty ⟨.ref s.heap.objs.size,_,I.laid (a:=s.heap.objs.size) (o:= .dK []) (t':=s.toks) (fun _ _ q=>aak _ q) (aas _) (v7 s.heap I.big),rfl,h _ (I.hok.fresh (aas _))⟩
end
structure M1 (X:Cx) (o:Expr) (m:Str) (apos:Pos) (e:Expr) (cpos:Pos):Prop where
 base:aa2 o m X.env (eval o X.env)=eval o X.env
 few:((aa1 cpos (aac [e] X.env)).all (fun x=>!x.1)&&(abQ cpos (abi [] X.env)).all (fun x=>x.1.isSome)
  &&decide (([e]:List Expr).length+([]:List abG).length+(if ([]:List abG).isEmpty then 0 else 1)<30))=true
 line:(apos.endLine==cpos.line)=true
 trees:aa1 cpos (aac [e] X.env)=[(false,eval e X.env)]
structure M2 (X:Cx) (o:Expr) (m:Str) (apos:Pos) (e f:Expr) (cpos:Pos):Prop where
 base:aa2 o m X.env (eval o X.env)=eval o X.env
 few:((aa1 cpos (aac [e,f] X.env)).all (fun x=>!x.1)&&(abQ cpos (abi [] X.env)).all (fun x=>x.1.isSome)
  &&decide (([e,f]:List Expr).length+([]:List abG).length+(if ([]:List abG).isEmpty then 0 else 1)<30))=true
 line:(apos.endLine==cpos.line)=true
 trees:aa1 cpos (aac [e,f] X.env)=[(false,eval e X.env),(false,eval f X.env)]
end L2
namespace Att
open PySem PySem.W PySem.Calls PyProof.Rows
def Qp {P:Params} {h:Heap}: ∀(ns:List Int) (vs:List Value),WellAll P h vs (ns.map WData.int)->IntsAre vs ns:=by
 intro ns
 induction ns with
 |nil=>
  intro vs w;rw [List.map_nil] at w;cases w;exact .nil
 |cons n ns ih=>
  intro vs w;rw [abj] at w
  cases w with
  |cons a b=>
   cases a;exact .cons _ _ (ih _ b)
def Vx {l:adm} {n:Nat} (hn:l.most=some n) {P:Params} {h:Heap} {args:List WData} {vals:List Value}
  (hpre:l.row.toRowW.claim.pre args=true) (hwl:WellAll P h vals args):
  ∃a vs ns,vals=[aaJ a]/\args=[WData.list (ns.map WData.int)]/\h.get? a=some {cls:= .type "list",data:= .seq vs.toArray}/\IntsAre vs ns/\ns.length<=n:=by
 have hsh:WShape.hasAll [] args [.list .int]=true:=(pre_splitW hpre).1;have hc:l.pre.holds [] {args:=args}=true:=(pre_splitW hpre).2;obtain ⟨d,r,rfl,h1,h2⟩:=hasAllW_cons hsh;obtain rfl:=hasAllW_nil h2;obtain ⟨xs,rfl,h3⟩:=hasW_list h1;obtain ⟨ns,rfl⟩:=items_int h3
 have hlen:ns.length<=n:=by
  unfold OpenLaw.pre at hc
  have h4:(WTm.not (.lt (.lit (.int (n:Int))) (.len (.arg 0)))).holds [] {args:=[.list (ns.map .int)]}=true:=by
   have h4:=(holds_andW hc).1;rw [hn] at h4;exact h4
  have h5:=condW_of h4 (w_not (w_lt w_lit (w_len_list (w_arg rfl))));rw [aaK] at h5;refine Nat.le_of_not_lt fun q=>?_
  have q':(n:Int)< ((ns.length:Nat):Int):=by omega
  first
   | (rw [decide_eq_true q'] at h5;exact absurd h5 (by decide))
   | (simp at h5;omega)
 cases hwl with
 |cons w1 w2=>
  cases w2
  cases w1 with
  |list ho hall=>exact ⟨_,_,ns,rfl,rfl,ho,Qp ns _ hall,hlen⟩
def VH (l:adm) (args:List WData):l.row.toRowW.claim.post args (.bool true) args=true:=
 postW_of (r:=l.row.toRowW) (X:=(true==true))
  (show WShape.has [] (.bool true) .bool=true by first|rfl|decide|simp [WShape.has,WShape.arms,WShape.armsAll])
  (show (WTm.eq .res (.lit (.bool true))).value [] {args:=args,res:=some (.bool true),after:=args}=some (.bool (true==true)) from w_eq_bool (w_res rfl) w_lit) rfl
end Att
namespace L2
open PySem PySem.Spec PyProof.Rows
theorem Wi: ∀ {vs:List Value} {ns:List Int},IntsAre vs ns->Vals (ns.map V.int) vs
 |_,_,.nil=> .nil
 |_,_,.cons n t h=> .cons ⟨t,rfl⟩ (Wi h)
def Only (H:Hp):Prop:= ∀b,H b=none\/ ∃o xs,H b=some (.frz o (.lst xs))
def vG {P:aaB} {w:World} {K:aaa} {mg mb:Yq} {CX:CXT} {k:Nat} {fa a:Addr} {fd:abp} {x:Str} {sp:Sp} {s₁:aad} {vs:List Value} {ns:List Int}
  (KX:K.In s₁.heap) (hns:s₁.heap.Ns aah mg) (hb:s₁.heap.Ns builtinsNs mb) (hbb: ∀x:Str,x≠ "__name__" ->mb x=aby x) (hlim:s₁.heap.NoLimit) (hg:s₁.gens= #[])
  (ha:s₁.heap.get? a=some {cls:= .type "list",data:= .seq vs.toArray}) (hi:IntsAre vs ns) (hl:ns.length<=aae) (hr:Room k callerA)
  (F: ∀base:Heap,K.In base->base.Ns aah mg->FnOk P w K mg base CX k fa fd [x] sp) (hbind: ∀(s:aad) (u:Value),BindsTo s fd ⟨[u],[]⟩ [(x,u)])
  (hsp: ∀H:Hp,Only H->SqL K H a (ns.map V.int)->sp [.ref a] H (fun v _=>v= .bl true) fun _ _ _=>False)
  (hCX: ∀H e s',CX [] H s₁ (fun _ _ _=>False) e s'->False):
  acX (model P w) callerA (.call (.ref fa) ⟨[.ref a],[]⟩) (fun r s'=>r= .ok (.ret (.bool true))/\OldK s₁.heap s'.heap/\s'.os=s₁.os/\ada s'.gens) s₁:=by
 have rv:=Wi hi;have lenV:=hi.length
 have core: ∀H:Hp,Only H->SqL K H a (ns.map V.int)->HOk P w H s₁.heap->(∀b,H b≠none->b=a)->(H a≠none->K.lookup a=none)->
    acX (model P w) callerA (.call (.ref fa) ⟨[.ref a],[]⟩) (fun r s'=>r= .ok (.ret (.bool true))/\OldK s₁.heap s'.heap/\s'.os=s₁.os/\ada s'.gens) s₁:=by
  intro H hO hS hok hA hK;have base_of: ∀ {b:Addr} {o:Obj},s₁.heap.get? b=some o->H b=none->(hidT s₁.heap H).get? b=some o:=fun e n=>vK e n
  have noA: ∀ {b:Addr} {o:Obj} {es:Array DictEntry} {ep:Nat},s₁.heap.get? b=some o->o.data= .dict es ep->H b=none:=fun {b o es ep} e d=>by
    cases q:H b with
    |none=>rfl
    |some u=>
      have e':b=a:=hA b (by rw [q];simp);subst e';rw [ha] at e;cases e;have d':Data.seq vs.toArray _=Data.dict es ep:=d;cases d'
  have nsK: ∀ {b:Addr} {m:Yq},s₁.heap.Ns b m->(hidT s₁.heap H).Ns b m:=fun {b m} ⟨o,es,ep,e,d,r⟩=>⟨o,es,ep,base_of e (noA e d),d,r⟩
  have hKb:K.In (hidT s₁.heap H):=fun b o e=>base_of (KX b o e) (by
    cases q:H b with
    |none=>rfl
    |some u=>
      have e':b=a:=hA b (by rw [q];simp);subst e'
      rw [hK (by rw [q];simp)] at e;cases e)
  have hM:Mod K mg (hidT s₁.heap H):=⟨hKb,nsK hns,⟨mb,nsK hb,hbb⟩,let ⟨mc,h1,h2⟩:=hlim;⟨mc,nsK h1,h2⟩⟩
  have e0:Env0 P w K mg (hidT s₁.heap H) callerA [] s₁ H:=⟨rfl,hM,fun b o e=>jaI e,Nat.le_of_eq (Ux _ _),trivial,fun b hb=>absurd (show b∈([]:List Addr) from hb) (by simp),hok,.of_eq hg⟩
  refine acw ((F _ hKb (nsK hns)).run callerA [] s₁ H ⟨[.ref a],[]⟩ [.ref a] [.ref a] _ _ hr e0 (hbind s₁ (.ref a)) (.cons rfl .nil) (hsp H hO hS)) fun r s' h=>?_
  cases r with
  |error e=>exact (hCX H e s' h).elim
  |ok fl=>
    cases fl with
    |next=>exact aba h
    |brk=>exact aba h
    |cont=>exact aba h
    |ret u=>
      obtain ⟨v,H',os,bare,un,hok',r',q⟩:=h;have q':v= .bl true:=q;subst q';obtain rfl:u=ab2 true:=r';refine ⟨rfl,OldK.of_keep fun b o e=>?_,os,bare⟩
      cases q:H b with
      |none=>exact un.keep b o e q (by intro z;exact absurd (show b∈([]:List Addr) from z) (by simp)) (by simp)
      |some u=>
       rcases hO b with z| ⟨ob,xs,z⟩
       · rw [q] at z;cases z
       · have z2:=un.frzs b ob _ z;obtain ⟨e1,_⟩:=hok b _ z;obtain ⟨e2,_⟩:=hok' b _ z2;rw [e] at e1;cases e1;exact e2
 cases hk:K.lookup a with
 |some o=>
  have e:=KX a o hk;rw [ha] at e;cases e;refine core (fun _=>none) (fun _=> .inl rfl) (.inr ⟨_,vs.toArray,_,hk,rfl,rfl,rfl,by rw [aag,lenV];exact hl,by simpa using rv⟩) (fun b u z=>by have z':(none:Option HO)=some u:=z;cases z') (fun b z=>absurd rfl z) fun z=>absurd rfl z
 |none=>
  refine core (fun b=>if b=a then some (.frz {cls:= .type "list",data:= .seq vs.toArray} (.lst (ns.map V.int))) else none) (fun b=>?_) (.inl (.inr ⟨{cls:= .type "list",data:= .seq vs.toArray},if_pos rfl⟩)) (fun b u z=>?_) (fun b z=>?_) fun _=>hk
  · by_cases hb:b=a
    · exact .inr ⟨_,_,if_pos hb⟩
    · exact .inl (if_neg hb)
  · by_cases hb:b=a
    · have z':=(if_pos hb).symm.trans z;cases z';subst hb;exact ⟨ha,by rw [aaK];exact hl,vs,_,rv,ha⟩
    · have z':=(if_neg hb).symm.trans z;cases z'
  · by_cases hb:b=a
    · exact hb
    · exact absurd (if_neg hb) z
end L2
/-THE LAST THEOREM (shape;LID,My.*are yours):
 My.Adr:a structure of the addresses that your layer names (classes,functions);My.Txt K t:a structure (Prop) of the equations over K;
 My.txt_mk:{K} {implicit addresses ..} (e1:nsIn K aah "law" =some (some (.ref f))) (e2:K.lookup f=some ⟨oc,od,.func (fnOf "law" "law" params body scope dV kV doc pm an cdv ct),sl⟩) (e3:acp K cdv "law" =true) .. : ∃t,My.Txt K t
set_option maxRecDepth 100000 in
set_option maxHeartbeats 0 in
theorem PySem.Challenge.cw_LID_holds:PySem.Challenge.rw_LID.Holds:=by
 w_on;o_law;k_head;(case hw=>w_witness2)
 k_fill
 refine L2.walk_of (l:=PySem.Challenge.rw_LID) (n:=63) (k:=40) (x:= "script") (CX:=fun w=> ..) (sp:=fun _=>My.sp_law) rfl (by decide) rfl ⟨rfl,by decide,by decide⟩ (fun w h Y=>PySem.W.kIn_of Y) ?F ?S ?C
 case F=>
  intro w mg fa h KX G hmg
  have T: ∃t,My.Txt (L2.KOf KX) t:=by
   dsimp only [L2.KOf]                          --K must stand as «<heap const>w.params» for k_is;refine' My.txt_mk ?e1 ?e2 ?e3 ..
   (case e1=>PySem.W.k_is)                    --in the order:a name->its address->its object->its parts
   (case e2=>PySem.W.k_is)
   ..
  obtain ⟨t,T⟩:=T;have e0:=hmg.symm.trans (aaC KX G T.law);cases e0                                       --fa is the law's own address;exact ⟨_,fun s u=> .of_eq rfl,fun base kb nb=>My.law_fn T kb nb⟩     --if «.of_eq rfl» comes too early:refine' ⟨_,?b,fun base kb nb=>My.law_fn T kb nb⟩;exact fun s u=> .of_eq rfl
 case S=>exact fun w H a ns hl hO hS=> ..
 case C=>exact ..
(the tactic k_is has no namespace:write k_is)-/
namespace L2
open PySem PySem.Spec PyProof.Rows
def Jk (s:Stmt) (j:Nat):Stmt:=match s with
 | .ClassDef _ _ _ body _ _ _ _ _ _ _=>body.getD j (.Pass ⟨0,0,0,0⟩)
 |_=> .Pass ⟨0,0,0,0⟩
def xK (s:Stmt):Arguments:=match s with
 | .FunctionDef _ a _ _ _ _ _ _ _ _=>a
 |_=> {posonlyargs:=[],args:=[],vararg:=none,kwonlyargs:=[],kw_defaults:=[],kwarg:=none,defaults:=[]}
def j8 (s:Stmt):List Stmt:=match s with
 | .FunctionDef _ _ b _ _ _ _ _ _ _=>b
 |_=>[]
def jg (s:Stmt):Scope:=match s with
 | .FunctionDef _ _ _ _ _ _ sc _ _ _=>sc
 |_=> {kind:= .function,names:=[],isGenerator:=false,isCoroutine:=false}
abbrev CX0:CXT:=fun _ _ _ _ _ _=>False
abbrev E0:XK:=fun _ _ _=>False
def VN {X:Cx}:JI CX0 X E0:=fun _ _ _ _ _ _ _ h=>h.elim
structure Fun (K:aaa) (x qual:Str) (st:Stmt) (f:Addr) (fd:abp):Prop where
 ex: ∃(oc:Value) (od:Option Addr) (kV doc pm:Value) (an:Option Addr) (cdv ct:Value) (osl:Array (Option Value)),
  fd=abK x qual (xK st) (j8 st) (jg st) .none kV doc pm an cdv ct/\K.lookup f=some ⟨oc,od,.func fd,osl⟩/\acp K cdv qual=true
 kp:aaN K (.ref f)=true
section
variable {P:aaB} {w:World} {K:aaa} {mg:Yq} {base:Heap}
def Fun.ok {x qual:Str} {st:Stmt} {f:Addr} {fd:abp} {N ps:List Str} {k:Nat} {sp:Sp} (F:Fun K x qual st f fd) (S:FnScope N ps (jg st)) (len: ∀vs H Q E,sp vs H Q E->vs.length=ps.length)
  (hbody: ∀(cdv:Value) (A:aaZ) (outer:List Env) (s:aad) (H:Hp) (vs:List V) (Q:VK) (E:XK),Room k (A.deeper (ab7 qual (jg st) s.heap.objs.size f cdv))->sp vs H Q E->
   ∃t,PSs (cxOf CX0 P w K mg base N qual (jg st) f cdv A outer s H E).nox (j8 st) t/\t {nx:=fun _ H'=>Q .non H',rt:=Q} (start N vs) H):FnOk P w K mg base CX0 (k+1) f fd ps sp:=by
 obtain ⟨oc,od,kV,doc,pm,an,cdv,ct,osl,rfl,lk,hcd⟩:=F.ex;refine ja4 lk hcd S len fun A outer s H vs Q E hr hsp=>?_
 obtain ⟨t,h,q⟩:=hbody cdv A outer s H vs Q E hr hsp;exact ⟨t,h.nox,q⟩
def Fun.binds {x qual:Str} {st:Stmt} {f:Addr} {fd:abp} {ps:List Str} (F:Fun K x qual st f fd)
  (h: ∀(kV doc pm:Value) (an:Option Addr) (cdv ct:Value) (us:List Value),us.length=ps.length->bindArgs (abK x qual (xK st) (j8 st) (jg st) .none kV doc pm an cdv ct) ⟨us,[]⟩=pure (ps.zip us)):Binds K fd ps []:=by
 obtain ⟨oc,od,kV,doc,pm,an,cdv,ct,osl,rfl,lk,hcd⟩:=F.ex;exact .all (h kV doc pm an cdv ct)
def uM {x qual:Str} {st:Stmt} {f:Addr} {oc:Value} {od an:Option Addr} {osl:Array (Option Value)} {kV doc pm cdv ct:Value} (l:K.lookup f=some ⟨oc,od,.func (abK x qual (xK st) (j8 st) (jg st) .none kV doc pm an cdv ct),osl⟩)
 (c:acp K cdv qual=true) (k:aaN K (.ref f)=true):Fun K x qual st f (abK x qual (xK st) (j8 st) (jg st) .none kV doc pm an cdv ct):=⟨⟨oc,od,kV,doc,pm,an,cdv,ct,osl,rfl,l,c⟩,k⟩
end
def Same (H H':Hp):Prop:= ∀b o,H b=some o->H' b=some o
def Same.refl (H:Hp):Same H H:=fun _ _ h=>h
def Same.trans {H H1 H2:Hp} (a:Same H H1) (b:Same H1 H2):Same H H2:=fun c o h=>b c o (a c o h)
def Same.free {H H':Hp} (e:Same H H') {l:Addr} (h:H' l=Option.none):H l=Option.none:=by
 cases q:H l with
 |none=>rfl
 |some o=>
  rw [e l o q] at h;cases h
end L2
namespace M
open PySem PySem.Spec L2
open PyProof.Rows hiding St
inductive D where
 |non|bl (b:Bool)|int (i:Int)|str (x:Str)
 |tup (ds:List D)|lst (ds:List D)|scr (ds:List D)|dic (ks:List Key) (vs:List D)|dit (ks:List (List Key)) (vs:List D)|exn (c:Str)|fdc (ks:List Key) (vs:List D)|hdc (ks:List Key) (vs:List D)|obj (c:Str) (ns:List Str) (vs:List D)|mem (B:List NK) (Φ:NK->Option NK->Prop)|nst (ds:List D)
mutual
def D.imm:D->Bool
 | .non=>true
 | .bl _=>true
 | .int _=>true
 | .str _=>true
 | .tup ds=>D.imms ds
 | .lst _=>false
 | .scr _=>false
 | .dic _ _=>false
 | .dit _ _=>false
 | .exn _=>true
 | .fdc _ _=>false
 | .hdc _ _=>false
 | .obj _ _ _=>false
 | .mem _ _=>false
 | .nst _=>false
def D.imms:List D->Bool
 | []=>true
 |d::ds=>D.imm d&&D.imms ds
end
inductive Res (α:Type) where
 |ok (a:α)
 |exc (c:Str)
 |stuck
noncomputable def Res.bind {α β:Type} (r:Res α) (f:α->Res β):Res β:=
 match r with
 | .ok a=>f a
 | .exc c=> .exc c
 | .stuck=> .stuck
instance:Monad Res where
 pure:=Res.ok
 bind:=Res.bind
def j9 {α β:Type} {a:α} {f:α->Res β}:(Res.ok a>>=f)=f a:=rfl
def jc {α β:Type} {r:Res α} {f:α->Res β} {b:β} (h:(r>>=f)= .ok b): ∃a,r= .ok a/\f a= .ok b:=by
 cases r with
 |ok a=>exact ⟨a,rfl,h⟩
 |exc c=>cases h
 |stuck=>cases h
noncomputable def must {α:Type} (c:Prop) [Decidable c] (r:Res α):Res α:=if c then r else .stuck
def jy {α:Type} {c:Prop} [Decidable c] {r:Res α} {a:α} (h:must c r= .ok a):c/\r= .ok a:=by
 unfold must at h
 by_cases hc:c
 · rw [if_pos hc] at h;exact ⟨hc,h⟩
 · rw [if_neg hc] at h;cases h
def jm {α:Type} {c:Prop} [Decidable c] {r:Res α} (h:c):must c r=r:=if_pos h
def LsK (K:aaa) (H:Hp) (a:Addr) (xs:List V):Prop:=
 (∃o,H a=some (.frz o (.lst xs)))\/
  ∃(o:Obj) (its:Array Value) (n:Nat),K.lookup a=some o/\o.cls= .type "list" /\o.dict=none/\o.data= .seq its n/\its.size<=aae/\Vals xs its.toList
def LsK.sql {K:aaa} {H:Hp} {a:Addr} {xs:List V} (h:LsK K H a xs):SqL K H a xs:=by
 rcases h with h|h
 · exact .inl (.inr h)
 · exact .inr h
def rrow:D->List D
 | .tup ds=>ds
 |_=>[]
mutual
inductive Rep (K:aaa):(Addr->Prop)->Hp->V->D->Prop where
 |non {A H}:Rep K A H .non .non
 |bl {A H} (b:Bool):Rep K A H (.bl b) (.bl b)
 |int {A H} (i:Int):Rep K A H (.int i) (.int i)
 |str {A H} (x:Str):x.length<=aae->Rep K A H (.str x) (.str x)
 |tup {A H} {a:Addr} {xs:List V} {ds:List D}:H a=some (.tup xs)->Reps K A H xs ds->Rep K A H (.ref a) (.tup ds)
 |lst {A H} {a:Addr} {xs:List V} {ds:List D}:H a=some (.lst xs)->A a->Reps K (fun c=>A c/\c≠a) H xs ds->Rep K A H (.ref a) (.lst ds)
 |lsk {A H} {a:Addr} {xs:List V} {ds:List D}:LsK K H a xs->Reps K A H xs ds->Rep K A H (.ref a) (.scr ds)
 |dic {A H} {a:Addr} {kvs:List (Key×V)} {vs:List V} {ks:List Key} {ds:List D}:H a=some (.dK kvs)->A a->kvs.map (·.1)=ks->kvs.map (·.2)=vs->Reps K (fun c=>A c/\c≠a) H vs ds->Rep K A H (.ref a) (.dic ks ds)
 |dit {A H} {a:Addr} {kvs:List ((List Key)×V)} {vs:List V} {ks:List (List Key)} {ds:List D}:H a=some (.dT kvs)->A a->kvs.map (·.1)=ks->kvs.map (·.2)=vs->Reps K (fun c=>A c/\c≠a) H vs ds->Rep K A H (.ref a) (.dit ks ds)
 |exn {A H} {a b C:Addr} {o:Obj} {c:Str}:H a=some (.frz o (.own b))->o.cls= .ref C->aaj K aah c=some (some (.ref C))->Rep K A H (.ref a) (.exn c)
 |fdc {A H} {a:Addr} {kvs:List (Key×V)} {vs:List V} {ks:List Key} {ds:List D}:((H a=some (.dK kvs)/\A a)\/ ∃o,H a=some (.frz o (.dK kvs)))->kvs.map (·.1)=ks->kvs.map (·.2)=vs->Reps K (fun c=>A c/\c≠a) H vs ds->Rep K A H (.ref a) (.fdc ks ds)
 |hdc {A H} {a:Addr} {kvs:List (Key×V)} {vs:List V} {ks:List Key} {ds:List D}:(∃o,H a=some (.frz o (.dK kvs)))->kvs.map (·.1)=ks->kvs.map (·.2)=vs->Reps K (fun c=>A c/\c≠a) H vs ds->Rep K A H (.ref a) (.hdc ks ds)
 |obj {A H} {a C dx:Addr} {fs:List (Str×V)} {vs:List V} {c:Str} {ns:List Str} {ds:List D}:H a=some (.ins C dx fs)->A a->(aaj K aah c=some (some (.ref C))/\fs.map (·.1)=ns)->fs.map (·.2)=vs->Reps K (fun c=>A c/\c≠a) H vs ds->Rep K A H (.ref a) (.obj c ns ds)
 |mem {A H} {a:Addr} {B:List NK} {Φ:NK->Option NK->Prop}:H a=some (.memo B Φ)->A a->Rep K A H (.ref a) (.mem B Φ)
 |nst {A H} {a:Addr} {rs:List (Addr×List V)} {ds es:List D}:H a=some (.nst rs)->A a->rs.map (fun r=>r.2.length)=ds.map (fun d=>(rrow d).length)->ds.flatMap rrow=es->Reps K (fun c=>A c/\c≠a) H (rs.flatMap (·.2)) es->Rep K A H (.ref a) (.nst ds)
inductive Reps (K:aaa):(Addr->Prop)->Hp->List V->List D->Prop where
 |nil {A H}:Reps K A H [] []
 |cons {A H} {v:V} {d:D} {vs:List V} {ds:List D}:Rep K A H v d->Reps K A H vs ds->Reps K A H (v::vs) (d::ds)
end
def Stay (A:Xl) (H H':Hp):Prop:= ∀a o,H a=some o->(Mut (some o)->A a)->H' a=some o
def Stay.mono {A B:Xl} {H H':Hp} (h:Stay A H H') (w: ∀a,B a->A a):Stay B H H':=fun a o e m=>h a o e fun z=>w a (m z)
section
variable {K:aaa}
def LsK.stay {A:Xl} {H H':Hp} {a:Addr} {xs:List V} (h:LsK K H a xs) (st:Stay A H H'):LsK K H' a xs:=by
 rcases h with ⟨o,e⟩|h
 · exact .inl ⟨o,st a _ e (fun z=>z.elim)⟩
 · exact .inr h
def Reps.stay {A A':Xl} {H H':Hp} {vs:List V} {ds:List D} (r:Reps K A H vs ds):Stay A H H'->(∀a,A a->A' a)->Reps K A' H' vs ds:=by
 refine Reps.rec (motive_1:=fun A H v d _=> ∀B:Addr->Prop,Stay A H H'->(∀a,A a->B a)->Rep K B H' v d) (fun _ _ _=> .non) (fun b _ _ _=> .bl b) (fun i _ _ _=> .int i) (fun x h _ _ _=> .str x h) (fun e _ r _ s w=> .tup (s _ _ e fun z=>z.elim) (r _ s w)) (fun e a _ r _ s w=> .lst (s _ _ e fun _=>a) (w _ a) (r _ ?_ ?_)) (fun e _ r _ s w=> .lsk (e.stay s) (r _ s w)) (fun e a k l _ r _ s w=> .dic (s _ _ e fun _=>a) (w _ a) k l (r _ ?_ ?_)) (fun e a k l _ r _ s w=> .dit (s _ _ e fun _=>a) (w _ a) k l (r _ ?_ ?_)) (fun e k l _ s w=> .exn (s _ _ e fun z=>z.elim) k l) (fun e k l _ r _ s w=> .fdc (e.elim (fun z=> .inl ⟨s _ _ z.1 fun _=>z.2,w _ z.2⟩) (fun z=>z.elim fun _ z=> .inr ⟨_,s _ _ z fun z=>z.elim⟩)) k l (r _ ?_ ?_)) (fun e k l _ r _ s w=> .hdc (e.elim fun _ z=>⟨_,s _ _ z fun z=>z.elim⟩) k l (r _ ?_ ?_)) (fun e a k l _ r _ s w=> .obj (s _ _ e fun _=>a) (w _ a) k l (r _ ?_ ?_)) (fun e a _ s w=> .mem (s _ _ e fun _=>a) (w _ a)) (fun e a k l _ r _ s w=> .nst (s _ _ e fun _=>a) (w _ a) k l (r _ ?_ ?_)) (fun _ _ _=> .nil) (fun _ _ h t _ s w=> .cons (h _ s w) (t _ s w)) r A'
 any_goals exact s.mono fun _ z=>z.1
 all_goals exact fun _ z=>⟨w _ z.1,z.2⟩
def Rep.stay {A A':Xl} {H H':Hp} {v:V} {d:D} (r:Rep K A H v d) (s:Stay A H H') (w: ∀a,A a->A' a):Rep K A' H' v d:=by
 cases Reps.stay (.cons r .nil) s w;assumption
def Same.stay {A:Xl} {H H':Hp} (h:Same H H'):Stay A H H':=fun a o e _=>h a o e
variable {A A':Xl} {H H':Hp}
def Rep.grow {v:V} {d:D} (r:Rep K A H v d) (h:Same H H'):Rep K A H' v d:=r.stay (Same.stay h) fun _ z=>z
def Reps.grow {v:List V} {d:List D} (r:Reps K A H v d) (h:Same H H'):Reps K A H' v d:=r.stay (Same.stay h) fun _ z=>z
def Rep.weak {v:V} {d:D} (r:Rep K A H v d) (w: ∀a,A a->A' a):Rep K A' H v d:=r.stay (fun _ _ e _=>e) w
def Reps.weak {v:List V} {d:List D} (r:Reps K A H v d) (w: ∀a,A a->A' a):Reps K A' H v d:=r.stay (fun _ _ e _=>e) w
def Reps.imm {A A':Xl} {H:Hp} {vs:List V} {ds:List D} (r:Reps K A H vs ds):D.imms ds=true->Reps K A' H vs ds:=by
 refine Reps.rec (motive_1:=fun _ H v d _=>d.imm=true->Rep K A' H v d) (fun _=> .non) (fun b _=> .bl b) (fun i _=> .int i) (fun x h _=> .str x h) (fun e _ r i=> .tup e (r (by simpa only [D.imm] using i))) ?_ ?_ ?_ ?_ (fun e k l _=> .exn e k l) ?_ ?_ ?_ ?_ ?_ (fun _=> .nil) (fun _ _ h t i=>?_) r
 case refine_10=>simp only [D.imms,aap] at i;exact .cons (h i.1) (t i.2)
 all_goals intros;rename_i i;simp [D.imm] at i
def Rep.imm {A A':Xl} {H:Hp} {v:V} {d:D} (r:Rep K A H v d) (i:d.imm=true):Rep K A' H v d:=by
 cases Reps.imm (.cons r .nil) (by simp [D.imms,i]);assumption
def Reps.length {A:Xl} {H:Hp} {vs:List V} {ds:List D} (r:Reps K A H vs ds):vs.length=ds.length:=by
 induction vs generalizing ds with
 |nil=>cases r;rfl
 |cons v vs ih=>
  cases r with
  |cons _ t=>simp [ih t]
def Reps.get {A:Xl} {H:Hp} {vs:List V} {ds:List D} {i:Nat} {d:D} (r:Reps K A H vs ds) (e:ds[i]?=some d): ∃v,vs[i]?=some v/\Rep K A H v d:=by
 induction vs generalizing ds i with
 |nil=>cases r;simp at e
 |cons v vs ih=>
  cases r with
  |cons r t=>
   cases i with
   |zero=>simp at e;subst e;exact ⟨_,rfl,r⟩
   |succ i=>simpa using ih t (by simpa using e)
def Reps.get' {A:Xl} {H:Hp} {vs:List V} {ds:List D} {i:Nat} {v:V} (r:Reps K A H vs ds) (e:vs[i]?=some v): ∃d,ds[i]?=some d/\Rep K A H v d:=by
 induction vs generalizing ds i with
 |nil=>simp at e
 |cons v vs ih=>
  cases r with
  |cons r t=>
   cases i with
   |zero=>simp at e;subst e;exact ⟨_,rfl,r⟩
   |succ i=>simpa using ih t (by simpa using e)
def Reps.append {A:Xl} {H:Hp} {vs ws:List V} {ds es:List D} (r:Reps K A H vs ds) (s:Reps K A H ws es):Reps K A H (vs++ws) (ds++es):=by
 induction vs generalizing ds with
 |nil=>cases r;exact s
 |cons v vs ih=>
  cases r with
  |cons r t=>exact .cons r (ih t)
def Reps.take {A:Xl} {H:Hp} {vs:List V} {ds:List D} (n:Nat) (r:Reps K A H vs ds):Reps K A H (vs.take n) (ds.take n):=by
 induction vs generalizing ds n with
 |nil=>cases r;simpa using .nil
 |cons v vs ih=>
  cases r with
  |cons r t=>
   cases n with
   |zero=>exact .nil
   |succ n=>exact .cons r (ih n t)
def Reps.drop {A:Xl} {H:Hp} {vs:List V} {ds:List D} (n:Nat) (r:Reps K A H vs ds):Reps K A H (vs.drop n) (ds.drop n):=by
 induction vs generalizing ds n with
 |nil=>cases r;simpa using .nil
 |cons v vs ih=>
  cases n with
  |zero=>exact r
  |succ n=>
   cases r with
   |cons r t=>exact ih n t
theorem Reps.rep {vs:List V} {ds:List D} (r:Reps K A H vs ds): ∀k:Nat,Reps K A H (aaH k vs).flatten (aaH k ds).flatten
 |0=> .nil
 |k+1=>by
  rw [abw,abw,abU,abU];exact r.append (Reps.rep r k)
def Reps.isEmpty {xs:List V} {ds:List D} (r:Reps K A H xs ds):ds.isEmpty=xs.isEmpty:=by cases r<;>rfl
def Rep.lstE {v:V} {ds:List D} (r:Rep K A H v (.lst ds)): ∃a xs,v= .ref a/\H a=some (.lst xs)/\A a/\Reps K (fun c=>A c/\c≠a) H xs ds:=by
 cases r with
 |lst e h r=>exact ⟨_,_,rfl,e,h,r⟩
def Rep.scrE {v:V} {ds:List D} (r:Rep K A H v (.scr ds)): ∃a xs,v= .ref a/\LsK K H a xs/\Reps K A H xs ds:=by
 cases r with
 |lsk e r=>exact ⟨_,_,rfl,e,r⟩
def Rep.tupE {v:V} {ds:List D} (r:Rep K A H v (.tup ds)): ∃a xs,v= .ref a/\H a=some (.tup xs)/\Reps K A H xs ds:=by
 cases r with
 |tup e r=>exact ⟨_,_,rfl,e,r⟩
def Rep.intE {v:V} {i:Int} (r:Rep K A H v (.int i)):v= .int i:=by cases r;rfl
def Rep.blE {v:V} {b:Bool} (r:Rep K A H v (.bl b)):v= .bl b:=by cases r;rfl
def Rep.strE {v:V} {x:Str} (r:Rep K A H v (.str x)):v= .str x/\x.length<=aae:=by cases r;exact ⟨rfl,by assumption⟩
def Rep.nonE {v:V} (r:Rep K A H v .non):v= .non:=by cases r;rfl
def Reps.low {a:Addr} {vs:List V} {ds:List D} (r:Reps K (fun c=>A c/\c≠a) H vs ds):Reps K A H vs ds:=r.weak fun _ z=>z.1
def Reps.inDom {A:Xl} {H:Hp} {vs:List V} {ds:List D} (r:Reps K A H vs ds):Reps K (fun c=>A c/\H c≠none) H vs ds:=by
 refine Reps.rec .non (fun b=> .bl b) (fun i=> .int i) (fun x h=> .str x h) (fun e _ r=> .tup e r) (fun e a _ r=> .lst e ⟨a,?_⟩ ?_) (fun e _ r=> .lsk e r) (fun e a k l _ r=> .dic e ⟨a,?_⟩ k l ?_) (fun e a k l _ r=> .dit e ⟨a,?_⟩ k l ?_) (fun e k l=> .exn e k l) (fun e k l _ r=> .fdc (e.elim (fun z=> .inl ⟨z.1,z.2,by simp [z.1]⟩) .inr) k l ?_) (fun e k l _ r=> .hdc e k l ?_) (fun e a k l _ r=> .obj e ⟨a,?_⟩ k l ?_) (fun e a=> .mem e ⟨a,by simp [e]⟩) (fun e a k l _ r=> .nst e ⟨a,?_⟩ k l ?_) .nil (fun _ _ h t=> .cons h t) r
 any_goals exact r.weak fun _ z=>⟨⟨z.1.1,z.2⟩,z.1.2⟩
 all_goals simp [e]
def Rep.inDom {A:Xl} {H:Hp} {v:V} {d:D} (r:Rep K A H v d):Rep K (fun c=>A c/\H c≠none) H v d:=by
 cases Reps.inDom (.cons r .nil);assumption
def Same.upd {H:Hp} {p:Addr} {o:HO} (h:H p=none):Same H (L2.upd H p o):=fun b u e=>by rw [jr (jM e h)];exact e
def Reps.laid {p:Addr} {o:HO} {vs:List V} {ds:List D} (r:Reps K A H vs ds) (hp:H p=none):Reps K (fun c=>A c/\c≠p) (L2.upd H p o) vs ds:=
 (r.inDom.grow (Same.upd hp)).weak fun c z=>⟨z.1,fun e=>z.2 (by rw [e];exact hp)⟩
end
inductive Slot where
 |un
 |own (d:D)
 |shr (d:D)
abbrev Sl:=List Slot
def qQ (env:Sl) (σ:St) (a:Addr):Prop:= ∃(i:Nat) (d:D),env[i]?=some (.own d)/\σ[i]?=some (some (.ref a))
abbrev NotO (env:Sl) (σ:St):Addr->Prop:=fun a=> ¬qQ env σ a
abbrev Sf (G:Xl) (env:Sl) (σ:St):Addr->Prop:=fun a=> ¬qQ env σ a/\G a
inductive Top (K:aaa) (A:Xl) (H:Hp) (a:Addr):D->Prop where
 |lst {xs:List V} {ds:List D}:H a=some (.lst xs)->Reps K A H xs ds->Top K A H a (.lst ds)
 |dic {kvs:List (Key×V)} {vs:List V} {ks:List Key} {ds:List D}:H a=some (.dK kvs)->kvs.map (·.1)=ks->kvs.map (·.2)=vs->Reps K A H vs ds->Top K A H a (.dic ks ds)
 |dit {kvs:List ((List Key)×V)} {vs:List V} {ks:List (List Key)} {ds:List D}:H a=some (.dT kvs)->kvs.map (·.1)=ks->kvs.map (·.2)=vs->Reps K A H vs ds->Top K A H a (.dit ks ds)
 |obj {C dx:Addr} {fs:List (Str×V)} {vs:List V} {c:Str} {ns:List Str} {ds:List D}:H a=some (.ins C dx fs)->(aaj K aah c=some (some (.ref C))/\fs.map (·.1)=ns)->fs.map (·.2)=vs->Reps K A H vs ds->Top K A H a (.obj c ns ds)
 |nst {rs:List (Addr×List V)} {ds es:List D}:H a=some (.nst rs)->rs.map (fun r=>r.2.length)=ds.map (fun d=>(rrow d).length)->ds.flatMap rrow=es->Reps K A H (rs.flatMap (·.2)) es->Top K A H a (.nst ds)
def Top.rep {K:aaa} {A A':Xl} {H:Hp} {a:Addr} {d:D} (t:Top K A H a d) (w: ∀b,A b->A' b/\b≠a) (ha:A' a):Rep K A' H (.ref a) d:=by
 cases t with
 |lst e r=>exact .lst e ha (r.weak w)
 |dic e k1 k2 r=>exact .dic e ha k1 k2 (r.weak w)
 |dit e k1 k2 r=>exact .dit e ha k1 k2 (r.weak w)
 |obj e k1 k2 r=>exact .obj e ha k1 k2 (r.weak w)
 |nst e k1 k2 r=>exact .nst e ha k1 k2 (r.weak w)
def Top.stay {K:aaa} {A A':Xl} {H H':Hp} {a:Addr} {d:D} (t:Top K A H a d) (st:Stay A H H') (w: ∀b,A b->A' b) (ha: ∀o,H a=some o->H' a=some o):Top K A' H' a d:=by
 cases t with
 |lst e r=>exact .lst (ha _ e) (r.stay st w)
 |dic e k1 k2 r=>exact .dic (ha _ e) k1 k2 (r.stay st w)
 |dit e k1 k2 r=>exact .dit (ha _ e) k1 k2 (r.stay st w)
 |obj e k1 k2 r=>exact .obj (ha _ e) k1 k2 (r.stay st w)
 |nst e k1 k2 r=>exact .nst (ha _ e) k1 k2 (r.stay st w)
def Top.there {K:aaa} {A:Xl} {H:Hp} {a:Addr} {d:D} (t:Top K A H a d): ∃o,H a=some o/\Mut (some o):=by
 cases t with
 |lst e r=>exact ⟨_,e,trivial⟩
 |dic e _ _ r=>exact ⟨_,e,trivial⟩
 |dit e _ _ r=>exact ⟨_,e,trivial⟩
 |obj e _ _ r=>exact ⟨_,e,trivial⟩
 |nst e _ _ r=>exact ⟨_,e,trivial⟩
structure EnvOk (K:aaa) (G:Xl) (H0:Hp) (env:Sl) (σ:St) (H:Hp):Prop where
 len:σ.length=env.length
 base:Same H0 H
 g0: ∀a,H0 a=none->G a
 shr: ∀(i:Nat) (d:D),env[i]?=some (.shr d)-> ∃v,σ[i]?=some (some v)/\Rep K (Sf G env σ) H v d
 own: ∀(i:Nat) (d:D),env[i]?=some (.own d)-> ∃a,σ[i]?=some (some (.ref a))/\H0 a=none/\Top K (Sf G env σ) H a d
 dis: ∀(i j:Nat) (d e:D) (a:Addr),env[i]?=some (.own d)->env[j]?=some (.own e)->σ[i]?=some (some (.ref a))->σ[j]?=some (some (.ref a))->i=j
section
variable {K:aaa} {G:Xl} {H0 H H':Hp} {env:Sl} {σ:St}
def EnvOk.grow (e:EnvOk K G H0 env σ H) (h:Same H H'):EnvOk K G H0 env σ H' where
 len:=e.len
 base:=e.base.trans h
 g0:=e.g0
 shr:=fun i d z=>let ⟨v,h1,h2⟩:=e.shr i d z;⟨v,h1,h2.grow h⟩
 own:=fun i d z=>let ⟨a,h1,h2,h3⟩:=e.own i d z;⟨a,h1,h2,h3.stay (Same.stay h) (fun _ z=>z) (fun o q=>h _ o q)⟩
 dis:=e.dis
def EnvOk.there (e:EnvOk K G H0 env σ H) {a:Addr} (o:qQ env σ a): ∃u,H a=some u:=by
 obtain ⟨i,d,h1,h2⟩:=o;obtain ⟨b,h3,_,h4⟩:=e.own i d h1;rw [h2] at h3;cases h3;obtain ⟨u,h5,_⟩:=h4.there;exact ⟨u,h5⟩
def EnvOk.mutO (k:EnvOk K G H0 env σ H) {a:Addr} (o:qQ env σ a) {u:HO} (e:H a=some u):Mut (some u):=by
 obtain ⟨i,d,h1,h2⟩:=o;obtain ⟨b,h3,_,h4⟩:=k.own i d h1;rw [h2] at h3;cases h3;obtain ⟨u',h5,m⟩:=h4.there;rw [e] at h5;cases h5;exact m
def EnvOk.new (k:EnvOk K G H0 env σ H): ∀a,H a=none->Sf G env σ a:=fun a z=>⟨fun o=>(by
 obtain ⟨u,q⟩:=k.there o
 rw [z] at q;cases q),k.g0 a (Same.free k.base z)⟩
end
inductive Lv where
 |b|s|t
abbrev Any:Addr->Prop:=fun _=>True
def Lv.A (l:Lv) (G:Xl) (env:Sl) (σ:St):Addr->Prop:=
 match l with
 | .b=>Any
 | .s=>Sf G env σ
 | .t=>Sf G env σ
def NewTop (H:Hp) (v:V):Prop:= ∀a,v= .ref a-> ∀o,H a=some o-> ¬Mut (some o)
def Lv.T (l:Lv) (H:Hp) (v:V):Prop:=
 match l with
 | .t=>NewTop H v
 |_=>True
def NewTop.grow {H H':Hp} {v:V} (h:Same H H') (n:NewTop H' v):NewTop H v:=fun a e o q=>n a e o (h a o q)
def Lv.Tgrow {l:Lv} {H H':Hp} {v:V} (h:Same H H') (n:l.T H' v):l.T H v:=by
 cases l with
 |t=>exact NewTop.grow h n
 |b=>trivial
 |s=>trivial
def tE (K:aaa) (l:Lv) (f:Sl->Res D):TE:=fun σ H Q=> ∃G H0 env d,EnvOk K G H0 env σ H/\f env= .ok d/\ ∀v H',Same H H'->Rep K (l.A G env σ) H' v d->l.T H v->Q v H'
def tT (K:aaa) (f:Sl->Res Bool):TT:=fun σ H Q=> ∃G H0 env b,EnvOk K G H0 env σ H/\f env= .ok b/\ ∀H',Same H H'->Q b H'
def tA (K:aaa) (l:Lv) (f:Sl->Res (List D)):TA:=fun σ H Q=> ∃G H0 env ds,EnvOk K G H0 env σ H/\f env= .ok ds/\ ∀vs H',Same H H'->Reps K (l.A G env σ) H' vs ds->Q vs H'
@[irreducible] def DE (X:Cx) (l:Lv) (e:Expr) (f:Sl->Res D):Prop:=PE X e (tE X.K l f)
@[irreducible] def DT (X:Cx) (e:Expr) (f:Sl->Res Bool):Prop:=PT X e (tT X.K f)
@[irreducible] def DA (X:Cx) (l:Lv) (es:List Expr) (f:Sl->Res (List D)):Prop:=PA X es (tA X.K l f)
inductive Out where
 |nx (env:Sl)|rt (fr:Bool) (d:D)|bk (env:Sl)|ct (env:Sl)
abbrev TN:=Sl->Res D
abbrev TM:=Sl->Res Bool
abbrev TL:=Sl->Res Out
abbrev TK:=Sl->Res (List D)
abbrev TJ:=List D->Res D
abbrev TH:=D->Sl->Res Sl
structure Frm (env:Sl) (σ:St) (H:Hp) (env':Sl) (σ':St) (H':Hp):Prop where
 keep: ∀b o,H b=some o-> ¬qQ env σ b->H' b=some o
 more: ∀b,qQ env' σ' b->qQ env σ b\/H b=none
 size: ∀b,H' b=none->H b=none
def Post (K:aaa) (G:Xl) (H0:Hp) (env:Sl) (σ:St) (H:Hp) (E:Ends) (o:Out):Prop:=
 match o with
 | .nx env'=> ∀σ' H',EnvOk K G H0 env' σ' H'->Frm env σ H env' σ' H'->E.nx σ' H'
 | .bk env'=> ∀σ' H',EnvOk K G H0 env' σ' H'->Frm env σ H env' σ' H'->E.bk σ' H'
 | .ct env'=> ∀σ' H',EnvOk K G H0 env' σ' H'->Frm env σ H env' σ' H'->E.ct σ' H'
 | .rt fr d=> ∀v H',Same H0 H'->Rep K G H' v d->(fr=true->NewTop H0 v)->E.rt v H'
def tS (K:aaa) (g:TL):TS:=fun E σ H=> ∃G H0 env o,EnvOk K G H0 env σ H/\g env= .ok o/\Post K G H0 env σ H E o
@[irreducible] def DS (X:Cx) (st:Stmt) (g:TL):Prop:=PS X st (tS X.K g)
@[irreducible] def DSs (X:Cx) (st:List Stmt) (g:TL):Prop:=PSs X st (tS X.K g)
section
variable {X:Cx} {e:Expr} {es:List Expr} {st:Stmt} {sts:List Stmt}
def PE.imp {t t':TE} (h:PE X e t) (w: ∀σ H Q,t' σ H Q->t σ H Q):PE X e t':=fun pins s σ H Q I q=>h pins s σ H Q I (w σ H Q q)
def PT.imp {t t':TT} (h:PT X e t) (w: ∀σ H Q,t' σ H Q->t σ H Q):PT X e t':=fun pins s σ H Q I q=>h pins s σ H Q I (w σ H Q q)
def PA.imp {t t':TA} (h:PA X es t) (w: ∀σ H Q,t' σ H Q->t σ H Q):PA X es t':=fun pos pins s σ H Q I q=>h pos pins s σ H Q I (w σ H Q q)
def PS.imp {t t':TS} (h:PS X st t) (w: ∀E σ H,t' E σ H->t E σ H):PS X st t':=fun pins s σ H E I q=>h pins s σ H E I (w E σ H q)
def PSs.imp {t t':TS} (h:PSs X sts t) (w: ∀E σ H,t' E σ H->t E σ H):PSs X sts t':=fun pins s σ H E I q=>h pins s σ H E I (w E σ H q)
end
def Frm.refl {env:Sl} {σ:St} {H H':Hp} (h:Same H H'):Frm env σ H env σ H':=⟨fun b o e _=>h b o e,fun b o=> .inl o,fun b e=>Same.free h e⟩
def Frm.trans {env env1 env2:Sl} {σ σ1 σ2:St} {H H1 H2:Hp} (a:Frm env σ H env1 σ1 H1) (b:Frm env1 σ1 H1 env2 σ2 H2):Frm env σ H env2 σ2 H2 where
 keep:=fun c o e n=>b.keep c o (a.keep c o e n) fun z=>by
  rcases a.more c z with z|z
  · exact n z
  · rw [e] at z;cases z
 more:=fun c o=>by
  rcases b.more c o with z|z
  · exact a.more c z
  · exact .inr (a.size c z)
 size:=fun c e=>a.size c (b.size c e)
def Frm.grow {env env1:Sl} {σ σ1:St} {H Hm H1:Hp} (h:Same H Hm) (b:Frm env σ Hm env1 σ1 H1):Frm env σ H env1 σ1 H1:=(Frm.refl h).trans b
section
variable {X:Cx} {e:Expr} {f:TN}
def Lv.weak_b {l:Lv} {G:Xl} {env:Sl} {σ:St}: ∀a,l.A G env σ a->Any a:=fun _ _=>trivial
def DE.b {l:Lv} (h:DE X l e f):DE X .b e f:=by
 with_unfolding_all exact (PE.imp h fun σ H Q ⟨G,H0,env,d,k,ef,q⟩=>⟨G,H0,env,d,k,ef,fun v H' s r _=>q v H' s (r.weak Lv.weak_b) trivial⟩)
def DE.s (h:DE X .t e f):DE X .s e f:=by
 with_unfolding_all exact (PE.imp h fun σ H Q ⟨G,H0,env,d,k,ef,q⟩=>⟨G,H0,env,d,k,ef,fun v H' s r _=>q v H' s r trivial⟩)
def Uu {K:aaa} {A:Xl} {H H':Hp} {v:V} {d:D} (s:Same H H') (r:Rep K A H' v d) (i:d.imm=true):NewTop H v:=fun a e o q m=>by
 subst e
 cases r with
 |tup e _=>rw [s _ _ q] at e;cases e;exact m
 |lst _ _ _=>simp [D.imm] at i
 |lsk _ _=>simp [D.imm] at i
 |dic _ _ _ _ _=>simp [D.imm] at i
 |dit _ _ _ _ _=>simp [D.imm] at i
 |obj _ _ _ _ _=>simp [D.imm] at i
 |fdc _ _ _ _=>simp [D.imm] at i
 |hdc _ _ _ _=>simp [D.imm] at i
 |mem _ _=>simp [D.imm] at i
 |nst _ _ _ _ _=>simp [D.imm] at i
 |exn e _ _=>rw [s _ _ q] at e;cases e;exact m
def chk (f:TN):Sl->Res D:=fun env=>f env>>=fun d=>must (d.imm=true) (.ok d)
def DE.chk {l l':Lv} (h:DE X l e f):DE X l' e (chk f):=by
 with_unfolding_all exact (PE.imp h fun σ H Q=>by
  rintro ⟨G,H0,env,d,k,ef,q⟩;obtain ⟨d',e1,e2⟩:=jc ef;obtain ⟨i,e3⟩:=jy e2;cases e3;refine ⟨G,H0,env,d,k,e1,fun v H' s r _=>q v H' s (r.imm i) ?_⟩
  cases l' with
  |t=>exact Uu s r i
  |b=>trivial
  |s=>trivial)
end
def ZJ:Expr->Bool
 | .Starred _ _=>false
 |_=>true
def jj {e:Expr} {es:List Expr} {env:Env} (h:ZJ e=true):aac (e::es) env=(false,eval e env)::aac es env:=by
 cases e<;>first|rfl|cases h
def Yj {es:List Expr} {env:Env} (h:es.all ZJ=true):(aac es env).all (fun x=>!x.1)=true:=by
 induction es with
 |nil=>rfl
 |cons e r ih=>
  rw [adb,aap] at h;rw [jj h.1,adb,ih h.2];rfl
def Kn {pos:Pos} {l:List (Bool×Sem Value)} (h:l.all (fun x=>!x.1)=true):(aa1 pos l).all (fun x=>!x.1)=true:=by
 induction l with
 |nil=>rfl
 |cons p r ih=>
  obtain ⟨s,t⟩:=p;rw [adb,aap] at h;show ((!s)&&(aa1 pos r).all (fun x=>!x.1))=true;rw [ih h.2,Bool.and_true];exact h.1
def jK {pos:Pos} {es:List Expr} {env:Env} (h:es.all ZJ=true):(aa1 pos (aac es env)).any (·.1)=false:=by
 have:=Kn (pos:=pos) (Yj (env:=env) h);rw [aaT] at this;rw [List.any_eq_false];intro x hx z;have q:=this x hx;rw [z] at q;cases q
def zW {cpos:Pos} {e:Expr} {es:List Expr} {env:Env} (h:(e::es).all ZJ=true) (hl:decide ((e::es).length<30)=true):
  ((aa1 cpos (aac (e::es) env)).all (fun x=>!x.1)&&(abQ cpos (abi [] env)).all (fun x=>x.1.isSome)
   &&decide ((e::es).length+([]:List abG).length+(if ([]:List abG).isEmpty then 0 else 1)<30))=true:=by
 have hk:(abQ cpos (abi [] env)).all (fun x=>x.1.isSome)=true:=rfl;rw [Kn (Yj h),hk];simpa using hl
section
variable {X:Cx} {e a b c o:Expr} {es:List Expr} {pos:Pos} {l l1 l2 l':Lv} {f f1 f2 f3:TN}
def cI (i:Int):Sl->Res D:=fun _=> .ok (.int i)
def cB (b:Bool):Sl->Res D:=fun _=> .ok (.bl b)
def cN:Sl->Res D:=fun _=> .ok .non
def cS (x:Str):Sl->Res D:=fun _=> .ok (.str x)
def rdS (i:Nat):Sl->Res D:=fun env=>match env[i]? with
 |some (.shr d)=> .ok d
 |_=> .stuck
def rdB (i:Nat):Sl->Res D:=fun env=>match env[i]? with
 |some (.shr d)=> .ok d
 |some (.own d)=> .ok d
 |_=> .stuck
def VD {i:Nat} {env:Sl} {d:D} (h:rdS i env= .ok d):env[i]?=some (.shr d):=by
 unfold rdS at h
 split at h
 · cases h;assumption
 · cases h
def VE {i:Nat} {env:Sl} {d:D} (h:rdB i env= .ok d):env[i]?=some (.shr d)\/env[i]?=some (.own d):=by
 unfold rdB at h
 split at h
 · cases h;left;assumption
 · cases h;right;assumption
 · cases h
def Wz {K:aaa} {G:Xl} {H0 H:Hp} {env:Sl} {σ:L2.St} {i:Nat} {d:D} {a:Addr} (k:EnvOk K G H0 env σ H) (h1:env[i]?=some (.own d)) (h2:σ[i]?=some (some (.ref a))): ∀c,Sf G env σ c->c≠a:=fun c z e=>z.1 (by rw [e];exact ⟨i,d,h1,h2⟩)
def dv (i:Nat) {x:Str} (hN:X.N[i]?=some x:=by rfl) (hv:Vis X.env.scope x:=by first|exact aa6 rfl|exact aaI (aa6 rfl)|exact aaI (aaI rfl)) (hd:Zu x:=by decide)
   (hcd:Zt x:=by decide):DE X .s (.Name x pos) (rdS i):=by
 with_unfolding_all exact (
  PE.imp (qS hN hv hd hcd) fun σ H Q=>by
   rintro ⟨G,H0,env,d,k,ef,q⟩;obtain ⟨v,h1,h2⟩:=k.shr i d (VD ef)
   exact ⟨v,h1,q v H (Same.refl H) h2 trivial⟩)
def db (i:Nat) {x:Str} (hN:X.N[i]?=some x:=by rfl) (hv:Vis X.env.scope x:=by first|exact aa6 rfl|exact aaI (aa6 rfl)|exact aaI (aaI rfl)) (hd:Zu x:=by decide)
   (hcd:Zt x:=by decide):DE X .b (.Name x pos) (rdB i):=by
 with_unfolding_all exact (
  PE.imp (qS hN hv hd hcd) fun σ H Q=>by
   rintro ⟨G,H0,env,d,k,ef,q⟩;rcases VE ef with z|z
   · obtain ⟨v,h1,h2⟩:=k.shr i d z;exact ⟨v,h1,q v H (Same.refl H) (h2.weak fun _ _=>trivial) trivial⟩
   · obtain ⟨v,h1,_,h2⟩:=k.own i d z
     exact ⟨_,h1,q _ H (Same.refl H) (h2.rep (fun c y=>⟨trivial,Wz k z h1 c y⟩) trivial) trivial⟩)
def Sc (K:aaa) (v:V) (d:D):Prop:=(∀A H,Rep K A H v d)/\ ∀a,v≠ .ref a
def Sc.T {K:aaa} {v:V} {d:D} {H:Hp} (h:Sc K v d):l.T H v:=by
 cases l with
 |t=>exact fun a e=>absurd e (h.2 a)
 |b=>trivial
 |s=>trivial
def jef {K:aaa} (i:Int):Sc K (.int i) (.int i):=⟨fun _ _=> .int i,fun a e=>by cases e⟩
def jee {K:aaa} (i:Bool):Sc K (.bl i) (.bl i):=⟨fun _ _=> .bl i,fun a e=>by cases e⟩
def jen {K:aaa}:Sc K .non .non:=⟨fun _ _=> .non,fun a e=>by cases e⟩
def jeq {K:aaa} (x:Str) (h:x.length<=aae):Sc K (.str x) (.str x):=⟨fun _ _=> .str x h,fun a e=>by cases e⟩
def de_c {v:V} {d:D} (h:PE X e (tC v)) (r:Sc X.K v d):DE X l e (fun _=> .ok d):=by
 with_unfolding_all exact (
  PE.imp h fun σ H Q=>by
   rintro ⟨G,H0,env,d',k,ef,q⟩;cases ef
   exact q v H (Same.refl H) (r.1 _ H) r.T)
def U0 {i:Int} {j}:DE X l (.Constant (.int i) j pos) (cI i):=de_c Wv (jef i)
def QL {i:Bool} {j}:DE X l (.Constant (.bool i) j pos) (cB i):=de_c jdE (jee i)
def wn {j}:DE X l (.Constant .none j pos) cN:=de_c uB jen
def jt {x:Str} {j} (h:x.length<=aae:=by decide):DE X l (.Constant (.str x) j pos) (cS x):=de_c jcj (jeq x h)
def U2 {x:Str} {i:Int} {t:Tok} (hg:Gl X x) (hm:X.mg x=some (.int i t)) (hd:Zu x:=by decide):DE X l (.Name x pos) (cI i):=
 de_c (ZB (v:= .int i) hg hm ⟨t,rfl⟩ hd) (jef i)
def U1 {x y:Str} {t:Tok} (hg:Gl X x) (hm:X.mg x=some (.str y t)) (hl:y.length<=aae:=by decide) (hd:Zu x:=by decide):DE X l (.Name x pos) (cS y):=
 de_c (ZB (v:= .str y) hg hm ⟨t,rfl⟩ hd) (jeq y hl)
def OpS (K:aaa) (r:R2) (g:D->D->Res D):Prop:= ∀(x y:V) (H:Hp) (a b d:D) (Q:VK),Rep K Any H x a->Rep K Any H y b->g a b= .ok d->(∀v,Sc K v d->Q v H)->r x y H Q
def OpD (K:aaa) (r:R2) (g:D->D->Res D):Prop:= ∀(A:Xl) (x y:V) (H:Hp) (a b d:D) (Q:VK),Rep K A H x a->Rep K A H y b->g a b= .ok d->(∀v H',Same H H'->Rep K (fun c=>H c=none\/A c) H' v d->NewTop H v->Q v H')->r x y H Q
def two (f1 f2:TN) (g:D->D->Res D):Sl->Res D:=fun env=>f1 env>>=fun x=>f2 env>>=fun y=>g x y
def u7 {K:aaa} {r:R2} {g:D->D->Res D} (hr:OpS K r g) {σ:L2.St} {H:Hp} {Q:VK} (h:tE K l (two f1 f2 g) σ H Q):tOp r (tE K l1 f1) (tE K l2 f2) σ H Q:=by
 obtain ⟨G,H0,env,d,k,ef,q⟩:=h;obtain ⟨a,e1,ef⟩:=jc ef;obtain ⟨b,e2,e3⟩:=jc ef;refine ⟨G,H0,env,a,k,e1,fun x H1 s1 r1 _=>⟨G,H0,env,b,k.grow s1,e2,fun y H2 s2 r2 _=>?_⟩⟩;exact hr x y H2 a b d Q ((r1.grow s2).weak Lv.weak_b) (r2.weak Lv.weak_b) e3 fun v sc=>q v H2 (s1.trans s2) (sc.1 _ _) sc.T
def jdh {K:aaa} {r:R2} {g:D->D->Res D} (hr:OpD K r g) {σ:L2.St} {H:Hp} {Q:VK} (h:tE K .t (two f1 f2 g) σ H Q):tOp r (tE K .s f1) (tE K .s f2) σ H Q:=by
 obtain ⟨G,H0,env,d,k,ef,q⟩:=h;obtain ⟨a,e1,ef⟩:=jc ef;obtain ⟨b,e2,e3⟩:=jc ef;refine ⟨G,H0,env,a,k,e1,fun x H1 s1 r1 _=>⟨G,H0,env,b,k.grow s1,e2,fun y H2 s2 r2 _=>?_⟩⟩;have sm:=s1.trans s2;exact hr _ x y H2 a b d Q (r1.grow s2) r2 e3 fun v H3 s3 r3 nt=>q v H3 (sm.trans s3) (r3.weak fun c z=>z.elim (fun z=>k.new c (Same.free sm z)) fun z=>z) (nt.grow sm)
def jdi {K:aaa} {r:R2} {g:D->D->Res D} (hr:OpD K r g) {σ:L2.St} {H:Hp} {Q:VK} (h:tE K .b (two f1 f2 g) σ H Q):tOp r (tE K .b f1) (tE K .b f2) σ H Q:=by
 obtain ⟨G,H0,env,d,k,ef,q⟩:=h;obtain ⟨a,e1,ef⟩:=jc ef;obtain ⟨b,e2,e3⟩:=jc ef;refine ⟨G,H0,env,a,k,e1,fun x H1 s1 r1 _=>⟨G,H0,env,b,k.grow s1,e2,fun y H2 s2 r2 _=>?_⟩⟩;have sm:=s1.trans s2;exact hr _ x y H2 a b d Q (r1.grow s2) r2 e3 fun v H3 s3 r3 nt=>q v H3 (sm.trans s3) (r3.weak fun c _=>trivial) trivial
def UY {op:acv} {r:R2} {g:D->D->Res D} (ho:OpR X (abH op) r) (hr:OpS X.K r g) (ha:DE X l1 a f1) (hb:DE X l2 b f2):DE X l (.BinOp a op b pos) (two f1 f2 g):=by
 with_unfolding_all exact (
  PE.imp (vp ho ha hb) fun _ _ _ h=>u7 hr h)
def jE {op:acv} {r:R2} {g:D->D->Res D} (ho:OpR X (abH op) r) (hr:OpD X.K r g) (ha:DE X .s a f1) (hb:DE X .s b f2):DE X .t (.BinOp a op b pos) (two f1 f2 g):=by
 with_unfolding_all exact (
  PE.imp (vp ho ha hb) fun _ _ _ h=>jdh hr h)
def UX {op:acv} {r:R2} {g:D->D->Res D} (ho:OpR X (abH op) r) (hr:OpD X.K r g) (ha:DE X .b a f1) (hb:DE X .b b f2):DE X .b (.BinOp a op b pos) (two f1 f2 g):=by
 with_unfolding_all exact (
  PE.imp (vp ho ha hb) fun _ _ _ h=>jdi hr h)
def U7 {op:CmpOp} {r:R2} {g:D->D->Res D} (ho:OpR X (abl op) r) (hr:OpS X.K r g) (ha:DE X l1 a f1) (hb:DE X l2 b f2) (hm:abJ op b=false:=by first|exact uD _| (with_unfolding_all rfl)):DE X l (.Compare a [op] [b] pos) (two f1 f2 g):=by
 with_unfolding_all exact (
  PE.imp (jaC ho ha hb hm) fun _ _ _ h=>u7 hr h)
def asB (f:TN):Sl->Res Bool:=fun env=>f env>>=fun d=>match d with
 | .bl b=> .ok b
 |_=> .stuck
def jbF {env:Sl} {b:Bool} (h:asB f env= .ok b):f env= .ok (.bl b):=by
 obtain ⟨d,e1,e2⟩:=jc h
 cases d with
 |bl c=>cases e2;exact e1
 |_=>cases e2
def Xi {K:aaa} {t:TE} (ht: ∀σ H Q,tE K l f σ H Q->t σ H Q) {σ:L2.St} {H:Hp} {Q:Bool->Hp->Prop} (h:tT K (asB f) σ H Q):u6 t σ H Q:=by
 obtain ⟨G,H0,env,b,k,ef,q⟩:=h;refine ht σ H _ ⟨G,H0,env,.bl b,k,jbF ef,fun v H' s r _=>⟨b,r.blE,q H' s⟩⟩
def jO {op:CmpOp} {r:R2} {g:D->D->Res D} (ho:OpR X (abl op) r) (hr:OpS X.K r g) (ha:DE X l1 a f1) (hb:DE X l2 b f2) (hm:abJ op b=false:=by first|exact uD _| (with_unfolding_all rfl)):DT X (.Compare a [op] [b] pos) (asB (two f1 f2 g)):=by
 with_unfolding_all exact (
  PT.imp (jaq ho ha hb hm) fun _ _ _ h=>Xi (l:= .b) (fun _ _ _ h=>u7 hr h) h)
def Z9 (f1 f2 f3:TN) (g g':D->D->Res D):Sl->Res D:=fun env=>f1 env>>=fun x=>f2 env>>=fun y=>g x y>>=fun z=>match z with
 | .bl true=>f3 env>>=fun w=>g' y w
 | .bl false=> .ok (.bl false)
 |_=> .stuck
def Yh {K:aaa} {l3:Lv} {r r':R2} {g g':D->D->Res D} (hr:OpS K r g) (hr':OpS K r' g') {σ:L2.St} {H:Hp} {Q:VK} (h:tE K l (Z9 f1 f2 f3 g g') σ H Q):Vj r r' (tE K l1 f1) (tE K l2 f2) (tE K l3 f3) σ H Q:=by
 obtain ⟨G,H0,env,d,k,ef,q⟩:=h;obtain ⟨a,e1,ef⟩:=jc ef;obtain ⟨b,e2,ef⟩:=jc ef;obtain ⟨z,e3,e4⟩:=jc ef;refine ⟨G,H0,env,a,k,e1,fun x H1 s1 r1 _=>⟨G,H0,env,b,k.grow s1,e2,fun y H2 s2 r2 _=>?_⟩⟩;refine hr x y H2 a b z _ ((r1.grow s2).weak Lv.weak_b) (r2.weak Lv.weak_b) e3 fun v sc=>?_
 cases z with
 |bl t=>
  refine ⟨t,(sc.1 Any H2).blE,?_⟩
  cases t with
  |false=>
   cases e4;rw [if_neg aaz];exact q _ H2 (s1.trans s2) (.bl false) (jee (K:=K) false).T
  |true=>
   obtain ⟨w,e5,e6⟩:=jc e4;rw [if_pos rfl];refine ⟨G,H0,env,w,(k.grow s1).grow s2,e5,fun y' H4 s4 r4 _=>?_⟩;refine hr' y y' H4 b w d Q ((r2.grow s4).weak Lv.weak_b) (r4.weak Lv.weak_b) e6 fun v sc=>q v H4 (s1.trans (s2.trans s4)) (sc.1 _ _) sc.T
 |_=>cases e4
def Kf {op op':CmpOp} {l3:Lv} {r r':R2} {g g':D->D->Res D} (ho:OpR X (abl op) r) (hr:OpS X.K r g) (ho':OpR X (abl op') r') (hr':OpS X.K r' g') (ha:DE X l1 a f1) (hb:DE X l2 b f2) (hc:DE X l3 c f3)
   (hm:lastMarks [op,op'] [b,c]=false:=by with_unfolding_all rfl):DE X l (.Compare a [op,op'] [b,c] pos) (Z9 f1 f2 f3 g g'):=by
 with_unfolding_all exact (
  PE.imp (vv ho ho' ha hb hc hm) fun _ _ _ h=>Yh hr hr' h)
def Ka {op op':CmpOp} {l3:Lv} {r r':R2} {g g':D->D->Res D} (ho:OpR X (abl op) r) (hr:OpS X.K r g) (ho':OpR X (abl op') r') (hr':OpS X.K r' g') (ha:DE X l1 a f1) (hb:DE X l2 b f2) (hc:DE X l3 c f3)
   (hm:lastMarks [op,op'] [b,c]=false:=by with_unfolding_all rfl):DT X (.Compare a [op,op'] [b,c] pos) (asB (Z9 f1 f2 f3 g g')):=by
 with_unfolding_all exact (
  PT.imp (vj ho ho' ha hb hc hm) fun _ _ _ h=>Xi (l:= .b) (fun _ _ _ h=>Yh hr hr' h) h)
def xb (h:DE X l e f) (he: ∀whole,isTrue e X.env whole=(do let v←whole;adi e.pos;adj [v] (truthy v)):=by intro _;rfl):DT X e (asB f):=by
 with_unfolding_all exact (
  PT.imp (ux h he) fun _ _ _ h=>Xi (fun _ _ _ h=>h) h)
def tru:D->Res Bool
 | .non=> .ok false
 | .bl b=> .ok b
 | .int i=> .ok (i !=0)
 | .str x=> .ok ((x.length:Int) !=0)
 | .tup ds=> .ok (!ds.isEmpty)
 | .lst ds=> .ok (!ds.isEmpty)
 | .scr ds=> .ok (!ds.isEmpty)
 | .dic _ _=> .stuck
 | .dit _ _=> .stuck
 | .exn _=> .stuck
 | .fdc _ _=> .stuck
 | .hdc _ _=> .stuck
 | .obj _ _ _=> .stuck
 | .mem _ _=> .stuck
 | .nst _=> .stuck
def jdf {K:aaa} {A:Xl} {H:Hp} {v:V} {d:D} {b:Bool} (r:Rep K A H v d) (h:tru d= .ok b):TruV K v H b:=by
 cases r with
 |non=>cases h;rfl
 |bl c=>cases h;rfl
 |int i=>cases h;rfl
 |str x hx=>cases h;exact ⟨hx,rfl⟩
 |tup e r=>cases h;exact .inr (.inl ⟨_,.of e,by rw [r.isEmpty]⟩)
 |lst e _ r=>cases h;exact .inl ⟨_,.of e,by rw [r.isEmpty]⟩
 |lsk e r=>cases h;exact .inl ⟨_,e.sql,by rw [r.isEmpty]⟩
 |dic _ _ _ _ _=>cases h
 |dit _ _ _ _ _=>cases h
 |exn _ _ _=>cases h
 |fdc _ _ _ _=>cases h
 |hdc _ _ _ _=>cases h
 |obj _ _ _ _ _=>cases h
 |mem _ _=>cases h
 |nst _ _ _ _ _=>cases h
def truF (f:TN):Sl->Res Bool:=fun env=>f env>>=tru
def jc0 (h:DE X l e f) (he: ∀whole,isTrue e X.env whole=(do let v←whole;adi e.pos;adj [v] (truthy v)):=by intro _;rfl):DT X e (truF f):=by
 with_unfolding_all exact (
  PT.imp (vh h he) fun σ H Q=>by
   rintro ⟨G,H0,env,b,k,ef,q⟩;obtain ⟨d,e1,e2⟩:=jc ef
   exact ⟨G,H0,env,d,k,e1,fun v H' s r _=>⟨b,jdf r e2,q H' s⟩⟩)
section
variable {g g1 g2:TM} {rest:List Expr}
def notB (g:TM):Sl->Res Bool:=fun env=>g env>>=fun b=> .ok (!b)
def JF (h:DT X a g):DT X (.UnaryOp .Not a pos) (notB g):=by
 with_unfolding_all exact (
  PT.imp (uy h) fun σ H Q=>by
   rintro ⟨G,H0,env,b,k,ef,q⟩;obtain ⟨d,e1,e2⟩:=jc ef;cases e2
   exact ⟨G,H0,env,d,k,e1,q⟩)
@[irreducible] def DW (X:Cx) (e:Expr) (f:TM):Prop:=PW X e (tT X.K f)
theorem PW.imp {t t':TT} (h:PW X e t) (w: ∀σ H Q,t' σ H Q->t σ H Q):PW X e t':=fun wh pins s σ H Q I q=>h wh pins s σ H Q I (w σ H Q q)
def DW.dt (h:DW X e g):DT X e g:=by
 with_unfolding_all exact (PW.pt h)
def yu (h:DT X a g):DW X (.BoolOp .And [a] pos) g:=by
 with_unfolding_all exact (jan h)
def JE (h:DT X a g):DW X (.BoolOp .Or [a] pos) g:=by
 with_unfolding_all exact (jca h)
def andB (g1 g2:TM):Sl->Res Bool:=fun env=>g1 env>>=fun b=>if b=true then g2 env else .ok false
def orB (g1 g2:TM):Sl->Res Bool:=fun env=>g1 env>>=fun b=>if b=true then .ok true else g2 env
def Qu (h1:DT X a g1) (h2:DW X (.BoolOp .And (b::rest) pos) g2):DW X (.BoolOp .And (a::b::rest) pos) (andB g1 g2):=by
 with_unfolding_all exact (
  PW.imp (jcb h1 h2) fun σ H Q=>by
   rintro ⟨G,H0,env,r,k,ef,q⟩;obtain ⟨d,e1,e2⟩:=jc ef;refine ⟨G,H0,env,d,k,e1,fun H' s=>?_⟩
   cases d with
   |true=>rw [if_pos rfl] at e2 ⊢;exact ⟨G,H0,env,r,k.grow s,e2,fun H2 s2=>q H2 (s.trans s2)⟩
   |false=>rw [if_neg aaz] at e2 ⊢;cases e2;exact q H' s)
def Z1 (h1:DT X a g1) (h2:DW X (.BoolOp .Or (b::rest) pos) g2):DW X (.BoolOp .Or (a::b::rest) pos) (orB g1 g2):=by
 with_unfolding_all exact (
  PW.imp (jdB h1 h2) fun σ H Q=>by
   rintro ⟨G,H0,env,r,k,ef,q⟩;obtain ⟨d,e1,e2⟩:=jc ef;refine ⟨G,H0,env,d,k,e1,fun H' s=>?_⟩
   cases d with
   |false=>rw [if_neg aaz] at e2 ⊢;exact ⟨G,H0,env,r,k.grow s,e2,fun H2 s2=>q H2 (s.trans s2)⟩
   |true=>rw [if_pos rfl] at e2 ⊢;cases e2;exact q H' s)
def toB (f:TN) (g:TN) (w:Bool):Sl->Res D:=fun env=>f env>>=fun d=>match d with
 | .bl b=>if b=w then g env else .ok (.bl b)
 |_=> .stuck
def W0 {op} (h:DE X l a f):DE X l (.BoolOp op [a] pos) f:=by
 with_unfolding_all exact (jck h)
def Zg (h1:DE X l1 a f1) (h2:DE X l (.BoolOp .And (b::rest) pos) f2):DE X l (.BoolOp .And (a::b::rest) pos) (toB f1 f2 true):=by
 with_unfolding_all exact (
  PE.imp (jcp h1 h2) fun σ H Q=>by
   rintro ⟨G,H0,env,r,k,ef,q⟩;obtain ⟨d,e1,e2⟩:=jc ef;refine ⟨G,H0,env,d,k,e1,fun v H' s rr _=>?_⟩
   cases d with
   |bl t=>
    refine ⟨t,rr.blE,?_⟩
    cases t with
    |true=>exact ⟨G,H0,env,r,k.grow s,e2,fun v H2 s2 r2 nt=>q v H2 (s.trans s2) r2 (Lv.Tgrow s nt)⟩
    |false=>cases e2;exact q _ H' s (.bl false) (jee (K:=X.K) false).T
   |_=>cases e2)
def notD:D->Res D
 | .bl b=> .ok (.bl (!b))
 |_=> .stuck
def notF (f:TN):Sl->Res D:=fun env=>f env>>=notD
def uU (h:DE X l1 a f):DE X l (.UnaryOp .Not a pos) (notF f):=by
 with_unfolding_all exact (
  PE.imp (jcl h) fun σ H Q=>by
   rintro ⟨G,H0,env,r,k,ef,q⟩;obtain ⟨d,e1,e2⟩:=jc ef;refine ⟨G,H0,env,d,k,e1,fun v H' s rr _=>?_⟩
   cases d with
   |bl t=>cases e2;exact ⟨t,rr.blE,q _ H' s (.bl _) (jee (K:=X.K) _).T⟩
   |_=>cases e2)
def ifD (g:TM) (f1 f2:TN):Sl->Res D:=fun env=>g env>>=fun b=>if b=true then f1 env else f2 env
def uV (hc:DT X c g) (h1:DE X l a f1) (h2:DE X l b f2):DE X l (.IfExp c a b pos) (ifD g f1 f2):=by
 with_unfolding_all exact (
  PE.imp (vq hc h1 h2) fun σ H Q=>by
   rintro ⟨G,H0,env,r,k,ef,q⟩;obtain ⟨d,e1,e2⟩:=jc ef;refine ⟨G,H0,env,d,k,e1,fun H' s=>?_⟩
   cases d with
   |true=>rw [if_pos rfl] at e2 ⊢;exact ⟨G,H0,env,r,k.grow s,e2,fun v H2 s2 r2 nt=>q v H2 (s.trans s2) r2 (Lv.Tgrow s nt)⟩
   |false=>rw [if_neg aaz] at e2 ⊢;exact ⟨G,H0,env,r,k.grow s,e2,fun v H2 s2 r2 nt=>q v H2 (s.trans s2) r2 (Lv.Tgrow s nt)⟩)
end
def ja (f:TN) (g:TK):Sl->Res (List D):=fun env=>f env>>=fun d=>g env>>=fun ds=> .ok (d::ds)
def nil1:Sl->Res (List D):=fun _=> .ok []
def ji:DA X l [] nil1:=by
 with_unfolding_all exact (PA.imp zn fun σ H Q=>by rintro ⟨G,H0,env,d,k,ef,q⟩;cases ef;exact q [] H (Same.refl H) .nil)
def jb {g:TK} (ha:DE X l e f) (hr:DA X l es g) (hs:Xj X e es:=by exact jj rfl):DA X l (e::es) (ja f g):=by
 with_unfolding_all exact (
  PA.imp (j5 ha hr hs) fun σ H Q=>by
   rintro ⟨G,H0,env,ds,k,ef,q⟩;obtain ⟨d,e1,e2⟩:=jc ef;obtain ⟨ds',e3,e4⟩:=jc e2;cases e4
   exact ⟨G,H0,env,d,k,e1,fun v H1 s1 r1 _=>⟨G,H0,env,ds',k.grow s1,e3,fun vs H2 s2 r2=>q _ H2 (s1.trans s2) (.cons (r1.grow s2) r2)⟩⟩)
def zU {H H1:Hp} {p:Addr} (s:Same H H1) (hp:H1 p=none):NewTop H (.ref p):=fun a e o q=>by
 cases e;rw [s _ _ q] at hp;cases hp
def tupF (g:TK):Sl->Res D:=fun env=>g env>>=fun ds=>must (ds.length<=aae) (.ok (.tup ds))
def lstF (g:TK):Sl->Res D:=fun env=>g env>>=fun ds=>must (ds.length<=aae) (.ok (.lst ds))
def xc {x1} {g:TK} (h:DA X .s es g):DE X .t (.Tuple es x1 pos) (tupF g):=by
 with_unfolding_all exact (
  PE.imp (Yy h) fun σ H Q=>by
   rintro ⟨G,H0,env,d,k,ef,q⟩;obtain ⟨ds,e1,e2⟩:=jc ef;obtain ⟨hz,e3⟩:=jy e2;cases e3;refine ⟨G,H0,env,ds,k,e1,fun vs H1 s1 r1=>⟨by rw [r1.length];exact hz,fun p hp=>?_⟩⟩
   exact q _ _ (s1.trans (Same.upd hp)) (.tup jo (r1.grow (Same.upd hp))) (zU s1 hp))
def zE {g:TK} (h:DA X .s es g):DE X .t (.List es pos) (lstF g):=by
 with_unfolding_all exact (
  PE.imp (Yz h) fun σ H Q=>by
   rintro ⟨G,H0,env,d,k,ef,q⟩;obtain ⟨ds,e1,e2⟩:=jc ef;obtain ⟨hz,e3⟩:=jy e2;cases e3;refine ⟨G,H0,env,ds,k,e1,fun vs H1 s1 r1=>⟨by rw [r1.length];exact hz,fun p hp=>?_⟩⟩
   exact q _ _ (s1.trans (Same.upd hp)) (.lst jo (k.new p (Same.free s1 hp)) (r1.laid hp)) (zU s1 hp))
def kO (K:aaa) (r:List V->Hp->VK->Prop) (g:TJ):Prop:= ∀(xs:List V) (H:Hp) (ds:List D) (d:D) (Q:VK),Reps K Any H xs ds->g ds= .ok d->(∀v,Sc K v d->Q v H)->r xs H Q
def kP (K:aaa) (r:List V->Hp->VK->Prop) (g:TJ):Prop:= ∀(A:Xl) (xs:List V) (H:Hp) (ds:List D) (d:D) (Q:VK),Reps K A H xs ds->g ds= .ok d->(∀v H',Same H H'->Rep K (fun c=>H c=none\/A c) H' v d->NewTop H v->Q v H')->r xs H Q
def app (f:TK) (g:TJ):Sl->Res D:=fun env=>f env>>=g
def jdr {K:aaa} {r:List V->Hp->VK->Prop} {g:TJ} {fa:TK} (hr:kO K r g) {σ:L2.St} {H:Hp} {Q:VK} (h:tE K l' (app fa g) σ H Q):tCB r (tA K l fa) σ H Q:=by
 obtain ⟨G,H0,env,d,k,ef,q⟩:=h;obtain ⟨ds,e1,e2⟩:=jc ef;refine ⟨G,H0,env,ds,k,e1,fun vs H1 s1 r1=>?_⟩;exact hr vs H1 ds d Q (r1.weak Lv.weak_b) e2 fun v sc=>q v H1 s1 (sc.1 _ _) sc.T
def jds {K:aaa} {r:List V->Hp->VK->Prop} {g:TJ} {fa:TK} (hr:kP K r g) {σ:L2.St} {H:Hp} {Q:VK} (h:tE K .b (app fa g) σ H Q):tCB r (tA K .b fa) σ H Q:=by
 obtain ⟨G,H0,env,d,k,ef,q⟩:=h;obtain ⟨ds,e1,e2⟩:=jc ef;refine ⟨G,H0,env,ds,k,e1,fun vs H1 s1 r1=>?_⟩;exact hr _ vs H1 ds d Q r1 e2 fun v H2 s2 r2 nt=>q v H2 (s1.trans s2) (r2.weak fun c _=>trivial) trivial
section
variable {x:Str} {id T:String} {p:Pos} {r:List V->Hp->VK->Prop} {g:TJ} {fa:TK}
def j3 (hc:CallR X (.builtin id) r) (hr:kO X.K r g) (hg:Gl X x) (hm:X.mg x=none) (hv:aby x=some (.builtin id))
   (ha:DA X l (e::es) fa) (hn:x≠ "__name__" :=by decide) (hdb:Zu x:=by decide)
   (he:Xj X e es:=by exact jj rfl) (hpl:Wt X pos es:=by exact jK rfl):DE X l' (.Call (.Name x p) (e::es) [] pos) (app fa g):=by
 with_unfolding_all exact (
  PE.imp (wM hc hg hm hv ha hn hdb he hpl) fun _ _ _ h=>jdr hr h)
def zy (hc:CallR X (.type T) r) (hr:kP X.K r g) (hg:Gl X x) (hm:X.mg x=none) (hv:aby x=some (.type T))
   (ha:DA X .b (e::es) fa) (hn:x≠ "__name__" :=by decide) (hdb:Zu x:=by decide)
   (he:Xj X e es:=by exact jj rfl) (hpl:Wt X pos es:=by exact jK rfl):DE X .b (.Call (.Name x p) (e::es) [] pos) (app fa g):=by
 with_unfolding_all exact (
  PE.imp (Ww hc hg hm hv ha hn hdb he hpl) fun _ _ _ h=>jds hr h)
end
def spF (K:aaa) (fr:Bool) (n:Nat) (F:TJ):Sp:=fun vs H Q _=> ∃B ds d,vs.length=n/\Reps K B H vs ds/\F ds= .ok d/\ ∀v H',Same H H'->Rep K (fun a=>H a=none\/B a) H' v d->(fr=true->NewTop H v)->Q v H'
def jN (n:Nat) (F:TJ) (g:TK):Sl->Res D:=fun env=>g env>>=fun ds=>must (ds.length=n) (F ds)
section
variable {CX:CXT} {k:Nat} {x:Str} {fa:Addr} {fd:abp} {ps:List Str} {p:Pos} {n:Nat} {F:TJ} {E:XK} {g:TK} {fr:Bool}
def jbn (G:FnOk X.prog X.w X.K X.mg X.base CX k fa fd ps (spF X.K fr n F)) (hr:Room k X.A) (hg:Gl X x) (hm:X.mg x=some (.ref fa)) (hk:aaN X.K (.ref fa)=true) (hb:Binds X.K fd ps []) (hx:JI CX X E)
   (ha:DA X .s (e::es) g) (hdb:Zu x:=by decide) (he:Xj X e es:=by exact jj rfl) (hpl:Wt X pos es:=by exact jK rfl):
   DE X .s (.Call (.Name x p) (e::es) [] pos) (jN n F g):=by
 with_unfolding_all exact (
  PE.imp (Xs G hr hg hm hk hb .nil hx ha hdb he hpl) fun σ H Q=>by
   rintro ⟨GG,H0,env,d,k,ef,q⟩;obtain ⟨ds,e1,e2⟩:=jc ef;obtain ⟨hn,e3⟩:=jy e2;refine ⟨GG,H0,env,ds,k,e1,fun vs H1 s1 r1=>?_⟩;show spF X.K fr n F (vs++[]) H1 Q E;rw [aaV]
   exact ⟨_,ds,d,by rw [r1.length];exact hn,r1,e3,fun v H2 s2 r2 _=>q v H2 (s1.trans s2) (r2.weak fun c z=>z.elim (fun z=>k.new c (Same.free s1 z)) fun z=>z) trivial⟩)
def ua (G:FnOk X.prog X.w X.K X.mg X.base CX k fa fd ps (spF X.K true n F)) (hr:Room k X.A) (hg:Gl X x) (hm:X.mg x=some (.ref fa)) (hk:aaN X.K (.ref fa)=true) (hb:Binds X.K fd ps []) (hx:JI CX X E)
   (ha:DA X .s (e::es) g) (hdb:Zu x:=by decide) (he:Xj X e es:=by exact jj rfl) (hpl:Wt X pos es:=by exact jK rfl):
   DE X .t (.Call (.Name x p) (e::es) [] pos) (jN n F g):=by
 with_unfolding_all exact (
  PE.imp (Xs G hr hg hm hk hb .nil hx ha hdb he hpl) fun σ H Q=>by
   rintro ⟨GG,H0,env,d,k,ef,q⟩;obtain ⟨ds,e1,e2⟩:=jc ef;obtain ⟨hn,e3⟩:=jy e2;refine ⟨GG,H0,env,ds,k,e1,fun vs H1 s1 r1=>?_⟩;show spF X.K true n F (vs++[]) H1 Q E;rw [aaV]
   exact ⟨_,ds,d,by rw [r1.length];exact hn,r1,e3,fun v H2 s2 r2 nt=>q v H2 (s1.trans s2) (r2.weak fun c z=>z.elim (fun z=>k.new c (Same.free s1 z)) fun z=>z) ((nt rfl).grow s1)⟩)
end
def ixD:D->D->Res D
 | .lst ds,.int i=>match atI ds i with
  |some d=> .ok d
  |none=> .stuck
 | .scr ds,.int i=>match atI ds i with
  |some d=> .ok d
  |none=> .stuck
 | .tup ds,.int i=>match atI ds i with
  |some d=> .ok d
  |none=> .stuck
 | .str z,.int i=>match atI z.cps.toList i with
  |some c=> .ok (.str ⟨#[c]⟩)
  |none=> .stuck
 |_,_=> .stuck
def X9 {K:aaa} {A:Xl} {H:Hp} {xs:List V} {ds:List D} {i:Int} {d:D} (r:Reps K A H xs ds) (h:atI ds i=some d): ∃v,atI xs i=some v/\Rep K A H v d:=by
 unfold atI at h ⊢;rw [r.length]
 cases e:ixN ds.length i with
 |none=>rw [e] at h;cases h
 |some j=>rw [e] at h;exact r.get h
def jaF (c:Nat):(⟨#[c]⟩:Str).length<=aae:=by show 1<=aae;decide
def jdG {A:Xl} {x y:V} {H:Hp} {a b d:D} {Q:VK} (ra:Rep X.K A H x a) (rb:Rep X.K Any H y b) (h:ixD a b= .ok d) (q: ∀v,Rep X.K A H v d->Q v H):rIx X.K x y H Q:=by
 cases b with
 |int i=>
  cases rb.intE
  cases a with
  |lst ds=>
   unfold ixD at h;dsimp only at h
   cases e:atI ds i with
   |none=>rw [e] at h;cases h
   |some d'=>
    rw [e] at h;cases h;obtain ⟨p,xs,rfl,hq,_,r⟩:=ra.lstE;obtain ⟨v,e2,r2⟩:=X9 r.low e;exact .inl ⟨p,xs,i,v,rfl,rfl,.of hq,e2,q v r2⟩
  |scr ds=>
   unfold ixD at h;dsimp only at h
   cases e:atI ds i with
   |none=>rw [e] at h;cases h
   |some d'=>
    rw [e] at h;cases h;obtain ⟨p,xs,rfl,hq,r⟩:=ra.scrE;obtain ⟨v,e2,r2⟩:=X9 r e;exact .inl ⟨p,xs,i,v,rfl,rfl,hq.sql,e2,q v r2⟩
  |tup ds=>
   unfold ixD at h;dsimp only at h
   cases e:atI ds i with
   |none=>rw [e] at h;cases h
   |some d'=>
    rw [e] at h;cases h;obtain ⟨p,xs,rfl,hq,r⟩:=ra.tupE;obtain ⟨v,e2,r2⟩:=X9 r e;exact .inr (.inl ⟨p,xs,i,v,rfl,rfl,.of hq,e2,q v r2⟩)
  |str z=>
   unfold ixD at h;dsimp only at h
   cases e:atI z.cps.toList i with
   |none=>rw [e] at h;cases h
   |some c=>
    rw [e] at h;cases h;obtain ⟨rfl,hz⟩:=ra.strE;exact .inr (.inr ⟨z,i,c,rfl,rfl,hz,e,q _ (.str _ (by show 1<=aae;decide))⟩)
  |_=>cases h
 |_=>cases a<;>cases h
def wy (ha:DE X .s a f1) (hb:DE X l2 b f2) (hs:Jr b:=by intro _ _;rfl):DE X .s (.Subscript a b pos) (two f1 f2 ixD):=by
 with_unfolding_all exact (
  PE.imp (VL jcN ha hb hs) fun σ H Q=>by
   rintro ⟨G,H0,env,d,k,ef,q⟩;obtain ⟨a',e1,ef⟩:=jc ef;obtain ⟨b',e2,e3⟩:=jc ef;refine ⟨G,H0,env,a',k,e1,fun x H1 s1 r1 _=>⟨G,H0,env,b',k.grow s1,e2,fun y H2 s2 r2 _=>?_⟩⟩
   exact jdG (r1.grow s2) (r2.weak Lv.weak_b) e3 fun v r3=>q v H2 (s1.trans s2) r3 trivial)
@[irreducible] def DO (X:Cx) (e:Option Expr) (f:Sl->Res (Option Int)):Prop:=PO X e (fun σ H Q=> ∃G H0 env i,EnvOk X.K G H0 env σ H/\f env= .ok i/\ ∀H',Same H H'->Q i H')
theorem PO.imp {e:Option Expr} {t t':TO} (h:PO X e t) (w: ∀σ H Q,t' σ H Q->t σ H Q):PO X e t':=fun pins s σ H Q I q=>h pins s σ H Q I (w σ H Q q)
def qP:Sl->Res (Option Int):=fun _=> .ok none
def zq:DO X none qP:=by
 with_unfolding_all exact (PO.imp jav fun σ H Q=>by rintro ⟨G,H0,env,i,k,ef,q⟩;cases ef;exact q H (Same.refl H))
def asI:D->Res (Option Int)
 | .int i=> .ok (some i)
 |_=> .stuck
def jJ (f:TN):Sl->Res (Option Int):=fun env=>f env>>=asI
def jU (h:DE X l e f):DO X (some e) (jJ f):=by
 with_unfolding_all exact (PO.imp (jau h) fun σ H Q=>by
  rintro ⟨G,H0,env,i,k,ef,q⟩;obtain ⟨d,e1,e2⟩:=jc ef
  cases d with
  |int j=>cases e2;exact ⟨G,H0,env,.int j,k,e1,fun v H' s r _=>⟨j,r.intE,q H' s⟩⟩
  |_=>cases e2)
def cutD (ds:List D) (lo hi:Option Int):List D:=(ds.drop (HT.sIx ds.length 0 lo)).take (HT.sIx ds.length ds.length hi-HT.sIx ds.length 0 lo)
def kf {K:aaa} {A:Xl} {H:Hp} {xs:List V} {ds:List D} {lo hi:Option Int} (r:Reps K A H xs ds):Reps K A H (cutV xs lo hi) (cutD ds lo hi):=by
 unfold cutV cutD;rw [r.length];exact (r.drop _).take _
def jH (f:TN) (fl fh:Sl->Res (Option Int)) (g:D->Option Int->Option Int->Res D):Sl->Res D:=fun env=>f env>>=fun a=>fl env>>=fun lo=>fh env>>=fun hi=>g a lo hi
end
section
variable {K:aaa} {G:Xl} {H0 H H1 H':Hp} {env env':Sl} {σ σ':L2.St} {i:Nat} {d:D} {v:V}
def jp {α:Type} {l:List α} {i j:Nat} {x:α} (h:i≠j):(l.set i x)[j]?=l[j]?:=abP h
def jC {α:Type} {l:List α} {i:Nat} {x y:α} (h:(l.set i x)[i]?=some y):y=x/\i<l.length:=by
 have hl:i<l.length:=by
  have:=(aax.mp h).1;simpa using this
 rw [aa7 hl] at h;exact ⟨(aaF h).symm,hl⟩
def J7 {s:Slot} {a:Addr} (h:qQ (env.set i s) (σ.set i (some v)) a):qQ env σ a\/(∃d,s= .own d/\v= .ref a):=by
 obtain ⟨j,d,h1,h2⟩:=h
 by_cases e:i=j
 · subst e;obtain ⟨q1,_⟩:=jC h1;obtain ⟨q2,_⟩:=jC h2;exact .inr ⟨d,q1.symm,(aaF q2).symm⟩
 · rw [jp e] at h1 h2;exact .inl ⟨j,d,h1,h2⟩
def EnvOk.setS (k:EnvOk K G H0 env σ H) (r:Rep K (Sf G env σ) H v d):EnvOk K G H0 (env.set i (.shr d)) (σ.set i (some v)) H:=by
 have w: ∀a,Sf G env σ a->Sf G (env.set i (.shr d)) (σ.set i (some v)) a:=fun a n=>⟨fun o=>(by
   rcases J7 o with z| ⟨d',z,_⟩
   · exact n.1 z
   · cases z),n.2⟩
 refine ⟨by simp [k.len],k.base,k.g0,fun j e h=>?_,fun j e h=>?_,fun j j' e e' a h1 h2 h3 h4=>?_⟩
 · by_cases z:i=j
   · subst z;obtain ⟨q,hl⟩:=jC h;cases q;exact ⟨v,aa7 (by rw [k.len];exact hl),r.weak w⟩
   · rw [jp z] at h ⊢;obtain ⟨v',h1,h2⟩:=k.shr j e h;exact ⟨v',h1,h2.weak w⟩
 · by_cases z:i=j
   · subst z;obtain ⟨q,hl⟩:=jC h;cases q
   · rw [jp z] at h ⊢;obtain ⟨v',h1,h0,h2⟩:=k.own j e h;exact ⟨v',h1,h0,h2.stay (fun _ _ e _=>e) w fun _ e=>e⟩
 · have n1:i≠j:=fun z=>by subst z;obtain ⟨q,_⟩:=jC h1;cases q
   have n2:i≠j':=fun z=>by subst z;obtain ⟨q,_⟩:=jC h2;cases q
   rw [jp n1] at h1 h3;rw [jp n2] at h2 h4;exact k.dis j j' e e' a h1 h2 h3 h4
def ZC:D->Bool
 | .lst _=>true
 | .dic _ _=>true
 | .dit _ _=>true
 | .obj _ _ _=>true
 | .nst _=>true
 |_=>false
def Xt {A:Xl} (r:Rep K A H v d) (h:ZC d=true): ∃a,v= .ref a/\A a/\(∃o,H a=some o/\Mut (some o))/\Top K (fun c=>A c/\c≠a) H a d:=by
 cases r with
 |lst e a r=>exact ⟨_,rfl,a,⟨_,e,trivial⟩,.lst e r⟩
 |dic e a k1 k2 r=>exact ⟨_,rfl,a,⟨_,e,trivial⟩,.dic e k1 k2 r⟩
 |dit e a k1 k2 r=>exact ⟨_,rfl,a,⟨_,e,trivial⟩,.dit e k1 k2 r⟩
 |obj e a k1 k2 r=>exact ⟨_,rfl,a,⟨_,e,trivial⟩,.obj e k1 k2 r⟩
 |nst e a k1 k2 r=>exact ⟨_,rfl,a,⟨_,e,trivial⟩,.nst e k1 k2 r⟩
 |_=>cases h
def uE {a:Addr} (s:Same H H1) (nt:NewTop H (.ref a)) (h: ∃o,H1 a=some o/\Mut (some o)):H a=none:=by
 cases e:H a with
 |none=>rfl
 |some o=>
  obtain ⟨o',h1,h2⟩:=h;rw [s a o e] at h1;cases h1;exact (nt a rfl o e h2).elim
def EnvOk.setN (k:EnvOk K G H0 env σ H) (s:Same H H1) (r:Rep K (Sf G env σ) H1 v d) (nt:NewTop H v) (hd:ZC d=true):EnvOk K G H0 (env.set i (.own d)) (σ.set i (some v)) H1/\ ∃a,v= .ref a/\H a=none:=by
 obtain ⟨a,rfl,ga,mt,top⟩:=Xt r hd;have fa:=uE s nt mt;refine ⟨?_,a,rfl,fa⟩
 have w: ∀c,(Sf G env σ c/\c≠a)->Sf G (env.set i (.own d)) (σ.set i (some (V.ref a))) c:=fun c n=>⟨fun o=>(by
   rcases J7 o with z| ⟨d',z,z2⟩
   · exact n.1.1 z
   · cases z2;exact n.2 rfl),n.1.2⟩
 have w2: ∀c,(Sf G env σ c/\H c≠none)->Sf G (env.set i (.own d)) (σ.set i (some (V.ref a))) c:=fun c n=>w c ⟨n.1,fun e=>n.2 (by rw [e];exact fa)⟩
 have k1:=k.grow s;refine ⟨by simp [k.len],k1.base,k.g0,fun j e h=>?_,fun j e h=>?_,fun j j' e e' b h1 h2 h3 h4=>?_⟩
 · by_cases z:i=j
   · subst z;obtain ⟨q,hl⟩:=jC h;cases q
   · rw [jp z] at h ⊢;obtain ⟨v',h1,h2⟩:=k.shr j e h;exact ⟨v',h1,(h2.inDom.grow s).weak w2⟩
 · by_cases z:i=j
   · subst z;obtain ⟨q,hl⟩:=jC h;cases q;exact ⟨a,aa7 (by rw [k.len];exact hl),Same.free k.base fa,top.stay (fun _ _ e _=>e) w fun _ e=>e⟩
   · rw [jp z] at h ⊢;obtain ⟨v',h1,h0,h2⟩:=k.own j e h;refine ⟨v',h1,h0,?_⟩
     cases h2 with
     |lst e2 r2=>exact .lst (s _ _ e2) ((r2.inDom.grow s).weak w2)
     |dic e2 k2 k3 r2=>exact .dic (s _ _ e2) k2 k3 ((r2.inDom.grow s).weak w2)
     |dit e2 k2 k3 r2=>exact .dit (s _ _ e2) k2 k3 ((r2.inDom.grow s).weak w2)
     |obj e2 k2 k3 r2=>exact .obj (s _ _ e2) k2 k3 ((r2.inDom.grow s).weak w2)
     |nst e2 k2 k3 r2=>exact .nst (s _ _ e2) k2 k3 ((r2.inDom.grow s).weak w2)
 · have new: ∀(j:Nat) (e:D),env[j]?=some (.own e)->σ[j]?=some (some (.ref a))->False:=fun j e q1 q2=>by
     obtain ⟨u,q⟩:=k.there ⟨j,e,q1,q2⟩;rw [fa] at q;cases q
   by_cases z1:i=j
   · subst z1
     by_cases z2:i=j'
     · exact z2
     · rw [jp z2] at h2 h4;obtain ⟨q,_⟩:=jC h3;cases q;exact (new j' e' h2 h4).elim
   · rw [jp z1] at h1 h3
     by_cases z2:i=j'
     · subst z2;obtain ⟨q,_⟩:=jC h4;cases q;exact (new j e h1 h3).elim
     · rw [jp z2] at h2 h4;exact k.dis j j' e e' b h1 h2 h3 h4
def Frm.set {s:Slot} (sm:Same H H1) (fresh: ∀a d,s= .own d->v= .ref a->H a=none):Frm env σ H (env.set i s) (σ.set i (some v)) H1:=
 ⟨fun b o e _=>sm b o e,fun b o=>by
  rcases J7 o with z| ⟨d',z,z2⟩
  · exact .inl z
  · exact .inr (fresh b d' z z2),fun b e=>Same.free sm e⟩
def Frm.sf (f:Frm env σ H env' σ' H'): ∀a,(Sf G env σ a/\H a≠none)->Sf G env' σ' a:=fun a z=>⟨fun o=>(f.more a o).elim z.1.1 z.2,z.1.2⟩
def Frm.st (k:EnvOk K G H0 env σ H) (f:Frm env σ H env' σ' H'):Stay (fun a=>Sf G env σ a/\H a≠none) H H':=fun a o e m=>f.keep a o e fun ow=>(m (k.mutO ow e)).1.1 ow
def Frm.rep (k:EnvOk K G H0 env σ H) (f:Frm env σ H env' σ' H') (r:Rep K (Sf G env σ) H v d):Rep K (Sf G env' σ') H' v d:=r.inDom.stay (f.st k) f.sf
def Frm.reps (k:EnvOk K G H0 env σ H) (f:Frm env σ H env' σ' H') {vs:List V} {ds:List D} (r:Reps K (Sf G env σ) H vs ds):Reps K (Sf G env' σ') H' vs ds:=r.inDom.stay (f.st k) f.sf
end
def yD (d:D):Slot:=if ZC d=true then .own d else .shr d
def EnvOk.setNew {K:aaa} {G:Xl} {H0 H H1:Hp} {env:Sl} {σ:L2.St} {i:Nat} {d:D} {v:V} (k:EnvOk K G H0 env σ H) (s:Same H H1) (r:Rep K (Sf G env σ) H1 v d) (nt:NewTop H v):
   EnvOk K G H0 (env.set i (yD d)) (σ.set i (some v)) H1/\Frm env σ H (env.set i (yD d)) (σ.set i (some v)) H1:=by
 unfold yD
 by_cases h:ZC d=true
 · rw [if_pos h];obtain ⟨z,a',e',fa⟩:=k.setN s r nt h;refine ⟨z,.set s fun a d' _ e=>?_⟩;rw [e] at e';cases e';exact fa
 · rw [if_neg h];exact ⟨(k.grow s).setS r,.set s fun _ _ z _=>by cases z⟩
def nxO:Sl->Res Out:=fun env=> .ok (.nx env)
def ctO:Sl->Res Out:=fun env=> .ok (.ct env)
def augI (h:Int->Int->Int) (a b:D):Res D:=match a,b with
 | .int m,.int n=> .ok (.int (h m n))
 |_,_=> .stuck
def seqO (g1 g2:TL):Sl->Res Out:=fun env=>g1 env>>=fun o=>match o with
 | .nx env'=>g2 env'
 | .rt fr d=> .ok (.rt fr d)
 | .bk env'=> .ok (.bk env')
 | .ct env'=> .ok (.ct env')
section
variable {X:Cx} {e c tg:Expr} {st:Stmt} {rest body orelse:List Stmt} {pos:Pos} {l:Lv} {f:TN} {g g1 g2:TL}
def jT:DSs X [] nxO:=by
 with_unfolding_all exact (PSs.imp Zz fun E σ H=>by
  rintro ⟨G,H0,env,o,k,ef,q⟩;cases ef
  exact q σ H k (Frm.refl (Same.refl H)))
def yK {K:aaa} {G:Xl} {H0 H H':Hp} {env env':Sl} {σ σ':L2.St} {E:Ends} {o:Out} (f:Frm env σ H env' σ' H') (q:Post K G H0 env σ H E o):Post K G H0 env' σ' H' E o:=by
 cases o with
 |nx e=>exact fun σ2 H2 k2 f2=>q σ2 H2 k2 (f.trans f2)
 |bk e=>exact fun σ2 H2 k2 f2=>q σ2 H2 k2 (f.trans f2)
 |ct e=>exact fun σ2 H2 k2 f2=>q σ2 H2 k2 (f.trans f2)
 |rt fr d=>exact q
def jd (h1:DS X st g1) (h2:DSs X rest g2):DSs X (st::rest) (seqO g1 g2):=by
 with_unfolding_all exact (PSs.imp (zK h1 h2) fun E σ H=>by
  rintro ⟨G,H0,env,o,k,ef,q⟩;obtain ⟨o1,e1,e2⟩:=jc ef;refine ⟨G,H0,env,o1,k,e1,?_⟩
  cases o1 with
  |nx env1=>exact fun σ' H' k' f'=>⟨G,H0,env1,o,k',e2,yK f' q⟩
  |rt fr d=>cases e2;exact q
  |bk e'=>cases e2;exact q
  |ct e'=>cases e2;exact q)
def jq (h1:DS X st g1):DSs X [st] g1:=by
 with_unfolding_all exact (PSs.imp (J5 h1) fun E σ H q=>q)
def X0:DS X (.Continue pos) ctO:=by
 with_unfolding_all exact (PS.imp Xp fun E σ H=>by
  rintro ⟨G,H0,env,o,k,ef,q⟩;cases ef
  exact q σ H k (Frm.refl (Same.refl H)))
def retO (f:TN):Sl->Res Out:=fun env=>f env>>=fun d=> .ok (.rt true d)
def jS (h:DE X .t e f):DS X (.Return (some e) pos) (retO f):=by
 with_unfolding_all exact (PS.imp (Q0 h) fun E σ H=>by
  rintro ⟨G,H0,env,o,k,ef,q⟩;obtain ⟨d,e1,e2⟩:=jc ef;cases e2
  exact ⟨G,H0,env,d,k,e1,fun v H' s r nt=>q v H' (k.base.trans s) (r.weak fun a z=>z.2) fun _=>NewTop.grow k.base nt⟩)
def retS (f:TN):Sl->Res Out:=fun env=>f env>>=fun d=> .ok (.rt false d)
def Qx (h:DE X .s e f):DS X (.Return (some e) pos) (retS f):=by
 with_unfolding_all exact (PS.imp (Q0 h) fun E σ H=>by
  rintro ⟨G,H0,env,o,k,ef,q⟩;obtain ⟨d,e1,e2⟩:=jc ef;cases e2
  exact ⟨G,H0,env,d,k,e1,fun v H' s r nt=>q v H' (k.base.trans s) (r.weak fun a z=>z.2) fun z=>by cases z⟩)
def rdO (i:Nat):Sl->Res D:=fun env=>match env[i]? with
 |some (.own d)=> .ok d
 |some (.shr d)=>must (d.imm=true) (.ok d)
 |_=> .stuck
def UR (i:Nat) {x:Str} {p:Pos} (hN:X.N[i]?=some x:=by rfl) (hv:Vis X.env.scope x:=by first|exact aa6 rfl|exact aaI (aa6 rfl)|exact aaI (aaI rfl)) (hd:Zu x:=by decide)
    (hcd:Zt x:=by decide):DS X (.Return (some (.Name x p)) pos) (retO (rdO i)):=by
 with_unfolding_all exact (PS.imp (Q0 (qS hN hv hd hcd)) fun E σ H=>by
  rintro ⟨G,H0,env,o,k,ef,q⟩;obtain ⟨d,e1,e2⟩:=jc ef;cases e2;unfold rdO at e1
  split at e1
  · rename_i d' hs;cases e1;obtain ⟨a,h1,h0,h2⟩:=k.own i d hs;refine ⟨.ref a,h1,q _ H k.base (h2.rep (fun c z=>⟨z.2,Wz k hs h1 c z⟩) (k.g0 a h0)) fun _ b e o' q'=>?_⟩;cases e;rw [h0] at q';cases q'
  · rename_i d' hs;obtain ⟨hm,e3⟩:=jy e1;cases e3;obtain ⟨v,h1,h2⟩:=k.shr i d hs;exact ⟨v,h1,q v H k.base (h2.imm hm) fun _=>Uu k.base h2 hm⟩
  · cases e1)
def ifO (t:TM) (g1 g2:TL):Sl->Res Out:=fun env=>t env>>=fun b=>if b=true then g1 env else g2 env
def zr {t:TM} (hc:DT X c t) (h1:DSs X body g1) (h2:DSs X orelse g2):DS X (.If c body orelse pos) (ifO t g1 g2):=by
 with_unfolding_all exact (PS.imp (Xo hc h1 h2) fun E σ H=>by
  rintro ⟨G,H0,env,o,k,ef,q⟩;obtain ⟨b,e1,e2⟩:=jc ef;refine ⟨G,H0,env,b,k,e1,fun H' s=>?_⟩
  cases b with
  |true=>rw [if_pos rfl] at e2 ⊢;exact ⟨G,H0,env,o,k.grow s,e2,yK (Frm.refl s) q⟩
  |false=>rw [if_neg aaz] at e2 ⊢;exact ⟨G,H0,env,o,k.grow s,e2,yK (Frm.refl s) q⟩)
def setO (i:Nat) (f:TN):Sl->Res Out:=fun env=>f env>>=fun d=> .ok (.nx (env.set i (yD d)))
def yP (i:Nat) {x:Str} {pos':Pos} (hN:X.N.Nodup) (h:DE X .t e f) (hi:X.N[i]?=some x:=by rfl) (hx:Loc X.env.scope x:=by first|exact aa6 rfl|exact aaI rfl) (hs:abA e (some (.Name x pos')) pos.line X.env=pure false:=by rfl)
   (hf:Vy X x:=by first|exact .inl rfl|exact .inr rfl|assumption):DS X (.Assign [.Name x pos'] e pos) (setO i f):=by
 with_unfolding_all exact (
  PS.imp (JA hN hi hx h hs hf) fun E σ H=>by
   rintro ⟨G,H0,env,o,k,ef,q⟩;obtain ⟨d,e1,e2⟩:=jc ef;cases e2
   exact ⟨G,H0,env,d,k,e1,fun v H' s r nt=>q _ H' (k.setNew s r nt).1 (k.setNew s r nt).2⟩)
def jF (i:Nat) (f:TN):Sl->Res Out:=fun env=>f env>>=fun d=> .ok (.nx (env.set i (.shr d)))
def jG (i:Nat) {x:Str} {pos':Pos} (hN:X.N.Nodup) (h:DE X .s e f) (hi:X.N[i]?=some x:=by rfl) (hx:Loc X.env.scope x:=by first|exact aa6 rfl|exact aaI rfl) (hs:abA e (some (.Name x pos')) pos.line X.env=pure false:=by rfl)
   (hf:Vy X x:=by first|exact .inl rfl|exact .inr rfl|assumption):DS X (.Assign [.Name x pos'] e pos) (jF i f):=by
 with_unfolding_all exact (
  PS.imp (JA hN hi hx h hs hf) fun E σ H=>by
   rintro ⟨G,H0,env,o,k,ef,q⟩;obtain ⟨d,e1,e2⟩:=jc ef;cases e2
   exact ⟨G,H0,env,d,k,e1,fun v H' s r _=>q _ H' ((k.grow s).setS r) (.set s fun _ _ z _=>by cases z)⟩)
def uQ (i:Nat) {x:Str} {pos':Pos} {op:acv} {h:Int->Int->Int} (hN:X.N.Nodup) (he:DE X l e f) (ho:PIp X op (ipI h)) (hi:X.N[i]?=some x:=by rfl) (hx:Loc X.env.scope x:=by first|exact aa6 rfl|exact aaI rfl)
   (hf:Vy X x:=by first|exact .inl rfl|exact .inr rfl|assumption):
   DS X (.AugAssign (.Name x pos') op e pos) (jF i (two (rdS i) f (augI h))):=by
 with_unfolding_all exact (
  PS.imp (jch hN hi hx he ho hf) fun E σ H=>by
   rintro ⟨G,H0,env,o,k,ef,q⟩;obtain ⟨d,e1,e2⟩:=jc ef;obtain ⟨a,e3,e4⟩:=jc e1;obtain ⟨b,e5,e6⟩:=jc e4;cases e2;obtain ⟨v,h1,h2⟩:=k.shr i a (VD e3);refine ⟨v,h1,G,H0,env,b,k,e5,fun w H' s r _=>?_⟩
   cases a with
   |int m=>
    cases b with
    |int n=>
     cases e6;cases h2.intE;cases r.intE;exact ⟨m,n,rfl,rfl,q _ H' ((k.grow s).setS (.int _)) (.set s fun _ _ z _=>by cases z)⟩
    |_=>cases e6
   |_=>cases e6)
end
def Its (x:Str):It:=⟨fun i _=>i<x.cps.size,fun i H v H'=>H'=H/\ ∃c,x.cps[i]?=some c/\v= .str ⟨#[c]⟩,fun i _=>x.cps.size<=i⟩
def Kw {P:aaB} {w:World} {K:aaa} {tg:Expr} (it:Addr) (x:Str) (t:Tok):Turn P w K tg (Its x) [it] it (fun i h=>h.IsStrIter it "str_ascii_iterator" x t i) where
 mem:=by simp
 obj:=fun i h st b hb=>by
  have e:b=it:=by simpa using hb
  subst e;obtain ⟨o,e,c,d⟩:=st;exact ⟨o,e,fun v z=>by rw [d] at z;cases z⟩
 keep:=fun i h h' st k=>let ⟨o,ho,r⟩:=st;⟨o,k it (by simp) o ho,r⟩
 item:=by
  intro X hP hw hK hc i pins s σ H E I hf st hg;subst hP hw hK;have hi:i<x.cps.size:=hg;obtain ⟨f0,f1,f2,f3,f4,f5⟩:=hf it (by simp);refine wpAny_pyNext_ascii_item st (c:=x.cps[i]) (by simp [hi]) fun h' st' sb=>?_
  have I1:Inv X pins σ H {s with heap:=h',toks:=s.toks+1}:=I.turned (fun b o hb e=>(sb.2 b hb).trans e) f0 f1 f3 f4 f5;obtain ⟨o,e,c,d⟩:=id st';exact ⟨_,rfl,UC e c d (by decide) ⟨.str ⟨#[x.cps[i]]⟩,H,I1,⟨_,rfl⟩,⟨rfl,_,by simp [hi],rfl⟩,st',fun b hb=>(hf b hb).1⟩⟩
 done:=by
  intro X hP hw hK hc i pins s σ H E I hf st hg;subst hP hw hK;have hi:=hg;obtain ⟨f0,f1,f2,f3,f4,f5⟩:=hf it (by simp);exact wpAny_pyNext_ascii_end (I.ok.hd hc) st (by simp;exact hi) fun h' eb=>⟨rfl,I.turned (fun b o hb e=>eb b o hb e) f0 f1 f3 f4 f5⟩
 self:=fun _ _ _ _ _ st h=>wpAny_pyIter_striter_ascii st h
def Ve {P:aaB} {w:World} {K:aaa} {tg:Expr} (it:Addr) (x:Str) (t:Tok):Turn P w K tg (Its x) [it] it (fun i h=>h.IsStrIter it "str_iterator" x t i) where
 mem:=by simp
 obj:=fun i h st b hb=>by
  have e:b=it:=by simpa using hb
  subst e;obtain ⟨o,e,c,d⟩:=st;exact ⟨o,e,fun v z=>by rw [d] at z;cases z⟩
 keep:=fun i h h' st k=>let ⟨o,ho,r⟩:=st;⟨o,k it (by simp) o ho,r⟩
 item:=by
  intro X hP hw hK hc i pins s σ H E I hf st hg;subst hP hw hK;have hi:i<x.cps.size:=hg;obtain ⟨f0,f1,f2,f3,f4,f5⟩:=hf it (by simp);refine wpAny_pyNext_wide_item st (c:=x.cps[i]) (by simp [hi]) fun h' st' sb=>?_
  have I1:Inv X pins σ H {s with heap:=h',toks:=s.toks+1}:=I.turned (fun b o hb e=>(sb.2 b hb).trans e) f0 f1 f3 f4 f5;obtain ⟨o,e,c,d⟩:=id st';exact ⟨_,rfl,UC e c d (by decide) ⟨.str ⟨#[x.cps[i]]⟩,H,I1,⟨_,rfl⟩,⟨rfl,_,by simp [hi],rfl⟩,st',fun b hb=>(hf b hb).1⟩⟩
 done:=by
  intro X hP hw hK hc i pins s σ H E I hf st hg;subst hP hw hK;have hi:=hg;obtain ⟨f0,f1,f2,f3,f4,f5⟩:=hf it (by simp);exact wpAny_pyNext_wide_end (I.ok.hd hc) st (by simp;exact hi) fun h' eb=>⟨rfl,I.turned (fun b o hb e=>eb b o hb e) f0 f1 f3 f4 f5⟩
 self:=fun _ _ _ _ _ st h=>wpAny_pyIter_striter_wide st h
def Walk (J:It) (xs:List V) (P:Hp->Prop):Prop:= ∀i H,P H->(i<xs.length->J.go i H)/\(i<xs.length-> ∀x H',J.yld i H x H'->H'=H/\xs[i]?=some x)/\(xs.length<=i->J.stop i H)
def Yd (K:aaa) (A:Xl) (H1 H H':Hp) (x:V) (d:D):Prop:=
 (H'=H/\Rep K A H1 x d)\/ ∃p vs es,H p=none/\x= .ref p/\H'=L2.upd H p (.tup vs)/\d= .tup es/\Reps K A H1 vs es
def jbM (K:aaa) (A:Xl) (H1:Hp) (J:It) (ds:List D) (P:Hp->Prop):Prop:= ∀i H,P H->(i<ds.length->J.go i H)/\(∀d,ds[i]?=some d-> ∀x H',J.yld i H x H'->Yd K A H1 H H' x d)/\(ds.length<=i->J.stop i H)
def Walk.toD {K:aaa} {A:Xl} {H1:Hp} {J:It} {xs:List V} {ds:List D} {P:Hp->Prop} (rs:Reps K A H1 xs ds) (w:Walk J xs P):jbM K A H1 J ds P:=fun i H p=>by
 have hl:=rs.length;obtain ⟨w1,w2,w3⟩:=w i H p;refine ⟨fun h=>w1 (by omega),fun d hd x H' y=>?_,fun h=>w3 (by omega)⟩;have hi:=(aax.mp hd).1;obtain ⟨e,hx⟩:=w2 (by omega) x H' y;obtain ⟨d',hd',r⟩:=rs.get' hx;rw [hd] at hd';cases hd';exact .inl ⟨e,r⟩
def tI (K:aaa) (f:TK):TI:=fun σ H R=> ∃G H0 env ds,EnvOk K G H0 env σ H/\f env= .ok ds/\
 ∀J H1 P,Same H H1->jbM K (Sf G env σ) H1 J ds P->P H1->(∀env' σ' H',Frm env σ H1 env' σ' H'->P H')->R J H1
@[irreducible] def DI (X:Cx) (tg e:Expr) (f:TK):Prop:=PI X tg e (tI X.K f)
def QG (z:Str):List D:=z.cps.toList.map fun c=> .str ⟨#[c]⟩
def vH:D->Res (List D)
 | .lst ds=> .ok ds
 | .scr ds=> .ok ds
 | .tup ds=> .ok ds
 | .str z=> .ok (QG z)
 |_=> .stuck
def Ky (z:Str):List V:=z.cps.toList.map fun c=> .str ⟨#[c]⟩
def Vu {K:aaa} {A:Xl} {H:Hp} (z:Str):Reps K A H (Ky z) (QG z):=by
 unfold Ky QG;generalize z.cps.toList=l
 induction l with
 |nil=>exact .nil
 |cons c r ih=>exact .cons (.str _ (jaF c)) ih
section
variable {X:Cx} {tg e:Expr} {f:TN} {l:Lv}
def itF (f:TN):Sl->Res (List D):=fun env=>f env>>=vH
def WZ (h:DE X .s e f):DI X tg e (itF f):=by
 with_unfolding_all exact (by
  rintro pins s σ H R I ⟨G,H0,env,ds,k,ef,q⟩;obtain ⟨d,e1,e2⟩:=jc ef;refine thn (h pins s σ H (fun v H1=>Same H H1/\Rep X.K (Sf G env σ) H1 v d) I ⟨G,H0,env,d,k,e1,fun v H' s r _=>⟨s,r⟩⟩) fun v s1 ⟨x,H1,I1,r1,sm,rep⟩=>?_
  have k1:=k.grow sm
  cases d with
  |lst ds'=>
   cases e2;obtain ⟨a,xs,rfl,ha,na,rs⟩:=rep.lstE;cases r1;obtain ⟨its,rv,p,hz⟩:=I1.list (.of ha);refine wpAny_pyIter_list p.isList ?_;refine ⟨s1.heap.objs.size,[s1.heap.objs.size],_,_,H1,rfl,I1.kept fun b o e=>aak _ e,Wn a _,⟨_,aaG _ rfl,rfl,rfl⟩,fun b hb=>?_,?_⟩
   · have e:b=s1.heap.objs.size:=by simpa using hb
     subst e;exact I1.fpOk (aas _) (I1.hok.fresh (aas _))
   · refine q _ H1 (fun H=>H a=some (.lst xs)) sm (Walk.toD rs.low fun i H' p=>?_) ha (fun env' σ' H' fr=>fr.keep a _ ha na.1);exact ⟨fun hi=>⟨xs,xs[i],.of p,by simp [hi]⟩,fun _ x H' y=>⟨y.1,y.2 xs (.of p)⟩,fun hi=>⟨xs,.of p,hi⟩⟩
  |scr ds'=>
   cases e2;obtain ⟨a,xs,rfl,ha,rs⟩:=rep.scrE;cases r1;obtain ⟨its,rv,p,hz⟩:=I1.list ha.sql;refine wpAny_pyIter_list p.isList ?_;refine ⟨s1.heap.objs.size,[s1.heap.objs.size],_,_,H1,rfl,I1.kept fun b o e=>aak _ e,Wn a _,⟨_,aaG _ rfl,rfl,rfl⟩,fun b hb=>?_,?_⟩
   · have e:b=s1.heap.objs.size:=by simpa using hb
     subst e;exact I1.fpOk (aas _) (I1.hok.fresh (aas _))
   · refine q _ H1 (fun H=>LsK X.K H a xs) sm (Walk.toD rs fun i H' p=>?_) ha (fun env' σ' H' fr=>?_)
     · exact ⟨fun hi=>⟨xs,xs[i],p.sql,by simp [hi]⟩,fun _ x H' y=>⟨y.1,y.2 xs p.sql⟩,fun hi=>⟨xs,p.sql,hi⟩⟩
     · rcases ha with ⟨o,eo⟩|z
       · exact .inl ⟨o,fr.keep a _ eo fun ow=>(k1.mutO ow eo).elim⟩
       · exact .inr z
  |tup ds'=>
   cases e2;obtain ⟨a,xs,rfl,ha,rs⟩:=rep.tupE;cases r1;obtain ⟨its,rv,p,hz⟩:=I1.tuple (.of ha);refine wpAny_pyIter_tuple (show s1.heap.IsTuple a its.toArray from p) ?_;refine ⟨s1.heap.objs.size,[s1.heap.objs.size],_,_,H1,rfl,I1.kept fun b o e=>aak _ e,Ku a _,⟨_,aaG _ rfl,rfl,rfl⟩,fun b hb=>?_,?_⟩
   · have e:b=s1.heap.objs.size:=by simpa using hb
     subst e;exact I1.fpOk (aas _) (I1.hok.fresh (aas _))
   · refine q _ H1 (fun H=>H a=some (.tup xs)) sm (Walk.toD rs fun i H' p=>?_) ha (fun env' σ' H' fr=>fr.keep a _ ha fun ow=>(k1.mutO ow ha).elim);exact ⟨fun hi=>⟨xs,xs[i],.of p,by simp [hi]⟩,fun _ x H' y=>⟨y.1,y.2 xs (.of p)⟩,fun hi=>⟨xs,.of p,hi⟩⟩
  |str z=>
   cases e2;obtain ⟨rfl,hz⟩:=rep.strE;obtain ⟨t,rfl⟩:=r1
   have fin: ∀(J:It),J=Its z-> ∃(xs:List V) (P:Hp->Prop),Reps X.K (Sf G env σ) H1 xs (QG z)/\Walk J xs P/\P H1/\ ∀env' σ' H',Frm env σ H1 env' σ' H'->P H':=by
     rintro J rfl;refine ⟨Ky z,fun _=>True,Vu z,fun i H' _=>?_,trivial,fun _ _ _ _=>trivial⟩;have hl:(Ky z).length=z.cps.size:=by simp [Ky]
     refine ⟨fun hi=>by rw [hl] at hi;exact hi,fun hi x H2 y=>?_,fun hi=>by rw [hl] at hi;exact hi⟩;obtain ⟨y1,c,y2,y3⟩:=y;refine ⟨y1,?_⟩;subst y3;simp [Ky,y2]
   obtain ⟨xs,P,h1,h2,h3,h4⟩:=fin (Its z) rfl
   cases hall:z.cps.all (· <128) with
   |true=>
     refine wpAny_pyIter_ascii hall ?_;refine ⟨s1.heap.objs.size,[s1.heap.objs.size],_,_,H1,rfl,I1.kept fun b o e=>aak _ e,Kw _ z t,⟨_,aaG _ rfl,rfl,rfl⟩,fun b hb=>?_,q _ H1 P sm (Walk.toD h1 h2) h3 h4⟩;have e:b=s1.heap.objs.size:=by simpa using hb
     subst e;exact I1.fpOk (aas _) (I1.hok.fresh (aas _))
   |false=>
     refine wpAny_pyIter_wide hall ?_;refine ⟨s1.heap.objs.size,[s1.heap.objs.size],_,_,H1,rfl,I1.kept fun b o e=>aak _ e,Ve _ z t,⟨_,aaG _ rfl,rfl,rfl⟩,fun b hb=>?_,q _ H1 P sm (Walk.toD h1 h2) h3 h4⟩;have e:b=s1.heap.objs.size:=by simpa using hb
     subst e;exact I1.fpOk (aas _) (I1.hok.fresh (aas _))
  |_=>cases e2)
def wQ (lo:Int) (n:Nat):List D:=(abu n).map fun (i:Nat)=> .int (lo+(i:Int))
def KL (lo:Int) (n:Nat):List V:=(abu n).map fun (i:Nat)=> .int (lo+(i:Int))
def Ut {K:aaa} {A:Xl} {H:Hp} (lo:Int) (n:Nat):Reps K A H (KL lo n) (wQ lo n):=by
 unfold KL wQ;generalize abu n=l
 induction l with
 |nil=>exact .nil
 |cons c r ih=>exact .cons (.int _) ih
def Kt (lo:Int) (n:Nat):Walk (Itr lo n) (KL lo n) (fun _=>True):=fun i H _=>by
 have hl:(KL lo n).length=n:=by simp [KL]
 refine ⟨fun hi=>by rw [hl] at hi;exact hi,fun hi x H2 y=>?_,fun hi=>by rw [hl] at hi;exact hi⟩;obtain ⟨y1,y2⟩:=y;refine ⟨y1,?_⟩;subst y2;rw [hl] at hi;simp [KL,hi]
def rng1:List D->Res (List D)
 | [.int j]=>must (-(2^62)<=j/\j<2^62) (.ok (wQ 0 j.toNat))
 |_=> .stuck
def Reps.one {K:aaa} {A:Xl} {H:Hp} {vs:List V} {d:D} (r:Reps K A H vs [d]): ∃v,vs=[v]/\Rep K A H v d:=by
 cases r with
 |cons h t=>cases t;exact ⟨_,rfl,h⟩
def Reps.two {K:aaa} {A:Xl} {H:Hp} {vs:List V} {d d':D} (r:Reps K A H vs [d,d']): ∃v v',vs=[v,v']/\Rep K A H v d/\Rep K A H v' d':=by
 cases r with
 |cons h t=>
  obtain ⟨v',rfl,h'⟩:=t.one;exact ⟨_,_,rfl,h,h'⟩
def PI.imp {t t':TI} (h:PI X tg e t) (w: ∀σ H Q,t' σ H Q->t σ H Q):PI X tg e t':=fun pins s σ H Q I q=>h pins s σ H Q I (w σ H Q q)
def rngF (fa:TK):Sl->Res (List D):=fun env=>fa env>>=rng1
def yQ {a:Expr} {p pos:Pos} {fa:TK} (hg:Gl X "range") (hm:X.mg "range" =none) (ha:DA X l [a] fa) (hs:aac [a] X.env=[(false,eval a X.env)]:=by rfl):DI X tg (.Call (.Name "range" p) [a] [] pos) (rngF fa):=by
 with_unfolding_all exact (
  PI.imp (VI hg hm ha hs) fun σ H R=>by
   rintro ⟨G,H0,env,ds,k,ef,q⟩;obtain ⟨as,e1,e2⟩:=jc ef;refine ⟨G,H0,env,as,k,e1,fun vs H1 s1 r1=>?_⟩;unfold rng1 at e2
   split at e2
   · obtain ⟨⟨h1,h2⟩,e3⟩:=jy e2;cases e3;obtain ⟨v,rfl,r⟩:=r1.one;cases r.intE;exact ⟨_,rfl,h1,h2,q _ H1 _ s1 (Walk.toD (Ut 0 _) (Kt 0 _)) trivial fun _ _ _ _=>trivial⟩
   · cases e2)
def tG (K:aaa) (t:TH):TG:=fun v σ H Q=> ∃G H0 env d env',EnvOk K G H0 env σ H/\Rep K (Sf G env σ) H v d/\t d env= .ok env'/\ ∀σ',EnvOk K G H0 env' σ' H->Frm env σ H env' σ' H->Q σ' H
@[irreducible] def DG (X:Cx) (tg:Expr) (t:TH):Prop:=PG X tg (tG X.K t)
theorem PG.imp {t t':TG} (h:PG X tg t) (w: ∀v σ H Q,t' v σ H Q->t v σ H Q):PG X tg t':=fun pins s σ H v u Q I r q=>h pins s σ H v u Q I r (w v σ H Q q)
def gN (i:Nat):D->Sl->Res Sl:=fun d env=> .ok (env.set i (.shr d))
def zx (i:Nat) {x:Str} {pos:Pos} (hN:X.N.Nodup) (hi:X.N[i]?=some x:=by rfl) (hx:Loc X.env.scope x:=by first|exact aa6 rfl|exact aaI rfl)
   (hf:Vy X x:=by first|exact .inl rfl|exact .inr rfl|assumption):DG X (.Name x pos) (gN i):=by
 with_unfolding_all exact (
  PG.imp (VJ hN hi hx hf) fun v σ H Q=>by
   rintro ⟨G,H0,env,d,env',k,r,e,q⟩;cases e
   exact q _ (k.setS r) (.set (Same.refl H) fun _ _ z _=>by cases z))
def g2 (t u:TH):D->Sl->Res Sl:=fun d env=>match d with
 | .tup [x,y]=>t x env>>=fun env'=>u y env'
 |_=> .stuck
def uT {a b:Expr} {k:Nat} {pos:Pos} {t u:TH} (hc:X.calm=true) (h1:DG X a t) (h2:DG X b u)
   (hs:(abE [a,b] X.env).map (·.2)=assign a X.env::(abE [b] X.env).map (·.2):=by rfl) (hs2:(abE [b] X.env).map (·.2)=assign b X.env::(abE [] X.env).map (·.2):=by rfl)
   (hn:(abE [a,b] X.env).length=2:=by rfl) (hst:(abE [a,b] X.env).findIdx? (·.1)=none:=by rfl):DG X (.Tuple [a,b] k pos) (g2 t u):=by
 with_unfolding_all exact (
  PG.imp (jci hc (Yx h1 (Yx h2 jay hs2) hs) hn hst) fun v σ H Q=>by
   rintro ⟨G,H0,env,d,env',k,r,e,q⟩;unfold g2 at e
   split at e
   · obtain ⟨env1,e1,e2⟩:=jc e;obtain ⟨a,xs,rfl,ha,rs⟩:=r.tupE;obtain ⟨v1,v2,rfl,r1,r2⟩:=rs.two;refine ⟨a,_,rfl,.of ha,rfl,v1,[v2],rfl,G,H0,env,_,env1,k,r1,e1,fun σ1 k1 f1=>⟨v2,[],rfl,G,H0,env1,_,env',k1,f1.rep k r2,e2,fun σ2 k2 f2=>⟨rfl,q σ2 k2 (f1.trans f2)⟩⟩⟩
   · cases e)
def asgO (f:TN) (t:TH):Sl->Res Out:=fun env=>f env>>=fun d=>t d env>>=fun env'=> .ok (.nx env')
def uR {pos:Pos} {t:TH} (he:DE X .s e f) (hg:DG X tg t) (hs:swapsWithSole [tg] e pos.line X.env=pure false:=by rfl) (hw:swappedStores [tg] e X.env=pure none:=by rfl)
   (h1:(abE [tg] X.env).map (·.2)=[assign tg X.env]:=by rfl):DS X (.Assign [tg] e pos) (asgO f t):=by
 with_unfolding_all exact (
  PS.imp (uz he hg hs hw h1) fun E σ H=>by
   rintro ⟨G,H0,env,o,k,ef,q⟩;obtain ⟨d,e1,e2⟩:=jc ef;obtain ⟨env',e3,e4⟩:=jc e2;cases e4
   exact ⟨G,H0,env,d,k,e1,fun v H' s r _=>⟨G,H0,env,d,env',k.grow s,r,e3,fun σ' k' f'=>q σ' H' k' (f'.grow s)⟩⟩)
def forD (body:D->Sl->Res Out):List D->Sl->Res Out
 | [],env=> .ok (.nx env)
 |d::ds,env=>body d env>>=fun o=>match o with
  | .nx env'=>forD body ds env'
  | .ct env'=>forD body ds env'
  | .bk env'=> .ok (.nx env')
  | .rt fr d=> .ok (.rt fr d)
def yj (t:TH) (g:TL):D->Sl->Res Out:=fun d env=>t d env>>=g
def forO (f:TK) (t:TH) (g:TL):Sl->Res Out:=fun env=>f env>>=fun ds=>forD (yj t g) ds env
def Qy {pos:Pos} {body:List Stmt} {fi:TK} {t:TH} {g:TL} (hp:PassesOwn (model X.prog X.w) X.A X.env X.xe) (hc:X.calm=true) (hi:DI X tg e fi) (hg:DG X tg t) (hb:DSs X body g)
   (hs: ∀x,acs e X.env x=pure x:=by intro _;rfl):DS X (.For tg e body [] pos) (forO fi t g):=by
 with_unfolding_all exact (
  PS.imp (jcf hp hc hi hg hb hs) fun E σ H=>by
   rintro ⟨G,H0,env,o,k,ef,q⟩;obtain ⟨ds,e1,e2⟩:=jc ef;refine ⟨G,H0,env,ds,k,e1,fun J H1 P sm wk p0 pst=>?_⟩;have k1:=k.grow sm;have q1:=yK (Frm.refl sm) q;refine ⟨fun i m σ' H'=>m=ds.length-i/\i<=ds.length/\ ∃env',EnvOk X.K G H0 env' σ' H'/\Frm env σ H1 env' σ' H'/\forD (yj t g) (ds.drop i) env'= .ok o,⟨ds.length,by simp,acL _,env,k1,Frm.refl (Same.refl H1),by simpa using e2⟩,?_⟩;rintro i m σ' H' ⟨rfl,hi,env',k',f',e'⟩;obtain ⟨w1,w2,w3⟩:=wk i H' (pst env' σ' H' f')
   by_cases hd:i<ds.length
   · refine .inr ⟨w1 hd,?_⟩;rw [List.drop_eq_getElem_cons hd] at e';obtain ⟨o1,e3,e4⟩:=jc e';obtain ⟨env1,e5,e6⟩:=jc e3;refine ⟨fun σ2 H2=>ds.length-(i+1)=ds.length-(i+1)/\i+1<=ds.length/\ ∃env2,EnvOk X.K G H0 env2 σ2 H2/\Frm env σ H1 env2 σ2 H2/\forD (yj t g) (ds.drop (i+1)) env2= .ok o,fun σ2 H2 z=>⟨ds.length-(i+1),by omega,z⟩,fun x H2 y=>?_⟩
     obtain ⟨sm2,rd⟩:Same H' H2/\Rep X.K (Sf G env' σ') H2 x ds[i]:=by
      rcases w2 _ (aao hd) x H2 y with ⟨rfl,rd⟩| ⟨p,vs,es,hp,rfl,rfl,ed,rds⟩
      · exact ⟨Same.refl _,f'.rep k1 rd⟩
      · refine ⟨Same.upd hp,?_⟩;rw [ed];exact .tup jo ((f'.reps k1 rds).grow (Same.upd hp))
     refine ⟨G,H0,env',ds[i],env1,k'.grow sm2,rd,e5,fun σ1 kk1 ff1=>⟨G,H0,env1,o1,kk1,e6,?_⟩⟩;have fr1:=(f'.trans (Frm.refl sm2)).trans ff1
     cases o1 with
     |nx env2=>exact fun σ2 H3 kk2 ff2=>⟨rfl,hd,env2,kk2,fr1.trans ff2,e4⟩
     |ct env2=>exact fun σ2 H3 kk2 ff2=>⟨rfl,hd,env2,kk2,fr1.trans ff2,e4⟩
     |bk env2=>cases e4;exact fun σ2 H3 kk2 ff2=>q1 σ2 H3 kk2 (fr1.trans ff2)
     |rt fr dd=>cases e4;exact q1
   · have he:i=ds.length:=by omega
     refine .inl ⟨w3 (by omega),?_⟩;rw [acr (by omega)] at e';cases e'
     exact q1 σ' H' k' f')
def qB (n:Nat) (t:TM) (g:TL):Sl->Res Out:=fun env=>match n with
 |0=> .stuck
 |n+1=>t env>>=fun b=>if b=true then g env>>=fun o=>match o with
   | .nx env'=>qB n t g env'
   | .ct env'=>qB n t g env'
   | .bk env'=> .ok (.nx env')
   | .rt fr d=> .ok (.rt fr d)
  else .ok (.nx env)
def Z6 (n:Nat) {pos:Pos} {c:Expr} {body:List Stmt} {t:TM} {g:TL} (hp:PassesOwn (model X.prog X.w) X.A X.env X.xe) (hc:DT X c t) (hb:DSs X body g):DS X (.While c body [] pos) (qB n t g):=by
 with_unfolding_all exact (
  PS.imp (ZA hp hc hb) fun E σ H=>by
   rintro ⟨G,H0,env,o,k,ef,q⟩;refine ⟨fun m σ' H'=> ∃env',EnvOk X.K G H0 env' σ' H'/\Frm env σ H env' σ' H'/\qB m t g env'= .ok o,⟨n,env,k,Frm.refl (Same.refl H),ef⟩,?_⟩;rintro m σ' H' ⟨env',k',f',e'⟩
   cases m with
   |zero=>cases e'
   |succ m=>
    obtain ⟨b,e1,e2⟩:=jc e';refine ⟨G,H0,env',b,k',e1,fun H1 s1=>?_⟩
    cases b with
    |false=>
     rw [if_neg aaz] at e2 ⊢;cases e2;exact q σ' H1 (k'.grow s1) (f'.trans (Frm.refl s1))
    |true=>
     rw [if_pos rfl] at e2 ⊢;obtain ⟨o1,e3,e4⟩:=jc e2;refine ⟨fun σ2 H2=> ∃env2,EnvOk X.K G H0 env2 σ2 H2/\Frm env σ H env2 σ2 H2/\qB m t g env2= .ok o,fun σ2 H2 z=>⟨m,ace m,z⟩,G,H0,env',o1,k'.grow s1,e3,?_⟩;have fr1:=f'.trans (Frm.refl s1)
     cases o1 with
     |nx env2=>exact fun σ2 H3 kk2 ff2=>⟨env2,kk2,fr1.trans ff2,e4⟩
     |ct env2=>exact fun σ2 H3 kk2 ff2=>⟨env2,kk2,fr1.trans ff2,e4⟩
     |bk env2=>cases e4;exact fun σ2 H3 kk2 ff2=>q σ2 H3 kk2 (fr1.trans ff2)
     |rt fr dd=>cases e4;exact q)
end
def frz (i:Nat) (env:Sl):Sl:=match env[i]? with
 |some (.own d)=>env.set i (.shr d)
 |_=>env
def Wy {i:Nat} {env:Sl} {σ:L2.St} {a:Addr} (h:qQ (frz i env) σ a):qQ env σ a:=by
 unfold frz at h
 split at h
 · rename_i d hd;obtain ⟨j,e,h1,h2⟩:=h
   by_cases z:i=j
   · subst z;obtain ⟨q,_⟩:=jC h1;cases q
   · rw [jp z] at h1;exact ⟨j,e,h1,h2⟩
 · exact h
def EnvOk.frz {K : aaa} {G : Addr -> Prop} {H0 H : Hp} {env : Sl} {σ : L2.St} (i : Nat) (k : EnvOk K G H0 env σ H) : EnvOk K G H0 (frz i env) σ H := by
  have w : ∀ a, Sf G env σ a -> Sf G (M.frz i env) σ a := fun a n => ⟨fun o => n.1 (Wy o), n.2⟩
  cases hi : env[i]? with
  | none => have e : M.frz i env = env := by unfold M.frz; rw [hi]
            rw [e]; exact k
  | some s =>
    cases s with
    | un => have e : M.frz i env = env := by unfold M.frz; rw [hi]
            rw [e]; exact k
    | shr d => have e : M.frz i env = env := by unfold M.frz; rw [hi]
               rw [e]; exact k
    | own d =>
      have e : M.frz i env = env.set i (.shr d) := by unfold M.frz; rw [hi]
      obtain ⟨a, h1, h0, h2⟩ := k.own i d hi
      have na : NotO (M.frz i env) σ a := by
        rintro ⟨j, d', q1, q2⟩
        rw [e] at q1
        by_cases z : i = j
        · subst z
          obtain ⟨q, _⟩ := jC q1
          cases q
        · rw [jp z] at q1
          exact z (k.dis i j d d' a hi q1 h1 q2)
      rw [e] at w na ⊢
      refine ⟨by simp [k.len], k.base, k.g0, fun j d' h => ?_, fun j d' h => ?_, fun j j' d1 d2 b q1 q2 q3 q4 => ?_⟩
      · by_cases z : i = j
        · subst z
          obtain ⟨q, hl⟩ := jC h
          cases q
          exact ⟨_, h1, h2.rep (fun c z => ⟨w c z, Wz k hi h1 c z⟩) ⟨na, k.g0 a h0⟩⟩
        · rw [jp z] at h
          obtain ⟨v', g1, g2⟩ := k.shr j d' h
          exact ⟨v', g1, g2.weak w⟩
      · by_cases z : i = j
        · subst z
          obtain ⟨q, hl⟩ := jC h
          cases q
        · rw [jp z] at h
          obtain ⟨v', g1, g0, g2⟩ := k.own j d' h
          exact ⟨v', g1, g0, g2.stay (fun _ _ e _ => e) w fun _ e => e⟩
      · have n1 : i ≠ j := fun z => by subst z; obtain ⟨q, _⟩ := jC q1; cases q
        have n2 : i ≠ j' := fun z => by subst z; obtain ⟨q, _⟩ := jC q2; cases q
        rw [jp n1] at q1
        rw [jp n2] at q2
        exact k.dis j j' d1 d2 b q1 q2 q3 q4
def frzO (i:Nat) (g:TL):Sl->Res Out:=fun env=>g (frz i env)
def UT (i:Nat) {X:Cx} {st:Stmt} {g:TL} (h:DS X st g):DS X st (frzO i g):=by
 with_unfolding_all exact (PS.imp h fun E σ H=>by
  rintro ⟨G,H0,env,o,k,ef,q⟩;refine ⟨G,H0,frz i env,o,k.frz i,ef,?_⟩;have f:Frm env σ H (frz i env) σ H:=⟨fun _ _ e _=>e,fun b o=> .inl (Wy o),fun _ e=>e⟩
  exact yK f q)
end M
namespace PySem.AutoSeq1
open PySem Builtin
def list_extend_tupleG (l:Addr) (items:Array Value) (n:Nat) (b:Addr) (items2:Array Value) (n2:Nat) (dd:Option Addr) (sl:Array (Option Value)) (hs0: ¬(!items.isEmpty&&abn (items.size+items2.size))=true) (hs1:items.size<=aae) (hs2:items.size+items2.size<=aae+1):
  Meets (Builtin.«list.extend» ⟨[.ref l,.ref b],[]⟩) (fun _ R s=>s.heap.get? l=some {cls:= .type "list",dict:=none,data:= .seq items n,slots:= #[]}/\s.heap.get? b=some {cls:= .type "tuple",dict:=dd,data:= .seq items2 n2,slots:=sl}/\R (.ok (.ret adn)) {s with heap:=s.heap.update l (Obj.mapSeq fun x=>x++items2),toks:=s.toks}):=
 .of_wp fun prog w A R s h=>by
  obtain ⟨hp,g,d,tk,os⟩:=s;obtain ⟨hl,hb,h⟩:=h;have f1:=idx_int;have f2:=sub_tuple_tuple;have f3:=sub_list_list;have f4:=sub_tuple_list;have f5:=sub_list_tuple;
  have hz':(items++items2).size<=aae+1:=by rw [Array.size_append];exact hs2
  wp_walk using (wpAny_updateSeq hl rfl),wpAny_loadPart' hl,wpAny_loadPart' hb;exact ⟨_,rfl,h⟩
end PySem.AutoSeq1
namespace M
open PySem PySem.Spec L2
open PyProof.Rows hiding St
theorem imms_iff: ∀ {ds:List D},D.imms ds=true↔ ∀d∈ds,d.imm=true
 | []=>by simp [D.imms]
 |d::ds=>by simp [D.imms,imms_iff]
section
variable {X:Cx}
def vg:V->List V->Hp->VK->Prop:=fun x vs H Q=> ∃l b xs zs,x= .ref l/\vs=[.ref b]/\H l=some (.lst xs)/\H b=some (.tup zs)/\xs.length+zs.length<=aae/\Q .non (upd H l (.lst (xs++zs)))
def KH:MtM X "list.extend" vg:=by
 intro pins s σ H x vs v us Q I rx rv h;obtain ⟨l,b,xs,zs,rfl,rfl,hH,hB,hz,q⟩:=h;cases rx;obtain ⟨u,rfl,ru⟩:=rv.one;cases ru;obtain ⟨z,its,n,r,hl,e⟩:=I.lstM hH;obtain ⟨its2,r2,⟨ob,e2,hc,n2,hd⟩,z2⟩:=I.tuple (.of hB);have hl2:=r2.length;obtain ⟨c2,dd2,dt2,sl2⟩:=ob;have hc':=hc;have hd':=hd;subst hc' hd';have hsz:its.toArray.size+its2.toArray.size<=aae:=by rw [aag,aag];omega
 have hlong: ¬(!its.toArray.isEmpty&&abn (its.toArray.size+its2.toArray.size))=true:=by
  rw [ZK hsz,Bool.and_false];exact aaz
 refine ac7 acE ⟨_,e,rfl⟩ F.entry_list_extend (F.args_list_extend_2 _ _)
  (AutoSeq1.list_extend_tupleG l its.toArray n b its2.toArray n2 dd2 sl2 hlong (by rw [aag];omega) (by omega)) ⟨e,e2,?_⟩
 refine ⟨.non,_,I.lset hH e (by simp) (r.append r2) ?_,rfl,q⟩;rw [aai];omega
def Jf {env:Sl} {σ:L2.St} {i:Nat} {d d':D} {a:Addr} (hi:env[i]?=some (.own d)):qQ (env.set i (.own d')) σ a↔qQ env σ a:=by
 have hl:=(aax.mp hi).1
 constructor
 · rintro ⟨j,e,h1,h2⟩
   by_cases z:i=j
   · subst z;exact ⟨i,d,hi,h2⟩
   · rw [jp z] at h1;exact ⟨j,e,h1,h2⟩
 · rintro ⟨j,e,h1,h2⟩
   by_cases z:i=j
   · subst z;exact ⟨i,d',aa7 hl,h2⟩
   · exact ⟨j,e,by rw [jp z];exact h1,h2⟩
def EnvOk.writeG {K:aaa} {G:Xl} {H0 H:Hp} {env:Sl} {σ:L2.St} {i:Nat} {d0 d':D} {a:Addr} {o0 o':HO} (k:EnvOk K G H0 env σ H) (hi:env[i]?=some (.own d0)) (ha:σ[i]?=some (some (.ref a))) (hx:H a=some o0) (hm:Mut (some o0))
   (top: ∀(A':Xl) (H':Hp),Stay (Sf G env σ) H H'->H' a=some o'->(∀b,Sf G env σ b->A' b)->Top K A' H' a d'):EnvOk K G H0 (env.set i (.own d')) σ (upd H a o')/\Frm env σ H (env.set i (.own d')) σ (upd H a o'):=by
 have hl:=(aax.mp hi).1;have ow:qQ env σ a:=⟨i,_,hi,ha⟩
 have st:Stay (Sf G env σ) H (upd H a o'):=fun c o e m=>by
   rw [jr ?_]
   · exact e
   · rintro rfl;rw [hx] at e;cases e;exact (m hm).1 ow
 have w: ∀c,Sf G env σ c->Sf G (env.set i (.own d')) σ c:=fun c n=>⟨fun o=>n.1 ((Jf hi).mp o),n.2⟩
 refine ⟨⟨by simp [k.len],fun c o e=>?_,k.g0,fun j d1 h=>?_,fun j d1 h=>?_,fun j j' d1 d2 b q1 q2 q3 q4=>?_⟩,⟨fun c o e n=>?_,fun c o=> .inl ((Jf hi).mp o),fun c e=>?_⟩⟩
 · have hc:c≠a:=by
     rintro rfl;obtain ⟨b,h1,h0,_⟩:=k.own i _ hi;rw [ha] at h1;cases h1;rw [h0] at e;cases e
   rw [jr hc];exact k.base c o e
 · by_cases z:i=j
   · subst z;obtain ⟨q,_⟩:=jC h;cases q
   · rw [jp z] at h;obtain ⟨v,h1,h2⟩:=k.shr j d1 h;exact ⟨v,h1,h2.stay st w⟩
 · by_cases z:i=j
   · subst z;obtain ⟨q,_⟩:=jC h;cases q;obtain ⟨b,h1,h0,_⟩:=k.own i _ hi;rw [ha] at h1;cases h1;exact ⟨a,ha,h0,top _ _ st jo w⟩
   · rw [jp z] at h;obtain ⟨b,h1,h0,h2⟩:=k.own j d1 h
     have hb:b≠a:=by
       rintro rfl;exact z (k.dis i j _ _ b hi h ha h1)
     exact ⟨b,h1,h0,h2.stay st w fun o e=>by rw [jr hb];exact e⟩
 · have real: ∀(j:Nat) (d1:D),(env.set i (.own d'))[j]?=some (.own d1)-> ∃d0:D,env[j]?=some (.own d0):=fun j d1 q=>by
     by_cases z:i=j
     · subst z;exact ⟨_,hi⟩
     · rw [jp z] at q;exact ⟨_,q⟩
   obtain ⟨e1,z1⟩:=real j d1 q1;obtain ⟨e2,z2⟩:=real j' d2 q2;exact k.dis j j' e1 e2 b z1 z2 q3 q4
 · have hc:c≠a:=by
     rintro rfl;exact n ow
   rw [jr hc];exact e
 · by_cases hc:c=a
   · subst hc;rw [jo] at e;cases e
   · rw [jr hc] at e;exact e
def EnvOk.write {K:aaa} {G:Xl} {H0 H:Hp} {env:Sl} {σ:L2.St} {i:Nat} {ds ds':List D} {a:Addr} {xs xs':List V} (k:EnvOk K G H0 env σ H) (hi:env[i]?=some (.own (.lst ds))) (ha:σ[i]?=some (some (.ref a))) (hx:H a=some (.lst xs))
  (r:Reps K (Sf G env σ) H xs' ds'):EnvOk K G H0 (env.set i (.own (.lst ds'))) σ (upd H a (.lst xs'))/\Frm env σ H (env.set i (.own (.lst ds'))) σ (upd H a (.lst xs')):=
 k.writeG hi ha hx trivial fun A' H' st e w=> .lst e (r.stay st w)
def wN {K:aaa} {G:Xl} {H0 H:Hp} {env:Sl} {σ:L2.St} {i:Nat} {ds:List D} (k:EnvOk K G H0 env σ H) (hi:env[i]?=some (.own (.lst ds))): ∃a xs,σ[i]?=some (some (.ref a))/\H a=some (.lst xs)/\Reps K (Sf G env σ) H xs ds:=by
 obtain ⟨a,h1,h0,h2⟩:=k.own i _ hi
 cases h2 with
 |lst e r=>exact ⟨a,_,h1,e,r⟩
variable {e:Expr} {f:TN} {l:Lv} {pos cpos apos p:Pos} {x:Str}
def ownL (i:Nat) (env:Sl):Res (List D):=match env[i]? with
 |some (.own (.lst ds))=> .ok ds
 |_=> .stuck
def wd {i:Nat} {env:Sl} {ds:List D} (h:ownL i env= .ok ds):env[i]?=some (.own (.lst ds)):=by
 unfold ownL at h
 split at h
 · cases h;assumption
 · cases h
def ql (i:Nat) (f:TN):Sl->Res Out:=fun env=>ownL i env>>=fun ds=>f env>>=fun d=>must (ds.length<aae) (.ok (.nx (env.set i (.own (.lst (ds++[d]))))))
def qI (i:Nat) (he:DE X .s e f) (hN:X.N[i]?=some x:=by rfl) (hv:Vis X.env.scope x:=by first|exact aa6 rfl|exact aaI (aa6 rfl)|exact aaI (aaI rfl))
   (hd:Zu x:=by decide) (hcd:Zt x:=by decide)
   (hbase:aa2 (.Name x p) "append" X.env (eval (.Name x p) X.env)=eval (.Name x p) X.env:=by rfl)
   (hfew:((aa1 cpos (aac [e] X.env)).all (fun x=>!x.1)&&(abQ cpos (abi [] X.env)).all (fun x=>x.1.isSome)
    &&decide ([e].length+([]:List abG).length+(if ([]:List abG).isEmpty then 0 else 1)<30))=true:=by exact zW rfl rfl)
   (hline:(apos.endLine==cpos.line)=true:=by rfl) (hs:aac [e] X.env=(false,eval e X.env)::aac [] X.env:=by exact jj rfl) (hplain:(aa1 cpos (aac [] X.env)).any (·.1)=false:=by exact jK rfl)
   (hsw:abA (.Call (.Attribute (.Name x p) "append" apos) [e] [] cpos) none pos.line X.env=pure false:=by rfl):
   DS X (.Expr (.Call (.Attribute (.Name x p) "append" apos) [e] [] cpos) pos) (ql i f):=by
 with_unfolding_all exact (
  PS.imp (Je (vw abg abq abB xA (qS hN hv hd hcd) (j5 he zn hs) hbase hfew hline hs hplain) hsw) fun E σ H=>by
   rintro ⟨G,H0,env,o,k,ef,q⟩;obtain ⟨ds,e1,e2⟩:=jc ef;obtain ⟨d,e3,e4⟩:=jc e2;obtain ⟨hz,e5⟩:=jy e4;cases e5;have hi:=wd e1;obtain ⟨a,xs,ha,hx,rs⟩:=wN k hi;refine ⟨.ref a,ha,.inl ⟨rfl,xs,.of hx⟩,G,H0,env,d,k,e3,fun v H1 s1 r1 _=>?_⟩;have hx1:=s1 _ _ hx;refine ⟨a,xs,v,rfl,rfl,hx1,by rw [rs.length];exact hz,?_⟩;have W:=(k.grow s1).write hi ha hx1 ((rs.grow s1).append (.cons r1 .nil))
   exact q σ _ W.1 (W.2.grow s1))
def Qt (i:Nat) (f:TN):Sl->Res Out:=fun env=>ownL i env>>=fun ds=>f env>>=fun d=>match d with
 | .lst es=>must (ds.length+es.length<=aae) (.ok (.nx (env.set i (.own (.lst (ds++es))))))
 | .tup es=>must (ds.length+es.length<=aae) (.ok (.nx (env.set i (.own (.lst (ds++es))))))
 |_=> .stuck
def UU (i:Nat) (he:DE X .s e f) (hN:X.N[i]?=some x:=by rfl) (hv:Vis X.env.scope x:=by first|exact aa6 rfl|exact aaI (aa6 rfl)|exact aaI (aaI rfl))
   (hd:Zu x:=by decide) (hcd:Zt x:=by decide)
   (hbase:aa2 (.Name x p) "extend" X.env (eval (.Name x p) X.env)=eval (.Name x p) X.env:=by rfl)
   (hfew:((aa1 cpos (aac [e] X.env)).all (fun x=>!x.1)&&(abQ cpos (abi [] X.env)).all (fun x=>x.1.isSome)
    &&decide ([e].length+([]:List abG).length+(if ([]:List abG).isEmpty then 0 else 1)<30))=true:=by exact zW rfl rfl)
   (hline:(apos.endLine==cpos.line)=true:=by rfl) (hs:aac [e] X.env=(false,eval e X.env)::aac [] X.env:=by exact jj rfl) (hplain:(aa1 cpos (aac [] X.env)).any (·.1)=false:=by exact jK rfl)
   (hsw:abA (.Call (.Attribute (.Name x p) "extend" apos) [e] [] cpos) none pos.line X.env=pure false:=by rfl):
   DS X (.Expr (.Call (.Attribute (.Name x p) "extend" apos) [e] [] cpos) pos) (Qt i f):=by
 with_unfolding_all exact (
  PS.imp (Je (vw abg acE PySem.F.type_list_extend (MtR.or Uf KH) (qS hN hv hd hcd) (j5 he zn hs) hbase hfew hline hs hplain) hsw) fun E σ H=>by
   rintro ⟨G,H0,env,o,k,ef,q⟩;obtain ⟨ds,e1,e2⟩:=jc ef;obtain ⟨d,e3,e4⟩:=jc e2;have hi:=wd e1;obtain ⟨a,xs,ha,hx,rs⟩:=wN k hi;refine ⟨.ref a,ha,.inl ⟨rfl,xs,.of hx⟩,G,H0,env,d,k,e3,fun v H1 s1 r1 _=>?_⟩;have hx1:=s1 _ _ hx
   cases d with
   |lst es=>
    obtain ⟨hz,e5⟩:=jy e4;cases e5;obtain ⟨b,ys,rfl,hb,_,ry⟩:=r1.lstE;have ry':=ry.low;refine .inl ⟨a,b,xs,ys,rfl,rfl,hx1,hb,by rw [rs.length,ry.length];exact hz,?_⟩;have W:=(k.grow s1).write hi ha hx1 ((rs.grow s1).append ry');exact q σ _ W.1 (W.2.grow s1)
   |tup es=>
    obtain ⟨hz,e5⟩:=jy e4;cases e5;obtain ⟨b,ys,rfl,hb,ry⟩:=r1.tupE;have ry':=ry;refine .inr ⟨a,b,xs,ys,rfl,rfl,hx1,hb,by rw [rs.length,ry.length];exact hz,?_⟩;have W:=(k.grow s1).write hi ha hx1 ((rs.grow s1).append ry');exact q σ _ W.1 (W.2.grow s1)
   |_=>cases e4)
end
def W2 {prog:aaB} {w:World} {A:aaZ} {R:Result->aad->Prop} {s:aad} {elt target iter:Expr} {ifs:List Expr} {scope:Scope} {pos:Pos} {it acc:Value} {env:Env} (I:Nat->aad->Prop)
  (turn: ∀n s,I n s->wpAny (model prog w) A (pyNext it) (fun r s₁=>match r with
   |none=>R (.ok .next) s₁
   |some v=>wpAny (model prog w) A (acI target it v) (fun _ s₁'=>wpAny (model prog w) A (assign target env v) (fun _ s₂=>
    wpAny (model prog w) A (forIn ifs true fun c r=>if r=true then do let ok←isTrue c env (eval c env);pure (acN ok) else pure (acN r)) (fun ok s₃=>
     if ok=true then wpAny (model prog w) A (eval elt env) (fun x s₄=>
      wpAny (model prog w) A (call (.builtin "list.append") [acc,x]) (fun _ s₅=> ∃m,m<n/\I m s₅) (fun _ _=>False) s₄) (fun _ _=>False) s₃
     else∃m,m<n/\I m s₃) (fun _ _=>False) s₂) (fun _ _=>False) s₁') (fun _ _=>False) s₁) (fun _ _=>False) s)
  (n:Nat) (h:I n s):acX (model prog w) A (.compLoop (.ListComp elt [⟨target,iter,ifs,0⟩] scope pos) 0 it acc env) R s:=by
 refine codeAny_loop rfl I (fun n s hI=>?_) n h;refine wpAny_noted ?_;rw [compTurn_list];refine aaf (wpAny_standAt (aaf (abR (turn n s hI) (fun r s₁ h₁=>?_) fun _ _ h'=>h'.elim)))
 cases r with
 |none=>exact aam h₁
 |some v=>
  refine aaf (abR h₁ (fun _ s₁' h₁'=>?_) fun _ _ h'=>h'.elim);refine aaf (abR h₁' (fun _ s₂ h₂=>aaf (abR h₂ (fun ok s₃ h₃=>?_) fun _ _ h'=>h'.elim)) fun _ _ h'=>h'.elim)
  cases ok with
  |false=>exact aam ⟨rfl,h₃⟩
  |true=>
   exact aaf (aaf (abR h₃ (fun x s₄ h₄=>aaf (abR h₄ (fun _ s₅ h₅=>aam (aam ⟨rfl,h₅⟩)) fun _ _ h'=>h'.elim)) fun _ _ h'=>h'.elim))
def ka (X:Cx) (N:List Str) (scope:Scope) (cl:List (Str×Addr)) (C:Addr) (s:aad) (H:Hp) (fp:List Addr):Cx where
 prog:=X.prog
 w:=X.w
 K:=X.K
 mg:=X.mg
 base:=X.base
 A:=X.A
 N:=N
 s₀:=s
 H₀:=H
 env:=compEnvC scope cl C X.env
 outer:=X.stack
 stack:=X.stack
 ex:=fp
 fn:=fun _=>false
 calm:=true
 pn:=[]
 xe:=fun _ _=>False
@[irreducible] def DTs (X:Cx) (ifs:List Expr) (c:TM):Prop:=
 ∀(pins:List (Addr×Obj)) (s:aad) (σ:L2.St) (H:Hp) (Q:Bool->Hp->Prop),Inv X pins σ H s->tT X.K c σ H Q->
  wpAny (model X.prog X.w) X.A (forIn ifs true fun c r=>if r=true then do let ok←isTrue c X.env (eval c X.env);pure (acN ok) else pure (acN r)) (TP X pins σ Q) X.xe s
def yk:Sl->Res Bool:=fun _=> .ok true
def UM {X:Cx}:DTs X [] yk:=by
 with_unfolding_all exact (fun pins s σ H Q I ⟨G,H0,env,b,k,ef,q⟩=>by
  cases ef
  exact wpAny_tests_nil ⟨H,I,q H (Same.refl H)⟩)
def xM (n:Nat) (t:TH) (c:TM) (fe:TN):List D->Sl->Res Sl
 | [],env=> .ok env
 |d::ds,env=>t d env>>=fun env1=>c env1>>=fun b=>if b=true
  then fe env1>>=fun v=>ownL n env1>>=fun acc=>must (acc.length<aae) (xM n t c fe ds (env1.set n (.own (.lst (acc++[v])))))
  else xM n t c fe ds env1
def capS (im:Bool) (env:Sl) (j:Nat):Slot:=match env[j]? with
 |some (.shr d)=> .shr d
 |some (.own d)=>if im=true then .shr d else .un
 |_=> .un
def xL (im:Bool) (m:Nat) (js:List Nat) (env:Sl):Sl:=aaH m .un++js.map (capS im env)++[.own (.lst [])]
def W1 (im:Bool) (m:Nat) (js:List Nat) (fi:TK) (t:TH) (c:TM) (fe:TN):Sl->Res D:=fun env=>
 fi env>>=fun ds=>xM (m+js.length) t c fe ds (xL im m js env)>>=fun env'=>ownL (m+js.length) env'>>=fun acc=>must (im=true->D.imms acc=true) (.ok (.lst acc))
def wI (m:Nat) (js:List Nat) (σ:L2.St) (a:Addr):L2.St:=aaH m none++js.map (fun j=>(σ[j]?).join)++[some (.ref a)]
theorem zR {env:Env}: ∀ {names:List (Str×NameKind)} {x:Str} {k:NameKind},
  (names.map fun (n,k)=>if (k==ab4&&env.scope.kind== .function&&env.kindOf n==some .cell) then (n,ab5) else (n,k)).lookup x=some k-> ∃k',(x,k')∈names/\(k=k'\/k'= .free)
 | [],_,_,h=>by simp at h
 | (n,k')::r,x,k,h=>by
  have h':aaE x ((if (k'==ab4&&env.scope.kind== .function&&env.kindOf n==some .cell)=true then (n,ab5) else (n,k'))::(r.map fun (n,k)=>if (k==ab4&&env.scope.kind== .function&&env.kindOf n==some .cell) then (n,ab5) else (n,k)))=some k:=h
  by_cases hc:(k'==ab4&&env.scope.kind== .function&&env.kindOf n==some .cell)=true
  · rw [if_pos hc] at h';simp only [aaU] at h'
    cases hx:x==n with
    |true=>
     rw [hx] at h';have e:x=n:=by simpa using hx
     subst e;refine ⟨k',aaA,.inr ?_⟩;simp at hc;exact hc.1.1
    |false=>
     rw [hx] at h';obtain ⟨k2,h1,h2⟩:=zR h';exact ⟨k2,aar _ h1,h2⟩
  · rw [if_neg hc] at h';simp only [aaU] at h'
    cases hx:x==n with
    |true=>
     rw [hx] at h';have e:x=n:=by simpa using hx
     subst e;cases h';exact ⟨_,aaA,.inl rfl⟩
    |false=>
     rw [hx] at h';obtain ⟨k2,h1,h2⟩:=zR h';exact ⟨k2,aar _ h1,h2⟩
def clZ (z:Option Str) (cl:List (Str×Addr)) (C:Addr):List (Str×Addr):=match z with
 |none=>cl
 |some y=>(y,C+1)::cl
def jao (z:Option Str) (h:Heap):Heap:=match z with
 |none=>h
 |some _=>h.push {cls:= .type "cell",data:= .cell none}
abbrev ze (z:Option Str) (X:Cx) (N:List Str) (scope:Scope) (cl:List (Str×Addr)) (C:Addr) (s:aad) (H:Hp) (fp:List Addr):Cx:={ka X N scope (clZ z cl C) C s H fp with fn:=fun x=>some x==z}
def lk1 {cl:List (Str×Addr)} {z:Option Str} {x:Str} {c C:Addr} (h:aaE x (clZ z cl C)=some c):(z=some x/\c=C+1)\/(z≠some x/\cl.lookup x=some c):=by
 cases z with
 |none=>exact .inr ⟨nofun,h⟩
 |some z=>
  have h:aaE x ((z,C+1)::cl)=some c:=h;rw [aaU] at h
  cases e:x==z with
  |true=>rw [e] at h;cases h;exact .inl ⟨by rw [show x=z by simpa using e],rfl⟩
  |false=>rw [e] at h;exact .inr ⟨fun q=>by simp at e;exact e (aaF q).symm,h⟩
def lk2 {cl:List (Str×Addr)} {z:Option Str} {x:Str} {c C:Addr} (hn:z≠some x) (h:cl.lookup x=some c):aaE x (clZ z cl C)=some c:=by
 cases z with
 |none=>exact h
 |some z=>
  show aaE x ((z,C+1)::cl)=some c;rw [aaU,show (x==z)=false by simpa using fun q=>hn (by rw [q])];exact h
def KG {M:Model} {A:aaZ} {E:Xk} {s:aad} {scope:Scope} {globals:Addr} {cl:List (Str×Addr)} {qual:Str} {func:Option Addr} {code:Value} {around:Env} {builtins:Addr} {z:Option Str} {Q:Env->aad->Prop}
  (made: ∀n,cellsFrom (n+1) scope.names cl=clZ z cl n) (pushed: ∀h,pushCells h scope.names=jao z h)
  (hQ: ∀h',h'.Ns s.heap.objs.size (fun _=>none)->(∀b o,s.heap.get? b=some o->h'.get? b=some o)->(∀y,z=some y->h'.IsCell (s.heap.objs.size+1) none)->Q (newEnv scope s.heap.objs.size globals (clZ z cl s.heap.objs.size) qual func code (some around) builtins) {s with heap:=h'}):
  wpAny M A (newFunctionEnv scope globals cl [] qual func code (some around) builtins) Q E s:=by
 simp only [newFunctionEnv,Option.isSome_some,if_true];refine aaf (wpAny_alloc ?_);refine aaf (wpAny_layCells _ (fun name kind cells=>by cases hkc:kind==ab5<;>simp [hkc]) _ _ _ _ ?_);have hz:(s.heap.push {cls:= .type "dict",data:= .dict #[]}).objs.size=s.heap.objs.size+1:=acZ ..;have hc:=made s.heap.objs.size;rw [←hz] at hc;rw [hc,pushed];simp;refine aam ?_;have ns:=Heap.Ns.new s.heap (.type "dict")
 cases z with
 |none=>exact hQ _ ns (fun b o e=>aak _ e) nofun
 |some z=>
  refine hQ ((s.heap.push {cls:= .type "dict",data:= .dict #[]}).push {cls:= .type "cell",data:= .cell none}) (ns.keeps fun b o e=>aak _ e) (fun b o e=>aak _ (aak _ e)) fun _ _=>⟨_,by rw [←hz];exact aaG _ rfl,rfl⟩
structure CompSc (z:Option Str) (X:Cx) (scope:Scope) (cl:List (Str×Addr)) (N:List Str) (m:Nat) (js:List Nat):Prop where
 clos:closureFor scope X.env=pure cl
 kind:scope.kind= .function
 names: ∀x∈scope.names,x.2= .local->scope.names.lookup x.1=some .local
 nocell: ∀y∈scope.names,y.2= .cell->z=some y.1
 made: ∀n,cellsFrom (n+1) scope.names cl=clZ z cl n
 pushed: ∀h,pushCells h scope.names=jao z h
 zk: ∀y,z=some y->scope.names.lookup y=some .cell
 cls: ∀x c,cl.lookup x=some c->X.env.cells.lookup x=some c
 free: ∀y∈scope.names,y.2= .free-> ∃c,cl.lookup y.1=some c
 nd:N.Nodup
 len:N.length=m+js.length+1
 cap: ∀(k j:Nat),js[k]?=some j-> ∃y,N[m+k]?=some y/\X.N[j]?=some y/\(X.env.scope.names.lookup y=some .cell\/X.env.scope.names.lookup y=some .free)/\scope.names.lookup y=some .free
 last: ∀y,N[m+js.length]?=some y-> ∀p∈scope.names,p.1≠y
section
variable {X:Cx} {tg iter elt:Expr} {ifs:List Expr} {scope:Scope} {cl:List (Str×Addr)} {N:List Str} {m:Nat} {js:List Nat} {pos:Pos} {im:Bool} {z:Option Str}
 {fi:TK} {t:TH} {c:TM} {fe:TN}
def jbs {pins:List (Addr×Obj)} {σ:L2.St} {H:Hp} {s:aad} {C:Addr} {fp:List Addr} (S:CompSc z X scope cl N m js) (hc:X.calm=true) (I:Inv X pins σ H s) (hC:s.heap.objs.size<=C) (hf: ∀b∈fp,FpOk X pins H b) (hfp: ∀b∈fp,b<s.heap.objs.size):
  (ze z X N scope cl C s H fp).Ok where
 mod:=I.ok.mod
 kind:=S.kind
 glob:=I.ok.glob
 blt:=I.ok.blt
 above:=hC
 inj:=fun x y c h1 h2=>by
  have no: ∀u,X.env.cells.lookup u=some (C+1)->False:=fun u e=>by
    obtain ⟨v,o,ho,_⟩:=I.cell u _ e;exact absurd (aau ho) (Nat.not_lt_of_le (aaq hC (acM _)))
  rcases lk1 h1 with ⟨ex,ec⟩| ⟨_,g1⟩
  · rcases lk1 h2 with ⟨ey,_⟩| ⟨_,g2⟩
    · rw [ex] at ey;exact aaF ey
    · rw [ec] at g2;exact (no _ (S.cls _ _ g2)).elim
  · rcases lk1 h2 with ⟨ey,ec⟩| ⟨_,g2⟩
    · rw [ec] at g1;exact (no _ (S.cls _ _ g1)).elim
    · exact I.ok.inj x y c (S.cls x c g1) (S.cls y c g2)
 has:=fun x h=>by
  have mem:z=some x\/ ∃k',(x,k')∈scope.names/\k'= .free:=by
    rcases h with h|h<;>obtain ⟨k',h1,h2⟩:=zR h
    · rcases h2 with z|z
      · exact .inl (S.nocell _ h1 z.symm)
      · exact .inr ⟨k',h1,z⟩
    · rcases h2 with z|z
      · exact .inr ⟨k',h1,z.symm⟩
      · exact .inr ⟨k',h1,z⟩
  by_cases hxz:z=some x
  · subst hxz;exact ⟨C+1,by show aaE x ((x,C+1)::cl)=_;simp [aaU]⟩
  · obtain ⟨k',h1,h2⟩:=mem.resolve_left hxz;obtain ⟨c,hc⟩:=S.free _ h1 h2;exact ⟨c,lk2 hxz hc⟩
 cab:=fun x c h h2=>by
  have e:some x=z:=by simpa using h
  rcases lk1 h2 with ⟨_,rfl⟩| ⟨n,_⟩
  · exact aaq hC (acM _)
  · exact (n e.symm).elim
 hd:=fun _=>I.ok.hd hc
 frames:=I.ok.frames
 stk:= .inl rfl
 exf:=fun b hb=>⟨fun z=>absurd (aat (hfp b hb) (by rw [z];exact hC)) (abI _),fun x c h=>by
  rcases lk1 h with ⟨_,rfl⟩| ⟨_,h⟩
  · exact fun e=>absurd (hfp b hb) (Nat.not_lt_of_le (by rw [←e];exact aaq hC (acM _)))
  · exact (hf b hb).2.2.2.2.1 x c (S.cls x c h)⟩
 bs:=I.bs
 bsz:=aaq I.ok.bsz I.sz
 noex:=fun b o e hb=>by
  rcases (hf b hb).2.2.2.1 with z|z
  · exact I.ok.noex b o e z
  · exact absurd (aat (aau e) (aaq I.ok.bsz z)) (abI _)
 exfs:=fun b hb z=>by
  rcases aaw.mp (I.stkSub b z) with q|q
  · exact (hf b hb).2.1 q
  · exact (hf b hb).2.2.1 q
 funs:=I.stack
 frf:=I.stkFree
def kr {env:Sl} {j:Nat} {d:D} (h:capS im env j= .own d):False:=by
 unfold capS at h
 split at h
 · cases h
 · split at h<;>cases h
 · cases h
def KS {env:Sl} {σ:L2.St} {a b:Addr} (h:qQ (xL im m js env) (wI m js σ a) b):b=a:=by
 obtain ⟨i,d,h,h2⟩:=h
 have hi:i=m+js.length:=by
  unfold xL at h
  by_cases h1:i<m
  · rw [aaX,aay (by simpa using h1),aa3] at h
    split at h<;>cases h
  · rw [aaX,aan (by simpa using h1)] at h;simp at h
    by_cases h2:i-m<js.length
    · rw [aay (by simpa using h2),aaW] at h
      cases e:js[i-m]? with
      |none=>rw [e] at h;cases h
      |some j=>
        rw [e] at h;have h':=aaF h;exact (kr h').elim
    · rw [aan (by simpa using h2)] at h;simp at h
      by_cases h3:i-m-js.length=0
      · omega
      · rw [abd (by simp;omega)] at h;cases h
 subst hi
 have at_n:(wI m js σ a)[m+js.length]?=some (some (.ref a)):=by
  unfold wI;rw [aaX,aan (by simp),aan (by simp)];simp
 rw [at_n] at h2;cases h2;rfl
abbrev Gc (im:Bool) (G:Xl) (env:Sl) (σ:L2.St):Addr->Prop:=fun c=>G c/\(im=false-> ¬qQ env σ c)
def vV {K:aaa} {G:Xl} {H0 H:Hp} {env:Sl} {σ:L2.St} {a:Addr} (k:EnvOk K G H0 env σ H) (ha:H a=none):
   EnvOk K (Gc im G env σ) H (xL im m js env) (wI m js σ a) (upd H a (.lst [])):=by
 have own1: ∀(i:Nat) (d:D),(xL im m js env)[i]?=some (.own d)->i=m+js.length/\d= .lst []:=fun i d h=>by
   unfold xL at h
   by_cases h1:i<m
   · rw [aaX,aay (by simpa using h1),aa3] at h
     split at h<;>cases h
   · rw [aaX,aan (by simpa using h1)] at h;simp at h
     by_cases h2:i-m<js.length
     · rw [aay (by simpa using h2),aaW] at h
       cases e:js[i-m]? with
       |none=>rw [e] at h;cases h
       |some j=>
         rw [e] at h;have h':=aaF h;exact (kr h').elim
     · rw [aan (by simpa using h2)] at h;simp at h
       by_cases h3:i-m-js.length=0
       · rw [h3] at h;cases h;exact ⟨by omega,rfl⟩
       · rw [abd (by simp;omega)] at h;cases h
 have at_n:(wI m js σ a)[m+js.length]?=some (some (.ref a)):=by
   unfold wI;rw [aaX,aan (by simp),aan (by simp)];simp
 have owned: ∀b,qQ (xL im m js env) (wI m js σ a) b->b=a:=fun b ⟨i,d,h1,h2⟩=>by
   obtain ⟨rfl,rfl⟩:=own1 i d h1;rw [at_n] at h2;cases h2;rfl
 have sm:Same H (upd H a (.lst [])):=Same.upd ha;refine ⟨by simp [xL,wI],sm,fun c z=>⟨(k.new c z).2,fun _=>(k.new c z).1⟩,fun i d h=>?_,fun i d h=>?_,fun i j d e b h1 h2 h3 h4=>(own1 i d h1).1.trans (own1 j e h2).1.symm⟩
 · unfold xL at h
   by_cases h1:i<m
   · rw [aaX,aay (by simpa using h1),aa3] at h
     split at h<;>cases h
   · rw [aaX,aan (by simpa using h1)] at h;simp at h
     by_cases h2:i-m<js.length
     · rw [aay (by simpa using h2),aaW] at h
       cases e:js[i-m]? with
       |none=>rw [e] at h;cases h
       |some j=>
         rw [e] at h;have h':=aaF h
         have hσ:(wI m js σ a)[i]?=some ((σ[j]?).join):=by
           unfold wI;rw [aaX,aan (by simpa using h1)];simp;rw [aay (by simpa using h2),aaW,e];rfl
         have fin: ∀v,σ[j]?=some (some v)->Rep K (Gc im G env σ) H v d-> ∃v,(wI m js σ a)[i]?=some (some v)/\Rep K (Sf (Gc im G env σ) (xL im m js env) (wI m js σ a)) (upd H a (.lst [])) v d:=fun v e1 r=>by
           refine ⟨v,by rw [hσ,e1];rfl,(r.inDom.grow sm).weak fun b z=>⟨fun o=>?_,z.1⟩⟩;rw [owned b o] at z;exact z.2 ha
         unfold capS at h'
         split at h'
         · rename_i d' hd;cases h';obtain ⟨v,h3,h4⟩:=k.shr j d hd;exact fin v h3 (h4.weak fun c z=>⟨z.2,fun _=>z.1⟩)
         · rename_i d' hd
           split at h'
           · rename_i hi';cases h';obtain ⟨v,h3,h0,h4⟩:=k.own j d hd;exact fin _ h3 (h4.rep (fun c z=>⟨⟨z.2,fun _=>z.1⟩,Wz k hd h3 c z⟩) ⟨k.g0 _ h0,fun z=>by rw [hi'] at z;cases z⟩)
           · cases h'
         · cases h'
     · rw [aan (by simpa using h2)] at h;simp at h
       by_cases h3:i-m-js.length=0
       · rw [h3] at h;cases h
       · rw [abd (by simp;omega)] at h;cases h
 · obtain ⟨rfl,rfl⟩:=own1 i d h;exact ⟨a,at_n,ha,.lst jo .nil⟩
def ki (use:Option (Value->Sem Unit)) (Q':Xk) (im:Bool) (N:List Str) (m:Nat) (js:List Nat) (S:CompSc z X scope cl N m js) (hc:X.calm=true) (hi:PI X tg iter (tI X.K fi))
   (hb: ∀(C:Addr) (s:aad) (H:Hp) (fp:List Addr),PG (ze z X N scope cl C s H fp) tg (tG X.K t)/\DTs (ze z X N scope cl C s H fp) ifs c/\PE (ze z X N scope cl C s H fp) elt (tE X.K .s fe))
   (hs: ∀x,acs iter X.env x=pure x) {pins:List (Addr×Obj)} {s:aad} {σ:L2.St} {H:Hp} {G:Xl} {H0:Hp} {env:Sl} {d:D} (I:Inv X pins σ H s) (k:EnvOk X.K G H0 env σ H) (ef:W1 im m js fi t c fe env= .ok d)
   (hend: ∀(a C:Addr) (s':aad) (H':Hp) (mm:Yq) (r:Flow),s'.heap.Ns C mm->(∀h',acT C s'.heap h'->Inv X pins σ H' {s' with heap:=h'})->FpOk X pins H' C->Same H H'->Rep X.K (Sf G env σ) H' (.ref a) d->NewTop H (.ref a)->compPost (model X.prog X.w) X.A X.xe use Q' (.ref a) C (.ok r) s'):
   wpAny (model X.prog X.w) X.A (comprehension (.ListComp elt [⟨tg,iter,ifs,0⟩] scope pos) scope X.env (firstIterPos [⟨tg,iter,ifs,0⟩] pos) (newList []) (firstAsync [⟨tg,iter,ifs,0⟩]) (firstIter [⟨tg,iter,ifs,0⟩] X.env) use) Q' X.xe s:=by
 with_unfolding_all exact (by
  obtain ⟨ds,e1,ef⟩:=jc ef;obtain ⟨envF,e2,ef⟩:=jc ef;obtain ⟨accF,e3,e4⟩:=jc ef;obtain ⟨himF,e4⟩:=jy e4;cases e4;refine wpAny_comprehension_free rfl hs S.clos S.kind S.names ?_;refine thn (hi pins s σ H (fun J H1=> ∃P,Same H H1/\jbM X.K (Sf G env σ) H1 J ds P/\P H1/\ ∀env' σ' H',Frm env σ H1 env' σ' H'->P H') I ⟨G,H0,env,ds,k,e1,fun J H1 P a b c' d'=>⟨P,a,b,c',d'⟩⟩) fun v s1 h1=>thn h1 fun itv s2 h2=>?_
  obtain ⟨it,fp,tn,J,H2,rfl,I2,T,st2,f2,P,sm,wk,p0,pst⟩:=h2;have k2:=k.grow sm;refine ab3 (KG S.made S.pushed (fun h₁ hns₁ hkp₁ hcl₁=>?_));dsimp only at hns₁ hkp₁ hcl₁ ⊢;have hfr:=I2.hok.fresh (aas _)
  let a:=s2.heap.objs.size
  have ha:=hfr;have I3:=I2.lnew (t':=s2.toks) .nil (acL _)
  let s3:aad:={s2 with heap:=s2.heap.push {cls:= .type "list",dict:=none,data:= .seq ([]:List Value).toArray}}
  let C:=s3.heap.objs.size
  have f3: ∀b∈fp,FpOk X pins (upd H2 a (.lst [])) b:=fun b hb'=>by
   obtain ⟨z0,z⟩:=f2 b hb';refine ⟨?_,z⟩
   have hb2:b≠a:=by
     obtain ⟨o,ho,_⟩:=T.obj 0 _ st2 b hb';exact aa0 (aau ho)
   rw [jr hb2];exact z0
  have hfp: ∀b∈fp,b<s3.heap.objs.size:=fun b hb'=>by
   obtain ⟨o,ho,_⟩:=T.obj 0 _ st2 b hb';refine aat (aau ho) ?_;rw [acZ];exact acM _
  have XO:=jbs S hc I3 (aas _) f3 hfp;obtain ⟨DGt,DTc,DEe⟩:=hb C s3 (upd H2 a (.lst [])) fp;have old: ∀b o,s3.heap.get? b=some o->h₁.get? b=some o:=fun b o e=>hkp₁ b o e
  have I4:Inv (ze z X N scope cl C s3 (upd H2 a (.lst [])) fp) [] (wI m js σ a) (upd H2 a (.lst [])) {s2 with heap:=h₁,toks:=s2.toks+([]:List (Str×Value)).length}:=by
   refine ⟨XO,rfl,I3.bare,Un.kept old,⟨_,hns₁,fun i y v' h1 h2 h3=>?_⟩,fun y c' h=>?_,I3.hok.fresh (aas _),fun y c' h=>(by
     rcases lk1 h with ⟨_,rfl⟩| ⟨_,h⟩
     · exact I3.hok.fresh (acM _)
     · exact I3.freeC y c' (S.cls y c' h)),fun p hp=>absurd hp (by simp [ka]),I3.hok.kept old,?_⟩
   · --a captured name
     have hN1:N[i]?=some y:=h1;unfold wI at h2
     by_cases q1:i<m
     · rw [aaX,aay (by simpa using q1),aa3] at h2
       split at h2<;>cases h2
     · rw [aaX,aan (by simpa using q1)] at h2;simp at h2
       by_cases q2:i-m<js.length
       · rw [aay (by simpa using q2),aaW] at h2
         cases e:js[i-m]? with
         |none=>rw [e] at h2;cases h2
         |some j=>
           rw [e] at h2;have h2':(σ[j]?).join=some v':=aaF h2
           have hj:σ[j]?=some (some v'):=by
             cases z:σ[j]? with
             |none=>rw [z] at h2';cases h2'
             |some w'=>rw [z] at h2';simp at h2';rw [h2']
           obtain ⟨y',g1,g2,g3,g4⟩:=S.cap (i-m) j e
           have ey:y'=y:=by
             rw [show m+(i-m)=i by omega,hN1] at g1;exact (aaF g1).symm
           subst ey;obtain ⟨mm,hn,hl⟩:=I3.loc
           have vis:Vis X.env.scope y':=by
             rcases g3 with z|z
             · exact .inr (.inl z)
             · exact .inr (.inr z)
           obtain ⟨u,ru,lk⟩:=hl j y' v' g2 hj vis;refine ⟨u,ru,.inr ⟨?_,?_⟩⟩
           · rcases h3 with z|z
             · exfalso;obtain ⟨k',m1,m2⟩:=zR z;have lk2:=S.names _ m1;rcases m2 with w'|w'
               · subst w';have:=lk2 rfl;rw [g4] at this;cases this
               · subst w'
                 have: ∀ {names:List (Str×NameKind)},names.lookup y'=some .free->(names.map fun (n,k)=>if (k==ab4&&X.env.scope.kind== .function&&X.env.kindOf n==some .cell) then (n,ab5) else (n,k)).lookup y'≠some .local:=by
                  intro names
                  induction names with
                  |nil=>intro h;cases h
                  |cons p r ih=>
                   obtain ⟨n,kk⟩:=p;intro h h';have h'':aaE y' ((if (kk==ab4&&X.env.scope.kind== .function&&X.env.kindOf n==some .cell)=true then (n,ab5) else (n,kk))::(r.map fun (n,k)=>if (k==ab4&&X.env.scope.kind== .function&&X.env.kindOf n==some .cell) then (n,ab5) else (n,k)))=some .local:=h';simp only [aaU] at h
                   cases hx:y'==n with
                   |true=>
                    rw [hx] at h;cases h
                    split at h''<;>simp [aaU,hx] at h''
                   |false=>
                    rw [hx] at h
                    split at h''<;>(simp only [aaU,hx] at h'';exact ih h h'')
                 exact this g4 z
             · exact z
           · rcases lk with ⟨kk,_⟩| ⟨kk,c',hc',cell'⟩
             · exfalso;have kk':X.env.scope.names.lookup y'=some .local:=kk;rcases g3 with z|z<;>(rw [z] at kk';cases kk')
             · obtain ⟨c2,hc2⟩:=S.free (y',.free) (abv g4) rfl
               have:c2=c':=by
                 have:=S.cls _ _ hc2;rw [hc'] at this;exact (aaF this).symm
               subst this;obtain ⟨o,ho,hd⟩:=cell';exact ⟨c2,lk2 (fun q=>by rw [S.zk _ q] at g4;cases g4) hc2,o,old _ _ ho,hd⟩
       · exfalso
         have hi':i=m+js.length:=by
           have hl:=(aax.mp hN1).1;rw [S.len] at hl;omega
         subst hi';have no:=S.last y hN1;rcases h3 with z|z|z<;>
         · obtain ⟨k',m1,_⟩:=zR z;exact no _ m1 rfl
   · rcases lk1 h with ⟨q,rfl⟩| ⟨_,h⟩
     · exact ⟨none,hcl₁ _ q⟩
     · obtain ⟨v',o,ho,hd⟩:=I3.cell y c' (S.cls y c' h);exact ⟨v',o,old _ _ ho,hd⟩
   · show (wI m js σ a).length=N.length;rw [S.len];simp [wI];omega
  have kC:EnvOk X.K (Gc im G env σ) H2 (xL im m js env) (wI m js σ a) (upd H2 a (.lst [])):=vV k2 ha
  have fC: ∀b∈fp,FpOk (ze z X N scope cl C s3 (upd H2 a (.lst [])) fp) [] (upd H2 a (.lst [])) b:=fun b hb'=>by
   obtain ⟨z0,z1,z2,z3,z4,z5⟩:=f3 b hb';exact ⟨z0,(XO.exf b hb').1,XO.exfs b hb',.inl hb',(XO.exf b hb').2,fun p hp=>absurd hp (by simp [ka])⟩
  have stC:=T.keep 0 _ _ st2 fun b hb' o e=>old b o (aak _ e)
  have loop:acX (model X.prog X.w) X.A (.compLoop (.ListComp elt [⟨tg,iter,ifs,0⟩] scope pos) 0 (.ref it) (.ref a) (compEnvC scope (clZ z cl C) C X.env))
     (compPost (model X.prog X.w) X.A X.xe use Q' (.ref a) C) {s2 with heap:=h₁,toks:=s2.toks+([]:List (Str×Value)).length}:=by
   refine W2 (fun n s'=> ∃i σ' H' env',n=ds.length+1-i/\i<=ds.length/\Inv (ze z X N scope cl C s3 (upd H2 a (.lst [])) fp) [] σ' H' s'/\tn i s'.heap/\(∀b∈fp,H' b=none)/\(∀b,qQ env' σ' b->b=a)/\
       EnvOk X.K (Gc im G env σ) H2 env' σ' H'/\Frm (xL im m js env) (wI m js σ a) (upd H2 a (.lst [])) env' σ' H'/\xM (m+js.length) t c fe (ds.drop i) env'= .ok envF) ?_ (ds.length+1)
     ⟨0,_,_,_,rfl,acL _,I4,stC,fun b hb'=>(fC b hb').1,?_,kC,Frm.refl (Same.refl _),by simpa using e2⟩
   · rintro n s' ⟨i,σ',H',env',rfl,hi',Ic,st,fr,hs',kc,fc,ec⟩;have hP:=pst env σ H' (Frm.refl kc.base);obtain ⟨w1,w2,w3⟩:=wk i H' hP;have fpk: ∀ {H':Hp},(∀b∈fp,H' b=none)-> ∀b∈fp,FpOk (ze z X N scope cl C s3 (upd H2 a (.lst [])) fp) [] H' b:=fun hn b hb'=>⟨hn b hb',(fC b hb').2⟩
     by_cases hlt:i<ds.length
     · have hd:i<ds.length:=by omega
       rw [List.drop_eq_getElem_cons hd] at ec;obtain ⟨env1,e5,ec⟩:=jc ec;obtain ⟨b,e6,ec⟩:=jc ec;refine thn (T.item (ze z X N scope cl C s3 (upd H2 a (.lst [])) fp) rfl rfl rfl rfl i [] s' σ' H' (fun _ _=>False) Ic (fpk fr) st (w1 hlt)) fun r s4 ⟨u,hr,h4⟩=>?_
       subst hr;refine thn h4 fun _ s5 ⟨x,H5,I5,r5,y5,st5,fr5⟩=>?_
       have wkA: ∀b,(Sf G env σ b/\H2 b≠none)->Sf (Gc im G env σ) env' σ' b:=fun b z=>⟨fun o=>(by
         rw [hs' b o] at z
         exact z.2 ha),z.1.2,fun _=>z.1.1⟩
       obtain ⟨sm5,rd'⟩:Same H' H5/\Rep X.K (Sf (Gc im G env σ) env' σ') H5 x ds[i]:=by
         rcases w2 _ (aao hd) x H5 y5 with ⟨rfl,rd⟩| ⟨p,vs,es,hp,rfl,rfl,ed,rds⟩
         · exact ⟨Same.refl _,(rd.inDom.grow kc.base).weak wkA⟩
         · refine ⟨Same.upd hp,?_⟩;rw [ed];exact .tup jo (((rds.inDom.grow kc.base).weak wkA).grow (Same.upd hp))
       have kc5:=kc.grow sm5;have I5':=I5.pinned (fpk fr5) (T.obj _ _ st5);refine thn (DGt _ s5 σ' H5 x u (fun σ1 Hn=>Hn=H5/\EnvOk X.K (Gc im G env σ) H2 env1 σ1 H5/\Frm env' σ' H5 env1 σ1 H5) I5' r5 ⟨_,H2,env',ds[i],env1,kc5,rd',e5,fun σ1 k1 f1=>⟨rfl,k1,f1⟩⟩) fun _ s6 ⟨σ6,H6,I6,z6,k6,ff6⟩=>?_
       subst z6
       have ow6: ∀b,qQ env1 σ6 b->b=a:=fun b o=>by
         rcases ff6.more b o with z|z
         · exact hs' b z
         · obtain ⟨uu,hu⟩:=k6.there o;rw [z] at hu;cases hu
       refine thn (DTc _ s6 σ6 H6 (fun b' Hn=>b'=b/\Same H6 Hn) I6 ⟨_,H2,env1,b,k6,e6,fun Hn sn=>⟨rfl,sn⟩⟩) fun ok s7 ⟨H7,I7,z7,sm7⟩=>?_
       subst z7;have k7:=k6.grow sm7;have fr7:=((fc.trans (Frm.refl sm5)).trans ff6).trans (Frm.refl sm7)
       have out: ∀ {s8:aad} {σ8:L2.St} {H8:Hp} {env8:Sl},Inv (ze z X N scope cl C s3 (upd H2 a (.lst [])) fp) ([]++Wu fp s5.heap) σ8 H8 s8->(∀b,qQ env8 σ8 b->b=a)->EnvOk X.K (Gc im G env σ) H2 env8 σ8 H8->
           Frm (xL im m js env) (wI m js σ a) (upd H2 a (.lst [])) env8 σ8 H8->xM (m+js.length) t c fe (ds.drop (i+1)) env8= .ok envF->
           ∃mm,mm<ds.length+1-i/\ ∃i σ' H' env',mm=ds.length+1-i/\i<=ds.length/\Inv (ze z X N scope cl C s3 (upd H2 a (.lst [])) fp) [] σ' H' s8/\tn i s8.heap/\(∀b∈fp,H' b=none)/\(∀b,qQ env' σ' b->b=a)/\
             EnvOk X.K (Gc im G env σ) H2 env' σ' H'/\Frm (xL im m js env) (wI m js σ a) (upd H2 a (.lst [])) env' σ' H'/\xM (m+js.length) t c fe (ds.drop i) env'= .ok envF:=by
         intro s8 σ8 H8 env8 I8 ow8 k8 f8 e8;refine ⟨ds.length+1-(i+1),by omega,i+1,σ8,H8,env8,rfl,hlt,I8.unpinned,T.keep _ _ _ st5 fun b hb' o e=>(I8.pin (b,o) (aaQ _ (aaQ _ (xY hb' e)))).1,fun b hb'=>?_,ow8,k8,f8,e8⟩;obtain ⟨o,e,_⟩:=T.obj _ _ st5 b hb';exact (I8.pin (b,o) (aaQ _ (aaQ _ (xY hb' e)))).2.1
       cases ok with
       |false=>
         rw [if_neg aaz] at ec ⊢;exact out I7 ow6 k7 fr7 ec
       |true=>
         rw [if_pos rfl] at ec ⊢;obtain ⟨vd,e7,ec⟩:=jc ec;obtain ⟨acc,e8,ec⟩:=jc ec;obtain ⟨hz,ec⟩:=jy ec;refine thn (DEe _ s7 σ6 H7 (fun y Hn=>Same H7 Hn/\Rep X.K (Sf (Gc im G env σ) env1 σ6) Hn y vd) I7 ⟨_,H2,env1,vd,k7,e7,fun y Hn sn rn _=>⟨sn,rn⟩⟩) fun yv s8 ⟨y,H8,I8,ry,sm8,rep8⟩=>?_
         have k8:=k7.grow sm8;have hi8:=wd e8;obtain ⟨a8,xs8,ha8,hx8,rs8⟩:=wN k8 hi8;have ea:=ow6 a8 ⟨_,_,hi8,ha8⟩;subst ea;have W:=k8.write hi8 ha8 hx8 (rs8.append (.cons rep8 .nil))
         refine thn (xA _ s8 σ6 H8 (.ref a) [y] (.ref a) [yv] (fun _ Hn=>Hn=upd H8 a (.lst (xs8++[y]))) I8 rfl (.cons ry .nil)
           ⟨a,xs8,y,rfl,rfl,hx8,by rw [rs8.length];exact hz,rfl⟩) fun _ s9 ⟨_,H9,I9,_,z9⟩=>?_
         subst z9;exact out I9 (fun b o=>ow6 b ((Jf hi8).mp o)) W.1 ((fr7.trans (Frm.refl sm8)).trans W.2) ec
     · have he:i=ds.length:=by omega
       rw [acr (by omega)] at ec;cases ec;refine thn (T.done (ze z X N scope cl C s3 (upd H2 a (.lst [])) fp) rfl rfl rfl rfl i [] s' σ' H' (fun _ _=>False) Ic (fpk fr) st (w3 (by omega))) fun r s4 ⟨hr,I5⟩=>?_
       subst hr;have hiF:=wd e3;obtain ⟨aF,xsF,haF,hxF,rsF⟩:=wN kc hiF;have ea:=hs' aF ⟨_,_,hiF,haF⟩;subst ea;obtain ⟨mm,hn,_⟩:=I5.loc;refine hend a C s4 H' mm _ hn (fun h' hsb=>?_) (I3.fpOk (aas _) I5.free) (sm.trans kc.base) (.lst hxF (k.new a (Same.free sm ha)) ?_) (zU sm ha)
       rotate_left
       · cases him:im with
         |true=>exact rsF.imm (himF him)
         |false=>exact rsF.weak fun c z=>⟨⟨z.2.2 him,z.2.1⟩,Wz kc hiF haF c z⟩
       have nC: ∀b o,H' b=some o->b≠C:=fun b o e z=>by
         have:=I5.free;rw [z] at e;have e':H' C=none:=this;rw [e] at e';cases e'
       have B:=I5.base;have ltC: ∀b o,s3.heap.get? b=some o->b≠C:=fun b o e=>aa0 (aau e)
       have U:Un (frs X.stack) fp (upd H2 a (.lst [])) H' s3.heap h':=⟨fun b o e n hb' hx'=>(hsb.2 b (ltC b o e)).trans (B.keep b o e n hb' hx'),
         fun b o e n hb' hx'=>let ⟨sl,z⟩:=B.slot b o e n hb' hx';⟨sl,(hsb.2 b (ltC b o e)).trans z⟩,B.free,
         fun b o e hx'=>let ⟨o',z⟩:=B.there b o e hx';⟨o',(hsb.2 b (ltC b o e)).trans z⟩,B.tups,B.frzs,B.tbls⟩
       refine Inv.call' I3 I5.os U (fun b o e=>(I5.hok b o e).stay (fun c' u hc' qq=>(hsb.2 c' ?_).trans qq) (fun _ z=>z) fun _ _ z=>z) I5.bare (fun b hb'=>?_)
       · rcases hc' with z|z
         · rw [z];exact nC b o e
         · exact nC c' _ z
       · obtain ⟨z0,z1,z2,z3,z4,z5⟩:=f3 b hb';exact ⟨z3,z1,z4,z5⟩
   · exact fun b o=>KS o
  exact codeAny_compStart_list loop (T.self _ 0 _ _ _ stC loop))
def U6 (im:Bool) (N:List Str) (m:Nat) (js:List Nat) (S:CompSc z X scope cl N m js) (hc:X.calm=true) (hi:DI X tg iter fi)
   (hb: ∀(C:Addr) (s:aad) (H:Hp) (fp:List Addr),N.Nodup->DG (ze z X N scope cl C s H fp) tg t/\DTs (ze z X N scope cl C s H fp) ifs c/\DE (ze z X N scope cl C s H fp) .s elt fe)
   (hs: ∀x,acs iter X.env x=pure x:=by intro _;rfl):
   DE X .t (.ListComp elt [⟨tg,iter,ifs,0⟩] scope pos) (W1 im m js fi t c fe):=by
 with_unfolding_all exact (by
  rintro pins s σ H Q I ⟨G,H0,env,d,k,ef,q⟩;rw [eval_ListComp]
  exact ki none (EP X pins σ Q) im N m js S hc hi (fun C s H fp=>hb C s H fp S.nd) hs I k ef fun a C s' H' mm r hn hinv hfp sm rep nt=>⟨mm,hn,fun h' hsb=>⟨.ref a,H',hinv h' hsb,rfl,q _ H' sm rep nt⟩⟩)
end
def j4 (n:Nat) (ds:List D):Sl:=ds.map .shr++aaH (n-ds.length) .un
def WW {K:aaa} {B:Xl} {N:List Str} {vs:List V} {ds:List D} {H:Hp} (r:Reps K B H vs ds):EnvOk K (fun a=>H a=none\/B a) H (j4 N.length ds) (start N vs) H:=by
 have hl:=r.length
 have no: ∀(i:Nat) (d:D),(j4 N.length ds)[i]?≠some (.own d):=fun i d h=>by
   unfold j4 at h
   by_cases q:i<ds.length
   · rw [aay (by simpa using q),aaW] at h
     cases e:ds[i]? with
     |none=>rw [e] at h;cases h
     |some x=>rw [e] at h;cases h
   · rw [aan (by simpa using q),aa3] at h
     split at h<;>cases h
 refine ⟨by simp [L2.start,j4,hl],Same.refl H,fun _ z=> .inl z,fun i d h=>?_,fun i d h=>(no i d h).elim,fun i j d e a h=>(no i d h).elim⟩;unfold j4 at h
 by_cases q:i<ds.length
 · rw [aay (by simpa using q),aaW] at h
   cases e:ds[i]? with
   |none=>rw [e] at h;cases h
   |some x=>
     rw [e] at h;cases h;obtain ⟨v,h1,h2⟩:=r.get e;refine ⟨v,?_,h2.weak fun a z=>⟨fun o=>?_,.inr z⟩⟩
     · unfold L2.start;rw [aay (by simp;omega),aaW,h1];rfl
     · obtain ⟨i',d',z,_⟩:=o;exact no i' d' z
 · rw [aan (by simpa using q),aa3] at h
   split at h<;>cases h
section
variable {P:aaB} {w:World} {K:aaa} {mg:Yq} {base:Heap}
def Meets (fr:Bool) (n:Nat) (g:TL) (ds:List D) (d:D):Prop:=(∃fr',g (j4 n ds)= .ok (.rt fr' d)/\(fr=true->fr'=true))\/(d= .non/\ ∃env',g (j4 n ds)= .ok (.nx env'))
def jcW {x qual:Str} {st:Stmt} {f:Addr} {fd:abp} {N ps:List Str} {k:Nat} {fr:Bool} {F:TJ} {g:TL} (Fu:Fun K x qual st f fd) (S:FnScope N ps (jg st))
    (hb: ∀(cdv:Value) (A:aaZ) (outer:List Env) (s:aad) (H:Hp) (E:XK),Room k (A.deeper (ab7 qual (jg st) s.heap.objs.size f cdv))->DSs (cxOf CX0 P w K mg base N qual (jg st) f cdv A outer s H E).nox (j8 st) g)
    (hF: ∀ds d,ds.length=ps.length->F ds= .ok d->Meets fr N.length g ds d):
    FnOk P w K mg base CX0 (k+1) f fd ps (spF K fr ps.length F):=by
 with_unfolding_all exact (by
  refine Fu.ok S (fun vs H Q E ⟨B,ds,d,hl,_⟩=>hl) (fun cdv A outer s H vs Q E hr h=>?_);obtain ⟨B,ds,d,hl,r,e,q⟩:=h;refine ⟨_,hb cdv A outer s H E hr,?_⟩;have kk:=WW (N:=N) r;rcases hF ds d (by rw [←r.length];exact hl) e with ⟨fr',z,hf⟩| ⟨rfl,env',z⟩
  · exact ⟨_,H,_,_,kk,z,fun v H' s r nt=>q v H' s r fun hh=>nt (hf hh)⟩
  · exact ⟨_,H,_,_,kk,z,fun σ' H' k' f'=>q .non H' k'.base .non fun _ a e=>by cases e⟩)
end
open PySem.W in
theorem jbv {ns:List Int} (h:WData.layableAll [WData.list (ns.map WData.int)]=true): ∀n∈ns,abx n<=2^20:=fun n hn=>by
 have h1:=layableW_arg h _ aaA;have h2:=layableW_item h1 (.int n) (abL.mpr ⟨n,hn,rfl⟩);have h3:=(layableW_iff.mp h2).2.2;simpa only [WData.weight,abx] using h3
open PySem.W PySem.Calls Att in
theorem X8 {l:adm} {n:Nat} {q:aaB} {loose:List Str} {XP:(Str->Option Value)->Heap->Prop} {YP:World->Heap->Prop} {d:DefRec}
  (hn:l.most=some n) (hdf:d.params.defaults=[])
  (call: ∀(w:World) (s₀ s₁:aad) (mg mb:Yq) (fa:Addr) (o:Obj) (pm cd doc:Value) (a:Addr) (vs:List Value) (ns:List Int),
   Ground q loose [] XP w s₀ mg mb s₁.heap->YP w s₁.heap->
   s₁.heap.get? fa=some o->o.data= .func (docDef d.name d.params d.body d.scope pm cd doc)->s₁.heap.CodeRec cd d.name->mg d.name=some (.ref fa)->
   s₁.heap.get? a=some {cls:= .type "list",data:= .seq vs.toArray}->IntsAre vs ns->ns.length<=n->(∀n∈ns,abx n<=2^20)->s₁.gens= #[]->
   acX (model l.prog w) callerA (.call (.ref fa) ⟨[.ref a],[]⟩) (fun r s'=>r= .ok (.ret (.bool true))/\OldK s₁.heap s'.heap/\s'.os=s₁.os/\ada s'.gens) s₁):
  WalkO q loose XP YP l.row.toRowW d [] (fun f vs=>PySem.call f vs):=by
 intro w s₀ s₁ mg mb G Y fa o pm cd doc dV kV ho hd hcd hD hmg hg args vals as hpre hlay hrd hwl hlo;obtain rfl:dV= .none:=Dflts.none hD hdf;obtain rfl:kV= .none:=Dflts.noKw hD;obtain ⟨a,vs,ns,rfl,rfl,hobj,hints,hlen⟩:=Vx hn hpre hwl;refine enter_call (acw (call w s₀ s₁ mg mb fa o pm cd doc a vs ns G Y ho (fd_plain hd) hcd hmg hobj hints hlen (jbv hlay) hg) fun r s' hq=>?_);obtain ⟨rfl,h2,h3,h4⟩:=hq;exact ⟨.inl ⟨.bool true,.bool true,[],rfl,fun _=>rfl,.bool true,VH l _,fun _=>⟨List.Pairwise.nil,fun _ hm=>(nomatch hm)⟩⟩,h2,h3,h4⟩
def vx {K:aaa} {H:Hp} {a:Addr} {xs:List V} (hO:Only H) (h:SqL K H a xs):LsK K H a xs:=by
 rcases h with (h|h)|h
 · rcases hO a with z| ⟨o,ys,z⟩
   · rw [z] at h;cases h
   · rw [z] at h;cases h
 · exact .inl h
 · exact .inr h
theorem YX {K:aaa} {A:Xl} {H:Hp}: ∀ns:List Int,Reps K A H (ns.map V.int) (ns.map D.int)
 | []=> .nil
 |n::r=> .cons (.int n) (YX r)
def walk_law {l:adm} {n k:Nat} {q:aaB} {loose:List Str} {XP:(Str->Option Value)->Heap->Prop} {YP:World->Heap->Prop} {d:DefRec} {K:Params->aaa} {F:TJ} {x:Str}
  (hn:l.most=some n) (hn2:n<=aae) (hdf:d.params.defaults=[]) (hr:Room k callerA)
  (hY: ∀(w:World) (h:Heap),YP w h->(K w.params).In h)
  (hF: ∀(w:World) (mg:Yq) (fa:Addr) (h:Heap),(K w.params).In h->h.Ns aah mg->mg d.name=some (.ref fa)->
   ∃fd:abp,(∀(s:aad) (u:Value),BindsTo s fd ⟨[u],[]⟩ [(x,u)])/\
    ∀base:Heap,(K w.params).In base->base.Ns aah mg->FnOk l.prog w (K w.params) mg base CX0 k fa fd [x] (spF (K w.params) true 1 F))
  (ht: ∀ns:List Int,ns.length<=n->(∀i∈ns,abx i<=2^20)->F [.scr (ns.map D.int)]= .ok (.bl true)):
  PySem.W.WalkO q loose XP YP l.row.toRowW d [] (fun f vs=>PySem.call f vs):=by
 refine X8 hn hdf fun w s₀ s₁ mg mb fa o pm cd doc a vs ns G Y ho hd hcd hmg hobj hints hlen hbits hg=>?_
 have KX:=hY w _ Y;obtain ⟨fd,hb,hFn⟩:=hF w mg fa _ KX G.T.g hmg;refine vG KX G.T.g G.T.b G.T.builtins G.T.nolimit hg hobj hints (aaq hlen hn2) hr hFn hb (fun H hO hS=>?_) fun H e s' h=>h
 exact ⟨Any,_,_,rfl,.cons (.lsk (vx hO hS) (YX ns)) .nil,ht ns hlen hbits,fun v H' _ r _=>r.blE⟩
section
variable {X:Cx} {K:aaa}
def iOp (C:Int->Int->Prop) [∀i j,Decidable (C i j)] (g:Int->Int->D):D->D->Res D
 | .int i,.int j=>must (C i j) (.ok (g i j))
 |_,_=> .stuck
def Uw {C:Int->Int->Prop} [∀i j,Decidable (C i j)] {g:Int->Int->D} {a b d:D} (h:iOp C g a b= .ok d): ∃i j,a= .int i/\b= .int j/\C i j/\d=g i j:=by
 unfold iOp at h
 split at h
 · obtain ⟨h1,h2⟩:=jy h;cases h2;exact ⟨_,_,rfl,rfl,h1,rfl⟩
 · cases h
def od_I {C C':Int->Int->Prop} [∀i j,Decidable (C i j)] {h:Int->Int->V} {g:Int->Int->D} (w: ∀i j,C i j->C' i j) (r: ∀i j,Sc K (h i j) (g i j)):OpS K (rI C' h) (iOp C g):=by
 intro x y H a b d Q ra rb e q;obtain ⟨i,j,rfl,rfl,hc,rfl⟩:=Uw e;exact ⟨i,j,ra.intE,rb.intE,w i j hc,q _ (r i j)⟩
abbrev QN:Int->Int->Prop:=fun _ _=>True
instance: ∀i j,Decidable (QN i j):=fun _ _=>inferInstanceAs (Decidable True)
def vB {h:Int->Int->V} {g:Int->Int->D} (r: ∀i j,Sc K (h i j) (g i j)):OpS K (rI0 h) (iOp QN g):=by
 intro x y H a b d Q ra rb e q;obtain ⟨i,j,rfl,rfl,hc,rfl⟩:=Uw e;exact ⟨i,j,ra.intE,rb.intE,q _ (r i j)⟩
def jer {v:V} {d:D} {H:Hp} (h:Sc K v d):NewTop H v:=fun a e=>absurd e (h.2 a)
def addD:D->D->Res D
 | .int i,.int j=> .ok (.int (i+j))
 | .str i,.str j=>must (i.length+j.length<=aae) (.ok (.str (i++j)))
 | .lst a,.lst b=>must (a.length+b.length<=aae) (.ok (.lst (a++b)))
 | .tup a,.tup b=>must (a.isEmpty=false/\a.length+b.length<=aae) (.ok (.tup (a++b)))
 |_,_=> .stuck
def jn:OpR X (abH .Add) (fun x y H Q=>rI0 (fun i j=> .int (i+j)) x y H Q\/(∃i j,x= .str i/\y= .str j/\i.length+j.length<=aae/\Q (.str (i++j)) H)\/rCat x y H Q\/jal X.K x y H Q):=
 op_add.or (op_add_str.or (op_cat.or jaE))
def Reps.len_app {A:Xl} {H:Hp} {xs ys:List V} {a b:List D} (r:Reps K A H xs a) (s:Reps K A H ys b) (h:a.length+b.length<=aae):xs.length+ys.length<=aae:=by rw [r.length,s.length];exact h
def orA {A:Xl} {H:Hp}: ∀c,A c->(H c=none\/A c):=fun _ z=> .inr z
def jz:OpD K (fun x y H Q=>rI0 (fun i j=> .int (i+j)) x y H Q\/(∃i j,x= .str i/\y= .str j/\i.length+j.length<=aae/\Q (.str (i++j)) H)\/rCat x y H Q\/jal K x y H Q) addD:=by
 intro A x y H a b d Q ra rb e q;unfold addD at e
 split at e
 · cases e;exact .inl ⟨_,_,ra.intE,rb.intE,q _ H (Same.refl H) (.int _) (jer (jef (K:=K) _))⟩
 · obtain ⟨h1,h2⟩:=jy e;cases h2;have hl: ∀i j:Str,i.length+j.length<=aae->(i++j).length<=aae:=fun i j h=>by rw [aa8];exact h
   exact .inr (.inl ⟨_,_,ra.strE.1,rb.strE.1,h1,q _ H (Same.refl H) (.str _ (hl _ _ h1)) (jer (jeq (K:=K) _ (hl _ _ h1)))⟩)
 · obtain ⟨h3,h4⟩:=jy e;cases h4;obtain ⟨l,xs,rfl,hl,_,rx⟩:=ra.lstE;obtain ⟨l',ys,rfl,hl',_,ry⟩:=rb.lstE;refine .inr (.inr (.inl ⟨l,l',xs,ys,rfl,rfl,hl,hl',rx.low.len_app ry.low h3,fun p hp=>q _ _ (Same.upd hp) ?_ (zU (Same.refl H) hp)⟩));exact .lst jo (.inl hp) (((rx.low.append ry.low).laid hp).weak fun c z=>⟨.inr z.1,z.2⟩)
 · obtain ⟨⟨h3,h4⟩,h5⟩:=jy e;cases h5;obtain ⟨l,xs,rfl,hl,rx⟩:=ra.tupE;obtain ⟨l',ys,rfl,hl',ry⟩:=rb.tupE;refine .inr (.inr (.inr ⟨l,l',xs,ys,rfl,rfl,.of hl,.of hl',fun z=>?_,rx.len_app ry h4,fun z=>?_,fun z p hp=>q _ _ (Same.upd hp) ?_ (zU (Same.refl H) hp)⟩))
   · subst z;cases rx;cases h3
   · subst z;cases ry;rw [aaV] at q;refine q _ H (Same.refl H) (.tup hl (rx.weak orA)) fun a e o q' m=>?_
     cases e;rw [hl] at q';cases q';exact m
   · exact .tup jo (((rx.append ry).weak orA).grow (Same.upd hp))
 · cases e
def YE:OpS K (rI0 fun i j=> .int (i-j)) (iOp QN fun i j=> .int (i-j)):=vB fun i j=>jef _
abbrev MulC:Int->Int->Prop:=fun i j=>abx i+abx j<=134217728
def J9:OpR X (abH .Mult) (rI MulC fun i j=> .int (i*j)):=opI fun _ _ _ _ _ _ _ hc q=>mul_int q (IntMulOk.of_le (aas _) (aas _) hc)
def WH:OpS K (rI MulC fun i j=> .int (i*j)) (iOp MulC fun i j=> .int (i*j)):=od_I (fun _ _ h=>h) fun i j=>jef _
abbrev DivC:Int->Int->Prop:=fun _ j=>0<j/\j<1073741824
def za:OpS K (rI CDiv fun i j=> .int (i/j)) (iOp DivC fun i j=> .int (i/j)):=od_I (fun _ _ h=>h) fun i j=>jef _
abbrev PosC:Int->Int->Prop:=fun _ j=>0<j
def wE:OpS K (rI (fun _ j=>0<j) fun i j=> .int (i%j)) (iOp PosC fun i j=> .int (i%j)):=od_I (fun _ _ h=>h) fun i j=>jef _
abbrev PowC:Int->Int->Prop:=fun i j=>0<=j/\j<=1000000/\i.natAbs<2^64
def jcx:OpS K (rI CPow fun i j=> .int (i^j.toNat)) (iOp PowC fun i j=> .int (i^j.toNat)):=od_I (fun _ _ h=>h) fun i j=>jef _
def XB:OpS K (rI0 fun i j=> .bl (decide (i<j))) (iOp QN fun i j=> .bl (decide (i<j))):=vB fun i j=>jee _
def QK:OpS K (rI0 fun i j=> .bl (decide (i<=j))) (iOp QN fun i j=> .bl (decide (i<=j))):=vB fun i j=>jee _
def WI:OpS K (rI0 fun i j=> .bl (decide (j<i))) (iOp QN fun i j=> .bl (decide (j<i))):=vB fun i j=>jee _
def inS (i j:Str):Bool:=!(ack j i 0 j.length 1).isEmpty
def inD:D->D->Res D
 | .str i,.str j=> .ok (.bl (inS i j))
 |_,_=> .stuck
def VW:OpS K (fun x y H Q=> ∃i j,x= .str i/\y= .str j/\Q (.bl (!(ack j i 0 j.length 1).isEmpty)) H) inD:=by
 intro x y H a b d Q ra rb e q;unfold inD at e
 split at e
 · cases e;exact ⟨_,_,ra.strE.1,rb.strE.1,q _ (jee _)⟩
 · cases e
def D.isNon:D->Bool
 | .non=>true
 |_=>false
def isN:D->D->Res D
 |a,.non=> .ok (.bl a.isNon)
 |_,_=> .stuck
def YF:OpS K (fun x y H Q=>y= .non/\Q (.bl (decide (x= .non))) H) isN:=by
 intro x y H a b d Q ra rb e q;unfold isN at e
 split at e
 · cases e;refine ⟨rb.nonE,?_⟩;have:decide (x=V.non)=a.isNon:=by cases ra<;>simp [D.isNon]
   rw [this];exact q _ (jee _)
 · cases e
def lenD:List D->Res D
 | [.lst ds]=> .ok (.int ds.length)
 | [.scr ds]=> .ok (.int ds.length)
 | [.tup ds]=> .ok (.int ds.length)
 | [.str z]=> .ok (.int z.length)
 |_=> .stuck
def jY:CallR X (.builtin "len") (fun xs H Q=>(∃p ys,xs=[.ref p]/\(SqL X.K H p ys\/SqT X.K H p ys)/\Q (.int ys.length) H)\/(∃z,xs=[.str z]/\z.length<=aae/\Q (.int z.length) H)):=call_len_seq.or W5
def zF:kO K (fun xs H Q=>(∃p ys,xs=[.ref p]/\(SqL K H p ys\/SqT K H p ys)/\Q (.int ys.length) H)\/(∃z,xs=[.str z]/\z.length<=aae/\Q (.int z.length) H)) lenD:=by
 intro xs H ds d Q r e q;unfold lenD at e
 split at e
 · cases e;obtain ⟨v,rfl,r1⟩:=r.one;obtain ⟨p,ys,rfl,hp,_,ry⟩:=r1.lstE;exact .inl ⟨p,ys,rfl,.inl (.of hp),by rw [ry.length];exact q _ (jef _)⟩
 · cases e;obtain ⟨v,rfl,r1⟩:=r.one;obtain ⟨p,ys,rfl,hp,ry⟩:=r1.scrE;exact .inl ⟨p,ys,rfl,.inl hp.sql,by rw [ry.length];exact q _ (jef _)⟩
 · cases e;obtain ⟨v,rfl,r1⟩:=r.one;obtain ⟨p,ys,rfl,hp,ry⟩:=r1.tupE;exact .inl ⟨p,ys,rfl,.inr (.of hp),by rw [ry.length];exact q _ (jef _)⟩
 · cases e;obtain ⟨v,rfl,r1⟩:=r.one;obtain ⟨rfl,hz⟩:=r1.strE;exact .inr ⟨_,rfl,hz,q _ (jef _)⟩
 · cases e
def JW:List D->Res D
 | [.lst ds]=>(.ok (.tup ds))
 | [.tup ds]=>(.ok (.tup ds))
 |_=> .stuck
def Vf {H:Hp} {p:Addr} {xs:List V} (h:H p=some (.tup xs)):NewTop H (.ref p):=fun a e o q m=>by
 cases e;rw [h] at q;cases q;exact m
def Wa:kP K (fun xs H Q=> ∃p ys,xs=[.ref p]/\((SqL K H p ys/\ ∀l,H l=none->Q (.ref l) (upd H l (.tup ys)))\/(SqT K H p ys/\Q (.ref p) H))) JW:=by
 intro A xs H ds d Q r e q;unfold JW at e
 split at e
 · cases e;obtain ⟨v,rfl,r1⟩:=r.one;obtain ⟨p,ys,rfl,hp,_,ry⟩:=r1.lstE;exact ⟨p,ys,rfl,.inl ⟨.of hp,fun l hl=>q _ _ (Same.upd hl) (.tup jo ((ry.low.weak orA).grow (Same.upd hl))) (zU (Same.refl H) hl)⟩⟩
 · cases e;obtain ⟨v,rfl,r1⟩:=r.one;obtain ⟨p,ys,rfl,hp,ry⟩:=r1.tupE;exact ⟨p,ys,rfl,.inr ⟨.of hp,q _ H (Same.refl H) (.tup hp (ry.weak orA)) (Vf hp)⟩⟩
 · cases e
def minD:List D->Res D
 | [.int i,.int j]=> .ok (.int (if j<i then j else i))
 |_=> .stuck
def jc6:kO K (fun xs H Q=> ∃i j,xs=[.int i,.int j]/\Q (.int (if j<i then j else i)) H) minD:=by
 intro xs H ds d Q r e q;unfold minD at e
 split at e
 · cases e;obtain ⟨v,v',rfl,r1,r2⟩:=r.two;cases r1.intE;cases r2.intE;exact ⟨_,_,rfl,q _ (jef _)⟩
 · cases e
def tyN:D->Option String
 | .non=>some "NoneType"
 | .bl _=>some "bool"
 | .int _=>some "int"
 | .str _=>some "str"
 | .tup _=>some "tuple"
 | .lst _=>some "list"
 | .scr _=>none
 | .dic _ _=>some "dict"
 | .dit _ _=>some "dict"
 | .exn _=>none
 | .fdc _ _=>none
 | .hdc _ _=>none
 | .obj _ _ _=>none
 | .mem _ _=>none
 | .nst _=>none
def jde {A:Xl} {H:Hp} {v:V} {d:D} {n:String} (r:Rep K A H v d) (h:tyN d=some n):TyOf K H v (.type n):=by
 cases r with
 |non=>cases h;exact .non
 |bl b=>cases h;exact .bl b
 |int i=>cases h;exact .int i
 |str x _=>cases h;exact .str x
 |tup e _=>cases h;exact .tup e
 |lst e _ _=>cases h;exact .lst e
 |lsk _ _=>cases h
 |dic e _ _ _ _=>cases h;exact .dK e
 |dit e _ _ _ _=>cases h;exact .dT e
 |exn _ _ _=>cases h
 |fdc _ _ _ _=>cases h
 |hdc _ _ _ _=>cases h
 |obj _ _ _ _ _=>cases h
 |mem _ _=>cases h
 |nst _ _ _ _ _=>cases h
def isTy (T n:String):Bool:=n==T|| (T== "int" &&n== "bool")
def IsTy (T:String):Prop:= ∀(K:aaa) (n:String),n∈["NoneType", "bool", "int", "str", "tuple", "list", "dict"]->aaR K (.type n) (.type T)=some (isTy T n)
def jbR {d:D} {n:String} (h:tyN d=some n):n∈["NoneType", "bool", "int", "str", "tuple", "list", "dict"]:=by
 cases d<;>first| (cases h;done)| (cases h;decide)
def ZR {T:String} (h: ∀(K:aaa),aaR K (.type "NoneType") (.type T)=some (isTy T "NoneType")/\aaR K (.type "bool") (.type T)=some (isTy T "bool")/\aaR K (.type "int") (.type T)=some (isTy T "int")/\
  aaR K (.type "str") (.type T)=some (isTy T "str")/\aaR K (.type "tuple") (.type T)=some (isTy T "tuple")/\aaR K (.type "list") (.type T)=some (isTy T "list")/\aaR K (.type "dict") (.type T)=some (isTy T "dict")):IsTy T:=by
 intro K n hn;obtain ⟨h1,h2,h3,h4,h5,h6,h7⟩:=h K;simp at hn;rcases hn with rfl|rfl|rfl|rfl|rfl|rfl|rfl<;>assumption
def vJ:IsTy "int" :=ZR fun K=>⟨rfl,rfl,rfl,rfl,rfl,rfl,rfl⟩
def Ur:IsTy "bool" :=ZR fun K=>⟨rfl,rfl,rfl,rfl,rfl,rfl,rfl⟩
def ZQ:IsTy "str" :=ZR fun K=>⟨rfl,rfl,rfl,rfl,rfl,rfl,rfl⟩
def xZ:IsTy "tuple" :=ZR fun K=>⟨rfl,rfl,rfl,rfl,rfl,rfl,rfl⟩
def isiD (T:String) (d:D):Res D:=match tyN d with
 |some n=> .ok (.bl (isTy T n))
 |none=> .stuck
def uf (T:String) (h:IsTy T):CallR X (.builtin "isinstance") (fun xs H Q=> ∃x d,xs=[x,.ty T]/\Rep X.K Any H x d/\ ∃b,isiD T d= .ok (.bl b)/\Q (.bl b) H):=by
 rintro pins s σ H xs us Q I r ⟨x,d,ex,rp,b,e,q⟩;subst ex;obtain ⟨u,w',rfl,r1,r2⟩:=Vc r;cases (show w'=Value.type T from r2);unfold isiD at e
 split at e
 · rename_i n hn;cases e;refine Uq I r1 (jde rp hn) (h X.K n (jbR hn)) fun tk=>⟨.bl _,H,I.tok tk,rfl,q⟩
 · cases e
def isiF (T:String) (f:TN):Sl->Res D:=fun env=>f env>>=isiD T
def yS (T:String) (Ty:Str) {l l':Lv} {e:Expr} {f:TN} {p p2 pos:Pos} (ht:IsTy T) (he:DE X l e f) (hg:Gl X "isinstance") (hm:X.mg "isinstance" =none) (hg2:Gl X Ty) (hm2:X.mg Ty=none) (hv:aby Ty=some (.type T))
   (hn:Ty≠ "__name__" :=by decide) (hd:Zu Ty:=by decide) (hs:aac [e,.Name Ty p2] X.env=(false,eval e X.env)::aac [.Name Ty p2] X.env:=by exact jj rfl)
   (hs2:aac [.Name Ty p2] X.env=(false,eval (.Name Ty p2) X.env)::aac [] X.env:=by exact jj rfl) (hpl:(aa1 pos (aac [.Name Ty p2] X.env)).any (·.1)=false:=by exact jK rfl):
   DE X l' (.Call (.Name "isinstance" p) [e,.Name Ty p2] [] pos) (isiF T f):=by
 with_unfolding_all exact (
  PE.imp (wM (uf T ht) hg hm acO (j5 he (j5 (VM (v:= .ty T) hg2 hm2 hv rfl hn hd) zn hs2) hs) (by decide) (by decide) hs hpl) fun σ H Q=>by
   rintro ⟨G,H0,env,d,k,ef,q⟩;obtain ⟨a,e1,e2⟩:=jc ef;refine ⟨G,H0,env,a,k,e1,fun v H' s r _=>?_⟩
   have hb: ∃b,d= .bl b:=by
    unfold isiD at e2
    split at e2
    · cases e2;exact ⟨_,rfl⟩
    · cases e2
   obtain ⟨b,rfl⟩:=hb
   exact ⟨v,a,rfl,r.weak Lv.weak_b,b,e2,q _ H' s (.bl b) (jee (K:=X.K) b).T⟩)
def X5:List D->Option (List Bool)
 | []=>some []
 | .bl b::r=>(X5 r).map (b:: ·)
 |_=>none
theorem W7: ∀ {ds:List D} {bs:List Bool},X5 ds=some bs->ds=bs.map D.bl
 | [],bs,h=>by cases h;rfl
 |d::r,bs,h=>by
  cases d with
  |bl b=>
   simp only [X5,Option.map_eq_some_iff] at h;obtain ⟨bs',h1,rfl⟩:=h;rw [W7 h1];rfl
  |_=>cases h
def ug (bs:List Bool):X5 (bs.map D.bl)=some bs:=by
 induction bs with
 |nil=>rfl
 |cons b r ih=>simp [X5,ih]
def allD:List D->Res D
 | [.lst ds]=>match X5 ds with
  |some bs=> .ok (.bl (bs.all id))
  |none=> .stuck
 |_=> .stuck
theorem QX {A:Xl} {H:Hp}: ∀ {bs:List Bool} {xs:List V},Reps K A H xs (bs.map D.bl)->xs=bs.map V.bl
 | [],_,.nil=>rfl
 |b::bs,_,.cons h t=>by rw [h.blE,QX t];rfl
theorem QQ: ∀ {bs:List Bool} {us:List Value},Vals (bs.map V.bl) us->us=bs.map ab2
 | [],_,.nil=>rfl
 |b::bs,_,.cons h t=>by
  rw [QQ t];have:_=ab2 b:=h;rw [this];rfl
def ky (hc:X.calm=true):CallR X (.builtin "all") (fun xs H Q=> ∃(p:Addr) (bs:List Bool),xs=[.ref p]/\SqL X.K H p (bs.map V.bl)/\Q (.bl (bs.all id)) H):=by
 rintro pins s σ H xs us Q I r ⟨p,bs,ex,hq,q⟩;subst ex;obtain ⟨u,rfl,ru⟩:=Xf r;cases ru;obtain ⟨its,rv,pl,hz⟩:=I.list hq;have hits:=QQ rv;subst hits;refine call_all_walk (wpAny_pyIter_list pl.isList ?_)
 have hne:p≠s.heap.objs.size:=by
   obtain ⟨o,n,e,_⟩:=pl;exact aa0 (aau e)
 refine ⟨s.heap.objs.size,_,_,_,_,_,fun i=>(bs[i]?).getD true,rfl,Walks.list (show X.A.in1.handled=none from I.ok.hd hc) s.heap.objs.size p hne (bs.map ab2).toArray,⟨⟨_,aaG _ rfl,rfl,rfl⟩,pl.isList.at fun o e=>aak _ e⟩,?_,fun h' tk kk=>?_⟩
 · intro i v s' Q' E' hP hQ;have hP':(bs.map ab2)[i]?=some v:=by simpa using hP
   rw [aaW] at hP'
   cases e:bs[i]? with
   |none=>rw [e] at hP';cases hP'
   |some b=>
    rw [e] at hP';cases hP';dsimp only at hQ;rw [e] at hQ;exact abf hQ
 · have hn:(bs.map ab2).toArray.size=bs.length:=by simp
   have e:((abu (bs.map ab2).toArray.size).all fun i=>(bs[i]?).getD true)=bs.all id:=by
    rw [hn,ab1,aaT,aaT]
    constructor
    · intro hh b hb;obtain ⟨i,hi,rfl⟩:=List.mem_iff_getElem.mp hb;have:=hh i (ab9.mpr hi);rw [aao hi] at this;exact this
    · intro hh i hi;have hi':=ab9.mp hi;rw [aao hi'];exact hh _ (abC hi')
   rw [e];refine ⟨.bl _,H,?_,rfl,q⟩
   exact I.kept fun b o e=>kk b o (by
    intro z;have hb:b=s.heap.objs.size:=by simpa using z
    exact absurd (aau e) (by rw [hb];exact abI _)) (aak _ e)
def jc7:kO K (fun xs H Q=> ∃(p:Addr) (bs:List Bool),xs=[.ref p]/\SqL K H p (bs.map V.bl)/\Q (.bl (bs.all id)) H) allD:=by
 intro xs H ds d Q r e q;unfold allD at e
 split at e
 · split at e
   · rename_i bs hbs;cases e;obtain ⟨v,rfl,r1⟩:=r.one;obtain ⟨p,ys,rfl,hp,_,ry⟩:=r1.lstE;rw [W7 hbs] at ry;have:=QX ry;subst this;exact ⟨p,bs,rfl,.of hp,q _ (jee _)⟩
   · cases e
 · cases e
end
end M
namespace M
open PySem PySem.Spec L2
open PyProof.Rows hiding St
open PySem.SeqAt (EqAt RcAt RcNeAt)
mutual
theorem D.ind {P:D->Prop} (h0:P .non) (h1: ∀b,P (.bl b)) (h2: ∀i,P (.int i)) (h3: ∀x,P (.str x)) (h4: ∀ds,(∀d∈ds,P d)->P (.tup ds)) (h5: ∀ds,(∀d∈ds,P d)->P (.lst ds))
  (h6: ∀ds,(∀d∈ds,P d)->P (.scr ds)) (h7:(∀ks ds,(∀d∈ds,P d)->P (.dic ks ds))/\(∀ks ds,(∀d∈ds,P d)->P (.dit ks ds))/\(∀c,P (.exn c))/\(∀ks ds,(∀d∈ds,P d)->P (.fdc ks ds))/\(∀ks ds,(∀d∈ds,P d)->P (.hdc ks ds))/\(∀c ns ds,(∀d∈ds,P d)->P (.obj c ns ds))/\(∀B Φ,P (.mem B Φ))/\ ∀ds,P (.nst ds)): ∀d,P d
 | .non=>h0
 | .bl b=>h1 b
 | .int i=>h2 i
 | .str x=>h3 x
 | .tup ds=>h4 ds (D.inds h0 h1 h2 h3 h4 h5 h6 h7 ds)
 | .lst ds=>h5 ds (D.inds h0 h1 h2 h3 h4 h5 h6 h7 ds)
 | .scr ds=>h6 ds (D.inds h0 h1 h2 h3 h4 h5 h6 h7 ds)
 | .dic ks ds=>h7.1 ks ds (D.inds h0 h1 h2 h3 h4 h5 h6 h7 ds)
 | .dit ks ds=>h7.2.1 ks ds (D.inds h0 h1 h2 h3 h4 h5 h6 h7 ds)
 | .exn c=>h7.2.2.1 c
 | .fdc ks ds=>h7.2.2.2.1 ks ds (D.inds h0 h1 h2 h3 h4 h5 h6 h7 ds)
 | .hdc ks ds=>h7.2.2.2.2.1 ks ds (D.inds h0 h1 h2 h3 h4 h5 h6 h7 ds)
 | .obj c ns ds=>h7.2.2.2.2.2.1 c ns ds (D.inds h0 h1 h2 h3 h4 h5 h6 h7 ds)
 | .mem B Φ=>h7.2.2.2.2.2.2.1 B Φ
 | .nst ds=>h7.2.2.2.2.2.2.2 ds
theorem D.inds {P:D->Prop} (h0:P .non) (h1: ∀b,P (.bl b)) (h2: ∀i,P (.int i)) (h3: ∀x,P (.str x)) (h4: ∀ds,(∀d∈ds,P d)->P (.tup ds)) (h5: ∀ds,(∀d∈ds,P d)->P (.lst ds))
  (h6: ∀ds,(∀d∈ds,P d)->P (.scr ds)) (h7:(∀ks ds,(∀d∈ds,P d)->P (.dic ks ds))/\(∀ks ds,(∀d∈ds,P d)->P (.dit ks ds))/\(∀c,P (.exn c))/\(∀ks ds,(∀d∈ds,P d)->P (.fdc ks ds))/\(∀ks ds,(∀d∈ds,P d)->P (.hdc ks ds))/\(∀c ns ds,(∀d∈ds,P d)->P (.obj c ns ds))/\(∀B Φ,P (.mem B Φ))/\ ∀ds,P (.nst ds)): ∀ds:List D,∀d∈ds,P d
 | [],_,h=>by cases h
 |x::r,d,h=>by
  have p:=D.ind h0 h1 h2 h3 h4 h5 h6 h7 x;have q:=D.inds h0 h1 h2 h3 h4 h5 h6 h7 r;rcases aaw.mp h with z|z
  · rw [z];exact p
  · exact q d z
end
mutual
def D.dep:D->Nat
 | .tup ds=>D.deps ds+1
 | .lst ds=>D.deps ds+1
 |_=>0
def D.deps:List D->Nat
 | []=>0
 |d::ds=>max (D.dep d) (D.deps ds)
end
mutual
def D.eqb:D->Bool
 | .scr _=>false
 | .dic _ _=>false
 | .dit _ _=>false
 | .exn _=>false
 | .fdc _ _=>false
 | .hdc _ _=>false
 | .obj _ _ _=>false
 | .mem _ _=>false
 | .nst _=>false
 | .tup ds=>D.eqbs ds
 | .lst ds=>D.eqbs ds
 |_=>true
def D.eqbs:List D->Bool
 | []=>true
 |d::ds=>D.eqb d&&D.eqbs ds
end
mutual
def eqD:D->D->Bool
 | .non,.non=>true
 | .bl a,.bl b=>a==b
 | .bl a,.int j=>(if a then 1 else 0)==j
 | .int i,.bl b=>i==(if b then 1 else 0)
 | .int i,.int j=>i==j
 | .str x,.str y=>x==y
 | .tup a,.tup b=>eqDs a b
 | .lst a,.lst b=>eqDs a b
 |_,_=>false
def eqDs:List D->List D->Bool
 | [],[]=>true
 |a::as,b::bs=>eqD a b&&eqDs as bs
 |_,_=>false
end
theorem yR: ∀ {ds:List D} {d:D},d∈ds->D.dep d<=D.deps ds
 |x::r,d,h=>by
  simp only [D.deps];rcases aaw.mp h with rfl|h
  · omega
  · have:=yR h;omega
theorem ZZ: ∀ {ds:List D} {d:D},D.eqbs ds=true->d∈ds->D.eqb d=true
 |x::r,d,hb,h=>by
  simp only [D.eqbs,aap] at hb;rcases aaw.mp h with rfl|h
  · exact hb.1
  · exact ZZ hb.2 h
theorem xJ: ∀ {ds:List D},(∀d∈ds,D.eqb d=true->eqD d d=true)->D.eqbs ds=true->eqDs ds ds=true
 | [],_,_=>by simp [eqDs]
 |d::ds,h,hb=>by
  simp only [D.eqbs,aap] at hb;simp only [eqDs,aap];exact ⟨h d aaA hb.1,xJ (fun x hx=>h x (aar _ hx)) hb.2⟩
def Z0 (d:D):D.eqb d=true->eqD d d=true:=by
 refine D.ind (P:=fun d=>D.eqb d=true->eqD d d=true) ?_ ?_ ?_ ?_ ?_ ?_ ?_ ?_ d
 · intro _;simp [eqD]
 · intro b _;simp [eqD]
 · intro i _;simp [eqD]
 · intro x _;simp [eqD]
 · intro ds ih hb;simp only [eqD];exact xJ ih (by simpa only [D.eqb] using hb)
 · intro ds ih hb;simp only [eqD];exact xJ ih (by simpa only [D.eqb] using hb)
 · intro ds ih hb;simp [D.eqb] at hb
 · exact ⟨by intro ks ds ih hb;simp [D.eqb] at hb,by intro ks ds ih hb;simp [D.eqb] at hb,by intro c hb;simp [D.eqb] at hb,by intro ks ds ih hb;simp [D.eqb] at hb,by intro ks ds ih hb;simp [D.eqb] at hb,by intro c ns ds ih hb;simp [D.eqb] at hb,by intro B Φ hb;simp [D.eqb] at hb,by intro ds hb;simp [D.eqb] at hb⟩
section
variable {K:aaa} {H:Hp}
def Reps.inj_of {A A':Xl} {vs:List V} {ds ds':List D} (h: ∀d∈ds,∀(A A':Xl) v d',D.eqb d=true->D.eqb d'=true->Rep K A H v d->Rep K A' H v d'->d=d') (hb:D.eqbs ds=true) (hb':D.eqbs ds'=true) (r:Reps K A H vs ds) (r':Reps K A' H vs ds'):ds=ds':=by
 induction vs generalizing ds ds' with
 |nil=>cases r;cases r';rfl
 |cons v vs ih=>
  cases r with
  |cons r t=>
   cases r' with
   |cons r' t'=>
    simp only [D.eqbs,aap] at hb hb';rw [h _ aaA _ _ _ _ hb.1 hb'.1 r r',ih (fun d hd=>h d (aar _ hd)) hb.2 hb'.2 t t']
def Rep.inj (d:D): ∀(A A':Xl) v d',D.eqb d=true->D.eqb d'=true->Rep K A H v d->Rep K A' H v d'->d=d':=by
 refine D.ind (P:=fun d=> ∀(A A':Xl) v d',D.eqb d=true->D.eqb d'=true->Rep K A H v d->Rep K A' H v d'->d=d') ?_ ?_ ?_ ?_ ?_ ?_ ?_ ?_ d
 · intro A A' v d' _ _ r r';cases r.nonE;cases r';rfl
 · intro b A A' v d' _ _ r r';cases r.blE;cases r';rfl
 · intro b A A' v d' _ _ r r';cases r.intE;cases r';rfl
 · intro b A A' v d' _ _ r r';cases r.strE.1;cases r';rfl
 · intro ds ih A A' v d' hb hd' r r';obtain ⟨a,xs,rfl,ha,rs⟩:=r.tupE;have hb':D.eqbs ds=true:=by simpa only [D.eqb] using hb
   cases r' with
   |tup e rs'=>
    rw [ha] at e;cases e;rw [Reps.inj_of ih hb' (by simpa only [D.eqb] using hd') rs rs']
   |lst e _ _=>rw [ha] at e;cases e
   |lsk e _=>simp [D.eqb] at hd'
   |dic e _ _ _ _=>rw [ha] at e;cases e
   |dit e _ _ _ _=>rw [ha] at e;cases e
   |exn e _ _=>rw [ha] at e;cases e
   |fdc e _ _ _=>rcases e with ⟨e,_⟩| ⟨o,e⟩<;>(rw [ha] at e;cases e)
   |hdc e _ _ _=>obtain ⟨o,e⟩:=e;rw [ha] at e;cases e
   |obj e _ _ _ _=>rw [ha] at e;cases e
   |mem e _=>rw [ha] at e;cases e
   |nst e _ _ _ _=>rw [ha] at e;cases e
 · intro ds ih A A' v d' hb hd' r r';obtain ⟨a,xs,rfl,ha,_,rs⟩:=r.lstE;have hb':D.eqbs ds=true:=by simpa only [D.eqb] using hb
   cases r' with
   |tup e rs'=>rw [ha] at e;cases e
   |lst e _ rs'=>
    rw [ha] at e;cases e;rw [Reps.inj_of ih hb' (by simpa only [D.eqb] using hd') rs rs']
   |lsk e _=>simp [D.eqb] at hd'
   |dic e _ _ _ _=>rw [ha] at e;cases e
   |dit e _ _ _ _=>rw [ha] at e;cases e
   |exn e _ _=>rw [ha] at e;cases e
   |fdc e _ _ _=>rcases e with ⟨e,_⟩| ⟨o,e⟩<;>(rw [ha] at e;cases e)
   |hdc e _ _ _=>obtain ⟨o,e⟩:=e;rw [ha] at e;cases e
   |obj e _ _ _ _=>rw [ha] at e;cases e
   |mem e _=>rw [ha] at e;cases e
   |nst e _ _ _ _=>rw [ha] at e;cases e
 · intro ds ih A A' v d' hb;simp [D.eqb] at hb
 · exact ⟨by intro ks ds ih A A' v d' hb;simp [D.eqb] at hb,by intro ks ds ih A A' v d' hb;simp [D.eqb] at hb,by intro c A A' v d' hb;simp [D.eqb] at hb,by intro ks ds ih A A' v d' hb;simp [D.eqb] at hb,by intro ks ds ih A A' v d' hb;simp [D.eqb] at hb,by intro c ns ds ih A A' v d' hb;simp [D.eqb] at hb,by intro B Φ A A' v d' hb;simp [D.eqb] at hb,by intro ds A A' v d' hb;simp [D.eqb] at hb⟩
end
def UK (a b:List D) (j:Nat):Bool:=match a[j]?,b[j]? with
 |some x,some y=>eqD x y
 |_,_=>true
theorem x9: ∀(a b:List D),a.length=b.length->eqDs a b=(abu a.length).all (UK a b)
 | [],[],_=>by simp [eqDs]
 |x::a,y::b,h=>by
  have hl:a.length=b.length:=by simpa using h
  rw [aab,List.range_succ_eq_map,adb,List.all_map];simp only [eqDs];rw [x9 a b hl];congr 1
theorem yO: ∀(a b:List D),a.length≠b.length->eqDs a b=false
 | [],[],h=>absurd rfl h
 | [],y::b,_=>by simp [eqDs]
 |x::a,[],_=>by simp [eqDs]
 |x::a,y::b,h=>by
  simp only [eqDs];rw [yO a b (by simpa using h),Bool.and_false]
def Y8 (a b:List D):eqDs a b=((abu (min a.length b.length)).all (UK a b)&&a.length==b.length):=by
 by_cases h:a.length=b.length
 · rw [x9 a b h,h];simp
 · rw [yO a b h];simp [h]
section
variable {X:Cx} {pins:List (Addr×Obj)} {σ:L2.St} {H:Hp} {s:aad}
inductive Cm (X:Cx) (H:Hp) (s:aad):Value->D->Prop where
 |non:Cm X H s .none .non
 |bl (b:Bool):Cm X H s (.bool b) (.bl b)
 |int (i:Int) (t:Tok):Cm X H s (.int i t) (.int i)
 |str (x:Str) (t:Tok):Cm X H s (.str x t) (.str x)
 |tup {a:Addr} {xs:List V} {its:List Value} {ds:List D}:H a=some (.tup xs)->s.heap.IsTuple a its.toArray->Vals xs its->Reps X.K Any H xs ds->Cm X H s (.ref a) (.tup ds)
 |lst {a:Addr} {xs:List V} {its:List Value} {ds:List D}:H a=some (.lst xs)->s.heap.IsList a its.toArray->Vals xs its->Reps X.K Any H xs ds->Cm X H s (.ref a) (.lst ds)
def yT (I:Inv X pins σ H s) {v:V} {u:Value} {d:D} (r:Rep X.K Any H v d) (ru:RelV v u) (hb:D.eqb d=true):Cm X H s u d:=by
 cases r with
 |non=>cases ru;exact .non
 |bl b=>cases ru;exact .bl b
 |int i=>obtain ⟨t,rfl⟩:=ru;exact .int i t
 |str x _=>obtain ⟨t,rfl⟩:=ru;exact .str x t
 |tup e rs=>
  cases ru;obtain ⟨its,rv,p,hz⟩:=I.tuple (.of e);exact .tup e p rv rs
 |lst e _ rs=>
  cases ru;obtain ⟨its,rv,p,hz⟩:=I.list (.of e);exact .lst e p.isList rv rs.low
 |lsk _ _=>simp [D.eqb] at hb
 |dic _ _ _ _ _=>simp [D.eqb] at hb
 |dit _ _ _ _ _=>simp [D.eqb] at hb
 |exn _ _ _=>simp [D.eqb] at hb
 |fdc _ _ _ _=>simp [D.eqb] at hb
 |hdc _ _ _ _=>simp [D.eqb] at hb
 |obj _ _ _ _ _=>simp [D.eqb] at hb
 |mem _ _=>simp [D.eqb] at hb
 |nst _ _ _ _ _=>simp [D.eqb] at hb
def vW {A:aaZ} {xs ys:List V} {its its2:List Value} {a b:List D} (ra:Reps X.K Any H xs a) (rb:Reps X.K Any H ys b) (va:Vals xs its) (vb:Vals ys its2)
  (ih: ∀d∈a,∀(v v':V) (u u':Value) (d':D),Rep X.K Any H v d->RelV v u->Rep X.K Any H v' d'->RelV v' u'->D.eqb d=true->D.eqb d'=true->EqAt A.in1 s u u' (eqD d d')) (ha:D.eqbs a=true) (hb:D.eqbs b=true):
  ∀j (h1:j<its.toArray.size) (h2:j<its2.toArray.size),EqAt A.in1 s its.toArray[j] its2.toArray[j] (UK a b j):=by
 intro j h1 h2;have l1:=va.length;have l2:=vb.length;have l3:=ra.length;have l4:=rb.length;have j1:j<a.length:=by simp at h1;omega
 have j2:j<b.length:=by simp at h2;omega
 obtain ⟨v,e1,r1⟩:=ra.get (aao j1);obtain ⟨v',e2,r2⟩:=rb.get (aao j2);obtain ⟨u,e3,r3⟩:=va.get e1;obtain ⟨u',e4,r4⟩:=vb.get e2
 have g1:its.toArray[j]=u:=by
  have:=aax.mp e3;obtain ⟨_,q⟩:=this;simpa using q
 have g2:its2.toArray[j]=u':=by
  have:=aax.mp e4;obtain ⟨_,q⟩:=this;simpa using q
 rw [g1,g2];have e:UK a b j=eqD a[j] b[j]:=by unfold UK;rw [aao j1,aao j2]
 rw [e];exact ih _ (abC j1) v v' u u' _ r1 r3 r2 r4 (ZZ ha (abC j1)) (ZZ hb (abC j2))
def Y9 (I:Inv X pins σ H s) (d:D): ∀(A:aaZ) (v v':V) (u u':Value) (d':D),A.units+d.dep<cLine->Rep X.K Any H v d->RelV v u->Rep X.K Any H v' d'->RelV v' u'->D.eqb d=true->D.eqb d'=true->EqAt A s u u' (eqD d d'):=by
 refine D.ind (P:=fun d=> ∀(A:aaZ) (v v':V) (u u':Value) (d':D),A.units+d.dep<cLine->Rep X.K Any H v d->RelV v u->Rep X.K Any H v' d'->RelV v' u'->D.eqb d=true->D.eqb d'=true->EqAt A s u u' (eqD d d')) ?_ ?_ ?_ ?_ ?_ ?_ ?_ ?_ d
 · intro A v v' u u' d' hu r ru r' ru' hb hb';cases yT I r ru hb;have hu':A.units<cLine:=by simp only [D.dep] at hu;omega
   cases yT I r' ru' hb'<;>simp only [eqD]
   · exact EqAt.same _
   · exact EqAt.none_bool _
   · exact EqAt.none_int _ _
   · exact EqAt.none_str _ _
   · exact EqAt.none_tuple (by assumption) hu'
   · exact EqAt.none_list (by assumption) hu'
 · intro b A v v' u u' d' hu r ru r' ru' hb hb';cases yT I r ru hb;have hu':A.units<cLine:=by simp only [D.dep] at hu;omega
   cases yT I r' ru' hb'<;>simp only [eqD]
   · exact EqAt.bool_none _
   · exact EqAt.bool_bool _ _
   · exact EqAt.bool_int _ _ _
   · exact EqAt.bool_str _ _ _
   · exact EqAt.bool_tuple _ (by assumption) hu'
   · exact EqAt.bool_list _ (by assumption) hu'
 · intro i A v v' u u' d' hu r ru r' ru' hb hb';cases yT I r ru hb;have hu':A.units<cLine:=by simp only [D.dep] at hu;omega
   cases yT I r' ru' hb'<;>simp only [eqD]
   · exact EqAt.int_none _ _
   · exact EqAt.int_bool _ _ _
   · exact EqAt.int_int _ _ _ _
   · exact EqAt.int_str _ _ _ _
   · exact EqAt.int_tuple _ _ (by assumption) hu'
   · exact EqAt.int_list _ _ (by assumption) hu'
 · intro x A v v' u u' d' hu r ru r' ru' hb hb';cases yT I r ru hb;have hu':A.units<cLine:=by simp only [D.dep] at hu;omega
   cases yT I r' ru' hb'<;>simp only [eqD]
   · exact EqAt.str_none _ _
   · exact EqAt.str_bool _ _ _
   · exact EqAt.str_int _ _ _ _
   · exact EqAt.str_str _ _ _ _
   · exact EqAt.str_tuple _ _ (by assumption) hu'
   · exact EqAt.str_list _ _ (by assumption) hu'
 · intro ds ih A v v' u u' d' hu r ru r' ru' hb hb';have hu':A.units<cLine:=by simp only [D.dep] at hu;omega
   have c1:=yT I r ru hb;have c2:=yT I r' ru' hb'
   cases c1 with
   |tup e p rv rs=>
     cases c2 with
     |non=>simp only [eqD];exact EqAt.tuple_none p hu'
     |bl b=>simp only [eqD];exact EqAt.tuple_bool _ p hu'
     |int i t=>simp only [eqD];exact EqAt.tuple_int _ _ p hu'
     |str x t=>simp only [eqD];exact EqAt.tuple_str _ _ p hu'
     |lst e2 p2 rv2 rs2=>simp only [eqD];exact EqAt.tuple_list p p2 hu'
     | @tup a2 xs2 its2 ds2 e2 p2 rv2 rs2=>
      rename_i a1 xs1 its1
      by_cases z:a1=a2
      · subst z;have ed:=Rep.inj _ Any Any _ _ hb hb' (Rep.tup e rs) (Rep.tup e2 rs2);rw [←ed,Z0 _ hb];exact EqAt.same _
      · have q:=RcAt.tuples p p2 hu' (vW rs rs2 rv rv2 (fun d hd v v' u u' d' g1 g2 g3 g4 g5 g6=>ih d hd A.in1 v v' u u' d' (by
          have:=yR hd;simp only [D.dep] at hu;show A.units+1+d.dep<cLine
          omega) g1 g2 g3 g4 g5 g6) (by simpa only [D.eqb] using hb) (by simpa only [D.eqb] using hb'))
        have n1:its1.toArray.size=ds.length:=by rw [aag,←rv.length,rs.length]
        have n2:its2.toArray.size=ds2.length:=by rw [aag,←rv2.length,rs2.length]
        rw [n1,n2,←Y8] at q;simp only [eqD];exact EqAt.of_refs z q
 · intro ds ih A v v' u u' d' hu r ru r' ru' hb hb';have hu':A.units<cLine:=by simp only [D.dep] at hu;omega
   have c1:=yT I r ru hb;have c2:=yT I r' ru' hb'
   cases c1 with
   |lst e p rv rs=>
     cases c2 with
     |non=>simp only [eqD];exact EqAt.list_none p hu'
     |bl b=>simp only [eqD];exact EqAt.list_bool _ p hu'
     |int i t=>simp only [eqD];exact EqAt.list_int _ _ p hu'
     |str x t=>simp only [eqD];exact EqAt.list_str _ _ p hu'
     |tup e2 p2 rv2 rs2=>simp only [eqD];exact EqAt.list_tuple p p2 hu'
     | @lst a2 xs2 its2 ds2 e2 p2 rv2 rs2=>
      rename_i a1 xs1 its1;have n1:its1.toArray.size=ds.length:=by rw [aag,←rv.length,rs.length]
      have n2:its2.toArray.size=ds2.length:=by rw [aag,←rv2.length,rs2.length]
      by_cases z:a1=a2
      · subst z
        have ed:D.lst ds=D.lst ds2:=by
          rw [e] at e2;cases e2;rw [Reps.inj_of (fun d _ A A' v d'=>Rep.inj d A A' v d') (by simpa only [D.eqb] using hb) (by simpa only [D.eqb] using hb') rs rs2]
        rw [←ed,Z0 _ hb];exact EqAt.same _
      · simp only [eqD]
        by_cases hl:ds.length=ds2.length
        · have q:=RcAt.lists p p2 (by rw [n1,n2];exact hl) hu' (vW rs rs2 rv rv2 (fun d hd v v' u u' d' g1 g2 g3 g4 g5 g6=>ih d hd A.in1 v v' u u' d' (by
           have:=yR hd;simp only [D.dep] at hu;show A.units+1+d.dep<cLine
           omega) g1 g2 g3 g4 g5 g6) (by simpa only [D.eqb] using hb) (by simpa only [D.eqb] using hb'))
          rw [n1,←x9 ds ds2 hl] at q;exact EqAt.of_refs z q
        · rw [yO ds ds2 hl];exact EqAt.of_refs z (RcAt.lists_lengths p p2 (by rw [n1,n2];simp [hl]) hu')
 · intro ds ih A v v' u u' d' hu r ru r' ru' hb;simp [D.eqb] at hb
 · exact ⟨by intro ks ds ih A v v' u u' d' hu r ru r' ru' hb;simp [D.eqb] at hb,by intro ks ds ih A v v' u u' d' hu r ru r' ru' hb;simp [D.eqb] at hb,by intro c A v v' u u' d' hu r ru r' ru' hb;simp [D.eqb] at hb,by intro ks ds ih A v v' u u' d' hu r ru r' ru' hb;simp [D.eqb] at hb,by intro ks ds ih A v v' u u' d' hu r ru r' ru' hb;simp [D.eqb] at hb,by intro c ns ds ih A v v' u u' d' hu r ru r' ru' hb;simp [D.eqb] at hb,by intro B Φ A v v' u u' d' hu r ru r' ru' hb;simp [D.eqb] at hb,by intro ds A v v' u u' d' hu r ru r' ru' hb;simp [D.eqb] at hb⟩
def Yv (I:Inv X pins σ H s) {A:aaZ} {v v':V} {u u':Value} {d d':D} (hu:A.units+d.dep<cLine) (r:Rep X.K Any H v d) (ru:RelV v u) (r':Rep X.K Any H v' d') (ru':RelV v' u') (hb:D.eqb d=true) (hb':D.eqb d'=true):
  RcAt A s u u' (eqD d d')/\RcNeAt A s u u' (!eqD d d'):=by
 have hu':A.units<cLine:=by omega
 have c1:=yT I r ru hb;have c2:=yT I r' ru' hb'
 cases c1 with
 |non=>
  cases c2<;>simp only [eqD,abV,aa5]
  · exact ⟨RcAt.none_none,RcNeAt.none_none⟩
  · exact ⟨RcAt.none_bool _,RcNeAt.none_bool _⟩
  · exact ⟨RcAt.none_int _ _,RcNeAt.none_int _ _⟩
  · exact ⟨RcAt.none_str _ _,RcNeAt.none_str _ _⟩
  · exact ⟨RcAt.none_tuple (by assumption) hu',RcNeAt.none_tuple (by assumption) hu'⟩
  · exact ⟨RcAt.none_list (by assumption) hu',RcNeAt.none_list (by assumption) hu'⟩
 |bl b=>
  cases c2<;>simp only [eqD,abV,aa5]
  · exact ⟨RcAt.bool_none _,RcNeAt.bool_none _⟩
  · exact ⟨RcAt.bool_bool _ _,RcNeAt.bool_bool _ _⟩
  · exact ⟨RcAt.bool_int _ _ _,RcNeAt.bool_int _ _ _⟩
  · exact ⟨RcAt.bool_str _ _ _,RcNeAt.bool_str _ _ _⟩
  · exact ⟨RcAt.bool_tuple _ (by assumption) hu',RcNeAt.bool_tuple _ (by assumption) hu'⟩
  · exact ⟨RcAt.bool_list _ (by assumption) hu',RcNeAt.bool_list _ (by assumption) hu'⟩
 |int i t=>
  cases c2<;>simp only [eqD,abV,aa5]
  · exact ⟨RcAt.int_none _ _,RcNeAt.int_none _ _⟩
  · exact ⟨RcAt.int_bool _ _ _,RcNeAt.int_bool _ _ _⟩
  · exact ⟨RcAt.int_int _ _ _ _,RcNeAt.int_int _ _ _ _⟩
  · exact ⟨RcAt.int_str _ _ _ _,RcNeAt.int_str _ _ _ _⟩
  · exact ⟨RcAt.int_tuple _ _ (by assumption) hu',RcNeAt.int_tuple _ _ (by assumption) hu'⟩
  · exact ⟨RcAt.int_list _ _ (by assumption) hu',RcNeAt.int_list _ _ (by assumption) hu'⟩
 |str x t=>
  cases c2<;>simp only [eqD,abV,aa5]
  · exact ⟨RcAt.str_none _ _,RcNeAt.str_none _ _⟩
  · exact ⟨RcAt.str_bool _ _ _,RcNeAt.str_bool _ _ _⟩
  · exact ⟨RcAt.str_int _ _ _ _,RcNeAt.str_int _ _ _ _⟩
  · exact ⟨RcAt.str_str _ _ _ _,RcNeAt.str_str _ _ _ _⟩
  · exact ⟨RcAt.str_tuple _ _ (by assumption) hu',RcNeAt.str_tuple _ _ (by assumption) hu'⟩
  · exact ⟨RcAt.str_list _ _ (by assumption) hu',RcNeAt.str_list _ _ (by assumption) hu'⟩
 | @tup a1 xs1 its1 ds e p rv rs=>
  cases c2 with
  |non=>simp only [eqD,aa5];exact ⟨RcAt.tuple_none p hu',RcNeAt.tuple_none p hu'⟩
  |bl b=>simp only [eqD,aa5];exact ⟨RcAt.tuple_bool _ p hu',RcNeAt.tuple_bool _ p hu'⟩
  |int i t=>simp only [eqD,aa5];exact ⟨RcAt.tuple_int _ _ p hu',RcNeAt.tuple_int _ _ p hu'⟩
  |str x t=>simp only [eqD,aa5];exact ⟨RcAt.tuple_str _ _ p hu',RcNeAt.tuple_str _ _ p hu'⟩
  |lst e2 p2 rv2 rs2=>simp only [eqD,aa5];exact ⟨RcAt.tuple_list p p2 hu',RcNeAt.tuple_list p p2 hu'⟩
  | @tup a2 xs2 its2 ds2 e2 p2 rv2 rs2=>
    have n1:its1.toArray.size=ds.length:=by rw [aag,←rv.length,rs.length]
    have n2:its2.toArray.size=ds2.length:=by rw [aag,←rv2.length,rs2.length]
    have el:=vW rs rs2 rv rv2 (fun d hd v v' u u' d' g1 g2 g3 g4 g5 g6=>Y9 I d A.in1 v v' u u' d' (by
      have:=yR hd;simp only [D.dep] at hu;show A.units+1+d.dep<cLine
      omega) g1 g2 g3 g4 g5 g6) (by simpa only [D.eqb] using hb) (by simpa only [D.eqb] using hb')
    have q:=RcAt.tuples p p2 hu' el;have q2:=RcNeAt.tuples p p2 hu' el;rw [n1,n2,←Y8] at q q2;simp only [eqD];exact ⟨q,q2⟩
 | @lst a1 xs1 its1 ds e p rv rs=>
  cases c2 with
  |non=>simp only [eqD,aa5];exact ⟨RcAt.list_none p hu',RcNeAt.list_none p hu'⟩
  |bl b=>simp only [eqD,aa5];exact ⟨RcAt.list_bool _ p hu',RcNeAt.list_bool _ p hu'⟩
  |int i t=>simp only [eqD,aa5];exact ⟨RcAt.list_int _ _ p hu',RcNeAt.list_int _ _ p hu'⟩
  |str x t=>simp only [eqD,aa5];exact ⟨RcAt.list_str _ _ p hu',RcNeAt.list_str _ _ p hu'⟩
  |tup e2 p2 rv2 rs2=>simp only [eqD,aa5];exact ⟨RcAt.list_tuple p p2 hu',RcNeAt.list_tuple p p2 hu'⟩
  | @lst a2 xs2 its2 ds2 e2 p2 rv2 rs2=>
    have n1:its1.toArray.size=ds.length:=by rw [aag,←rv.length,rs.length]
    have n2:its2.toArray.size=ds2.length:=by rw [aag,←rv2.length,rs2.length]
    simp only [eqD]
    by_cases hl:ds.length=ds2.length
    · have el:=vW rs rs2 rv rv2 (fun d hd v v' u u' d' g1 g2 g3 g4 g5 g6=>Y9 I d A.in1 v v' u u' d' (by
       have:=yR hd;simp only [D.dep] at hu;show A.units+1+d.dep<cLine
       omega) g1 g2 g3 g4 g5 g6) (by simpa only [D.eqb] using hb) (by simpa only [D.eqb] using hb')
      have q:=RcAt.lists p p2 (by rw [n1,n2];exact hl) hu' el;have q2:=RcNeAt.lists p p2 (by rw [n1,n2];exact hl) hu' el;rw [n1,←x9 ds ds2 hl] at q q2;exact ⟨q,q2⟩
    · rw [yO ds ds2 hl];exact ⟨RcAt.lists_lengths p p2 (by rw [n1,n2];simp [hl]) hu',RcNeAt.lists_lengths p p2 (by rw [n1,n2];simp [hl]) hu'⟩
end
section
variable {X:Cx}
def Wm:D->D->Bool
 | .lst a,.lst b=>a.length !=b.length
 |_,_=>false
def Wj {a b:D} (h:Wm a b=true):eqD a b=false:=by
 unfold Wm at h
 split at h
 · simp only [eqD];exact yO _ _ (by simpa using h)
 · cases h
def EqC (a b:D):Prop:=(D.eqb a=true/\D.eqb b=true/\a.dep<=190)\/Wm a b=true
instance (a b:D):Decidable (EqC a b):=inferInstanceAs (Decidable (_\/_))
def rEqD (K:aaa) (neg:Bool):R2:=fun x y H Q=> ∃a b,Rep K Any H x a/\Rep K Any H y b/\EqC a b/\Q (.bl (if neg then !eqD a b else eqD a b)) H
def Wk {pins:List (Addr×Obj)} {σ:L2.St} {H:Hp} {s:aad} (I:Inv X pins σ H s) {A:aaZ} {v v':V} {u u':Value} {d d':D} (hu:A.units<cLine) (r:Rep X.K Any H v d) (ru:RelV v u) (r':Rep X.K Any H v' d') (ru':RelV v' u') (h:Wm d d'=true):
   RcAt A s u u' false/\RcNeAt A s u u' true:=by
 unfold Wm at h
 split at h
 · obtain ⟨a,xs,rfl,ha,_,rs⟩:=r.lstE;obtain ⟨a',xs',rfl,ha',_,rs'⟩:=r'.lstE;cases ru;cases ru';obtain ⟨its,rv,p,_⟩:=I.list (.of ha);obtain ⟨its',rv',p',_⟩:=I.list (.of ha')
   have e:(its.toArray.size !=its'.toArray.size)=true:=by
    rw [aag,aag,←rv.length,←rv'.length,rs.length,rs'.length];exact h
   exact ⟨RcAt.lists_lengths p.isList p'.isList e hu,RcNeAt.lists_lengths p.isList p'.isList e hu⟩
 · cases h
def zo (hu:X.A.units+200<cLine):OpR X (abl .Eq) (rEqD X.K false):=by
 rintro pins s σ H x y v u Q I rx ry ⟨a,b,ra,rb,hc,q⟩;rcases hc with ⟨ha,hb,hd⟩|hc
 · exact (Yv I (by omega) ra rx rb ry ha hb).1 X.prog X.w X.xe _ ⟨.bl _,H,I,rfl,q⟩
 · have q':Q (.bl false) H:=by have:=Wj hc;simpa [this] using q
   exact (Wk I (by omega) ra rx rb ry hc).1 X.prog X.w X.xe _ ⟨.bl _,H,I,rfl,q'⟩
def YC (hu:X.A.units+200<cLine):OpR X (abl .NotEq) (rEqD X.K true):=by
 rintro pins s σ H x y v u Q I rx ry ⟨a,b,ra,rb,hc,q⟩;rcases hc with ⟨ha,hb,hd⟩|hc
 · exact (Yv I (by omega) ra rx rb ry ha hb).2 X.prog X.w X.xe _ ⟨.bl _,H,I,rfl,q⟩
 · have q':Q (.bl true) H:=by have:=Wj hc;simpa [this] using q
   exact (Wk I (by omega) ra rx rb ry hc).2 X.prog X.w X.xe _ ⟨.bl _,H,I,rfl,q'⟩
def eqR (a b:D):Res D:=must (EqC a b) (.ok (.bl (eqD a b)))
def neR (a b:D):Res D:=must (EqC a b) (.ok (.bl (!eqD a b)))
def wP {K:aaa}:OpS K (rEqD K false) eqR:=fun x y H a b d Q ra rb e q=>by
 obtain ⟨h1,e2⟩:=jy e;cases e2;exact ⟨a,b,ra,rb,h1,q _ (jee _)⟩
def vA {K:aaa}:OpS K (rEqD K true) neR:=fun x y H a b d Q ra rb e q=>by
 obtain ⟨h1,e2⟩:=jy e;cases e2;exact ⟨a,b,ra,rb,h1,q _ (jee _)⟩
def Room.u200 {k:Nat} {A:aaZ} (r:Room k A):A.units+200<cLine:=by have:=r.un;omega
end
end M
namespace M
open PySem PySem.Spec L2
open PyProof.Rows hiding St
section
variable {X:Cx} {K:aaa}
def ZV {prog:aaB} {w:World} {A:aaZ} {E:Xk} {s:aad} {t sl:Addr} {items:Array Value} {vl vu:Value} {lo hi:Option Int} {Q:Xk} (ht:IsTup s.heap t items) (hs:s.heap.IsSliceOf sl vl vu .none) (pl:IsPart vl lo) (pu:IsPart vu hi)
  (hw:HT.sIx items.size 0 lo=0/\HT.sIx items.size items.size hi=items.size) (h:Q (.ref t) s):wpAny (model prog w) A (getItem (.ref t) (.ref sl)) Q E s:=by
 obtain ⟨os,hos,hcs,hds⟩:=id hs;have hTs:s.TypeIs (.ref sl) "slice" :=⟨os,hos,hcs⟩
 unfold getItem
 try with_reducible refine acG ?_
 first|refine aaf (aam ?_)|skip
 refine aaf (wpAny_sequenceKey ht.typeIs (by decide) ?_)
 refine aaf (wpAny_callSpecial?_slot ht.typeIs aaP
  (wpAny_call_entry aaP ht.typeIs entry_tuple_getitem ?_ (args_tuple_getitem _ _)))
 show wpAny _ _ (acS (.ref t)>>=_) _ _ s;refine aaf (tupleItemsOf_ ht ?_);refine aaf (wpAny_typeOf hTs ?_);rw [if_pos (by decide)];refine aaf (HT.sliceApplied_gen hs pl pu ?_)
 have hyes:(((HT.sIx items.size 0 lo:Nat):Int)==0&&(1:Int)==1&&(HT.sIx items.size items.size hi-HT.sIx items.size 0 lo)==items.size)=true:=by
  rw [hw.1,hw.2];simp
 show wpAny _ _ (if (((HT.sIx items.size 0 lo:Nat):Int)==0&&(1:Int)==1&&(HT.sIx items.size items.size hi-HT.sIx items.size 0 lo)==items.size)=true then _ else _) _ _ s;rw [if_pos hyes];unfold Builtin.Tuple.tupleIsExact;refine aaf (aaf (wpAny_typeOf ht.typeIs (aam ?_)));rw [if_pos (by decide)]
 first
  |exact aaf (wpAny_rule (aaf (aam (aam ⟨_,rfl,aam h⟩))))
  |exact aaf (wpAny_rule (aam ⟨_,rfl,aam h⟩))
  |exact aaf (wpAny_rule (aaf (aam ⟨_,rfl,aam h⟩)))
def rSlW (K:aaa):V->Option Int->Option Int->Hp->VK->Prop:=fun x lo hi H Q=> ∃a xs,x= .ref a/\SqT K H a xs/\(HT.sIx xs.length 0 lo=0/\HT.sIx xs.length xs.length hi=xs.length)/\Q (.ref a) H
def sl_whole:SlR X (rSlW X.K):=by
 rintro pins s σ H x v vl vu lo hi sl Q I rx hs pl pu ⟨a,xs,ex,hx,hw,q⟩;subst ex;cases rx;obtain ⟨its,r,ht,hz⟩:=I.tuple hx;have hlen:its.toArray.size=xs.length:=by rw [aag];exact r.length.symm
 exact ⟨"tuple",_,aaP.lookup,ht.typeIs,ZV ht hs pl pu (by rw [hlen];exact hw) ⟨.ref a,H,I,rfl,q⟩⟩
def cutS (z:Str) (lo hi:Option Int):Str:=
 if ((aal lo hi 1 z.length).length==z.length)=true then z else ⟨((aal lo hi 1 z.length).filterMap (z.cps[·]?)).toArray⟩
def Kh (z:Str) (lo hi:Option Int):(cutS z lo hi).length<=z.length:=by
 unfold cutS
 split
 · exact aas _
 · show ((aal lo hi 1 z.length).filterMap (z.cps[·]?)).toArray.size<=z.length;rw [aag];exact aaq (List.length_filterMap_le _ _) (PyProof.Rows.indices_len_le lo hi z.length)
def rSlS:V->Option Int->Option Int->Hp->VK->Prop:=fun x lo hi H Q=> ∃z,x= .str z/\z.length<=aae/\Q (.str (cutS z lo hi)) H
def VP {v:Value} {o:Option Int} (h:IsPart v o): ∃p:Option (Int×Tok),v=partValue p/\p.map (·.1)=o:=by
 cases h with
 |none=>exact ⟨none,rfl,rfl⟩
 |int i t=>exact ⟨some (i,t),rfl,rfl⟩
def jbX:SlR X rSlS:=by
 rintro pins s σ H x v vl vu lo hi sl Q I rx hs pl pu ⟨z,ex,hz,q⟩;subst ex;obtain ⟨t,rfl⟩:=rx;obtain ⟨l,rfl,el⟩:=VP pl;obtain ⟨u,rfl,eu⟩:=VP pu;refine ⟨"str",_,F.slot_str_getitem.lookup,typeIs_str s z t,wpAny_getItem_str_slice (st:=none) hs rfl ?_⟩;have hp:slicePicked z l u none=aal lo hi 1 z.length:=by unfold slicePicked;rw [el,eu];rfl
 unfold sliceMade;rw [hp]
 by_cases hc:((aal lo hi 1 z.length).length==z.length)=true
 · have e:cutS z lo hi=z:=by unfold cutS;rw [if_pos hc]
   rw [e] at q;rw [if_pos (by simpa using hc)];exact ⟨.str z,H,I,⟨t,rfl⟩,q⟩
 · have e:cutS z lo hi=⟨((aal lo hi 1 z.length).filterMap (z.cps[·]?)).toArray⟩:=by unfold cutS;rw [if_neg hc]
   have hl:=Kh z lo hi;rw [e] at q hl;rw [if_neg (by simpa using hc)];exact ⟨aaq hl hz,.str _,H,I.tok _,⟨_,rfl⟩,q⟩
def slD:D->Option Int->Option Int->Res D
 | .tup ds,lo,hi=>(.ok (.tup (cutD ds lo hi)))
 | .lst ds,lo,hi=>(.ok (.lst (cutD ds lo hi)))
 | .str z,lo,hi=> .ok (.str (cutS z lo hi))
 |_,_,_=> .stuck
def ke {ds:List D} {lo hi:Option Int} (h1:HT.sIx ds.length 0 lo=0) (h2:HT.sIx ds.length ds.length hi=ds.length):cutD ds lo hi=ds:=by
 unfold cutD;rw [h1,h2];simp
def jac {A:Xl} {x:V} {H:Hp} {a d:D} {lo hi:Option Int} {Q:VK} (r3:Rep X.K A H x a) (e4:slD a lo hi= .ok d) (q: ∀v H',Same H H'->Rep X.K (fun c=>H c=none\/A c) H' v d->NewTop H v->Q v H'):
  rSlT X.K x lo hi H Q\/rSlW X.K x lo hi H Q\/rSlL X.K x lo hi H Q\/rSlS x lo hi H Q:=by
 cases a with
 |tup ds=>
  cases e4;obtain ⟨b,xs,rfl,hb,rs⟩:=r3.tupE;have hl:=rs.length
  by_cases hw:HT.sIx xs.length 0 lo=0/\HT.sIx xs.length xs.length hi=xs.length
  · refine .inr (.inl ⟨b,xs,rfl,.of hb,hw,?_⟩);rw [hl] at hw;rw [ke hw.1 hw.2] at q;exact q _ H (Same.refl H) (.tup hb (rs.weak orA)) (Vf hb)
  · exact .inl ⟨b,xs,rfl,.of hb,hw,fun p hp=>q _ _ (Same.upd hp) (.tup jo (((kf rs).weak orA).grow (Same.upd hp))) (zU (Same.refl H) hp)⟩
 |lst ds=>
  cases e4;obtain ⟨b,xs,rfl,hb,_,rs⟩:=r3.lstE;exact .inr (.inr (.inl ⟨b,xs,rfl,.of hb,fun p hp=>q _ _ (Same.upd hp) (.lst jo (.inl hp) (((kf rs.low).laid hp).weak fun c z=>⟨.inr z.1,z.2⟩)) (zU (Same.refl H) hp)⟩))
 |str z=>
  cases e4;obtain ⟨rfl,hz⟩:=r3.strE;have hl:=aaq (Kh z lo hi) hz;exact .inr (.inr (.inr ⟨z,rfl,hz,q _ H (Same.refl H) (.str _ hl) (jer (jeq (K:=X.K) _ hl))⟩))
 |_=>cases e4
def jX {e:Expr} {lo hi:Option Expr} {p2 pos:Pos} {f:TN} {fl fh:Sl->Res (Option Int)} (he:DE X .s e f) (hl:DO X lo fl) (hh:DO X hi fh):
   DE X .t (.Subscript e (.Slice lo hi none p2) pos) (jH f fl fh slD):=by
 with_unfolding_all exact (
  PE.imp (vo (sl_tup.or (sl_whole.or (sl_list.or jbX))) he hl hh) fun σ H Q=>by
   rintro ⟨G,H0,env,d,k,ef,q⟩;obtain ⟨a,e1,ef⟩:=jc ef;obtain ⟨lo',e2,ef⟩:=jc ef;obtain ⟨hi',e3,e4⟩:=jc ef;refine ⟨G,H0,env,a,k,e1,fun x H1 s1 r1 _=>⟨G,H0,env,lo',k.grow s1,e2,fun H2 s2=>⟨G,H0,env,hi',(k.grow s1).grow s2,e3,fun H3 s3=>?_⟩⟩⟩;have sm:=s1.trans (s2.trans s3)
   exact jac ((r1.grow s2).grow s3) e4 fun v H4 s4 r4 nt=>q v H4 (sm.trans s4) (r4.weak fun c z=>z.elim (fun z=>k.new c (Same.free sm z)) fun z=>z) (nt.grow sm))
def MtD (K:aaa) (r:V->List V->Hp->VK->Prop) (g:D->List D->Res D):Prop:= ∀(x:V) (xs:List V) (H:Hp) (a:D) (ds:List D) (d:D) (Q:VK),Rep K Any H x a->Reps K Any H xs ds->g a ds= .ok d->(∀v,Sc K v d->Q v H)->r x xs H Q
def jbW {A:Xl} {H:Hp} {v:V} {z:Str} (r:Rep K A H v (.str z)):tyV K "str" v H:=by rw [r.strE.1];exact rfl
def smF (f:TN) (fa:TK) (g:Str->List D->Res D):Sl->Res D:=fun env=>f env>>=fun a=>match a with
 | .str z=>fa env>>=fun ds=>g z ds
 |_=> .stuck
def jbj {l1 l2 l':Lv} {o e:Expr} {es:List Expr} {name:Str} {apos cpos:Pos} {id:String} {r:V->List V->Hp->VK->Prop} {g:Str->List D->Res D} {f:TN} {fa:TK}
   (slot:PySem.Slot "str" name id) (hty:typeOf (.builtin id)=pure (.type "method_descriptor")) (hm:MtR X id r) (hr:MtD X.K r (fun a ds=>match a with| .str z=>g z ds|_=> .stuck)) (ho:DE X l1 o f) (ha:DA X l2 (e::es) fa)
   (hbase:aa2 o name X.env (eval o X.env)=eval o X.env:=by rfl)
   (hfew:((aa1 cpos (aac (e::es) X.env)).all (fun x=>!x.1)&&(abQ cpos (abi [] X.env)).all (fun x=>x.1.isSome)
    &&decide ((e::es).length+([]:List abG).length+(if ([]:List abG).isEmpty then 0 else 1)<30))=true:=by exact zW rfl rfl)
   (hline:(apos.endLine==cpos.line)=true:=by rfl) (hs:Xj X e es:=by exact jj rfl) (hplain:Wt X cpos es:=by exact jK rfl):
   DE X l' (.Call (.Attribute o name apos) (e::es) [] cpos) (smF f fa g):=by
 with_unfolding_all exact (
  PE.imp (vw PySem.F.plainAttrs_str slot hty hm ho ha hbase hfew hline hs hplain) fun σ H Q=>by
   rintro ⟨G,H0,env,d,k,ef,q⟩;obtain ⟨a,e1,e2⟩:=jc ef
   cases a with
   |str z=>
    obtain ⟨ds,e3,e4⟩:=jc e2;refine ⟨G,H0,env,_,k,e1,fun x H1 s1 r1 _=>⟨jbW r1,G,H0,env,ds,k.grow s1,e3,fun xs H2 s2 r2=>?_⟩⟩;exact hr x xs H2 (.str z) ds d Q ((r1.grow s2).weak Lv.weak_b) (r2.weak Lv.weak_b) e4 fun v sc=>q v H2 (s1.trans s2) (sc.1 _ _) sc.T
   |_=>cases e2)
def jaN:MtR X "str.find" (fun x xs H Q=> ∃z y,x= .str z/\xs=[.str y]/\Q (.int (Txt.find z y)) H):=by
 rintro pins s σ H x xs v us Q I rx rv ⟨z,y,ex,exs,q⟩;subst ex exs;obtain ⟨t,rfl⟩:=rx;obtain ⟨u,rfl,ru⟩:=Xf rv;obtain ⟨t',rfl⟩:=ru;exact SC.find ⟨.int _,H,I.tok _,⟨_,rfl⟩,q⟩
def vS (z:Str):List D->Res D
 | [.str y]=> .ok (.int (Txt.find z y))
 |_=> .stuck
def jaO:MtD K (fun x xs H Q=> ∃z y,x= .str z/\xs=[.str y]/\Q (.int (Txt.find z y)) H) (fun a ds=>match a with| .str z=>vS z ds|_=> .stuck):=by
 intro x xs H a ds d Q ra rs e q
 cases a with
 |str z=>
  dsimp only at e;unfold vS at e
  split at e
  · cases e;obtain ⟨v,rfl,r1⟩:=rs.one;exact ⟨z,_,ra.strE.1,by rw [r1.strE.1],q _ (jef _)⟩
  · cases e
 |_=>cases e
def cD:Sl->Res D:=fun _=> .ok (.dic [] [])
def v9 {pos:Pos}:DE X .t (.Dict [] [] pos) cD:=by
 with_unfolding_all exact (PE.imp vt fun σ H Q=>by
  rintro ⟨G,H0,env,d,k,ef,q⟩;cases ef
  exact fun p hp=>q _ _ (Same.upd hp) (.dic jo (k.new p hp) rfl rfl .nil) (zU (Same.refl H) hp))
end
abbrev subI:D->D->Res D:=iOp QN fun i j=> .int (i-j)
abbrev mulI:D->D->Res D:=iOp MulC fun i j=> .int (i*j)
abbrev divI:D->D->Res D:=iOp DivC fun i j=> .int (i/j)
abbrev modI:D->D->Res D:=iOp PosC fun i j=> .int (i%j)
abbrev powI:D->D->Res D:=iOp PowC fun i j=> .int (i^j.toNat)
abbrev ltI:D->D->Res D:=iOp QN fun i j=> .bl (decide (i<j))
abbrev leI:D->D->Res D:=iOp QN fun i j=> .bl (decide (i<=j))
abbrev gtI:D->D->Res D:=iOp QN fun i j=> .bl (decide (j<i))
structure Av (P:aaB) (w:World) (K:aaa) (mg:Yq) (base:Heap) (k:Nat) (x:Str) (ps:List Str) (fr:Bool) (F:TJ):Prop where
 ex: ∃f fd,FnOk P w K mg base CX0 k f fd ps (spF K fr ps.length F)/\mg x=some (.ref f)/\aaN K (.ref f)=true/\Binds K fd ps []
def Av.mono {P:aaB} {w:World} {K:aaa} {mg:Yq} {base:Heap} {j k:Nat} {x:Str} {ps:List Str} {fr:Bool} {F:TJ} (h:Av P w K mg base j x ps fr F) (hj:j<=k):Av P w K mg base k x ps fr F:=
 let ⟨f,fd,a,b⟩:=h.ex
 ⟨f,fd,a.mono hj,b⟩
section
variable {X:Cx} {k:Nat} {x:Str} {ps:List Str} {fr:Bool} {F:TJ} {e:Expr} {es:List Expr} {p pos:Pos} {g:TK}
def Av.call {n:Nat} (A:Av X.prog X.w X.K X.mg X.base k x ps fr F) (hr:Room k X.A) (ha:DA X .s (e::es) g) (hn:ps.length=n:=by rfl) (hg:Gl X x:=by rfl) (hdb:Zu x:=by decide)
  (he:Xj X e es:=by exact jj rfl) (hpl:Wt X pos es:=by exact jK rfl):DE X .s (.Call (.Name x p) (e::es) [] pos) (jN n F g):=by
 subst hn;obtain ⟨f,fd,h1,h2,h3,h4⟩:=A.ex;exact jbn h1 hr hg h2 h3 h4 VN ha hdb he hpl
def Av.callT {n:Nat} (A:Av X.prog X.w X.K X.mg X.base k x ps true F) (hr:Room k X.A) (ha:DA X .s (e::es) g) (hn:ps.length=n:=by rfl) (hg:Gl X x:=by rfl) (hdb:Zu x:=by decide)
  (he:Xj X e es:=by exact jj rfl) (hpl:Wt X pos es:=by exact jK rfl):DE X .t (.Call (.Name x p) (e::es) [] pos) (jN n F g):=by
 subst hn;obtain ⟨f,fd,h1,h2,h3,h4⟩:=A.ex;exact ua h1 hr hg h2 h3 h4 VN ha hdb he hpl
end
def runF (fr:Bool) (n:Nat) (g:TL) (ds:List D):Res D:=match g (j4 n ds) with
 | .ok (.rt fr' d)=>if fr=true/\fr'=false then .stuck else .ok d
 | .ok (.nx _)=> .ok .non
 |_=> .stuck
def QW {fr:Bool} {n:Nat} {g:TL} {ds:List D} {d:D} (h:runF fr n g ds= .ok d):Meets fr n g ds d:=by
 unfold runF at h
 split at h
 · rename_i fr' d' e
   split at h
   · cases h
   · rename_i hn;cases h;refine .inl ⟨fr',e,fun hf=>?_⟩
     cases fr' with
     |true=>rfl
     |false=>exact absurd ⟨hf,rfl⟩ hn
 · rename_i env' e;cases h;exact .inr ⟨rfl,env',e⟩
 · cases h
section
variable {P:aaB} {w:World} {K:aaa} {mg:Yq} {base:Heap}
def jdU {x:Str} {st:Stmt} {f:Addr} {fd:abp} {N ps:List Str} {k:Nat} (fr:Bool) {g:TL} (Fu:Fun K x x st f fd) (hmg:mg x=some (.ref f)) (S:FnScope N ps (jg st)) (hbi:Binds K fd ps [])
  (hb: ∀(cdv:Value) (A:aaZ) (outer:List Env) (s:aad) (H:Hp) (E:XK),Room k (A.deeper (ab7 x (jg st) s.heap.objs.size f cdv))->DSs (cxOf CX0 P w K mg base N x (jg st) f cdv A outer s H E).nox (j8 st) g):
  Av P w K mg base (k+1) x ps fr (runF fr N.length g):=
 ⟨f,fd,jcW Fu S hb fun ds d _ h=>QW h,hmg,Fu.kp,hbi⟩
def jbA {x:Str} {st:Stmt} {f:Addr} {fd:abp} {ps:List Str} {k:Nat} (fr:Bool) (Fu:Fun K x x st f fd) (hmg:mg x=some (.ref f)) (hbi:Binds K fd ps []):Av P w K mg base k x ps fr (fun _=> .stuck):=
 ⟨f,fd,⟨fun vs H Q E ⟨B,ds,d,hl,_⟩=>hl,fun A outer s H args us vs Q E _ _ _ _ ⟨B,ds,d,_,_,e,_⟩=>by cases e⟩,hmg,Fu.kp,hbi⟩
end
def KP {P:aaB} {w:World} {K:aaa} {mg:Yq} {base:Heap} {x:Str} {st:Stmt} {f:Addr} {fd:abp} {N ps:List Str} {k:Nat} (fr:Bool) {g:TL} (Fu:Fun K x x st f fd) (S:FnScope N ps (jg st))
 (hb: ∀(cdv:Value) (A:aaZ) (outer:List Env) (s:aad) (H:Hp) (E:XK),Room k (A.deeper (ab7 x (jg st) s.heap.objs.size f cdv))->DSs (cxOf CX0 P w K mg base N x (jg st) f cdv A outer s H E).nox (j8 st) g):
 FnOk P w K mg base CX0 (k+1) f fd ps (spF K fr ps.length (runF fr N.length g)):=jcW Fu S hb fun ds d _ h=>QW h
def kB:aby "min" =some (.builtin "min"):=by decide+kernel
def jdT (N0:List Str) (sc0 scope:Scope) (N:List Str) (m:Nat) (js:List Nat):Bool:=(abu js.length).all fun k=>match N[m+k]?,(js[k]?).bind (N0[·]?) with
 |some y,some y'=>y==y'&&(sc0.names.lookup y==some .cell||sc0.names.lookup y==some .free)&&scope.names.lookup y==some .free
 |_,_=>false
def scOk (z:Option Str) (N0:List Str) (sc0 scope:Scope) (cl:List (Str×Addr)) (N:List Str) (m:Nat) (js:List Nat):Bool:=
 (scope.names.all fun x=>x.2 != .local||scope.names.lookup x.1==some .local)&&(scope.names.all fun x=>x.2 != .cell||z==some x.1)&&(match z with
   |some y=>scope.names.lookup y==some .cell
   |none=>true)&&(scope.names.all fun y=>y.2 != .free||cl.any fun p=>p.1==y.1)&&
  jdT N0 sc0 scope N m js&&(match N[m+js.length]? with
   |some y=>scope.names.all fun p=>p.1 !=y
   |none=>true)&&N.length==m+js.length+1
def KZ {cl:List (Str×Addr)} {y:Str} (h:(cl.any fun p=>p.1==y)=true): ∃c,cl.lookup y=some c:=by
 induction cl with
 |nil=>cases h
 |cons p r ih=>
  obtain ⟨n,c⟩:=p;rw [List.any_cons,acP] at h;simp only [aaU]
  cases e:y==n with
  |true=>exact ⟨c,rfl⟩
  |false=>
   rcases h with h|h
   · have:n=y:=by simpa using h
     subst this;simp at e
   · exact ih h
def AllC (cells:List (Str×Addr)):List (Str×Addr)->Prop
 | []=>True
 |p::r=>cells.lookup p.1=some p.2/\AllC cells r
theorem AllC.mem {cells:List (Str×Addr)}: ∀ {cl:List (Str×Addr)},AllC cells cl-> ∀p∈cl,cells.lookup p.1=some p.2
 |_::_,h,p,hp=>(aaw.mp hp).elim (fun e=>e▸h.1) (AllC.mem h.2 p)
def kh (z:Option Str) {X:Cx} {scope:Scope} {cl:List (Str×Addr)} {N:List Str} {m:Nat} {js:List Nat} (clos:closureFor scope X.env=pure cl) (kind:scope.kind= .function) (nd:N.Nodup) (cl2:AllC X.env.cells cl)
   (h:scOk z X.N X.env.scope scope cl N m js=true) (made: ∀n,cellsFrom (n+1) scope.names cl=clZ z cl n:=by intro _;rfl) (pushed: ∀h,pushCells h scope.names=jao z h:=by intro _;rfl):CompSc z X scope cl N m js:=by
 simp only [scOk,aap,aaT,beq_iff_eq] at h;obtain ⟨⟨⟨⟨⟨⟨h1,h2⟩,h7⟩,h3⟩,h4⟩,h5⟩,h6⟩:=h;refine ⟨clos,kind,fun x hx e=>?_,fun y hy e=>?_,made,pushed,fun y e=>by rw [e] at h7;exact beq_iff_eq.mp h7,fun x c e=>cl2.mem (x,c) (abv e),fun y hy e=>?_,nd,h6,fun k j e=>?_,fun y e p hp=>?_⟩
 · have:=h1 x hx;rw [e] at this;simpa using this
 · have:=h2 y hy;rw [e] at this;simpa using this
 · have:=h3 y hy;rw [e] at this;exact KZ (by simpa using this)
 · have hk:=(aax.mp e).1;have:=aaT.mp h4 k (ab9.mpr hk);rw [e] at this;simp at this
   cases e1:N[m+k]? with
   |none=>rw [e1] at this;cases this
   |some y=>
    cases e2:X.N[j]? with
    |none=>rw [e1,e2] at this;cases this
    |some y'=>
     rw [e1,e2] at this;simp at this;obtain ⟨⟨g1,g2⟩,g3⟩:=this;subst g1;exact ⟨y,rfl,rfl,g2,g3⟩
 · rw [e] at h5;have:=aaT.mp h5 p hp;simpa using this
end M
namespace M
open PySem PySem.Spec L2
def XT {body:D->Sl->Res Out} {d:D} {ds:List D} {env env':Sl} (h:body d env= .ok (.nx env')):forD body (d::ds) env=forD body ds env':=by
 show (body d env>>=_)=_;rw [h];rfl
theorem WS {α:Type} {body:D->Sl->Res Out} (E:α->Sl) (step:α->D->α) (P:List D->α->Prop)
  (hb: ∀d ds a,P (d::ds) a->body d (E a)= .ok (.nx (E (step a d)))/\P ds (step a d)): ∀(ds:List D) (a:α),P ds a->forD body ds (E a)= .ok (.nx (E (ds.foldl step a)))
 | [],a,_=>rfl
 |d::ds,a,h=>by
  obtain ⟨h1,h2⟩:=hb d ds a h;rw [XT h1,WS E step P hb ds _ h2];rfl
theorem W3 {n:Nat} {t:TH} {fe:TN} {E:D->List D->Sl} (h:D->D) (P:D->Prop)
  (hn: ∀x acc,ownL n (E x acc)= .ok acc) (hs: ∀x acc acc',(E x acc).set n (.own (.lst acc'))=E x acc')
  (ht: ∀x d acc,t d (E x acc)= .ok (E d acc)) (hf: ∀d acc,P d->fe (E d acc)= .ok (h d)):
  ∀(ds:List D) (x:D) (acc:List D),(∀d∈ds,P d)->acc.length+ds.length<=aae-> ∃y,xM n t yk fe ds (E x acc)= .ok (E y (acc++ds.map h))
 | [],x,acc,_,_=>⟨x,by simp [xM]⟩
 |d::ds,x,acc,hP,hl=>by
  simp at hl;obtain ⟨y,hy⟩:=W3 h P hn hs ht hf ds d (acc++[h d]) (fun e he=>hP e (by simp [he])) (by simp;omega);refine ⟨y,?_⟩
  have h1:xM n t yk fe (d::ds) (E x acc)=xM n t yk fe ds (E d (acc++[h d])):=by
   show (t d (E x acc)>>=_)=_;rw [ht];show (fe (E d acc)>>=_)=_;rw [hf d acc (hP d (by simp))];rw [hn];show must _ _=_;rw [jm (by omega),hs]
  rw [h1,hy];simp
def jdR {fi:TK} {fe:TN} {env:Sl} {ds:List D} (h:D->D) (P:D->Prop) (hi:fi env= .ok ds) (hP: ∀d∈ds,P d) (hl:ds.length<=aae)
  (hf: ∀d acc,P d->fe [.shr d,.own (.lst acc)]= .ok (h d)):W1 false 1 [] fi (gN 0) yk fe env= .ok (.lst (ds.map h)):=by
 show (fi env>>=_)=_;rw [hi];show (xM 1 (gN 0) yk fe ds [.un,.own (.lst [])]>>=_)=_
 cases ds with
 |nil=>rfl
 |cons d ds=>
  simp at hl;obtain ⟨y,hy⟩:=W3 (n:=1) (t:=gN 0) h P (fun _ _=>rfl) (fun _ _ _=>rfl) (fun _ _ _=>rfl) hf ds d [h d] (fun e he=>hP e (by simp [he])) (by simp;omega)
  have h1:xM 1 (gN 0) yk fe (d::ds) [.un,.own (.lst [])]=xM 1 (gN 0) yk fe ds [.shr d,.own (.lst [h d])]:=by
   show (fe [.shr d,.own (.lst [])]>>=_)=_;rw [hf d [] (hP d (by simp))];exact jm (c:=([]:List D).length<aae) (by simp;omega)
  rw [h1,hy];rfl
variable {env env':Sl} {f f1 f2 f3:TN} {g g1 g2:TL} {t t1 t2:TM} {fa:TK} {i:Nat} {d:D} {b:Bool}
@[simp] theorem wx {α β:Type} {a:α} {f:α->Res β}:(Res.ok a>>=f)=f a:=rfl
@[simp] theorem UG {α β:Type} {c:Prop} [Decidable c] {a b:Res α} {f:α->Res β}:((if c then a else b)>>=f)=if c then a>>=f else b>>=f:=by split<;>rfl
def outK (g:TL):Out->Res Out
 | .nx e=>g e
 |o=> .ok o
@[simp] theorem VS:outK g (.nx env)=g env:=rfl
@[simp] theorem Xu {fr:Bool}:outK g (.rt fr d)= .ok (.rt fr d):=rfl
@[simp] theorem yi:seqO g1 g2 env=(g1 env>>=outK g2):=by
 show (g1 env>>=_)=_;congr 1;funext o;cases o<;>rfl
@[simp] theorem ja8:setO i f env=(f env>>=fun d=> .ok (.nx (env.set i (yD d)))):=rfl
@[simp] theorem Y4:jF i f env=(f env>>=fun d=> .ok (.nx (env.set i (.shr d)))):=rfl
@[simp] theorem ZX:retO f env=(f env>>=fun d=> .ok (.rt true d)):=rfl
@[simp] theorem ja9:retS f env=(f env>>=fun d=> .ok (.rt false d)):=rfl
@[simp] theorem uP:nxO env= .ok (.nx env):=rfl
@[simp] theorem Ze:ifO t g1 g2 env=(t env>>=fun b=>if b=true then g1 env else g2 env):=rfl
@[simp] theorem XY:andB t1 t2 env=(t1 env>>=fun b=>if b=true then t2 env else .ok false):=rfl
@[simp] theorem WV:orB t1 t2 env=(t1 env>>=fun b=>if b=true then .ok true else t2 env):=rfl
@[simp] theorem XV:notB t env=(t env>>=fun b=> .ok (!b)):=rfl
def asBD:D->Res Bool
 | .bl b=> .ok b
 |_=> .stuck
@[simp] theorem Yb:asBD (.bl b)= .ok b:=rfl
@[simp] theorem Y6:asB f env=(f env>>=asBD):=rfl
@[simp] theorem Y3 {h:D->D->Res D}:two f1 f2 h env=(f1 env>>=fun x=>f2 env>>=fun y=>h x y):=rfl
@[simp] theorem jbd {j:Int}:cI j env= .ok (.int j):=rfl
@[simp] theorem jcZ:cB b env= .ok (.bl b):=rfl
@[simp] theorem JQ:ja f fa env=(f env>>=fun d=>fa env>>=fun ds=> .ok (d::ds)):=rfl
@[simp] theorem XW:nil1 env= .ok []:=rfl
@[simp] theorem Y7 {h:TJ}:app fa h env=(fa env>>=h):=rfl
@[simp] theorem Y5 {n:Nat} {F:TJ}:jN n F fa env=(fa env>>=fun ds=>must (ds.length=n) (F ds)):=rfl
@[simp] theorem ja7:tupF fa env=(fa env>>=fun ds=>must (ds.length<=aae) (.ok (.tup ds))):=rfl
@[simp] theorem jbc:lstF fa env=(fa env>>=fun ds=>must (ds.length<=aae) (.ok (.lst ds))):=rfl
@[simp] theorem ZY {T:String}:isiF T f env=(f env>>=isiD T):=rfl
@[simp] theorem jba:notF f env=(f env>>=notD):=rfl
@[simp] theorem jcY:ifD t f1 f2 env=(t env>>=fun b=>if b=true then f1 env else f2 env):=rfl
@[simp] theorem UH:itF f env=(f env>>=vH):=rfl
@[simp] theorem XX {tt:TH} {fi:TK}:forO fi tt g env=(fi env>>=fun ds=>forD (yj tt g) ds env):=rfl
@[simp] theorem vU {fl fh:Sl->Res (Option Int)} {h:D->Option Int->Option Int->Res D}:jH f fl fh h env=(f env>>=fun a=>fl env>>=fun lo=>fh env>>=fun hi=>h a lo hi):=rfl
@[simp] theorem vT:jJ f env=(f env>>=asI):=rfl
@[simp] theorem UF:rdS i env=match env[i]? with|some (.shr d)=> .ok d|_=> .stuck:=rfl
def toK (g:Res D) (w:Bool):D->Res D
 | .bl b=>if b=w then g else .ok (.bl b)
 |_=> .stuck
@[simp] theorem jbT {r:Res D} {w:Bool}:toK r w (.bl b)=if b=w then r else .ok (.bl b):=rfl
@[simp] theorem uO {w:Bool}:toB f1 f2 w env=(f1 env>>=toK (f2 env) w):=by
 show (f1 env>>=_)=_;congr 1
def chK (f:Res D) (g':D->D->Res D) (y:D):D->Res D
 | .bl true=>f>>=fun w=>g' y w
 | .bl false=> .ok (.bl false)
 |_=> .stuck
@[simp] theorem kn {r:Res D} {h:D->D->Res D} {y:D}:chK r h y (.bl b)=if b=true then r>>=fun w=>h y w else .ok (.bl false):=by cases b<;>rfl
@[simp] theorem JR {h h':D->D->Res D}:Z9 f1 f2 f3 h h' env=(f1 env>>=fun x=>f2 env>>=fun y=>h x y>>=chK (f3 env) h' y):=by
 show (f1 env>>=_)=_;congr 1
@[simp] theorem jbb {α:Type} {c:Prop} [Decidable c] {r:Res α}:must c r=if c then r else .stuck:=rfl
@[simp] theorem UI {C:Int->Int->Prop} [∀i j,Decidable (C i j)] {h:Int->Int->D} {m n:Int}:iOp C h (.int m) (.int n)=if C m n then .ok (h m n) else .stuck:=rfl
def runK (fr:Bool):Out->Res D
 | .rt fr' d=>if fr=true/\fr'=false then .stuck else .ok d
 | .nx _=> .ok .non
 |_=> .stuck
def yN {fr:Bool} {n:Nat} {ds:List D} {o:Out} (h:g (j4 n ds)= .ok o):runF fr n g ds=runK fr o:=by
 unfold runF;rw [h];cases o<;>rfl
end M
namespace M
def JV {n:Nat} {t:TM} {g:TL} {env env':Sl} (ht:t env= .ok true) (h:g env= .ok (.nx env')):qB (n+1) t g env=qB n t g env':=by
 rw [qB,ht,wx,if_pos rfl,h];rfl
def xj {n:Nat} {t:TM} {g:TL} {env:Sl} {fr:Bool} {d:D} (ht:t env= .ok true) (h:g env= .ok (.rt fr d)):qB (n+1) t g env= .ok (.rt fr d):=by
 rw [qB,ht,wx,if_pos rfl,h];rfl
def xV {n:Nat} {t:TM} {g:TL} {env:Sl} (ht:t env= .ok false):qB (n+1) t g env= .ok (.nx env):=by
 rw [qB,ht,wx,if_neg (by simp)]
end M
namespace M
open PySem PySem.Spec L2
def kids:D->List D
 | .tup (_::r)=>r
 |_=>[]
mutual
def num:D->Nat
 | .tup (_::r)=>1+nums r
 |_=>1
def nums:List D->Nat
 | []=>0
 |d::r=>num d+nums r
end
mutual
def hgt:D->Nat
 | .tup (_::r)=>1+hgts r
 |_=>1
def hgts:List D->Nat
 | []=>0
 |d::r=>max (hgt d) (hgts r)
end
def jaJ:D->Bool| .scr _=>false| .exn _=>false| .fdc _ _=>false| .hdc _ _=>false| .obj _ _ _=>false| .mem _ _=>false| .nst _=>false|_=>true
mutual
def fine:D->Bool
 | .scr _=>false
 | .exn _=>false
 | .fdc _ _=>false
 | .hdc _ _=>false
 | .obj _ _ _=>false
 | .mem _ _=>false
 | .nst _=>false
 | .tup ds=>decide (ds.length<=11)&&fines ds
 |_=>true
def fines:List D->Bool
 | []=>true
 |d::r=>fine d&&fines r
end
def VZ (d:D):num d=1+nums (kids d):=by
 cases d with
 |tup ds=>cases ds<;>simp [num,kids,nums]
 |_=>simp [num,kids,nums]
def Uz (d:D):hgt d=1+hgts (kids d):=by
 cases d with
 |tup ds=>cases ds<;>simp [hgt,kids,hgts]
 |_=>simp [hgt,kids,hgts]
def YI (a b:List D):nums (a++b)=nums a+nums b:=by
 induction a with
 |nil=>simp [nums]
 |cons d r ih=>simp [nums,ih];omega
def vL (a b:List D):hgts (a++b)=max (hgts a) (hgts b):=by
 induction a with
 |nil=>simp [hgts]
 |cons d r ih=>simp [hgts,ih]
def vR {d:D} (h:fine d=true):jaJ d=true:=by
 cases d<;>first|rfl| (simp [fine] at h)
theorem Qr: ∀ {ds:List D} {d:D},fines ds=true->d∈ds->fine d=true
 |x::r,d,h,hm=>by
  simp only [fines,aap] at h;rcases aaw.mp hm with rfl|hm
  · exact h.1
  · exact Qr h.2 hm
theorem Y2: ∀ {ds:List D},(∀d∈ds,fine d=true)->fines ds=true
 | [],_=>rfl
 |x::r,h=>by simp only [fines,aap];exact ⟨h x (by simp),Y2 fun d hd=>h d (by simp [hd])⟩
def WU {d:D} (h:fine d=true):fines (kids d)=true/\(kids d).length<=10:=by
 cases d with
 |tup ds=>
  cases ds with
  |nil=>exact ⟨rfl,by simp [kids]⟩
  |cons x r=>
   simp only [fine,fines,aap,decide_eq_true_eq,aab] at h;exact ⟨h.2.2,by simp only [kids];omega⟩
 |_=>exact ⟨rfl,by simp [kids]⟩
def zO (row:List D):List D:=row.flatMap kids
def KD (row:List D):nums row=row.length+nums (zO row):=by
 induction row with
 |nil=>rfl
 |cons d r ih=>
  have:zO (d::r)=kids d++zO r:=rfl;rw [this,YI];simp only [nums,aab,ih,VZ d];omega
def KN (row:List D) (h:row≠[]):hgts row=1+hgts (zO row):=by
 induction row with
 |nil=>exact absurd rfl h
 |cons d r ih=>
  have e:zO (d::r)=kids d++zO r:=rfl;rw [e,vL];simp only [hgts,Uz d]
  cases r with
  |nil=>simp [hgts,zO]
  |cons x r=>rw [ih (by simp)];omega
def XU {row:List D} (h:fines row=true):fines (zO row)=true:=
 Y2 fun d hd=>by
  obtain ⟨x,hx,hk⟩:=acC.mp hd;exact Qr (WU (Qr h hx)).1 hk
def kF {row:List D} (h:fines row=true):(zO row).length<=10*row.length:=by
 induction row with
 |nil=>simp [zO]
 |cons d r ih=>
  simp only [fines,aap] at h;have e:zO (d::r)=kids d++zO r:=rfl;have:=ih h.2;have:=(WU h.1).2;rw [e,aai,aab];omega
def jaX (d:D):1<=hgt d:=by rw [Uz];omega
def atI_nat {α:Type} {xs:List α} {k:Nat}:atI xs (k:Int)=xs[k]?:=by
 unfold atI ixN
 by_cases h:k<xs.length
 · rw [if_pos (by omega),if_pos (by omega)];simp
 · rw [if_pos (by omega),if_neg (by omega)];simp;omega
def ix0 {x:D} {r:List D}:ixD (.tup (x::r)) (.int 0)= .ok x:=by
 have:=atI_nat (xs:=x::r) (k:=0);simp only [ixD];rw [show ((0:Int))=((0:Nat):Int) from rfl,this];rfl
section
variable {env env':Sl} {f f1 f2 f3:TN} {g g1 g2:TL} {t t1 t2:TM} {fa:TK} {i:Nat} {d x y z:D} {b:Bool} {ds:List D}
def jf {h:D->D->Res D} (h1:f1 env= .ok x) (h2:f2 env= .ok y) (h3:h x y= .ok z):two f1 f2 h env= .ok z:=by rw [Y3,h1,wx,h2,wx,h3]
def jD (h:f env= .ok d):jF i f env= .ok (.nx (env.set i (.shr d))):=by rw [Y4,h];rfl
def JX (h:f env= .ok d):setO i f env= .ok (.nx (env.set i (yD d))):=by rw [ja8,h];rfl
def qf (h:f env= .ok d):retO f env= .ok (.rt true d):=by rw [ZX,h];rfl
def Jd (h:f env= .ok d):retS f env= .ok (.rt false d):=by rw [ja9,h];rfl
def qt (h:g1 env= .ok (.nx env')):seqO g1 g2 env=g2 env':=by rw [yi,h];rfl
def zg {fr:Bool} (h:g1 env= .ok (.rt fr d)):seqO g1 g2 env= .ok (.rt fr d):=by rw [yi,h];rfl
def if_t (h:t env= .ok true):ifO t g1 g2 env=g1 env:=by rw [Ze,h];rfl
def if_f (h:t env= .ok false):ifO t g1 g2 env=g2 env:=by rw [Ze,h];rfl
def jh (h1:f env= .ok d) (h2:fa env= .ok ds):ja f fa env= .ok (d::ds):=by rw [JQ,h1,wx,h2];rfl
def qA {h:TJ} (h1:fa env= .ok ds) (h2:h ds= .ok d):app fa h env= .ok d:=by rw [Y7,h1,wx,h2]
def jZ {n:Nat} {F:TJ} (h1:fa env= .ok ds) (hn:ds.length=n) (h2:F ds= .ok d):jN n F fa env= .ok d:=by rw [Y5,h1,wx,jm hn,h2]
def yC (h1:fa env= .ok ds) (hn:ds.length<=aae):tupF fa env= .ok (.tup ds):=by rw [ja7,h1,wx,jm hn]
def Q2 (h1:fa env= .ok ds) (hn:ds.length<=aae):lstF fa env= .ok (.lst ds):=by rw [jbc,h1,wx,jm hn]
def jA (h:f env= .ok (.bl b)):asB f env= .ok b:=by rw [Y6,h];rfl
def VT {b2:Bool} (h1:t1 env= .ok b) (h2:t2 env= .ok b2):orB t1 t2 env= .ok (b||b2):=by rw [WV,h1,wx,h2];cases b<;>rfl
def kI {b2:Bool} (h1:t1 env= .ok b) (h2:t2 env= .ok b2):andB t1 t2 env= .ok (b&&b2):=by rw [XY,h1,wx,h2];cases b<;>rfl
def zT (h1:t1 env= .ok b):notB t1 env= .ok (!b):=by rw [XV,h1];rfl
def xN (h1:ownL i env= .ok ds) (h2:f env= .ok d) (h3:ds.length<aae):ql i f env= .ok (.nx (env.set i (.own (.lst (ds++[d]))))):=by
 show (ownL i env>>=_)=_;rw [h1];rw [h2];exact jm h3
def qg {fl fh:Sl->Res (Option Int)} {h:D->Option Int->Option Int->Res D} {lo hi:Option Int} (h1:f env= .ok x) (h2:fl env= .ok lo) (h3:fh env= .ok hi) (h4:h x lo hi= .ok z):jH f fl fh h env= .ok z:=by
 rw [vU,h1,wx,h2,wx,h3,wx,h4]
def jV {j:Int} (h:f env= .ok (.int j)):jJ f env= .ok (some j):=by rw [vT,h];rfl
def Zd {tt:TH} {fi:TK} (h:fi env= .ok ds):forO fi tt g env=forD (yj tt g) ds env:=by rw [XX,h];rfl
def uG (h:f env= .ok d) (h2:vH d= .ok ds):itF f env= .ok ds:=by rw [UH,h,wx,h2]
def JG (h:f env= .ok d) (hd:d.imm=true):chk f env= .ok d:=by
 show (f env>>=_)=_;rw [h];exact jm hd
def jdw {zz:Str} {h:Str->List D->Res D} (h1:f env= .ok (.str zz)) (h2:fa env= .ok ds) (h3:h zz ds= .ok d):smF f fa h env= .ok d:=by
 show (f env>>=_)=_;rw [h1];rw [h2];exact h3
end
def YY {C:Int->Int->Prop} [∀i j,Decidable (C i j)] {g:Int->Int->D} {i j:Int} (h:C i j):iOp C g (.int i) (.int j)= .ok (g i j):=if_pos h
def uA {i j:Int} (h:PowC i j):powI (.int i) (.int j)= .ok (.int (i^j.toNat)):=YY h
def Uc {i j:Int} (h:MulC i j):mulI (.int i) (.int j)= .ok (.int (i*j)):=YY h
def WM {i j:Int} (h:0<j):modI (.int i) (.int j)= .ok (.int (i%j)):=YY h
def uS {i j:Int} (h:0<j/\j<1073741824):divI (.int i) (.int j)= .ok (.int (i/j)):=YY h
def y0 {t:TH} {g:TL} {d:D} {env env':Sl} (h:t d env= .ok env'):yj t g d env=g env':=by
 show (t d env>>=g)=_;rw [h];rfl
def Zx {fr:Bool} {n:Nat} {g:TL} {ds:List D} {d:D} (h:g (j4 n ds)= .ok (.rt true d)):runF fr n g ds= .ok d:=by rw [yN h];simp [runK]
def jb5 {n:Nat} {g:TL} {ds:List D} {d:D} (h:g (j4 n ds)= .ok (.rt false d)):runF false n g ds= .ok d:=by rw [yN h];simp [runK]
def jai {fa:TK} {env:Sl} {j:Int} (h:fa env= .ok [.int j]) (hb: -(2^62)<=j/\j<2^62):rngF fa env= .ok (wQ 0 j.toNat):=by
 show (fa env>>=rng1)=_;rw [h];exact jm hb
def jbJ {a b:List D} (h1:a.isEmpty=false) (h2:a.length+b.length<=aae):addD (.tup a) (.tup b)= .ok (.tup (a++b)):=jm ⟨h1,h2⟩
def kL {a b:List D} (h2:a.length+b.length<=aae):addD (.lst a) (.lst b)= .ok (.lst (a++b)):=jm h2
def yt {a b:Int}:eqR (.int a) (.int b)= .ok (.bl (a==b)):=by
 unfold eqR;rw [jm (by left;simp [D.eqb,D.dep])];simp [eqD]
theorem x6 {body:D->Sl->Res Out} (I:List D->Sl->Prop)
  (hb: ∀d ds env,I (d::ds) env-> ∃env',body d env= .ok (.nx env')/\I ds env'): ∀(ds:List D) (env:Sl),I ds env-> ∃env',forD body ds env= .ok (.nx env')/\I [] env'
 | [],env,h=>⟨env,rfl,h⟩
 |d::ds,env,h=>by
  obtain ⟨e1,h1,h2⟩:=hb d ds env h;obtain ⟨e2,h3,h4⟩:=x6 I hb ds e1 h2;exact ⟨e2,by rw [XT h1,h3],h4⟩
def KM (lo:Int) (n:Nat):wQ lo (n+1)= .int lo::wQ (lo+1) n:=by
 unfold wQ;rw [List.range_succ_eq_map,abj,List.map_map];congr 1
 · simp
 · apply List.map_congr_left;intro i _;simp only [Function.comp_apply];congr 1;omega
def Ug {lo:Int} {n:Nat} {d:D} (h:d∈wQ lo n): ∃k:Int,d= .int k/\lo<=k/\k<lo+n:=by
 unfold wQ at h;obtain ⟨i,hi,e⟩:=abL.mp h;have:=ab9.mp hi;exact ⟨_,e.symm,by omega,by omega⟩
def WP (lo:Int) (n:Nat):(wQ lo n).length=n:=by simp [wQ]
def kG {α:Type} {xs:List α} {i:Int} (h0:0<=i) (h1:i<xs.length): ∃x,atI xs i=some x/\x∈xs:=by
 obtain ⟨k,rfl⟩:=Int.eq_ofNat_of_zero_le h0;have hk:k<xs.length:=by omega
 exact ⟨xs[k],by rw [M.atI_nat];exact aao hk,abC hk⟩
def ixS {z:Str} {i:Int} (h0:0<=i) (h1:i<z.length): ∃c,ixD (.str z) (.int i)= .ok (.str ⟨#[c]⟩):=by
 obtain ⟨c,hc,_⟩:=kG (xs:=z.cps.toList) h0 (by simpa [ac6] using h1);exact ⟨c,by simp only [ixD];rw [hc]⟩
def ixL {ds:List D} {i:Int} (h0:0<=i) (h1:i<ds.length): ∃d,ixD (.lst ds) (.int i)= .ok d/\d∈ds:=by
 obtain ⟨c,hc,hm⟩:=kG h0 h1;exact ⟨c,by simp only [ixD];rw [hc],hm⟩
open Builtin.Int (intBits)
def NumR (f:TN) (env:Sl) (B:Nat):Prop:= ∃m:Int,f env= .ok (.int m)/\intBits m<=B
def V8 {f1 f2:TN} {env:Sl} {a b:Nat} (h1:NumR f1 env a) (h2:NumR f2 env b):NumR (two f1 f2 addD) env (max a b+1):=by
 obtain ⟨m,e1,b1⟩:=h1;obtain ⟨n,e2,b2⟩:=h2;exact ⟨m+n,jf e1 e2 rfl,intBits_add_le b1 b2⟩
def XF {f1 f2:TN} {env:Sl} {a b:Nat} (h1:NumR f1 env a) (h2:NumR f2 env b) (h:a+b<=134217728):NumR (two f1 f2 mulI) env (a+b):=by
 obtain ⟨m,e1,b1⟩:=h1;obtain ⟨n,e2,b2⟩:=h2;exact ⟨m*n,jf e1 e2 (Uc (aaq (Nat.add_le_add b1 b2) h)),intBits_mul_le b1 b2⟩
def XD {i:Int} {k a:Nat} {env:Sl} (hi:intBits i<=a) (h1:k<=1000000) (h2:i.natAbs<2^64):NumR (two (cI i) (cI (k:Int)) powI) env (a*k+1):=
 ⟨i^((k:Int)).toNat,jf rfl rfl (uA ⟨by omega,by omega,h2⟩),by rw [Int.toNat_natCast];exact intBits_pow_le hi k⟩
def jcz {j:Int} {B:Nat} {env:Sl} (hb:intBits j<=B):NumR (cI j) env B:=⟨j,rfl,hb⟩
def uC {i:Nat} {m:Int} {B:Nat} {env:Sl} (h:rdS i env= .ok (.int m)) (hb:intBits m<=B):NumR (rdS i) env B:=⟨m,h,hb⟩
theorem hgts_le {k:Nat}: ∀ {ds:List D},(∀d∈ds,hgt d<=k)->hgts ds<=k
 | [],_=>by simp [hgts]
 |d::ds,h=>by
  simp only [hgts];have:=h d (by simp);have:=hgts_le (ds:=ds) fun e he=>h e (by simp [he])
  omega
theorem YZ: ∀ {ds:List D} {d:D},d∈ds->hgt d<=hgts ds
 |x::r,d,h=>by
  simp only [hgts];rcases aaw.mp h with rfl|h
  · omega
  · have:=YZ h;omega
end M
namespace M
open PySem PySem.W PyProof.Rows
structure Ord (lt:Nat->Nat->Bool) (n:Nat):Prop where
 asym: ∀i j,lt i j=true->lt j i=false
 trans: ∀i j k,i<n->j<n->k<n->lt i j=true->lt j k=true->lt i k=true
 total: ∀i j,i<n->j<n->i≠j->lt i j=true\/lt j i=true
section
variable {lt:Nat->Nat->Bool} {n:Nat} (O:Ord lt n)
include O
end
abbrev Hd:=Str×Int
def hlt (a b:Hd):Bool:=if a.1=b.1 then decide (a.2<b.2) else decide (a.1.cps.toList<b.1.cps.toList)
end M
namespace M
open PySem PySem.Spec L2
open PyProof.Rows hiding St
section
variable {X:Cx} {K:aaa} {l1 l2:Lv} {e1 e2:Expr} {fk fv:TN} {pos cpos apos p:Pos} {x:Str}
def hdD (a:Hd):D:= .tup [.str a.1,.int a.2]
end
end M
namespace M
open PySem PySem.Spec L2
mutual
def bks:D->List Int
 | .int i=>[i]
 | .tup (_::ts)=>bkss ts
 |_=>[]
def bkss:List D->List Int
 | []=>[]
 |d::r=>bks d++bkss r
end
mutual
def bare:D->D
 | .tup (x::ts)=> .tup (x::bares ts)
 |_=> .int 0
def bares:List D->List D
 | []=>[]
 |d::r=>bare d::bares r
end
theorem yX: ∀ts,bkss ts=ts.flatMap bks
 | []=>rfl
 |d::r=>by simp [bkss,yX r]
def ins (l:List Int) (x:Int):List Int:=if x∈l then l else l++[x]
def met (l xs:List Int):List Int:=xs.foldl ins l
def dvs (n:Nat):List Int->List D
 | []=>[]
 |_::r=> .int n::dvs (n+1) r
mutual
def tk (ns:List Str):D->Bool
 | .int _=>true
 | .tup (.str z::ts)=>decide (z∈ns)&&(decide (ts.length<=9)&&tks ns ts)
 |_=>false
def tks (ns:List Str):List D->Bool
 | []=>true
 |d::r=>tk ns d&&tks ns r
end
section
variable {ns:List Str}
mutual
theorem Xg {P:D->Prop} (h1: ∀i,P (.int i)) (h2: ∀z ts,z∈ns->ts.length<=9->(∀t∈ts,tk ns t=true/\P t)->P (.tup (.str z::ts))): ∀t,tk ns t=true->P t
 | .int i,_=>h1 i
 | .tup (x::ts),h=>by
  cases x with
  |str z=>
   simp only [tk,aap,decide_eq_true_eq] at h;exact h2 z ts h.1 h.2.1 (tk_ind2 h1 h2 ts h.2.2)
  |_=>simp [tk] at h
 | .tup [],h=>by simp [tk] at h
 | .non,h=>by simp [tk] at h
 | .bl _,h=>by simp [tk] at h
 | .str _,h=>by simp [tk] at h
 | .lst _,h=>by simp [tk] at h
 | .scr _,h=>by simp [tk] at h
 | .dic _ _,h=>by simp [tk] at h
 | .dit _ _,h=>by simp [tk] at h
 | .exn _,h=>by simp [tk] at h
 | .fdc _ _,h=>by simp [tk] at h
 | .hdc _ _,h=>by simp [tk] at h
 | .obj _ _ _,h=>by simp [tk] at h
 | .mem _ _,h=>by simp [tk] at h
 | .nst _,h=>by simp [tk] at h
theorem tk_ind2 {P:D->Prop} (h1: ∀i,P (.int i)) (h2: ∀z ts,z∈ns->ts.length<=9->(∀t∈ts,tk ns t=true/\P t)->P (.tup (.str z::ts))): ∀ts,tks ns ts=true-> ∀t∈ts,tk ns t=true/\P t
 | [],_,t,ht=>by cases ht
 |d::r,h,t,ht=>by
  simp only [tks,aap] at h;have a:=Xg h1 h2 d h.1;have b:=tk_ind2 h1 h2 r h.2;rcases aaw.mp ht with e|e
  · rw [e];exact ⟨h.1,a⟩
  · exact b t e
end
theorem uo: ∀ {ts:List D},(∀t∈ts,tk ns t=true)->tks ns ts=true
 | [],_=>rfl
 |x::r,h=>by simp only [tks,aap];exact ⟨h x (by simp),uo fun d hd=>h d (by simp [hd])⟩
theorem Vh: ∀ {ts:List D} {t:D},tks ns ts=true->t∈ts->tk ns t=true
 |x::r,t,h,ht=>by
  simp only [tks,aap] at h;rcases aaw.mp ht with rfl|ht
  · exact h.1
  · exact Vh h.2 ht
def kU {z:Str} {ts:List D} (hz:z∈ns) (h:ts.length<=9) (ht: ∀t∈ts,tk ns t=true):tk ns (.tup (.str z::ts))=true:=by
 simp only [tk,aap,decide_eq_true_eq];exact ⟨hz,h,uo ht⟩
def Yg {t:D} (h:tk ns t=true):(∃i,t= .int i)\/ ∃z ts,t= .tup (.str z::ts)/\z∈ns/\ts.length<=9/\ ∀u∈ts,tk ns u=true:=by
 cases t with
 |int i=>exact .inl ⟨i,rfl⟩
 |tup ds=>
  cases ds with
  |nil=>simp [tk] at h
  |cons x ts=>
   cases x with
   |str z=>
    simp only [tk,aap,decide_eq_true_eq] at h;exact .inr ⟨z,ts,rfl,h.1,h.2.1,fun u hu=>Vh h.2.2 hu⟩
   |_=>simp [tk] at h
 |_=>simp [tk] at h
def uK: ∀t,tk ns t=true->t.imm=true:=Xg (fun i=>rfl) fun z ts _ hl h=>by
 show (true&&D.imms ts)=true;rw [Bool.true_and];exact imms_iff.mpr fun t ht=>(h t ht).2
def sumN (a s:Nat):Nat->Nat
 |0=>0
 |k+1=>sumN a s k+(a+k)/s
theorem QS (a s:Nat): ∀k,sumN (a+1) s k+a/s=sumN a s (k+1)
 |0=>by simp [sumN]
 |k+1=>by
  have ih:=QS a s k;have e:a+1+k=a+(k+1):=by omega
  show sumN (a+1) s k+(a+1+k)/s+a/s=sumN a s (k+1)+(a+(k+1))/s;rw [e];omega
theorem Wo (s:Nat): ∀k,k<=s->sumN 0 s k=0
 |0,_=>rfl
 |k+1,h=>by
  show sumN 0 s k+(0+k)/s=0;rw [Wo s k (by omega),Nat.div_eq_of_lt (by omega)]
def kY {a s:Nat} (h1:1<=s) (h2:s<=9):sumN a s s=a:=by
 induction a with
 |zero=>exact Wo s s (aas _)
 |succ a ih=>
  have h:=QS a s s;have e:sumN a s (s+1)=sumN a s s+(a+s)/s:=rfl;rw [e,ih,Nat.add_div_right a (by omega)] at h;omega
end
open Classical in
noncomputable instance decD:DecidableEq D:=fun a b=>propDecidable (a=b)
end M
namespace M
open PySem PySem.Spec L2
open PyProof.Rows hiding St
def Qd {P:aaB} {w:World} {H:Hp} {h:Heap} {a:Addr} {o:HO} (x:ObjOk P w H h a o): ∃ob,h.get? a=some ob:=by
 cases o with
 |lst xs=>obtain ⟨_,_,_,_,e⟩:=x;exact ⟨_,e⟩
 |tup xs=>obtain ⟨_,_,_,ob,e,_⟩:=x;exact ⟨_,e⟩
 |dK kvs=>obtain ⟨_,_,_,_,o,_,_,e,_⟩:=x;exact ⟨_,e⟩
 |dT kvs=>obtain ⟨_,_,_,_,o,_,_,e,_⟩:=x;exact ⟨_,e⟩
 |set S n=>obtain ⟨o,_,_,_,e,_⟩:=x;exact ⟨_,e⟩
 |ins C dx fs=>obtain ⟨_,_,_,e,_⟩:=x;exact ⟨_,e⟩
 |own y=>exact x
 |xd fs=>obtain ⟨_,⟨_,_,_,e,_⟩,_⟩:=x;exact ⟨_,e⟩
 |rng lo hi=>obtain ⟨_,_,_,e⟩:=x;exact ⟨_,e⟩
 |frz ob u=>obtain ⟨e,_⟩:=x;exact ⟨_,e⟩
 |tbl ps=>exact ⟨_,(show h.get? a=some _ from x)⟩
 |met f y=>exact ⟨_,(show h.get? a=some _ from x)⟩
 |ext φ=>obtain ⟨_,z,_⟩:=x;exact z
 |memo B Φ=>obtain ⟨_,_,_,_,o,_,_,e,_⟩:=x;exact ⟨_,e⟩
 |nst rs=>obtain ⟨_,_,⟨_,e⟩,_⟩:=x;exact ⟨_,e⟩
def CX1 (P:aaB) (w:World):CXT:=fun outer H s E e s'=> ∃(a C:Addr) (H':Hp) (B:Heap) (a0:Value),e= .ref a/\s'.os=s.os/\ada s'.gens/\Un (frs outer) [] H H' s.heap s'.heap/\HOk P w H' s'.heap/\H' a=none/\
 Heap.FlyingW B outer a (.ref C) a0 s'.heap/\(∀b,b∉frs outer->((∃o,s.heap.get? b=some o)\/ ∃u,H' b=some u)->B.get? b=s'.heap.get? b)/\E (.ref C) none H'
section
variable {P:aaB} {w:World} {K:aaa} {mg:Yq} {base:Heap} {N:List Str} {qual:Str} {scope:Scope} {f:Addr} {cd:Value} {A:aaZ} {outer:List Env} {s0:aad} {H0:Hp} {E:XK}
 {pins:List (Addr×Obj)} {σ:L2.St} {H:Hp} {s:aad}
def Uo {h h' B:Heap} {a:Addr} {cls a0:Value} (I:Inv (cxOf (CX1 P w) P w K mg base N qual scope f cd A outer s0 H0 E) pins σ H {s with heap:=h})
   (fl:Heap.FlyingW B outer a cls a0 h') (inB: ∀b o,h.get? b=some o->b∉frs (cxOf (CX1 P w) P w K mg base N qual scope f cd A outer s0 H0 E).stack->((∃o,s0.heap.get? b=some o)\/ ∃u,H b=some u)->B.get? b=some o)
   (up: ∀b o,b∈frs (cxOf (CX1 P w) P w K mg base N qual scope f cd A outer s0 H0 E).stack->h.get? b=some o->(∀vs,o.data≠ .fields vs)-> ∃sl,h'.get? b=some {o with slots:=sl}):
   Un (frs outer) [] H0 H s0.heap h'/\HOk P w H h'/\ ∀b,b∉frs outer->((∃o,s0.heap.get? b=some o)\/ ∃u,H b=some u)->B.get? b=h'.get? b:=by
 have nfr: ∀b o,s0.heap.get? b=some o->b∉frs outer->b∉frs (cxOf (CX1 P w) P w K mg base N qual scope f cd A outer s0 H0 E).stack:=fun b o q hb hm=>by
   rcases aaw.mp (I.stkSub b hm) with e|e
   · have h1:s0.heap.objs.size<=b:=by rw [e];exact I.ok.above
     exact abI _ (aat (aau q) h1)
   · exact hb e
 have trk: ∀b u,H b=some u->b∉frs (cxOf (CX1 P w) P w K mg base N qual scope f cd A outer s0 H0 E).stack:=fun b u q hm=>by
   have:=I.stkFree b hm;rw [q] at this;cases this
 have B0:Un (frs outer) [] H0 H s0.heap h:=I.base;have FF:=I.stack
 have sub: ∀b∈frs outer,b∈frs (cxOf (CX1 P w) P w K mg base N qual scope f cd A outer s0 H0 E).stack:=fun b hb=>by
   show b∈frs (ab7 qual scope s0.heap.objs.size f cd::outer);unfold frs at hb ⊢;rw [acf]
   split
   · exact hb
   · exact aar _ hb
 have slotOf: ∀b o,b∈frs (cxOf (CX1 P w) P w K mg base N qual scope f cd A outer s0 H0 E).stack->h.get? b=some o-> ∃sl,h'.get? b=some {o with slots:=sl}:=fun b o hb q=>by
   obtain ⟨_,o',ho',hd⟩:=FF.mem hb;rw [q] at ho';cases ho';exact up b o hb q hd
 refine ⟨⟨fun b o q n hb _=>?_,fun b o q n hb _=>?_,fun b o q n _=>B0.free b o q n (by simp),fun b o q _=>?_,B0.tups,B0.frzs,B0.tbls⟩,fun b u q=>?_,fun b hb hc=>?_⟩
 · have h1:=B0.keep b o q n hb (by simp);exact fl.1 b o (inB b o h1 (nfr b o q hb) (.inl ⟨o,q⟩))
 · obtain ⟨sl,h1⟩:=B0.slot b o q n hb (by simp);obtain ⟨sl',h2⟩:=slotOf b _ (sub b hb) h1;exact ⟨sl',h2⟩
 · obtain ⟨o',h1⟩:=B0.there b o q (by simp)
   by_cases hm:b∈frs (cxOf (CX1 P w) P w K mg base N qual scope f cd A outer s0 H0 E).stack
   · obtain ⟨sl,h2⟩:=slotOf b o' hm h1;exact ⟨_,h2⟩
   · exact ⟨o',fl.1 b o' (inB b o' h1 hm (.inl ⟨o,q⟩))⟩
 · have h0:=I.hok b u q;refine h0.stay (fun c v hc r=>?_) (fun _ z=>z) fun _ _ z=>z
   have ht: ∃u,H c=some u:=by
     rcases hc with z|z
     · rw [z];exact ⟨u,q⟩
     · exact ⟨_,z⟩
   obtain ⟨u',hu'⟩:=ht;exact fl.1 c v (inB c v r (trk c u' hu') (.inr ⟨u',hu'⟩))
 · have ht: ∃o,h.get? b=some o/\b∉frs (cxOf (CX1 P w) P w K mg base N qual scope f cd A outer s0 H0 E).stack:=by
     rcases hc with ⟨o,q⟩| ⟨u,q⟩
     · obtain ⟨o',h1⟩:=B0.there b o q (by simp);exact ⟨o',h1,nfr b o q hb⟩
     · obtain ⟨ob,h1⟩:=Qd (show ObjOk P w H h b u from I.hok b u q);exact ⟨ob,h1,trk b u q⟩
   obtain ⟨o,h1,h2⟩:=ht;have h3:=inB b o h1 h2 hc;rw [h3,fl.1 b o h3]
def Q4 {h:Heap} {e C:Addr} {vs:List Value} (I:Inv (cxOf (CX1 P w) P w K mg base N qual scope f cd A outer s0 H0 E) pins σ H {s with heap:=h}) (hx:Heap.MadeExcOf h s.heap e (.ref C) vs) (hE:E (.ref C) none H):
  (cxOf (CX1 P w) P w K mg base N qual scope f cd A outer s0 H0 E).xe (.ref e) s:=by
 have FF:=I.stack
 have FF2:h.FunFrames (PySem.W.hideAll h (frs (cxOf (CX1 P w) P w K mg base N qual scope f cd A outer s0 H0 E).stack)) (cxOf (CX1 P w) P w K mg base N qual scope f cd A outer s0 H0 E).stack:=
  PySem.W.funFrames_hide FF fun env he b hb=>acj.mpr ⟨env,he,hb⟩
 have hen:H e=none:=by
  cases q:H e with
  |none=>rfl
  |some u=>
   obtain ⟨ob,z⟩:=Qd (show ObjOk P w H h e u from I.hok e u q);rw [hx.new] at z;cases z
 refine wpAny_leaves_madeW I.ok.frames rfl (fun b o q=>PySem.W.of_hideAll _ q) FF2 hx fun h' t fl tup hn ups=>?_
 obtain ⟨u1,u2,u3⟩:=Uo I fl (fun b o q hb _=>PySem.W.hideAll_get _ q hb) fun b o hb q hd=>ups b o (hx.keeps b o q) hd
 exact ⟨e,C,H,_,_,rfl,I.os,I.bare,u1,u2,hen,fl,u3,hE⟩
def YQ {E1:XK} {e:Value} {s':aad} (I:Inv (cxOf (CX1 P w) P w K mg base N qual scope f cd A outer s0 H0 E) pins σ H s) (c:CX1 P w (cxOf (CX1 P w) P w K mg base N qual scope f cd A outer s0 H0 E).stack H s E1 e s')
  (hE: ∀C H',E1 (.ref C) none H'->E (.ref C) none H'):(cxOf (CX1 P w) P w K mg base N qual scope f cd A outer s0 H0 E).xe e s':=by
 obtain ⟨a,C,H',B,a0,rfl,os,bare,un,hok,ha,fl,cov,hE1⟩:=c;have J:=I.call' os un hok bare fun b hb=>absurd hb (by simp)
 refine wpAny_leaves_onW J.ok.frames rfl fl fun h' fl' ups=>?_
 have B0:Un (frs outer) [] H0 H s0.heap s.heap:=I.base
 obtain ⟨u1,u2,u3⟩:=Uo J fl' (fun b o q hb hc=>by
  rw [cov b hb ?_,q];rcases hc with ⟨o',z⟩|z
  · obtain ⟨o2,z2⟩:=B0.there b o' z (by simp);exact .inl ⟨o2,z2⟩
  · exact .inr z) fun b o hb q hd=>ups b o q hd
 exact ⟨a,C,H',B,a0,rfl,J.os,J.bare,u1,u2,ha,fl',u3,hE C H' hE1⟩
end
abbrev NmC (K:aaa) (c:Str) (C:Addr):Prop:=aaj K aah c=some (some (.ref C))
def XE (K:aaa) (c:Str) (H:Hp):XK:=fun cls _ H'=> ∃C,cls= .ref C/\NmC K c C/\Same H H'
def ThrB (X:Cx) (c:Str) (σ:L2.St) (H:Hp):Prop:= ∀pins H1 s e s',Same H H1->Inv X pins σ H1 s->CX1 X.prog X.w X.stack H1 s (XE X.K c H1) e s'->X.xe e s'
def ThrA (X:Cx) (c:Str) (H0:Hp):Prop:= ∀pins σ H (s:aad) h e C vs,Same H0 H->NmC X.K c C->Inv X pins σ H {s with heap:=h}->Heap.MadeExcOf h s.heap e (.ref C) vs->X.xe (.ref e) s
structure Thr (X:Cx) (c:Str) (H0:Hp):Prop where
 a:ThrA X c H0
 b: ∀σ H,Same H0 H->ThrB X c σ H
def tEX (X:Cx) (l:Lv) (f:TN):TE:=fun σ H Q=> ∃G H0 env,EnvOk X.K G H0 env σ H/\
 ((∃d,f env= .ok d/\ ∀v H',Same H H'->Rep X.K (l.A G env σ) H' v d->l.T H v->Q v H')\/ ∃c,f env= .exc c/\ThrB X c σ H)
def tSX (X:Cx) (g:TL):TS:=fun E σ H=> ∃G H0 env,EnvOk X.K G H0 env σ H/\((∃o,g env= .ok o/\Post X.K G H0 env σ H E o)\/ ∃c,g env= .exc c/\Thr X c H0)
@[irreducible] def DEX (X:Cx) (l:Lv) (e:Expr) (f:TN):Prop:=PE X e (tEX X l f)
@[irreducible] def DSX (X:Cx) (st:Stmt) (g:TL):Prop:=PS X st (tSX X g)
@[irreducible] def DSsX (X:Cx) (st:List Stmt) (g:TL):Prop:=PSs X st (tSX X g)
def nx1 {α:Type} (r:Res α):Res α:=match r with
 | .ok a=> .ok a
 |_=> .stuck
def WJ {α:Type} {r:Res α} {a:α} (h:nx1 r= .ok a):r= .ok a:=by
 cases r with
 |ok b=>exact h
 |exc c=>cases h
 |stuck=>cases h
def Qe {α:Type} {r:Res α} {c:Str} (h:nx1 r= .exc c):False:=by
 cases r<;>cases h
def qh {α β:Type} {r:Res α} {f:α->Res β} {c:Str} (h:(r>>=f)= .exc c):r= .exc c\/ ∃a,r= .ok a/\f a= .exc c:=by
 cases r with
 |ok a=>exact .inr ⟨a,rfl,h⟩
 |exc d=>cases h;exact .inl rfl
 |stuck=>cases h
def yw (g:TL):Sl->Res Out:=fun env=>nx1 (g env)
section
variable {X:Cx} {e c tg:Expr} {st:Stmt} {rest body orelse:List Stmt} {pos:Pos} {l:Lv} {f:TN} {g g1 g2:TL}
def DS.x (h:DS X st g):DSX X st (yw g):=by
 with_unfolding_all exact (PS.imp h fun E σ H=>by
  rintro ⟨G,H0,env,k,q⟩;rcases q with ⟨o,e1,q⟩| ⟨c,e1,_⟩
  · exact ⟨G,H0,env,o,k,WJ e1,q⟩
  · exact (Qe e1).elim)
def DSs.x {sts:List Stmt} (h:DSs X sts g):DSsX X sts (yw g):=by
 with_unfolding_all exact (PSs.imp h fun E σ H=>by
  rintro ⟨G,H0,env,k,q⟩;rcases q with ⟨o,e1,q⟩| ⟨c,e1,_⟩
  · exact ⟨G,H0,env,o,k,WJ e1,q⟩
  · exact (Qe e1).elim)
def WX (h1:DSX X st g1) (h2:DSsX X rest g2):DSsX X (st::rest) (seqO g1 g2):=by
 with_unfolding_all exact (PSs.imp (zK h1 h2) fun E σ H=>by
  rintro ⟨G,H0,env,k,q⟩;rcases q with ⟨o,ef,q⟩| ⟨c,ef,th⟩
  · obtain ⟨o1,e1,e2⟩:=jc ef;refine ⟨G,H0,env,k,.inl ⟨o1,e1,?_⟩⟩
    cases o1 with
    |nx env1=>exact fun σ' H' k' f'=>⟨G,H0,env1,k',.inl ⟨o,e2,yK f' q⟩⟩
    |rt fr d=>cases e2;exact q
    |bk e'=>cases e2;exact q
    |ct e'=>cases e2;exact q
  · rcases qh ef with e1| ⟨o1,e1,e2⟩
    · exact ⟨G,H0,env,k,.inr ⟨c,e1,th⟩⟩
    · cases o1 with
      |nx env1=>exact ⟨G,H0,env,k,.inl ⟨_,e1,fun σ' H' k' f'=>⟨G,H0,env1,k',.inr ⟨c,e2,th⟩⟩⟩⟩
      |rt fr d=>cases e2
      |bk e'=>cases e2
      |ct e'=>cases e2)
def JS (h1:DSX X st g1):DSsX X [st] g1:=by
 with_unfolding_all exact (PSs.imp (J5 h1) fun E σ H q=>q)
def ifX (t:TM) (g1 g2:TL):Sl->Res Out:=fun env=>match t env with
 | .ok b=>if b=true then g1 env else g2 env
 |_=> .stuck
def UO {t:TM} (hc:DT X c t) (h1:DSsX X body g1) (h2:DSsX X orelse g2):DSX X (.If c body orelse pos) (ifX t g1 g2):=by
 with_unfolding_all exact (PS.imp (Xo hc h1 h2) fun E σ H=>by
  rintro ⟨G,H0,env,k,q⟩;have key: ∃b,t env= .ok b/\ifX t g1 g2 env=if b=true then g1 env else g2 env:=by
   cases e1:t env with
   |ok b=>exact ⟨b,rfl,by unfold ifX;rw [e1]⟩
   |_=>
     have z:ifX t g1 g2 env= .stuck:=by unfold ifX;rw [e1]
     rcases q with ⟨o,ef,_⟩| ⟨c,ef,_⟩<;>(rw [z] at ef;cases ef)
  obtain ⟨b,e1,e2⟩:=key;rw [e2] at q;refine ⟨G,H0,env,b,k,e1,fun H' s=>?_⟩
  cases b with
  |true=>
   rw [if_pos rfl] at q ⊢;rcases q with ⟨o,ef,q⟩| ⟨c,ef,th⟩
   · exact ⟨G,H0,env,k.grow s,.inl ⟨o,ef,yK (Frm.refl s) q⟩⟩
   · exact ⟨G,H0,env,k.grow s,.inr ⟨c,ef,th⟩⟩
  |false=>
   rw [if_neg aaz] at q ⊢;rcases q with ⟨o,ef,q⟩| ⟨c,ef,th⟩
   · exact ⟨G,H0,env,k.grow s,.inl ⟨o,ef,yK (Frm.refl s) q⟩⟩
   · exact ⟨G,H0,env,k.grow s,.inr ⟨c,ef,th⟩⟩)
end
def spX (K:aaa) (fr:Bool) (n:Nat) (F:TJ):Sp:=fun vs H Q E=> ∃B ds,vs.length=n/\Reps K B H vs ds/\
 ((∃d,F ds= .ok d/\ ∀v H',Same H H'->Rep K (fun a=>H a=none\/B a) H' v d->(fr=true->NewTop H v)->Q v H')\/
  ∃c,F ds= .exc c/\ ∀C H',NmC K c C->Same H H'->E (.ref C) none H')
structure AvX (P:aaB) (w:World) (K:aaa) (mg:Yq) (base:Heap) (k:Nat) (x:Str) (ps:List Str) (fr:Bool) (F:TJ):Prop where
 ex: ∃f fd,FnOk P w K mg base (CX1 P w) k f fd ps (spX K fr ps.length F)/\mg x=some (.ref f)/\aaN K (.ref f)=true/\Binds K fd ps []
def AvX.mono {P:aaB} {w:World} {K:aaa} {mg:Yq} {base:Heap} {j k:Nat} {x:Str} {ps:List Str} {fr:Bool} {F:TJ} (h:AvX P w K mg base j x ps fr F) (hj:j<=k):AvX P w K mg base k x ps fr F:=
 let ⟨f,fd,a,b⟩:=h.ex
 ⟨f,fd,a.mono hj,b⟩
def yV (n:Nat) (F:TJ) (g:TK):Sl->Res D:=fun env=>match g env with
 | .ok ds=>must (ds.length=n) (F ds)
 |_=> .stuck
section
variable {X:Cx} {k:Nat} {x:Str} {ps:List Str} {fr:Bool} {F:TJ} {e:Expr} {es:List Expr} {p pos:Pos} {g:TK}
def VA {CX:CXT} {f:Addr} {fd:abp} {sp:Sp} {E:XK} {pins:List (Addr×Obj)} {σ:L2.St} {H:Hp} {s:aad} {Q:VK} {us:List Value} {vs:List V} (F:FnOk X.prog X.w X.K X.mg X.base CX k f fd ps sp) (hr:Room k X.A) (hb:Binds X.K fd ps [])
  (I:Inv X pins σ H s) (r:Vals vs us) (h:sp vs H Q E) (hx: ∀e s',CX X.stack H s E e s'->X.xe e s'):wpAny (model X.prog X.w) X.A (call (.ref f) us) (EP X pins σ Q) X.xe s:=by
 have hl:us.length=ps.length:=by rw [←r.length];exact F.len _ _ _ _ h
 have hb':=hb s us I.kIn (by rw [aaV];exact hl);rw [aaV] at hb';refine ac5 (acw (F.run X.A X.stack s H ⟨us,[]⟩ us vs Q E hr I.env0 hb' r h) fun r s' hq=>?_)
 cases r with
 |error e=>exact hx e s' hq
 |ok fl=>
  cases fl with
  |ret u=>exact I.after hq
  |next=>exact aba hq
  |brk=>exact aba hq
  |cont=>exact aba hq
def AvX.call {n:Nat} (A:AvX X.prog X.w X.K X.mg X.base k x ps fr F) (hr:Room k X.A) (ha:DA X .s (e::es) g) (hn:ps.length=n:=by rfl) (hg:Gl X x:=by rfl) (hdb:Zu x:=by decide)
   (he:Xj X e es:=by exact jj rfl) (hpl:Wt X pos es:=by exact jK rfl):DEX X (if fr=true then .t else .s) (.Call (.Name x p) (e::es) [] pos) (yV n F g):=by
 subst hn;obtain ⟨f,fd,h1,h2,h3,h4⟩:=A.ex
 with_unfolding_all exact (by
 rintro pins s σ H Q I ⟨G,H0,env,kk,q⟩
 have key: ∃ds,g env= .ok ds/\yV ps.length F g env=must (ds.length=ps.length) (F ds):=by
   cases e1:g env with
   |ok ds=>exact ⟨ds,rfl,by unfold yV;rw [e1]⟩
   |_=>
     have z:yV ps.length F g env= .stuck:=by unfold yV;rw [e1]
     rcases q with ⟨o,ef,_⟩| ⟨c,ef,_⟩<;>(rw [z] at ef;cases ef)
 obtain ⟨ds,e1,e2⟩:=key;rw [e2] at q;refine abX (Jj I hg h2 ?_ hdb);refine abY I.ok.mod.kin h3 (thn ((show PA X (e::es) (tA X.K .s g) from ha) pos pins s σ H (fun vs H1=>Same H H1/\Reps X.K (Sf G env σ) H1 vs ds) I ⟨G,H0,env,ds,kk,e1,fun vs H' s' r'=>⟨s',r'⟩⟩) fun us s1 ⟨vs,H1,I1,r,sm,rs⟩=>⟨I1.kIn,?_⟩) he hpl;rcases q with ⟨d,ef,q⟩| ⟨c,ef,th⟩
 · obtain ⟨hn,e3⟩:=jy ef;refine VA (E:=fun _ _ _=>False) h1 hr h4 I1 r ⟨_,ds,by rw [rs.length];exact hn,rs,.inl ⟨d,e3,fun v H2 s2 r2 nt=>?_⟩⟩ fun e s' cx=>?_
   · have r3:=r2.weak fun c z=>z.elim (fun z=>kk.new c (Same.free sm z)) fun z=>z
     cases fr with
     |true=>exact q v H2 (sm.trans s2) r3 ((nt rfl).grow sm)
     |false=>exact q v H2 (sm.trans s2) r3 trivial
   · obtain ⟨_,_,_,_,_,_,_,_,_,_,_,_,_,z⟩:=cx;exact z.elim
 · have hm:ds.length=ps.length/\F ds= .exc c:=by
     unfold must at ef
     by_cases hc:ds.length=ps.length
     · rw [if_pos hc] at ef;exact ⟨hc,ef⟩
     · rw [if_neg hc] at ef;cases ef
   refine VA (E:=XE X.K c H1) h1 hr h4 I1 r ⟨_,ds,by rw [rs.length];exact hm.1,rs,.inr ⟨c,hm.2,fun C H' hC s'=>⟨C,rfl,hC,s'⟩⟩⟩ fun e s' cx=>?_
   exact th pins H1 s1 e s' sm I1 cx)
end
def runX (fr:Bool) (n:Nat) (g:TL) (ds:List D):Res D:=match g (j4 n ds) with
 | .ok (.rt fr' d)=>if fr=true/\fr'=false then .stuck else .ok d
 | .ok (.nx _)=> .ok .non
 | .exc c=> .exc c
 |_=> .stuck
def ve {fr:Bool} {n:Nat} {g:TL} {ds:List D} {c:Str} (h:runX fr n g ds= .exc c):g (j4 n ds)= .exc c:=by
 unfold runX at h
 split at h
 · split at h<;>cases h
 · cases h
 · cases h;assumption
 · cases h
def KA {fr:Bool} {n:Nat} {g:TL} {ds:List D} {d:D} (h:runX fr n g ds= .ok d):Meets fr n g ds d:=by
 unfold runX at h
 split at h
 · rename_i fr' d' e
   split at h
   · cases h
   · rename_i hn;cases h;refine .inl ⟨fr',e,fun hf=>?_⟩
     cases fr' with
     |true=>rfl
     |false=>exact absurd ⟨hf,rfl⟩ hn
 · rename_i env' e;cases h;exact .inr ⟨rfl,env',e⟩
 · cases h
 · cases h
def J4 (c:Str):Sl->Res Out:=fun _=> .exc c
def ja6 {K:aaa} {h:Heap} {C:Addr} {bmB:List Value} {newId:String} (X:K.In h) (q:ab6 K C bmB newId=true):
   ∃bm N nm qn bs hdct sn sub ab col dd k0 k1 k2 k3 k5 mN,h.get? C=some (excClassObj nm qn C N bs bm hdct sn sub ab col dd k0 k1 k2 k3 k5 newId)/\h.Ns N mN/\mN "__init__" =none/\OwnTail h bmB bm:=by
 unfold ab6 at q
 split at q
 · rename_i dd cd sl ho
   split at q
   · rename_i C' bm k0 k1 k2 k3 n k5 hm hs;simp at q;obtain ⟨⟨⟨⟨⟨rfl,rfl⟩,hdel⟩,ht⟩,hok⟩,hni⟩:=q;obtain ⟨nm,bs,mro,ns,qn,hd,sn,sub,ab,col,del⟩:=cd;dsimp only at hm hdel hok hni;subst hm hdel
     have hsl:sl= #[k0,k1,k2,k3,some (.builtin n),k5]:=by
      obtain ⟨l⟩:=sl;simp only at hs;rw [hs]
     subst hsl;exact ⟨bm,ns,nm,qn,bs,hd,sn,sub,ab,col,dd,k0,k1,k2,k3,k5,_,X _ _ ho,.of_isNs (PySem.W.isNs_of_in X hok),PySem.W.nsMap_none_of_in X hok hni,PySem.W.tail_of_in X ht⟩
   · cases q
 · cases q
def QZ {X:Cx} {c:Str} {C:Addr} {bm:List Value} {B newId initId:String} {e₀:Expr} {l:Lv} {np cpos pos:Pos} {f:TN} (hC:NmC X.K c C) (hm:X.mg c=some (.ref C)) (hq:ab6 X.K C bm newId=true) (FB:ExcBaseFacts B newId initId bm)
   (ha:DE X l e₀ f) (hok: ∀env,∃d,f env= .ok d) (hcalm:X.calm=true) (hg:Gl X c) (hdb:Zu c)
   (he:aac [e₀] X.env=(false,eval e₀ X.env)::aac [] X.env)
   {pins:List (Addr×Obj)} {s:aad} {σ:L2.St} {H:Hp} {E:Ends} {G:Xl} {H0:Hp} {env:Sl} (I:Inv X pins σ H s) (k:EnvOk X.K G H0 env σ H) (th:ThrA X c H):
   wpAny (model X.prog X.w) X.A (exec (.Raise (some (.Call (.Name c np) [e₀] [] cpos)) none pos) X.env) (fun fl s'=>SP X pins E fl s') X.xe s:=by
 with_unfolding_all exact (by
  obtain ⟨d,hd⟩:=hok env;obtain ⟨tl,N,nm,qn,bs,hdct,sn,sub,ab,col,dd,k0,k1,k2,k3,k5,mN,hCo,hN,hni,T⟩:=ja6 I.ok.mod.kin hq
  refine wpAny_Raise_call_subT (nm:=nm) (q:=qn) (N:=N) (bs:=bs) (hdct:=hdct) (sn:=sn) (sub:=sub) (ab:=ab) (col:=col) (dd:=dd) (k0:=k0) (k1:=k1) (k2:=k2) (k3:=k3) (k5:=k5)
   FB (T.hasType FB.hasBase) (I.ok.hd hcalm) (by rw [he];rfl) hni (Jj I hg hm ⟨rfl,?_⟩ hdb)
  rw [he];refine acD (Calls.spliced_cons (thn ((show PE X e₀ (tE X.K l f) from ha) pins s σ H (fun v H1=>Same H H1) I ⟨G,H0,env,d,k,hd,fun v H' s' _ _=>s'⟩) fun u s1 ⟨v,H1,I1,r,sm⟩=>Calls.spliced_nil ?_))
  exact ⟨rfl,(by decide:1<=aae),I1.bk _ _ hCo,hN.keeps I1.bk,T.keeps I1.bk,fun h' e hx=>th pins σ H1 {s1 with heap:=h'} s1.heap e C _ sm hC I1 hx⟩)
def Qv {X:Cx} {c:Str} {C:Addr} {bm:List Value} {B newId initId:String} {e₀:Expr} {l:Lv} {np cpos pos:Pos} {f:TN} (hC:NmC X.K c C) (hm:X.mg c=some (.ref C)) (hq:ab6 X.K C bm newId=true) (FB:ExcBaseFacts B newId initId bm)
    (ha:DE X l e₀ f) (hok: ∀env,∃d,f env= .ok d) (hcalm:X.calm=true:=by rfl) (hg:Gl X c:=by rfl) (hdb:Zu c:=by decide)
    (he:aac [e₀] X.env=(false,eval e₀ X.env)::aac [] X.env:=by exact jj rfl):
    DSX X (.Raise (some (.Call (.Name c np) [e₀] [] cpos)) none pos) (J4 c):=by
 with_unfolding_all exact (by
  rintro pins s σ H E I ⟨G,H0,env,k,q⟩;rcases q with ⟨o,ef,_⟩| ⟨c',ef,th⟩
  · cases ef
  cases ef
  exact QZ hC hm hq FB ha hok hcalm hg hdb he I k fun pins σ H1 s1 h e C vs sm=>th.a pins σ H1 s1 h e C vs (k.base.trans sm))
def tSY (X:Cx) (g:TL):TS:=fun E σ H=> ∃G H0 env,EnvOk X.K G H0 env σ H/\((∃o,g env= .ok o/\Post X.K G H0 env σ H E o)\/ ∃c,g env= .exc c/\ThrB X c σ H)
@[irreducible] def DSY (X:Cx) (st:Stmt) (g:TL):Prop:=PS X st (tSY X g)
@[irreducible] def DSsY (X:Cx) (st:List Stmt) (g:TL):Prop:=PSs X st (tSY X g)
section
variable {X:Cx} {e c tg:Expr} {st:Stmt} {rest body orelse:List Stmt} {pos:Pos} {l:Lv} {f:TN} {g g1 g2:TL}
def vZ (h1:DSY X st g1):DSsY X [st] g1:=by
 with_unfolding_all exact (PSs.imp (J5 h1) fun E σ H q=>q)
def vX (i:Nat) {x:Str} {pos':Pos} (hN:X.N.Nodup) (h:DEX X .s e f) (hi:X.N[i]?=some x:=by rfl) (hx:Loc X.env.scope x:=by first|exact aa6 rfl|exact aaI rfl) (hs:abA e (some (.Name x pos')) pos.line X.env=pure false:=by rfl)
   (hf:Vy X x:=by first|exact .inl rfl|exact .inr rfl|assumption):DSY X (.Assign [.Name x pos'] e pos) (jF i f):=by
 with_unfolding_all exact (
  PS.imp (JA hN hi hx h hs hf) fun E σ H=>by
   rintro ⟨G,H0,env,k,q⟩;rcases q with ⟨o,ef,q⟩| ⟨c,ef,th⟩
   · obtain ⟨d,e1,e2⟩:=jc ef;cases e2;exact ⟨G,H0,env,k,.inl ⟨d,e1,fun v H' s r _=>q _ H' ((k.grow s).setS r) (.set s fun _ _ z _=>by cases z)⟩⟩
   · rcases qh ef with e1| ⟨d,e1,e2⟩
     · exact ⟨G,H0,env,k,.inr ⟨c,e1,th⟩⟩
     · cases e2)
end
abbrev Cx.tryX (X:Cx) (E:Xk) (ps:List (Addr×Obj)):Cx:={X with xe:=E,pn:=X.pn++ps}
abbrev Cx.held (X:Cx) (e:Addr):Cx:={X with xe:=fun _ _=>False,A:=X.A.mark (some (.ref e)),calm:=false}
section
variable {X:Cx} {pins ps:List (Addr×Obj)} {σ:L2.St} {H:Hp} {s:aad} {E:Xk} {e:Addr}
def jcu (ok:X.Ok):(Cx.tryX X E ps).Ok:=⟨ok.mod,ok.kind,ok.glob,ok.blt,ok.above,ok.inj,ok.has,ok.cab,ok.hd,ok.frames,ok.stk,ok.exf,ok.bs,ok.bsz,ok.noex,ok.exfs,ok.funs,ok.frf⟩
def vy (ok:(Cx.tryX X E ps).Ok):X.Ok:=⟨ok.mod,ok.kind,ok.glob,ok.blt,ok.above,ok.inj,ok.has,ok.cab,ok.hd,ok.frames,ok.stk,ok.exf,ok.bs,ok.bsz,ok.noex,ok.exfs,ok.funs,ok.frf⟩
def jaW (I:Inv X pins σ H s):Inv (Cx.tryX X E pins) [] σ H s:=⟨jcu I.ok,I.os,I.bare,I.base,I.loc,I.cell,I.free,I.freeC,fun p hp=>I.pin p (by simpa using hp),I.hok,I.len⟩
def xC (I:Inv (Cx.tryX X E pins) ps σ H s):Inv X pins σ H s:=⟨vy I.ok,I.os,I.bare,I.base,I.loc,I.cell,I.free,I.freeC,fun p hp=>I.pin p (abr _ hp),I.hok,I.len⟩
def JM {D:Ends} {f:Flow} {s':aad} (h:SP (Cx.tryX X E pins) [] D f s'):SP X pins D f s':=by
 cases f with
 |next=>obtain ⟨σ',H',I,q⟩:=h;exact ⟨σ',H',xC I,q⟩
 |brk=>obtain ⟨σ',H',I,q⟩:=h;exact ⟨σ',H',xC I,q⟩
 |cont=>obtain ⟨σ',H',I,q⟩:=h;exact ⟨σ',H',xC I,q⟩
 |ret u=>obtain ⟨v,σ',H',I,r,q⟩:=h;exact ⟨v,σ',H',xC I,r,q⟩
def jaH (ok:X.Ok):(Cx.held X e).Ok:=⟨ok.mod,ok.kind,ok.glob,ok.blt,ok.above,ok.inj,ok.has,ok.cab,(fun z=>nomatch z),ok.frames,ok.stk,ok.exf,ok.bs,ok.bsz,ok.noex,ok.exfs,ok.funs,ok.frf⟩
def YW (I:Inv X pins σ H s):Inv (Cx.held X e) pins σ H s:=⟨jaH I.ok,I.os,I.bare,I.base,I.loc,I.cell,I.free,I.freeC,I.pin,I.hok,I.len⟩
def x0 (ok:X.Ok) (I:Inv (Cx.held X e) pins σ H s):Inv X pins σ H s:=⟨ok,I.os,I.bare,I.base,I.loc,I.cell,I.free,I.freeC,I.pin,I.hok,I.len⟩
def ZU {M:Model} {A:aaZ} {E:Xk} {i:Nat} {x:Str} {pos:Pos} {Q:Unit->aad->Prop} (I:Inv X pins σ H s) (hN:X.N.Nodup) (hi:X.N[i]?=some x) (hk:X.env.scope.names.lookup x=some .local)
   (h: ∀s',Inv X pins (σ.set i none) H s'->Q () s'):wpAny M A (do bindName X.env x .none;unbindBehindTheSuite X.env x pos) Q E s:=by
 obtain ⟨m,hn,hl⟩:=id I.loc;have hcls:(X.env.scope.kind== .class|| (X.env.scope.kind== .module&&X.env.locals !=X.env.globals))=false:=by rw [I.ok.kind];rfl
 have hiσ:i<σ.length:=by rw [I.len];exact (aax.mp hi).1
 have cne:=I.cne
 have tracked: ∀ {a:Addr} {h':Heap},(∃o,s.heap.get? a=some o/\H a=none)->acT a s.heap h'->HOk X.prog X.w H h':=fun {a h'} ha hs b ob e=>by
   obtain ⟨_,_,hfree⟩:=ha;refine (I.hok b ob e).stay (fun c w' hc q=>(hs.2 c ?_).trans q) (fun _ q=>q) fun _ _ q=>q
   rintro rfl;rcases hc with rfl|hc
   · rw [hfree] at e;cases e
   · rw [hfree] at hc;cases hc
 refine wpAny_nameGoes_keeps hk hn hcls fun h' v hn' hs=>?_
 obtain ⟨oL,_,_,hoL,_⟩:=id hn;refine h _ ⟨I.ok,I.os,I.bare,⟨fun b o e n hb hx=>?_,fun b o e n hb hx=>?_,I.base.free,fun b o e hx=>?_,I.base.tups,I.base.frzs,I.base.tbls⟩,⟨_,hn',fun j y v' e1 e2 e3=>?_⟩,fun y c e=>?_,I.free,I.freeC,fun p hp=>?_,tracked ⟨oL,hoL,I.free⟩ hs,by simpa using I.len⟩
 · exact (hs.2 b (aa0 (aat (aau e) I.ok.above))).trans (I.base.keep b o e n hb hx)
 · obtain ⟨sl,e1⟩:=I.base.slot b o e n hb hx;exact ⟨sl,(hs.2 b (aa0 (aat (aau e) I.ok.above))).trans e1⟩
 · obtain ⟨o',e1⟩:=I.base.there b o e hx;exact ⟨o',(hs.2 b (aa0 (aat (aau e) I.ok.above))).trans e1⟩
 · by_cases hj:j=i
   · subst hj;rw [aa7 hiσ] at e2;cases e2
   · rw [abP (ab8 hj)] at e2;obtain ⟨u',r',q⟩:=hl j y v' e1 e2 e3;refine ⟨u',r',?_⟩;rcases q with ⟨k,e⟩| ⟨k,c,e,z⟩
     · refine .inl ⟨k,?_⟩;have:y≠x:=fun e=>hj (ZM hN e1 (e▸hi))
       simp [this,e]
     · exact .inr ⟨k,c,e,z.sameBut hs (cne y c e)⟩
 · obtain ⟨w',z⟩:=I.cell y c e;exact ⟨w',z.sameBut hs (cne y c e)⟩
 · obtain ⟨e,n,ne,nf,d⟩:=I.pin p hp;exact ⟨(hs.2 p.1 ne).trans e,n,ne,nf,d⟩
end
def Up {P:aaB} {w:World} {base:Heap} {outer:List Env} {H H':Hp} {h h1 h' B:Heap} (un:Un (frs outer) [] H H' h h1) (hok:HOk P w H' h1) (fr: ∀b∈frs outer,H' b=none)
   (cov: ∀b,b∉frs outer->((∃o,h.get? b=some o)\/ ∃u,H' b=some u)->B.get? b=h1.get? b) (FF:h1.FunFrames base outer) (st:B.StaysIn h') (up:h1.UpToSlots h'):
   Un (frs outer) [] H H' h h'/\HOk P w H' h':=by
 have slotOf: ∀b o,b∈frs outer->h1.get? b=some o-> ∃sl,h'.get? b=some {o with slots:=sl}:=fun b o hb q=>by
   obtain ⟨_,o',ho',hd⟩:=FF.mem hb;rw [q] at ho';cases ho';exact up b o q hd
 refine ⟨⟨fun b o q n hb _=>?_,fun b o q n hb _=>?_,un.free,fun b o q _=>?_,un.tups,un.frzs,un.tbls⟩,fun b u q=>?_⟩
 · have h2:=un.keep b o q n hb (by simp);exact st b o ((cov b hb (.inl ⟨o,q⟩)).trans h2)
 · obtain ⟨sl,h2⟩:=un.slot b o q n hb (by simp);obtain ⟨sl',h3⟩:=slotOf b _ hb h2;exact ⟨sl',h3⟩
 · obtain ⟨o',h2⟩:=un.there b o q (by simp)
   by_cases hm:b∈frs outer
   · obtain ⟨sl,h3⟩:=slotOf b o' hm h2;exact ⟨_,h3⟩
   · exact ⟨o',st b o' ((cov b hm (.inl ⟨o,q⟩)).trans h2)⟩
 · refine (hok b u q).stay (fun c v hc r=>?_) (fun _ z=>z) fun _ _ z=>z
   have ht: ∃u,H' c=some u:=by
     rcases hc with z|z
     · rw [z];exact ⟨u,q⟩
     · exact ⟨_,z⟩
   obtain ⟨u',hu'⟩:=ht;have nm:c∉frs outer:=fun z=>by rw [fr c z] at hu';cases hu'
   exact st c v ((cov c nm (.inr ⟨u',hu'⟩)).trans r)
section
variable {K:aaa} {G:Xl} {H0 H:Hp} {env:Sl} {σ:L2.St} {j:Nat}
def J6 {w0:Option V} {a:Addr} (o:qQ (env.set j .un) (σ.set j w0) a):qQ env σ a:=by
 obtain ⟨i,d,h1,h2⟩:=o
 by_cases z:j=i
 · subst z;obtain ⟨q,_⟩:=jC h1;cases q
 · rw [jp z] at h1 h2;exact ⟨i,d,h1,h2⟩
def EnvOk.unset {w0:Option V} (k:EnvOk K G H0 env σ H):EnvOk K G H0 (env.set j .un) (σ.set j w0) H:=by
 have w: ∀a,Sf G env σ a->Sf G (env.set j .un) (σ.set j w0) a:=fun a n=>⟨fun o=>n.1 (J6 o),n.2⟩
 refine ⟨by simp [k.len],k.base,k.g0,fun i e h=>?_,fun i e h=>?_,fun i i' e e' a h1 h2 h3 h4=>?_⟩
 · by_cases z:j=i
   · subst z;obtain ⟨q,_⟩:=jC h;cases q
   · rw [jp z] at h ⊢;obtain ⟨v',h1,h2⟩:=k.shr i e h;exact ⟨v',h1,h2.weak w⟩
 · by_cases z:j=i
   · subst z;obtain ⟨q,_⟩:=jC h;cases q
   · rw [jp z] at h ⊢;obtain ⟨a,h1,h2,h3⟩:=k.own i e h;exact ⟨a,h1,h2,h3.stay (fun _ _ e _=>e) w fun _ q=>q⟩
 · have n1:j≠i:=by rintro rfl;obtain ⟨q,_⟩:=jC h1;cases q
   have n2:j≠i':=by rintro rfl;obtain ⟨q,_⟩:=jC h2;cases q
   rw [jp n1] at h1 h3;rw [jp n2] at h2 h4;exact k.dis i i' e e' a h1 h2 h3 h4
def Frm.unset {w0:Option V}:Frm env σ H (env.set j .un) (σ.set j w0) H:=⟨fun _ _ e _=>e,fun b o=> .inl (J6 o),fun _ e=>e⟩
end
def outU (j:Nat):Out->Out
 | .nx env=> .nx (env.set j .un)
 | .bk env=> .bk (env.set j .un)
 | .ct env=> .ct (env.set j .un)
 | .rt fr d=> .rt fr d
def tryO (cs:List Str) (g:TL) (j:Nat) (gs:TL):Sl->Res Out:=fun env=>match g env with
 | .ok o=> .ok o
 | .exc c=>if cs.contains c=true then gs (env.set j (.shr (.exn c)))>>=fun o=> .ok (outU j o) else .stuck
 | .stuck=> .stuck
def jbO {P:aaB} {w:World} {fs:List Addr} {H H':Hp} {h h':Heap} {a:Addr} {oe:Obj} (un:Un fs [] H H' h h') (hok:HOk P w H' h') (hn:h.get? a=none) (ha:H' a=none) (he:h'.get? a=some oe):
   Un fs [] H (upd H' a (.frz oe (.own a))) h h'/\HOk P w (upd H' a (.frz oe (.own a))) h':=by
 refine ⟨⟨un.keep,un.slot,fun b o q n hx=>?_,un.there,fun b xs q=>?_,fun b o u q=>?_,fun b ps q=>?_⟩,fun b u e=>?_⟩
 · rw [jr (by rintro rfl;rw [hn] at q;cases q)];exact un.free b o q n hx
 · have:=un.tups b xs q;rw [jr (jM this ha)];exact this
 · have:=un.frzs b o u q;rw [jr (jM this ha)];exact this
 · obtain ⟨m,e⟩:=un.tbls b ps q;exact ⟨m,by rw [jr (jM e ha)];exact e⟩
 · by_cases hb:b=a
   · subst hb;rw [jo] at e;cases e;exact ⟨he,oe,he⟩
   · rw [jr hb] at e;exact (hok b u e).stay (fun c v _ q=>q) (fun c q=>by rw [jr (jM q ha)];exact q) fun c xs q=>by rw [jr (jM q ha)];exact q
def jc2 {X:Cx} {n T:Str} {CT:Addr} {body suite:List Stmt} {b₀:Stmt} {g gs:TL} {np hpos pos:Pos} (cs:List Str) (j:Nat) (hN:X.N.Nodup) (hb: ∀E' ps,DSsY (Cx.tryX X E' ps) body g) (hs: ∀e,DSs (Cx.held X e) (b₀::suite) gs)
    (hT:X.mg T=some (.ref CT)) (hx: ∀c,cs.contains c=true-> ∀C,NmC X.K c C->PySem.W.exmOne X.K (.ref C) (.ref CT)=some true)
    (hj:X.N[j]?=some n:=by rfl) (hl:X.env.scope.names.lookup n=some .local:=by rfl) (hst:X.stack=X.env::X.outer:=by rfl) (hfr:X.env.frame=some X.env.locals:=by rfl) (hg:Gl X T:=by rfl) (hdb:Zu T:=by decide):
    DS X (.Try body [.ExceptHandler (some (.Name T np)) (some n) (b₀::suite) hpos] [] [] pos) (tryO cs g j gs):=by
 with_unfolding_all exact (by
  rintro pins s σ H E I ⟨G,H0,env,o,k,ef,q⟩
  refine wpAny_Try_except (abR ((hb (fun e s₁=>wpAny (model X.prog X.w) X.A (noteFrame e X.env) (fun _ s₂=>wpAny (model X.prog X.w) X.A (setFlight e none) (fun _ s₃=>
    wpAny (model X.prog X.w) X.A (handleBy e X.env [.ExceptHandler (some (.Name T np)) (some n) (b₀::suite) hpos]) (SP X pins E) X.xe s₃) X.xe s₂) X.xe s₁) pins) [] s σ H E (jaW I) ⟨G,H0,env,k,?_⟩) (fun f s1 hq=>?_) fun e s1 h=>h)
  · unfold tryO at ef
    cases eg:g env with
    |ok o'=>rw [eg] at ef;cases ef;exact .inl ⟨_,rfl,q⟩
    |stuck=>rw [eg] at ef;cases ef
    |exc c=>
     rw [eg] at ef;dsimp only at ef
     by_cases hc:cs.contains c=true
     · rw [if_pos hc] at ef;obtain ⟨o1,e1,e2⟩:=jc ef;cases e2;refine .inr ⟨c,rfl,fun pins' H1 s2 e s' sm I' cx=>?_⟩;have I1:=xC I';obtain ⟨a,C,H',B,a0,rfl,os,bare,un,hok,ha,fl,cov,C',eC,hC,sm2⟩:=cx;cases eC;have J:=I1.call' os un hok bare fun b hb=>absurd hb (by simp)
       have nb:a∉frs X.stack:=fun hm=>by
         obtain ⟨_,o',ho',hd⟩:=J.stack.mem hm;obtain ⟨oe,vs,he,_,hv,_⟩:=fl.first
         rw [he] at ho';cases ho';exact hd _ hv
       have hn:s2.heap.get? a=none:=by
         cases z:s2.heap.get? a with
         |none=>rfl
         |some o'=>
          obtain ⟨ob,hob,_⟩:=fl.there;have:=cov a nb (.inl ⟨o',z⟩);rw [fl.2.1,hob] at this;cases this
       refine wpAny_looks_onW (by rw [←hst];exact I.ok.frames) hfr (by rw [←hst];exact fl) fun h2 held up2=>?_
       refine wpAny_landsW held fun h3 fly3 up3=>?_
       obtain ⟨f1,f2,f3,f4⟩:=fly3;obtain ⟨U3,O3⟩:=Up un hok J.stkFree cov J.stack f1 (up2.trans up3);have I3:=I1.call' (s':={s' with heap:=h3}) os U3 O3 bare fun b hb=>absurd hb (by simp)
       refine wpAny_handleBy_cons (codeAny_handlers_test ?_) (by intro q;cases q);refine Jj (YW I3) hg hT ?_ hdb;obtain ⟨ob3,hob3,hc3⟩:=adp (Heap.TracedW.at f4);refine (PySem.W.exm_one I3.kIn (by rw [←hc3];exact (acF hob3).andThen .now) (hx c hc C hC)).here ?_;refine codeAny_handlers_suite_as ?_;refine wpAny_setFlight_noneW f1 f3 (Heap.TracedW.at f4) fun h4 st4 FF4 tr4 keep4=>?_
       have up4:=up2.trans (up3.trans fun b o e n=>⟨o.slots,keep4 b o e n⟩);obtain ⟨U4,O4⟩:=Up un hok J.stkFree cov J.stack st4 up4;obtain ⟨oe,hoe,hce⟩:=adp (Heap.TracedW.at tr4);obtain ⟨U5,O5⟩:=jbO U4 O4 hn ha hoe;have I5:=I1.call' (s':={s' with heap:=h4}) os U5 O5 bare fun b hb=>absurd hb (by simp)
       have sm5:Same H (upd H' a (.frz oe (.own a))):=(sm.trans sm2).trans (Same.upd ha);have rp:Rep X.K (Sf G env σ) (upd H' a (.frz oe (.own a))) (.ref a) (.exn c):= .exn jo hce hC;refine JL (X:=Cx.held X a) (YW I5) hN hj (.inl hl) (v:= .ref a) rfl (fun s6 I6=>?_) (.inr hl);have kS:=(k.grow sm5).setS (i:=j) rp;have fS:Frm env σ H (env.set j (.shr (.exn c))) (σ.set j (some (.ref a))) (upd H' a (.frz oe (.own a))):= .set sm5 fun _ _ z _=>by cases z
       refine abR ((hs a) pins s6 (σ.set j (some (.ref a))) _ ⟨fun σ' H'=>E.nx (σ'.set j none) H',E.rt,fun σ' H'=>E.bk (σ'.set j none) H',fun σ' H'=>E.ct (σ'.set j none) H'⟩ I6 ⟨G,H0,_,o1,kS,e1,?_⟩) (fun f s7 h7=>?_) fun _ _ z=>aba z
       · cases o1 with
         |nx env1=>exact fun σ' H3 k3 f3=>q _ H3 k3.unset ((fS.trans f3).trans .unset)
         |bk env1=>exact fun σ' H3 k3 f3=>q _ H3 k3.unset ((fS.trans f3).trans .unset)
         |ct env1=>exact fun σ' H3 k3 f3=>q _ H3 k3.unset ((fS.trans f3).trans .unset)
         |rt fr d=>exact q
       · cases f with
         |next=>
          obtain ⟨σ',H3,I7,q7⟩:=h7;exact ZU (x0 I.ok I7) hN hj hl fun s8 I8=>⟨_,H3,I8,q7⟩
         |brk=>
          obtain ⟨σ',H3,I7,q7⟩:=h7;exact ZU (x0 I.ok I7) hN hj hl fun s8 I8=>⟨_,H3,I8,q7⟩
         |cont=>
          obtain ⟨σ',H3,I7,q7⟩:=h7;exact ZU (x0 I.ok I7) hN hj hl fun s8 I8=>⟨_,H3,I8,q7⟩
         |ret u=>
          obtain ⟨v,σ',H3,I7,r7,q7⟩:=h7;exact ZU (x0 I.ok I7) hN hj hl fun s8 I8=>⟨v,_,H3,I8,r7,q7⟩
     · rw [if_neg hc] at ef;cases ef
  · cases f with
    |next=>exact aci (JM hq)
    |brk=>exact JM hq
    |cont=>exact JM hq
    |ret u=>exact JM hq)
section
open PySem.W PySem.Calls
def jaV {K:Frag} {x t c:Value} {H:Heap->Prop} (ty: ∀(M:Model) (h:Heap),K.In h->H h->Looks M h (typeOf x) t) (e:aaR K t c=some true):Answers (fun s=>K.In s.heap/\H s.heap) x c true:=by
 intro dep tk prog w A R s hs;obtain ⟨h0,g,d,tt,os⟩:=s;obtain ⟨⟨X,p⟩,hq⟩:=hs;have LT:=ty (model prog w) h0 X p;unfold aaR at e;unfold Builtin.«isinstance.nested»;refine aaf (LT.at ?_)
 by_cases q:(t==c)=true
 · rw [if_pos q]
   first
    | ((repeat lk);exact hq tt)
    |exact aaf (wpAny_rule (hq tt))
    |exact aaf (wpAny_rule (aam (hq tt)))
 · rw [if_neg q] at e;rw [if_neg q];obtain ⟨hty,his,hsub⟩:=kit_cls X e;have LI:Looks (model prog w) h0 (isInstance x c) true:=LT.andThen hsub;refine aaf (hty.at ?_);rw [if_pos (by decide)]
   k_delta "plainIsInstance"
   refine aaf (aaf (his.at ?_));simp;refine aaf (LI.at ?_)
   first
    |exact aam (aam (hq tt))
    | (simp;first|exact aam (aam (hq tt))|exact aam (hq tt)|exact aaf (aam (aam (hq tt))))
def jaU {prog:aaB} {w:World} {A:aaZ} {E:Xk} {s:aad} {Q:Xk} {K:Frag} {x t c:Value} {H:Heap->Prop} (ty: ∀(M:Model) (h:Heap),K.In h->H h->Looks M h (typeOf x) t)
  (X:K.In s.heap) (p:H s.heap) (e:aaR K t c=some true) (hx:x≠ .builtin "__main__.__loader__#opaque") (h: ∀tk,Q (.bool true) {s with toks:=tk}):
  wpAny (model prog w) A (call (.builtin "isinstance") [x,c]) Q E s:=
 call_isinstance
  (fun prog w A R s hs=>isinstance_outer (jaV ty e 0 _ prog w A R s hs) hx) ⟨⟨X,p⟩,h⟩
end
section
variable {X:Cx}
def ue (cs:List Str) {cV:V} {cv:Value} (hr: ∀u,RelV cV u->u=cv) (hk: ∀c,cs.contains c=true-> ∀C,NmC X.K c C->aaR X.K (.ref C) cv=some true):
  CallR X (.builtin "isinstance") (fun xs H Q=> ∃x c,xs=[x,cV]/\Rep X.K Any H x (.exn c)/\cs.contains c=true/\Q (.bl true) H):=by
 rintro pins s σ H xs us Q I r ⟨x,c,ex,rp,hc,q⟩;subst ex;obtain ⟨u,w',rfl,r1,r2⟩:=Vc r;cases hr w' r2
 cases rp with
 | @exn _ _ a b C o _ ha hC hn=>
  cases (show u=aaJ a from r1);obtain ⟨ho,_⟩:=(show ObjOk X.prog X.w H s.heap a (.frz o (.own b)) from I.hok a _ ha)
  exact jaU (fun M h _ p=>by rw [←hC];exact (acF p).andThen .now) I.kIn ho (hk c hc C hn) (fun z=>nomatch z) fun tk=>⟨.bl true,H,I.tok tk,rfl,q⟩
def isxD (cs:List Str):D->Res D
 | .exn c=>if cs.contains c=true then .ok (.bl true) else .stuck
 |_=> .stuck
def isxF (cs:List Str) (f:TN):Sl->Res D:=fun env=>f env>>=isxD cs
def vI {cs:List Str} {a d:D} (h:isxD cs a= .ok d): ∃c,a= .exn c/\cs.contains c=true/\d= .bl true:=by
 unfold isxD at h
 split at h
 · split at h
   · rename_i hc;cases h;exact ⟨_,rfl,hc,rfl⟩
   · cases h
 · cases h
def jbm (cs:List Str) (T:String) (Ty:Str) {l l':Lv} {e:Expr} {f:TN} {p p2 pos:Pos} (hk: ∀c,cs.contains c=true-> ∀C,NmC X.K c C->aaR X.K (.ref C) (.type T)=some true) (he:DE X l e f)
   (hg:Gl X "isinstance") (hm:X.mg "isinstance" =none) (hg2:Gl X Ty) (hm2:X.mg Ty=none) (hv:aby Ty=some (.type T)) (hn:Ty≠ "__name__" :=by decide)
   (hd:Zu Ty:=by decide) (hs:aac [e,.Name Ty p2] X.env=(false,eval e X.env)::aac [.Name Ty p2] X.env:=by exact jj rfl)
   (hs2:aac [.Name Ty p2] X.env=(false,eval (.Name Ty p2) X.env)::aac [] X.env:=by exact jj rfl) (hpl:(aa1 pos (aac [.Name Ty p2] X.env)).any (·.1)=false:=by exact jK rfl):
   DE X l' (.Call (.Name "isinstance" p) [e,.Name Ty p2] [] pos) (isxF cs f):=by
 with_unfolding_all exact (
  PE.imp (wM (ue cs (cV:= .ty T) (fun u r=>r) hk) hg hm acO (j5 he (j5 (VM (v:= .ty T) hg2 hm2 hv rfl hn hd) zn hs2) hs) (by decide) (by decide) hs hpl) fun σ H Q=>by
   rintro ⟨G,H0,env,d,k,ef,q⟩;obtain ⟨a,e1,e2⟩:=jc ef;refine ⟨G,H0,env,a,k,e1,fun v H' s r _=>?_⟩;obtain ⟨c,rfl,hc,rfl⟩:=vI e2
   exact ⟨v,c,rfl,r.weak Lv.weak_b,hc,q _ H' s (.bl true) (jee (K:=X.K) true).T⟩)
end
abbrev KF:=Int×(Sl->Res D)
section
variable {X:Cx}
def Z3:DSsX X [] (yw nxO):=DSs.x jT
def JK:aby "ValueError" =some (.type "ValueError"):=by decide+kernel
end
section
variable {X:Cx} {k:Nat} {x:Str} {ps:List Str} {fr:Bool} {F:TJ} {e:Expr} {es:List Expr} {p pos:Pos} {g:TK}
def DEX.s {f:TN} (h:DEX X .t e f):DEX X .s e f:=by
 with_unfolding_all exact (PE.imp h fun σ H Q=>by
  rintro ⟨G,H0,env,k,q⟩;rcases q with ⟨d,e1,q⟩|z
  · exact ⟨G,H0,env,k,.inl ⟨d,e1,fun v H' s r _=>q v H' s r trivial⟩⟩
  · exact ⟨G,H0,env,k,.inr z⟩)
def AvX.callS {n:Nat} (A:AvX X.prog X.w X.K X.mg X.base k x ps fr F) (hr:Room k X.A) (ha:DA X .s (e::es) g) (hn:ps.length=n:=by rfl) (hg:Gl X x:=by rfl) (hdb:Zu x:=by decide)
  (he:Xj X e es:=by exact jj rfl) (hpl:Wt X pos es:=by exact jK rfl):DEX X .s (.Call (.Name x p) (e::es) [] pos) (yV n F g):=by
 have h:=AvX.call (p:=p) A hr ha hn hg hdb he hpl
 cases fr with
 |true=>exact DEX.s h
 |false=>exact h
end
end M
namespace M
open PySem PySem.Spec PySem.W PySem.Calls
open PyProof.Rows hiding St
open Builtin Builtin.ObjectAttr Builtin.Getset_descriptor
section
variable {prog:aaB} {w:World} {A:aaZ} {E:Xk} {h:Heap} {g:Array GenState} {d:Drawn} {t:Nat} {os:OsState} {a C:Addr} {o:Obj} {K:Frag}
def kR {R:Result->aad->Prop} {tp:Value} (X:K.In h) (ho:h.get? a=some o) (hc:o.cls= .ref C) (hm:mroIn K C (.type "object")=some true) (hq:R (.ok (.ret (.ref C))) ⟨h,g,d,t,os⟩):
  acX (model prog w) A (.call (.builtin "getset_descriptor.__get__") ⟨[.builtin "object.__class__",.ref a,tp],[]⟩) R ⟨h,g,d,t,os⟩:=by
 have L0:Looks (model prog w) h (typeOf (.ref a)) (.ref C):=hc▸(acF ho).andThen .now;have L1:=looks_mroIn (M:=model prog w) X hm;refine codeAny_call_builtin KF.slot_gs.plain KF.entry_gs (KF.slot_gs.check _ _ _ _ _ _ _ _ KF.type_class (KF.args_gs _ _ _) ?_);unfold Builtin.«getset_descriptor.__get__» descrGet;rw [dga_obj];refine aaf (aam ?_);unfold descrGetter descrCheckInstance descrNameAndClass isInstance;simp only [KF.owner_class]
 repeat lk
 refine ⟨Code.quiet_builtin _ (by decide+kernel),codeAny_builtin KF.entry_class ?_⟩;unfold Builtin.«object.__class__» shownTypeOf
 repeat lk
 exact hq
def K6 (X:K.In h) (ha:aaS K (.ref C) "__class__" =some (some (.builtin "object.__class__"))) (hn:adg K (.builtin "object.__class__") "__get__" =some (some (.builtin "getset_descriptor.__get__"))) (htk:takesIn K (.builtin "object.__class__")=some true):
  Looks (model prog w) h (find (.ref a) (.ref C) "__class__") (.bind (.builtin "getset_descriptor.__get__") (.builtin "object.__class__")):=
 (acY X ha).andThen ((show Looks (model prog w) h (getOf (some (.builtin "object.__class__"))) (some (.builtin "getset_descriptor.__get__")) from looks_specialIn X hn).andThen
  ((show Looks (model prog w) h (dataDescriptor? (some (.builtin "object.__class__")) (some (.builtin "getset_descriptor.__get__"))) (some (.builtin "getset_descriptor.__get__",.builtin "object.__class__")) from (looks_takesIn X htk).andThen .now).andThen (Looks.tag .now)))
def Kq {tk:Tok} {Q:Fin->aad->Prop} (X:K.In h) (ho:h.get? a=some o) (hc:o.cls= .ref C) (hm:mroIn K C (.type "object")=some true)
  (ha:aaS K (.ref C) "__class__" =some (some (.builtin "object.__class__"))) (hn:adg K (.builtin "object.__class__") "__get__" =some (some (.builtin "getset_descriptor.__get__"))) (htk:takesIn K (.builtin "object.__class__")=some true)
  (hq:Q (.done (.ret (.ref C))) ⟨h,g,d,t,os⟩):wpAny (model prog w) A (Builtin.«object.__getattribute__» ⟨[.ref a,.str "__class__" tk],[]⟩) Q E ⟨h,g,d,t,os⟩:=by
 have L0:Looks (model prog w) h (typeOf (.ref a)) (.ref C):=hc▸(acF ho).andThen .now;have L1:=K6 (prog:=prog) (w:=w) (a:=a) X ha hn htk;refine aaf (aam ?_);refine aaf (aam ?_);refine aaf (L0.at ?_);refine aaf (L1.at ?_);exact aaf (acG (ac5 (kR X ho hc hm (aam hq))))
def K7 {tk:Tok} {R:Result->aad->Prop} (X:K.In h) (ho:h.get? a=some o) (hc:o.cls= .ref C) (hm:mroIn K C (.type "object")=some true) (hb:subIn K (.ref C) (.type "BaseException")=some true)
  (ha:aaS K (.ref C) "__class__" =some (some (.builtin "object.__class__"))) (hn:adg K (.builtin "object.__class__") "__get__" =some (some (.builtin "getset_descriptor.__get__"))) (htk:takesIn K (.builtin "object.__class__")=some true)
  (hq:R (.ok (.ret (.ref C))) ⟨h,g,d,t,os⟩):acX (model prog w) A (.call (.builtin "BaseException.__getattribute__") ⟨[.ref a,.str "__class__" tk],[]⟩) R ⟨h,g,d,t,os⟩:=by
 have L0:Looks (model prog w) h (typeOf (.ref a)) (.ref C):=hc▸(acF ho).andThen .now;have L1:Looks (model prog w) h (isSubtype (.ref C) (.type "BaseException")) true:=looks_subIn X hb;refine codeAny_call_builtin F.excAttr_ValueError.ga.plain F.entry_bexc_ga ?_;have hk:builtinKind "BaseException.__getattribute__" =some .slot:=by kernel_rfl
 have hsp:splitId "BaseException.__getattribute__" =some ("BaseException", "__getattribute__"):=by kernel_rfl
 have LI:Looks (model prog w) h (isInstance (.ref a) (.type "BaseException")) true:=L0.andThen L1;have ha2:=F.args_bexc_ga (.ref a) (.str "__class__" tk);simp only [checkBuiltinCall,hk,hsp];refine aaf (LI.at ?_);simp
 have fin:wpAny (model prog w) A.in1 (Builtin.«object.__getattribute__» ⟨[.ref a,.str "__class__" tk],[]⟩) (fun fin s'=>match fin with| .done f=>R (.ok f) s'| .again c'=>c'.quiet=true/\acX (model prog w) A c' R s') (fun e s'=>R (.error e) s') ⟨h,g,d,t,os⟩:=
  Kq X ho hc hm ha hn htk hq
 cases hsig:Manifest.signature? "BaseException.__getattribute__" with
 |none=>exact aam fin
 |some sig=>
  simp only [argsOk,hsig] at ha2;have h2:=ha2;show wpAny _ _ (Bind.checkArgs "BaseException.__getattribute__" sig ⟨[.ref a,.str "__class__" tk],[]⟩) _ _ _;rw [h2];exact aam fin
structure ExcC (K:Frag) (C:Addr):Prop where
 cls:(clsIn K C).isSome=true
 obj:mroIn K C (.type "object")=some true
 base:subIn K (.ref C) (.type "BaseException")=some true
 own:aaS K (.ref C) "__class__" =some (some (.builtin "object.__class__"))
 get:adg K (.builtin "object.__class__") "__get__" =some (some (.builtin "getset_descriptor.__get__"))
 tak:takesIn K (.builtin "object.__class__")=some true
 ga:aaS K (.ref C) "__getattribute__" =some (some (.builtin "BaseException.__getattribute__"))
 hk:aaS K (.ref C) "__getattr__" =some none
def K8 {Q:Option Value->aad->Prop} (X:K.In h) (c:ExcC K C) (ho:h.get? a=some o) (hc:o.cls= .ref C) (hq:Q (some (.ref C)) ⟨h,g,d,t+1,os⟩):wpAny (model prog w) A (getAttr? (.ref a) "__class__") Q E ⟨h,g,d,t,os⟩:=by
 have L0:Looks (model prog w) h (typeOf (.ref a)) (.ref C):=hc▸(acF ho).andThen .now;have L1:=acY (M:=model prog w) X c.ga;have L2:=acY (M:=model prog w) X c.hk;unfold getAttr? getAttrBy? getAttrBy;refine aaf (wpAny_mkText (aaf (wpAny_attempt (acG (aaf (L0.at (aaf (L1.at ?_))))))));unfold getAttrByItsOwn hookBefore;refine aaf (L2.at ?_);refine aaf (wpAny_attempt (acG ?_));show wpAny _ _ (boundAndCalled _ _ _) _ _ _;unfold boundAndCalled;rw [F.excAttr_ValueError.ga.bind (.ref a)];refine aaf (aam ?_);exact ac5 (K7 X ho hc c.obj c.base c.own c.get c.tak (aam (aam hq)))
def YU (c:ExcC K C):KitX K (.ref a) (.ref C) (fun h=> ∃o,h.get? a=some o/\o.cls= .ref C) where
 ty:=fun _ _ _ ⟨o,ho,hc⟩=>hc▸(acF ho).andThen .now
 it:=fun _ _ X _=>by
  obtain ⟨cdD,hcD⟩:=acg.mp c.cls;unfold clsIn at hcD
  split at hcD
  · rename_i c' d' cd' sl' ho;intro A' Q' E' s' k q;unfold isType loadHead;exact aaf (wpAny_loadPart (k _ _ (X _ _ ho)) (aam q))
  · cases hcD
 ne:=fun h tp dd its n sl X htp=>by
  obtain ⟨cdD,hcD⟩:=acg.mp c.cls;refine Bool.eq_false_iff.mpr fun q=>?_
  have e:=Value.ref.inj (beq_iff_eq.mp q);subst e;unfold clsIn at hcD
  split at hcD
  · rename_i c' d' cd' sl' ho;have z:=(X _ _ ho).symm.trans htp;cases z
  · cases hcD
 ca:=fun {prog w A E Q s} X I k=>by
  obtain ⟨o,ho,hc⟩:=I;obtain ⟨h,g,d,t,os⟩:=s;exact K8 X c ho hc k
end
section
open L2
variable {X:Cx}
def ud (tab:List (Str×Bool)) {cV:V} {cv:Value} (hr: ∀u,RelV cV u->u=cv) (hk: ∀c b,tab.lookup c=some b-> ∀C,NmC X.K c C->ExcC X.K C/\aaR X.K (.ref C) cv=some b):
  CallR X (.builtin "isinstance") (fun xs H Q=> ∃x c b,xs=[x,cV]/\Rep X.K Any H x (.exn c)/\tab.lookup c=some b/\Q (.bl b) H):=by
 rintro pins s σ H xs us Q I r ⟨x,c,b,ex,rp,hc,q⟩;subst ex;obtain ⟨u,w',rfl,r1,r2⟩:=Vc r;cases hr w' r2
 cases rp with
 | @exn _ _ a b' C o _ ha hC hn=>
  cases (show u=aaJ a from r1);obtain ⟨ho,_⟩:=(show ObjOk X.prog X.w H s.heap a (.frz o (.own b')) from I.hok a _ ha)
  obtain ⟨ec,hx⟩:=hk c b hc C hn;exact abh (YU ec) I.kIn ⟨o,ho,hC⟩ hx (fun z=>nomatch z) fun tk=>⟨.bl b,H,I.tok tk,rfl,q⟩
def isyD (tab:List (Str×Bool)):D->Res D
 | .exn c=>match tab.lookup c with
  |some b=> .ok (.bl b)
  |none=> .stuck
 |_=> .stuck
def isyF (tab:List (Str×Bool)) (f:TN):Sl->Res D:=fun env=>f env>>=isyD tab
def YV {tab:List (Str×Bool)} {a d:D} (h:isyD tab a= .ok d): ∃c b,a= .exn c/\tab.lookup c=some b/\d= .bl b:=by
 unfold isyD at h
 split at h
 · split at h
   · rename_i b hb;cases h;exact ⟨_,b,rfl,hb,rfl⟩
   · cases h
 · cases h
def jc3 (tab:List (Str×Bool)) (Ty:Str) {CT:Addr} {l l':Lv} {e:Expr} {f:TN} {p p2 pos:Pos} (hk: ∀c b,tab.lookup c=some b-> ∀C,NmC X.K c C->ExcC X.K C/\aaR X.K (.ref C) (.ref CT)=some b) (he:DE X l e f)
   (hg:Gl X "isinstance") (hm:X.mg "isinstance" =none) (hg2:Gl X Ty) (hm2:X.mg Ty=some (.ref CT))
   (hd:Zu Ty:=by decide) (hs:aac [e,.Name Ty p2] X.env=(false,eval e X.env)::aac [.Name Ty p2] X.env:=by exact jj rfl)
   (hs2:aac [.Name Ty p2] X.env=(false,eval (.Name Ty p2) X.env)::aac [] X.env:=by exact jj rfl) (hpl:(aa1 pos (aac [.Name Ty p2] X.env)).any (·.1)=false:=by exact jK rfl):
   DE X l' (.Call (.Name "isinstance" p) [e,.Name Ty p2] [] pos) (isyF tab f):=by
 with_unfolding_all exact (
  PE.imp (wM (ud tab (cV:= .ref CT) (fun u r=>r) hk) hg hm acO (j5 he (j5 (ZB (v:= .ref CT) hg2 hm2 rfl hd) zn hs2) hs) (by decide) (by decide) hs hpl) fun σ H Q=>by
   rintro ⟨G,H0,env,d,k,ef,q⟩;obtain ⟨a,e1,e2⟩:=jc ef;refine ⟨G,H0,env,a,k,e1,fun v H' s r _=>?_⟩;obtain ⟨c,b,rfl,hc,rfl⟩:=YV e2
   exact ⟨v,c,b,rfl,r.weak Lv.weak_b,hc,q _ H' s (.bl b) (jee (K:=X.K) b).T⟩)
end
end M
namespace M
open PySem PySem.Spec L2
open PyProof.Rows hiding St
section
variable {X:Cx}
def tCs (vs:List V):TA:=fun _ H Q=>Q vs H
def VO:PA X [] (tCs []):=zn
def qW {T:Str} {C:Addr} {p:Pos} {es:List Expr} {vs:List V} (hg:Gl X T) (hm:X.mg T=some (.ref C)) (hr:PA X es (tCs vs)) (hd:Zu T:=by decide)
  (hs:aac (.Name T p::es) X.env=(false,eval (.Name T p) X.env)::aac es X.env:=by exact jj rfl):PA X (.Name T p::es) (tCs (.ref C::vs)):=
 j5 (ZB (v:= .ref C) hg hm rfl hd) hr hs
theorem kj: ∀ {Cs:List Addr} {us:List Value},Vals (Cs.map V.ref) us->us=Cs.map aaJ
 | [],_,r=>by cases r;rfl
 |C::Cs,_,r=>by
  cases r with
  |cons h t=>
   cases (show _=aaJ C from h);rw [kj t];rfl
def kv (tab:List (Str×Bool)) (Cs:List Addr) (hk: ∀c b,tab.lookup c=some b-> ∀C,NmC X.K c C->ExcC X.K C/\acb X.K (.ref C) (Cs.map aaJ)=some b):
  CallR X (.builtin "isinstance") (fun xs H Q=> ∃x p c b,xs=[x,.ref p]/\H p=some (.tup (Cs.map V.ref))/\Rep X.K Any H x (.exn c)/\tab.lookup c=some b/\Q (.bl b) H):=by
 rintro pins s σ H xs us Q I r ⟨x,p,c,b,ex,hp,rp,hc,q⟩;subst ex;obtain ⟨u,w',rfl,r1,r2⟩:=Vc r;cases r2;obtain ⟨its,rv,⟨ob,e,hcl,n,hd⟩,_⟩:=I.tuple (.of hp);obtain ⟨c2,dd2,dt2,sl2⟩:=ob;have hc':=hcl;have hd':=hd;subst hc' hd';have hits:=kj rv;subst hits
 cases rp with
 | @exn _ _ a b' C o _ ha hC hn=>
  cases (show u=aaJ a from r1);obtain ⟨ho,_⟩:=(show ObjOk X.prog X.w H s.heap a (.frz o (.own b')) from I.hok a _ ha)
  obtain ⟨ec,hx⟩:=hk c b hc C hn;exact PySem.W.kia_tup (YU ec) I.kIn ⟨o,ho,hC⟩ e hx (fun z=>nomatch z) fun tk=>⟨.bl b,H,I.tok tk,rfl,q⟩
def UZ (tab:List (Str×Bool)) (Cs:List Addr) {l l':Lv} {e:Expr} {es:List Expr} {f:TN} {p tpos pos:Pos} {k:Nat} (hk: ∀c b,tab.lookup c=some b-> ∀C,NmC X.K c C->ExcC X.K C/\acb X.K (.ref C) (Cs.map aaJ)=some b) (he:DE X l e f)
   (hg:Gl X "isinstance") (hm:X.mg "isinstance" =none) (hes:PE X (.Tuple es k tpos) (tTup (tCs (Cs.map V.ref)))) (hsz:Cs.length<=aae:=by decide)
   (hs:aac [e,.Tuple es k tpos] X.env=(false,eval e X.env)::aac [.Tuple es k tpos] X.env:=by exact jj rfl)
   (hs2:aac [.Tuple es k tpos] X.env=(false,eval (.Tuple es k tpos) X.env)::aac [] X.env:=by exact jj rfl) (hpl:(aa1 pos (aac [.Tuple es k tpos] X.env)).any (·.1)=false:=by exact jK rfl):
   DE X l' (.Call (.Name "isinstance" p) [e,.Tuple es k tpos] [] pos) (isyF tab f):=by
 with_unfolding_all exact (
  PE.imp (wM (kv tab Cs hk) hg hm acO (j5 he (j5 hes zn hs2) hs) (by decide) (by decide) hs hpl) fun σ H Q=>by
   rintro ⟨G,H0,env,d,kk,ef,q⟩;obtain ⟨a,e1,e2⟩:=jc ef;refine ⟨G,H0,env,a,kk,e1,fun v H' s r _=>?_⟩;obtain ⟨c,b,rfl,hc,rfl⟩:=YV e2;refine ⟨by simpa using hsz,fun p' hp'=>?_⟩
   exact ⟨v,p',c,b,rfl,jo,(r.grow (Same.upd hp')).weak Lv.weak_b,hc,q _ _ (s.trans (Same.upd hp')) (.bl b) (jee (K:=X.K) b).T⟩)
end
def Qj {α:Type} {c:Str} {v:α} {l:List (Str×α)}:aaE c ((c,v)::l)=some v:=by simp [aaE]
def Qh {α:Type} {c d:Str} {v:α} {l:List (Str×α)} (h:c≠d):aaE c ((d,v)::l)=aaE c l:=by
 have:(c==d)=false:=by simpa using h
 simp [aaE,this]
inductive OutI where
 |nx (env:Sl)|rt (b:Bool) (env:Sl)
abbrev At (σ:L2.St) (i:Nat) (a:Addr):Prop:=σ[i]?=some (some (V.ref a))
section
variable {K:aaa} {G:Xl} {H0 H H':Hp} {env env':Sl} {σ σ':L2.St} {i:Nat} {a:Addr} {E:Ends}
def EnvOk.anew {d d':D} (k:EnvOk K G H0 env σ H) (hi:env[i]?=some (.own d)) (ha:At σ i a) (hs: ∀c o,c≠a->H c=some o->H' c=some o) (t:Top K (Sf G env σ) H' a d'):
   EnvOk K G H0 (env.set i (.own d')) σ H'/\Frm env σ H (env.set i (.own d')) σ H':=by
 have hl:i<env.length:=(aax.mp hi).1;have ow:qQ env σ a:=⟨i,_,hi,ha⟩
 have same: ∀c,qQ (env.set i (.own d')) σ c->qQ env σ c:=fun c ⟨j,e,h1,h2⟩=>by
   by_cases z:i=j
   · subst z;exact ⟨i,d,hi,h2⟩
   · exact ⟨j,e,by rw [jp z] at h1;exact h1,h2⟩
 obtain ⟨a',ha',h0a,ta⟩:=k.own i _ hi;rw [ha] at ha';cases ha';obtain ⟨o0,ho0,mo0⟩:=ta.there
 have st:Stay (Sf G env σ) H H':=fun c o e m=>hs c o (by
   rintro rfl;rw [ho0] at e;cases e
   exact (m mo0).1 ow) e
 have w: ∀c,Sf G env σ c->Sf G (env.set i (.own d')) σ c:=fun c n=>⟨fun o=>n.1 (same c o),n.2⟩
 refine ⟨⟨by simp [k.len],fun c o e=>?_,k.g0,fun j e h=>?_,fun j e h=>?_,fun j j' d1 d2 b q1 q2 q3 q4=>?_⟩,⟨fun c o e n=>?_,fun c o=> .inl (same c o),fun c e=>?_⟩⟩
 · exact hs c o (by rintro rfl;rw [h0a] at e;cases e) (k.base c o e)
 · by_cases z:i=j
   · subst z;obtain ⟨q,_⟩:=jC h;cases q
   · rw [jp z] at h;obtain ⟨v,h1,h2⟩:=k.shr j e h;exact ⟨v,h1,h2.stay st w⟩
 · by_cases z:i=j
   · subst z;obtain ⟨q,_⟩:=jC h;cases q;exact ⟨a,ha,h0a,t.stay (fun _ _ e _=>e) w fun _ e=>e⟩
   · rw [jp z] at h;obtain ⟨b,h1,h0,h2⟩:=k.own j e h
     have hb:b≠a:=by
       rintro rfl;exact z (k.dis i j _ _ b hi h ha h1)
     exact ⟨b,h1,h0,h2.stay st w fun o e=>hs b o hb e⟩
 · have real: ∀(j:Nat) (d1:D),(env.set i (.own d'))[j]?=some (.own d1)-> ∃d0:D,env[j]?=some (.own d0):=fun j d1 q=>by
     by_cases z:i=j
     · subst z;exact ⟨_,hi⟩
     · exact ⟨d1,by rw [jp z] at q;exact q⟩
   obtain ⟨e1,z1⟩:=real j d1 q1;obtain ⟨e2,z2⟩:=real j' d2 q2;exact k.dis j j' e1 e2 b z1 z2 q3 q4
 · exact hs c o (by rintro rfl;exact n ow) e
 · cases z:H c with
   |none=>rfl
   |some o=>
     by_cases hc:c=a
     · subst hc;obtain ⟨o1,h1,_⟩:=t.there;rw [h1] at e;cases e
     · rw [hs c o hc z] at e;cases e
end
abbrev FI:=List D->List Key->List D->Res (Bool×List Key×List D)
def getN (f:Str):List Str->List D->Option D
 |n::ns,d::ds=>if n=f then some d else getN f ns ds
 |_,_=>none
def Xm (f:Str):List Str->List Str
 | []=>[f]
 |n::ns=>if n=f then n::ns else n::Xm f ns
def Xn (f:Str) (d:D):List Str->List D->List D
 | [],_=>[d]
 |n::ns,e::es=>if n=f then d::es else e::Xn f d ns es
 |_::_,[]=>[]
theorem JP {K:aaa} {A:Xl} {H:Hp} {f:Str}: ∀ {fs:List (Str×V)} {ds:List D} {d:D},Reps K A H (fs.map (·.2)) ds->getN f (fs.map (·.1)) ds=some d-> ∃v,fs.lookup f=some v/\Rep K A H v d
 | [],_,_,_,h=>by simp [getN] at h
 | (n,v)::r,_,d,.cons q t,h=>by
  by_cases e:n=f
  · subst e;simp only [abj,getN,if_pos] at h;cases h;exact ⟨v,by simp [aaE],q⟩
  · simp only [abj,getN,if_neg e] at h;obtain ⟨v',h1,h2⟩:=JP t h;exact ⟨v',by rw [aaU];simp [show (f==n)=false from by simpa using fun z=>e z.symm,h1],h2⟩
theorem Zy {K:aaa} {A:Xl} {H:Hp} {f:Str} {v:V} {d:D} (rv:Rep K A H v d): ∀ {fs:List (Str×V)} {ds:List D},Reps K A H (fs.map (·.2)) ds->(putF f v fs).map (·.1)=Xm f (fs.map (·.1))/\Reps K A H ((putF f v fs).map (·.2)) (Xn f d (fs.map (·.1)) ds)
 | [],_,.nil=>⟨rfl,.cons rv .nil⟩
 | (n,u)::r,_,.cons q t=>by
  by_cases e:n=f
  · simp only [putF,abj,Xm,Xn,if_pos e];exact ⟨trivial,.cons rv t⟩
  · simp only [putF,abj,Xm,Xn,if_neg e];obtain ⟨h1,h2⟩:=Zy rv t;exact ⟨by rw [h1],.cons q h2⟩
theorem yM {f:Str}: ∀ {fs:List (Str×V)},(fs.map (·.1)).contains f=false->fs.lookup f=none
 | [],_=>rfl
 | (n,u)::r,h=>by
  simp only [abj,acU,Bool.or_eq_false_iff] at h;rw [aaU];simp [h.1,yM h.2]
def Rep.objE {K:aaa} {A:Xl} {H:Hp} {v:V} {c:Str} {ns:List Str} {ds:List D} (r:Rep K A H v (.obj c ns ds)): ∃a C dx fs,v= .ref a/\H a=some (.ins C dx fs)/\A a/\aaj K aah c=some (some (.ref C))/\fs.map (·.1)=ns/\Reps K (fun c=>A c/\c≠a) H (fs.map (·.2)) ds:=by
 cases r with
 |obj e a k1 k2 r=>subst k2;exact ⟨_,_,_,_,rfl,e,a,k1.1,k1.2,r⟩
def Jg {K:aaa} {G:Xl} {H0 H:Hp} {env:Sl} {σ:L2.St} {i:Nat} {c:Str} {ns:List Str} {ds:List D} (k:EnvOk K G H0 env σ H) (hi:env[i]?=some (.own (.obj c ns ds))):
  ∃a C dx fs,σ[i]?=some (some (.ref a))/\H a=some (.ins C dx fs)/\aaj K aah c=some (some (.ref C))/\fs.map (·.1)=ns/\Reps K (Sf G env σ) H (fs.map (·.2)) ds:=by
 obtain ⟨a,h1,_,h2⟩:=k.own i _ hi
 cases h2 with
 |obj e k1 k2 r=>subst k2;exact ⟨a,_,_,_,h1,e,k1.1,k1.2,r⟩
structure FldN (K:aaa) (c f:Str):Prop where
 ex: ∃C,aaj K aah c=some (some (.ref C))/\Cls K C/\NoAttr K C f
def FldN.at {K:aaa} {c f:Str} {C:Addr} (h:FldN K c f) (e:aaj K aah c=some (some (.ref C))):Cls K C/\NoAttr K C f:=by
 obtain ⟨C',h1,h2⟩:=h.ex;rw [e] at h1;cases h1;exact h2
def fldD (c f:Str):D->Res D
 | .obj c' ns ds=>must (c'=c) (match getN f ns ds with
  |some d=> .ok d
  |none=> .stuck)
 |_=> .stuck
def vO {c f:Str} {o d:D} (h:fldD c f o= .ok d): ∃ns ds,o= .obj c ns ds/\getN f ns ds=some d:=by
 unfold fldD at h
 split at h
 · rename_i c' ns ds;obtain ⟨hc,h2⟩:=jy h;subst hc
   cases e:getN f ns ds with
   |none=>rw [e] at h2;cases h2
   |some d'=>rw [e] at h2;cases h2;exact ⟨ns,ds,rfl,e⟩
 · cases h
def fldF (c f:Str) (fo:TN):Sl->Res D:=fun env=>fo env>>=fldD c f
section
variable {X:Cx} {e:Expr} {fo:TN} {pos p:Pos} {c f:Str}
def zX (i:Nat) {x:Str} (hf:FldN X.K c f) (hN:X.N[i]?=some x:=by rfl) (hv:Vis X.env.scope x:=by first|exact aa6 rfl|exact aaI (aa6 rfl)|exact aaI (aaI rfl))
   (hd:Zu x:=by decide) (hcd:Zt x:=by decide)
   (hb:aa2 (.Name x p) f X.env (eval (.Name x p) X.env)=eval (.Name x p) X.env:=by rfl):DE X .s (.Attribute (.Name x p) f pos) (fldF c f (rdB i)):=by
 with_unfolding_all exact (
  PE.imp (jco (qS hN hv hd hcd) hb) fun σ H Q=>by
   rintro ⟨G,H0,env,d,k,ef,q⟩;obtain ⟨o,e1,e2⟩:=jc ef;obtain ⟨ns,ds,rfl,e3⟩:=vO e2;rcases VE e1 with z|z
   · obtain ⟨v,h1,h2⟩:=k.shr i _ z;obtain ⟨a,C,dx,fs,rfl,ha,_,hc,hn,rs⟩:=h2.objE;subst hn;obtain ⟨v',g1,g2⟩:=JP rs e3;exact ⟨_,h1,a,C,dx,fs,v',rfl,ha,(hf.at hc).1,(hf.at hc).2,g1,q v' H (Same.refl H) (g2.weak fun _ z=>z.1) trivial⟩
   · obtain ⟨a,C,dx,fs,h1,ha,hc,hn,rs⟩:=Jg k z;subst hn;obtain ⟨v',g1,g2⟩:=JP rs e3
     exact ⟨_,h1,a,C,dx,fs,v',rfl,ha,(hf.at hc).1,(hf.at hc).2,g1,q v' H (Same.refl H) g2 trivial⟩)
end
inductive OutO where
 |nx (env:Sl)|rt (d:D) (env:Sl)
def Yc (K:aaa) (G:Xl) (H0:Hp) (i:Nat) (a:Addr) (env:Sl) (σ:L2.St) (H:Hp) (E:Ends):OutO->Prop
 | .nx env'=> ∀σ' H',EnvOk K G H0 env' σ' H'->At σ' i a->Frm env σ H env' σ' H'->E.nx σ' H'
 | .rt d env'=> ∀v σ' H',EnvOk K G H0 env' σ' H'->At σ' i a->Frm env σ H env' σ' H'->Rep K (Sf G env' σ') H' v d->E.rt v H'
def tSO (K:aaa) (i:Nat) (g:Sl->Res OutO):TS:=fun E σ H=> ∃G H0 env o a,EnvOk K G H0 env σ H/\At σ i a/\g env= .ok o/\Yc K G H0 i a env σ H E o
@[irreducible] def DSO (X:Cx) (i:Nat) (st:Stmt) (g:Sl->Res OutO):Prop:=PS X st (tSO X.K i g)
@[irreducible] def DSsO (X:Cx) (i:Nat) (st:List Stmt) (g:Sl->Res OutO):Prop:=PSs X st (tSO X.K i g)
theorem zS {K:aaa} {G:Xl} {H0 H H':Hp} {env env':Sl} {σ σ':L2.St} {i:Nat} {a:Addr} {E:Ends} {o:OutO} (f:Frm env σ H env' σ' H') (q:Yc K G H0 i a env σ H E o):Yc K G H0 i a env' σ' H' E o:=by
 cases o with
 |nx e=>exact fun σ2 H2 k2 a2 f2=>q σ2 H2 k2 a2 (f.trans f2)
 |rt b e=>exact fun v σ2 H2 k2 a2 f2 r2=>q v σ2 H2 k2 a2 (f.trans f2) r2
section
variable {X:Cx} {i:Nat} {e c0 tg:Expr} {st:Stmt} {rest body orelse:List Stmt} {pos p apos:Pos} {l:Lv} {f:TN} {g g1 g2:Sl->Res OutO} {c n x:Str}
def seqJ (g1 g2:Sl->Res OutO):Sl->Res OutO:=fun env=>g1 env>>=fun o=>match o with
 | .nx env'=>g2 env'
 | .rt b e=> .ok (.rt b e)
def wG (h1:DSO X i st g1) (h2:DSsO X i rest g2):DSsO X i (st::rest) (seqJ g1 g2):=by
 with_unfolding_all exact (PSs.imp (zK h1 h2) fun E σ H=>by
  rintro ⟨G,H0,env,o,a,k,ha,ef,q⟩;obtain ⟨o1,e1,e2⟩:=jc ef;refine ⟨G,H0,env,o1,a,k,ha,e1,?_⟩
  cases o1 with
  |nx env1=>exact fun σ' H' k' a' f'=>⟨G,H0,env1,o,a,k',a',e2,zS f' q⟩
  |rt b env1=>cases e2;exact q)
def wg (h1:DSO X i st g1):DSsO X i [st] g1:=by
 with_unfolding_all exact (PSs.imp (J5 h1) fun E σ H q=>q)
def nxJ:Sl->Res OutO:=fun env=> .ok (.nx env)
def wj:DSsO X i [] nxJ:=by
 with_unfolding_all exact (PSs.imp Zz fun E σ H=>by
  rintro ⟨G,H0,env,o,a,k,ha,ef,q⟩;cases ef
  exact q σ H k ha (Frm.refl (Same.refl H)))
def ifJ (t:TM) (g1 g2:Sl->Res OutO):Sl->Res OutO:=fun env=>t env>>=fun b=>if b=true then g1 env else g2 env
def jc1 {t:TM} (hc:DT X c0 t) (h1:DSsO X i body g1) (h2:DSsO X i orelse g2):DSO X i (.If c0 body orelse pos) (ifJ t g1 g2):=by
 with_unfolding_all exact (PS.imp (Xo hc h1 h2) fun E σ H=>by
  rintro ⟨G,H0,env,o,a,k,ha,ef,q⟩;obtain ⟨b,e1,e2⟩:=jc ef;refine ⟨G,H0,env,b,k,e1,fun H' s=>?_⟩
  cases b with
  |true=>
   rw [if_pos rfl] at e2 ⊢;exact ⟨G,H0,env,o,a,k.grow s,ha,e2,zS (Frm.refl s) q⟩
  |false=>
   rw [if_neg aaz] at e2 ⊢
   exact ⟨G,H0,env,o,a,k.grow s,ha,e2,zS (Frm.refl s) q⟩)
def ownJ (i:Nat) (c:Str):Sl->Res (List Str×List D):=fun env=>match env[i]? with
 |some (.own (.obj c' ns ds))=>must (c'=c) (.ok (ns,ds))
 |_=> .stuck
def yJ {q:List Str×List D} {env:Sl} (h:ownJ i c env= .ok q):env[i]?=some (.own (.obj c q.1 q.2)):=by
 unfold ownJ at h
 split at h
 · rename_i c' ns ds e;obtain ⟨hc,h2⟩:=jy h;subst hc;cases h2;exact e
 · cases h
def jae (i:Nat) (c n:Str) (f:TN):Sl->Res OutO:=fun env=>f env>>=fun d=>ownJ i c env>>=fun q=>must (q.1.length<1000) (.ok (.nx (env.set i (.own (.obj c (Xm n q.1) (Xn n d q.1 q.2))))))
def Kc (hf:FldN X.K c n) (h:DE X .s e f) (hN:X.N[i]?=some x:=by rfl) (hv:Vis X.env.scope x:=by first|exact aa6 rfl|exact aaI (aa6 rfl)|exact aaI (aaI rfl))
   (hd:Zu x:=by decide) (hcd:Zt x:=by decide)
   (hs:abA e (some (.Attribute (.Name x p) n apos)) pos.line X.env=pure false:=by rfl):DSO X i (.Assign [.Attribute (.Name x p) n apos] e pos) (jae i c n f):=by
 with_unfolding_all exact (
  PS.imp (jcg (qS hN hv hd hcd) h hs) fun E σ H=>by
   rintro ⟨G,H0,env,o,a,k,ha,ef,q⟩;obtain ⟨d,e1,ef⟩:=jc ef;obtain ⟨ns,e2,ef⟩:=jc ef;obtain ⟨hz,e3⟩:=jy ef;cases e3;have hi:=yJ e2;refine ⟨G,H0,env,d,k,e1,fun y H1 s1 r1 _=>?_⟩;obtain ⟨a',C,dx,fs,h1,hx,hc,hn,rs⟩:=Jg (k.grow s1) hi;rw [ha] at h1;cases h1;refine ⟨_,ha,a,C,dx,fs,rfl,hx,(hf.at hc).1,(hf.at hc).2,by rw [←hn,aaK] at hz;exact hz,?_⟩;obtain ⟨p1,p2⟩:=Zy r1 rs;rw [hn] at p1 p2;have W:=(k.grow s1).writeG (o':= .ins C dx (putF n y fs)) hi ha hx trivial fun A' H' st e w=> .obj e ⟨hc,p1⟩ rfl (p2.stay st w)
   exact q σ _ W.1 ha (W.2.grow s1))
end
section
variable {X:Cx} {k n:Nat} {c m:Str} {ps:List Str} {fr:Bool} {F:TJ} {o e:Expr} {es:List Expr} {pos apos:Pos} {fo:TN} {g:TK} {pl:Sem Bool}
def noA:Sl->Res (List D):=fun _=> .ok []
end
abbrev FO:=D->List D->Res (D×D)
def spJ (K:aaa) (n:Nat) (F:FO):Sp:=fun vs H Q _=> ∃(B:Xl) (ds:List D) (us:List V) (a:Addr) (d0 r d1:D),vs=V.ref a::us/\us.length=n/\Reps K (fun c=>B c/\c≠a) H us ds/\Top K (fun c=>B c/\c≠a) H a d0/\F d0 ds= .ok (r,d1)/\
 ∀v H',(∀c o,c≠a->H c=some o->H' c=some o)->Top K (fun c=>(H c=none\/B c)/\c≠a) H' a d1->Rep K (fun c=>(H c=none\/B c)/\c≠a) H' v r->Q v H'
def zm (n:Nat) (d0:D) (ds:List D):Sl:= .own d0::(ds.map .shr++aaH (n-ds.length-1) .un)
def xW {n:Nat} {d0:D} {ds:List D} {j:Nat} {s:Slot} (h:(zm n d0 ds)[j]?=some s):(j=0/\s= .own d0)\/(∃j' d,j=j'+1/\ds[j']?=some d/\s= .shr d)\/s= .un:=by
 unfold zm at h
 cases j with
 |zero=>simp at h;exact .inl ⟨rfl,h.symm⟩
 |succ j=>
  rw [abW] at h
  by_cases q:j<ds.length
  · rw [aay (by simpa using q),aaW] at h
    cases e:ds[j]? with
    |none=>rw [e] at h;cases h
    |some x=>rw [e] at h;cases h;exact .inr (.inl ⟨j,x,rfl,e,rfl⟩)
  · rw [aan (by simpa using q),aa3] at h
    split at h
    · cases h;exact .inr (.inr rfl)
    · cases h
def Zf {K:aaa} {B:Xl} {N:List Str} {us:List V} {ds:List D} {a:Addr} {d0:D} {H:Hp} (r:Reps K (fun c=>B c/\c≠a) H us ds) (t:Top K (fun c=>B c/\c≠a) H a d0) (hN:ds.length+1<=N.length):
   EnvOk K (fun c=>H c=none\/c=a\/B c) (fun c=>if c=a then none else H c) (zm N.length d0 ds) (start N (V.ref a::us)) H/\At (start N (V.ref a::us)) 0 a:=by
 have hl:=r.length
 have hat:At (start N (V.ref a::us)) 0 a:=by
   show (L2.start N (V.ref a::us))[0]?=_;unfold L2.start;simp
 have hget: ∀(j:Nat) (v:V),us[j]?=some v->(start N (V.ref a::us))[j+1]?=some (some v):=fun j v h=>by
   have hj:=(aax.mp h).1;unfold L2.start;rw [aay (by simp;omega),aaW,abW,h];rfl
 have own1: ∀c,qQ (zm N.length d0 ds) (start N (V.ref a::us)) c->c=a:=fun c ⟨j,d,h1,h2⟩=>by
   rcases xW h1 with ⟨rfl,_⟩| ⟨_,_,_,_,z⟩|z
   · rw [hat] at h2;cases h2;rfl
   · cases z
   · cases z
 have w: ∀c,B c/\c≠a->Sf (fun c=>H c=none\/c=a\/B c) (zm N.length d0 ds) (start N (V.ref a::us)) c:=fun c z=>⟨fun o=>z.2 (own1 c o),.inr (.inr z.1)⟩
 refine ⟨⟨?_,fun c o e=>?_,fun c e=>?_,fun j d h=>?_,fun j d h=>?_,fun j j' d e b h1 h2 h3 h4=>?_⟩,hat⟩
 · simp [L2.start,zm,hl];omega
 · split at e
   · cases e
   · exact e
 · split at e
   · rename_i z;exact .inr (.inl z)
   · exact .inl e
 · rcases xW h with ⟨_,z⟩| ⟨j',d',rfl,e,z⟩|z
   · cases z
   · cases z;obtain ⟨v,h1,h2⟩:=r.get e;exact ⟨v,hget j' v h1,h2.weak w⟩
   · cases z
 · rcases xW h with ⟨rfl,z⟩| ⟨j',d',_,e,z⟩|z
   · cases z;exact ⟨a,hat,if_pos rfl,t.stay (fun _ _ e _=>e) w fun _ e=>e⟩
   · cases z
   · cases z
 · have real: ∀(j:Nat) (d:D),(zm N.length d0 ds)[j]?=some (.own d)->j=0:=fun j d h=>by
     rcases xW h with ⟨z,_⟩| ⟨_,_,_,_,z⟩|z
     · exact z
     · cases z
     · cases z
   rw [real j d h1,real j' e h2]
def yF:Sl->Res D
 | .own d::_=> .ok d
 |_=> .stuck
def Ws {env:Sl} {d:D} (h:yF env= .ok d):env[0]?=some (.own d):=by
 unfold yF at h
 split at h
 · cases h;rfl
 · cases h
def runJ (N n:Nat) (g:Sl->Res OutO):FO:=fun d0 ds=>must (ds.length=n) (g (zm N d0 ds)>>=fun o=>match o with
 | .nx env=>yF env>>=fun d=> .ok (.non,d)
 | .rt r env=>yF env>>=fun d=> .ok (r,d))
section
variable {P:aaB} {w:World} {K:aaa} {mg:Yq} {base:Heap}
def UD {m qual:Str} {st:Stmt} {f:Addr} {fd:abp} {N ps:List Str} {k n:Nat} {g:Sl->Res OutO} (Fu:Fun K m qual st f fd) (S:FnScope N ps (jg st)) (hn:ps.length=n+1) (hN:n+1<=N.length)
  (hb: ∀(cdv:Value) (A:aaZ) (outer:List Env) (s:aad) (H:Hp) (E:XK),Room k (A.deeper (ab7 qual (jg st) s.heap.objs.size f cdv))->DSsO (cxOf CX0 P w K mg base N qual (jg st) f cdv A outer s H E).nox 0 (j8 st) g):
  FnOk P w K mg base CX0 (k+1) f fd ps (spJ K n (runJ N.length n g)):=by
 with_unfolding_all exact (by
 refine Fu.ok S (fun vs H Q E ⟨B,ds,us,a,d0,r,d1,ev,hl,_⟩=>by rw [ev,aab,hl,hn]) (fun cdv A outer s H vs Q E hr h=>?_);obtain ⟨B,ds,us,a,d0,r,d1,ev,hl,rs,t,eF,q⟩:=h;refine ⟨_,hb cdv A outer s H E hr,?_⟩;obtain ⟨e0,eF⟩:=jy eF;obtain ⟨o,e1,eF⟩:=jc eF;subst ev;obtain ⟨kk,hat⟩:=Zf (N:=N) rs t (by omega)
 have fin: ∀(env':Sl) (σ':L2.St) (H':Hp) (v:V),EnvOk K (fun c=>H c=none\/c=a\/B c) (fun c=>if c=a then none else H c) env' σ' H'->At σ' 0 a->yF env'= .ok d1->Rep K (Sf (fun c=>H c=none\/c=a\/B c) env' σ') H' v r->Q v H':=fun env' σ' H' v k' a' e2 rv=>by
  have hi:=Ws e2;obtain ⟨a2,h1,_,t2⟩:=k'.own 0 _ hi;rw [a'] at h1;cases h1
  have ww: ∀c,Sf (fun c=>H c=none\/c=a\/B c) env' σ' c->(H c=none\/B c)/\c≠a:=fun c z=>by
   have hca:c≠a:=by
     rintro rfl;exact z.1 ⟨0,_,hi,a'⟩
   refine ⟨?_,hca⟩;rcases z.2 with z|z|z
   · exact .inl z
   · exact absurd z hca
   · exact .inr z
  exact q v H' (fun c o hc e=>k'.base c o (by rw [if_neg hc];exact e)) (t2.stay (fun _ _ e _=>e) ww fun _ e=>e) (rv.weak ww)
 refine ⟨_,_,_,o,a,kk,hat,e1,?_⟩
 cases o with
 |nx env'=>
  obtain ⟨d,e2,e3⟩:=jc eF;cases e3;exact fun σ' H' k' a' f'=>fin env' σ' H' .non k' a' e2 .non
 |rt r' env'=>
  obtain ⟨d,e2,e3⟩:=jc eF;cases e3
  exact fun v σ' H' k' a' f' rv=>fin env' σ' H' v k' a' e2 rv)
end
structure AvK (P:aaB) (w:World) (K:aaa) (mg:Yq) (base:Heap) (k:Nat) (c:Str) (n:Nat) (F:FO):Prop where
 ex: ∃C f fd ps,FnOk P w K mg base CX0 k f fd ps (spJ K n F)/\aaj K aah c=some (some (.ref C))/\mg c=some (.ref C)/\Mk K C f/\Binds K fd ps []
def Uj (c:Str) (n:Nat) (F:FO) (g:TK):Sl->Res D:=fun env=>g env>>=fun ds=>must (ds.length=n) (F (.obj c [] []) ds>>=fun q=>match q with
 | (.non,d)=> .ok d
 |_=> .stuck)
section
variable {X:Cx} {k n:Nat} {c:Str} {F:FO} {e:Expr} {es:List Expr} {pos p:Pos} {g:TK}
def AvK.make (A:AvK X.prog X.w X.K X.mg X.base k c n F) (hr:Room (k+1) X.A) (ha:DA X .s (e::es) g) (hg:Gl X c:=by rfl) (hdb:Zu c:=by decide)
  (he:Xj X e es:=by exact jj rfl) (hpl:Wt X pos es:=by exact jK rfl):
  DE X .t (.Call (.Name c p) (e::es) [] pos) (Uj c n F g):=by
 obtain ⟨C,f,fd,ps,h1,h2,h3,h4,h5⟩:=A.ex
 with_unfolding_all exact (
 PE.imp (jaB h4 h1 hr hg h3 h5 .nil VN ha hdb he hpl) fun σ H Q=>by
  rintro ⟨G,H0,env,d,k,ef,q⟩;obtain ⟨ds,e1,ef⟩:=jc ef;obtain ⟨hn,ef⟩:=jy ef;obtain ⟨⟨r,d1⟩,e2,ef⟩:=jc ef
  cases r with
  |non=>
   cases ef;refine ⟨G,H0,env,ds,k,e1,fun vs H1 s1 r1 x dx hx hdx ne=>?_⟩
   have S:Same H1 (upd (upd H1 dx (.own x)) x (.ins C dx [])):=fun b o eb=>by
    rw [jr (jM eb hx),jr (jM eb hdx)];exact eb
   have kx:=k.new x (Same.free s1 hx);have rr:=r1.inDom.grow S;rw [aaV];refine ⟨Sf G env σ,ds,vs,x,_,.non,d,rfl,by rw [r1.length];exact hn,rr.weak fun b z=>⟨z.1,by rintro rfl;exact z.2 hx⟩,.obj jo ⟨h2,rfl⟩ rfl .nil,e2,fun v H' hs t rv=>⟨rv.nonE,?_⟩⟩;have sH:Same H H':=fun b o eb=>hs b o (jM (s1 b o eb) hx) (S b o (s1 b o eb))
   refine q _ H' sH (t.rep (fun b z=>⟨z.1.elim (fun z=>k.new b (Same.free s1 (Same.free S z))) fun z=>z,z.2⟩) kx) fun b eb o qb m=>?_
   cases eb;rw [s1 _ _ qb] at hx;cases hx
  |_=>cases ef)
end
section
variable {P:aaB} {w:World} {K:aaa} {mg:Yq} {base:Heap}
def jc9 {c m qual:Str} {st:Stmt} {C f:Addr} {fd:abp} {N ps:List Str} {k n:Nat} {g:Sl->Res OutO} (Fu:Fun K m qual st f fd) (hC:aaj K aah c=some (some (.ref C))) (hmg:mg c=some (.ref C)) (mk:Mk K C f) (S:FnScope N ps (jg st)) (hbi:Binds K fd ps []) (hn:ps.length=n+1) (hN:n+1<=N.length)
  (hb: ∀(cdv:Value) (A:aaZ) (outer:List Env) (s:aad) (H:Hp) (E:XK),Room k (A.deeper (ab7 qual (jg st) s.heap.objs.size f cdv))->DSsO (cxOf CX0 P w K mg base N qual (jg st) f cdv A outer s H E).nox 0 (j8 st) g):
  AvK P w K mg base (k+1) c n (runJ N.length n g):=
 ⟨C,f,fd,ps,UD Fu S hn hN hb,hC,hmg,mk,hbi⟩
end
def fsc {N P:List Str} {sc:Scope} (h1:sc.kind= .function:=by rfl) (h2:sc.isCoroutine=false:=by rfl) (h3:sc.isGenerator=false:=by rfl) (h4:N.Nodup:=by decide+kernel) (h5:N.take P.length=P:=by rfl) (h6: ∀x∈P,sc.names.lookup x=some .local\/sc.names.lookup x=some .cell:=by decide+kernel) (h7: ∀y∈sc.names,y.2≠ .free:=by decide+kernel):FnScope N P sc:=⟨h1,h2,h3,h4,h5,h6,h7⟩
def Dx (K:aaa) (mg:Yq) (x:Str) (st:Stmt) (ps:List Str):Prop:= ∃f fd,Fun K x x st f fd/\mg x=some (.ref f)/\Binds K fd ps []
def LkF (K:aaa) (p:Addr) (x q:Str) (st:Stmt):Prop:= ∃(oc:Value) (od an:Option Addr) (osl:Array (Option Value)) (kV doc pm cdv ct:Value),
 K.lookup p=some ⟨oc,od,.func (abK x q (xK st) (j8 st) (jg st) .none kV doc pm an cdv ct),osl⟩/\acp K cdv q=true
def DefN (K:aaa) (x:Str) (st:Stmt):Prop:= ∃p:Addr,aaj K aah x=some (some (.ref p))/\LkF K p x x st/\aaN K (.ref p)=true
def Dm (K:aaa) (C:Addr) (m q:Str) (st:Stmt) (ps:List Str):Prop:= ∃f fd,Fun K m q st f fd/\Meth K C m f/\Binds K fd ps []
def DefM (K:aaa) (C:Addr) (m q:Str) (st:Stmt):Prop:= ∃p:Addr,aaS K (.ref C) m=some (some (.ref p))/\adk K (.ref p)=true/\LkF K p m q st/\aaN K (.ref p)=true
abbrev Tk (x q:Str) (st:Stmt) (us:List Value) (ps:List Str):Prop:= ∀(kV doc pm:Value) (an:Option Addr) (cdv ct:Value),bindArgs (abK x q (xK st) (j8 st) (jg st) .none kV doc pm an cdv ct) ⟨us,[]⟩=pure (ps.zip us)
section
variable {K:aaa} {mg:Yq} {x q m:Str} {st:Stmt} {ps:List Str} {h:Heap} {C:Addr}
def LkF.fn {p:Addr} (l:LkF K p x q st) (k:aaN K (.ref p)=true) (hb: ∀us,us.length=ps.length->Tk x q st us ps): ∃fd,Fun K x q st p fd/\Binds K fd ps []:=by
 obtain ⟨oc,od,an,osl,kV,doc,pm,cdv,ct,l,c⟩:=l;have F:=uM l c k;exact ⟨_,F,F.binds fun a b c d e f us hl=>hb us hl a b c d e f⟩
def DefN.dx (d:DefN K x st) (KX:K.In h) (G:h.Ns aah mg) (hb: ∀us,us.length=ps.length->Tk x x st us ps):Dx K mg x st ps:=by
 obtain ⟨p,a,l,k⟩:=d;obtain ⟨fd,F,B⟩:=l.fn k hb;exact ⟨p,fd,F,aaC KX G a,B⟩
def DefM.dm (d:DefM K C m q st) (hb: ∀us,us.length=ps.length->Tk m q st us ps):Dm K C m q st ps:=by
 obtain ⟨p,a,i,l,k⟩:=d;obtain ⟨fd,F,B⟩:=l.fn k hb;exact ⟨p,fd,F,⟨a,i,k⟩,B⟩
theorem tk1 {x q:Str} {st:Stmt} {p:Str} (h: ∀a,Tk x q st [a] [p]:=by intro _ _ _ _ _ _ _;rfl): ∀us:List Value,us.length=[p].length->Tk x q st us [p]
 | [a],_=>h a
theorem tk2 {x q:Str} {st:Stmt} {p p2:Str} (h: ∀a b,Tk x q st [a,b] [p,p2]:=by intro _ _ _ _ _ _ _ _;rfl): ∀us:List Value,us.length=[p,p2].length->Tk x q st us [p,p2]
 | [a,b],_=>h a b
theorem tk3 {x q:Str} {st:Stmt} {p p2 p3:Str} (h: ∀a b c,Tk x q st [a,b,c] [p,p2,p3]:=by intro _ _ _ _ _ _ _ _ _;rfl): ∀us:List Value,us.length=[p,p2,p3].length->Tk x q st us [p,p2,p3]
 | [a,b,c],_=>h a b c
end
section
variable {P:aaB} {w:World} {K:aaa} {mg:Yq} {base:Heap}
def wW {x:Str} {st:Stmt} {N ps:List Str} {k:Nat} (fr:Bool) {g:TL} (d:Dx K mg x st ps) (S:FnScope N ps (jg st))
  (hb: ∀(f:Addr) (cdv:Value) (A:aaZ) (outer:List Env) (s:aad) (H:Hp) (E:XK),Room k (A.deeper (ab7 x (jg st) s.heap.objs.size f cdv))->DSs (cxOf CX0 P w K mg base N x (jg st) f cdv A outer s H E).nox (j8 st) g):
  Av P w K mg base (k+1) x ps fr (runF fr N.length g):=by
 obtain ⟨f,fd,F,m,B⟩:=d;exact jdU fr F m S B (hb f)
def jc8 {c q:Str} {st:Stmt} {C:Addr} {N ps:List Str} {k n:Nat} {g:Sl->Res OutO} (d:Dm K C "__init__" q st ps) (hC:aaj K aah c=some (some (.ref C))/\Cls K C) (hmg:mg c=some (.ref C)) (mk:acl K C=true/\aaN K (.ref C)=true) (S:FnScope N ps (jg st)) (hn:ps.length=n+1) (hN:n+1<=N.length)
  (hb: ∀(f:Addr) (cdv:Value) (A:aaZ) (outer:List Env) (s:aad) (H:Hp) (E:XK),Room k (A.deeper (ab7 q (jg st) s.heap.objs.size f cdv))->DSsO (cxOf CX0 P w K mg base N q (jg st) f cdv A outer s H E).nox 0 (j8 st) g):
  AvK P w K mg base (k+1) c n (runJ N.length n g):=by
 obtain ⟨f,fd,F,m,B⟩:=d;exact jc9 F hC.1 hmg ⟨mk.1,m.at_,m.fn,mk.2⟩ S B hn hN (hb f)
def jbB {x:Str} {st:Stmt} {ps:List Str} {k:Nat} (fr:Bool) (d:Dx K mg x st ps):Av P w K mg base k x ps fr (fun _=> .stuck):=by
 obtain ⟨f,fd,F,m,B⟩:=d;exact jbA fr F m B
end
section
variable {X:Cx} {a b e:Expr} {f f1 f2:TN} {pos:Pos} {x:Str}
def vb (i:Nat) {x:Str} (hN:X.N[i]?=some x:=by rfl) (hv:Vis X.env.scope x:=by first|exact aa6 rfl|exact aaI (aa6 rfl)|exact aaI (aaI rfl)) (hd:Zu x:=by decide) (hcd:Zt x:=by decide):DE X .b (.Name x pos) (rdS i):=DE.b (dv i hN hv hd hcd)
def ib {i:Int} {j}:DE X .b (.Constant (.int i) j pos) (cI i):=U0
def i_s {i:Int} {j}:DE X .s (.Constant (.int i) j pos) (cI i):=U0
def ob {op:acv} {r:R2} {g:D->D->Res D} (ho:OpR X (abH op) r) (hr:OpS X.K r g) (ha:DE X .b a f1) (hb:DE X .b b f2):DE X .b (.BinOp a op b pos) (two f1 f2 g):=UY ho hr ha hb
def o_s {op:acv} {r:R2} {g:D->D->Res D} (ho:OpR X (abH op) r) (hr:OpS X.K r g) (ha:DE X .b a f1) (hb:DE X .b b f2):DE X .s (.BinOp a op b pos) (two f1 f2 g):=UY ho hr ha hb
def ZH (ha:DE X .b a f1) (hb:DE X .b b f2):DE X .b (.BinOp a .Mod b pos) (two f1 f2 modI):=UY wD wE ha hb
def VX (ha:DE X .b a f1) (hb:DE X .b b f2):DE X .b (.BinOp a .Pow b pos) (two f1 f2 powI):=UY jcs jcx ha hb
def gi {x:Str} {i:Int} (hg:Gl X x) (hm: ∃t,X.mg x=some (.int i t)) (hd:Zu x:=by decide):DE X .b (.Name x pos) (cI i):=hm.elim fun _ h=>U2 hg h hd
def gis {x:Str} {i:Int} (hg:Gl X x) (hm: ∃t,X.mg x=some (.int i t)) (hd:Zu x:=by decide):DE X .s (.Name x pos) (cI i):=hm.elim fun _ h=>U2 hg h hd
def gst {x y:Str} (hg:Gl X x) (hm: ∃t,X.mg x=some (.str y t)) (hl:y.length<=aae:=by decide) (hd:Zu x:=by decide):DE X .b (.Name x pos) (cS y):=hm.elim fun _ h=>U1 hg h hl hd
def gss {x y:Str} (hg:Gl X x) (hm: ∃t,X.mg x=some (.str y t)) (hl:y.length<=aae:=by decide) (hd:Zu x:=by decide):DE X .s (.Name x pos) (cS y):=hm.elim fun _ h=>U1 hg h hl hd
end
section
variable {X:Cx} {k n:Nat} {c m:Str} {ps:List Str} {dfs:List D} {fr:Bool} {F:TJ} {o e:Expr} {es:List Expr} {pos apos:Pos} {fo:TN} {g:TK} {pl:Sem Bool}
def VB {CX:CXT} {f:Addr} {fd:abp} {sp:Sp} {E:XK} {pins:List (Addr×Obj)} {σ:L2.St} {H:Hp} {s:aad} {Q:VK} {us dus:List Value} {vs dvs:List V} (F:FnOk X.prog X.w X.K X.mg X.base CX k f fd ps sp) (hr:Room k X.A) (hb:Binds X.K fd ps dus) (hd:Vals dvs dus)
  (I:Inv X pins σ H s) (r:Vals vs us) (h:sp (vs++dvs) H Q E) (hx: ∀e s',CX X.stack H s E e s'->X.xe e s'):wpAny (model X.prog X.w) X.A (call (.ref f) us) (EP X pins σ Q) X.xe s:=by
 have hl:(us++dus).length=ps.length:=by rw [←F.len _ _ _ _ h,aai,aai,r.length,hd.length]
 have hb':=hb s us I.kIn hl;refine ac5 (acw (F.run X.A X.stack s H ⟨us,[]⟩ (us++dus) (vs++dvs) Q E hr I.env0 hb' (r.append hd) h) fun r s' hq=>?_)
 cases r with
 |error e=>exact hx e s' hq
 |ok fl=>
  cases fl with
  |ret u=>exact I.after hq
  |next=>exact aba hq
  |brk=>exact aba hq
  |cont=>exact aba hq
end
abbrev FJ:=Sl->Res (D×Sl)
def tEJ (K:aaa) (f:FJ):TE:=fun σ H Q=> ∃G H0 env d env',EnvOk K G H0 env σ H/\f env= .ok (d,env')/\ ∀v H',EnvOk K G H0 env' σ H'->Frm env σ H env' σ H'->Rep K (Sf G env' σ) H' v d->Q v H'
@[irreducible] def DEJ (X:Cx) (e:Expr) (f:FJ):Prop:=PE X e (tEJ X.K f)
def tTJ (K:aaa) (f:Sl->Res (Bool×Sl)):TT:=fun σ H Q=> ∃G H0 env b env',EnvOk K G H0 env σ H/\f env= .ok (b,env')/\ ∀H',EnvOk K G H0 env' σ H'->Frm env σ H env' σ H'->Q b H'
@[irreducible] def DTJ (X:Cx) (e:Expr) (f:Sl->Res (Bool×Sl)):Prop:=PT X e (tTJ X.K f)
def stE (f:TN):FJ:=fun env=>f env>>=fun d=> .ok (d,env)
def stT (f:TM):Sl->Res (Bool×Sl):=fun env=>f env>>=fun d=> .ok (d,env)
section
variable {X:Cx} {e a b c0:Expr} {es:List Expr} {f f1 f2:FJ} {g0:TN} {pos p apos tpos:Pos} {t:Sl->Res (Bool×Sl)} {t0:TM}
def DE.j (h:DE X .s e g0):DEJ X e (stE g0):=by
 with_unfolding_all exact (PE.imp h fun σ H Q=>by
  rintro ⟨G,H0,env,d,env',k,ef,q⟩;obtain ⟨d',e1,e2⟩:=jc ef;cases e2
  exact ⟨G,H0,env,d,k,e1,fun v H' s r _=>q v H' (k.grow s) (Frm.refl s) r⟩)
def DT.j (h:DT X e t0):DTJ X e (stT t0):=by
 with_unfolding_all exact (PT.imp h fun σ H Q=>by
  rintro ⟨G,H0,env,d,env',k,ef,q⟩;obtain ⟨d',e1,e2⟩:=jc ef;cases e2
  exact ⟨G,H0,env,d,k,e1,fun H' s=>q H' (k.grow s) (Frm.refl s)⟩)
def tupJ (f:FJ):FJ:=fun env=>f env>>=fun r=> .ok (.tup [r.1],r.2)
def jbi {x1} (h:DEJ X e f) (hs:aac [e] X.env=(false,eval e X.env)::aac [] X.env:=by exact jj rfl):DEJ X (.Tuple [e] x1 pos) (tupJ f):=by
 with_unfolding_all exact (PE.imp (Yy (j5 h zn hs)) fun σ H Q=>by
  rintro ⟨G,H0,env,d,env',k,ef,q⟩;obtain ⟨⟨d1,env1⟩,e1,e2⟩:=jc ef;cases e2
  exact ⟨G,H0,env,d1,_,k,e1,fun v H1 k1 fr r=>⟨by show 1<=aae;decide,fun p hp=>q _ _ (k1.grow (Same.upd hp)) (fr.trans (Frm.refl (Same.upd hp))) (.tup jo (.cons (r.grow (Same.upd hp)) .nil))⟩⟩)
def addJ (f1 f2:FJ):FJ:=fun env=>f1 env>>=fun r=>f2 r.2>>=fun s=>addD r.1 s.1>>=fun d=> .ok (d,s.2)
def asJ (f:FJ):Sl->Res (Bool×Sl):=fun env=>f env>>=fun r=>match r.1 with
 | .bl b=> .ok (b,r.2)
 |_=> .stuck
def Z2 (h:DEJ X e f) (he: ∀whole,isTrue e X.env whole=(do let v←whole;adi e.pos;adj [v] (truthy v)):=by intro _;rfl):DTJ X e (asJ f):=by
 with_unfolding_all exact (PT.imp (ux h he) fun σ H Q=>by
  rintro ⟨G,H0,env,b,env',k,ef,q⟩;obtain ⟨⟨d1,env1⟩,e1,ef⟩:=jc ef
  cases d1 with
  |bl b'=>
   cases ef;exact ⟨G,H0,env,_,_,k,e1,fun v H1 k1 fr r=>⟨b,r.blE,q H1 k1 fr⟩⟩
  |_=>cases ef)
def notJ (t:Sl->Res (Bool×Sl)):Sl->Res (Bool×Sl):=fun env=>t env>>=fun r=> .ok (!r.1,r.2)
def UN (h:DTJ X a t):DTJ X (.UnaryOp .Not a pos) (notJ t):=by
 with_unfolding_all exact (PT.imp (uy h) fun σ H Q=>by
  rintro ⟨G,H0,env,b,env',k,ef,q⟩;obtain ⟨⟨d1,env1⟩,e1,ef⟩:=jc ef;cases ef
  exact ⟨G,H0,env,d1,env1,k,e1,q⟩)
end
section
variable {X:Cx} {i j:Nat} {e c0:Expr} {f:FJ} {t:Sl->Res (Bool×Sl)} {g1 g2:Sl->Res OutO} {body orelse:List Stmt} {pos p apos cpos tpos:Pos} {x c n:Str}
def iffJ (t:Sl->Res (Bool×Sl)) (g1 g2:Sl->Res OutO):Sl->Res OutO:=fun env=>t env>>=fun r=>if r.1=true then g1 r.2 else g2 r.2
def jbf (hc:DTJ X c0 t) (h1:DSsO X i body g1) (h2:DSsO X i orelse g2):DSO X i (.If c0 body orelse pos) (iffJ t g1 g2):=by
 with_unfolding_all exact (PS.imp (Xo hc h1 h2) fun E σ H=>by
  rintro ⟨G,H0,env,o,a,k,ha,ef,q⟩;obtain ⟨⟨b,env1⟩,e1,e2⟩:=jc ef;refine ⟨G,H0,env,b,env1,k,e1,fun H' k1 fr=>?_⟩
  cases b with
  |true=>
   rw [if_pos rfl] at e2 ⊢;exact ⟨G,H0,env1,o,a,k1,ha,e2,zS fr q⟩
  |false=>
   rw [if_neg aaz] at e2 ⊢
   exact ⟨G,H0,env1,o,a,k1,ha,e2,zS fr q⟩)
def setJ (j:Nat) (f:FJ):Sl->Res OutO:=fun env=>f env>>=fun r=> .ok (.nx (r.2.set j (.shr r.1)))
def Z5 (j:Nat) {pos':Pos} (hN:X.N.Nodup) (h:DEJ X e f) (hij:j≠i:=by decide) (hi:X.N[j]?=some x:=by rfl) (hx:Loc X.env.scope x:=by first|exact aa6 rfl|exact aaI rfl) (hs:abA e (some (.Name x pos')) pos.line X.env=pure false:=by rfl)
  (hf:Vy X x:=by first|exact .inl rfl|exact .inr rfl|assumption):DSO X i (.Assign [.Name x pos'] e pos) (setJ j f):=by
 with_unfolding_all exact (PS.imp (JA hN hi hx h hs hf) fun E σ H=>by
  rintro ⟨G,H0,env,o,a,k,ha,ef,q⟩;obtain ⟨⟨d,env1⟩,e1,e2⟩:=jc ef;cases e2
  exact ⟨G,H0,env,d,env1,k,e1,fun v H' k1 fr r=>q _ H' (k1.setS r) ((jp hij).trans ha) (fr.trans (Frm.set (Same.refl H') fun _ _ z _=>nomatch z))⟩)
def lstJ (j:Nat) (f:FJ):Sl->Res OutO:=fun env=>f env>>=fun r=> .ok (.nx (r.2.set j (.own (.lst [r.1]))))
def appJ (j:Nat) (f:FJ):Sl->Res OutO:=fun env=>ownL j env>>=fun _=>f env>>=fun r=>ownL j r.2>>=fun ds=>must (ds.length<aae) (.ok (.nx (r.2.set j (.own (.lst (ds++[r.1]))))))
def wB (f:FJ):Sl->Res OutO:=fun env=>f env>>=fun r=> .ok (.rt r.1 r.2)
def wm (h:DEJ X e f):DSO X i (.Return (some e) pos) (wB f):=by
 with_unfolding_all exact (PS.imp (Q0 h) fun E σ H=>by
  rintro ⟨G,H0,env,o,a,k,ha,ef,q⟩;obtain ⟨⟨d,env1⟩,e1,e2⟩:=jc ef;cases e2
  exact ⟨G,H0,env,d,env1,k,e1,fun v H' k1 fr r=>q v σ H' k1 ha fr r⟩)
def KY (i:Nat) (c n:Str) (f:TN):Sl->Res OutO:=fun env=>ownJ i c env>>=fun q=>f env>>=fun d=>match getN n q.1 q.2,d with
 |some (.int x),.int y=>must (q.1.length<1000) (.ok (.nx (env.set i (.own (.obj c (Xm n q.1) (Xn n (.int (x+y)) q.1 q.2))))))
 |_,_=> .stuck
def Kd {f:TN} (hf:FldN X.K c n) (h:DE X .b e f) (hN:X.N[i]?=some x:=by rfl) (hv:Vis X.env.scope x:=by first|exact aa6 rfl|exact aaI (aa6 rfl)|exact aaI (aaI rfl))
   (hd:Zu x:=by decide) (hcd:Zt x:=by decide):DSO X i (.AugAssign (.Attribute (.Name x p) n apos) .Add e pos) (KY i c n f):=by
 with_unfolding_all exact (
  PS.imp (VG (qS hN hv hd hcd) h jcP) fun E σ H=>by
   rintro ⟨G,H0,env,o,a,k,ha,ef,q⟩;obtain ⟨ns,e2,ef⟩:=jc ef;obtain ⟨d,e1,ef⟩:=jc ef;have hi:=yJ e2
   split at ef
   · rename_i x' y eg;obtain ⟨hz,e3⟩:=jy ef;cases e3;obtain ⟨a',C,dx,fs,h1,hx,hc,hn,rs⟩:=Jg k hi;rw [ha] at h1;cases h1;rw [←hn] at eg;obtain ⟨v0,hv0,rv0⟩:=JP rs eg;cases rv0.intE;refine ⟨_,ha,a,C,dx,fs,.int x',rfl,hx,(hf.at hc).1,(hf.at hc).2,hv0,G,H0,env,.int y,k,e1,fun w H1 s1 r1 _=>?_⟩;cases r1.intE;refine ⟨x',y,rfl,rfl,dx,fs,s1 _ _ hx,by rw [←hn,aaK] at hz;exact hz,?_⟩;obtain ⟨p1,p2⟩:=Zy (.int _) (rs.grow s1);rw [hn] at p1 p2;have W:=(k.grow s1).writeG (o':= .ins C dx (putF n (.int (x'+y)) fs)) hi ha (s1 _ _ hx) trivial fun A' H' st e w=> .obj e ⟨hc,p1⟩ rfl (p2.stay st w)
     exact q σ _ W.1 ha (W.2.grow s1)
   · cases ef)
def wb (n : Nat) (t : Sl -> Res (Bool × Sl)) (g : Sl -> Res OutO) : Sl -> Res OutO := fun env => match n with
  | 0 => .stuck
  | n + 1 => t env >>= fun r => if r.1 = true then g r.2 >>= fun o => match o with
        | .nx env' => wb n t g env'
        | .rt d env' => .ok (.rt d env')
      else .ok (.nx r.2)
def WY (n:Nat) {g:Sl->Res OutO} (hp:PassesOwn (model X.prog X.w) X.A X.env X.xe) (hc:DTJ X c0 t) (hb:DSsO X i body g):DSO X i (.While c0 body [] pos) (wb n t g):=by
 with_unfolding_all exact (
  PS.imp (ZA hp hc hb) fun E σ H=>by
   rintro ⟨G,H0,env,o,a,k,ha,ef,q⟩;refine ⟨fun m σ' H'=> ∃env',EnvOk X.K G H0 env' σ' H'/\At σ' i a/\Frm env σ H env' σ' H'/\wb m t g env'= .ok o,⟨n,env,k,ha,Frm.refl (Same.refl H),ef⟩,?_⟩;rintro m σ' H' ⟨env',k',ha',f',e'⟩
   cases m with
   |zero=>cases e'
   |succ m=>
    obtain ⟨⟨b,env1⟩,e1,e2⟩:=jc (show (t env'>>=_)=_ from e');refine ⟨G,H0,env',b,env1,k',e1,fun H1 k1 fr1=>?_⟩
    cases b with
    |false=>
     rw [if_neg aaz] at e2 ⊢;cases e2;exact q σ' H1 k1 ha' (f'.trans fr1)
    |true=>
     rw [if_pos rfl] at e2 ⊢;obtain ⟨o1,e3,e4⟩:=jc e2;refine ⟨fun σ2 H2=> ∃env2,EnvOk X.K G H0 env2 σ2 H2/\At σ2 i a/\Frm env σ H env2 σ2 H2/\wb m t g env2= .ok o,fun σ2 H2 z=>⟨m,ace m,z⟩,G,H0,env1,o1,a,k1,ha',e3,?_⟩
     cases o1 with
     |nx env2=>exact fun σ2 H3 k2 a2 f2=>⟨env2,k2,a2,(f'.trans fr1).trans f2,e4⟩
     |rt d env2=>
      cases e4
      exact fun v σ2 H3 k2 a2 f2 r=>q v σ2 H3 k2 a2 ((f'.trans fr1).trans f2) r)
end
structure AvJ (P:aaB) (w:World) (K:aaa) (mg:Yq) (base:Heap) (k:Nat) (c m:Str) (n:Nat) (F:FO):Prop where
 ex: ∃C f fd ps,FnOk P w K mg base CX0 k f fd ps (spJ K n F)/\aaj K aah c=some (some (.ref C))/\Cls K C/\Meth K C m f/\Binds K fd ps []
def AvJ.mono {P:aaB} {w:World} {K:aaa} {mg:Yq} {base:Heap} {j k:Nat} {c m:Str} {n:Nat} {F:FO} (h:AvJ P w K mg base j c m n F) (hj:j<=k):AvJ P w K mg base k c m n F:=
 let ⟨C,f,fd,ps,a,b⟩:=h.ex
 ⟨C,f,fd,ps,a.mono hj,b⟩
def xh (i:Nat) (c m:Str) (n:Nat) (F:FO) (g:TK):FJ:=fun env=>ownJ i c env>>=fun q=>must (q.1.contains m=false) (g env>>=fun ds=>must (ds.length=n) (F (.obj c q.1 q.2) ds>>=fun r=> .ok (r.1,env.set i (.own r.2))))
section
variable {X:Cx} {k n:Nat} {c m x:Str} {F:FO} {e:Expr} {es:List Expr} {pos p apos:Pos} {g:TK} {pl:Sem Bool}
def Wx {env:Sl} {σ:L2.St} {i:Nat} {d d':D} {a:Addr} (hi:env[i]?=some (.own d)) (o:qQ (env.set i (.own d')) σ a):qQ env σ a:=by
 obtain ⟨j,e,h1,h2⟩:=o
 by_cases z:i=j
 · subst z;exact ⟨i,d,hi,h2⟩
 · exact ⟨j,e,by rw [jp z] at h1;exact h1,h2⟩
def Km {G:Xl} {H0 H H2:Hp} {env env':Sl} {σ:L2.St} {i:Nat} {d:D} {Q:VK} {E:XK} {a:Addr} {d0:D} {ds:List D} {ws:List V} (k:EnvOk X.K G H0 env σ H) (s:Same H H2) (hi:env[i]?=some (.own d0)) (ha:At σ i a) (rw':Reps X.K (Sf G env σ) H2 ws ds) (hn:ds.length=n)
  (h:(F d0 ds>>=fun r=>Res.ok (r.1,env.set i (.own r.2)))= .ok (d,env')) (q: ∀v H',EnvOk X.K G H0 env' σ H'->Frm env σ H env' σ H'->Rep X.K (Sf G env' σ) H' v d->Q v H'):spJ X.K n F (.ref a::ws) H2 Q E:=by
 obtain ⟨⟨r,d1⟩,e1,e2⟩:=jc h;cases e2;have k2:=k.grow s;obtain ⟨a',ha',_,ta⟩:=k2.own i _ hi;rw [ha] at ha';cases ha';have ow:qQ env σ a:=⟨i,_,hi,ha⟩
 have w: ∀c,Sf G env σ c->Sf G env σ c/\c≠a:=fun c z=>⟨z,by rintro rfl;exact z.1 ow⟩
 refine ⟨Sf G env σ,ds,ws,a,_,_,d1,rfl,by rw [rw'.length];exact hn,rw'.weak w,ta.stay (fun _ _ e _=>e) w fun _ e=>e,e1,fun v H' hs' t' rv=>?_⟩;have back: ∀c,((H2 c=none\/Sf G env σ c)/\c≠a)->Sf G env σ c:=fun c z=>z.1.elim (fun z=>k2.new c z) fun z=>z
 have W:=k2.anew hi ha hs' (t'.stay (fun _ _ e _=>e) back fun _ e=>e);exact q v H' W.1 (W.2.grow s) (rv.weak fun c z=>⟨fun o=>(back c z).1 (Wx hi o),(back c z).2⟩)
def AvJ.call (i:Nat) (A:AvJ X.prog X.w X.K X.mg X.base k c m n F) (hr:Room k X.A) (ha:DA X .s (e::es) g) (hN:X.N[i]?=some x:=by rfl) (hv:Vis X.env.scope x:=by first|exact aa6 rfl|exact aaI (aa6 rfl)|exact aaI (aaI rfl))
  (hd:Zu x:=by decide) (hcd:Zt x:=by decide)
  (hst:Xj X e es:=by exact jj rfl) (hpl:Wt X pos es:=by exact jK rfl)
  (ht:eval (.Call (.Attribute (.Name x p) m apos) (e::es) [] pos) X.env=(do
   let ov←eval (.Name x p) X.env
   adi apos.atName
   let (f,first)←adj [ov] (getMethod ov m pl)
   callWith pos f first (aa1 pos (aac (e::es) X.env)) (abQ pos (abi [] X.env))):=by rfl):DEJ X (.Call (.Attribute (.Name x p) m apos) (e::es) [] pos) (xh i c m n F g):=by
 obtain ⟨C,f,fd,ps,h1,h2,h3,h4,h5⟩:=A.ex
 with_unfolding_all exact (
 PE.imp (jaA (qS hN hv hd hcd) h3 h4 h1 hr h5 .nil VN ha hst hpl ht) fun σ H Q=>by
  rintro ⟨G,H0,env,d,env',k,ef,q⟩;obtain ⟨ns,e1,ef⟩:=jc ef;obtain ⟨hm,ef⟩:=jy ef;obtain ⟨ds,e2,ef⟩:=jc ef;obtain ⟨hn,ef⟩:=jy ef;have hi:=yJ e1;obtain ⟨a,C',dx,fs,h1',hx,hc,hns,rs⟩:=Jg k hi;rw [h2] at hc;cases hc;refine ⟨_,h1',a,dx,fs,rfl,hx,yM (by rw [hns];exact hm),G,H0,env,ds,k,e2,fun ws H2 s2 r2=>?_⟩;show spJ X.K n F (.ref a::(ws++[])) H2 Q (fun _ _ _=>False);rw [aaV]
  exact Km k s2 hi h1' r2 hn ef q)
end
section
variable {P:aaB} {w:World} {K:aaa} {mg:Yq} {base:Heap}
def uX {c m q:Str} {st:Stmt} {C:Addr} {N ps:List Str} {k n:Nat} {g:Sl->Res OutO} (d:Dm K C m q st ps) (hC:aaj K aah c=some (some (.ref C))/\Cls K C) (S:FnScope N ps (jg st)) (hn:ps.length=n+1) (hN:n+1<=N.length)
  (hb: ∀(f:Addr) (cdv:Value) (A:aaZ) (outer:List Env) (s:aad) (H:Hp) (E:XK),Room k (A.deeper (ab7 q (jg st) s.heap.objs.size f cdv))->DSsO (cxOf CX0 P w K mg base N q (jg st) f cdv A outer s H E).nox 0 (j8 st) g):
  AvJ P w K mg base (k+1) c m n (runJ N.length n g):=by
 obtain ⟨f,fd,F,me,B⟩:=d;exact ⟨C,f,fd,ps,UD F S hn hN (hb f),hC.1,hC.2,me,B⟩
end
def Zr (j:Nat) (f:FJ):Sl->Res Out:=fun env=>f env>>=fun r=> .ok (.nx (r.2.set j (.shr r.1)))
def jbg {X:Cx} {e:Expr} {f:FJ} {pos pos':Pos} {x:Str} (j:Nat) (hN:X.N.Nodup) (h:DEJ X e f) (hi:X.N[j]?=some x:=by rfl) (hx:Loc X.env.scope x:=by first|exact aa6 rfl|exact aaI rfl) (hs:abA e (some (.Name x pos')) pos.line X.env=pure false:=by rfl)
  (hf:Vy X x:=by first|exact .inl rfl|exact .inr rfl|assumption):DS X (.Assign [.Name x pos'] e pos) (Zr j f):=by
 with_unfolding_all exact (PS.imp (JA hN hi hx h hs hf) fun E σ H=>by
  rintro ⟨G,H0,env,o,k,ef,q⟩;obtain ⟨⟨d,env1⟩,e1,e2⟩:=jc ef;cases e2
  exact ⟨G,H0,env,d,env1,k,e1,fun v H' k1 fr r=>q _ H' (k1.setS r) (fr.trans (Frm.set (Same.refl H') fun _ _ z _=>nomatch z))⟩)
variable {X:Cx} {K:aaa}
def Zp:List D->Res D
 | [.int i]=>must (i.natAbs.log2<1920/\(aaD (toString i)).length<=aae) (.ok (.str (toString i)))
 |_=> .stuck
def ko:kP K (fun xs H Q=> ∃i,xs=[V.int i]/\i.natAbs.log2<1920/\Q (.str (toString i)) H) Zp:=by
 intro A xs H ds d Q r e q;unfold Zp at e
 split at e
 · obtain ⟨h,e⟩:=jy e;cases e;obtain ⟨v,rfl,r1⟩:=r.one;exact ⟨_,by rw [r1.intE],h.1,q _ H (Same.refl H) (.str _ h.2) (fun a z=>nomatch z)⟩
 · cases e
def W6:CallR X (.type "int") (fun xs H Q=> ∃x n,xs=[.str x]/\intText? x=some n/\x.length<=640/\Q (.int n) H):=by
 rintro pins s σ H xs us Q I r ⟨x,n,ex,hn,hl,q⟩;subst ex
 obtain ⟨u,rfl,r1⟩: ∃u,us=[u]/\RelV (.str x) u:=by
  cases r with|cons h t=>cases t;exact ⟨_,rfl,h⟩
 obtain ⟨t,rfl⟩:=r1;exact PySem.W.KIN.call_text hn hl ⟨.int _,H,I.tok _,⟨_,rfl⟩,q⟩
def XS:List D->Res D
 | [.str x]=>must (x.length<=640) (match intText? x with
  |some n=> .ok (.int n)
  |none=> .stuck)
 |_=> .stuck
def kq:kP K (fun xs H Q=> ∃x n,xs=[V.str x]/\intText? x=some n/\x.length<=640/\Q (.int n) H) XS:=by
 intro A xs H ds d Q r e q;unfold XS at e
 split at e
 · rename_i x;obtain ⟨h,e⟩:=jy e;obtain ⟨v,rfl,r1⟩:=r.one
   cases en:intText? x with
   |none=>rw [en] at e;cases e
   |some n=>
    rw [en] at e;cases e;exact ⟨x,n,by rw [r1.strE.1],en,h,q _ H (Same.refl H) (.int _) (jer (jef (K:=K) _))⟩
 · cases e
def xl:List D->Option (List Str)
 | []=>some []
 | .str x::r=>(xl r).map (x:: ·)
 |_=>none
theorem Wp {A:Xl} {H:Hp}: ∀ {vs:List V} {ds:List D} {ys:List Str} {us:List Value},Reps K A H vs ds->xl ds=some ys->Vals vs us->StrsAre us ys
 |_,_,_,_,.nil,h,v=>by cases h;cases v;exact .nil
 |_,_,ys,_,.cons (d:=d) r t,h,v=>by
  cases d with
  |str x=>
   simp only [xl] at h
   cases e:xl _ with
   |none=>rw [e] at h;cases h
   |some zs=>
    rw [e] at h;cases h
    cases v with
    |cons hv tv=>
     obtain ⟨rfl,_⟩:=r.strE;obtain ⟨tk,rfl⟩:=hv;exact .cons x tk (Wp t e tv)
  |_=>cases h
def jb9 (K:aaa):V->List V->Hp->VK->Prop:=fun x xs H Q=> ∃z p vs ds ys,x= .str z/\xs=[.ref p]/\SqL K H p vs/\Reps K Any H vs ds/\xl ds=some ys/\(ys.map (·.length)).sum+ys.length*z.length<=16777216/\Q (.str (Txt.join z ys)) H
def Ue:MtR X "str.join" (jb9 X.K):=by
 rintro pins s σ H x xs v us Q I rx rv ⟨z,p,vs,ds,ys,ex,exs,hp,rs,hy,hz,q⟩;subst ex exs;obtain ⟨t,rfl⟩:=rx;obtain ⟨u,rfl,ru⟩:=Xf rv;cases ru;obtain ⟨its,r,pl,_⟩:=I.list hp;exact PyProof.Rows.join_list pl.isList (by simpa using Wp rs hy r) hz fun t' k=>⟨.str _,H,I.tok _,⟨_,rfl⟩,q⟩
def XN (z:Str):List D->Res D
 | [.lst ds]=>match xl ds with
  |some ys=>must ((ys.map (·.length)).sum+ys.length*z.length<=16777216/\(Txt.join z ys).length<=aae) (.ok (.str (Txt.join z ys)))
  |none=> .stuck
 |_=> .stuck
def Uh:MtD K (jb9 K) (fun a ds=>match a with| .str z=>XN z ds|_=> .stuck):=by
 intro x xs H a ds d Q ra rs e q
 cases a with
 |str z=>
  dsimp only at e;unfold XN at e
  split at e
  · rename_i es;obtain ⟨v,rfl,r1⟩:=rs.one
    cases ey:xl es with
    |none=>rw [ey] at e;cases e
    |some ys=>
     rw [ey] at e;obtain ⟨h,e⟩:=jy e;cases e;obtain ⟨p,vs,rfl,hp,_,rv⟩:=r1.lstE;exact ⟨z,p,vs,es,ys,ra.strE.1,rfl,.of hp,rv.weak (fun _ _=>trivial),ey,h.1,q _ (jeq _ h.2)⟩
  · cases e
 |_=>cases e
end M
namespace M
open PySem
end M
namespace M
open PySem PySem.Spec L2
open PyProof.Rows hiding St
def tSOX (X:Cx) (i:Nat) (g:Sl->Res OutO):TS:=fun E σ H=> ∃G H0 env a,EnvOk X.K G H0 env σ H/\At σ i a/\((∃o,g env= .ok o/\Yc X.K G H0 i a env σ H E o)\/ ∃c,g env= .exc c/\Thr X c H)
@[irreducible] def DSOX (X:Cx) (i:Nat) (st:Stmt) (g:Sl->Res OutO):Prop:=PS X st (tSOX X i g)
theorem Thr.grow {X:Cx} {c:Str} {H H':Hp} (s:Same H H') (th:Thr X c H):Thr X c H':=⟨fun pins σ H1 s1 h e C vs sm=>th.a pins σ H1 s1 h e C vs (s.trans sm),fun σ H1 sm=>th.b σ H1 (s.trans sm)⟩
def zA (g:Sl->Res OutO):Sl->Res OutO:=fun env=>nx1 (g env)
section
variable {X:Cx} {i:Nat} {c0:Expr} {st:Stmt} {rest body orelse:List Stmt} {pos:Pos} {g g1 g2:Sl->Res OutO} {c:Str}
def ifJX (t:TM) (g1 g2:Sl->Res OutO):Sl->Res OutO:=fun env=>match t env with
 | .ok b=>if b=true then g1 env else g2 env
 |_=> .stuck
def yg (c:Str):Sl->Res OutO:=fun _=> .exc c
def wH {C:Addr} {bm:List Value} {B newId initId:String} {e₀:Expr} {l:Lv} {np cpos:Pos} {f:TN} (hC:NmC X.K c C) (hm:X.mg c=some (.ref C)) (hq:ab6 X.K C bm newId=true) (FB:ExcBaseFacts B newId initId bm)
    (ha:DE X l e₀ f) (hok: ∀env,∃d,f env= .ok d) (hcalm:X.calm=true:=by rfl) (hg:Gl X c:=by rfl) (hdb:Zu c:=by decide)
    (he:aac [e₀] X.env=(false,eval e₀ X.env)::aac [] X.env:=by exact jj rfl):
    DSOX X i (.Raise (some (.Call (.Name c np) [e₀] [] cpos)) none pos) (yg c):=by
 with_unfolding_all exact (fun pins s σ H E I ⟨G,H0,env,a,k,_,q⟩=>by
  rcases q with ⟨o,ef,_⟩| ⟨c',ef,th⟩
  · cases ef
  cases ef
  exact QZ hC hm hq FB ha hok hcalm hg hdb he I k th.a)
end
def Jc (N n:Nat) (g:Sl->Res OutO):FO:=fun d0 ds=>if ds.length=n then (match g (zm N d0 ds) with
 | .ok (.nx env)=>(match yF env with| .ok d=> .ok (.non,d)|_=> .stuck)
 | .ok (.rt r env)=>(match yF env with| .ok d=> .ok (r,d)|_=> .stuck)
 | .exc c=> .exc c
 | .stuck=> .stuck) else .stuck
def repL:D->D->Res D
 | .lst ds,.int k=>must (-(2^63)<=k/\k<2^63/\ds.length*k.toNat<=aae) (.ok (.lst (aaH k.toNat ds).flatten))
 |_,_=> .stuck
def jcw {K:aaa}:OpD K rRep repL:=by
 intro A x y H a b d Q ra rb e q;unfold repL at e
 split at e
 · obtain ⟨⟨h2,h3,h5⟩,e2⟩:=jy e;cases e2;cases rb.intE;obtain ⟨l,xs,rfl,hl,_,rx⟩:=ra.lstE;refine ⟨l,_,xs,rfl,rfl,hl,h2,h3,by rw [rx.length];exact h5,fun p hp=>q _ _ (Same.upd hp) ?_ (zU (Same.refl H) hp)⟩;exact .lst jo (.inl hp) (((rx.low.rep _).laid hp).weak fun c z=>⟨.inr z.1,z.2⟩)
 · cases e
def YM {α:Type} {p:Prop} [Decidable p] {r:α} {c:Str} (h:must p (Res.ok r)= .exc c):False:=by
 unfold must at h
 split at h<;>cases h
def ui {a b:D} {c:Str} (h:addD a b= .exc c):False:=by
 unfold addD at h
 repeat' (split at h)
 all_goals first|exact YM h|cases h
def YA {i:Nat} {env:Sl} {c:Str} (h:ownL i env= .exc c):False:=by
 unfold ownL at h
 split at h<;>cases h
structure ThrJ (X:Cx) (c:Str) (H0:Hp):Prop where
 a:ThrA X c H0
 b: ∀pins σ H1 s e s' (E1:XK),Inv X pins σ H1 s->CX1 X.prog X.w X.stack H1 s E1 e s'->(∀cls H',E1 cls none H'-> ∃C,cls= .ref C/\NmC X.K c C/\Same H0 H')->X.xe e s'
def ThrJ.thr {X:Cx} {c:Str} {H0:Hp} (th:ThrJ X c H0):Thr X c H0:=
 ⟨th.a,fun σ H sm pins H1 s e s' s1 I cx=>th.b pins σ H1 s e s' _ I cx fun cls H' ⟨C,e,hC,s2⟩=>⟨C,e,hC,sm.trans (s1.trans s2)⟩⟩
def tEJX (X:Cx) (f:FJ):TE:=fun σ H Q=> ∃G H0 env,EnvOk X.K G H0 env σ H/\
 ((∃d env',f env= .ok (d,env')/\ ∀v H',EnvOk X.K G H0 env' σ H'->Frm env σ H env' σ H'->Rep X.K (Sf G env' σ) H' v d->Q v H')\/ ∃c,f env= .exc c/\ThrJ X c H0)
@[irreducible] def DEJX (X:Cx) (e:Expr) (f:FJ):Prop:=PE X e (tEJX X f)
def tSOY (X:Cx) (i:Nat) (g:Sl->Res OutO):TS:=fun E σ H=> ∃G H0 env a,EnvOk X.K G H0 env σ H/\At σ i a/\((∃o,g env= .ok o/\Yc X.K G H0 i a env σ H E o)\/ ∃c,g env= .exc c/\ThrJ X c H0)
@[irreducible] def DSOY (X:Cx) (i:Nat) (st:Stmt) (g:Sl->Res OutO):Prop:=PS X st (tSOY X i g)
@[irreducible] def QE (X:Cx) (i:Nat) (st:List Stmt) (g:Sl->Res OutO):Prop:=PSs X st (tSOY X i g)
def KW (f:FJ):FJ:=fun env=>nx1 (f env)
section
variable {X:Cx} {i j:Nat} {e a b c0:Expr} {st:Stmt} {rest body orelse:List Stmt} {pos p apos cpos:Pos} {g g1 g2:Sl->Res OutO} {c x:Str} {f f1 f2:FJ} {t:Sl->Res (Bool×Sl)}
def DEJ.jx (h:DEJ X e f):DEJX X e (KW f):=by
 with_unfolding_all exact (PE.imp h fun σ H Q=>by
  rintro ⟨G,H0,env,k,q⟩;rcases q with ⟨d,env',e1,q⟩| ⟨c,e1,_⟩
  · exact ⟨G,H0,env,d,env',k,WJ e1,q⟩
  · exact (Qe e1).elim)
def v8 (ha:DEJX X a f1) (hb:DEJX X b f2):DEJX X (.BinOp a .Add b pos) (addJ f1 f2):=by
 with_unfolding_all exact (PE.imp (vp jn ha hb) fun σ H Q=>by
  rintro ⟨G,H0,env,k,q⟩;rcases q with ⟨d,env',ef,q⟩| ⟨c,ef,th⟩
  · obtain ⟨⟨d1,env1⟩,e1,ef⟩:=jc ef;obtain ⟨⟨d2,env2⟩,e2,ef⟩:=jc ef;obtain ⟨d',e3,e4⟩:=jc ef;cases e4;refine ⟨G,H0,env,k,.inl ⟨d1,env1,e1,fun x H1 k1 fr1 r1=>⟨G,H0,env1,k1,.inl ⟨d2,_,e2,fun y H2 k2 fr2 r2=>?_⟩⟩⟩⟩;exact jz (Sf G env2 σ) x y H2 d1 d2 d Q (fr2.rep k1 r1) r2 e3 fun v H3 s3 r3 _=>q v H3 (k2.grow s3) ((fr1.trans fr2).trans (Frm.refl s3)) (r3.weak fun c z=>z.elim (fun z=>k2.new c z) fun z=>z)
  · rcases qh ef with e1| ⟨⟨d1,env1⟩,e1,ef⟩
    · exact ⟨G,H0,env,k,.inr ⟨c,e1,th⟩⟩
    · rcases qh ef with e2| ⟨⟨d2,env2⟩,e2,ef⟩
      · exact ⟨G,H0,env,k,.inl ⟨d1,env1,e1,fun x H1 k1 fr1 r1=>⟨G,H0,env1,k1,.inr ⟨c,e2,th⟩⟩⟩⟩
      · rcases qh ef with e3| ⟨d',_,e4⟩
        · exact (ui e3).elim
        · cases e4)
def DSO.y (h:DSO X i st g):DSOY X i st (zA g):=by
 with_unfolding_all exact (PS.imp h fun E σ H=>by
  rintro ⟨G,H0,env,a,k,ha,q⟩;rcases q with ⟨o,e1,q⟩| ⟨c,e1,_⟩
  · exact ⟨G,H0,env,o,a,k,ha,WJ e1,q⟩
  · exact (Qe e1).elim)
def DSsO.y {sts:List Stmt} (h:DSsO X i sts g):QE X i sts (zA g):=by
 with_unfolding_all exact (PSs.imp h fun E σ H=>by
  rintro ⟨G,H0,env,a,k,ha,q⟩;rcases q with ⟨o,e1,q⟩| ⟨c,e1,_⟩
  · exact ⟨G,H0,env,o,a,k,ha,WJ e1,q⟩
  · exact (Qe e1).elim)
def DSOX.y (h:DSOX X i st g):DSOY X i st g:=by
 with_unfolding_all exact (PS.imp h fun E σ H=>by
  rintro ⟨G,H0,env,a,k,ha,q⟩;rcases q with q| ⟨c,e1,th⟩
  · exact ⟨G,H0,env,a,k,ha,.inl q⟩
  · exact ⟨G,H0,env,a,k,ha,.inr ⟨c,e1,th.thr.grow k.base⟩⟩)
def qc (h1:DSOY X i st g1) (h2:QE X i rest g2):QE X i (st::rest) (seqJ g1 g2):=by
 with_unfolding_all exact (PSs.imp (zK h1 h2) fun E σ H=>by
  rintro ⟨G,H0,env,a,k,ha,q⟩;rcases q with ⟨o,ef,q⟩| ⟨c,ef,th⟩
  · obtain ⟨o1,e1,e2⟩:=jc ef;refine ⟨G,H0,env,a,k,ha,.inl ⟨o1,e1,?_⟩⟩
    cases o1 with
    |nx env1=>exact fun σ' H' k' a' f'=>⟨G,H0,env1,a,k',a',.inl ⟨o,e2,zS f' q⟩⟩
    |rt b env1=>cases e2;exact q
  · rcases qh ef with e1| ⟨o1,e1,e2⟩
    · exact ⟨G,H0,env,a,k,ha,.inr ⟨c,e1,th⟩⟩
    · cases o1 with
      |nx env1=>exact ⟨G,H0,env,a,k,ha,.inl ⟨_,e1,fun σ' H' k' a' f'=>⟨G,H0,env1,a,k',a',.inr ⟨c,e2,th⟩⟩⟩⟩
      |rt b env1=>cases e2)
def qU (h1:DSOY X i st g1):QE X i [st] g1:=by
 with_unfolding_all exact (PSs.imp (J5 h1) fun E σ H q=>q)
def Z4 {t:TM} (hc:DT X c0 t) (h1:QE X i body g1) (h2:QE X i orelse g2):DSOY X i (.If c0 body orelse pos) (ifJX t g1 g2):=by
 with_unfolding_all exact (PS.imp (Xo hc h1 h2) fun E σ H=>by
  rintro ⟨G,H0,env,a,k,ha,q⟩;have key: ∃b,t env= .ok b/\ifJX t g1 g2 env=if b=true then g1 env else g2 env:=by
   cases e1:t env with
   |ok b=>exact ⟨b,rfl,by unfold ifJX;rw [e1]⟩
   |_=>
     have z:ifJX t g1 g2 env= .stuck:=by unfold ifJX;rw [e1]
     rcases q with ⟨o,ef,_⟩| ⟨c,ef,_⟩<;>(rw [z] at ef;cases ef)
  obtain ⟨b,e1,e2⟩:=key;rw [e2] at q;refine ⟨G,H0,env,b,k,e1,fun H' s=>?_⟩
  cases b with
  |true=>
   rw [if_pos rfl] at q ⊢;rcases q with ⟨o,ef,q⟩| ⟨c,ef,th⟩
   · exact ⟨G,H0,env,a,k.grow s,ha,.inl ⟨o,ef,zS (Frm.refl s) q⟩⟩
   · exact ⟨G,H0,env,a,k.grow s,ha,.inr ⟨c,ef,th⟩⟩
  |false=>
   rw [if_neg aaz] at q ⊢;rcases q with ⟨o,ef,q⟩| ⟨c,ef,th⟩
   · exact ⟨G,H0,env,a,k.grow s,ha,.inl ⟨o,ef,zS (Frm.refl s) q⟩⟩
   · exact ⟨G,H0,env,a,k.grow s,ha,.inr ⟨c,ef,th⟩⟩)
def iffY (t:Sl->Res (Bool×Sl)) (g1 g2:Sl->Res OutO):Sl->Res OutO:=fun env=>nx1 (t env)>>=fun r=>if r.1=true then g1 r.2 else g2 r.2
def Kb (hc:DTJ X c0 t) (h1:QE X i body g1) (h2:QE X i orelse g2):DSOY X i (.If c0 body orelse pos) (iffY t g1 g2):=by
 with_unfolding_all exact (PS.imp (Xo hc h1 h2) fun E σ H=>by
  rintro ⟨G,H0,env,a,k,ha,q⟩;have key: ∃b env1,t env= .ok (b,env1)/\iffY t g1 g2 env=if b=true then g1 env1 else g2 env1:=by
   cases e1:t env with
   |ok b=>exact ⟨b.1,b.2,rfl,by unfold iffY;rw [e1];rfl⟩
   |_=>
     have z:iffY t g1 g2 env= .stuck:=by unfold iffY;rw [e1];rfl
     rcases q with ⟨o,ef,_⟩| ⟨c,ef,_⟩<;>(rw [z] at ef;cases ef)
  obtain ⟨b,env1,e1,e2⟩:=key;rw [e2] at q;refine ⟨G,H0,env,b,env1,k,e1,fun H' k1 fr=>?_⟩
  cases b with
  |true=>
   rw [if_pos rfl] at q ⊢;rcases q with ⟨o,ef,q⟩| ⟨c,ef,th⟩
   · exact ⟨G,H0,env1,a,k1,ha,.inl ⟨o,ef,zS fr q⟩⟩
   · exact ⟨G,H0,env1,a,k1,ha,.inr ⟨c,ef,th⟩⟩
  |false=>
   rw [if_neg aaz] at q ⊢;rcases q with ⟨o,ef,q⟩| ⟨c,ef,th⟩
   · exact ⟨G,H0,env1,a,k1,ha,.inl ⟨o,ef,zS fr q⟩⟩
   · exact ⟨G,H0,env1,a,k1,ha,.inr ⟨c,ef,th⟩⟩)
def v3 (j:Nat) {pos':Pos} (hN:X.N.Nodup) (h:DEJX X e f) (hij:j≠i:=by decide) (hi:X.N[j]?=some x:=by rfl) (hx:Loc X.env.scope x:=by first|exact aa6 rfl|exact aaI rfl) (hs:abA e (some (.Name x pos')) pos.line X.env=pure false:=by rfl)
    (hf:Vy X x:=by first|exact .inl rfl|exact .inr rfl|assumption):DSOY X i (.Assign [.Name x pos'] e pos) (setJ j f):=by
 with_unfolding_all exact (PS.imp (JA hN hi hx h hs hf) fun E σ H=>by
  rintro ⟨G,H0,env,a,k,ha,q⟩;rcases q with ⟨o,ef,q⟩| ⟨c,ef,th⟩
  · obtain ⟨⟨d,env1⟩,e1,e2⟩:=jc ef;cases e2;exact ⟨G,H0,env,k,.inl ⟨d,env1,e1,fun v H' k1 fr r=>q _ H' (k1.setS r) ((jp hij).trans ha) (fr.trans (Frm.set (Same.refl H') fun _ _ z _=>nomatch z))⟩⟩
  · rcases qh ef with e1| ⟨r,_,e2⟩
    · exact ⟨G,H0,env,k,.inr ⟨c,e1,th⟩⟩
    · cases e2)
def v4 (h:DEJX X e f):DSOY X i (.Return (some e) pos) (wB f):=by
 with_unfolding_all exact (PS.imp (Q0 h) fun E σ H=>by
  rintro ⟨G,H0,env,a,k,ha,q⟩;rcases q with ⟨o,ef,q⟩| ⟨c,ef,th⟩
  · obtain ⟨⟨d,env1⟩,e1,e2⟩:=jc ef;cases e2;exact ⟨G,H0,env,k,.inl ⟨d,env1,e1,fun v H' k1 fr r=>q v σ H' k1 ha fr r⟩⟩
  · rcases qh ef with e1| ⟨r,_,e2⟩
    · exact ⟨G,H0,env,k,.inr ⟨c,e1,th⟩⟩
    · cases e2)
def v5 (j:Nat) {pos' lpos:Pos} (hN:X.N.Nodup) (h:DEJX X e f) (hij:j≠i:=by decide) (hi:X.N[j]?=some x:=by rfl) (hx:Loc X.env.scope x:=by first|exact aa6 rfl|exact aaI rfl) (hs:abA (.List [e] lpos) (some (.Name x pos')) pos.line X.env=pure false:=by rfl)
    (hf:Vy X x:=by first|exact .inl rfl|exact .inr rfl|assumption) (hst:aac [e] X.env=(false,eval e X.env)::aac [] X.env:=by exact jj rfl):DSOY X i (.Assign [.Name x pos'] (.List [e] lpos) pos) (lstJ j f):=by
 with_unfolding_all exact (PS.imp (JA hN hi hx (Yz (j5 h zn hst)) hs hf) fun E σ H=>by
  rintro ⟨G,H0,env,a,k,ha,q⟩;rcases q with ⟨o,ef,q⟩| ⟨c,ef,th⟩
  · obtain ⟨⟨d,env1⟩,e1,e2⟩:=jc ef;cases e2;refine ⟨G,H0,env,k,.inl ⟨d,env1,e1,fun v H1 k1 fr r=>⟨by show 1<=aae;decide,fun p hp=>?_⟩⟩⟩;have S:=k1.setNew (i:=j) (Same.upd hp) (.lst jo (k1.new p hp) ((Reps.cons r .nil).laid hp)) (zU (Same.refl H1) hp);exact q _ _ S.1 ((jp hij).trans ha) (fr.trans S.2)
  · rcases qh ef with e1| ⟨r,_,e2⟩
    · exact ⟨G,H0,env,k,.inr ⟨c,e1,th⟩⟩
    · cases e2)
def XZ (j:Nat) (he:DEJX X e f) (hN:X.N[j]?=some x:=by rfl) (hv:Vis X.env.scope x:=by first|exact aa6 rfl|exact aaI (aa6 rfl)|exact aaI (aaI rfl))
    (hd:Zu x:=by decide) (hcd:Zt x:=by decide)
    (hbase:aa2 (.Name x p) "append" X.env (eval (.Name x p) X.env)=eval (.Name x p) X.env:=by rfl)
    (hfew:((aa1 cpos (aac [e] X.env)).all (fun x=>!x.1)&&(abQ cpos (abi [] X.env)).all (fun x=>x.1.isSome)
      &&decide ([e].length+([]:List abG).length+(if ([]:List abG).isEmpty then 0 else 1)<30))=true:=by exact zW rfl rfl)
    (hline:(apos.endLine==cpos.line)=true:=by rfl) (hs:aac [e] X.env=(false,eval e X.env)::aac [] X.env:=by exact jj rfl) (hplain:(aa1 cpos (aac [] X.env)).any (·.1)=false:=by exact jK rfl)
    (hsw:abA (.Call (.Attribute (.Name x p) "append" apos) [e] [] cpos) none pos.line X.env=pure false:=by rfl):
    DSOY X i (.Expr (.Call (.Attribute (.Name x p) "append" apos) [e] [] cpos) pos) (appJ j f):=by
 with_unfolding_all exact (
  PS.imp (Je (vw abg abq abB xA (qS hN hv hd hcd) (j5 he zn hs) hbase hfew hline hs hplain) hsw) fun E σ H=>by
  rintro ⟨G,H0,env,a,k,ha,q⟩;rcases q with ⟨o,ef,q⟩| ⟨c,ef,th⟩
  · obtain ⟨ds0,e0,ef⟩:=jc ef;obtain ⟨⟨d,env1⟩,e1,ef⟩:=jc ef;obtain ⟨ds,e2,ef⟩:=jc ef;obtain ⟨hz,e5⟩:=jy ef;cases e5;obtain ⟨l0,xs0,hl0,hx0,_⟩:=wN k (wd e0);refine ⟨.ref l0,hl0,.inl ⟨rfl,xs0,.of hx0⟩,G,H0,env,k,.inl ⟨d,env1,e1,fun v H1 k1 fr r=>?_⟩⟩;obtain ⟨l,xs,hl,hx,rs⟩:=wN k1 (wd e2);rw [hl0] at hl;cases hl;refine ⟨l0,xs,v,rfl,rfl,hx,by rw [rs.length];exact hz,?_⟩;have W:=k1.write (wd e2) hl0 hx (rs.append (.cons r .nil));exact q σ _ W.1 ha (fr.trans W.2)
  · rcases qh ef with e0| ⟨ds0,e0,ef⟩
    · exact (YA e0).elim
    · obtain ⟨l0,xs0,hl0,hx0,_⟩:=wN k (wd e0);rcases qh ef with e1| ⟨r,_,ef⟩
      · exact ⟨.ref l0,hl0,.inl ⟨rfl,xs0,.of hx0⟩,G,H0,env,k,.inr ⟨c,e1,th⟩⟩
      · rcases qh ef with e2| ⟨ds,_,ef⟩
        · exact (YA e2).elim
        · exact (YM ef).elim)
def qR (n : Nat) (t : Sl -> Res (Bool × Sl)) (g : Sl -> Res OutO) : Sl -> Res OutO := fun env => match n with
  | 0 => .stuck
  | n + 1 => nx1 (t env) >>= fun r => if r.1 = true then g r.2 >>= fun o => match o with
        | .nx env' => qR n t g env'
        | .rt d env' => .ok (.rt d env')
      else .ok (.nx r.2)
def KR (n:Nat) {g:Sl->Res OutO} (hp:PassesOwn (model X.prog X.w) X.A X.env X.xe) (hc:DTJ X c0 t) (hb:QE X i body g):DSOY X i (.While c0 body [] pos) (qR n t g):=by
 with_unfolding_all exact (
  PS.imp (ZA hp hc hb) fun E σ H=>by
   rintro ⟨G,H0,env,a,k,ha,q⟩;refine ⟨fun m σ' H'=> ∃env',EnvOk X.K G H0 env' σ' H'/\At σ' i a/\Frm env σ H env' σ' H'/\((∃o,qR m t g env'= .ok o/\Yc X.K G H0 i a env σ H E o)\/ ∃c,qR m t g env'= .exc c/\ThrJ X c H0),⟨n,env,k,ha,Frm.refl (Same.refl H),q⟩,?_⟩;rintro m σ' H' ⟨env',k',ha',f',q'⟩
   cases m with
   |zero=>rcases q' with ⟨o,e',_⟩| ⟨c,e',_⟩<;>cases e'
   |succ m=>
    have key: ∃b env1,t env'= .ok (b,env1)/\qR (m+1) t g env'=(if b=true then g env1>>=fun o=>match o with
       | .nx env'=>qR m t g env'
       | .rt d env'=> .ok (.rt d env')
     else .ok (.nx env1)):=by
     cases e1:t env' with
     |ok b=>exact ⟨b.1,b.2,rfl,by show (nx1 (t env')>>=_)=_;rw [e1];rfl⟩
     |_=>
       have z:qR (m+1) t g env'= .stuck:=by show (nx1 (t env')>>=_)=_;rw [e1];rfl
       rcases q' with ⟨o,ef,_⟩| ⟨c,ef,_⟩<;>(rw [z] at ef;cases ef)
    obtain ⟨b,env1,e1,e2⟩:=key;rw [e2] at q';refine ⟨G,H0,env',b,env1,k',e1,fun H1 k1 fr1=>?_⟩
    cases b with
    |false=>
     rw [if_neg aaz] at q' ⊢;rcases q' with ⟨o,ef,q⟩| ⟨c,ef,_⟩
     · cases ef;exact q σ' H1 k1 ha' (f'.trans fr1)
     · cases ef
    |true=>
     rw [if_pos rfl] at q' ⊢;refine ⟨fun σ2 H2=> ∃env2,EnvOk X.K G H0 env2 σ2 H2/\At σ2 i a/\Frm env σ H env2 σ2 H2/\((∃o,qR m t g env2= .ok o/\Yc X.K G H0 i a env σ H E o)\/ ∃c,qR m t g env2= .exc c/\ThrJ X c H0),fun σ2 H2 z=>⟨m,ace m,z⟩,G,H0,env1,a,k1,ha',?_⟩;rcases q' with ⟨o,ef,q⟩| ⟨c,ef,th⟩
     · obtain ⟨o1,e3,e4⟩:=jc ef;refine .inl ⟨o1,e3,?_⟩
       cases o1 with
       |nx env2=>exact fun σ2 H3 k2 a2 f2=>⟨env2,k2,a2,(f'.trans fr1).trans f2,.inl ⟨o,e4,q⟩⟩
       |rt d env2=>
         cases e4;exact fun v σ2 H3 k2 a2 f2 r=>q v σ2 H3 k2 a2 ((f'.trans fr1).trans f2) r
     · rcases qh ef with e3| ⟨o1,e3,e4⟩
       · exact .inr ⟨c,e3,th⟩
       · cases o1 with
         |nx env2=>exact .inl ⟨_,e3,fun σ2 H3 k2 a2 f2=>⟨env2,k2,a2,(f'.trans fr1).trans f2,.inr ⟨c,e4,th⟩⟩⟩
         |rt d env2=>cases e4)
end
def spJY (K:aaa) (n:Nat) (F:FO):Sp:=fun vs H Q E=> ∃(B:Xl) (ds:List D) (us:List V) (a:Addr) (d0:D),vs=V.ref a::us/\us.length=n/\Reps K (fun c=>B c/\c≠a) H us ds/\Top K (fun c=>B c/\c≠a) H a d0/\
 ((∃r d1,F d0 ds= .ok (r,d1)/\ ∀v H',(∀c o,c≠a->H c=some o->H' c=some o)->Top K (fun c=>(H c=none\/B c)/\c≠a) H' a d1->Rep K (fun c=>(H c=none\/B c)/\c≠a) H' v r->Q v H')\/
  ∃c,F d0 ds= .exc c/\ ∀C H',NmC K c C->(∀b o,b≠a->H b=some o->H' b=some o)->E (.ref C) none H')
section
variable {P:aaB} {w:World} {K:aaa} {mg:Yq} {base:Heap}
def ja3 {m qual:Str} {st:Stmt} {f:Addr} {fd:abp} {N ps:List Str} {k n:Nat} {g:Sl->Res OutO} (Fu:Fun K m qual st f fd) (S:FnScope N ps (jg st)) (hn:ps.length=n+1) (hN:n+1<=N.length)
   (hb: ∀(cdv:Value) (A:aaZ) (outer:List Env) (s:aad) (H:Hp) (E:XK),Room k (A.deeper (ab7 qual (jg st) s.heap.objs.size f cdv))->QE (cxOf (CX1 P w) P w K mg base N qual (jg st) f cdv A outer s H E) 0 (j8 st) g):
   FnOk P w K mg base (CX1 P w) (k+1) f fd ps (spJY K n (Jc N.length n g)):=by
 with_unfolding_all exact (by
 obtain ⟨oc,od,kV,doc,pm,an,cdv,ct,osl,rfl,lk,hcd⟩:=Fu.ex;refine ja4 lk hcd S (fun vs H Q E ⟨B,ds,us,a,d0,ev,hl,_⟩=>by rw [ev,aab,hl,hn]) fun A outer s H vs Q E hr h=>?_
 obtain ⟨B,ds,us,a,d0,ev,hl,rs,t,q⟩:=h;refine ⟨_,hb cdv A outer s H E hr,?_⟩;subst ev;have hlen:ds.length=n:=by rw [←rs.length];exact hl
 obtain ⟨kk,hat⟩:=Zf (N:=N) rs t (by omega)
 have ne:Jc N.length n g d0 ds=(match g (zm N.length d0 ds) with
   | .ok (.nx env)=>(match yF env with| .ok d=> .ok (.non,d)|_=> .stuck)
   | .ok (.rt r env)=>(match yF env with| .ok d=> .ok (r,d)|_=> .stuck)
   | .exc c=> .exc c
   | .stuck=> .stuck):=if_pos hlen
 rcases q with ⟨r,d1,eF,q⟩| ⟨c,eF,q⟩
 · have fin: ∀(env':Sl) (σ':L2.St) (H':Hp) (v:V),EnvOk K (fun c=>H c=none\/c=a\/B c) (fun c=>if c=a then none else H c) env' σ' H'->At σ' 0 a->yF env'= .ok d1->Rep K (Sf (fun c=>H c=none\/c=a\/B c) env' σ') H' v r->Q v H':=fun env' σ' H' v k' a' e2 rv=>by
    have hi:=Ws e2;obtain ⟨a2,h1,_,t2⟩:=k'.own 0 _ hi;rw [a'] at h1;cases h1
    have ww: ∀c,Sf (fun c=>H c=none\/c=a\/B c) env' σ' c->(H c=none\/B c)/\c≠a:=fun c z=>by
     have hca:c≠a:=by
       rintro rfl;exact z.1 ⟨0,_,hi,a'⟩
     refine ⟨?_,hca⟩;rcases z.2 with z|z|z
     · exact .inl z
     · exact absurd z hca
     · exact .inr z
    exact q v H' (fun c o hc e=>k'.base c o (by rw [if_neg hc];exact e)) (t2.stay (fun _ _ e _=>e) ww fun _ e=>e) (rv.weak ww)
   rw [ne] at eF
   cases e1:g (zm N.length d0 ds) with
   |exc c=>rw [e1] at eF;cases eF
   |stuck=>rw [e1] at eF;cases eF
   |ok o=>
    rw [e1] at eF;refine ⟨_,_,_,a,kk,hat,.inl ⟨o,e1,?_⟩⟩
    cases o with
    |nx env'=>
     cases e2:yF env' with
     |ok d=>simp only [e2] at eF;cases eF;exact fun σ' H' k' a' f'=>fin env' σ' H' .non k' a' e2 .non
     |exc c=>simp only [e2] at eF;cases eF
     |stuck=>simp only [e2] at eF;cases eF
    |rt r' env'=>
     cases e2:yF env' with
     |ok d=>simp only [e2] at eF;cases eF;exact fun v σ' H' k' a' f' rv=>fin env' σ' H' v k' a' e2 rv
     |exc c=>simp only [e2] at eF;cases eF
     |stuck=>simp only [e2] at eF;cases eF
 · rw [ne] at eF
   have e1:g (zm N.length d0 ds)= .exc c:=by
    cases e1:g (zm N.length d0 ds) with
    |exc c'=>rw [e1] at eF;cases eF;rfl
    |stuck=>rw [e1] at eF;cases eF
    |ok o=>
     rw [e1] at eF
     cases o with
     |nx env'=>cases e2:yF env'<;>(simp only [e2] at eF;cases eF)
     |rt r' env'=>cases e2:yF env'<;>(simp only [e2] at eF;cases eF)
   have sm0: ∀H',Same (fun c=>if c=a then none else H c) H'-> ∀b o,b≠a->H b=some o->H' b=some o:=fun H' sm b o hb e=>sm b o (by show (if b=a then none else H b)=some o;rw [if_neg hb];exact e)
   refine ⟨_,_,_,a,kk,hat,.inr ⟨c,e1,fun pins σ H1 s1 h e C vs sm hC I hx=>Q4 I hx (q C H1 hC (sm0 _ sm)),fun pins σ H1 s1 e s' E1 I cx hE=>YQ I cx fun C H' z=>?_⟩⟩;obtain ⟨C',e',hC,s3⟩:=hE _ _ z;cases e'
   exact q C H' hC (sm0 _ s3))
end
structure AvJX (P:aaB) (w:World) (K:aaa) (mg:Yq) (base:Heap) (k:Nat) (c m:Str) (n:Nat) (F:FO):Prop where
 ex: ∃C f fd ps,FnOk P w K mg base (CX1 P w) k f fd ps (spJY K n F)/\aaj K aah c=some (some (.ref C))/\Cls K C/\Meth K C m f/\Binds K fd ps []
def AvJX.mono {P:aaB} {w:World} {K:aaa} {mg:Yq} {base:Heap} {j k:Nat} {c m:Str} {n:Nat} {F:FO} (h:AvJX P w K mg base j c m n F) (hj:j<=k):AvJX P w K mg base k c m n F:=
 let ⟨C,f,fd,ps,a,b⟩:=h.ex
 ⟨C,f,fd,ps,a.mono hj,b⟩
def qm (i:Nat) (c m:Str) (n:Nat) (F:FO) (g:TK):FJ:=fun env=>match ownJ i c env,g env with
 | .ok q,.ok ds=>if q.1.contains m=false/\ds.length=n then F (.obj c q.1 q.2) ds>>=fun r=> .ok (r.1,env.set i (.own r.2)) else .stuck
 |_,_=> .stuck
def Zi {i:Nat} {c m:Str} {n:Nat} {F:FO} {g:TK} {env:Sl} (h:qm i c m n F g env≠ .stuck): ∃q ds,ownJ i c env= .ok q/\g env= .ok ds/\q.1.contains m=false/\ds.length=n/\qm i c m n F g env=(F (.obj c q.1 q.2) ds>>=fun r=> .ok (r.1,env.set i (.own r.2))):=by
 unfold qm at h ⊢
 split at h
 · rename_i q ds e1 e2
   split at h
   · rename_i hc;exact ⟨q,ds,e1,e2,hc.1,hc.2,if_pos hc⟩
   · exact (h rfl).elim
 · exact (h rfl).elim
section
variable {X:Cx} {k n:Nat} {c m x:Str} {F:FO} {e:Expr} {es:List Expr} {pos p apos:Pos} {g:TK} {pl:Sem Bool}
def XEJ (K:aaa) (c:Str) (a:Addr) (H:Hp):XK:=fun cls _ H'=> ∃C,cls= .ref C/\NmC K c C/\ ∀b o,b≠a->H b=some o->H' b=some o
def Zh {f:Addr} {fd:abp} {ps:List Str} {pins:List (Addr×Obj)} {s:aad} {us:List Value} {G:Xl} {H0 H H2:Hp} {env:Sl} {σ:L2.St} {i:Nat} {Q:VK} {a:Addr} {q0:List Str×List D} {ds:List D} {ws:List V}
   (h1:FnOk X.prog X.w X.K X.mg X.base (CX1 X.prog X.w) k f fd ps (spJY X.K n F)) (hr:Room k X.A) (hb:Binds X.K fd ps []) (I:Inv X pins σ H2 s) (r:Vals ws us)
   (kk:EnvOk X.K G H0 env σ H) (s2:Same H H2) (hi:env[i]?=some (.own (.obj c q0.1 q0.2))) (ha:At σ i a) (rws:Reps X.K (Sf G env σ) H2 ws ds) (hn:ds.length=n)
   (q:(∃d env',(F (.obj c q0.1 q0.2) ds>>=fun r=>Res.ok (r.1,env.set i (.own r.2)))= .ok (d,env')/\ ∀v H',EnvOk X.K G H0 env' σ H'->Frm env σ H env' σ H'->Rep X.K (Sf G env' σ) H' v d->Q v H')\/ ∃c',(F (.obj c q0.1 q0.2) ds>>=fun r=>Res.ok (r.1,env.set i (.own r.2)))= .exc c'/\ThrJ X c' H0):
   wpAny (model X.prog X.w) X.A (call (.ref f) (.ref a::us)) (EP X pins σ Q) X.xe s:=by
 have k2:=kk.grow s2;obtain ⟨a',ha',h0a,ta⟩:=k2.own i _ hi;rw [ha] at ha';cases ha';have ow:qQ env σ a:=⟨i,_,hi,ha⟩
 have w: ∀c,Sf G env σ c->Sf G env σ c/\c≠a:=fun c z=>⟨z,by rintro rfl;exact z.1 ow⟩
 rcases q with ⟨d,env',ef,q⟩| ⟨c',ef,th⟩
 · obtain ⟨⟨r1,d1⟩,e1,e2⟩:=jc ef;cases e2;refine VB (vs:= .ref a::ws) (dvs:=[]) (E:=fun _ _ _=>False) h1 hr hb .nil I (.cons rfl r) ?_ fun e s' cx=>?_
   · rw [aaV];refine ⟨Sf G env σ,ds,ws,a,_,rfl,by rw [rws.length];exact hn,rws.weak w,ta.stay (fun _ _ e _=>e) w fun _ e=>e,.inl ⟨_,_,e1,fun v H' hs' t' rv=>?_⟩⟩;have back: ∀c,((H2 c=none\/Sf G env σ c)/\c≠a)->Sf G env σ c:=fun c z=>z.1.elim (fun z=>k2.new c z) fun z=>z
     have W:=k2.anew hi ha hs' (t'.stay (fun _ _ e _=>e) back fun _ e=>e);exact q v H' W.1 (W.2.grow s2) (rv.weak fun c z=>⟨fun o=>(back c z).1 (Wx hi o),(back c z).2⟩)
   · obtain ⟨_,_,_,_,_,_,_,_,_,_,_,_,_,z⟩:=cx;exact z.elim
 · rcases qh ef with e1| ⟨r,_,e2⟩
   · refine VB (vs:= .ref a::ws) (dvs:=[]) (E:=XEJ X.K c' a H2) h1 hr hb .nil I (.cons rfl r) ?_ fun e s' cx=>?_
     · rw [aaV];exact ⟨Sf G env σ,ds,ws,a,_,rfl,by rw [rws.length];exact hn,rws.weak w,ta.stay (fun _ _ e _=>e) w fun _ e=>e,.inr ⟨c',e1,fun C H' hC s'=>⟨C,rfl,hC,s'⟩⟩⟩
     · refine th.b pins σ H2 s e s' _ I cx fun cls H' ⟨C,ec,hC,sb⟩=>⟨C,ec,hC,fun b u hb0=>sb b u (fun z=>?_) (k2.base b u hb0)⟩
       subst z;rw [h0a] at hb0;cases hb0
   · cases e2
def AvJX.call (i:Nat) (A:AvJX X.prog X.w X.K X.mg X.base k c m n F) (hr:Room k X.A) (ha:DA X .s (e::es) g) (hN:X.N[i]?=some x:=by rfl) (hv:Vis X.env.scope x:=by first|exact aa6 rfl|exact aaI (aa6 rfl)|exact aaI (aaI rfl))
  (hd:Zu x:=by decide) (hcd:Zt x:=by decide)
  (hst:Xj X e es:=by exact jj rfl) (hpl:Wt X pos es:=by exact jK rfl)
  (ht:eval (.Call (.Attribute (.Name x p) m apos) (e::es) [] pos) X.env=(do
   let ov←eval (.Name x p) X.env
   adi apos.atName
   let (f,first)←adj [ov] (getMethod ov m pl)
   callWith pos f first (aa1 pos (aac (e::es) X.env)) (abQ pos (abi [] X.env))):=by rfl):DEJX X (.Call (.Attribute (.Name x p) m apos) (e::es) [] pos) (qm i c m n F g):=by
 obtain ⟨C,f,fd,ps,h1,h2,h3,h4,h5⟩:=A.ex
 with_unfolding_all exact (by
 rintro pins s σ H Q I ⟨G,H0,env,kk,q⟩
 have ns:qm i c m n F g env≠ .stuck:=by
  intro z;rcases q with ⟨d,env',ef,_⟩| ⟨c,ef,_⟩<;>(rw [z] at ef;cases ef)
 obtain ⟨q0,ds,e1,e2,hm,hn,e5⟩:=Zi ns;rw [e5] at q;have hi:=yJ e1;obtain ⟨a,C',dx,fs,h1',hx,hc,hns,rs⟩:=Jg kk hi;rw [h2] at hc;cases hc;refine acx (thn ((qS hN hv hd hcd) pins s σ H (fun v H1=>v= .ref a/\H1=H) I ⟨_,h1',rfl,rfl⟩) fun u s1 ⟨y,H1,I1,rx,ey,eH⟩=>?_) ht;subst ey eH;obtain rfl:u=aaJ a:=rx;refine Jl I1 hx h3 h4 (yM (by rw [hns];exact hm)) ?_;refine abY I.ok.mod.kin h4.kp (thn ((show PA X (e::es) (tA X.K .s g) from ha) pos pins s1 σ H1 (fun vs H2=>Same H1 H2/\Reps X.K (Sf G env σ) H2 vs ds) I1 ⟨G,H0,env,ds,kk,e2,fun vs H' s' r'=>⟨s',r'⟩⟩) fun us s2 ⟨ws,H2,I2,r,sm2,rws⟩=>⟨I2.kIn,?_⟩) hst hpl
 exact Zh h1 hr h5 I2 r kk sm2 hi h1' rws hn q)
def AvJX.call0 (i:Nat) (A:AvJX X.prog X.w X.K X.mg X.base k c m 0 F) (hr:Room k X.A) (hN:X.N[i]?=some x:=by rfl) (hv:Vis X.env.scope x:=by first|exact aa6 rfl|exact aaI (aa6 rfl)|exact aaI (aaI rfl))
  (hd:Zu x:=by decide) (hcd:Zt x:=by decide)
  (ht:eval (.Call (.Attribute (.Name x p) m apos) [] [] pos) X.env=(do
   let ov←eval (.Name x p) X.env
   adi apos.atName
   let (f,first)←adj [ov] (getMethod ov m pl)
   callWith pos f first (aa1 pos (aac [] X.env)) (abQ pos (abi [] X.env))):=by rfl):DEJX X (.Call (.Attribute (.Name x p) m apos) [] [] pos) (qm i c m 0 F noA):=by
 obtain ⟨C,f,fd,ps,h1,h2,h3,h4,h5⟩:=A.ex
 with_unfolding_all exact (by
 rintro pins s σ H Q I ⟨G,H0,env,kk,q⟩
 have ns:qm i c m 0 F noA env≠ .stuck:=by
  intro z;rcases q with ⟨d,env',ef,_⟩| ⟨c,ef,_⟩<;>(rw [z] at ef;cases ef)
 obtain ⟨q0,ds,e1,e2,hm,hn,e5⟩:=Zi ns;rw [e5] at q;cases e2;have hi:=yJ e1;obtain ⟨a,C',dx,fs,h1',hx,hc,hns,rs⟩:=Jg kk hi;rw [h2] at hc;cases hc;refine acx (thn ((qS hN hv hd hcd) pins s σ H (fun v H1=>v= .ref a/\H1=H) I ⟨_,h1',rfl,rfl⟩) fun u s1 ⟨y,H1,I1,rx,ey,eH⟩=>?_) ht;subst ey eH;obtain rfl:u=aaJ a:=rx;refine Jl I1 hx h3 h4 (yM (by rw [hns];exact hm)) ?_
 exact PySem.W.callWith_K0 I1.kIn h4.kp (Zh h1 hr h5 I1 .nil kk (Same.refl _) hi h1' .nil hn q))
end
section
variable {P:aaB} {w:World} {K:aaa} {mg:Yq} {base:Heap}
def X7 {c m q:Str} {st:Stmt} {C:Addr} {N ps:List Str} {k n:Nat} {g:Sl->Res OutO} (d:Dm K C m q st ps) (hC:aaj K aah c=some (some (.ref C))/\Cls K C) (S:FnScope N ps (jg st)) (hn:ps.length=n+1) (hN:n+1<=N.length)
  (hb: ∀(f:Addr) (cdv:Value) (A:aaZ) (outer:List Env) (s:aad) (H:Hp) (E:XK),Room k (A.deeper (ab7 q (jg st) s.heap.objs.size f cdv))->QE (cxOf (CX1 P w) P w K mg base N q (jg st) f cdv A outer s H E) 0 (j8 st) g):
  AvJX P w K mg base (k+1) c m n (Jc N.length n g):=by
 obtain ⟨f,fd,F,me,B⟩:=d;exact ⟨C,f,fd,ps,ja3 F S hn hN (hb f),hC.1,hC.2,me,B⟩
def jbz {c m q:Str} {st:Stmt} {C:Addr} {ps:List Str} {k n:Nat} (d:Dm K C m q st ps) (hC:aaj K aah c=some (some (.ref C))/\Cls K C) (hn:ps.length=n+1):AvJX P w K mg base k c m n (fun _ _=> .stuck):=by
 obtain ⟨f,fd,F,me,B⟩:=d
 exact ⟨C,f,fd,ps,⟨fun vs H Q E ⟨B,ds,us,a,d0,ev,hl,_⟩=>by rw [ev,aab,hl,hn],fun A outer s H args us vs Q E _ _ _ _ ⟨B,ds,us',a,d0,ev,hl,rs,t,q⟩=>by
  rcases q with ⟨_,_,eF,_⟩| ⟨_,eF,_⟩<;>cases eF⟩,hC.1,hC.2,me,B⟩
end
def tSW (X:Cx) (g:TL):TS:=fun E σ H=> ∃G H0 env,EnvOk X.K G H0 env σ H/\((∃o,g env= .ok o/\Post X.K G H0 env σ H E o)\/ ∃c,g env= .exc c/\ThrJ X c H0)
@[irreducible] def DSW (X:Cx) (st:Stmt) (g:TL):Prop:=PS X st (tSW X g)
@[irreducible] def DSsW (X:Cx) (st:List Stmt) (g:TL):Prop:=PSs X st (tSW X g)
section
variable {X:Cx} {e:Expr} {st:Stmt} {rest:List Stmt} {pos:Pos} {g g1 g2:TL} {f:FJ} {x:Str}
def DSX.w (h:DSX X st g):DSW X st g:=by
 with_unfolding_all exact (PS.imp h fun E σ H=>by
  rintro ⟨G,H0,env,k,q⟩;rcases q with q| ⟨c,e1,th⟩
  · exact ⟨G,H0,env,k,.inl q⟩
  · exact ⟨G,H0,env,k,.inr ⟨c,e1,th.thr⟩⟩)
def DSsX.w {sts:List Stmt} (h:DSsX X sts g):DSsW X sts g:=by
 with_unfolding_all exact (PSs.imp h fun E σ H=>by
  rintro ⟨G,H0,env,k,q⟩;rcases q with q| ⟨c,e1,th⟩
  · exact ⟨G,H0,env,k,.inl q⟩
  · exact ⟨G,H0,env,k,.inr ⟨c,e1,th.thr⟩⟩)
def Qw (h1:DSW X st g1) (h2:DSsW X rest g2):DSsW X (st::rest) (seqO g1 g2):=by
 with_unfolding_all exact (PSs.imp (zK h1 h2) fun E σ H=>by
  rintro ⟨G,H0,env,k,q⟩;rcases q with ⟨o,ef,q⟩| ⟨c,ef,th⟩
  · obtain ⟨o1,e1,e2⟩:=jc ef;refine ⟨G,H0,env,k,.inl ⟨o1,e1,?_⟩⟩
    cases o1 with
    |nx env1=>exact fun σ' H' k' f'=>⟨G,H0,env1,k',.inl ⟨o,e2,yK f' q⟩⟩
    |rt fr d=>cases e2;exact q
    |bk e'=>cases e2;exact q
    |ct e'=>cases e2;exact q
  · rcases qh ef with e1| ⟨o1,e1,e2⟩
    · exact ⟨G,H0,env,k,.inr ⟨c,e1,th⟩⟩
    · cases o1 with
      |nx env1=>exact ⟨G,H0,env,k,.inl ⟨_,e1,fun σ' H' k' f'=>⟨G,H0,env1,k',.inr ⟨c,e2,th⟩⟩⟩⟩
      |rt fr d=>cases e2
      |bk e'=>cases e2
      |ct e'=>cases e2)
def vY {pos':Pos} (j:Nat) (hN:X.N.Nodup) (h:DEJX X e f) (hi:X.N[j]?=some x:=by rfl) (hx:Loc X.env.scope x:=by first|exact aa6 rfl|exact aaI rfl) (hs:abA e (some (.Name x pos')) pos.line X.env=pure false:=by rfl)
    (hf:Vy X x:=by first|exact .inl rfl|exact .inr rfl|assumption):DSW X (.Assign [.Name x pos'] e pos) (Zr j f):=by
 with_unfolding_all exact (PS.imp (JA hN hi hx h hs hf) fun E σ H=>by
  rintro ⟨G,H0,env,k,q⟩;rcases q with ⟨o,ef,q⟩| ⟨c,ef,th⟩
  · obtain ⟨⟨d,env1⟩,e1,e2⟩:=jc ef;cases e2;exact ⟨G,H0,env,k,.inl ⟨d,env1,e1,fun v H' k1 fr r=>q _ H' (k1.setS r) (fr.trans (Frm.set (Same.refl H') fun _ _ z _=>nomatch z))⟩⟩
  · rcases qh ef with e1| ⟨r,_,e2⟩
    · exact ⟨G,H0,env,k,.inr ⟨c,e1,th⟩⟩
    · cases e2)
end
section
variable {P:aaB} {w:World} {K:aaa} {mg:Yq} {base:Heap}
def jby {x:Str} {st:Stmt} {f:Addr} {fd:abp} {N ps:List Str} {k:Nat} (fr:Bool) {g:TL} (Fu:Fun K x x st f fd) (hmg:mg x=some (.ref f)) (S:FnScope N ps (jg st)) (hbi:Binds K fd ps [])
   (hb: ∀(cdv:Value) (A:aaZ) (outer:List Env) (s:aad) (H:Hp) (E:XK),Room k (A.deeper (ab7 x (jg st) s.heap.objs.size f cdv))->DSsW (cxOf (CX1 P w) P w K mg base N x (jg st) f cdv A outer s H E) (j8 st) g):
   AvX P w K mg base (k+1) x ps fr (runX fr N.length g):=by
 refine ⟨f,fd,?_,hmg,Fu.kp,hbi⟩
 with_unfolding_all exact (by
 obtain ⟨oc,od,kV,doc,pm,an,cdv,ct,osl,rfl,lk,hcd⟩:=Fu.ex;refine ja4 lk hcd S (fun vs H Q E ⟨B,ds,hl,_⟩=>hl) fun A outer s H vs Q E hr h=>?_
 obtain ⟨B,ds,hl,r,q⟩:=h;refine ⟨_,hb cdv A outer s H E hr,?_⟩;have kk:=WW (N:=N) r;rcases q with ⟨d,e,q⟩| ⟨c,e,q⟩
 · rcases KA e with ⟨fr',z,hf⟩| ⟨rfl,env',z⟩
   · exact ⟨_,H,_,kk,.inl ⟨_,z,fun v H' s r nt=>q v H' s r fun hh=>nt (hf hh)⟩⟩
   · exact ⟨_,H,_,kk,.inl ⟨_,z,fun σ' H' k' f'=>q .non H' k'.base .non fun _ a e=>by cases e⟩⟩
 · refine ⟨_,H,_,kk,.inr ⟨c,ve e,fun pins σ H1 s1 h e C vs sm hC I hx=>Q4 I hx (q C H1 hC sm),fun pins σ H1 s1 e s' E1 I cx hE=>YQ I cx fun C H' z=>?_⟩⟩;obtain ⟨C',e',hC,s3⟩:=hE _ _ z;cases e'
   exact q C H' hC s3)
end
end M
namespace L2
open PySem PySem.Spec PyProof.Rows
section
variable {X:Cx} {pins:List (Addr×Obj)} {σ:St} {H H':Hp} {s:aad} {a p:Addr} {rs:List (Addr×List V)} {xs ys:List V}
abbrev rfs (rs:List (Addr×List V)):List V:=rs.map fun r=>V.ref r.1
def Inv.reH (I:Inv X pins σ H s) (hn: ∀b,H b=none->H' b=none) (hs: ∀b,H' b=H b\/(∃xs,H b=some (.lst xs))\/(∃x,H b=some (.own x))\/ ∃rs,H b=some (.nst rs)) (ok:HOk X.prog X.w H' s.heap):Inv X pins σ H' s:=by
 refine ⟨I.ok,I.os,I.bare,⟨I.base.keep,I.base.slot,fun b o q n x=>hn b (I.base.free b o q n x),I.base.there,fun b xs q=>?_,fun b o v q=>?_,fun b ps q=>?_⟩,I.loc,I.cell,hn _ I.free,fun x c q=>hn _ (I.freeC x c q),fun p hp=>?_,ok,I.len⟩
 · have z:=I.base.tups b xs q;rcases hs b with h| ⟨_,h⟩| ⟨_,h⟩| ⟨_,h⟩
   · rw [h];exact z
   all_goals rw [z] at h;cases h
 · have z:=I.base.frzs b o v q;rcases hs b with h| ⟨_,h⟩| ⟨_,h⟩| ⟨_,h⟩
   · rw [h];exact z
   all_goals rw [z] at h;cases h
 · obtain ⟨m,z⟩:=I.base.tbls b ps q;rcases hs b with h| ⟨_,h⟩| ⟨_,h⟩| ⟨_,h⟩
   · exact ⟨m,by rw [h];exact z⟩
   all_goals rw [z] at h;cases h
 · obtain ⟨p1,p2,p3⟩:=I.pin p hp;exact ⟨p1,hn _ p2,p3⟩
def opn (H:Hp) (a:Addr) (rs:List (Addr×List V)):Hp:=fun b=>if b=a then some (.lst (rfs rs)) else match rs.lookup b with
 |some xs=>some (.lst xs)
 |none=>H b
def cls (H:Hp) (a:Addr) (rs:List (Addr×List V)):Hp:=fun b=>if b=a then some (.nst rs) else match rs.lookup b with
 |some _=>some (.own a)
 |none=>H b
theorem zL: ∀ {rs:List (Addr×List V)} {b:Addr} {xs:List V},rs.lookup b=some xs->(b,xs)∈rs
 | (c,zs)::r,b,xs,h=>by
  rw [aaU] at h
  by_cases e:b=c
  · subst e;simp at h;subst h;exact aaA
  · have e':(b==c)=false:=by simpa using e
    rw [e'] at h;exact aar _ (zL h)
theorem XL: ∀ {rs:List (Addr×List V)} {b:Addr} {xs:List V},(rs.map (·.1)).Nodup->(b,xs)∈rs->rs.lookup b=some xs
 | (c,zs)::r,b,xs,nd,h=>by
  rw [abj,acm] at nd;rw [aaU];rcases aaw.mp h with e|e
  · cases e;simp
  · have:b≠c:=fun z=>nd.1 (by subst z;exact abL.mpr ⟨_,e,rfl⟩)
    have e':(b==c)=false:=by simpa using this
    rw [e'];exact XL nd.2 e
def ZP {rs:List (Addr×List V)} {b:Addr} (h:b∉rs.map (·.1)):rs.lookup b=none:=by
 cases e:rs.lookup b with
 |none=>rfl
 |some xs=>exact (h (abL.mpr ⟨_,zL e,rfl⟩)).elim
theorem Yf: ∀rs:List (Addr×List V),Vals (rfs rs) (rs.map fun r=>aaJ r.1)
 | []=> .nil
 |r::rs=> .cons rfl (Yf rs)
theorem Yu: ∀ {rs:List (Addr×List V)} {its:List Value},Vals (rfs rs) its->its=rs.map fun r=>aaJ r.1
 | [],_,h=>by cases h;rfl
 |r::rs,_,h=>by
  cases h with
  |cons h1 h2=>cases h1;rw [Yu h2];rfl
def WA:opn H a rs a=some (.lst (rfs rs)):=if_pos rfl
def Inv.opn (I:Inv X pins σ H s) (e:H a=some (.nst rs)):Inv X pins σ (opn H a rs) s:=by
 obtain ⟨z,nd,⟨n,ea⟩,pr⟩:=(show ObjOk X.prog X.w H s.heap a (.nst rs) from I.hok a _ e)
 have own: ∀ {b xs},rs.lookup b=some xs->H b=some (.own a):=fun h=>(pr _ (zL h)).2.1
 have same: ∀b u,H b=some u->(∀q,u≠ .nst q)->u≠ .own a->L2.opn H a rs b=some u:=fun b u h n1 n2=>by
   unfold L2.opn;rw [if_neg (fun z=>by subst z;rw [e] at h;cases h;exact n1 _ rfl)]
   cases q:rs.lookup b with
   |none=>exact h
   |some xs=>rw [own q] at h;cases h;exact (n2 rfl).elim
 refine I.reH (fun b h=>?_) (fun b=>?_) (fun b u h=>?_)
 · unfold L2.opn;rw [if_neg (fun z=>by subst z;rw [e] at h;cases h)]
   cases q:rs.lookup b with
   |none=>exact h
   |some xs=>rw [own q] at h;cases h
 · by_cases hb:b=a
   · subst hb;exact .inr (.inr (.inr ⟨_,e⟩))
   · cases q:rs.lookup b with
     |none=>refine .inl ?_;unfold L2.opn;rw [if_neg hb,q]
     |some xs=>exact .inr (.inr (.inl ⟨_,own q⟩))
 · by_cases hb:b=a
   · subst hb;rw [WA] at h;cases h;exact ⟨by rw [aaK];exact z,_,n,Yf rs,ea⟩
   · unfold L2.opn at h;rw [if_neg hb] at h
     cases q:rs.lookup b with
     |some xs=>
      rw [q] at h;cases h;obtain ⟨_,_,h3,its,m,r,e2⟩:=pr _ (zL q);exact ⟨h3,its,m,r,e2⟩
     |none=>
      rw [q] at h;exact (I.hok b u h).stay (fun _ _ _ z=>z) (fun c hc=>same c _ hc (fun _ z=>by cases z) (fun z=>by cases z;exact hb rfl)) (fun c xs hc=>same c _ hc (fun _ z=>by cases z) (fun z=>by cases z))
structure NsOk (H:Hp) (a:Addr) (rs:List (Addr×List V)):Prop where
 top:H a=some (.lst (rfs rs))
 nd:(rs.map (·.1)).Nodup
 row: ∀r∈rs,r.1≠a/\H r.1=some (.lst r.2)
def Inv.cls (I:Inv X pins σ H s) (k:NsOk H a rs):Inv X pins σ (cls H a rs) s:=by
 have lst: ∀ {b xs},rs.lookup b=some xs->H b=some (.lst xs):=fun h=>(k.row _ (zL h)).2
 have same: ∀b u,H b=some u->(∀q,u≠ .lst q)->L2.cls H a rs b=some u:=fun b u h n1=>by
   unfold L2.cls;rw [if_neg (fun z=>by subst z;rw [k.top] at h;cases h;exact n1 _ rfl)]
   cases q:rs.lookup b with
   |none=>exact h
   |some xs=>rw [lst q] at h;cases h;exact (n1 _ rfl).elim
 refine I.reH (fun b h=>?_) (fun b=>?_) (fun b u h=>?_)
 · unfold L2.cls;rw [if_neg (fun z=>by subst z;rw [k.top] at h;cases h)]
   cases q:rs.lookup b with
   |none=>exact h
   |some xs=>rw [lst q] at h;cases h
 · by_cases hb:b=a
   · subst hb;exact .inr (.inl ⟨_,k.top⟩)
   · cases q:rs.lookup b with
     |none=>refine .inl ?_;unfold L2.cls;rw [if_neg hb,q]
     |some xs=>exact .inr (.inl ⟨_,lst q⟩)
 · by_cases hb:b=a
   · subst hb;unfold L2.cls at h;rw [if_pos rfl] at h;cases h;obtain ⟨z,its,n,r,e⟩:=(show ObjOk X.prog X.w H s.heap b (.lst _) from I.hok b _ k.top)
     rw [Yu r] at e;refine ⟨by rw [aaK] at z;exact z,k.nd,⟨n,e⟩,fun r hr=>?_⟩;obtain ⟨h1,h2⟩:=k.row r hr;obtain ⟨z2,its2,n2,r2,e2⟩:=(show ObjOk X.prog X.w H s.heap r.1 (.lst _) from I.hok _ _ h2)
     refine ⟨h1,?_,z2,its2,n2,r2,e2⟩;show L2.cls H b rs r.1=_;unfold L2.cls;rw [if_neg h1,XL k.nd (show (r.1,r.2)∈rs from hr)]
   · cases q:rs.lookup b with
     |some xs=>
      unfold L2.cls at h;rw [if_neg hb,q] at h;cases h;obtain ⟨_,its,n,_,e2⟩:=(show ObjOk X.prog X.w H s.heap b (.lst _) from I.hok _ _ (lst q))
      exact ⟨_,e2⟩
     |none=>
      have h':=h;unfold L2.cls at h';rw [if_neg hb,q] at h';exact (I.hok b u h').stay (fun _ _ _ z=>z) (fun c hc=>same c _ hc (fun _ z=>by cases z)) (fun c xs hc=>same c _ hc (fun _ z=>by cases z))
def EP.cls {Q:VK} {u:Value} (a:Addr) (h:EP X pins σ (fun v H'=> ∃rs',NsOk H' a rs'/\Q v (L2.cls H' a rs')) u s):EP X pins σ Q u s:=by
 obtain ⟨v,H',I,r,rs',k,q⟩:=h;exact ⟨v,_,I.cls k,r,q⟩
def NsOk.of (I:Inv X pins σ H s) (e:H a=some (.nst rs)):NsOk (L2.opn H a rs) a rs/\L2.cls (L2.opn H a rs) a rs=H:=by
 obtain ⟨z,nd,⟨n,ea⟩,pr⟩:=(show ObjOk X.prog X.w H s.heap a (.nst rs) from I.hok a _ e)
 refine ⟨⟨WA,nd,fun r hr=>⟨(pr r hr).1,?_⟩⟩,?_⟩
 · unfold L2.opn;rw [if_neg (pr r hr).1,XL nd (show (r.1,r.2)∈rs from hr)]
 · funext b;unfold L2.cls L2.opn
   by_cases hb:b=a
   · subst hb;rw [if_pos rfl,e]
   · rw [if_neg hb,if_neg hb]
     cases q:rs.lookup b with
     |none=>rfl
     |some xs=>exact ((pr _ (zL q)).2.1).symm
def EP.rd {Q:VK} {u:Value} {s0:aad} (I:Inv X pins σ H s0) (e:H a=some (.nst rs)) (h:EP X pins σ (fun v H'=>H'=L2.opn H a rs/\Q v H) u s):EP X pins σ Q u s:=by
 obtain ⟨v,H',I',r,rfl,q⟩:=h;have k:=NsOk.of I e;have:=I'.cls k.1;rw [k.2] at this;exact ⟨v,_,this,r,q⟩
def jbQ (I:Inv X pins σ H s) (e:H a=some (.nst rs)) (hp:p=a\/ ∃xs,(p,xs)∈rs):s.TypeIs (.ref p) "list" /\ ∀b,aaJ p= .ref b-> ∃ob,s.heap.get? b=some ob/\ob.dict=none:=by
 refine um (I.opn e) (x:= .ref p) (v:= .ref p) rfl (.inl ⟨rfl,?_⟩);rcases hp with rfl| ⟨xs,h⟩
 · exact ⟨_,.of WA⟩
 · exact ⟨_,.of ((NsOk.of I e).1.row _ h).2⟩
end
section
variable {X:Cx}
def jdA:V->List V->Hp->VK->Prop:=fun x vs H Q=> ∃a p rs ys,x= .ref a/\vs=[.ref p]/\H a=some (.nst rs)/\H p=some (.lst ys)/\rs.length<aae/\Q .non (upd (upd H p (.own a)) a (.nst (rs++[(p,ys)])))
def jaM:MtM X "list.append" jdA:=by
 rintro pins s σ H x vs v us Q I rx rv ⟨a,p,rs,ys,rfl,rfl,ha,hp,hz,q⟩;obtain ⟨k,_⟩:=NsOk.of I ha;have pr:=(show ObjOk X.prog X.w H s.heap a (.nst rs) from I.hok a _ ha).2.2.2;have hpa:p≠a:=by rintro rfl;rw [ha] at hp;cases hp
 have hpr:p∉rs.map (·.1):=fun z=>by
   obtain ⟨r,hr,e⟩:=abL.mp z;subst e;rw [(pr r hr).2.1] at hp;cases hp
 refine thn (xA pins s σ _ (.ref a) [.ref p] v us _ (I.opn ha) rx rv ⟨a,rfs rs,.ref p,rfl,rfl,WA,by rw [aaK];exact hz,rs++[(p,ys)],⟨?_,?_,?_⟩,?_⟩) fun u s' h=>EP.cls a h
 · rw [jo];simp
 · rw [acQ,ac8];exact ⟨k.nd,by simp,fun b hb c hc=>by rintro rfl;simp at hc;subst hc;exact hpr hb⟩
 · intro r hr;rcases aa4.mp hr with h|h
   · obtain ⟨h1,h2⟩:=k.row r h;exact ⟨h1,by rw [jr h1];exact h2⟩
   · simp at h;subst h;refine ⟨hpa,?_⟩;show upd _ a _ p=_;rw [jr hpa];unfold opn;rw [if_neg hpa,ZP hpr];exact hp
 · refine cast (congrArg (Q .non) ?_) q;funext b;unfold cls
   by_cases hb:b=a
   · subst hb;rw [jo,if_pos rfl]
   · rw [jr hb,if_neg hb,abZ]
     by_cases hbp:b=p
     · subst hbp;rw [jo,ZP hpr];simp [aaE]
     · rw [jr hbp,jr hb];have e':(b==p)=false:=by simpa using hbp
       cases e:rs.lookup b with
       |some zs=>simp;exact (pr _ (zL e)).2.1
       |none=>simp [aaE,e'];unfold opn;rw [if_neg hb,e]
def jdz:V->List V->Hp->VK->Prop:=fun x vs H Q=> ∃a p rs xs y,x= .ref p/\vs=[y]/\H a=some (.nst (rs++[(p,xs)]))/\xs.length<aae/\Q .non (upd H a (.nst (rs++[(p,xs++[y])])))
def Ub {rs:List (Addr×List V)} {p:Addr} {xs:List V} (h:((rs++[(p,xs)]).map (·.1)).Nodup):p∉rs.map (·.1):=by
 rw [acQ,ac8] at h;exact fun z=>h.2.2 p z p (by simp) rfl
def Ud:MtM X "list.append" jdz:=by
 rintro pins s σ H x vs v us Q I rx rv ⟨a,p,rs,xs,y,rfl,rfl,ha,hz,q⟩;obtain ⟨k,_⟩:=NsOk.of I ha;have pr:=(show ObjOk X.prog X.w H s.heap a (.nst _) from I.hok a _ ha).2.2.2;obtain ⟨hpa,hp⟩:=k.row (p,xs) (by simp);have hpr:=Ub k.nd;refine thn (xA pins s σ _ (.ref p) [y] v us _ (I.opn ha) rx rv ⟨p,xs,y,rfl,rfl,hp,hz,rs++[(p,xs++[y])],⟨?_,?_,?_⟩,?_⟩) fun u s' h=>EP.cls a h
 · rw [jr (ab8 hpa),WA];simp
 · have:=k.nd;simpa using this
 · intro r hr;rcases aa4.mp hr with h|h
   · obtain ⟨h1,h2⟩:=k.row r (abr _ h);have:r.1≠p:=fun z=>hpr (z▸abL.mpr ⟨r,h,rfl⟩)
     exact ⟨h1,by rw [jr this];exact h2⟩
   · simp at h;subst h;exact ⟨hpa,jo⟩
 · refine cast (congrArg (Q .non) ?_) q;funext b;unfold cls
   by_cases hb:b=a
   · subst hb;rw [jo,if_pos rfl]
   · rw [jr hb,if_neg hb]
     by_cases hbp:b=p
     · subst hbp;rw [abZ,ZP hpr];simp [aaE];exact (pr (b,xs) (by simp)).2.1
     · have e':(b==p)=false:=by simpa using hbp
       rw [jr hbp];unfold opn;rw [if_neg hb,abZ,abZ]
       cases e:rs.lookup b with
       |some zs=>simp;exact (pr _ (abr _ (zL e))).2.1
       |none=>simp [aaE,e']
def jdy:V->List V->Hp->VK->Prop:=fun x vs H Q=> ∃a p rs xs,x= .ref a/\vs=[]/\H a=some (.nst (rs++[(p,xs)]))/\(p≠a->H p=some (.own a)->Q (.ref p) (upd (upd H a (.nst rs)) p (.lst xs)))
def jaL:MtM X "list.pop" jdy:=by
 rintro pins s σ H x vs v us Q I rx rv ⟨a,p,rs,xs,rfl,rfl,ha,q⟩;obtain ⟨k,_⟩:=NsOk.of I ha;have pr:=(show ObjOk X.prog X.w H s.heap a (.nst _) from I.hok a _ ha).2.2.2;obtain ⟨hpa,hp⟩:=k.row (p,xs) (by simp);have hpr:=Ub k.nd;refine thn (jcE pins s σ _ (.ref a) [] v us _ (I.opn ha) rx rv ⟨a,rfs (rs++[(p,xs)]),.ref p,rfl,rfl,WA,by simp,rs,⟨?_,?_,?_⟩,?_⟩) fun u s' h=>EP.cls a h
 · rw [jo];simp
 · have:=k.nd;rw [acQ,ac8] at this;exact this.1
 · intro r hr;obtain ⟨h1,h2⟩:=k.row r (abr _ hr);exact ⟨h1,by rw [jr h1];exact h2⟩
 · refine cast (congrArg (Q (.ref p)) ?_) (q hpa (pr (p,xs) (by simp)).2.1);funext b;unfold cls
   by_cases hb:b=a
   · subst hb;rw [jr (ab8 hpa),jo,if_pos rfl]
   · rw [if_neg hb]
     by_cases hbp:b=p
     · subst hbp;rw [jo,ZP hpr];dsimp only;rw [jr hb];exact hp.symm
     · have e':(b==p)=false:=by simpa using hbp
       rw [jr hbp,jr hb]
       cases e:rs.lookup b with
       |some zs=>exact (pr _ (abr _ (zL e))).2.1
       |none=>
        dsimp only;rw [jr hb];unfold opn;rw [if_neg hb,abZ,e];simp [aaE,e']
def rIxN:R2:=fun x y H Q=> ∃a rs i v,x= .ref a/\y= .int i/\H a=some (.nst rs)/\atI (rfs rs) i=some v/\Q v H
def XQ:IxR X rIxN:=by
 rintro value slice pins s σ H x y v u Q I rx ry ⟨a,rs,i,z,rfl,rfl,ha,he,q⟩ hs;exact thn (ix_list value slice pins s σ _ (.ref a) (.int i) v u _ (I.opn ha) rx ry ⟨a,rfs rs,i,z,rfl,rfl,.of WA,he,rfl,q⟩ hs) fun u s' h=>EP.rd I ha h
def rIxP:R2:=fun x y H Q=> ∃a p rs xs i v,x= .ref p/\y= .int i/\H a=some (.nst rs)/\(p,xs)∈rs/\atI xs i=some v/\Q v H
def jaS:IxR X rIxP:=by
 rintro value slice pins s σ H x y v u Q I rx ry ⟨a,p,rs,xs,i,z,rfl,rfl,ha,hp,he,q⟩ hs;exact thn (ix_list value slice pins s σ _ (.ref p) (.int i) v u _ (I.opn ha) rx ry ⟨p,xs,i,z,rfl,rfl,.of ((NsOk.of I ha).1.row _ hp).2,he,rfl,q⟩ hs) fun u s' h=>EP.rd I ha h
def kt:CallR X (.builtin "len") (fun xs H Q=> ∃a rs,xs=[.ref a]/\H a=some (.nst rs)/\Q (.int rs.length) H):=by
 rintro pins s σ H xs us Q I rv ⟨a,rs,rfl,ha,q⟩;exact thn (call_len_seq pins s σ _ [.ref a] us _ (I.opn ha) rv ⟨a,rfs rs,rfl,.inl (.of WA),rfl,by rw [aaK];exact q⟩) fun u s' h=>EP.rd I ha h
def NsV (x:V) (H:Hp):Prop:= ∃a rs p,x= .ref p/\H a=some (.nst rs)/\(p=a\/ ∃xs,(p,xs)∈rs)
def tNM0 (r:V->List V->Hp->VK->Prop) (to:TE):TE:=fun σ H Q=>to σ H fun x H1=>NsV x H1/\r x [] H1 Q
def tNM (r:V->List V->Hp->VK->Prop) (to:TE) (t:TA):TE:=fun σ H Q=>to σ H fun x H1=>NsV x H1/\t σ H1 fun xs H2=>r x xs H2 Q
variable {o e:Expr} {es:List Expr} {to:TE} {t:TA} {name:Str} {apos cpos:Pos} {id:String} {r:V->List V->Hp->VK->Prop}
def jcm (pa:PlainAttrs "list") (slot:Slot "list" name id) (hty:typeOf (.builtin id)=pure (.type "method_descriptor")) (hm:MtR X id r) (ho:PE X o to)
  (hbase:aa2 o name X.env (eval o X.env)=eval o X.env:=by rfl) (hline:(apos.endLine==cpos.line)=true:=by rfl):PE X (.Call (.Attribute o name apos) [] [] cpos) (tNM0 r to):=by
 intro pins s σ H Q I h;refine wpAny_Call_method0_late hbase hline (thn (ho pins s σ H _ I h) fun v s1 ⟨x,H1,I1,r1,⟨a,rs,p,ex,ha,hp⟩,q1⟩=>?_);have r2:=r1;rw [ex] at r2;cases r2;obtain ⟨h1,h2⟩:=jbQ I1 ha hp;exact ⟨"list",id,pa,slot,hty,h1,h2,acq rfl (PySem.evalArgs_none (hm pins s1 σ H1 x [] _ [] Q I1 r1 .nil q1))⟩
def jaz (pa:PlainAttrs "list") (slot:Slot "list" name id) (hty:typeOf (.builtin id)=pure (.type "method_descriptor")) (hm:MtR X id r) (ho:PE X o to) (ha:PA X (e::es) t)
  (hbase:aa2 o name X.env (eval o X.env)=eval o X.env:=by rfl)
  (hfew:((aa1 cpos (aac (e::es) X.env)).all (fun x=>!x.1)&&(abQ cpos (abi [] X.env)).all (fun x=>x.1.isSome)
   &&decide ((e::es).length+([]:List abG).length+(if ([]:List abG).isEmpty then 0 else 1)<30))=true:=by rfl)
  (hline:(apos.endLine==cpos.line)=true:=by rfl) (hs:Xj X e es:=by rfl) (hplain:Wt X cpos es:=by rfl):
  PE X (.Call (.Attribute o name apos) (e::es) [] cpos) (tNM r to t):=by
 intro pins s σ H Q I h;refine wpAny_Call_method_late hbase hfew hline rfl (thn (ho pins s σ H _ I h) fun v s1 ⟨x,H1,I1,r1,⟨a,rs,p,ex,hna,hp⟩,q1⟩=>?_);have r2:=r1;rw [ex] at r2;cases r2;obtain ⟨h1,h2⟩:=jbQ I1 hna hp;refine ⟨"list",id,pa,slot,hty,h1,h2,?_⟩;have hA:=ha cpos pins s1 σ H1 _ I1 q1;rw [hs] at hA ⊢;refine acq (by show (false|| (aa1 cpos (aac es X.env)).any (·.1))=false;rw [hplain]<;>rfl) (acD ?_);exact thn hA fun us s2 ⟨vs,H2,I2,r2,q2⟩=>hm pins s2 σ H2 x vs _ us Q I2 r1 r2 q2
def Inv.mark {pins:List (Addr×Obj)} {σ:St} {H:Hp} {s:aad} {p a:Addr} {xs:List V} (I:Inv X pins σ H s) (e:H p=some (.lst xs)):Inv X pins σ (upd H p (.own a)) s:=by
 have same: ∀b u,H b=some u->(∀q,u≠ .lst q)->upd H p (.own a) b=some u:=fun b u h n=>by
   rw [jr];exact h;rintro rfl;rw [e] at h;cases h;exact n _ rfl
 refine I.reH (fun b h=>?_) (fun b=>?_) (fun b u h=>?_)
 · rw [jr (jM e h).symm];exact h
 · by_cases hb:b=p
   · subst hb;exact .inr (.inl ⟨_,e⟩)
   · exact .inl (jr hb)
 · by_cases hb:b=p
   · subst hb;rw [jo] at h;cases h;obtain ⟨_,its,n,_,e2⟩:=(show ObjOk X.prog X.w H s.heap b (.lst _) from I.hok _ _ e)
     exact ⟨_,e2⟩
   · rw [jr hb] at h;exact (I.hok b u h).stay (fun _ _ _ z=>z) (fun c hc=>same c _ hc (fun _ z=>by cases z)) (fun c xs hc=>same c _ hc (fun _ z=>by cases z))
end
end L2
namespace M
open PySem PySem.Spec L2
open PyProof.Rows hiding St
def ownN (i:Nat) (env:Sl):Res (List D):=match env[i]? with
 |some (.own (.nst ds))=> .ok ds
 |_=> .stuck
def yI {i:Nat} {env:Sl} {ds:List D} (h:ownN i env= .ok ds):env[i]?=some (.own (.nst ds)):=by
 unfold ownN at h
 split at h
 · cases h;assumption
 · cases h
section
variable {K:aaa} {A:Xl} {H:Hp}
def Reps.split {vs ws:List V} {ds es:List D} (r:Reps K A H (vs++ws) (ds++es)) (h:vs.length=ds.length):Reps K A H vs ds/\Reps K A H ws es:=by
 have r1:=r.take vs.length;have r2:=r.drop vs.length;rw [ac0,h,ac0] at r1;rw [List.drop_left,h,List.drop_left] at r2;exact ⟨r1,r2⟩
abbrev rlen (rs:List (Addr×List V)):List Nat:=rs.map fun r=>r.2.length
abbrev dlen (ds:List D):List Nat:=ds.map fun d=>(rrow d).length
def VC {rs:List (Addr×List V)} {ds:List D} (h:rlen rs=dlen ds):(rs.flatMap (·.2)).length=(ds.flatMap rrow).length:=by
 rw [List.length_flatMap,List.length_flatMap];exact congrArg List.sum h
def J3 {rs:List (Addr×List V)} {ds0:List D} {row:List D} (h:rlen rs=dlen (ds0++[.tup row])) (r:Reps K A H (rs.flatMap (·.2)) ((ds0++[D.tup row]).flatMap rrow)):
   ∃rs0 p xs,rs=rs0++[(p,xs)]/\rlen rs0=dlen ds0/\Reps K A H (rs0.flatMap (·.2)) (ds0.flatMap rrow)/\Reps K A H xs row:=by
 rcases List.eq_nil_or_concat rs with rfl| ⟨rs0,⟨p,xs⟩,rfl⟩
 · simp [rlen,dlen] at h
 · rw [List.concat_eq_append] at h r ⊢;have h':rlen rs0++[xs.length]=dlen ds0++[row.length]:=by simpa [rlen,dlen,rrow] using h
   obtain ⟨h1,_⟩:=List.append_inj' h' rfl;have r':Reps K A H (rs0.flatMap (·.2)++xs) (ds0.flatMap rrow++row):=by simpa [rrow] using r
   obtain ⟨a1,a2⟩:=r'.split (VC h1);exact ⟨rs0,p,xs,rfl,h1,a1,a2⟩
def Zm {a:Addr} {rs0:List (Addr×List V)} {p:Addr} {xs:List V} {ds0 row:List D} (e:H a=some (.nst (rs0++[(p,xs)]))) (h:rlen rs0=dlen ds0) (r1:Reps K A H (rs0.flatMap (·.2)) (ds0.flatMap rrow)) (r2:Reps K A H xs row):Top K A H a (.nst (ds0++[.tup row])):=by
 refine .nst e ?_ rfl ?_
 · have:=r2.length;simp only [rlen,dlen] at h;simp [rrow,h,this]
 · simpa [rrow] using r1.append r2
def Reps.firm {A':Xl} {H':Hp} {vs:List V} {ds:List D} (r:Reps K A H vs ds) (i:D.imms ds=true) (st: ∀b o,H b=some o-> ¬Mut (some o)->H' b=some o):Reps K A' H' vs ds:=
 (r.imm (A':=fun _=>False) i).stay (fun b o e m=>st b o e fun z=>m z) fun _ z=>z.elim
def J8 {G:Xl} {H0:Hp} {env:Sl} {σ:L2.St} {i:Nat} {ds:List D} (k:EnvOk K G H0 env σ H) (hi:env[i]?=some (.own (.nst ds))): ∃a rs,At σ i a/\H a=some (.nst rs)/\rlen rs=dlen ds/\Reps K (Sf G env σ) H (rs.flatMap (·.2)) (ds.flatMap rrow):=by
 obtain ⟨a,h1,h0,h2⟩:=k.own i _ hi
 cases h2 with
 |nst e k1 k2 r=>subst k2;exact ⟨a,_,h1,e,k1,r⟩
end
section
variable {X:Cx} {e b c:Expr} {f:TN} {l:Lv} {pos cpos apos p p2:Pos} {x:Str}
def jcn {j:Nat}:PE X (.UnaryOp .USub (.Constant (.int 1) j p) pos) (tC (.int (-1))):=PE.imp (jdD jbP Wv) fun σ H Q q=>⟨1,rfl,q⟩
def appP (i:Nat) (f:TN):Sl->Res Out:=fun env=>ownN i env>>=fun ds=>f env>>=fun d=>match ds.getLast? with
 |some (.tup row)=>must (row.length<aae/\d.imm=true) (.ok (.nx (env.set i (.own (.nst (ds.dropLast++[.tup (row++[d])]))))))
 |_=> .stuck
def XM {ds:List D} {d:D} (h:ds.getLast?=some d):ds=ds.dropLast++[d]:=by
 rcases List.eq_nil_or_concat ds with rfl| ⟨l,y,rfl⟩
 · cases h
 · simp at h;subst h;simp
def Yt {rs:List (Addr×List V)} {p:Addr} {xs:List V}:atI (rfs (rs++[(p,xs)])) (-1)=some (.ref p):=by
 show atI (List.map _ _) _=_;rw [acQ];exact L2.atI_last _ _
def UQ (i:Nat) (he:DE X l e f) (hb:PE X b (tC (.int (-1)))) (hN:X.N[i]?=some x:=by rfl) (hv:Vis X.env.scope x:=by first|exact aa6 rfl|exact aaI (aa6 rfl)|exact aaI (aaI rfl))
   (hd:Zu x:=by decide) (hcd:Zt x:=by decide) (hs0:Jr b:=by intro _ _;rfl)
   (hbase:aa2 (.Subscript (.Name x p) b p2) "append" X.env (eval (.Subscript (.Name x p) b p2) X.env)=eval (.Subscript (.Name x p) b p2) X.env:=by rfl)
   (hfew:((aa1 cpos (aac [e] X.env)).all (fun x=>!x.1)&&(abQ cpos (abi [] X.env)).all (fun x=>x.1.isSome)
     &&decide ([e].length+([]:List abG).length+(if ([]:List abG).isEmpty then 0 else 1)<30))=true:=by exact zW rfl rfl)
   (hline:(apos.endLine==cpos.line)=true:=by rfl) (hs:aac [e] X.env=(false,eval e X.env)::aac [] X.env:=by exact jj rfl) (hplain:(aa1 cpos (aac [] X.env)).any (·.1)=false:=by exact jK rfl)
   (hsw:abA (.Call (.Attribute (.Subscript (.Name x p) b p2) "append" apos) [e] [] cpos) none pos.line X.env=pure false:=by rfl):
   DS X (.Expr (.Call (.Attribute (.Subscript (.Name x p) b p2) "append" apos) [e] [] cpos) pos) (appP i f):=by
 with_unfolding_all exact (
  PS.imp (Je (jaz abg abq abB Ud (VL XQ (qS hN hv hd hcd) hb hs0) (j5 he zn hs) hbase hfew hline hs hplain) hsw) fun E σ H=>by
   rintro ⟨G,H0,env,o,k,ef,q⟩;obtain ⟨ds,e1,e2⟩:=jc ef;obtain ⟨d,e3,e4⟩:=jc e2;have hi:=yI e1
   split at e4
   · rename_i row hl;obtain ⟨⟨hz,hm⟩,e5⟩:=jy e4;cases e5;rw [XM hl] at hi;obtain ⟨a,rs,ha,hx,k1,r⟩:=J8 k hi;obtain ⟨rs0,p,xs,rfl,k2,r1,r2⟩:=J3 k1 r;refine ⟨.ref a,ha,a,_,-1,.ref p,rfl,rfl,hx,Yt,⟨a,_,p,rfl,hx,.inr ⟨xs,by simp⟩⟩,G,H0,env,d,k,e3,fun v H1 s1 rv _=>?_⟩;have hx1:=s1 _ _ hx;refine ⟨a,p,rs0,xs,v,rfl,rfl,hx1,by rw [r2.length];exact hz,?_⟩;have kk:=k.grow s1
     have st:Stay (Sf G env σ) H1 (upd H1 a (.nst (rs0++[(p,xs++[v])]))):=fun c o ec m=>by
      rw [jr];exact ec;rintro rfl;rw [hx1] at ec;cases ec;exact (m trivial).1 ⟨i,_,hi,ha⟩
     have W:=kk.anew (H':=upd H1 a (.nst (rs0++[(p,xs++[v])]))) hi ha (fun c o hc ec=>by rw [jr hc];exact ec)
      (Zm jo k2 ((r1.grow s1).stay st fun _ z=>z) (((r2.grow s1).append (.cons (rv.imm hm) .nil)).stay st fun _ z=>z))
     exact q σ _ W.1 (W.2.grow s1)
   · cases e4)
def appN (i:Nat) (f:TN):Sl->Res Out:=fun env=>ownN i env>>=fun ds=>f env>>=fun d=>match d with
 | .lst es=>must (ds.length<aae/\D.imms es=true) (.ok (.nx (env.set i (.own (.nst (ds++[.tup es]))))))
 |_=> .stuck
def US (i:Nat) (he:DE X .t e f) (hN:X.N[i]?=some x:=by rfl) (hv:Vis X.env.scope x:=by first|exact aa6 rfl|exact aaI (aa6 rfl)|exact aaI (aaI rfl))
   (hd:Zu x:=by decide) (hcd:Zt x:=by decide)
   (hbase:aa2 (.Name x p) "append" X.env (eval (.Name x p) X.env)=eval (.Name x p) X.env:=by rfl)
   (hfew:((aa1 cpos (aac [e] X.env)).all (fun x=>!x.1)&&(abQ cpos (abi [] X.env)).all (fun x=>x.1.isSome)
     &&decide ([e].length+([]:List abG).length+(if ([]:List abG).isEmpty then 0 else 1)<30))=true:=by exact zW rfl rfl)
   (hline:(apos.endLine==cpos.line)=true:=by rfl) (hs:aac [e] X.env=(false,eval e X.env)::aac [] X.env:=by exact jj rfl) (hplain:(aa1 cpos (aac [] X.env)).any (·.1)=false:=by exact jK rfl)
   (hsw:abA (.Call (.Attribute (.Name x p) "append" apos) [e] [] cpos) none pos.line X.env=pure false:=by rfl):
   DS X (.Expr (.Call (.Attribute (.Name x p) "append" apos) [e] [] cpos) pos) (appN i f):=by
 with_unfolding_all exact (
  PS.imp (Je (jaz abg abq abB jaM (qS hN hv hd hcd) (j5 he zn hs) hbase hfew hline hs hplain) hsw) fun E σ H=>by
   rintro ⟨G,H0,env,o,k,ef,q⟩;obtain ⟨ds,e1,e2⟩:=jc ef;obtain ⟨d,e3,e4⟩:=jc e2;have hi:=yI e1
   split at e4
   · rename_i es;obtain ⟨⟨hz,hm⟩,e5⟩:=jy e4;cases e5;obtain ⟨a,rs,ha,hx,k1,r⟩:=J8 k hi;refine ⟨.ref a,ha,⟨a,_,a,rfl,hx,.inl rfl⟩,G,H0,env,_,k,e3,fun v H1 s1 rv nt=>?_⟩;have hx1:=s1 _ _ hx;obtain ⟨p,ys,rfl,hp,_,ry⟩:=rv.lstE;have fp:H p=none:=uE s1 nt ⟨_,hp,trivial⟩;refine ⟨a,p,rs,ys,rfl,rfl,hx1,hp,by have:=congrArg abN k1;simp [rlen,dlen] at this;omega,?_⟩;have hpa:p≠a:=by rintro rfl;rw [hx] at fp;cases fp
     have all: ∀c o,c≠a->H c=some o->upd (upd H1 p (.own a)) a (.nst (rs++[(p,ys)])) c=some o:=fun c o hc ec=>by
      rw [jr hc,jr (jM ec fp)];exact s1 _ _ ec
     have st:Stay (Sf G env σ) H (upd (upd H1 p (.own a)) a (.nst (rs++[(p,ys)]))):=fun c o ec m=>all c o (by
      rintro rfl;rw [hx] at ec;cases ec
      exact (m trivial).1 ⟨i,_,hi,ha⟩) ec
     have W:=k.anew (H':=upd (upd H1 p (.own a)) a (.nst (rs++[(p,ys)]))) hi ha all
      (Zm jo k1 (r.stay st fun _ z=>z) (ry.firm hm fun c o ec m=>by
       rw [jr (by rintro rfl;rw [hx1] at ec;cases ec;exact m trivial),jr (by rintro rfl;rw [hp] at ec;cases ec;exact m trivial)]
       exact ec))
     exact q σ _ W.1 W.2
   · cases e4)
def nst0:Sl->Res D:=fun _=> .ok (.nst [.tup []])
def jbk:DE X .t (.List [.List [] p] p2) nst0:=by
 with_unfolding_all exact (by
  rintro pins s σ H Q I ⟨G,H0,env,d,k,ef,q⟩;cases ef;refine thn (Yz (j5 (Yz zn) zn (by exact jj rfl)) pins s σ H (fun v H'=> ∃a rs',NsOk H' a rs'/\Q v (cls H' a rs')) I ⟨by decide,fun p hp=>⟨by rw [acy];decide,fun a ha=>?_⟩⟩) fun u s1 ⟨v,H',I1,r1,a,rs',k1,q1⟩=>⟨v,_,I1.cls k1,r1,q1⟩
  have hpa:p≠a:=by rintro rfl;rw [jo] at ha;cases ha
  have fa:H a=none:=by rw [jr (ab8 hpa)] at ha;exact ha
  have hc: ∀b,b≠a->b≠p->cls (upd (upd H p (.lst [])) a (.lst [.ref p])) a [(p,[])] b=H b:=fun b h1 h2=>by
    unfold cls;have e':(b==p)=false:=by simpa using h2
    rw [if_neg h1];simp [aaE,e'];rw [jr h1,jr h2]
  have ha':cls (upd (upd H p (.lst [])) a (.lst [.ref p])) a [(p,[])] a=some (.nst [(p,[])]):=if_pos rfl;refine ⟨a,[(p,[])],⟨jo,by simp,fun r hr=>?_⟩,?_⟩
  · simp at hr;subst hr;exact ⟨hpa,by show upd _ a _ p=_;rw [jr hpa,jo]⟩
  · refine q _ _ (fun b o eb=>?_) (.nst ha' (k.new a fa) rfl rfl .nil) fun b eb o qb=>?_
    · rw [hc b (jM eb fa) (jM eb hp)];exact eb
    · cases eb;rw [fa] at qb;cases qb)
def lenN (i:Nat):Sl->Res D:=fun env=>ownN i env>>=fun ds=> .ok (.int ds.length)
def X1 (i:Nat) (hg:Gl X "len") (hm:X.mg "len" =none) (hN:X.N[i]?=some x:=by rfl) (hv:Vis X.env.scope x:=by first|exact aa6 rfl|exact aaI (aa6 rfl)|exact aaI (aaI rfl))
   (hd:Zu x:=by decide) (hcd:Zt x:=by decide):DE X l (.Call (.Name "len" p) [.Name x p2] [] pos) (lenN i):=by
 with_unfolding_all exact (
  PE.imp (wM kt hg hm aaL (j5 (qS hN hv hd hcd) zn (by exact jj rfl)) (by decide) (by decide) (by exact jj rfl) (by exact jK rfl)) fun σ H Q=>by
   rintro ⟨G,H0,env,d,k,ef,q⟩;obtain ⟨ds,e1,e2⟩:=jc ef;cases e2;obtain ⟨a,rs,ha,hx,k1,r⟩:=J8 k (yI e1);have hl:rs.length=ds.length:=by have:=congrArg abN k1;simpa [rlen,dlen] using this
   refine ⟨.ref a,ha,a,rs,rfl,hx,?_⟩;rw [hl];refine q _ _ (Same.refl H) (.int _) ?_
   cases l<;>first|trivial|exact fun b eb=>nomatch eb)
def ixN2 (i:Nat):Sl->Res D:=fun env=>ownN i env>>=fun ds=>match ds with
 | .tup (d::_)::_=>must (d.imm=true) (.ok d)
 |_=> .stuck
def jbl (i:Nat) {b1 b2:Expr} {p3:Pos} (h1:PE X b1 (tC (.int 0))) (h2:PE X b2 (tC (.int 0))) (hN:X.N[i]?=some x:=by rfl) (hv:Vis X.env.scope x:=by first|exact aa6 rfl|exact aaI (aa6 rfl)|exact aaI (aaI rfl))
   (hd:Zu x:=by decide) (hcd:Zt x:=by decide) (hs1:Jr b1:=by intro _ _;rfl) (hs2:Jr b2:=by intro _ _;rfl):DE X .s (.Subscript (.Subscript (.Name x p) b1 p2) b2 p3) (ixN2 i):=by
 with_unfolding_all exact (
  PE.imp (VL jaS (VL XQ (qS hN hv hd hcd) h1 hs1) h2 hs2) fun σ H Q=>by
   rintro ⟨G,H0,env,d,k,ef,q⟩;obtain ⟨ds,e1,e2⟩:=jc ef;have hi:=yI e1
   split at e2
   · rename_i d' row rest;obtain ⟨hm,e3⟩:=jy e2;cases e3;obtain ⟨a,rs,ha,hx,k1,r⟩:=J8 k hi
     cases rs with
     |nil=>simp [rlen,dlen] at k1
     |cons r0 rs=>
      obtain ⟨p0,xs⟩:=r0;have hl:xs.length=row.length+1:=by simp [rlen,dlen,rrow] at k1;exact k1.1
      cases xs with
      |nil=>simp at hl
      |cons v vs=>
       have rv:Rep X.K (Sf G env σ) H v d:=by
        simp [rrow] at r
        cases r with
        |cons r1 _=>exact r1
       exact ⟨.ref a,ha,a,_,0,.ref p0,rfl,rfl,hx,by simp [atI,L2.ixN],a,p0,_,v::vs,0,v,rfl,rfl,hx,by simp,by simp [atI,L2.ixN],q v H (Same.refl H) rv trivial⟩
   · cases e2)
end
section
variable {X:Cx}
def tMkN (t:TS):TS:=fun E σ H=>t {E with nx:=fun σ' H'=> ∃p a xs,H' p=some (.lst xs)/\E.nx σ' (upd H' p (.own a))} σ H
def tMkR (t:TS):TS:=fun E σ H=>t {E with rt:=fun v H'=> ∃p a xs,H' p=some (.lst xs)/\E.rt v (upd H' p (.own a))} σ H
def jce {st:Stmt} {t:TS} (h:PS X st t):PS X st (tMkN t):=fun pins s σ H E I q=>thn (h pins s σ H _ I q) fun f s1 z=>by
 cases f with
 |next=>
  obtain ⟨σ',H',I',p,a,xs,e,q⟩:=z;exact ⟨σ',_,I'.mark e,q⟩
 |brk=>exact z
 |cont=>exact z
 |ret u=>exact z
def jcd {st:Stmt} {t:TS} (h:PS X st t):PS X st (tMkR t):=fun pins s σ H E I q=>thn (h pins s σ H _ I q) fun f s1 z=>by
 cases f with
 |next=>exact z
 |brk=>exact z
 |cont=>exact z
 |ret u=>
  obtain ⟨v,σ',H',I',r,p,a,xs,e,q⟩:=z;exact ⟨v,σ',_,I'.mark e,r,q⟩
def Xr (i j:Nat) (n:Int):Sl->Res OutO:=fun env=>must (j<env.length) (ownN i env>>=fun ds=>match ds.getLast? with
 |some (.tup row)=>if n<row.length then .ok (.rt .non ((env.set i (.own (.nst ds.dropLast))).set j .un)) else match ds.dropLast.getLast? with
  |some (.tup row')=>must (row'.length<aae/\D.imms row=true) (.ok (.nx ((env.set i (.own (.nst (ds.dropLast.dropLast++[.tup (row'++[.tup row])])))).set j .un)))
  |_=> .stuck
 |_=> .stuck)
def UP (i j:Nat) {n:Int} {x y:Str} {b:Expr} {rest:List Stmt} {g:Sl->Res OutO} {w1 w2:Nat} {pos0 p p1 p2 p3 p4 p5 p6 p7 p8 p9 q0 q1 q2 q3 q4 q5 q6 q7 q8 q9:Pos} (hNd:X.N.Nodup) (hb:PE X b (tC (.int (-1)))) (h4:DSsO X i rest g) (hgl:Gl X "len") (hml:X.mg "len" =none) (hgt:Gl X "tuple") (hmt:X.mg "tuple" =none) (hij:i≠j:=by decide)
   (hN:X.N[i]?=some x:=by rfl) (hv:Vis X.env.scope x:=by first|exact aa6 rfl|exact aaI (aa6 rfl)|exact aaI (aaI rfl))
   (hd:Zu x:=by decide) (hcd:Zt x:=by decide)
   (hj:X.N[j]?=some y:=by rfl) (hx:Loc X.env.scope y:=by first|exact aa6 rfl|exact aaI rfl) (hf:Vy X y:=by first|exact .inl rfl|exact .inr rfl|assumption) (hvy:Vis X.env.scope y:=by first|exact aa6 rfl|exact aaI (aa6 rfl)|exact aaI (aaI rfl))
   (hdy:Zu y:=by decide) (hcdy:Zt y:=by decide) (hs0:Jr b:=by intro _ _;rfl)
   (hbase0:aa2 (.Name x p) "pop" X.env (eval (.Name x p) X.env)=eval (.Name x p) X.env:=by rfl) (hline0:(p1.endLine==p2.line)=true:=by rfl)
   (hsa:swapsWithSole [.Name y p3] (.Call (.Attribute (.Name x p) "pop" p1) [] [] p2) p4.line X.env=pure false:=by rfl) (hwa:swappedStores [.Name y p3] (.Call (.Attribute (.Name x p) "pop" p1) [] [] p2) X.env=pure none:=by rfl)
   (h1a:(abE [.Name y p3] X.env).map (·.2)=[assign (.Name y p3) X.env]:=by rfl)
   (hbase:aa2 (.Subscript (.Name x q0) b q1) "append" X.env (eval (.Subscript (.Name x q0) b q1) X.env)=eval (.Subscript (.Name x q0) b q1) X.env:=by rfl)
   (hfew:((aa1 q3 (aac [.Call (.Name "tuple" q4) [.Name y q5] [] q6] X.env)).all (fun x=>!x.1)&&(abQ q3 (abi [] X.env)).all (fun x=>x.1.isSome)
     &&decide ([Expr.Call (.Name "tuple" q4) [.Name y q5] [] q6].length+([]:List abG).length+(if ([]:List abG).isEmpty then 0 else 1)<30))=true:=by exact zW rfl rfl)
   (hline:(q2.endLine==q3.line)=true:=by rfl)
   (hsw:abA (.Call (.Attribute (.Subscript (.Name x q0) b q1) "append" q2) [.Call (.Name "tuple" q4) [.Name y q5] [] q6] [] q3) none q7.line X.env=pure false:=by rfl):
   DSsO X i (.Assign [.Name y p3] (.Call (.Attribute (.Name x p) "pop" p1) [] [] p2) p4:: .If (.Compare (.Call (.Name "len" p5) [.Name y p6] [] p7) [.Gt] [.Constant (.int n) w1 p8] p9) [.Return (some (.Constant .none w2 q8)) q9] [] pos0::
     .Expr (.Call (.Attribute (.Subscript (.Name x q0) b q1) "append" q2) [.Call (.Name "tuple" q4) [.Name y q5] [] q6] [] q3) q7::rest) (seqJ (Xr i j n) g):=by
 with_unfolding_all exact (
  PSs.imp (zK (uz (jcm abg PySem.F.slot_list_pop PySem.F.type_list_pop jaL (qS hN hv hd hcd) hbase0 hline0) (VJ hNd hj hx hf) hsa hwa h1a)
   (zK (jcd (Xo (jcc (jdF (wM call_len_seq hgl hml aaL (j5 (qS hj hvy hdy hcdy) zn (by exact jj rfl)) (by decide) (by decide) (by exact jj rfl) (by exact jK rfl)) Wv)) (zK (Q0 uB) Zz) Zz))
   (zK (jce (Je (jaz abg abq abB Ud (VL XQ (qS hN hv hd hcd) hb hs0) (j5 (Ww zN hgt hmt abb (j5 (qS hj hvy hdy hcdy) zn (by exact jj rfl)) (by decide) (by decide) (by exact jj rfl) (by exact jK rfl)) zn (by exact jj rfl)) hbase hfew hline (by exact jj rfl) (by exact jK rfl)) hsw)) h4)))
   fun E σ H=>by
   rintro ⟨G,H0,env,o,a,k,ha,ef,q⟩;obtain ⟨o1,ef,eo⟩:=jc ef;obtain ⟨hjl,ef⟩:=jy ef;rw [←k.len] at hjl;obtain ⟨ds,e1,e2⟩:=jc ef;have hi:=yI e1
   split at e2
   · rename_i row hl;rw [XM hl] at hi;obtain ⟨a',rs,ha',hx,k1,r⟩:=J8 k hi;cases (show some (some (V.ref a))=some (some (V.ref a')) from ha.symm.trans ha');obtain ⟨rs0,p,xs,rfl,k2,r1,r2⟩:=J3 k1 r;refine ⟨.ref a,ha,⟨a,_,a,rfl,hx,.inl rfl⟩,a,p,rs0,xs,rfl,rfl,hx,fun hpa hp=>?_⟩;have ow:qQ env σ a:=⟨i,_,hi,ha⟩
     have ha1:At (σ.set j (some (.ref p))) i a:=by show (σ.set j _)[i]?=_;rw [abP (ab8 hij)];exact ha
     have hj1:(σ.set j (some (V.ref p)))[j]?=some (some (.ref p)):=aa7 hjl;refine ⟨.ref p,hj1,p,xs,rfl,.inl (.of jo),xs.length,n,rfl,rfl,_,rfl,?_⟩;rw [r2.length]
     by_cases hn:n<row.length
     · rw [if_pos hn] at e2;cases e2;cases eo;rw [if_pos (by simpa using hn)];refine ⟨p,a,xs,jo,?_⟩
       have all: ∀c o,c≠a->H c=some o->upd (upd (upd H a (.nst rs0)) p (.lst xs)) p (.own a) c=some o:=fun c o hc ec=>by
         rw [Vd]
         by_cases hcp:c=p
         · subst hcp;rw [jo,←hp];exact ec
         · rw [jr hcp,jr hc];exact ec
       have st:Stay (Sf G env σ) H (upd (upd (upd H a (.nst rs0)) p (.lst xs)) p (.own a)):=fun c o ec m=>all c o (by
         rintro rfl;rw [hx] at ec;cases ec
         exact (m trivial).1 ow) ec
       have W:=k.anew hi ha all (.nst (by rw [Vd,jr (ab8 hpa),jo]) k2 rfl (r1.stay st fun _ z=>z));exact q .non _ _ W.1.unset ha1 (W.2.trans .unset) .non
     · rw [if_neg hn] at e2;rw [if_neg (by simpa using hn)]
       split at e2
       · rename_i row' hl';obtain ⟨⟨hz,hm⟩,e3⟩:=jy e2;cases e3;rw [XM hl'] at k2 r1;obtain ⟨rs1,p',xs',rfl,k3,r3,r4⟩:=J3 k2 r1;have hxa:upd (upd H a (.nst (rs1++[(p',xs')]))) p (.lst xs) a=some (.nst (rs1++[(p',xs')])):=by rw [jr (ab8 hpa),jo]
         refine ⟨.ref a,ha1,a,_,-1,.ref p',rfl,rfl,hxa,Yt,⟨a,_,p',rfl,hxa,.inr ⟨xs',by simp⟩⟩,.ref p,hj1,p,xs,rfl,.inl ⟨.of jo,fun t ht=>?_⟩⟩;have hta:t≠a:=by rintro rfl;rw [hxa] at ht;cases ht
         have htp:t≠p:=by rintro rfl;rw [jo] at ht;cases ht
         have ft:H t=none:=by rw [jr htp,jr hta] at ht;exact ht
         refine ⟨a,p',rs1,xs',.ref t,rfl,rfl,by rw [jr (ab8 hta)];exact hxa,by rw [r4.length];exact hz,p,a,xs,by rw [jr hpa,jr (ab8 htp),jo],?_⟩;generalize hH4:upd (upd (upd (upd (upd H a (.nst (rs1++[(p',xs')]))) p (.lst xs)) t (.tup xs)) a (.nst (rs1++[(p',xs'++[.ref t])]))) p (.own a)=H4
         have all: ∀c o,c≠a->H c=some o->H4 c=some o:=fun c o hc ec=>by
           subst hH4
           by_cases hcp:c=p
           · subst hcp;rw [jo,←hp];exact ec
           · rw [jr hcp,jr hc,jr (jM ec ft),jr hcp,jr hc];exact ec
         have st:Stay (Sf G env σ) H H4:=fun c o ec m=>all c o (by
           rintro rfl;rw [hx] at ec;cases ec
           exact (m trivial).1 ow) ec
         have h4a:H4 a=some (.nst (rs1++[(p',xs'++[.ref t])])):=by subst hH4;rw [jr (ab8 hpa),jo]
         have h4t:H4 t=some (.tup xs):=by subst hH4;rw [jr htp,jr hta,jo]
         have W:=k.anew hi ha all (Zm h4a k3 (r3.stay st fun _ z=>z) ((r4.stay st fun _ z=>z).append (.cons (.tup h4t (r2.stay st fun _ z=>z)) .nil)));exact ⟨G,H0,_,o,a,W.1.unset,ha1,eo,zS (W.2.trans .unset) q⟩
       · cases e2
   · cases e2)
end
structure AvF (P:aaB) (w:World) (K:aaa) (mg:Yq) (base:Heap) (k:Nat) (x:Str) (ps:List Str) (n:Nat) (F:FO):Prop where
 ex: ∃f fd,FnOk P w K mg base CX0 k f fd ps (spJ K n F)/\mg x=some (.ref f)/\aaN K (.ref f)=true/\Binds K fd ps []
def AvF.mono {P:aaB} {w:World} {K:aaa} {mg:Yq} {base:Heap} {j k:Nat} {x:Str} {ps:List Str} {n:Nat} {F:FO} (h:AvF P w K mg base j x ps n F) (hj:j<=k):AvF P w K mg base k x ps n F:=
 let ⟨f,fd,a,b⟩:=h.ex
 ⟨f,fd,a.mono hj,b⟩
def Zj (i n:Nat) (F:FO) (g:TK):FJ:=fun env=>match env[i]? with
 |some (.own d0)=>g env>>=fun ds=>must (ds.length=n) (F d0 ds>>=fun r=> .ok (r.1,env.set i (.own r.2)))
 |_=> .stuck
def AvF.call {X:Cx} {k n:Nat} {x y:Str} {ps:List Str} {F:FO} {e:Expr} {es:List Expr} {pos p p2:Pos} {g:TK} (i:Nat) (A:AvF X.prog X.w X.K X.mg X.base k y ps n F) (hr:Room k X.A) (ha:DA X .s (e::es) g) (hN:X.N[i]?=some x:=by rfl) (hv:Vis X.env.scope x:=by first|exact aa6 rfl|exact aaI (aa6 rfl)|exact aaI (aaI rfl))
  (hd:Zu x:=by decide) (hcd:Zt x:=by decide) (hg:Gl X y:=by rfl) (hdb:Zu y:=by decide)
  (he:aac (.Name x p2::e::es) X.env=(false,eval (.Name x p2) X.env)::aac (e::es) X.env:=by exact jj rfl) (hpl:(aa1 pos (aac (e::es) X.env)).any (·.1)=false:=by exact jK rfl):
  DEJ X (.Call (.Name y p) (.Name x p2::e::es) [] pos) (Zj i n F g):=by
 obtain ⟨f,fd,h1,h2,h3,h4⟩:=A.ex
 with_unfolding_all exact (
 PE.imp (Xs h1 hr hg h2 h3 h4 .nil VN (j5 (qS hN hv hd hcd) ha he) hdb he hpl) fun σ H Q=>by
  rintro ⟨G,H0,env,d,env',k,ef,q⟩;unfold Zj at ef
  split at ef
  · rename_i d0 hi;obtain ⟨ds,e2,ef⟩:=jc ef;obtain ⟨hn,ef⟩:=jy ef;obtain ⟨a,h1',_,_⟩:=k.own i _ hi;refine ⟨_,h1',G,H0,env,ds,k,e2,fun ws H2 s2 r2=>?_⟩;show spJ X.K n F (.ref a::(ws++[])) H2 Q (fun _ _ _=>False);rw [aaV];exact Km k s2 hi h1' r2 hn ef q
  · cases ef)
def jda {P:aaB} {w:World} {K:aaa} {mg:Yq} {base:Heap} {x:Str} {st:Stmt} {N ps:List Str} {k n:Nat} {g:Sl->Res OutO} (d:Dx K mg x st ps) (S:FnScope N ps (jg st)) (hn:ps.length=n+1) (hN:n+1<=N.length)
  (hb: ∀(f:Addr) (cdv:Value) (A:aaZ) (outer:List Env) (s:aad) (H:Hp) (E:XK),Room k (A.deeper (ab7 x (jg st) s.heap.objs.size f cdv))->DSsO (cxOf CX0 P w K mg base N x (jg st) f cdv A outer s H E).nox 0 (j8 st) g):
  AvF P w K mg base (k+1) x ps n (runJ N.length n g):=by
 obtain ⟨f,fd,F,m,B⟩:=d;exact ⟨f,fd,UD F S hn hN (hb f),m,F.kp,B⟩
def jbx {P:aaB} {w:World} {K:aaa} {mg:Yq} {base:Heap} {x:Str} {st:Stmt} {N ps:List Str} {k:Nat} (fr:Bool) {g:TL} (d:Dx K mg x st ps) (S:FnScope N ps (jg st))
  (hb: ∀(f:Addr) (cdv:Value) (A:aaZ) (outer:List Env) (s:aad) (H:Hp) (E:XK),Room k (A.deeper (ab7 x (jg st) s.heap.objs.size f cdv))->DSsW (cxOf (CX1 P w) P w K mg base N x (jg st) f cdv A outer s H E) (j8 st) g):
  AvX P w K mg base (k+1) x ps fr (runX fr N.length g):=by
 obtain ⟨f,fd,F,m,B⟩:=d;exact jby fr F m S B (hb f)
def jb8:R2:=fun x y H Q=> ∃z k,x= .str z/\y= .int k/\(z.length<=16/\ -(2^63)<=k/\k<=1048576)/\Q (.str (Txt.mul z k)) H
def xw {X:Cx}:OpR X (abH .Mult) jb8:=by
 rintro pins s σ H x y v u Q I rx ry ⟨z,k,rfl,rfl,⟨h1,h2,h3⟩,q⟩;obtain ⟨t,rfl⟩:=rx;obtain ⟨t',rfl⟩:=ry;exact SB.mul (mulOk_of 16 1048576 h1 h3 h2 (by decide) (by decide)) fun t1 k1=>⟨.str _,H,I.tok k1,⟨t1,rfl⟩,q⟩
def mulS:D->D->Res D
 | .str z,.int k=>must ((z.length<=16/\ -(2^63)<=k/\k<=1048576)/\(Txt.mul z k).length<=aae) (.ok (.str (Txt.mul z k)))
 |_,_=> .stuck
def xy {K:aaa}:OpS K jb8 mulS:=by
 intro x y H a b d Q ra rb e q;unfold mulS at e
 split at e
 · obtain ⟨⟨h1,h2⟩,e2⟩:=jy e;cases e2;cases ra.strE.1;cases rb.intE;exact ⟨_,_,rfl,rfl,h1,q _ (jeq _ h2)⟩
 · cases e
section
variable {f f1 f2:TN} {fa:TK} {t t1 t2:TM} {g ga gb:TL} {env env':Sl} {d x y z:D} {ds:List D} {b:Bool} {i:Nat}
def QY (h:env[i]?=some (.shr d)):rdS i env= .ok d:=by unfold rdS;rw [h]
def jdx (h:env[i]?=some (.shr d)):rdB i env= .ok d:=by unfold rdB;rw [h]
def wC (h:env[i]?=some (.own d)):rdB i env= .ok d:=by unfold rdB;rw [h]
def xB {T:String} (h:f env= .ok x) (h2:isiD T x= .ok d):isiF T f env= .ok d:=by rw [ZY,h];exact h2
def VQ (h:env[i]?=some (.own (.lst ds))):ownL i env= .ok ds:=by unfold ownL;rw [h]
def jcV {j:Nat}:g2 (gN i) (gN j) (.tup [x,y]) env= .ok ((env.set i (.shr x)).set j (.shr y)):=rfl
def u0 {tt:TH} (h:f env= .ok d) (h2:tt d env= .ok env'):asgO f tt env= .ok (.nx env'):=by unfold asgO;rw [h,j9,h2];rfl
def kJ (h:t1 env= .ok false):andB t1 t2 env= .ok false:=by rw [XY,h];rfl
def Wc (h:t1 env= .ok true) (h2:t2 env= .ok b):andB t1 t2 env= .ok b:=by rw [XY,h];exact h2
def or_t (h:t1 env= .ok true):orB t1 t2 env= .ok true:=by rw [WV,h];rfl
def or_f (h:t1 env= .ok false) (h2:t2 env= .ok b):orB t1 t2 env= .ok b:=by rw [WV,h];exact h2
def jdK {α:Type} {c:Bool} {a b r:α} (hc:c=true) (h:a=r):(if c=true then a else b)=r:=(if_pos hc).trans h
def jdL {α:Type} {c:Bool} {a b r:α} (hc:c=false) (h:b=r):(if c=true then a else b)=r:=(if_neg (by rw [hc];decide)).trans h
def eqR_int' {a b:Int}:eqR (.int a) (.int b)= .ok (.bl (a==b)):=yt
def YL {a b:Int}:neR (.int a) (.int b)= .ok (.bl (!(a==b))):=by
 unfold neR;rw [jm (show EqC (.int a) (.int b) from .inl ⟨rfl,rfl,by simp [D.dep]⟩)];simp [eqD]
def zp {c n:Str} {fo:TN} (h:fo env= .ok x) (h2:fldD c n x= .ok d):fldF c n fo env= .ok d:=by unfold fldF;rw [h];exact h2
def Vg (h:f1 env= .ok (.bl true)) (h2:f2 env= .ok d):toB f1 f2 true env= .ok d:=by rw [uO,h];exact h2
def Ui {c:Str} {n:Nat} {F:FO} {g:TK} (h1:g env= .ok ds) (h2:ds.length=n) (h3:F (.obj c [] []) ds= .ok (.non,d)):Uj c n F g env= .ok d:=by
 unfold Uj;rw [h1];refine (jm (c:=ds.length=n) h2).trans ?_;rw [h3];rfl
def Vt {ks:List Key} {es:List D}:yD (.dic ks es)= .own (.dic ks es):=rfl
def Vp:yD (.lst ds)= .own (.lst ds):=rfl
def Vs {ks:List (List Key)} {es:List D}:yD (.dit ks es)= .own (.dit ks es):=rfl
def Vo:yD .non= .shr .non:=rfl
def kZ:yD (.bl b)= .shr (.bl b):=rfl
def Vq {j:Int}:yD (.int j)= .shr (.int j):=rfl
def Vn {j:Str}:yD (.str j)= .shr (.str j):=rfl
def Vm:yD (.tup ds)= .shr (.tup ds):=rfl
end
section
variable {f f1 f2:TN} {fa:TK} {t t1 t2:TM} {g ga gb:TL} {env env':Sl} {d x y z:D} {ds:List D} {b:Bool} {i:Nat} {c:Str}
def Kl {o:Out} (h:g env= .ok o):yw g env= .ok o:=by unfold yw;rw [h];rfl
def jb6 {n:Nat} {g:TL} {ds:List D} {d:D} (h:g (j4 n ds)= .ok (.rt false d)):runX false n g ds= .ok d:=by unfold runX;rw [h];simp
def Yr {fr:Bool} {n:Nat} {g:TL} {ds:List D} (h:g (j4 n ds)= .exc c):runX fr n g ds= .exc c:=by unfold runX;rw [h]
end
section
variable {f f1 f2:FJ} {g0:TN} {fa:TK} {t:Sl->Res (Bool×Sl)} {t0:TM} {g ga gb:Sl->Res OutO} {env env' env1 env2:Sl} {d d1 d2 o:D} {ds vs:List D} {ns:List Str} {b:Bool} {i j:Nat} {c m:Str} {oo:OutO}
def w9 (h:g0 env= .ok d):stE g0 env= .ok (d,env):=by unfold stE;rw [h];rfl
def Wq (h:t0 env= .ok b):stT t0 env= .ok (b,env):=by unfold stT;rw [h];rfl
def u4 (h:f env= .ok (d,env1)):tupJ f env= .ok (.tup [d],env1):=by unfold tupJ;rw [h];rfl
def jbK (h:f1 env= .ok (d1,env1)) (h2:f2 env1= .ok (d2,env2)) (h3:addD d1 d2= .ok d):addJ f1 f2 env= .ok (d,env2):=by unfold addJ;rw [h,j9,h2,j9,h3];rfl
def jdb (h:f env= .ok (.bl b,env1)):asJ f env= .ok (b,env1):=by unfold asJ;rw [h];rfl
def ZL (h:t env= .ok (b,env1)):notJ t env= .ok (!b,env1):=by unfold notJ;rw [h];rfl
def Uv (h:t env= .ok (b,env1)) (h1:(if b=true then ga env1 else gb env1)= .ok oo):iffJ t ga gb env= .ok oo:=by unfold iffJ;rw [h];exact h1
def uL (h:t0 env= .ok b) (h1:(if b=true then ga env else gb env)= .ok oo):ifJ t0 ga gb env= .ok oo:=by unfold ifJ;rw [h];exact h1
def JY (h:f env= .ok (d,env1)):setJ j f env= .ok (.nx (env1.set j (.shr d))):=by unfold setJ;rw [h];rfl
def jaP (h:f env= .ok (d,env1)):lstJ j f env= .ok (.nx (env1.set j (.own (.lst [d])))):=by unfold lstJ;rw [h];rfl
def jbG {ds0:List D} (h0:env[j]?=some (.own (.lst ds0))) (h:f env= .ok (d,env1)) (h1:env1[j]?=some (.own (.lst ds))) (h2:ds.length<aae):appJ j f env= .ok (.nx (env1.set j (.own (.lst (ds++[d]))))):=by
 unfold appJ;rw [VQ h0,j9,h,j9,VQ h1,j9];exact jm h2
def zC (h:f env= .ok (d,env1)):wB f env= .ok (.rt d env1):=by unfold wB;rw [h];rfl
def VR (h:env[i]?=some (.own (.obj c ns vs))):ownJ i c env= .ok (ns,vs):=by unfold ownJ;rw [h];exact jm rfl
def Ko {x y:Int} (h:env[i]?=some (.own (.obj c ns vs))) (h1:g0 env= .ok (.int y)) (h2:getN m ns vs=some (.int x)) (h3:ns.length<1000):KY i c m g0 env= .ok (.nx (env.set i (.own (.obj c (Xm m ns) (Xn m (.int (x+y)) ns vs))))):=by
 unfold KY;rw [VR h,j9,h1,j9];dsimp only;rw [h2];exact jm h3
def Wb {n:Nat} {F:FO} {r d1:D} (h:env[i]?=some (.own (.obj c ns vs))) (hm:ns.contains m=false) (h1:fa env= .ok ds) (h2:ds.length=n) (h3:F (.obj c ns vs) ds= .ok (r,d1)):xh i c m n F fa env= .ok (r,env.set i (.own d1)):=by
 unfold xh;rw [VR h,j9];refine (jm hm).trans ?_;rw [h1,j9];refine (jm h2).trans ?_;rw [h3];rfl
def Zs (h:ga env= .ok (.nx env')) (h2:gb env'= .ok oo):seqJ ga gb env= .ok oo:=by unfold seqJ;rw [h];exact h2
def JZ (h:ga env= .ok (.rt d env')):seqJ ga gb env= .ok (.rt d env'):=by unfold seqJ;rw [h];rfl
def yZ {n:Nat} (h:t env= .ok (false,env1)):wb (n+1) t g env= .ok (.nx env1):=by
 show (t env>>=_)=_;rw [h];rfl
def Wh {n:Nat} (h:t env= .ok (true,env1)) (h2:g env1= .ok (.nx env2)):wb (n+1) t g env=wb n t g env2:=by
 show (t env>>=_)=_;rw [h];show (g env1>>=_)=_;rw [h2];rfl
def Jb {N n:Nat} {d0 d1 r:D} {rest:Sl} (hn:ds.length=n) (h:g (zm N d0 ds)= .ok (.rt r (.own d1::rest))):runJ N n g d0 ds= .ok (r,d1):=by
 unfold runJ;refine (jm hn).trans ?_;rw [h];rfl
def Yo (h:f env= .ok (d,env1)):Zr j f env= .ok (.nx (env1.set j (.shr d))):=by unfold Zr;rw [h];rfl
end
def ut {fo:TN} {fa:TK} {gg:Str->List D->Res D} {env:Sl} {z:Str} {ds:List D} {d:D} (h1:fo env= .ok (.str z)) (h2:fa env= .ok ds) (h3:gg z ds= .ok d):smF fo fa gg env= .ok d:=by
 unfold smF;rw [h1,j9];dsimp only;rw [h2];exact h3
end M
namespace G
open PySem PySem.Spec L2 M
open PyProof.Rows hiding St
def top (i:Nat):Stmt:=PySem.Challenge.pw_endwise_k07_no_text.main.body.getD i (.Pass ⟨0,0,0,0⟩)
abbrev xp:Stmt:=top 36
abbrev xo:Stmt:=top 37
abbrev wq:Stmt:=top 35
abbrev yn:Stmt:=top 39
abbrev qY:Stmt:=Jk (top 33) 0
abbrev zI:Stmt:=Jk (top 33) 4
abbrev zu:Stmt:=Jk (top 33) 5
abbrev qC:Stmt:=Jk (top 33) 2
abbrev qx:Stmt:=Jk (top 33) 3
abbrev y6:Stmt:=top 22
abbrev y9:Stmt:=top 24
abbrev J1:Stmt:=top 23
abbrev y7:Stmt:=top 25
abbrev qO:Stmt:=Jk (top 33) 1
abbrev Zv:Stmt:=top 28
abbrev wK:Stmt:=top 27
abbrev y8:Stmt:=top 26
abbrev Vz:Stmt:=top 32
abbrev yl:Stmt:=top 42
abbrev yp:Stmt:=top 43
abbrev wL:Stmt:=top 44
abbrev Ja:Stmt:=top 45
abbrev xn:Stmt:=top 46
abbrev xq:Stmt:=top 47
abbrev ym:Stmt:=top 40
abbrev yo:Stmt:=top 38
abbrev wp:Stmt:=top 41
abbrev Zw:Stmt:=top 48
def JD:Sl->Res Out:=
 (retO (two (two (two (two (two (rdS 0) (cI 29) addD) (two (cI 7) (cI 61) powI) mulI) (two (cI 11) (cI 63) powI) mulI) (two (cI 13) (cI 9) powI) mulI) (two (two (cI 10) (cI 60) powI) (two (cI 10) (cI 60) powI) mulI) modI))
def qo:List D->Res D:=runF true 1 (JD)
def xG:Sl->Res Out:=
 (seqO (jF 1 (cS "abcdefghijklmnopqrstuvwxyz")) (seqO (jF 2 (two (cI 1) (two (rdS 0) (cI 8) modI) addD)) (seqO (jF 3 (cS "")) (seqO (forO (rngF (ja (rdS 2) nil1)) (gN 4) (seqO (jF 0 (two (rdS 0) (cI 26) divI)) (jF 3 (two (rdS 3) (two (rdS 1) (two (rdS 0) (cI 26) modI) ixD) addD)))) (seqO (jF 5 (two (two (rdS 0) (cI 26) divI) (rdS 2) modI)) (seqO (setO 6 (lstF nil1)) (seqO (forO (rngF (ja (cI 4) nil1)) (gN 4) (seqO (jF 7 (two (rdS 1) (two (two (smF (rdS 1) (ja (two (rdS 3) (rdS 5) ixD) nil1) vS) (two (cI 7) (rdS 4) mulI) addD) (cI 26) modI) ixD)) (ql 6 (two (two (jH (rdS 3) qP (jJ (rdS 5)) slD) (rdS 7) addD) (jH (rdS 3) (jJ (two (rdS 5) (cI 1) addD)) qP slD) addD)))) (seqO (ifO (asB (two (rdS 2) (cI 8) ltI)) (ql 6 (two (rdS 3) (cS "a") addD)) (ql 6 (jH (rdS 3) qP (jJ (cI 7)) slD))) (retO (rdO 6))))))))))
def zH:List D->Res D:=runF true 8 (xG)
def yh:Sl->Res Out:=
 (seqO (ifO (asB (two (rdS 1) (app (ja (rdS 0) nil1) lenD) ltI)) (retS (two (rdS 0) (rdS 1) ixD)) nxO) (retO (cI 0)))
def qV:List D->Res D:=runF false 2 (yh)
def qD (qG:TJ):Sl->Res Out:=
 (seqO (ifO (notB (asB (isiF "tuple" (rdS 0)))) (retO (chk (two (cS "?") (app (ja (rdS 0) nil1) Zp) addD))) nxO) (seqO (ifO (asB (two (app (ja (rdS 0) nil1) lenD) (cI 1) eqR)) (retS (two (rdS 0) (cI 0) ixD)) nxO) (retO (two (two (two (two (rdS 0) (cI 0) ixD) (cS "(") addD) (smF (cS ",") (ja (W1 false 1 [] (itF (jH (rdS 0) (jJ (cI 1)) qP slD)) (gN 0) yk (jN 1 qG (ja (rdS 0) nil1))) nil1) XN) addD) (cS ")") addD))))
def j7:Nat->List D->Res D
 |0=>fun _=> .stuck
 |n+1=>runF false 1 (qD (j7 n))
def zV:Sl->Res OutO:=
 (seqJ (jae 0 "Reader" "text" (rdS 1)) (jae 0 "Reader" "at" (cI 0)))
def jR:FO:=runJ 2 1 (zV)
def qa:Sl->Res OutO:=
 (seqJ (ifJ (asB (two (jH (fldF "Reader" "text" (rdB 0)) (jJ (fldF "Reader" "at" (rdB 0))) (jJ (two (fldF "Reader" "at" (rdB 0)) (cI 1) addD)) slD) (rdS 1) neR)) (wB (stE (cB false))) nxJ) (seqJ (KY 0 "Reader" "at" (cI 1)) (wB (stE (cB true)))))
def jl:FO:=runJ 2 1 (qa)
def qL:Sl->Res OutO:=
 (seqJ (setJ 2 (stE (fldF "Reader" "at" (rdB 0)))) (seqJ (wb 30000 (stT (andB (asB (two (fldF "Reader" "at" (rdB 0)) (app (ja (fldF "Reader" "text" (rdB 0)) nil1) lenD) ltI)) (asB (two (two (fldF "Reader" "text" (rdB 0)) (fldF "Reader" "at" (rdB 0)) ixD) (rdS 1) inD)))) (KY 0 "Reader" "at" (cI 1))) (wB (stE (jH (fldF "Reader" "text" (rdB 0)) (jJ (rdS 2)) (jJ (fldF "Reader" "at" (rdB 0))) slD)))))
def jv:FO:=runJ 3 1 (qL)
def jL (jW:FO):Sl->Res OutO:=
 (seqJ (zA (setJ 1 (xh 0 "Reader" "run_of" 1 jW (ja (cS "0123456789") nil1)))) (seqJ (ifJX (notB (asB (Z9 (cI 1) (app (ja (rdS 1) nil1) lenD) (cI 3) leI leI))) (yg "NoText") (zA nxJ)) (seqJ (zA (setJ 2 (stE (chk (app (ja (rdS 1) nil1) XS))))) (seqJ (ifJX (asB (two (app (ja (rdS 2) nil1) Zp) (rdS 1) neR)) (yg "NoText") (zA nxJ)) (zA (wB (stE (rdS 2))))))))
def ju:FO:=Jc 3 0 (jL jv)
def jP (jQ:FO) (jB:FO):Sl->Res OutO:=
 (seqJ (zA (iffJ (notJ (asJ (xh 0 "Reader" "takes" 1 jQ (ja (cS "(") nil1)))) (wB (stE (tupF nil1))) nxJ)) (seqJ (lstJ 2 (qm 0 "Reader" "read_term" 1 jB (ja (two (rdS 1) (cI 1) addD) nil1))) (seqJ (qR 30000 (asJ (xh 0 "Reader" "takes" 1 jQ (ja (cS ",") nil1))) (appJ 2 (qm 0 "Reader" "read_term" 1 jB (ja (two (rdS 1) (cI 1) addD) nil1)))) (seqJ (iffY (notJ (asJ (xh 0 "Reader" "takes" 1 jQ (ja (cS ")") nil1)))) (yg "NoText") (zA nxJ)) (zA (wB (stE (chk (app (ja (rdB 2) nil1) JW)))))))))
def jw (jB:FO):FO:=Jc 3 1 (jP jl jB)
def Zb:Sl->Res Out:=
 (retO (toB (isiF "int" (rdS 0)) (notF (isiF "bool" (rdS 0))) true))
def Zk:List D->Res D:=runF true 1 (Zb)
def Zc (Jm:TJ):Sl->Res Out:=
 (retO (toB (jN 1 Jm (ja (rdS 0) nil1)) (Z9 (cI 0) (rdS 0) (cI 999) leI leI) true))
def Jx:List D->Res D:=runF true 1 (Zc Zk)
def xF:Sl->Res Out:=
 (seqO (ifO (orB (notB (asB (isiF "str" (rdS 0)))) (notB (asB (Z9 (cI 1) (app (ja (rdS 0) nil1) lenD) (cI 8) leI leI)))) (retO (cB false)) nxO) (retO (app (ja (W1 false 1 [] (itF (rdS 0)) (gN 0) yk (two (rdS 0) (cS "abcdefghijklmnopqrstuvwxyz") inD)) nil1) allD)))
def yY:List D->Res D:=runF true 1 (xF)
def x3 (Jp:TJ) (Qs:TJ):Sl->Res Out:=
 (seqO (ifO (asB (isiF "tuple" (rdS 0))) (retO (toB (Z9 (cI 1) (app (ja (rdS 0) nil1) lenD) (two (cI 9) (cI 1) addD) leI leI) (jN 1 Qs (ja (two (rdS 0) (cI 0) ixD) nil1)) true)) nxO) (retO (jN 1 Jp (ja (rdS 0) nil1))))
def zi:List D->Res D:=runF true 1 (x3 Jx yY)
def jI (jQ:FO) (qH:FO) (qy:FO) (Jn:TJ) (jW:FO):Sl->Res OutO:=
 (seqJ (ifJX (asB (two (rdS 1) (cI 60) gtI)) (yg "NoText") (zA nxJ)) (seqJ (iffY (asJ (xh 0 "Reader" "takes" 1 jQ (ja (cS "?") nil1))) (wB (qm 0 "Reader" "read_blank" 0 qH noA)) (zA nxJ)) (seqJ (setJ 2 (addJ (KW (tupJ (xh 0 "Reader" "run_of" 1 jW (ja (cS "abcdefghijklmnopqrstuvwxyz") nil1)))) (qm 0 "Reader" "read_places" 1 qy (ja (rdS 1) nil1)))) (seqJ (ifJX (notB (asB (jN 1 Jn (ja (rdS 2) nil1)))) (yg "NoText") (zA nxJ)) (zA (wB (stE (rdS 2))))))))
def je:Nat->FO
 |0=>fun _ _=> .stuck
 |n+1=>Jc 3 1 (jI jl ju (jw (je n)) zi jv)
def Y0:Sl->Res Out:=
 (retO (ifD (asB (isiF "tuple" (rdS 0))) (jH (rdS 0) (jJ (cI 1)) qP slD) (tupF nil1)))
def wo:List D->Res D:=runF true 1 (Y0)
def zM (ZW:TJ):Sl->Res Out:=
 (seqO (setO 1 (lstF nil1)) (seqO (forO (itF (rdS 0)) (gN 2) (Qt 1 (jN 1 ZW (ja (rdS 2) nil1)))) (retO (rdO 1))))
def qs:List D->Res D:=runF true 3 (zM wo)
def x4 (wS:TJ):Sl->Res Out:=
 (seqO (jF 1 (lstF (ja (rdS 0) nil1))) (seqO (jF 2 (cI 0)) (seqO (jF 3 (cI 0)) (seqO (qB 2000 (truF (rdS 1)) (seqO (jF 2 (two (rdS 2) (cI 1) (augI fun i j=>i+j))) (seqO (jF 3 (two (rdS 3) (app (ja (rdS 1) nil1) lenD) (augI fun i j=>i+j))) (seqO (ifO (orB (asB (two (rdS 2) (cI 60) gtI)) (asB (two (rdS 3) (cI 1000) gtI))) (retO (cB true)) nxO) (jF 1 (jN 1 wS (ja (rdS 1) nil1))))))) (retO (cB false))))))
def zj:List D->Res D:=runF true 4 (x4 qs)
def Qq (zd:FO) (jB:FO) (Jo:TJ):Sl->Res Out:=
 (seqO (ifX (notB (asB (isiF "str" (rdS 0)))) (J4 "NoText") (yw nxO)) (seqO (yw (setO 1 (Uj "Reader" 1 zd (ja (rdS 0) nil1)))) (seqO (Zr 2 (qm 1 "Reader" "read_term" 1 jB (ja (cI 1) nil1))) (seqO (ifX (asB (two (fldF "Reader" "at" (rdB 1)) (app (ja (rdS 0) nil1) lenD) ltI)) (J4 "NoText") (yw nxO)) (seqO (ifX (asB (jN 1 Jo (ja (rdS 2) nil1))) (J4 "NoText") (yw nxO)) (yw (retS (rdS 2))))))))
def xf:List D->Res D:=runX false 3 (Qq jR (je 62) zj)
def wR:Sl->Res Out:=
 (seqO (jF 3 (rdS 1)) (seqO (qB 30000 (andB (asB (two (rdS 3) (app (ja (rdS 0) nil1) lenD) ltI)) (asB (two (two (rdS 0) (rdS 3) ixD) (rdS 2) inD))) (jF 3 (two (rdS 3) (cI 1) addD))) (retO (jH (rdS 0) (jJ (rdS 1)) (jJ (rdS 3)) slD))))
def qK:List D->Res D:=runF true 4 (wR)
def qF (wT:TJ):Sl->Res Out:=
 (seqO (ifO (asB (two (jH (rdS 0) (jJ (rdS 1)) (jJ (two (rdS 1) (cI 1) addD)) slD) (cS "?") eqR)) (seqO (jF 3 (jN 3 wT (ja (rdS 0) (ja (two (rdS 1) (cI 1) addD) (ja (cS "0123456789") nil1))))) (seqO (ifO (orB (asB (two (rdS 3) (cS "") eqR)) (orB (asB (two (app (ja (rdS 3) nil1) lenD) (cI 3) gtI)) (andB (asB (two (app (ja (rdS 3) nil1) lenD) (cI 1) gtI)) (asB (two (two (rdS 3) (cI 0) ixD) (cS "0") eqR))))) (retO cN) nxO) (retO (tupF (ja (chk (app (ja (rdS 3) nil1) XS)) (ja (two (two (rdS 1) (cI 1) addD) (app (ja (rdS 3) nil1) lenD) addD) nil1)))))) nxO) (seqO (jF 2 (jN 3 wT (ja (rdS 0) (ja (rdS 1) (ja (cS "abcdefghijklmnopqrstuvwxyz") nil1))))) (seqO (ifO (orB (asB (two (rdS 2) (cS "") eqR)) (asB (two (app (ja (rdS 2) nil1) lenD) (cI 8) gtI))) (retO cN) nxO) (retO (tupF (ja (tupF (ja (rdS 2) nil1)) (ja (two (rdS 1) (app (ja (rdS 2) nil1) lenD) addD) nil1)))))))
def zZ:List D->Res D:=runF true 4 (qF qK)
def qr:Sl->Res OutO:=
 (seqJ (wb 64 (stT (andB (asB (two (lenN 0) (cI 1) gtI)) (asB (two (jH (rdS 2) (jJ (rdS 1)) (jJ (two (rdS 1) (cI 1) addD)) slD) (cS ")") eqR)))) (seqJ (Xr 0 3 10) (setJ 1 (stE (two (rdS 1) (cI 1) addD))))) (wB (stE (rdS 1))))
def qN:FO:=runJ 4 2 (qr)
def x5 (yr:TJ) (wU:FO):Sl->Res Out:=
 (seqO (setO 1 nst0) (seqO (jF 2 (cI 0)) (seqO (jF 3 (cI 0)) (seqO (qB 1010 (andB (asB (two (rdS 3) (cI 1000) leI)) (asB (two (lenN 1) (cI 60) leI))) (seqO (jF 4 (jN 2 yr (ja (rdS 0) (ja (rdS 2) nil1)))) (seqO (ifO (asB (two (rdS 4) cN isN)) (retO cN) nxO) (seqO (asgO (rdS 4) (g2 (gN 5) (gN 2))) (seqO (jF 3 (two (rdS 3) (cI 1) addD)) (seqO (ifO (andB (asB (isiF "tuple" (rdS 5))) (asB (two (jH (rdS 0) (jJ (rdS 2)) (jJ (two (rdS 2) (cI 1) addD)) slD) (cS "(") eqR))) (seqO (appN 1 (lstF (ja (two (rdS 5) (cI 0) ixD) nil1))) (seqO (jF 2 (two (rdS 2) (cI 1) addD)) ctO)) nxO) (seqO (appP 1 (rdS 5)) (seqO (Zr 2 (Zj 1 2 wU (ja (rdS 2) (ja (rdS 0) nil1)))) (seqO (ifO (orB (asB (two (rdS 2) cN isN)) (asB (two (lenN 1) (cI 1) eqR))) (retO (ifD (orB (asB (two (rdS 2) (app (ja (rdS 0) nil1) lenD) neR)) (asB (two (rdS 3) (cI 1000) gtI))) cN (chk (ixN2 1)))) nxO) (seqO (ifO (asB (two (jH (rdS 0) (jJ (rdS 2)) (jJ (two (rdS 2) (cI 1) addD)) slD) (cS ",") neR)) (retO cN) nxO) (jF 2 (two (rdS 2) (cI 1) addD)))))))))))) (retO cN)))))
def zl:List D->Res D:=runF true 6 (x5 zZ qN)
def JC:Sl->Res Out:=
 (seqO (ifO (asB (isyF [("NoText",false)] (rdS 0))) (retO (cB true)) nxO) (retO (isyF [("NoText",false)] (rdS 0))))
def zG:List D->Res D:=runF true 1 (JC)
def zh (UE:TJ) (Jq:TJ) (xH:TJ):Sl->Res Out:=
 (seqO (jF 1 cN) (seqO (jF 2 cN) (seqO (tryO ["NoText"] (jF 2 (yV 1 UE (ja (rdS 0) nil1))) 3 (jF 1 (rdS 3))) (seqO (jF 4 cN) (seqO (ifO (asB (isiF "str" (rdS 0))) (jF 4 (jN 1 Jq (ja (rdS 0) nil1))) nxO) (seqO (ifO (asB (two (rdS 4) cN isN)) (retO (toB (isyF [("NoText",true)] (rdS 1)) (toB (isxF ["NoText"] (rdS 1)) (notF (jN 1 xH (ja (rdS 1) nil1))) true) true)) nxO) (retO (toB (two (rdS 1) cN isN) (two (rdS 2) (rdS 4) eqR) true))))))))
def qe:List D->Res D:=runF true 5 (zh xf zl zG)
def zw (zb:TJ):Sl->Res Out:=
 (seqO (ifO (asB (two (rdS 0) (cI 1) eqR)) (retO (tupF (ja (rdS 1) nil1))) nxO) (seqO (jF 2 (app (ja (cI 9) (ja (two (rdS 0) (cI 1) subI) nil1)) minD)) (seqO (setO 3 (lstF nil1)) (seqO (forO (rngF (ja (rdS 2) nil1)) (gN 4) (ql 3 (jN 2 zb (ja (two (two (two (rdS 0) (cI 1) subI) (rdS 4) addD) (rdS 2) divI) (ja (rdS 1) nil1))))) (retO (chk (app (ja (two (lstF (ja (rdS 1) nil1)) (rdB 3) addD) nil1) JW)))))))
def j6:Nat->List D->Res D
 |0=>fun _=> .stuck
 |n+1=>runF true 5 (zw (j6 n))
def qE (zc:TJ):Sl->Res Out:=
 (seqO (jF 3 (two (rdS 0) (cI 6) modI)) (seqO (jF 0 (two (rdS 0) (cI 6) divI)) (seqO (ifO (orB (asB (two (rdS 3) (cI 0) eqR)) (andB (asB (two (rdS 2) (cI 1) eqR)) (asB (two (rdS 3) (cI 4) ltI)))) (retO (tupF (ja (two (lstF (ja (cI 0) (ja (cI 1) (ja (cI 2) (ja (two (two (rdS 0) (cI 4) divI) (cI 1000) modI) nil1))))) (two (rdS 0) (cI 4) modI) ixD) (ja (two (rdS 0) (cI 4000) divI) nil1)))) nxO) (seqO (ifO (orB (asB (two (rdS 3) (cI 1) eqR)) (asB (two (rdS 2) (cI 1) eqR))) (retO (tupF (ja (tupF (ja (two (rdS 1) (two (rdS 0) (cI 5) modI) ixD) nil1)) (ja (two (rdS 0) (cI 5) divI) nil1)))) nxO) (seqO (jF 4 (two (rdS 1) (two (rdS 0) (cI 5) modI) ixD)) (seqO (jF 5 (two (cI 1) (two (two (rdS 0) (cI 5) divI) (cI 3) modI) addD)) (seqO (jF 0 (two (rdS 0) (cI 15) divI)) (seqO (setO 6 (lstF nil1)) (seqO (forO (rngF (ja (rdS 5) nil1)) (gN 7) (seqO (asgO (jN 3 zc (ja (rdS 0) (ja (rdS 1) (ja (two (rdS 2) (cI 1) subI) nil1)))) (g2 (gN 8) (gN 0))) (ql 6 (rdS 8)))) (retO (tupF (ja (chk (app (ja (two (lstF (ja (rdS 4) nil1)) (rdB 6) addD) nil1) JW)) (ja (rdS 0) nil1)))))))))))))
def j0:Nat->List D->Res D
 |0=>fun _=> .stuck
 |n+1=>runF true 9 (qE (j0 n))
def qv:Sl->Res Out:=
 (seqO (jF 2 (cS "abz?(),, 0123459AZ-_.;\n")) (seqO (jF 3 (two (rdS 1) (cI 9) modI)) (seqO (jF 1 (two (rdS 1) (cI 9) divI)) (seqO (jF 4 (two (rdS 2) (two (rdS 1) (app (ja (rdS 2) nil1) lenD) modI) ixD)) (seqO (jF 5 (two (two (rdS 1) (cI 32) divI) (app (ja (rdS 0) nil1) lenD) modI)) (seqO (ifO (asB (two (rdS 3) (cI 2) ltI)) (retO (two (two (jH (rdS 0) qP (jJ (rdS 5)) slD) (rdS 4) addD) (jH (rdS 0) (jJ (rdS 5)) qP slD) addD)) nxO) (seqO (ifO (asB (two (rdS 3) (cI 2) eqR)) (retO (two (jH (rdS 0) qP (jJ (rdS 5)) slD) (jH (rdS 0) (jJ (two (rdS 5) (cI 1) addD)) qP slD) addD)) nxO) (seqO (ifO (asB (two (rdS 3) (cI 3) eqR)) (retO (two (two (jH (rdS 0) qP (jJ (rdS 5)) slD) (rdS 4) addD) (jH (rdS 0) (jJ (two (rdS 5) (cI 1) addD)) qP slD) addD)) nxO) (seqO (ifO (asB (two (rdS 3) (cI 4) eqR)) (retO (two (jH (rdS 0) qP (jJ (rdS 5)) slD) (jH (rdS 0) (jJ (two (two (rdS 1) (cI 37) divI) (two (rdS 5) (cI 1) addD) modI)) qP slD) addD)) nxO) (seqO (ifO (asB (two (rdS 3) (cI 5) eqR)) (retS (two (lstF (ja cN (ja (cI 0) (ja (cB true) (ja (lstF nil1) (ja (tupF (ja (cS "a") nil1)) (ja (lstF (ja (cS "a") nil1)) (ja cD (ja (tupF (ja (cS "f") (ja (cI 0) nil1))) nil1))))))))) (two (rdS 1) (cI 8) modI) ixD)) nxO) (seqO (ifO (asB (two (rdS 3) (cI 6) eqR)) (retO (two (rdS 0) (two (lstF (ja (cS ",") (ja (cS ")") (ja (cS "(") (ja (cS "()") (ja (cS " ") (ja (cS "a") (ja (cS "?0") nil1)))))))) (two (rdS 1) (cI 7) modI) ixD) addD)) nxO) (retS (rdS 0)))))))))))))
def qw:List D->Res D:=runF false 6 (qv)
def vN (zD:TJ) (xI:TJ) (wv:TJ) (qG:TJ) (wf:TJ) (zb:TJ) (zc:TJ) (wu:TJ):Sl->Res Out:=
 (seqO (jF 1 (jN 1 zD (ja (jN 2 wv (ja (rdS 0) (ja (cI 0) nil1))) nil1))) (seqO (jF 2 (jN 1 xI (ja (rdS 1) nil1))) (seqO (forO (itF (rdS 0)) (gN 3) (seqO (jF 8 (jN 1 qG (ja (two (jN 3 zc (ja (jN 1 zD (ja (rdS 3) nil1)) (ja (rdS 2) (ja (cI 3) nil1)))) (cI 0) ixD) nil1))) (ifO (notB (asB (jN 1 wf (ja (jN 2 wu (ja (rdS 8) (ja (jN 1 zD (ja (two (rdS 3) (cI 1) addD) nil1)) nil1))) nil1)))) (retO (cB false)) nxO))) (seqO (jF 4 (two (cI 57) (two (rdS 1) (cI 5) modI) addD)) (seqO (jF 5 (two (rdS 2) (cI 0) ixD)) (seqO (setO 6 (lstF (ja (two (two (two (two (rdS 5) (cS "(") addD) (rdS 4) mulS) (cS "?7") addD) (two (cS ")") (rdS 4) mulS) addD) (ja (two (two (two (two (rdS 5) (cS "(") addD) (rdS 4) mulS) (rdS 5) addD) (two (cS ")") (two (rdS 4) (cI 1) subI) mulS) addD) nil1)))) (seqO (ql 6 (jN 1 qG (ja (jN 2 zb (ja (two (cI 997) (two (two (rdS 1) (cI 5) divI) (cI 7) modI) addD) (ja (two (rdS 2) (cI 1) ixD) nil1))) nil1))) (seqO (jF 7 (two (cI 100) (two (two (rdS 1) (cI 7) divI) (cI 5900) modI) addD)) (seqO (ql 6 (two (two (two (cS "f(") (rdS 7) mulS) (cS "a") addD) (two (cS ")") (rdS 7) mulS) addD)) (seqO (ql 6 (two (jH (two (rdS 2) (cI 2) ixD) qP (jJ (cI 2)) slD) (two (cS "(") (rdS 7) mulS) addD)) (seqO (ql 6 (two (cS "f(") (rdS 7) mulS)) (seqO (ql 6 (two (two (cS "f(") (smF (cS ",") (ja (two (lstF (ja (cS "c") nil1)) (two (cI 8) (two (two (rdS 1) (cI 35) divI) (cI 3) modI) addD) repL) nil1) XN) addD) (cS ")") addD)) (seqO (frzO 6 (setO 6 (two (rdS 6) (lstF (ja (cS "") (ja (cS "?") (ja (cS "?00") (ja (cS "?01") (ja (cS "?1000") (ja (cS "?999") (ja (cS "?0?") (ja (cS "f()") (ja (cS "f(,)") (ja (cS "f(a,)") (ja (cS "f(,a)") (ja (cS "f(a") (ja (cS "fa)") nil1)))))))))))))) addD))) (seqO (frzO 6 (setO 6 (two (rdS 6) (lstF (ja (cS "f (a)") (ja (cS "abcdefgh") (ja (cS "abcdefghi") (ja (cS "f(a)(b)") (ja (cS "f(a)b") (ja (cS "?0(a)") (ja (cS "F(a)") (ja (cS "f(a))") (ja (cS "((a))") (ja (cS "f(?)") nil1))))))))))) addD))) (seqO (ql 6 (cS "f(a,?12,g(?0))")) (seqO (frzO 6 (forO (itF (rdS 6)) (gN 8) (ifO (notB (asB (jN 1 wf (ja (rdS 8) nil1)))) (retO (cB false)) nxO))) (retO (cB true))))))))))))))))))
def F_law:List D->Res D:=runF true 9 (vN qo zH qV (j7 100) qe (j6 64) (j0 6) qw)
structure Gm (K:aaa) (T0 TQ TX T4 T7 T5 T8 TZ TW T3 TU TR TV T6:Addr) (mg:Yq):Prop where
 b_isinstance:mg "isinstance" =none
 b_bool:mg "bool" =none
 b_int:mg "int" =none
 b_all:mg "all" =none
 b_len:mg "len" =none
 b_tuple:mg "tuple" =none
 b_str:mg "str" =none
 b_ValueError:mg "ValueError" =none
 b_range:mg "range" =none
 b_min:mg "min" =none
 c_LETTERS: ∃t,mg "LETTERS" =some (.str "abcdefghijklmnopqrstuvwxyz" t)
 c_MOST_LETTERS: ∃t,mg "MOST_LETTERS" =some (.int 8 t)
 c_MOST_PLACES: ∃t,mg "MOST_PLACES" =some (.int 9 t)
 c_MOST_BLANK: ∃t,mg "MOST_BLANK" =some (.int 999 t)
 c_MOST_LEVELS: ∃t,mg "MOST_LEVELS" =some (.int 60 t)
 c_MOST_PARTS: ∃t,mg "MOST_PARTS" =some (.int 1000 t)
 c_FIGURES: ∃t,mg "FIGURES" =some (.str "0123456789" t)
 c_MOST_FIGURES: ∃t,mg "MOST_FIGURES" =some (.int 3 t)
 f_Reader_at:FldN K "Reader" "at"
 f_Reader_text:FldN K "Reader" "text"
 m_NoText:mg "NoText" =some (.ref T0)
 m_NoLine:mg "NoLine" =some (.ref TQ)
 m_NoName:mg "NoName" =some (.ref TX)
 m_TooLong:mg "TooLong" =some (.ref T4)
 m_TooGreat:mg "TooGreat" =some (.ref T7)
 m_TooMany:mg "TooMany" =some (.ref T5)
 m_NoReason:mg "NoReason" =some (.ref T8)
 m_NoPair:mg "NoPair" =some (.ref TZ)
 m_NoHead:mg "NoHead" =some (.ref TW)
 m_NoPaper:mg "NoPaper" =some (.ref T3)
 m_NoStep:mg "NoStep" =some (.ref TU)
 m_NoRule:mg "NoRule" =some (.ref TR)
 m_NoPath:mg "NoPath" =some (.ref TV)
 m_EndError:mg "EndError" =some (.ref T6)
 n_NoText:NmC K "NoText" T0
 q_NoText:ab6 K T0 [.type "ValueError",.type "Exception",.type "BaseException",.type "object"] "ValueError.__new__" =true
 x_EndError: ∀c,[("NoText" :Str)].contains c=true-> ∀C,NmC K c C->PySem.W.exmOne K (.ref C) (.ref T6)=some true
 i_ValueError: ∀c,[("NoText" :Str)].contains c=true-> ∀C,NmC K c C->aaR K (.ref C) (.type "ValueError")=some true
 y_NoText: ∀c b,aaE c [(("NoText" :Str),true)]=some b-> ∀C,NmC K c C->ExcC K C/\aaR K (.ref C) (.ref T0)=some b
 yt_0: ∀c b,aaE c [(("NoText" :Str),false)]=some b-> ∀C,NmC K c C->ExcC K C/\acb K (.ref C) (List.map aaJ [T5,T7,T4,TX,TQ])=some b
 yt_1: ∀c b,aaE c [(("NoText" :Str),false)]=some b-> ∀C,NmC K c C->ExcC K C/\acb K (.ref C) (List.map aaJ [TV,TR,TU,T3,TW,TZ,T8])=some b
def jd5:FnScope ["_law_cell"] ["_law_cell"] (jg xp):=fsc
def jd7:FnScope ["_law_number", "_law_letters", "_law_size", "_law_first", "_law_k", "_law_at", "_law_names_here", "_law_sign"] ["_law_number"] (jg xo):=fsc
def jd2:FnScope ["_law_script", "_law_k"] ["_law_script", "_law_k"] (jg wq):=fsc
def jeb:FnScope ["_law_term_here"] ["_law_term_here"] (jg yn):=fsc
def jdV:FnScope ["self", "text"] ["self", "text"] (jg qY):=fsc
def jd0:FnScope ["self", "sign"] ["self", "sign"] (jg zI):=fsc
def jdZ:FnScope ["self", "signs", "start"] ["self", "signs"] (jg zu):=fsc
def jdW:FnScope ["self", "figures", "blank"] ["self"] (jg qC):=fsc
def jdX:FnScope ["self", "level", "found"] ["self", "level"] (jg qx):=fsc
def jek:FnScope ["thing"] ["thing"] (jg y6):=fsc
def jeg:FnScope ["thing"] ["thing"] (jg y9):=fsc
def jei:FnScope ["thing"] ["thing"] (jg J1):=fsc
def jej:FnScope ["thing"] ["thing"] (jg y7):=fsc
def jdY:FnScope ["self", "level", "term"] ["self", "level"] (jg qO):=fsc
def jeo:FnScope ["term"] ["term"] (jg Zv):=fsc
def jem:FnScope ["row", "below", "thing"] ["row"] (jg wK):=fsc
def jeh:FnScope ["thing", "row", "depth", "counted"] ["thing"] (jg y8):=fsc
def jep:FnScope ["text", "reader", "term"] ["text"] (jg Vz):=fsc
def jed:FnScope ["_law_text_here", "_law_at", "_law_signs", "_law_end"] ["_law_text_here", "_law_at", "_law_signs"] (jg yl):=fsc
def jd6:FnScope ["_law_text_here", "_law_at", "_law_name", "_law_figures"] ["_law_text_here", "_law_at"] (jg yp):=fsc
def jd3:FnScope ["_law_rows", "_law_at", "_law_text_here", "_law_row"] ["_law_rows", "_law_at", "_law_text_here"] (jg wL):=fsc
def jd4:FnScope ["_law_text_here", "_law_rows", "_law_at", "_law_parts", "_law_leaf_here", "_law_made"] ["_law_text_here"] (jg Ja):=fsc
def jd8:FnScope ["_law_error"] ["_law_error"] (jg xn):=fsc
def jd1:FnScope ["_law_text_here", "_law_error", "_law_found", "e", "_law_due_here"] ["_law_text_here"] (jg xq):=fsc
def jec:FnScope ["_law_many", "_law_name", "_law_shares", "_law_places", "_law_k"] ["_law_many", "_law_name"] (jg ym):=fsc
def jea:FnScope ["_law_number", "_law_names_here", "_law_room", "_law_kind", "_law_name", "_law_count", "_law_places", "_law_k", "_law_place"] ["_law_number", "_law_names_here", "_law_room"] (jg yo):=fsc
def jd9:FnScope ["_law_text_here", "_law_number", "_law_some", "_law_way", "_law_sign", "_law_at"] ["_law_text_here", "_law_number"] (jg wp):=fsc
def jel:FnScope ["_law_script", "_law_first", "_law_names_here", "_law_cell", "_law_high", "_law_name", "_law_some", "_law_deep", "_law_text_here"] ["_law_script"] (jg Zw):=fsc
section
variable (P:aaB) (w:World) (K:aaa) (mg:Yq) (base:Heap) (k:Nat)
abbrev xR (f:TJ):Prop:=Av P w K mg base k "_law_great" ["_law_cell"] true f
abbrev xQ (f:TJ):Prop:=Av P w K mg base k "_law_names" ["_law_number"] true f
abbrev wA (f:TJ):Prop:=Av P w K mg base k "_law_cell_at" ["_law_script", "_law_k"] false f
abbrev wZ (f:TJ):Prop:=Av P w K mg base k "_law_text" ["_law_term_here"] false f
abbrev zf (f:FO):Prop:=AvK P w K mg base k "Reader" 1 f
abbrev qX (f:FO):Prop:=AvJ P w K mg base k "Reader" "takes" 1 f
abbrev qM (f:FO):Prop:=AvJ P w K mg base k "Reader" "run_of" 1 f
abbrev qJ (f:FO):Prop:=AvJX P w K mg base k "Reader" "read_blank" 0 f
abbrev qz (f:FO):Prop:=AvJX P w K mg base k "Reader" "read_places" 1 f
abbrev Js (f:TJ):Prop:=Av P w K mg base k "is_whole" ["thing"] true f
abbrev Jv (f:TJ):Prop:=Av P w K mg base k "is_blank" ["thing"] true f
abbrev QD (f:TJ):Prop:=Av P w K mg base k "is_name" ["thing"] true f
abbrev Jt (f:TJ):Prop:=Av P w K mg base k "is_piece" ["thing"] true f
abbrev qi (f:FO):Prop:=AvJX P w K mg base k "Reader" "read_term" 1 f
abbrev Wd (f:TJ):Prop:=Av P w K mg base k "places" ["term"] true f
abbrev wX (f:TJ):Prop:=Av P w K mg base k "level_below" ["row"] true f
abbrev Ju (f:TJ):Prop:=Av P w K mg base k "is_great" ["thing"] true f
abbrev kN (f:TJ):Prop:=AvX P w K mg base k "read" ["text"] false f
abbrev yx (f:TJ):Prop:=Av P w K mg base k "_law_word" ["_law_text_here", "_law_at", "_law_signs"] true f
abbrev yy (f:TJ):Prop:=Av P w K mg base k "_law_leaf" ["_law_text_here", "_law_at"] true f
abbrev w6 (f:FO):Prop:=AvF P w K mg base k "_law_closed" ["_law_rows", "_law_at", "_law_text_here"] 2 f
abbrev Jw (f:TJ):Prop:=Av P w K mg base k "_law_due" ["_law_text_here"] true f
abbrev xP (f:TJ):Prop:=Av P w K mg base k "_law_other" ["_law_error"] true f
abbrev xS (f:TJ):Prop:=Av P w K mg base k "_law_asked" ["_law_text_here"] true f
abbrev wY (f:TJ):Prop:=Av P w K mg base k "_law_wide" ["_law_many", "_law_name"] true f
abbrev w5 (f:TJ):Prop:=Av P w K mg base k "_law_term" ["_law_number", "_law_names_here", "_law_room"] true f
abbrev wz (f:TJ):Prop:=Av P w K mg base k "_law_spoiled" ["_law_text_here", "_law_number"] false f
end
section
variable {P:aaB} {w:World} {K:aaa} {mg:Yq} {base:Heap} {k:Nat} {C:Addr} {T0 TQ TX T4 T7 T5 T8 TZ TW T3 TU TR TV T6:Addr}
variable (T:Gm K T0 TQ TX T4 T7 T5 T8 TZ TW T3 TU TR TV T6 mg)
include T
theorem ZF (d:Dx K mg "_law_great" xp ["_law_cell"]):
  xR P w K mg base (k+1) (runF true 1 (JD)):=
 wW true d jd5 fun f cdv A outer s H E hr=>
  (jq (jS (UY (l:= .t) wD wE (ob J9 WH (ob J9 WH (ob J9 WH (DE.b (jE jn jz (dv 0) i_s)) (VX ib ib)) (VX ib ib)) (VX ib ib)) (ob J9 WH (VX ib ib) (VX ib ib)))))
theorem ZE (d:Dx K mg "_law_names" xo ["_law_number"]):
  xQ P w K mg base (k+1) (runF true 8 (xG)):=
 wW true d jd7 fun f cdv A outer s H E hr=>
  (jd (by exact (jG 1 jd7.nd (jt (l:= .s)))) (by exact (jd (by exact (jG 2 jd7.nd (DE.s (jE jn jz i_s (o_s wD wE (vb 0) ib))))) (by exact (jd (by exact (jG 3 jd7.nd (jt (l:= .s)))) (by exact (jd (by exact (Qy abe rfl (yQ rfl T.b_range (jb (vb 2) ji)) (zx 4 jd7.nd) (jd (by exact (jG 0 jd7.nd (o_s qZ za (vb 0) ib))) (by exact (jq (jG 3 jd7.nd (DE.s (jE jn jz (dv 3) (wy (dv 1) (ZH (vb 0) ib)))))))))) (by exact (jd (by exact (jG 5 jd7.nd (o_s wD wE (ob qZ za (vb 0) ib) (vb 2)))) (by exact (jd (by exact (yP 6 jd7.nd (zE ji))) (by exact (jd (by exact (Qy abe rfl (yQ rfl T.b_range (jb ib ji)) (zx 4 jd7.nd) (jd (by exact (jG 7 jd7.nd (wy (dv 1) (ZH (DE.b (jE jn jz (jbj (l':= .s) PySem.F.slot_str_find PySem.F.type_str_find jaN jaO (vb 1) (jb (by exact (DE.b (wy (dv 3) (vb 5)))) ji)) (o_s J9 WH ib (vb 4)))) ib)))) (by exact (jq (qI 6 (DE.s (jE jn jz (DE.s (jE jn jz (DE.s (jX (dv 3) zq (jU (vb 5)))) (dv 7))) (DE.s (jX (dv 3) (jU (DE.b (jE jn jz (dv 5) i_s))) zq)))))))))) (by exact (jd (by exact (zr (jO Xv XB (vb 2) ib) (jq (qI 6 (DE.s (jE jn jz (dv 3) (jt (l:= .s)))))) (jq (qI 6 (DE.s (jX (dv 3) zq (jU ib))))))) (by exact (jq (UR 6))))))))))))))))))
theorem Qc (d:Dx K mg "_law_cell_at" wq ["_law_script", "_law_k"]):
  wA P w K mg base (k+1) (runF false 2 (yh)):=
 wW false d jd2 fun f cdv A outer s H E hr=>
  (jd (by exact (zr (jO Xv XB (vb 1) (j3 (l':= .b) jY zF rfl T.b_len aaL (jb (vb 0) ji))) (jq (Qx (wy (dv 0) (vb 1)))) jT)) (by exact (jq (jS (U0 (l:= .t))))))
theorem WE (d:Dx K mg "_law_text" yn ["_law_term_here"]) (w8:wZ P w K mg base k qG):
  wZ P w K mg base (k+1) (runF false 1 (qD qG)):=
 wW false d jeb fun f cdv A outer s H E hr=>
  (jd (by exact (zr (JF (xb (yS (l':= .b) "tuple" "tuple" xZ (vb 0) rfl T.b_isinstance rfl T.b_tuple abb))) (jq (jS (DE.chk (l':= .t) (UX jn jz (jt (l:= .b)) (zy JH ko rfl T.b_str abM (jb (vb 0) ji)))))) jT)) (by exact (jd (by exact (zr (jO (zo (Room.u200 hr)) wP (j3 (l':= .b) jY zF rfl T.b_len aaL (jb (vb 0) ji)) ib) (jq (Qx (wy (dv 0) ib))) jT)) (by exact (jq (jS (jE jn jz (DE.s (jE jn jz (DE.s (jE jn jz (wy (dv 0) ib) (jt (l:= .s)))) (jbj (l':= .s) PySem.F.slot_str_join PySem.F.type_str_join Ue Uh (jt (l:= .b)) (jb (by exact (DE.b (U6 false ["_law_place", "."] 1 [] (kh none rfl rfl (by decide+kernel) trivial rfl) rfl (WZ (DE.s (jX (dv 0) (jU ib) zq))) (fun C s₂ H₂ fp nd₂=>⟨(zx 0 nd₂),UM,(by exact Av.call w8 hr (jb (dv 0) ji))⟩)))) ji)))) (jt (l:= .s)))))))))
theorem yd (d:Dm K C "__init__" "Reader.__init__" qY ["self", "text"]) (hC:aaj K aah "Reader" =some (some (.ref C))/\Cls K C) (hmg:mg "Reader" =some (.ref C)) (mk:acl K C=true/\aaN K (.ref C)=true):
  zf P w K mg base (k+1) (runJ 2 1 (zV)):=
 jc8 d hC hmg mk jdV rfl (by decide) fun f cdv A outer s H E hr=>
  (wG (by exact (Kc (i:=0) T.f_Reader_text (dv 1))) (by exact (wg (Kc (i:=0) T.f_Reader_at i_s))))
theorem Jh (d:Dm K C "takes" "Reader.takes" zI ["self", "sign"]) (hC:aaj K aah "Reader" =some (some (.ref C))/\Cls K C):
  qX P w K mg base (k+1) (runJ 2 1 (qa)):=
 uX d hC jd0 rfl (by decide) fun f cdv A outer s H E hr=>
  (wG (by exact (jc1 (jO (YC (Room.u200 hr)) vA (DE.b (jX (zX 0 T.f_Reader_text) (jU (DE.b (zX 0 T.f_Reader_at))) (jU (DE.b (jE jn jz (zX 0 T.f_Reader_at) i_s))))) (vb 1)) (wg (wm (DE.j (QL (l:= .s))))) wj)) (by exact (wG (by exact (Kd T.f_Reader_at ib)) (by exact (wg (wm (DE.j (QL (l:= .s)))))))))
theorem yL (d:Dm K C "run_of" "Reader.run_of" zu ["self", "signs"]) (hC:aaj K aah "Reader" =some (some (.ref C))/\Cls K C):
  qM P w K mg base (k+1) (runJ 3 1 (qL)):=
 uX d hC jdZ rfl (by decide) fun f cdv A outer s H E hr=>
  (wG (by exact (Z5 2 jdZ.nd (DE.j (by exact (zX 0 T.f_Reader_at))))) (by exact (wG (by exact (WY 30000 abe (DT.j (by exact (DW.dt (Qu (jO Xv XB (DE.b (zX 0 T.f_Reader_at)) (j3 (l':= .b) jY zF rfl T.b_len aaL (jb (by exact (DE.b (zX 0 T.f_Reader_text))) ji))) (yu (jO Qa VW (DE.b (wy (zX 0 T.f_Reader_text) (DE.b (zX 0 T.f_Reader_at)))) (vb 1))))))) (wg (Kd T.f_Reader_at ib)))) (by exact (wg (wm (DE.j (by exact (DE.s (jX (zX 0 T.f_Reader_text) (jU (vb 2)) (jU (DE.b (zX 0 T.f_Reader_at)))))))))))))
theorem xg (d:Dm K C "read_blank" "Reader.read_blank" qC ["self"]) (hC:aaj K aah "Reader" =some (some (.ref C))/\Cls K C) (zB:qM P w K mg base k jW):
  qJ P w K mg base (k+1) (Jc 3 0 (jL jW)):=
 X7 d hC jdW rfl (by decide) fun f cdv A outer s H E hr=>
  (qc (by exact (DSO.y (Z5 1 jdW.nd (by exact AvJ.call 0 zB hr (by exact (jb (gss rfl T.c_FIGURES) ji)))))) (by exact (qc (by exact (Z4 (JF (Ka QH QK QH QK ib (j3 (l':= .b) jY zF rfl T.b_len aaL (jb (vb 1) ji)) (gi rfl T.c_MOST_FIGURES))) (qU (DSOX.y (wH T.n_NoText T.m_NoText T.q_NoText aaO (jt (l:= .b)) (fun _=>⟨_,rfl⟩)))) (DSsO.y wj))) (by exact (qc (by exact (DSO.y (Z5 2 jdW.nd (DE.j (by exact (DE.chk (l':= .s) (zy W6 kq rfl T.b_int acz (jb (vb 1) ji)))))))) (by exact (qc (by exact (Z4 (jO (YC (Room.u200 hr)) vA (zy JH ko rfl T.b_str abM (jb (vb 2) ji)) (vb 1)) (qU (DSOX.y (wH T.n_NoText T.m_NoText T.q_NoText aaO (jt (l:= .b)) (fun _=>⟨_,rfl⟩)))) (DSsO.y wj))) (by exact (qU (DSO.y (wm (DE.j (dv 2)))))))))))))
theorem wO (d:Dm K C "read_places" "Reader.read_places" qx ["self", "level"]) (hC:aaj K aah "Reader" =some (some (.ref C))/\Cls K C) (qu:qX P w K mg base k jQ) (qj:qi P w K mg base k jB):
  qz P w K mg base (k+1) (Jc 3 1 (jP jQ jB)):=
 X7 d hC jdX rfl (by decide) fun f cdv A outer s H E hr=>
  (qc (by exact (DSO.y (jbf (UN (Z2 (by exact AvJ.call 0 qu hr (by exact (jb (jt (l:= .s)) ji))))) (wg (wm (DE.j (DE.s (xc ji))))) wj))) (by exact (qc (by exact (v5 2 jdX.nd (by exact AvJX.call 0 qj hr (by exact (jb (by exact (DE.s (jE jn jz (dv 1) i_s))) ji))))) (by exact (qc (by exact (KR 30000 PassesOwn.leaving (Z2 (by exact AvJ.call 0 qu hr (by exact (jb (jt (l:= .s)) ji)))) (qU (XZ 2 (by exact AvJX.call 0 qj hr (by exact (jb (by exact (DE.s (jE jn jz (dv 1) i_s))) ji))))))) (by exact (qc (by exact (Kb (UN (Z2 (by exact AvJ.call 0 qu hr (by exact (jb (jt (l:= .s)) ji))))) (qU (DSOX.y (wH T.n_NoText T.m_NoText T.q_NoText aaO (jt (l:= .b)) (fun _=>⟨_,rfl⟩)))) (DSsO.y wj))) (by exact (qU (DSO.y (wm (DE.j (by exact (DE.chk (l':= .s) (zy zN Wa rfl T.b_tuple abb (jb (db 2) ji))))))))))))))))
theorem Xw (d:Dx K mg "is_whole" y6 ["thing"]):
  Js P w K mg base (k+1) (runF true 1 (Zb)):=
 wW true d jek fun f cdv A outer s H E hr=>
  (jq (jS (Zg (yS (l':= .b) "int" "int" vJ (vb 0) rfl T.b_isinstance rfl T.b_int acz) (W0 (uU (l:= .t) (yS (l':= .b) "bool" "bool" Ur (vb 0) rfl T.b_isinstance rfl T.b_bool PyProof.Rows.boot_bool))))))
theorem Xz (d:Dx K mg "is_blank" y9 ["thing"]) (K1:Js P w K mg base k Jm):
  Jv P w K mg base (k+1) (runF true 1 (Zc Jm)):=
 wW true d jeg fun f cdv A outer s H E hr=>
  (jq (jS (Zg (DE.b (by exact Av.callT K1 hr (jb (dv 0) ji))) (W0 (Kf (l:= .t) QH QK QH QK ib (vb 0) (gi rfl T.c_MOST_BLANK))))))
theorem KC (d:Dx K mg "is_name" J1 ["thing"]):
  QD P w K mg base (k+1) (runF true 1 (xF)):=
 wW true d jei fun f cdv A outer s H E hr=>
  (jd (by exact (zr (DW.dt (Z1 (JF (xb (yS (l':= .b) "str" "str" ZQ (vb 0) rfl T.b_isinstance rfl T.b_str abM))) (JE (JF (Ka QH QK QH QK ib (j3 (l':= .b) jY zF rfl T.b_len aaL (jb (vb 0) ji)) (gi rfl T.c_MOST_LETTERS)))))) (jq (jS (QL (l:= .t)))) jT)) (by exact (jq (jS (j3 (l':= .t) (ky rfl) jc7 rfl T.b_all PyProof.Rows.boot_all (jb (by exact (DE.b (U6 false ["sign", "."] 1 [] (kh none rfl rfl (by decide+kernel) trivial rfl) rfl (WZ (dv 0)) (fun C s₂ H₂ fp nd₂=>⟨(zx 0 nd₂),UM,(U7 (l:= .s) Qa VW (vb 0) (gst rfl T.c_LETTERS))⟩)))) ji))))))
theorem Xx (d:Dx K mg "is_piece" y7 ["thing"]) (K4:Jv P w K mg base k Jp) (kQ:QD P w K mg base k Qs):
  Jt P w K mg base (k+1) (runF true 1 (x3 Jp Qs)):=
 wW true d jej fun f cdv A outer s H E hr=>
  (jd (by exact (zr (xb (yS (l':= .b) "tuple" "tuple" xZ (vb 0) rfl T.b_isinstance rfl T.b_tuple abb)) (jq (jS (Zg (Kf (l:= .b) QH QK QH QK ib (j3 (l':= .b) jY zF rfl T.b_len aaL (jb (vb 0) ji)) (DE.b (jE jn jz (gis rfl T.c_MOST_PLACES) i_s))) (W0 (by exact Av.callT kQ hr (jb (by exact (wy (dv 0) ib)) ji)))))) jT)) (by exact (jq (jS (by exact Av.callT K4 hr (jb (dv 0) ji))))))
theorem xx (d:Dm K C "read_term" "Reader.read_term" qO ["self", "level"]) (hC:aaj K aah "Reader" =some (some (.ref C))/\Cls K C) (qu:qX P w K mg base k jQ) (xU:qJ P w K mg base k qH) (xi:qz P w K mg base k qy) (K2:Jt P w K mg base k Jn) (zB:qM P w K mg base k jW):
  qi P w K mg base (k+1) (Jc 3 1 (jI jQ qH qy Jn jW)):=
 X7 d hC jdY rfl (by decide) fun f cdv A outer s H E hr=>
  (qc (by exact (Z4 (jO WB WI (vb 1) (gi rfl T.c_MOST_LEVELS)) (qU (DSOX.y (wH T.n_NoText T.m_NoText T.q_NoText aaO (jt (l:= .b)) (fun _=>⟨_,rfl⟩)))) (DSsO.y wj))) (by exact (qc (by exact (Kb (Z2 (by exact AvJ.call 0 qu hr (by exact (jb (jt (l:= .s)) ji)))) (qU (v4 (by exact AvJX.call0 0 xU hr))) (DSsO.y wj))) (by exact (qc (by exact (v3 2 jdY.nd (v8 (DEJ.jx (jbi (by exact AvJ.call 0 zB hr (by exact (jb (gss rfl T.c_LETTERS) ji))))) (by exact AvJX.call 0 xi hr (jb (dv 1) ji))))) (by exact (qc (by exact (Z4 (JF (xb (DE.b (by exact Av.callT K2 hr (jb (dv 2) ji))))) (qU (DSOX.y (wH T.n_NoText T.m_NoText T.q_NoText aaO (jt (l:= .b)) (fun _=>⟨_,rfl⟩)))) (DSsO.y wj))) (by exact (qU (DSO.y (wm (DE.j (dv 2)))))))))))))
theorem VU (d:Dx K mg "places" Zv ["term"]):
  Wd P w K mg base (k+1) (runF true 1 (Y0)):=
 wW true d jeo fun f cdv A outer s H E hr=>
  (jq (jS (uV (xb (yS (l':= .b) "tuple" "tuple" xZ (vb 0) rfl T.b_isinstance rfl T.b_tuple abb)) (jX (dv 0) (jU ib) zq) (xc ji))))
theorem QI (d:Dx K mg "level_below" wK ["row"]) (uj:Wd P w K mg base k ZW):
  wX P w K mg base (k+1) (runF true 3 (zM ZW)):=
 wW true d jem fun f cdv A outer s H E hr=>
  (jd (by exact (yP 1 jem.nd (zE ji))) (by exact (jd (by exact (Qy abe rfl (WZ (dv 0)) (zx 2 jem.nd) (jq (UU 1 (DE.s (by exact Av.callT uj hr (jb (dv 2) ji))))))) (by exact (jq (UR 1))))))
theorem Xy (d:Dx K mg "is_great" y8 ["thing"]) (We:wX P w K mg base k wS):
  Ju P w K mg base (k+1) (runF true 4 (x4 wS)):=
 wW true d jeh fun f cdv A outer s H E hr=>
  (jd (by exact (jG 1 jeh.nd (DE.s (zE (jb (dv 0) ji))))) (by exact (jd (by exact (jG 2 jeh.nd i_s)) (by exact (jd (by exact (jG 3 jeh.nd i_s)) (by exact (jd (by exact (Z6 2000 abe (jc0 (vb 1)) (jd (by exact (uQ 2 jeh.nd ib uH)) (by exact (jd (by exact (uQ 3 jeh.nd (j3 (l':= .b) jY zF rfl T.b_len aaL (jb (vb 1) ji)) uH)) (by exact (jd (by exact (zr (DW.dt (Z1 (jO WB WI (vb 2) (gi rfl T.c_MOST_LEVELS)) (JE (jO WB WI (vb 3) (gi rfl T.c_MOST_PARTS))))) (jq (jS (QL (l:= .t)))) jT)) (by exact (jq (jG 1 jeh.nd (DE.s (by exact Av.callT We hr (jb (dv 1) ji))))))))))))) (by exact (jq (jS (QL (l:= .t))))))))))))
theorem jaG (d:Dx K mg "read" Vz ["text"]) {zJ:Nat} (yB:zf P w K mg base zJ zd) (yf:zJ+1<=k) (qj:qi P w K mg base k jB) (K3:Ju P w K mg base k Jo):
  kN P w K mg base (k+1) (runX false 3 (Qq zd jB Jo)):=
 jbx false d jep fun f cdv A outer s H E hr=>
  (Qw (by exact (DSX.w (UO (JF (xb (yS (l':= .b) "str" "str" ZQ (vb 0) rfl T.b_isinstance rfl T.b_str abM))) (JS (Qv T.n_NoText T.m_NoText T.q_NoText aaO (jt (l:= .b)) (fun _=>⟨_,rfl⟩))) Z3))) (by exact (Qw (by exact (DSX.w (DS.x (yP 1 jep.nd (by exact AvK.make yB (hr.mono yf) (jb (dv 0) ji)))))) (by exact (Qw (by exact (vY 2 jep.nd (by exact AvJX.call 1 qj hr (by exact (jb i_s ji))))) (by exact (DSsX.w (WX (by exact (UO (jO Xv XB (DE.b (zX 1 T.f_Reader_at)) (j3 (l':= .b) jY zF rfl T.b_len aaL (jb (vb 0) ji))) (JS (Qv T.n_NoText T.m_NoText T.q_NoText aaO (jt (l:= .b)) (fun _=>⟨_,rfl⟩))) Z3)) (by exact (WX (by exact (UO (xb (DE.b (by exact Av.callT K3 hr (jb (dv 2) ji)))) (JS (Qv T.n_NoText T.m_NoText T.q_NoText aaO (jt (l:= .b)) (fun _=>⟨_,rfl⟩))) Z3)) (by exact (JS (DS.x (Qx (dv 2)))))))))))))))
theorem WC (d:Dx K mg "_law_word" yl ["_law_text_here", "_law_at", "_law_signs"]):
  yx P w K mg base (k+1) (runF true 4 (wR)):=
 wW true d jed fun f cdv A outer s H E hr=>
  (jd (by exact (jG 3 jed.nd (dv 1))) (by exact (jd (by exact (Z6 30000 abe (DW.dt (Qu (jO Xv XB (vb 3) (j3 (l':= .b) jY zF rfl T.b_len aaL (jb (vb 0) ji))) (yu (jO Qa VW (DE.b (wy (dv 0) (vb 3))) (vb 2))))) (jq (jG 3 jed.nd (DE.s (jE jn jz (dv 3) i_s)))))) (by exact (jq (jS (jX (dv 0) (jU (vb 1)) (jU (vb 3)))))))))
theorem WG (d:Dx K mg "_law_leaf" yp ["_law_text_here", "_law_at"]) (QF:yx P w K mg base k wT):
  yy P w K mg base (k+1) (runF true 4 (qF wT)):=
 wW true d jd6 fun f cdv A outer s H E hr=>
  (jd (by exact (zr (jO (zo (Room.u200 hr)) wP (DE.b (jX (dv 0) (jU (vb 1)) (jU (DE.b (jE jn jz (dv 1) i_s))))) (jt (l:= .b))) (jd (by exact (jG 3 jd6.nd (DE.s (by exact Av.callT QF hr (jb (dv 0) (jb (by exact (DE.s (jE jn jz (dv 1) i_s))) (jb (jt (l:= .s)) ji))))))) (by exact (jd (by exact (zr (DW.dt (Z1 (jO (zo (Room.u200 hr)) wP (vb 3) (jt (l:= .b))) (Z1 (jO WB WI (j3 (l':= .b) jY zF rfl T.b_len aaL (jb (vb 3) ji)) ib) (JE (DW.dt (Qu (jO WB WI (j3 (l':= .b) jY zF rfl T.b_len aaL (jb (vb 3) ji)) ib) (yu (jO (zo (Room.u200 hr)) wP (DE.b (wy (dv 3) ib)) (jt (l:= .b)))))))))) (jq (jS (wn (l:= .t)))) jT)) (by exact (jq (jS (xc (jb (by exact (DE.chk (l':= .s) (zy W6 kq rfl T.b_int acz (jb (vb 3) ji)))) (jb (by exact (DE.s (jE jn jz (DE.s (jE jn jz (dv 1) i_s)) (j3 (l':= .s) jY zF rfl T.b_len aaL (jb (vb 3) ji))))) ji))))))))) jT)) (by exact (jd (by exact (jG 2 jd6.nd (DE.s (by exact Av.callT QF hr (jb (dv 0) (jb (dv 1) (jb (jt (l:= .s)) ji))))))) (by exact (jd (by exact (zr (DW.dt (Z1 (jO (zo (Room.u200 hr)) wP (vb 2) (jt (l:= .b))) (JE (jO WB WI (j3 (l':= .b) jY zF rfl T.b_len aaL (jb (vb 2) ji)) ib)))) (jq (jS (wn (l:= .t)))) jT)) (by exact (jq (jS (xc (jb (by exact (DE.s (xc (jb (dv 2) ji)))) (jb (by exact (DE.s (jE jn jz (dv 1) (j3 (l':= .s) jY zF rfl T.b_len aaL (jb (vb 2) ji))))) ji)))))))))))
theorem QJ (d:Dx K mg "_law_closed" wL ["_law_rows", "_law_at", "_law_text_here"]):
  w6 P w K mg base (k+1) (runJ 4 2 (qr)):=
 jda d jd3 rfl (by decide) fun f cdv A outer s H E hr=>
  (wG (by exact (WY 64 abe (DT.j (by exact (DW.dt (Qu (jO WB WI (X1 (l:= .b) 0 rfl T.b_len) ib) (yu (jO (zo (Room.u200 hr)) wP (DE.b (jX (dv 2) (jU (vb 1)) (jU (DE.b (jE jn jz (dv 1) i_s))))) (jt (l:= .b)))))))) (UP 0 3 jd3.nd jcn (by exact (wg (Z5 1 jd3.nd (DE.j (by exact (DE.s (jE jn jz (dv 1) i_s))))))) rfl T.b_len rfl T.b_tuple))) (by exact (wg (wm (DE.j (dv 1))))))
theorem XA (d:Dx K mg "_law_due" Ja ["_law_text_here"]) (Ye:yy P w K mg base k yr) (Wf:w6 P w K mg base k wU):
  Jw P w K mg base (k+1) (runF true 6 (x5 yr wU)):=
 wW true d jd4 fun f cdv A outer s H E hr=>
  (jd (by exact (yP 1 jd4.nd jbk)) (by exact (jd (by exact (jG 2 jd4.nd i_s)) (by exact (jd (by exact (jG 3 jd4.nd i_s)) (by exact (jd (by exact (Z6 1010 abe (DW.dt (Qu (jO QH QK (vb 3) ib) (yu (jO QH QK (X1 (l:= .b) 1 rfl T.b_len) ib)))) (jd (by exact (jG 4 jd4.nd (DE.s (by exact Av.callT Ye hr (jb (dv 0) (jb (dv 2) ji)))))) (by exact (jd (by exact (zr (jO YD YF (vb 4) (wn (l:= .b))) (jq (jS (wn (l:= .t)))) jT)) (by exact (jd (by exact (uR (dv 4) (uT rfl (zx 5 jd4.nd) (zx 2 jd4.nd)))) (by exact (jd (by exact (jG 3 jd4.nd (DE.s (jE jn jz (dv 3) i_s)))) (by exact (jd (by exact (zr (DW.dt (Qu (xb (yS (l':= .b) "tuple" "tuple" xZ (vb 5) rfl T.b_isinstance rfl T.b_tuple abb)) (yu (jO (zo (Room.u200 hr)) wP (DE.b (jX (dv 0) (jU (vb 2)) (jU (DE.b (jE jn jz (dv 2) i_s))))) (jt (l:= .b)))))) (jd (by exact (US 1 (zE (jb (by exact (wy (dv 5) ib)) ji)))) (by exact (jd (by exact (jG 2 jd4.nd (DE.s (jE jn jz (dv 2) i_s)))) (by exact (jq X0))))) jT)) (by exact (jd (by exact (UQ 1 (dv 5) jcn)) (by exact (jd (by exact (jbg 2 jd4.nd (by exact AvF.call 1 Wf hr (by exact (jb (dv 2) (jb (dv 0) ji)))))) (by exact (jd (by exact (zr (DW.dt (Z1 (jO YD YF (vb 2) (wn (l:= .b))) (JE (jO (zo (Room.u200 hr)) wP (X1 (l:= .b) 1 rfl T.b_len) ib)))) (jq (jS (uV (DW.dt (Z1 (jO (YC (Room.u200 hr)) vA (vb 2) (j3 (l':= .b) jY zF rfl T.b_len aaL (jb (vb 0) ji))) (JE (jO WB WI (vb 3) ib)))) (wn (l:= .t)) (DE.chk (l':= .t) (jbl 1 Wv Wv))))) jT)) (by exact (jd (by exact (zr (jO (YC (Room.u200 hr)) vA (DE.b (jX (dv 0) (jU (vb 2)) (jU (DE.b (jE jn jz (dv 2) i_s))))) (jt (l:= .b))) (jq (jS (wn (l:= .t)))) jT)) (by exact (jq (jG 2 jd4.nd (DE.s (jE jn jz (dv 2) i_s)))))))))))))))))))))))) (by exact (jq (jS (wn (l:= .t))))))))))))
theorem ZD (d:Dx K mg "_law_other" xn ["_law_error"]):
  xP P w K mg base (k+1) (runF true 1 (JC)):=
 wW true d jd8 fun f cdv A outer s H E hr=>
  (jd (by exact (zr (xb (UZ (l':= .b) [("NoText",false)] [TV,TR,TU,T3,TW,TZ,T8] T.yt_1 (vb 0) rfl T.b_isinstance (Yy (qW rfl T.m_NoPath (qW rfl T.m_NoRule (qW rfl T.m_NoStep (qW rfl T.m_NoPaper (qW rfl T.m_NoHead (qW rfl T.m_NoPair (qW rfl T.m_NoReason VO)))))))) (hsz:=aaq (show 7<=20 by decide) (by decide)))) (jq (jS (QL (l:= .t)))) jT)) (by exact (jq (jS (UZ (l':= .t) [("NoText",false)] [T5,T7,T4,TX,TQ] T.yt_0 (vb 0) rfl T.b_isinstance (Yy (qW rfl T.m_TooMany (qW rfl T.m_TooGreat (qW rfl T.m_TooLong (qW rfl T.m_NoName (qW rfl T.m_NoLine VO)))))) (hsz:=aaq (show 5<=20 by decide) (by decide)))))))
theorem ZG (d:Dx K mg "_law_asked" xq ["_law_text_here"]) (jdd:kN P w K mg base k UE) (K5:Jw P w K mg base k Jq) (Xd:xP P w K mg base k xH):
  xS P w K mg base (k+1) (runF true 5 (zh UE Jq xH)):=
 wW true d jd1 fun f cdv A outer s H E hr=>
  (jd (by exact (jG 1 jd1.nd (wn (l:= .s)))) (by exact (jd (by exact (jG 2 jd1.nd (wn (l:= .s)))) (by exact (jd (by exact (jc2 ["NoText"] 3 jd1.nd (fun E' ps=>by exact (vZ (vX 2 jd1.nd (by exact AvX.callS jdd hr (jb (dv 0) ji))))) (fun e=>by exact (jq (jG 1 jd1.nd (dv 3)))) T.m_EndError T.x_EndError)) (by exact (jd (by exact (jG 4 jd1.nd (wn (l:= .s)))) (by exact (jd (by exact (zr (xb (yS (l':= .b) "str" "str" ZQ (vb 0) rfl T.b_isinstance rfl T.b_str abM)) (jq (jG 4 jd1.nd (DE.s (by exact Av.callT K5 hr (jb (dv 0) ji))))) jT)) (by exact (jd (by exact (zr (jO YD YF (vb 4) (wn (l:= .b))) (jq (jS (Zg (jc3 (l':= .b) [("NoText",true)] "NoText" T.y_NoText (vb 1) rfl T.b_isinstance rfl T.m_NoText) (Zg (jbm (l':= .b) ["NoText"] "ValueError" "ValueError" T.i_ValueError (vb 1) rfl T.b_isinstance rfl T.b_ValueError JK) (W0 (uU (l:= .t) (DE.b (by exact Av.callT Xd hr (jb (dv 1) ji))))))))) jT)) (by exact (jq (jS (Zg (U7 (l:= .b) YD YF (vb 1) (wn (l:= .b))) (W0 (U7 (l:= .t) (zo (Room.u200 hr)) wP (vb 2) (vb 4))))))))))))))))))
theorem WD (d:Dx K mg "_law_wide" ym ["_law_many", "_law_name"]) (yz:wY P w K mg base k zb):
  wY P w K mg base (k+1) (runF true 5 (zw zb)):=
 wW true d jec fun f cdv A outer s H E hr=>
  (jd (by exact (zr (jO (zo (Room.u200 hr)) wP (vb 0) ib) (jq (jS (xc (jb (dv 1) ji)))) jT)) (by exact (jd (by exact (jG 2 jec.nd (j3 (l':= .s) (ku rfl) jc6 rfl T.b_min kB (jb ib (jb (by exact (ob YB YE (vb 0) ib)) ji))))) (by exact (jd (by exact (yP 3 jec.nd (zE ji))) (by exact (jd (by exact (Qy abe rfl (yQ rfl T.b_range (jb (vb 2) ji)) (zx 4 jec.nd) (jq (qI 3 (DE.s (by exact Av.callT yz hr (jb (by exact (o_s qZ za (DE.b (jE jn jz (o_s YB YE (vb 0) ib) (dv 4))) (vb 2))) (jb (dv 1) ji)))))))) (by exact (jq (jS (DE.chk (l':= .t) (zy zN Wa rfl T.b_tuple abb (jb (by exact (UX jn jz (DE.b (zE (jb (dv 1) ji))) (db 3))) ji)))))))))))))
theorem WF (d:Dx K mg "_law_term" yo ["_law_number", "_law_names_here", "_law_room"]) (yA:w5 P w K mg base k zc):
  w5 P w K mg base (k+1) (runF true 9 (qE zc)):=
 wW true d jea fun f cdv A outer s H E hr=>
  (jd (by exact (jG 3 jea.nd (o_s wD wE (vb 0) ib))) (by exact (jd (by exact (jG 0 jea.nd (o_s qZ za (vb 0) ib))) (by exact (jd (by exact (zr (DW.dt (Z1 (jO (zo (Room.u200 hr)) wP (vb 3) ib) (JE (DW.dt (Qu (jO (zo (Room.u200 hr)) wP (vb 2) ib) (yu (jO Xv XB (vb 3) ib))))))) (jq (jS (xc (jb (by exact (wy (DE.s (zE (jb i_s (jb i_s (jb i_s (jb (by exact (o_s wD wE (ob qZ za (vb 0) ib) ib)) ji)))))) (ZH (vb 0) ib))) (jb (by exact (o_s qZ za (vb 0) ib)) ji))))) jT)) (by exact (jd (by exact (zr (DW.dt (Z1 (jO (zo (Room.u200 hr)) wP (vb 3) ib) (JE (jO (zo (Room.u200 hr)) wP (vb 2) ib)))) (jq (jS (xc (jb (by exact (DE.s (xc (jb (by exact (wy (dv 1) (ZH (vb 0) ib))) ji)))) (jb (by exact (o_s qZ za (vb 0) ib)) ji))))) jT)) (by exact (jd (by exact (jG 4 jea.nd (wy (dv 1) (ZH (vb 0) ib)))) (by exact (jd (by exact (jG 5 jea.nd (DE.s (jE jn jz i_s (o_s wD wE (ob qZ za (vb 0) ib) ib))))) (by exact (jd (by exact (jG 0 jea.nd (o_s qZ za (vb 0) ib))) (by exact (jd (by exact (yP 6 jea.nd (zE ji))) (by exact (jd (by exact (Qy abe rfl (yQ rfl T.b_range (jb (vb 5) ji)) (zx 7 jea.nd) (jd (by exact (uR (DE.s (by exact Av.callT yA hr (jb (dv 0) (jb (dv 1) (jb (by exact (o_s YB YE (vb 2) ib)) ji))))) (uT rfl (zx 8 jea.nd) (zx 0 jea.nd)))) (by exact (jq (qI 6 (dv 8))))))) (by exact (jq (jS (xc (jb (by exact (DE.chk (l':= .s) (zy zN Wa rfl T.b_tuple abb (jb (by exact (UX jn jz (DE.b (zE (jb (dv 4) ji))) (db 6))) ji)))) (jb (dv 0) ji)))))))))))))))))))))))
theorem Qb (d:Dx K mg "_law_spoiled" wp ["_law_text_here", "_law_number"]):
  wz P w K mg base (k+1) (runF false 6 (qv)):=
 wW false d jd9 fun f cdv A outer s H E hr=>
  (jd (by exact (jG 2 jd9.nd (jt (l:= .s)))) (by exact (jd (by exact (jG 3 jd9.nd (o_s wD wE (vb 1) ib))) (by exact (jd (by exact (jG 1 jd9.nd (o_s qZ za (vb 1) ib))) (by exact (jd (by exact (jG 4 jd9.nd (wy (dv 2) (ZH (vb 1) (j3 (l':= .b) jY zF rfl T.b_len aaL (jb (vb 2) ji)))))) (by exact (jd (by exact (jG 5 jd9.nd (o_s wD wE (ob qZ za (vb 1) ib) (j3 (l':= .b) jY zF rfl T.b_len aaL (jb (vb 0) ji))))) (by exact (jd (by exact (zr (jO Xv XB (vb 3) ib) (jq (jS (jE jn jz (DE.s (jE jn jz (DE.s (jX (dv 0) zq (jU (vb 5)))) (dv 4))) (DE.s (jX (dv 0) (jU (vb 5)) zq))))) jT)) (by exact (jd (by exact (zr (jO (zo (Room.u200 hr)) wP (vb 3) ib) (jq (jS (jE jn jz (DE.s (jX (dv 0) zq (jU (vb 5)))) (DE.s (jX (dv 0) (jU (DE.b (jE jn jz (dv 5) i_s))) zq))))) jT)) (by exact (jd (by exact (zr (jO (zo (Room.u200 hr)) wP (vb 3) ib) (jq (jS (jE jn jz (DE.s (jE jn jz (DE.s (jX (dv 0) zq (jU (vb 5)))) (dv 4))) (DE.s (jX (dv 0) (jU (DE.b (jE jn jz (dv 5) i_s))) zq))))) jT)) (by exact (jd (by exact (zr (jO (zo (Room.u200 hr)) wP (vb 3) ib) (jq (jS (jE jn jz (DE.s (jX (dv 0) zq (jU (vb 5)))) (DE.s (jX (dv 0) (jU (ZH (ob qZ za (vb 1) ib) (DE.b (jE jn jz (dv 5) i_s)))) zq))))) jT)) (by exact (jd (by exact (zr (jO (zo (Room.u200 hr)) wP (vb 3) ib) (jq (Qx (wy (DE.s (zE (jb (wn (l:= .s)) (jb i_s (jb (QL (l:= .s)) (jb (DE.s (zE ji)) (jb (by exact (DE.s (xc (jb (jt (l:= .s)) ji)))) (jb (by exact (DE.s (zE (jb (jt (l:= .s)) ji)))) (jb (DE.s v9) (jb (by exact (DE.s (xc (jb (jt (l:= .s)) (jb i_s ji))))) ji)))))))))) (ZH (vb 1) ib)))) jT)) (by exact (jd (by exact (zr (jO (zo (Room.u200 hr)) wP (vb 3) ib) (jq (jS (jE jn jz (dv 0) (wy (DE.s (zE (jb (jt (l:= .s)) (jb (jt (l:= .s)) (jb (jt (l:= .s)) (jb (jt (l:= .s)) (jb (jt (l:= .s)) (jb (jt (l:= .s)) (jb (jt (l:= .s)) ji))))))))) (ZH (vb 1) ib))))) jT)) (by exact (jq (Qx (dv 0)))))))))))))))))))))))))
theorem jcv {f:Addr} {fd:abp} (Fu:Fun K "law" "law" Zw f fd) (xT:xR P w K mg base k zD) (Xe:xQ P w K mg base k xI) (QP:wA P w K mg base k wv) (w8:wZ P w K mg base k qG) (JJ:xS P w K mg base k wf) (yz:wY P w K mg base k zb) (yA:w5 P w K mg base k zc) (QO:wz P w K mg base k wu):
  FnOk P w K mg base CX0 (k+1) f fd ["_law_script"] (spF K true 1 (runF true 9 (vN zD xI wv qG wf zb zc wu))):=
 KP true Fu jel fun cdv A outer s H E hr=>
  (jd (by exact (jG 1 jel.nd (DE.s (by exact Av.callT xT hr (jb (by exact (by exact Av.call QP hr (jb (dv 0) (jb i_s ji)))) ji))))) (by exact (jd (by exact (jG 2 jel.nd (DE.s (by exact Av.callT Xe hr (jb (dv 1) ji))))) (by exact (jd (by exact (Qy abe rfl (WZ (dv 0)) (zx 3 jel.nd) (jd (by exact (jG 8 jel.nd (by exact Av.call w8 hr (jb (by exact (wy (DE.s (by exact Av.callT yA hr (jb (by exact (DE.s (by exact Av.callT xT hr (jb (dv 3) ji)))) (jb (dv 2) (jb i_s ji))))) ib)) ji)))) (by exact (jq (zr (JF (xb (DE.b (by exact Av.callT JJ hr (jb (by exact (by exact Av.call QO hr (jb (dv 8) (jb (by exact (DE.s (by exact Av.callT xT hr (jb (by exact (DE.s (jE jn jz (dv 3) i_s))) ji)))) ji)))) ji))))) (jq (jS (QL (l:= .t)))) jT)))))) (by exact (jd (by exact (jG 4 jel.nd (DE.s (jE jn jz i_s (o_s wD wE (vb 1) ib))))) (by exact (jd (by exact (jG 5 jel.nd (wy (dv 2) ib))) (by exact (jd (by exact (yP 6 jel.nd (zE (jb (by exact (DE.s (jE jn jz (DE.s (jE jn jz (o_s xw xy (DE.b (jE jn jz (dv 5) (jt (l:= .s)))) (vb 4)) (jt (l:= .s)))) (o_s xw xy (jt (l:= .b)) (vb 4))))) (jb (by exact (DE.s (jE jn jz (DE.s (jE jn jz (o_s xw xy (DE.b (jE jn jz (dv 5) (jt (l:= .s)))) (vb 4)) (dv 5))) (o_s xw xy (jt (l:= .b)) (ob YB YE (vb 4) ib))))) ji))))) (by exact (jd (by exact (qI 6 (by exact Av.call w8 hr (jb (by exact (DE.s (by exact Av.callT yz hr (jb (by exact (DE.s (jE jn jz i_s (o_s wD wE (ob qZ za (vb 1) ib) ib)))) (jb (by exact (wy (dv 2) ib)) ji))))) ji)))) (by exact (jd (by exact (jG 7 jel.nd (DE.s (jE jn jz i_s (o_s wD wE (ob qZ za (vb 1) ib) ib))))) (by exact (jd (by exact (qI 6 (DE.s (jE jn jz (DE.s (jE jn jz (o_s xw xy (jt (l:= .b)) (vb 7)) (jt (l:= .s)))) (o_s xw xy (jt (l:= .b)) (vb 7)))))) (by exact (jd (by exact (qI 6 (DE.s (jE jn jz (DE.s (jX (wy (dv 2) ib) zq (jU ib))) (o_s xw xy (jt (l:= .b)) (vb 7)))))) (by exact (jd (by exact (qI 6 (o_s xw xy (jt (l:= .b)) (vb 7)))) (by exact (jd (by exact (qI 6 (DE.s (jE jn jz (DE.s (jE jn jz (jt (l:= .s)) (jbj (l':= .s) PySem.F.slot_str_join PySem.F.type_str_join Ue Uh (jt (l:= .b)) (jb (by exact (DE.b (jE jcr jcw (DE.s (zE (jb (jt (l:= .s)) ji))) (DE.s (jE jn jz i_s (o_s wD wE (ob qZ za (vb 1) ib) ib)))))) ji)))) (jt (l:= .s)))))) (by exact (jd (by exact (UT 6 (yP 6 jel.nd (jE jn jz (dv 6) (DE.s (zE (jb (jt (l:= .s)) (jb (jt (l:= .s)) (jb (jt (l:= .s)) (jb (jt (l:= .s)) (jb (jt (l:= .s)) (jb (jt (l:= .s)) (jb (jt (l:= .s)) (jb (jt (l:= .s)) (jb (jt (l:= .s)) (jb (jt (l:= .s)) (jb (jt (l:= .s)) (jb (jt (l:= .s)) (jb (jt (l:= .s)) ji))))))))))))))))))) (by exact (jd (by exact (UT 6 (yP 6 jel.nd (jE jn jz (dv 6) (DE.s (zE (jb (jt (l:= .s)) (jb (jt (l:= .s)) (jb (jt (l:= .s)) (jb (jt (l:= .s)) (jb (jt (l:= .s)) (jb (jt (l:= .s)) (jb (jt (l:= .s)) (jb (jt (l:= .s)) (jb (jt (l:= .s)) (jb (jt (l:= .s)) ji)))))))))))))))) (by exact (jd (by exact (qI 6 (jt (l:= .s)))) (by exact (jd (by exact (UT 6 (Qy abe rfl (WZ (dv 6)) (zx 8 jel.nd) (jq (zr (JF (xb (DE.b (by exact Av.callT JJ hr (jb (dv 8) ji))))) (jq (jS (QL (l:= .t)))) jT))))) (by exact (jq (jS (QL (l:= .t))))))))))))))))))))))))))))))))))))
end
def all_mk {l:adm} {w:World} {K:aaa} {h:Heap} {mg:Yq} {fa p27:Addr} (KX:K.In h) (G:h.Ns aah mg) (hfa:mg "law" =some (.ref fa))
  {od27 an27:Option Addr} {sl27:Array (Option Value)} {oc27 kV27 dc27 pm27 cd27 ct27:Value} {T0 TQ TX T4 T7 T5 T8 TZ TW T3 TU TR TV T6:Addr} {TY:Addr}
  (d0:DefN K "_law_great" xp)
  (d1:DefN K "_law_names" xo)
  (d2:DefN K "_law_cell_at" wq)
  (d3:DefN K "_law_text" yn)
  (d4:DefM K TY "__init__" "Reader.__init__" qY)
  (d5:DefM K TY "takes" "Reader.takes" zI)
  (d6:DefM K TY "run_of" "Reader.run_of" zu)
  (d7:DefM K TY "read_blank" "Reader.read_blank" qC)
  (d8:DefM K TY "read_places" "Reader.read_places" qx)
  (d9:DefN K "is_whole" y6)
  (d10:DefN K "is_blank" y9)
  (d11:DefN K "is_name" J1)
  (d12:DefN K "is_piece" y7)
  (d13:DefM K TY "read_term" "Reader.read_term" qO)
  (d14:DefN K "places" Zv)
  (d15:DefN K "level_below" wK)
  (d16:DefN K "is_great" y8)
  (d17:DefN K "read" Vz)
  (d18:DefN K "_law_word" yl)
  (d19:DefN K "_law_leaf" yp)
  (d20:DefN K "_law_closed" wL)
  (d21:DefN K "_law_due" Ja)
  (d22:DefN K "_law_other" xn)
  (d23:DefN K "_law_asked" xq)
  (d24:DefN K "_law_wide" ym)
  (d25:DefN K "_law_term" yo)
  (d26:DefN K "_law_spoiled" wp)
  (a27:aaj K aah "law" =some (some (.ref p27))) (l27:K.lookup p27=some ⟨oc27,od27,.func (abK "law" "law" (xK Zw) (j8 Zw) (jg Zw) .none kV27 dc27 pm27 an27 cd27 ct27),sl27⟩) (c27:acp K cd27 "law" =true) (k27:aaN K (.ref p27)=true)
  (z0:aaj K aah "isinstance" =some none)
  (z1:aaj K aah "bool" =some none)
  (z2:aaj K aah "int" =some none)
  (z3:aaj K aah "all" =some none)
  (z4:aaj K aah "len" =some none)
  (z5:aaj K aah "tuple" =some none)
  (z6:aaj K aah "str" =some none)
  (z7:aaj K aah "ValueError" =some none)
  (z8:aaj K aah "range" =some none)
  (z9:aaj K aah "min" =some none)
  (y_LETTERS: ∃t,aaj K aah "LETTERS" =some (some (.str "abcdefghijklmnopqrstuvwxyz" t)))
  (y_MOST_LETTERS: ∃t,aaj K aah "MOST_LETTERS" =some (some (.int 8 t)))
  (y_MOST_PLACES: ∃t,aaj K aah "MOST_PLACES" =some (some (.int 9 t)))
  (y_MOST_BLANK: ∃t,aaj K aah "MOST_BLANK" =some (some (.int 999 t)))
  (y_MOST_LEVELS: ∃t,aaj K aah "MOST_LEVELS" =some (some (.int 60 t)))
  (y_MOST_PARTS: ∃t,aaj K aah "MOST_PARTS" =some (some (.int 1000 t)))
  (y_FIGURES: ∃t,aaj K aah "FIGURES" =some (some (.str "0123456789" t)))
  (y_MOST_FIGURES: ∃t,aaj K aah "MOST_FIGURES" =some (some (.int 3 t)))
  (wF:aaj K aah "Reader" =some (some (.ref TY))) (xv:acd K TY Str.empty=true) (xE:act K TY=true) (xt:ac4 K TY=true) (xm:aaS K (.ref TY) "__setattr__" =some (some (.builtin "object.__setattr__")))
  (xz:aaS K (.ref TY) "at" =some none)
  (wt:aaS K (.ref TY) "text" =some none)
  (Qg:acl K TY=true) (Qo:aaN K (.ref TY)=true)
  (e_NoText:aaj K aah "NoText" =some (some (.ref T0)))
  (e_NoLine:aaj K aah "NoLine" =some (some (.ref TQ)))
  (e_NoName:aaj K aah "NoName" =some (some (.ref TX)))
  (e_TooLong:aaj K aah "TooLong" =some (some (.ref T4)))
  (e_TooGreat:aaj K aah "TooGreat" =some (some (.ref T7)))
  (e_TooMany:aaj K aah "TooMany" =some (some (.ref T5)))
  (e_NoReason:aaj K aah "NoReason" =some (some (.ref T8)))
  (e_NoPair:aaj K aah "NoPair" =some (some (.ref TZ)))
  (e_NoHead:aaj K aah "NoHead" =some (some (.ref TW)))
  (e_NoPaper:aaj K aah "NoPaper" =some (some (.ref T3)))
  (e_NoStep:aaj K aah "NoStep" =some (some (.ref TU)))
  (e_NoRule:aaj K aah "NoRule" =some (some (.ref TR)))
  (e_NoPath:aaj K aah "NoPath" =some (some (.ref TV)))
  (e_EndError:aaj K aah "EndError" =some (some (.ref T6)))
  (q_NoText:ab6 K T0 [.type "ValueError",.type "Exception",.type "BaseException",.type "object"] "ValueError.__new__" =true)
  (x_EndError_NoText:PySem.W.exmOne K (.ref T0) (.ref T6)=some true)
  (i_ValueError_NoText:aaR K (.ref T0) (.type "ValueError")=some true)
  (w_NoText:ExcC K T0)
  (zP:aaR K (.ref T0) (.ref T0)=some true)
  (yt_0_NoText:acb K (.ref T0) (List.map aaJ [T5,T7,T4,TX,TQ])=some false)
  (yt_1_NoText:acb K (.ref T0) (List.map aaJ [TV,TR,TU,T3,TW,TZ,T8])=some false)
  : ∃fd:abp,(∀(s:aad) (v:Value),BindsTo s fd ⟨[v],[]⟩ [("_law_script",v)])/\ ∀base:Heap,K.In base->base.Ns aah mg->FnOk l.prog w K mg base CX0 130 fa fd ["_law_script"] (spF K true 1 F_law):=by
 have e:=hfa.symm.trans (aaC KX G a27);cases e
 have T:Gm K T0 TQ TX T4 T7 T5 T8 TZ TW T3 TU TR TV T6 mg:=⟨aa9 KX G z0,aa9 KX G z1,aa9 KX G z2,aa9 KX G z3,aa9 KX G z4,aa9 KX G z5,aa9 KX G z6,aa9 KX G z7,aa9 KX G z8,aa9 KX G z9,y_LETTERS.imp fun _ h=>aaC KX G h,y_MOST_LETTERS.imp fun _ h=>aaC KX G h,y_MOST_PLACES.imp fun _ h=>aaC KX G h,y_MOST_BLANK.imp fun _ h=>aaC KX G h,y_MOST_LEVELS.imp fun _ h=>aaC KX G h,y_MOST_PARTS.imp fun _ h=>aaC KX G h,y_FIGURES.imp fun _ h=>aaC KX G h,y_MOST_FIGURES.imp fun _ h=>aaC KX G h,⟨TY,wF,⟨xv,xE,xt,xm⟩,xz⟩,⟨TY,wF,⟨xv,xE,xt,xm⟩,wt⟩,aaC KX G e_NoText,aaC KX G e_NoLine,aaC KX G e_NoName,aaC KX G e_TooLong,aaC KX G e_TooGreat,aaC KX G e_TooMany,aaC KX G e_NoReason,aaC KX G e_NoPair,aaC KX G e_NoHead,aaC KX G e_NoPaper,aaC KX G e_NoStep,aaC KX G e_NoRule,aaC KX G e_NoPath,aaC KX G e_EndError,e_NoText,q_NoText,(fun c hc C hC=>by
   simp only [acU,List.contains_nil,Bool.or_false,beq_iff_eq,acP] at hc;rcases hc with rfl
   · have e:=hC.symm.trans e_NoText;cases e
     exact x_EndError_NoText),(fun c hc C hC=>by
   simp only [acU,List.contains_nil,Bool.or_false,beq_iff_eq,acP] at hc;rcases hc with rfl
   · have e:=hC.symm.trans e_NoText;cases e
     exact i_ValueError_NoText),(fun c b hc C hC=>by
   by_cases h_NoText:c= "NoText"
   · subst h_NoText;rw [Qj] at hc;cases hc;have e:=hC.symm.trans e_NoText;cases e;exact ⟨w_NoText,zP⟩
   rw [Qh h_NoText] at hc
   cases hc),(fun c b hc C hC=>by
   by_cases h_NoText:c= "NoText"
   · subst h_NoText;rw [Qj] at hc;cases hc;have e:=hC.symm.trans e_NoText;cases e;exact ⟨w_NoText,yt_0_NoText⟩
   rw [Qh h_NoText] at hc
   cases hc),(fun c b hc C hC=>by
   by_cases h_NoText:c= "NoText"
   · subst h_NoText;rw [Qj] at hc;cases hc;have e:=hC.symm.trans e_NoText;cases e;exact ⟨w_NoText,yt_1_NoText⟩
   rw [Qh h_NoText] at hc
   cases hc)⟩
 have U:=uM (st:=Zw) l27 c27 k27;have zY:aaj K aah "Reader" =some (some (.ref TY))/\Cls K TY:=⟨wF,xv,xE,xt,xm⟩
 refine ⟨abK "law" "law" (xK Zw) (j8 Zw) (jg Zw) .none kV27 dc27 pm27 an27 cd27 ct27,fun s v=> .of_eq rfl,fun base _ _=>?_⟩;have V0:xR l.prog w K mg base 1 qo:=ZF (k:=0) T (d0.dx KX G tk1);have V1:xQ l.prog w K mg base 1 zH:=ZE (k:=0) T (d1.dx KX G tk1);have V2:wA l.prog w K mg base 1 qV:=Qc (k:=0) T (d2.dx KX G tk2)
 have V3: ∀n,wZ l.prog w K mg base (0+n) (j7 n):=by
  intro n
  induction n with
  |zero=>exact jbB false (d3.dx KX G tk1)
  |succ n ih=>exact WE (k:=0+n) T (d3.dx KX G tk1) ih
 have V4:zf l.prog w K mg base 1 jR:=yd (k:=0) T (d4.dm tk2) zY (aaC KX G wF) ⟨Qg,Qo⟩;have V5:qX l.prog w K mg base 1 jl:=Jh (k:=0) T (d5.dm tk2) zY;have V6:qM l.prog w K mg base 1 jv:=yL (k:=0) T (d6.dm tk2) zY;have V7:qJ l.prog w K mg base 2 ju:=xg (k:=1) T (d7.dm tk1) zY (V6.mono (by decide));have V9:Js l.prog w K mg base 1 Zk:=Xw (k:=0) T (d9.dx KX G tk1);have V10:Jv l.prog w K mg base 2 Jx:=Xz (k:=1) T (d10.dx KX G tk1) (V9.mono (by decide));have V11:QD l.prog w K mg base 1 yY:=KC (k:=0) T (d11.dx KX G tk1);have V12:Jt l.prog w K mg base 3 zi:=Xx (k:=2) T (d12.dx KX G tk1) (V10.mono (by decide)) (V11.mono (by decide))
 have V13: ∀n,qi l.prog w K mg base (3+2*n) (je n):=by
  intro n
  induction n with
  |zero=>exact jbz (d13.dm tk2) zY rfl
  |succ n ih=>
   have Vr:qz l.prog w K mg base (3+2*n+1) (jw (je n)):=wO (k:=3+2*n) T (d8.dm tk2) zY (V5.mono (by omega)) ih;exact xx (k:=3+2*n+1) T (d13.dm tk2) zY (V5.mono (by omega)) (V7.mono (by omega)) Vr (V12.mono (by omega)) (V6.mono (by omega))
 have V14:Wd l.prog w K mg base 1 wo:=VU (k:=0) T (d14.dx KX G tk1);have V15:wX l.prog w K mg base 2 qs:=QI (k:=1) T (d15.dx KX G tk1) (V14.mono (by decide));have V16:Ju l.prog w K mg base 3 zj:=Xy (k:=2) T (d16.dx KX G tk1) (V15.mono (by decide));have V17:kN l.prog w K mg base 128 xf:=jaG (k:=127) T (d17.dx KX G tk1) V4 (by decide) ((V13 62).mono (by decide)) (V16.mono (by decide));have V18:yx l.prog w K mg base 1 qK:=WC (k:=0) T (d18.dx KX G tk3);have V19:yy l.prog w K mg base 2 zZ:=WG (k:=1) T (d19.dx KX G tk2) (V18.mono (by decide));have V20:w6 l.prog w K mg base 1 qN:=QJ (k:=0) T (d20.dx KX G tk3);have V21:Jw l.prog w K mg base 3 zl:=XA (k:=2) T (d21.dx KX G tk1) (V19.mono (by decide)) (V20.mono (by decide));have V22:xP l.prog w K mg base 1 zG:=ZD (k:=0) T (d22.dx KX G tk1);have V23:xS l.prog w K mg base 129 qe:=ZG (k:=128) T (d23.dx KX G tk1) (V17.mono (by decide)) (V21.mono (by decide)) (V22.mono (by decide))
 have V24: ∀n,wY l.prog w K mg base (0+n) (j6 n):=by
  intro n
  induction n with
  |zero=>exact jbB true (d24.dx KX G tk2)
  |succ n ih=>exact WD (k:=0+n) T (d24.dx KX G tk2) ih
 have V25: ∀n,w5 l.prog w K mg base (0+n) (j0 n):=by
  intro n
  induction n with
  |zero=>exact jbB true (d25.dx KX G tk3)
  |succ n ih=>exact WF (k:=0+n) T (d25.dx KX G tk3) ih
 have V26:wz l.prog w K mg base 1 qw:=Qb (k:=0) T (d26.dx KX G tk2);exact jcv (k:=129) T U (V0.mono (by decide)) (V1.mono (by decide)) (V2.mono (by decide)) ((V3 100).mono (by decide)) (V23.mono (by decide)) ((V24 64).mono (by decide)) ((V25 6).mono (by decide)) (V26.mono (by decide))
end G
namespace G
open PySem PySem.Spec L2 M
open Builtin.Int (intBits)
local macro_rules | `(tactic| decreasing_trivial) => `(tactic| first
  | (dsimp only [List.set, Vt, Vp, Vs, Vo, kZ, Vq, Vn, Vm])
  | (with_reducible (show _ = _; assumption))
  | (with_reducible first | apply jD | apply JX | apply u0 | apply jcV | apply qf | apply Jd | apply jf | apply jh | apply jZ | apply qA | apply yC | apply Q2 | apply xB | apply jA | apply zT | apply kI | apply VT | apply qg | apply jV | apply uG | apply QY | apply WM | apply uS | apply eqR_int' | apply YL | apply ix0 | apply Ui | apply zp | apply kL | apply JG)
  | ((with_reducible apply jdx); exact rfl) | ((with_reducible apply wC); exact rfl)
  | ((with_reducible show cD _ = _); exact rfl)
  | ((with_reducible show isiD _ _ = _); exact rfl)
  | ((with_reducible show lenD _ = _); exact rfl)
  | ((with_reducible show List.contains _ _ = _); exact rfl)
  | ((with_reducible show fldD _ _ _ = _); exact rfl)
  | ((with_reducible show getElem? _ _ = _); exact rfl)
  | ((with_reducible show abN _ = _); exact rfl)
  | ((with_reducible show qP _ = _); exact rfl)
  | ((with_reducible show vH _ = _); exact rfl)
  | ((with_reducible show isN _ _ = _); exact rfl)
  | ((with_reducible show slD _ _ _ = _); exact rfl)
  | ((with_reducible show JW _ = _); exact rfl)
  | ((with_reducible show addD _ _ = _); exact rfl)
  | ((with_reducible show augI _ _ _ = _); exact rfl)
  | ((with_reducible show iOp _ _ _ _ = _); exact rfl)
  | ((with_reducible show ite _ _ _ = _); first | refine jdK (by first | rfl | assumption) ?_ | refine jdL (by first | rfl | assumption) ?_)
  | ((with_reducible show _ < _); first | omega | (simp only [aab, aav, aai, aaK]; omega)) | ((with_reducible show _ <= _); first | omega | (simp only [aab, aav, aai, aaK]; omega)) | ((with_reducible show _ /\ _); omega))
local macro_rules | `(tactic| decreasing_with $t) => `(tactic| (apply Eq.trans (b := Res.ok _); (repeat' decreasing_trivial); all_goals (try ($t))))
def abc:Str:= "abcdefghijklmnopqrstuvwxyz"
def cut1 (x:D) (r:List D):cutD (x::r) (some 1) none=r:=by
 have h1:HT.sIx (x::r).length 0 (some 1)=1:=by
  have:=HT.sIx_nat (x::r).length 0 1;simp only [aab] at this ⊢;exact this.trans (by omega)
 unfold cutD;rw [h1,HT.sIx_none];simp
def jaw {d:D} (h:jaJ d=true):wo [d]= .ok (.tup (kids d)):=by
 cases d with
 |tup ds=>
  cases ds with
  |nil=>rfl
  |cons x r=>
   show Res.ok (D.tup (cutD (x::r) (some 1) none))=_;rw [cut1];rfl
 |_=>first|rfl|cases h
def WO {row:List D} (h:fines row=true) (hl:row.length<=1000):qs [.lst row]= .ok (.lst (zO row)):=by
 have key:=WS (body:=yj (gN 2) (Qt 1 (jN 1 wo (ja (rdS 2) nil1)))) (fun (a:List D×Slot)=>[.shr (.lst row),.own (.lst a.1),a.2]) (fun a d=>(a.1++kids d,.shr d)) (fun ds a=>fines ds=true/\a.1.length+(zO ds).length<=10000) (fun d ds a ⟨h1,h2⟩=>by
  simp only [fines,aap] at h1;have e:zO (d::ds)=kids d++zO ds:=rfl;rw [e,aai] at h2;refine ⟨?_,h1.2,by simp only [aai];omega⟩;show Qt 1 (jN 1 wo (ja (rdS 2) nil1)) [.shr (.lst row),.own (.lst a.1),.shr d]=_;show (Res.ok a.1>>=fun ds=>wo [d]>>=_)=_;rw [jaw (vR h1.1)]
  exact jm (c:=a.1.length+(kids d).length<=aae) (aaq (by omega:_<=10000) (by decide))) row ([],.un) ⟨h,by have:=kF h;simp only [aav];omega⟩
 have hfold: ∀(ds:List D) (a:List D×Slot),(ds.foldl (fun (a:List D×Slot) d=>(a.1++kids d,Slot.shr d)) a).1=a.1++zO ds:=by
  intro ds
  induction ds with
  |nil=>intro a;simp [zO]
  |cons d ds ih=>intro a;rw [List.foldl_cons,ih];simp [zO]
 have e1:zM wo (j4 3 [.lst row])= .ok (.rt true (.lst (zO row))):=by
  unfold zM;have h1:j4 3 [.lst row]=[.shr (.lst row),.un,.un]:=rfl;rw [h1];show (forD (yj (gN 2) (Qt 1 (jN 1 wo (ja (rdS 2) nil1)))) row [.shr (.lst row),.own (.lst []),.un]>>=_)=_;rw [key];show Res.ok (Out.rt true (D.lst (row.foldl (fun (a:List D×Slot) d=>(a.1++kids d,Slot.shr d)) ([],.un)).1))=_;rw [hfold];simp
 exact yN e1
def Q9:Sl->Res Out:=(seqO (jF 2 (two (rdS 2) (cI 1) (augI fun i j=>i+j)))
 (seqO (jF 3 (two (rdS 3) (app (ja (rdS 1) nil1) lenD) (augI fun i j=>i+j)))
 (seqO (ifO (orB (asB (two (rdS 2) (cI 60) gtI)) (asB (two (rdS 3) (cI 1000) gtI))) (retO (cB true)) nxO)
 (jF 1 (jN 1 qs (ja (rdS 1) nil1))))))
def KO {d:D} {row:List D} {dp ct:Nat} (h:fines row=true):Q9 [.shr d,.shr (.lst row),.shr (.int dp),.shr (.int ct)]=if 60<dp+1\/1000<ct+row.length then .ok (.rt true (.bl true)) else .ok (.nx [.shr d,.shr (.lst (zO row)),.shr (.int ((dp+1:Nat):Int)),.shr (.int ((ct+row.length:Nat):Int))]):=by
 have e0:Q9 [.shr d,.shr (.lst row),.shr (.int dp),.shr (.int ct)]=((if decide ((60:Int)< (dp:Int)+1)=true then Res.ok true else Res.ok (decide ((1000:Int)< (ct:Int)+row.length)))>>=fun b=>(if b=true then Res.ok (Out.rt true (.bl true)) else Res.ok (.nx [.shr d,.shr (.lst row),.shr (.int ((dp:Int)+1)),.shr (.int ((ct:Int)+row.length))])))>>=outK (jF 1 (jN 1 qs (ja (rdS 1) nil1))):=by
   unfold Q9;rw [yi,Y4];show (seqO _ _) _=_;rw [yi];rfl
 rw [e0]
 by_cases h1:60<dp+1
 · rw [if_pos (by simp;omega),if_pos (.inl h1)];rfl
 · rw [if_neg (by simp;omega)]
   by_cases h2:1000<ct+row.length
   · rw [if_pos (.inr h2)];have:decide ((1000:Int)< (ct:Int)+row.length)=true:=by simp;omega
     rw [this];rfl
   · rw [if_neg (by omega)];have:decide ((1000:Int)< (ct:Int)+row.length)=false:=by simp;omega
     rw [this];show (qs [.lst row]>>=_)=_;rw [WO h (by omega)];show Res.ok (Out.nx [.shr d,.shr (.lst (zO row)),.shr (.int ((dp:Int)+1)),.shr (.int ((ct:Int)+row.length))])=_;simp
theorem Q8 (d:D): ∀(n:Nat) (row:List D) (dp ct:Nat),fines row=true->dp<=60->ct<=1000->62<=dp+n->
  ((60<dp+hgts row\/1000<ct+nums row)->qB n (truF (rdS 1)) Q9 [.shr d,.shr (.lst row),.shr (.int dp),.shr (.int ct)]= .ok (.rt true (.bl true)))/\
  (¬(60<dp+hgts row\/1000<ct+nums row)-> ∃env,qB n (truF (rdS 1)) Q9 [.shr d,.shr (.lst row),.shr (.int dp),.shr (.int ct)]= .ok (.nx env))
 |0,_,dp,ct,_,h1,_,h2=>by omega
 |n+1,row,dp,ct,hf,h1,h2,h3=>by
  cases row with
  |nil=>
   simp only [hgts,nums];exact ⟨fun h=>by omega,fun _=>⟨_,xV rfl⟩⟩
  |cons x r=>
   have hs:=KO (d:=d) (dp:=dp) (ct:=ct) hf;have hb:=KN (x::r) (by simp);have hn:=KD (x::r)
   by_cases hg:60<dp+1\/1000<ct+(x::r).length
   · rw [if_pos hg] at hs;exact ⟨fun _=>xj rfl hs,fun h=>absurd (show 60<dp+hgts (x::r)\/1000<ct+nums (x::r) by omega) h⟩
   · rw [if_neg hg] at hs;have ih:=Q8 d n (zO (x::r)) (dp+1) (ct+(x::r).length) (XU hf) (by omega) (by omega) (by omega);rw [JV rfl hs,hb,hn]
     constructor
     · intro h;exact ih.1 (by omega)
     · intro h;exact ih.2 (by omega)
def isGr (d:D):Bool:=decide (60<hgt d\/1000<num d)
def jcR {d:D} (h:fine d=true):zj [d]= .ok (.bl (isGr d)):=by
 have hl:=Q8 d 2000 [d] 0 0 (by simp [fines,h]) (by omega) (by omega) (by omega);have e1:hgts [d]=hgt d:=by simp [hgts]
 have e2:nums [d]=num d:=by simp [nums]
 rw [e1,e2] at hl;simp only [Nat.zero_add] at hl
 have e0:x4 qs (j4 4 [d])=(qB 2000 (truF (rdS 1)) Q9 [.shr d,.shr (.lst [d]),.shr (.int ((0:Nat):Int)),.shr (.int ((0:Nat):Int))]>>=outK (retO (cB false))):=by
   unfold x4;rw [yi];show (seqO _ _) _=_;rw [yi];rfl
 by_cases hg:60<hgt d\/1000<num d
 · have:isGr d=true:=by simp [isGr,hg]
   rw [this];refine yN (o:= .rt true (.bl true)) ?_;rw [e0,hl.1 hg];rfl
 · have:isGr d=false:=by simp [isGr];omega
   rw [this];obtain ⟨env,he⟩:=hl.2 hg;refine yN (o:= .rt true (.bl false)) ?_;rw [e0,he];rfl
def isNm:D->Bool| .str z=>(decide (1<=(z.length:Int))&&decide ((z.length:Int)<=8))&&z.cps.toList.all (fun c=>inS ⟨#[c]⟩ abc)|_=>false
def JO (z:Str):isNm (.str z)=((decide (1<=(z.length:Int))&&decide ((z.length:Int)<=8))&&z.cps.toList.all (fun c=>inS ⟨#[c]⟩ abc)):=rfl
def uh {α:Type} (l:List α) (p:α->Bool):allD [.lst (l.map fun c=>D.bl (p c))]= .ok (.bl (l.all p)):=by
 have:l.map (fun c=>D.bl (p c))=(l.map p).map D.bl:=by simp
 rw [this];show (match X5 ((l.map p).map D.bl) with|some bs=>Res.ok (D.bl (bs.all id))|none=>Res.stuck)=_;rw [ug];simp
def Vv (z:Str):(QG z).length=z.length:=by simp [QG,ac6]
def jcD {d:D} (h:jaJ d=true):yY [d]= .ok (.bl (isNm d)):=by
 cases d with
 |str z=>
  have e1:xF (j4 1 [.str z])= .ok (.rt true (.bl (isNm (.str z)))):=by
   have h0:j4 1 [.str z]=[.shr (.str z)]:=rfl;rw [h0];have hi:isiD "str" (.str z)= .ok (.bl true):=rfl;have hl:lenD [.str z]= .ok (.int z.length):=rfl;rw [JO]
   by_cases h2:(z.length:Int)<=8
   · have key:W1 false 1 [] (itF (rdS 0)) (gN 0) yk (two (rdS 0) (cS "abcdefghijklmnopqrstuvwxyz") inD) [.shr (.str z)]= .ok (.lst ((QG z).map fun d=>D.bl (match d with| .str c=>inS c abc|_=>false))):=by
      refine jdR _ (fun d=> ∃c,d= .str c) (ds:=QG z) rfl (by intro d hd;obtain ⟨c,_,e⟩:=abL.mp hd;exact ⟨_,e.symm⟩) (by rw [Vv];exact aaq (by omega:z.length<=8) (by decide)) ?_;rintro d acc ⟨c,e⟩;subst e;rfl
     have hany:(QG z).all (fun d=>match d with| .str c=>inS c abc|_=>false)=(z.cps.toList.all (fun c=>inS ⟨#[c]⟩ abc)):=by
      simp only [QG,List.all_map];rfl
     have h2':decide ((z.length:Int)<=8)=true:=by simp;omega
     generalize z.cps.toList.all (fun c=>inS ⟨#[c]⟩ abc)=q at hany ⊢;simp only [xF,hi,hl,key,yi,Ze,WV,XV,Y6,ZY,UF,Y7,JQ,XW,wx,Y3,jbd,UI,ZX,jcZ,uP,XX,UH,UG,VS,Xu,acn,Yb,if_true,abV,ach,if_false,decide_eq_true_eq,JR,kn,uh,hany]
     by_cases h1:(1:Int)<=z.length<;>simp [h1,h2]
   · have h2':decide ((z.length:Int)<=8)=false:=by simp;omega
     simp only [xF,hi,hl,yi,Ze,WV,XV,Y6,ZY,UF,Y7,JQ,XW,wx,Y3,jbd,UI,ZX,jcZ,uP,XX,UH,UG,VS,Xu,acn,Yb,if_true,abV,ach,if_false,decide_eq_true_eq,JR,kn]
     by_cases h1:(1:Int)<=z.length<;>simp [h1,h2,h2']
  exact yN e1
 |_=>first|rfl|cases h
def Low (z:Str):Prop:= ∀c∈z.cps.toList,inS ⟨#[c]⟩ abc=true
def ZN {a b:Str} (ha:Low a) (hb:Low b):Low (a++b):=fun c hc=>by
 have h:c∈(a.cps++b.cps).toList:=hc;rw [Array.toList_append,aa4] at h;exact h.elim (ha c) (hb c)
def XJ {z:Str} (lo hi:Option Int) (h:Low z):Low (cutS z lo hi):=fun c hc=>by
 unfold cutS at hc
 split at hc
 · exact h c hc
 · simp only [acj] at hc;obtain ⟨i,_,hi⟩:=hc;exact h c (by rw [←ab0] at hi;exact List.mem_of_getElem? hi)
def jbL:Low abc:=by
 intro c hc;have:abc.cps.toList.all (fun c=>inS ⟨#[c]⟩ abc)=true:=by decide+kernel
 exact aaT.mp this c hc
def ixS2 {z:Str} {i:Int} (h0:0<=i) (h1:i<z.length): ∃c,ixD (.str z) (.int i)= .ok (.str ⟨#[c]⟩)/\c∈z.cps.toList:=by
 obtain ⟨c,hc,hm⟩:=kG (xs:=z.cps.toList) h0 (by simpa [ac6] using h1);exact ⟨c,by simp only [ixD];rw [hc],hm⟩
def Uk {c:Nat} (h:c∈abc.cps.toList):Low ⟨#[c]⟩:=fun x hx=>by
 have:x=c:=by simpa using hx
 rw [this];exact jbL c h
def uI (i:Int) (n:Nat) (h:0<=i):(aal none (some i) 1 n).length<=i.toNat:=by
 unfold aal sliceRange;simp only [show (1:Int)>0 by decide,if_true,aaK,ac9]
 split<;>(try split)<;>(try split)<;>(try simp only [Int.ediv_one])<;>omega
def uJ (i:Int) (n:Nat) (h:0<=i):(aal (some i) none 1 n).length<=n-i.toNat:=by
 unfold aal sliceRange;simp only [show (1:Int)>0 by decide,if_true,aaK,ac9]
 split<;>(try split)<;>(try split)<;>(try simp only [Int.ediv_one])<;>omega
def Kg (z:Str) (lo hi:Option Int):(cutS z lo hi).length<=(aal lo hi 1 z.length).length:=by
 unfold cutS
 split
 · rename_i h;rw [beq_iff_eq] at h;omega
 · show ((aal lo hi 1 z.length).filterMap (z.cps[·]?)).toArray.size<=_;rw [aag];exact List.length_filterMap_le _ _
def XR {z:Str} (h1:1<=z.length) (h2:z.length<=8) (h:Low z):isNm (.str z)=true:=by
 rw [JO];simp only [aap,decide_eq_true_eq,aaT];exact ⟨⟨by omega,by omega⟩,h⟩
def kM:abc.length=26:=by decide
def big1:20000<=aae:=by decide
def wJ {k:Nat} (h:k<=20000):k<=aae:=aaq h big1
theorem Ki {cs:List Slot} {fe:TN} (h:D->D) (P:D->Prop) (hf: ∀d acc,P d->fe (.shr d::(cs++[.own (.lst acc)]))= .ok (h d)):
  ∀(ds:List D) (x:Slot) (acc:List D),(∀d∈ds,P d)->acc.length+ds.length<=aae->
   ∃(y:Slot),xM (1+cs.length) (gN 0) yk fe ds (x::(cs++[.own (.lst acc)]))= .ok (y::(cs++[.own (.lst (acc++ds.map h))]))
 | [],x,acc,_,_=>⟨x,by simp [xM]⟩
 |d::ds,x,acc,hP,hl=>by
  simp only [aab] at hl;have ht:=hf d acc (hP d (by simp));obtain ⟨y,h1⟩:=Ki h P hf ds (.shr d) (acc++[h d]) (fun e he=>hP e (by simp [he])) (by simp only [aai,aab,aav];omega);refine ⟨y,?_⟩
  have e1:ownL (1+cs.length) (.shr d::(cs++[.own (.lst acc)]))= .ok acc:=by
   unfold ownL;rw [show (1+cs.length)=cs.length+1 by omega,abW,aan (aas _)];simp
  have e2:(Slot.shr d::(cs++[Slot.own (.lst acc)])).set (1+cs.length) (.own (.lst (acc++[h d])))= .shr d::(cs++[.own (.lst (acc++[h d]))]):=by
   rw [show (1+cs.length)=cs.length+1 by omega,List.set_cons_succ,List.set_append_right _ _ (aas _)];simp
  show (fe (.shr d::(cs++[.own (.lst acc)]))>>=_)=_;rw [ht];show (ownL (1+cs.length) (.shr d::(cs++[.own (.lst acc)]))>>=_)=_;rw [e1];show must _ _=_;rw [jm (by omega)];show xM _ _ _ _ ds ((Slot.shr d::(cs++[Slot.own (.lst acc)])).set (1+cs.length) (.own (.lst (acc++[h d]))))=_;rw [e2,h1];simp
def jbt {js:List Nat} {fi:TK} {fe:TN} {env:Sl} {ds:List D} {cs:List Slot} (h:D->D) (P:D->Prop) (hc:js.map (capS false env)=cs) (hi:fi env= .ok ds) (hP: ∀d∈ds,P d) (hl:ds.length<=aae)
  (hf: ∀d acc,P d->fe (.shr d::(cs++[.own (.lst acc)]))= .ok (h d)):W1 false 1 js fi (gN 0) yk fe env= .ok (.lst (ds.map h)):=by
 obtain ⟨y,h1⟩:=Ki (cs:=cs) h P hf ds .un [] hP (by simpa using hl);have hlen:js.length=cs.length:=by rw [←hc];simp
 show (fi env>>=_)=_;rw [hi];show (xM (1+js.length) (gN 0) yk fe ds (xL false 1 js env)>>=_)=_
 have he:xL false 1 js env= .un::(cs++[.own (.lst [])]):=by
  unfold xL;rw [hc];rfl
 rw [he,hlen,h1];show (ownL (1+cs.length) (y::(cs++[.own (.lst ([]++ds.map h))]))>>=_)=_
 have e1:ownL (1+cs.length) (y::(cs++[.own (.lst ([]++ds.map h))]))= .ok (ds.map h):=by
  unfold ownL;rw [show (1+cs.length)=cs.length+1 by omega,abW,aan (aas _)];simp
 rw [e1];exact jm (c:=false=true->D.imms (ds.map h)=true) (fun h=>by cases h)
def yq {c:Int} (h:intBits c<=2^20+1): ∃m:Int,qo [.int c]= .ok (.int m):=by
 have e0:j4 1 [.int c]=[.shr (.int c)]:=rfl
 obtain ⟨m,hm,_⟩:NumR (two (two (two (two (rdS 0) (cI 29) addD) (two (cI 7) (cI 61) powI) mulI) (two (cI 11) (cI 63) powI) mulI) (two (cI 13) (cI 9) powI) mulI) [.shr (.int c)] (max (2^20+1) 5+1+(3*61+1)+(4*63+1)+(4*9+1)):=
  XF (XF (XF (V8 (uC rfl h) (jcz (by decide))) (XD (k:=61) (by decide) (by decide) (by decide)) (by decide)) (XD (k:=63) (by decide) (by decide) (by decide)) (by decide)) (XD (k:=9) (by decide) (by decide) (by decide)) (by decide)
 have ht:two (cI 10) (cI 60) powI [.shr (.int c)]= .ok (.int (10^60)):=jf rfl rfl (uA ⟨by decide,by decide,by decide⟩);have hb:intBits ((10:Int)^60)<=4*60+1:=intBits_pow_le (by decide) 60;have hp:(0:Int)<10^60:=Int.pow_pos (by decide);refine ⟨_,Zx (d:=(.int (m%(10^60*10^60)))) ?_⟩;rw [e0];exact qf (jf hm (jf ht ht (Uc (show intBits _+intBits _<=_ by omega))) (WM (Int.mul_pos hp hp)))
def KU (ds:List Int): ∃c:Int,qV [.scr (ds.map D.int),.int 0]= .ok (.int c)/\(c=0\/c∈ds):=by
 cases ds with
 |nil=>exact ⟨0,rfl,.inl rfl⟩
 |cons c r=>
  refine ⟨c,?_,.inr (by simp)⟩;refine jb5 (d:=(.int c)) ?_;have e0:j4 2 [.scr ((c::r).map D.int),.int 0]=[.shr (.scr ((c::r).map D.int)),.shr (.int 0)]:=rfl;rw [e0]
  have ht:asB (two (rdS 1) (app (ja (rdS 0) nil1) lenD) ltI) [.shr (.scr ((c::r).map D.int)),.shr (.int 0)]= .ok true:=by
   refine jA (jf rfl (qA (jh rfl rfl) rfl) ?_);show Res.ok (D.bl (decide ((0:Int)< (((c::r).map D.int).length:Nat))))=_;simp
  refine zg ((if_t ht).trans (Jd (jf rfl rfl ?_)));have:=M.atI_nat (xs:=(c::r).map D.int) (k:=0);simp only [ixD];rw [show ((0:Int))=((0:Nat):Int) from rfl,this];rfl
def cs (z:Str):List Nat:=z.cps.toList
def mk (l:List Nat):Str:=⟨l.toArray⟩
def QM (l:List Nat):cs (mk l)=l:=by simp [cs,mk]
def zt (z:Str):(cs z).length=z.length:=abk
def xa (l:List Nat):(mk l).length=l.length:=by simp [mk,ac6]
def jc5 (a b:Str):cs (a++b)=cs a++cs b:=PySem.W.KT.app_list a b
def vE (z:Str):mk (cs z)=z:=by simp [cs,mk]
def jcG (a b:List Nat):mk a++mk b=mk (a++b):=adc (by show cs _=cs _;rw [jc5,QM,QM,QM])
def Yi {a b:Str} (h:cs a=cs b):a=b:=adc h
theorem Q1 (l:List Nat): ∀n,(abu n).filterMap (fun k=>l[k]?)=l.take n
 |0=>by simp
 |n+1=>by
  rw [List.range_succ,List.filterMap_append,Q1 l n,List.take_succ];cases h:l[n]?<;>simp [h]
def Z8 (z:Str) (a b:Nat) (h1:a<=b) (h2:b<=z.length):cs (cutS z (some (a:Int)) (some (b:Int)))=((cs z).drop a).take (b-a):=by
 have hi:aal (some (a:Int)) (some (b:Int)) 1 z.length=(abu (b-a)).map (a+ ·):=by
   unfold aal sliceRange;have e1: ¬((a:Int)<0):=by omega
   have e2: ¬((b:Int)<0):=by omega
   have e3:max (0:Int) (min (a:Int) (z.length:Int))=a:=by omega
   have e4:max (0:Int) (min (b:Int) (z.length:Int))=b:=by omega
   simp only [e1,e2,e3,e4,if_false,if_true,gt_iff_lt,Int.zero_lt_one,show ((1:Int)>0)=True by simp]
   have e5:(if (a:Int)<b then ((b:Int)-a+1-1)/1 else 0).toNat=b-a:=by
    split<;>omega
   rw [e5];apply List.map_congr_left;intro k _;omega
 unfold cutS;rw [hi]
 split
 · rename_i hc;simp only [aaK,ac9,beq_iff_eq] at hc;have ha:a=0:=by omega
   have hb:b=z.length:=by omega
   subst ha hb;rw [List.drop_zero,Nat.sub_zero,←zt,List.take_length]
 · show (List.filterMap (fun x=>z.cps[x]?) ((abu (b-a)).map (a+ ·))).toArray.toList=_;rw [List.filterMap_map]
   have:(abu (b-a)).filterMap ((fun x=>z.cps[x]?) ∘ (a+ ·))=(abu (b-a)).filterMap (fun k=>((cs z).drop a)[k]?):=by
    congr 1;funext k;simp [cs]
   rw [this,Q1]
def jbr (z:Str) (b:Nat) (h:b<=z.length):cs (cutS z none (some (b:Int)))=(cs z).take b:=by
 have e:cutS z none (some (b:Int))=cutS z (some ((0:Nat):Int)) (some (b:Int)):=by
  have:aal none (some (b:Int)) 1 z.length=aal (some ((0:Nat):Int)) (some (b:Int)) 1 z.length:=by
   unfold aal;have e:max (0:Int) (min 0 (z.length:Int))=0:=by omega
   simp [e]
  unfold cutS;rw [this]
 rw [e,Z8 z 0 b (acL _) h,List.drop_zero,Nat.sub_zero]
def Five (d:D):Prop:= ∃xs:List D,d= .lst xs/\xs.length=5/\ ∀x∈xs,∃z:Str,x= .str z/\isNm (.str z)=true
def XG (m:Int): ∃d,zH [.int m]= .ok d/\Five d:=by
 have hs:1<=1+m%8/\1+m%8<=8:=by omega
 have e0:j4 8 [.int m]=[.shr (.int m),.un,.un,.un,.un,.un,.un,.un]:=rfl;generalize hsz:1+m%8=sz at hs
 obtain ⟨env1,l1,n1,f1,u1,rfl,hf1,lw1⟩:=x6 (body:=yj (gN 4) (seqO (jF 0 (two (rdS 0) (cI 26) divI)) (jF 3 (two (rdS 3) (two (rdS 1) (two (rdS 0) (cI 26) modI) ixD) addD))))
   (fun ds env=> ∃(n:Int) (f:Str) (u:Slot),env=[.shr (.int n),.shr (.str abc),.shr (.int sz),.shr (.str f),u,.un,.un,.un]/\f.length+ds.length=sz.toNat/\Low f)
   (by
     rintro d ds env ⟨n,f,u,rfl,hl,lw⟩;obtain ⟨c,hc,hcm⟩:=ixS2 (z:=abc) (i:=n/26%26) (by omega) (by rw [kM];omega);simp only [aab] at hl;have hlen:(f++(⟨#[c]⟩:Str)).length=f.length+1:=aa8 _ _;refine ⟨[.shr (.int (n/26)),.shr (.str abc),.shr (.int sz),.shr (.str (f++(⟨#[c]⟩:Str))),.shr d,.un,.un,.un],?_,_,_,_,rfl,by rw [hlen];omega,ZN lw (Uk hcm)⟩;rw [y0 (env':=[.shr (.int n),.shr (.str abc),.shr (.int sz),.shr (.str f),.shr d,.un,.un,.un]) rfl];rw [qt (env':=[.shr (.int (n/26)),.shr (.str abc),.shr (.int sz),.shr (.str f),.shr d,.un,.un,.un]) rfl]
     refine (jD (jf rfl (jf rfl rfl hc) (jm (c:=f.length+(⟨#[c]⟩:Str).length<=aae) (aaq (show f.length+1<=8 by omega) (by decide))))).trans rfl)
   (wQ 0 sz.toNat) [.shr (.int m),.shr (.str abc),.shr (.int sz),.shr (.str ""),.un,.un,.un,.un] ⟨m, "",.un,rfl,by rw [WP,show ("" :Str).length=0 by decide,Nat.zero_add],fun c hc=>by cases hc⟩
 simp only [aav] at hf1;have hat:0<=n1/26%sz/\n1/26%sz<sz:=⟨Int.emod_nonneg _ (by omega),Int.emod_lt_of_pos _ (by omega)⟩
 generalize hq:n1/26%sz=at1 at hat;obtain ⟨c1,hc1⟩:=ixS (z:=f1) (i:=at1) hat.1 (by omega)
 obtain ⟨env2,l2,xs,k2,s2,rfl,_,hx,hxs⟩:=x6 (body:=yj (gN 4) (seqO (jF 7 (two (rdS 1) (two (two (smF (rdS 1) (ja (two (rdS 3) (rdS 5) ixD) nil1) vS) (two (cI 7) (rdS 4) mulI) addD) (cI 26) modI) ixD))
   (ql 6 (two (two (jH (rdS 3) qP (jJ (rdS 5)) slD) (rdS 7) addD) (jH (rdS 3) (jJ (two (rdS 5) (cI 1) addD)) qP slD) addD))))
   (fun ds env=> ∃(xs:List D) (k s:Slot),env=[.shr (.int n1),.shr (.str abc),.shr (.int sz),.shr (.str f1),k,.shr (.int at1),.own (.lst xs),s]/\(∀d∈ds,∃k:Int,d= .int k/\0<=k/\k<0+(4:Nat))/\xs.length+ds.length=4/\ ∀x∈xs,∃z:Str,x= .str z/\isNm (.str z)=true)
   (by
     rintro d ds env ⟨xs,k,s,rfl,hd,hl,hx⟩;obtain ⟨j,rfl,hj0,hj1⟩:=hd d (by simp)
     have hm:MulC 7 j:=by
       have:j=0\/j=1\/j=2\/j=3:=by omega
       rcases this with rfl|rfl|rfl|rfl<;>decide
     obtain ⟨c,hc,hcm⟩:=ixS2 (z:=abc) (i:=(Txt.find abc (⟨#[c1]⟩:Str)+7*j)%26) (by omega) (by rw [kM];omega);simp only [aab] at hl;have hA:=aaq (Kg f1 none (some at1)) (uI at1 f1.length (by omega));have hB:=aaq (Kg f1 (some (at1+1)) none) (uJ (at1+1) f1.length (by omega));have h1:(cutS f1 none (some at1)++(⟨#[c]⟩:Str)).length=(cutS f1 none (some at1)).length+1:=aa8 _ _;have h2:((cutS f1 none (some at1)++(⟨#[c]⟩:Str))++cutS f1 (some (at1+1)) none).length=(cutS f1 none (some at1)++(⟨#[c]⟩:Str)).length+(cutS f1 (some (at1+1)) none).length:=aa8 _ _;have hbig:20<=aae:=by decide
     refine ⟨[.shr (.int n1),.shr (.str abc),.shr (.int sz),.shr (.str f1),.shr (.int j),.shr (.int at1),.own (.lst (xs++[.str ((cutS f1 none (some at1)++(⟨#[c]⟩:Str))++cutS f1 (some (at1+1)) none)])),.shr (.str ⟨#[c]⟩)],?_,_,_,_,rfl,fun e he=>hd e (by simp [he]),by simp only [aai,aab,aav];omega,?_⟩
     · rw [y0 (env':=[.shr (.int n1),.shr (.str abc),.shr (.int sz),.shr (.str f1),.shr (.int j),.shr (.int at1),.own (.lst xs),s]) rfl];rw [qt (env':=[.shr (.int n1),.shr (.str abc),.shr (.int sz),.shr (.str f1),.shr (.int j),.shr (.int at1),.own (.lst xs),.shr (.str ⟨#[c]⟩)]) (jD (jf rfl (jf (jf (jdw rfl (jh (jf rfl rfl hc1) rfl) rfl) (jf rfl rfl (Uc hm)) rfl) rfl rfl) hc))];exact (xN (ds:=xs) rfl (jf (jf (qg rfl rfl (jV rfl) rfl) rfl (jm (c:=(cutS f1 none (some at1)).length+(⟨#[c]⟩:Str).length<=aae) (aaq (show _+1<=20 by omega) hbig))) (qg rfl (jV (jf rfl rfl rfl)) rfl rfl) (jm (c:=_+_<=aae) (by omega))) (by omega)).trans rfl
     · intro x hx';rcases aa4.mp hx' with h|h
       · exact hx x h
       · simp only [aaw,abt,or_false] at h
         exact ⟨_,h,XR (by omega) (by omega) (ZN (ZN (XJ _ _ lw1) (Uk hcm)) (XJ _ _ lw1))⟩)
   (wQ 0 4) [.shr (.int n1),.shr (.str abc),.shr (.int sz),.shr (.str f1),u1,.shr (.int at1),.own (.lst []),.un] ⟨[],u1,.un,rfl,fun d hd=>Ug hd,rfl,fun _ h=>by cases h⟩
 simp only [aav,Nat.add_zero] at hx;have hbig:20<=aae:=by decide
 have hlast: ∃w:Str,isNm (.str w)=true/\ifO (asB (two (rdS 2) (cI 8) ltI)) (ql 6 (two (rdS 3) (cS "a") addD)) (ql 6 (jH (rdS 3) qP (jJ (cI 7)) slD)) [.shr (.int n1),.shr (.str abc),.shr (.int sz),.shr (.str f1),k2,.shr (.int at1),.own (.lst xs),s2]= .ok (.nx [.shr (.int n1),.shr (.str abc),.shr (.int sz),.shr (.str f1),k2,.shr (.int at1),.own (.lst (xs++[.str w])),s2]):=by
   have ht:asB (two (rdS 2) (cI 8) ltI) [.shr (.int n1),.shr (.str abc),.shr (.int sz),.shr (.str f1),k2,.shr (.int at1),.own (.lst xs),s2]= .ok (decide (sz<8)):=jA (jf rfl rfl rfl);have hla:(f1++("a" :Str)).length=f1.length+1:=aa8 _ _
   have lwa:Low ("a" :Str):=fun c hc=>by
     have e:("a" :Str).cps.toList=[97]:=by decide+kernel
     rw [e] at hc;simp only [aaw,abt,or_false] at hc;subst hc;decide+kernel
   by_cases h8:sz<8
   · refine ⟨f1++("a" :Str),XR (by omega) (by omega) (ZN lw1 lwa),?_⟩;rw [if_t (by rw [ht,decide_eq_true h8])];exact (xN (ds:=xs) rfl (jf rfl rfl (jm (c:=f1.length+("a" :Str).length<=aae) (aaq (show f1.length+1<=20 by omega) hbig))) (by omega)).trans rfl
   · have hlb:(cutS f1 none (some 7)).length=7:=by
       have e:cs (cutS f1 none (some 7))=(cs f1).take 7:=jbr f1 7 (by omega);have:=congrArg abN e;rw [acA,zt,zt] at this;omega
     refine ⟨cutS f1 none (some 7),XR (by omega) (by omega) (XJ _ _ lw1),?_⟩;rw [if_f (by rw [ht,decide_eq_false h8])];exact (xN (ds:=xs) rfl (qg rfl rfl (jV rfl) rfl) (by omega)).trans rfl
 obtain ⟨w,hw,hlast⟩:=hlast;refine ⟨.lst (xs++[D.str w]),?_,xs++[D.str w],rfl,by simp [hx],?_⟩
 · refine Zx ?_;rw [e0];unfold xG;rw [qt (env':=[.shr (.int m),.shr (.str abc),.un,.un,.un,.un,.un,.un]) rfl];rw [qt (env':=[.shr (.int m),.shr (.str abc),.shr (.int sz),.un,.un,.un,.un,.un]) (by rw [←hsz];rfl)];rw [qt (env':=[.shr (.int m),.shr (.str abc),.shr (.int sz),.shr (.str ""),.un,.un,.un,.un]) rfl]
   rw [qt ((Zd (ds:=wQ 0 sz.toNat) (by
     show must _ _=_
     exact jm (by omega))).trans l1)]
   rw [qt (env':=[.shr (.int n1),.shr (.str abc),.shr (.int sz),.shr (.str f1),u1,.shr (.int at1),.un,.un]) (by rw [←hq];exact (jD (jf (jf rfl rfl rfl) rfl (WM (by omega)))).trans rfl)];rw [qt (env':=[.shr (.int n1),.shr (.str abc),.shr (.int sz),.shr (.str f1),u1,.shr (.int at1),.own (.lst []),.un]) rfl];rw [qt ((Zd (ds:=wQ 0 4) rfl).trans l2)];rw [qt hlast];rfl
 · intro x hx';rcases aa4.mp hx' with h|h
   · exact hxs x h
   · simp only [aaw,abt,or_false] at h;exact ⟨_,h,hw⟩
def Fiv (ns:List Str) (d:D):Prop:=d= .lst (ns.map .str)/\ns.length=5/\ ∀z∈ns,isNm (.str z)=true
def vQ {d:D} (h:Five d): ∃ns,Fiv ns d:=by
 obtain ⟨xs,rfl,hl,hx⟩:=h
 have key: ∀xs:List D,(∀x∈xs,∃z:Str,x= .str z/\isNm (.str z)=true)-> ∃ns:List Str,xs=ns.map .str/\ ∀z∈ns,isNm (.str z)=true:=fun xs=>by
  induction xs with
  |nil=>intro _;exact ⟨[],rfl,fun _ h=>by cases h⟩
  |cons x r ih=>
   intro h;obtain ⟨z,rfl,hz⟩:=h _ (aaA ..);obtain ⟨ns,rfl,hn⟩:=ih fun y hy=>h y (by simp [hy])
   refine ⟨z::ns,rfl,fun y hy=>?_⟩;rcases aaw.mp hy with e|e
   · rw [e];exact hz
   · exact hn y e
 obtain ⟨ns,rfl,hn⟩:=key xs hx;exact ⟨ns,rfl,by simpa using hl,hn⟩
section
variable {ns:List Str}
def Y1 {ns:List Str} {d:D} (h:Fiv ns d) (i:Int) (h0:0<=i) (h1:i<5): ∃z:Str,ixD d (.int i)= .ok (.str z)/\z∈ns:=by
 obtain ⟨rfl,hl,_⟩:=h;obtain ⟨x,hix,hm⟩:=ixL (ds:=ns.map .str) h0 (by rw [aaK];omega);obtain ⟨z,hz,rfl⟩:=abL.mp hm;exact ⟨z,hix,hz⟩
end
def Uy (z:Str) (ts:List D):hgt (.tup (.str z::ts))=1+hgts ts:=by rw [Uz];rfl
def ZI (z:Str) (ts:List D):num (.tup (.str z::ts))=1+nums ts:=by rw [VZ];rfl
def QA (z:Str) (ts:List D):bks (.tup (.str z::ts))=bkss ts:=by simp [bks]
def X6 (i:Int):bks (.int i)=[i]:=by simp [bks]
def low (c:Nat):Bool:=inS (mk [c]) abc
def fig (c:Nat):Bool:=inS (mk [c]) "0123456789"
def nok (w:List Nat):Bool:=decide (1<=w.length/\w.length<=8)
def fok (w:List Nat):Bool:=decide (1<=w.length/\w.length<=3)&&(decide (w.length=1)||!(w.head?==some 48))
def val (w:List Nat):Int:=w.foldl (fun (i:Int) (c:Nat)=>i*10+((c:Int)-48)) 0
def wa (f:List Nat->Option (D×List Nat)):Nat->List Nat->Option (List D×List Nat)
 |0,_=>none
 |m+1,s=>match f s with
  |none=>none
  |some (t,r)=>match r with
   |44::s'=>match wa f m s' with
    |some (ps,r')=>some (t::ps,r')
    |none=>none
   |41::s'=>some ([t],s')
   |_=>none
def leaf (s:List Nat):Option (D×List Nat):=match s with
 |63::s'=>if fok (s'.takeWhile fig)=true then some (.int (val (s'.takeWhile fig)),s'.dropWhile fig) else none
 |_=>if nok (s.takeWhile low)=true then some (.tup [.str (mk (s.takeWhile low))],s.dropWhile low) else none
def xu (f:List Nat->Option (D×List Nat)) (r:List Nat):Option (List D×List Nat):=match r with
 |40::s'=>wa f (s'.length+1) s'
 |_=>some ([],r)
def pt:Nat->List Nat->Option (D×List Nat)
 |0,_=>none
 |k+1,s=>match s with
  |63::s'=>if fok (s'.takeWhile fig)=true then some (.int (val (s'.takeWhile fig)),s'.dropWhile fig) else none
  |_=>match xu (pt k) (s.dropWhile low) with
   |some (ps,r)=>if nok (s.takeWhile low)=true/\ps.length<=9 then some (.tup (.str (mk (s.takeWhile low))::ps),r) else none
   |none=>none
theorem pt_n {k : Nat} {s : List Nat} (h : ∀ s1, s ≠ 63 :: s1) : pt (k + 1) s = match xu (pt k) (s.dropWhile low) with
      | some (ps, r) => if nok (s.takeWhile low) = true /\ ps.length <= 9 then some (.tup (.str (mk (s.takeWhile low)) :: ps), r) else none
      | none => none := by
  conv => lhs; unfold pt
  split
  · exact (h _ rfl).elim
  · rfl
def Qm {s:List Nat} (h: ∀s1,s≠63::s1):leaf s=if nok (s.takeWhile low)=true then some (.tup [.str (mk (s.takeWhile low))],s.dropWhile low) else none:=by
 unfold leaf
 split
 · exact (h _ rfl).elim
 · rfl
def JB {s:List Nat}:leaf (63::s)=if fok (s.takeWhile fig)=true then some (.int (val (s.takeWhile fig)),s.dropWhile fig) else none:=rfl
def pt_q {k:Nat} {s:List Nat}:pt (k+1) (63::s)=leaf (63::s):=rfl
def q_or (s:List Nat):(∃s1,s=63::s1)\/ ∀s1,s≠63::s1:=by
 by_cases h: ∃s1,s=63::s1
 · exact .inl h
 · exact .inr fun s1 e=>h ⟨s1,e⟩
def JN {f:List Nat->Option (D×List Nat)} {r:List Nat} (h: ∀s1,r≠40::s1):xu f r=some ([],r):=by
 unfold xu
 split
 · exact (h _ rfl).elim
 · rfl
def UV (p:Nat->Bool) (s:List Nat):(s.dropWhile p).length<=s.length:=(abo p).length_le
def jcB {s:List Nat} (h:nok (s.takeWhile low)=true):(s.dropWhile low).length<s.length:=by
 have e:=congrArg abN (aaY (p:=low) (l:=s));rw [aai] at e;simp only [nok,decide_eq_true_eq] at h;omega
theorem YO {f:List Nat->Option (D×List Nat)} (hf: ∀s t r,f s=some (t,r)->r.length<s.length): ∀m s ps r,wa f m s=some (ps,r)->r.length<s.length
 |0,s,ps,r,h=>by cases h
 |m+1,s,ps,r,h=>by
  unfold wa at h
  cases e:f s with
  |none=>rw [e] at h;cases h
  |some q=>
   obtain ⟨t,r0⟩:=q;have h0:=hf s t r0 e;rw [e] at h;dsimp only at h
   split at h
   · rename_i s'
     cases e2:wa f m s' with
     |none=>rw [e2] at h;cases h
     |some q=>
      rw [e2] at h;cases h;have:=YO hf m s' _ _ e2;simp only [aab] at h0;omega
   · cases h;simp only [aab] at h0;omega
   · cases h
theorem jap: ∀k s t r,pt k s=some (t,r)->r.length<s.length
 |0,s,t,r,h=>by cases h
 |k+1,s,t,r,h=>by
  unfold pt at h
  split at h
  · rename_i s'
    split at h
    · cases h;have:=UV fig s';simp only [aab];omega
    · cases h
  · split at h
    · rename_i ps r' e
      split at h
      · rename_i hk;cases h;have h1:=jcB hk.1;unfold xu at e
        split at e
        · rename_i s' e2;have:=YO (jap k) _ _ _ _ e;rw [e2] at h1;simp only [aab] at h1;omega
        · cases e;exact h1
      · cases h
    · cases h
inductive Fi:List (List D)->D->List Nat->D->Prop where
 |top {t:D}:Fi [] t [] t
 |close {row:List D} {F:List (List D)} {t u:D} {s:List Nat}:(row++[t]).length<=10->Fi F (.tup (row++[t])) s u->Fi (row::F) t (41::s) u
 |next {row:List D} {F:List (List D)} {t t' u:D} {s s':List Nat}:pt (59-F.length) s=some (t',s')->Fi ((row++[t])::F) t' s' u->Fi (row::F) t (44::s) u
def Go (F:List (List D)) (s:List Nat) (u:D):Prop:= ∃t s',pt (60-F.length) s=some (t,s')/\Fi F t s' u
theorem YN {F:List (List D)} {u:D}: ∀(m:Nat) (row:List D) (s:List Nat),s.length<m->
  ((∃ps r,wa (pt (59-F.length)) m s=some (ps,r)/\(row++ps).length<=10/\Fi F (.tup (row++ps)) r u)↔ ∃t s',pt (59-F.length) s=some (t,s')/\Fi (row::F) t s' u)
 |0,_,_,h=>by omega
 |m+1,row,s,h=>by
  unfold wa
  cases e:pt (59-F.length) s with
  |none=>
   constructor
   · rintro ⟨_,_,z,_⟩;cases z
   · rintro ⟨_,_,z,_⟩;cases z
  |some q=>
   obtain ⟨t,r0⟩:=q;have h0:=jap _ _ _ _ e;dsimp only
   split
   · rename_i s1;simp only [aab] at h0;have ih:=YN (F:=F) (u:=u) m (row++[t]) s1 (by omega)
     constructor
     · rintro ⟨ps,r,z,hl,fn⟩
       cases e2:wa (pt (59-F.length)) m s1 with
       |none=>rw [e2] at z;cases z
       |some q=>
        obtain ⟨ps',r'⟩:=q;rw [e2] at z;cases z;obtain ⟨t',s',e3,fn'⟩:=ih.mp ⟨ps',r,e2,by simpa using hl,by simpa using fn⟩;exact ⟨t,_,rfl,.next e3 fn'⟩
     · rintro ⟨t',s',z,fn⟩;cases z
       cases fn with
       |next e3 fn'=>
        obtain ⟨ps',r',e4,hl,fn2⟩:=ih.mpr ⟨_,_,e3,fn'⟩;rw [e4];exact ⟨_,_,rfl,by simpa using hl,by simpa using fn2⟩
   · rename_i s1
     constructor
     · rintro ⟨ps,r,z,hl,fn⟩;cases z;exact ⟨t,_,rfl,.close hl fn⟩
     · rintro ⟨t',s',z,fn⟩;cases z
       cases fn with
       |close hl fn'=>exact ⟨_,_,rfl,hl,fn'⟩
   · rename_i h1 h2
     constructor
     · rintro ⟨_,_,z,_⟩;cases z
     · rintro ⟨t',s',z,fn⟩;cases z
       cases fn with
       |next _ _=>exact (h1 _ rfl).elim
       |close _ _=>exact (h2 _ rfl).elim
def ja1 {F:List (List D)} {s:List Nat} {u:D} (h:60<=F.length): ¬Go F s u:=by
 rintro ⟨t,s',e,_⟩;rw [show 60-F.length=0 by omega] at e;cases e
def jaZ {F:List (List D)} {s:List Nat} {u:D} (h:leaf s=none): ¬Go F s u:=by
 rintro ⟨t,s',e,_⟩
 cases hk:60-F.length with
 |zero=>rw [hk] at e;cases e
 |succ k=>
  rw [hk] at e;rcases q_or s with ⟨s1,rfl⟩|hq
  · rw [pt_q,h] at e;cases e
  · rw [Qm hq] at h;rw [pt_n hq] at e
    split at h
    · cases h
    · rename_i hf
      split at e
      · rw [if_neg (fun z=>hf z.1)] at e;cases e
      · cases e
def jaY {F:List (List D)} {s s2:List Nat} {x u:D} (hF:F.length<60) (h:leaf s=some (.tup [x],40::s2)):Go F s u↔Go ([x]::F) s2 u:=by
 obtain ⟨k,hk⟩: ∃k,60-F.length=k+1:=⟨59-F.length,by omega⟩
 have hk':k=59-F.length:=by omega
 have hn:(∀s1,s≠63::s1)/\nok (s.takeWhile low)=true/\ .str (mk (s.takeWhile low))=x/\s.dropWhile low=40::s2:=by
   rcases q_or s with ⟨s1,rfl⟩|hq
   · rw [JB] at h
     split at h<;>cases h
   · rw [Qm hq] at h
     split at h
     · rename_i hw;have h':=aaF h;have h1:=congrArg Prod.fst h';have h2:=congrArg Prod.snd h';injection h1 with h1;injection h1 with h1;exact ⟨hq,hw,h1,h2⟩
     · cases h
 obtain ⟨h1,h2,h3,h4⟩:=hn
 have hp:pt (60-F.length) s=match wa (pt k) (s2.length+1) s2 with
     |some (ps,r)=>if nok (s.takeWhile low)=true/\ps.length<=9 then some (.tup (x::ps),r) else none
     |none=>none:=by
   rw [hk,pt_n h1,h4,h3];rfl
 have hlen:60-(([x]:List D)::F).length=59-F.length:=by rw [aab];omega
 have L:=YN (F:=F) (u:=u) (s2.length+1) [x] s2 (by omega);unfold Go;rw [hp,hlen,←L,hk']
 constructor
 · rintro ⟨t,s',e,fn⟩
   cases e2:wa (pt (59-F.length)) (s2.length+1) s2 with
   |none=>rw [e2] at e;cases e
   |some q=>
     obtain ⟨ps,r⟩:=q;rw [e2] at e;dsimp only at e
     split at e
     · rename_i hh;cases e;exact ⟨ps,_,rfl,by simp only [aai,aab,aav];omega,fn⟩
     · cases e
 · rintro ⟨ps,r,e,hl,fn⟩;rw [e];simp only [aai,aab,aav] at hl;exact ⟨_,r,if_pos ⟨h2,by omega⟩,fn⟩
def ja0 {F:List (List D)} {s s1:List Nat} {t u:D} (hF:F.length<60) (h:leaf s=some (t,s1)) (hn: ∀x s2,t= .tup [x]->s1≠40::s2):Go F s u↔Fi F t s1 u:=by
 obtain ⟨k,hk⟩: ∃k,60-F.length=k+1:=⟨59-F.length,by omega⟩
 have hp:pt (60-F.length) s=some (t,s1):=by
   rw [hk];rcases q_or s with ⟨s',rfl⟩|hq
   · exact h
   · rw [Qm hq] at h
     split at h
     · rename_i hw;have h':=aaF h;have h1:=congrArg Prod.fst h';have h2:=congrArg Prod.snd h';dsimp only at h1 h2;rw [pt_n hq,JN (fun s2 e=>hn _ s2 h1.symm (h2▸e)),h2];dsimp only;rw [if_pos ⟨hw,by simp⟩,h1]
     · cases h
 unfold Go;rw [hp]
 constructor
 · rintro ⟨_,_,e,fn⟩;cases e;exact fn
 · exact fun fn=>⟨_,_,rfl,fn⟩
inductive Clo where
 |fail|done (t:D) (s:List Nat)|more (F:List (List D)) (s:List Nat)
def clo:List (List D)->D->List Nat->Clo
 | [],t,s=> .done t s
 |row::F,t,s=>match s with
  |41::s'=>if (row++[t]).length<=10 then clo F (.tup (row++[t])) s' else .fail
  |_=> .more ((row++[t])::F) s
def yU {row:List D} {F:List (List D)} {t:D} {s:List Nat} (h:(row++[t]).length<=10):clo (row::F) t (41::s)=clo F (.tup (row++[t])) s:=if_pos h
def JU {row:List D} {F:List (List D)} {t:D} {s:List Nat} (h: ¬(row++[t]).length<=10):clo (row::F) t (41::s)= .fail:=if_neg h
def JT {row:List D} {F:List (List D)} {t:D} {s:List Nat} (h: ∀s1,s≠41::s1):clo (row::F) t s= .more ((row++[t])::F) s:=by
 unfold clo
 split
 · exact (h _ rfl).elim
 · rfl
theorem kl {u:D}: ∀(F:List (List D)) (t:D) (s:List Nat),Fi F t s u↔match clo F t s with
  | .fail=>False
  | .done t' s'=>s'=[]/\u=t'
  | .more F' s'=> ∃s3,s'=44::s3/\Go F' s3 u
 | [],t,s=>by
  show Fi [] t s u↔s=[]/\u=t
  constructor
  · intro h;cases h;exact ⟨rfl,rfl⟩
  · rintro ⟨rfl,rfl⟩;exact .top
 |row::F,t,s=>by
  have hlen:60-((row++[t])::F).length=59-F.length:=by rw [aab];omega
  by_cases h41: ∃s',s=41::s'
  · obtain ⟨s',rfl⟩:=h41
    by_cases hl:(row++[t]).length<=10
    · rw [yU hl,←kl F _ s']
      constructor
      · intro h
        cases h with
        |close _ f=>exact f
      · exact fun h=> .close hl h
    · rw [JU hl]
      constructor
      · intro h
        cases h with
        |close h _=>exact hl h
      · exact aba
  · rw [JT (fun s1 e=>h41 ⟨s1,e⟩)]
    constructor
    · intro h
      cases h with
      |close _ _=>exact (h41 ⟨_,rfl⟩).elim
      |next e f=>exact ⟨_,rfl,_,_,by rw [hlen];exact e,f⟩
    · rintro ⟨s3,rfl,t',s',e,f⟩;rw [hlen] at e;exact .next e f
def nrow (row:List D):Nat:=1+nums row.tail
def numF (F:List (List D)):Nat:=(F.map nrow).sum
def Rows (F:List (List D)):Prop:= ∀row∈F,∃z r,row=D.str z::r
theorem WK: ∀(r:List D) (t:D),nums (r++[t])=nums r+num t
 | [],t=>by simp [nums]
 |d::r,t=>by rw [ade];simp only [nums];rw [WK r t];omega
def Qf {row:List D} {t:D} (h: ∃z r,row=D.str z::r):nrow (row++[t])=nrow row+num t:=by
 obtain ⟨z,r,rfl⟩:=h;simp only [nrow,ade,ac1];rw [WK];omega
def XC {row:List D} {t:D} (h: ∃z r,row=D.str z::r):num (.tup (row++[t]))=nrow row+num t:=by
 rw [←Qf h];obtain ⟨z,r,rfl⟩:=h;rw [ade,ZI];rfl
def Ys {row:List D} {t:D} (h: ∃z r,row=D.str z::r): ∃z r,row++[t]=D.str z::r:=by
 obtain ⟨z,r,rfl⟩:=h;exact ⟨z,r++[t],rfl⟩
def qT (row:List D) (F:List (List D)):numF (row::F)=nrow row+numF F:=by simp [numF]
def Rows.tail {row:List D} {F:List (List D)} (h:Rows (row::F)):Rows F:=fun r hr=>h r (aar _ hr)
def Rows.cons {row:List D} {F:List (List D)} (h: ∃z r,row=D.str z::r) (h2:Rows F):Rows (row::F):=fun r hr=>by
 rcases aaw.mp hr with rfl|z
 · exact h
 · exact h2 r z
theorem X3: ∀(F:List (List D)) (t:D) (s:List Nat),Rows F->match clo F t s with
  | .fail=>True
  | .done t' _=>num t'=numF F+num t
  | .more F' _=>numF F'=numF F+num t/\Rows F'/\F'.length<=F.length
 | [],t,s,_=>by show num t=numF []+num t;simp [numF]
 |row::F,t,s,R=>by
  have hr:=R row (by simp)
  by_cases h41: ∃s',s=41::s'
  · obtain ⟨s',rfl⟩:=h41
    by_cases hl:(row++[t]).length<=10
    · rw [yU hl];have ih:=X3 F (.tup (row++[t])) s' R.tail
      cases e:clo F (.tup (row++[t])) s' with
      |fail=>trivial
      |done t' s2=>rw [e] at ih;dsimp only at ih ⊢;rw [ih,XC hr,qT];omega
      |more F' s2=>
       rw [e] at ih;dsimp only at ih ⊢;exact ⟨by rw [ih.1,XC hr,qT];omega,ih.2.1,by rw [aab];omega⟩
    · rw [JU hl];trivial
  · rw [JT (fun s1 e=>h41 ⟨s1,e⟩)];exact ⟨by rw [qT,qT,Qf hr];omega,R.tail.cons (Ys hr),by simp⟩
def VY (t:D):1<=num t:=by rw [VZ];omega
def ja5 {F:List (List D)} {t u:D} {s:List Nat} (h:Fi F t s u):Rows F->numF F+num t<=num u:=by
 induction h with
 |top=>intro _;simp [numF]
 |close hl f ih=>
  intro R;have hr:=R _ aaA;have:=ih R.tail;rw [XC hr] at this;rw [qT];omega
 |next e f ih=>
  intro R;have hr:=R _ aaA;have:=ih (R.tail.cons (Ys hr));rw [qT,Qf hr] at this;rw [qT];omega
def jcS {F:List (List D)} {u:D} {s:List Nat} (h:Go F s u) (R:Rows F):numF F<num u:=by
 obtain ⟨t,s',_,f⟩:=h;have:=ja5 f R;have:=VY t;omega
def mach:Nat->List (List D)->List Nat->Option D
 |0,_,_=>none
 |m+1,F,s=>if 60<=F.length then none else match leaf s with
  |none=>none
  |some (t,s1)=>match t,s1 with
   | .tup [x],40::s2=>mach m ([x]::F) s2
   |_,_=>match clo F t s1 with
    | .fail=>none
    | .done t' s2=>if s2=[] then some t' else none
    | .more F' s2=>match s2 with
     |44::s3=>mach m F' s3
     |_=>none
def YR {s s1:List Nat} {x:D} (h:leaf s=some (.tup [x],s1)): ∃z,x= .str z:=by
 rcases q_or s with ⟨s',rfl⟩|hq
 · rw [JB] at h
   split at h<;>cases h
 · rw [Qm hq] at h
   split at h
   · cases h;exact ⟨_,rfl⟩
   · cases h
def YS {s s1:List Nat} {t:D} (h:leaf s=some (t,s1)):num t=1:=by
 rcases q_or s with ⟨s',rfl⟩|hq
 · rw [JB] at h
   split at h<;>cases h
   simp [num]
 · rw [Qm hq] at h
   split at h
   · cases h;simp [num,nums]
   · cases h
theorem XI {u:D}: ∀(m:Nat) (F:List (List D)) (s:List Nat),Rows F->(mach m F s=some u↔Go F s u/\num u<=numF F+m)
 |0,F,s,R=>by
  constructor
  · intro h;cases h
  · rintro ⟨g,h⟩;have:=jcS g R;omega
 |m+1,F,s,R=>by
  unfold mach
  by_cases hF:60<=F.length
  · rw [if_pos hF];exact ⟨(fun h=>nomatch h),fun h=>(ja1 hF h.1).elim⟩
  · rw [if_neg hF]
    cases e:leaf s with
    |none=>exact ⟨(fun h=>nomatch h),fun h=>(jaZ e h.1).elim⟩
    |some q=>
     obtain ⟨t,s1⟩:=q;dsimp only
     split
     · rename_i x s2;obtain ⟨z,rfl⟩:=YR e;rw [jaY (by omega) e,XI m _ _ (R.cons ⟨z,[],rfl⟩),qT];simp only [nrow,ac1,nums]
       constructor<;>rintro ⟨a,b⟩<;>exact ⟨a,by omega⟩
     · rename_i hno;have hn:=YS e;rw [ja0 (by omega) e (fun x s2 e1 e2=>hno x s2 e1 e2),kl];have hc:=X3 F t s1 R
       cases ec:clo F t s1 with
       |fail=>exact ⟨(fun h=>nomatch h),fun h=>h.1.elim⟩
       |done t' s2=>
        rw [ec] at hc;dsimp only at hc ⊢
        constructor
        · intro h
          split at h
          · rename_i h0;cases h;exact ⟨⟨h0,rfl⟩,by omega⟩
          · cases h
        · rintro ⟨⟨h1,h2⟩,_⟩;rw [if_pos h1,h2]
       |more F' s2=>
        rw [ec] at hc;dsimp only at hc ⊢
        split
        · rename_i s3;rw [XI m F' s3 hc.2.1]
          constructor
          · rintro ⟨g,h⟩;exact ⟨⟨s3,rfl,g⟩,by omega⟩
          · rintro ⟨⟨s3',e3,g⟩,h⟩;cases e3;exact ⟨g,by omega⟩
        · rename_i hne
          constructor
          · intro h;cases h
          · rintro ⟨⟨s3,e3,_⟩,_⟩;exact (hne s3 e3).elim
def mach_pt {s:List Nat} {u:D}:mach 1000 [] s=some u↔pt 60 s=some (u,[])/\num u<=1000:=by
 rw [XI 1000 [] s (fun _ h=>by cases h)]
 constructor
 · rintro ⟨⟨t,s',e,f⟩,h⟩;cases f;exact ⟨e,by simpa [numF] using h⟩
 · rintro ⟨e,h⟩;exact ⟨⟨u,[],e,.top⟩,by simpa [numF] using h⟩
abbrev rd (L:Str) (p:Nat):D:= .obj "Reader" ["text", "at"] [.str L,.int (p:Int)]
def v6 {l a b:List Nat} {p:Nat} (h:l.drop p=a++b):l.drop (p+a.length)=b:=by
 have:=congrArg (List.drop a.length) h;rw [List.drop_drop,List.drop_left] at this;exact this
def UW {l b:List Nat} {c p:Nat} (h:l.drop p=c::b):l.drop (p+1)=b:=v6 (a:=[c]) h
def we {l:List Nat} {p:Nat}:l[p]?=(l.drop p).head?:=by simp [List.head?_drop]
def Q5 {l b:List Nat} {c p:Nat} (h:l.drop p=c::b):p<l.length:=by
 rcases Nat.lt_or_ge p l.length with z|z
 · exact z
 · rw [acr z] at h;cases h
def X2 (L:Str) (p:Nat) (hp:p<=L.length):cutS L (some (p:Int)) (some ((p:Int)+1))=mk ((cs L)[p]?).toList:=by
 rcases Nat.lt_or_ge p L.length with z|z
 · apply Yi;have:=Z8 L p (p+1) (by omega) (by omega);rw [show (((p+1:Nat)):Int)=(p:Int)+1 by omega] at this;rw [this,QM,show p+1-p=1 by omega,we];cases (cs L).drop p<;>rfl
 · have hpl:p=L.length:=by omega
   have hn:(cs L)[p]?=none:=abd (by rw [zt];omega);rw [hn]
   have hi:aal (some (p:Int)) (some ((p:Int)+1)) 1 L.length=[]:=by
     unfold aal sliceRange;have e1: ¬((p:Int)<0):=by omega
     have e2: ¬((p:Int)+1<0):=by omega
     have e3:max (0:Int) (min (p:Int) (L.length:Int))=p:=by omega
     have e4:max (0:Int) (min ((p:Int)+1) (L.length:Int))=p:=by omega
     simp [e1,e2,e3,e4]
   apply Yi;unfold cutS;rw [hi]
   split
   · rename_i hc;simp only [aav,beq_iff_eq] at hc;rw [←zt] at hc;rw [QM];exact List.eq_nil_of_length_eq_zero hc.symm
   · rfl
def YK (x y:Str):neR (.str x) (.str y)= .ok (.bl (!(x==y))):=by
 have:neR (.str x) (.str y)= .ok (.bl (!eqD (.str x) (.str y))):=jm (c:=EqC (.str x) (.str y)) (.inl ⟨rfl,rfl,by simp [D.dep]⟩);rw [this];simp [eqD]
def jcF {a b:List Nat}:mk a=mk b↔a=b:=⟨fun h=>by have:=congrArg cs h;rwa [QM,QM] at this,fun h=>by rw [h]⟩
def Xc (a b:List Nat):(mk a==mk b)=decide (a=b):=by
 rw [ab1];simp only [beq_iff_eq,decide_eq_true_eq,jcF]
def Nx (L:Str) (p c:Nat):Prop:=(cs L)[p]?=some c
def kW {L:Str} {p c:Nat} (hp:p<=L.length) (h:Nx L p c):jl (rd L p) [.str (mk [c])]= .ok (.bl true,rd L (p+1)):=by
 have hc:=X2 L p hp;rw [show (cs L)[p]?=some c from h] at hc
 have hs:slD (.str L) (some (p:Int)) (some ((p:Int)+1))= .ok (.str (mk [c])):=by
  show Res.ok (D.str (cutS L (some (p:Int)) (some ((p:Int)+1))))=_;rw [hc];rfl
 have hne:neR (.str (mk [c])) (.str (mk [c]))= .ok (.bl false):=by rw [YK];simp
 have f1:fldD "Reader" "text" (rd L p)= .ok (.str L):=rfl;have f2:fldD "Reader" "at" (rd L p)= .ok (.int (p:Int)):=rfl;have g1:getN "at" ["text", "at"] [.str L,.int (p:Int)]=some (.int (p:Int)):=rfl;have t1:asB (two (jH (fldF "Reader" "text" (rdB 0)) (jJ (fldF "Reader" "at" (rdB 0))) (jJ (two (fldF "Reader" "at" (rdB 0)) (cI 1) addD)) slD) (rdS 1) neR) [.own (rd L p),.shr (.str (mk [c]))]= .ok false:=jA (jf (qg (zp (wC rfl) f1) (jV (zp (wC rfl) f2)) (jV (jf (zp (wC rfl) f2) rfl rfl)) hs) rfl hne);refine Jb (rest:=[.shr (.str (mk [c]))]) rfl ?_;show qa [.own (rd L p),.shr (.str (mk [c]))]=_;unfold qa;refine Zs (uL t1 rfl) (Zs (Ko (ns:=["text", "at"]) (vs:=[.str L,.int (p:Int)]) rfl rfl g1 (by decide)) (zC (w9 rfl)))
def kX {L:Str} {p c:Nat} (hp:p<=L.length) (h: ¬Nx L p c):jl (rd L p) [.str (mk [c])]= .ok (.bl false,rd L p):=by
 have hc:=X2 L p hp
 have hs:slD (.str L) (some (p:Int)) (some ((p:Int)+1))= .ok (.str (mk ((cs L)[p]?).toList)):=by
  show Res.ok (D.str (cutS L (some (p:Int)) (some ((p:Int)+1))))=_;rw [hc]
 have hne:neR (.str (mk ((cs L)[p]?).toList)) (.str (mk [c]))= .ok (.bl true):=by
  rw [YK,Xc]
  have: ¬(((cs L)[p]?).toList=[c]):=fun e=>h (by
   unfold Nx
   cases e':(cs L)[p]? with
   |none=>rw [e'] at e;cases e
   |some x=>rw [e'] at e;simp at e;rw [e])
  simp [this]
 have f1:fldD "Reader" "text" (rd L p)= .ok (.str L):=rfl;have f2:fldD "Reader" "at" (rd L p)= .ok (.int (p:Int)):=rfl;have t1:asB (two (jH (fldF "Reader" "text" (rdB 0)) (jJ (fldF "Reader" "at" (rdB 0))) (jJ (two (fldF "Reader" "at" (rdB 0)) (cI 1) addD)) slD) (rdS 1) neR) [.own (rd L p),.shr (.str (mk [c]))]= .ok true:=jA (jf (qg (zp (wC rfl) f1) (jV (zp (wC rfl) f2)) (jV (jf (zp (wC rfl) f2) rfl rfl)) hs) rfl hne);refine Jb (rest:=[.shr (.str (mk [c]))]) rfl ?_;show qa [.own (rd L p),.shr (.str (mk [c]))]=_;unfold qa;exact JZ (uL t1 (zC (w9 rfl)))
def Stop (S:Str) (rest:List Nat):Prop:=rest=[]\/ ∃c r,rest=c::r/\inS (mk [c]) S=false
def vc {L S:Str} {s:Slot}: ∀(w rest:List Nat) (q n:Nat),(cs L).drop q=w++rest->q<=L.length->(∀c∈w,inS (mk [c]) S=true)->Stop S rest->w.length<n->
  wb n (stT (andB (asB (two (fldF "Reader" "at" (rdB 0)) (app (ja (fldF "Reader" "text" (rdB 0)) nil1) lenD) ltI)) (asB (two (two (fldF "Reader" "text" (rdB 0)) (fldF "Reader" "at" (rdB 0)) ixD) (rdS 1) inD)))) (KY 0 "Reader" "at" (cI 1)) [.own (rd L q),.shr (.str S),s]= .ok (.nx [.own (rd L (q+w.length)),.shr (.str S),s]):=fun w=>by
 induction w with
 |nil=>
  intro rest q n h hq _ hs hn;obtain ⟨n,rfl⟩: ∃n',n=n'+1:=⟨n-1,by omega⟩
  have f1:fldD "Reader" "text" (rd L q)= .ok (.str L):=rfl;have f2:fldD "Reader" "at" (rd L q)= .ok (.int (q:Int)):=rfl;have t1:asB (two (fldF "Reader" "at" (rdB 0)) (app (ja (fldF "Reader" "text" (rdB 0)) nil1) lenD) ltI) [.own (rd L q),.shr (.str S),s]= .ok (decide ((q:Int)< (L.length:Int))):=jA (jf (zp (wC rfl) f2) (qA (jh (zp (wC rfl) f1) rfl) rfl) rfl);refine yZ (Wq ?_);rcases hs with rfl| ⟨c,r,rfl,hc⟩
  · have: ¬((q:Int)< (L.length:Int)):=by
     have:=congrArg abN h;simp only [acB,aaV,aav,zt] at this;omega
    rw [decide_eq_false this] at t1;exact kJ t1
  · rw [List.nil_append] at h;have hlt:=Q5 h;rw [zt] at hlt;rw [decide_eq_true (show (q:Int)< (L.length:Int) by omega)] at t1;have hg:(cs L)[q]?=some c:=by rw [we,h];rfl
    have hix:ixD (.str L) (.int (q:Int))= .ok (.str (mk [c])):=by
     show (match atI L.cps.toList (q:Int) with|some c=>Res.ok (D.str ⟨#[c]⟩)|none=> .stuck)=_;rw [M.atI_nat,show L.cps.toList[q]?=some c from hg];rfl
    have hin:inD (.str (mk [c])) (.str S)= .ok (.bl false):=by show Res.ok (D.bl (inS (mk [c]) S))=_;rw [hc]
    exact Wc t1 (jA (jf (jf (zp (wC rfl) f1) (zp (wC rfl) f2) hix) rfl hin))
 |cons c w ih=>
  intro rest q n h hq hw hs hn;simp only [aab] at hn ⊢;obtain ⟨n,rfl⟩: ∃n',n=n'+1:=⟨n-1,by omega⟩
  have hlt:=Q5 (b:=w++rest) h;rw [zt] at hlt;have f1:fldD "Reader" "text" (rd L q)= .ok (.str L):=rfl;have f2:fldD "Reader" "at" (rd L q)= .ok (.int (q:Int)):=rfl;have t1:asB (two (fldF "Reader" "at" (rdB 0)) (app (ja (fldF "Reader" "text" (rdB 0)) nil1) lenD) ltI) [.own (rd L q),.shr (.str S),s]= .ok (decide ((q:Int)< (L.length:Int))):=jA (jf (zp (wC rfl) f2) (qA (jh (zp (wC rfl) f1) rfl) rfl) rfl);rw [decide_eq_true (show (q:Int)< (L.length:Int) by omega)] at t1;have hg:(cs L)[q]?=some c:=by rw [we,h];rfl
  have hix:ixD (.str L) (.int (q:Int))= .ok (.str (mk [c])):=by
    show (match atI L.cps.toList (q:Int) with|some c=>Res.ok (D.str ⟨#[c]⟩)|none=> .stuck)=_;rw [M.atI_nat,show L.cps.toList[q]?=some c from hg];rfl
  have hin:inD (.str (mk [c])) (.str S)= .ok (.bl true):=by show Res.ok (D.bl (inS (mk [c]) S))=_;rw [hw c (by simp)]
  have g1:getN "at" ["text", "at"] [.str L,.int (q:Int)]=some (.int (q:Int)):=rfl;rw [Wh (env1:=[.own (rd L q),.shr (.str S),s]) (env2:=[.own (rd L (q+1)),.shr (.str S),s]) (Wq (Wc t1 (jA (jf (jf (zp (wC rfl) f1) (zp (wC rfl) f2) hix) rfl hin)))) ((Ko (env:=[.own (rd L q),.shr (.str S),s]) (g0:=cI 1) (y:=1) (ns:=["text", "at"]) (vs:=[.str L,.int (q:Int)]) rfl rfl g1 (by decide)).trans rfl)];rw [ih rest (q+1) n (UW h) (by omega) (fun x hx=>hw x (by simp [hx])) hs (by omega)];rw [show q+1+w.length=q+(w.length+1) by omega]
def jb4 {L S:Str} {w rest:List Nat} {p:Nat} (h:(cs L).drop p=w++rest) (hp:p<=L.length) (hw: ∀c∈w,inS (mk [c]) S=true) (hs:Stop S rest) (hl:w.length<30000):jv (rd L p) [.str S]= .ok (.str (mk w),rd L (p+w.length)):=by
 have hlen:p+w.length<=L.length:=by
  have:=congrArg abN h;simp only [acB,aai,zt] at this;omega
 have hloop:=vc (L:=L) (S:=S) (s:= .shr (.int (p:Int))) w rest p 30000 h hp hw hs hl;have f1:fldD "Reader" "text" (rd L (p+w.length))= .ok (.str L):=rfl;have f2:fldD "Reader" "at" (rd L (p+w.length))= .ok (.int ((p+w.length:Nat):Int)):=rfl;have f3:fldD "Reader" "at" (rd L p)= .ok (.int (p:Int)):=rfl
 have hsl:slD (.str L) (some (p:Int)) (some ((p+w.length:Nat):Int))= .ok (.str (mk w)):=by
  show Res.ok (D.str (cutS L (some (p:Int)) (some ((p+w.length:Nat):Int))))=_;congr 2;apply Yi;rw [Z8 L p (p+w.length) (by omega) hlen,QM,h,show p+w.length-p=w.length by omega,ac0]
 refine Jb (rest:=[.shr (.str S),.shr (.int (p:Int))]) rfl ?_;show qL [.own (rd L p),.shr (.str S),.un]=_;unfold qL;refine Zs (env':=[.own (rd L p),.shr (.str S),.shr (.int (p:Int))]) ((JY (w9 (zp (wC rfl) f3))).trans rfl) ?_;refine Zs hloop ?_;exact zC (w9 (qg (zp (wC rfl) f1) (jV rfl) (jV (zp (wC rfl) f2)) hsl))
def c44:(aaD ",")=mk [44]:=by decide+kernel
def c40:(aaD "(")=mk [40]:=by decide+kernel
def c41:(aaD ")")=mk [41]:=by decide+kernel
def c63:(aaD "?")=mk [63]:=by decide+kernel
def jdH {L:Str} {p c:Nat} {r:List Nat} (h:(cs L).drop p=c::r):Nx L p c:=by unfold Nx;rw [we,h];rfl
def jdI {L:Str} {p c d:Nat} {r:List Nat} (h:(cs L).drop p=d::r) (hd:d≠c): ¬Nx L p c:=by
 unfold Nx;rw [we,h];simp [hd]
def jcy {L:Str} {p c:Nat} (h:(cs L).drop p=[]): ¬Nx L p c:=by
 unfold Nx;rw [we,h];simp
def Vi {L:Str} {p c:Nat} {s:Str} {env:Sl} {b:Bool} {d1:D} (hs:s=mk [c]) (h0:env[0]?=some (.own (rd L p))) (h:jl (rd L p) [.str (mk [c])]= .ok (.bl b,d1)):asJ (xh 0 "Reader" "takes" 1 jl (ja (cS s) nil1)) env= .ok (b,env.set 0 (.own d1)):=by
 subst hs;exact jdb (Wb (ns:=["text", "at"]) (vs:=[.str L,.int (p:Int)]) h0 rfl rfl rfl h)
def wV {g:Sl->Res OutO} {env:Sl} {o:OutO} (h:g env= .ok o):zA g env= .ok o:=by unfold zA;rw [h];rfl
def uc {f:FJ} {env:Sl} {o:D×Sl} (h:f env= .ok o):KW f env= .ok o:=by unfold KW;rw [h];rfl
def qk {ga gb:Sl->Res OutO} {env env':Sl} (h:ga env= .ok (.nx env')):seqJ ga gb env=gb env':=by unfold seqJ;rw [h];rfl
def yE {ga gb:Sl->Res OutO} {env:Sl} {c:Str} (h:ga env= .exc c):seqJ ga gb env= .exc c:=by unfold seqJ;rw [h];rfl
def xD {t:TM} {ga gb:Sl->Res OutO} {env:Sl} {b:Bool} (h:t env= .ok b):ifJX t ga gb env=if b=true then ga env else gb env:=by unfold ifJX;rw [h]
def ZT {t:Sl->Res (Bool×Sl)} {ga gb:Sl->Res OutO} {env env1:Sl} {b:Bool} (h:t env= .ok (b,env1)):iffY t ga gb env=if b=true then ga env1 else gb env1:=by unfold iffY;rw [h];rfl
def yW {i n:Nat} {c m:Str} {F:FO} {fa:TK} {env:Sl} {ns:List Str} {vs ds:List D} (h:env[i]?=some (.own (.obj c ns vs))) (hm:ns.contains m=false) (h1:fa env= .ok ds) (h2:ds.length=n):qm i c m n F fa env=F (.obj c ns vs) ds>>=fun r=> .ok (r.1,env.set i (.own r.2)):=by
 have ho:ownJ i c env= .ok (ns,vs):=by unfold ownJ;rw [h];simp
 unfold qm;rw [ho,h1];exact if_pos ⟨hm,h2⟩
def Ks {n:Nat} {t:Sl->Res (Bool×Sl)} {g:Sl->Res OutO} {env env1:Sl} (h:t env= .ok (false,env1)):qR (n+1) t g env= .ok (.nx env1):=by
 conv=>lhs;unfold qR
 rw [h];rfl
def K9 {n:Nat} {t:Sl->Res (Bool×Sl)} {g:Sl->Res OutO} {env env1 env2:Sl} (h:t env= .ok (true,env1)) (h2:g env1= .ok (.nx env2)):qR (n+1) t g env=qR n t g env2:=by
 conv=>lhs;unfold qR
 rw [h];show (g env1>>=_)=_;rw [h2];rfl
def kT {n:Nat} {t:Sl->Res (Bool×Sl)} {g:Sl->Res OutO} {env env1:Sl} {c:Str} (h:t env= .ok (true,env1)) (h2:g env1= .exc c):qR (n+1) t g env= .exc c:=by
 conv=>lhs;unfold qR
 rw [h];show (g env1>>=_)=_;rw [h2];rfl
def yG {N n:Nat} {g:Sl->Res OutO} {d0 d1 r:D} {ds:List D} {rest:Sl} (hn:ds.length=n) (h:g (zm N d0 ds)= .ok (.rt r (.own d1::rest))):Jc N n g d0 ds= .ok (r,d1):=by
 unfold Jc;rw [if_pos hn,h];rfl
def xr {N n:Nat} {g:Sl->Res OutO} {d0:D} {ds:List D} {c:Str} (hn:ds.length=n) (h:g (zm N d0 ds)= .exc c):Jc N n g d0 ds= .exc c:=by
 unfold Jc;rw [if_pos hn,h]
abbrev rs (L:Str) (s:List Nat):D:=rd L (L.length-s.length)
def wc {L:Str} {s:List Nat} (h:s<:+cs L):(cs L).drop (L.length-s.length)=s/\L.length-s.length<=L.length/\s.length<=L.length:=by
 have e:=List.suffix_iff_eq_drop.mp h;have l:=h.length_le;rw [zt] at e l;exact ⟨e.symm,by omega,l⟩
def Zn {L:Str} {c:Nat} {s:List Nat} (h:(c::s)<:+cs L):jl (rs L (c::s)) [.str (mk [c])]= .ok (.bl true,rs L s):=by
 obtain ⟨h1,h2,h3⟩:=wc h;have:=kW h2 (jdH h1);rw [show L.length-(c::s).length+1=L.length-s.length by simp only [aab] at h3 ⊢;omega] at this;exact this
def Zo {L:Str} {c:Nat} {s:List Nat} (h:s<:+cs L) (hn: ∀s',s≠c::s'):jl (rs L s) [.str (mk [c])]= .ok (.bl false,rs L s):=by
 obtain ⟨h1,h2,h3⟩:=wc h;refine kX h2 ?_
 cases s with
 |nil=>exact jcy h1
 |cons d r=>exact jdI h1 (fun e=>hn r (by rw [e]))
def jb3 {L S:Str} {s:List Nat} (hL:L.length<30000) (h:s<:+cs L):jv (rs L s) [.str S]= .ok (.str (mk (s.takeWhile fun c=>inS (mk [c]) S)),rs L (s.dropWhile fun c=>inS (mk [c]) S)):=by
 obtain ⟨h1,h2,h3⟩:=wc h;have e:=congrArg abN (aaY (p:=fun c=>inS (mk [c]) S) (l:=s));rw [aai] at e
 have:=jb4 (L:=L) (S:=S) (w:=s.takeWhile fun c=>inS (mk [c]) S) (rest:=s.dropWhile fun c=>inS (mk [c]) S) (by rw [h1,aaY]) h2 (fun c hc=>aaT.mp aco c hc) (by
  cases e2:s.dropWhile fun c=>inS (mk [c]) S with
  |nil=>exact .inl rfl
  |cons c r=>
   refine .inr ⟨c,r,rfl,?_⟩;have:=List.head?_dropWhile_not (fun c=>inS (mk [c]) S) s;rw [e2] at this
   simpa using this) (by omega)
 rw [show L.length-s.length+(s.takeWhile fun c=>inS (mk [c]) S).length=L.length-(s.dropWhile fun c=>inS (mk [c]) S).length by omega] at this;exact this
def dig3: ∀i:Fin 1000,(let l:=(aaD (toString (i.val:Int))).cps.toList;l.all (fun c=>decide (48<=c/\c<=57))&&decide (1<=l.length/\l.length<=3))=true:=by decide+kernel
def ds (i:Int):List Nat:=cs (aaD (toString i))
def jbh {i:Int} (h:0<=i/\i<=999):(∀c∈ds i,48<=c/\c<=57)/\1<=(ds i).length/\(ds i).length<=3:=by
 have:=dig3 ⟨i.toNat,by omega⟩;simp only [aap,decide_eq_true_eq,aaT] at this;rw [show ((i.toNat:Nat):Int)=i by omega] at this;exact ⟨this.1,this.2⟩
def add_str {a b:List Nat} (h:a.length+b.length<=20000):addD (.str (mk a)) (.str (mk b))= .ok (.str (mk (a++b))):=by
 have:addD (.str (mk a)) (.str (mk b))= .ok (.str (mk a++mk b)):=jm (c:=(mk a).length+(mk b).length<=aae) (by rw [xa,xa];exact wJ h);rw [this,jcG]
def Vk {i:Int} (h:0<=i/\i<=999):Zp [.int i]= .ok (.str (mk (ds i))):=by
 have hl:(aaD (toString i)).length<=20000:=by rw [←zt];have:=(jbh h).2.2;unfold ds at this;omega
 have:Zp [.int i]= .ok (.str (aaD (toString i))):=jm ⟨by
  have:i.natAbs<1024:=by omega
  have:=Nat.log2_lt (n:=i.natAbs) (k:=1920)
  by_cases h0:i.natAbs=0
  · rw [h0];decide
  · rw [this h0]
    exact aat (show i.natAbs<2^10 by omega) (Nat.pow_le_pow_right (by omega) (by omega)),wJ hl⟩
 rw [this];unfold ds;rw [vE]
def jcO {c:Nat} {S:Str} (h:inS (mk [c]) S=true):c∈cs S:=by
 obtain ⟨i,h1,h2⟩:=(PySem.StrLaws.found_iff S (mk [c])).mp h;rw [xa] at h1;unfold Builtin.Str.subAt at h2;rw [xa] at h2;have h3:=congrArg Array.toList (eq_of_beq h2);simp only [aab,aav,Array.toList_extract] at h3;have h4:c∈(List.extract S.cps.toList i (i+(0+1))):=by rw [h3];simp [mk]
 exact List.mem_of_mem_drop (List.mem_of_mem_take h4)
def jcX {c:Nat} (h:fig c=true):48<=c/\c<=57:=by
 have:=jcO h;rw [show cs (aaD "0123456789")=[48,49,50,51,52,53,54,55,56,57] by decide+kernel] at this;simp only [aaw,abt,or_false] at this;omega
def dg (w:List Nat):Bool:=(intText? (mk w)==some (val w))&&(decide (ds (val w)=w)==fok w)&&decide (0<=val w/\val w<=999)
def dg1: ∀a:Fin 10,dg [48+a.val]=true:=by decide+kernel
def dg2: ∀a b:Fin 10,dg [48+a.val,48+b.val]=true:=by decide+kernel
def dg3: ∀a b c:Fin 10,dg [48+a.val,48+b.val,48+c.val]=true:=by decide+kernel
def jdP {w:List Nat} (h: ∀c∈w,fig c=true) (h1:1<=w.length) (h3:w.length<=3):dg w=true:=by
 have f: ∀c∈w,∃a:Fin 10,c=48+a.val:=fun c hc=>by
   have:=jcX (h c hc);exact ⟨⟨c-48,by omega⟩,by show c=48+(c-48);omega⟩
 rcases w with _| ⟨a,_| ⟨b,_| ⟨c,_| ⟨d,w⟩⟩⟩⟩
 · simp at h1
 · obtain ⟨a',rfl⟩:=f a (by simp);exact dg1 a'
 · obtain ⟨a',rfl⟩:=f a (by simp);obtain ⟨b',rfl⟩:=f b (by simp);exact dg2 a' b'
 · obtain ⟨a',rfl⟩:=f a (by simp);obtain ⟨b',rfl⟩:=f b (by simp);obtain ⟨c',rfl⟩:=f c (by simp);exact dg3 a' b' c'
 · simp at h3
def Ke {w:List Nat} (h: ∀c∈w,fig c=true) (h1:1<=w.length) (h3:w.length<=3):XS [.str (mk w)]= .ok (.int (val w))/\Zp [.int (val w)]= .ok (.str (mk (ds (val w))))/\(ds (val w)=w↔fok w=true)/\0<=val w/\val w<=999:=by
 have e:=jdP h h1 h3;simp only [dg,aap,beq_iff_eq,decide_eq_true_eq] at e;obtain ⟨⟨e1,e2⟩,e3⟩:=e;refine ⟨?_,Vk e3,?_,e3⟩
 · show must _ _=_;refine (jm (by rw [xa];omega)).trans ?_;rw [e1]
 · rw [←e2];simp
structure Gd (k:Nat) (t:D):Prop where
 im:t.imm=true
 fi:fine t=true
 eb:D.eqb t=true
 dp:D.dep t<=k
 hg:hgt t<=k
theorem gds {k:Nat}: ∀ {ps:List D},(∀t∈ps,Gd k t)->D.imms ps=true/\fines ps=true/\D.eqbs ps=true/\D.deps ps<=k/\hgts ps<=k
 | [],_=>by simp [D.imms,fines,D.eqbs,D.deps,hgts]
 |t::r,h=>by
  obtain ⟨a1,a2,a3,a4,a5⟩:=gds (ps:=r) fun x hx=>h x (aar _ hx)
  obtain ⟨b1,b2,b3,b4,b5⟩:=h t aaA;refine ⟨by simp [D.imms,a1,b1],by simp [fines,a2,b2],by simp [D.eqbs,a3,b3],by simp only [D.deps];omega,by simp only [hgts];omega⟩
def jcT {k:Nat} {z:Str} {ps:List D} (h: ∀t∈ps,Gd k t) (hl:ps.length<=9):Gd (k+1) (.tup (.str z::ps)):=by
 obtain ⟨a1,a2,a3,a4,a5⟩:=gds h;refine ⟨by simp [D.imm,D.imms,a1],?_,by simp [D.eqb,D.eqbs,a3],by simp only [D.dep,D.deps];omega,by rw [Uy];omega⟩;have:fine (.str z)=true:=rfl;simp only [fine,fines,this,a2,Bool.and_true,decide_eq_true_eq,aab];omega
theorem ZO {f:List Nat->Option (D×List Nat)} {k:Nat} (hf: ∀s t r,f s=some (t,r)->Gd k t/\r<:+s): ∀m s ps r,wa f m s=some (ps,r)->(∀t∈ps,Gd k t)/\r<:+s/\ps.length+r.length<=s.length
 |0,s,ps,r,h=>by cases h
 |m+1,s,ps,r,h=>by
  unfold wa at h
  cases e:f s with
  |none=>rw [e] at h;cases h
  |some q=>
   obtain ⟨t,r0⟩:=q;obtain ⟨h0,h1⟩:=hf s t r0 e;have hl:=h1.length_le;rw [e] at h;dsimp only at h
   split at h
   · rename_i s'
     cases e2:wa f m s' with
     |none=>rw [e2] at h;cases h
     |some q=>
      rw [e2] at h;cases h;obtain ⟨a,b,c⟩:=ZO hf m s' _ _ e2;simp only [aab] at hl;refine ⟨fun x hx=>?_,(b.trans (aaM 44 s')).trans h1,by simp only [aab];omega⟩;rcases aaw.mp hx with rfl|z
      · exact h0
      · exact a x z
   · cases h;simp only [aab] at hl;exact ⟨fun x hx=>by simp at hx;subst hx;exact h0,(aaM 41 _).trans h1,by simp only [aab,aav];omega⟩
   · cases h
theorem VF: ∀k s t r,pt k s=some (t,r)->Gd k t/\r<:+s
 |0,s,t,r,h=>by cases h
 |k+1,s,t,r,h=>by
  rcases q_or s with ⟨s',rfl⟩|hq
  · rw [pt_q,JB] at h
    split at h
    · cases h;exact ⟨⟨rfl,rfl,rfl,by simp [D.dep],by simp [hgt]⟩,(abo fig).trans (aaM 63 s')⟩
    · cases h
  · rw [pt_n hq] at h
    cases e:xu (pt k) (s.dropWhile low) with
    |none=>rw [e] at h;cases h
    |some q=>
      obtain ⟨ps,r'⟩:=q;rw [e] at h;dsimp only at h
      split at h
      · rename_i hk;cases h
        have key:(∀t∈ps,Gd k t)/\r<:+s.dropWhile low:=by
         by_cases h40: ∃s',s.dropWhile low=40::s'
         · obtain ⟨s',e2⟩:=h40;rw [e2] at e ⊢;obtain ⟨a,b,_⟩:=ZO (VF k) _ _ _ _ e;exact ⟨a,b.trans (aaM 40 s')⟩
         · rw [JN (fun s1 e1=>h40 ⟨s1,e1⟩)] at e;cases e;exact ⟨fun _ h=>(by cases h),abD _⟩
        exact ⟨jcT key.1 hk.2,key.2.trans (abo low)⟩
      · cases h
def rr (L:Str):Option (D×List Nat)->Res (D×D)
 |some (t,r)=> .ok (t,rs L r)
 |none=> .exc "NoText"
def lenS (w:List Nat):lenD [.str (mk w)]= .ok (.int (w.length:Int)):=by
 show Res.ok (D.int (((mk w).length:Nat):Int))=_;rw [xa]
def W4 {w:List Nat} {env:Sl} (hw:env[1]?=some (.shr (.str (mk w)))):Z9 (cI 1) (app (ja (rdS 1) nil1) lenD) (cI 3) leI leI env= .ok (.bl (decide (1<=w.length/\w.length<=3))):=by
 rw [JR,show cI 1 env= .ok (.int 1) from rfl,wx,qA (jh (QY hw) rfl) (lenS w),wx];have a:leI (.int 1) (.int (w.length:Int))= .ok (.bl (decide (1<=w.length))):=by show Res.ok (D.bl (decide _))=_;congr 2;rw [decide_eq_decide];omega
 have b:leI (.int (w.length:Int)) (.int 3)= .ok (.bl (decide (w.length<=3))):=by show Res.ok (D.bl (decide _))=_;congr 2;rw [decide_eq_decide];omega
 rw [a]
 by_cases h1:1<=w.length
 · rw [decide_eq_true h1];refine b.trans ?_;congr 2;simp [h1]
 · rw [decide_eq_false h1];show Res.ok (D.bl false)=_;congr 2;simp [h1]
def jbu {L:Str} {s:List Nat} (hL:L.length<30000) (h:s<:+cs L):ju (rs L s) []=rr L (if fok (s.takeWhile fig)=true then some (.int (val (s.takeWhile fig)),s.dropWhile fig) else none):=by
 have hr:=jb3 (S:= "0123456789") hL h;rw [show (fun c=>inS (mk [c]) "0123456789")=fig from rfl] at hr;generalize hw:s.takeWhile fig=w at hr ⊢;generalize hd:s.dropWhile fig=r at hr ⊢;have hf: ∀c∈w,fig c=true:=fun c hc=>aaT.mp aco c (hw▸hc)
 have s1:zA (setJ 1 (xh 0 "Reader" "run_of" 1 jv (ja (cS "0123456789") nil1))) [.own (rs L s),.un,.un]= .ok (.nx [.own (rs L r),.shr (.str (mk w)),.un]):=wV ((JY (Wb (ns:=["text", "at"]) (vs:=[.str L,.int ((L.length-s.length:Nat):Int)]) rfl rfl rfl rfl hr)).trans rfl);have st: ∀o,jL jv [.own (rs L s),.un,.un]=o->jL jv (zm 3 (rs L s) [])=o:=fun o h=>h
 by_cases hl:1<=w.length/\w.length<=3
 · obtain ⟨f1,f2,f3,f4⟩:=Ke hf hl.1 hl.2;have s3:zA (setJ 2 (stE (chk (app (ja (rdS 1) nil1) XS)))) [.own (rs L r),.shr (.str (mk w)),.un]= .ok (.nx [.own (rs L r),.shr (.str (mk w)),.shr (.int (val w))]):=wV ((JY (w9 (JG (qA (jh rfl rfl) f1) rfl))).trans rfl);have t4:asB (two (app (ja (rdS 2) nil1) Zp) (rdS 1) neR) [.own (rs L r),.shr (.str (mk w)),.shr (.int (val w))]= .ok (!(mk (ds (val w))==mk w)):=jA (jf (qA (jh rfl rfl) f2) rfl (YK _ _));rw [Xc] at t4
   have go:jL jv [.own (rs L s),.un,.un]=seqJ (ifJX (asB (two (app (ja (rdS 2) nil1) Zp) (rdS 1) neR)) (yg "NoText") (zA nxJ)) (zA (wB (stE (rdS 2)))) [.own (rs L r),.shr (.str (mk w)),.shr (.int (val w))]:=by
     unfold jL;rw [qk s1,qk (env':=[.own (rs L r),.shr (.str (mk w)),.un]) (by rw [xD (zT (jA (W4 rfl))),decide_eq_true hl];rfl),qk s3]
   by_cases hk:fok w=true
   · rw [if_pos hk];rw [decide_eq_true (f3.mpr hk)] at t4;refine yG (rest:=[.shr (.str (mk w)),.shr (.int (val w))]) rfl (st _ ?_);rw [go,qk (env':=[.own (rs L r),.shr (.str (mk w)),.shr (.int (val w))]) (by rw [xD t4];rfl)];exact wV (zC (w9 rfl))
   · rw [if_neg hk];rw [decide_eq_false (fun z=>hk (f3.mp z))] at t4;refine xr rfl (st _ ?_);rw [go];exact yE (by rw [xD t4];rfl)
 · have hk: ¬fok w=true:=fun z=>hl (by simp only [fok,aap,decide_eq_true_eq] at z;exact z.1)
   rw [if_neg hk];refine xr rfl (st _ ?_);unfold jL;rw [qk s1];exact yE (by rw [xD (zT (jA (W4 rfl))),decide_eq_false hl];rfl)
def jax (z:Str) (r:List D):zi [.tup (.str z::r)]= .ok (.bl (decide (r.length+1<=10)&&isNm (.str z))):=by
 have hb:decide ((1:Int)<=((D.str z::r).length:Int))=true:=by simp only [aab,decide_eq_true_eq];omega
 have hd:decide (((D.str z::r).length:Int)<=9+1)=decide (r.length+1<=10):=by simp only [aab];rw [decide_eq_decide];omega
 have hi:isiD "tuple" (.tup (.str z::r))= .ok (.bl true):=rfl;have hl:lenD [.tup (.str z::r)]= .ok (.int ((D.str z::r).length:Int)):=rfl;have ha:addD (.int 9) (.int 1)= .ok (.int (9+1)):=rfl;have hs:j4 1 [.tup (.str z::r)]=[.shr (.tup (.str z::r))]:=rfl
 have e0:x3 Jx yY (j4 1 [.tup (.str z::r)])= .ok (.rt true (.bl (decide (r.length+1<=10)&&isNm (.str z)))):=by
  simp only [x3,hs,hi,hl,ha,yi,Ze,Y6,ZY,UF,Y7,JQ,XW,wx,Y3,jbd,UI,ZX,UG,Xu,acn,Yb,if_true,JR,kn,uO,jbT,hb,hd,Y5,ix0,jbb,acy,jcD (d:= .str z) rfl];cases decide (r.length+1<=10)<;>rfl
 exact yN e0
def jcC (s:List Nat):isNm (.str (mk (s.takeWhile low)))=nok (s.takeWhile low):=by
 rw [JO]
 have h:(mk (s.takeWhile low)).cps.toList.all (fun c=>inS ⟨#[c]⟩ abc)=true:=by
  have:(mk (s.takeWhile low)).cps.toList=s.takeWhile low:=QM _;rw [this];exact aco
 rw [h,xa,Bool.and_true];unfold nok;rw [ab1];simp only [aap,decide_eq_true_eq];omega
def Jy {L:Str} {c:Nat} {s r:List Nat} {z:Str} {env:Sl} {b:Bool} (hz:z=mk [c]) (h0:env[0]?=some (.own (rs L s))) (h:jl (rs L s) [.str (mk [c])]= .ok (.bl b,rs L r)):asJ (xh 0 "Reader" "takes" 1 jl (ja (cS z) nil1)) env= .ok (b,env.set 0 (.own (rs L r))):=Vi hz h0 h
def jaf {ga ga' gb:Sl->Res OutO} {env env':Sl} (h:ga env=ga' env'):seqJ ga gb env=seqJ ga' gb env':=by unfold seqJ;rw [h]
def Xh (f:List Nat->Option (D×List Nat)) (m:Nat) (r:List Nat):Option (List D×List Nat):=match r with
 |44::s'=>wa f m s'
 |41::s'=>some ([],s')
 |_=>none
def WN {f:List Nat->Option (D×List Nat)} {m:Nat} {s r:List Nat} {t:D} (e:f s=some (t,r)):wa f (m+1) s=(Xh f m r).map fun q=>(t::q.1,q.2):=by
 unfold wa Xh;rw [e];dsimp only
 split
 · rename_i s';show _=Option.map _ (wa f m s');cases wa f m s'<;>rfl
 · rfl
 · first
   |rfl
   | (rename_i h1 h2;split<;>first|rfl|exact (h1 _ rfl).elim|exact (h2 _ rfl).elim)
def Ul {f:List Nat->Option (D×List Nat)} {m:Nat} {s:List Nat} (e:f s=none):wa f (m+1) s=none:=by
 unfold wa;rw [e]
abbrev Tk:Sl->Res (Bool×Sl):=asJ (xh 0 "Reader" "takes" 1 jl (ja (cS ",") nil1))
abbrev Bd (F:FO):Sl->Res OutO:=appJ 2 (qm 0 "Reader" "read_term" 1 F (ja (two (rdS 1) (cI 1) addD) nil1))
abbrev Af:Sl->Res OutO:=seqJ (iffY (notJ (asJ (xh 0 "Reader" "takes" 1 jl (ja (cS ")") nil1)))) (yg "NoText") (zA nxJ)) (zA (wB (stE (chk (app (ja (rdB 2) nil1) JW)))))
def big3 {k:Nat} (h:k<=60000):k<=aae:=aaq h (by decide)
def rx (L:Str) (env:Sl):Option (D×List Nat)->Res (D×Sl)
 |some (t,r)=> .ok (t,env.set 0 (.own (rs L r)))
 |none=> .exc "NoText"
def kz {L:Str} {s:List Nat} {lv:Nat} {F:FO} {o:Option (D×List Nat)} {env:Sl} (h0:env[0]?=some (.own (rs L s))) (h1:env[1]?=some (.shr (.int (lv:Int)))) (h:F (rs L s) [.int ((lv+1:Nat):Int)]=rr L o):qm 0 "Reader" "read_term" 1 F (ja (two (rdS 1) (cI 1) addD) nil1) env=rx L env o:=by
 refine (yW (ns:=["text", "at"]) (vs:=[.str L,.int ((L.length-s.length:Nat):Int)]) (ds:=[.int ((lv+1:Nat):Int)]) h0 rfl (jh (jf (QY h1) rfl (by show Res.ok (D.int ((lv:Int)+1))=_;simp)) rfl) rfl).trans ?_;show (F (rs L s) [.int ((lv+1:Nat):Int)]>>=_)=_;rw [h];cases o<;>rfl
theorem Yw {L:Str} {F:FO} {k lv:Nat} {f:List Nat->Option (D×List Nat)} (hL:L.length<30000) (hf: ∀s t r,f s=some (t,r)->Gd k t/\r<:+s) (hlt: ∀s t r,f s=some (t,r)->r.length<s.length) (hF: ∀s,s<:+cs L->F (rs L s) [.int ((lv+1:Nat):Int)]=rr L (f s)):
  ∀(n m q:Nat) (r:List Nat) (fnd:List D),r.length<n->r.length<m->r.length<q->r<:+cs L->(∀t∈fnd,Gd k t)->fnd.length+r.length<=30000->
    match Xh f q r with
    |some (ps,r')=> ∃e1 e2,seqJ (qR m Tk (Bd F)) Af [.own (rs L r),.shr (.int (lv:Int)),.own (.lst fnd)]= .ok (.rt (.tup (fnd++ps)) [.own (rs L r'),e1,e2])
    |none=>seqJ (qR m Tk (Bd F)) Af [.own (rs L r),.shr (.int (lv:Int)),.own (.lst fnd)]= .exc "NoText"
 |0,_,_,r,_,h,_,_,_,_,_=>by omega
 |n+1,m,q,r,fnd,h,hm,hq,hr,hg,hl=>by
  obtain ⟨m,rfl⟩: ∃m',m=m'+1:=⟨m-1,by omega⟩
  by_cases h44: ∃s,r=44::s
  · obtain ⟨s,rfl⟩:=h44;simp only [aab] at h hm hq hl;obtain ⟨q,rfl⟩: ∃q',q=q'+1:=⟨q-1,by omega⟩
    have hs:s<:+cs L:=(aaM 44 s).trans hr;have ht:Tk [.own (rs L (44::s)),.shr (.int (lv:Int)),.own (.lst fnd)]= .ok (true,[.own (rs L s),.shr (.int (lv:Int)),.own (.lst fnd)]):=(Jy c44 rfl (Zn hr)).trans rfl;have hc:=kz (env:=[.own (rs L s),.shr (.int (lv:Int)),.own (.lst fnd)]) rfl rfl (hF s hs)
    show match wa f (q+1) s with|some (ps,r')=>_|none=>_
    cases e:f s with
    |none=>
      rw [Ul e];rw [e] at hc;refine yE (kT ht ?_);show appJ 2 _ _=_;unfold appJ;rw [hc];rfl
    |some p=>
      obtain ⟨t,r'⟩:=p;rw [e] at hc;obtain ⟨g1,g2⟩:=hf s t r' e;have g3:=hlt s t r' e;have hb:Bd F [.own (rs L s),.shr (.int (lv:Int)),.own (.lst fnd)]= .ok (.nx [.own (rs L r'),.shr (.int (lv:Int)),.own (.lst (fnd++[t]))]):=(jbG (ds:=fnd) (ds0:=fnd) rfl hc rfl (by have:=big3 (k:=fnd.length+1) (by omega);omega)).trans rfl
      have ih:=Yw hL hf hlt hF n m q r' (fnd++[t]) (by omega) (by omega) (by omega) (g2.trans hs) (fun x hx=>by
       rcases aa4.mp hx with z|z
       · exact hg x z
       · simp at z;subst z;exact g1) (by simp only [aai,aab,aav];omega)
      rw [WN e,jaf (K9 ht hb)]
      cases e2:Xh f q r' with
      |none=>rw [e2] at ih;exact ih
      |some p2=>
       rw [e2] at ih;obtain ⟨e1,e3,ih⟩:=ih;exact ⟨e1,e3,by rw [ih];simp⟩
  · have hend:qR (m+1) Tk (Bd F) [.own (rs L r),.shr (.int (lv:Int)),.own (.lst fnd)]= .ok (.nx [.own (rs L r),.shr (.int (lv:Int)),.own (.lst fnd)]):=Ks ((Jy c44 rfl (Zo hr (fun s e=>h44 ⟨s,e⟩))).trans rfl)
    by_cases h41: ∃s,r=41::s
    · obtain ⟨s,rfl⟩:=h41;show∃e1 e2,_=_;refine ⟨.shr (.int (lv:Int)),.own (.lst fnd),?_⟩;rw [qk hend,aaV];refine (qk (env':=[.own (rs L s),.shr (.int (lv:Int)),.own (.lst fnd)]) ((ZT (ZL (Jy c41 rfl (Zn hr)))).trans rfl)).trans ?_;exact wV (zC (w9 (JG (qA (jh (wC rfl) rfl) rfl) (gds hg).1)))
    · have ht:Xh f q r=none:=by
       unfold Xh
       split
       · exact (h44 ⟨_,rfl⟩).elim
       · exact (h41 ⟨_,rfl⟩).elim
       · rfl
      rw [ht];show seqJ _ _ _=_;rw [qk hend];exact yE ((ZT (ZL (Jy c41 rfl (Zo hr (fun s e=>h41 ⟨s,e⟩))))).trans rfl)
def vm {L:Str} {n k lv:Nat} {f:List Nat->Option (D×List Nat)} {s:List Nat} (hL:L.length<30000) (hf: ∀s t r,f s=some (t,r)->Gd k t/\r<:+s) (hlt: ∀s t r,f s=some (t,r)->r.length<s.length) (hF: ∀s,s<:+cs L->je n (rs L s) [.int ((lv+1:Nat):Int)]=rr L (f s)) (h:s<:+cs L):
   jw (je n) (rs L s) [.int (lv:Int)]=match xu f s with
    |some (ps,r)=> .ok (.tup ps,rs L r)
    |none=> .exc "NoText" :=by
 have hll:=h.length_le;rw [zt] at hll
 by_cases h40: ∃s',s=40::s'
 · obtain ⟨s',rfl⟩:=h40;have hs:s'<:+cs L:=(aaM 40 s').trans h;simp only [aab] at hll
   have go:jP jl (je n) [.own (rs L (40::s')),.shr (.int (lv:Int)),.un]=seqJ (lstJ 2 (qm 0 "Reader" "read_term" 1 (je n) (ja (two (rdS 1) (cI 1) addD) nil1))) (seqJ (qR 30000 Tk (Bd (je n))) Af) [.own (rs L s'),.shr (.int (lv:Int)),.un]:=by
    unfold jP;rw [qk (env':=[.own (rs L s'),.shr (.int (lv:Int)),.un]) (wV (Uv (ZL (Jy c40 rfl (Zn h))) rfl))]
   have hc:=kz (env:=[.own (rs L s'),.shr (.int (lv:Int)),.un]) rfl rfl (hF s' hs)
   show _=match wa f (s'.length+1) s' with|some (ps,r)=>_|none=>_
   cases e:f s' with
   |none=>
    rw [e] at hc;rw [Ul e];refine xr rfl (go.trans (yE ?_));unfold lstJ;rw [hc];rfl
   |some p=>
    obtain ⟨t,r⟩:=p;rw [e] at hc;obtain ⟨g1,g2⟩:=hf s' t r e;have g3:=hlt s' t r e;have hp:=Yw hL hf hlt hF (r.length+1) 30000 s'.length r [t] (by omega) (by omega) (by omega) (g2.trans hs) (fun x hx=>by simp at hx;subst hx;exact g1) (by simp only [aab,aav];omega);rw [WN e];rw [qk (env':=[.own (rs L r),.shr (.int (lv:Int)),.own (.lst [t])]) ((jaP hc).trans rfl)] at go
    cases e2:Xh f s'.length r with
    |none=>
     rw [e2] at hp;exact xr rfl (go.trans hp)
    |some p2=>
     rw [e2] at hp;obtain ⟨e1,e3,hp⟩:=hp;exact yG (rest:=[e1,e3]) rfl (go.trans hp)
 · rw [JN (fun s1 e=>h40 ⟨s1,e⟩)];refine yG (rest:=[.shr (.int (lv:Int)),.un]) rfl ?_;show jP jl (je n) [.own (rs L s),.shr (.int (lv:Int)),.un]=_;unfold jP;exact JZ (wV (Uv (ZL (Jy c40 rfl (Zo h (fun s1 e=>h40 ⟨s1,e⟩)))) (zC (w9 rfl))))
theorem uq {L:Str} (hL:L.length<30000): ∀(k n lv:Nat) (s:List Nat),lv+k=61->k<n->s<:+cs L->je n (rs L s) [.int (lv:Int)]=rr L (pt k s)
 |k,0,lv,s,_,h,_=>by omega
 |k,n+1,lv,s,hk,hn,h=>by
  have hll:=h.length_le;rw [zt] at hll;have hg:asB (two (rdS 1) (cI 60) gtI) [.own (rs L s),.shr (.int (lv:Int)),.un]= .ok (decide ((60:Int)< (lv:Int))):=jA (jf rfl rfl rfl);have st: ∀o,jI jl ju (jw (je n)) zi jv [.own (rs L s),.shr (.int (lv:Int)),.un]=o->jI jl ju (jw (je n)) zi jv (zm 3 (rs L s) [.int (lv:Int)])=o:=fun o h=>h
  cases k with
  |zero=>
   rw [decide_eq_true (by omega)] at hg;refine xr rfl (st _ ?_);unfold jI;exact yE (by rw [xD hg];rfl)
  |succ k=>
   rw [decide_eq_false (by omega)] at hg;have h1:ifJX (asB (two (rdS 1) (cI 60) gtI)) (yg "NoText") (zA nxJ) [.own (rs L s),.shr (.int (lv:Int)),.un]= .ok (.nx [.own (rs L s),.shr (.int (lv:Int)),.un]):=by rw [xD hg];rfl
   rcases q_or s with ⟨s',rfl⟩|hq
   · have hs:s'<:+cs L:=(aaM 63 s').trans h;have hb:=jbu hL hs
     have hi:iffY (asJ (xh 0 "Reader" "takes" 1 jl (ja (cS "?") nil1))) (wB (qm 0 "Reader" "read_blank" 0 ju noA)) (zA nxJ) [.own (rs L (63::s')),.shr (.int (lv:Int)),.un]=wB (qm 0 "Reader" "read_blank" 0 ju noA) [.own (rs L s'),.shr (.int (lv:Int)),.un]:=by
       rw [ZT (Jy c63 rfl (Zn h))];rfl
     have hc:qm 0 "Reader" "read_blank" 0 ju noA [.own (rs L s'),.shr (.int (lv:Int)),.un]=ju (rs L s') []>>=fun r=> .ok (r.1,[.own r.2,.shr (.int (lv:Int)),.un]):=yW (ns:=["text", "at"]) (vs:=[.str L,.int ((L.length-s'.length:Nat):Int)]) rfl rfl rfl rfl
     rw [pt_q,JB]
     by_cases hk:fok (s'.takeWhile fig)=true
     · rw [if_pos hk] at hb ⊢;rw [hb] at hc;refine yG (rest:=[.shr (.int (lv:Int)),.un]) rfl (st _ ?_);unfold jI;rw [qk h1];exact JZ (hi.trans (zC hc))
     · rw [if_neg hk] at hb ⊢;rw [hb] at hc;refine xr rfl (st _ ?_);unfold jI;rw [qk h1];refine yE (hi.trans ?_);unfold wB;rw [hc];rfl
   · have h2:iffY (asJ (xh 0 "Reader" "takes" 1 jl (ja (cS "?") nil1))) (wB (qm 0 "Reader" "read_blank" 0 ju noA)) (zA nxJ) [.own (rs L s),.shr (.int (lv:Int)),.un]= .ok (.nx [.own (rs L s),.shr (.int (lv:Int)),.un]):=by
       rw [ZT (Jy c63 rfl (Zo h hq))];rfl
     have hrun:=jb3 (S:=abc) hL h;rw [show (fun c=>inS (mk [c]) abc)=low from rfl] at hrun;have hd:s.dropWhile low<:+cs L:=(abo low).trans h;have hpl:=vm (lv:=lv) hL (VF k) (jap k) (fun s1 h1=>uq hL k n (lv+1) s1 (by omega) (by omega) h1) hd;have habc:(aaD "abcdefghijklmnopqrstuvwxyz")=abc:=rfl;have ca:KW (tupJ (xh 0 "Reader" "run_of" 1 jv (ja (cS "abcdefghijklmnopqrstuvwxyz") nil1))) [.own (rs L s),.shr (.int (lv:Int)),.un]= .ok (.tup [.str (mk (s.takeWhile low))],[.own (rs L (s.dropWhile low)),.shr (.int (lv:Int)),.un]):=uc ((u4 (Wb (ns:=["text", "at"]) (vs:=[.str L,.int ((L.length-s.length:Nat):Int)]) (ds:=[.str abc]) rfl rfl rfl rfl hrun)).trans rfl);have cb:qm 0 "Reader" "read_places" 1 (jw (je n)) (ja (rdS 1) nil1) [.own (rs L (s.dropWhile low)),.shr (.int (lv:Int)),.un]=jw (je n) (rs L (s.dropWhile low)) [.int (lv:Int)]>>=fun r=> .ok (r.1,[.own r.2,.shr (.int (lv:Int)),.un]):=yW (ns:=["text", "at"]) (vs:=[.str L,.int ((L.length-(s.dropWhile low).length:Nat):Int)]) (ds:=[.int (lv:Int)]) rfl rfl rfl rfl
     rw [hpl] at cb;rw [pt_n hq]
     have go:jI jl ju (jw (je n)) zi jv [.own (rs L s),.shr (.int (lv:Int)),.un]=seqJ (setJ 2 (addJ (KW (tupJ (xh 0 "Reader" "run_of" 1 jv (ja (cS "abcdefghijklmnopqrstuvwxyz") nil1)))) (qm 0 "Reader" "read_places" 1 (jw (je n)) (ja (rdS 1) nil1)))) (seqJ (ifJX (notB (asB (jN 1 zi (ja (rdS 2) nil1)))) (yg "NoText") (zA nxJ)) (zA (wB (stE (rdS 2))))) [.own (rs L s),.shr (.int (lv:Int)),.un]:=by
       unfold jI;rw [qk h1,qk h2]
     cases e:xu (pt k) (s.dropWhile low) with
     |none=>
       rw [e] at cb;refine xr rfl (st _ (go.trans (yE ?_)));unfold setJ addJ;rw [ca];show (((qm 0 "Reader" "read_places" 1 (jw (je n)) (ja (rdS 1) nil1) [.own (rs L (s.dropWhile low)),.shr (.int (lv:Int)),.un])>>=_)>>=_)=_;rw [cb];rfl
     |some p=>
       obtain ⟨ps,r⟩:=p;rw [e] at cb
       have hps:ps.length<=30000:=by
         by_cases h40: ∃s',s.dropWhile low=40::s'
         · obtain ⟨s',e2⟩:=h40;have l2:=congrArg abN e2;have l3:=UV low s;rw [e2] at e;obtain ⟨_,_,c⟩:=ZO (VF k) _ _ _ _ e;simp only [aab] at l2;omega
         · rw [JN (fun s1 e1=>h40 ⟨s1,e1⟩)] at e;cases e;simp
       have hadd:addD (.tup [.str (mk (s.takeWhile low))]) (.tup ps)= .ok (.tup (.str (mk (s.takeWhile low))::ps)):=jbJ (a:=[.str (mk (s.takeWhile low))]) rfl (big3 (by simp only [aab,aav];omega));have h3:=(JY (j:=2) (jbK ca cb hadd)).trans (show _=Res.ok (OutO.nx [.own (rs L r),.shr (.int (lv:Int)),.shr (.tup (.str (mk (s.takeWhile low))::ps))]) from rfl);have hpc:=jax (mk (s.takeWhile low)) ps;rw [jcC] at hpc;have t4:notB (asB (jN 1 zi (ja (rdS 2) nil1))) [.own (rs L r),.shr (.int (lv:Int)),.shr (.tup (.str (mk (s.takeWhile low))::ps))]= .ok (!(decide (ps.length+1<=10)&&nok (s.takeWhile low))):=zT (jA (jZ (jh rfl rfl) rfl hpc));dsimp only
       by_cases hh:nok (s.takeWhile low)=true/\ps.length<=9
       · rw [if_pos hh];rw [hh.1,decide_eq_true (by omega)] at t4;refine yG (rest:=[.shr (.int (lv:Int)),.shr (.tup (.str (mk (s.takeWhile low))::ps))]) rfl (st _ (go.trans ?_));rw [qk h3,qk (env':=[.own (rs L r),.shr (.int (lv:Int)),.shr (.tup (.str (mk (s.takeWhile low))::ps))]) (by rw [xD t4];rfl)];exact wV (zC (w9 rfl))
       · rw [if_neg hh]
         have:(decide (ps.length+1<=10)&&nok (s.takeWhile low))=false:=by
           rw [Bool.and_eq_false_iff]
           by_cases h9:ps.length<=9
           · exact .inr (by cases e9:nok (s.takeWhile low)<;>simp_all)
           · exact .inl (decide_eq_false (by omega))
         rw [this] at t4;refine xr rfl (st _ (go.trans ?_));rw [qk h3];exact yE (by rw [xD t4];rfl)
def Yp {ga gb:TL} {env:Sl} {c:Str} (h:ga env= .exc c):seqO ga gb env= .exc c:=by unfold seqO;rw [h];rfl
def jk {ga gb:TL} {env env':Sl} (h:ga env= .ok (.nx env')):seqO ga gb env=gb env':=by unfold seqO;rw [h];rfl
def Q7 {t:TM} {ga gb:TL} {env:Sl} {b:Bool} (h:t env= .ok b):ifX t ga gb env=if b=true then ga env else gb env:=by unfold ifX;rw [h]
def jaj {d:D} (h:isiD "str" d= .ok (.bl false)):xf [d]= .exc "NoText" :=by
 refine Yr ?_;show Qq jR (je 62) zj [.shr d,.un,.un]=_;unfold Qq;exact Yp ((Q7 (zT (jA (xB rfl h)))).trans rfl)
theorem jb7 {z:Str} (hL:z.length<30000):xf [.str z]=match pt 60 (cs z) with
  |some (t,[])=>if 1000<num t then .exc "NoText" else .ok t
  |_=> .exc "NoText" :=by
 have hr:=uq hL 60 62 1 (cs z) (by omega) (by omega) (abD _);rw [show rs z (cs z)=rd z 0 by unfold rs;rw [zt,Nat.sub_self]] at hr;have hmk:jR (.obj "Reader" [] []) [.str z]= .ok (.non,rd z 0):=rfl;have s1:ifX (notB (asB (isiF "str" (rdS 0)))) (J4 "NoText") (yw nxO) [.shr (.str z),.un,.un]= .ok (.nx [.shr (.str z),.un,.un]):=(Q7 (zT (jA (xB rfl rfl)))).trans rfl;have s2:yw (setO 1 (Uj "Reader" 1 jR (ja (rdS 0) nil1))) [.shr (.str z),.un,.un]= .ok (.nx [.shr (.str z),.own (rd z 0),.un]):=Kl (JX (Ui (jh rfl rfl) rfl hmk));have c3:qm 1 "Reader" "read_term" 1 (je 62) (ja (cI 1) nil1) [.shr (.str z),.own (rd z 0),.un]=je 62 (rd z 0) [.int 1]>>=fun r=> .ok (r.1,[.shr (.str z),.own r.2,.un]):=yW (ns:=["text", "at"]) (vs:=[.str z,.int ((0:Nat):Int)]) (ds:=[.int 1]) rfl rfl rfl rfl
 rw [show je 62 (rd z 0) [.int 1]=rr z (pt 60 (cs z)) from hr] at c3
 have go:Qq jR (je 62) zj (j4 3 [.str z])=seqO (Zr 2 (qm 1 "Reader" "read_term" 1 (je 62) (ja (cI 1) nil1))) (seqO (ifX (asB (two (fldF "Reader" "at" (rdB 1)) (app (ja (rdS 0) nil1) lenD) ltI)) (J4 "NoText") (yw nxO)) (seqO (ifX (asB (jN 1 zj (ja (rdS 2) nil1))) (J4 "NoText") (yw nxO)) (yw (retS (rdS 2))))) [.shr (.str z),.own (rd z 0),.un]:=by
  show Qq jR (je 62) zj [.shr (.str z),.un,.un]=_;unfold Qq;rw [jk s1,jk s2]
 cases e:pt 60 (cs z) with
 |none=>
  rw [e] at c3;refine Yr (go.trans (Yp ?_));unfold Zr;rw [c3];rfl
 |some p=>
  obtain ⟨t,r⟩:=p;rw [e] at c3;obtain ⟨gd,sf⟩:=VF _ _ _ _ e;have s3:=(Yo (j:=2) c3).trans (show _=Res.ok (Out.nx [.shr (.str z),.own (rs z r),.shr t]) from rfl);rw [jk s3] at go;have hle:=sf.length_le;rw [zt] at hle;have f2:fldD "Reader" "at" (rs z r)= .ok (.int ((z.length-r.length:Nat):Int)):=rfl;have t4:asB (two (fldF "Reader" "at" (rdB 1)) (app (ja (rdS 0) nil1) lenD) ltI) [.shr (.str z),.own (rs z r),.shr t]= .ok (decide (((z.length-r.length:Nat):Int)< (z.length:Int))):=jA (jf (zp (wC rfl) f2) (qA (jh rfl rfl) rfl) rfl)
  cases r with
  |cons c r=>
   simp only [aab] at hle;rw [decide_eq_true (by simp only [aab];omega)] at t4;exact Yr (go.trans (Yp ((Q7 t4).trans rfl)))
  |nil=>
   rw [decide_eq_false (by simp)] at t4;rw [jk (env':=[.shr (.str z),.own (rs z []),.shr t]) ((Q7 t4).trans rfl)] at go;have hg:=jcR gd.fi
   have hgr:isGr t=decide (1000<num t):=by
     simp only [isGr];rw [decide_eq_decide];have:=gd.hg;omega
   rw [hgr] at hg;have t5:asB (jN 1 zj (ja (rdS 2) nil1)) [.shr (.str z),.own (rs z []),.shr t]= .ok (decide (1000<num t)):=jA (jZ (jh rfl rfl) rfl hg);dsimp only
   by_cases hn:1000<num t
   · rw [if_pos hn];rw [decide_eq_true hn] at t5;exact Yr (go.trans (Yp ((Q7 t5).trans rfl)))
   · rw [if_neg hn];rw [decide_eq_false hn] at t5;refine jb6 (go.trans ?_);rw [jk (env':=[.shr (.str z),.own (rs z []),.shr t]) ((Q7 t5).trans rfl)];exact Kl (Jd rfl)
def pos (L:Str) (s:List Nat):Int:=((L.length-s.length:Nat):Int)
def Xq {L:Str} {a s r:List Nat} (h:s<:+cs L) (e:s=a++r):pos L s+(a.length:Int)=pos L r:=by
 have:=(wc h).2.2;subst e;unfold pos;rw [aai] at this ⊢;omega
def xX {L:Str} {c:Nat} {s:List Nat} (h:(c::s)<:+cs L):pos L (c::s)+1=pos L s:=Xq (a:=[c]) h rfl
def yH {fr:Bool} {n:Nat} {g:TL} {ds:List D} {d:D} (h:g (j4 n ds)= .ok (.rt true d)):runF fr n g ds= .ok d:=by rw [yN h];cases fr<;>rfl
def sl_s {L:Str} {s:List Nat} (h:s<:+cs L):slD (.str L) (some (pos L s)) (some (pos L s+1))= .ok (.str (mk s.head?.toList)):=by
 obtain ⟨h1,h2,h3⟩:=wc h;show Res.ok (D.str (cutS L (some (pos L s)) (some (pos L s+1))))=_;unfold pos;rw [X2 L _ h2,we,h1]
def UJ (x y:Str):eqR (.str x) (.str y)= .ok (.bl (x==y)):=by
 have:eqR (.str x) (.str y)= .ok (.bl (eqD (.str x) (.str y))):=jm (c:=EqC (.str x) (.str y)) (.inl ⟨rfl,rfl,by simp [D.dep]⟩);rw [this];simp [eqD]
def UA (s:List Nat) (c:Nat):(mk s.head?.toList==mk [c])=decide (s.head?=some c):=by
 rw [Xc,decide_eq_decide]
 cases s with
 |nil=>simp
 |cons x r=>simp
def eq_s {L:Str} {s:List Nat} {c:Nat} {z:Str} {env:Sl} {ft fp:TN} (hz:z=mk [c]) (h:s<:+cs L) (ht:ft env= .ok (.str L)) (hp:fp env= .ok (.int (pos L s))):asB (two (jH ft (jJ fp) (jJ (two fp (cI 1) addD)) slD) (cS z) eqR) env= .ok (decide (s.head?=some c)):=by
 subst hz;rw [←UA];exact jA (jf (qg ht (jV hp) (jV (jf hp rfl rfl)) (sl_s h)) rfl (UJ _ _))
def ne_s {L:Str} {s:List Nat} {c:Nat} {z:Str} {env:Sl} {ft fp:TN} (hz:z=mk [c]) (h:s<:+cs L) (ht:ft env= .ok (.str L)) (hp:fp env= .ok (.int (pos L s))):asB (two (jH ft (jJ fp) (jJ (two fp (cI 1) addD)) slD) (cS z) neR) env= .ok (!decide (s.head?=some c)):=by
 subst hz;rw [←UA];exact jA (jf (qg ht (jV hp) (jV (jf hp rfl rfl)) (sl_s h)) rfl (YK _ _))
theorem ul {L S:Str} {s1:Slot}: ∀(n:Nat) (s:List Nat),s.length<n->s<:+cs L->
  qB n (andB (asB (two (rdS 3) (app (ja (rdS 0) nil1) lenD) ltI)) (asB (two (two (rdS 0) (rdS 3) ixD) (rdS 2) inD))) (jF 3 (two (rdS 3) (cI 1) addD)) [.shr (.str L),s1,.shr (.str S),.shr (.int (pos L s))]= .ok (.nx [.shr (.str L),s1,.shr (.str S),.shr (.int (pos L (s.dropWhile fun c=>inS (mk [c]) S)))])
 |0,s,h,_=>by omega
 |n+1,s,hn,h=>by
  obtain ⟨h1,h2,h3⟩:=wc h;have t1:asB (two (rdS 3) (app (ja (rdS 0) nil1) lenD) ltI) [.shr (.str L),s1,.shr (.str S),.shr (.int (pos L s))]= .ok (decide (pos L s< (L.length:Int))):=jA (jf rfl (qA (jh rfl rfl) rfl) rfl)
  cases s with
  |nil=>
   rw [decide_eq_false (by unfold pos;simp)] at t1;rw [xV (kJ t1)];rfl
  |cons c s=>
   simp only [aab] at h3 hn;rw [decide_eq_true (by unfold pos;simp only [aab];omega)] at t1
   have hix:ixD (.str L) (.int (pos L (c::s)))= .ok (.str (mk [c])):=by
     show (match atI L.cps.toList (pos L (c::s)) with|some c=>Res.ok (D.str ⟨#[c]⟩)|none=> .stuck)=_;unfold pos
     rw [M.atI_nat,show L.cps.toList[L.length-(c::s).length]?=some c from by
      have:=we (l:=cs L) (p:=L.length-(c::s).length)
      rw [h1] at this;exact this]
     rfl
   have t2:asB (two (two (rdS 0) (rdS 3) ixD) (rdS 2) inD) [.shr (.str L),s1,.shr (.str S),.shr (.int (pos L (c::s)))]= .ok (inS (mk [c]) S):=jA (jf (jf rfl rfl hix) rfl rfl)
   by_cases hc:inS (mk [c]) S=true
   · rw [hc] at t2
     have hb:jF 3 (two (rdS 3) (cI 1) addD) [.shr (.str L),s1,.shr (.str S),.shr (.int (pos L (c::s)))]= .ok (.nx [.shr (.str L),s1,.shr (.str S),.shr (.int (pos L s))]):=by
      rw [←xX h];exact jD (jf rfl rfl rfl)
     rw [JV (Wc t1 t2) hb,ul n s (by omega) ((aaM c s).trans h),List.dropWhile_cons,if_pos hc]
   · rw [adf] at hc;rw [hc] at t2;rw [xV (Wc t1 t2),List.dropWhile_cons,if_neg (by rw [hc];simp)]
def uk {L S:Str} {s:List Nat} (hL:L.length<30000) (h:s<:+cs L):qK [.str L,.int (pos L s),.str S]= .ok (.str (mk (s.takeWhile fun c=>inS (mk [c]) S))):=by
 obtain ⟨h1,h2,h3⟩:=wc h;have hd:(s.dropWhile fun c=>inS (mk [c]) S)<:+cs L:=(abo _).trans h;have e:=aaY (p:=fun c=>inS (mk [c]) S) (l:=s);have el:=congrArg abN e;rw [aai] at el
 have hsl:slD (.str L) (some (pos L s)) (some (pos L (s.dropWhile fun c=>inS (mk [c]) S)))= .ok (.str (mk (s.takeWhile fun c=>inS (mk [c]) S))):=by
  show Res.ok (D.str (cutS L (some (pos L s)) (some (pos L (s.dropWhile fun c=>inS (mk [c]) S)))))=_;congr 2;apply Yi;unfold pos;rw [Z8 L _ _ (by omega) (by omega),QM,h1,show L.length-(s.dropWhile fun c=>inS (mk [c]) S).length-(L.length-s.length)=(s.takeWhile fun c=>inS (mk [c]) S).length by omega];have tk: ∀w r:List Nat,s=w++r->s.take w.length=w:=fun w r e=>by rw [e];exact ac0
  exact tk _ _ e.symm
 refine yH ?_;show wR [.shr (.str L),.shr (.int (pos L s)),.shr (.str S),.un]=_;unfold wR;rw [jk (env':=[.shr (.str L),.shr (.int (pos L s)),.shr (.str S),.shr (.int (pos L s))]) (jD rfl),jk (ul 30000 s (by omega) h)];exact qf (qg rfl (jV rfl) (jV rfl) hsl)
def qd {t:TM} {ga gb:TL} {env:Sl} {b:Bool} (h:t env= .ok b):ifO t ga gb env=if b=true then ga env else gb env:=by rw [Ze,h];rfl
def WR {w:List Nat} {i:Nat} {k:Int} {env:Sl} (hw:env[i]?=some (.shr (.str (mk w)))):asB (two (app (ja (rdS i) nil1) lenD) (cI k) gtI) env= .ok (decide (k< (w.length:Int))):=jA (jf (qA (jh (QY hw) rfl) (lenS w)) rfl rfl)
def UL {w:List Nat} {i:Nat} {env:Sl} (hw:env[i]?=some (.shr (.str (mk w)))):asB (two (rdS i) (cS "") eqR) env= .ok (decide (w=[])):=by
 rw [show decide (w=[])=(mk w==mk []) by rw [Xc]];exact jA (jf (QY hw) rfl (UJ _ _))
def jbw {w:List Nat} {env:Sl} (hw:env[3]?=some (.shr (.str (mk w)))):orB (asB (two (rdS 3) (cS "") eqR)) (orB (asB (two (app (ja (rdS 3) nil1) lenD) (cI 3) gtI)) (andB (asB (two (app (ja (rdS 3) nil1) lenD) (cI 1) gtI)) (asB (two (two (rdS 3) (cI 0) ixD) (cS "0") eqR)))) env= .ok (!fok w):=by
 cases w with
 |nil=>
  have:=UL hw;exact or_t (this.trans rfl)
 |cons c w=>
  have h0:asB (two (rdS 3) (cS "") eqR) env= .ok false:=(UL hw).trans rfl;refine or_f h0 ?_
  by_cases h3:(c::w).length<=3
  · have h1:asB (two (app (ja (rdS 3) nil1) lenD) (cI 3) gtI) env= .ok false:=(WR hw).trans (by rw [decide_eq_false (by omega)]);refine or_f h1 ?_
    by_cases h2:(c::w).length=1
    · have h4:asB (two (app (ja (rdS 3) nil1) lenD) (cI 1) gtI) env= .ok false:=(WR hw).trans (by rw [decide_eq_false (by omega)]);rw [kJ h4];simp only [fok,h2];rfl
    · have h5:1<=(c::w).length:=by simp
      have h4:asB (two (app (ja (rdS 3) nil1) lenD) (cI 1) gtI) env= .ok true:=(WR hw).trans (by rw [decide_eq_true (by omega)])
      have hix:ixD (.str (mk (c::w))) (.int 0)= .ok (.str (mk [c])):=by
       show (match atI (mk (c::w)).cps.toList ((0:Nat):Int) with|some c=>Res.ok (D.str ⟨#[c]⟩)|none=> .stuck)=_;rw [M.atI_nat];rfl
      have c48:(aaD "0")=mk [48]:=by decide+kernel
      have h6:asB (two (two (rdS 3) (cI 0) ixD) (cS "0") eqR) env= .ok (mk [c]==mk [48]):=by
       rw [←c48];exact jA (jf (jf (QY hw) rfl hix) rfl (UJ _ _))
      rw [Wc h4 h6,Xc]
      have h7:fok (c::w)=!decide (c=48):=by
       simp only [fok];rw [decide_eq_true (show 1<=(c::w).length/\(c::w).length<=3 from ⟨h5,h3⟩),decide_eq_false h2]
       by_cases hc:c=48
       · subst hc;rfl
       · simp [hc]
      rw [h7];simp
  · have h1:asB (two (app (ja (rdS 3) nil1) lenD) (cI 3) gtI) env= .ok true:=(WR hw).trans (by rw [decide_eq_true (by omega)]);rw [or_t h1];have:fok (c::w)=false:=by simp only [fok];rw [decide_eq_false (fun z=>h3 z.2)];rfl
    rw [this];rfl
theorem uF {L : Str} {s : List Nat} (hL : L.length < 30000) (h : s <:+ cs L) : zZ [.str L, .int (pos L s)] = match leaf s with
    | some (t, r) => .ok (.tup [t, .int (pos L r)])
    | none => .ok .non := by
  have t0 : asB (two (jH (rdS 0) (jJ (rdS 1)) (jJ (two (rdS 1) (cI 1) addD)) slD) (cS "?") eqR) [.shr (.str L), .shr (.int (pos L s)), .un, .un] = .ok (decide (s.head? = some 63)) := eq_s c63 h rfl rfl
  have st : ∀ o, qF qK [.shr (.str L), .shr (.int (pos L s)), .un, .un] = o -> qF qK (j4 4 [.str L, .int (pos L s)]) = o := fun o h => h
  rcases q_or s with ⟨s', rfl⟩ | hq
  · have hs : s' <:+ cs L := (aaM 63 s').trans h
    rw [decide_eq_true (show (63 :: s').head? = some 63 from rfl)] at t0
    have hw := uk (S := "0123456789") hL hs
    rw [show (fun c => inS (mk [c]) "0123456789") = fig from rfl, ← xX h] at hw
    rw [JB]
    have hp := Xq (a := s'.takeWhile fig) (r := s'.dropWhile fig) hs aaY.symm
    have hf : ∀ c ∈ s'.takeWhile fig, fig c = true := fun c hc => aaT.mp aco c hc
    generalize s'.takeWhile fig = w at hw hp hf ⊢
    have s1 : jF 3 (jN 3 qK (ja (rdS 0) (ja (two (rdS 1) (cI 1) addD) (ja (cS "0123456789") nil1)))) [.shr (.str L), .shr (.int (pos L (63 :: s'))), .un, .un] = .ok (.nx [.shr (.str L), .shr (.int (pos L (63 :: s'))), .un, .shr (.str (mk w))]) := jD (jZ (jh rfl (jh (jf rfl rfl rfl) (jh rfl rfl))) rfl hw)
    have tb := jbw (w := w) (env := [.shr (.str L), .shr (.int (pos L (63 :: s'))), .un, .shr (.str (mk w))]) rfl
    by_cases hk : fok w = true
    · rw [if_pos hk]
      rw [hk] at tb
      have hl : 1 <= w.length /\ w.length <= 3 := by simp only [fok, aap, decide_eq_true_eq] at hk; exact hk.1
      refine yH (st _ ?_)
      unfold qF
      refine zg ((qd t0).trans ?_)
      show seqO _ _ _ = _
      rw [jk s1, jk (env' := [.shr (.str L), .shr (.int (pos L (63 :: s'))), .un, .shr (.str (mk w))]) ((qd tb).trans rfl), ← hp, ← xX h]
      exact qf (yC (jh (JG (qA (jh rfl rfl) (Ke hf hl.1 hl.2).1) rfl) (jh (jf (jf rfl rfl rfl) (qA (jh rfl rfl) (lenS w)) rfl) rfl)) (big3 (by simp)))
    · rw [if_neg hk]
      rw [adf] at hk
      rw [hk] at tb
      refine yH (st _ ?_)
      unfold qF
      refine zg ((qd t0).trans ?_)
      show seqO _ _ _ = _
      rw [jk s1]
      exact zg ((qd tb).trans rfl)
  · rw [decide_eq_false (show ¬ s.head? = some 63 from fun e => by
      cases s with
      | nil => cases e
      | cons c r => simp at e; exact hq r (by rw [e]))] at t0
    rw [Qm hq]
    have hw := uk (S := abc) hL h
    rw [show (fun c => inS (mk [c]) abc) = low from rfl] at hw
    have hp := Xq (a := s.takeWhile low) (r := s.dropWhile low) h aaY.symm
    generalize s.takeWhile low = w at hw hp ⊢
    have s1 : jF 2 (jN 3 qK (ja (rdS 0) (ja (rdS 1) (ja (cS "abcdefghijklmnopqrstuvwxyz") nil1)))) [.shr (.str L), .shr (.int (pos L s)), .un, .un] = .ok (.nx [.shr (.str L), .shr (.int (pos L s)), .shr (.str (mk w)), .un]) := jD (jZ (jh rfl (jh rfl (jh rfl rfl))) rfl hw)
    have tb : orB (asB (two (rdS 2) (cS "") eqR)) (asB (two (app (ja (rdS 2) nil1) lenD) (cI 8) gtI)) [.shr (.str L), .shr (.int (pos L s)), .shr (.str (mk w)), .un] = .ok (!nok w) := by
      rw [VT (UL rfl) (WR rfl)]
      congr 1
      rw [ab1]
      simp only [nok, acP, decide_eq_true_eq, Bool.not_eq_true', decide_eq_false_iff_not]
      cases w with
      | nil => simp
      | cons c w => simp; omega
    have s0 : ifO (asB (two (jH (rdS 0) (jJ (rdS 1)) (jJ (two (rdS 1) (cI 1) addD)) slD) (cS "?") eqR)) (seqO (jF 3 (jN 3 qK (ja (rdS 0) (ja (two (rdS 1) (cI 1) addD) (ja (cS "0123456789") nil1))))) (seqO (ifO (orB (asB (two (rdS 3) (cS "") eqR)) (orB (asB (two (app (ja (rdS 3) nil1) lenD) (cI 3) gtI)) (andB (asB (two (app (ja (rdS 3) nil1) lenD) (cI 1) gtI)) (asB (two (two (rdS 3) (cI 0) ixD) (cS "0") eqR))))) (retO cN) nxO) (retO (tupF (ja (chk (app (ja (rdS 3) nil1) XS)) (ja (two (two (rdS 1) (cI 1) addD) (app (ja (rdS 3) nil1) lenD) addD) nil1)))))) nxO [.shr (.str L), .shr (.int (pos L s)), .un, .un] = .ok (.nx [.shr (.str L), .shr (.int (pos L s)), .un, .un]) := (qd t0).trans rfl
    refine (?_ : runF true 4 _ _ = _)
    by_cases hk : nok w = true
    · rw [if_pos hk]
      rw [hk] at tb
      refine yH (st _ ?_)
      unfold qF
      rw [jk s0, jk s1, jk (env' := [.shr (.str L), .shr (.int (pos L s)), .shr (.str (mk w)), .un]) ((qd tb).trans rfl), ← hp]
      exact qf (yC (jh (yC (jh rfl rfl) (big3 (by simp))) (jh (jf rfl (qA (jh rfl rfl) (lenS w)) rfl) rfl)) (big3 (by simp)))
    · rw [if_neg hk]
      rw [adf] at hk
      rw [hk] at tb
      refine yH (st _ ?_)
      unfold qF
      rw [jk s0, jk s1]
      exact zg ((qd tb).trans rfl)
def rw' (F:List (List D)) (b:List D):List D:= .tup b::(F.map D.tup).reverse
def J2 (row:List D) (F:List (List D)) (b:List D):rw' (row::F) b=rw' F b++[.tup row]:=by simp [rw']
def uv (F:List (List D)) (b:List D):(rw' F b).length=F.length+1:=by simp [rw']
def apF:List (List D)->D->List (List D)
 | [],_=>[]
 |row::F,t=>(row++[t])::F
def apB:List (List D)->D->List D->List D
 | [],t,b=>b++[t]
 |_::_,_,b=>b
def jb2 (F:List (List D)) (b:List D) (t:D): ∃ds0 row,rw' F b=ds0++[.tup row]/\rw' (apF F t) (apB F t b)=ds0++[.tup (row++[t])]/\(row=b\/row∈F):=by
 cases F with
 |nil=>exact ⟨[],b,rfl,rfl,.inl rfl⟩
 |cons row F=>exact ⟨rw' F b,row,J2 _ _ _,J2 _ _ _,.inr aaA⟩
structure Wl (F:List (List D)) (b:List D):Prop where
 im: ∀row∈F,D.imms row=true
 ln: ∀row∈F,row.length<=5000
 lb:b.length<=5000
def WQ {row:List D} {t:D} (h:D.imms row=true) (ht:t.imm=true):D.imms (row++[t])=true:=M.imms_iff.mpr fun d hd=>by
 rcases aa4.mp hd with z|z
 · exact M.imms_iff.mp h d z
 · simp at z;subst z;exact ht
def jas {row:List D} {F:List (List D)} {b:List D} {L:Str} {s:List Nat} {x:Slot} (h:Wl F b) (hr:D.imms row=true) (hl:row.length<=10):Xr 0 3 10 [.own (.nst (rw' (row::F) b)),.shr (.int (pos L s)),.shr (.str L),x]= .ok (.nx [.own (.nst (rw' (apF F (.tup row)) (apB F (.tup row) b))),.shr (.int (pos L s)),.shr (.str L),.un]):=by
 obtain ⟨ds0,row',e1,e2,e3⟩:=jb2 F b (.tup row)
 have hz:row'.length<aae:=by
  have:=big3 (k:=row'.length+1) (by
   rcases e3 with rfl|z
   · have:=h.lb;omega
   · have:=h.ln row' z;omega)
  omega
 unfold Xr;rw [jm (by simp)];show (ownN 0 [.own (.nst (rw' (row::F) b)),.shr (.int (pos L s)),.shr (.str L),x]>>=_)=_;rw [show ownN 0 [.own (.nst (rw' (row::F) b)),.shr (.int (pos L s)),.shr (.str L),x]= .ok (rw' (row::F) b) from rfl,j9,J2];rw [show (rw' F b++[D.tup row]).getLast?=some (.tup row) by simp,show (rw' F b++[D.tup row]).dropLast=rw' F b by simp];dsimp only;rw [if_neg (by omega),e1,show (ds0++[D.tup row']).getLast?=some (.tup row') by simp,show (ds0++[D.tup row']).dropLast=ds0 by simp];dsimp only;rw [jm ⟨hz,hr⟩,e2];rfl
def jat {row:List D} {F:List (List D)} {b:List D} {L:Str} {s:List Nat} {x:Slot} (hl: ¬row.length<=10):Xr 0 3 10 [.own (.nst (rw' (row::F) b)),.shr (.int (pos L s)),.shr (.str L),x]= .ok (.rt .non [.own (.nst (rw' F b)),.shr (.int (pos L s)),.shr (.str L),.un]):=by
 unfold Xr;rw [jm (by simp)];show (ownN 0 [.own (.nst (rw' (row::F) b)),.shr (.int (pos L s)),.shr (.str L),x]>>=_)=_;rw [show ownN 0 [.own (.nst (rw' (row::F) b)),.shr (.int (pos L s)),.shr (.str L),x]= .ok (rw' (row::F) b) from rfl,j9,J2];rw [show (rw' F b++[D.tup row]).getLast?=some (.tup row) by simp,show (rw' F b++[D.tup row]).dropLast=rw' F b by simp];dsimp only;rw [if_pos (by omega)];rfl
abbrev Ct:Sl->Res (Bool×Sl):=stT (andB (asB (two (lenN 0) (cI 1) gtI)) (asB (two (jH (rdS 2) (jJ (rdS 1)) (jJ (two (rdS 1) (cI 1) addD)) slD) (cS ")") eqR)))
abbrev Cb:Sl->Res OutO:=seqJ (Xr 0 3 10) (setJ 1 (stE (two (rdS 1) (cI 1) addD)))
def Va {n:Nat} {t:Sl->Res (Bool×Sl)} {g:Sl->Res OutO} {env env1 env2:Sl} {d:D} (h:t env= .ok (true,env1)) (h2:g env1= .ok (.rt d env2)):wb (n+1) t g env= .ok (.rt d env2):=by
 conv=>lhs;unfold wb
 rw [h];show (g env1>>=_)=_;rw [h2];rfl
def Ql {F:List (List D)} {b:List D} {env:Sl} {i:Nat} (h:env[i]?=some (.own (.nst (rw' F b)))):lenN i env= .ok (.int ((F.length:Int)+1)):=by
 unfold lenN ownN;rw [h];show Res.ok (D.int ((rw' F b).length:Int))=_;rw [uv];simp
def CloR (L:Str) (b:List D) (r:Res OutO):Clo->Prop
 | .fail=> ∃ds rest,r= .ok (.rt .non (.own (.nst ds)::rest))
 | .done t s=> ∃x,r= .ok (.nx [.own (.nst (rw' [] (b++[t]))),.shr (.int (pos L s)),.shr (.str L),x])
 | .more F s=> ∃x,r= .ok (.nx [.own (.nst (rw' F b)),.shr (.int (pos L s)),.shr (.str L),x])
theorem Kj {L : Str} {b : List D} : ∀ (F : List (List D)) (t : D) (s : List Nat) (n : Nat) (x : Slot), F.length < n -> Wl F b -> t.imm = true -> s <:+ cs L ->
    CloR L b (wb n Ct Cb [.own (.nst (rw' (apF F t) (apB F t b))), .shr (.int (pos L s)), .shr (.str L), x]) (clo F t s)
  | [], t, s, n, x, hn, h, ht, hs => by
    obtain ⟨n, rfl⟩ : ∃ n', n = n' + 1 := ⟨n - 1, by omega⟩
    have t1 : asB (two (lenN 0) (cI 1) gtI) [.own (.nst (rw' [] (b ++ [t]))), .shr (.int (pos L s)), .shr (.str L), x] = .ok false := jA (jf (Ql rfl) rfl rfl)
    exact ⟨x, yZ (Wq (kJ t1))⟩
  | row :: F, t, s, n, x, hn, h, ht, hs => by
    obtain ⟨n, rfl⟩ : ∃ n', n = n' + 1 := ⟨n - 1, by omega⟩
    have t1 : asB (two (lenN 0) (cI 1) gtI) [.own (.nst (rw' ((row ++ [t]) :: F) b)), .shr (.int (pos L s)), .shr (.str L), x] = .ok true := jA (jf (Ql rfl) rfl (by show Res.ok (D.bl (decide _)) = _; congr 2; simp; omega))
    have t2 : asB (two (jH (rdS 2) (jJ (rdS 1)) (jJ (two (rdS 1) (cI 1) addD)) slD) (cS ")") eqR) [.own (.nst (rw' ((row ++ [t]) :: F) b)), .shr (.int (pos L s)), .shr (.str L), x] = .ok (decide (s.head? = some 41)) := eq_s c41 hs rfl rfl
    have hw : Wl F b := ⟨fun r hr => h.im r (aar _ hr), fun r hr => h.ln r (aar _ hr), h.lb⟩
    have hri := WQ (h.im row aaA) ht
    by_cases h41 : ∃ s', s = 41 :: s'
    · obtain ⟨s', rfl⟩ := h41
      rw [decide_eq_true (show (41 :: s').head? = some 41 from rfl)] at t2
      have tt := Wq (Wc t1 t2)
      by_cases hl : (row ++ [t]).length <= 10
      · rw [yU hl]
        have hb : Cb [.own (.nst (rw' ((row ++ [t]) :: F) b)), .shr (.int (pos L (41 :: s'))), .shr (.str L), x] = .ok (.nx [.own (.nst (rw' (apF F (.tup (row ++ [t]))) (apB F (.tup (row ++ [t])) b))), .shr (.int (pos L s')), .shr (.str L), .un]) := by
          refine (qk (jas hw hri hl)).trans ?_
          rw [← xX hs]
          exact (JY (w9 (jf rfl rfl rfl))).trans rfl
        have ih := Kj (L := L) (b := b) F (.tup (row ++ [t])) s' n .un (by simp only [aab] at hn; omega) hw (by simpa only [D.imm] using hri) ((aaM 41 s').trans hs)
        rw [show wb (n + 1) Ct Cb [.own (.nst (rw' (apF (row :: F) t) (apB (row :: F) t b))), .shr (.int (pos L (41 :: s'))), .shr (.str L), x] = _ from Wh tt hb]
        exact ih
      · rw [JU hl]
        exact ⟨_, _, Va tt (JZ (jat hl))⟩
    · rw [JT (fun s1 e => h41 ⟨s1, e⟩)]
      rw [decide_eq_false (show ¬ s.head? = some 41 from fun e => by
        cases s with
        | nil => cases e
        | cons c r => simp at e; exact h41 ⟨r, by rw [e]⟩)] at t2
      exact ⟨x, yZ (Wq (Wc t1 t2))⟩
def CloF (L:Str) (b:List D) (r:Res (D×D)):Clo->Prop
 | .fail=> ∃ds,r= .ok (.non,.nst ds)
 | .done t s=>r= .ok (.int (pos L s),.nst (rw' [] (b++[t])))
 | .more F s=>r= .ok (.int (pos L s),.nst (rw' F b))
def ub {L:Str} {b:List D} {F:List (List D)} {t:D} {s:List Nat} (hF:F.length<64) (h:Wl F b) (ht:t.imm=true) (hs:s<:+cs L):
  CloF L b (qN (.nst (rw' (apF F t) (apB F t b))) [.int (pos L s),.str L]) (clo F t s):=by
 have hc:=Kj (L:=L) (b:=b) F t s 64 .un hF h ht hs;have st: ∀o,qr [.own (.nst (rw' (apF F t) (apB F t b))),.shr (.int (pos L s)),.shr (.str L),.un]=o->qr (zm 4 (.nst (rw' (apF F t) (apB F t b))) [.int (pos L s),.str L])=o:=fun o h=>h
 cases e:clo F t s with
 |fail=>
  rw [e] at hc;obtain ⟨ds,rest,hc⟩:=hc;exact ⟨ds,Jb (rest:=rest) rfl (st _ (by unfold qr;exact JZ hc))⟩
 |done t' s'=>
  rw [e] at hc;obtain ⟨x,hc⟩:=hc;exact Jb rfl (st _ (by unfold qr;exact (qk hc).trans (zC (w9 rfl))))
 |more F' s'=>
  rw [e] at hc;obtain ⟨x,hc⟩:=hc;exact Jb rfl (st _ (by unfold qr;exact (qk hc).trans (zC (w9 rfl))))
theorem X4: ∀(F:List (List D)) (t:D) (s:List Nat),(∀row∈F,D.imms row=true)->t.imm=true->s<:+s->match clo F t s with
  | .fail=>True
  | .done t' s'=>t'.imm=true/\s'<:+s
  | .more F' s'=>(∀row∈F',D.imms row=true)/\s'<:+s/\1<=F'.length
 | [],t,s,_,ht,_=>⟨ht,abD _⟩
 |row::F,t,s,h,ht,_=>by
  have hri:=WQ (h row aaA) ht
  by_cases h41: ∃s',s=41::s'
  · obtain ⟨s',rfl⟩:=h41
    by_cases hl:(row++[t]).length<=10
    · rw [yU hl];have ih:=X4 F (.tup (row++[t])) s' (fun r hr=>h r (aar _ hr)) (by simpa only [D.imm] using hri) (abD _)
      cases e:clo F (.tup (row++[t])) s' with
      |fail=>trivial
      |done t' s2=>rw [e] at ih;exact ⟨ih.1,ih.2.trans (aaM 41 s')⟩
      |more F' s2=>rw [e] at ih;exact ⟨ih.1,ih.2.1.trans (aaM 41 s'),ih.2.2⟩
    · rw [JU hl];trivial
  · rw [JT (fun s1 e=>h41 ⟨s1,e⟩)];refine ⟨fun r hr=>?_,abD _,by simp⟩;rcases aaw.mp hr with rfl|z
    · exact hri
    · exact h r (aar _ z)
def Ji {s s1:List Nat} {t:D} (h:leaf s=some (t,s1)):((∃i,t= .int i)\/ ∃z,t= .tup [.str z])/\s1<:+s:=by
 rcases q_or s with ⟨s',rfl⟩|hq
 · rw [JB] at h
   split at h<;>cases h
   exact ⟨.inl ⟨_,rfl⟩,(abo fig).trans (aaM 63 s')⟩
 · rw [Qm hq] at h
   split at h
   · cases h;exact ⟨.inr ⟨_,rfl⟩,abo low⟩
   · cases h
theorem YH: ∀r:List D,r.length<=nums r
 | []=>by simp
 |d::r=>by have:=YH r;have:=VY d;simp only [nums,aab];omega
def jah {row:List D} (h: ∃z r,row=D.str z::r):row.length<=nrow row:=by
 obtain ⟨z,r,rfl⟩:=h;have:=YH r;simp only [nrow,ac1,aab];omega
theorem YJ: ∀ {F:List (List D)} {row:List D},row∈F->nrow row<=numF F
 |r::F,row,h=>by
  rw [qT];rcases aaw.mp h with rfl|z
  · omega
  · have:=YJ z;omega
structure St (L:Str) (F:List (List D)) (s:List Nat) (P:Nat):Prop where
 nf:numF F=P
 rw:Rows F
 im: ∀row∈F,D.imms row=true
 sf:s<:+cs L
 fl:F.length<=60
def St.wl {L:Str} {F:List (List D)} {s:List Nat} {P:Nat} (h:St L F s P) (hP:P<=1001):Wl F []:=⟨h.im,fun row hr=>by
 have:=jah (h.rw row hr);have:=YJ hr;have:=h.nf
 omega,by simp⟩
abbrev Ev (L:Str) (F:List (List D)) (s:List Nat) (P:Nat) (x y:Slot):Sl:=[.shr (.str L),.own (.nst (rw' F [])),.shr (.int (pos L s)),.shr (.int (P:Int)),x,y]
abbrev Dt:Sl->Res Bool:=andB (asB (two (rdS 3) (cI 1000) leI)) (asB (two (lenN 1) (cI 60) leI))
abbrev Db2:Sl->Res Out:=(seqO (appP 1 (rdS 5)) (seqO (Zr 2 (Zj 1 2 qN (ja (rdS 2) (ja (rdS 0) nil1)))) (seqO (ifO (orB (asB (two (rdS 2) cN isN)) (asB (two (lenN 1) (cI 1) eqR))) (retO (ifD (orB (asB (two (rdS 2) (app (ja (rdS 0) nil1) lenD) neR)) (asB (two (rdS 3) (cI 1000) gtI))) cN (chk (ixN2 1)))) nxO) (seqO (ifO (asB (two (jH (rdS 0) (jJ (rdS 2)) (jJ (two (rdS 2) (cI 1) addD)) slD) (cS ",") neR)) (retO cN) nxO) (jF 2 (two (rdS 2) (cI 1) addD))))))
abbrev Db:Sl->Res Out:=(seqO (jF 4 (jN 2 zZ (ja (rdS 0) (ja (rdS 2) nil1)))) (seqO (ifO (asB (two (rdS 4) cN isN)) (retO cN) nxO) (seqO (asgO (rdS 4) (g2 (gN 5) (gN 2))) (seqO (jF 3 (two (rdS 3) (cI 1) addD)) (seqO (ifO (andB (asB (isiF "tuple" (rdS 5))) (asB (two (jH (rdS 0) (jJ (rdS 2)) (jJ (two (rdS 2) (cI 1) addD)) slD) (cS "(") eqR))) (seqO (appN 1 (lstF (ja (two (rdS 5) (cI 0) ixD) nil1))) (seqO (jF 2 (two (rdS 2) (cI 1) addD)) ctO)) nxO) Db2)))))
def jbZ {ga gb:TL} {env env':Sl} (h:ga env= .ok (.ct env')):seqO ga gb env= .ok (.ct env'):=by rw [yi,h];rfl
def jbp {L:Str} {F:List (List D)} {s:List Nat} {P:Nat} {x y:Slot} (hL:L.length<30000) (h:St L F s P) (e:leaf s=none):Db (Ev L F s P x y)= .ok (.rt true .non):=by
 have hl:=uF hL h.sf;rw [e] at hl;refine (jk (env':=Ev L F s P (.shr .non) y) (jD (jZ (jh rfl (jh rfl rfl)) rfl hl))).trans ?_;exact zg ((qd (jA (jf rfl rfl rfl))).trans rfl)
def U8 {L:Str} {F:List (List D)} {s s1:List Nat} {P:Nat} {x y:Slot} {t:D} (hL:L.length<30000) (h:St L F s P) (e:leaf s=some (t,s1)):Db (Ev L F s P x y)=seqO (ifO (andB (asB (isiF "tuple" (rdS 5))) (asB (two (jH (rdS 0) (jJ (rdS 2)) (jJ (two (rdS 2) (cI 1) addD)) slD) (cS "(") eqR))) (seqO (appN 1 (lstF (ja (two (rdS 5) (cI 0) ixD) nil1))) (seqO (jF 2 (two (rdS 2) (cI 1) addD)) ctO)) nxO) Db2 (Ev L F s1 (P+1) (.shr (.tup [t,.int (pos L s1)])) (.shr t)):=by
 have hl:=uF hL h.sf;rw [e] at hl;refine (jk (env':=Ev L F s P (.shr (.tup [t,.int (pos L s1)])) y) (jD (jZ (jh rfl (jh rfl rfl)) rfl hl))).trans ?_;refine (jk (env':=Ev L F s P (.shr (.tup [t,.int (pos L s1)])) y) ((qd (jA (jf rfl rfl rfl))).trans rfl)).trans ?_;refine (jk (env':=Ev L F s1 P (.shr (.tup [t,.int (pos L s1)])) (.shr t)) (u0 rfl jcV)).trans ?_;exact jk (jD (jf rfl rfl rfl))
def jbo {L:Str} {F:List (List D)} {s s2:List Nat} {P:Nat} {x y:Slot} {z:Str} (hL:L.length<30000) (h:St L F s P) (e:leaf s=some (.tup [.str z],40::s2)):Db (Ev L F s P x y)= .ok (.ct (Ev L ([.str z]::F) s2 (P+1) (.shr (.tup [.tup [.str z],.int (pos L (40::s2))])) (.shr (.tup [.str z])))):=by
 have hs:(40::s2)<:+cs L:=(Ji e).2.trans h.sf;rw [U8 hL h e];have tt:andB (asB (isiF "tuple" (rdS 5))) (asB (two (jH (rdS 0) (jJ (rdS 2)) (jJ (two (rdS 2) (cI 1) addD)) slD) (cS "(") eqR)) (Ev L F (40::s2) (P+1) (.shr (.tup [.tup [.str z],.int (pos L (40::s2))])) (.shr (.tup [.str z])))= .ok true:=Wc (jA (xB rfl rfl)) (eq_s c40 hs rfl rfl)
 have ha:appN 1 (lstF (ja (two (rdS 5) (cI 0) ixD) nil1)) (Ev L F (40::s2) (P+1) (.shr (.tup [.tup [.str z],.int (pos L (40::s2))])) (.shr (.tup [.str z])))= .ok (.nx (Ev L ([.str z]::F) (40::s2) (P+1) (.shr (.tup [.tup [.str z],.int (pos L (40::s2))])) (.shr (.tup [.str z])))):=by
  unfold appN;rw [show ownN 1 (Ev L F (40::s2) (P+1) (.shr (.tup [.tup [.str z],.int (pos L (40::s2))])) (.shr (.tup [.str z])))= .ok (rw' F []) from rfl,j9,Q2 (jh (jf rfl rfl rfl) rfl) (big3 (by simp)),j9];dsimp only;rw [jm ⟨by rw [uv];have:=h.fl;have:=big3 (k:=F.length+2) (by omega);omega,rfl⟩,←J2];rfl
 have hb:jF 2 (two (rdS 2) (cI 1) addD) (Ev L ([.str z]::F) (40::s2) (P+1) (.shr (.tup [.tup [.str z],.int (pos L (40::s2))])) (.shr (.tup [.str z])))= .ok (.nx (Ev L ([.str z]::F) s2 (P+1) (.shr (.tup [.tup [.str z],.int (pos L (40::s2))])) (.shr (.tup [.str z])))):=by
  have hp:=xX hs;exact (jD (jf rfl rfl rfl)).trans (by rw [hp];rfl)
 have hc:ifO (andB (asB (isiF "tuple" (rdS 5))) (asB (two (jH (rdS 0) (jJ (rdS 2)) (jJ (two (rdS 2) (cI 1) addD)) slD) (cS "(") eqR))) (seqO (appN 1 (lstF (ja (two (rdS 5) (cI 0) ixD) nil1))) (seqO (jF 2 (two (rdS 2) (cI 1) addD)) ctO)) nxO (Ev L F (40::s2) (P+1) (.shr (.tup [.tup [.str z],.int (pos L (40::s2))])) (.shr (.tup [.str z])))= .ok (.ct (Ev L ([.str z]::F) s2 (P+1) (.shr (.tup [.tup [.str z],.int (pos L (40::s2))])) (.shr (.tup [.str z])))):=by
  rw [qd tt];refine (if_pos rfl).trans ?_;rw [jk ha,jk hb];rfl
 exact jbZ hc
def jbq {L:Str} {F:List (List D)} {s s1:List Nat} {P:Nat} {x y:Slot} {t:D} (hL:L.length<30000) (h:St L F s P) (e:leaf s=some (t,s1)) (hn: ∀x s2,t= .tup [x]->s1≠40::s2):Db (Ev L F s P x y)=Db2 (Ev L F s1 (P+1) (.shr (.tup [t,.int (pos L s1)])) (.shr t)):=by
 rw [U8 hL h e];obtain ⟨hc,hs⟩:=Ji e;refine jk ((qd (b:=false) ?_).trans rfl);rcases hc with ⟨i,rfl⟩| ⟨z,rfl⟩
 · exact kJ (jA (xB rfl rfl))
 · refine Wc (jA (xB rfl rfl)) ((eq_s c40 (hs.trans h.sf) rfl rfl).trans ?_);rw [decide_eq_false];intro e2
   cases s1 with
   |nil=>cases e2
   |cons c r=>simp at e2;exact hn _ r rfl (by rw [e2])
def jc4 {L:Str} {F:List (List D)} {s:List Nat} {Q:Nat} {x:Slot} {t:D} (h:Wl F []) (ht:t.imm=true):appP 1 (rdS 5) (Ev L F s Q x (.shr t))= .ok (.nx [.shr (.str L),.own (.nst (rw' (apF F t) (apB F t []))),.shr (.int (pos L s)),.shr (.int (Q:Int)),x,.shr t]):=by
 obtain ⟨ds0,row,e1,e2,e3⟩:=jb2 F [] t
 have hz:row.length<aae:=by
  have:=big3 (k:=row.length+1) (by
   rcases e3 with rfl|z
   · simp
   · have:=h.ln row z;omega)
  omega
 unfold appP;rw [show ownN 1 (Ev L F s Q x (.shr t))= .ok (rw' F []) from rfl,j9,show rdS 5 (Ev L F s Q x (.shr t))= .ok t from rfl,j9,e1,show (ds0++[D.tup row]).getLast?=some (.tup row) by simp,show (ds0++[D.tup row]).dropLast=ds0 by simp];dsimp only;rw [jm ⟨hz,ht⟩,←e2];rfl
def kA {i n:Nat} {F:FO} {g:TK} {env:Sl} {d0 r d1:D} {ds:List D} (h:env[i]?=some (.own d0)) (h1:g env= .ok ds) (h2:ds.length=n) (h3:F d0 ds= .ok (r,d1)):Zj i n F g env= .ok (r,env.set i (.own d1)):=by
 unfold Zj;rw [h];dsimp only;rw [h1,j9,jm h2,h3];rfl
def jar {L:Str} {s:List Nat} (h:s<:+cs L):(pos L s==(L.length:Int))=decide (s=[]):=by
 have:=(wc h).2.2;rw [ab1,beq_iff_eq,decide_eq_true_eq];unfold pos
 cases s with
 |nil=>simp
 |cons c r=>
  simp only [aab] at this ⊢
  constructor
  · intro z;exact absurd z (by omega)
  · intro z;cases z
abbrev Tl:Sl->Res Out:=(seqO (ifO (orB (asB (two (rdS 2) cN isN)) (asB (two (lenN 1) (cI 1) eqR))) (retO (ifD (orB (asB (two (rdS 2) (app (ja (rdS 0) nil1) lenD) neR)) (asB (two (rdS 3) (cI 1000) gtI))) cN (chk (ixN2 1)))) nxO) (seqO (ifO (asB (two (jH (rdS 0) (jJ (rdS 2)) (jJ (two (rdS 2) (cI 1) addD)) slD) (cS ",") neR)) (retO cN) nxO) (jF 2 (two (rdS 2) (cI 1) addD))))
def U9 {L:Str} {F:List (List D)} {s:List Nat} {Q:Nat} {x:Slot} {t r d1:D} (h:Wl F []) (ht:t.imm=true) (hc:qN (.nst (rw' (apF F t) (apB F t []))) [.int (pos L s),.str L]= .ok (r,d1)):Db2 (Ev L F s Q x (.shr t))=Tl [.shr (.str L),.own d1,.shr r,.shr (.int (Q:Int)),x,.shr t]:=by
 refine (jk (jc4 h ht)).trans ?_;exact jk ((Yo (kA rfl (jh rfl (jh rfl rfl)) rfl hc)).trans rfl)
def jcQ {g:TM} {f1 f2:TN} {env:Sl} {d:D} {b:Bool} (h:g env= .ok b) (h2:(if b=true then f1 env else f2 env)= .ok d):ifD g f1 f2 env= .ok d:=by rw [jcY,h];exact h2
def DueR (L:Str) (Q:Nat) (r:Res Out):Clo->Prop
 | .fail=>r= .ok (.rt true .non)
 | .done t s=>r= .ok (.rt true (if s=[]/\Q<=1000 then t else .non))
 | .more F s=>(∀s',s=44::s'-> ∃x y,r= .ok (.nx (Ev L F s' Q x y)))/\((∀s',s≠44::s')->r= .ok (.rt true .non))
def jdQ {L:Str} {F:List (List D)} {s:List Nat} {Q:Nat} {x:Slot} {t:D} (hF:F.length<64) (h:Wl F []) (ht:t.imm=true) (hs:s<:+cs L):DueR L Q (Db2 (Ev L F s Q x (.shr t))) (clo F t s):=by
 have hc:=ub (b:=[]) hF h ht hs;have hi:=X4 F t s h.im ht (abD _)
 cases e:clo F t s with
 |fail=>
  rw [e] at hc;obtain ⟨ds,hc⟩:=hc;refine (U9 h ht hc).trans ?_;refine zg ((qd (or_t (jA (jf rfl rfl rfl)))).trans ?_);refine (if_pos rfl).trans (qf (jcQ (or_t (jA (jf rfl (qA (jh rfl rfl) rfl) ?_))) rfl));exact jm (c:=EqC .non (.int _)) (.inl ⟨rfl,rfl,by simp [D.dep]⟩)
 |done t' s'=>
  rw [e] at hc hi;have hs':=hi.2.trans hs;refine (U9 h ht hc).trans ?_;have hlen:lenN 1 [.shr (.str L),.own (.nst (rw' [] ([]++[t']))),.shr (.int (pos L s')),.shr (.int (Q:Int)),x,.shr t]= .ok (.int 1):=(Ql (F:=[]) rfl).trans rfl;have t1:asB (two (lenN 1) (cI 1) eqR) [.shr (.str L),.own (.nst (rw' [] ([]++[t']))),.shr (.int (pos L s')),.shr (.int (Q:Int)),x,.shr t]= .ok true:=jA (jf hlen rfl eqR_int');refine zg ((qd (or_f (jA (jf rfl rfl rfl)) t1)).trans ?_)
  have t2:orB (asB (two (rdS 2) (app (ja (rdS 0) nil1) lenD) neR)) (asB (two (rdS 3) (cI 1000) gtI)) [.shr (.str L),.own (.nst (rw' [] ([]++[t']))),.shr (.int (pos L s')),.shr (.int (Q:Int)),x,.shr t]= .ok (!decide (s'=[])||decide ((1000:Int)< (Q:Int))):=by
    rw [←jar hs'];exact VT (jA (jf rfl (qA (jh rfl rfl) rfl) YL)) (jA (jf rfl rfl rfl))
  refine (if_pos rfl).trans (qf (jcQ t2 ?_))
  by_cases hh:s'=[]/\Q<=1000
  · rw [if_pos hh,decide_eq_true hh.1,decide_eq_false (by omega)];refine (if_neg (by simp)).trans (JG ?_ hi.1);unfold ixN2;rw [show ownN 1 [.shr (.str L),.own (.nst (rw' [] ([]++[t']))),.shr (.int (pos L s')),.shr (.int (Q:Int)),x,.shr t]= .ok [.tup [t']] from rfl,j9];exact jm hi.1
  · rw [if_neg hh];refine (if_pos ?_).trans rfl
    by_cases h0:s'=[]
    · have hq: ¬Q<=1000:=fun z=>hh ⟨h0,z⟩
      rw [decide_eq_true (show (1000:Int)< (Q:Int) by omega)];simp
    · rw [decide_eq_false h0];rfl
 |more F' s'=>
  rw [e] at hc hi;have hs':=hi.2.1.trans hs;have go:=U9 (Q:=Q) (x:=x) h ht hc
  have t1:asB (two (lenN 1) (cI 1) eqR) [.shr (.str L),.own (.nst (rw' F' [])),.shr (.int (pos L s')),.shr (.int (Q:Int)),x,.shr t]= .ok false:=jA (jf (Ql rfl) rfl (eqR_int'.trans (by
    have:=hi.2.2;congr 2;rw [beq_eq_false_iff_ne]
    omega)))
  have go2:Tl [.shr (.str L),.own (.nst (rw' F' [])),.shr (.int (pos L s')),.shr (.int (Q:Int)),x,.shr t]=seqO (ifO (asB (two (jH (rdS 0) (jJ (rdS 2)) (jJ (two (rdS 2) (cI 1) addD)) slD) (cS ",") neR)) (retO cN) nxO) (jF 2 (two (rdS 2) (cI 1) addD)) (Ev L F' s' Q x (.shr t)):=jk ((qd (or_f (jA (jf rfl rfl rfl)) t1)).trans rfl);have t3:asB (two (jH (rdS 0) (jJ (rdS 2)) (jJ (two (rdS 2) (cI 1) addD)) slD) (cS ",") neR) (Ev L F' s' Q x (.shr t))= .ok (!decide (s'.head?=some 44)):=ne_s c44 hs' rfl rfl
  by_cases h44: ∃s3,s'=44::s3
  · obtain ⟨s3,rfl⟩:=h44;refine ⟨fun s4 e4=>?_,fun z=>(z s3 rfl).elim⟩;cases e4;refine ⟨x,.shr t,go.trans (go2.trans ?_)⟩;rw [decide_eq_true (show (44::s3).head?=some 44 from rfl)] at t3;rw [jk (env':=Ev L F' (44::s3) Q x (.shr t)) ((qd t3).trans rfl)];have hp:=xX hs';exact (jD (jf rfl rfl rfl)).trans (by rw [hp];rfl)
  · have hd: ¬s'.head?=some 44:=fun e2=>by
      cases s' with
      |nil=>cases e2
      |cons c r=>simp at e2;exact h44 ⟨r,by rw [e2]⟩
    rw [decide_eq_false hd] at t3;have:=go.trans (go2.trans (zg ((qd t3).trans rfl)));exact ⟨fun s4 e4=>(h44 ⟨s4,e4⟩).elim,fun _=>this⟩
def Vb {n:Nat} {t:TM} {g:TL} {env env':Sl} (ht:t env= .ok true) (h:g env= .ok (.ct env')):qB (n+1) t g env=qB n t g env':=by
 conv=>lhs;unfold qB
 rw [ht,j9];refine (if_pos rfl).trans ?_;rw [h];rfl
def dd:Option D->D
 |some u=>u
 |none=> .non
def dt_s {L:Str} {F:List (List D)} {s:List Nat} {P:Nat} {x y:Slot}:Dt (Ev L F s P x y)= .ok (decide (P<=1000)&&decide (F.length<60)):=by
 refine kI (jA (jf rfl rfl ?_)) (jA (jf (Ql rfl) rfl ?_))
 · show Res.ok (D.bl (decide _))=_;congr 2;rw [decide_eq_decide];omega
 · show Res.ok (D.bl (decide _))=_;congr 2;rw [decide_eq_decide];omega
theorem jbe {L : Str} (hL : L.length < 30000) : ∀ (n m : Nat) (F : List (List D)) (s : List Nat) (P : Nat) (x y : Slot), P + m = 1001 -> m < n -> St L F s P -> seqO (qB n Dt Db) (retO cN) (Ev L F s P x y) = .ok (.rt true (dd (mach (m - 1) F s)))
  | 0, m, _, _, _, _, _, _, h, _ => by omega
  | n + 1, m, F, s, P, x, y, hP, hn, h => by
    have ht := dt_s (L := L) (F := F) (s := s) (P := P) (x := x) (y := y)
    by_cases hg : P <= 1000 /\ F.length < 60
    · rw [decide_eq_true hg.1, decide_eq_true hg.2] at ht
      obtain ⟨m, rfl⟩ : ∃ m', m = m' + 1 := ⟨m - 1, by omega⟩
      rw [Nat.add_sub_cancel]
      cases e : leaf s with
      | none =>
        have : mach m F s = none := by
          cases m with
          | zero => rfl
          | succ m => unfold mach; rw [if_neg (by omega), e]
        rw [this, zg (xj ht (jbp hL h e))]
        rfl
      | some q =>
        obtain ⟨t, s1⟩ := q
        obtain ⟨hc, hsf⟩ := Ji e
        have hs1 := hsf.trans h.sf
        have hti : t.imm = true := by rcases hc with ⟨i, rfl⟩ | ⟨z, rfl⟩ <;> rfl
        by_cases ho : ∃ x s2, t = .tup [x] /\ s1 = 40 :: s2
        · obtain ⟨x', s2, rfl, rfl⟩ := ho
          obtain ⟨z, rfl⟩ := YR e
          have hb := jbo (x := x) (y := y) hL h e
          have hst : St L ([.str z] :: F) s2 (P + 1) := ⟨by rw [qT, h.nf]; simp only [nrow, ac1, nums]; omega, h.rw.cons ⟨z, [], rfl⟩, fun r hr => by
            rcases aaw.mp hr with rfl | w
            · rfl
            · exact h.im r w, (aaM 40 s2).trans hs1, by simp only [aab]; omega⟩
          have ih := jbe hL n m ([.str z] :: F) s2 (P + 1) (.shr (.tup [.tup [.str z], .int (pos L (40 :: s2))])) (.shr (.tup [.str z])) (by omega) (by omega) hst
          have hm : mach m F s = mach (m - 1) ([.str z] :: F) s2 := by
            cases m with
            | zero => rfl
            | succ m =>
              conv => lhs; unfold mach; rw [if_neg (show ¬ 60 <= F.length by omega), e]
              rfl
          rw [hm, ← ih]
          unfold seqO
          rw [Vb ht hb]
        · have hno : ∀ x s2, t = .tup [x] -> s1 ≠ 40 :: s2 := fun x s2 e1 e2 => ho ⟨x, s2, e1, e2⟩
          have hb := jbq (x := x) (y := y) hL h e hno
          have hd := jdQ (L := L) (Q := P + 1) (x := .shr (.tup [t, .int (pos L s1)])) (F := F) (t := t) (s := s1) (by omega) (h.wl (by omega)) hti hs1
          have hcn := X3 F t s1 h.rw
          have hci := X4 F t s1 h.im hti (abD _)
          have hln := YS e
          have hm : ∀ m, mach (m + 1) F s = match clo F t s1 with
              | .fail => none
              | .done t' s2 => if s2 = [] then some t' else none
              | .more F' s2 => match s2 with
                | 44 :: s3 => mach m F' s3
                | _ => none := fun m => by
            conv => lhs; unfold mach; rw [if_neg (show ¬ 60 <= F.length by omega), e]
            dsimp only
            split
            · rename_i x' s2
              exact (hno x' s2 rfl rfl).elim
            · rfl
          rw [← hb] at hd
          cases ec : clo F t s1 with
          | fail =>
            rw [ec] at hd
            have : mach m F s = none := by
              cases m with
              | zero => rfl
              | succ m => rw [hm, ec]
            rw [this, zg (xj ht hd)]; rfl
          | done t' s2 =>
            rw [ec] at hd
            have : dd (mach m F s) = if s2 = [] /\ P + 1 <= 1000 then t' else .non := by
              cases m with
              | zero => rw [if_neg (by omega)]; rfl
              | succ m =>
                rw [hm, ec]
                dsimp only
                by_cases h0 : s2 = []
                · rw [if_pos h0, if_pos ⟨h0, by omega⟩]; rfl
                · rw [if_neg h0, if_neg (fun z => h0 z.1)]; rfl
            rw [this]
            exact zg (xj ht hd)
          | more F' s2 =>
            rw [ec] at hd hcn hci
            dsimp only at hcn hci
            by_cases h44 : ∃ s3, s2 = 44 :: s3
            · obtain ⟨s3, rfl⟩ := h44
              obtain ⟨x', y', hd⟩ := hd.1 s3 rfl
              have hst : St L F' s3 (P + 1) := ⟨by rw [hcn.1, h.nf, hln], hcn.2.1, hci.1, ((aaM 44 s3).trans hci.2.1).trans hs1, by have := hcn.2.2; have := h.fl; omega⟩
              have ih := jbe hL n m F' s3 (P + 1) x' y' (by omega) (by omega) hst
              have hm' : mach m F s = mach (m - 1) F' s3 := by
                cases m with
                | zero => rfl
                | succ m => rw [hm, ec]; rfl
              rw [hm', ← ih]
              unfold seqO
              rw [JV ht hd]
            · have hd' : Db (Ev L F s P x y) = .ok (.rt true .non) := hd.2 fun s4 e4 => h44 ⟨s4, e4⟩
              have : mach m F s = none := by
                cases m with
                | zero => rfl
                | succ m =>
                  rw [hm, ec]
                  dsimp only
                  split
                  · exact (h44 ⟨_, rfl⟩).elim
                  · rfl
              rw [this, zg (xj ht hd')]; rfl
    · have : (decide (P <= 1000) && decide (F.length < 60)) = false := by
        rw [Bool.and_eq_false_iff]
        by_cases h1 : P <= 1000
        · exact .inr (decide_eq_false (fun z => hg ⟨h1, z⟩))
        · exact .inl (decide_eq_false h1)
      rw [this] at ht
      have hm : mach (m - 1) F s = none := by
        cases e : m - 1 with
        | zero => rfl
        | succ m' => unfold mach; rw [if_pos (by omega)]
      rw [hm, jk (xV ht)]
      rfl
def jdO {z:Str} (hL:z.length<30000):zl [.str z]= .ok (dd (mach 1000 [] (cs z))):=by
 have h:=jbe (L:=z) hL 1010 1001 [] (cs z) 0 .un .un (by omega) (by omega) ⟨rfl,fun _ h=>(by cases h),fun _ h=>(by cases h),abD _,by simp⟩;refine yH ?_;show x5 zZ qN [.shr (.str z),.un,.un,.un,.un,.un]=_;unfold x5;rw [jk (env':=[.shr (.str z),.own (.nst (rw' [] [])),.un,.un,.un,.un]) ((JX (d:= .nst [.tup []]) rfl).trans rfl),jk (env':=[.shr (.str z),.own (.nst (rw' [] [])),.shr (.int 0),.un,.un,.un]) (jD rfl),jk (env':=[.shr (.str z),.own (.nst (rw' [] [])),.shr (.int 0),.shr (.int 0),.un,.un]) (jD rfl)];rw [show Ev z [] (cs z) 0 .un .un=[.shr (.str z),.own (.nst (rw' [] [])),.shr (.int 0),.shr (.int 0),.un,.un] by unfold Ev pos;rw [zt,Nat.sub_self];rfl] at h;exact h
def vi {k:Nat} {s r:List Nat} {t:D} (h:pt k s=some (t,r)):(∃i,t= .int i)\/ ∃l,t= .tup l:=by
 cases k with
 |zero=>cases h
 |succ k=>
  rcases q_or s with ⟨s',rfl⟩|hq
  · rw [pt_q,JB] at h
    split at h<;>cases h
    exact .inl ⟨_,rfl⟩
  · rw [pt_n hq] at h
    split at h
    · split at h
      · cases h;exact .inr ⟨_,rfl⟩
      · cases h
    · cases h
def jcA {f:TN} {env:Sl} {b:Bool} (h:f env= .ok (.bl b)):notF f env= .ok (.bl (!b)):=by rw [jba,h];rfl
def jaD:zG [.exn "NoText"]= .ok (.bl false):=rfl
def kH {d:D} (hr:xf [d]= .exc "NoText") {b:Bool} (hi:isiD "str" d= .ok (.bl b)) (hd:b=true->zl [d]= .ok .non):qe [d]= .ok (.bl true):=by
 have s3:tryO ["NoText"] (jF 2 (yV 1 xf (ja (rdS 0) nil1))) 3 (jF 1 (rdS 3)) [.shr d,.shr .non,.shr .non,.un,.un]= .ok (.nx [.shr d,.shr (.exn "NoText"),.shr .non,.un,.un]):=by
  have hx:jF 2 (yV 1 xf (ja (rdS 0) nil1)) [.shr d,.shr .non,.shr .non,.un,.un]= .exc "NoText" :=by
   have hc:yV 1 xf (ja (rdS 0) nil1) [.shr d,.shr .non,.shr .non,.un,.un]= .exc "NoText" :=by
    unfold yV;rw [show ja (rdS 0) nil1 [.shr d,.shr .non,.shr .non,.un,.un]= .ok [d] from rfl];dsimp only;exact (jm (c:=[d].length=1) rfl).trans hr
   unfold jF;rw [hc];rfl
  unfold tryO;rw [hx];rfl
 have s5:ifO (asB (isiF "str" (rdS 0))) (jF 4 (jN 1 zl (ja (rdS 0) nil1))) nxO [.shr d,.shr (.exn "NoText"),.shr .non,.un,.shr .non]= .ok (.nx [.shr d,.shr (.exn "NoText"),.shr .non,.un,.shr .non]):=by
  rw [qd (jA (xB rfl hi))]
  cases b with
  |false=>rfl
  |true=>exact (if_pos rfl).trans (jD (jZ (jh rfl rfl) rfl (hd rfl)))
 refine yH ?_;show zh xf zl zG [.shr d,.un,.un,.un,.un]=_;unfold zh;rw [jk (env':=[.shr d,.shr .non,.un,.un,.un]) (jD rfl),jk (env':=[.shr d,.shr .non,.shr .non,.un,.un]) (jD rfl),jk s3,jk (env':=[.shr d,.shr (.exn "NoText"),.shr .non,.un,.shr .non]) (jD rfl),jk s5];refine zg ((qd (jA (jf rfl rfl rfl))).trans ((if_pos rfl).trans (qf ?_)));exact Vg rfl (Vg rfl (jcA (jZ (jh rfl rfl) rfl jaD)))
def jbE {z:Str} (hL:z.length<30000):qe [.str z]= .ok (.bl true):=by
 have hr:=jb7 hL;have hd:=jdO hL
 cases e:mach 1000 [] (cs z) with
 |none=>
  rw [e] at hd;refine kH (b:=true) ?_ rfl fun _=>hd
  rw [hr]
  cases e2:pt 60 (cs z) with
  |none=>rfl
  |some p=>
   obtain ⟨t,r⟩:=p
   cases r with
   |cons c r=>rfl
   |nil=>
    dsimp only
    by_cases hn:1000<num t
    · rw [if_pos hn]
    · have:=mach_pt.mpr ⟨e2,by omega⟩;rw [e] at this;cases this
 |some u=>
  rw [e] at hd;obtain ⟨e2,hn⟩:=mach_pt.mp e;rw [e2] at hr;dsimp only at hr;rw [if_neg (by omega)] at hr;have gd:=(VF _ _ _ _ e2).1
  have hq:eqR u u= .ok (.bl true):=by
   have:eqR u u= .ok (.bl (eqD u u)):=jm (c:=EqC u u) (.inl ⟨gd.eb,gd.eb,by have:=gd.dp;omega⟩);rw [this,Z0 _ gd.eb]
  have hin:isN u .non= .ok (.bl false):=by rcases vi e2 with ⟨i,rfl⟩| ⟨l,rfl⟩<;>rfl
  have s3:tryO ["NoText"] (jF 2 (yV 1 xf (ja (rdS 0) nil1))) 3 (jF 1 (rdS 3)) [.shr (.str z),.shr .non,.shr .non,.un,.un]= .ok (.nx [.shr (.str z),.shr .non,.shr u,.un,.un]):=by
   have hx:jF 2 (yV 1 xf (ja (rdS 0) nil1)) [.shr (.str z),.shr .non,.shr .non,.un,.un]= .ok (.nx [.shr (.str z),.shr .non,.shr u,.un,.un]):=by
    refine jD ?_;unfold yV;rw [show ja (rdS 0) nil1 [.shr (.str z),.shr .non,.shr .non,.un,.un]= .ok [.str z] from rfl];dsimp only;exact (jm (c:=[D.str z].length=1) rfl).trans hr
   unfold tryO;rw [hx]
  have s5:ifO (asB (isiF "str" (rdS 0))) (jF 4 (jN 1 zl (ja (rdS 0) nil1))) nxO [.shr (.str z),.shr .non,.shr u,.un,.shr .non]= .ok (.nx [.shr (.str z),.shr .non,.shr u,.un,.shr u]):=by
   rw [qd (jA (xB rfl rfl))];exact (if_pos rfl).trans (jD (jZ (jh rfl rfl) rfl hd))
  refine yH ?_;show zh xf zl zG [.shr (.str z),.un,.un,.un,.un]=_;unfold zh;rw [jk (env':=[.shr (.str z),.shr .non,.un,.un,.un]) (jD rfl),jk (env':=[.shr (.str z),.shr .non,.shr .non,.un,.un]) (jD rfl),jk s3,jk (env':=[.shr (.str z),.shr .non,.shr u,.un,.shr .non]) (jD rfl),jk s5,jk (env':=[.shr (.str z),.shr .non,.shr u,.un,.shr u]) ((qd (jA (jf rfl rfl hin))).trans rfl)];exact qf (Vg rfl (jf rfl rfl hq))
theorem YG: ∀ {ds:List D} {d:D},d∈ds->num d<=nums ds
 |x::r,d,h=>by
  simp only [nums];rcases aaw.mp h with rfl|h
  · omega
  · have:=YG h;omega
mutual
def sh:D->List Nat
 | .int i=>63::ds i
 | .tup (.str z::ts)=>cs z++(if ts.isEmpty=true then [] else 40::(shs ts++[41]))
 |_=>[]
def shs:List D->List Nat
 | []=>[]
 |t::r=>sh t++(if r.isEmpty=true then [] else 44::shs r)
end
def Vw (i:Int):sh (.int i)=63::ds i:=by simp [sh]
def Ym (z:Str) (ts:List D):sh (.tup (.str z::ts))=cs z++(if ts.isEmpty=true then [] else 40::(shs ts++[41])):=by simp [sh]
def Yl (t:D) (r:List D):shs (t::r)=sh t++(if r.isEmpty=true then [] else 44::shs r):=by simp [shs]
def Bk (t:D):Prop:= ∀x∈bks t,0<=x/\x<=999
section
variable {ns:List Str}
def kD {z:Str} {ts:List D} (h:Bk (.tup (.str z::ts))): ∀t∈ts,Bk t:=fun t ht x hx=>h x (by rw [QA,yX];exact acC.mpr ⟨t,ht,hx⟩)
def Ua {z:Str} (h:isNm (.str z)=true):1<=z.length/\z.length<=8:=by
 rw [JO] at h;simp only [aap,decide_eq_true_eq] at h;omega
def Yn (hn: ∀z∈ns,isNm (.str z)=true): ∀t,tk ns t=true->Bk t->(sh t).length+1<=11*num t:=Xg (fun i hb=>by
  rw [Vw,aab];have:=(jbh (hb i (by rw [X6];simp))).2.2
  simp [num];omega) fun z ts hz hl h hb=>by
 have hzl:=Ua (hn z hz)
 have go: ∀us:List D,(∀u∈us,(sh u).length+1<=11*num u)->(shs us).length<=11*nums us:=fun us=>by
  induction us with
  |nil=>intro _;simp [shs]
  |cons u r ih=>
   intro h;have h1:=h u (by simp);have h2:=ih fun x hx=>h x (by simp [hx])
   rw [Yl,aai];simp only [nums]
   split<;>simp only [aav,aab]<;>omega
 have:=go ts fun u hu=>(h u hu).2 (kD hb u hu)
 rw [Ym,ZI,aai,zt]
 split<;>simp only [aav,aab,aai]<;>omega
theorem jaR (ys:List (List Nat)):cs (Txt.join "," (ys.map mk))=(match ys with
  | []=>[]
  |y::r=>y++r.flatMap (44:: ·)):=by
 cases ys with
 |nil=>rfl
 |cons y r=>
  show (ado (fun acc p=>acc++(aaD ",").cps++p.cps) (mk y).cps (r.map mk)).toList=_;have hc:(aaD ",").cps= #[44]:=by decide+kernel
  have go: ∀(r:List (List Nat)) (acc:Array Nat),(ado (fun acc p=>acc++(aaD ",").cps++p.cps) acc (r.map mk)).toList=acc.toList++r.flatMap (44:: ·):=fun r=>by
   induction r with
   |nil=>intro acc;simp
   |cons x r ih=>
    intro acc;rw [abj,List.foldl_cons,ih,hc];simp [mk]
  rw [go];simp [mk]
theorem Yk: ∀(t:D) (r:List D),shs (t::r)=sh t++(r.map sh).flatMap (44:: ·)
 |t,[]=>by simp [shs]
 |t,u::r=>by
  rw [Yl,Yk u r];simp
def Kx (l:List (List Nat)):xl (l.map fun x=>D.str (mk x))=some (l.map mk):=by
 induction l with
 |nil=>rfl
 |cons x r ih=>simp [xl,ih]
theorem u5 (hn: ∀z∈ns,isNm (.str z)=true): ∀(n:Nat) (t:D),tk ns t=true->Bk t->hgt t<=n->num t<=1100->j7 n [t]= .ok (.str (mk (sh t)))
 |0,t,_,_,h,_=>by have:=jaX t;omega
 |n+1,t,ht,hb,hh,hm=>by
  have hsl:=Yn hn t ht hb;rcases Yg ht with ⟨i,rfl⟩| ⟨z,ts,rfl,hz,hl,hts⟩
  · have hi:=hb i (by rw [X6];simp);have h1:=Vk hi
    have h2:addD (.str (mk [63])) (.str (mk (ds i)))= .ok (.str (mk (sh (.int i)))):=by
     rw [Vw];exact add_str (by have:=(jbh hi).2.2;simp;omega)
    have hq:(aaD "?")=mk [63]:=by decide+kernel
    have hcs:cS "?" [.shr (.int i)]= .ok (.str (mk [63])):=by rw [←hq];rfl
    have him:(D.str (mk (sh (.int i)))).imm=true:=rfl;refine Zx ?_;show qD (j7 n) [.shr (.int i)]=_;unfold qD;exact zg ((qd (zT (jA (xB rfl rfl)))).trans ((if_pos rfl).trans (qf (JG (jf hcs (qA (jh rfl rfl) h1) h2) him))))
  · rw [Uy] at hh;rw [ZI] at hm
    have hl2:lenD [.tup (.str z::ts)]= .ok (.int ((ts.length:Int)+1)):=by
     show Res.ok (D.int (((D.str z::ts).length:Nat):Int))=_;simp
    have hix:ixD (.tup (.str z::ts)) (.int 0)= .ok (.str z):=ix0;have hty:isiD "tuple" (.tup (.str z::ts))= .ok (.bl true):=rfl
    cases ts with
    |nil=>
     have hs:sh (.tup [.str z])=cs z:=by rw [Ym];simp
     have he:((((([]:List D).length:Nat):Int)+1)==1)=true:=rfl;rw [hs,vE];refine jb5 ?_;show qD (j7 n) [.shr (.tup [.str z])]=_;unfold qD;rw [jk (env':=[.shr (.tup [.str z])]) ((qd (zT (jA (xB rfl hty)))).trans rfl)];exact zg ((qd (jA (jf (qA (jh rfl rfl) hl2) rfl (eqR_int'.trans (by rw [he]))))).trans ((if_pos rfl).trans (Jd (jf rfl rfl hix))))
    |cons u r=>
     have he:(((((u::r:List D).length:Nat):Int)+1)==1)=false:=by simp;omega
     have hp:slD (.tup (.str z::u::r)) (some 1) none= .ok (.tup (u::r)):=by
      show Res.ok (D.tup (cutD (.str z::u::r) (some 1) none))=_;rw [cut1]
     have hc:W1 false 1 [] (itF (jH (rdS 0) (jJ (cI 1)) qP slD)) (gN 0) yk (jN 1 (j7 n) (ja (rdS 0) nil1)) [.shr (.tup (.str z::u::r))]= .ok (.lst ((u::r).map fun t=>D.str (mk (sh t)))):=
      jbt (cs:=[]) (fun t=>D.str (mk (sh t))) (fun d=>d∈u::r) rfl (uG (qg rfl (jV rfl) rfl hp) rfl) (fun d hd=>hd) (wJ (by omega)) (by
       intro d acc hd;have h1:=YZ hd;have h2:=YG hd
       exact jZ (jh rfl rfl) rfl (u5 hn n d (hts d hd) (kD hb d hd) (by omega) (by omega)))
     have hstr:xl ((u::r).map fun t=>D.str (mk (sh t)))=some (((u::r).map sh).map mk):=by
      have:=Kx ((u::r).map sh);rw [List.map_map] at this;exact this
     have hjl:cs (Txt.join "," (((u::r).map sh).map mk))=shs (u::r):=by
      rw [jaR,abj];exact (Yk u r).symm
     have hjs:Txt.join "," (((u::r).map sh).map mk)=mk (shs (u::r)):=by rw [←hjl,vE]
     have hsh:sh (.tup (.str z::u::r))=cs z++40::(shs (u::r)++[41]):=by rw [Ym];simp
     rw [hsh] at hsl;simp only [aai,aab,aav,ZI] at hsl
     have hsum:((((u::r).map sh).map mk).map (·.length)).sum+(((u::r).map sh).map mk).length*(aaD ",").length<=16777216:=by
      have h1:((((u::r).map sh).map mk).map (·.length)).sum<=11*nums (u::r):=by
       have go: ∀us:List D,(∀x∈us,(sh x).length<=11*num x)->(((us.map sh).map mk).map (·.length)).sum<=11*nums us:=fun us=>by
        induction us with
        |nil=>intro _;simp
        |cons x us ih=>
         intro h;have a:=h x (by simp);have b:=ih fun y hy=>h y (by simp [hy])
         simp only [abj,List.sum_cons,nums,xa];omega
       exact go (u::r) fun x hx=>by have:=Yn hn x (hts x hx) (kD hb x hx);omega
      have h2:(aaD ",").length=1:=by decide+kernel
      rw [h2];simp only [aaK];omega
     have hjd:XN "," [.lst ((u::r).map fun t=>D.str (mk (sh t)))]= .ok (.str (mk (shs (u::r)))):=by
      show (match xl _ with|some ys=>_|none=>_)=_;rw [hstr];refine (jm ⟨hsum,by rw [hjs,xa];exact wJ (by omega)⟩).trans ?_;rw [hjs]
     have q1:(aaD "(")=mk [40]:=by decide+kernel
     have q2:(aaD ")")=mk [41]:=by decide+kernel
     have hz':(.str z:D)= .str (mk (cs z)):=by rw [vE]
     have a1:addD (.str z) (.str "(")= .ok (.str (mk (cs z++[40]))):=by rw [hz',q1];exact add_str (by simp;omega)
     have a2:addD (.str (mk (cs z++[40]))) (.str (mk (shs (u::r))))= .ok (.str (mk (cs z++[40]++shs (u::r)))):=add_str (by simp only [aai,aab,aav];omega)
     have a3:addD (.str (mk (cs z++[40]++shs (u::r)))) (.str ")")= .ok (.str (mk (sh (.tup (.str z::u::r))))):=by
      rw [q2,hsh];refine (add_str (by simp only [aai,aab,aav];omega)).trans ?_;congr 3;simp
     refine Zx ?_;show qD (j7 n) [.shr (.tup (.str z::u::r))]=_;unfold qD;rw [jk (env':=[.shr (.tup (.str z::u::r))]) ((qd (zT (jA (xB rfl hty)))).trans rfl),jk (env':=[.shr (.tup (.str z::u::r))]) ((qd (jA (jf (qA (jh rfl rfl) hl2) rfl (eqR_int'.trans (by rw [he]))))).trans rfl)];exact qf (jf (jf (jf (jf rfl rfl hix) rfl a1) (ut rfl (jh hc rfl) hjd) a2) rfl a3)
def Good (ns:List Str) (r:Nat) (t:D):Prop:=tk ns t=true/\hgt t<=r/\2*num t+1<=3^r/\Bk t
def pow3 {r:Nat} (h:1<=r):3<=3^r:=by
 have:3^1<=3^r:=Nat.pow_le_pow_right (by decide) h;omega
def jdC {r:Nat} (h:1<=r):3^r=3*3^(r-1):=by
 cases r with
 |zero=>omega
 |succ q=>rw [Nat.add_sub_cancel,Nat.pow_succ];omega
theorem WL {q:Nat}: ∀ {ps:List D},(∀p∈ps,2*num p+1<=q)->2*nums ps+ps.length<=ps.length*q
 | [],_=>by simp [nums]
 |d::r,h=>by
  have a1:=h d (by simp);have a2:=WL (ps:=r) fun t ht=>h t (by simp [ht])
  simp only [nums,aab,Nat.succ_mul];omega
theorem QR {nm:D} (hn:Fiv ns nm): ∀(n r:Nat) (m:Int),1<=r->r<=n-> ∃(t:D) (m':Int),j0 n [.int m,nm,.int r]= .ok (.tup [t,.int m'])/\Good ns r t
 |0,r,m,h1,h2=>by omega
 |n+1,r,m,h1,h2=>by
  have hbig:20<=aae:=by decide
  have h3r:=pow3 h1;have e0:j4 9 [.int m,nm,.int r]=[.shr (.int m),.shr nm,.shr (.int r),.un,.un,.un,.un,.un,.un]:=rfl;generalize hkd:m%6=kd;generalize hm2:m/6=m2
  have t1:orB (asB (two (rdS 3) (cI 0) eqR)) (andB (asB (two (rdS 2) (cI 1) eqR)) (asB (two (rdS 3) (cI 4) ltI))) [.shr (.int m2),.shr nm,.shr (.int r),.shr (.int kd),.un,.un,.un,.un,.un]= .ok ((kd==0)|| (((r:Int)==1)&&decide (kd<4))):=
    VT (jA (jf rfl rfl yt)) (kI (jA (jf rfl rfl yt)) (jA (jf rfl rfl rfl)))
  have t2:orB (asB (two (rdS 3) (cI 1) eqR)) (asB (two (rdS 2) (cI 1) eqR)) [.shr (.int m2),.shr nm,.shr (.int r),.shr (.int kd),.un,.un,.un,.un,.un]= .ok ((kd==1)|| ((r:Int)==1)):=
    VT (jA (jf rfl rfl yt)) (jA (jf rfl rfl yt))
  obtain ⟨z,hz,hzn⟩:=Y1 hn (m2%5) (by omega) (by omega)
  have start: ∀g:Sl->Res Out,seqO (jF 3 (two (rdS 0) (cI 6) modI)) (seqO (jF 0 (two (rdS 0) (cI 6) divI)) g) (j4 9 [.int m,nm,.int r])=g [.shr (.int m2),.shr nm,.shr (.int r),.shr (.int kd),.un,.un,.un,.un,.un]:=by
    intro g;rw [e0,qt (env':=[.shr (.int m),.shr nm,.shr (.int r),.shr (.int kd),.un,.un,.un,.un,.un]) (by rw [←hkd];rfl)];rw [qt (env':=[.shr (.int m2),.shr nm,.shr (.int r),.shr (.int kd),.un,.un,.un,.un,.un]) (by rw [←hm2];rfl)]
  by_cases hb1:((kd==0)|| (((r:Int)==1)&&decide (kd<4)))=true
  · obtain ⟨d,hd,hmem⟩:=ixL (ds:=[.int 0,.int 1,.int 2,.int (m2/4%1000)]) (i:=m2%4) (by omega) (by simp only [aab,aav];omega)
    have hint: ∃i:Int,d= .int i/\0<=i/\i<=999:=by
      simp only [aaw,abt,or_false] at hmem;rcases hmem with rfl|rfl|rfl|rfl<;>exact ⟨_,rfl,by omega,by omega⟩
    obtain ⟨i,rfl,hi⟩:=hint;refine ⟨.int i,m2/4000,Zx (d:=(.tup [.int i,.int (m2/4000)])) ?_,rfl,by simp [hgt];omega,by simp [num];omega,fun x hx=>by rw [X6] at hx;simp only [aaw,abt,or_false] at hx;rw [hx];exact hi⟩;show qE (j0 n) _=_;unfold qE;rw [start];exact zg ((if_t (by rw [t1,hb1])).trans (qf (yC (jh (jf (Q2 (jh rfl (jh rfl (jh rfl (jh (jf (jf rfl rfl rfl) rfl rfl) rfl)))) (aaq (show 4<=20 by decide) hbig)) (jf rfl rfl rfl) hd) (jh (jf rfl rfl rfl) rfl)) (aaq (show 2<=20 by decide) hbig))))
  · have hb1:((kd==0)|| (((r:Int)==1)&&decide (kd<4)))=false:=by simpa using hb1
    by_cases hb2:((kd==1)|| ((r:Int)==1))=true
    · refine ⟨.tup [.str z],m2/5,Zx (d:=(.tup [.tup [.str z],.int (m2/5)])) ?_,kU hzn (by simp) (fun _ h=>by cases h),by simp [hgt,hgts];omega,by simp [num,nums];omega,fun x hx=>by rw [QA] at hx;cases hx⟩;show qE (j0 n) _=_;unfold qE;rw [start,qt ((if_f (by rw [t1,hb1])).trans rfl)];exact zg ((if_t (by rw [t2,hb2])).trans (qf (yC (jh (yC (jh (jf rfl (jf rfl rfl rfl) hz) rfl) (aaq (show 1<=20 by decide) hbig)) (jh (jf rfl rfl rfl) rfl)) (aaq (show 2<=20 by decide) hbig))))
    · have hb2:((kd==1)|| ((r:Int)==1))=false:=by simpa using hb2
      have hr:2<=r:=by
        simp only [Bool.or_eq_false_iff,beq_eq_false_iff_ne] at hb2;omega
      have hr1:((r:Int)-1)=((r-1:Nat):Int):=by omega
      generalize hct:1+m2/5%3=ct;have hct3:1<=ct/\ct<=3:=by omega
      obtain ⟨env1,l1,n1,ps,k1,p1,rfl,hl1,hps⟩:=x6 (body:=yj (gN 7) (seqO (asgO (jN 3 (j0 n) (ja (rdS 0) (ja (rdS 1) (ja (two (rdS 2) (cI 1) subI) nil1)))) (g2 (gN 8) (gN 0))) (ql 6 (rdS 8))))
        (fun ds env=> ∃(n':Int) (ps:List D) (k p:Slot),env=[.shr (.int n'),.shr nm,.shr (.int r),.shr (.int kd),.shr (.str z),.shr (.int ct),.own (.lst ps),k,p]/\ps.length+ds.length<=3/\ ∀p∈ps,Good ns (r-1) p)
        (by
         rintro d ds env ⟨n',ps,k,p,rfl,hl,hps⟩;obtain ⟨t,m',ht,hg⟩:=QR hn n (r-1) n' (by omega) (by omega);simp only [aab] at hl;refine ⟨[.shr (.int m'),.shr nm,.shr (.int r),.shr (.int kd),.shr (.str z),.shr (.int ct),.own (.lst (ps++[t])),.shr d,.shr t],?_,_,_,_,_,rfl,by simp only [aai,aab,aav];omega,?_⟩
         · rw [y0 (env':=[.shr (.int n'),.shr nm,.shr (.int r),.shr (.int kd),.shr (.str z),.shr (.int ct),.own (.lst ps),.shr d,p]) rfl]
           have hc:jN 3 (j0 n) (ja (rdS 0) (ja (rdS 1) (ja (two (rdS 2) (cI 1) subI) nil1))) [.shr (.int n'),.shr nm,.shr (.int r),.shr (.int kd),.shr (.str z),.shr (.int ct),.own (.lst ps),.shr d,p]= .ok (.tup [t,.int m']):=
             jZ (ds:=[.int n',nm,.int ((r:Int)-1)]) (jh rfl (jh rfl (jh (jf rfl rfl rfl) rfl))) rfl (by rw [hr1];exact ht)
           rw [qt (env':=[.shr (.int m'),.shr nm,.shr (.int r),.shr (.int kd),.shr (.str z),.shr (.int ct),.own (.lst ps),.shr d,.shr t]) (by
             show (jN 3 _ _ _>>=_)=_
             rw [hc];rfl)]
           exact (xN (ds:=ps) rfl rfl (by omega)).trans rfl
         · intro q hq;rcases aa4.mp hq with h|h
           · exact hps q h
           · simp only [aaw,abt,or_false] at h
             subst h;exact hg)
        (wQ 0 ct.toNat) [.shr (.int (m2/15)),.shr nm,.shr (.int r),.shr (.int kd),.shr (.str z),.shr (.int ct),.own (.lst []),.un,.un] ⟨_,[],.un,.un,rfl,by rw [WP];simp only [aav];omega,fun _ h=>by cases h⟩
      simp only [aav,Nat.add_zero] at hl1
      have himm:D.imm (.tup (.str z::ps))=true:=by
        show (true&&D.imms ps)=true;rw [Bool.true_and];exact imms_iff.mpr fun d hd=>uK d (hps d hd).1
      refine ⟨.tup (.str z::ps),n1,Zx (d:=(.tup [.tup (.str z::ps),.int n1])) ?_,?_,?_,?_,fun x hx=>by
        rw [QA,yX] at hx;obtain ⟨q,hq,hxt⟩:=acC.mp hx
        exact (hps q hq).2.2.2 x hxt⟩
      · show qE (j0 n) _=_;unfold qE;rw [start,qt ((if_f (by rw [t1,hb1])).trans rfl),qt ((if_f (by rw [t2,hb2])).trans rfl)];rw [qt (env':=[.shr (.int m2),.shr nm,.shr (.int r),.shr (.int kd),.shr (.str z),.un,.un,.un,.un]) ((jD (jf rfl (jf rfl rfl rfl) hz)).trans rfl)];rw [qt (env':=[.shr (.int m2),.shr nm,.shr (.int r),.shr (.int kd),.shr (.str z),.shr (.int ct),.un,.un,.un]) (by rw [←hct];rfl)];rw [qt (env':=[.shr (.int (m2/15)),.shr nm,.shr (.int r),.shr (.int kd),.shr (.str z),.shr (.int ct),.un,.un,.un]) rfl];rw [qt (env':=[.shr (.int (m2/15)),.shr nm,.shr (.int r),.shr (.int kd),.shr (.str z),.shr (.int ct),.own (.lst []),.un,.un]) rfl]
        rw [qt ((Zd (ds:=wQ 0 ct.toNat) (by
         show must _ _=_
         exact jm (by omega))).trans l1)]
        refine qf (yC (jh (JG (qA (jh (jf (Q2 (jh rfl rfl) (aaq (show 1<=20 by decide) hbig)) rfl (jm (c:=[D.str z].length+ps.length<=aae) (by simp only [aab,aav];omega))) rfl) rfl) himm) (jh rfl rfl)) (aaq (show 2<=20 by decide) hbig))
      · exact kU hzn (by omega) fun d hd=>(hps d hd).1
      · simp only [hgt];have:=M.hgts_le (ds:=ps) (k:=r-1) fun d hd=>(hps d hd).2.1
        omega
      · simp only [num];have hq:=WL (ps:=ps) (q:=3^(r-1)) fun p hp=>(hps p hp).2.2.1
        have e3:3^r=3*3^(r-1):=jdC h1;have hq1:1<=3^(r-1):=Nat.one_le_pow _ _ (by decide);rw [e3];generalize 3^(r-1)=q at hq hq1;have h5:ps.length=0\/ps.length=1\/ps.length=2\/ps.length=3:=by omega
        rcases h5 with e|e|e|e<;>rw [e] at hq<;>omega
def jbN (n:Nat):Sl->Res Out:=ql 3 (jN 2 (j6 n) (ja (two (two (two (rdS 0) (cI 1) subI) (rdS 4) addD) (rdS 2) divI) (ja (rdS 1) nil1)))
def WOk (ns:List Str) (h m:Nat) (w:D):Prop:=tk ns w=true/\num w=m/\hgt w<=h/\Bk w
theorem Wg {n h m s:Nat} {z:Str} (hz:z∈ns) (hm:2<=m) (hs:1<=s/\s<=9) (hc:(s=9/\9<=m-1)\/(s=m-1)) (ih: ∀c,1<=c->c<=m/2-> ∃w,j6 n [.int (c:Int),.str z]= .ok w/\WOk ns h c w):
  ∀(j k:Nat) (ps:List D) (u:Slot),k+j=s->ps.length=k->nums ps=sumN (m-1) s k->(∀p∈ps,tk ns p=true/\hgt p<=h/\Bk p)->
  ∃ps' u',forD (yj (gN 4) (jbN n)) (wQ (k:Int) j) [.shr (.int (m:Int)),.shr (.str z),.shr (.int (s:Int)),.own (.lst ps),u]= .ok (.nx [.shr (.int (m:Int)),.shr (.str z),.shr (.int (s:Int)),.own (.lst ps'),u'])/\ps'.length=s/\nums ps'=sumN (m-1) s s/\ ∀p∈ps',tk ns p=true/\hgt p<=h/\Bk p
 |0,k,ps,u,h1,h2,h3,h4=>by
  have:k=s:=by omega
  subst this;exact ⟨ps,u,rfl,h2,h3,h4⟩
 |j+1,k,ps,u,h1,h2,h3,h4=>by
  have hcb:1<=(m-1+k)/s/\(m-1+k)/s<=m/2:=by
   have:s=1\/s=2\/s=3\/s=4\/s=5\/s=6\/s=7\/s=8\/s=9:=by omega
   rcases this with rfl|rfl|rfl|rfl|rfl|rfl|rfl|rfl|rfl<;>omega
  obtain ⟨w,hw,g1,g2,g3,g4⟩:=ih _ hcb.1 hcb.2
  have hdiv:two (two (two (rdS 0) (cI 1) subI) (rdS 4) addD) (rdS 2) divI [.shr (.int (m:Int)),.shr (.str z),.shr (.int (s:Int)),.own (.lst ps),.shr (.int (k:Int))]= .ok (.int (((m-1+k)/s:Nat):Int)):=by
   refine (jf (jf (jf rfl rfl rfl) rfl rfl) rfl (uS (by omega))).trans ?_;have e:((m:Int)-1+(k:Int))=((m-1+k:Nat):Int):=by omega
   rw [e];rfl
  have hstep:yj (gN 4) (jbN n) (.int (k:Int)) [.shr (.int (m:Int)),.shr (.str z),.shr (.int (s:Int)),.own (.lst ps),u]= .ok (.nx [.shr (.int (m:Int)),.shr (.str z),.shr (.int (s:Int)),.own (.lst (ps++[w])),.shr (.int (k:Int))]):=by
   rw [y0 (env':=[.shr (.int (m:Int)),.shr (.str z),.shr (.int (s:Int)),.own (.lst ps),.shr (.int (k:Int))]) rfl];exact (xN (ds:=ps) rfl (jZ (jh hdiv (jh rfl rfl)) rfl hw) (aat (show ps.length<20000 by omega) big1)).trans rfl
  obtain ⟨ps',u',r1,r2,r3,r4⟩:=Wg hz hm hs hc ih j (k+1) (ps++[w]) (.shr (.int (k:Int))) (by omega) (by simp only [aai,aab,aav];omega) (by rw [YI,h3];simp [nums,sumN,g2]) (fun p hp=>by
   rcases aa4.mp hp with z|z
   · exact h4 p z
   · simp only [aaw,abt,or_false] at z
     rw [z];exact ⟨g1,g3,g4⟩)
  refine ⟨ps',u',?_,r2,r3,r4⟩;rw [KM,XT hstep];have e:((k:Int)+1)=((k+1:Nat):Int):=by omega
  rw [e];exact r1
def Kr {z:Str} (hz:z∈ns): ∀(n f m:Nat),n<=f->1<=m->m<=2^n->m<=5000-> ∃w,j6 (f+1) [.int (m:Int),.str z]= .ok w/\WOk ns (n+2) m w:=by
 intro n
 have one: ∀f n:Nat,∃w,j6 (f+1) [.int ((1:Nat):Int),.str z]= .ok w/\WOk ns (n+2) 1 w:=fun f n=>by
  refine ⟨.tup [.str z],Zx ?_,kU hz (by simp) (fun _ h=>by cases h),by simp [num,nums],by simp [hgt,hgts],fun x hx=>by rw [QA] at hx;cases hx⟩;show zw (j6 f) [.shr (.int ((1:Nat):Int)),.shr (.str z),.un,.un,.un]=_;unfold zw;have t1:asB (two (rdS 0) (cI 1) eqR) [.shr (.int ((1:Nat):Int)),.shr (.str z),.un,.un,.un]= .ok true:=jA ((jf rfl rfl yt).trans rfl);exact zg ((if_t t1).trans (qf (yC (jh rfl rfl) (wJ (show 1<=20000 by decide)))))
 induction n with
 |zero=>
  intro f m _ h1 h2 _;have:m=1:=by simp at h2;omega
  subst this;exact one f 0
 |succ n IH=>
  intro f m hf h1 h2 h5;obtain ⟨f,rfl⟩: ∃f',f=f'+1:=⟨f-1,by omega⟩
  by_cases hm1:m=1
  · subst hm1;exact one (f+1) (n+1)
  · have hm:2<=m:=by omega
    have hmp:m/2<=2^n:=by
      rw [Nat.pow_succ] at h2;omega
    obtain ⟨s,hsdef⟩: ∃s:Nat,s=if m-1<9 then m-1 else 9:=⟨_,rfl⟩
    have hs:1<=s/\s<=9:=by rw [hsdef];split<;>omega
    have hc:(s=9/\9<=m-1)\/(s=m-1):=by rw [hsdef];split<;>omega
    obtain ⟨ps,u,r1,r2,r3,r4⟩:=Wg (ns:=ns) (n:=f+1) (h:=n+2) (m:=m) (s:=s) hz hm hs hc (fun c c1 c2=>IH f c (by omega) c1 (by omega) (by omega)) s 0 [] .un (by omega) rfl rfl (fun _ h=>by cases h);rw [kY hs.1 hs.2] at r3
    have himm:D.imm (.tup (.str z::ps))=true:=by
      show (true&&D.imms ps)=true;rw [Bool.true_and];exact imms_iff.mpr fun d hd=>uK d (r4 d hd).1
    refine ⟨.tup (.str z::ps),Zx ?_,kU hz (by omega) fun d hd=>(r4 d hd).1,by simp only [num];omega,?_,fun x hx=>by
      rw [QA,yX] at hx;obtain ⟨q,hq,hxt⟩:=acC.mp hx
      exact (r4 q hq).2.2 x hxt⟩
    · show zw (j6 (f+1)) [.shr (.int (m:Int)),.shr (.str z),.un,.un,.un]=_;unfold zw
      have t1:asB (two (rdS 0) (cI 1) eqR) [.shr (.int (m:Int)),.shr (.str z),.un,.un,.un]= .ok false:=by
       refine jA ((jf rfl rfl yt).trans ?_);have:((m:Int)==1)=false:=by simp;omega
       rw [this]
      rw [qt ((if_f t1).trans rfl)]
      have q1:jF 2 (app (ja (cI 9) (ja (two (rdS 0) (cI 1) subI) nil1)) minD) [.shr (.int (m:Int)),.shr (.str z),.un,.un,.un]= .ok (.nx [.shr (.int (m:Int)),.shr (.str z),.shr (.int (s:Int)),.un,.un]):=by
       refine (jD (d:= .int (s:Int)) (qA (ds:=[.int 9,.int ((m:Int)-1)]) (jh rfl (jh (jf rfl rfl rfl) rfl)) ?_)).trans rfl;show Res.ok (D.int (if (m:Int)-1<9 then (m:Int)-1 else 9))=_;rw [hsdef]
       by_cases h9:m-1<9
       · rw [if_pos h9,if_pos (by omega)];congr 2;omega
       · rw [if_neg h9,if_neg (by omega)];rfl
      rw [qt q1];rw [qt (env':=[.shr (.int (m:Int)),.shr (.str z),.shr (.int (s:Int)),.own (.lst []),.un]) rfl];have hr:rngF (ja (rdS 2) nil1) [.shr (.int (m:Int)),.shr (.str z),.shr (.int (s:Int)),.own (.lst []),.un]= .ok (wQ ((0:Nat):Int) s):=(jai (j:=(s:Int)) (jh rfl rfl) (by omega)).trans (by simp);refine (qt ((Zd hr).trans r1)).trans ?_;exact qf (JG (qA (jh (jf (Q2 (jh rfl rfl) (wJ (show 1<=20000 by decide))) rfl (jm (c:=[D.str z].length+ps.length<=aae) (wJ (by simp only [aab,aav];omega)))) rfl) rfl) himm)
    · simp only [hgt];have:=M.hgts_le (ds:=ps) (k:=n+2) fun d hd=>(r4 d hd).2.1
      omega
end
def Okd (d:D):Prop:=qe [d]= .ok (.bl true)
def wr {y:Str} (h:y.length<30000):Okd (.str y):=jbE h
def jct {d:D} (h:isiD "str" d= .ok (.bl false)):Okd d:=kH (jaj h) h fun z=>(by cases z)
def xO {x y:Str} (h:x.length+y.length<=60000):addD (.str x) (.str y)= .ok (.str (x++y)):=jm (c:=x.length+y.length<=aae) (big3 h)
def uW {z:Str} {a:Int} (h:0<=a):(cutS z none (some a)).length<=a.toNat:=aaq (Kg _ _ _) (uI a _ h)
def kg {z:Str} {a:Int} (h:0<=a):(cutS z (some a) none).length<=z.length:=aaq (Kg _ _ _) (aaq (uJ a _ h) (Nat.sub_le _ _))
def vk {c:Int} (h:intBits c<=2^20):intBits (c+1)<=2^20+1:=by
 obtain ⟨m,hm,hb⟩:NumR (two (rdS 0) (cI 1) addD) [.shr (.int c)] (max (2^20) 1+1):=V8 (uC rfl h) (jcz (by decide));have:two (rdS 0) (cI 1) addD [.shr (.int c)]= .ok (.int (c+1)):=rfl;rw [this] at hm;cases hm;exact aaq hb (by decide)
def SP:Str:= "abz?(),, 0123459AZ-_.;\n"
def ur:SP.length=23:=by decide+kernel
def jab {z:Str} (h1:1<=z.length) (h2:z.length<=9000) (g:Int): ∃d,qw [.str z,.int g]= .ok d/\Okd d:=by
 have hlz:((z.length:Nat):Int)≠0:=by omega
 generalize hw:g%9=w;generalize hg:g/9=m;have b1:0<=m%23/\m%23<23:=by omega
 obtain ⟨c,hc,_⟩:=ixS2 (z:=SP) (i:=m%23) b1.1 (by rw [ur];omega);generalize ha:m/32%(z.length:Int)=a
 have ha0:0<=a/\a< (z.length:Int):=by
   subst ha;exact ⟨Int.emod_nonneg _ hlz,Int.emod_lt_of_pos _ (by omega)⟩
 have hlen:lenD [.str SP]= .ok (.int 23):=by
   show Res.ok (D.int ((SP.length:Nat):Int))=_;rw [ur];rfl
 generalize hE:([.shr (.str z),.shr (.int m),.shr (.str SP),.shr (.int w),.shr (.str ⟨#[c]⟩),.shr (.int a)]:Sl)=E;have r0:rdS 0 E= .ok (.str z):=by subst hE;rfl
 have r1:rdS 1 E= .ok (.int m):=by subst hE;rfl
 have r3:rdS 3 E= .ok (.int w):=by subst hE;rfl
 have r4:rdS 4 E= .ok (.str ⟨#[c]⟩):=by subst hE;rfl
 have r5:rdS 5 E= .ok (.int a):=by subst hE;rfl
 have l1:ac6 ⟨#[c]⟩=1:=rfl;have cl:=uW (z:=z) ha0.1;have ch:=kg (z:=z) ha0.1;have ch1:=kg (z:=z) (a:=a+1) (by omega);have sA:jH (rdS 0) qP (jJ (rdS 5)) slD E= .ok (.str (cutS z none (some a))):=qg r0 rfl (jV r5) rfl;have sB:jH (rdS 0) (jJ (rdS 5)) qP slD E= .ok (.str (cutS z (some a) none)):=qg r0 (jV r5) rfl rfl;have sC:jH (rdS 0) (jJ (two (rdS 5) (cI 1) addD)) qP slD E= .ok (.str (cutS z (some (a+1)) none)):=qg r0 (jV (jf r5 rfl rfl)) rfl rfl;have tlt:asB (two (rdS 3) (cI 2) ltI) E= .ok (decide (w<2)):=jA (jf r3 rfl rfl);have teq: ∀k:Int,asB (two (rdS 3) (cI k) eqR) E= .ok (w==k):=fun k=>jA (jf r3 rfl eqR_int')
 have st: ∀d fr,(qv (j4 6 [.str z,.int g])= .ok (.rt fr d))->qw [.str z,.int g]= .ok d:=fun d fr h=>by
   show runF false 6 _ _=_;rw [yN h];cases fr<;>rfl
 have pre: ∀o,(seqO (ifO (asB (two (rdS 3) (cI 2) ltI)) (retO (two (two (jH (rdS 0) qP (jJ (rdS 5)) slD) (rdS 4) addD) (jH (rdS 0) (jJ (rdS 5)) qP slD) addD)) nxO) (seqO (ifO (asB (two (rdS 3) (cI 2) eqR)) (retO (two (jH (rdS 0) qP (jJ (rdS 5)) slD) (jH (rdS 0) (jJ (two (rdS 5) (cI 1) addD)) qP slD) addD)) nxO) (seqO (ifO (asB (two (rdS 3) (cI 3) eqR)) (retO (two (two (jH (rdS 0) qP (jJ (rdS 5)) slD) (rdS 4) addD) (jH (rdS 0) (jJ (two (rdS 5) (cI 1) addD)) qP slD) addD)) nxO) (seqO (ifO (asB (two (rdS 3) (cI 4) eqR)) (retO (two (jH (rdS 0) qP (jJ (rdS 5)) slD) (jH (rdS 0) (jJ (two (two (rdS 1) (cI 37) divI) (two (rdS 5) (cI 1) addD) modI)) qP slD) addD)) nxO) (seqO (ifO (asB (two (rdS 3) (cI 5) eqR)) (retS (two (lstF (ja cN (ja (cI 0) (ja (cB true) (ja (lstF nil1) (ja (tupF (ja (cS "a") nil1)) (ja (lstF (ja (cS "a") nil1)) (ja cD (ja (tupF (ja (cS "f") (ja (cI 0) nil1))) nil1))))))))) (two (rdS 1) (cI 8) modI) ixD)) nxO) (seqO (ifO (asB (two (rdS 3) (cI 6) eqR)) (retO (two (rdS 0) (two (lstF (ja (cS ",") (ja (cS ")") (ja (cS "(") (ja (cS "()") (ja (cS " ") (ja (cS "a") (ja (cS "?0") nil1)))))))) (two (rdS 1) (cI 7) modI) ixD) addD)) nxO) (retS (rdS 0)))))))) E=o->qv (j4 6 [.str z,.int g])=o:=fun o ho=>by
   subst hE;rw [←ho];show qv [.shr (.str z),.shr (.int g),.un,.un,.un,.un]=_;unfold qv;rw [jk (env':=[.shr (.str z),.shr (.int g),.shr (.str SP),.un,.un,.un]) (jD rfl),jk (env':=[.shr (.str z),.shr (.int g),.shr (.str SP),.shr (.int w),.un,.un]) (by rw [←hw];exact jD (jf rfl rfl rfl)),jk (env':=[.shr (.str z),.shr (.int m),.shr (.str SP),.shr (.int w),.un,.un]) (by rw [←hg];exact jD (jf rfl rfl rfl)),jk (env':=[.shr (.str z),.shr (.int m),.shr (.str SP),.shr (.int w),.shr (.str ⟨#[c]⟩),.un]) (jD (jf rfl (jf rfl (qA (jh rfl rfl) hlen) rfl) hc)),jk (env':=[.shr (.str z),.shr (.int m),.shr (.str SP),.shr (.int w),.shr (.str ⟨#[c]⟩),.shr (.int a)]) (by rw [←ha];exact jD (jf (jf rfl rfl rfl) (qA (jh rfl rfl) rfl) (WM (by omega))))]
 have nx: ∀(t:TM) (ga gb:TL),t E= .ok false->seqO (ifO t ga nxO) gb E=gb E:=fun t ga gb h=>jk ((qd h).trans rfl)
 have rt: ∀(t:TM) (ga gb:TL) (fr:Bool) (d:D),t E= .ok true->ga E= .ok (.rt fr d)->seqO (ifO t ga nxO) gb E= .ok (.rt fr d):=fun t ga gb fr d h h2=>zg ((qd h).trans ((if_pos rfl).trans h2))
 have hw9:0<=w/\w<9:=by omega
 by_cases w2:w<2
 · have e1:=xO (x:=cutS z none (some a)) (y:=⟨#[c]⟩) (by omega);have e2:=xO (x:=cutS z none (some a)++⟨#[c]⟩) (y:=cutS z (some a) none) (by rw [aa8];omega);refine ⟨_,st _ true (pre _ (rt _ _ _ true _ (by rw [tlt,decide_eq_true w2]) (qf (jf (jf sA r4 e1) sB e2)))),wr (by rw [aa8,aa8];omega)⟩
 have n0:asB (two (rdS 3) (cI 2) ltI) E= .ok false:=by rw [tlt,decide_eq_false w2]
 have no: ∀k:Int,w≠k->asB (two (rdS 3) (cI k) eqR) E= .ok false:=fun k hk=>by rw [teq,beq_false_of_ne hk]
 have ye: ∀k:Int,w=k->asB (two (rdS 3) (cI k) eqR) E= .ok true:=fun k hk=>by rw [teq,hk,beq_self_eq_true]
 by_cases k2:w=2
 · have e1:=xO (x:=cutS z none (some a)) (y:=cutS z (some (a+1)) none) (by omega);exact ⟨_,st _ true (pre _ ((nx _ _ _ n0).trans (rt _ _ _ true _ (ye 2 k2) (qf (jf sA sC e1))))),wr (by rw [aa8];omega)⟩
 by_cases k3:w=3
 · have e1:=xO (x:=cutS z none (some a)) (y:=⟨#[c]⟩) (by omega);have e2:=xO (x:=cutS z none (some a)++⟨#[c]⟩) (y:=cutS z (some (a+1)) none) (by rw [aa8];omega);exact ⟨_,st _ true (pre _ ((nx _ _ _ n0).trans ((nx _ _ _ (no 2 k2)).trans (rt _ _ _ true _ (ye 3 k3) (qf (jf (jf sA r4 e1) sC e2)))))),wr (by rw [aa8,aa8];omega)⟩
 by_cases k4:w=4
 · have hb0:0<=m/37%(a+1):=Int.emod_nonneg _ (by omega);have cd:=kg (z:=z) hb0;have sD:jH (rdS 0) (jJ (two (two (rdS 1) (cI 37) divI) (two (rdS 5) (cI 1) addD) modI)) qP slD E= .ok (.str (cutS z (some (m/37%(a+1))) none)):=qg r0 (jV (jf (jf r1 rfl rfl) (jf r5 rfl rfl) (WM (by omega)))) rfl rfl;have e1:=xO (x:=cutS z none (some a)) (y:=cutS z (some (m/37%(a+1))) none) (by omega);exact ⟨_,st _ true (pre _ ((nx _ _ _ n0).trans ((nx _ _ _ (no 2 k2)).trans ((nx _ _ _ (no 3 k3)).trans (rt _ _ _ true _ (ye 4 k4) (qf (jf sA sD e1))))))),wr (by rw [aa8];omega)⟩
 by_cases k5:w=5
 · have: ∃d,ixD (.lst [.non,.int 0,.bl true,.lst [],.tup [.str "a"],.lst [.str "a"],.dic [] [],.tup [.str "f",.int 0]]) (.int (m%8))= .ok d/\isiD "str" d= .ok (.bl false):=by
    have h8:m%8=0\/m%8=1\/m%8=2\/m%8=3\/m%8=4\/m%8=5\/m%8=6\/m%8=7:=by omega
    rcases h8 with h|h|h|h|h|h|h|h<;>rw [h]<;>exact ⟨_,rfl,rfl⟩
   obtain ⟨d,hd,hi⟩:=this;refine ⟨d,st _ false (pre _ ((nx _ _ _ n0).trans ((nx _ _ _ (no 2 k2)).trans ((nx _ _ _ (no 3 k3)).trans ((nx _ _ _ (no 4 k4)).trans (rt _ _ _ false _ (ye 5 k5) (Jd (jf ?_ (jf r1 rfl rfl) hd)))))))),jct hi⟩;rfl
 by_cases k6:w=6
 · have: ∃y:Str,ixD (.lst [.str ",",.str ")",.str "(",.str "()",.str " ",.str "a",.str "?0"]) (.int (m%7))= .ok (.str y)/\y.length<=2:=by
    have h7:m%7=0\/m%7=1\/m%7=2\/m%7=3\/m%7=4\/m%7=5\/m%7=6:=by omega
    rcases h7 with h|h|h|h|h|h|h<;>rw [h]<;>exact ⟨_,rfl,by decide+kernel⟩
   obtain ⟨y,hy,hl⟩:=this;have e1:=xO (x:=z) (y:=y) (by omega);refine ⟨_,st _ true (pre _ ((nx _ _ _ n0).trans ((nx _ _ _ (no 2 k2)).trans ((nx _ _ _ (no 3 k3)).trans ((nx _ _ _ (no 4 k4)).trans ((nx _ _ _ (no 5 k5)).trans (rt _ _ _ true _ (ye 6 k6) (qf (jf r0 (jf ?_ (jf r1 rfl rfl) hy) e1))))))))),wr (by rw [aa8];omega)⟩;rfl
 exact ⟨_,st _ false (pre _ ((nx _ _ _ n0).trans ((nx _ _ _ (no 2 k2)).trans ((nx _ _ _ (no 3 k3)).trans ((nx _ _ _ (no 4 k4)).trans ((nx _ _ _ (no 5 k5)).trans ((nx _ _ _ (no 6 k6)).trans (Jd r0)))))))),wr (by omega)⟩
def SV (f:TN) (env:Sl) (n:Nat):Prop:= ∃y:Str,f env= .ok (.str y)/\y.length<=n
section
variable {f g:TN} {env:Sl} {n k:Nat}
def sv_c {z:Str} (h:z.length<=n):SV (cS z) env n:=⟨z,rfl,h⟩
def xk (h:SV f env n) (h2:SV g env k) (hl:n+k<=60000):SV (two f g addD) env (n+k):=by
 obtain ⟨x,e1,l1⟩:=h;obtain ⟨y,e2,l2⟩:=h2;exact ⟨x++y,jf e1 e2 (xO (by omega)),by rw [aa8];omega⟩
def Jz {i:Int} (h:SV f env n) (h2:g env= .ok (.int i)) (hn:n<=16) (h0:0<=i) (hk:i<=(k:Int)) (hK:n*k<=60000) (hk2:k<=1048576):SV (two f g mulS) env (n*k):=by
 obtain ⟨x,e1,l1⟩:=h;have hl:(Txt.mul x i).length<=n*k:=PyProof.Rows.len_mul_leN l1 hk;exact ⟨Txt.mul x i,jf e1 h2 (jm ⟨⟨by omega,by omega,by omega⟩,big3 (aaq hl hK)⟩),hl⟩
end
def jbY {ns:List Str} (hn: ∀z∈ns,isNm (.str z)=true) {t:D} (ht:tk ns t=true):1<=(sh t).length:=by
 rcases Yg ht with ⟨i,rfl⟩| ⟨z,ts,rfl,hz,_⟩
 · rw [Vw];simp
 · have:=(Ua (hn z hz)).1;rw [Ym,aai,zt];omega
def AllS (l:List D):Prop:= ∀d∈l,Okd d
def jbH {l:List D} {d:D} (h:AllS l) (hd:Okd d):AllS (l++[d]):=fun x hx=>by
 rcases aa4.mp hx with z|z
 · exact h x z
 · simp at z;subst z;exact hd
def Kp {l l':List D} (h:AllS l) (h':AllS l'):AllS (l++l'):=fun x hx=>(aa4.mp hx).elim (h x) (h' x)
def kK: ∀ {l:List Str},(∀z∈l,z.length<30000)->AllS (l.map D.str):=fun h x hx=>by
 obtain ⟨z,hz,rfl⟩:=abL.mp hx;exact wr (h z hz)
def T1:List Str:=["", "?", "?00", "?01", "?1000", "?999", "?0?", "f()", "f(,)", "f(a,)", "f(,a)", "f(a", "fa)"]
def T2:List Str:=["f (a)", "abcdefgh", "abcdefghi", "f(a)(b)", "f(a)b", "?0(a)", "F(a)", "f(a))", "((a))", "f(?)"]
def jdv:AllS (T1.map D.str):=kK (by decide+kernel)
def jdu:AllS (T2.map D.str):=kK (by decide+kernel)
def jdS {i:Int} (h:i=8\/i=9\/i=10): ∃y:Str,∃d,repL (.lst [.str "c"]) (.int i)= .ok d/\XN "," [d]= .ok (.str y)/\y.length<=40:=by
 rcases h with rfl|rfl|rfl<;>exact ⟨_,_,rfl,rfl,by decide+kernel⟩
section
variable {S u3 x7 x8:Slot} {m H:Int} {nm:D} {z0:Str} {l:List D}
abbrev Eb (S:Slot) (m:Int) (nm:D) (u3:Slot) (H:Int) (z0:Str) (l:List D) (x7 x8:Slot):Sl:=[S,.shr (.int m),.shr nm,u3,.shr (.int H),.shr (.str z0),.own (.lst l),x7,x8]
def ap_s {f:TN} {n:Nat} (h:SV f (Eb S m nm u3 H z0 l x7 x8) n) (hl:l.length<1000) (hn:n<30000) (ha:AllS l): ∃l',ql 6 f (Eb S m nm u3 H z0 l x7 x8)= .ok (.nx (Eb S m nm u3 H z0 l' x7 x8))/\l'.length=l.length+1/\AllS l':=by
 obtain ⟨y,e,hy⟩:=h;refine ⟨l++[.str y],?_,by simp,jbH ha (wr (by omega))⟩;have hz:l.length<aae:=by have:=big3 (k:=l.length+1) (by omega);omega
 unfold ql;rw [show ownL 6 (Eb S m nm u3 H z0 l x7 x8)= .ok l from rfl,j9,e,j9,jm hz];rfl
def jdc {l':List D} {f:TN} (h:f ([S,.shr (.int m),.shr nm,u3,.shr (.int H),.shr (.str z0),.shr (.lst l),x7,x8])= .ok (.lst l')) (hl:l.length+l'.length<=1000):frzO 6 (setO 6 (two (rdS 6) f addD)) (Eb S m nm u3 H z0 l x7 x8)= .ok (.nx (Eb S m nm u3 H z0 (l++l') x7 x8)):=by
 show setO 6 (two (rdS 6) f addD) [S,.shr (.int m),.shr nm,u3,.shr (.int H),.shr (.str z0),.shr (.lst l),x7,x8]=_;exact (JX (jf rfl h (kL (big3 (by omega))))).trans rfl
end
def law_true (sc:List Int) (hlen:sc.length<=63) (hb: ∀i∈sc,abx i<=2^20):F_law [.scr (sc.map D.int)]= .ok (.bl true):=by
 have hbit: ∀c:Int,c=0\/c∈sc->intBits c<=2^20+1:=fun c h=>by
  rcases h with rfl|h
  · decide
  · have:=hb c h;omega
 obtain ⟨c,hc,hc2⟩:=KU sc;obtain ⟨m,hm⟩:=yq (hbit c hc2);obtain ⟨nm,hnm,h5⟩:=XG m;obtain ⟨ns,hn⟩:=vQ h5;have hnn:=hn.2.2;generalize hS:(Slot.shr (.scr (sc.map D.int)))=S
 have s1:jF 1 (jN 1 qo (ja (jN 2 qV (ja (rdS 0) (ja (cI 0) nil1))) nil1)) [S,.un,.un,.un,.un,.un,.un,.un,.un]= .ok (.nx [S,.shr (.int m),.un,.un,.un,.un,.un,.un,.un]):=by
  subst hS;exact (jD (jZ (jh (jZ (jh rfl (jh rfl rfl)) rfl hc) rfl) rfl hm)).trans rfl
 have s2:jF 2 (jN 1 zH (ja (rdS 1) nil1)) [S,.shr (.int m),.un,.un,.un,.un,.un,.un,.un]= .ok (.nx [S,.shr (.int m),.shr nm,.un,.un,.un,.un,.un,.un]):=(jD (jZ (jh rfl rfl) rfl hnm)).trans rfl
 obtain ⟨env1,l1,u3,u8,rfl,_⟩:=x6 (body:=yj (gN 3) (seqO (jF 8 (jN 1 (j7 100) (ja (two (jN 3 (j0 6) (ja (jN 1 qo (ja (rdS 3) nil1)) (ja (rdS 2) (ja (cI 3) nil1)))) (cI 0) ixD) nil1))) (ifO (notB (asB (jN 1 qe (ja (jN 2 qw (ja (rdS 8) (ja (jN 1 qo (ja (two (rdS 3) (cI 1) addD) nil1)) nil1))) nil1)))) (retO (cB false)) nxO)))
  (fun ds env=> ∃u u':Slot,env=[S,.shr (.int m),.shr nm,u,.un,.un,.un,.un,u']/\ ∀d∈ds,∃i:Int,d= .int i/\i∈sc)
  (by
    rintro d ds env ⟨u,u',rfl,hd⟩;obtain ⟨i,rfl,hi⟩:=hd d (by simp);obtain ⟨g,hg⟩:=yq (hbit i (.inr hi));obtain ⟨g2,hg2⟩:=yq (vk (hb i hi));obtain ⟨t,m',ht,q1,q2,q3,q4⟩:=QR hn 6 3 g (by decide) (by decide);have h27:(3:Nat)^3=27:=by decide
    have htx:=u5 hnn 100 t q1 q4 (by omega) (by omega);have hsl:=Yn hnn t q1 q4;have hsp:=jbY hnn q1;obtain ⟨d,hd2,hok⟩:=jab (z:=mk (sh t)) (by rw [xa];omega) (by rw [xa];omega) g2;refine ⟨[S,.shr (.int m),.shr nm,.shr (.int i),.un,.un,.un,.un,.shr (.str (mk (sh t)))],?_,_,_,rfl,fun e he=>hd e (by simp [he])⟩;rw [y0 (env':=[S,.shr (.int m),.shr nm,.shr (.int i),.un,.un,.un,.un,u']) rfl];have hcall:jN 3 (j0 6) (ja (jN 1 qo (ja (rdS 3) nil1)) (ja (rdS 2) (ja (cI 3) nil1))) [S,.shr (.int m),.shr nm,.shr (.int i),.un,.un,.un,.un,u']= .ok (.tup [t,.int m']):=jZ (ds:=[.int g,nm,.int ((3:Nat):Int)]) (jh (jZ (jh rfl rfl) rfl hg) (jh rfl (jh rfl rfl))) rfl ht;rw [jk (env':=[S,.shr (.int m),.shr nm,.shr (.int i),.un,.un,.un,.un,.shr (.str (mk (sh t)))]) (jD (jZ (jh (jf hcall rfl ix0) rfl) rfl htx))]
    exact (qd (zT (b:=true) (jA (jZ (jh (jZ (jh rfl (jh (jZ (jh (jf rfl rfl rfl) rfl) rfl hg2) rfl)) rfl hd2) rfl) rfl hok)))).trans rfl)
  (sc.map D.int) [S,.shr (.int m),.shr nm,.un,.un,.un,.un,.un,.un] ⟨.un,.un,rfl,fun d hd=>by
    obtain ⟨i,hi,rfl⟩:=abL.mp hd
    exact ⟨i,rfl,hi⟩⟩
 generalize hH:57+m%5=H;have hH2:57<=H/\H<=61:=by omega
 generalize hP:100+m/7%5900=P;have hP2:100<=P/\P<=5999:=by omega
 obtain ⟨z0,hz0,hz0n⟩:=Y1 hn 0 (by decide) (by decide);obtain ⟨z1,hz1,hz1n⟩:=Y1 hn 1 (by decide) (by decide);obtain ⟨z2,hz2,hz2n⟩:=Y1 hn 2 (by decide) (by decide);have lz0:=Ua (hnn z0 hz0n);obtain ⟨M0,hM0⟩: ∃M0:Nat,(997+m/5%7:Int)=(M0:Int):=⟨(997+m/5%7).toNat,by omega⟩
 have hM1:1<=M0/\M0<=1003:=by omega
 obtain ⟨w,hw,w1,w2,w3,w4⟩:=Kr hz1n 10 63 M0 (by decide) hM1.1 (aaq hM1.2 (show 1003<=2^10 by decide)) (by omega);have hwt:=u5 hnn 100 w w1 w4 (by omega) (by omega);have hwl:=Yn hnn w w1 w4;have l_1:(aaD "(").length=1:=by decide+kernel
 have l_2:(aaD ")").length=1:=by decide+kernel
 have l_3:(aaD "f(").length=2:=by decide+kernel
 have l_4:(aaD "?7").length=2:=by decide+kernel
 have l_5:(aaD "a").length=1:=by decide+kernel
 have vz: ∀l x7 x8,SV (rdS 5) [S,.shr (.int m),.shr nm,u3,.shr (.int H),.shr (.str z0),l,x7,x8] 8:=fun l x7 x8=>⟨z0,rfl,lz0.2⟩
 have v1:=xk (xk (Jz (k:=61) (xk (vz .un .un u8) (sv_c (n:=1) (by rw [l_1];omega)) (by omega)) (g:=rdS 4) (i:=H) rfl (by omega) (by omega) (by omega) (by omega) (by omega)) (sv_c (n:=2) (z:= "?7") (by rw [l_4];omega)) (by omega)) (Jz (n:=1) (k:=61) (sv_c (z:= ")") (by rw [l_2];omega)) (g:=rdS 4) (i:=H) rfl (by omega) (by omega) (by omega) (by omega) (by omega)) (by omega);have v2:=xk (xk (Jz (k:=61) (xk (vz .un .un u8) (sv_c (n:=1) (z:= "(") (by rw [l_1];omega)) (by omega)) (g:=rdS 4) (i:=H) rfl (by omega) (by omega) (by omega) (by omega) (by omega)) (vz .un .un u8) (by omega)) (Jz (n:=1) (k:=61) (sv_c (z:= ")") (by rw [l_2];omega)) (g:=two (rdS 4) (cI 1) subI) (i:=H-1) rfl (by omega) (by omega) (by omega) (by omega) (by omega)) (by omega);obtain ⟨y1,e1,b1⟩:=v1;obtain ⟨y2,e2,b2⟩:=v2
 have a0:AllS [.str y1,.str y2]:=fun d hd=>by
  simp only [aaw,abt,or_false] at hd;rcases hd with rfl|rfl
  · exact wr (by omega)
  · exact wr (by omega)
 obtain ⟨k1,p1,n1,a1⟩:=ap_s (S:=S) (u3:=u3) (x7:= .un) (x8:=u8) (m:=m) (H:=H) (nm:=nm) (z0:=z0) (l:=[.str y1,.str y2]) (n:=20000) (f:=jN 1 (j7 100) (ja (jN 2 (j6 64) (ja (two (cI 997) (two (two (rdS 1) (cI 5) divI) (cI 7) modI) addD) (ja (two (rdS 2) (cI 1) ixD) nil1))) nil1)) (by
    refine ⟨_,jZ (jh (jZ (ds:=[.int (997+m/5%7),.str z1]) (jh (jf rfl (jf (jf rfl rfl rfl) rfl rfl) rfl) (jh (jf rfl rfl hz1) rfl)) rfl (by rw [hM0];exact hw)) rfl) rfl hwt,?_⟩
    rw [xa];omega) (by simp) (by omega) a0
 have vP: ∀l:List D,rdS 7 (Eb S m nm u3 H z0 l (.shr (.int P)) u8)= .ok (.int P):=fun _=>rfl
 obtain ⟨k2,p2,n2,a2⟩:=ap_s (x7:= .shr (.int P)) (x8:=u8) (S:=S) (u3:=u3) (m:=m) (H:=H) (nm:=nm) (z0:=z0) (l:=k1) (xk (xk (Jz (n:=2) (k:=5999) (sv_c (z:= "f(") (by rw [l_3];omega)) (vP k1) (by omega) (by omega) (by omega) (by omega) (by omega)) (sv_c (n:=1) (z:= "a") (by rw [l_5];omega)) (by omega)) (Jz (n:=1) (k:=5999) (sv_c (z:= ")") (by rw [l_2];omega)) (vP k1) (by omega) (by omega) (by omega) (by omega) (by omega)) (by omega)) (by rw [n1];simp) (by omega) a1;obtain ⟨k3,p3,n3,a3⟩:=ap_s (x7:= .shr (.int P)) (x8:=u8) (S:=S) (u3:=u3) (m:=m) (H:=H) (nm:=nm) (z0:=z0) (l:=k2) (xk (f:=jH (two (rdS 2) (cI 2) ixD) qP (jJ (cI 2)) slD) (n:=2) ⟨cutS z2 none (some 2),qg (jf rfl rfl hz2) rfl (jV rfl) rfl,uW (by decide)⟩ (Jz (n:=1) (k:=5999) (sv_c (z:= "(") (by rw [l_1];omega)) (vP k2) (by omega) (by omega) (by omega) (by omega) (by omega)) (by omega)) (by rw [n2,n1];simp) (by omega) a2;obtain ⟨k4,p4,n4,a4⟩:=ap_s (x7:= .shr (.int P)) (x8:=u8) (S:=S) (u3:=u3) (m:=m) (H:=H) (nm:=nm) (z0:=z0) (l:=k3) (Jz (n:=2) (k:=5999) (sv_c (z:= "f(") (by rw [l_3];omega)) (vP k3) (by omega) (by omega) (by omega) (by omega) (by omega)) (by rw [n3,n2,n1];simp) (by omega) a3;obtain ⟨yc,dc,c1,c2,c3⟩:=jdS (i:=8+m/35%3) (by omega);obtain ⟨k5,p5,n5,a5⟩:=ap_s (x7:= .shr (.int P)) (x8:=u8) (S:=S) (u3:=u3) (m:=m) (H:=H) (nm:=nm) (z0:=z0) (l:=k4) (xk (xk (sv_c (n:=2) (z:= "f(") (by rw [l_3];omega)) (g:=smF (cS ",") (ja (two (lstF (ja (cS "c") nil1)) (two (cI 8) (two (two (rdS 1) (cI 35) divI) (cI 3) modI) addD) repL) nil1) XN) (k:=40) ⟨yc,ut rfl (jh (jf rfl (jf rfl (jf (jf rfl rfl rfl) rfl rfl) rfl) c1) rfl) c2,c3⟩ (by omega)) (sv_c (n:=1) (z:= ")") (by rw [l_2];omega)) (by omega)) (by rw [n4,n3,n2,n1];simp) (by omega) a4;have f1:=jdc (S:=S) (u3:=u3) (x7:= .shr (.int P)) (x8:=u8) (m:=m) (H:=H) (nm:=nm) (z0:=z0) (l:=k5) (l':=T1.map D.str) (f:=lstF (ja (cS "") (ja (cS "?") (ja (cS "?00") (ja (cS "?01") (ja (cS "?1000") (ja (cS "?999") (ja (cS "?0?") (ja (cS "f()") (ja (cS "f(,)") (ja (cS "f(a,)") (ja (cS "f(,a)") (ja (cS "f(a") (ja (cS "fa)") nil1)))))))))))))) rfl (by rw [n5,n4,n3,n2,n1];simp [T1]);have f2:=jdc (S:=S) (u3:=u3) (x7:= .shr (.int P)) (x8:=u8) (m:=m) (H:=H) (nm:=nm) (z0:=z0) (l:=k5++T1.map D.str) (l':=T2.map D.str) (f:=lstF (ja (cS "f (a)") (ja (cS "abcdefgh") (ja (cS "abcdefghi") (ja (cS "f(a)(b)") (ja (cS "f(a)b") (ja (cS "?0(a)") (ja (cS "F(a)") (ja (cS "f(a))") (ja (cS "((a))") (ja (cS "f(?)") nil1))))))))))) rfl (by rw [aai,n5,n4,n3,n2,n1];simp [T1,T2]);obtain ⟨k6,p6,n6,a6⟩:=ap_s (x7:= .shr (.int P)) (x8:=u8) (S:=S) (u3:=u3) (m:=m) (H:=H) (nm:=nm) (z0:=z0) (l:=k5++T1.map D.str++T2.map D.str) (sv_c (n:=100) (z:= "f(a,?12,g(?0))") (by decide+kernel)) (by rw [aai,aai,n5,n4,n3,n2,n1];simp [T1,T2]) (by omega) (Kp (Kp a5 jdv) jdu)
 obtain ⟨env2,l2,u9,rfl,_⟩:=x6 (body:=yj (gN 8) (ifO (notB (asB (jN 1 qe (ja (rdS 8) nil1)))) (retO (cB false)) nxO))
  (fun ds env=> ∃u:Slot,env=[S,.shr (.int m),.shr nm,u3,.shr (.int H),.shr (.str z0),.shr (.lst k6),.shr (.int P),u]/\ ∀d∈ds,Okd d)
  (by
    rintro d ds env ⟨u,rfl,hd⟩;refine ⟨[S,.shr (.int m),.shr nm,u3,.shr (.int H),.shr (.str z0),.shr (.lst k6),.shr (.int P),.shr d],?_,_,rfl,fun e he=>hd e (by simp [he])⟩;rw [y0 (env':=[S,.shr (.int m),.shr nm,u3,.shr (.int H),.shr (.str z0),.shr (.lst k6),.shr (.int P),.shr d]) rfl]
    exact (qd (zT (b:=true) (jA (jZ (jh rfl rfl) rfl (hd d (by simp)))))).trans rfl)
  k6 [S,.shr (.int m),.shr nm,u3,.shr (.int H),.shr (.str z0),.shr (.lst k6),.shr (.int P),u8] ⟨u8,rfl,a6⟩
 refine yH ?_;show vN qo zH qV (j7 100) qe (j6 64) (j0 6) qw [.shr (.scr (sc.map D.int)),.un,.un,.un,.un,.un,.un,.un,.un]=_;rw [hS];unfold vN;rw [jk s1,jk s2,jk ((Zd (ds:=sc.map D.int) (by subst hS;rfl)).trans l1)];rw [jk (env':=[S,.shr (.int m),.shr nm,u3,.shr (.int H),.un,.un,.un,u8]) (by rw [←hH];rfl)];rw [jk (env':=[S,.shr (.int m),.shr nm,u3,.shr (.int H),.shr (.str z0),.un,.un,u8]) (jD (jf rfl rfl hz0))];rw [jk (env':=Eb S m nm u3 H z0 [.str y1,.str y2] .un u8) (JX (Q2 (jh e1 (jh e2 rfl)) (big3 (by simp))))];rw [jk p1,jk (env':=Eb S m nm u3 H z0 k1 (.shr (.int P)) u8) (by rw [←hP];rfl),jk p2,jk p3,jk p4,jk p5,jk f1,jk f2,jk p6];have f3:frzO 6 (forO (itF (rdS 6)) (gN 8) (ifO (notB (asB (jN 1 qe (ja (rdS 8) nil1)))) (retO (cB false)) nxO)) (Eb S m nm u3 H z0 k6 (.shr (.int P)) u8)= .ok (.nx [S,.shr (.int m),.shr nm,u3,.shr (.int H),.shr (.str z0),.shr (.lst k6),.shr (.int P),u9]):=(Zd (env:=[S,.shr (.int m),.shr nm,u3,.shr (.int H),.shr (.str z0),.shr (.lst k6),.shr (.int P),u8]) (ds:=k6) rfl).trans l2;rw [jk f3];rfl
end G
namespace PySem.W.Fast
theorem tw2268734676627219891:True:=⟨⟩
theorem te1119773510617890074:True:=⟨⟩
theorem tw6429004330973057845:True:=⟨⟩
theorem tw18029177474110491008:True:=⟨⟩
theorem tw3376783421468611007:True:=⟨⟩
theorem tw7101183524581725930:True:=⟨⟩
theorem tw10561162981265964245:True:=⟨⟩
theorem tw10873597201018683497:True:=⟨⟩
theorem tw14476468988660038264:True:=⟨⟩
theorem tw13229683655760959653:True:=⟨⟩
theorem tw9458495193727228868:True:=⟨⟩
theorem tw14331422807509679960:True:=⟨⟩
theorem tw16824130607553547914:True:=⟨⟩
theorem tw12964542884541261728:True:=⟨⟩
theorem tw2319730915512312673:True:=⟨⟩
theorem tw11760739954915059116:True:=⟨⟩
theorem tw7824745896914982768:True:=⟨⟩
theorem tw12360852316875742770:True:=⟨⟩
theorem tw4647940660603456740:True:=⟨⟩
theorem tw14674304124263951818:True:=⟨⟩
theorem tw5489288499982055096:True:=⟨⟩
theorem tw10860739258487656183:True:=⟨⟩
theorem tw16602657209829430833:True:=⟨⟩
theorem tw10010504800638566548:True:=⟨⟩
theorem tw12231620007291630683:True:=⟨⟩
theorem tw13566603997091328422:True:=⟨⟩
theorem tw2700837551851600169:True:=⟨⟩
theorem tw6586307427456216555:True:=⟨⟩
theorem tw2483846293009908558:True:=⟨⟩
theorem tw17729741115972182258:True:=⟨⟩
theorem tw10216988809312114032:True:=⟨⟩
theorem tw18189381972968210223:True:=⟨⟩
theorem tw9176935517724142326:True:=⟨⟩
theorem tw2648079019489395609:True:=⟨⟩
theorem tw8452181750158854174:True:=⟨⟩
end PySem.W.Fast
open PySem PySem.W PyProof.Rows
set_option maxRecDepth 100000 in
set_option maxHeartbeats 0 in
theorem PySem.Challenge.cw_endwise_k07_no_text_holds : PySem.Challenge.rw_endwise_k07_no_text.Holds := by
  w_on; o_law; k_head; (case hw => w_witness2)
  k_fill
  refine M.walk_law (l := PySem.Challenge.rw_endwise_k07_no_text) (n := 63) (k := 130) (x := "_law_script") (F := G.F_law) rfl (by decide) rfl ⟨rfl, by decide, by decide⟩ (fun w h Y => PySem.W.kIn_of Y) ?F G.law_true
  case F =>
    intro w mg fa h KX Gn hmg
    refine' G.all_mk KX Gn hmg ?d0 ?d1 ?d2 ?d3 ?d4 ?d5 ?d6 ?d7 ?d8 ?d9 ?d10 ?d11 ?d12 ?d13 ?d14 ?d15 ?d16 ?d17 ?d18 ?d19 ?d20 ?d21 ?d22 ?d23 ?d24 ?d25 ?d26 ?a27 ?l27 ?c27 ?k27 ?z0 ?z1 ?z2 ?z3 ?z4 ?z5 ?z6 ?z7 ?z8 ?z9 ?y_LETTERS ?y_MOST_LETTERS ?y_MOST_PLACES ?y_MOST_BLANK ?y_MOST_LEVELS ?y_MOST_PARTS ?y_FIGURES ?y_MOST_FIGURES ?wF ?xv ?xE ?xt ?xm ?xz ?wt ?Qg ?Qo ?e_NoText ?e_NoLine ?e_NoName ?e_TooLong ?e_TooGreat ?e_TooMany ?e_NoReason ?e_NoPair ?e_NoHead ?e_NoPaper ?e_NoStep ?e_NoRule ?e_NoPath ?e_EndError ?q_NoText ?x_EndError_NoText ?i_ValueError_NoText ?w_NoText ?zP ?yt_0_NoText ?yt_1_NoText
    (case wF => k_is)
    (case d0 | d1 | d2 | d3 => exact ⟨_, by k_is, ⟨_, _, _, _, _, _, _, _, _, by k_is, by k_is⟩, by k_is⟩)
    (case d4 | d5 | d6 | d7 | d8 => exact ⟨_, by k_is, by k_is, ⟨_, _, _, _, _, _, _, _, _, by k_is, by k_is⟩, by k_is⟩)
    (case d9 | d10 | d11 | d12 => exact ⟨_, by k_is, ⟨_, _, _, _, _, _, _, _, _, by k_is, by k_is⟩, by k_is⟩)
    (case d13 => exact ⟨_, by k_is, by k_is, ⟨_, _, _, _, _, _, _, _, _, by k_is, by k_is⟩, by k_is⟩)
    (case d14 | d15 | d16 | d17 | d18 | d19 | d20 | d21 | d22 | d23 | d24 | d25 | d26 => exact ⟨_, by k_is, ⟨_, _, _, _, _, _, _, _, _, by k_is, by k_is⟩, by k_is⟩)
    (case a27 | l27 | c27 | k27 | z0 | z1 | z2 | z3 | z4 | z5 | z6 | z7 | z8 | z9 => k_is)
    (case y_LETTERS | y_MOST_LETTERS | y_MOST_PLACES | y_MOST_BLANK | y_MOST_LEVELS | y_MOST_PARTS | y_FIGURES | y_MOST_FIGURES => exact ⟨_, by k_is⟩)
    (case xv | xE | xt | xm | xz | wt | Qg | Qo | e_NoText | e_NoLine | e_NoName | e_TooLong | e_TooGreat | e_TooMany | e_NoReason | e_NoPair | e_NoHead | e_NoPaper | e_NoStep | e_NoRule | e_NoPath | e_EndError => k_is)
    (case q_NoText => k_exc)
    (case x_EndError_NoText | i_ValueError_NoText => kernel_rfl)
    (case w_NoText => exact ⟨by kernel_rfl, by k_is, by k_is, by k_is, by k_is, by k_is, by k_is, by k_is⟩)
    (case zP | yt_0_NoText | yt_1_NoText => kernel_rfl)

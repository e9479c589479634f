import PyProof.Rows.All
import Wide.All
import OpenK.AllK
import Wide.FinOn
import Lean
import PyProof.TupleKey
import PyProof.IsRules
import PyProof.DictKeyH
import PyProof.EqAt
import PyProof.EqKinds
import PyProof.DictRoadsH
import PyProof.Rows.TupTab
import PyProof.TupleCall
import PyProof.Cells
import PyProof.NeKinds
import KE.IntBitsLaws
import KE.KDictList
import KE.KRevIter
import KE.KSortTup
import KE.KDictSum
import PyProof.EnumMake
import PyProof.EnumFor
import PyProof.LayNew
import PyProof.Rows.EnumRows
import PyProof.SumAny
import PyProof.ListRange
import PyProof.FString5
import PyProof.CollectIter
import PyProof.TupleOfSeq
import PyProof.Rows.Tup
import OpenK.KRaise
import PyProof.StationsW
import KE.KTryMore
import PyProof.NsDelKeeps
import KE.KEqDict
import PyProof.ExcArgs
import PyProof.Draws
import PyProof.ZipIter
import PyProof.Rows.ZipGen
import PyProof.DictWalks
import PyProof.Conv_int_bool
import PyProof.Rows.SeqMore
import PyProof.Rows.SetFrom
import PyProof.SetRoads
import PyProof.MeetsSeq2
import PyProof.FactsAll.NoneType_1
import PyProof.DictFindH
import PyProof.AttrMissHeap
import KE.KDictOf
import PyProof.Rows.StrJoin2
import KE.KItemsList
import PySem.Challenge.RW_endwise_k13_joint_makes_same
open Array renaming getElem?_eq_getElem -> eQ, length_toList -> eq, getElem?_toList -> fG, getD_eq_getD_getElem? -> p4, getElem?_eq_some_iff -> Aa, toArray_toList -> Bm, getElem?_eq_none -> Dg, forIn_toList -> Ck, toList_push -> Dr
open Bool renaming and_eq_true -> dj, false_ne_true -> fq, false_eq_true -> fT, and_eq_true_iff -> tD, not_true -> o6, eq_iff_iff -> Cn, and_false -> CO, not_eq_true -> F9
open Classical renaming byContradiction -> DL
open False renaming elim -> mD
open ForInStep renaming yield -> C5
open Int renaming toNat_natCast -> nN, fdiv_eq_ediv_of_nonneg -> EC
open List renaming getElem?_eq_some_iff -> c7, mem_cons_of_mem -> cv, getElem?_eq_getElem -> cZ, mem_cons_self -> ci, length_map -> bN, length_cons -> b9, getElem?_append_right -> eD, size_toArray -> cn, mem_cons -> bH, length_append -> de, getElem?_append_left -> fI, getElem?_map -> c6, mem_map -> bP, mem_append_right -> eT, mem_append -> cW, length_nil -> du, map_cons -> cY, append_assoc -> fy, mem_of_getElem? -> gt, mem_singleton -> f7, append_nil -> f6, mem_append_left -> lr, map_congr_left -> lK, getElem?_eq_none -> mv, mem_range -> gs, all_eq_true -> iE, getElem?_replicate -> nM, map_append -> iH, range -> fm, mem_iff_getElem? -> oE, getElem_mem -> mu, length_take -> mH, lookup_cons -> mN, pairwise_cons -> oi, getElem?_cons_succ -> rM, map_map -> iI, zip_cons_cons -> oU, getElem?_set_self -> sg, mem_of_find?_eq_some -> u5, drop_eq_getElem_cons -> wU, nodup_cons -> oF, lookup -> lv, mem_singleton_self -> Ah, not_mem_nil -> p5, drop_eq_nil_of_le -> wV, nodup_append -> qP, mem_map_of_mem -> tL, pairwise_iff_getElem -> BL, of_mem_zip -> ph, any_eq_true -> qH, length_range -> tZ, find?_cons -> rq, take_of_length_le -> BH, mem_flatMap -> tF, replicate -> ri, getElem?_take_of_lt -> CK, pairwise_map -> Ab, length_drop -> v5, eq_nil_of_length_eq_zero -> FM, mem_filterMap -> Aq, ext_getElem? -> Am, any_cons -> sK, all_cons -> sQ, perm_ext_iff_of_nodup -> Gb, nodup_nil -> wh, getLast?_eq_getElem? -> FN, isEmpty_nil -> BN, filterMap_cons -> Cz, find?_eq_none -> Cq, getElem?_drop -> DK, take_append_drop -> F4, nodup_range -> Cs, getElem?_set_ne -> Em, mem_of_mem_take -> F5, pairwise_append -> F7, find?_some -> Cr, mem_filter -> Ct, forIn_cons -> Dk, length_reverse -> Gp, length_zip -> D4, zip_nil_right -> Gq, forIn_nil -> Dl
open List.Pairwise renaming nil -> Fh
open List.Perm renaming refl -> Gd
open List.cons renaming injEq -> Al
open Nat renaming le_refl -> aS, le_trans -> bZ, ne_of_lt -> cj, lt_of_lt_of_le -> eV, zero_le -> dR, ne_of_gt -> iM, le_add_right -> oG, le_succ -> ly, lt_of_le_of_lt -> rT, lt_succ_self -> pe, lt_irrefl -> nH, lt_trans -> pF, not_lt_zero -> zU, lt_succ_of_lt -> Bw, le_of_lt -> sd, add_zero -> zN, le_of_not_lt -> CT, not_le_of_lt -> Du, min_eq_left -> DY, add_lt_add_left -> Gv, eq_zero_or_pos -> Ge, le_of_lt_succ -> FW, zero_add -> Di, succ_pos -> DH, mod_lt -> BK
open Ne renaming symm -> fH
open Option renaming map_eq_some_iff -> tq, getD_some -> Ap
open Option.some renaming inj -> fU
open PyProof.Rows renaming boot_tuple -> m6, slot_tuple_getitem -> sC, callWith_type1 -> sq, envOfC -> gm, IntsAre -> oQ, AllBare -> pb, boot_all -> Ll
open PyProof.Rows.F renaming plain_set_update_loop -> Gh, entry_set_update_loop -> IT
open PySem renaming wpAny_bind -> ak, wpAny_pure -> aC, Shared -> az, sizeLine -> aH, starEach -> bj, mainGlobals -> bY, Program -> bn, wpAny_callSpecial?_slot -> lX, wpAny_newObj_type -> hV, wpAny_call_entry -> hH, Around -> bp, wpAny_holding -> gl, foldedSetIterable -> nc, wpAny_field -> gx, wpAny_seqItems -> lh, bootBuiltins -> iz, attributeBase -> lx, sizeLine_eq -> iB, backTo -> eA, assignEach -> gS, swapsWith -> gb, sysModules -> hC, mem_of_lookup -> rk, codeAny_builtin -> oX, wpAny_rule -> kw, wpAny_truthy_bool -> q7, keywordEach -> l8, wpAny_setField -> oV, wpAny_setField_rec -> tM, SetTable -> gJ, wpAny_typeNameOfWhole_keyiter -> De, rawInt -> dF, plainId_quiet -> oZ, wpAny_setState_of -> t6, Builtin -> fS, wpAny_mono -> mw, wpAny_isInstance -> rX, compareOp -> lj, binaryOp -> iA, builtinLookup_eq_fast -> BE, wpAny_fieldsOf -> rH, boot_len -> rW, hashInt -> gr, wpAny_dictEpoch -> r6, Paired -> eS, wpAny_passesOwn -> so, wpAny_updateSeq -> sT, wpAny_typeNameOf_keyiter -> Df, wpAny_attempt -> rG, wpAny_setEntries_of -> BO, wpAny_askSetting -> Ac, wpAny_Call_Name_kw -> AM, wpAny_pyIter_tuple -> A1, wpAny_typeOf -> rl, wpAny_dictEntries -> As, behindInMarks -> sw, FuncData -> l5, backToKw -> l7, wpAny_pyIter_list -> A0, wpAny_forIn_list -> An, codeAny -> k4, Keyword -> la, wpAny_specialOf -> Ao, wpAny_loadPart' -> A3, typeLookup_type -> BD, pyNext -> hJ, wpAny_sequenceKey -> Cv, wpAny_assign_Name -> CD, sliceBounds -> sF, wpAny_pyIter_enum -> Dh, isSubtype_stop -> Bq, wpAny_notOrdered_dict -> Ef, codeAny_mono -> vL, exec_Assign_Name_used -> Fe, wpAny_isOneOf_keyiter -> Fy, wpAny_updateSeq_pair -> FG, intKind -> m9, wpAny_execs_nil -> CA, PassesOwn -> rf, wpAny_ite_split -> DP, ZipApart -> pS, isSubtype_type -> Cp, holding -> nI, getMethod -> sy, pickOrder -> t5, unsupported -> Ar, getItem -> oH, standAt -> oK, NameKind -> rh, wpAny_of_eq -> Bp, relayAll -> rQ, assign -> mE, IsPair -> mV, valueAt -> pE
open PySem.Around renaming under_plainId -> pX
open PySem.Builtin.Dict renaming updateFrom -> IC, pairItems -> IB, showsAll -> Ih
open PySem.Builtin.Dict_items renaming ownsTuple -> Ik
open PySem.Builtin.Int renaming intBits -> tm
open PySem.Builtin.List renaming listLengthHint -> DN, listExtendWith -> DQ, listTooLong -> CN, listSameRef -> DR
open PySem.Builtin.Slice renaming slicePlaces -> CL, sliceAdjust -> Hu
open PySem.Builtin.SmallTypes renaming nextOf -> mU, ownedTupleIsFree -> rN, ownedTupleHandOut -> Ir
open PySem.Builtin.Str renaming strSliceIndices -> nq
open PySem.Builtin.Tuple renaming tupleItemsOf -> Hv, tupleHashOf -> G1
open PySem.F renaming slot_dict_keyiterator_next -> Bn, plain_extend_loop -> t7, slot_dict_getitem -> va, slot_tuple_iterator_next -> Dj, plainAttrs_list -> C4, slot_list_extend -> CP, called_set -> rR, slot_dict_contains -> Ee, args_dict_keyiterator_next_1 -> Ij, entry_dict_keyiterator_next -> Ii, slot_list_getattribute -> FR, slot_dict_get -> ES, slot_zip_next -> D2
open PySem.Heap renaming get?_push_of_some -> bu, get?_push_size -> b0, lt_size -> bw, get?_update_self -> li, size_push -> iQ, get?_update_other -> pA, SameBut -> kx, size_update -> D3
open PySem.Heap.SameBut renaming update -> iG
open PySem.NameKind renaming free -> oR, cell -> oS
open PySem.Obj renaming data_mapFields -> nr, isFreed_of_fields -> yG, mapSeq -> nj, mapFields -> tH, cls_mapFields -> Bo
open PySem.Paired renaming length -> o9, snoc -> CQ
open PySem.PassesOwn renaming never -> lU
open PySem.SeqAt.EqAt renaming of_refs -> Co
open PySem.SeqAt.RcAt renaming lists_lengths -> Fo
open PySem.SetTable renaming below -> fB, turns -> rP, grown -> t9, toList_insertAt -> F3, insertAt_perm -> F6, sizeAbove -> Ga
open PySem.SetTable.below renaming go -> DJ
open PySem.SetTable.layClean renaming free -> BM
open PySem.SetTable.probe renaming go -> BP
open PySem.Str renaming ofString -> Au
open PySem.Value renaming ref -> cX, none -> mx, type -> my, bool -> m8, int -> m7, isInt -> ve
open PySem.W renaming Frag -> aA, nsIn -> cE, mg_none_of -> jI, keepIn -> iP, findIn -> mF, kia_one -> nK, emptyDict -> rg, instObj -> pa, kitOne -> pf, fnOf -> oN, plainGet -> AH, makesIn -> AI, mg_of -> wr, codeIn -> vM, hasDictIn -> CI, plainGet_of -> EE, lookIn -> CH, plainOver -> EF, isFn -> CJ, takerIn -> EG, OpenLaw -> AW
open PySem.pickOrder renaming go -> zo
open Sum renaming inl -> o8
open Sum.inl renaming inj -> vl
open True renaming intro -> l0
noncomputable section
set_option compiler.extract_closed false
set_option bootstrap.genMatcherCode false
set_option genSizeOfSpec false
set_option Elab.async false
set_option linter.all false
set_option maxRecDepth 100000
set_option maxHeartbeats 4000000
namespace M
open PySem PyProof.Rows
open PySem.SeqAt (EqAt RcAt)
inductive NK where
 |int (i:Int)|str (x:Str)|ar (l:List NK)
inductive NV where
 |aV|key (k:NK)|bl (b:Bool)
mutual
def NK.beq:NK->NK->Bool
 | .int i,.int j=>decide (i=j)
 | .str x,.str y=>decide (x=y)
 | .ar l,.ar m=>NK.lf l m
 |_,_=>false
def NK.lf:List NK->List NK->Bool
 | [],[]=>true
 |a::l,b::m=>NK.beq a b&&NK.lf l m
 |_,_=>false
end
mutual
theorem NK.beq_iff: ∀(a b:NK),NK.beq a b=true↔a=b
 | .int i,b=>by cases b<;>simp [NK.beq]
 | .str i,b=>by cases b<;>simp [NK.beq]
 | .ar l,b=>by
  cases b with
  |ar m=>simp only [NK.beq,NK.iD l m,NK.ar.injEq]
  |_=>simp [NK.beq]
theorem NK.iD: ∀(l m:List NK),NK.lf l m=true↔l=m
 | [],[]=>by simp [NK.lf]
 | [],_::_=>by simp [NK.lf]
 |_::_,[]=>by simp [NK.lf]
 |a::l,b::m=>by simp only [NK.lf,dj,NK.beq_iff a b,NK.iD l m,Al]
end
instance G0:DecidableEq NK:=λa b=>decidable_of_iff _ (NK.beq_iff a b)
mutual
def NK.at (h:Heap):NK->Value->Prop
 | .int i,v=> ∃t,v= .int i t
 | .str x,v=> ∃t,v= .str x t
 | .ar l,v=> ∃a c,v= .ref a/\IsTup h a c/\NK.lg h l c.toList
def NK.lg (h:Heap):List NK->List Value->Prop
 | [],a=>a=[]
 |k::l,a=> ∃u c,a=u::c/\NK.at h k u/\NK.lg h l c
end
mutual
def NK.ca:NK->Nat
 | .ar l=>NK.bI l+1
 |_=>0
def NK.bI:List NK->Nat
 | []=>0
 |k::l=>max (NK.ca k) (NK.bI l)
end
mutual
def NK.draws:NK->Nat
 | .ar l=>NK.dk l+1
 |_=>1
def NK.dk:List NK->Nat
 | []=>0
 |k::l=>NK.draws k+NK.dk l
end
mutual
def NK.hash (w:World):NK->Int
 | .int i=>gr i
 | .str x=>hashStr w x
 | .ar l=>reduceHash (G1 (NK.fj w l))
def NK.fj (w:World):List NK->List Int
 | []=>[]
 |k::l=>NK.hash w k::NK.fj w l
end
def NK.ind {P:NK->Prop} (h1: ∀i,P (.int i)) (h2: ∀x,P (.str x)) (h3: ∀l,(∀k∈l,P k)->P (.ar l)) (k:NK):P k:=
 NK.rec (motive_1:=P) (motive_2:=λl=> ∀k∈l,P k) h1 h2 h3 (λ_ h=>by cases h) (λk l a c q d=>by
  rcases bH.mp d with e|e
  . rw [e];exact a
  . exact c q e) k
def bJ {h:Heap} {i:Int} {v:Value}:NK.at h (.int i) v↔ ∃t,v= .int i t:=by simp only [NK.at]
def bR {h:Heap} {x:Str} {v:Value}:NK.at h (.str x) v↔ ∃t,v= .str x t:=by simp only [NK.at]
def bK {h:Heap} {l:List NK} {v:Value}:NK.at h (.ar l) v↔ ∃a c,v= .ref a/\IsTup h a c/\NK.lg h l c.toList:=by simp only [NK.at]
def dC {h:Heap} {a:List Value}:NK.lg h [] a↔a=[]:=by simp only [NK.lg]
def bX {h:Heap} {k:NK} {l:List NK} {a:List Value}:NK.lg h (k::l) a↔ ∃u c,a=u::c/\NK.at h k u/\NK.lg h l c:=by simp only [NK.lg]
theorem QD {h:Heap}: ∀ {l:List NK} {a:List Value},NK.lg h l a->a.length=l.length
 | [],a,x=>by rw [dC.mp x];rfl
 |k::l,a,x=>by
  obtain ⟨u,c,rfl,_,y⟩:=bX.mp x;rw [b9,b9,QD y]
theorem QE {h:Heap}: ∀ {l:List NK} {a:List Value} {j:Nat} {k:NK} {u:Value},NK.lg h l a->l[j]?=some k->a[j]?=some u->NK.at h k u
 | [],a,j,k,u,x,c,d=>by cases c
 |k'::l,a,j,k,u,x,c,d=>by
  obtain ⟨g,i,rfl,e,y⟩:=bX.mp x
  cases j with
  |zero=>cases c;cases d;exact e
  |succ j=>exact QE y c d
theorem Ww {k:NK}: ∀ {l:List NK},k∈l->NK.ca k<=NK.bI l
 | [],h=>by cases h
 |k'::l,h=>by
  simp only [NK.bI];rcases bH.mp h with e|e
  . rw [e];omega
  . have:=Ww e;omega
def g9 {h:Heap} (x:NK): ∀(y:NK) (v:Value),NK.at h x v->NK.at h y v->x=y:=by
 induction x using NK.ind with
 |h1 i=>
  intro y v g c;obtain ⟨t,rfl⟩:=bJ.mp g
  cases y with
  |int j=>obtain ⟨p,e⟩:=bJ.mp c;cases e;rfl
  |str z=>obtain ⟨p,e⟩:=bR.mp c;cases e
  |ar l=>obtain ⟨a,d,e,_⟩:=bK.mp c;cases e
 |h2 z=>
  intro y v g c;obtain ⟨t,rfl⟩:=bR.mp g
  cases y with
  |int j=>obtain ⟨p,e⟩:=bJ.mp c;cases e
  |str z=>obtain ⟨p,e⟩:=bR.mp c;cases e;rfl
  |ar l=>obtain ⟨a,d,e,_⟩:=bK.mp c;cases e
 |h3 l J=>
  intro y v g c;obtain ⟨a,d,rfl,⟨o,L,_,n,N⟩,E⟩:=bK.mp g
  cases y with
  |int j=>obtain ⟨p,e⟩:=bJ.mp c;cases e
  |str z=>obtain ⟨p,e⟩:=bR.mp c;cases e
  |ar m=>
   obtain ⟨O,H,e,⟨Q,q,_,U,r⟩,I⟩:=bK.mp c;cases e;rw [L] at q;cases q;rw [N] at r;cases r;congr 1;apply Am;intro j;have e1:=QD E;have e2:=QD I
   by_cases B:j<l.length
   . have u:j<m.length:=by omega
     have w:j<d.toList.length:=by omega
     rw [cZ B,cZ u];congr 1;exact J _ (mu B) _ _ (QE E (cZ B) (cZ w)) (QE I (cZ u) (cZ w))
   . rw [mv (by omega),mv (by omega)]
theorem G2 {h c:Heap}: ∀ {l:List NK} {a:List Value},(∀k∈l,∀v,NK.at h k v->NK.at c k v)->NK.lg h l a->NK.lg c l a
 | [],a,_,x=>dC.mpr (dC.mp x)
 |k::l,a,f,x=>by
  obtain ⟨u,d,e,g,y⟩:=bX.mp x;exact bX.mpr ⟨u,d,e,f k ci u g,G2 (λq i=>f q (cv _ i)) y⟩
def YU {h d:Heap} (g: ∀a c,IsTup h a c->IsTup d a c) (k:NK): ∀v,NK.at h k v->NK.at d k v:=by
 induction k using NK.ind with
 |h1 i=>exact λv x=>bJ.mpr (bJ.mp x)
 |h2 z=>exact λv x=>bR.mpr (bR.mp x)
 |h3 l m=>
  intro v x;obtain ⟨a,c,e,t,y⟩:=bK.mp x;exact bK.mpr ⟨a,c,e,g a c t,G2 m y⟩
def ZC {s:az} {a:Addr} {c:Array Value} (h:IsTup s.heap a c):s.TypeIs (.ref a) "tuple" :=let ⟨o,d,e,_⟩:=h;⟨o,d,e⟩
section
variable {prog:bn} {w:World}
def Ym (k:NK): ∀(A:bp) (E:Value->az->Prop) (s:az) (v:Value) (Q:Int->az->Prop),NK.at s.heap k v->A.units+k.ca<cLine->Q (k.hash w) {s with toks:=s.toks+k.draws}->wpAny (model prog w) A (pyHash v) Q E s:=by
 induction k using NK.ind with
 |h1 i=>
  intro A E s v Q x H q;obtain ⟨t,rfl⟩:=bJ.mp x;simp only [NK.hash,NK.draws] at q;exact wpAny_pyHash_int q
 |h2 z=>
  intro A E s v Q x H q;obtain ⟨t,rfl⟩:=bR.mp x;simp only [NK.hash,NK.draws] at q;exact wpAny_pyHash_str q
 |h3 l O=>
  intro A E s v Q x H q;obtain ⟨a,U,rfl,t,y⟩:=bK.mp x;simp only [NK.ca] at H;simp only [NK.hash,NK.draws] at q;obtain ⟨o,Y,hc,n,hd⟩:=id t;show wpAny _ _ (pyHashByItsType (.ref a)) _ _ s;refine PySem.W.pyHash_slot (ZC t) F.slot_tuple_hash F.entry_tuple_hash (F.args_tuple_hash_1 _) (by decide) (.inr (by omega)) ?_;unfold fS.«tuple.__hash__»;refine ak (aC (ak (wpAny_tupleItemsOf Y hd (ak ?_))));rw [<-Ck];refine An _ (λrest r m=> ∃done c,done++c=l/\NK.lg s.heap c rest/\r=(NK.fj w done).toArray/\m={s with toks:=s.toks+NK.dk done}) _ ?_ ?_ _ _ ⟨[],l,rfl,y,rfl,rfl⟩
  . rintro u rest r m ⟨done,c,p,B,rfl,rfl⟩
    cases c with
    |nil=>have:=dC.mp B;cases this
    |cons g c=>
     obtain ⟨u',us,e,I,J⟩:=bX.mp B;obtain ⟨rfl,rfl⟩:=List.cons.inj e;have L:g∈l:=by rw [<-p];simp
     have N:=Ww L;refine ak (O g L A.in1 E {s with toks:=s.toks+NK.dk done} u _ I (by show A.units+1+g.ca<cLine;omega) ?_);refine aC ⟨done++[g],c,by simp [p],J,?_,?_⟩
     . have: ∀d:List NK,NK.fj w (d++[g])=NK.fj w d++[g.hash w]:=λd=>by
        induction d with
        |nil=>simp [NK.fj]
        |cons b d h=>simp [NK.fj,h]
       rw [this];simp
     . have: ∀d:List NK,NK.dk (d++[g])=NK.dk d+g.draws:=λd=>by
        induction d with
        |nil=>simp [NK.dk]
        |cons b d h=>simp [NK.dk,h];omega
       rw [this,Nat.add_assoc]
  . rintro r m ⟨done,c,p,B,rfl,rfl⟩
    have e0:c=[]:=by
     cases c with
     |nil=>rfl
     |cons g c=>obtain ⟨_,_,e,_⟩:=bX.mp B;cases e
    subst e0;rw [f6] at p;subst p;show wpAny _ _ (do ret (<-mkInt (G1 (NK.fj w done).toArray.toList))) _ _ _;refine mw (wpAny_ret_mkInt (Q:=λv m=> ∃n t,v= .int n t/\Q (reduceHash n) m) ?_) (λfin m ⟨v,e,n,t,e2,q⟩=>⟨n,t,by rw [e,e2],q⟩) (λ_ _ x=>x);refine ⟨_,_,rfl,?_⟩;simpa [Nat.add_assoc] using q
end
def uX {c:Type} [BEq c] [LawfulBEq c] {d:Type} {f:c->d} (g: ∀a b,f a=f b->a=b) (a b:c) [Decidable (f a=f b)]:(a==b)=decide (f a=f b):=by
 by_cases h:a=b
 . subst h;simp
 . rw [decide_eq_false (λe=>h (g _ _ e))];simpa using h
def G3 {s:az} (x:NK): ∀(A:bp) (y:NK) (u v:Value),NK.at s.heap x u->NK.at s.heap y v->A.units+x.ca<cLine->EqAt A s u v (decide (x=y)):=by
 induction x using NK.ind with
 |h1 i=>
  intro A y u v n g o;obtain ⟨t,rfl⟩:=bJ.mp n;simp only [NK.ca] at o
  cases y with
  |int j=>
   obtain ⟨r,rfl⟩:=bJ.mp g;rw [<-uX (f:=NK.int) (λa b e=>by cases e;rfl)];exact EqAt.int_int _ _ _ _
  |str z=>obtain ⟨r,rfl⟩:=bR.mp g;rw [decide_eq_false (by intro e;cases e)];exact EqAt.int_str _ _ _ _
  |ar l=>obtain ⟨a,d,rfl,p,_⟩:=bK.mp g;rw [decide_eq_false (by intro e;cases e)];exact EqAt.int_tuple _ _ p (by omega)
 |h2 z=>
  intro A y u v n g o;obtain ⟨t,rfl⟩:=bR.mp n;simp only [NK.ca] at o
  cases y with
  |int j=>obtain ⟨r,rfl⟩:=bJ.mp g;rw [decide_eq_false (by intro e;cases e)];exact EqAt.str_int _ _ _ _
  |str N=>
   obtain ⟨r,rfl⟩:=bR.mp g;rw [<-uX (f:=NK.str) (λa b e=>by cases e;rfl)];exact EqAt.str_str _ _ _ _
  |ar l=>obtain ⟨a,d,rfl,p,_⟩:=bK.mp g;rw [decide_eq_false (by intro e;cases e)];exact EqAt.str_tuple _ _ p (by omega)
 |h3 l O=>
  intro A y u v n g o;obtain ⟨a,d,rfl,p,B⟩:=bK.mp n;simp only [NK.ca] at o
  cases y with
  |int j=>obtain ⟨r,rfl⟩:=bJ.mp g;rw [decide_eq_false (by intro e;cases e)];exact EqAt.tuple_int _ _ p (by omega)
  |str N=>obtain ⟨r,rfl⟩:=bR.mp g;rw [decide_eq_false (by intro e;cases e)];exact EqAt.tuple_str _ _ p (by omega)
  |ar m=>
   obtain ⟨Q,c,rfl,U,E⟩:=bK.mp g
   by_cases z:a=Q
   . subst z;rw [decide_eq_true (g9 _ _ _ n g)];exact EqAt.same _
   . have H:=QD B;have I:=QD E
     have q:=RcAt.tuples (A:=A) (e:=λj=>decide (l[j]?=m[j]?)) p U (by omega) (λj h1 h2=>by
      have w:j<l.length:=by rw [<-H,eq];exact h1
      have J:j<m.length:=by rw [<-I,eq];exact h2
      have Y:d.toList[j]?=some d[j]:=by rw [fG];exact eQ h1
      have g2:c.toList[j]?=some c[j]:=by rw [fG];exact eQ h2
      have hd:=Ww (mu w);have:=O l[j] (mu w) A.in1 m[j] d[j] c[j] (QE B (cZ w) Y) (QE E (cZ J) g2) (by show A.units+1+l[j].ca<cLine;omega);rw [cZ w,cZ J]
      simpa using this)
     have e:((fm (min d.size c.size)).all (λj=>decide (l[j]?=m[j]?))&&d.size==c.size)=decide (NK.ar l=NK.ar m):=by
      rw [<-eq,<-eq,H,I];rw [Cn,dj,iE,decide_eq_true_iff]
      constructor
      . rintro ⟨h1,h2⟩;have L:l.length=m.length:=by simpa using h2
        congr 1;apply Am;intro j
        by_cases hj:j<l.length
        . simpa using h1 j (gs.mpr (by omega))
        . rw [mv (by omega),mv (by omega)]
      . intro h;cases h;exact ⟨λj _=>by simp,by simp⟩
     rw [<-e];exact Co z q
section
variable {prog:bn} {w:World} {A:bp} {E:Value->az->Prop} {s:az}
def Z4 (k:NK): ∀(n:Nat) (v:Value) (Q:Bool->az->Prop),NK.at s.heap k v->k.ca<=n->Q true s->wpAny (model prog w) A (eqIsQuiet n v) Q E s:=by
 induction k using NK.ind with
 |h1 i=>intro n v Q x _ q;obtain ⟨t,rfl⟩:=bJ.mp x;cases n<;>exact aC q
 |h2 z=>intro n v Q x _ q;obtain ⟨t,rfl⟩:=bR.mp x;cases n<;>exact aC q
 |h3 l L=>
  intro n v Q x N q;obtain ⟨a,O,rfl,p,U⟩:=bK.mp x;simp only [NK.ca] at N;obtain ⟨n,rfl⟩: ∃m,n=m+1:=⟨n-1,by omega⟩
  obtain ⟨o,Y,hc,nn,hd⟩:=id p;rw [eqIsQuiet.eq_def];refine ak (Ao (ZC p) F.slot_tuple_eq.lookup ?_);dsimp only;refine ak (rX (b:=true) (ZC p) (by first|rfl|decide|exact Cp "tuple" _) ?_);simp only [o6,fT,if_false];refine ak (lh Y hd (ak ?_));simp only [Ap];rw [<-Ck];refine An _ (λrest r d=>r=(none,())/\d=s/\ ∃c,NK.lg s.heap c rest/\ ∀k∈c,k∈l) _ ?_ ?_ _ _ ⟨rfl,rfl,l,U,λ_ h=>h⟩
  . rintro u rest r d ⟨rfl,rfl,c,B,H⟩
    cases c with
    |nil=>have:=dC.mp B;cases this
    |cons I c=>
     obtain ⟨u',us,e,g,y⟩:=bX.mp B;obtain ⟨rfl,rfl⟩:=List.cons.inj e;have J:=H I ci;have LV:=Ww J;refine ak (L I J n u _ g (by omega) ?_);simp only [o6,fT,if_false];exact aC ⟨rfl,rfl,c,y,λq hq=>H q (cv _ hq)⟩
  . rintro r d ⟨rfl,rfl,_⟩;exact aC q
end
noncomputable def rY (e:bn) (w:World):HeapKind e w NK where
 is:=λh k a=>NK.at h k (.ref a)/\k.ca<=8
 hash:=NK.hash w
 draws:=NK.draws
 room:=λA=>A.units+8<cLine
 inj:=λx y=>g9 _ _ _ x.1 y.1
 keeps:=λ{h H k a d o I J} x l m p=>⟨YU (λb r ⟨ob,g,u,n,c⟩=>⟨ob,p.extBut b ob (λz=>by
  subst z;rw [l] at g;cases g
  rw [m] at c;cases c) g,u,n,c⟩) k _ x.1,x.2⟩
 pyHash:=λ{A E s k a Q} v x q=>Ym k A E s _ Q x.1 (by have:=x.2;omega) q
 eqBool:=λ{A E s x y a b Q} v i B q=>G3 x A y _ _ i.1 B.1 (by have:=i.2;omega) _ _ _ _ q
 quiet:=λ{A E s k a Q} x q=>Z4 k 8 _ Q x.1 x.2 q
def NK.nE:NK->Bool
 | .str _=>false
 |_=>true
def eR (h:Heap) (k:NK) (v:Value):Prop:=NK.at h k v/\k.ca<=8/\k.nE=true
def eR.Eb {h:Heap} {k:NK} {v:Value} (x:eR h k v):(∃i t,v= .int i t)\/ ∃a,v= .ref a:=by
 obtain ⟨x,_,n⟩:=x
 cases k with
 |int i=>obtain ⟨t,e⟩:=bJ.mp x;exact .inl ⟨i,t,e⟩
 |str z=>cases n
 |ar l=>obtain ⟨a,_,e,_⟩:=bK.mp x;exact .inr ⟨a,e⟩
abbrev VE:=NK×Value×Value
def eU (w:World) (x:VE):DictEntry:=⟨x.1.hash w,x.2.1,x.2.2⟩
def gP (a:List VE) (k:NK):Option Value:=(a.find? λx=>decide (x.1=k)).map (·.2.2)
def dI (a:List VE) (k:NK) (c v:Value):List VE:=if a.any (λx=>decide (x.1=k)) then a.map (λx=>if x.1=k then (x.1,x.2.1,v) else x) else a++[(k,c,v)]
def Yz {a:List VE} (e:(a.map (·.1)).Nodup) {i j:Nat} {k:NK} {p q:Value×Value} (g:a[i]?=some (k,p)) (h:a[j]?=some (k,q)):i=j:=by
 have c:(a.map (·.1))[i]?=some k:=by rw [c6,g];rfl
 have d:(a.map (·.1))[j]?=some k:=by rw [c6,h];rfl
 exact (List.getElem?_inj (c7.mp c).1 e).mp (c.trans d.symm)
def iF {a:List VE} (g:(a.map (·.1)).Nodup) {j:Nat} {k:NK} {p:Value×Value} (d:a[j]?=some (k,p)):gP a k=some p.2:=by
 unfold gP
 cases e:a.find? λx=>decide (x.1=k) with
 |none=>exact absurd (Cq.mp e _ (gt d)) (by simp)
 |some x=>
  obtain ⟨i,h⟩:=oE.mp (u5 e);have l:x.1=k:=by simpa using Cr e
  have c:a[i]?=some (k,x.2):=by rw [h,<-l]
  cases Yz g c d;rw [c] at d;cases d;rfl
def G4 {a:List VE} {k:NK} (h: ∀(j:Nat) (p:Value×Value),a[j]?≠some (k,p)): ∀x∈a,x.1≠k:=λx c e=>by
 obtain ⟨j,d⟩:=oE.mp c;exact h j x.2 (by rw [d,<-e])
def LW {a:List VE} {k:NK} (h: ∀x∈a,x.1≠k):gP a k=none:=by
 unfold gP;rw [Cq.mpr λx c=>by simpa using h x c];rfl
section
variable {prog:bn} {w:World} {A:bp} {E:Value->az->Prop} {s:az} {d:Addr} {N:Value} {o:Obj} {O:Array DictEntry} {L:Nat} {U:List VE} {k:NK}
def QV {e:Type} {M:Model} {c:Prop} [Decidable c] {a b:Sem e} {Q:e->az->Prop} (g:c->wpAny M A a Q E s) (i: ¬c->wpAny M A b Q E s):wpAny M A (if c then a else b) Q E s:=by
 by_cases h:c
 . rw [if_pos h];exact g h
 . rw [if_neg h];exact i h
def kM (e:eR s.heap k N) {l:List Value} (m: ∀v∈l,∃a,eR s.heap a v) {Q:Bool->az->Prop} (h:Q false s):wpAny (model prog w) A (tableMayTell N l) Q E s:=by
 unfold tableMayTell
 split
 . exact aC h
 refine ak (Z4 k 8 _ _ e.1 e.2.1 ?_);simp only [o6,fT,if_false];refine ak (An _ (λrest r c=>c=s/\r=(none,())/\ ∀v∈rest,∃a,eR s.heap a v) _ ?_ ?_ _ _ ⟨rfl,rfl,m⟩)
 . rintro x rest r c ⟨rfl,rfl,g⟩;obtain ⟨a,i⟩:=g x ci;refine ak (Z4 a 8 _ _ i.1 i.2.1 ?_);simp only [o6,fT,if_false];exact aC ⟨rfl,rfl,λv n=>g v (cv _ n)⟩
 . rintro r c ⟨rfl,rfl,_⟩;exact aC h
structure Pl (w:World) (U:List VE) (k:NK) (l:List Nat):Prop where
 nd:l.Nodup
 hs: ∀i∈l,∃x,U[i]?=some x/\x.1.hash w=k.hash w
def rZ (U:List VE) (k:NK) (l:List Nat) (a:Option Nat):Prop:=(a=none/\ ∀j p,U[j]?=some (k,p)->j∈l)\/ ∃j p,a=some j/\U[j]?=some (k,p)/\j∉l
def G5 (hu:A.units+8<cLine) (m:eR s.heap k N) (ho:s.heap.get? d=some o) (hd:o.data= .dict O L) (he:O.toList=U.map (eU w)) (y: ∀x∈U,eR s.heap x.1 x.2.1) (hn:(U.map (·.1)).Nodup)
   {Q:Option Nat->az->Prop} (H:(∀(j:Nat) (p:Value×Value),U[j]?≠some (k,p))->Q none s) (n: ∀(j:Nat) (p:Value×Value),U[j]?=some (k,p)->Q (some j) s):
   wpAny (model prog w) A (dictFind d N (k.hash w)) Q E s:=by
 have g: ∀j,O[j]?=(U[j]?).map (eU w):=λj=>by rw [<-fG,he,c6]
 have nF:O.size=U.length:=by rw [<-eq,he,bN]
 generalize hP:placesWithHash O.size (λi=>O[i]?.map (·.hash)) (k.hash w)=P
 have pl:Pl w U k P:=by
   subst hP;refine ⟨Cs.filter _,λi hi=>?_⟩;have this:(O[i]?.map (·.hash)==some (k.hash w))=true:=(Ct.mp hi).2;rw [g i] at this
   cases e:U[i]? with
   |none=>rw [e] at this;simp at this
   |some x=>rw [e] at this;exact ⟨x,rfl,by simpa [eU] using this⟩
 have h0:rZ U k P none:= .inl ⟨rfl,λj p u=>by
   subst hP;refine Ct.mpr ⟨gs.mpr ?_,?_⟩
   . rw [nF];exact (c7.mp u).1
   . show (O[j]?.map (·.hash)==some (k.hash w))=true
     rw [g j,u];simp [eU]⟩
 have fin: ∀hit,rZ U k [] hit->Q hit s:=λhit h=>by
   rcases h with ⟨rfl,h⟩| ⟨j,p,rfl,u,_⟩
   . exact H λj p e=>by cases h j p e
   . exact n j p u
 have cmp: ∀ {x:VE} {Q:Bool->az->Prop},x∈U->Q (decide (x.1=k)) s->wpAny (model prog w) A (eqBool x.2.1 N) Q E s:=λ{x Q} l q=>
   G3 x.1 A k _ _ (y x l).1 m.1 (by have:=(y x l).2.1;omega) _ _ _ _ q
 have step: ∀ {i:Nat} {rest:List Nat} {hit:Option Nat} {x:VE},Pl w U k (i::rest)->rZ U k (i::rest) hit->U[i]?=some x->(x.1=k->hit=none/\rZ U k rest (some i))/\(x.1≠k->rZ U k rest hit):=λ{i rest hit x} p h l=>by
   have ni:=(oF.mp p.nd).1;refine ⟨λe=>?_,λe=>?_⟩
   . have gQ:U[i]?=some (k,x.2):=by rw [l,<-e]
     refine ⟨?_,.inr ⟨i,x.2,rfl,gQ,ni⟩⟩;rcases h with ⟨z,_⟩| ⟨j,q,rfl,u,I⟩
     . exact z
     . exact absurd (Yz hn gQ u) (λz=>I (by rw [<-z];exact ci))
   . rcases h with ⟨z,h⟩| ⟨j,q,z,u,I⟩
     . refine .inl ⟨z,λj q u=>?_⟩;rcases bH.mp (h j q u) with r|r
       . subst r;rw [l] at u;cases u;exact (e rfl).elim
       . exact r
     . exact .inr ⟨j,q,z,u,λr=>I (cv _ r)⟩
 have J: ∀ {i:Nat} {rest:List Nat},Pl w U k (i::rest)->Pl w U k rest:=λp=>⟨(oF.mp p.nd).2,λj u=>p.hs j (cv _ u)⟩
 have Cu: ∀v∈P.filterMap (λi=>O[i]?.map (·.key)),∃k',eR s.heap k' v:=by
   intro v hv;obtain ⟨i,hi,e⟩:=Aq.mp hv;obtain ⟨x,l,_⟩:=pl.hs i hi;rw [g i,l] at e;cases e;exact ⟨x.1,y x (gt l)⟩
 have walk: ∀(o7:Prop) [Decidable o7],wpAny (model prog w) A (do
     let mut hit:Option Nat:=none
     for i in P do
       if let some e:=O[i]? then
         if e.hash==k.hash w then
          let B<-dictEpoch d (keyPart N)
          let same<-eqBool e.key N
          if (<-dictEpoch d (keyPart N)) !=B then Ar "dict.changed-during-lookup"
          if same then
           if hit.isSome then Ar "dict.find:order-among-keys-of-one-hash"
           rule "dict.find.hit"
           if o7 then return some i
           hit:=some i
          else
           rule "dict.find.same-hash-other-key"
           if false&&!(0<=k.hash w&&k.hash w<32) then Ar "dict.find:asked-again-or-not-hangs-on-the-table"
     return hit) Q E s:=by
   intro o7 _;refine ak (An _ (λrest b Y=>Y=s/\ ∃hit,b=(none,hit)/\Pl w U k rest/\rZ U k rest hit) _ ?_ ?_ _ _ ⟨rfl,none,rfl,pl,h0⟩)
   . rintro i rest b Y ⟨rfl,hit,rfl,p,h⟩;obtain ⟨x,l,hh⟩:=p.hs i ci;have I:=gt l;obtain ⟨s1,s2⟩:=step p h l;rw [g i,l];dsimp only [Option.map,eU];rw [if_pos (by rw [hh];simp)];refine ak (r6 ho hd (ak (cmp I (ak (r6 ho hd ?_)))));rw [if_neg (by simp)]
     by_cases e:x.1=k
     . obtain ⟨rfl,h2⟩:=s1 e;rw [decide_eq_true e];simp only [Option.isSome_none,fT,if_false,if_true];refine ak (kw ?_);exact QV (λ_=>aC (aC (n i x.2 (by rw [l,<-e])))) λ_=>aC ⟨rfl,some i,rfl,J p,h2⟩
     . rw [decide_eq_false e];simp only [fT,if_false,Bool.false_and];exact ak (kw (aC ⟨rfl,hit,rfl,J p,s2 e⟩))
   . rintro b Y ⟨rfl,hit,rfl,_,h⟩;exact aC (fin hit h)
 have plain:wpAny (model prog w) A (dictWalkPlain d N (k.hash w) O P) Q E s:=by
   unfold dictWalkPlain;refine ak (An _ (λrest b Y=>Y=s/\b=(none,())/\Pl w U k rest/\rZ U k rest none) _ ?_ ?_ _ _ ⟨rfl,rfl,pl,h0⟩)
   . rintro i rest b Y ⟨rfl,rfl,p,h⟩;obtain ⟨x,l,hh⟩:=p.hs i ci;have I:=gt l;obtain ⟨s1,s2⟩:=step p h l;rw [g i,l];dsimp only [Option.map,eU];rw [if_pos (by rw [hh];simp)];refine ak (r6 ho hd (ak (cmp I (ak (r6 ho hd ?_)))));rw [if_neg (by simp)]
     by_cases e:x.1=k
     . rw [decide_eq_true e];simp only [if_true];exact ak (kw (aC (aC (n i x.2 (by rw [l,<-e])))))
     . rw [decide_eq_false e];simp only [fT,if_false];exact ak (kw (aC ⟨rfl,rfl,J p,s2 e⟩))
   . rintro b Y ⟨rfl,rfl,_,h⟩;exact aC (fin none h)
 unfold dictFind
 try with_reducible refine gl ?_
 refine ak (As ho hd ?_);dsimp only;rcases m.Eb with ⟨i,t,rfl⟩| ⟨a,rfl⟩
 . dsimp only;rw [hP];refine QV (λ_=>plain) λ_=>?_
   refine QV (λ_=>ak (aC ?_)) λ_=>ak (kM m Cu ?_)
   all_goals
     rw [if_neg (by simp)];exact walk _
 . dsimp only;rw [hP];refine QV (λc=>by simp [carriedByValue] at c) λ_=>?_
   refine QV (λc=>?_) λ_=>?_
   . exfalso;rw [<-Array.any_toList,qH,he] at c;obtain ⟨e,Ec,hc⟩:=c;obtain ⟨x,l,rfl⟩:=bP.mp Ec;simp only [eU,dj,beq_iff_eq,bne_iff_ne,ne_eq] at hc;have h1:=(y x l).1;rw [hc.1] at h1;exact hc.2 (by rw [g9 _ _ _ h1 m.1])
   refine QV (λ_=>ak (aC ?_)) λ_=>ak (kM m Cu ?_)
   all_goals
     rw [if_neg (by simp)];exact walk _
end
def bL (w:World) (h:Heap) (d:Addr) (a:List VE):Prop:=
 ∃o c e,h.get? d=some o/\o.ExactDict/\o.data= .dict c e/\c.toList=a.map (eU w)/\(∀x∈a,eR h x.1 x.2.1)/\(a.map (·.1)).Nodup
def bL.typeIs {w:World} {s:az} {d:Addr} {a:List VE} (m:bL w s.heap d a):s.TypeIs (.ref d) "dict" :=let ⟨o,_,_,e,c,_⟩:=m;⟨o,e,c.1⟩
def eR.but {h e:Heap} {k:NK} {v:Value} {d:Addr} {o:Obj} {g i} (x:eR h k v) (l:h.get? d=some o) (hd:o.data= .dict g i) (m:kx d h e):eR e k v:=
 ⟨YU (λb p ⟨ob,c,q,n,a⟩=>⟨ob,m.extBut b ob (λz=>by
  subst z;rw [l] at c;cases c
  rw [hd] at a;cases a) c,q,n,a⟩) k _ x.1,x.2⟩
section
variable {prog:bn} {w:World} {A:bp} {E:Value->az->Prop} {s:az} {d:Addr} {u:Value} {Y:List VE} {k:NK}
def Ed {Q:Option Value->az->Prop} (i:A.units+8<cLine) (x:eR s.heap k u) (m:bL w s.heap d Y) (q: ∀t,Q (gP Y k) {s with toks:=t}):wpAny (model prog w) A (dictGet d u) Q E s:=by
 obtain ⟨o,l,n,c,_,e,g,a,h⟩:=m;unfold dictGet
 try with_reducible refine gl ?_
 refine ak (Ym k A E s u _ x.1 (by have:=x.2.1;omega) (ak (G5 (s:={s with toks:=s.toks+k.draws}) i x c e g a h (λz=>?_) λj p z=>?_)))
 . exact aC (by rw [<-LW (G4 z)];exact q _)
 . refine ak (As (s:={s with toks:=s.toks+k.draws}) c e ?_);rw [<-fG,g,c6,z];exact aC (by have:=q (s.toks+k.draws);rw [iF h z] at this;exact this)
def LX (Y:List VE) (k:NK) (u v:Value):(dI Y k u v).length<=Y.length+1:=by
 unfold dI;split<;>simp
def G6 {v:Value} {Q:Unit->az->Prop} (hu:A.units+8<cLine) (x:eR s.heap k u) (m:bL w s.heap d Y) (L:Y.length<=aH)
   (q: ∀I t,s.toks<=t->bL w I d (dI Y k u v)->kx d s.heap I->Q () {s with heap:=I,toks:=t}):wpAny (model prog w) A (dictSet d u v) Q E s:=by
 obtain ⟨o,N,O,g,U,a,B,h,H⟩:=m;have nF:N.size=Y.length:=by rw [<-eq,B,bN]
 unfold dictSet
 try with_reducible refine gl ?_
 refine ak (Ym k A E s u _ x.1 (by have:=x.2.1;omega) ?_);unfold dictSetHashed
 try with_reducible refine gl ?_
 refine ak (G5 (s:={s with toks:=s.toks+k.draws}) hu x g a B h H (λz=>?_) λj p z=>?_)
 . have nm:=G4 z
   have e1:dI Y k u v=Y++[(k,u,v)]:=by
     unfold dI;rw [if_neg];intro c;obtain ⟨y,hy,e⟩:=qH.mp c;exact nm y hy (by simpa using e)
   refine ak (kw (wpAny_updateDictKeys (hz:=by omega) (s:={s with toks:=s.toks+k.draws}) g a (q _ _ (oG _ _) ⟨_,_,O+1,li _ g (Obj.isFreed_of_dict (Obj.data_mapDictKeys a _)),U.mapDictKeys _,Obj.data_mapDictKeys a _,?_,?_,?_⟩ (iG ..))))
   . rw [e1];simp [B,eU]
   . rw [e1];intro y hy;rcases cW.mp hy with hy|hy
     . exact (h y hy).but g a (iG ..)
     . rw [f7.mp hy];exact x.but g a (iG ..)
   . rw [e1,iH,qP];refine ⟨H,by simp,λy hy y' n e=>?_⟩;obtain ⟨z,L,rfl⟩:=bP.mp hy;exact nm z L (e.trans (by simpa using n))
 . have e1:dI Y k u v=Y.map λx=>if x.1=k then (x.1,x.2.1,v) else x:=by
     unfold dI;rw [if_pos];exact qH.mpr ⟨_,gt z,by simp⟩
   refine ak (kw (ak (wpAny_updateDict (s:={s with toks:=s.toks+k.draws}) g a (wpAny_point (q _ _ (oG _ _) ⟨_,_,O,li _ g (Obj.isFreed_of_dict (Obj.data_mapDict a _)),U.mapDict _,Obj.data_mapDict a _,?_,?_,?_⟩ (iG ..))))))
   . rw [e1];have hj:=(c7.mp z)
     obtain ⟨l⟩:=N;simp only [Array.toList_modify] at*;subst B;apply Am;intro i;rw [List.getElem?_modify,c6,c6,c6]
     cases J:Y[i]? with
     |none=>simp
     |some y=>
       by_cases r:j=i
       . subst r;rw [z] at J;cases J;simp [eU]
       . have ny:y.1≠k:=λe=>r (Yz H z (by rw [J,<-e]))
         simp [r,ny,eU]
   . rw [e1];intro y hy;obtain ⟨y',n,rfl⟩:=bP.mp hy
     split<;>exact (h y' n).but g a (iG ..)
   . rw [e1,iI]
     have:((λx:VE=>x.1) ∘ λx:VE=>if x.1=k then (x.1,x.2.1,v) else x)=λx:VE=>x.1:=by
       funext y;dsimp only [Function.comp];split<;>rfl
     rw [this];exact H
def LY {Q:Bool->az->Prop} (a:A.units+9<cLine) (x:eR s.heap k u) (lo:(d==hC)=false) (m:bL w s.heap d Y) (q: ∀t,Q (gP Y k).isSome {s with toks:=t}):
  wpAny (model prog w) A (contains (.ref d) u) Q E s:=by
 unfold contains
 try with_reducible refine gl ?_
 refine ak (Ao m.typeIs Ee.lookup ?_);show wpAny _ _ (if (some (Value.builtin "dict.__contains__")==some mx)=true then _ else _) _ E s;rw [if_neg (by rw [beq_builtin_none];exact fq)];refine ak (wpAny_callSpecialUnlessNone?_slot (name:=Au "__contains__") m.typeIs Ee (hH Ee m.typeIs PySem.F.entry_dict_contains ?_ (args_dict_contains _ _)));show wpAny _ _ (dictGet d u>>=_) _ _ s;refine ak (Ed (by show A.units+1+8<cLine;omega) x m λt=>?_);have q:=q t
 cases e:gP Y k with
 |some p=>
  rw [e] at q;show wpAny _ _ (ret (.bool true)) _ _ _;exact aC ⟨_,rfl,q7 q⟩
 |none=>
  rw [e] at q;show wpAny _ _ (Builtin.Dict.pendingKey? d u>>=_) _ _ _;exact ak (wpAny_pendingKey_other lo (aC ⟨_,rfl,q7 q⟩))
def Aw {Q:Value->az->Prop} (a:A.units+9<cLine) (x:eR s.heap k u) (lo:(d==hC)=false) (m:bL w s.heap d Y) (q: ∀t,Q (.bool (gP Y k).isSome) {s with toks:=t}):
  wpAny (model prog w) A (lj .In u (.ref d)) Q E s:=by
 show wpAny _ _ (do return .bool (<-contains (.ref d) u)) Q E s;exact ak (LY a x lo m λt=>aC (q t))
def nG {v:Value} {Q:Value->az->Prop} (c:A.units+9<cLine) (x:eR s.heap k u) (m:bL w s.heap d Y) (a:gP Y k=some v) (q: ∀t,Q v {s with toks:=t}):wpAny (model prog w) A (oH (.ref d) u) Q E s:=by
 unfold oH
 try with_reducible refine gl ?_
 refine ak (Cv m.typeIs (by decide) ?_);refine ak (lX (name:=Au "__getitem__") m.typeIs va (hH va m.typeIs PySem.F.entry_dict_getitem ?_ (args_dict_getitem _ _)));show wpAny _ _ (dictGet d u>>=_) _ _ s;refine ak (Ed (by show A.units+1+8<cLine;omega) x m λt=>?_);rw [a];exact aC ⟨v,rfl,aC (q t)⟩
def gR {v:Value} {Q:Unit->az->Prop} (h:A.units+9<cLine) (x:eR s.heap k u) (m:bL w s.heap d Y) (c:Y.length<=aH)
  (q: ∀a t,bL w a d (dI Y k u v)->kx d s.heap a->Q () {s with heap:=a,toks:=t}):wpAny (model prog w) A (setItem (.ref d) u v) Q E s:=by
 unfold setItem
 try with_reducible refine gl ?_
 refine ak (Cv m.typeIs (by decide) ?_);refine ak (lX (name:=Au "__setitem__") m.typeIs PySem.F.slot_dict_setitem (hH PySem.F.slot_dict_setitem m.typeIs PySem.F.entry_dict_setitem ?_ (args_dict_setitem _ _ _)));show wpAny _ _ (Builtin.Dict.notOrdered "__setitem__" ⟨[.ref d,u,v],[]⟩>>=_) _ _ s;refine ak (Ef m.typeIs ?_);show wpAny _ _ (dictSet d u v>>=_) _ _ s;exact ak (G6 (by show A.units+1+8<cLine;omega) x m c λa t _ e g=>aC ⟨.none,rfl,aC (q a t e g)⟩)
end
section
variable {prog:bn} {w:World} {d:Addr} {u:Value}
def meets_get2 (lo:(d==hC)=false) (z:Value):MeetsIn prog w (fS.«dict.get» ⟨[.ref d,u,z],[]⟩) (λA R s=>A.units+9<cLine/\ ∃k a,eR s.heap k u/\bL w s.heap d a/\ ∀t,R (.ok (.ret ((gP a k).getD z))) {s with toks:=t}):=
 .of_wp λA R s ⟨c,k,a,x,m,q⟩=>by
  show wpAny _ _ (dictGet d u>>=_) _ _ s;refine ak (Ed (by show A.units+1+8<cLine;omega) x m λt=>?_);have q:=q t
  cases e:gP a k with
  |some v=>rw [e] at q;exact aC ⟨v,rfl,q⟩
  |none=>
   rw [e] at q;show wpAny _ _ (Builtin.Dict.missed d u>>=_) _ _ _;exact ak (wpAny_missed_other lo (aC ⟨z,rfl,q⟩))
end
end M
section
open PySem
abbrev ZH (x:Str):Prop:=(x==("__debug__" :Str))=false
abbrev UR (x:Str):Prop:=(x==("__classdict__" :Str))=false
abbrev UQ:=Str->Option Value
abbrev UP:=Addr->Prop
abbrev UO:=Value->az->Prop
theorem T6 {l:List Str} (h:l.Nodup:=by decide+kernel):l.Nodup:=h
end
namespace L2
open PySem PySem.Spec PyProof.Rows
abbrev aT:=Sum Int Str
def Yv:aT->Value->Bool
 | .inl k,v=>ve k v
 | .inr x,v=>Value.isStrOf x v
def Eg (w:World):aT->Int
 | .inl k=>gr k
 | .inr x=>hashStr w x
theorem qp: ∀ {k:aT} {v:Value},Yv k v=true->(∃i t,k=o8 i/\v=m7 i t)\/(∃x t,k=Sum.inr x/\v=Value.str x t)
 | .inl i,v,h=>by
  obtain ⟨t,e⟩:=Value.isInt_shape h;exact .inl ⟨i,t,rfl,e⟩
 | .inr x,v,h=>by
  obtain ⟨t,e⟩:=Value.isStrOf_shape h;exact .inr ⟨x,t,rfl,e⟩
def vh (i:Int) (t:Tok):Yv (.inl i) (.int i t)=true:=by simp [Yv,ve]
def vg (x:Str) (t:Tok):Yv (.inr x) (.str x t)=true:=by simp [Yv,Value.isStrOf]
def LZ (a b:Int):decide ((o8 a:aT)=o8 b)=(a==b):=by
 by_cases e:a=b
 . subst e;simp
 . have h: ¬(o8 a:aT)=o8 b:=λq=>e (vl q)
   rw [decide_eq_false h];exact (beq_eq_false_iff_ne.mpr e).symm
def L0 (a b:Str):decide ((Sum.inr a:aT)=Sum.inr b)=decide (a=b):=by
 by_cases e:a=b
 . subst e;simp
 . have h: ¬(Sum.inr a:aT)=Sum.inr b:=λq=>e (Sum.inr.inj q)
   rw [decide_eq_false h,decide_eq_false e]
def L1 (a:Int) (b:Str):decide ((o8 a:aT)=Sum.inr b)=false:=decide_eq_false (λq=>nomatch q)
def L3 (a:Str) (b:Int):decide ((Sum.inr a:aT)=o8 b)=false:=decide_eq_false (λq=>nomatch q)
def qF (c:bn) (w:World):PySem.KeyKind c w aT where
 is:=Yv
 hash:=Eg w
 inj:=λv a b l g=>by
  rcases qp l with ⟨i,t,rfl,rfl⟩| ⟨x,t,rfl,rfl⟩
  . rcases qp g with ⟨j,u,rfl,e⟩| ⟨y,u,rfl,e⟩
    . injection e with e1 _;rw [e1]
    . exact nomatch e
  . rcases qp g with ⟨j,u,rfl,e⟩| ⟨y,u,rfl,e⟩
    . exact nomatch e
    . injection e with e1 _;rw [e1]
 byValue:=λk v h=>by
  rcases qp h with ⟨i,t,rfl,rfl⟩| ⟨x,t,rfl,rfl⟩<;>rfl
 pyHash:=λd h=>by
  rcases qp d with ⟨i,t,rfl,rfl⟩| ⟨x,t,rfl,rfl⟩
  . exact wpAny_pyHash_int h
  . exact wpAny_pyHash_str h
 eqBool:=λm d h=>by
  rcases qp m with ⟨i,t,rfl,rfl⟩| ⟨x,t,rfl,rfl⟩
  . rcases qp d with ⟨j,u,rfl,rfl⟩| ⟨y,u,rfl,rfl⟩
    . rw [LZ] at h;exact wpAny_eqBool_int h
    . rw [L1] at h;exact SeqAt.EqAt.int_str i t y u _ _ _ _ h
  . rcases qp d with ⟨j,u,rfl,rfl⟩| ⟨y,u,rfl,rfl⟩
    . rw [L3] at h;exact SeqAt.EqAt.str_int x t j u _ _ _ _ h
    . rw [L0] at h;exact wpAny_eqBool_str h
 «strs» :=λk x t v h=>by
  rcases qp h with ⟨i,u,rfl,e⟩| ⟨y,u,rfl,e⟩
  . exact nomatch e
  . injection e with e1 _;subst e1;cases v<;>rfl
def Yp (a:bn) (w:World) (i:Int) (t:Tok):(qF a w).is (.inl i) (.int i t)=true:=vh i t
def Yo (a:bn) (w:World) (x:Str) (t:Tok):(qF a w).is (.inr x) (.str x t)=true:=vg x t
inductive V where
 |aV|bl (b:Bool)|int (i:Int)|str (x:Str)|ra (b:Array UInt8)|r8 (b:UInt64)|ref (a:Addr)|ty (n:String)
 deriving DecidableEq
def aE:V->Value->Prop
 | .aV,u=>u=mx
 | .bl b,u=>u=m8 b
 | .int i,u=> ∃t,u=m7 i t
 | .str x,u=> ∃t,u=Value.str x t
 | .ra b,u=> ∃t,u=Value.bytes b t
 | .r8 b,u=> ∃t,u=Value.float b t
 | .ref a,u=>u=cX a
 | .ty n,u=>u=my n
abbrev aI:List V->List Value->Prop:=eS aE
def aI.length {a:List V} {c:List Value} (r:aI a c):a.length=c.length:=o9 r
theorem aI.get: ∀ {a:List V} {c:List Value} {i:Nat} {x:V},aI a c->a[i]?=some x-> ∃u,c[i]?=some u/\aE x u
 |_,_,_,_,.nil,e=>by simp at e
 |_,_,0,_,.cons r _,e=>by simp at e;subst e;exact ⟨_,rfl,r⟩
 |_,_,i+1,x,.cons _ t,e=>by
  obtain ⟨u,h1,h2⟩:=aI.get t (by simpa using e);exact ⟨u,by simpa using h1,h2⟩
theorem aI.append: ∀ {a c:List V} {d e:List Value},aI a d->aI c e->aI (a++c) (d++e)
 |_,_,_,_,.nil,s=>s
 |_,_,_,_,.cons r t,s=> .cons r (aI.append t s)
theorem aI.take: ∀ {a:List V} {c:List Value} (n:Nat),aI a c->aI (a.take n) (c.take n)
 |_,_,0,_=> .nil
 |_,_,_+1,.nil=> .nil
 |_,_,n+1,.cons r t=> .cons r (aI.take n t)
theorem aI.drop: ∀ {a:List V} {c:List Value} (n:Nat),aI a c->aI (a.drop n) (c.drop n)
 |_,_,0,r=>r
 |_,_,_+1,.nil=> .nil
 |_,_,n+1,.cons _ t=>aI.drop n t
def cG:Option V->Option Value->Prop
 |some v,some u=>aE v u
 |none,none=>True
 |_,_=>False
def KV {a:Type}:List (a×V)->List (a×Value)->Prop:=eS λ(p:a×V) (q:a×Value)=>p.1=q.1/\aE p.2 q.2
def kV:aT->V
 | .inl i=> .int i
 | .inr x=> .str x
inductive HO where
 |ah (xs:List V)
 |ar (xs:List V)
 |dK (kvs:List (aT×V))|dT (kvs:List (M.NK×V))
 |set (S:Int->Bool) (n:Nat)
 |ins (C dx:Addr) (fs:List (Str×V))
 |ag (x:Addr)
 |xd (fs:List (Str×V))
 |met (f x:Addr)
 |Eh (lo hi:Int)
 |br (o:Obj) (u:HO)
 |rb (ps:Array Value)
 |ext (φ:Heap->Prop)
 |memo (B:List M.NK) (Φ:M.NK->M.NV->Prop)
 |cx (rs:List (Addr×List V))
abbrev Hp:=Addr->Option HO
def ay (H:Hp) (a:Addr) (o:HO):Hp:=λb=>if b=a then some o else H b
def jk {H:Hp} {a:Addr} {o:HO}:ay H a o a=some o:=by unfold ay;rw [if_pos rfl]
def jp {H:Hp} {a b:Addr} {o:HO} (h:b≠a):ay H a o b=H b:=by unfold ay;rw [if_neg h]
def L4 {H:Hp} {a:Addr} {o u:HO}:ay (ay H a o) a u=ay H a u:=by
 funext b;unfold ay;split<;>rfl
def L5 {H:Hp} {a b:Addr} {o u:HO} (h:H a=some o) (c:H b=some u) (d:o≠u):a≠b:=by
 intro e;subst e;rw [h] at c;exact d (fU c)
def qu {H:Hp} {a b:Addr} {o:HO} (h:H a=some o) (c:H b=none):a≠b:=by
 intro e;subst e;rw [h] at c;cases c
mutual
def dU (H:Hp):M.NK->V->Prop
 | .int i,v=>v= .int i
 | .str x,v=>v= .str x
 | .ar l,v=> ∃b a,v= .ref b/\H b=some (.ar a)/\dn H l a
def dn (H:Hp):List M.NK->List V->Prop
 | [],a=>a=[]
 |k::l,a=> ∃u c,a=u::c/\dU H k u/\dn H l c
end
def Ax (H:Hp):M.NV->V->Prop
 | .aV,v=>v= .aV
 | .key k,v=>dU H k v
 | .bl b,v=>v= .bl b
theorem dn.mono {H c:Hp}: ∀ {l:List M.NK} {a:List V},(∀k∈l,∀v,dU H k v->dU c k v)->dn H l a->dn c l a
 | [],a,_,x=>by simp only [dn] at x ⊢;exact x
 |k::l,a,f,x=>by
  obtain ⟨u,d,e,g,y⟩:=x;exact ⟨u,d,e,f k ci u g,dn.mono (λq h=>f q (cv _ h)) y⟩
def dU.mono {H a:Hp} (g: ∀b c,H b=some (.ar c)->a b=some (.ar c)) (k:M.NK): ∀v,dU H k v->dU a k v:=by
 induction k using M.NK.ind with
 |h1 i=>intro v x;simp only [dU] at x ⊢;exact x
 |h2 z=>intro v x;simp only [dU] at x ⊢;exact x
 |h3 l h=>
  intro v x;obtain ⟨b,d,e,m,y⟩:=x;exact ⟨b,d,e,g b d m,dn.mono h y⟩
def Ax.mono {H a:Hp} (d: ∀b c,H b=some (.ar c)->a b=some (.ar c)) {k:M.NV} {v:V} (x:Ax H k v):Ax a k v:=by
 cases k with
 |aV=>exact x
 |key k=>exact dU.mono d k v x
 |bl b=>exact x
def TK (H:Hp) (k:M.NK) (v:V):Prop:=dU H k v/\k.ca<=8/\k.nE=true
def TK.keep {H a:Hp} (d: ∀b c,H b=some (.ar c)->a b=some (.ar c)) {k:M.NK} {v:V} (x:TK H k v):TK a k v:=⟨dU.mono d _ _ x.1,x.2⟩
def KR (H:Hp) (p:M.NK×V) (q:M.VE):Prop:=p.1=q.1/\(∃y,TK H p.1 y/\aE y q.2.1)/\aE p.2 q.2.2
def KR.keep {H c:Hp} (e: ∀b d,H b=some (.ar d)->c b=some (.ar d)) {p:M.NK×V} {q:M.VE} (x:KR H p q):KR c p q:=⟨x.1,let ⟨y,a,b⟩:=x.2.1;⟨y,a.keep e,b⟩,x.2.2⟩
def bo:Str:= "leads"
def Cw (H:Hp) (r:Addr×List V) (q:M.VE):Prop:= ∃y v,r.2=[y,v]/\(TK H q.1 y/\aE y q.2.1)/\aE v q.2.2
section
variable (P:bn) (w:World)
def aW (H:Hp) (h:Heap) (a:Addr):HO->Prop
 | .ah c=>c.length<=aH/\ ∃(e:List Value) (n:Nat),aI c e/\h.get? a=some {cls:= .type "list",data:= .seq e.toArray n}
 | .ar c=>c.length<=aH/\ ∃e:List Value,aI c e/\IsTup h a e.toArray
 | .dK g=>g.length<=aH/\(a==hC)=false/\ ∃r,KV g r/\h.DictOf (qF P w) a r
 | .dT g=>g.length<=aH/\(a==hC)=false/\ ∃c:List M.VE,eS (KR H) g c/\
  ∃o m p,h.get? a=some o/\o.ExactDict/\o.data= .dict m p/\m.toList=c.map (M.eU w)/\(c.map (·.1)).Nodup
 | .set S n=>h.SetOf (m9 P w) a S n
 | .ins C dx fs=>H dx=some (.ag a)/\fs.length<=1000/\dx≠a/\h.get? a=some (pa C dx)/\
  ∃l,h.Ns1 dx l/\(∀f,cG (fs.lookup f) (l f))/\PySem.Within l (fs.map (·.1))
 | .ag _=> ∃o,h.get? a=some o
 | .xd fs=> ∃l,h.Ns1 a l/\ ∀f,cG (fs.lookup f) (l f)
 | .Eh lo I=> ∃t u v,h.get? a=some {cls:= .type "range",data:= .fields #[.int lo t,.int I u,.int 1 v]}
 | .br o u=>h.get? a=some o/\aW H h a u
 | .rb J=>h.get? a=some {cls:= .none,data:= .fields J}
 | .met f x=>h.get? a=some (PySem.W.methodObj (.ref f) (.ref x))
 | .ext q=>q h/\(∃o,h.get? a=some o)/\ ∀y z:Heap,q y->(∀o,y.get? a=some o->z.get? a=some o)->q z
 | .memo B L=>B.length<aH/\(a==hC)=false/\ ∃c:List (M.NK×Addr×Value),(∀x∈c,x.1∈B/\dU H x.1 (.ref x.2.1)/\x.1.ca<=8/\ ∃v E,aE v x.2.2/\Ax H E v/\L x.1 E)/\
  ∃o m p,h.get? a=some o/\o.ExactDict/\o.data= .dict m p/\m.toList=c.map (entryOfKey (M.rY P w))/\(c.map (·.1)).Nodup
 | .cx N=> ∃C d i,N=(C,[])::(d,[])::i/\i.length<=aH/\(d==hC)=false/\d≠a/\H d=some (.ag a)/\
  (∃dx,H dx=some (.ag a)/\dx≠a/\d≠dx/\h.get? a=some (pa C dx)/\ ∃l,h.Ns1 dx l/\ ∀f,cG (([(bo,V.ref d)]:List (Str×V)).lookup f) (l f))/\
  ∃c:List M.VE,eS (Cw H) i c/\ ∃o m p,h.get? d=some o/\o.ExactDict/\o.data= .dict m p/\m.toList=c.map (M.eU w)/\(c.map (·.1)).Nodup
def dD (H:Hp) (h:Heap):Prop:= ∀a o,H a=some o->aW P w H h a o
end
section
variable {P:bn} {w:World} {H I:Hp} {h h':Heap} {a:Addr} {o:HO}
def aW.lt (x:aW P w H h a o):a<h.objs.size:=by
 cases o with
 |ah d=>obtain ⟨_,_,_,_,e⟩:=x;exact bw e
 |ar d=>obtain ⟨_,_,_,p⟩:=x;exact p.lt
 |dK c=>obtain ⟨_,_,_,_,o,_,_,e,_⟩:=x;exact bw e
 |dT c=>obtain ⟨_,_,_,_,o,_,_,e,_⟩:=x;exact bw e
 |set S n=>obtain ⟨o,_,_,_,e,_⟩:=x;exact bw e
 |ins C dx fs=>obtain ⟨_,_,_,e,_⟩:=x;exact bw e
 |ag y=>obtain ⟨_,e⟩:=x;exact bw e
 |xd fs=>obtain ⟨_,⟨_,_,_,e,_⟩,_⟩:=x;exact bw e
 |Eh lo g=>obtain ⟨_,_,_,e⟩:=x;exact bw e
 |br ob u=>obtain ⟨e,_⟩:=x;exact bw e
 |rb i=>exact bw (x)
 |met f y=>exact bw (x)
 |ext l=>obtain ⟨_,⟨_,e⟩,_⟩:=x;exact bw e
 |memo B m=>obtain ⟨_,_,_,_,o,_,_,e,_⟩:=x;exact bw e
 |cx rs=>obtain ⟨_,_,_,_,_,_,_,_,⟨_,_,_,_,e,_⟩,_⟩:=x;exact bw e
theorem eS.ll {e g:Type} {F G:e->g->Prop}: ∀ {c:List e} {d:List g},eS F c d->(∀a b,F a b->G a b)->eS G c d
 |_,_,.nil,_=> .nil
 |_,_,.cons r t,f=> .cons (f _ _ r) (eS.ll t f)
def aW.aP (x:aW P w H h a o) (k: ∀b u,(b=a\/H b=some (.ag a))->h.get? b=some u->h'.get? b=some u)
  (O: ∀b,H b=some (.ag a)->I b=some (.ag a)) (N: ∀b l,H b=some (.ar l)->I b=some (.ar l)):aW P w I h' a o:=by
 induction o with
 |ah l=>obtain ⟨z,m,n,r,e⟩:=x;exact ⟨z,m,n,r,k _ _ (.inl rfl) e⟩
 |ar l=>obtain ⟨z,m,r,ob,e,c⟩:=x;exact ⟨z,m,r,ob,k _ _ (.inl rfl) e,c⟩
 |dK Q=>obtain ⟨z,y,vs,r,ob,g,i,e,c⟩:=x;exact ⟨z,y,vs,r,ob,g,i,k _ _ (.inl rfl) e,c⟩
 |cx rs=>
  obtain ⟨C,d,E,e0,z,lo,nd,hd,⟨dx,hx,nx,ne,e,J,⟨L,g,i,e2,c⟩,r⟩,l,pr,o,U,Y,e3,c3⟩:=x;exact ⟨C,d,E,e0,z,lo,nd,O _ hd,⟨dx,O _ hx,nx,ne,k _ _ (.inl rfl) e,J,⟨L,g,i,k _ _ (.inr hx) e2,c⟩,r⟩,l,eS.ll pr λp q ⟨y,v,a1,a2,a3⟩=>⟨y,v,a1,⟨a2.1.keep N,a2.2⟩,a3⟩,o,U,Y,k _ _ (.inr hd) e3,c3⟩
 |dT Q=>
  obtain ⟨z,y,l,r,ob,g,i,e,c⟩:=x;exact ⟨z,y,l,eS.ll r λp q z=>z.keep N,ob,g,i,k _ _ (.inl rfl) e,c⟩
 |set S n=>obtain ⟨ob,g,i,t,e,c⟩:=x;exact ⟨ob,g,i,t,k _ _ (.inl rfl) e,c⟩
 |ins C dx fs=>
  obtain ⟨d,z,ne,e,J,⟨L,g,i,e2,c⟩,r⟩:=x;exact ⟨O _ d,z,ne,k _ _ (.inl rfl) e,J,⟨L,g,i,k _ _ (.inr d) e2,c⟩,r⟩
 |ag y=>obtain ⟨ob,e⟩:=x;exact ⟨ob,k _ _ (.inl rfl) e⟩
 |xd fs=>obtain ⟨J,⟨L,g,i,e,c⟩,r⟩:=x;exact ⟨J,⟨L,g,i,k _ _ (.inl rfl) e,c⟩,r⟩
 |Eh lo hi=>obtain ⟨t,u,v,e⟩:=x;exact ⟨t,u,v,k _ _ (.inl rfl) e⟩
 |br ob u ih=>obtain ⟨e,q⟩:=x;exact ⟨k _ _ (.inl rfl) e,ih q⟩
 |rb ps=>
  have e:=x;exact k a _ (.inl rfl) e
 |met f y=>
  have e:=x;exact k a _ (.inl rfl) e
 |ext φ=>obtain ⟨p,⟨o,e⟩,st⟩:=x;exact ⟨st _ _ p λo q=>k _ _ (.inl rfl) q,⟨o,k _ _ (.inl rfl) e⟩,st⟩
 |memo B Φ=>
  obtain ⟨z,y,l,r,ob,g,i,e,c⟩:=x;exact ⟨z,y,l,λq hq=>let ⟨b1,b2,b3,v,nv,b4,b5,b6⟩:=r q hq;⟨b1,dU.mono N _ _ b2,b3,v,nv,b4,Ax.mono N b5,b6⟩,ob,g,i,k _ _ (.inl rfl) e,c⟩
def dD.lt (x:dD P w H h) (e:H a=some o):a<h.objs.size:=(x a o e).lt
def dD.fresh (x:dD P w H h) (e:h.objs.size<=a):H a=none:=by
 cases q:H a with
 |none=>rfl
 |some u=>exact absurd (eV (x.lt q) e) (nH _)
def dD.kept (x:dD P w H h) (k: ∀b u,h.get? b=some u->h'.get? b=some u):dD P w H h':=λa o e=>
 (x a o e).aP (λb u _ q=>k b u q) (λ_ q=>q) λ_ _ q=>q
def dD.laid (x:dD P w H h) (k: ∀b u,h.get? b=some u->h'.get? b=some u) (i:h.objs.size<=a) (new:aW P w (ay H a o) h' a o):dD P w (ay H a o) h':=λb u e=>by
 have d:=x.fresh i
 by_cases g:b=a
 . subst g;rw [jk] at e;cases e;exact new
 . rw [jp g] at e;exact (x b u e).aP (λc v _ q=>k c v q) (λc q=>by rw [jp (qu q d)];exact q) λc l q=>by rw [jp (qu q d)];exact q
end
def Rd (H:Hp) (a:Addr) (u:HO):Prop:=H a=some u\/ ∃o,H a=some (.br o u)
def Rd.of {H:Hp} {a:Addr} {u:HO} (h:H a=some u):Rd H a u:= .inl h
def Rd.ao {H c:Hp} {a:Addr} {u:HO} (h:Rd H a u) (s: ∀b o,H b=some o->c b=some o):Rd c a u:=h.imp (s _ _) λ⟨o,e⟩=>⟨o,s _ _ e⟩
def Rd.ok {P:bn} {w:World} {H:Hp} {h:Heap} {a:Addr} {u:HO} (r:Rd H a u) (x:dD P w H h):aW P w H h a u:=by
 rcases r with r| ⟨o,r⟩
 . exact x a u r
 . obtain ⟨_,q⟩:=x a _ r;exact q
def ky:Option HO->Prop
 |some (.ah _)=>True
 |some (.dK _)=>True
 |some (.dT _)=>True
 |some (.set _ _)=>True
 |some (.ins _ _ _)=>True
 |some (.ext _)=>True
 |some (.memo _ _)=>True
 |some (.cx _)=>True
 |_=>False
section
variable {P:bn} {w:World} {H:Hp} {h h':Heap} {x e:Addr} {o':HO}
def dD.write (ok:dD P w H h) (i:ky (H x)) (o:e=x\/H e=some (.ag x)) (k: ∀b u,b≠e->h.get? b=some u->h'.get? b=some u) (n: ∃u,h'.get? e=some u)
   (new:aW P w (ay H x o') h' x o'):dD P w (ay H x o') h':=λb u q=>by
 have d: ∀c y,H c=some (.ag y)->c≠x:=λc y r z=>by subst z;rw [r] at i;exact i
 have g: ∀c l,H c=some (.ar l)->c≠x:=λc l r z=>by subst z;rw [r] at i;exact i
 by_cases m:b=x
 . subst m;rw [jk] at q;cases q;exact new
 . rw [jp m] at q
   by_cases a:b=e
   . have p:H b=some (.ag x):=by
       rcases o with z|z
       . exact absurd (a.trans z) m
       . rw [a];exact z
     rw [q] at p;cases p;obtain ⟨v,B⟩:=n;exact ⟨v,by rw [a];exact B⟩
   . refine (ok b u q).aP (λc v hc r=>k c v ?_ r) (λc r=>by rw [jp (d c b r)];exact r) λc l r=>by rw [jp (g c l r)];exact r
     rcases hc with rfl|hc
     . exact a
     . rintro rfl;rcases o with z|z
       . exact d c b hc z
       . rw [hc] at z;cases z;exact m rfl
end
structure Un (fs ex:List Addr) (H H':Hp) (h h':Heap):Prop where
 keep: ∀b o,h.get? b=some o->H b=none->b∉fs->b∉ex->h'.get? b=some o
 slot: ∀b o,h.get? b=some o->H b=none->b∈fs->b∉ex-> ∃sl,h'.get? b=some {o with slots:=sl}
 free: ∀b o,h.get? b=some o->H b=none->b∉ex->H' b=none
 there: ∀b o,h.get? b=some o->b∉ex-> ∃o',h'.get? b=some o'
 eW: ∀b xs,H b=some (.ar xs)->H' b=some (.ar xs)
 eC: ∀b o u,H b=some (.br o u)->H' b=some (.br o u)
 eX: ∀b ps,H b=some (.rb ps)-> ∃more,H' b=some (.rb (ps++more))
section
variable {fs L6 ex ex':List Addr} {H H1 H2:Hp} {h h1 h2 h':Heap} {a x e:Addr} {o:HO}
def Un.any (u:Un fs ex H H1 h h1) {b:Addr} {ob:Obj} (q:h.get? b=some ob) (n:H b=none) (c:b∉ex): ∃g,h1.get? b=some {ob with slots:=g}:=by
 by_cases d:b∈fs
 . exact u.slot b ob q n d c
 . exact ⟨ob.slots,u.keep b ob q n d c⟩
def Un.kept (k: ∀b u,h.get? b=some u->h'.get? b=some u):Un fs ex H H h h':=
 ⟨λb ob q _ _ _=>k b ob q,λb ob q _ _ _=>⟨ob.slots,k b ob q⟩,λ_ _ _ n _=>n,λb ob q _=>⟨ob,k b ob q⟩,λ_ _ q=>q,λ_ _ _ q=>q,λ_ c q=>⟨#[],by rw [q];simp⟩⟩
def Un.refl:Un fs ex H H h h:=Un.kept λ_ _ q=>q
def Un.laid (k: ∀b u,h.get? b=some u->h'.get? b=some u) (d:h.objs.size<=a) (c:H a=none):Un fs ex H (ay H a o) h h' where
 keep:=λb u q _ _ _=>k b u q
 slot:=λb u q _ _ _=>⟨u.slots,k b u q⟩
 free:=λb u q n _=>by rw [jp (cj (eV (bw q) d))];exact n
 there:=λb u q _=>⟨u,k b u q⟩
 eW:=λb g q=>by rw [jp (qu q c)];exact q
 eC:=λb u g q=>by rw [jp (qu q c)];exact q
 eX:=λb i q=>⟨#[],by rw [jp (qu q c),q];simp⟩
def Un.write (d:ky (H x)) (p:e=x\/H e=some (.ag x)) (k: ∀b u,b≠e->h.get? b=some u->h'.get? b=some u) (g: ∃u,h'.get? e=some u):Un fs ex H (ay H x o) h h':=by
 have l: ∀b,H b=none->b≠x:=λb n z=>by subst z;rw [n] at d;exact d
 have m: ∀b,H b=none->b≠e:=λb n z=>by
   subst z;rcases p with r|r
   . exact l b n r
   . rw [n] at r;cases r
 have i: ∀b u,H b=some u-> ¬ky (some u)->b≠x:=λb u q nm z=>by subst z;rw [q] at d;exact nm d
 refine ⟨λb u q n _ _=>k b u (m b n) q,λb u q n _ _=>⟨u.slots,k b u (m b n) q⟩,λb u q n _=>by rw [jp (l b n)];exact n,λb u q _=>?_,
   λb v q=>by rw [jp (i b _ q λz=>z)];exact q,λb u v q=>by rw [jp (i b _ q λz=>z)];exact q,λb w q=>⟨#[],by rw [jp (i b _ q λz=>z),q];simp⟩⟩
 by_cases c:b=e
 . subst c;exact g
 . exact ⟨u,k b u c q⟩
end
def Ei (h:Heap) (H:Hp):List Addr:=(fm h.objs.size).filter λa=>(H a).isSome
def iJ (h:Heap) (H:Hp):Heap:=PySem.W.hideAll h (Ei h H)
def vC (h:Heap) (H:Hp):(iJ h H).objs.size=h.objs.size:=PySem.W.hideAll_size _ _
def L7 {h:Heap} {H:Hp} {b:Addr} {o:Obj} (e:h.get? b=some o) (n:H b=none):(iJ h H).get? b=some o:=
 PySem.W.hideAll_get _ e λa=>by
  have q:=(Ct.mp a).2;rw [n] at q;simp at q
def L8 {h:Heap} {H:Hp} {b:Addr} {o:Obj} (e:(iJ h H).get? b=some o):h.get? b=some o/\H b=none:=by
 have a:=PySem.W.of_hideAll (Ei h H) e;refine ⟨a,?_⟩
 cases q:H b with
 |none=>rfl
 |some x=>
  have z:(iJ h H).get? b=none:=PySem.W.hideAll_none (Ei h H) (Ct.mpr ⟨gs.mpr (bw a),by simp [q]⟩);rw [z] at e;cases e
def L9 (g h:Heap) (L:Addr):List (Addr×Obj):=(fm h.objs.size).filterMap λa=>if a=L\/(g.get? a).isSome=true then none else (h.get? a).map λo=>(a,o)
def rest (g h:Heap) (L d:Addr):List (Addr×Obj):=(L9 g h L).filter λp=>decide (p.1≠d)
structure Mod (K:aA) (mg:UQ) (ae:Heap):Prop where
 Cy:K.In ae
 glob:ae.Ns bY mg
 blt: ∃mb,ae.Ns builtinsNs mb/\ ∀x:Str,x≠ "__name__" ->mb x=iz x
 nolimit:ae.NoLimit
structure Cx where
 prog:bn
 w:World
 K:aA
 mg:Str->Option Value
 ae:Heap
 A:bp
 N:List Str
 c8:az
 iK:Hp
 env:Env
 outer:List Env
 stack:List Env
 ex:List Addr
 fn:Str->Bool
 bz:Bool
 pn:List (Addr×Obj)
 xe:Value->az->Prop
abbrev T9 (X:Cx) (e:Expr) (a:List Expr):Prop:=bj (e::a) X.env=(false,eval e X.env)::bj a X.env
abbrev T8 (X:Cx) (p:Pos) (a:List Expr):Prop:=(eA p (bj a X.env)).any (·.1)=false
abbrev T7 (X:Cx) (x:Str):Prop:=X.fn x=true\/X.env.scope.names.lookup x=some .local
def mz (l:List Env):List Addr:=l.filterMap (·.frame)
abbrev Cx.fs (X:Cx):List Addr:=mz X.outer
def dE (a:Scope) (x:Str):Prop:=a.names.lookup x=some .local\/a.names.lookup x=some .cell\/a.names.lookup x=some .free
def Loc (a:Scope) (x:Str):Prop:=a.names.lookup x=some .local\/a.names.lookup x=some .cell
def Look (env:Env) (h:Heap) (m:UQ) (x:Str) (u:Value):Prop:=
 (env.kindOf x=some .local/\m x=some u)\/((env.kindOf x=some .cell\/env.kindOf x=some .free)/\ ∃c,env.cells.lookup x=some c/\h.IsCell c (some u))
structure Cx.Ok (X:Cx):Prop where
 mod:Mod X.K X.mg X.ae
 kind:X.env.scope.kind= .function
 glob:X.env.globals=bY
 blt:X.env.builtins=builtinsNs
 above:X.c8.heap.objs.size<=X.env.locals
 inj: ∀x y c,X.env.cells.lookup x=some c->X.env.cells.lookup y=some c->x=y
 has: ∀x,(X.env.kindOf x=some .cell\/X.env.kindOf x=some .free)-> ∃c,X.env.cells.lookup x=some c
 vu: ∀x c,X.fn x=true->X.env.cells.lookup x=some c->X.c8.heap.objs.size<=c
 hd:X.bz=true->X.A.handled=none
 frames:X.A.frames=some X.stack
 Ay:X.stack=X.outer\/(X.stack=X.env::X.outer/\X.env.frame=some X.env.locals)
 r9: ∀b∈X.ex,b≠X.env.locals/\ ∀x c,X.env.cells.lookup x=some c->c≠b
 bs: ∀b o,X.ae.get? b=some o->X.c8.heap.get? b=some o/\X.iK b=none
 oI:X.ae.objs.size<=X.c8.heap.objs.size
 mB: ∀b o,X.ae.get? b=some o->b∉X.ex
 lm: ∀b∈X.ex,b∉X.fs
 eY:X.c8.heap.FunFrames X.ae X.outer
 rc: ∀b∈X.fs,X.iK b=none
structure aw (X:Cx) (pins:List (Addr×Obj)) (σ:List (Option V)) (H:Hp) (s:az):Prop where
 ok:X.Ok
 os:s.os=X.c8.os
 bare:pb s.gens
 ae:Un X.fs X.ex X.iK H X.c8.heap s.heap
 loc: ∃m,s.heap.Ns X.env.locals m/\ ∀(i:Nat) (x:Str) (v:V),X.N[i]?=some x->σ[i]?=some (some v)->dE X.env.scope x-> ∃u,aE v u/\Look X.env s.heap m x u
 cell: ∀x c,X.env.cells.lookup x=some c-> ∃v,s.heap.IsCell c v
 free:H X.env.locals=none
 cm: ∀x c,X.env.cells.lookup x=some c->H c=none
 pin: ∀p∈X.pn++pins,s.heap.get? p.1=some p.2/\H p.1=none/\p.1≠X.env.locals/\p.1∉X.fs/\ ∀v,p.2.data≠ .cell v
 aM:dD X.prog X.w H s.heap
 len:σ.length=X.N.length
section
variable {X:Cx} {J:List (Addr×Obj)} {B:List (Option V)} {H g:Hp} {s:az} {h':Heap}
def Cx.Ok.Ej (ok:X.Ok) {b:Addr} {o:Obj} (e:X.ae.get? b=some o):b∉X.fs:=λa=>by
 have:=(ok.eY.mem a).1;rw [e] at this;cases this
def aw.bs (I:aw X J B H s): ∀b o,X.ae.get? b=some o->s.heap.get? b=some o/\H b=none:=λb o e=>
 ⟨I.ae.keep b o (I.ok.bs b o e).1 (I.ok.bs b o e).2 (I.ok.Ej e) (I.ok.mB b o e),I.ae.free b o (I.ok.bs b o e).1 (I.ok.bs b o e).2 (I.ok.mB b o e)⟩
def aw.bk (I:aw X J B H s): ∀b o,X.ae.get? b=some o->s.heap.get? b=some o:=λb o e=>(I.bs b o e).1
def aw.mod (I:aw X J B H s):Mod X.K X.mg X.ae:=I.ok.mod
def aw.fV (I:aw X J B H s):X.K.In s.heap:=I.ok.mod.Cy.keeps I.bk
def aw.lt (I:aw X J B H s):X.env.locals<s.heap.objs.size:=let ⟨_,a,_⟩:=I.loc;a.lt
def aw.sz (I:aw X J B H s):X.c8.heap.objs.size<=s.heap.objs.size:=bZ I.ok.above (sd I.lt)
def aw.Ek (I:aw X J B H s) {a:Addr} (h:s.heap.objs.size<=a):a∉X.fs:=λc=>by
 obtain ⟨_,o,d,_⟩:=I.ok.eY.mem c;exact absurd (eV (bw d) (bZ I.sz h)) (nH _)
def aw.se (I:aw X J B H s): ∀x c,X.env.cells.lookup x=some c->c≠X.env.locals:=λx c e z=>by
 obtain ⟨v,o,h,hd⟩:=I.cell x c e;obtain ⟨m,⟨i,l,n,a,d,_⟩,_⟩:=I.loc;rw [z,a] at h;cases h;rw [d] at hd;cases hd
def aw.eY (I:aw X J B H s):s.heap.FunFrames X.ae X.outer:=by
 have all: ∀(l:List Env),(∀b∈mz l,b∈X.fs)->X.c8.heap.FunFrames X.ae l->s.heap.FunFrames X.ae l:=by
  intro l
  induction l with
  |nil=>intro _ _;trivial
  |cons env r h=>
   intro hs i;obtain ⟨m,⟨L,o,a,n,p,hd⟩,q⟩:=i;have c:=hs L (by unfold mz;rw [Cz,a];exact ci);obtain ⟨u,e⟩:=I.ae.slot L o p (I.ok.rc L c) c λz=>I.ok.lm L z c
   exact ⟨m,⟨L,_,a,n,e,hd⟩,h (λb d=>hs b (by unfold mz;rw [Cz,a];exact cv _ d)) q⟩
 exact all X.outer (λ_ d=>d) I.ok.eY
def aw.stack (I:aw X J B H s):s.heap.FunFrames X.ae X.stack:=by
 rcases I.ok.Ay with e| ⟨e,a⟩
 . rw [e];exact I.eY
 . rw [e];obtain ⟨m,c,_⟩:=I.loc;refine .cons (by rw [I.ok.kind];decide) a c ?_ I.eY;exact Heap.get?_none_of_le (bZ I.ok.oI I.ok.above)
def aw.lq (I:aw X J B H s): ∀b∈mz X.stack,b∈X.env.locals::X.fs:=λb a=>by
 rcases I.ok.Ay with e| ⟨e,c⟩
 . rw [e] at a;exact cv _ a
 . rw [e] at a;unfold mz at a;rw [Cz,c] at a;exact a
def aw.lY (I:aw X J B H s): ∀b∈mz X.stack,H b=none:=λb hb=>by
 rcases bH.mp (I.lq b hb) with e|hb
 . rw [e];exact I.free
 . obtain ⟨_,o,a,_⟩:=I.ok.eY.mem hb;exact I.ae.free b o a (I.ok.rc b hb) λz=>I.ok.lm b z hb
def aw.step {g':Array GenState} {t':Nat} {d':Drawn} {ch:List Addr} (I:aw X J B H s)
   (h: ∀b∈ch,(b∈X.ex\/X.c8.heap.objs.size<=b)/\b≠X.env.locals/\(∀x c,X.env.cells.lookup x=some c->c≠b)/\ ∀p∈X.pn++J,p.1≠b)
   (keep: ∀b o,b≠X.env.locals->b∉X.fs->b∉ch->s.heap.get? b=some o->H b=none->h'.get? b=some o)
   (slot: ∀b o,b≠X.env.locals->b∈X.fs->b∉ch->s.heap.get? b=some o->H b=none-> ∃sl,h'.get? b=some {o with slots:=sl}) (free: ∀b o,b∉ch->s.heap.get? b=some o->H b=none->g b=none)
   (there: ∀b o,b∉ch->s.heap.get? b=some o-> ∃Q,h'.get? b=some Q)
   (eW: ∀b L,H b=some (.ar L)->g b=some (.ar L)) (eC: ∀b o u,H b=some (.br o u)->g b=some (.br o u)) (eX: ∀b Y,H b=some (.rb Y)-> ∃more,g b=some (.rb (Y++more)))
   (ns: ∀m,s.heap.Ns X.env.locals m->h'.Ns X.env.locals m) (aM:dD X.prog X.w g h') (hg:pb g'):
   aw X J B g {s with heap:=h',gens:=g',drawn:=d',toks:=t'}:=by
 have U: ∀b o,X.c8.heap.get? b=some o->b≠X.env.locals:=λb o e=>cj (eV (bw e) I.ok.above)
 have E: ∀b o,X.c8.heap.get? b=some o->b∉X.ex->b∉ch:=λb o e a N=>by
   rcases (h b N).1 with z|z
   . exact a z
   . exact absurd (eV (bw e) z) (nH _)
 have w: ∀x c,X.env.cells.lookup x=some c-> ∀v,s.heap.IsCell c v->h'.IsCell c v:=λx c e v ⟨o,O,hd⟩=>by
   have y:c∉ch:=λz=>(h c z).2.2.1 x c e rfl
   by_cases hc:c∈X.fs
   . obtain ⟨sl,q⟩:=slot c o (I.se x c e) hc y O (I.cm x c e);exact ⟨_,q,hd⟩
   . exact ⟨o,keep c o (I.se x c e) hc y O (I.cm x c e),hd⟩
 refine ⟨I.ok,I.os,hg,⟨λb o e n N a=>?_,λb o e n N a=>?_,λb o e n a=>?_,λb o e a=>?_,λb L e=>eW b L (I.ae.eW b L e),λb o L e=>eC b o L (I.ae.eC b o L e),λb Y e=>?_⟩,?_,λx c e=>?_,?_,λx c e=>?_,λp hp=>?_,aM,I.len⟩
 . exact keep b o (U b o e) N (E b o e a) (I.ae.keep b o e n N a) (I.ae.free b o e n a)
 . obtain ⟨sl,e1⟩:=I.ae.slot b o e n N a;obtain ⟨Ma,e2⟩:=slot b _ (U b o e) N (E b o e a) e1 (I.ae.free b o e n a);exact ⟨Ma,e2⟩
 . obtain ⟨Q,e1⟩:=I.ae.there b o e a;exact free b Q (E b o e a) e1 (I.ae.free b o e n a)
 . obtain ⟨Q,e1⟩:=I.ae.there b o e a;exact there b Q (E b o e a) e1
 . obtain ⟨m1,e1⟩:=I.ae.eX b Y e;obtain ⟨m2,e2⟩:=eX b _ e1;exact ⟨m1++m2,by rw [e2,Array.append_assoc]⟩
 . obtain ⟨m,hn,hl⟩:=I.loc;refine ⟨m,ns m hn,λi x v e1 e2 e3=>?_⟩;obtain ⟨u,r,l⟩:=hl i x v e1 e2 e3;refine ⟨u,r,?_⟩;rcases l with l| ⟨k,c,e,z⟩
   . exact .inl l
   . exact .inr ⟨k,c,e,w x c e _ z⟩
 . obtain ⟨v,z⟩:=I.cell x c e;exact ⟨v,w x c e v z⟩
 . obtain ⟨m,⟨o,_,_,O,_⟩,_⟩:=I.loc;exact free _ o (λz=>(h _ z).2.1 rfl) O I.free
 . obtain ⟨v,o,O,hd⟩:=I.cell x c e;exact free c o (λz=>(h c z).2.2.1 x c e rfl) O (I.cm x c e)
 . obtain ⟨e,n,ne,nf,d⟩:=I.pin p hp;have y:p.1∉ch:=λz=>(h p.1 z).2.2.2 p hp rfl
   exact ⟨keep p.1 p.2 ne nf y e n,free p.1 p.2 y e n,ne,nf,d⟩
def aw.un {l:Nat} (I:aw X J B H s) (u:Un X.fs [] H g s.heap h') (aM:dD X.prog X.w g h'):aw X J B g {s with heap:=h',toks:=l}:=by
 obtain ⟨m,⟨o,w,x,i,r⟩,_⟩:=id I.loc;obtain ⟨y,p⟩:=u.any i I.free (by simp)
 exact I.step (ch:=[]) (λ_ z=>nomatch z) (λb o _ c _ e n=>u.keep b o e n c (by simp)) (λb o _ c _ e n=>u.slot b o e n c (by simp)) (λb o _ e n=>u.free b o e n (by simp)) (λb o _ e=>u.there b o e (by simp)) u.eW u.eC u.eX (λE q=>by
  obtain ⟨L,d,h,a,v⟩:=q;rw [i] at a;cases a
  exact ⟨_,d,h,p,v⟩) aM I.bare
def aw.call {v:Array GenState} {E:Nat} {L:Drawn} {w:List Addr} (I:aw X J B H s) (u:Un (mz X.stack) w H g s.heap h') (aM:dD X.prog X.w g h') (hg:pb v)
  (d: ∀b∈w,(b∈X.ex\/X.c8.heap.objs.size<=b)/\b≠X.env.locals/\(∀x c,X.env.cells.lookup x=some c->c≠b)/\ ∀p∈X.pn++J,p.1≠b):
  aw X J B g {s with heap:=h',gens:=v,drawn:=L,toks:=E}:=by
 obtain ⟨m,⟨o,U,Y,y,r⟩,_⟩:=id I.loc;obtain ⟨sl,i⟩:=u.any y I.free λz=>(d _ z).2.1 rfl
 exact I.step d (λb o i N a e n=>u.keep b o e n (λz=>(bH.mp (I.lq b z)).elim i N) a) (λb o _ _ a e n=>u.any e n a) (λb o a e n=>u.free b o e n a) (λb o a e=>u.there b o e a) u.eW u.eC u.eX (λm' O=>by
  obtain ⟨o',l,q,h,Q⟩:=O;rw [y] at h;cases h
  exact ⟨_,l,q,i,Q⟩) aM hg
def aw.turned {t':Nat} {a:Addr} (I:aw X J B H s) (k: ∀b o,b≠a->s.heap.get? b=some o->h'.get? b=some o) (l:H a=none) (i:a≠X.env.locals)
   (h1:a∈X.ex\/X.c8.heap.objs.size<=a) (h2: ∀x c,X.env.cells.lookup x=some c->c≠a) (w: ∀p∈X.pn++J,p.1≠a):aw X J B H {s with heap:=h',toks:=t'}:=by
 have h: ∀b u,H b=some u->b≠a:=λb u e z=>by rw [z,l] at e;cases e
 refine I.step (ch:=[a]) (λb y=>?_) (λb o _ _ d e _=>k b o (λz=>d (by simp [z])) e) (λb o _ _ d e _=>⟨o.slots,k b o (λz=>d (by simp [z])) e⟩) (λ_ _ _ _ n=>n)
   (λb o d e=>⟨o,k b o (λz=>d (by simp [z])) e⟩) (λ_ _ e=>e) (λ_ _ _ e=>e) (λb Q e=>⟨#[],by rw [e];simp⟩) (λm E=>?_) (λb u e=>?_) I.bare
 . have e:b=a:=by simpa using y
   subst e;exact ⟨h1,i,h2,w⟩
 . obtain ⟨o,L,N,O,r⟩:=E;exact ⟨o,L,N,k _ o (fH i) O,r⟩
 . refine (I.aM b u e).aP (λc v d q=>k c v ?_ q) (λ_ q=>q) λ_ _ q=>q
   rcases d with z|z
   . rw [z];exact h b u e
   . exact h c _ z
def aw.tok (I:aw X J B H s) (t:Nat):aw X J B H {s with toks:=t}:=I.un Un.refl I.aM
def aw.kept {t':Nat} (I:aw X J B H s) (k: ∀b u,s.heap.get? b=some u->h'.get? b=some u):aw X J B H {s with heap:=h',toks:=t'}:=I.un (Un.kept k) (I.aM.kept k)
def aw.laid {a:Addr} {o:HO} {t':Nat} (I:aw X J B H s) (k: ∀b u,s.heap.get? b=some u->h'.get? b=some u) (c:s.heap.objs.size<=a) (new:aW X.prog X.w (ay H a o) h' a o):
 aw X J B (ay H a o) {s with heap:=h',toks:=t'}:=I.un (Un.laid k c (I.aM.fresh c)) (I.aM.laid k c new)
def aw.write {x e:Addr} {o:HO} {h:Nat} (I:aw X J B H s) (c:ky (H x)) (d:e=x\/H e=some (.ag x)) (k: ∀b u,b≠e->s.heap.get? b=some u->h'.get? b=some u) (a: ∃u,h'.get? e=some u)
 (new:aW X.prog X.w (ay H x o) h' x o):aw X J B (ay H x o) {s with heap:=h',toks:=h}:=I.un (Un.write c d k a) (I.aM.write c d k a new)
def aw.lZ {a:List (Addr×Obj)} (I:aw X J B H s) (h: ∀p∈a,s.heap.get? p.1=some p.2/\H p.1=none/\p.1≠X.env.locals/\p.1∉X.fs/\ ∀v,p.2.data≠ .cell v):aw X a B H s:=
 ⟨I.ok,I.os,I.bare,I.ae,I.loc,I.cell,I.free,I.cm,λp c=>(cW.mp c).elim (λz=>I.pin p (lr _ z)) (h p),I.aM,I.len⟩
def KC {N:List Str} (c:N.Nodup) {i j:Nat} {x:Str} (a:N[i]?=some x) (b:N[j]?=some x):i=j:=by
 obtain ⟨d,e1⟩:=c7.mp a;obtain ⟨e,e2⟩:=c7.mp b;exact (List.getElem_inj c).mp (e1.trans e2.symm)
def yp {M:Model} {A:bp} {E:UO} {i:Nat} {x:Str} {v:V} {u:Value} {Q:Unit->az->Prop} (I:aw X J B H s) (hN:X.N.Nodup) (hi:X.N[i]?=some x) (L:Loc X.env.scope x) (r:aE v u)
   (h: ∀s',aw X J (B.set i (some v)) H s'->(∃a,kx a s.heap s'.heap/\(a=X.env.locals\/X.env.cells.lookup x=some a))->Q () s') (hf:T7 X x:=by first|exact .inl rfl|exact .inr rfl|assumption):wpAny M A (storeName X.env x u) Q E s:=by
 obtain ⟨m,hn,hl⟩:=id I.loc;have El:(X.env.scope.kind== .class|| (X.env.scope.kind== .module&&X.env.locals !=X.env.globals))=false:=by rw [I.ok.kind];rfl
 have O:i<B.length:=by rw [I.len];exact (c7.mp hi).1
 have se:=I.se
 have w: ∀ {a:Addr} {h':Heap},(∃o,s.heap.get? a=some o/\H a=none)->kx a s.heap h'->dD X.prog X.w H h':=λ{a h'} ha l b ob e=>by
   obtain ⟨_,_,N⟩:=ha;refine (I.aM b ob e).aP (λc w' hc q=>(l.2 c ?_).trans q) (λ_ q=>q) λ_ _ q=>q
   rintro rfl;rcases hc with rfl|hc
   . rw [N] at e;cases e
   . rw [N] at hc;cases hc
 rcases L with hk|hk
 . refine wpAny_storeName_local hk hn (λh' Mb l=>?_) El;obtain ⟨oL,_,_,Mc,_⟩:=id hn;refine h _ ⟨I.ok,I.os,I.bare,⟨λb o e n U L=>?_,λb o e n U L=>?_,I.ae.free,λb o e L=>?_,I.ae.eW,I.ae.eC,I.ae.eX⟩,⟨_,Mb,λj y v' e1 e2 e3=>?_⟩,λy c e=>?_,I.free,I.cm,λp hp=>?_,w ⟨oL,Mc,I.free⟩ l,by simpa using I.len⟩ ⟨_,l,.inl rfl⟩
   . exact (l.2 b (cj (eV (bw e) I.ok.above))).trans (I.ae.keep b o e n U L)
   . obtain ⟨sl,e1⟩:=I.ae.slot b o e n U L;exact ⟨sl,(l.2 b (cj (eV (bw e) I.ok.above))).trans e1⟩
   . obtain ⟨o',e1⟩:=I.ae.there b o e L;exact ⟨o',(l.2 b (cj (eV (bw e) I.ok.above))).trans e1⟩
   . by_cases Y:j=i
     . subst Y;rw [hi] at e1;cases e1;rw [sg O] at e2;cases e2;exact ⟨u,r,.inl ⟨hk,by simp⟩⟩
     . rw [Em (fH Y)] at e2;obtain ⟨u',r',q⟩:=hl j y v' e1 e2 e3;refine ⟨u',r',?_⟩;rcases q with ⟨k,e⟩| ⟨k,c,e,z⟩
       . refine .inl ⟨k,?_⟩;have:y≠x:=λe=>Y (KC hN e1 (e▸hi))
         simp [this,e]
       . exact .inr ⟨k,c,e,z.sameBut l (se y c e)⟩
   . obtain ⟨w',z⟩:=I.cell y c e;exact ⟨w',z.sameBut l (se y c e)⟩
   . obtain ⟨e,n,ne,nf,d⟩:=I.pin p hp;exact ⟨(l.2 p.1 ne).trans e,n,ne,nf,d⟩
 . have En:X.fn x=true:=by
     rcases hf with z|z
     . exact z
     . rw [z] at hk;cases hk
   obtain ⟨c,hc⟩:=I.ok.has x (.inl hk);obtain ⟨w',z⟩:=I.cell x c hc;refine wpAny_storeName_cell I.ok.kind hk hc z (λh' oJ l=>?_);obtain ⟨oc,G7,Eo⟩:=id z;refine h {s with heap:=h'} ⟨I.ok,I.os,I.bare,⟨λb o e n U L=>?_,λb o e n U L=>?_,I.ae.free,λb o e L=>?_,I.ae.eW,I.ae.eC,I.ae.eX⟩,⟨m,hn.sameBut l (fH (se x c hc)),λj y v' e1 e2 e3=>?_⟩,λy c' e=>?_,I.free,I.cm,λp hp=>?_,w ⟨oc,G7,I.cm x c hc⟩ l,by simpa using I.len⟩ ⟨c,l,.inr hc⟩
   . exact (l.2 b (cj (eV (bw e) (I.ok.vu x c En hc)))).trans (I.ae.keep b o e n U L)
   . obtain ⟨sl,e1⟩:=I.ae.slot b o e n U L;exact ⟨sl,(l.2 b (cj (eV (bw e) (I.ok.vu x c En hc)))).trans e1⟩
   . obtain ⟨o',e1⟩:=I.ae.there b o e L;exact ⟨o',(l.2 b (cj (eV (bw e) (I.ok.vu x c En hc)))).trans e1⟩
   . by_cases Y:j=i
     . subst Y;rw [hi] at e1;cases e1;rw [sg O] at e2;cases e2;exact ⟨u,r,.inr ⟨.inl hk,c,hc,oJ⟩⟩
     . rw [Em (fH Y)] at e2;obtain ⟨u',r',q⟩:=hl j y v' e1 e2 e3;refine ⟨u',r',?_⟩;rcases q with q| ⟨k,c',e,z'⟩
       . exact .inl q
       . refine .inr ⟨k,c',e,z'.sameBut l ?_⟩;rintro rfl;exact Y (KC hN e1 (I.ok.inj _ _ _ e hc▸hi))
   . by_cases G8:c'=c
     . subst G8;exact ⟨_,oJ⟩
     . obtain ⟨w2,z2⟩:=I.cell y c' e;exact ⟨w2,z2.sameBut l G8⟩
   . obtain ⟨e,n,ne,nf,d⟩:=I.pin p hp;refine ⟨(l.2 p.1 ?_).trans e,n,ne,nf,d⟩;intro q;rw [q,G7] at e;have q':=fU e;exact d w' (by rw [<-q'];exact Eo)
def ZD {M:Model} {A:bp} {E:UO} {i:Nat} {x:Str} {v:V} {u:Value} {Q:Unit->az->Prop} (I:aw X J B H s) (c:X.N.Nodup) (d:X.N[i]?=some x) (e:Loc X.env.scope x) (r:aE v u)
  (h: ∀a,aw X J (B.set i (some v)) H a->Q () a) (l:T7 X x:=by first|exact .inl rfl|exact .inr rfl|assumption):wpAny M A (storeName X.env x u) Q E s:=
 yp I c d e r (λa m _=>h a m) l
def aw.re {a:az} {h:List Addr} (I:aw X J B H s) (i:a.os=s.os) (u:Un (mz X.stack) h H g s.heap a.heap) (aM:dD X.prog X.w g a.heap) (hg:pb a.gens)
  (d: ∀b∈h,(b∈X.ex\/X.c8.heap.objs.size<=b)/\b≠X.env.locals/\(∀x c,X.env.cells.lookup x=some c->c≠b)/\ ∀p∈X.pn++J,p.1≠b):aw X J B g a:=by
 obtain ⟨h',l,m,n,o⟩:=a;have e:=i;subst e;exact I.call u aM hg d
end
abbrev XK:=Value->Option Addr->Hp->Prop
abbrev St:=List (Option V)
abbrev VK:=V->Hp->Prop
abbrev TE:=St->Hp->VK->Prop
abbrev TT:=St->Hp->(Bool->Hp->Prop)->Prop
abbrev TA:=St->Hp->(List V->Hp->Prop)->Prop
structure Ends where
 nx:St->Hp->Prop
 rt:VK
 bk:St->Hp->Prop:=λ_ _=>False
 ct:St->Hp->Prop:=λ_ _=>False
abbrev TS:=Ends->St->Hp->Prop
def EP (X:Cx) (a:List (Addr×Obj)) (d:St) (Q:VK) (u:Value) (e:az):Prop:= ∃v c,aw X a d c e/\aE v u/\Q v c
def TP (X:Cx) (a:List (Addr×Obj)) (d:St) (Q:Bool->Hp->Prop) (b:Bool) (e:az):Prop:= ∃c,aw X a d c e/\Q b c
def AP (X:Cx) (a:List (Addr×Obj)) (e:St) (Q:List V->Hp->Prop) (g:List Value) (h:az):Prop:= ∃c d,aw X a e d h/\aI c g/\Q c d
def SP (X:Cx) (c:List (Addr×Obj)) (D:Ends) (f:Flow) (e:az):Prop:=
 match f with
 | .next=> ∃a d,aw X c a d e/\D.nx a d
 | .brk=> ∃a d,aw X c a d e/\D.bk a d
 | .cont=> ∃a d,aw X c a d e/\D.ct a d
 | .ret u=> ∃v a d,aw X c a d e/\aE v u/\D.rt v d
def PE (X:Cx) (e:Expr) (t:TE):Prop:=
 ∀(a:List (Addr×Obj)) (s:az) (c:St) (H:Hp) (Q:VK),aw X a c H s->t c H Q->wpAny (model X.prog X.w) X.A (eval e X.env) (EP X a c Q) X.xe s
def PT (X:Cx) (e:Expr) (t:TT):Prop:=
 ∀(a:List (Addr×Obj)) (s:az) (c:St) (H:Hp) (Q:Bool->Hp->Prop),aw X a c H s->t c H Q->wpAny (model X.prog X.w) X.A (isTrue e X.env (eval e X.env)) (TP X a c Q) X.xe s
def PW (X:Cx) (e:Expr) (t:TT):Prop:=
 ∀(whole:Sem Value) (a:List (Addr×Obj)) (s:az) (c:St) (H:Hp) (Q:Bool->Hp->Prop),aw X a c H s->t c H Q->wpAny (model X.prog X.w) X.A (isTrue e X.env whole) (TP X a c Q) X.xe s
def PW.pt {X:Cx} {e:Expr} {t:TT} (h:PW X e t):PT X e t:=h _
def PA (X:Cx) (e:List Expr) (t:TA):Prop:=
 ∀(c:Pos) (a:List (Addr×Obj)) (s:az) (d:St) (H:Hp) (Q:List V->Hp->Prop),aw X a d H s->t d H Q->wpAny (model X.prog X.w) X.A (spliced (eA c (bj e X.env))) (AP X a d Q) X.xe s
def PS (X:Cx) (st:Stmt) (t:TS):Prop:=
 ∀(a:List (Addr×Obj)) (s:az) (c:St) (H:Hp) (D:Ends),aw X a c H s->t D c H->wpAny (model X.prog X.w) X.A (exec st X.env) (SP X a D) X.xe s
def fw (X:Cx) (st:List Stmt) (t:TS):Prop:=
 ∀(a:List (Addr×Obj)) (s:az) (c:St) (H:Hp) (D:Ends),aw X a c H s->t D c H->wpAny (model X.prog X.w) X.A (execs st X.env) (SP X a D) X.xe s
def a9 {c:Type} {t:Sem c} {Q d:c->az->Prop} {M:Model} {A:bp} {E:UO} {s:az} (h:wpAny M A t Q E s) (e: ∀a s,Q a s->d a s):wpAny M A t d E s:=mw h e λ_ _ x=>x
section
variable {X:Cx}
def sh (i:Nat):TE:=λa H Q=> ∃v,a[i]?=some (some v)/\Q v H
def tC (v:V):TE:=λ_ H Q=>Q v H
def qw {i:Nat} {x:Str} {Y:Pos} (q:X.N[i]?=some x) (w:dE X.env.scope x) (n:ZH x:=by decide) (o:UR x:=by decide):PE X (.Name x Y) (sh i):=by
 intro g s y H Q I h;obtain ⟨v,e,h⟩:=h;obtain ⟨m,z,B⟩:=I.loc;obtain ⟨u,r,l⟩:=B i x v q e w;have d:EP X g y Q u s:=⟨v,H,I,r,h⟩
 rcases l with ⟨hk,E⟩| ⟨hk,c,p,a⟩
 . exact wpAny_Name (wpAny_loadName_local I.ok.kind hk z E d) n
 . rcases hk with hk|hk
   . exact wpAny_Name (wpAny_loadName_cell I.ok.kind hk p a d) n
   . exact wpAny_Name (wpAny_loadName_free I.ok.kind hk p a d o) n
def Md {i j Y}:PE X (.Constant (.int i) j Y) (tC (.int i)):=λ_ _ _ H _ I h=>wpAny_Constant_int ⟨.int i,H,I.tok _,⟨_,rfl⟩,h⟩
def G9 {b j Y}:PE X (.Constant (.bool b) j Y) (tC (.bl b)):=λ_ _ _ H _ I h=>Constant_bool ⟨.bl b,H,I,rfl,h⟩
def Me {j Y}:PE X (.Constant .none j Y) (tC .aV):=λ_ _ _ H _ I h=>Constant_none ⟨.aV,H,I,rfl,h⟩
def Mg {x j Y}:PE X (.Constant (.str x) j Y) (tC (.str x)):=λ_ _ _ H _ I h=>Calls.Constant_str ⟨.str x,H,I.tok _,⟨_,rfl⟩,h⟩
def Gl (X:Cx) (x:Str):Prop:=X.env.kindOf x=some .globalImplicit
def Yr {E:UO} {a:List (Addr×Obj)} {s:az} {c:St} {H:Hp} {x:Str} {u:Value} {Y:Pos} {Q:UO} (I:aw X a c H s) (d:Gl X x) (e:X.mg x=some u) (h:Q u s)
  (g:ZH x:=by decide):wpAny (model X.prog X.w) X.A (eval (.Name x Y) X.env) Q E s:=
 Calls.Name_function_global I.ok.kind d (Calls.loadGlobal_global (by rw [I.ok.glob];exact I.mod.glob.keeps I.bk) e h) g
def yD {E:UO} {a:List (Addr×Obj)} {s:az} {c:St} {H:Hp} {x:Str} {u:Value} {Y:Pos} {Q:UO} (I:aw X a c H s) (d:Gl X x) (e:X.mg x=none) (g:iz x=some u) (h:Q u s)
  (i:x≠ "__name__" :=by decide) (l:ZH x:=by decide):wpAny (model X.prog X.w) X.A (eval (.Name x Y) X.env) Q E s:=by
 obtain ⟨o,m,n⟩:=I.mod.blt;exact Calls.Name_function_global I.ok.kind d (Calls.loadGlobal_builtin (by rw [I.ok.glob];exact I.mod.glob.keeps I.bk) e (by rw [I.ok.blt];exact m.keeps I.bk) ((n x i).trans g) h) l
def Mh {x:Str} {v:V} {u:Value} {Y:Pos} (a:Gl X x) (c:X.mg x=some u) (r:aE v u) (d:ZH x:=by decide):PE X (.Name x Y) (tC v):=
 λ_ _ _ H _ I h=>Yr I a c ⟨v,H,I,r,h⟩ d
def Mi {x:Str} {v:V} {u:Value} {Y:Pos} (a:Gl X x) (c:X.mg x=none) (d:iz x=some u) (r:aE v u) (e:x≠ "__name__" :=by decide) (g:ZH x:=by decide):PE X (.Name x Y) (tC v):=
 λ_ _ _ H _ I h=>yD I a c d ⟨v,H,I,r,h⟩ e g
variable {a b:Expr} {U N:TE} {Y:Pos}
def tB (t:TE):TT:=λd H Q=>t d H λx e=> ∃c,x= .bl c/\Q c e
def Ha {e:Expr} {t:TE} (h:PE X e t) (i: ∀whole,isTrue e X.env whole=(do let v<-whole;oK e.pos;nI [v] (truthy v)):=by intro _;rfl):PT X e (tB t):=by
 intro c s l H Q I hw;refine isTrue_plain (a9 (h c s l H _ I hw) λv r g=>?_) (i _);obtain ⟨x,m,n,o,p⟩:=g;obtain ⟨d,rfl,q⟩:=p;cases o;exact q7 ⟨m,n,q⟩
variable {tA O:TT} {rest:List Expr}
def Ep (t u:TT):TT:=λd H Q=>t d H λc e=>if c=true then u d e Q else Q false e
def Mj (t u:TT):TT:=λd H Q=>t d H λc e=>if c=true then Q true e else u d e Q
def Er (t:TT):TT:=λd H Q=>t d H λc e=>Q (!c) e
def Ml (g:PT X a tA):PW X (.BoolOp .And [a] Y) tA:=by
 intro l d s i H Q I h;refine isTrue_and (a9 (g d s i H Q I h) λc m e=>?_)
 cases c with
 |true=>exact isTrue_and_nil e
 |false=>exact e
def Mm (g:PT X a tA):PW X (.BoolOp .Or [a] Y) tA:=by
 intro l d s i H Q I h;refine isTrue_or (a9 (g d s i H Q I h) λc m e=>?_)
 cases c with
 |false=>exact isTrue_or_nil e
 |true=>exact e
def Mn (n:PT X a tA) (o:PW X (.BoolOp .And (b::rest) Y) O):PW X (.BoolOp .And (a::b::rest) Y) (Ep tA O):=by
 intro p d s g H Q I h;refine isTrue_and (a9 (n d s g H _ I h) λc q e=>?_);obtain ⟨i,l,m⟩:=e
 cases c with
 |true=>exact o p d q g i Q l m
 |false=>exact ⟨i,l,m⟩
def Mo (n:PT X a tA) (o:PW X (.BoolOp .Or (b::rest) Y) O):PW X (.BoolOp .Or (a::b::rest) Y) (Mj tA O):=by
 intro p d s g H Q I h;refine isTrue_or (a9 (n d s g H _ I h) λc q e=>?_);obtain ⟨i,l,m⟩:=e
 cases c with
 |true=>exact ⟨i,l,m⟩
 |false=>exact o p d q g i Q l m
def Hb (e:PT X a tA):PT X (.UnaryOp .Not a Y) (Er tA):=by
 intro d s g H Q I h;exact isTrue_not (e d s g H (λc i=>Q (!c) i) I h)
def Mp (U N:TE):TE:=λd H Q=>U d H λx e=> ∃c,x= .bl c/\if c=true then N d e Q else Q (.bl false) e
def Mq (U:TE):TE:=λd H Q=>U d H λx e=> ∃c,x= .bl c/\Q (.bl (!c)) e
def Mr {d} {t:TE} (h:PE X a t):PE X (.BoolOp d [a] Y) t:=λc s e H Q I hw=>BoolOp_one (h c s e H Q I hw)
def Ms (n:PE X a U) (o:PE X (.BoolOp .And (b::rest) Y) N):PE X (.BoolOp .And (a::b::rest) Y) (Mp U N):=by
 intro d s i H Q I h;refine BoolOp_and (a9 (n d s i H _ I h) λv p g=>?_);obtain ⟨x,l,m,q,e⟩:=g;obtain ⟨c,rfl,e⟩:=e;cases q;refine q7 ?_
 cases c with
 |true=>exact o d p i l Q m e
 |false=>exact ⟨.bl false,l,m,rfl,e⟩
def Mt (i:PE X a U):PE X (.UnaryOp .Not a Y) (Mq U):=by
 intro d s l H Q I h;refine UnaryOp_ (a9 (i d s l H _ I h) λv p e=>?_);obtain ⟨x,m,n,o,g⟩:=e;obtain ⟨c,rfl,g⟩:=g;cases o;exact not_of (q7 ⟨.bl (!c),m,n,rfl,g⟩)
def Mu (t:TT) (U N:TE):TE:=λd H Q=>t d H λc e=>if c=true then U d e Q else N d e Q
def Mv {c:Expr} (p:PT X c tA) (q:PE X a U) (r:PE X b N):PE X (.IfExp c a b Y) (Mu tA U N):=by
 intro e s g H Q I h;refine wpAny_IfExp (a9 (p e s g H _ I h) λd l i=>?_);obtain ⟨m,n,o⟩:=i
 cases d with
 |true=>exact q e l g m Q n o
 |false=>exact r e l g m Q n o
end
def c9 (K:aA) (H:Hp) (a:Addr) (d:List V):Prop:=
 Rd H a (.ah d)\/
  ∃(o:Obj) (c:Array Value) (n:Nat),K.lookup a=some o/\o.cls= .type "list" /\o.dict=none/\o.data= .seq c n/\c.size<=aH/\aI d c.toList
def f9 (K:aA) (H:Hp) (a:Addr) (d:List V):Prop:=
 Rd H a (.ar d)\/
  ∃(o:Obj) (c:Array Value) (n:Nat),K.lookup a=some o/\o.cls= .type "tuple" /\o.data= .seq c n/\c.size<=aH/\aI d c.toList
def Es:Value->Option V
 | .none=>some .aV
 | .bool b=>some (.bl b)
 | .int i _=>some (.int i)
 | .str x _=>some (.str x)
 | .bytes b _=>some (.ra b)
 | .float b _=>some (.r8 b)
 | .ref a=>some (.ref a)
 | .type n=>some (.ty n)
 |_=>none
def aE.abs {x:V} {u:Value} (r:aE x u):Es u=some x:=by
 cases x with
 |aV=>cases r;rfl
 |bl _=>cases r;rfl
 |int _=>obtain ⟨t,rfl⟩:=r;rfl
 |str _=>obtain ⟨t,rfl⟩:=r;rfl
 |ra _=>obtain ⟨t,rfl⟩:=r;rfl
 |r8 _=>obtain ⟨t,rfl⟩:=r;rfl
 |ref _=>cases r;rfl
 |ty _=>cases r;rfl
def aE.inj {x y:V} {u:Value} (r:aE x u) (q:aE y u):x=y:=fU (r.abs.symm.trans q.abs)
theorem aI.inj: ∀ {a c:List V} {d:List Value},aI a d->aI c d->a=c
 |_,_,_,.nil,.nil=>rfl
 |_,_,_,.cons r t,.cons e g=>by rw [r.inj e,aI.inj t g]
section
variable {X:Cx} {pins:List (Addr×Obj)} {σ:St} {H:Hp} {s:az} {a:Addr} {q ys:List V}
def c9.of {K:aA} (h:H a=some (.ah q)):c9 K H a q:= .inl (.inl h)
def f9.of {K:aA} (h:H a=some (.ar q)):f9 K H a q:= .inl (.inl h)
def aw.list (I:aw X pins σ H s) (h:c9 X.K H a q): ∃c:List Value,aI q c/\PlainL s.heap a c.toArray/\q.length<=aH:=by
 rcases h with h| ⟨o,c,n,d,g,hd,hs,hz,r⟩
 . obtain ⟨z,c,n,r,e⟩:=h.ok I.aM;exact ⟨c,r,⟨_,n,e,rfl,rfl,rfl⟩,z⟩
 . refine ⟨c.toList,r,⟨o,n,I.fV a o d,g,hd,by simpa using hs⟩,?_⟩;have e:=r.length;simp only [eq] at e;omega
def aw.tuple (I:aw X pins σ H s) (h:f9 X.K H a q): ∃c:List Value,aI q c/\IsTup s.heap a c.toArray/\q.length<=aH:=by
 rcases h with h| ⟨o,c,n,d,g,hs,hz,r⟩
 . obtain ⟨z,c,r,p⟩:=h.ok I.aM;exact ⟨c,r,p,z⟩
 . refine ⟨c.toList,r,⟨o,I.fV a o d,g,n,by simpa using hs⟩,?_⟩;have e:=r.length;simp only [eq] at e;omega
def aw.nJ (I:aw X pins σ H s) (h:c9 X.K H a q) (m:c9 X.K H a ys):q=ys:=by
 obtain ⟨g,r,⟨o,n,e,_,_,d⟩,_⟩:=I.list h;obtain ⟨c,p,⟨v,w,i,_,_,l⟩,_⟩:=I.list m;rw [e] at i;cases i;rw [d] at l;injection l with u _;have:g=c:=by simpa using congrArg Array.toList u
 subst this;exact r.inj p
def aw.mC (I:aw X pins σ H s) (h:f9 X.K H a q) (m:f9 X.K H a ys):q=ys:=by
 obtain ⟨g,r,⟨o,e,_,n,d⟩,_⟩:=I.tuple h;obtain ⟨c,p,⟨v,i,_,w,l⟩,_⟩:=I.tuple m;rw [e] at i;cases i;rw [d] at l;injection l with u _;have:g=c:=by simpa using congrArg Array.toList u
 subst this;exact r.inj p
end
abbrev Cx.gu (X:Cx) (E:UO):Cx:={X with xe:=E}
abbrev Cx.iL (X:Cx):Cx:=X.gu λ_ _=>False
def Cx.Ok.gu {X:Cx} (ok:X.Ok) (E:UO):(X.gu E).Ok:=
 ⟨ok.mod,ok.kind,ok.glob,ok.blt,ok.above,ok.inj,ok.has,ok.vu,ok.hd,ok.frames,ok.Ay,ok.r9,ok.bs,ok.oI,ok.mB,ok.lm,ok.eY,ok.rc⟩
def Cx.Ok.dq {X:Cx} {E:UO} (ok:(X.gu E).Ok):X.Ok:=
 ⟨ok.mod,ok.kind,ok.glob,ok.blt,ok.above,ok.inj,ok.has,ok.vu,ok.hd,ok.frames,ok.Ay,ok.r9,ok.bs,ok.oI,ok.mB,ok.lm,ok.eY,ok.rc⟩
section
variable {X:Cx} {pins:List (Addr×Obj)} {σ:St} {H:Hp} {s:az} {E:UO}
def aw.gu (I:aw X pins σ H s) (E:UO):aw (X.gu E) pins σ H s:=⟨I.ok.gu E,I.os,I.bare,I.ae,I.loc,I.cell,I.free,I.cm,I.pin,I.aM,I.len⟩
def aw.dq (I:aw (X.gu E) pins σ H s):aw X pins σ H s:=⟨I.ok.dq,I.os,I.bare,I.ae,I.loc,I.cell,I.free,I.cm,I.pin,I.aM,I.len⟩
def SP.dq {D:Ends} {f:Flow} {d:az} (h:SP (X.gu E) pins D f d):SP X pins D f d:=by
 cases f with
 |next=>obtain ⟨a,c,I,q⟩:=h;exact ⟨a,c,I.dq,q⟩
 |brk=>obtain ⟨a,c,I,q⟩:=h;exact ⟨a,c,I.dq,q⟩
 |cont=>obtain ⟨a,c,I,q⟩:=h;exact ⟨a,c,I.dq,q⟩
 |ret u=>obtain ⟨v,a,c,I,r,q⟩:=h;exact ⟨v,a,c,I.dq,r,q⟩
def fw.iL {st:List Stmt} {t:TS} (h:fw X.iL st t):fw X st t:=λpins s σ H D I hw=>
 mw (h pins s σ H D (I.gu _) hw) (λ_ _ q=>q.dq) λ_ _ z=>mD z
end
section
variable {X:Cx} {st:Stmt} {rest:List Stmt} {t u:TS} {e:Expr} {i:TE} {y:Pos}
def Hc:TS:=λD a H=>D.nx a H
def Et (t u:TS):TS:=λD a H=>t {D with nx:=u D} a H
def ZO:fw X [] Hc:=λ_ _ a H _ I h=>CA ⟨a,H,I,h⟩
def Kl (d:PS X st t) (g:fw X rest u):fw X (st::rest) (Et t u):=by
 intro a s l H D I h;refine wpAny_execs_cons (a9 (d a s l H {D with nx:=u D} I h) λf m q=>?_)
 cases f with
 |next=>
  obtain ⟨c,n,o,q⟩:=q;exact g a m c n D o q
 |ret v=>exact q
 |brk=>exact q
 |cont=>exact q
def yV (c:PS X st t):fw X [st] t:=by
 intro a s d H D I h;refine wpAny_execs_cons (a9 (c a s d H D I h) λf g q=>?_)
 cases f with
 |next=>exact CA q
 |ret v=>exact q
 |brk=>exact q
 |cont=>exact q
def Mw:TS:=λD a H=>D.ct a H
def Yc:PS X (.Continue y) Mw:=λ_ _ a H _ I h=>wpAny_Continue ⟨a,H,I,h⟩
def aw.quiet {a:List (Addr×Obj)} {c:St} {H:Hp} {s:az} (I:aw X a c H s):interactive X.env=false:=by simp [interactive,I.ok.kind]
def Mx (i:TE):TS:=λD a H=>i a H λ_ c=>D.nx a c
def JQ (d:PE X e i) (g:gb e none y.line X.env=pure false:=by rfl):PS X (.Expr e y) (Mx i):=by
 intro a s c H D I h;exact wpAny_Expr_any (a9 (d a s c H _ I h) λv o ⟨x,l,m,p,n⟩=>⟨c,l,m,n⟩) I.quiet g
def Az (i:TE):TS:=λD a H=>i a H D.rt
def Q4 (d:PE X e i):PS X (.Return (some e) y) (Az i):=by
 intro a s c H D I h;exact wpAny_Return_some (a9 (d a s c H _ I h) λv o ⟨x,g,l,m,n⟩=>⟨x,c,g,l,m,n⟩)
def AA (c:TT) (t u:TS):TS:=λD a H=>c a H λb d=>if b=true then t D a d else u D a d
def U3 {c:Expr} {a b:List Stmt} {n:TT} (v:PT X c n) (w:fw X a t) (x:fw X b u):PS X (.If c a b y) (AA n t u):=by
 intro g s l H D I h;refine wpAny_If (a9 (v g s l H _ I h) λd o m=>?_);obtain ⟨p,q,r⟩:=m
 cases d with
 |true=>exact w g o l p D q r
 |false=>exact x g o l p D q r
end
abbrev TG:=V->St->Hp->(St->Hp->Prop)->Prop
abbrev sj:=List V->St->Hp->(St->Hp->Prop)->Prop
def PG (X:Cx) (a:Expr) (t:TG):Prop:=
 ∀(c:List (Addr×Obj)) (s:az) (e:St) (H:Hp) (v:V) (u:Value) (Q:St->Hp->Prop),aw X c e H s->aE v u->t v e H Q->
  wpAny (model X.prog X.w) X.A (mE a X.env u) (λ_ h=> ∃d g,aw X c d g h/\Q d g) X.xe s
def CB (X:Cx) (i:List Expr) (t:sj):Prop:=
 ∀(a:List (Addr×Obj)) (s:az) (d:St) (H:Hp) (e:List V) (g:List Value) (Q:St->Hp->Prop),aw X a d H s->aI e g->t e d H Q->
  wpAny (model X.prog X.w) X.A (assignInOrder ((gS i X.env).map (·.2)) g) (λ_ l=> ∃c h,aw X a c h l/\Q c h) X.xe s
abbrev CC:=V->V->Hp->VK->Prop
def Eu (X:Cx) (d:Operator) (t:CC):Prop:=
 ∀(a:List (Addr×Obj)) (s:az) (c:St) (H:Hp) (x y:V) (v u:Value) (Q:VK),aw X a c H s->aE x v->aE y u->t x y H Q->
  wpAny (model X.prog X.w) X.A (inplaceOp d v u) (EP X a c Q) X.xe s
section
variable {X:Cx} {d:Pos}
def He (i:Nat):TG:=λv a H Q=>Q (a.set i (some v)) H
def JT {i:Nat} {x:Str} (c:X.N.Nodup) (e:X.N[i]?=some x) (g:Loc X.env.scope x) (l:T7 X x:=by first|exact .inl rfl|exact .inr rfl|assumption):PG X (.Name x d) (He i):=by
 intro a s n H v u Q I r h;exact CD (ZD I c e g r (λo m=>⟨_,H,m,h⟩) l)
def Ev:sj:=λa c H Q=>a=[]/\Q c H
def Mz (t:TG) (u:sj):sj:=λc e H Q=> ∃v r,c=v::r/\t v e H λa g=>u r a g Q
def U9:CB X [] Ev:=by
 intro a s c H g i Q I r h;obtain ⟨e,h⟩:=h;subst e;cases r;exact assignInOrder_nil ⟨c,H,I,h⟩
def JD {e:Expr} {c:List Expr} {t:TG} {u:sj} (l:PG X e t) (m:CB X c u)
  (n:(gS (e::c) X.env).map (·.2)=mE e X.env::(gS c X.env).map (·.2):=by rfl):CB X (e::c) (Mz t u):=by
 intro a s o H z B Q I r h;obtain ⟨v,E,e1,h⟩:=h;subst e1
 cases r with
 |cons r p=>
  rw [n];refine assignInOrder_cons (a9 (l a s o H _ _ _ I r h) λ_ q g=>?_);obtain ⟨i,w,x,y⟩:=g;exact m a q i w _ _ Q x p y
def Ew (K:aA) (n:Nat) (t:sj):TG:=λv e H Q=> ∃a c,v= .ref a/\f9 K H a c/\c.length=n/\t c e H Q
def Hf {g:List Expr} {k:Nat} {t:sj} {n:Nat} (m:X.bz=true) (h:CB X g t)
  (p:(gS g X.env).length=n:=by rfl) (i:(gS g X.env).findIdx? (·.1)=none:=by rfl):PG X (.Tuple g k d) (Ew X.K n t):=by
 intro c s q H v u Q I r hw;obtain ⟨a,w,e1,x,y,hw⟩:=hw;subst e1;cases r;obtain ⟨z,l,B,J⟩:=I.tuple x;refine assign_Tuple_tuple (I.ok.hd m) B (by simp [p,<-y,l.length]) i λL E=>?_
 exact h c _ q H w _ Q (I.kept (t':=s.toks) λb o e=>E b o (cj (bw e)) e) (by simpa using l) hw
def AB (c:TE) (g:TG):TS:=λD a H=>c a H λx e=>g x a e D.nx
def Hg {c e:Expr} {l:TE} {g:TG} (n:PE X e l) (o:PG X c g) (p:swapsWithSole [c] e d.line X.env=pure false:=by rfl) (hw:swappedStores [c] e X.env=pure none:=by rfl)
  (r:(gS [c] X.env).map (·.2)=[mE c X.env]:=by rfl):PS X (.Assign [c] e d) (AB l g):=by
 intro a s m H D I h;refine wpAny_Assign_stores (a9 (n a s m H _ I h) λv u i=>?_) p hw;obtain ⟨x,w,y,z,B⟩:=i;rw [r];exact a9 (o a u m w x v _ y z B) λ_ E q=>q
def W9 {i:Nat} {x:Str} {e:Expr} {l:TE} {a:Pos} (m:X.N.Nodup) (n:X.N[i]?=some x) (o:Loc X.env.scope x) (p:PE X e l) (q:gb e (some (.Name x a)) d.line X.env=pure false:=by rfl) (r:T7 X x:=by first|exact .inl rfl|exact .inr rfl|assumption):
  PS X (.Assign [.Name x a] e d) (AB l (He i)):=by
 intro c s u H D I h;refine wpAny_Assign_Name (a9 (p c s u H _ I h) λv L g=>?_) q;obtain ⟨y,w,z,B,E⟩:=g;exact ZD z m n o B (λN J=>⟨_,w,J,E⟩) r
def Ex (i:Nat) (c:TE) (e:CC):TS:=λD a H=> ∃x,a[i]?=some (some x)/\c a H λy g=>e x y g λz h=>D.nx (a.set i (some z)) h
def MA {i:Nat} {x:Str} {e:Expr} {L:TE} {B:Operator} {N:CC} {o:Pos} (U:X.N.Nodup) (O:X.N[i]?=some x) (E:Loc X.env.scope x) (Y:PE X e L) (ho:Eu X B N) (hf:T7 X x:=by first|exact .inl rfl|exact .inr rfl|assumption):
   PS X (.AugAssign (.Name x o) B e d) (Ex i L N):=by
 intro a s Q H D I h;obtain ⟨v,e1,h⟩:=h;obtain ⟨m,hn,hl⟩:=I.loc;have J:dE X.env.scope x:=by rcases E with k|k;exact .inl k;exact .inr (.inl k)
 obtain ⟨u,r,l⟩:=hl i x v O e1 J;refine wpAny_AugAssign_Name ?_
 have go:wpAny (model X.prog X.w) X.A (eval e X.env) (λw p=>wpAny (model X.prog X.w) X.A (inplaceOp B u w) (λr q=>wpAny (model X.prog X.w) X.A (storeName X.env x r) (λ_=>SP X a D .next) X.xe q) X.xe p) X.xe s:=by
   refine a9 (Y a s Q H _ I h) λw s1 g=>?_;obtain ⟨y,H1,I1,r1,q1⟩:=g
   refine a9 (ho a s1 Q H1 v y u w _ I1 r r1 q1) λz s2 g=>?_;obtain ⟨zv,H2,I2,r2,q2⟩:=g
   exact ZD I2 U O E r2 (λs3 I3=>⟨_,H2,I3,q2⟩) hf
 rcases l with ⟨hk,hm⟩| ⟨hk,c,hc,n⟩
 . exact wpAny_loadName_local I.ok.kind hk hn hm go
 . rcases hk with hk|hk
   . exact wpAny_loadName_cell I.ok.kind hk hc n go
   . rcases E with k|k
     . have:X.env.scope.names.lookup x=some .free:=hk;rw [k] at this;cases this
     . have:X.env.scope.names.lookup x=some .free:=hk;rw [k] at this;cases this
def Hh (f:Int->Int->Int):CC:=λx y H Q=> ∃i j,x= .int i/\y= .int j/\Q (.int (f i j)) H
def Hi:Eu X .Add (Hh λi j=>i+j):=by
 intro a s g H x y v u Q I c e h;obtain ⟨i,j,e1,e2,q⟩:=h;subst e1;subst e2;obtain ⟨t,rfl⟩:=c;obtain ⟨l,rfl⟩:=e;exact iadd_int ⟨.int _,H,I.tok _,⟨_,rfl⟩,q⟩
def MB (c:TT) (l:TS):TS:=λD a H=> ∃W:Nat->St->Hp->Prop,(∃m,W m a H)/\ ∀m a H,W m a H->
 c a H λb g=>if b=true then∃N:St->Hp->Prop,(∀e h,N e h-> ∃i,i<m/\W i e h)/\l {D with nx:=N,ct:=N,bk:=D.nx} a g else D.nx a g
def Km {c:Expr} {i:List Stmt} {B:TT} {E:TS} (J:rf (model X.prog X.w) X.A X.env X.xe) (hc:PT X c B) (hb:fw X i E):PS X (.While c i [] d) (MB B E):=by
 intro a s σ H D I h;obtain ⟨W,⟨m0,w0⟩,l⟩:=h;refine wpAny_While (codeAny_whileLoop (λn s'=> ∃m L,aw X a m L s'/\W n m L) ?_ m0 ⟨σ,H,I,w0⟩);rintro n s1 ⟨g,O,I1,w1⟩;refine so J (a9 (hc a s1 g O _ I1 (l n g O w1)) λb s2 r=>?_);obtain ⟨Q,U,p⟩:=r
 cases b with
 |true=>
  obtain ⟨N,Y,p⟩:=p;refine so J (a9 (hb a s2 g Q _ U p) λf s3 q=>?_)
  cases f with
  |next=>
   obtain ⟨e,o,u,w⟩:=q;obtain ⟨x,y,z⟩:=Y e o w;exact ⟨x,y,e,o,u,z⟩
  |cont=>
   obtain ⟨e,o,u,w⟩:=q;obtain ⟨x,y,z⟩:=Y e o w;exact ⟨x,y,e,o,u,z⟩
  |brk=>exact q
  |ret v=>exact q
 |false=>
  exact CA ⟨g,Q,U,p⟩
end
structure It where
 go:Nat->Hp->Prop
 CF:Nat->Hp->V->Hp->Prop
 stop:Nat->Hp->Prop
def cC (X:Cx) (a:List (Addr×Obj)) (H:Hp) (b:Addr):Prop:=
 H b=none/\b≠X.env.locals/\b∉X.fs/\(b∈X.ex\/X.c8.heap.objs.size<=b)/\(∀x c,X.env.cells.lookup x=some c->c≠b)/\ ∀p∈X.pn++a,p.1≠b
def aw.dW {X:Cx} {a:List (Addr×Obj)} {h:St} {H g:Hp} {s:az} {b:Addr} (I:aw X a h H s) (d:s.heap.objs.size<=b) (i:g b=none):cC X a g b:=by
 refine ⟨i,iM (eV I.lt d),I.Ek d,.inr (bZ I.sz d),λx c e z=>?_,λp l z=>?_⟩
 . obtain ⟨v,q⟩:=I.cell x c e;exact absurd (eV q.lt (by rw [z];exact d)) (nH _)
 . exact absurd (eV (bw (I.pin p l).1) (by rw [z];exact d)) (nH _)
structure Turn (P:bn) (w:World) (K:aA) (tg:Expr) (J:It) (fp:List Addr) (it:Addr) (tn:Nat->Heap->Prop):Prop where
 mem:it∈fp
 obj: ∀i h,tn i h-> ∀b∈fp,∃o,h.get? b=some o/\ ∀v,o.data≠ .cell v
 keep: ∀i h h',tn i h->(∀b∈fp,∀o,h.get? b=some o->h'.get? b=some o)->tn i h'
 item: ∀(X:Cx),X.prog=P->X.w=w->X.K=K->X.bz=true-> ∀(i:Nat) (pins:List (Addr×Obj)) (s:az) (σ:St) (H:Hp) (E:UO),aw X pins σ H s->(∀b∈fp,cC X pins H b)->tn i s.heap->J.go i H->
  wpAny (model P w) X.A (hJ (.ref it)) (λr s1=> ∃u,r=some u/\
   wpAny (model P w) X.A (letOwnedTupleGo tg (.ref it) u) (λ_ s2=> ∃x H',aw X pins σ H' s2/\aE x u/\J.CF i H x H'/\tn (i+1) s2.heap/\ ∀b∈fp,H' b=none) E s1) E s
 done: ∀(X:Cx),X.prog=P->X.w=w->X.K=K->X.bz=true-> ∀(i:Nat) (pins:List (Addr×Obj)) (s:az) (σ:St) (H:Hp) (E:UO),aw X pins σ H s->(∀b∈fp,cC X pins H b)->tn i s.heap->J.stop i H->
  wpAny (model P w) X.A (hJ (.ref it)) (λr s1=>r=none/\aw X pins σ H s1) E s
 self: ∀(A:bp) (i:Nat) (s:az) (Q:UO) (E:UO),tn i s.heap->Q (.ref it) s->wpAny (model P w) A (pyIter (.ref it)) Q E s
abbrev TI:=St->Hp->(It->Hp->Prop)->Prop
def Ey (X:Cx) (a:List (Addr×Obj)) (l:St) (m:Expr) (R:It->Hp->Prop) (c:Value) (e:az):Prop:=
 ∃(g:Addr) (h:List Addr) (i:Nat->Heap->Prop) (J:It) (d:Hp),c= .ref g/\aw X a l d e/\Turn X.prog X.w X.K m J h g i/\i 0 e.heap/\(∀b∈h,cC X a d b)/\R J d
def PI (X:Cx) (d iter:Expr) (e:TI):Prop:=
 ∀(a:List (Addr×Obj)) (s:az) (c:St) (H:Hp) (R:It->Hp->Prop),aw X a c H s->e c H R->
  wpAny (model X.prog X.w) X.A (eval iter X.env) (λv g=>wpAny (model X.prog X.w) X.A (pyIter v) (Ey X a c d R) X.xe g) X.xe s
def YA {M : Model} {A : bp} {E : Value -> az -> Prop} {s : az} {c : Expr} {d : Addr} {u : Value} {o : Obj} {n : String} {e : Array Value} {Q : Unit -> az -> Prop} (g : s.heap.get? d = some o) (i : o.cls = .type n) (l : o.data = .fields e)
    (m : ["enumerate", "zip", "dict_itemiterator", "dict_reverseitemiterator", "odict_iterator", "itertools.zip_longest", "itertools.pairwise"].contains n = false) (a : Q () s) : wpAny M A (letOwnedTupleGo c (.ref d) u) Q E s := by
  cases c <;> first
    | exact aC a
    | (cases u <;> first
        | exact aC a
        | (
          refine ak (wpAny_load g ?_)
          rw [i, l]
          show wpAny M A (if (["enumerate", "zip", "dict_itemiterator", "dict_reverseitemiterator", "odict_iterator", "itertools.zip_longest", "itertools.pairwise"].contains n && e[0]? == some (dF _)) = true then _ else _) Q E s
          rw [if_neg (by intro h; rw [m, Bool.false_and] at h; cases h)]
          exact aC a))
def MC (K:aA) (a:Addr):It:=
 ⟨λi H=> ∃c x,c9 K H a c/\c[i]?=some x,λi H x d=>d=H/\ ∀c,c9 K H a c->c[i]?=some x,λi H=> ∃c,c9 K H a c/\c.length<=i⟩
def MD (K:aA) (a:Addr):It:=
 ⟨λi H=> ∃c x,f9 K H a c/\c[i]?=some x,λi H x d=>d=H/\ ∀c,f9 K H a c->c[i]?=some x,λi H=> ∃c,f9 K H a c/\c.length<=i⟩
def CG (lo:Int) (n:Nat):It:=⟨λi _=>i<n,λi H x a=>a=H/\x= .int (lo+i),λi _=>n<=i⟩
def WU {P:bn} {w:World} {K:aA} {tg:Expr} (a g:Addr):Turn P w K tg (MC K a) [g] g (λi h=>h.IsListIter g a i) where
 mem:=by simp
 obj:=λi h st b l=>by
  have e:b=g:=by simpa using l
  subst e;obtain ⟨o,e,c,d⟩:=st;exact ⟨o,e,λv z=>by rw [d] at z;cases z⟩
 keep:=λi h h' st k=>st.at λo e=>k g (by simp) o e
 item:=by
  intro X y hw B hc i m s σ H E I q st J;subst y hw B;obtain ⟨xs,x,r,L⟩:=J;obtain ⟨N,O,p,hz⟩:=I.list r;obtain ⟨u,hu,ru⟩:=O.get L;obtain ⟨Q,U,f2,Y,f4,f5⟩:=q g (by simp);refine wpAny_pyNext_list_item st p.isList (by simpa using hu) λh' n sb=>?_
  obtain ⟨o,e,c,d⟩:=id n;exact ⟨u,rfl,YA e c d (by decide) ⟨x,H,(I.turned (t':=s.toks) (λb o l e=>(sb.2 b l).trans e) Q U Y f4 f5),ru,⟨rfl,λys hy=>by rw [I.nJ hy r];exact L⟩,n,λb l=>(q b l).1⟩⟩
 done:=by
  intro X y hw B hc i m s σ H E I q st J;subst y hw B;obtain ⟨xs,r,L⟩:=J;obtain ⟨N,O,p,hz⟩:=I.list r;obtain ⟨Q,U,f2,Y,f4,f5⟩:=q g (by simp);have hl:=O.length;exact wpAny_pyNext_list_end (I.ok.hd hc) st p.isList (by simp;omega) λh' eb=>⟨rfl,I.turned (λb o l e=>eb b o l e) Q U Y f4 f5⟩
 self:=λ_ _ _ _ _ st h=>wpAny_pyIter_listiter st h
def Vp {P:bn} {w:World} {K:aA} {tg:Expr} (a g:Addr):Turn P w K tg (MD K a) [g] g (λi h=>h.IsTupleIter g a i) where
 mem:=by simp
 obj:=λi h st b l=>by
  have e:b=g:=by simpa using l
  subst e;obtain ⟨o,e,c,d⟩:=st;exact ⟨o,e,λv z=>by rw [d] at z;cases z⟩
 keep:=λi h h' st k=>st.at λo e=>k g (by simp) o e
 item:=by
  intro X y hw B hc i m s σ H E I q st J;subst y hw B;obtain ⟨xs,x,r,L⟩:=J;obtain ⟨N,O,p,hz⟩:=I.tuple r;obtain ⟨u,hu,ru⟩:=O.get L;obtain ⟨Q,U,f2,Y,f4,f5⟩:=q g (by simp);refine wpAny_pyNext_tuple_item st (p) (by simpa using hu) λh' n sb=>?_
  obtain ⟨o,e,c,d⟩:=id n;exact ⟨u,rfl,YA e c d (by decide) ⟨x,H,(I.turned (t':=s.toks) (λb o l e=>(sb.2 b l).trans e) Q U Y f4 f5),ru,⟨rfl,λys hy=>by rw [I.mC hy r];exact L⟩,n,λb l=>(q b l).1⟩⟩
 done:=by
  intro X y hw B hc i m s σ H E I q st J;subst y hw B;obtain ⟨xs,r,L⟩:=J;obtain ⟨N,O,p,hz⟩:=I.tuple r;obtain ⟨Q,U,f2,Y,f4,f5⟩:=q g (by simp);have hl:=O.length;exact wpAny_pyNext_tuple_end (I.ok.hd hc) st (p) (by simp;omega) λh' eb=>⟨rfl,I.turned (λb o l e=>eb b o l e) Q U Y f4 f5⟩
 self:=λ_ _ _ _ _ st h=>wpAny_pyIter_tupleiter st h
def Vq {P:bn} {w:World} {K:aA} {N:Expr} (a:Addr) (lo:Int) (n:Nat):Turn P w K N (CG lo n) [a] a (λi h=>IsRangeIter h a (lo+(i:Nat)*1) ((n:Int)-(i:Nat)) 1) where
 mem:=by simp
 obj:=λi h st b c=>by
  have e:b=a:=by simpa using c
  subst e
  exact ⟨_,st,λv z=>by
   have O:=z
   cases O⟩
 keep:=λi h B st k=>k a (by simp) _ st
 item:=by
  intro X J hw L m i d s Q H E I l st p;subst J hw L;obtain ⟨q,r,U,u,x,y⟩:=l a (by simp);refine (Walks.range (prog:=X.prog) (w:=X.w) (I.ok.hd m) a lo 1 n).item i s _ _ p st λv B tk Y g kk=>?_
  obtain ⟨t,rfl⟩:=Y;refine ⟨_,rfl,YA g rfl rfl (by decide) ⟨.int (lo+i),H,(I.turned (λb o c e=>kk b o (by simpa using c) e) q r u x y),⟨t,?_⟩,⟨rfl,rfl⟩,g,λb c=>(l b c).1⟩⟩;rw [Int.mul_one]
 done:=by
  intro X J hw L m i d s Q H E I l st p;obtain ⟨q,r,U,u,x,y⟩:=l a (by simp);exact wpAny_pyNext_range_end (I.ok.hd m) st (by have:n<=i:=p;omega) λB eb=>⟨rfl,I.turned (λb o c e=>eb b o c e) q r u x y⟩
 self:=λ_ _ _ _ _ st h=>wpAny_pyIter_rangeiter st h
section
variable {X:Cx} {tg:Expr}
def ME {c:List (Addr×Obj)} {d:St} {H:Hp} {s:az} {R:It->Hp->Prop} {E:UO} {lo a:Int} {t u v:Tok} {tk:Nat} (I:aw X c d H s) (h: -(2^62)<=lo) (i:lo<2^62) (l: -(2^62)<=a) (m:a<2^62)
   (q:R (CG lo (a-lo).toNat) H):wpAny (model X.prog X.w) X.A (pyIter (.ref s.heap.objs.size)) (Ey X c d tg R) E {s with heap:=s.heap.push {cls:= .type "range",data:= .fields #[.int lo t,.int a u,.int 1 v]},toks:=tk}:=by
 refine wpAny_pyIter_range (IsRange.new ..) (small_one h i l m) ?_;have g:aw X c d H {s with heap:=s.heap.push {cls:= .type "range",data:= .fields #[.int lo t,.int a u,.int 1 v]},toks:=tk}:=I.kept λb o e=>bu _ e
 refine ⟨(s.heap.push {cls:= .type "range",data:= .fields #[.int lo t,.int a u,.int 1 v]}).objs.size,[(s.heap.push {cls:= .type "range",data:= .fields #[.int lo t,.int a u,.int 1 v]}).objs.size],_,_,H,rfl,
   g.kept λb o e=>bu _ e,Vq _ lo (a-lo).toNat,?_,λb n=>?_,q⟩
 . have e1:lo+((0):Int)*1=lo:=by simp
   have e2:(((a-lo).toNat:Nat):Int)-((0):Int)=Builtin.Range.rangeSize lo a 1:=by rw [rangeSize_one];split<;>omega
   show IsRangeIter _ _ (lo+((0):Int)*1) ((((a-lo).toNat:Nat):Int)-((0):Int)) 1;rw [e1,e2];exact b0 _ rfl
 . have e:b=(s.heap.push {cls:= .type "range",data:= .fields #[.int lo t,.int a u,.int 1 v]}).objs.size:=by simpa using n
   subst e;exact g.dW (aS _) (g.aM.fresh (aS _))
def MF (a:TA):TI:=λc H R=>a c H λd e=> ∃j:Int,d=[.int j]/\ -(2^62)<=j/\j<2^62/\R (CG 0 j.toNat) e
def U8 {a:Expr} {l:TA} {p c:Pos} (m:Gl X "range") (n:X.mg "range" =none) (o:PA X [a] l) (u:bj [a] X.env=[(false,eval a X.env)]:=by rfl):PI X tg (.Call (.Name "range" p) [a] [] c) (MF l):=by
 intro d s v H R I h;refine Call_ (yD I m n boot_range (sq (a9 (o c d s v H _ I h) λB E g=>?_) u rfl));obtain ⟨J,L,w,x,i⟩:=g;obtain ⟨j,e,i,y,q⟩:=i;subst e
 cases x with
 |cons r z=>
  cases z;obtain ⟨t,rfl⟩:=r;exact call_range_1 (ME w (by omega) (by omega) i y (by simpa using q))
def Ez (l:TI) (g:TG) (n:TS):TS:=λD a H=>l a H λJ o=> ∃W:Nat->Nat->St->Hp->Prop,(∃m,W 0 m a o)/\ ∀i m a H,W i m a H->
 (J.stop i H/\D.nx a H)\/(J.go i H/\ ∃N:St->Hp->Prop,(∀c d,N c d-> ∃h,h<m/\W (i+1) h c d)/\ ∀x d,J.CF i H x d->g x a d λe p=>n {D with nx:=N,ct:=N,bk:=D.nx} e p)
def Q6 (a:List Addr) (h:Heap):List (Addr×Obj):=a.filterMap λb=>(h.get? b).map λo=>(b,o)
def zP {a:List Addr} {h:Heap} {b:Addr} {o:Obj} (c:b∈a) (e:h.get? b=some o):(b,o)∈Q6 a h:=Aq.mpr ⟨b,c,by rw [e];rfl⟩
def kA {a:List Addr} {h:Heap} {p:Addr×Obj} (c:p∈Q6 a h):p.1∈a/\h.get? p.1=some p.2:=by
 obtain ⟨b,d,e⟩:=Aq.mp c
 cases q:h.get? b with
 |none=>rw [q] at e;cases e
 |some o=>
  rw [q] at e;have g:=fU e;subst g;exact ⟨d,q⟩
def aw.pinned {a:List (Addr×Obj)} {g:St} {H:Hp} {s:az} {c:List Addr} (I:aw X a g H s) (l: ∀b∈c,cC X a H b) (m: ∀b∈c,∃o,s.heap.get? b=some o/\ ∀v,o.data≠ .cell v):aw X (a++Q6 c s.heap) g H s:=
 I.lZ λp n=>(cW.mp n).elim (λz=>I.pin p (eT _ z)) λz=>by
  obtain ⟨h,e⟩:=kA z;obtain ⟨q,r,u,_⟩:=l p.1 h;obtain ⟨o,i,d⟩:=m p.1 h;rw [e] at i;cases i;exact ⟨e,q,r,u,d⟩
def aw.dr {a d:List (Addr×Obj)} {c:St} {H:Hp} {s:az} (I:aw X (a++d) c H s):aw X a c H s:=I.lZ λp e=>I.pin p (eT _ (lr _ e))
def Kn {iter:Expr} {L:List Stmt} {wi:TI} {g:TG} {tb:TS} {pos:Pos} (U:rf (model X.prog X.w) X.A X.env X.xe) (hc:X.bz=true) (hi:PI X tg iter wi) (hg:PG X tg g) (p:fw X L tb)
   (hs: ∀x,nc iter X.env x=pure x:=by intro _;rfl):PS X (.For tg iter L [] pos) (Ez wi g tb):=by
 intro a s σ H D I h;refine wpAny_For (a9 (hi a s σ H _ I h) λv s1 h1=>a9 h1 λHj s2 h2=>?_) hs;obtain ⟨it,Y,tn,J,H2,e,I2,T,pc,f2,W,⟨m0,w0⟩,turn⟩:=h2;subst e;have q: ∀ {E:Hp},(∀b∈Y,E b=none)-> ∀b∈Y,cC X a E b:=λhn b p=>⟨hn b p,(f2 b p).2⟩
 refine codeAny_forLoop_any (λn s'=> ∃i w E,aw X a w E s'/\tn i s'.heap/\(∀b∈Y,E b=none)/\W i n w E) ?_ m0 ⟨0,σ,H2,I2,pc,λb p=>(f2 b p).1,w0⟩;rintro n s3 ⟨i,y,H3,I3,Hk,Hl,w3⟩;rcases turn i n y H3 w3 with ⟨stop,qn⟩| ⟨go,N,hN,step⟩
 . refine so U (a9 (T.done X rfl rfl rfl hc i a s3 y H3 X.xe I3 (q Hl) Hk stop) λr s4 l=>?_);obtain ⟨hr,I4⟩:=l;subst hr;exact CA ⟨y,H3,I4,qn⟩
 . refine so U (a9 (T.item X rfl rfl rfl hc i a s3 y H3 X.xe I3 (q Hl) Hk go) λr s4 l=>?_);obtain ⟨u,hr,h4⟩:=l;subst hr;refine so U (a9 h4 λ_ s5 l=>?_);obtain ⟨x,H5,I5,r5,y5,Q,AC⟩:=l;refine so U (a9 (hg _ s5 y H5 x u _ (I5.pinned (q AC) (T.obj _ _ Q)) r5 (step x H5 y5)) λ_ s6 l=>?_);obtain ⟨iN,H6,I6,q6⟩:=l;refine so U (a9 (p _ s6 iN H6 _ I6 q6) λf s7 O=>?_)
   have again: ∀ {c:St} {z:Hp},aw X (a++Q6 Y s5.heap) c z s7->N c z-> ∃m,m<n/\ ∃i w E,aw X a w E s7/\tn i s7.heap/\(∀b∈Y,E b=none)/\W i m w E:=λ{c z} B n7=>by
    obtain ⟨m',hm,w7⟩:=hN c z n7;refine ⟨m',hm,i+1,c,z,B.dr,T.keep _ _ _ Q λb p o e=>(B.pin (b,o) (eT _ (eT _ (zP p e)))).1,λb p=>?_,w7⟩;obtain ⟨o,e,d⟩:=T.obj _ _ Q b p;exact (B.pin (b,o) (eT _ (eT _ (zP p e)))).2.1
   cases f with
   |next=>obtain ⟨c,z,B,n7⟩:=O;exact again B n7
   |cont=>obtain ⟨c,z,B,n7⟩:=O;exact again B n7
   |brk=>obtain ⟨c,z,B,O⟩:=O;exact ⟨c,z,B.dr,O⟩
   |ret v=>obtain ⟨x7,c,z,B,r7,O⟩:=O;exact ⟨x7,c,z,B.dr,r7,O⟩
end
abbrev R2:=V->V->Hp->VK->Prop
def dc (X:Cx) (f:Value->Value->Sem Value) (r:R2):Prop:=
 ∀(a:List (Addr×Obj)) (s:az) (c:St) (H:Hp) (x y:V) (v u:Value) (Q:VK),aw X a c H s->aE x v->aE y u->r x y H Q->
  wpAny (model X.prog X.w) X.A (f v u) (EP X a c Q) X.xe s
def EA (X:Cx) (f:Value->Sem Value) (r:V->Hp->VK->Prop):Prop:=
 ∀(a:List (Addr×Obj)) (s:az) (c:St) (H:Hp) (x:V) (v:Value) (Q:VK),aw X a c H s->aE x v->r x H Q->
  wpAny (model X.prog X.w) X.A (f v) (EP X a c Q) X.xe s
def bi (X:Cx) (f:Value) (r:List V->Hp->VK->Prop):Prop:=
 ∀(a:List (Addr×Obj)) (s:az) (c:St) (H:Hp) (d:List V) (e:List Value) (Q:VK),aw X a c H s->aI d e->r d H Q->
  wpAny (model X.prog X.w) X.A (call f e) (EP X a c Q) X.xe s
def EB (X:Cx) (r:V->Hp->(Bool->Hp->Prop)->Prop):Prop:=
 ∀(a:List (Addr×Obj)) (s:az) (c:St) (H:Hp) (x:V) (v:Value) (Q:Bool->Hp->Prop),aw X a c H s->aE x v->r x H Q->
  wpAny (model X.prog X.w) X.A (truthy v) (TP X a c Q) X.xe s
def sr (r:R2) (c d:TE):TE:=λa H Q=>c a H λx e=>d a e λy g=>r x y g Q
def MG (r:V->Hp->VK->Prop) (a:TE):TE:=λc H Q=>a c H λx d=>r x d Q
def rI (C:Int->Int->Prop) (g:Int->Int->V):R2:=λx y H Q=> ∃i j,x= .int i/\y= .int j/\C i j/\Q (g i j) H
def ng (g:Int->Int->V):R2:=λx y H Q=> ∃i j,x= .int i/\y= .int j/\Q (g i j) H
def rU (g:Int->V):V->Hp->VK->Prop:=λx H Q=> ∃i,x= .int i/\Q (g i) H
section
variable {X:Cx} {a b c:Expr} {z tb tc:TE} {pos:Pos}
def ss (p:PE X a z) (q:PE X b tb) {d:List (Addr×Obj)} {s:az} {g:St} {H:Hp} {R:V->V->Hp->Prop} (I:aw X d g H s)
  (h:z g H λx o=>tb g o λy i=>R x y i) {Q:UO} {f:Value->Value->Sem Value}
  (r: ∀v u n x y i,aw X d g i n->aE x v->aE y u->R x y i->wpAny (model X.prog X.w) X.A (f v u) Q X.xe n):
  wpAny (model X.prog X.w) X.A (eval a X.env) (λv l=>wpAny (model X.prog X.w) X.A (eval b X.env) (λu m=>wpAny (model X.prog X.w) X.A (f v u) Q X.xe m) X.xe l) X.xe s:=by
 refine a9 (p d s g H _ I h) λv w e=>?_;obtain ⟨x,o,B,E,J⟩:=e
 refine a9 (q d w g o _ B J) λu n e=>?_;obtain ⟨y,i,L,N,O⟩:=e
 exact r v u n x y i L E N O
def Hm {e:Operator} {r:R2} (g:dc X (iA e) r) (i:PE X a z) (l:PE X b tb):PE X (.BinOp a e b pos) (sr r z tb):=by
 intro d s m H Q I h;exact wpAny_BinOp (ss i l I h λv u n x y o p w B q=>g d n m o x y v u Q p w B q)
def MH {e:UnaryOp} {r:V->Hp->VK->Prop} (i:EA X (unaryOp e) r) (l:PE X a z):PE X (.UnaryOp e a pos) (MG r z):=by
 intro d s g H Q I h;exact UnaryOp_ (a9 (l d s g H _ I h) λv m ⟨x,n,o,p,q⟩=>i d m g n x v Q o p q)
def AD {f:Value->Value->Sem Value} {C:Int->Int->Prop} {g:Int->Int->Int}
  (rule: ∀(i j:Int) (t u:Tok) (s:az) (Q:UO) (E:UO),C i j->Q (.int (g i j) s.toks) {s with toks:=s.toks+1}->wpAny (model X.prog X.w) X.A (f (.int i t) (.int j u)) Q E s):
  dc X f (rI C λi j=> .int (g i j)):=by
 intro d s o H x y v u Q I e l h;obtain ⟨i,j,rfl,rfl,m,q⟩:=h;obtain ⟨t,rfl⟩:=e;obtain ⟨n,rfl⟩:=l;exact rule i j t n s _ _ m ⟨.int (g i j),H,I.tok _,⟨_,rfl⟩,q⟩
def AE {f:Value->Value->Sem Value} {g:Int->Int->Int}
  (rule: ∀(i j:Int) (t u:Tok) (s:az) (Q:UO) (E:UO),Q (.int (g i j) s.toks) {s with toks:=s.toks+1}->wpAny (model X.prog X.w) X.A (f (.int i t) (.int j u)) Q E s):
  dc X f (ng λi j=> .int (g i j)):=by
 intro d s n H x y v u Q I e l h;obtain ⟨i,j,rfl,rfl,q⟩:=h;obtain ⟨t,rfl⟩:=e;obtain ⟨m,rfl⟩:=l;exact rule i j t m s _ _ ⟨.int (g i j),H,I.tok _,⟨_,rfl⟩,q⟩
def AF {f:Value->Value->Sem Value} {g:Int->Int->Bool}
  (rule: ∀(i j:Int) (t u:Tok) (s:az) (Q:UO) (E:UO),Q (.bool (g i j)) s->wpAny (model X.prog X.w) X.A (f (.int i t) (.int j u)) Q E s):
  dc X f (ng λi j=> .bl (g i j)):=by
 intro d s n H x y v u Q I e l h;obtain ⟨i,j,rfl,rfl,q⟩:=h;obtain ⟨t,rfl⟩:=e;obtain ⟨m,rfl⟩:=l;exact rule i j t m s _ _ ⟨.bl (g i j),H,I,rfl,q⟩
def pd (i j:Int):Prop:=0<j/\j<1073741824
def AG (i j:Int):Prop:=0<=j/\j<=1000000/\i.natAbs<2^64
def su:dc X (iA .Add) (ng λi j=> .int (i+j)):=AE λ_ _ _ _ _ _ _ q=>add_int q
def Ho:dc X (iA .Sub) (ng λi j=> .int (i-j)):=AE λ_ _ _ _ _ _ _ q=>sub_int q
def ZV:dc X (iA .FloorDiv) (rI pd λi j=> .int (i/j)):=AD λi j _ _ _ _ _ d q=>by
 have e:=d.1;have g:=d.2;exact floordiv_int (by omega) (by rw [EC i (by omega)];exact q) (.inl (PyProof.noPylong_small (by omega)))
def xW:dc X (iA .Mod) (rI (λ_ j=>0<j) λi j=> .int (i%j)):=AD λi j _ _ _ _ _ d q=>by
 exact mod_int' (by omega) (by rw [Int.fmod_eq_emod_of_nonneg i (by omega)];exact q)
def Kt:dc X (iA .Pow) (rI AG λi j=> .int (i^j.toNat)):=AD λ_ _ _ _ _ _ _ d q=>pow_int_small d.1 d.2.1 d.2.2 q
def MI {f:Value->Sem Value} {g:Int->Int}
  (rule: ∀(i:Int) (t:Tok) (s:az) (Q:UO) (E:UO),Q (.int (g i) s.toks) {s with toks:=s.toks+1}->wpAny (model X.prog X.w) X.A (f (.int i t)) Q E s):
  EA X f (rU λi=> .int (g i)):=by
 intro d s l H x v Q I e h;obtain ⟨i,rfl,q⟩:=h;obtain ⟨t,rfl⟩:=e;exact rule i t s _ _ ⟨.int (g i),H,I.tok _,⟨_,rfl⟩,q⟩
def MJ:EA X (unaryOp .USub) (rU λi=> .int (-i)):=MI λ_ _ _ _ _ q=>neg_int q
end
def sv:V->V->Bool
 | .aV,.aV=>true| .aV,.int _=>true| .int _,.aV=>true| .aV,.bl _=>true| .bl _,.aV=>true| .aV,.str _=>true| .str _,.aV=>true
 | .int _,.int _=>true| .bl _,.bl _=>true| .str _,.str _=>true| .ra _,.ra _=>true
 | .int _,.str _=>true| .str _,.int _=>true| .bl _,.str _=>true| .str _,.bl _=>true
 |_,_=>false
section
variable {X:Cx} {a b c:Expr} {L l tc:TE} {n:Pos}
def MK {d:List (Addr×Obj)} {g:St} {H:Hp} {s:az} {Q:VK} {k h:Bool} (I:aw X d g H s) (q:Q (.bl k) H) (e:k=h):EP X d g Q (.bool h) s:=by
 subst e;exact ⟨.bl k,H,I,rfl,q⟩
def Hq:dc X (lj .Lt) (ng λi j=> .bl (decide (i<j))):=AF λ_ _ _ _ _ _ _ q=>lt_int q
def ED:dc X (lj .Gt) (ng λi j=> .bl (decide (j<i))):=AF λ_ _ _ _ _ _ _ q=>gt_int q
def ki:dc X (lj .Is) (λx y H Q=>y= .aV/\Q (.bl (decide (x= .aV))) H):=by
 intro d s i H x y v u Q I e g h;obtain ⟨rfl,q⟩:=h;cases g;refine is_none_gen (MK I q ?_)
 cases x<;>first
  | (cases e;rfl)
  | (obtain ⟨t,rfl⟩:=e;rfl)
def dc.or {f:Value->Value->Sem Value} {r e:R2} (h:dc X f r) (o:dc X f e):dc X f (λx y H Q=>r x y H Q\/e x y H Q):=by
 intro d s g H x y v u Q I i m q;rcases q with q|q
 . exact h d s g H x y v u Q I i m q
 . exact o d s g H x y v u Q I i m q
def kG (b:Expr) {d:CmpOp} (h:d≠ .In:=by decide) (e:d≠ .NotIn:=by decide):sw d b=false:=by
 have e1:(d==CmpOp.In)=false:=by cases d<;>first|rfl|exact absurd rfl h
 have e2:(d==CmpOp.NotIn)=false:=by cases d<;>first|rfl|exact absurd rfl e
 cases b<;>simp [sw,e1,e2]
def ML {e:CmpOp} {r:R2} (g:dc X (lj e) r) (i:PE X a L) (m:PE X b l) (o:sw e b=false):PE X (.Compare a [e] [b] n) (sr r L l):=by
 intro d s p H Q I h;exact wpAny_Compare1 (ss i m I h λv u w x y z B E J q=>g d w p z x y v u Q B E J q) o
def Hr (t:TE):TT:=λd H Q=>t d H λx e=> ∃k,x= .bl k/\Q k e
def U2 {g:CmpOp} {r:R2} (m:dc X (lj g) r) (o:PE X a L) (p:PE X b l) (q:sw g b=false):PT X (.Compare a [g] [b] n) (Hr (sr r L l)):=by
 intro d s i H Q I h
 refine wpAny_isTrue_Compare1 (a9 (o d s i H _ I h) λv w ⟨x,B,E,J,N⟩=>a9 (p d w i B _ E N) λu O ⟨y,U,Y,r2,q2⟩=>
  a9 (m d O i U x y v u _ Y J r2 q2) λc s3 ⟨z,H3,I3,r3,k,e,q3⟩=>?_) q
 subst e;cases r3;exact q7 ⟨H3,I3,q3⟩
def sx (K:aA) (x:V) (H:Hp) (k:Bool):Prop:=
 match x with
 | .aV=>k=false
 | .bl b=>k=b
 | .int i=>k=(i !=0)
 | .str y=>y.length<=aH/\k=((y.length:Int) !=0)
 | .ra y=>y.size<=aH/\k=((y.size:Int) !=0)
 | .ref p=>(∃d,c9 K H p d/\k=!d.isEmpty)\/(∃d,f9 K H p d/\k=!d.isEmpty)\/ ∃e,H p=some (.dK e)/\k=!e.isEmpty
 |_=>False
def VL {e:Type} {d:List (e×V)} {g:List (e×Value)} (r:KV d g):(!g.isEmpty)=!d.isEmpty:=by
 cases r<;>rfl
def Zh {e:List V} {d:List Value} (r:aI e d):(!d.toArray.isEmpty)=!e.isEmpty:=by
 cases r<;>simp
def Xl:(aH:Nat)<2^63:=by rw [iB];decide
def MM:EB X (λx H Q=> ∃k,sx X.K x H k/\Q k H):=by
 intro J s σ H x v Q I o h;obtain ⟨k,e,q⟩:=h;have hs:=iB
 cases x with
 |aV=>
  cases o;have d:=e;subst d;exact truthy_none ⟨H,I,q⟩
 |bl b=>
  cases o;have d:=e;subst d;exact q7 ⟨H,I,q⟩
 |int i=>
  obtain ⟨t,rfl⟩:=o;have d:=e;subst d;exact PySem.P.truthy_int ⟨H,I,q⟩
 |str y=>
  obtain ⟨t,rfl⟩:=o;obtain ⟨O,d⟩:y.length<=aH/\k=((y.length:Int) !=0):=e;subst d;exact PySem.P.truthy_str (by omega) ⟨H,I.tok _,q⟩
 |ra y=>
  obtain ⟨t,rfl⟩:=o;obtain ⟨O,d⟩:y.size<=aH/\k=((y.size:Int) !=0):=e;subst d;exact PySem.W.truthy_bytes (by omega) ⟨H,I.tok _,q⟩
 |ref p=>
  cases o;have d:=e;rcases d with ⟨U,u,d⟩| ⟨U,u,d⟩| ⟨w,u,d⟩
  . subst d;obtain ⟨z,r,B,N⟩:=I.list u;have g:=r.length;exact wpAny_truthy_list B.isList (by simp only [cn];omega) ⟨H,I.tok _,by rw [Zh r];exact q⟩
  . subst d;obtain ⟨z,r,B,N⟩:=I.tuple u;have g:=r.length;exact truthy_tuple B (by simp only [cn];omega) ⟨H,I.tok _,by rw [Zh r];exact q⟩
  . subst d;obtain ⟨N,Y,E,r,m⟩:w.length<=aH/\(p==hC)=false/\ ∃E,KV w E/\s.heap.DictOf (qF X.prog X.w) p E:=I.aM p _ u;have g:=o9 r;exact wpAny_truthy_dict Y m (by omega) ⟨H,I.tok _,by rw [VL r];exact q⟩
 |_=>exact (e).elim
def MN (i:PE X a L) (m: ∀whole,isTrue a X.env whole=(do let v<-whole;oK a.pos;nI [v] (truthy v))):
  PT X a (λe H Q=>L e H λx g=> ∃k,sx X.K x g k/\Q k g):=by
 intro d s e H Q I h;exact isTrue_plain (a9 (i d s e H _ I h) λv o ⟨x,p,q,r,u⟩=>MM d o e p x v Q q r u) (m _)
def ls:dc X (iA .Add) (λx y H Q=> ∃i j,x= .str i/\y= .str j/\i.length+j.length<=aH/\Q (.str (i++j)) H):=by
 intro d s p H x y v u Q I e g h;obtain ⟨i,j,rfl,rfl,m,q⟩:=h;obtain ⟨t,rfl⟩:=e;obtain ⟨o,rfl⟩:=g;exact add_str (λo tk=>⟨.str (i++j),H,I.tok _,⟨_,rfl⟩,q⟩) m
def x3 {x:V} {d:List Value} (r:aI [x] d): ∃u,d=[u]/\aE x u:=by
 cases r with
 |cons e g=>cases g;exact ⟨_,rfl,e⟩
def Ut {x y:V} {d:List Value} (r:aI [x,y] d): ∃u e,d=[u,e]/\aE x u/\aE y e:=by
 cases r with
 |cons g h=>
  cases h with
  |cons i m=>cases m;exact ⟨_,_,rfl,g,i⟩
def uO (m:X.bz=true):bi X (.builtin "max") (λe H Q=> ∃i j,e=[.int i,.int j]/\Q (.int (if j>i then j else i)) H):=by
 intro g s o H e p Q I r h;obtain ⟨i,j,rfl,q⟩:=h;obtain ⟨u,v,rfl,⟨t,rfl⟩,⟨w,rfl⟩⟩:=Ut r;refine max_two_ints (I.ok.hd m) λx tk k=>⟨_,H,I.kept k,?_,q⟩
 by_cases d:j>i
 . rw [if_pos d,if_pos d];exact ⟨_,rfl⟩
 . rw [if_neg d,if_neg d];exact ⟨_,rfl⟩
def uN (m:X.bz=true):bi X (.builtin "min") (λe H Q=> ∃i j,e=[.int i,.int j]/\Q (.int (if j<i then j else i)) H):=by
 intro g s o H e p Q I r h;obtain ⟨i,j,rfl,q⟩:=h;obtain ⟨u,v,rfl,⟨t,rfl⟩,⟨w,rfl⟩⟩:=Ut r;refine min_two_ints (I.ok.hd m) λx tk k=>⟨_,H,I.kept k,?_,q⟩
 by_cases d:j<i
 . rw [if_pos d,if_pos d];exact ⟨_,rfl⟩
 . rw [if_neg d,if_neg d];exact ⟨_,rfl⟩
def zr:bi X (.builtin "divmod") (λd H Q=> ∃i j,d=[.int i,.int j]/\pd i j/\ ∀p,H p=none->Q (.ref p) (ay H p (.ar [.int (i/j),.int (i%j)]))):=by
 intro g s m H d v Q I r h;obtain ⟨i,j,rfl,⟨w,x⟩,q⟩:=h;obtain ⟨u,y,rfl,⟨t,rfl⟩,⟨z,rfl⟩⟩:=Ut r;refine divmod_int (by omega) ?_ (.inl (PyProof.noPylong_small (by omega)));rw [EC i (by omega),Int.fmod_eq_emod_of_nonneg i (by omega)];refine ⟨.ref s.heap.objs.size,_,?_,rfl,q _ (I.aM.fresh (aS _))⟩;refine I.laid (λb o e=>bu _ e) (aS _) ⟨by simp only [b9,du];rw [iB];decide,[.int (i/j) s.toks,.int (i%j) (s.toks+1)],.cons ⟨_,rfl⟩ (.cons ⟨_,rfl⟩ .nil),?_⟩;exact ⟨_,b0 s.heap rfl,rfl,0,rfl⟩
end
structure iO (h:Heap) (x dx C:Addr) (mA:UQ):Prop where
 obj:h.get? x=some (pa C dx)
 ns:h.Ns1 dx mA
 ne:dx≠x
def kU {h:Heap} {dx:Addr} {d:UQ} (n:h.Ns1 dx d): ∃g,h.get? dx=some g/\ ∀name,CH name g=some (d name):=by
 obtain ⟨o,i,w,l,m,p,_,r⟩:=n;refine ⟨o,l,λname=>?_⟩;have e:=r name;unfold nsFind findBy at e;rw [<-Array.find?_toList] at e;unfold CH;rw [m];dsimp only
 split
 . rename_i y q;rw [q] at e;exact congrArg some e
 . rename_i q;rw [q] at e
   have a:i.toList.any (·.refKey)=false:=by
    rw [List.any_eq_false];intro y u;obtain ⟨z,t,c⟩:=p y (Array.mem_toList_iff.mp u);simp [DictEntry.refKey,c]
   have v: ¬i.toList.any (·.refKey)=true:=by rw [a];exact fq
   rw [if_neg v];exact congrArg some e
def iO.look {h:Heap} {x dx C:Addr} {c:UQ} (I:iO h x dx C c): ∃a,PySem.W.InstAt h x (pa C dx) C (some a)/\ ∀name,CH name a=some (c name):=
 let ⟨a,d,e⟩:=kU I.ns
 ⟨a,⟨I.obj,rfl,rfl,d⟩,e⟩
section
variable {prog:bn} {w:World} {A:bp} {E:UO} {s:az} {K:aA} {x dx C f:Addr} {mA:UQ} {name:Str} {v:Value}
def MO {a:Bool} {Q:UO} (X:K.In s.heap) (I:iO s.heap x dx C mA) (d:AH K C name=true) (e:CI K C=true)
  (g:mF K (.ref C) name=some none) (i:mA name=some v) (c:PySem.W.handedIn v=true) (h:Q v {s with toks:=s.toks+1}):
  wpAny (model prog w) A (getAttr (.ref x) name a) Q E s:=by
 obtain ⟨m,J,l⟩:=I.look;exact PySem.W.get_value X J (EE d).1 (PySem.W.findObj_own e g rfl (by rw [l,i])) c h
def MP {c:Sem Bool} {Q:Value×List Value->az->Prop} (X:K.In s.heap) (I:iO s.heap x dx C mA) (a:AH K C name=true)
  (d:mF K (.ref C) name=some (some (.ref f))) (e:CJ K (.ref f)=true) (g:mA name=none) (h:Q (.ref f,[.ref x]) s):
  wpAny (model prog w) A (sy (.ref x) name c) Q E s:=by
 obtain ⟨i,J,l⟩:=I.look;exact PySem.W.method_fn X J (EE a).1 (EE a).2 d (beq_iff_eq.mp e) (by show (CH name i).map (·.isSome)=some false;rw [l,g];rfl) h
def MQ {l:List Str} {Q:Unit->az->Prop} (X:K.In s.heap) (I:iO s.heap x dx C mA)
  (m:mF K (.ref C) "__setattr__" =some (some (.builtin "object.__setattr__"))) (n:EF K C=true) (o:EG K C name=some none) (p:CI K C=true)
  (hw:PySem.Within mA l) (q:l.length<=aH)
  (h: ∀d,iO d x dx C (λy=>if y=name then some v else mA y)->kx dx s.heap d->Q () {s with heap:=d,toks:=s.toks+2}):
  wpAny (model prog w) A (setAttr (.ref x) name v) Q E s:=by
 obtain ⟨B,J,H⟩:=I.look;refine PySem.W.set_plain X J m (PySem.W.osa_open X J n o λb=>?_);obtain ⟨L,r,e⟩:=PySem.W.any_some p;refine ak (aC (ak (ak (wpAny_loadPart (I.obj) (ak (PySem.W.Looks.here (PySem.W.looks_clsIn X r) ?_))))));rw [e];refine aC (ak (aC (ak ?_)));refine wpAny_nsSet1 I.ns λd a c=>?_
 obtain ⟨N,u,z,g,oM,i⟩:=a.count (PySem.Within.cons name v hw);refine ak (wpAny_lookBehind g (by rw [oM];exact pastItsLine_dict (bZ i (by rw [b9];omega))) ?_);exact aC (h _ ⟨(c.2 _ (fH I.ne)).trans I.obj,a,I.ne⟩ c)
def MR {R:Result->az->Prop} {a:List Value} {c:List (Str×Value)} (X:K.In s.heap) (e:AI K C=true)
  (i:mF K (.ref C) "__init__" =some (some (.ref f))) (l:PySem.W.typeIn K (.ref f)=some (.type "function"))
  (h:k4 (model prog w) (A.under (.builtin "type.__call__" ⟨.ref C::a,c⟩)) (.call (.ref f) ⟨.ref (s.heap.objs.size+1)::a,c⟩) (PySem.W.InitBack (s.heap.objs.size+1) R)
   {s with heap:=(s.heap.push rg).push (pa C s.heap.objs.size)}):
  k4 (model prog w) A (.call (.ref C) ⟨a,c⟩) R s:=by
 obtain ⟨m,g,d,t,os⟩:=s;exact PySem.W.make_core (PySem.W.makes_of X e) (PySem.W.looks_findIn X i) (λself=>PySem.W.bind_fn X self l) (.inl rfl) h
end
def dJ (f:Str) (v:V):List (Str×V)->List (Str×V)
 | []=>[(f,v)]
 | (g,x)::r=>if g=f then (g,v)::r else (g,x)::dJ f v r
theorem J6 (f g:Str) (v:V): ∀fs:List (Str×V),(dJ f v fs).lookup g=if g=f then some v else fs.lookup g
 | []=>by
  show lv g [(f,v)]=_
  by_cases h:g=f
  . have a:=beq_iff_eq.mpr h;simp only [lv,a,if_pos h]
  . have a:=beq_eq_false_iff_ne.mpr h;simp only [lv,a,if_neg h]
 | (k,x)::r=>by
  rw [show dJ f v ((k,x)::r)=(if k=f then (k,v)::r else (k,x)::dJ f v r) from rfl]
  by_cases c:k=f
  . rw [if_pos c]
    by_cases h:g=k
    . have a:=beq_iff_eq.mpr h;simp only [lv,a,if_pos (h.trans c)]
    . have a:=beq_eq_false_iff_ne.mpr h;simp only [lv,a,if_neg (λe:g=f=>h (e.trans c.symm))]
  . rw [if_neg c]
    by_cases h:g=k
    . have a:=beq_iff_eq.mpr h;simp only [lv,a,if_neg (λe:g=f=>c (h.symm.trans e))]
    . have a:=beq_eq_false_iff_ne.mpr h;simp only [lv,a];exact (J6 f g v r)
theorem J8 (f:Str) (v:V): ∀fs:List (Str×V),f∈(dJ f v fs).map (·.1)/\ ∀g,g∈fs.map (·.1)->g∈(dJ f v fs).map (·.1)
 | []=>⟨by simp [dJ],λg h=>by simp at h⟩
 | (k,x)::r=>by
  obtain ⟨c,d⟩:=J8 f v r;rw [show dJ f v ((k,x)::r)=(if k=f then (k,v)::r else (k,x)::dJ f v r) from rfl]
  by_cases a:k=f
  . rw [if_pos a];subst a;exact ⟨by simp,λg h=>by simpa using h⟩
  . rw [if_neg a];refine ⟨?_,λg h=>?_⟩
    . rw [cY];exact cv _ c
    . rw [cY] at h ⊢;rcases bH.mp h with e|e
      . exact bH.mpr (.inl e)
      . exact cv _ (d g e)
theorem J7 (f:Str) (v:V): ∀fs:List (Str×V),(dJ f v fs).length<=fs.length+1
 | []=>by simp [dJ]
 | (k,x)::r=>by
  have c:=J7 f v r;rw [show dJ f v ((k,x)::r)=(if k=f then (k,v)::r else (k,x)::dJ f v r) from rfl]
  by_cases a:k=f
  . rw [if_pos a,b9,b9];omega
  . rw [if_neg a,b9,b9];omega
def cG.some_of {v:V} {o:Option Value} (r:cG (some v) o): ∃u,o=some u/\aE v u:=by
 cases o with
 |none=>exact (r).elim
 |some u=>exact ⟨u,rfl,r⟩
def cG.none_of {o:Option Value} (r:cG none o):o=none:=by
 cases o with
 |none=>rfl
 |some u=>exact (r).elim
def vD {v:V} {u:Value} (r:aE v u):PySem.W.handedIn u=true:=by
 cases v with
 |aV=>cases (r);rfl
 |bl b=>cases (r);rfl
 |int i=>obtain ⟨t,e⟩:=(r);cases e;rfl
 |str x=>obtain ⟨t,e⟩:=(r);cases e;rfl
 |ra b=>obtain ⟨t,e⟩:=(r);cases e;rfl
 |r8 b=>obtain ⟨t,e⟩:=(r);cases e;rfl
 |ref a=>cases (r);rfl
 |ty n=>cases (r);rfl
section
variable {P:bn} {w:World} {H H':Hp} {h h':Heap} {a C dx:Addr} {fs L6:List (Str×V)}
def Yx (g:dD P w H h) (e:H a=some (.ins C dx fs)): ∃c,iO h a dx C c/\(∀f,cG (fs.lookup f) (c f))/\PySem.Within c (fs.map (·.1))/\fs.length<=1000/\H dx=some (.ag a):=by
 obtain ⟨d,z,i,ob,c,n,r,q⟩:=(g a _ e)
 exact ⟨c,⟨ob,n,i⟩,r,q,z,d⟩
end
structure hU (K:aA) (C:Addr):Prop where
 pg:AH K C Str.empty=true
 hd:CI K C=true
 po:EF K C=true
 sa:mF K (.ref C) "__setattr__" =some (some (.builtin "object.__setattr__"))
def hU.get {K:aA} {C:Addr} (c:hU K C) (f:Str):AH K C f=true:=c.pg
def dX (K:aA) (C:Addr) (f:Str):Prop:=mF K (.ref C) f=some none
def dX.AJ {K:aA} {C:Addr} {f:Str} (n:dX K C f):EG K C f=some none:=by
 unfold EG;rw [show mF K (.ref C) f=some none from n];rfl
structure Meth (K:aA) (C:Addr) (m:Str) (f:Addr):Prop where
 at_:mF K (.ref C) m=some (some (.ref f))
 fn:CJ K (.ref f)=true
 kp:iP K (.ref f)=true
section
variable {X:Cx} {pins:List (Addr×Obj)} {σ:St} {H:Hp} {s:az} {a C dx:Addr} {fs:List (Str×V)} {f:Str} {v:V} {A:bp} {E:UO}
def Vx {y:V} {u:Value} {Q:Unit->az->Prop} (I:aw X pins σ H s) (e:H a=some (.ins C dx fs)) (c:hU X.K C) (n:dX X.K C f) (hl:fs.length<1000) (w:aE y u)
   (h: ∀i,aw X pins σ (ay H a (.ins C dx (dJ f y fs))) i->Q () i):wpAny (model X.prog X.w) A (setAttr (.ref a) f u) Q E s:=by
 obtain ⟨l,O,r,m,_,p⟩:=Yx I.aM e;have x:(fs.map (·.1)).length<=aH:=by rw [bN,iB];omega
 refine MQ I.fV O c.sa c.po n.AJ c.hd m x λB d J=>h _ ?_
 have L: ∃o,B.get? dx=some o:=let ⟨o,_,_,N,_⟩:=d.ns;⟨o,N⟩
 refine I.write (by rw [e];exact l0) (.inr p) (λb q U z=>(J.2 b U).trans z) L ?_;refine ⟨by rw [jp O.ne];exact p,?_,O.ne,d.obj,_,d.ns,λg=>?_,λg Y=>?_⟩
 . have:=J7 f y fs;omega
 . show cG ((dJ f y fs).lookup g) (if g=f then some u else l g);rw [J6]
   by_cases q:g=f
   . rw [if_pos q,if_pos q];exact w
   . rw [if_neg q,if_neg q];exact r g
 . by_cases q:g=f
   . rw [q];exact (J8 f y fs).1
   . refine (J8 f y fs).2 g (m g λz=>Y ?_);show (if g=f then some u else l g)=none;rw [if_neg q];exact z
def aw.made (I:aw X pins σ H s):aw X pins σ (ay (ay H s.heap.objs.size (.ag (s.heap.objs.size+1))) (s.heap.objs.size+1) (.ins C s.heap.objs.size []))
  {s with heap:=(s.heap.push rg).push (pa C s.heap.objs.size)}:=by
 have e1:(s.heap.push rg).get? s.heap.objs.size=some rg:=b0 s.heap rfl
 have e2:((s.heap.push rg).push (pa C s.heap.objs.size)).get? (s.heap.objs.size+1)=some (pa C s.heap.objs.size):=by
  have:=b0 (s.heap.push rg) (o:=pa C s.heap.objs.size) rfl
  rwa [iQ] at this
 have c:(s.heap.push rg).Ns s.heap.objs.size (λ_=>none):=⟨rg, #[],_,e1,rfl,(λe d=>absurd d (by simp)),λ_=>rfl⟩
 refine (I.laid (o:= .ag (s.heap.objs.size+1)) (t':=s.toks) (λb u q=>bu _ q) (aS _) ⟨_,e1⟩).laid (λb u q=>bu _ q) (Nat.le_of_eq (iQ _ _)) ?_;have ne:s.heap.objs.size≠s.heap.objs.size+1:=cj (pe _);refine ⟨by rw [jp ne,jk],dR _,ne,e2,λ_=>none,(Heap.Ns1.of_empty c).at λo q=>bu _ q,λ_=>l0,λy g=>absurd rfl g⟩
def MS {c:bn} {w:World} {env:Env} {e:Expr} {f:Str} {g:Pos} {s:az} {Q:UO} (i:lx e f env (eval e env)=eval e env)
  (h:wpAny (model c w) A (eval e env) (λo d=>wpAny (model c w) A (getAttr o f true) Q E d) E s):wpAny (model c w) A (eval (.Attribute e f g) env) Q E s:=
 Attribute_any_ h (by rw [arm_eval_Attribute,i])
end
section
variable {X:Cx} {pins:List (Addr×Obj)} {σ:St} {H:Hp} {s:az} {A:bp} {E:UO} {Q:UO} {c:Value} {b:Bool}
inductive eZ (K:aA) (H:Hp):V->Value->Prop where
 |aV:eZ K H .aV (.type "NoneType")
 |bl (x:Bool):eZ K H (.bl x) (.type "bool")
 |int (i:Int):eZ K H (.int i) (.type "int")
 |str (x:Str):eZ K H (.str x) (.type "str")
 |r8 (x:UInt64):eZ K H (.r8 x) (.type "float")
 |ah {a:Addr} {xs:List V} (e:H a=some (.ah xs)):eZ K H (.ref a) (.type "list")
 |br {a:Addr} {o:Obj} {xs:List V} (e:H a=some (.br o (.ah xs))):eZ K H (.ref a) (.type "list")
 |ar {a:Addr} {xs:List V} (e:H a=some (.ar xs)):eZ K H (.ref a) (.type "tuple")
 |dK {a:Addr} {kvs:List (aT×V)} (e:H a=some (.dK kvs)):eZ K H (.ref a) (.type "dict")
 |dT {a:Addr} {kvs:List (M.NK×V)} (e:H a=some (.dT kvs)):eZ K H (.ref a) (.type "dict")
 |ins {a C dx:Addr} {fs:List (Str×V)} (e:H a=some (.ins C dx fs)) (cl:hU K C) (ha:mF K (.ref C) "__class__" =some (some (.builtin "object.__class__")))
  (hn:PySem.W.specialIn K (.builtin "object.__class__") "__get__" =some (some (.builtin "getset_descriptor.__get__"))) (htk:PySem.W.takesIn K (.builtin "object.__class__")=some true)
  (hm:PySem.W.mroIn K C (.type "object")=some true):eZ K H (.ref a) (.ref C)
def vk {x:V} {u t:Value} (I:aw X pins σ H s) (d:aE x u) (ty:eZ X.K H x t) (e:pf X.K t c=some b) (h: ∀tk,Q (.bool b) {s with toks:=tk}):
  wpAny (model X.prog X.w) A (call (.builtin "isinstance") [u,c]) Q E s:=by
 cases ty with
 |aV=>cases (d);exact nK PySem.W.kitx_none I.fV l0 e (λz=>nomatch z) h
 |bl y=>cases (d);exact nK PySem.W.kitx_bool I.fV l0 e (λz=>nomatch z) h
 |int i=>obtain ⟨t,q⟩:=(d);cases q;exact nK PySem.W.kitx_int I.fV l0 e (λz=>nomatch z) h
 |str y=>obtain ⟨t,q⟩:=(d);cases q;exact nK PySem.W.kitx_str I.fV l0 e (λz=>nomatch z) h
 |r8 y=>obtain ⟨t,q⟩:=(d);cases q;exact nK PySem.W.kitx_float I.fV l0 e (λz=>nomatch z) h
 | @ah a r g=>
  cases (d);obtain ⟨_,_,n,_,l⟩:=(I.aM a _ g)
  exact nK PySem.W.kitx_list I.fV ⟨_,l,rfl⟩ e (λz=>nomatch z) h
 | @br a ob r g=>
  cases (d);obtain ⟨_,_,_,n,_,l⟩:=(I.aM a _ g)
  exact nK PySem.W.kitx_list I.fV ⟨_,l,rfl⟩ e (λz=>nomatch z) h
 | @ar a r g=>
  cases (d);obtain ⟨_,_,_,p⟩:=(I.aM a _ g)
  obtain ⟨o,l,m,_⟩:=p;exact nK PySem.W.kitx_tuple I.fV ⟨o,l,m⟩ e (λz=>nomatch z) h
 | @dK a v g=>
  cases (d);obtain ⟨_,_,vs,_,p⟩:=(I.aM a _ g)
  obtain ⟨o,L,N,l,m,_⟩:=p;exact nK PySem.W.kitx_dict I.fV ⟨o,l,m.1⟩ e (λz=>nomatch z) h
 | @dT a v g=>
  cases (d);obtain ⟨_,_,r,_,o,L,N,l,m,_⟩:=(I.aM a _ g)
  exact nK PySem.W.kitx_dict I.fV ⟨o,l,m.1⟩ e (λz=>nomatch z) h
 | @ins a C dx fs g B U Y w hm=>
  cases (d);obtain ⟨mA,O,_⟩:=Yx I.aM g;obtain ⟨od,J,_⟩:=O.look;exact nK (PySem.W.kitx_own (B.get _) B.hd U Y w hm) I.fV J e (λz=>nomatch z) h
end
structure aL (k:Nat) (A:bp):Prop where
 hd:A.handled=none
 dp:A.depth+3*k+5<recursionLimit
 un:A.units+16*k+200<cLine
 gd:A.guards=some []
def aL.mono {j k:Nat} {A:bp} (r:aL k A) (h:j<=k):aL j A:=⟨r.hd,by have:=r.dp;omega,by have:=r.un;omega,r.gd⟩
def aL.deeper {k:Nat} {A:bp} (r:aL (k+1) A) (env:Env):aL k (A.deeper env):=
 ⟨r.hd,by have:=r.dp;show A.depth+1+3*k+5<_;omega,by have:=r.un;show A.units+3+16*k+200<_;omega,r.gd⟩
def VH {A:bp} {C:Addr} {a:List Value} {c:List (Str×Value)}:(A.under (.builtin "type.__call__" ⟨.ref C::a,c⟩)).depth=A.depth+1:=by
 first|rfl|simp [Around.under,Code.weight,Code.isCreation,Code.isGuard,Code.isCaller,Code.frames,Code.isFrame,guardIds]
def VG {A:bp} {C:Addr} {a:List Value} {c:List (Str×Value)}:(A.under (.builtin "type.__call__" ⟨.ref C::a,c⟩)).units=A.units+1:=by
 first|rfl|simp [Around.under,Code.cUnits,Code.frames,Code.isFrame]
def aL.make {k:Nat} {A:bp} (r:aL (k+1) A) (C:Addr) (a:List Value) (c:List (Str×Value)):aL k (A.under (.builtin "type.__call__" ⟨.ref C::a,c⟩)):=
 ⟨r.hd,by have:=r.dp;rw [VH];omega,by have:=r.un;rw [VG];omega,by first|exact r.gd| (show pushGuards _ A.guards=_;rw [r.gd];rfl)⟩
def aL.depth {k:Nat} {A:bp} (r:aL k A):A.depth<recursionLimit:=by have:=r.dp;omega
def aL.units {k:Nat} {A:bp} (r:aL k A):A.units+64<cLine:=by have:=r.un;omega
def AK:TA:=λ_ H Q=>Q [] H
def MT (c:TE) (d:TA):TA:=λa H Q=>c a H λx e=>d a e λg h=>Q (x::g) h
section
variable {X:Cx} {e:Expr} {es:List Expr} {te:TE} {t:TA} {pos:Pos}
def zC:PA X [] AK:=λ_ _ _ _ H Q I h=>Calls.spliced_nil ⟨[],H,I,.nil,h⟩
def qc (g:PE X e te) (i:PA X es t) (l:T9 X e es:=by rfl):PA X (e::es) (MT te t):=by
 intro pos a s d H Q I h;rw [l];refine Calls.spliced_cons (a9 (g a s d H _ I h) λu m c=>?_);obtain ⟨x,n,o,p,q⟩:=c;exact a9 (i pos a m d n _ o q) λB E ⟨r,v,w,y,z⟩=>⟨x::r,v,w,.cons p y,z⟩
def EH (t:TA):TE:=λd H Q=>t d H λa c=>a.length<=aH/\ ∀p,c p=none->Q (.ref p) (ay c p (.ar a))
def EI (t:TA):TE:=λd H Q=>t d H λa c=>a.length<=aH/\ ∀p,c p=none->Q (.ref p) (ay c p (.ah a))
def MU {g} (h:PA X es t):PE X (.Tuple es g pos) (EH t):=by
 intro a s i H Q I l;refine wpAny_Tuple_spliced (a9 (h pos a s i H _ I l) λm c ⟨n,o,d,r,z,q⟩=>⟨by rw [<-r.length];exact z,?_⟩);refine ⟨.ref c.heap.objs.size,ay o c.heap.objs.size (.ar n),d.laid (λb u e=>bu _ e) (aS _) ?_,rfl,q _ (d.aM.fresh (aS _))⟩;exact ⟨z,m,r,⟨_,b0 _ rfl,rfl,_,rfl⟩⟩
def Hs (h:PA X es t):PE X (.List es pos) (EI t):=by
 intro a s g H Q I i;refine wpAny_List_spliced (a9 (h pos a s g H _ I i) λl c ⟨m,n,d,r,z,q⟩=>⟨by rw [<-r.length];exact z,?_⟩);refine ⟨.ref c.heap.objs.size,ay n c.heap.objs.size (.ah m),d.laid (λb u e=>bu _ e) (aS _) ?_,rfl,q _ (d.aM.fresh (aS _))⟩;exact ⟨z,l,0,r,b0 _ rfl⟩
end
abbrev Sp:=List V->Hp->VK->XK->Prop
abbrev nh:=List Env->Hp->az->XK->Value->az->Prop
structure mG (P:bn) (w:World) (K:aA) (mg:UQ) (ae:Heap) (A:bp) (outer:List Env) (s:az) (H:Hp):Prop where
 frames:A.frames=some outer
 mod:Mod K mg ae
 bs: ∀b o,ae.get? b=some o->s.heap.get? b=some o/\H b=none
 oI:ae.objs.size<=s.heap.objs.size
 eY:s.heap.FunFrames ae outer
 rc: ∀b∈mz outer,H b=none
 aM:dD P w H s.heap
 bare:pb s.gens
def CE (a:List Env) (P:bn) (w:World) (H:Hp) (s:az) (Q:VK) (u:Value) (c:az):Prop:=
 ∃v d,c.os=s.os/\pb c.gens/\Un (mz a) [] H d s.heap c.heap/\dD P w d c.heap/\aE v u/\Q v d
def CR (d:nh) (a:List Env) (P:bn) (w:World) (H:Hp) (s:az) (Q:VK) (E:XK) (r:Result) (c:az):Prop:=
 match r with
 | .ok (.ret u)=>CE a P w H s Q u c
 | .ok _=>False
 | .error e=>d a H s E e c
structure bS (P:bn) (w:World) (K:aA) (mg:UQ) (ae:Heap) (CX:nh) (k:Nat) (f:Addr) (fd:l5) (ps:List Str) (sp:Sp):Prop where
 len: ∀vs H Q E,sp vs H Q E->vs.length=ps.length
 run: ∀(A:bp) (outer:List Env) (s:az) (H:Hp) (args:Args) (us:List Value) (vs:List V) (Q:VK) (E:XK),aL k A->mG P w K mg ae A outer s H->BindsTo s fd args (ps.zip us)->aI vs us->sp vs H Q E->
  k4 (model P w) A (.call (.ref f) args) (CR CX outer P w H s Q E) s
def bS.mono {P:bn} {w:World} {K:aA} {mg:UQ} {ae:Heap} {a:nh} {j k:Nat} {f:Addr} {c:l5} {d:List Str} {e:Sp} (F:bS P w K mg ae a j f c d e) (h:j<=k):
 bS P w K mg ae a k f c d e:=⟨F.len,λA outer s H args g i Q E l=>F.run A outer s H args g i Q E (l.mono h)⟩
def mG.make {P:bn} {w:World} {K:aA} {mg:UQ} {ae:Heap} {A:bp} {outer:List Env} {s:az} {H:Hp} (e:mG P w K mg ae A outer s H) (C:Addr) (a:List Value) (c:List (Str×Value)):
 mG P w K mg ae (A.under (.builtin "type.__call__" ⟨.ref C::a,c⟩)) outer s H:=⟨by first|exact e.frames| (simpa [Around.under,Code.envs,Code.isFrame,pushEnvs] using e.frames),e.mod,e.bs,e.oI,e.eY,e.rc,e.aM,e.bare⟩
section
variable {X:Cx} {pins:List (Addr×Obj)} {σ:St} {H:Hp} {s s':az}
def aw.AL (I:aw X pins σ H s):mG X.prog X.w X.K X.mg X.ae X.A X.stack s H:=
 ⟨I.ok.frames,I.ok.mod,I.bs,bZ I.ok.oI I.sz,I.stack,I.lY,I.aM,I.bare⟩
def aw.after {Q:VK} {u:Value} (I:aw X pins σ H s) (h:CE X.stack X.prog X.w H s Q u s'):EP X pins σ Q u s':=by
 obtain ⟨v,c,os,bare,un,aM,r,q⟩:=h;obtain ⟨e,g,d,t,a⟩:=s';obtain rfl:a=s.os:=os;exact ⟨v,c,I.call un aM bare (λb z=>absurd z (by simp)),r,q⟩
end
def MV (a:Sp) (gv:List V) (E:XK) (t:TA):TE:=λc H Q=>t c H λd e=>a (d++gv) e Q E
def MW (C:Addr) (c:Sp) (gv:List V) (E:XK) (t:TA):TE:=λd H Q=>t d H λe a=> ∀x dx,a x=none->a dx=none->dx≠x->
 c (.ref x::(e++gv)) (ay (ay a dx (.ag x)) x (.ins C dx [])) (λv g=>v= .aV/\Q (.ref x) g) E
def Binds (K:aA) (d:l5) (c:List Str) (ds:List Value):Prop:=
 ∀(s:az) (a:List Value),K.In s.heap->(a++ds).length=c.length->BindsTo s d ⟨a,[]⟩ (c.zip (a++ds))
def Binds.all {K:aA} {d:l5} {c:List Str} (h: ∀a:List Value,a.length=c.length->bindArgs d ⟨a,[]⟩=pure (c.zip a)):Binds K d c []:=λs a _ e=>by
 rw [f6] at e ⊢;exact .of_eq (h a e)
def yN (d:nh) (X:Cx) (E:XK):Prop:= ∀(a:List (Addr×Obj)) (g:St) (H:Hp) (s:az) (e:Value) (c:az),aw X a g H s->d X.stack H s E e c->X.xe e c
section
variable {X:Cx} {CX:nh} {k:Nat} {f C:Addr} {fd:l5} {ps:List Str} {sp:Sp} {gv:List V} {ds:List Value} {E:XK} {x m:Str} {p pos apos:Pos} {e o:Expr} {es:List Expr} {ta:TE} {t:TA}
def Ht {a:List (Addr×Obj)} {d:St} {H:Hp} {s:az} {Q:VK} {us:List Value} {vs:List V} (F:bS X.prog X.w X.K X.mg X.ae CX k f fd ps sp) (i:aL k X.A) (l:Binds X.K fd ps ds) (n:aI gv ds) (q:yN CX X E)
  (I:aw X a d H s) (r:aI vs us) (h:sp (vs++gv) H Q E):wpAny (model X.prog X.w) X.A (call (.ref f) us) (EP X a d Q) X.xe s:=by
 have g:=r.append n;have v:(us++ds).length=ps.length:=by rw [<-g.length];exact F.len _ _ _ _ h
 refine wpAny_call (vL (F.run X.A X.stack s H ⟨us,[]⟩ (us++ds) (vs++gv) Q E i I.AL (l s us I.fV v) g h) λr w c=>?_)
 cases r with
 |error e=>exact q a d H s e w I c
 |ok y=>
  cases y with
  |ret u=>exact I.after c
  |next=>exact mD c
  |brk=>exact mD c
  |cont=>exact mD c
def ZQ (F:bS X.prog X.w X.K X.mg X.ae CX k f fd ps sp) (i:aL k X.A) (l:Gl X x) (n:X.mg x=some (.ref f)) (u:iP X.K (.ref f)=true) (v:Binds X.K fd ps ds) (w:aI gv ds) (y:yN CX X E)
  (z:PA X (e::es) t) (c:ZH x:=by decide) (B:T9 X e es:=by rfl) (d:T8 X pos es:=by rfl):
  PE X (.Call (.Name x p) (e::es) [] pos) (MV sp gv E t):=by
 intro a s J H Q I h;refine AM (Yr I l n ?_ c);refine PySem.W.callWith_K I.ok.mod.Cy u (a9 (z pos a s J H _ I h) λL N ⟨O,U,g,r,q⟩=>⟨g.fV,?_⟩) B d;exact Ht F i v w y g r q
structure Mk (K:aA) (C f:Addr):Prop where
 makes:AI K C=true
 init:mF K (.ref C) "__init__" =some (some (.ref f))
 fn:CJ K (.ref f)=true
 kp:iP K (.ref C)=true
def MX {a:List (Addr×Obj)} {g:St} {H:Hp} {s:az} {Q:VK} {us:List Value} {i:List V} (M:Mk X.K C f) (F:bS X.prog X.w X.K X.mg X.ae CX k f fd ps sp) (q:aL (k+1) X.A) (w:Binds X.K fd ps ds) (y:aI gv ds)
  (z:yN CX X E) (I:aw X a g H s) (r:aI i us)
  (h: ∀x dx,H x=none->H dx=none->dx≠x->sp (.ref x::(i++gv)) (ay (ay H dx (.ag x)) x (.ins C dx [])) (λv B=>v= .aV/\Q (.ref x) B) E):
  wpAny (model X.prog X.w) X.A (call (.ref C) us) (EP X a g Q) X.xe s:=by
 have l:=h (s.heap.objs.size+1) s.heap.objs.size (I.aM.fresh (ly _)) (I.aM.fresh (aS _)) (cj (pe _));have d:=aw.made (C:=C) I;have n:aI (V.ref (s.heap.objs.size+1)::(i++gv)) (cX (s.heap.objs.size+1)::(us++ds)):= .cons rfl (r.append y)
 have J:(cX (s.heap.objs.size+1)::us++ds).length=ps.length:=by
  have e:=n.length;rw [F.len _ _ _ _ l] at e;exact e.symm
 refine wpAny_call (MR I.fV M.makes M.init (beq_iff_eq.mp M.fn) (vL (F.run _ X.stack _ _ ⟨cX (s.heap.objs.size+1)::us,[]⟩ (cX (s.heap.objs.size+1)::(us++ds)) _ _ E (q.make C us [])
  (d.AL.make C us []) (w _ (cX (s.heap.objs.size+1)::us) d.fV J) n l) λr L c=>?_))
 cases r with
 |error e=>exact z a g _ _ e L d c
 |ok N=>
  cases N with
  |ret u=>
   obtain ⟨v,O,U,Y,ev,q3⟩:=d.after c;subst ev;exact ⟨Y,⟨V.ref (s.heap.objs.size+1),O,U,rfl,q3⟩⟩
  |next=>exact mD c
  |brk=>exact mD c
  |cont=>exact mD c
def MY (M:Mk X.K C f) (F:bS X.prog X.w X.K X.mg X.ae CX k f fd ps sp) (d:aL (k+1) X.A) (g:Gl X x) (i:X.mg x=some (.ref C)) (l:Binds X.K fd ps ds) (n:aI gv ds) (q:yN CX X E)
  (a:ZH x:=by decide):PE X (.Call (.Name x p) [] [] pos) (MW C sp gv E AK):=by
 intro c s r H Q I h;refine AM (Yr I g i ?_ a);exact PySem.W.callWith_K0 I.fV M.kp (MX (us:=[]) M F d l n q I .nil h)
end
structure ax (N P:List Str) (sc:Scope):Prop where
 kind:sc.kind= .function
 co:sc.isCoroutine=false
 gen:sc.isGenerator=false
 nd:N.Nodup
 pre:N.take P.length=P
 par: ∀x∈P,sc.names.lookup x=some .local\/sc.names.lookup x=some .cell
 sB: ∀y∈sc.names,y.2≠ .free
theorem XM {kindOf:Str->Option rh} {x:Str}: ∀ {binds:List (Str×Value)} {m:UQ},(∀v,(x,v)∉binds)->bindL kindOf binds m x=m x
 | [],_,_=>rfl
 | (n,v)::r,m,h=>by
  unfold bindL;rw [XM λw hw=>h w (cv _ hw)]
  split
  . have:x≠n:=by rintro rfl;exact h v ci
    simp [this]
  . rfl
theorem XQ {kindOf:Str->Option rh} {x:Str}: ∀ {binds:List (Str×Value)} {m:UQ},(∀v,(x,v)∉binds)->bindC kindOf binds m x=m x
 | [],_,_=>rfl
 | (n,v)::r,m,h=>by
  unfold bindC;rw [XQ λw hw=>h w (cv _ hw)]
  split
  . rfl
  . have:x≠n:=by rintro rfl;exact h v ci
    simp [this]
theorem XN {kindOf:Str->Option rh} {x:Str} {v:Value}: ∀ {P:List Str} {a:List Value} {i:Nat} {m:UQ},P.Nodup->P[i]?=some x->a[i]?=some v->kindOf x=some .local->
  bindL kindOf (P.zip a) m x=some v
 | [],_,_,_,_,h,_,_=>by simp at h
 |_::_,[],_,_,_,_,h,_=>by simp at h
 |p::P,w::a,0,m,e,c,d,g=>by
  simp at c d;subst c;subst d;show bindL kindOf ((p,w)::P.zip a) m p=_;unfold bindL;rw [XM λv l=>(oF.mp e).1 (ph l).1,if_pos g];simp
 |p::P,w::a,i+1,m,e,c,d,g=>by
  unfold bindL;exact XN (oF.mp e).2 (by simpa using c) (by simpa using d) g
theorem XR {kindOf:Str->Option rh} {x:Str} {v:Value}: ∀ {P:List Str} {a:List Value} {i:Nat} {m:UQ},P.Nodup->P[i]?=some x->a[i]?=some v->kindOf x≠some .local->
  bindC kindOf (P.zip a) m x=some v
 | [],_,_,_,_,h,_,_=>by simp at h
 |_::_,[],_,_,_,_,h,_=>by simp at h
 |p::P,w::a,0,m,e,c,d,g=>by
  simp at c d;subst c;subst d;show bindC kindOf ((p,w)::P.zip a) m p=_;unfold bindC;rw [XQ λv l=>(oF.mp e).1 (ph l).1,if_neg g];simp
 |p::P,w::a,i+1,m,e,c,d,g=>by
  unfold bindC;exact XR (oF.mp e).2 (by simpa using c) (by simpa using d) g
def start (N:List Str) (a:List V):St:=a.map some++ri (N.length-a.length) none
def cO (h:nh) (P:bn) (w:World) (K:aA) (mg:UQ) (ae:Heap) (N:List Str) (c:Str) (a:Scope) (f:Addr) (g:Value) (A:bp) (outer:List Env) (s:az) (H:Hp) (E:XK):Cx where
 prog:=P
 w:=w
 K:=K
 mg:=mg
 ae:=ae
 A:=A.deeper (gm c a s.heap.objs.size f g)
 N:=N
 c8:=s
 iK:=H
 env:=gm c a s.heap.objs.size f g
 outer:=outer
 stack:=gm c a s.heap.objs.size f g::outer
 ex:=[]
 bz:=true
 fn:=λ_=>true
 pn:=[]
 xe:=λe i=>wpAny (model P w) (A.deeper (gm c a s.heap.objs.size f g)) (leaving (gm c a s.heap.objs.size f g) e) (λ_ d=>h outer H s E e d) (λl d=>h outer H s E l d) i
def Vg {a:Scope} {n:Nat} {x:Str} (h:a.names.lookup x=some .cell): ∃c,(cellsFrom n a.names []).lookup x=some c:=by
 exact Option.isSome_iff_exists.mp (PySem.W.cellsFrom_some a.names n [] (.inl h))
def vp {CX:nh} {P:bn} {w:World} {K:aA} {U:UQ} {n:Heap} {N o:List Str} {l:Str} {d:Scope} {f:Addr} {L:Value} {A:bp} {g:List Env} {s s1:az} {H:Hp} {E:XK} {Y:List Value} {B:List V}
   (S:ax N o d) (hd:A.handled=none) (e0:mG P w K U n A g s H) (hl:B.length=o.length) (r:aI B Y)
   (x:InCallC s s.heap.objs.size (bindL (gm l d s.heap.objs.size f L).kindOf (o.zip Y) λ_=>none) (cellsFrom (s.heap.objs.size+1) d.names []) (bindC (gm l d s.heap.objs.size f L).kindOf (o.zip Y) λ_=>none) s1):
   aw (cO CX P w K U n N l d f L A g s H E) [] (start N B) H s1:=by
 have AN:o.length<=N.length:=by have:=congrArg List.length S.pre;rw [mH] at this;omega
 obtain ⟨O,tk,rfl,hk⟩:=x.done;have rj: ∀b:Addr,b∉(cO CX P w K U n N l d f L A g s H E).ex:=λb z=>absurd (show b∈([]:List Addr) from z) (by simp)
 refine ⟨⟨e0.mod,S.kind,rfl,rfl,aS _,λy z c O m=>?_,λy hy=>?_,λy c _ h=>?_,λ_=>hd,Around.frames_deeper e0.frames,.inr ⟨rfl,rfl⟩,λb z=>absurd z (rj b),e0.bs,e0.oI,λb _ _=>rj b,λb z=>absurd z (rj b),e0.eY,e0.rc⟩,
   rfl,e0.bare,Un.kept hk,⟨_,x.toInCall.ns,λi y v O m h3=>?_⟩,λy c h=>⟨_,x.cell y c h⟩,e0.aM.fresh (aS _),λy c h=>?_,λp I=>absurd (show p∈([]:List (Addr×Obj)) from I) (by simp),e0.aM.kept hk,?_⟩
 . exact name_of_addr x.apart (rk O) (rk m)
 . have hy:=hy;rcases hy with hy|hy
   . exact Vg hy
   . exact absurd rfl (S.sB _ (rk hy))
 . exact sd (x.above y c (rk h))
 . have Q:i<B.length:=by
     unfold start at m
     by_cases Q:i<B.length
     . exact Q
     . rw [eD (by simpa using Q)] at m;rw [nM] at m
       split at m<;>cases m
   have ha:B[i]?=some v:=by
     unfold start at m;rw [fI (by simpa using Q),c6] at m
     cases e:B[i]? with
     |none=>rw [e] at m;cases m
     |some a=>rw [e] at m;cases m;rfl
   obtain ⟨u,hu,rv⟩:=r.get ha
   have I:o[i]?=some y:=by
     rw [<-S.pre,CK (by omega)];exact O
   have J:o.Nodup:=by rw [<-S.pre];exact S.nd.sublist (List.take_sublist _ _)
   refine ⟨u,rv,?_⟩;rcases S.par y (gt I) with k|k
   . exact .inl ⟨k,XN J I hu k⟩
   . obtain ⟨c,e⟩:=Vg k;refine .inr ⟨.inl k,c,e,?_⟩;have q:=x.cell y c e;rw [XR J I hu (by show d.names.lookup y≠_;rw [k];decide)] at q;exact q
 . exact e0.aM.fresh (sd (x.above y c (rk h)))
 . unfold start;show _=N.length;rw [de,bN,List.length_replicate];omega
def MZ {CX:nh} {P:bn} {w:World} {K:aA} {mg:UQ} {h:Heap} {k:Nat} {f:Addr} {name d:Str} {i:Arguments} {l:List Stmt} {a:Scope} {dV kV U pm g ct oc:Value} {an od:Option Addr}
  {EJ:Array (Option Value)} {N ps:List Str} {sp:Sp} (lk:K.lookup f=some ⟨oc,od,.func (oN name d i l a dV kV U pm an g ct),EJ⟩) (oO:vM K g d=true) (S:ax N ps a)
  (len: ∀m H Q E,sp m H Q E->m.length=ps.length)
  (B: ∀(A:bp) (c:List Env) (s:az) (H:Hp) (m:List V) (Q:VK) (E:XK),aL k (A.deeper (gm d a s.heap.objs.size f g))->sp m H Q E->
    ∃t,fw (cO CX P w K mg h N d a f g A c s H E) l t/\t {nx:=λ_ z=>Q .aV z,rt:=Q} (start N m) H):
  bS P w K mg h CX (k+1) f (oN name d i l a dV kV U pm an g ct) ps sp:=by
 refine ⟨len,λA c s H args us m Q E hr e0 hb r Y=>?_⟩;have KX:=e0.mod.Cy.keeps λb o e=>(e0.bs b o e).1
 have L: ∀y∈ps.zip us,a.names.lookup y.1=some .local\/(a.names.lookup y.1=some .cell/\((cellsFrom (s.heap.objs.size+1) a.names []).lookup y.1).isSome=true):=λ⟨n,v⟩ hy=>by
  rcases S.par n (ph hy).1 with q|q
  . exact .inl q
  . exact .inr ⟨q,PySem.W.cellsFrom_some _ _ _ (.inl q)⟩
 refine codeAny_call_function hr.depth (KX _ _ lk) rfl S.co S.gen rfl (PySem.W.codeRec_of KX oO) (hb _ _ _ _ ?_);refine wpAny_newFunctionEnv_cells S.kind L λenv he s1 x=>?_
 subst he;refine ⟨(e0.mod.nolimit.keeps λb o e=>(e0.bs b o e).1).keeps x.toInCall.keep,codeAny_func ?_⟩;obtain ⟨t,ht,hq⟩:=B A c s H m Q E (hr.deeper _) Y;have I:aw (cO CX P w K mg h N d a f g A c s H E) [] (start N m) H s1:=vp S hr.hd e0 (len _ _ _ _ Y) r x;refine mw (ht [] s1 (start N m) H _ I hq) (λfl s' O=>?_) λe s' O=>O
 have fin: ∀ {p:St} {z:Hp} {v:V} {u:Value},aw (cO CX P w K mg h N d a f g A c s H E) [] p z s'->aE v u->Q v z->CE c P w H s Q u s':=
  λ{p z v u} J rv q=>⟨v,z,J.os,J.bare,J.ae,J.aM,rv,q⟩
 cases fl with
 |ret u=>
  obtain ⟨v,p,z,J,rv,q⟩:=O;exact fin J rv q
 |next=>
  obtain ⟨p,z,J,q⟩:=O;exact fin (v:=V.aV) J rfl q
 |brk=>
  obtain ⟨_,_,_,q⟩:=O;exact mD q
 |cont=>
  obtain ⟨_,_,_,q⟩:=O;exact mD q
section
variable {X:Cx} {x:Str} {p pos:Pos} {e:Expr} {es:List Expr} {t:TA} {id T:String} {r:List V->Hp->VK->Prop}
def AO (r:List V->Hp->VK->Prop) (t:TA):TE:=λa H Q=>t a H λc d=>r c d Q
def yx (i:bi X (.builtin id) r) (l:Gl X x) (m:X.mg x=none) (n:iz x=some (.builtin id)) (o:PA X (e::es) t) (q:x≠ "__name__" :=by decide) (c:ZH x:=by decide)
  (u:T9 X e es:=by rfl) (d:T8 X pos es:=by rfl):PE X (.Call (.Name x p) (e::es) [] pos) (AO r t):=by
 intro a s g H Q I h;refine AM (yD I l m n ?_ q c);exact PyProof.Rows.callWith_builtin1 (a9 (o pos a s g H _ I h) λv w ⟨y,z,B,E,J⟩=>i a w g z y v Q B E J) u d
def JU (i:bi X (.type T) r) (l:Gl X x) (m:X.mg x=none) (n:iz x=some (.type T)) (o:PA X (e::es) t) (q:x≠ "__name__" :=by decide) (c:ZH x:=by decide)
  (u:T9 X e es:=by rfl) (d:T8 X pos es:=by rfl):PE X (.Call (.Name x p) (e::es) [] pos) (AO r t):=by
 intro a s g H Q I h;refine AM (yD I l m n ?_ q c);exact sq (a9 (o pos a s g H _ I h) λv w ⟨y,z,B,E,J⟩=>i a w g z y v Q B E J) u d
end
end L2
namespace HT
open PySem PyProof.Rows
section
variable {prog:bn} {w:World} {A:bp} {E:UO} {s:az}
def pk {t b:Addr} {d a:List Value} {Q:UO} (x:IsTup s.heap t d.toArray) (y:IsTup s.heap b a.toArray) (p:d≠[])
   (z:a=[]->Q (.ref t) s) (B:a≠[]->Q (.ref s.heap.objs.size) {s with heap:=s.heap.push {cls:= .type "tuple",data:= .seq (d++a).toArray}})
   (l:d.length+a.length<=aH):wpAny (model prog w) A (iA .Add (.ref t) (.ref b)) Q E s:=by
 obtain ⟨⟨cls,q,data,r⟩,i,H,n,I⟩:=id x;obtain ⟨⟨u,g,data2,h⟩,c,m,v,o⟩:=id y;subst H I m o;have e:d.toArray++a.toArray=(d++a).toArray:=by simp
 by_cases hw:a=[]
 . exact concat_meets ⟨_,i,rfl⟩ ⟨_,c,rfl⟩ noFill_tuple_add seq_tuple_add PySem.F.slot_tuple_add PySem.F.entry_tuple_add (PySem.F.args_tuple_add_2 _ _)
    (tuple_addW1 t b d.toArray a.toArray n v q g r h (by simpa using p) (by simp [hw])) ⟨i,c,z hw⟩
 . refine concat_meets ⟨_,i,rfl⟩ ⟨_,c,rfl⟩ noFill_tuple_add seq_tuple_add PySem.F.slot_tuple_add PySem.F.entry_tuple_add (PySem.F.args_tuple_add_2 _ _)
    (tuple_addW2 t b d.toArray a.toArray n v q g r h (by simpa using p) (by simpa using hw) (by rw [cn,cn];exact l)) ⟨i,c,?_⟩
   rw [e];exact B hw
def bA (n d:Nat):Option Int->Nat
 |none=>d
 |some v=>if v<0 then (v+(n:Int)).toNat else min v.toNat n
def eE (n d:Nat):bA n d none=d:=rfl
def fW (n d k:Nat):bA n d (some (k:Int))=min k n:=by
 show (if k<0 then (k+(n:Int)).toNat else min (k:Int).toNat n)=min k n;rw [if_neg (by omega),nN]
def jhb (n d:Nat) (c:d<=n) (o:Option Int):bA n d o<=n:=by
 cases o with
 |none=>exact c
 |some v=>
  show (if v<0 then (v+n).toNat else min v.toNat n)<=n
  by_cases a:v<0
  . rw [if_pos a];omega
  . rw [if_neg a];exact Nat.min_le_right _ _
def uH (v:Int) (n d:Nat):(if v<0 then max (v+(n:Int)) 0 else min v (n:Int))=((bA n d (some v):Nat):Int):=by
 show (if v<0 then max (v+n) 0 else min v n)=(((if v<0 then (v+n).toNat else min v.toNat n):Nat):Int)
 by_cases a:v<0
 . simp only [if_pos a];omega
 . simp only [if_neg a];omega
def Ui (lo a:Option Int) (n:Nat):Hu lo a 1 (n:Int)=(((bA n 0 lo:Nat):Int),((bA n n a:Nat):Int)):=by
 refine Prod.ext ?_ ?_
 . cases lo with
   |none=>rfl
   |some v=>exact uH v n 0
 . cases a with
   |none=>rfl
   |some v=>exact uH v n n
def VA (i j:Nat):CL (i:Int) (j:Int) 1=j-i:=by
 unfold CL
 split<;>omega
def QY {v:Value} {o:Option Int} {Q:Option Int->az->Prop} (p:IsPart v o) (h:Q o s):wpAny (model prog w) A (Builtin.Slice.slicePartIndex v) Q E s:=by
 cases p with
 |none=>exact slicePart_none h
 |int i t=>exact slicePart_int h
def cH {e:Addr} {g i:Value} {lo a:Option Int} {n:Nat} {Q:Int×Int×Nat->az->Prop} (l:s.heap.IsSliceOf e g i .none) (m:IsPart g lo) (o:IsPart i a)
  (h:Q (((bA n 0 lo:Nat):Int),1,bA n n a-bA n 0 lo) s):wpAny (model prog w) A (Builtin.Slice.sliceApplied (.ref e) (pure (n:Int))) Q E s:=by
 obtain ⟨os,c,p,d⟩:=id l;refine ak (ak (gx c d rfl (ak (gx c d rfl (ak (gx c d rfl (aC ?_)))))));refine ak (slicePart_none ?_);refine ak (QY m (ak (QY o (ak (aC ?_)))));show wpAny _ _ (match Hu lo a 1 n with| (lo,a)=>pure (lo,(1:Int),CL lo a 1)) _ _ s;rw [Ui lo a n];show wpAny _ _ (pure (((bA n 0 lo):Int),(1),CL ((bA n 0 lo):Int) ((bA n n a):Int) 1)) _ _ s;rw [VA];exact aC h
def M0 (a:Array Value) (i k:Nat):((fm k).filterMap λ(m:Nat)=>a[((i:Int)+(m:Int)*1).toNat]?).toArray=((a.toList.drop i).take k).toArray:=by
 have e:(λ(m:Nat)=>a[(i+(m:Int)*1).toNat]?)=λm=>a[i+m]?:=by
  funext m;have:(i+(m:Int)*1).toNat=i+m:=by omega
  rw [this]
 rw [e];have:=pick_run a i k;rw [List.filterMap_map] at this;have e2:((λx=>a[x]?) ∘ λx=>i+x)=λm=>a[i+m]?:=rfl
 rw [e2] at this;rw [this]
def eF {t m:Addr} {a:Array Value} {n o:Value} {lo d:Option Int} {Q:UO} (e:IsTup s.heap t a) (p:s.heap.IsSliceOf m n o .none) (r:IsPart n lo) (u:IsPart o d)
  (hw: ¬(bA a.size 0 lo=0/\bA a.size a.size d=a.size))
  (h:Q (.ref s.heap.objs.size) {s with heap:=s.heap.push {cls:= .type "tuple",data:= .seq ((a.toList.drop (bA a.size 0 lo)).take (bA a.size a.size d-bA a.size 0 lo)).toArray}})
  (v:a.size<=aH):wpAny (model prog w) A (oH (.ref t) (.ref m)) Q E s:=by
 have c:sizeOk (.seq ((a.toList.drop (bA a.size 0 lo)).take (bA a.size a.size d-bA a.size 0 lo)).toArray):=by
  show ((a.toList.drop (bA a.size 0 lo)).take (bA a.size a.size d-bA a.size 0 lo)).toArray.size<=aH;rw [cn,mH,v5,eq];omega
 obtain ⟨os,g,i,x⟩:=id p;unfold oH
 try with_reducible refine gl ?_
 first|refine ak (aC ?_)|skip
 refine ak (Cv e.typeIs (by decide) ?_)
 refine ak (lX e.typeIs sC
  (hH sC e.typeIs entry_tuple_getitem ?_ (args_tuple_getitem _ _)))
 show wpAny _ _ (Hv (.ref t)>>=_) _ _ s;refine ak (tupleItemsOf_ e ?_);refine ak (rl (⟨os,g,i⟩) ?_);refine ak (cH p r u ?_)
 have l: ¬((((bA a.size 0 lo):Int)==0&&(1:Int)==1&&(bA a.size a.size d-bA a.size 0 lo)==a.size)=true):=by
  intro q;rw [dj,dj] at q;have y:=eq_of_beq q.1.1;have z:=eq_of_beq q.2;exact hw ⟨by omega,by omega⟩
 show wpAny _ _ (if (((bA a.size 0 lo):Int)==0&&(1)==1&&(bA a.size a.size d-bA a.size 0 lo)==a.size)=true then _ else _) _ _ s;rw [if_neg l,M0]
 first
  |exact ak (hV (aC ⟨_,rfl,aC h⟩) c)
  |exact ak (hV (ak (aC (aC ⟨_,rfl,aC h⟩))) c)
  |exact ak (ak (hV (aC (aC ⟨_,rfl,aC h⟩)) c))
  |exact ak (ak (hV (aC ⟨_,rfl,aC h⟩) c))
end
end HT
namespace L2
open PySem PySem.Spec PyProof.Rows
abbrev TO:=St->Hp->(Option Int->Hp->Prop)->Prop
def PO (X:Cx) (e:Option Expr) (t:TO):Prop:=
 ∀(a:List (Addr×Obj)) (s:az) (c:St) (H:Hp) (Q:Option Int->Hp->Prop),aw X a c H s->t c H Q->
  wpAny (model X.prog X.w) X.A (evalPart e X.env) (λu g=> ∃o d,aw X a c d g/\IsPart u o/\Q o d) X.xe s
def M3:TO:=λ_ H Q=>Q none H
def M4 (t:TE):TO:=λa H Q=>t a H λx c=> ∃i,x= .int i/\Q (some i) c
section
variable {X:Cx} {e:Expr} {n:TE} {lo B:Option Expr} {m g:TO} {pos c:Pos}
def M5:PO X none M3:=by
 intro a s d H Q I h;exact aC ⟨none,H,I,.none,h⟩
def M6 (h:PE X e n):PO X (some e) (M4 n):=by
 intro a s l H Q I hw;refine a9 (h a s l H _ I hw) λu w d=>?_;obtain ⟨x,o,p,r,v⟩:=d
 obtain ⟨i,rfl,q⟩:=v;obtain ⟨t,rfl⟩:=r;exact ⟨some i,o,p,.int i t,q⟩
def pv (X:Cx) (r:V->Option Int->Option Int->Hp->VK->Prop):Prop:=
 ∀(a:List (Addr×Obj)) (s:az) (d:St) (H:Hp) (x:V) (v h i:Value) (lo B:Option Int) (l:Addr) (Q:VK),aw X a d H s->aE x v->s.heap.IsSliceOf l h i .none->IsPart h lo->IsPart i B->r x lo B H Q->
  ∃T id,typeLookup (.type T) "__getitem__" =pure (some (.builtin id))/\s.TypeIs v T/\wpAny (model X.prog X.w) X.A (oH v (.ref l)) (EP X a d Q) X.xe s
def pv.or {r d:V->Option Int->Option Int->Hp->VK->Prop} (h:pv X r) (z:pv X d):pv X (λx lo B H Q=>r x lo B H Q\/d x lo B H Q):=by
 intro a s i H x v l o lo B p Q I u hs w y q;rcases q with q|q
 . exact h a s i H x v l o lo B p Q I u hs w y q
 . exact z a s i H x v l o lo B p Q I u hs w y q
def M7 (r:V->Option Int->Option Int->Hp->VK->Prop) (n:TE) (m g:TO):TE:=λa H Q=>n a H λx d=>m a d λl h=>g a h λu i=>r x l u i Q
def Kp {r:V->Option Int->Option Int->Hp->VK->Prop} (z:pv X r) (E:PE X e n) (J:PO X lo m) (L:PO X B g):PE X (.Subscript e (.Slice lo B none c) pos) (M7 r n m g):=by
 intro a s i H Q I h;refine Subscript_ (a9 (E a s i H _ I h) λv N d=>?_);obtain ⟨x,O,U,Y,q1⟩:=d;refine wpAny_Slice (a9 (J a N i O _ U q1) λp s2 ⟨l,H2,I2,pl,q2⟩=>a9 (L a s2 i H2 _ I2 q2) λw o d=>?_);obtain ⟨u,y,I3,pu,q3⟩:=d;refine aC ?_;have I4:aw X a i y {o with heap:=o.heap.push {cls:= .type "slice",data:= .fields #[p,w,.none]}}:=I3.kept λb ob q=>bu _ q
 obtain ⟨T,id,hT,ht,hg⟩:=z a {o with heap:=o.heap.push {cls:= .type "slice",data:= .fields #[p,w,.none]}} i y x v p w l u o.heap.objs.size Q I4 Y (Heap.IsSliceOf.new ..) pl pu q3;exact tail_any ht hT hg (by with_unfolding_all rfl)
def mI (a:List V) (lo B:Option Int):List V:=(a.drop (HT.bA a.length 0 lo)).take (HT.bA a.length a.length B-HT.bA a.length 0 lo)
def Qx (a:List V) (lo B:Option Int):(mI a lo B).length<=a.length:=by
 unfold mI;rw [mH,v5];omega
def AQ (K:aA):V->Option Int->Option Int->Hp->VK->Prop:=λx lo B H Q=> ∃a d,x= .ref a/\f9 K H a d/\
 ¬(HT.bA d.length 0 lo=0/\HT.bA d.length d.length B=d.length)/\ ∀p,H p=none->Q (.ref p) (ay H p (.ar (mI d lo B)))
def sD:pv X (AQ X.K):=by
 intro o s L H x v N O lo B U Q I w y z E h;obtain ⟨a,i,rfl,J,hw,q⟩:=h;cases w;obtain ⟨l,r,p,u⟩:=I.tuple J;have d:l.toArray.size=i.length:=by rw [cn];exact r.length.symm
 refine ⟨"tuple",_,sC.lookup,p.typeIs,?_⟩;refine HT.eF p y z E (by rw [d];exact hw) ?_ (by rw [d];exact u);rw [d];refine ⟨.ref s.heap.objs.size,_,I.laid (λb ob q=>bu _ q) (aS _) ?_,rfl,q _ (I.aM.fresh (aS _))⟩;exact ⟨bZ (Qx i lo B) u,_,(r.drop (HT.bA i.length 0 lo)).take (HT.bA i.length i.length B-HT.bA i.length 0 lo),IsTup.new _ _⟩
def EK (K:aA):R2:=λx y H Q=> ∃a b h d,x= .ref a/\y= .ref b/\f9 K H a h/\f9 K H b d/\h≠[]/\h.length+d.length<=aH/\
 (d=[]->Q (.ref a) H)/\(d≠[]-> ∀p,H p=none->Q (.ref p) (ay H p (.ar (h++d))))
def aI.hX {a:List V} {d:List Value} (r:aI a d):d=[]↔a=[]:=by
 cases r with
 |nil=>simp
 |cons _ _=>simp
def M8:dc X (iA .Add) (EK X.K):=by
 intro l s σ H x y v u Q I r E h;obtain ⟨a,b,xs,ys,rfl,rfl,J,L,N,o,O,U⟩:=h;cases r;cases E;obtain ⟨Y,i,p1,_⟩:=I.tuple J;obtain ⟨p,d,c,_⟩:=I.tuple L;refine HT.pk p1 c (λz=>N (i.hX.mp z)) (λz=>⟨.ref a,H,I,rfl,O (d.hX.mp z)⟩) (λz=>?_) (by rw [<-i.length,<-d.length];exact o);refine ⟨.ref s.heap.objs.size,_,I.laid (λb ob q=>bu _ q) (aS _) ?_,rfl,U (λw=>z (d.hX.mpr w)) _ (I.aM.fresh (aS _))⟩;exact ⟨by rw [de];exact o,_,i.append d,IsTup.new _ _⟩
end
def rm (n:Nat) (i:Int):Option Nat:=if 0<=i then (if i<n then some i.toNat else none) else if-(n:Int)<=i then some (i+n).toNat else none
def gy {a:Type} (c:List a) (i:Int):Option a:=(rm c.length i).bind λj=>c[j]?
def M9 {n:Nat} {i:Int} {j:Nat} (h:rm n i=some j):seqIndex? i n=some j/\j<n/\ -(n:Int)<=i/\i<n:=by
 unfold rm at h
 by_cases c:0<=i
 . rw [if_pos c] at h
   by_cases a:i<n
   . rw [if_pos a] at h;have e:=fU h;exact ⟨by rw [seqIndex_of c a,e],by omega,by omega,a⟩
   . rw [if_neg a] at h;cases h
 . rw [if_neg c] at h
   by_cases a: -(n)<=i
   . rw [if_pos a] at h;have e:=fU h;exact ⟨by rw [seqIndex_neg (by omega) a,e],by omega,a,by omega⟩
   . rw [if_neg a] at h;cases h
def YW {c:Type} {a:List c} {i:Int} {v:c} (h:gy a i=some v): ∃j,seqIndex? i a.length=some j/\a[j]?=some v/\j<a.length/\ -(a.length:Int)<=i/\i<a.length:=by
 unfold gy at h
 cases e:rm a.length i with
 |none=>rw [e] at h;cases h
 |some j=>
  rw [e] at h;obtain ⟨d,g,l,m⟩:=M9 e;exact ⟨j,d,h,g,l,m⟩
def dG {a:Type} {xs:List a} {j:Nat} {v:a} (h:xs[j]?=some v):gy xs (j:Int)=some v:=by
 have c:j<xs.length:=(c7.mp h).1
 have e:rm xs.length (j:Int)=some j:=by
  unfold rm;rw [if_pos (by omega),if_pos (by omega)];simp
 unfold gy;rw [e];exact h
def yj (b:Expr):Prop:= ∀o i,subscripted b false o i=operate [o,i] (oH o i)
def mJ (X:Cx) (r:R2):Prop:=
 ∀(value a:Expr) (c:List (Addr×Obj)) (s:az) (d:St) (H:Hp) (x y:V) (v u:Value) (Q:VK),aw X c d H s->aE x v->aE y u->r x y H Q->
  subscripted a false v u=operate [v,u] (oH v u)->wpAny (model X.prog X.w) X.A (subscriptTail value a v u) (EP X c d Q) X.xe s
def oP (X:Cx) (id:String) (r:V->List V->Hp->VK->Prop):Prop:=
 ∀(a:List (Addr×Obj)) (s:az) (c:St) (H:Hp) (x:V) (d:List V) (v:Value) (e:List Value) (Q:VK),aw X a c H s->aE x v->aI d e->r x d H Q->
  wpAny (model X.prog X.w) X.A (call (.builtin id) (v::e)) (EP X a c Q) X.xe s
section
variable {X:Cx} {a b:Expr} {J L:TE} {N:Pos}
def mJ.or {r e:R2} (h:mJ X r) (m:mJ X e):mJ X (λx y H Q=>r x y H Q\/e x y H Q):=by
 intro value c d s g H x y v u Q I i l q hs;rcases q with q|q
 . exact h value c d s g H x y v u Q I i l q hs
 . exact m value c d s g H x y v u Q I i l q hs
def oP.or {id:String} {r e:V->List V->Hp->VK->Prop} (h:oP X id r) (m:oP X id e):oP X id (λx d H Q=>r x d H Q\/e x d H Q):=by
 intro c s g H x d v i Q I l rs q;rcases q with q|q
 . exact h c s g H x d v i Q I l rs q
 . exact m c s g H x d v i Q I l rs q
def VB {r:R2} (d:mJ X r) (e:PE X a J) (g:PE X b L) (i:yj b):PE X (.Subscript a b N) (sr r J L):=by
 intro c s l H Q I h;exact Subscript_ (ss e g I h λv u m x y n o p w q=>d a b c m l n x y v u Q o p w q (i _ _))
def AR (K:aA):R2:=λx y H Q=> ∃p c i v,x= .ref p/\y= .int i/\c9 K H p c/\gy c i=some v/\Q v H
def AS (K:aA):R2:=λx y H Q=> ∃p c i v,x= .ref p/\y= .int i/\f9 K H p c/\gy c i=some v/\Q v H
def AT:R2:=λx y H Q=> ∃z i c,x= .str z/\y= .int i/\z.length<=aH/\gy z.cps.toList i=some c/\Q (.str ⟨#[c]⟩) H
def pw:mJ X (AR X.K):=by
 intro value g c s U H x y v u Q I Y ry h B;obtain ⟨p,xs,i,z,rfl,rfl,hq,he,q⟩:=h;cases Y;obtain ⟨t,rfl⟩:=ry;obtain ⟨l,r,m,hz⟩:=I.list hq;obtain ⟨j,e,h2,h3,h4,h5⟩:=YW he;obtain ⟨w,E,n⟩:=r.get h2;have hl:=r.length;have hn:=Xl;have d:EP X c U Q w s:=⟨z,H,I,n,q⟩
 by_cases O:0<=i
 . have o:i.toNat=j:=by
    rw [seqIndex_of O h5] at e;exact fU e
   exact item_listR m.isList O (by omega) (by rw [o];simpa using E) d B
 . have o:(i+(l.toArray.size)).toNat=j:=by
    rw [seqIndex_neg (by omega) h4] at e;rw [cn,<-hl];exact fU e
   exact subscriptTail_builtinR m.isList.typeIs slot_list_getitem.lookup
    (wpAny_getItem_list_neg m.isList (by omega) (by rw [cn]<;>omega) (by omega) (by rw [o];simpa using E) ⟨rfl,d⟩) B
def sE:mJ X (AS X.K):=by
 intro value d c s m H x y v u Q I n o h B;obtain ⟨p,xs,i,z,rfl,rfl,E,O,q⟩:=h;cases n;obtain ⟨t,rfl⟩:=o;obtain ⟨U,r,l,hz⟩:=I.tuple E;obtain ⟨j,Y,h2,h3,h4,h5⟩:=YW O;obtain ⟨w,ew,e⟩:=r.get h2;have hl:=r.length;have hn:=Xl;have g:EP X c m Q w s:=⟨z,H,I,e,q⟩
 exact subscriptTail_builtinR l.typeIs sC.lookup
  (getItem_tuple l (by omega) (by omega) (by rw [cn,<-hl];exact Y) (by simpa using ew) ⟨rfl,g⟩) B
def Na:mJ X AT:=by
 intro value d e s E H x y v u Q I l m h n;obtain ⟨z,i,c,rfl,rfl,O,o,q⟩:=h;obtain ⟨t,rfl⟩:=l;obtain ⟨U,rfl⟩:=m;obtain ⟨j,g,p,Y,r,w⟩:=YW o;have B:z.cps.toList.length=z.length:=by simp [Str.length]
 rw [B] at g r w;have hn:=Xl
 exact tail_any (typeIs_str s z t) slot_str_getitem.lookup (getItem_str (by
  have e1:decide (i< -(2^63))=false:=decide_eq_false (by omega);have e2:decide (i>=2^63)=false:=decide_eq_false (by omega)
  rw [e1,e2,Bool.or_false]) (by rw [g];simpa using p) ⟨.str ⟨#[c]⟩,H,I.tok _,⟨_,rfl⟩,q⟩) n
def Hw (K:aA):R2:=λx y H Q=>AR K x y H Q\/AS K x y H Q\/AT x y H Q
def Nb:mJ X (Hw X.K):=pw.or (sE.or Na)
def WY (lo c:Option Int) (n:Nat):(sF lo c none n).1=((HT.bA n 0 lo:Nat):Int)/\(sF lo c none n).2.1=((HT.bA n n c:Nat):Int)/\(sF lo c none n).2.2=1:=by
 refine ⟨?_,?_,rfl⟩
 . cases lo with
   |none=>simp [sF,HT.bA]
   |some i=>
    simp only [sF,HT.bA,Option.getD_none,show (1)>0 by decide,if_true]
    by_cases h:i<0
    . simp only [h,if_true]<;>omega
    . simp only [h,if_false]<;>omega
 . cases c with
   |none=>simp [sF,HT.bA]
   |some i=>
    simp only [sF,HT.bA,Option.getD_none,show (1)>0 by decide,if_true]
    by_cases h:i<0
    . simp only [h,if_true]<;>omega
    . simp only [h,if_false]<;>omega
def ZF (c:List Value) (lo d:Option Int):slicePick c.toArray lo d none=((c.drop (HT.bA c.length 0 lo)).take (HT.bA c.length c.length d-HT.bA c.length 0 lo)).toArray:=by
 obtain ⟨e,g,h⟩:=WY lo d c.toArray.size;unfold slicePick;rw [e,g,h];simp only [sliceRange_one,pick_run,cn]<;>rfl
def AU (K:aA):V->Option Int->Option Int->Hp->VK->Prop:=λx lo d H Q=> ∃a c,x= .ref a/\c9 K H a c/\ ∀p,H p=none->Q (.ref p) (ay H p (.ah (mI c lo d)))
def l6:pv X (AU X.K):=by
 intro e s y H x v z B lo g E Q I l m n o h;obtain ⟨a,c,rfl,p,q⟩:=h;cases l;obtain ⟨u,r,i,w⟩:=I.list p;have d:=r.length;refine ⟨"list",_,slot_list_getitem.lookup,i.isList.typeIs,?_⟩;refine wpAny_getItem_list_slice i.isList m n o .none (by simp) ?_ (by rw [cn]<;>omega);rw [ZF,<-d];refine ⟨.ref s.heap.objs.size,_,I.laid (λb ob q=>bu _ q) (aS _) ?_,rfl,q _ (I.aM.fresh (aS _))⟩;exact ⟨bZ (Qx c lo g) w,_,0,(r.drop (HT.bA c.length 0 lo)).take (HT.bA c.length c.length g-HT.bA c.length 0 lo),b0 _ rfl⟩
def hZ:bi X (.builtin "len") (λl H Q=> ∃p d,l=[.ref p]/\(c9 X.K H p d\/f9 X.K H p d)/\Q (.int d.length) H):=by
 intro m s v H l w Q I r h;obtain ⟨p,d,rfl,hq,q⟩:=h;obtain ⟨u,rfl,n⟩:=x3 r;cases n;have x:=Xl;rcases hq with hq|hq
 . obtain ⟨e,g,i,o⟩:=I.list hq;have c:=g.length;exact Calls.call_len_list i.isList (by simp only [cn]<;>omega) ⟨.int d.length,H,I.tok _,⟨s.toks+1,by rw [cn,c]⟩,q⟩
 . obtain ⟨e,g,i,o⟩:=I.tuple hq;have c:=g.length;exact len_tuple i (by simp only [cn]<;>omega) ⟨.int d.length,H,I.tok _,⟨s.toks+1,by rw [cn,c]⟩,q⟩
def XE:bi X (.builtin "len") (λc H Q=> ∃z,c=[.str z]/\z.length<=aH/\Q (.int z.length) H):=by
 intro d s e H c g Q I r h;obtain ⟨z,rfl,i,q⟩:=h;obtain ⟨u,rfl,t,rfl⟩:=x3 r;have l:=Xl;exact len_str (by omega) ⟨.int z.length,H,I.tok _,⟨_,rfl⟩,q⟩
def bi.or {f:Value} {r e:List V->Hp->VK->Prop} (h:bi X f r) (l:bi X f e):bi X f (λd H Q=>r d H Q\/e d H Q):=by
 intro c s g H d i Q I rs q;rcases q with q|q
 . exact h c s g H d i Q I rs q
 . exact l c s g H d i Q I rs q
def zJ:bi X (.type "tuple") (λw H Q=> ∃p g,w=[.ref p]/\((c9 X.K H p g/\ ∀l,H l=none->Q (.ref l) (ay H l (.ar g)))\/(f9 X.K H p g/\Q (.ref p) H))):=by
 intro c s x H w Y Q I r h;obtain ⟨p,g,rfl,h⟩:=h;obtain ⟨u,rfl,E⟩:=x3 r;cases E;rcases h with ⟨m,q⟩| ⟨m,q⟩
 . obtain ⟨d,n,v,y⟩:=I.list m;have z:=n.length;refine call_tuple_list v.isList (λi O=>?_) (by simp only [cn]<;>omega);have B:aw X c x H {s with heap:=i}:=I.kept (t':=s.toks) O
   have U:aw X c x (ay H i.objs.size (.ar g)) {s with heap:=i.push {cls:= .type "tuple",data:= .seq d.toArray}}:=
    B.laid (t':=s.toks) (λb o e=>bu _ e) (aS _) (show aW X.prog X.w _ _ _ (.ar g) from ⟨y,d,n,IsTup.new _ _⟩)
   exact ⟨.ref i.objs.size,_,U,rfl,q _ (B.aM.fresh (aS _))⟩
 . obtain ⟨d,n,v,y⟩:=I.tuple m;exact call_tuple_same v ⟨.ref p,H,I,rfl,q⟩
def EL (K:aA) (T:String) (x:V) (H:Hp):Prop:=match x with
 | .str _=>T= "str"
 | .int _=>T= "int"
 | .ref p=>(T= "list" /\ ∃d,c9 K H p d)\/(T= "tuple" /\ ∃o,K.lookup p=some o/\o.cls= .type "tuple" /\o.dict=none)\/
  (T= "dict" /\((∃c,H p=some (.dK c))\/(∃c,Rd H p (.dT c))\/ ∃c,Rd H p (.dK c)))\/(T= "set" /\ ∃S n,H p=some (.set S n))
 |_=>False
def Hx {l:List (Addr×Obj)} {u:St} {H:Hp} {s:az} {T:String} {x:V} {v:Value} (I:aw X l u H s) (r:aE x v) (ty:EL X.K T x H):
  s.TypeIs v T/\ ∀a,v= .ref a-> ∃ob,s.heap.get? a=some ob/\ob.dict=none:=by
 cases x with
 |str z=>
  obtain ⟨t,rfl⟩:=r;cases (ty);exact ⟨typeIs_str s z t,λ_ e=>nomatch e⟩
 |int i=>
  obtain ⟨t,rfl⟩:=r;cases (ty);exact ⟨typeIs_int s i t,λ_ e=>nomatch e⟩
 |ref p=>
  cases r;rcases ty with ⟨rfl,E,w⟩| ⟨rfl,o,d,y,m⟩| ⟨rfl,d⟩| ⟨rfl,S,n,d⟩
  . obtain ⟨B,_,q,_⟩:=I.list w;refine ⟨q.isList.typeIs,λa e=>?_⟩;cases e;obtain ⟨o,n,e,c,m,_⟩:=q;exact ⟨o,e,m⟩
  . refine ⟨⟨o,I.fV p o d,y⟩,λa e=>?_⟩;cases e;exact ⟨o,I.fV _ o d,m⟩
  . have z: ∃o,s.heap.get? p=some o/\o.ExactDict:=by
     rcases d with ⟨h,d⟩| ⟨h,d⟩| ⟨h,d⟩
     . obtain ⟨_,_,_,_,o,_,_,e,g,_⟩:=I.aM p _ d;exact ⟨o,e,g⟩
     . obtain ⟨_,_,_,_,o,_,_,e,g,_⟩:=(show aW X.prog X.w H s.heap p (.dT h) from Rd.ok d I.aM)
       exact ⟨o,e,g⟩
     . obtain ⟨_,_,_,_,o,_,_,e,g,_⟩:=(show aW X.prog X.w H s.heap p (.dK h) from Rd.ok d I.aM)
       exact ⟨o,e,g⟩
    obtain ⟨o,e,g⟩:=z;refine ⟨⟨o,e,g.1⟩,λa e2=>?_⟩;cases e2;exact ⟨o,e,g.2.1⟩
  . obtain ⟨o,_,_,_,e,g,_⟩:=I.aM p _ d;refine ⟨⟨o,e,g.1⟩,λa e2=>?_⟩;cases e2;exact ⟨o,e,g.2.1⟩
 |_=>exact mD ty
def EM (K:aA) (T:String) (r:V->List V->Hp->VK->Prop) (d:TE):TE:=λe H Q=>d e H λx c=>EL K T x c/\r x [] c Q
def Nc (K:aA) (T:String) (r:V->List V->Hp->VK->Prop) (e:TE) (t:TA):TE:=λc H Q=>e c H λx d=>EL K T x d/\t c d λg h=>r x g h Q
variable {o e:Expr} {O:List Expr} {to:TE} {t:TA} {name:Str} {U Y:Pos} {T id:String} {r:V->List V->Hp->VK->Prop}
def Hy (q:PlainAttrs T) (slot:Slot T name id) (i:typeOf (.builtin id)=pure (.type "method_descriptor")) (u:oP X id r) (w:PE X o to)
  (d:lx o name X.env (eval o X.env)=eval o X.env:=by rfl) (g:(U.endLine==Y.line)=true:=by rfl):PE X (.Call (.Attribute o name U) [] [] Y) (EM X.K T r to):=by
 intro c s m H Q I h;refine wpAny_Call_method0_late d g (a9 (w c s m H _ I h) λv y l=>?_);obtain ⟨x,z,n,p,ty,B⟩:=l;obtain ⟨E,h2⟩:=Hx n p ty;exact ⟨T,id,q,slot,i,E,h2,Calls.callWith_builtin rfl (PySem.evalArgs_none (u c y m z x [] v [] Q n p .nil B))⟩
def CM (B:PlainAttrs T) (slot:Slot T name id) (n:typeOf (.builtin id)=pure (.type "method_descriptor")) (E:oP X id r) (ho:PE X o to) (ha:PA X (e::O) t)
  (g:lx o name X.env (eval o X.env)=eval o X.env:=by rfl)
  (m:((eA Y (bj (e::O) X.env)).all (λx=>!x.1)&&(l7 Y (l8 [] X.env)).all (λx=>x.1.isSome)
   &&decide ((e::O).length+([]:List la).length+(if ([]:List la).isEmpty then 0 else 1)<30))=true:=by rfl)
  (i:(U.endLine==Y.line)=true:=by rfl) (hs:T9 X e O:=by rfl) (d:T8 X Y O:=by rfl):
  PE X (.Call (.Attribute o name U) (e::O) [] Y) (Nc X.K T r to t):=by
 intro c s p H Q I h;refine wpAny_Call_method_late g m i rfl (a9 (ho c s p H _ I h) λv s1 q=>?_);obtain ⟨x,H1,w,y,ty,q1⟩:=q;obtain ⟨h1,h2⟩:=Hx w y ty;refine ⟨T,id,B,slot,n,h1,h2,?_⟩;have z:=ha Y c s1 p H1 _ w q1;rw [hs] at z ⊢;refine Calls.callWith_builtin (by show (false|| (eA Y (bj O X.env)).any (·.1))=false;rw [d]<;>rfl) (Calls.evalArgs_plain ?_);exact a9 z λus s2 ⟨vs,H2,I2,r2,q2⟩=>E c s2 p H2 x vs v us Q I2 y r2 q2
/-xs.append(e),list.index on a l tuple .. are oP u of 06m-/
end
def AV (X:Cx) (id:String) (r:V->List V->Hp->VK->Prop):Prop:=
 ∀(a:List (Addr×Obj)) (s:az) (c:St) (H:Hp) (x:V) (d:List V) (v:Value) (e:List Value) (Q:VK),aw X a c H s->aE x v->aI d e->r x d H Q->
  wpAny (model X.prog X.w) X.A (call (.builtin id) (v::e)) (EP X a c Q) X.xe s
theorem aI.one: ∀ {x:V} {a:List Value},aI [x] a-> ∃u,a=[u]/\aE x u
 |_,_,.cons r .nil=>⟨_,rfl,r⟩
theorem aI.zero: ∀ {a:List Value},aI [] a->a=[]
 |_,.nil=>rfl
def aI.dropLast {a:List V} {c:List Value} (h:aI a c):aI a.dropLast c.dropLast:=by
 induction h with
 |nil=>exact .nil
 |cons r t d=>
  cases t with
  |nil=>exact .nil
  |cons q e=>exact .cons r d
def VR {c:Type} (l:List c):l.eraseIdx (l.length-1)=l.dropLast:=by
 induction l with
 |nil=>rfl
 |cons a r d=>
  cases r with
  |nil=>rfl
  |cons b r=>
   have e:(a::b::r).length-1=((b::r).length-1)+1:=by
    have g:(a::b::r).length=r.length+2:=rfl;have h:(b::r).length=r.length+1:=rfl;omega
   rw [e,List.eraseIdx_cons_succ,d]
   all_goals rfl
section
variable {X:Cx} {pins:List (Addr×Obj)} {σ:St} {H:Hp} {s:az} {l b:Addr} {xs ys zs:List V}
def aw.pz {a its':List Value} {n:Nat} {f:Array Value->Array Value} {c:Nat} (I:aw X pins σ H s) (d:H l=some (.ah xs))
  (e:s.heap.get? l=some {cls:= .type "list",data:= .seq a.toArray n}) (g:f a.toArray=its'.toArray) (h:aI ys its') (hz:ys.length<=aH):
  aw X pins σ (ay H l (.ah ys)) {s with heap:=s.heap.update l (nj f),toks:=c}:=by
 have q:=PySem.IsL.update e f;rw [g] at q;refine I.write (by rw [d];exact trivial) (.inl rfl) (λo u i m=>(pA s.heap (nj f) (fH i)).trans m) ⟨_,q⟩ ?_;exact ⟨hz,its',_,h,q⟩
def aw.pB {a:List Value} {t':Nat} (I:aw X pins σ H s) (c:aI ys a) (hz:ys.length<=aH):
  aw X pins σ (ay H s.heap.objs.size (.ah ys)) {s with heap:=s.heap.push {cls:= .type "list",data:= .seq a.toArray},toks:=t'}:=
 I.laid (λ_ _ q=>bu _ q) (aS _) ⟨hz,a,0,c,b0 _ rfl⟩
def aw.fresh (I:aw X pins σ H s):H s.heap.objs.size=none:=I.aM.fresh (aS _)
def aw.lA (I:aw X pins σ H s) (c:H l=some (.ah xs)):xs.length<=aH/\ ∃(a:List Value) (n:Nat),aI xs a/\xs.length=a.length/\s.heap.get? l=some {cls:= .type "list",data:= .seq a.toArray n}:=by
 obtain ⟨z,a,n,r,e⟩:=I.aM l _ c;exact ⟨z,a,n,r,r.length,e⟩
def KB {n:Nat} (h:n<=aH):CN n=false:=by
 exact decide_eq_false (by omega)
end
section
variable {X:Cx}
def Nd:V->List V->Hp->VK->Prop:=λx c H Q=> ∃l a y,x= .ref l/\c=[y]/\H l=some (.ah a)/\a.length<aH/\Q .aV (ay H l (.ah (a++[y])))
def J4:AV X "list.append" Nd:=by
 intro c s o H x p v w Q I g i h;obtain ⟨l,B,y,rfl,rfl,d,E,q⟩:=h;cases g;obtain ⟨u,rfl,m⟩:=i.one;obtain ⟨z,a,n,r,J,e⟩:=I.lA d;refine call_meets F.slot_list_append ⟨_,e,rfl⟩ F.entry_list_append (F.args_list_append_2 _ _) (PySem.list_append l a.toArray n u (by rw [cn];omega)) ⟨e,?_⟩;refine ⟨.aV,_,I.pz d e (by simp) (r.append (.cons m .nil)) ?_,rfl,q⟩;rw [de,List.length_singleton];omega
def Nf:V->List V->Hp->VK->Prop:=λx d H Q=> ∃l b a c,x= .ref l/\d=[.ref b]/\H l=some (.ah a)/\H b=some (.ah c)/\a.length+c.length<=aH/\Q .aV (ay H l (.ah (a++c)))
def Xj:AV X "list.extend" Nf:=by
 intro i s L H x N v O Q I o p h;obtain ⟨l,b,U,Y,rfl,rfl,m,w,hz,q⟩:=h;cases o;obtain ⟨u,rfl,y⟩:=p.one;cases y;obtain ⟨z,c,n,r,hl,e⟩:=I.lA m;obtain ⟨z2,a,B,E,J,e2⟩:=I.lA w;have g:c.toArray.size+a.toArray.size<=aH:=by rw [cn,cn];omega
 have d: ¬(!c.toArray.isEmpty&&CN (c.toArray.size+a.toArray.size))=true:=by
  rw [KB g,CO];exact fq
 refine call_meets CP ⟨_,e,rfl⟩ F.entry_list_extend (F.args_list_extend_2 _ _)
  (AutoSeq1.list_extend_list_list_0 l c.toArray n b a.toArray B d (by rw [cn];omega) (by omega)) ⟨e,e2,?_⟩
 refine ⟨.aV,_,I.pz m e (by simp) (r.append E) ?_,rfl,q⟩;rw [de];omega
def EN:V->List V->Hp->VK->Prop:=λx c H Q=> ∃l a y,x= .ref l/\c=[]/\H l=some (.ah a)/\a[a.length-1]?=some y/\Q y (ay H l (.ah a.dropLast))
def Ng:AV X "list.pop" EN:=by
 intro g s J H x L v N Q I m o h;obtain ⟨l,O,y,rfl,rfl,i,p,q⟩:=h;cases m;have c:=o.zero;subst c;obtain ⟨z,a,n,r,w,e⟩:=I.lA i;obtain ⟨u,B,E⟩:=r.get p
 have d:a.toArray[a.toArray.size-1]?=some u:=by
   show a.toArray[a.length-1]?=some u;rw [<-fG,<-w];exact B
 refine call_meets F.slot_list_pop ⟨_,e,rfl⟩ F.entry_list_pop (F.args_list_pop_1 _) (MeetsSeq.list_pop_last l a.toArray n u d (by rw [cn];omega)) ⟨e,?_⟩;refine ⟨y,_,I.pz (its':=a.dropLast) i e ?_ r.dropLast ?_,E,q⟩
 . show a.toArray.eraseIdxIfInBounds (a.toArray.size-1)=a.dropLast.toArray;rw [cn,List.eraseIdxIfInBounds_toArray,VR]
 . rw [List.length_dropLast];omega
def sG:R2:=λx y H Q=> ∃l b a c,x= .ref l/\y= .ref b/\H l=some (.ah a)/\H b=some (.ah c)/\a.length+c.length<=aH/\ ∀p,H p=none->Q (.ref p) (ay H p (.ah (a++c)))
def sI:dc X (iA .Add) sG:=by
 intro d s E H x y v u Q I g i h;obtain ⟨l,b,J,L,rfl,rfl,m,o,N,q⟩:=h;cases g;cases i;obtain ⟨z,c,n,r,O,e⟩:=I.lA m;obtain ⟨U,a,Y,p,w,e2⟩:=I.lA o;refine PySem.P.add_list e e2 ?_ (by rw [cn,cn];omega);have B:c.toArray++a.toArray=(c++a).toArray:=by simp
 rw [B];exact ⟨.ref _,_,I.pB (r.append p) (by rw [de];omega),rfl,q _ I.fresh⟩
end
section
variable {Q:Type} [DecidableEq Q]
def b7 (a:List (Q×V)) (k:Q):Option V:=(a.find? λc=>decide (c.1=k)).map (·.2)
def putK (a:List (Q×V)) (k:Q) (v:V):List (Q×V):=
 if (a.any λc=>decide (c.1=k))=true then a.map (λc=>if c.1=k then (c.1,v) else c) else a++[(k,v)]
def ZA {p:Q×V} {r:List (Q×V)} {k:Q} (e:p.1=k):b7 (p::r) k=some p.2:=by simp [b7,rq,e]
def ZB {p:Q×V} {r:List (Q×V)} {k:Q} (e: ¬p.1=k):b7 (p::r) k=b7 r k:=by simp [b7,rq,e]
theorem Y6 (k:Q): ∀a:List (Q×V),(a.any λc=>decide (c.1=k))=(b7 a k).isSome
 | []=>rfl
 |p::r=>by
  rw [sK]
  by_cases e:p.1=k
  . simp only [ZA e,decide_eq_true e,Bool.true_or,Option.isSome_some]
  . rw [ZB e,decide_eq_false e,Bool.false_or];exact Y6 k r
def yb (a:List (Q×V)) (k:Q) (v:V):(putK a k v).length<=a.length+1:=by
 unfold putK
 split
 . rw [bN];omega
 . rw [de,b9,du];omega
def cG.gU {o:Option V} {u:Option Value} (r:cG o u):o.isSome=u.isSome:=by
 cases o with
 |none=>cases u with
  |none=>rfl
  |some _=>exact (r).elim
 |some _=>cases u with
  |none=>exact (r).elim
  |some _=>rfl
def cG.getD {o:Option V} {u:Option Value} {d:V} {a:Value} (r:cG o u) (c:aE d a):aE (o.getD d) (u.getD a):=by
 cases o with
 |none=>cases u with
  |none=>exact c
  |some _=>exact (show False from r).elim
 |some _=>cases u with
  |none=>exact (show False from r).elim
  |some _=>exact r
def KV.val {a:List (Q×V)} {g:List (Q×Value)} (r:KV a g) (k:Q):cG (b7 a k) (pE g k):=by
 induction r with
 |nil=>exact l0
 | @cons p q l c h t i=>
  obtain ⟨h1,h2⟩:=h
  by_cases e:p.1=k
  . have d:=h1.symm.trans e;have b:pE (q::c) k=some q.2:=by simp [pE,rq,d]
    rw [ZA e,b];exact h2
  . have d: ¬q.1=k:=λz=>e (h1.trans z)
    have b:pE (q::c) k=pE c k:=by simp [pE,rq,d]
    rw [ZB e,b];exact i
def KV.any {a:List (Q×V)} {d:List (Q×Value)} (r:KV a d) (k:Q):(a.any λc=>decide (c.1=k))=d.any λc=>decide (c.1=k):=by
 induction r with
 |nil=>rfl
 |cons h t e=>rw [sK,sK,e,h.1]
def KV.EO {c:List (Q×V)} {d:List (Q×Value)} (r:KV c d) (k:Q) {y:V} {u:Value} (g:aE y u):
  KV (c.map λa=>if a.1=k then (a.1,y) else a) (d.map λa=>if a.1=k then (a.1,u) else a):=by
 induction r with
 |nil=>exact .nil
 | @cons p q l m h t i=>
  rw [cY,cY];refine .cons ?_ i;obtain ⟨h1,h2⟩:=h
  by_cases e:p.1=k
  . rw [if_pos e,if_pos (h1.symm.trans e)];exact ⟨h1,g⟩
  . rw [if_neg e,if_neg (λz=>e (h1.trans z))];exact ⟨h1,h2⟩
def KV.put {a:List (Q×V)} {c:List (Q×Value)} (r:KV a c) (k:Q) {y:V} {u:Value} (d:aE y u):KV (putK a k y) (stored c k u):=by
 unfold putK stored;rw [r.any k]
 by_cases e:(c.any λg=>decide (g.1=k))=true
 . rw [if_pos e,if_pos e];exact r.EO k d
 . rw [if_neg e,if_neg e];exact CQ r ⟨rfl,d⟩
def KV.keys {a:List (Q×V)} {c:List (Q×Value)} (r:KV a c):a.map (·.1)=c.map (·.1):=by
 induction r with
 |nil=>rfl
 |cons h t d=>rw [cY,cY,d,h.1]
def KV.length {a:List (Q×V)} {c:List (Q×Value)} (r:KV a c):a.length=c.length:=o9 r
end
def vi {P:bn} {w:World} {k:aT} {u:Value} (r:aE (kV k) u):(qF P w).is k u=true:=by
 cases k with
 |inl i=>obtain ⟨t,e⟩:=(r);subst e;exact Yp P w i t
 |inr x=>obtain ⟨t,e⟩:=(r);subst e;exact Yo P w x t
abbrev KT (H:Hp):List (M.NK×V)->List M.VE->Prop:=eS (KR H)
def KT.val {H:Hp} {a:List (M.NK×V)} {d:List M.VE} (r:KT H a d) (k:M.NK):cG (b7 a k) (M.gP d k):=by
 induction r with
 |nil=>exact l0
 | @cons p q i c h t g=>
  by_cases e:p.1=k
  . have b:M.gP (q::c) k=some q.2.2:=by simp [M.gP,rq,show q.1=k from h.1.symm.trans e]
    rw [ZA e,b];exact h.2.2
  . have b:M.gP (q::c) k=M.gP c k:=by simp [M.gP,rq,show¬q.1=k from λz=>e (h.1.trans z)]
    rw [ZB e,b];exact g
def KT.any {H:Hp} {a:List (M.NK×V)} {c:List M.VE} (r:KT H a c) (k:M.NK):(a.any λd=>decide (d.1=k))=c.any λx=>decide (x.1=k):=by
 induction r with
 |nil=>rfl
 |cons h t e=>rw [sK,sK,e,h.1]
def KT.put {H:Hp} {a:List (M.NK×V)} {d:List M.VE} (r:KT H a d) (k:M.NK) {y v:V} {u z:Value} (g:TK H k y) (i:aE y u) (l:aE v z):
   KT H (putK a k v) (M.dI d k u z):=by
 unfold putK M.dI;rw [r.any k]
 split
 . rename_i c;clear c g i
   induction r with
   |nil=>exact .nil
   | @cons p q n o h t m=>
    rw [cY,cY];refine .cons ?_ m
    by_cases e:p.1=k
    . rw [if_pos e,if_pos (h.1.symm.trans e)];exact ⟨h.1,h.2.1,l⟩
    . rw [if_neg e,if_neg (λz=>e (h.1.trans z))];exact h
 . exact CQ r ⟨rfl,⟨y,g,i⟩,l⟩
def KT.keeps {H c:Hp} {a:List (M.NK×V)} {d:List M.VE} (r:KT H a d) (g: ∀b e,H b=some (.ar e)->c b=some (.ar e)):KT c a d:=
 eS.ll r λ_ _ z=>z.keep g
section
variable {P:bn} {w:World} {H:Hp} {h:Heap} {a:Addr}
def Hz {u:HO} (ok:dD P w H h) (e:Rd H a u):aW P w H h a u:=e.ok ok
def YJ {c:List (aT×V)} (ok:dD P w H h) (e:Rd H a (.dK c)):c.length<=aH/\(a==hC)=false/\ ∃d,KV c d/\h.DictOf (qF P w) a d:=
 show aW P w H h a (.dK c) from Hz ok e
def YK {c:List (aT×V)} (ok:dD P w H h) (e:H a=some (.dK c)):c.length<=aH/\(a==hC)=false/\ ∃d,KV c d/\h.DictOf (qF P w) a d:=YJ ok (.inl e)
def EQ (ok:dD P w H h) (k:M.NK): ∀v u,dU H k v->aE v u->M.NK.at h k u:=by
 induction k using M.NK.ind with
 |h1 i=>intro v u x r;simp only [dU] at x;subst x;exact M.bJ.mpr r
 |h2 z=>intro v u x r;simp only [dU] at x;subst x;exact M.bR.mpr r
 |h3 l g=>
  intro v u x r;simp only [dU] at x;obtain ⟨b,d,rfl,m,y⟩:=x;cases r;obtain ⟨_,c,n,p⟩:=(show aW P w H h b (.ar d) from ok b _ m)
  refine M.bK.mpr ⟨b,c.toArray,rfl,p,?_⟩
  have go: ∀(l:List M.NK) (d:List V) (c:List Value),(∀k∈l,∀v u,dU H k v->aE v u->M.NK.at h k u)->dn H l d->aI d c->M.NK.lg h l c:=by
   intro l
   induction l with
   |nil=>
    intro d c _ h r;simp only [dn] at h;subst h;cases r;exact M.dC.mpr rfl
   |cons k l e=>
    intro d c f h r;simp only [dn] at h;obtain ⟨u,I,rfl,h1,h2⟩:=h
    cases r with
    |cons o B=>exact M.bX.mpr ⟨_,_,rfl,f k ci _ _ h1 o,e _ _ (λq E=>f q (cv _ E)) h2 B⟩
  simpa using go l d c g y n
def xg {k:M.NK} {y:V} {u:Value} (ok:dD P w H h) (e:TK H k y) (r:aE y u):M.eR h k u:=⟨EQ ok _ _ _ e.1 r,e.2⟩
def ud {c:List (M.NK×V)} (ok:dD P w H h) (e:Rd H a (.dT c)):c.length<=aH/\(a==hC)=false/\ ∃d,KT H c d/\M.bL w h a d:=by
 obtain ⟨z,y,d,r,o,g,i,n,u,v,B,E⟩:=(show aW P w H h a (.dT c) from Hz ok e)
 refine ⟨z,y,d,r,o,g,i,n,u,v,B,λx hx=>?_,E⟩
 have all: ∀ {l:List (M.NK×V)} {m:List M.VE},KT H l m-> ∀x∈m,M.eR h x.1 x.2.1:=by
  intro l m q
  induction q with
  |nil=>intro x hx;exact nomatch hx
  | @cons p q L N I t J=>
   intro x hx;rcases bH.mp hx with e|hx
   . subst e;obtain ⟨e1,⟨y,t,r⟩,_⟩:=I;exact xg ok (by rw [<-e1];exact t) r
   . exact J x hx
 exact all r x hx
def Nh {c:List (M.NK×V)} (ok:dD P w H h) (e:H a=some (.dT c)):c.length<=aH/\(a==hC)=false/\
 ∃d,KT H c d/\M.bL w h a d:=ud ok (.inl e)
end
def gz (H:Hp) (a:Addr) (y:V) (r:Option V):Prop:=
 (∃c k,Rd H a (.dK c)/\y=kV k/\r=b7 c k)\/ ∃c k,Rd H a (.dT c)/\TK H k y/\r=b7 c k
def h8 (H:Hp) (a:Addr) (y v:V) (d:Hp):Prop:=
 (∃c k,H a=some (.dK c)/\y=kV k/\c.length<aH/\d=ay H a (.dK (putK c k v)))\/
 ∃c k,H a=some (.dT c)/\TK H k y/\c.length<aH/\d=ay H a (.dT (putK c k v))
def gz.k {H:Hp} {a:Addr} {c:List (aT×V)} {k:aT} (e:H a=some (.dK c)):gz H a (kV k) (b7 c k):= .inl ⟨c,k,.inl e,rfl,rfl⟩
def h8.k {H:Hp} {a:Addr} {c:List (aT×V)} {k:aT} {v:V} (e:H a=some (.dK c)) (d:c.length<aH):h8 H a (kV k) v (ay H a (.dK (putK c k v))):= .inl ⟨c,k,e,rfl,d,rfl⟩
def h8.t {H:Hp} {a:Addr} {c:List (M.NK×V)} {k:M.NK} {y v:V} (e:H a=some (.dT c)) (d:TK H k y) (g:c.length<aH):
 h8 H a y v (ay H a (.dT (putK c k v))):= .inr ⟨c,k,e,d,g,rfl⟩
section
variable {X:Cx} {x:List (Addr×Obj)} {p:St} {H:Hp} {s:az} {a:Addr} {y v:V} {u r:Value} {o:Option V} {A:bp} {E:UO}
def aw.big (I:aw X x p H s):hC<s.heap.objs.size:=by
 exact pF (by decide) ((I.mod.glob.keeps I.bk).lt)
def Qw {Q:UO} (U:A.units+20<cLine) (I:aw X x p H s) (g:gz H a y (some v)) (q:aE y u) (h: ∀i w,aw X x p H w->aE v i->Q i w):
   wpAny (model X.prog X.w) A (oH (.ref a) u) Q E s:=by
 rcases g with ⟨m,k,e,B,l⟩| ⟨m,k,e,J,l⟩
 . subst B;obtain ⟨z,L,Y,c,n⟩:=YJ I.aM e;obtain ⟨i,hw,d⟩:=cG.some_of (by rw [l];exact c.val k);exact wpAny_getItem_of (vi q) n.mapOf hw (h i _ (I.tok _) d)
 . have N:=xg I.aM J q;obtain ⟨z,L,O,c,n⟩:=ud I.aM e;obtain ⟨i,hw,d⟩:=cG.some_of (v:=v) (o:=M.gP O k) (by rw [l];exact c.val k);exact M.nG (by omega) N n hw λt=>h i _ (I.tok _) d
def ER {Q:UO} (L:A.units+20<cLine) (I:aw X x p H s) (g:gz H a y o) (n:aE y u) (h: ∀q,aw X x p H q->Q (.bool o.isSome) q):
   wpAny (model X.prog X.w) A (lj .In u (.ref a)) Q E s:=by
 rcases g with ⟨d,k,e,w,l⟩| ⟨d,k,e,B,l⟩
 . subst w;obtain ⟨z,i,N,c,m⟩:=YJ I.aM e;refine wpAny_in_of (vi n) i m.mapOf ?_;rw [<-(c.val k).gU,<-l];exact h _ (I.tok _)
 . have J:=xg I.aM B n;obtain ⟨z,i,O,c,m⟩:=ud I.aM e;refine M.Aw (by omega) J i m λt=>?_
   rw [<-(c.val k).gU,<-l];exact h _ (I.tok _)
def Wy {c:Heap} {t':Nat} {ob:HO} (I:aw X x p H s) (d:ky (H a)) (e:kx a s.heap c) (g: ∃q,c.get? a=some q) (new:aW X.prog X.w (ay H a ob) c a ob):
  aw X x p (ay H a ob) {s with heap:=c,toks:=t'}:=
 I.write d (.inl rfl) (λb q h z=>(e.2 b h).trans z) g new
def K9 {P:bn} {w:World} {h:Hp} {g:Heap} {c:List (aT×V)} {d:List (aT×Value)} (z:c.length<=aH) (i:(a==hC)=false) (e:KV c d) (l:g.DictOf (qF P w) a d):
 aW P w h g a (.dK c):=⟨z,i,d,e,l⟩
def uD {U:Hp} {Q:Unit->az->Prop} (hu:A.units+20<cLine) (I:aw X x p H s) (g:h8 H a y v U) (w:aE y u) (Y:aE v r) (h: ∀s',aw X x p U s'->Q () s'):
   wpAny (model X.prog X.w) A (setItem (.ref a) u r) Q E s:=by
 rcases g with ⟨d,k,e,ey,l,B⟩| ⟨d,k,e,eb,l,B⟩
 . subst ey B;obtain ⟨z,J,vs,i,L⟩:=YK I.aM e;have hz:vs.length<=aH:=by rw [<-i.length];exact z
   have N:(putK d k v).length<=aH:=by have:=yb d k v;omega
   refine wpAny_setItem_pairs (vi w) L λh' m O=>h _ ?_
   have he: ∃q,h'.get? a=some q:=let ⟨q,_,_,n,_⟩:=m;⟨q,n⟩
   exact Wy I (by rw [e];exact l0) O he (K9 N J (i.put k Y) m)
 . subst B;obtain ⟨z,J,xs,i,L⟩:=Nh I.aM e;have N:(putK d k v).length<=aH:=by have:=yb d k v;omega
   refine M.gR (by omega) (xg I.aM eb w) L (by rw [<-o9 i];exact z) λh' t m O=>h _ ?_
   obtain ⟨q,es,ep,n,h2,h3,h4,_,h5⟩:=m;refine Wy I (by rw [e];exact l0) O ⟨q,n⟩ ⟨N,J,_,(i.put k eb w Y).keeps λc ys ec=>?_,q,es,ep,n,h2,h3,h4,h5⟩;rw [jp (L5 ec e (λz=>nomatch z))];exact ec
end
section
variable {X:Cx} {pins:List (Addr×Obj)} {σ:St} {H:Hp} {s:az} {a:Addr} {kvs:List (aT×V)} {k:aT} {u:Value} {A:bp} {E:UO}
def Ni {Q:UO} (I:aw X pins σ H s) (e:H a=some (.dK kvs)) (h: ∀g,aw X pins σ (ay H a (.dK [])) g->Q .none g):wpAny (model X.prog X.w) A (call (.builtin "dict.clear") [.ref a]) Q E s:=by
 obtain ⟨z,l,m,d,i⟩:=YK I.aM e;refine call_meetsIn PySem.F.slot_dict_clear i.typeIs PySem.F.entry_dict_clear (PySem.F.args_dict_clear_1 _) (meets_dict_clear (qF X.prog X.w) a) ⟨m,i,by rw [<-d.length];exact z,λn c o=>h _ ?_⟩;have p: ∃q,n.get? a=some q:=let ⟨q,_,_,r,_⟩:=c;⟨q,r⟩
 exact Wy (t':=s.toks) I (by rw [e];exact l0) o p (K9 (dR _) l .nil c)
def Nj {Q:UO} (I:aw X pins σ H s) (e:Rd H a (.dK kvs)) (h: ∀t d,aw X pins σ H d->Q (.int kvs.length t) d):wpAny (model X.prog X.w) A (call (.builtin "len") [.ref a]) Q E s:=by
 obtain ⟨z,g,l,c,i⟩:=YJ I.aM e;refine call_len_dict g i (by rw [<-c.length];rw [iB] at z;omega) ?_;rw [<-c.length];exact h _ _ (I.tok _)
end
def yf {X:Cx} {c:List (Addr×Obj)} {i:St} {H:Hp} {s:az} {a:Addr} {y:V} {o:Option V} (I:aw X c i H s) (g:gz H a y o):s.TypeIs (.ref a) "dict" :=by
 rcases g with ⟨d,k,e,_,_⟩| ⟨d,k,e,_,_⟩
 . obtain ⟨_,_,l,_,h⟩:=YJ I.aM e;exact h.typeIs
 . obtain ⟨_,_,m,_,h⟩:=ud I.aM e;exact h.typeIs
def Nk (e ty g:TE):TS:=λD c H=>g c H λv h=>e c h λx i=>ty c i λy l=> ∃a d,x= .ref a/\h8 l a y v d/\D.nx c d
section
variable {X:Cx} {o i e value:Expr} {pos q mK:Pos} {td ty tv:TE}
def U4 (m:X.A.units+20<cLine) (n:PE X o td) (p:PE X i ty) (w:PE X value tv) (z:gb value (some (.Subscript o i q)) pos.line X.env=pure false):
  PS X (.Assign [.Subscript o i q] value pos) (Nk td ty tv):=by
 intro c s d H D I h;refine wpAny_Assign_Subscript (a9 (w c s d H _ I h) λr B ⟨v,E,J,L,N⟩=>a9 (n c B d E _ J N) λu O ⟨x,Q,U,Y,q2⟩=>a9 (p c O d Q _ U q2) λiv s3 l=>?_) z;obtain ⟨y,H3,I3,ry,a,H4,ex,g,q3⟩:=l;subst ex;obtain rfl:u=cX a:=Y;exact uD m I3 g ry L λs4 I4=>⟨d,H4,I4,q3⟩
end
def Va {P:bn} {w:World} {H:Hp} (h:Heap) (a:hC<h.objs.size):aW P w H (h.push {cls:= .type "dict",data:= .dict #[]}) h.objs.size (.dK []):=
 ⟨dR _,beq_eq_false_iff_ne.mpr (fH (cj a)),[],.nil,Heap.DictOf.new h⟩
def Nl {P:bn} {w:World} {H:Hp} (h:Heap) (a:hC<h.objs.size):aW P w H (h.push {cls:= .type "dict",data:= .dict #[]}) h.objs.size (.dT []):=
 ⟨dR _,beq_eq_false_iff_ne.mpr (fH (cj a)),[],.nil,_, #[],0,b0 _ rfl,⟨rfl,rfl,rfl⟩,rfl,rfl,wh⟩
def Nm:TE:=λ_ H Q=> ∀p,H p=none->Q (.ref p) (ay H p (.dK []))
def Nn:TE:=λ_ H Q=> ∀p,H p=none->Q (.ref p) (ay H p (.dT []))
section
variable {X:Cx} {z:Pos}
def No:PE X (.Dict [] [] z) Nm:=λa s c H Q I h=>
 wpAny_Dict_empty ⟨.ref s.heap.objs.size,_,I.laid (λ_ _ q=>bu _ q) (aS _) (Va s.heap I.big),rfl,h _ (I.aM.fresh (aS _))⟩
def Kq:PE X (.Dict [] [] z) Nn:=λa s c H Q I h=>
 wpAny_Dict_empty ⟨.ref s.heap.objs.size,_,I.laid (λ_ _ q=>bu _ q) (aS _) (Nl s.heap I.big),rfl,h _ (I.aM.fresh (aS _))⟩
end
def UB:List (TE×TE)->St->Hp->(List (V×V)->Hp->Prop)->Prop
 | [],_,H,Q=>Q [] H
 | (tk,c)::r,a,H,Q=>tk a H λx d=>c a d λy e=>UB r a e λg h=>Q ((x,y)::g) h
abbrev VV:List (V×V)->List (Value×Value)->Prop:=eS λp q=>aE p.1 q.1/\aE p.2 q.2
def CS (X:Cx) (d:Pos) (keys:List (Option Expr)) (a:List Expr) (fK:List (TE×TE)):Prop:=
 ∀(c:List (Addr×Obj)) (s:az) (e:St) (H:Hp) (Q:List (V×V)->Hp->Prop),aw X c e H s->UB fK e H Q->
  wpAny (model X.prog X.w) X.A (evalPairs (pairTrees keys a X.env d)) (λi l=> ∃g h,aw X c e h l/\VV g i/\Q g h) X.xe s
def Np {X:Cx} {a:Pos}:CS X a [] [] []:=λc s d H Q I h=>pairTrees_nil_walk ⟨[],H,I,.nil,h⟩
def Nq {X:Cx} {c:Pos} {k v:Expr} {ks:List (Option Expr)} {g:List Expr} {tk i:TE} {fK:List (TE×TE)} (l:PE X k tk) (m:PE X v i) (n:CS X c ks g fK):
  CS X c (some k::ks) (v::g) ((tk,i)::fK):=λa s d H Q I h=>
 pairTrees_cons_walk (a9 (l a s d H _ I h) λu o ⟨x,p,q,r,w⟩=>a9 (m a o d p _ q w) λw2 z ⟨y,B,E,J,L⟩=>
  a9 (n a z d B _ E L) λws s3 ⟨N,O,U,e,Y⟩=>⟨(x,y)::N,O,U,.cons ⟨r,J⟩ e,Y⟩)
def Jl (a more:List (aT×V)):List (aT×V):=more.foldl (λc d=>putK c d.1 d.2) a
def KV.merge: ∀ {more:List (aT×V)} {rs:List (aT×Value)} {a:List (aT×V)} {c:List (aT×Value)},KV more rs->KV a c->KV (Jl a more) (merged c rs):=by
 intro more rs a c r;unfold KV at r
 induction r generalizing a c with
 |nil=>intro q;exact q
 | @cons p q i l h t d=>
  intro g
  have e:KV (putK a p.1 p.2) (stored c q.1 q.2):=by
   have:=g.put p.1 h.2;rw [<-h.1];exact this
  exact d e
theorem yC: ∀(more a:List (aT×V)),(Jl a more).length<=a.length+more.length
 | [],a=>by show a.length<=a.length+0;omega
 |p::r,a=>by
  have c:=yC r (putK a p.1 p.2);have d:=yb a p.1 p.2;show (Jl (putK a p.1 p.2) r).length<=_;rw [b9];omega
theorem Zv {P:bn} {w:World}: ∀ {d:List (aT×V)} {g:List (Value×Value)},VV (d.map λi=>(kV i.1,i.2)) g-> ∃e,Carries (qF P w) g e/\KV d e
 | [],_,r=>by rw [List.map_nil] at r;cases r;exact ⟨[],l0,.nil⟩
 |p::d,_,r=>by
  rw [cY] at r
  cases r with
  | @cons a b m bs h t=>
   obtain ⟨e,c,q⟩:=Zv (P:=P) (w:=w) t;obtain ⟨n,l⟩:=b;exact ⟨(p.1,l)::e,⟨vi h.1,rfl,c⟩,.cons ⟨rfl,h.2⟩ q⟩
def Nr (fK:List (TE×TE)):TE:=λe H Q=> ∀p,H p=none->UB fK e (ay H p (.dK [])) λg c=>c p=some (.dK [])/\ ∃a:List (aT×V),g=a.map (λd=>(kV d.1,d.2))/\a.length<=15/\Q (.ref p) (ay c p (.dK (Jl [] a)))
def Nt {X:Cx} {g:Pos} {keys:List (Option Expr)} {d:List Expr} {fK:List (TE×TE)} (h:CS X g keys d fK) (i:keys.all (·.isSome)=true) (x:keys.length=d.length) (y:keys≠[])
  (p:keys.length<=15):PE X (.Dict keys d g) (Nr fK):=by
 intro l s B H Q I q;have E:=I.aM.fresh (aS s.heap.objs.size);have J:=I.laid (a:=s.heap.objs.size) (o:= .dK []) (h':=s.heap.push {cls:= .type "dict",data:= .dict #[]}) (t':=s.toks) (λ_ _ q=>bu _ q) (aS _) (Va s.heap I.big);refine wpAny_Dict_walk (knd:=qF X.prog X.w) i x y p (a9 (h l _ B _ _ J (q _ E)) λws s2 r=>?_);obtain ⟨ps,H2,v,u,e,m,L,lk,N⟩:=r;subst L;obtain ⟨O,c,U⟩:=Zv (P:=X.prog) (w:=X.w) u;obtain ⟨z,Y,vs0,r0,dd⟩:=YK v.aM e;cases r0;refine ⟨O,c,dd,λh' n hs=>⟨.ref s.heap.objs.size,_,?_,rfl,N⟩⟩
 have hz:(Jl [] m).length<=aH:=by
  have h1:=yC m [];rw [du] at h1;rw [iB];omega
 have he: ∃q,h'.get? s.heap.objs.size=some q:=let ⟨q,_,_,hq,_⟩:=n;⟨q,hq⟩
 exact Wy v (by rw [e];exact l0) hs he (K9 hz Y (U.merge .nil) n)
structure M1 (X:Cx) (o:Expr) (m:Str) (apos:Pos) (e:Expr) (fL:Pos):Prop where
 ae:lx o m X.env (eval o X.env)=eval o X.env
 o7:((eA fL (bj [e] X.env)).all (λx=>!x.1)&&(l7 fL (l8 [] X.env)).all (λx=>x.1.isSome)
  &&decide (([e]:List Expr).length+([]:List la).length+(if ([]:List la).isEmpty then 0 else 1)<30))=true
 line:(apos.endLine==fL.line)=true
 trees:eA fL (bj [e] X.env)=[(false,eval e X.env)]
structure M2 (X:Cx) (o:Expr) (m:Str) (apos:Pos) (e f:Expr) (fL:Pos):Prop where
 ae:lx o m X.env (eval o X.env)=eval o X.env
 o7:((eA fL (bj [e,f] X.env)).all (λx=>!x.1)&&(l7 fL (l8 [] X.env)).all (λx=>x.1.isSome)
  &&decide (([e,f]:List Expr).length+([]:List la).length+(if ([]:List la).isEmpty then 0 else 1)<30))=true
 line:(apos.endLine==fL.line)=true
 trees:eA fL (bj [e,f] X.env)=[(false,eval e X.env),(false,eval f X.env)]
section
variable {X:Cx} {pins:List (Addr×Obj)} {σ:St} {H:Hp} {s:az} {a:Addr} {y d:V} {u r:Value} {o:Option V} {A:bp} {E:UO}
def Nu {Q:UO} (N:A.units+20<cLine) (I:aw X pins σ H s) (g:gz H a y o) (p:aE y u) (q:aE d r) (h: ∀v w,aw X pins σ H w->aE (o.getD d) v->Q v w):
   wpAny (model X.prog X.w) A (call (.builtin "dict.get") [.ref a,u,r]) Q E s:=by
 rcases g with ⟨m,k,e,x,l⟩| ⟨m,k,e,B,l⟩
 . subst x;obtain ⟨z,n,O,c,i⟩:=YJ I.aM e;refine call_meetsIn ES i.typeIs PySem.F.entry_dict_get (PySem.F.args_dict_get_3 _ _ _) (meets_dict_get_default (qF X.prog X.w) a (vi p) n r) ⟨_,i.mapOf,h _ _ (I.tok _) ?_⟩;rw [l];exact (c.val k).getD q
 . have J:=xg I.aM B p;obtain ⟨z,n,L,c,i⟩:=ud I.aM e;refine call_meetsIn ES i.typeIs PySem.F.entry_dict_get (PySem.F.args_dict_get_3 _ _ _) (M.meets_get2 n r) ⟨by omega,k,L,J,i,λt=>h _ _ (I.tok _) ?_⟩;rw [l];exact (c.val k).getD q
end
section
variable {X:Cx} {pins:List (Addr×Obj)} {σ:St} {H:Hp} {s:az} {a:Addr} {kvs:List (aT×V)} {A:bp} {E:UO}
def Nv {Q:UO} (I:aw X pins σ H s) (e:Rd H a (.dK kvs)) (h: ∀p g,H p=none->aw X pins σ (ay H p (.dK kvs)) g->Q (.ref p) g):wpAny (model X.prog X.w) A (call (.type "dict") [.ref a]) Q E s:=by
 obtain ⟨z,l,r,c,m⟩:=YJ I.aM e;refine kt_call_dict l m (by rw [<-c.length];exact z) λu d n=>?_
 refine h _ _ (I.aM.fresh (aS _)) (I.laid (a:=s.heap.objs.size) (o:= .dK kvs) (t':=s.toks) (λb q i=>?_) (aS _) (K9 z (beq_eq_false_iff_ne.mpr (fH (cj I.big))) c d));exact (n.2 b (cj (bw i))).trans (bu _ i)
end
end L2
namespace Att
open PySem PySem.W PySem.Calls PyProof.Rows
def Qc {P:Params} {h:Heap}: ∀(c:List Int) (d:List Value),WellAll P h d (c.map WData.int)->oQ d c:=by
 intro c
 induction c with
 |nil=>
  intro d w;cases w;exact .nil
 |cons n c e=>
  intro d w
  cases w with
  |cons a b=>
   cases a;exact .cons _ _ (e _ b)
def UN {l:AW} {n:Nat} (x:l.most=some n) {P:Params} {h:Heap} {args:List WData} {c:List Value}
  (e:l.row.toRowW.claim.pre args=true) (p:WellAll P h c args):
  ∃a w g,c=[cX a]/\args=[WData.list (g.map WData.int)]/\h.get? a=some {cls:= .type "list",data:= .seq w.toArray}/\oQ w g/\g.length<=n:=by
 have u:=(pre_splitW e).1;have y:l.pre.holds [] {args:=args}=true:=(pre_splitW e).2;obtain ⟨d,r,rfl,z,B⟩:=hasAllW_cons u;obtain rfl:=hasAllW_nil B;obtain ⟨L,rfl,E⟩:=hasW_list z;obtain ⟨g,rfl⟩:=items_int E
 have i:g.length<=n:=by
  have o:(WTm.not (.lt (.lit (.int n)) (.len (.arg 0)))).holds [] {args:=[.list (g.map .int)]}=true:=by
   have o:=(holds_andW y).1;rw [x] at o;exact o
  have v:=condW_of o (w_not (w_lt w_lit (w_len_list (w_arg rfl))));refine CT λq=>?_
  first
   | (rw [decide_eq_true N] at v;exact absurd v (by decide))
   | (simp at v;omega)
 cases p with
 |cons H I=>
  cases I
  cases H with
  |list J m=>exact ⟨_,_,g,rfl,rfl,J,Qc g _ m,i⟩
def U7 (l:AW) (args:List WData):l.row.toRowW.claim.post args (.bool true) args=true:=
 postW_of
  (by first|rfl|decide|simp [WShape.has,WShape.arms,WShape.armsAll])
  (w_eq_bool (w_res rfl) w_lit) rfl
end Att
namespace L2
open PySem PySem.Spec PyProof.Rows
theorem WP: ∀ {a:List Value} {c:List Int},oQ a c->aI (c.map V.int) a
 |_,_,.nil=> .nil
 |_,_,.cons n t h=> .cons ⟨t,rfl⟩ (WP h)
def sL (H:Hp):Prop:= ∀b,H b=none\/ ∃o a,H b=some (.br o (.ah a))
def Nw {P:bn} {w:World} {K:aA} {mg mb:UQ} {CX:nh} {k:Nat} {fa a:Addr} {fd:l5} {x:Str} {sp:Sp} {c:az} {I:List Value} {J:List Int}
  (KX:K.In c.heap) (L:c.heap.Ns bY mg) (i:c.heap.Ns builtinsNs mb) (AX: ∀x:Str,x≠ "__name__" ->mb x=iz x) (N:c.heap.NoLimit) (hg:c.gens= #[])
  (ha:c.heap.get? a=some {cls:= .type "list",data:= .seq I.toArray}) (hi:oQ I J) (hl:J.length<=aH) (hr:aL k callerA)
  (F: ∀l:Heap,K.In l->l.Ns bY mg->bS P w K mg l CX k fa fd [x] sp) (E: ∀(s:az) (u:Value),BindsTo s fd ⟨[u],[]⟩ [(x,u)])
  (Nx: ∀H:Hp,sL H->c9 K H a (J.map V.int)->sp [.ref a] H (λv _=>v= .bl true) λ_ _ _=>False)
  (Ny: ∀H e p,CX [] H c (λ_ _ _=>False) e p->False):
  k4 (model P w) callerA (.call (.ref fa) ⟨[.ref a],[]⟩) (λr p=>r= .ok (.ret (.bool true))/\OldK c.heap p.heap/\p.os=c.os/\pb p.gens) c:=by
 have rv:=WP hi;have O:=hi.length
 have B: ∀H:Hp,sL H->c9 K H a (J.map V.int)->dD P w H c.heap->(∀b,H b≠none->b=a)->(H a≠none->K.lookup a=none)->
    k4 (model P w) callerA (.call (.ref fa) ⟨[.ref a],[]⟩) (λr p=>r= .ok (.ret (.bool true))/\OldK c.heap p.heap/\p.os=c.os/\pb p.gens) c:=by
  intro H hO hS Q hA hK;have g: ∀ {b:Addr} {o:Obj},c.heap.get? b=some o->H b=none->(iJ c.heap H).get? b=some o:=λe n=>L7 e n
  have rj: ∀ {b:Addr} {o:Obj} {es:Array DictEntry} {ep:Nat},c.heap.get? b=some o->o.data= .dict es ep->H b=none:=λ{b o es ep} e d=>by
    cases q:H b with
    |none=>rfl
    |some u=>
      have e':=hA b (by rw [q];simp);subst e';rw [ha] at e;cases e;have d':=d;cases d'
  have y: ∀ {b:Addr} {m:UQ},c.heap.Ns b m->(iJ c.heap H).Ns b m:=λ{b m} ⟨o,es,ep,e,d,r⟩=>⟨o,es,ep,g e (rj e d),d,r⟩
  have U:K.In (iJ c.heap H):=λb o e=>g (KX b o e) (by
    cases q:H b with
    |none=>rfl
    |some u=>
      have e':=hA b (by rw [q];simp);subst e'
      rw [hK (by rw [q];simp)] at e;cases e)
  have hM:Mod K mg (iJ c.heap H):=⟨U,y L,⟨mb,y i,AX⟩,let ⟨mc,h1,h2⟩:=N;⟨mc,y h1,h2⟩⟩
  refine vL ((F _ U (y L)).run callerA [] c H ⟨[.ref a],[]⟩ [.ref a] [.ref a] _ _ hr (⟨rfl,hM,λb o e=>L8 e,Nat.le_of_eq (vC _ _),trivial,λb i=>absurd (show b∈([]:List Addr) from i) (by simp),Q,.of_eq hg⟩) (E c (.ref a)) (.cons rfl .nil) (Nx H hO hS)) λr p h=>?_
  cases r with
  |error e=>exact (Ny H e p h).elim
  |ok fl=>
    cases fl with
    |next=>exact mD h
    |brk=>exact mD h
    |cont=>exact mD h
    |ret u=>
      obtain ⟨v,H',os,bare,un,Y,r',q⟩:=h;have q':=q;subst q';obtain rfl:u=m8 true:=r';refine ⟨rfl,OldK.of_keep λb o e=>?_,os,bare⟩
      cases q:H b with
      |none=>exact un.keep b o e q (by intro z;exact absurd (show b∈([]:List Addr) from z) (by simp)) (by simp)
      |some u=>
       rcases hO b with z| ⟨ob,xs,z⟩
       . rw [q] at z;cases z
       . have z2:=un.eC b ob _ z;obtain ⟨e1,_⟩:=Q b _ z;obtain ⟨e2,_⟩:=Y b _ z2;rw [e] at e1;cases e1;exact e2
 cases hk:K.lookup a with
 |some o=>
  have e:=KX a o hk;rw [ha] at e;cases e;refine B (λ_=>none) (λ_=> .inl rfl) (.inr ⟨_,I.toArray,_,hk,rfl,rfl,rfl,by rw [cn,O];exact hl,by simpa using rv⟩) (λb u z=>by have z':none=some u:=z;cases z') (λb z=>absurd rfl z) λz=>absurd rfl z
 |none=>
  refine B (λb=>if b=a then some (.br {cls:= .type "list",data:= .seq I.toArray} (.ah (J.map V.int))) else none) (λb=>?_) (.inl (.inr ⟨{cls:= .type "list",data:= .seq I.toArray},if_pos rfl⟩)) (λb u z=>?_) (λb z=>?_) λ_=>hk
  . by_cases i:b=a
    . exact .inr ⟨_,_,if_pos i⟩
    . exact .inl (if_neg i)
  . by_cases i:b=a
    . have z':=(if_pos i).symm.trans z;cases z';subst i;exact ⟨ha,by rw [bN];exact hl,I,_,rv,ha⟩
    . have z':=(if_neg i).symm.trans z;cases z'
  . by_cases i:b=a
    . exact i
    . exact absurd (if_neg i) z
def yZ (s:Stmt) (j:Nat):Stmt:=match s with
 | .ClassDef _ _ _ a _ _ _ _ _ _ _=>a.getD j (.Pass ⟨0,0,0,0⟩)
 |_=> .Pass ⟨0,0,0,0⟩
def xB (s:Stmt):Arguments:=match s with
 | .FunctionDef _ a _ _ _ _ _ _ _ _=>a
 |_=> {posonlyargs:=[],args:=[],vararg:=none,kwonlyargs:=[],kw_defaults:=[],kwarg:=none,defaults:=[]}
def qj (s:Stmt):List Stmt:=match s with
 | .FunctionDef _ _ b _ _ _ _ _ _ _=>b
 |_=>[]
def jf (s:Stmt):Scope:=match s with
 | .FunctionDef _ _ _ _ _ _ a _ _ _=>a
 |_=> {kind:= .function,names:=[],isGenerator:=false,isCoroutine:=false}
abbrev eG:nh:=λ_ _ _ _ _ _=>False
abbrev E0:XK:=λ_ _ _=>False
def ZR {X:Cx}:yN eG X E0:=λ_ _ _ _ _ _ _ h=>h.elim
structure iR (K:aA) (x qual:Str) (st:Stmt) (f:Addr) (fd:l5):Prop where
 ex: ∃(oc:Value) (od:Option Addr) (kV doc pm:Value) (an:Option Addr) (wp ct:Value) (EJ:Array (Option Value)),
  fd=oN x qual (xB st) (qj st) (jf st) .none kV doc pm an wp ct/\K.lookup f=some ⟨oc,od,.func fd,EJ⟩/\vM K wp qual=true
 kp:iP K (.ref f)=true
section
variable {P:bn} {w:World} {K:aA} {mg:UQ} {ae:Heap}
def iR.ok {x a:Str} {st:Stmt} {f:Addr} {n:l5} {N g:List Str} {k:Nat} {i:Sp} (F:iR K x a st f n) (S:ax N g (jf st)) (len: ∀d H Q E,i d H Q E->d.length=g.length)
  (e: ∀(c:Value) (A:bp) (outer:List Env) (s:az) (H:Hp) (d:List V) (Q:VK) (E:XK),aL k (A.deeper (gm a (jf st) s.heap.objs.size f c))->i d H Q E->
   ∃t,fw (cO eG P w K mg ae N a (jf st) f c A outer s H E).iL (qj st) t/\t {nx:=λ_ o=>Q .aV o,rt:=Q} (start N d) H):bS P w K mg ae eG (k+1) f n g i:=by
 obtain ⟨v,y,kV,p,z,B,c,ct,r,rfl,lk,l⟩:=F.ex;refine MZ lk l S len λA outer s H d Q E u m=>?_
 obtain ⟨t,h,q⟩:=e c A outer s H d Q E u m;exact ⟨t,h.iL,q⟩
def iR.binds {x a:Str} {st:Stmt} {f:Addr} {m:l5} {e:List Str} (F:iR K x a st f m)
  (h: ∀(kV c g:Value) (i:Option Addr) (d ct:Value) (l:List Value),l.length=e.length->bindArgs (oN x a (xB st) (qj st) (jf st) .none kV c g i d ct) ⟨l,[]⟩=pure (e.zip l)):Binds K m e []:=by
 obtain ⟨p,q,kV,c,g,i,d,ct,n,rfl,lk,o⟩:=F.ex;exact .all (h kV c g i d ct)
def HD {x a:Str} {st:Stmt} {f:Addr} {n:Value} {o h:Option Addr} {g:Array (Option Value)} {kV e i d m:Value} (l:K.lookup f=some ⟨n,o,.func (oN x a (xB st) (qj st) (jf st) .none kV e i h d m),g⟩)
 (c:vM K d a=true) (k:iP K (.ref f)=true):iR K x a st f (oN x a (xB st) (qj st) (jf st) .none kV e i h d m):=⟨⟨n,o,kV,e,i,h,d,m,g,rfl,l,c⟩,k⟩
end
def wc {A:bp} {k:Nat} (a:aL k A):A.units+20<cLine:=by have:=a.units;omega
section
variable {X:Cx}
def XF:bi X (.builtin "len") (λd H Q=> ∃a c,d=[V.ref a]/\H a=some (.dK c)/\Q (.int c.length) H):=by
 intro e s m H d n Q I r h;obtain ⟨a,c,rfl,g,q⟩:=h;obtain ⟨u,rfl,i⟩:=x3 r;cases i;exact Nj I (.inl g) λt o l=>⟨.int c.length,H,l,⟨t,rfl⟩,q⟩
end
def ap (H a:Hp):Prop:= ∀b o,H b=some o->a b=some o
def ap.refl (H:Hp):ap H H:=λ_ _ h=>h
def ap.trans {H d e:Hp} (a:ap H d) (b:ap d e):ap H e:=λc o h=>b c o (a c o h)
def ap.free {H a:Hp} (e:ap H a) {l:Addr} (h:a l=Option.none):H l=Option.none:=by
 cases q:H l with
 |none=>rfl
 |some o=>
  rw [e l o q] at h;cases h
end L2
set_option autoImplicit true
set_option relaxedAutoImplicit true
local macro_rules|`(tactic|nomatch $x)=>`(tactic|with_unfolding_all exact $x)
namespace M
open PySem PySem.Spec L2
open PyProof.Rows hiding St
def bT {a:Scope} {x:Str} (h:(match a.names.lookup x with|some .local=>true|some .cell=>true|some .free=>true|_=>false)=true):dE a x:=by
 unfold dE
 cases e:a.names.lookup x with
 |none=>rw [e] at h;cases h
 |some k=>rw [e] at h;cases k<;>simp at h ⊢
def eI {a:Scope} {x:Str} (h:(match a.names.lookup x with|some .local=>true|some .cell=>true|_=>false)=true):L2.Loc a x:=by
 unfold L2.Loc
 cases e:a.names.lookup x with
 |none=>rw [e] at h;cases h
 |some k=>rw [e] at h;cases k<;>simp at h ⊢
inductive D where
 |aV|bl (b:Bool)|int (i:Int)|str (x:Str)
 |ar (ds:List D)|ah (ds:List D)|eJ (ds:List D)|aJ (ks:List aT) (vs:List D)|bO (ks:List NK) (vs:List D)|ia (c:Str)|bG (ks:List aT) (vs:List D)|dS (ks:List aT) (vs:List D)|obj (c:Str) (ns:List Str) (vs:List D)|mem (B:List NK) (Φ:NK->NV->Prop)|cx (ds:List D)
mutual
def D.eK:D->Bool
 | .aV=>true
 | .bl _=>true
 | .int _=>true
 | .str _=>true
 | .ar a=>D.bC a
 | .ah _=>false
 | .eJ _=>false
 | .aJ _ _=>false
 | .bO _ _=>false
 | .ia _=>true
 | .bG _ _=>false
 | .dS _ _=>false
 | .obj _ _ _=>false
 | .mem _ _=>false
 | .cx _=>false
def D.bC:List D->Bool
 | []=>true
 |d::a=>D.eK d&&D.bC a
end
inductive aq (α:Type) where
 |ok (a:α)
 |exc (c:Str)
 |aj
noncomputable def aq.bind {d e:Type} (r:aq d) (f:d->aq e):aq e:=
 match r with
 | .ok a=>f a
 | .exc c=> .exc c
 | .aj=> .aj
instance:Monad aq where
 pure:=aq.ok
 bind:=aq.bind
def jn {c d:Type} {a:c} {f:c->aq d}:(aq.ok a>>=f)=f a:=rfl
def ja {d e:Type} {r:aq d} {f:d->aq e} {b:e} (h:(r>>=f)= .ok b): ∃a,r= .ok a/\f a= .ok b:=by
 cases r with
 |ok a=>exact ⟨a,rfl,h⟩
 |exc c=>cases h
 |aj=>cases h
noncomputable def aK {a:Type} (c:Prop) [Decidable c] (r:aq a):aq a:=if c then r else .aj
def jl {e:Type} {c:Prop} [Decidable c] {r:aq e} {a:e} (h:aK c r= .ok a):c/\r= .ok a:=by
 unfold aK at h
 by_cases d:c
 . rw [if_pos d] at h;exact ⟨d,h⟩
 . rw [if_neg d] at h;cases h
def ji {a:Type} {c:Prop} [Decidable c] {r:aq a} (h:c):aK c r=r:=if_pos h
def nO (K:aA) (H:Hp) (a:Addr) (d:List V):Prop:=
 (∃o,H a=some (.br o (.ah d)))\/
  ∃(o:Obj) (c:Array Value) (n:Nat),K.lookup a=some o/\o.cls= .type "list" /\o.dict=none/\o.data= .seq c n/\c.size<=aH/\aI d c.toList
def nO.np {K:aA} (h:nO K H a c):c9 K H a c:=by
 rcases h with h|h
 . exact .inl (.inr h)
 . exact .inr h
def gc:D->List D
 | .ar a=>a
 |_=>[]
def AY (K:aA) (a:List (Addr×List V)) (ds:List D):Prop:=a.map (λr=>r.2.length)=ds.map (λd=>(gc d).length)/\ ∀C r,a=(C,[])::r->cE K bY "Joining" =some (some (.ref C))
mutual
inductive aD (K:aA):(Addr->Prop)->Hp->V->D->Prop where
 |aV {A H}:aD K A H .aV .aV
 |bl {A H} (b:Bool):aD K A H (.bl b) (.bl b)
 |int {A H} (i:Int):aD K A H (.int i) (.int i)
 |str {A H} (x:Str):x.length<=aH->aD K A H (.str x) (.str x)
 |ar {A H} {a:Addr} {xs:List V} {ds:List D}:H a=some (.ar xs)->am K A H xs ds->aD K A H (.ref a) (.ar ds)
 |ah {A H} {a:Addr} {xs:List V} {ds:List D}:H a=some (.ah xs)->A a->am K (λc=>A c/\c≠a) H xs ds->aD K A H (.ref a) (.ah ds)
 |EU {A H} {a:Addr} {xs:List V} {ds:List D}:nO K H a xs->am K A H xs ds->aD K A H (.ref a) (.eJ ds)
 |aJ {A H} {a:Addr} {kvs:List (aT×V)} {vs:List V} {ks:List aT} {ds:List D}:H a=some (.dK kvs)->A a->kvs.map (·.1)=ks->kvs.map (·.2)=vs->am K (λc=>A c/\c≠a) H vs ds->aD K A H (.ref a) (.aJ ks ds)
 |bO {A H} {a:Addr} {kvs:List (NK×V)} {vs:List V} {ks:List NK} {ds:List D}:H a=some (.dT kvs)->A a->kvs.map (·.1)=ks->kvs.map (·.2)=vs->am K (λc=>A c/\c≠a) H vs ds->aD K A H (.ref a) (.bO ks ds)
 |ia {A H} {a b C:Addr} {o:Obj} {c:Str}:H a=some (.br o (.ag b))->o.cls= .ref C->cE K bY c=some (some (.ref C))->aD K A H (.ref a) (.ia c)
 |bG {A H} {a:Addr} {kvs:List (aT×V)} {vs:List V} {ks:List aT} {ds:List D}:((H a=some (.dK kvs)/\A a)\/ ∃o,H a=some (.br o (.dK kvs)))->kvs.map (·.1)=ks->kvs.map (·.2)=vs->am K (λc=>A c/\c≠a) H vs ds->aD K A H (.ref a) (.bG ks ds)
 |dS {A H} {a:Addr} {kvs:List (aT×V)} {vs:List V} {ks:List aT} {ds:List D}:(∃o,H a=some (.br o (.dK kvs)))->kvs.map (·.1)=ks->kvs.map (·.2)=vs->am K (λc=>A c/\c≠a) H vs ds->aD K A H (.ref a) (.dS ks ds)
 |obj {A H} {a C dx:Addr} {fs:List (Str×V)} {vs:List V} {c:Str} {ns:List Str} {ds:List D}:H a=some (.ins C dx fs)->A a->(cE K bY c=some (some (.ref C))/\fs.map (·.1)=ns)->fs.map (·.2)=vs->am K (λc=>A c/\c≠a) H vs ds->aD K A H (.ref a) (.obj c ns ds)
 |mem {A H} {a:Addr} {B:List NK} {Φ:NK->NV->Prop}:H a=some (.memo B Φ)->A a->aD K A H (.ref a) (.mem B Φ)
 |cx {A H} {a:Addr} {rs:List (Addr×List V)} {ds es:List D}:H a=some (.cx rs)->A a->AY K rs ds->ds.flatMap gc=es->am K (λc=>A c/\c≠a) H (rs.flatMap (·.2)) es->aD K A H (.ref a) (.cx ds)
inductive am (K:aA):(Addr->Prop)->Hp->List V->List D->Prop where
 |nil {A H}:am K A H [] []
 |cons {A H} {v:V} {d:D} {vs:List V} {ds:List D}:aD K A H v d->am K A H vs ds->am K A H (v::vs) (d::ds)
end
def eL (A:UP) (H c:Hp):Prop:= ∀a o,H a=some o->(ky (some o)->A a)->c a=some o
def eL.mono (h:eL A H c) (w: ∀a,B a->A a):eL B H c:=λa o e m=>h a o e λz=>w a (m z)
section
variable {K:aA}
def nO.aP (h:nO K H a c) (st:eL A H Q):nO K Q a c:=by
 rcases h with ⟨o,e⟩|h
 . exact .inl ⟨o,st a _ e (λz=>z.elim)⟩
 . exact .inr h
def am.aP (r:am K A H g ds):eL A H Q->(∀a,A a->c a)->am K c Q g ds:=by
 refine am.rec (motive_1:=λA H v d _=> ∀B:Addr->Prop,eL A H Q->(∀a,A a->B a)->aD K B Q v d) (λ_ _ _=> .aV) (λb _ _ _=> .bl b) (λi _ _ _=> .int i) (λx h _ _ _=> .str x h) (λe _ r _ s w=> .ar (s _ _ e λz=>z.elim) (r _ s w)) (λe a _ r _ s w=> .ah (s _ _ e λ_=>a) (w _ a) (r _ ?_ ?_)) (λe _ r _ s w=> .EU (e.aP s) (r _ s w)) (λe a k l _ r _ s w=> .aJ (s _ _ e λ_=>a) (w _ a) k l (r _ ?_ ?_)) (λe a k l _ r _ s w=> .bO (s _ _ e λ_=>a) (w _ a) k l (r _ ?_ ?_)) (λe k l _ s w=> .ia (s _ _ e λz=>z.elim) k l) (λe k l _ r _ s w=> .bG (e.elim (λz=> .inl ⟨s _ _ z.1 λ_=>z.2,w _ z.2⟩) (λz=>z.elim λ_ z=> .inr ⟨_,s _ _ z λz=>z.elim⟩)) k l (r _ ?_ ?_)) (λe k l _ r _ s w=> .dS (e.elim λ_ z=>⟨_,s _ _ z λz=>z.elim⟩) k l (r _ ?_ ?_)) (λe a k l _ r _ s w=> .obj (s _ _ e λ_=>a) (w _ a) k l (r _ ?_ ?_)) (λe a _ s w=> .mem (s _ _ e λ_=>a) (w _ a)) (λe a k l _ r _ s w=> .cx (s _ _ e λ_=>a) (w _ a) k l (r _ ?_ ?_)) (λ_ _ _=> .nil) (λ_ _ h t _ s w=> .cons (h _ s w) (t _ s w)) r c
 any_goals exact s.mono λ_ z=>z.1
 all_goals exact λ_ z=>⟨w _ z.1,z.2⟩
def aD.aP (r:aD K A H v d) (s:eL A H Q) (w: ∀a,A a->c a):aD K c Q v d:=by
 cases am.aP (.cons r .nil) s w;assumption
def ap.aP (h:ap H Q):eL A H Q:=λa o e _=>h a o e
variable {A A':UP} {H Q:Hp}
def aD.ao (r:aD K A H v d) (h:ap H Q):aD K A Q v d:=r.aP (ap.aP h) λ_ z=>z
def am.ao (r:am K A H v d) (h:ap H Q):am K A Q v d:=r.aP (ap.aP h) λ_ z=>z
def aD.aG (r:aD K A H v d) (w: ∀a,A a->A' a):aD K A' H v d:=r.aP (λ_ _ e _=>e) w
def am.aG (r:am K A H v d) (w: ∀a,A a->A' a):am K A' H v d:=r.aP (λ_ _ e _=>e) w
def am.eK (r:am K A H a ds):D.bC ds=true->am K A' H a ds:=by
 refine am.rec (motive_1:=λ_ H v d _=>d.eK=true->aD K A' H v d) (λ_=> .aV) (λb _=> .bl b) (λi _=> .int i) (λx h _=> .str x h) (λe _ r i=> .ar e (r i)) ?_ ?_ ?_ ?_ (λe k l _=> .ia e k l) ?_ ?_ ?_ ?_ ?_ (λ_=> .nil) (λ_ _ h t i=>?_) r
 case refine_10=>simp only [D.bC,dj] at i;exact .cons (h i.1) (t i.2)
 all_goals intros;rename_i i;cases i
def aD.eK (r:aD K A H v d) (i:d.eK=true):aD K A' H v d:=by
 cases am.eK (.cons r .nil) (by simp [D.bC,i]);assumption
def am.cq (r:am K A H (v::c) ds): ∃d a,ds=d::a/\aD K A H v d/\am K A H c a:=by
 cases r with
 |cons r t=>exact ⟨_,_,rfl,r,t⟩
def am.md (r:am K A H c (d::ds)): ∃v a,c=v::a/\aD K A H v d/\am K A H a ds:=by
 cases r with
 |cons r t=>exact ⟨_,_,rfl,r,t⟩
def am.EV (r:am K A H a []):a=[]:=by cases r;rfl
def am.eM (r:am K A H [] ds):ds=[]:=by cases r;rfl
def am.length (r:am K A H a ds):a.length=ds.length:=by
 induction a generalizing ds with
 |nil=>cases r.eM;rfl
 |cons v a c=>
  obtain ⟨_,_,rfl,_,t⟩:=r.cq;simp [c t]
def am.get {i:Nat} (r:am K A H a ds) (e:ds[i]?=some d): ∃v,a[i]?=some v/\aD K A H v d:=by
 induction a generalizing ds i with
 |nil=>cases r.eM;simp at e
 |cons v a c=>
  obtain ⟨_,_,rfl,r,t⟩:=r.cq
  cases i with
  |zero=>simp at e;subst e;exact ⟨_,rfl,r⟩
  |succ i=>simpa using c t (by simpa using e)
def am.get' {i:Nat} (r:am K A H a ds) (e:a[i]?=some v): ∃d,ds[i]?=some d/\aD K A H v d:=by
 induction a generalizing ds i with
 |nil=>simp at e
 |cons v a c=>
  obtain ⟨_,_,rfl,r,t⟩:=r.cq
  cases i with
  |zero=>simp at e;subst e;exact ⟨_,rfl,r⟩
  |succ i=>simpa using c t (by simpa using e)
def am.append (r:am K A H a ds) (s:am K A H c d):am K A H (a++c) (ds++d):=by
 induction a generalizing ds with
 |nil=>cases r.eM;exact s
 |cons v a e=>
  obtain ⟨_,_,rfl,r,t⟩:=r.cq;exact .cons r (e t)
def am.take (n:Nat) (r:am K A H a ds):am K A H (a.take n) (ds.take n):=by
 induction a generalizing ds n with
 |nil=>cases r.eM;simpa using .nil
 |cons v a c=>
  obtain ⟨_,_,rfl,r,t⟩:=r.cq
  cases n with
  |zero=>exact .nil
  |succ n=>exact .cons r (c n t)
def am.drop (n:Nat) (r:am K A H a ds):am K A H (a.drop n) (ds.drop n):=by
 induction a generalizing ds n with
 |nil=>cases r.eM;simpa using .nil
 |cons v a c=>
  cases n with
  |zero=>exact r
  |succ n=>
   obtain ⟨_,_,rfl,r,t⟩:=r.cq;exact c n t
def am.dropLast (r:am K A H a ds):am K A H a.dropLast ds.dropLast:=by
 rw [List.dropLast_eq_take,List.dropLast_eq_take,r.length];exact r.take _
def am.isEmpty (r:am K A H a ds):ds.isEmpty=a.isEmpty:=by cases r<;>rfl
def gA (K:aA) (A:UP) (H:Hp) (v:V):D->Prop
 | .aV=>v= .aV
 | .bl b=>v= .bl b
 | .int i=>v= .int i
 | .str x=>v= .str x/\x.length<=aH
 | .ar e=> ∃a g,v= .ref a/\H a=some (.ar g)/\am K A H g e
 | .ah e=> ∃a g,v= .ref a/\H a=some (.ah g)/\A a/\am K (λc=>A c/\c≠a) H g e
 | .eJ e=> ∃a g,v= .ref a/\nO K H a g/\am K A H g e
 | .aJ ks e=> ∃a d,v= .ref a/\H a=some (.dK d)/\A a/\d.map (·.1)=ks/\am K (λc=>A c/\c≠a) H (d.map (·.2)) e
 | .bO ks e=> ∃a d,v= .ref a/\H a=some (.dT d)/\A a/\d.map (·.1)=ks/\am K (λc=>A c/\c≠a) H (d.map (·.2)) e
 | .ia c=> ∃a b C o,v= .ref a/\H a=some (.br o (.ag b))/\o.cls= .ref C/\cE K bY c=some (some (.ref C))
 | .bG ks e=> ∃a d,v= .ref a/\((H a=some (.dK d)/\A a)\/ ∃o,H a=some (.br o (.dK d)))/\d.map (·.1)=ks/\am K (λc=>A c/\c≠a) H (d.map (·.2)) e
 | .dS ks e=> ∃a d,v= .ref a/\(∃o,H a=some (.br o (.dK d)))/\d.map (·.1)=ks/\am K (λc=>A c/\c≠a) H (d.map (·.2)) e
 | .obj c l e=> ∃a C dx fs,v= .ref a/\H a=some (.ins C dx fs)/\A a/\cE K bY c=some (some (.ref C))/\fs.map (·.1)=l/\am K (λc=>A c/\c≠a) H (fs.map (·.2)) e
 | .mem B m=> ∃a,v= .ref a/\H a=some (.memo B m)/\A a
 | .cx e=> ∃a h,v= .ref a/\H a=some (.cx h)/\A a/\AY K h e/\am K (λc=>A c/\c≠a) H (h.flatMap (·.2)) (e.flatMap gc)
def aD.f (r:aD K A H v d):gA K A H v d:=by
 refine aD.casesOn (motive_1:=λA H v d _=>gA K A H v d) r rfl (λ_=>rfl) (λ_=>rfl) (λ_ h=>⟨rfl,h⟩) (λe r=>⟨_,_,rfl,e,r⟩) (λe h r=>⟨_,_,rfl,e,h,r⟩) (λe r=>⟨_,_,rfl,e,r⟩) (λe h k l r=>⟨_,_,rfl,e,h,k,l▸r⟩) (λe h k l r=>⟨_,_,rfl,e,h,k,l▸r⟩) (λe k l=>⟨_,_,_,_,rfl,e,k,l⟩) (λe k l r=>⟨_,_,rfl,e,k,l▸r⟩) (λe k l r=>⟨_,_,rfl,e,k,l▸r⟩) (λe h k l r=>⟨_,_,_,_,rfl,e,h,k.1,k.2,l▸r⟩) (λe h=>⟨_,rfl,e,h⟩) λe h k l r=>⟨_,_,rfl,e,h,k,l▸r⟩
def aD.cP (r:aD K A H v (.ah ds)): ∃a d,v= .ref a/\H a=some (.ah d)/\A a/\am K (λc=>A c/\c≠a) H d ds:=r.f
def aD.lB (r:aD K A H v (.eJ ds)): ∃a c,v= .ref a/\nO K H a c/\am K A H c ds:=r.f
def aD.dL (r:aD K A H v (.ar ds)): ∃a c,v= .ref a/\H a=some (.ar c)/\am K A H c ds:=r.f
def aD.cb (r:aD K A H v (.int i)):v= .int i:=r.f
def aD.rz (r:aD K A H v (.bl b)):v= .bl b:=r.f
def aD.lC (r:aD K A H v (.str x)):v= .str x/\x.length<=aH:=r.f
def aD.pH (r:aD K A H v .aV):v= .aV:=r.f
def am.low (r:am K (λc=>A c/\c≠a) H d ds):am K A H d ds:=r.aG λ_ z=>z.1
def am.bq (r:am K A H d ds):am K (λc=>A c/\H c≠none) H d ds:=by
 refine am.rec .aV (λb=> .bl b) (λi=> .int i) (λx h=> .str x h) (λe _ r=> .ar e r) (λe a _ r=> .ah e ⟨a,?_⟩ ?_) (λe _ r=> .EU e r) (λe a k l _ r=> .aJ e ⟨a,?_⟩ k l ?_) (λe a k l _ r=> .bO e ⟨a,?_⟩ k l ?_) (λe k l=> .ia e k l) (λe k l _ r=> .bG (e.elim (λz=> .inl ⟨z.1,z.2,by simp [z.1]⟩) .inr) k l ?_) (λe k l _ r=> .dS e k l ?_) (λe a k l _ r=> .obj e ⟨a,?_⟩ k l ?_) (λe a=> .mem e ⟨a,by simp [e]⟩) (λe a k l _ r=> .cx e ⟨a,?_⟩ k l ?_) .nil (λ_ _ h t=> .cons h t) r
 any_goals exact r.aG λ_ z=>⟨⟨z.1.1,z.2⟩,z.1.2⟩
 all_goals simp [e]
def aD.bq (r:aD K A H v d):aD K (λc=>A c/\H c≠none) H v d:=by
 cases am.bq (.cons r .nil);assumption
def ap.ay (h:H p=none):ap H (L2.ay H p o):=λb u e=>by rw [jp (qu e h)];exact e
def am.laid (r:am K A H d ds) (a:H p=none):am K (λc=>A c/\c≠p) (L2.ay H p o) d ds:=
 (r.bq.ao (ap.ay a)).aG λc z=>⟨z.1,λe=>z.2 (by rw [e];exact a)⟩
end
inductive Slot where
 |un
 |ag (d:D)
 |ab (d:D)
abbrev Sl:=List Slot
def jS (env:Sl) (c:St) (a:Addr):Prop:= ∃(i:Nat) (d:D),env[i]?=some (.ag d)/\c[i]?=some (some (.ref a))
abbrev EW (env:Sl) (c:St):Addr->Prop:=λa=> ¬jS env c a
abbrev Sf (G:UP) (env:Sl) (c:St):Addr->Prop:=λa=> ¬jS env c a/\G a
inductive Top (K:aA) (A:UP) (H:Hp) (a:Addr):D->Prop where
 |ah {xs:List V} {ds:List D}:H a=some (.ah xs)->am K A H xs ds->Top K A H a (.ah ds)
 |aJ {kvs:List (aT×V)} {vs:List V} {ks:List aT} {ds:List D}:H a=some (.dK kvs)->kvs.map (·.1)=ks->kvs.map (·.2)=vs->am K A H vs ds->Top K A H a (.aJ ks ds)
 |bO {kvs:List (NK×V)} {vs:List V} {ks:List NK} {ds:List D}:H a=some (.dT kvs)->kvs.map (·.1)=ks->kvs.map (·.2)=vs->am K A H vs ds->Top K A H a (.bO ks ds)
 |obj {C dx:Addr} {fs:List (Str×V)} {vs:List V} {c:Str} {ns:List Str} {ds:List D}:H a=some (.ins C dx fs)->(cE K bY c=some (some (.ref C))/\fs.map (·.1)=ns)->fs.map (·.2)=vs->am K A H vs ds->Top K A H a (.obj c ns ds)
 |cx {rs:List (Addr×List V)} {ds es:List D}:H a=some (.cx rs)->AY K rs ds->ds.flatMap gc=es->am K A H (rs.flatMap (·.2)) es->Top K A H a (.cx ds)
def Top.rep {K:aA} (t:Top K A H a d) (w: ∀b,A b->i b/\b≠a) (h:i a):aD K i H (.ref a) d:=by
 cases t with
 |ah e r=>exact .ah e h (r.aG w)
 |aJ e c g r=>exact .aJ e h c g (r.aG w)
 |bO e c g r=>exact .bO e h c g (r.aG w)
 |obj e c g r=>exact .obj e h c g (r.aG w)
 |cx e c g r=>exact .cx e h c g (r.aG w)
def Top.aP {K:aA} (t:Top K A H a d) (st:eL A H i) (w: ∀b,A b->l b) (h: ∀o,H a=some o->i a=some o):Top K l i a d:=by
 cases t with
 |ah e r=>exact .ah (h _ e) (r.aP st w)
 |aJ e c g r=>exact .aJ (h _ e) c g (r.aP st w)
 |bO e c g r=>exact .bO (h _ e) c g (r.aP st w)
 |obj e c g r=>exact .obj (h _ e) c g (r.aP st w)
 |cx e c g r=>exact .cx (h _ e) c g (r.aP st w)
def Top.there {K:aA} (t:Top K A H a d): ∃o,H a=some o/\ky (some o):=by
 cases t with
 |ah e r=>exact ⟨_,e,trivial⟩
 |aJ e _ _ r=>exact ⟨_,e,trivial⟩
 |bO e _ _ r=>exact ⟨_,e,trivial⟩
 |obj e _ _ r=>exact ⟨_,e,trivial⟩
 |cx e _ _ r=>exact ⟨_,e,trivial⟩
structure au (K:aA) (G:UP) (H0:Hp) (env:Sl) (σ:St) (H:Hp):Prop where
 len:σ.length=env.length
 ae:ap H0 H
 g0: ∀a,H0 a=none->G a
 ab: ∀(i:Nat) (d:D),env[i]?=some (.ab d)-> ∃v,σ[i]?=some (some v)/\aD K (Sf G env σ) H v d
 ag: ∀(i:Nat) (d:D),env[i]?=some (.ag d)-> ∃a,σ[i]?=some (some (.ref a))/\H0 a=none/\Top K (Sf G env σ) H a d
 mL: ∀(i j:Nat) (d e:D) (a:Addr),env[i]?=some (.ag d)->env[j]?=some (.ag e)->σ[i]?=some (some (.ref a))->σ[j]?=some (some (.ref a))->i=j
section
variable {K:aA} {G:UP} {H0 H H':Hp} {env:Sl} {w:St}
def au.ao (e:au K G H0 env w H) (h:ap H H'):au K G H0 env w H' where
 len:=e.len
 ae:=e.ae.trans h
 g0:=e.g0
 ab:=λi d z=>let ⟨v,h1,h2⟩:=e.ab i d z;⟨v,h1,h2.ao h⟩
 ag:=λi d z=>let ⟨a,h1,h2,c⟩:=e.ag i d z;⟨a,h1,h2,c.aP (ap.aP h) (λ_ z=>z) (λo q=>h _ o q)⟩
 mL:=e.mL
def au.there (e:au K G H0 env w H) (o:jS env w a): ∃u,H a=some u:=by
 obtain ⟨i,d,h1,h2⟩:=o;obtain ⟨b,c,_,g⟩:=e.ag i d h1;rw [h2] at c;cases c;obtain ⟨u,h,_⟩:=g.there;exact ⟨u,h⟩
def au.lD (k:au K G H0 env w H) {a:Addr} (o:jS env w a) {u:HO} (e:H a=some u):ky (some u):=by
 obtain ⟨i,d,h1,h2⟩:=o;obtain ⟨b,c,_,h⟩:=k.ag i d h1;rw [h2] at c;cases c;obtain ⟨l,g,m⟩:=h.there;rw [e] at g;cases g;exact m
def au.new (k:au K G H0 env w H): ∀a,H a=none->Sf G env w a:=λa z=>⟨λo=>(by
 obtain ⟨u,q⟩:=k.there o
 rw [z] at q;cases q),k.g0 a (ap.free k.ae z)⟩
end
inductive Lv where
 |b|s|t
abbrev Any:Addr->Prop:=λ_=>True
def Lv.A (l:Lv) (G:UP) (env:Sl) (a:St):Addr->Prop:=
 match l with
 | .b=>Any
 | .s=>Sf G env a
 | .t=>Sf G env a
def be (H:Hp) (v:V):Prop:= ∀a,v= .ref a-> ∀o,H a=some o-> ¬ky (some o)
def Lv.T (l:Lv) (H:Hp) (v:V):Prop:=
 match l with
 | .t=>be H v
 |_=>True
def be.ao (h:ap H c) (n:be c v):be H v:=λa e o q=>n a e o (h a o q)
def Lv.nP {l:Lv} (h:ap H a) (n:l.T a v):l.T H v:=by
 cases l with
 |t=>exact be.ao h n
 |b=>trivial
 |s=>trivial
def tE (K:aA) (l:Lv) (f:Sl->aq D):TE:=λe H Q=> ∃G g a d,au K G g a e H/\f a= .ok d/\ ∀v c,ap H c->aD K (l.A G a e) c v d->l.T H v->Q v c
def tT (K:aA) (f:Sl->aq Bool):TT:=λd H Q=> ∃G e a b,au K G e a d H/\f a= .ok b/\ ∀c,ap H c->Q b c
def tA (K:aA) (l:Lv) (f:Sl->aq (List D)):TA:=λd H Q=> ∃G h a e,au K G h a d H/\f a= .ok e/\ ∀g c,ap H c->am K (l.A G a d) c g e->Q g c
@[irreducible] def DE (X:Cx) (l:Lv) (e:Expr) (f:Sl->aq D):Prop:=PE X e (tE X.K l f)
@[irreducible] def DT (X:Cx) (e:Expr) (f:Sl->aq Bool):Prop:=PT X e (tT X.K f)
@[irreducible] def DA (X:Cx) (l:Lv) (a:List Expr) (f:Sl->aq (List D)):Prop:=PA X a (tA X.K l f)
inductive bD where
 |nx (env:Sl)|rt (fr:Bool) (d:D)|bk (env:Sl)|ct (env:Sl)
abbrev T5:=Sl->aq D
abbrev T4:=Sl->aq Bool
abbrev T3:=Sl->aq bD
abbrev TZ:=Sl->aq (List D)
abbrev TY:=List D->aq D
abbrev TX:=D->Sl->aq Sl
structure bg (env:Sl) (σ:St) (H:Hp) (env':Sl) (ic:St) (H':Hp):Prop where
 keep: ∀b o,H b=some o-> ¬jS env σ b->H' b=some o
 more: ∀b,jS env' ic b->jS env σ b\/H b=none
 size: ∀b,H' b=none->H b=none
def sP (K:aA) (G:UP) (g:Hp) (env:Sl) (h:St) (H:Hp) (E:Ends) (o:bD):Prop:=
 match o with
 | .nx a=> ∀c e,au K G g a c e->bg env h H a c e->E.nx c e
 | .bk a=> ∀c e,au K G g a c e->bg env h H a c e->E.bk c e
 | .ct a=> ∀c e,au K G g a c e->bg env h H a c e->E.ct c e
 | .rt i d=> ∀v e,ap g e->aD K G e v d->(i=true->be g v)->E.rt v e
def tS (K:aA) (g:T3):TS:=λE c H=> ∃G d a o,au K G d a c H/\g a= .ok o/\sP K G d a c H E o
@[irreducible] def DS (X:Cx) (st:Stmt) (g:T3):Prop:=PS X st (tS X.K g)
@[irreducible] def iS (X:Cx) (st:List Stmt) (g:T3):Prop:=fw X st (tS X.K g)
section
variable {X:Cx} {e:Expr} {es:List Expr} {st:Stmt} {m:List Stmt}
def PE.imp (h:PE X e t) (w: ∀a H Q,d a H Q->t a H Q):PE X e d:=λc s a H Q I q=>h c s a H Q I (w a H Q q)
def PT.imp (h:PT X e t) (w: ∀a H Q,d a H Q->t a H Q):PT X e d:=λc s a H Q I q=>h c s a H Q I (w a H Q q)
def PA.imp (h:PA X es t) (w: ∀a H Q,g a H Q->t a H Q):PA X es g:=λd c s a H Q I q=>h d c s a H Q I (w a H Q q)
def PS.imp (h:PS X st t) (w: ∀E a H,d E a H->t E a H):PS X st d:=λc s a H E I q=>h c s a H E I (w E a H q)
def fw.imp (h:fw X m t) (w: ∀E a H,d E a H->t E a H):fw X m d:=λc s a H E I q=>h c s a H E I (w E a H q)
end
def bg.refl (h:ap H a):bg env c H env c a:=⟨λb o e _=>h b o e,λb o=> .inl o,λb e=>ap.free h e⟩
def bg.trans (a:bg env l H d h m) (b:bg d h m g i p):bg env l H g i p where
 keep:=λc o e n=>b.keep c o (a.keep c o e n) λz=>by
  rcases a.more c z with z|z
  . exact n z
  . rw [e] at z;cases z
 more:=λc o=>by
  rcases b.more c o with z|z
  . exact a.more c z
  . exact .inr (a.size c z)
 size:=λc e=>a.size c (b.size c e)
def bg.ao (h:ap H d) (b:bg env e d a c g):bg env e H a c g:=(bg.refl h).trans b
section
variable {X:Cx} {e:Expr} {f:T5}
def Lv.bv {l:Lv}: ∀a,l.A G env c a->Any a:=λ_ _=>trivial
def DE.b (h:DE X l e f):DE X .b e f:=by
 nomatch (PE.imp h λi H Q ⟨G,a,env,d,k,c,q⟩=>⟨G,a,env,d,k,c,λv g s r _=>q v g s (r.aG Lv.bv) trivial⟩)
def DE.s (h:DE X .t e f):DE X .s e f:=by
 nomatch (PE.imp h λi H Q ⟨G,a,env,d,k,c,q⟩=>⟨G,a,env,d,k,c,λv g s r _=>q v g s r trivial⟩)
def vz {K:aA} (s:ap H c) (r:aD K A c v d) (i:d.eK=true):be H v:=λa e o q m=>by
 subst e;have r:=r.f;cases d<;>try cases i
 . cases r
 . cases r
 . cases r
 . cases r.1
 . obtain ⟨_,_,e1,e,_⟩:=r;cases e1;rw [s _ _ q] at e;cases e;exact m
 . obtain ⟨_,_,_,_,e1,e,_⟩:=r;cases e1;rw [s _ _ q] at e;cases e;exact m
def fx (f:T5):Sl->aq D:=λa=>f a>>=λd=>aK (d.eK=true) (.ok d)
def DE.fx {l l':Lv} (h:DE X l e f):DE X l' e (fx f):=by
 nomatch (PE.imp h λn H Q=>by
  rintro ⟨G,a,env,d,k,c,q⟩;obtain ⟨o,e1,e2⟩:=ja c;obtain ⟨i,g⟩:=jl e2;cases g;refine ⟨G,a,env,d,k,e1,λv m s r _=>q v m s (r.eK i) ?_⟩
  cases l' with
  |t=>exact vz s r i
  |b=>trivial
  |s=>trivial)
end
def Z2:Expr->Bool
 | .Starred _ _=>false
 |_=>true
def jm (h:Z2 e=true):bj (e::a) env=(false,eval e env)::bj a env:=by
 cases e<;>first|rfl|cases h
def Kb (h:a.all Z2=true):(bj a env).all (λx=>!x.1)=true:=by
 induction a with
 |nil=>rfl
 |cons e r c=>
  rw [sQ,dj] at h;rw [jm h.1,sQ,c h.2];rfl
def Vj (h:l.all (λx=>!x.1)=true):(eA pos l).all (λx=>!x.1)=true:=by
 induction l with
 |nil=>rfl
 |cons p r a=>
  obtain ⟨s,t⟩:=p;rw [sQ,dj] at h;show ((!s)&&(eA pos r).all (λx=>!x.1))=true;rw [a h.2,Bool.and_true];exact h.1
def jK (h:c.all Z2=true):(eA a (bj c env)).any (·.1)=false:=by
 have:=Vj (pos:=a) (Kb (env:=env) h);rw [iE] at this;rw [List.any_eq_false];intro x d z;have q:=this x d;rw [z] at q;cases q
def yF (h:(e::c).all Z2=true) (d:decide ((e::c).length<30)=true):
  ((
   eA a (bj (e::c) env)).all (λx=>!x.1)&&(l7 a (l8 [] env)).all (λx=>x.1.isSome)
   &&decide ((e::c).length+([]:List la).length+(if ([]:List la).isEmpty then 0 else 1)<30))=true:=by
 have g:(l7 a (l8 [] env)).all (λx=>x.1.isSome)=true:=rfl;rw [Vj (Kb h),g];simpa using d
section
variable {X:Cx} {e a b c o:Expr} {U:List Expr} {Y:Pos} {l L J l':Lv} {f N O f3:T5}
def cI (i:Int):Sl->aq D:=λ_=> .ok (.int i)
def cB (b:Bool):Sl->aq D:=λ_=> .ok (.bl b)
def cN:Sl->aq D:=λ_=> .ok .aV
def cS (x:Str):Sl->aq D:=λ_=> .ok (.str x)
def af (i:Nat):Sl->aq D:=λg=>match g[i]? with
 |some (.ab d)=> .ok d
 |_=> .aj
def cJ (i:Nat):Sl->aq D:=λg=>match g[i]? with
 |some (.ab d)=> .ok d
 |some (.ag d)=> .ok d
 |_=> .aj
def UY (h:af i env= .ok d):env[i]?=some (.ab d):=by
 unfold af at h
 split at h
 . cases h;assumption
 . cases h
def X7 (h:cJ i env= .ok d):env[i]?=some (.ab d)\/env[i]?=some (.ag d):=by
 unfold cJ at h
 split at h
 . cases h;left;assumption
 . cases h;right;assumption
 . cases h
def Q7 {K:aA} {i:Nat} {a:Addr} (k:au K G n env g H) (h:env[i]?=some (.ag d)) (m:g[i]?=some (some (.ref a))): ∀c,Sf G env g c->c≠a:=λc z e=>z.1 (by rw [e];exact ⟨i,d,h,m⟩)
def dv (i:Nat) (h:X.N[i]?=some x:=by rfl) (m:dE X.env.scope x:=by exact bT rfl) (n:ZH x:=by decide)
   (g:UR x:=by decide):DE X .s (.Name x Y) (af i):=by
 nomatch (
  PE.imp (qw h m n g) λy H Q=>by
   rintro ⟨G,z,p,d,k,r,q⟩;obtain ⟨v,u,w⟩:=k.ab i d (UY r)
   exact ⟨v,u,q v H (ap.refl H) w trivial⟩)
def db (i:Nat) {x:Str} (n:X.N[i]?=some x:=by rfl) (p:dE X.env.scope x:=by exact bT rfl) (r:ZH x:=by decide)
   (h:UR x:=by decide):DE X .b (.Name x Y) (cJ i):=by
 nomatch (
  PE.imp (qw n p r h) λB H Q=>by
   rintro ⟨G,E,u,d,k,w,q⟩;rcases X7 w with z|z
   . obtain ⟨v,g,m⟩:=k.ab i d z;exact ⟨v,g,q v H (ap.refl H) (m.aG λ_ _=>trivial) trivial⟩
   . obtain ⟨v,g,_,m⟩:=k.ag i d z
     exact ⟨_,g,q _ H (ap.refl H) (m.rep (λc y=>⟨trivial,Q7 k z g c y⟩) trivial) trivial⟩)
def Sc (K:aA) (v:V) (d:D):Prop:=(∀A H,aD K A H v d)/\ ∀a,v≠ .ref a
def Sc.T {K:aA} (h:Sc K v d):l.T H v:=by
 cases l with
 |t=>exact λa e=>absurd e (h.2 a)
 |b=>trivial
 |s=>trivial
def iC {K:aA} (i:Int):Sc K (.int i) (.int i):=⟨λ_ _=> .int i,λa e=>by cases e⟩
def me {K:aA} (i:Bool):Sc K (.bl i) (.bl i):=⟨λ_ _=> .bl i,λa e=>by cases e⟩
def HE {K:aA}:Sc K .aV .aV:=⟨λ_ _=> .aV,λa e=>by cases e⟩
def EX {K:aA} (x:Str) (h:x.length<=aH):Sc K (.str x) (.str x):=⟨λ_ _=> .str x h,λa e=>by cases e⟩
def nQ {v:V} {d:D} (h:PE X e (tC v)) (r:Sc X.K v d):DE X l e (λ_=> .ok d):=by
 nomatch (
  PE.imp h λm H Q=>by
   rintro ⟨G,n,g,p,k,i,q⟩;cases i
   exact q v H (ap.refl H) (r.1 _ H) r.T)
def HF {j}:DE X l (.Constant (.int i) j Y) (cI i):=nQ Md (iC i)
def xD {j}:DE X l (.Constant (.bool i) j Y) (cB i):=nQ G9 (me i)
def xZ {j}:DE X l (.Constant .none j Y) cN:=nQ Me HE
def HG {j} (h:x.length<=aH:=by decide):DE X l (.Constant (.str x) j Y) (cS x):=nQ Mg (EX x h)
def NE (d:Gl X x) (g:X.mg x=some (.int i t)) (h:ZH x:=by decide):DE X l (.Name x Y) (cI i):=
 nQ (Mh (v:= .int i) d g ⟨t,rfl⟩ h) (iC i)
def gn (K:aA) (r:R2) (g:D->D->aq D):Prop:= ∀(x y:V) (H:Hp) (a b d:D) (Q:VK),aD K Any H x a->aD K Any H y b->g a b= .ok d->(∀v,Sc K v d->Q v H)->r x y H Q
def CW (K:aA) (r:R2) (g:D->D->aq D):Prop:= ∀(A:UP) (x y:V) (H:Hp) (a b d:D) (Q:VK),aD K A H x a->aD K A H y b->g a b= .ok d->(∀v h,ap H h->aD K (λc=>H c=none\/A c) h v d->be H v->Q v h)->r x y H Q
def av (N O:T5) (g:D->D->aq D):Sl->aq D:=λd=>N d>>=λx=>O d>>=λy=>g x y
def EY {K:aA} (B:gn K r g) (h:tE K l (av N O g) E H Q):sr r (tE K L N) (tE K J O) E H Q:=by
 obtain ⟨G,n,i,d,k,m,q⟩:=h;obtain ⟨a,e1,m⟩:=ja m;obtain ⟨b,e2,I⟩:=ja m;refine ⟨G,n,i,a,k,e1,λx H1 p r1 _=>⟨G,n,i,b,k.ao p,e2,λy u w r2 _=>?_⟩⟩;exact B x y u a b d Q ((r1.ao w).aG Lv.bv) (r2.aG Lv.bv) I λv z=>q v u (p.trans w) (z.1 _ _) z.T
def NF {K:aA} (B:CW K r g) (h:tE K .t (av N O g) E H Q):sr r (tE K .s N) (tE K .s O) E H Q:=by
 obtain ⟨G,p,i,d,k,m,q⟩:=h;obtain ⟨a,e1,m⟩:=ja m;obtain ⟨b,e2,I⟩:=ja m;refine ⟨G,p,i,a,k,e1,λx H1 u r1 _=>⟨G,p,i,b,k.ao u,e2,λy H2 w r2 _=>?_⟩⟩;have n:=u.trans w;exact B _ x y H2 a b d Q (r1.ao w) r2 I λv H3 s3 r3 nt=>q v H3 (n.trans s3) (r3.aG λc z=>z.elim (λz=>k.new c (ap.free n z)) λz=>z) (nt.ao n)
def VY (d:dc X (iA i) r) (m:gn X.K r g) (n:DE X L a N) (p:DE X J b O):DE X l (.BinOp a i b Y) (av N O g):=by
 nomatch (
  PE.imp (Hm d n p) λ_ _ _ h=>EY m h)
def qv (d:dc X (iA i) r) (m:CW X.K r g) (n:DE X .s a N) (p:DE X .s b O):DE X .t (.BinOp a i b Y) (av N O g):=by
 nomatch (
  PE.imp (Hm d n p) λ_ _ _ h=>NF m h)
def Vc (i:dc X (lj d) r) (m:gn X.K r g) (n:DE X L a N) (p:DE X J b O) (q:sw d b=false:=by first|exact kG _| (with_unfolding_all rfl)):DE X l (.Compare a [d] [b] Y) (av N O g):=by
 nomatch (
  PE.imp (ML i n p q) λ_ _ _ h=>EY m h)
def aY (f:T5):Sl->aq Bool:=λg=>f g>>=λd=>match d with
 | .bl b=> .ok b
 |_=> .aj
def NG {b:Bool} (h:aY f env= .ok b):f env= .ok (.bl b):=by
 obtain ⟨d,e1,e2⟩:=ja h
 cases d with
 |bl c=>cases e2;exact e1
 |_=>cases e2
def XX {K:aA} (i: ∀d H Q,tE K l f d H Q->t d H Q) (h:tT K (aY f) d H Q):Hr t d H Q:=by
 obtain ⟨G,m,g,b,k,n,q⟩:=h;refine i d H _ ⟨G,m,g,.bl b,k,NG n,λv p s r _=>⟨b,r.rz,q p s⟩⟩
def qC (i:dc X (lj d) r) (m:gn X.K r g) (n:DE X L a N) (p:DE X J b O) (q:sw d b=false:=by first|exact kG _| (with_unfolding_all rfl)):DT X (.Compare a [d] [b] Y) (aY (av N O g)):=by
 nomatch (
  PT.imp (U2 i n p q) λ_ _ _ h=>XX (l:= .b) (λ_ _ _ h=>EY m h) h)
def qR (h:DE X l e f) (d: ∀whole,isTrue e X.env whole=(do let v<-whole;oK e.pos;nI [v] (truthy v)):=by intro _;rfl):DT X e (aY f):=by
 nomatch (
  PT.imp (Ha h d) λ_ _ _ h=>XX (λ_ _ _ h=>h) h)
def HH:D->aq Bool
 | .aV=> .ok false
 | .bl b=> .ok b
 | .int i=> .ok (i !=0)
 | .str x=> .ok ((x.length:Int) !=0)
 | .ar d=> .ok (!d.isEmpty)
 | .ah d=> .ok (!d.isEmpty)
 | .eJ d=> .ok (!d.isEmpty)
 | .aJ _ _=> .aj
 | .bO _ _=> .aj
 | .ia _=> .aj
 | .bG _ _=> .aj
 | .dS _ _=> .aj
 | .obj _ _ _=> .aj
 | .mem _ _=> .aj
 | .cx _=> .aj
def NH {K:aA} {b:Bool} (r:aD K A H v d) (h:HH d= .ok b):sx K v H b:=by
 have r:=r.f;cases d<;>cases h
 . cases r;rfl
 . cases r;rfl
 . cases r;rfl
 . cases r.1;exact ⟨r.2,rfl⟩
 . obtain ⟨_,_,rfl,e,r⟩:=r;exact .inr (.inl ⟨_,.of e,by rw [r.isEmpty]⟩)
 . obtain ⟨_,_,rfl,e,_,r⟩:=r;exact .inl ⟨_,.of e,by rw [r.isEmpty]⟩
 . obtain ⟨_,_,rfl,e,r⟩:=r;exact .inl ⟨_,e.np,by rw [r.isEmpty]⟩
def gB (f:T5):Sl->aq Bool:=λd=>f d>>=HH
def uc (h:DE X l e f) (i: ∀whole,isTrue e X.env whole=(do let v<-whole;oK e.pos;nI [v] (truthy v)):=by intro _;rfl):DT X e (gB f):=by
 nomatch (
  PT.imp (MN h i) λu H Q=>by
   rintro ⟨G,m,g,b,k,n,q⟩;obtain ⟨d,e1,e2⟩:=ja n
   exact ⟨G,m,g,d,k,e1,λv p s r _=>⟨b,NH r e2,q p s⟩⟩)
section
variable {g z g2:T4} {rest:List Expr}
def cr (g:T4):Sl->aq Bool:=λd=>g d>>=λb=> .ok (!b)
def xA (h:DT X a g):DT X (.UnaryOp .Not a Y) (cr g):=by
 nomatch (
  PT.imp (Hb h) λp H Q=>by
   rintro ⟨G,m,i,b,k,n,q⟩;obtain ⟨d,e1,e2⟩:=ja n;cases e2
   exact ⟨G,m,i,d,k,e1,q⟩)
@[irreducible] def DW (X:Cx) (e:Expr) (f:T4):Prop:=PW X e (tT X.K f)
theorem PW.imp (h:PW X e t) (w: ∀d H Q,m d H Q->t d H Q):PW X e m:=λn i s d H Q I q=>h n i s d H Q I (w d H Q q)
def DW.dt (h:DW X e g):DT X e g:=by
 nomatch (PW.pt h)
def y7 (h:DT X a g):DW X (.BoolOp .And [a] Y) g:=by
 nomatch (Ml h)
def Js (h:DT X a g):DW X (.BoolOp .Or [a] Y) g:=by
 nomatch (Mm h)
def cQ (z g2:T4):Sl->aq Bool:=λd=>z d>>=λb=>if b=true then g2 d else .ok false
def ie (z g2:T4):Sl->aq Bool:=λd=>z d>>=λb=>if b=true then .ok true else g2 d
def Zq (m:DT X a z) (n:DW X (.BoolOp .And (b::rest) Y) g2):DW X (.BoolOp .And (a::b::rest) Y) (cQ z g2):=by
 nomatch (
  PW.imp (Mn m n) λx H Q=>by
   rintro ⟨G,i,h,r,k,p,q⟩;obtain ⟨d,e1,e2⟩:=ja p;refine ⟨G,i,h,d,k,e1,λu s=>?_⟩
   cases d with
   |true=>rw [if_pos rfl] at e2 ⊢;exact ⟨G,i,h,r,k.ao s,e2,λv w=>q v (s.trans w)⟩
   |false=>rw [if_neg fq] at e2 ⊢;cases e2;exact q u s)
def Xz (m:DT X a z) (n:DW X (.BoolOp .Or (b::rest) Y) g2):DW X (.BoolOp .Or (a::b::rest) Y) (ie z g2):=by
 nomatch (
  PW.imp (Mo m n) λx H Q=>by
   rintro ⟨G,i,h,r,k,p,q⟩;obtain ⟨d,e1,e2⟩:=ja p;refine ⟨G,i,h,d,k,e1,λu s=>?_⟩
   cases d with
   |false=>rw [if_neg fq] at e2 ⊢;exact ⟨G,i,h,r,k.ao s,e2,λv w=>q v (s.trans w)⟩
   |true=>rw [if_pos rfl] at e2 ⊢;cases e2;exact q u s)
def CY (f:T5) (g:T5) (w:Bool):Sl->aq D:=λh=>f h>>=λd=>match d with
 | .bl b=>if b=w then g h else .ok (.bl b)
 |_=> .aj
def HI {d} (h:DE X l a f):DE X l (.BoolOp d [a] Y) f:=by
 nomatch (Mr h)
def HJ (m:DE X L a N) (n:DE X l (.BoolOp .And (b::rest) Y) O):DE X l (.BoolOp .And (a::b::rest) Y) (CY N O true):=by
 nomatch (
  PE.imp (Ms m n) λI H Q=>by
   rintro ⟨G,i,h,r,k,p,q⟩;obtain ⟨d,e1,e2⟩:=ja p;refine ⟨G,i,h,d,k,e1,λv u s w _=>?_⟩
   cases d with
   |bl t=>
    refine ⟨t,w.rz,?_⟩
    cases t with
    |true=>exact ⟨G,i,h,r,k.ao s,e2,λv x y B E=>q v x (s.trans y) B (Lv.nP s E)⟩
    |false=>cases e2;exact q _ u s (.bl false) (me (K:=X.K) false).T
   |_=>cases e2)
def EZ:D->aq D
 | .bl b=> .ok (.bl (!b))
 |_=> .aj
def AZ (f:T5):Sl->aq D:=λd=>f d>>=EZ
def NI (h:DE X L a f):DE X l (.UnaryOp .Not a Y) (AZ f):=by
 nomatch (
  PE.imp (Mt h) λw H Q=>by
   rintro ⟨G,m,i,r,k,n,q⟩;obtain ⟨d,e1,e2⟩:=ja n;refine ⟨G,m,i,d,k,e1,λv p s u _=>?_⟩
   cases d with
   |bl t=>cases e2;exact ⟨t,u.rz,q _ p s (.bl _) (me (K:=X.K) _).T⟩
   |_=>cases e2)
def wu (g:T4) (N O:T5):Sl->aq D:=λd=>g d>>=λb=>if b=true then N d else O d
def uA (w:DT X c g) (x:DE X l a N) (y:DE X l b O):DE X l (.IfExp c a b Y) (wu g N O):=by
 nomatch (
  PE.imp (Mv w x y) λE H Q=>by
   rintro ⟨G,i,h,r,k,B,q⟩;obtain ⟨d,e1,e2⟩:=ja B;refine ⟨G,i,h,d,k,e1,λI s=>?_⟩
   cases d with
   |true=>rw [if_pos rfl] at e2 ⊢;exact ⟨G,i,h,r,k.ao s,e2,λv m n p u=>q v m (s.trans n) p (Lv.nP s u)⟩
   |false=>rw [if_neg fq] at e2 ⊢;exact ⟨G,i,h,r,k.ao s,e2,λv m n p u=>q v m (s.trans n) p (Lv.nP s u)⟩)
end
def jb (f:T5) (g:TZ):Sl->aq (List D):=λh=>f h>>=λd=>g h>>=λi=> .ok (d::i)
def ai:Sl->aq (List D):=λ_=> .ok []
def jh:DA X l [] ai:=by
 nomatch (PA.imp zC λi H Q=>by rintro ⟨G,m,g,d,k,h,q⟩;cases h;exact q [] H (ap.refl H) .nil)
def jc (r:DE X l e f) (u:DA X l U g) (w:T9 X e U:=by exact jm rfl):DA X l (e::U) (jb f g):=by
 nomatch (
  PA.imp (qc r u w) λσ H Q=>by
   rintro ⟨G,m,h,ds,k,x,q⟩;obtain ⟨d,e1,e2⟩:=ja x;obtain ⟨i,y,z⟩:=ja e2;cases z
   exact ⟨G,m,h,d,k,e1,λv H1 n B _=>⟨G,m,h,i,k.ao n,y,λvs E p I=>q _ E (n.trans p) (.cons (B.ao p) I)⟩⟩)
def qi (s:ap H g) (d:g p=none):be H (.ref p):=λa e o q=>by
 cases e;rw [s _ _ q] at d;cases d
def dM (g:TZ):Sl->aq D:=λd=>g d>>=λh=>aK (h.length<=aH) (.ok (.ar h))
def dw (g:TZ):Sl->aq D:=λd=>g d>>=λh=>aK (h.length<=aH) (.ok (.ah h))
def Zs {u} (h:DA X .s U g):DE X .t (.Tuple U u Y) (dM g):=by
 nomatch (
  PE.imp (MU h) λB H Q=>by
   rintro ⟨G,v,i,d,k,w,q⟩;obtain ⟨x,e1,e2⟩:=ja w;obtain ⟨y,z⟩:=jl e2;cases z;refine ⟨G,v,i,x,k,e1,λE I n r=>⟨by rw [r.length];exact y,λp m=>?_⟩⟩
   exact q _ _ (n.trans (ap.ay m)) (.ar jk (r.ao (ap.ay m))) (qi n m))
def xC (h:DA X .s U g):DE X .t (.List U Y) (dw g):=by
 nomatch (
  PE.imp (Hs h) λz H Q=>by
   rintro ⟨G,u,m,d,k,v,q⟩;obtain ⟨w,e1,e2⟩:=ja v;obtain ⟨x,y⟩:=jl e2;cases y;refine ⟨G,u,m,w,k,e1,λB E n r=>⟨by rw [r.length];exact x,λp i=>?_⟩⟩
   exact q _ _ (n.trans (ap.ay i)) (.ah jk (k.new p (ap.free n i)) (r.laid i)) (qi n i))
def YZ (K:aA) (r:List V->Hp->VK->Prop) (g:TY):Prop:= ∀(h:List V) (H:Hp) (i:List D) (d:D) (Q:VK),am K Any H h i->g i= .ok d->(∀v,Sc K v d->Q v H)->r h H Q
def QJ (K:aA) (r:List V->Hp->VK->Prop) (g:TY):Prop:= ∀(A:UP) (i:List V) (H:Hp) (m:List D) (d:D) (Q:VK),am K A H i m->g m= .ok d->(∀v h,ap H h->aD K (λc=>H c=none\/A c) h v d->be H v->Q v h)->r i H Q
def app (f:TZ) (g:TY):Sl->aq D:=λd=>f d>>=g
def NJ {K:aA} (u:YZ K r g) (h:tE K l' (app w g) x H Q):AO r (tA K l w) x H Q:=by
 obtain ⟨G,y,i,d,k,z,q⟩:=h;obtain ⟨m,e1,e2⟩:=ja z;refine ⟨G,y,i,m,k,e1,λB n E I=>?_⟩;exact u B n m d Q (I.aG Lv.bv) e2 λv p=>q v n E (p.1 _ _) p.T
def HK {K:aA} (p:QJ K r g) (h:tE K .t (app u g) w H Q):AO r (tA K .s u) w H Q:=by
 obtain ⟨G,x,i,d,k,y,q⟩:=h;obtain ⟨n,e1,e2⟩:=ja y;refine ⟨G,x,i,n,k,e1,λB E m I=>?_⟩;exact p _ B E n d Q I e2 λv H2 s2 r2 nt=>q v H2 (m.trans s2) (r2.aG λc z=>z.elim (λz=>k.new c (ap.free m z)) λz=>z) (nt.ao m)
def NL {K:aA} (n:QJ K r g) (h:tE K .b (app p g) u H Q):AO r (tA K .b p) u H Q:=by
 obtain ⟨G,w,i,d,k,x,q⟩:=h;obtain ⟨m,e1,e2⟩:=ja x;refine ⟨G,w,i,m,k,e1,λy z B E=>?_⟩;exact n _ y z m d Q E e2 λv I s2 r2 nt=>q v I (B.trans s2) (r2.aG λc _=>trivial) trivial
section
variable {x:Str} {id T:String} {p:Pos} {r:List V->Hp->VK->Prop} {g:TY} {q:TZ}
def qW (m:bi X (.builtin id) r) (n:YZ X.K r g) (u:Gl X x) (v:X.mg x=none) (w:iz x=some (.builtin id))
   (y:DA X l (e::U) q) (z:x≠ "__name__" :=by decide) (d:ZH x:=by decide)
   (B:T9 X e U:=by exact jm rfl) (i:T8 X Y U:=by exact jK rfl):DE X l' (.Call (.Name x p) (e::U) [] Y) (app q g):=by
 nomatch (
  PE.imp (yx m u v w y z d B i) λ_ _ _ h=>NJ n h)
def zW (m:bi X (.type T) r) (n:QJ X.K r g) (u:Gl X x) (v:X.mg x=none) (w:iz x=some (.type T))
   (y:DA X .s (e::U) q) (z:x≠ "__name__" :=by decide) (d:ZH x:=by decide)
   (B:T9 X e U:=by exact jm rfl) (i:T8 X Y U:=by exact jK rfl):DE X .t (.Call (.Name x p) (e::U) [] Y) (app q g):=by
 nomatch (
  PE.imp (JU m u v w y z d B i) λ_ _ _ h=>HK n h)
end
def lE (K:aA) (m:Bool) (n:Nat) (F:TY):Sp:=λh H Q _=> ∃B i d,h.length=n/\am K B H h i/\F i= .ok d/\ ∀v g,ap H g->aD K (λa=>H a=none\/B a) g v d->(m=true->be H v)->Q v g
def jr (n:Nat) (F:TY) (g:TZ):Sl->aq D:=λd=>g d>>=λh=>aK (h.length=n) (F h)
section
variable {CX:nh} {k:Nat} {x:Str} {h:Addr} {fd:l5} {ps:List Str} {p:Pos} {n:Nat} {F:TY} {E:XK} {g:TZ} {fr:Bool}
def NM (G:bS X.prog X.w X.K X.mg X.ae CX k h fd ps (lE X.K fr n F)) (B:aL k X.A) (I:Gl X x) (hm:X.mg x=some (.ref h)) (hk:iP X.K (.ref h)=true) (hb:Binds X.K fd ps []) (hx:yN CX X E)
   (ha:DA X .s (e::U) g) (i:ZH x:=by decide) (he:T9 X e U:=by exact jm rfl) (m:T8 X Y U:=by exact jK rfl):
   DE X .s (.Call (.Name x p) (e::U) [] Y) (jr n F g):=by
 nomatch (
  PE.imp (ZQ G B I hm hk hb .nil hx ha i he m) λσ H Q=>by
   rintro ⟨GG,H0,r,d,k,ef,q⟩;obtain ⟨u,e1,e2⟩:=ja ef;obtain ⟨hn,e3⟩:=jl e2;refine ⟨GG,H0,r,u,k,e1,λvs H1 w y=>?_⟩;show lE X.K fr n F (vs++[]) H1 Q E;rw [f6]
   exact ⟨_,u,d,by rw [y.length];exact hn,y,e3,λv H2 s2 r2 _=>q v H2 (w.trans s2) (r2.aG λc z=>z.elim (λz=>k.new c (ap.free w z)) λz=>z) trivial⟩)
def NN (G:bS X.prog X.w X.K X.mg X.ae CX k h fd ps (lE X.K true n F)) (B:aL k X.A) (I:Gl X x) (hm:X.mg x=some (.ref h)) (hk:iP X.K (.ref h)=true) (hb:Binds X.K fd ps []) (hx:yN CX X E)
   (ha:DA X .s (e::U) g) (i:ZH x:=by decide) (he:T9 X e U:=by exact jm rfl) (m:T8 X Y U:=by exact jK rfl):
   DE X .t (.Call (.Name x p) (e::U) [] Y) (jr n F g):=by
 nomatch (
  PE.imp (ZQ G B I hm hk hb .nil hx ha i he m) λσ H Q=>by
   rintro ⟨GG,H0,r,d,k,ef,q⟩;obtain ⟨w,e1,e2⟩:=ja ef;obtain ⟨hn,e3⟩:=jl e2;refine ⟨GG,H0,r,w,k,e1,λvs H1 u y=>?_⟩;show lE X.K true n F (vs++[]) H1 Q E;rw [f6]
   exact ⟨_,w,d,by rw [y.length];exact hn,y,e3,λv H2 s2 r2 nt=>q v H2 (u.trans s2) (r2.aG λc z=>z.elim (λz=>k.new c (ap.free u z)) λz=>z) ((nt rfl).ao u)⟩)
def NO (G:bS X.prog X.w X.K X.mg X.ae CX k h fd ps (lE X.K fr n F)) (y:aL k X.A) (z:Gl X x) (B:X.mg x=some (.ref h)) (I:iP X.K (.ref h)=true) (hb:Binds X.K fd ps []) (hx:yN CX X E)
   (ha:DA X .b (e::U) g) (i:ZH x:=by decide) (he:T9 X e U:=by exact jm rfl) (m:T8 X Y U:=by exact jK rfl):
   DE X .b (.Call (.Name x p) (e::U) [] Y) (jr n F g):=by
 nomatch (
  PE.imp (ZQ G y z B I hb .nil hx ha i he m) λσ H Q=>by
   rintro ⟨GG,H0,r,d,k,ef,q⟩;obtain ⟨u,e1,e2⟩:=ja ef;obtain ⟨hn,e3⟩:=jl e2;refine ⟨GG,H0,r,u,k,e1,λvs H1 s1 w=>?_⟩;show lE X.K fr n F (vs++[]) H1 Q E;rw [f6]
   exact ⟨_,u,d,by rw [w.length];exact hn,w,e3,λv H2 s2 r2 _=>q v H2 (s1.trans s2) (r2.aG λc _=>trivial) trivial⟩)
end
def bW:D->D->aq D
 | .ah g,.int i=>match gy g i with
  |some d=> .ok d
  |none=> .aj
 | .eJ g,.int i=>match gy g i with
  |some d=> .ok d
  |none=> .aj
 | .ar g,.int i=>match gy g i with
  |some d=> .ok d
  |none=> .aj
 | .str z,.int i=>match gy z.cps.toList i with
  |some c=> .ok (.str ⟨#[c]⟩)
  |none=> .aj
 |_,_=> .aj
def YV {K:aA} (r:am K A H g ds) (h:gy ds i=some d): ∃v,gy g i=some v/\aD K A H v d:=by
 unfold gy at h ⊢;rw [r.length]
 cases e:rm ds.length i with
 |none=>rw [e] at h;cases h
 |some j=>rw [e] at h;exact r.get h
def NP (c:Nat):(⟨#[c]⟩:Str).length<=aH:=by show 1<=aH;decide
def NQ {a b:D} (n:aD X.K A H x a) (u:aD X.K Any H y b) (h:bW a b= .ok d) (q: ∀v,aD X.K A H v d->Q v H):Hw X.K x y H Q:=by
 unfold bW at h
 split at h
 . split at h
   . cases h;cases u.cb;obtain ⟨p,g,rfl,i,_,r⟩:=n.cP;obtain ⟨v,e2,m⟩:=YV r.low ‹_›;exact .inl ⟨p,g,_,v,rfl,rfl,.of i,e2,q v m⟩
   . cases h
 . split at h
   . cases h;cases u.cb;obtain ⟨p,g,rfl,i,r⟩:=n.lB;obtain ⟨v,e2,m⟩:=YV r ‹_›;exact .inl ⟨p,g,_,v,rfl,rfl,i.np,e2,q v m⟩
   . cases h
 . split at h
   . cases h;cases u.cb;obtain ⟨p,g,rfl,i,r⟩:=n.dL;obtain ⟨v,e2,m⟩:=YV r ‹_›;exact .inr (.inl ⟨p,g,_,v,rfl,rfl,.of i,e2,q v m⟩)
   . cases h
 . split at h
   . cases h;cases u.cb;obtain ⟨rfl,w⟩:=n.lC;exact .inr (.inr ⟨_,_,_,rfl,rfl,w,‹_›,q _ (.str _ (by show 1<=aH;decide))⟩)
   . cases h
 . cases h
def xn (p:DE X .s a N) (r:DE X J b O) (u:yj b:=by intro _ _;rfl):DE X .s (.Subscript a b Y) (av N O bW):=by
 nomatch (
  PE.imp (VB Nb p r u) λσ H Q=>by
   rintro ⟨G,i,g,d,k,h,q⟩;obtain ⟨w,e1,h⟩:=ja h;obtain ⟨z,e2,B⟩:=ja h;refine ⟨G,i,g,w,k,e1,λx H1 m E _=>⟨G,i,g,z,k.ao m,e2,λy I n r2 _=>?_⟩⟩
   exact NQ (E.ao n) (r2.aG Lv.bv) B λv r3=>q v I (m.trans n) r3 trivial)
@[irreducible] def DO (X:Cx) (e:Option Expr) (f:Sl->aq (Option Int)):Prop:=PO X e (λh H Q=> ∃G m d i,au X.K G m d h H/\f d= .ok i/\ ∀g,ap H g->Q i g)
theorem PO.imp {e:Option Expr} (h:PO X e t) (w: ∀d H Q,i d H Q->t d H Q):PO X e i:=λg s d H Q I q=>h g s d H Q I (w d H Q q)
def qU:Sl->aq (Option Int):=λ_=> .ok none
def zq:DO X none qU:=by
 nomatch (PO.imp M5 λh H Q=>by rintro ⟨G,m,d,i,k,g,q⟩;cases g;exact q H (ap.refl H))
def HL:D->aq (Option Int)
 | .int i=> .ok (some i)
 |_=> .aj
def qK (f:T5):Sl->aq (Option Int):=λd=>f d>>=HL
def zp (h:DE X l e f):DO X (some e) (qK f):=by
 nomatch (PO.imp (M6 h) λu H Q=>by
  rintro ⟨G,m,g,i,k,n,q⟩;obtain ⟨d,e1,e2⟩:=ja n
  cases d with
  |int j=>cases e2;exact ⟨G,m,g,.int j,k,e1,λv p s r _=>⟨j,r.cb,q p s⟩⟩
  |_=>cases e2)
def cutD (ds:List D) (lo d:Option Int):List D:=(ds.drop (HT.bA ds.length 0 lo)).take (HT.bA ds.length ds.length d-HT.bA ds.length 0 lo)
def YN {K:aA} {lo:Option Int} (r:am K A H d ds):am K A H (mI d lo g) (cutD ds lo g):=by
 unfold mI cutD;rw [r.length];exact (r.drop _).take _
def jW (f:T5) (h i:Sl->aq (Option Int)) (g:D->Option Int->Option Int->aq D):Sl->aq D:=λd=>f d>>=λa=>h d>>=λlo=>i d>>=λm=>g a lo m
end
section
variable {K:aA} {G:UP} {H0 H H1 H':Hp} {env env':Sl} {σ ic:L2.St} {i:Nat} {d:D} {v:V}
def jo {a:Type} {l:List a} {x:a} (h:i≠j):(l.set i x)[j]?=l[j]?:=Em h
def jH {a:Type} {l:List a} {x y:a} (h:(l.set i x)[i]?=some y):y=x/\i<l.length:=by
 have c:i<l.length:=by
  have:=(c7.mp h).1;simpa using this
 rw [sg c] at h;exact ⟨(fU h).symm,c⟩
def JX {s:Slot} {a:Addr} (h:jS (env.set i s) (σ.set i (some v)) a):jS env σ a\/(∃d,s= .ag d/\v= .ref a):=by
 obtain ⟨j,d,c,g⟩:=h
 by_cases e:i=j
 . subst e;obtain ⟨l,_⟩:=jH c;obtain ⟨m,_⟩:=jH g;exact .inr ⟨d,l.symm,(fU m).symm⟩
 . rw [jo e] at c g;exact .inl ⟨j,d,c,g⟩
def au.dy (k:au K G H0 env σ H) (r:aD K (Sf G env σ) H v d):au K G H0 (env.set i (.ab d)) (σ.set i (some v)) H:=by
 have w: ∀a,Sf G env σ a->Sf G (env.set i (.ab d)) (σ.set i (some v)) a:=λa n=>⟨λo=>(by
   rcases JX o with z| ⟨y,z,_⟩
   . exact n.1 z
   . cases z),n.2⟩
 refine ⟨by simp [k.len],k.ae,k.g0,λj e h=>?_,λj e h=>?_,λj g e u a h1 h2 l m=>?_⟩
 . by_cases z:i=j
   . subst z;obtain ⟨q,p⟩:=jH h;cases q;exact ⟨v,sg (by rw [k.len];exact p),r.aG w⟩
   . rw [jo z] at h ⊢;obtain ⟨c,h1,h2⟩:=k.ab j e h;exact ⟨c,h1,h2.aG w⟩
 . by_cases z:i=j
   . subst z;obtain ⟨q,p⟩:=jH h;cases q
   . rw [jo z] at h ⊢;obtain ⟨c,h1,x,h2⟩:=k.ag j e h;exact ⟨c,h1,x,h2.aP (λ_ _ e _=>e) w λ_ e=>e⟩
 . have n1:i≠j:=λz=>by subst z;obtain ⟨q,_⟩:=jH h1;cases q
   have n2:i≠g:=λz=>by subst z;obtain ⟨q,_⟩:=jH h2;cases q
   rw [jo n1] at h1 l;rw [jo n2] at h2 m;exact k.mL j g e u a h1 h2 l m
def J0:D->Bool
 | .ah _=>true
 | .aJ _ _=>true
 | .bO _ _=>true
 | .obj _ _ _=>true
 | .cx _=>true
 |_=>false
def Yg (r:aD K A H v d) (h:J0 d=true): ∃a,v= .ref a/\A a/\(∃o,H a=some o/\ky (some o))/\Top K (λc=>A c/\c≠a) H a d:=by
 have r:=r.f;cases d<;>cases h
 . obtain ⟨_,_,rfl,e,a,r⟩:=r;exact ⟨_,rfl,a,⟨_,e,trivial⟩,.ah e r⟩
 . obtain ⟨_,_,rfl,e,a,k,r⟩:=r;exact ⟨_,rfl,a,⟨_,e,trivial⟩,.aJ e k rfl r⟩
 . obtain ⟨_,_,rfl,e,a,k,r⟩:=r;exact ⟨_,rfl,a,⟨_,e,trivial⟩,.bO e k rfl r⟩
 . obtain ⟨_,_,_,_,rfl,e,a,k,l,r⟩:=r;exact ⟨_,rfl,a,⟨_,e,trivial⟩,.obj e ⟨k,l⟩ rfl r⟩
 . obtain ⟨_,_,rfl,e,a,k,r⟩:=r;exact ⟨_,rfl,a,⟨_,e,trivial⟩,.cx e k rfl r⟩
def NR (s:ap H H1) (g:be H (.ref a)) (h: ∃o,H1 a=some o/\ky (some o)):H a=none:=by
 cases e:H a with
 |none=>rfl
 |some o=>
  obtain ⟨m,c,l⟩:=h;rw [s a o e] at c;cases c;exact (g a rfl o e l).elim
def au.E1 (k:au K G H0 env σ H) (s:ap H H1) (r:aD K (Sf G env σ) H1 v d) (Q:be H v) (hd:J0 d=true):au K G H0 (env.set i (.ag d)) (σ.set i (some v)) H1/\ ∃a,v= .ref a/\H a=none:=by
 obtain ⟨a,rfl,ga,mt,top⟩:=Yg r hd;have B:=NR s Q mt;refine ⟨?_,a,rfl,B⟩
 have w: ∀c,(Sf G env σ c/\c≠a)->Sf G (env.set i (.ag d)) (σ.set i (some (V.ref a))) c:=λc n=>⟨λo=>(by
   rcases JX o with z| ⟨d',z,l⟩
   . exact n.1.1 z
   . cases l;exact n.2 rfl),n.1.2⟩
 have x: ∀c,(Sf G env σ c/\H c≠none)->Sf G (env.set i (.ag d)) (σ.set i (some (V.ref a))) c:=λc n=>w c ⟨n.1,λe=>n.2 (by rw [e];exact B)⟩
 have U:=k.ao s;refine ⟨by simp [k.len],U.ae,k.g0,λj e h=>?_,λj e h=>?_,λj E e L b h1 h2 I y=>?_⟩
 . by_cases z:i=j
   . subst z;obtain ⟨q,N⟩:=jH h;cases q
   . rw [jo z] at h ⊢;obtain ⟨J,h1,h2⟩:=k.ab j e h;exact ⟨J,h1,(h2.bq.ao s).aG x⟩
 . by_cases z:i=j
   . subst z;obtain ⟨q,N⟩:=jH h;cases q;exact ⟨a,sg (by rw [k.len];exact N),ap.free k.ae B,top.aP (λ_ _ e _=>e) w λ_ e=>e⟩
   . rw [jo z] at h ⊢;obtain ⟨J,h1,Y,h2⟩:=k.ag j e h;refine ⟨J,h1,Y,?_⟩
     cases h2 with
     |ah e2 g=>exact .ah (s _ _ e2) ((g.bq.ao s).aG x)
     |aJ e2 m p g=>exact .aJ (s _ _ e2) m p ((g.bq.ao s).aG x)
     |bO e2 m p g=>exact .bO (s _ _ e2) m p ((g.bq.ao s).aG x)
     |obj e2 m p g=>exact .obj (s _ _ e2) m p ((g.bq.ao s).aG x)
     |cx e2 m p g=>exact .cx (s _ _ e2) m p ((g.bq.ao s).aG x)
 . have new: ∀(j:Nat) (e:D),env[j]?=some (.ag e)->σ[j]?=some (some (.ref a))->False:=λj e q1 q2=>by
     obtain ⟨u,q⟩:=k.there ⟨j,e,q1,q2⟩;rw [B] at q;cases q
   by_cases O:i=j
   . subst O
     by_cases l:i=E
     . exact l
     . rw [jo l] at h2 y;obtain ⟨q,_⟩:=jH I;cases q;exact (new E L h2 y).elim
   . rw [jo O] at h1 I
     by_cases l:i=E
     . subst l;obtain ⟨q,_⟩:=jH y;cases q;exact (new j e h1 I).elim
     . rw [jo l] at h2 y;exact k.mL j E e L b h1 h2 I y
def bg.set (c:ap H H1) (fresh: ∀a d,s= .ag d->v= .ref a->H a=none):bg env σ H (env.set i s) (σ.set i (some v)) H1:=
 ⟨λb o e _=>c b o e,λb o=>by
  rcases JX o with z| ⟨g,z,h⟩
  . exact .inl z
  . exact .inr (fresh b g z h),λb e=>ap.free c e⟩
def bg.sf (f:bg env σ H env' ic H'): ∀a,(Sf G env σ a/\H a≠none)->Sf G env' ic a:=λa z=>⟨λo=>(f.more a o).elim z.1.1 z.2,z.1.2⟩
def bg.st (k:au K G H0 env σ H) (f:bg env σ H env' ic H'):eL (λa=>Sf G env σ a/\H a≠none) H H':=λa o e m=>f.keep a o e λc=>(m (k.lD c e)).1.1 c
def bg.rep (k:au K G H0 env σ H) (f:bg env σ H env' ic H') (r:aD K (Sf G env σ) H v d):aD K (Sf G env' ic) H' v d:=r.bq.aP (f.st k) f.sf
def bg.E2 (k:au K G H0 env σ H) (f:bg env σ H env' ic H') (r:am K (Sf G env σ) H a ds):am K (Sf G env' ic) H' a ds:=r.bq.aP (f.st k) f.sf
end
def XY (d:D):Slot:=if J0 d=true then .ag d else .ab d
def au.lF {K:aA} (k:au K G m env c H) (s:ap H g) (r:aD K (Sf G env c) g v d) (n:be H v):
   au K G m (env.set i (XY d)) (c.set i (some v)) g/\bg env c H (env.set i (XY d)) (c.set i (some v)) g:=by
 unfold XY
 by_cases h:J0 d=true
 . rw [if_pos h];obtain ⟨z,p,l,o⟩:=k.E1 s r n h;refine ⟨z,.set s λa q _ e=>?_⟩;rw [e] at l;cases l;exact o
 . rw [if_neg h];exact ⟨(k.ao s).dy r,.set s λ_ _ z _=>by cases z⟩
def df:Sl->aq bD:=λa=> .ok (.nx a)
def nR (h:Int->Int->Int) (a b:D):aq D:=match a,b with
 | .int m,.int n=> .ok (.int (h m n))
 |_,_=> .aj
def aB (e g2:T3):Sl->aq bD:=λc=>e c>>=λo=>match o with
 | .nx a=>g2 a
 | .rt g d=> .ok (.rt g d)
 | .bk a=> .ok (.bk a)
 | .ct a=> .ok (.ct a)
section
variable {X:Cx} {e c tg:Expr} {st:Stmt} {rest body y:List Stmt} {I:Pos} {l:Lv} {f:T5} {g u g2:T3}
def qr:iS X [] df:=by
 nomatch (fw.imp ZO λE a H=>by
  rintro ⟨G,i,d,o,k,h,q⟩;cases h
  exact q a H k (bg.refl (ap.refl H)))
def J1 {K:aA} (f:bg env r H h p v) (q:sP K G w env r H E o):sP K G w h p v E o:=by
 cases o with
 |nx e=>exact λa i m n=>q a i m (f.trans n)
 |bk e=>exact λa i m n=>q a i m (f.trans n)
 |ct e=>exact λa i m n=>q a i m (f.trans n)
 |rt x d=>exact q
def jg (n:DS X st u) (p:iS X rest g2):iS X (st::rest) (aB u g2):=by
 nomatch (fw.imp (Kl n p) λE B H=>by
  rintro ⟨G,i,h,o,k,r,q⟩;obtain ⟨m,e1,e2⟩:=ja r;refine ⟨G,i,h,m,k,e1,?_⟩
  cases m with
  |nx a=>exact λv J w x=>⟨G,i,a,o,w,e2,J1 x q⟩
  |rt L d=>cases e2;exact q
  |bk z=>cases e2;exact q
  |ct z=>cases e2;exact q)
def jw (a:DS X st u):iS X [st] u:=by
 nomatch (fw.imp (yV a) λE d H q=>q)
def NS:DS X st (λ_=> .aj):=by
 nomatch (λ_ _ _ _ _ _ ⟨_,_,_,_,_,a,_⟩=>by cases a)
def a7 (f:T5):Sl->aq bD:=λa=>f a>>=λd=> .ok (.rt true d)
def qh (h:DE X .t e f):DS X (.Return (some e) I) (a7 f):=by
 nomatch (PS.imp (Q4 h) λE x H=>by
  rintro ⟨G,m,i,o,k,n,q⟩;obtain ⟨d,e1,e2⟩:=ja n;cases e2
  exact ⟨G,m,i,d,k,e1,λv p s r w=>q v p (k.ae.trans s) (r.aG λa z=>z.2) λ_=>be.ao k.ae w⟩)
def retS (f:T5):Sl->aq bD:=λa=>f a>>=λd=> .ok (.rt false d)
def YI (h:DE X .s e f):DS X (.Return (some e) I) (retS f):=by
 nomatch (PS.imp (Q4 h) λE w H=>by
  rintro ⟨G,m,i,o,k,n,q⟩;obtain ⟨d,e1,e2⟩:=ja n;cases e2
  exact ⟨G,m,i,d,k,e1,λv p s r x=>q v p (k.ae.trans s) (r.aG λa z=>z.2) λz=>by cases z⟩)
def rA (i:Nat):Sl->aq D:=λa=>match a[i]? with
 |some (.ag d)=> .ok d
 |some (.ab d)=>aK (d.eK=true) (.ok d)
 |_=> .aj
def Qq (i:Nat) {p:Pos} (L:X.N[i]?=some x:=by rfl) (N:dE X.env.scope x:=by exact bT rfl) (O:ZH x:=by decide)
    (r:UR x:=by decide):DS X (.Return (some (.Name x p)) I) (a7 (rA i)):=by
 nomatch (PS.imp (Q4 (qw L N O r)) λE σ H=>by
  rintro ⟨G,H0,Q,o,k,U,q⟩;obtain ⟨d,e1,e2⟩:=ja U;cases e2;unfold rA at e1
  split at e1
  . rename_i Y h;cases e1;obtain ⟨a,m,w,n⟩:=k.ag i d h;refine ⟨.ref a,m,q _ H k.ae (n.rep (λc z=>⟨z.2,Q7 k h m c z⟩) (k.g0 a w)) λ_ b e o' B=>?_⟩;cases e;rw [w] at B;cases B
  . rename_i Y h;obtain ⟨J,e3⟩:=jl e1;cases e3;obtain ⟨v,m,n⟩:=k.ab i d h;exact ⟨v,m,q v H k.ae (n.eK J) λ_=>vz k.ae n J⟩
  . cases e1)
def dz (t:T4) (u g2:T3):Sl->aq bD:=λa=>t a>>=λb=>if b=true then u a else g2 a
def wY (h:DT X c t) (i:iS X body u) (m:iS X y g2):DS X (.If c body y I) (dz t u g2):=by
 nomatch (PS.imp (U3 h i m) λE p H=>by
  rintro ⟨G,d,a,o,k,n,q⟩;obtain ⟨b,e1,e2⟩:=ja n;refine ⟨G,d,a,b,k,e1,λr s=>?_⟩
  cases b with
  |true=>rw [if_pos rfl] at e2 ⊢;exact ⟨G,d,a,o,k.ao s,e2,J1 (bg.refl s) q⟩
  |false=>rw [if_neg fq] at e2 ⊢;exact ⟨G,d,a,o,k.ao s,e2,J1 (bg.refl s) q⟩)
def dg (i:Nat) (f:T5):Sl->aq bD:=λa=>f a>>=λd=> .ok (.nx (a.set i (XY d)))
def xh (i:Nat) {x:Str} {a:Pos} (p:X.N.Nodup) (h:DE X .t e f) (w:X.N[i]?=some x:=by rfl) (z:Loc X.env.scope x:=by exact eI rfl) (B:gb e (some (.Name x a)) I.line X.env=pure false:=by rfl)
   (J:T7 X x:=by first|exact .inl rfl|exact .inr rfl|assumption):DS X (.Assign [.Name x a] e I) (dg i f):=by
 nomatch (
  PS.imp (W9 p w z h B J) λE Q H=>by
   rintro ⟨G,L,m,o,k,N,q⟩;obtain ⟨d,e1,e2⟩:=ja N;cases e2
   exact ⟨G,L,m,d,k,e1,λv O s r n=>q _ O (k.lF s r n).1 (k.lF s r n).2⟩)
def qg (i:Nat) (f:T5):Sl->aq bD:=λa=>f a>>=λd=> .ok (.nx (a.set i (.ab d)))
def j8 (i:Nat) {a:Pos} (n:X.N.Nodup) (h:DE X .s e f) (p:X.N[i]?=some x:=by rfl) (w:Loc X.env.scope x:=by exact eI rfl) (B:gb e (some (.Name x a)) I.line X.env=pure false:=by rfl)
   (J:T7 X x:=by first|exact .inl rfl|exact .inr rfl|assumption):DS X (.Assign [.Name x a] e I) (qg i f):=by
 nomatch (
  PS.imp (W9 n p w h B J) λE Q H=>by
   rintro ⟨G,L,m,o,k,N,q⟩;obtain ⟨d,e1,e2⟩:=ja N;cases e2
   exact ⟨G,L,m,d,k,e1,λv O s r _=>q _ O ((k.ao s).dy r) (.set s λ_ _ z _=>by cases z)⟩)
def HM (i:Nat) {p:Pos} (L:X.N.Nodup) (N:DE X l e f) (O:Eu X Q (Hh h)) (U:X.N[i]?=some x:=by rfl) (Y:Loc X.env.scope x:=by exact eI rfl)
   (hf:T7 X x:=by first|exact .inl rfl|exact .inr rfl|assumption):
   DS X (.AugAssign (.Name x p) Q e I) (qg i (av (af i) f (nR h))):=by
 nomatch (
  PS.imp (MA L U Y N O hf) λE σ H=>by
   rintro ⟨G,H0,B,o,k,ef,q⟩;obtain ⟨d,e1,e2⟩:=ja ef;obtain ⟨a,e3,e4⟩:=ja e1;obtain ⟨b,e5,J⟩:=ja e4;cases e2;obtain ⟨v,h1,h2⟩:=k.ab i a (UY e3);refine ⟨v,h1,G,H0,B,b,k,e5,λw H' s r _=>?_⟩
   cases a with
   |int m=>
    cases b with
    |int n=>
     cases J;cases h2.cb;cases r.cb;exact ⟨m,n,rfl,rfl,q _ H' ((k.ao s).dy (.int _)) (.set s λ_ _ z _=>by cases z)⟩
    |_=>cases J
   |_=>cases J)
end
def CZ (x:Str):It:=⟨λi _=>i<x.cps.size,λi H v a=>a=H/\ ∃c,x.cps[i]?=some c/\v= .str ⟨#[c]⟩,λi _=>x.cps.size<=i⟩
def Vs {K:aA} (g:Addr) (x:Str) (t:Tok):Turn P w K tg (CZ x) [g] g (λi h=>h.IsStrIter g "str_ascii_iterator" x t i) where
 mem:=by simp
 obj:=λi h st b l=>by
  have e:b=g:=by simpa using l
  subst e;obtain ⟨o,e,c,d⟩:=st;exact ⟨o,e,λv z=>by rw [d] at z;cases z⟩
 keep:=λi h q st k=>let ⟨o,ho,r⟩:=st;⟨o,k g (by simp) o ho,r⟩
 item:=by
  intro X u hw y U i a s Y H E I n st B;subst u hw y;have p:i<x.cps.size:=B;obtain ⟨J,L,f2,N,O,Q⟩:=n g (by simp);refine wpAny_pyNext_ascii_item st (c:=x.cps[i]) (by simp [p]) λq m sb=>?_
  have I1:aw X a Y H {s with heap:=q,toks:=s.toks+1}:=I.turned (λb o l e=>(sb.2 b l).trans e) J L N O Q;obtain ⟨o,e,c,d⟩:=id m;exact ⟨_,rfl,YA e c d (by decide) ⟨.str ⟨#[x.cps[i]]⟩,H,I1,⟨_,rfl⟩,⟨rfl,_,by simp [p],rfl⟩,m,λb l=>(n b l).1⟩⟩
 done:=by
  intro X u hw y U i a s Y H E I n st B;subst u hw y;have p:=B;obtain ⟨J,L,f2,N,O,Q⟩:=n g (by simp);exact wpAny_pyNext_ascii_end (I.ok.hd U) st (by simp;exact p) λq eb=>⟨rfl,I.turned (λb o l e=>eb b o l e) J L N O Q⟩
 self:=λ_ _ _ _ _ st h=>wpAny_pyIter_striter_ascii st h
def Uw {K:aA} (g:Addr) (x:Str) (t:Tok):Turn P w K tg (CZ x) [g] g (λi h=>h.IsStrIter g "str_iterator" x t i) where
 mem:=by simp
 obj:=λi h st b l=>by
  have e:b=g:=by simpa using l
  subst e;obtain ⟨o,e,c,d⟩:=st;exact ⟨o,e,λv z=>by rw [d] at z;cases z⟩
 keep:=λi h q st k=>let ⟨o,ho,r⟩:=st;⟨o,k g (by simp) o ho,r⟩
 item:=by
  intro X u hw y U i a s Y H E I n st B;subst u hw y;have p:i<x.cps.size:=B;obtain ⟨J,L,f2,N,O,Q⟩:=n g (by simp);refine wpAny_pyNext_wide_item st (c:=x.cps[i]) (by simp [p]) λq m sb=>?_
  have I1:aw X a Y H {s with heap:=q,toks:=s.toks+1}:=I.turned (λb o l e=>(sb.2 b l).trans e) J L N O Q;obtain ⟨o,e,c,d⟩:=id m;exact ⟨_,rfl,YA e c d (by decide) ⟨.str ⟨#[x.cps[i]]⟩,H,I1,⟨_,rfl⟩,⟨rfl,_,by simp [p],rfl⟩,m,λb l=>(n b l).1⟩⟩
 done:=by
  intro X u hw y U i a s Y H E I n st B;subst u hw y;have p:=B;obtain ⟨J,L,f2,N,O,Q⟩:=n g (by simp);exact wpAny_pyNext_wide_end (I.ok.hd U) st (by simp;exact p) λq eb=>⟨rfl,I.turned (λb o l e=>eb b o l e) J L N O Q⟩
 self:=λ_ _ _ _ _ st h=>wpAny_pyIter_striter_wide st h
def Walk (J:It) (a:List V) (P:Hp->Prop):Prop:= ∀i H,P H->(i<a.length->J.go i H)/\(i<a.length-> ∀x c,J.CF i H x c->c=H/\a[i]?=some x)/\(a.length<=i->J.stop i H)
def Yd (K:aA) (A:UP) (a H c:Hp) (x:V) (d:D):Prop:=
 (c=H/\aD K A a x d)\/ ∃p e g,H p=none/\x= .ref p/\c=L2.ay H p (.ar e)/\d= .ar g/\am K A a e g
def C0 (K:aA) (A:UP) (c:Hp) (J:It) (ds:List D) (P:Hp->Prop):Prop:= ∀i H,P H->(i<ds.length->J.go i H)/\(∀d,ds[i]?=some d-> ∀x a,J.CF i H x a->Yd K A c H a x d)/\(ds.length<=i->J.stop i H)
def Walk.toD {K:aA} (rs:am K A c g ds) (w:Walk J g P):C0 K A c J ds P:=λi H p=>by
 have u:=rs.length;obtain ⟨l,m,n⟩:=w i H p;refine ⟨λh=>l (by omega),λd hd x o y=>?_,λh=>n (by omega)⟩;have v:=(c7.mp hd).1;obtain ⟨e,q⟩:=m (by omega) x o y;obtain ⟨z,a,r⟩:=rs.get' q;rw [hd] at a;cases a;exact .inl ⟨e,r⟩
def tI (K:aA) (f:TZ):TI:=λe H R=> ∃G l a h,au K G l a e H/\f a= .ok h/\
 ∀J c P,ap H c->C0 K (Sf G a e) c J h P->P c->(∀d g i,bg a e c d g i->P i)->R J c
@[irreducible] def DI (X:Cx) (a e:Expr) (f:TZ):Prop:=PI X a e (tI X.K f)
def C1 (z:Str):List D:=z.cps.toList.map λc=> .str ⟨#[c]⟩
def C2:D->aq (List D)
 | .ah a=> .ok a
 | .eJ a=> .ok a
 | .ar a=> .ok a
 | .str z=> .ok (C1 z)
 |_=> .aj
def Vw (z:Str):List V:=z.cps.toList.map λc=> .str ⟨#[c]⟩
def UI {K:aA} (z:Str):am K A H (Vw z) (C1 z):=by
 unfold Vw C1;generalize z.cps.toList=l
 induction l with
 |nil=>exact .nil
 |cons c r a=>exact .cons (.str _ (NP c)) a
section
variable {X:Cx} {B e:Expr} {f:T5} {l:Lv}
def gV (f:T5):Sl->aq (List D):=λa=>f a>>=C2
def xY (h:DE X .s e f):DI X B e (gV f):=by
 nomatch (by
  rintro pins s σ H R I ⟨G,H0,O,ds,k,ef,q⟩;obtain ⟨d,e1,e2⟩:=ja ef;refine a9 (h pins s σ H (λv u=>ap H u/\aD X.K (Sf G O σ) u v d) I ⟨G,H0,O,d,k,e1,λv L s r _=>⟨s,r⟩⟩) λv w fM=>?_;obtain ⟨x,u,m,r1,sm,rep⟩:=fM
  have k1:=k.ao sm
  cases d with
  |ah HN=>
   cases e2;obtain ⟨a,g,rfl,N,na,rs⟩:=rep.cP;cases r1;obtain ⟨mM,rv,p,hz⟩:=m.list (.of N);refine A0 p.isList ?_;refine ⟨w.heap.objs.size,[w.heap.objs.size],_,_,u,rfl,m.kept λb o e=>bu _ e,WU a _,⟨_,b0 _ rfl,rfl,rfl⟩,λb Q=>?_,?_⟩
   . have e:b=w.heap.objs.size:=by simpa using Q
     subst e;exact m.dW (aS _) (m.aM.fresh (aS _))
   . refine q _ u (λH=>H a=some (.ah g)) sm (Walk.toD rs.low λi L p=>?_) N (λE U L fr=>fr.keep a _ N na.1);exact ⟨λn=>⟨g,g[i],.of p,by simp [n]⟩,λ_ x L y=>⟨y.1,y.2 g (.of p)⟩,λn=>⟨g,.of p,n⟩⟩
  |eJ HN=>
   cases e2;obtain ⟨a,g,rfl,N,rs⟩:=rep.lB;cases r1;obtain ⟨mM,rv,p,hz⟩:=m.list N.np;refine A0 p.isList ?_;refine ⟨w.heap.objs.size,[w.heap.objs.size],_,_,u,rfl,m.kept λb o e=>bu _ e,WU a _,⟨_,b0 _ rfl,rfl,rfl⟩,λb Q=>?_,?_⟩
   . have e:b=w.heap.objs.size:=by simpa using Q
     subst e;exact m.dW (aS _) (m.aM.fresh (aS _))
   . refine q _ u (λH=>nO X.K H a g) sm (Walk.toD rs λi L p=>?_) N (λE U L fr=>?_)
     . exact ⟨λn=>⟨g,g[i],p.np,by simp [n]⟩,λ_ x L y=>⟨y.1,y.2 g p.np⟩,λn=>⟨g,p.np,n⟩⟩
     . rcases N with ⟨o,eo⟩|z
       . exact .inl ⟨o,fr.keep a _ eo λow=>(k1.lD ow eo).elim⟩
       . exact .inr z
  |ar HN=>
   cases e2;obtain ⟨a,g,rfl,N,rs⟩:=rep.dL;cases r1;obtain ⟨mM,rv,p,hz⟩:=m.tuple (.of N);refine A1 (show w.heap.IsTuple a mM.toArray from p) ?_;refine ⟨w.heap.objs.size,[w.heap.objs.size],_,_,u,rfl,m.kept λb o e=>bu _ e,Vp a _,⟨_,b0 _ rfl,rfl,rfl⟩,λb Q=>?_,?_⟩
   . have e:b=w.heap.objs.size:=by simpa using Q
     subst e;exact m.dW (aS _) (m.aM.fresh (aS _))
   . refine q _ u (λH=>H a=some (.ar g)) sm (Walk.toD rs λi L p=>?_) N (λE U L fr=>fr.keep a _ N λow=>(k1.lD ow N).elim);exact ⟨λn=>⟨g,g[i],.of p,by simp [n]⟩,λ_ x L y=>⟨y.1,y.2 g (.of p)⟩,λn=>⟨g,.of p,n⟩⟩
  |str z=>
   cases e2;obtain ⟨rfl,hz⟩:=rep.lC;obtain ⟨t,rfl⟩:=r1
   have fin: ∀(J:It),J=CZ z-> ∃(g:List V) (P:Hp->Prop),am X.K (Sf G O σ) u g (C1 z)/\Walk J g P/\P u/\ ∀E U L,bg O σ u E U L->P L:=by
     rintro J rfl;refine ⟨Vw z,λ_=>True,UI z,λi L _=>?_,trivial,λ_ _ _ _=>trivial⟩;have hl:(Vw z).length=z.cps.size:=by simp [Vw]
     refine ⟨λn=>by rw [hl] at n;exact n,λn x H2 y=>?_,λn=>by rw [hl] at n;exact n⟩;obtain ⟨y1,c,y2,y3⟩:=y;refine ⟨y1,?_⟩;subst y3;simp [Vw,y2]
   obtain ⟨g,P,h1,h2,h3,h4⟩:=fin (CZ z) rfl
   cases Y:z.cps.all (· <128) with
   |true=>
     refine wpAny_pyIter_ascii Y ?_;refine ⟨w.heap.objs.size,[w.heap.objs.size],_,_,u,rfl,m.kept λb o e=>bu _ e,Vs _ z t,⟨_,b0 _ rfl,rfl,rfl⟩,λb Q=>?_,q _ u P sm (Walk.toD h1 h2) h3 h4⟩;have e:b=w.heap.objs.size:=by simpa using Q
     subst e;exact m.dW (aS _) (m.aM.fresh (aS _))
   |false=>
     refine wpAny_pyIter_wide Y ?_;refine ⟨w.heap.objs.size,[w.heap.objs.size],_,_,u,rfl,m.kept λb o e=>bu _ e,Uw _ z t,⟨_,b0 _ rfl,rfl,rfl⟩,λb Q=>?_,q _ u P sm (Walk.toD h1 h2) h3 h4⟩;have e:b=w.heap.objs.size:=by simpa using Q
     subst e;exact m.dW (aS _) (m.aM.fresh (aS _))
  |_=>cases e2)
def yc (lo:Int) (n:Nat):List D:=(fm n).map λ(i:Nat)=> .int (lo+(i:Int))
def VM (lo:Int) (n:Nat):List V:=(fm n).map λ(i:Nat)=> .int (lo+(i:Int))
def vt {K:aA} (lo:Int) (n:Nat):am K A H (VM lo n) (yc lo n):=by
 unfold VM yc;generalize fm n=l
 induction l with
 |nil=>exact .nil
 |cons c r a=>exact .cons (.int _) a
def Vo (lo:Int) (n:Nat):Walk (CG lo n) (VM lo n) (λ_=>True):=λi H _=>by
 have c:(VM lo n).length=n:=by simp [VM]
 refine ⟨λa=>by rw [c] at a;exact a,λa x h y=>?_,λa=>by rw [c] at a;exact a⟩;obtain ⟨d,g⟩:=y;refine ⟨d,?_⟩;subst g;rw [c] at a;simp [VM,a]
def sR:List D->aq (List D)
 | [.int j]=>aK (-(2^62)<=j/\j<2^62) (.ok (yc 0 j.toNat))
 |_=> .aj
def am.one {K:aA} (r:am K A H a [d]): ∃v,a=[v]/\aD K A H v d:=by
 cases r with
 |cons h t=>cases t;exact ⟨_,rfl,h⟩
def am.av {K:aA} (r:am K A H c [d,g]): ∃v a,c=[v,a]/\aD K A H v d/\aD K A H a g:=by
 cases r with
 |cons h t=>
  obtain ⟨a,rfl,i⟩:=t.one;exact ⟨_,_,rfl,h,i⟩
def PI.imp (h:PI X B e t) (w: ∀a H Q,d a H Q->t a H Q):PI X B e d:=λc s a H Q I q=>h c s a H Q I (w a H Q q)
def ig (c:TZ):Sl->aq (List D):=λa=>c a>>=sR
def yK {a:Expr} (d:Gl X "range") (g:X.mg "range" =none) (h:DA X l [a] i) (m:bj [a] X.env=[(false,eval a X.env)]:=by rfl):DI X B (.Call (.Name "range" p) [a] [] n) (ig i):=by
 nomatch (
  PI.imp (U8 d g h m) λL H R=>by
   rintro ⟨G,o,c,N,k,u,q⟩;obtain ⟨w,e1,e2⟩:=ja u;refine ⟨G,o,c,w,k,e1,λO x y z=>?_⟩;unfold sR at e2
   split at e2
   . obtain ⟨⟨E,I⟩,J⟩:=jl e2;cases J;obtain ⟨v,rfl,r⟩:=z.one;cases r.cb;exact ⟨_,rfl,E,I,q _ x _ y (Walk.toD (vt 0 _) (Vo 0 _)) trivial λ_ _ _ _=>trivial⟩
   . cases e2)
def tG (K:aA) (t:TX):TG:=λv h H Q=> ∃G i c d a,au K G i c h H/\aD K (Sf G c h) H v d/\t d c= .ok a/\ ∀g,au K G i a g H->bg c h H a g H->Q g H
@[irreducible] def DG (X:Cx) (B:Expr) (t:TX):Prop:=PG X B (tG X.K t)
theorem PG.imp (h:PG X B t) (w: ∀v a H Q,d v a H Q->t v a H Q):PG X B d:=λc s a H v u Q I r q=>h c s a H v u Q I r (w v a H Q q)
def gN (i:Nat):D->Sl->aq Sl:=λd a=> .ok (a.set i (.ab d))
def jR (i:Nat) {a:Pos} (g:X.N.Nodup) (h:X.N[i]?=some x:=by rfl) (m:Loc X.env.scope x:=by exact eI rfl)
   (n:T7 X x:=by first|exact .inl rfl|exact .inr rfl|assumption):DG X (.Name x a) (gN i):=by
 nomatch (
  PG.imp (JT g h m n) λv p H Q=>by
   rintro ⟨G,u,o,d,c,k,r,e,q⟩;cases e
   exact q _ (k.dy r) (.set (ap.refl H) λ_ _ z _=>by cases z))
def g2 (t u:TX):D->Sl->aq Sl:=λd c=>match d with
 | .ar [x,y]=>t x c>>=λa=>u y a
 |_=> .aj
def Qt {a:Expr} {k:Nat} {h:Pos} (y:X.bz=true) (z:DG X a t) (E:DG X b u)
   (I:(gS [a,b] X.env).map (·.2)=mE a X.env::(gS [b] X.env).map (·.2):=by rfl) (i:(gS [b] X.env).map (·.2)=mE b X.env::(gS [] X.env).map (·.2):=by rfl)
   (J:(gS [a,b] X.env).length=2:=by rfl) (m:(gS [a,b] X.env).findIdx? (·.1)=none:=by rfl):DG X (.Tuple [a,b] k h) (g2 t u):=by
 nomatch (
  PG.imp (Hf y (JD z (JD E U9 i) I) J m) λv σ H Q=>by
   rintro ⟨G,p,n,d,g,k,r,e,q⟩;unfold g2 at e
   split at e
   . obtain ⟨c,e1,e2⟩:=ja e;obtain ⟨a,xs,rfl,L,N⟩:=r.dL;obtain ⟨O,w,rfl,U,Y⟩:=N.av;refine ⟨a,_,rfl,.of L,rfl,O,[w],rfl,G,p,n,_,c,k,U,e1,λnT k1 x=>⟨w,[],rfl,G,p,c,_,g,k1,x.rep k Y,e2,λo k2 f2=>⟨rfl,q o k2 (x.trans f2)⟩⟩⟩
   . cases e)
def gC (f:T5) (t:TX):Sl->aq bD:=λa=>f a>>=λd=>t d a>>=λc=> .ok (.nx c)
def Zr {a:Pos} (m:DE X .s e f) (n:DG X B t) (p:swapsWithSole [B] e a.line X.env=pure false:=by rfl) (hw:swappedStores [B] e X.env=pure none:=by rfl)
   (u:(gS [B] X.env).map (·.2)=[mE B X.env]:=by rfl):DS X (.Assign [B] e a) (gC f t):=by
 nomatch (
  PS.imp (Hg m n p hw u) λE L H=>by
   rintro ⟨G,i,c,o,k,w,q⟩;obtain ⟨d,e1,e2⟩:=ja w;obtain ⟨g,x,y⟩:=ja e2;cases y
   exact ⟨G,i,c,d,k,e1,λv z s r _=>⟨G,i,c,d,g,k.ao s,r,x,λh I J=>q h z I (J.ao s)⟩⟩)
def cR (c:D->Sl->aq bD):List D->Sl->aq bD
 | [],g=> .ok (.nx g)
 |d::h,g=>c d g>>=λo=>match o with
  | .nx a=>cR c h a
  | .ct a=>cR c h a
  | .bk a=> .ok (.nx a)
  | .rt i d=> .ok (.rt i d)
def wz (t:TX) (g:T3):D->Sl->aq bD:=λd a=>t d a>>=g
def fN (f:TZ) (t:TX) (g:T3):Sl->aq bD:=λa=>f a>>=λc=>cR (wz t g) c a
def Ju (hp:rf (model X.prog X.w) X.A X.env X.xe) (hc:X.bz=true) (hi:DI X B e fi) (hg:DG X B t) (hb:iS X O g)
   (hs: ∀x,nc e X.env x=pure x:=by intro _;rfl):DS X (.For B e O [] pos) (fN fi t g):=by
 nomatch (
  PS.imp (Kn hp hc hi hg hb hs) λE σ H=>by
   rintro ⟨G,Q,v,o,k,ef,q⟩;obtain ⟨h,e1,e2⟩:=ja ef;refine ⟨G,Q,v,h,k,e1,λJ H1 P sm wk p0 sS=>?_⟩;have k1:=k.ao sm;have q1:=J1 (bg.refl sm) q;refine ⟨λi m n I=>m=h.length-i/\i<=h.length/\ ∃c,au X.K G Q c n I/\bg v σ H1 c n I/\cR (wz t g) (h.drop i) c= .ok o,⟨h.length,by simp,dR _,v,k1,bg.refl (ap.refl H1),by simpa using e2⟩,?_⟩;rintro i m n I ⟨rfl,hi,c,k',U,e'⟩;obtain ⟨w1,w2,w3⟩:=wk i I (sS c n I U)
   by_cases Y:i<h.length
   . refine .inr ⟨w1 Y,?_⟩;rw [wU Y] at e';obtain ⟨o1,e3,e4⟩:=ja e';obtain ⟨w,e5,e6⟩:=ja e3;refine ⟨λd L=>h.length-(i+1)=h.length-(i+1)/\i+1<=h.length/\ ∃a,au X.K G Q a d L/\bg v σ H1 a d L/\cR (wz t g) (h.drop (i+1)) a= .ok o,λd L z=>⟨h.length-(i+1),by omega,z⟩,λx L y=>?_⟩
     obtain ⟨HP,rd⟩:ap I L/\aD X.K (Sf G c n) L x h[i]:=by
      rcases w2 _ (cZ Y) x L y with ⟨rfl,rd⟩| ⟨p,vs,es,hp,rfl,rfl,ed,A2⟩
      . exact ⟨ap.refl _,U.rep k1 rd⟩
      . refine ⟨ap.ay hp,?_⟩;rw [ed];exact .ar jk ((U.E2 k1 A2).ao (ap.ay hp))
     refine ⟨G,Q,c,h[i],w,k'.ao HP,rd,e5,λnT NT NU=>⟨G,Q,w,o1,NT,e6,?_⟩⟩;have N:=(U.trans (bg.refl HP)).trans NU
     cases o1 with
     |nx a=>exact λd H3 r u=>⟨rfl,Y,a,r,N.trans u,e4⟩
     |ct a=>exact λd H3 r u=>⟨rfl,Y,a,r,N.trans u,e4⟩
     |bk a=>cases e4;exact λd H3 r u=>q1 d H3 r (N.trans u)
     |rt fr dd=>cases e4;exact q1
   . have he:i=h.length:=by omega
     refine .inl ⟨w3 (by omega),?_⟩;rw [wV (by omega)] at e';cases e'
     exact q1 n I k' U)
def qZ (n:Nat) (t:T4) (g:T3):Sl->aq bD:=λc=>match n with
 |0=> .aj
 |n+1=>t c>>=λb=>if b=true then g c>>=λo=>match o with
   | .nx a=>qZ n t g a
   | .ct a=>qZ n t g a
   | .bk a=> .ok (.nx a)
   | .rt h d=> .ok (.rt h d)
  else .ok (.nx c)
def Ws (n:Nat) (hp:rf (model X.prog X.w) X.A X.env X.xe) (hc:DT X c t) (hb:iS X w g):DS X (.While c w [] pos) (qZ n t g):=by
 nomatch (
  PS.imp (Km hp hc hb) λE Q H=>by
   rintro ⟨G,x,u,o,k,ef,q⟩;refine ⟨λm r J=> ∃d,au X.K G x d r J/\bg u Q H d r J/\qZ m t g d= .ok o,⟨n,u,k,bg.refl (ap.refl H),ef⟩,?_⟩;rintro m r J ⟨d,L,U,Y⟩
   cases m with
   |zero=>cases Y
   |succ m=>
    obtain ⟨b,e1,e2⟩:=ja Y;refine ⟨G,x,d,b,L,e1,λH1 y=>?_⟩
    cases b with
    |false=>
     rw [if_neg fq] at e2 ⊢;cases e2;exact q r H1 (L.ao y) (U.trans (bg.refl y))
    |true=>
     rw [if_pos rfl] at e2 ⊢;obtain ⟨o1,e3,I⟩:=ja e2;refine ⟨λh N=> ∃a,au X.K G x a h N/\bg u Q H a h N/\qZ m t g a= .ok o,λh N z=>⟨m,pe m,z⟩,G,x,d,o1,L.ao y,e3,?_⟩;have v:=U.trans (bg.refl y)
     cases o1 with
     |nx a=>exact λh O i p=>⟨a,i,v.trans p,I⟩
     |ct a=>exact λh O i p=>⟨a,i,v.trans p,I⟩
     |bk a=>cases I;exact λh O i p=>q h O i (v.trans p)
     |rt fr dd=>cases I;exact q)
end
def br (i:Nat) (env:Sl):Sl:=match env[i]? with
 |some (.ag d)=>env.set i (.ab d)
 |_=>env
def Xe (h:jS (br i env) g a):jS env g a:=by
 unfold br at h
 split at h
 . rename_i d m;obtain ⟨j,e,c,l⟩:=h
   by_cases z:i=j
   . subst z;obtain ⟨q,_⟩:=jH c;cases q
   . rw [jo z] at c;exact ⟨j,e,c,l⟩
 . exact h
def au.br {K:aA} (i:Nat) (k:au K G B env r H):au K G B (br i env) r H:=by
 have w: ∀a,Sf G env r a->Sf G (M.br i env) r a:=λa n=>⟨λo=>n.1 (Xe o),n.2⟩
 cases l:env[i]? with
 |none=>
  have e:M.br i env=env:=by unfold M.br;rw [l]
  rw [e];exact k
 |some s=>
  cases s with
  |un=>
   have e:M.br i env=env:=by unfold M.br;rw [l]
   rw [e];exact k
  |ab d=>
   have e:M.br i env=env:=by unfold M.br;rw [l]
   rw [e];exact k
  |ag d=>
   have e:M.br i env=env.set i (.ab d):=by unfold M.br;rw [l]
   obtain ⟨a,h1,E,h2⟩:=k.ag i d l
   have x:EW (M.br i env) r a:=by
     rintro ⟨j,m,g,p⟩;rw [e] at g
     by_cases z:i=j
     . subst z;obtain ⟨q,_⟩:=jH g;cases q
     . rw [jo z] at g;exact z (k.mL i j d m a l g h1 p)
   rw [e] at w x ⊢;refine ⟨by simp [k.len],k.ae,k.g0,λj m h=>?_,λj m h=>?_,λj y I J b g p L N=>?_⟩
   . by_cases z:i=j
     . subst z;obtain ⟨q,O⟩:=jH h;cases q;exact ⟨_,h1,h2.rep (λc z=>⟨w c z,Q7 k l h1 c z⟩) ⟨x,k.g0 a E⟩⟩
     . rw [jo z] at h;obtain ⟨u,v,g2⟩:=k.ab j m h;exact ⟨u,v,g2.aG w⟩
   . by_cases z:i=j
     . subst z;obtain ⟨q,O⟩:=jH h;cases q
     . rw [jo z] at h;obtain ⟨u,v,g0,g2⟩:=k.ag j m h;exact ⟨u,v,g0,g2.aP (λ_ _ e _=>e) w λ_ e=>e⟩
   . have n1:i≠j:=λz=>by subst z;obtain ⟨q,_⟩:=jH g;cases q
     have n2:i≠y:=λz=>by subst z;obtain ⟨q,_⟩:=jH p;cases q
     rw [jo n1] at g;rw [jo n2] at p;exact k.mL j y I J b g p L N
def pI (i:Nat) (g:T3):Sl->aq bD:=λa=>g (br i a)
def HQ (i:Nat) {st:Stmt} (h:DS X st g):DS X st (pI i g):=by
 nomatch (PS.imp h λE c H=>by
  rintro ⟨G,d,a,o,k,l,q⟩;refine ⟨G,d,br i a,o,k.br i,l,?_⟩;have f:bg a c H (br i a) c H:=⟨λ_ _ e _=>e,λb o=> .inl (Xe o),λ_ e=>e⟩
  exact J1 f q)
end M
namespace PySem.AutoSeq1
open PySem Builtin
def dY (l:Addr) (c:Array Value) (n:Nat) (b:Addr) (a:Array Value) (o:Nat) (p:Option Addr) (q:Array (Option Value)) (r: ¬(!c.isEmpty&&CN (c.size+a.size))=true) (u:c.size<=aH) (e:c.size+a.size<=aH+1):
  Meets (fS.«list.extend» ⟨[.ref l,.ref b],[]⟩) (λ_ R s=>s.heap.get? l=some {cls:= .type "list",dict:=none,data:= .seq c n,slots:= #[]}/\s.heap.get? b=some {cls:= .type "tuple",dict:=p,data:= .seq a o,slots:=q}/\R (.ok (.ret mx)) {s with heap:=s.heap.update l (nj λx=>x++a),toks:=s.toks}):=
 .of_wp λi w A R s h=>by
  obtain ⟨z,g,d,tk,os⟩:=s;obtain ⟨m,v,h⟩:=h;have B:=idx_int;have E:=sub_tuple_tuple;have H:=sub_list_list;have I:=sub_tuple_list;have J:=sub_list_tuple;
  have y:(c++a).size<=aH+1:=by rw [Array.size_append];exact e
  wp_walk using (sT m rfl),A3 m,A3 v;exact ⟨_,rfl,h⟩
end PySem.AutoSeq1
namespace M
open PySem PySem.Spec L2
open PyProof.Rows hiding St
theorem eN: ∀ {ds:List D},D.bC ds=true↔ ∀d∈ds,d.eK=true
 | []=>by simp [D.bC]
 |d::ds=>by simp [D.bC,eN]
section
variable {X:Cx}
def NW:V->List V->Hp->VK->Prop:=λx d H Q=> ∃l b a c,x= .ref l/\d=[.ref b]/\H l=some (.ah a)/\H b=some (.ar c)/\a.length+c.length<=aH/\Q .aV (ay H l (.ah (a++c)))
def Zc:AV X "list.extend" NW:=by
 intro w s σ H x vs v us Q I E J h;obtain ⟨l,b,xs,zs,rfl,rfl,y,L,hz,q⟩:=h;cases E;obtain ⟨u,rfl,N⟩:=J.one;cases N;obtain ⟨z,c,n,r,hl,e⟩:=I.lA y;obtain ⟨a,B,⟨ob,e2,O,U,Y⟩,z2⟩:=I.tuple (.of L);have C3:=B.length;obtain ⟨c2,g,dt2,i⟩:=ob;have m:=O;have o:=Y;subst m o;have p:c.toArray.size+a.toArray.size<=aH:=by rw [cn,cn];omega
 have d: ¬(!c.toArray.isEmpty&&CN (c.toArray.size+a.toArray.size))=true:=by
  rw [KB p,CO];exact fq
 refine call_meets CP ⟨_,e,rfl⟩ F.entry_list_extend (F.args_list_extend_2 _ _)
  (AutoSeq1.dY l c.toArray n b a.toArray U g i d (by rw [cn];omega) (by omega)) ⟨e,e2,?_⟩
 refine ⟨.aV,_,I.pz y e (by simp) (r.append B) ?_,rfl,q⟩;rw [de];omega
def xJ (h:env[i]?=some (.ag d)):jS (env.set i (.ag l)) m a↔jS env m a:=by
 have n:=(c7.mp h).1
 constructor
 . rintro ⟨j,e,g,c⟩
   by_cases z:i=j
   . subst z;exact ⟨i,d,h,c⟩
   . rw [jo z] at g;exact ⟨j,e,g,c⟩
 . rintro ⟨j,e,g,c⟩
   by_cases z:i=j
   . subst z;exact ⟨i,l,sg n,c⟩
   . exact ⟨j,e,by rw [jo z];exact g,c⟩
def au.ge {K:aA} (k:au K G L env d H) (g:env[i]?=some (.ag B)) (u:d[i]?=some (some (.ref a))) (N:H a=some O) (Q:ky (some O))
   (top: ∀(E:UP) (y:Hp),eL (Sf G env d) H y->y a=some o'->(∀b,Sf G env d b->E b)->Top K E y a d'):au K G L (env.set i (.ag d')) d (ay H a o')/\bg env d H (env.set i (.ag d')) d (ay H a o'):=by
 have hl:=(c7.mp g).1;have I:jS env d a:=⟨i,_,g,u⟩
 have st:eL (Sf G env d) H (ay H a o'):=λc o e m=>by
   rw [jp ?_]
   . exact e
   . rintro rfl;rw [N] at e;cases e;exact (m Q).1 I
 have w: ∀c,Sf G env d c->Sf G (env.set i (.ag d')) d c:=λc n=>⟨λo=>n.1 ((xJ g).mp o),n.2⟩
 refine ⟨⟨by simp [k.len],λc o e=>?_,k.g0,λj l h=>?_,λj l h=>?_,λj J l U b Y q2 q3 q4=>?_⟩,⟨λc o e n=>?_,λc o=> .inl ((xJ g).mp o),λc e=>?_⟩⟩
 . have r:c≠a:=by
     rintro rfl;obtain ⟨b,h1,x,_⟩:=k.ag i _ g;rw [u] at h1;cases h1;rw [x] at e;cases e
   rw [jp r];exact k.ae c o e
 . by_cases z:i=j
   . subst z;obtain ⟨q,_⟩:=jH h;cases q
   . rw [jo z] at h;obtain ⟨v,h1,h2⟩:=k.ab j l h;exact ⟨v,h1,h2.aP st w⟩
 . by_cases z:i=j
   . subst z;obtain ⟨q,_⟩:=jH h;cases q;obtain ⟨b,h1,x,_⟩:=k.ag i _ g;rw [u] at h1;cases h1;exact ⟨a,u,x,top _ _ st jk w⟩
   . rw [jo z] at h;obtain ⟨b,h1,x,h2⟩:=k.ag j l h
     have hb:b≠a:=by
       rintro rfl;exact z (k.mL i j _ _ b g h u h1)
     exact ⟨b,h1,x,h2.aP st w λo e=>by rw [jp hb];exact e⟩
 . have p: ∀(j:Nat) (l:D),(env.set i (.ag d'))[j]?=some (.ag l)-> ∃B:D,env[j]?=some (.ag B):=λj l q=>by
     by_cases z:i=j
     . subst z;exact ⟨_,g⟩
     . rw [jo z] at q;exact ⟨_,q⟩
   obtain ⟨e1,z1⟩:=p j l Y;obtain ⟨e2,z2⟩:=p J U q2;exact k.mL j J e1 e2 b z1 z2 q3 q4
 . have r:c≠a:=by
     rintro rfl;exact n I
   rw [jp r];exact e
 . by_cases r:c=a
   . subst r;rw [jk] at e;cases e
   . rw [jp r] at e;exact e
def au.write {K:aA} (k:au K G h env c H) (l:env[i]?=some (.ag (.ah ds))) (m:c[i]?=some (some (.ref a))) (n:H a=some (.ah o))
  (r:am K (Sf G env c) H d g):au K G h (env.set i (.ag (.ah g))) c (ay H a (.ah d))/\bg env c H (env.set i (.ag (.ah g))) c (ay H a (.ah d)):=
 k.ge l m n trivial λp q st e w=> .ah e (r.aP st w)
def we {K:aA} {i:Nat} (k:au K G m env c H) (g:env[i]?=some (.ag (.ah ds))): ∃a d,c[i]?=some (some (.ref a))/\H a=some (.ah d)/\am K (Sf G env c) H d ds:=by
 obtain ⟨a,h,n,l⟩:=k.ag i _ g
 cases l with
 |ah e r=>exact ⟨a,_,h,e,r⟩
variable {e:Expr} {f:T5} {l:Lv} {O Y U p:Pos} {x:Str}
def cu (i:Nat) (env:Sl):aq (List D):=match env[i]? with
 |some (.ag (.ah a))=> .ok a
 |_=> .aj
def zD (h:cu i env= .ok ds):env[i]?=some (.ag (.ah ds)):=by
 unfold cu at h
 split at h
 . cases h;assumption
 . cases h
def QF (i:Nat) (f:T5):Sl->aq bD:=λa=>cu i a>>=λc=>f a>>=λd=>aK (c.length<aH) (.ok (.nx (a.set i (.ag (.ah (c++[d]))))))
def uk (i:Nat) (Q:DE X .s e f) (hN:X.N[i]?=some x:=by rfl) (hv:dE X.env.scope x:=by exact bT rfl)
   (hd:ZH x:=by decide) (u:UR x:=by decide)
   (g:lx (.Name x p) "append" X.env (eval (.Name x p) X.env)=eval (.Name x p) X.env:=by rfl)
   (m:((eA Y (bj [e] X.env)).all (λx=>!x.1)&&(l7 Y (l8 [] X.env)).all (λx=>x.1.isSome)
    &&decide ([e].length+([]:List la).length+(if ([]:List la).isEmpty then 0 else 1)<30))=true:=by exact yF rfl rfl)
   (h:(U.endLine==Y.line)=true:=by rfl) (z:bj [e] X.env=(false,eval e X.env)::bj [] X.env:=by exact jm rfl) (c:(eA Y (bj [] X.env)).any (·.1)=false:=by exact jK rfl)
   (w:gb (.Call (.Attribute (.Name x p) "append" U) [e] [] Y) none O.line X.env=pure false:=by rfl):
   DS X (.Expr (.Call (.Attribute (.Name x p) "append" U) [e] [] Y) O) (QF i f):=by
 nomatch (
  PS.imp (JQ (CM C4 PySem.F.slot_list_append PySem.F.type_list_append J4 (qw hN hv hd u) (qc Q zC z) g m h z c) w) λE σ H=>by
   rintro ⟨G,H0,y,o,k,ef,q⟩;obtain ⟨ds,e1,e2⟩:=ja ef;obtain ⟨d,e3,e4⟩:=ja e2;obtain ⟨hz,e5⟩:=jl e4;cases e5;have B:=zD e1;obtain ⟨a,I,J,L,N⟩:=we k B;refine ⟨.ref a,J,.inl ⟨rfl,I,.of L⟩,G,H0,y,d,k,e3,λv H1 r r1 _=>?_⟩;have n:=r _ _ L;refine ⟨a,I,v,rfl,rfl,n,by rw [N.length];exact hz,?_⟩;have W:=(k.ao r).write B J n ((N.ao r).append (.cons r1 .nil))
   exact q σ _ W.1 (W.2.ao r))
def zA (i:Nat) (f:T5):Sl->aq bD:=λa=>cu i a>>=λg=>f a>>=λd=>match d with
 | .ah c=>aK (g.length+c.length<=aH) (.ok (.nx (a.set i (.ag (.ah (g++c))))))
 | .ar c=>aK (g.length+c.length<=aH) (.ok (.nx (a.set i (.ag (.ah (g++c))))))
 |_=> .aj
def Qr (i:Nat) (he:DE X .s e f) (hN:X.N[i]?=some x:=by rfl) (hv:dE X.env.scope x:=by exact bT rfl)
   (hd:ZH x:=by decide) (z:UR x:=by decide)
   (h:lx (.Name x p) "extend" X.env (eval (.Name x p) X.env)=eval (.Name x p) X.env:=by rfl)
   (u:((eA Y (bj [e] X.env)).all (λx=>!x.1)&&(l7 Y (l8 [] X.env)).all (λx=>x.1.isSome)
    &&decide ([e].length+([]:List la).length+(if ([]:List la).isEmpty then 0 else 1)<30))=true:=by exact yF rfl rfl)
   (m:(U.endLine==Y.line)=true:=by rfl) (hs:bj [e] X.env=(false,eval e X.env)::bj [] X.env:=by exact jm rfl) (c:(eA Y (bj [] X.env)).any (·.1)=false:=by exact jK rfl)
   (B:gb (.Call (.Attribute (.Name x p) "extend" U) [e] [] Y) none O.line X.env=pure false:=by rfl):
   DS X (.Expr (.Call (.Attribute (.Name x p) "extend" U) [e] [] Y) O) (zA i f):=by
 nomatch (
  PS.imp (JQ (CM C4 CP PySem.F.type_list_extend (oP.or Xj Zc) (qw hN hv hd z) (qc he zC hs) h u m hs c) B) λE σ H=>by
   rintro ⟨G,H0,I,o,k,ef,q⟩;obtain ⟨ds,e1,e2⟩:=ja ef;obtain ⟨d,e3,J⟩:=ja e2;have L:=zD e1;obtain ⟨a,N,Q,hx,y⟩:=we k L;refine ⟨.ref a,Q,.inl ⟨rfl,N,.of hx⟩,G,H0,I,d,k,e3,λv H1 n r1 _=>?_⟩;have g:=n _ _ hx
   cases d with
   |ah es=>
    obtain ⟨hz,e5⟩:=jl J;cases e5;obtain ⟨b,ys,rfl,hb,_,w⟩:=r1.cP;have r:=w.low;refine .inl ⟨a,b,N,ys,rfl,rfl,g,hb,by rw [y.length,w.length];exact hz,?_⟩;have W:=(k.ao n).write L Q g ((y.ao n).append r);exact q σ _ W.1 (W.2.ao n)
   |ar es=>
    obtain ⟨hz,e5⟩:=jl J;cases e5;obtain ⟨b,ys,rfl,hb,w⟩:=r1.dL;have r:=w;refine .inr ⟨a,b,N,ys,rfl,rfl,g,hb,by rw [y.length,w.length];exact hz,?_⟩;have W:=(k.ao n).write L Q g ((y.ao n).append r);exact q σ _ W.1 (W.2.ao n)
   |_=>cases J)
end
def Jv (I:Nat->az->Prop)
  (B: ∀n s,I n s->wpAny (model a w) A (hJ U) (λr e=>match r with
   |none=>R (.ok .next) e
   |some v=>wpAny (model a w) A (letOwnedTupleGo d U v) (λ_ g=>wpAny (model a w) A (mE d env v) (λ_ o=>
    wpAny (model a w) A (forIn L true λc r=>if r=true then do let ok<-isTrue c env (eval c env);pure (C5 ok) else pure (C5 r)) (λok i=>
     if ok=true then wpAny (model a w) A (eval N env) (λx p=>
      wpAny (model a w) A (call (.builtin "list.append") [O,x]) (λ_ q=> ∃m,m<n/\I m q) (λ_ _=>False) p) (λ_ _=>False) i
     else∃m,m<n/\I m i) (λ_ _=>False) o) (λ_ _=>False) g) (λ_ _=>False) e) (λ_ _=>False) s)
  (n:Nat) (h:I n s):k4 (model a w) A (.compLoop (.ListComp N [⟨d,iter,L,0⟩] Q Y) 0 U O env) R s:=by
 refine codeAny_loop rfl I (λn s hI=>?_) n h;refine wpAny_noted ?_;rw [compTurn_list];refine ak (wpAny_standAt (ak (mw (B n s hI) (λr e u=>?_) λ_ _ l=>l.elim)))
 cases r with
 |none=>exact aC u
 |some v=>
  refine ak (mw u (λ_ g z=>?_) λ_ _ l=>l.elim);refine ak (mw z (λ_ o E=>ak (mw E (λok i y=>?_) λ_ _ l=>l.elim)) λ_ _ l=>l.elim)
  cases ok with
  |false=>exact aC ⟨rfl,y⟩
  |true=>
   exact ak (ak (mw y (λx p H=>ak (mw H (λ_ q J=>aC (aC ⟨rfl,J⟩)) λ_ _ l=>l.elim)) λ_ _ l=>l.elim))
def XC (X:Cx) (N:List Str) (a:Scope) (c:List (Str×Addr)) (C:Addr) (s:az) (H:Hp) (d:List Addr):Cx where
 prog:=X.prog
 w:=X.w
 K:=X.K
 mg:=X.mg
 ae:=X.ae
 A:=X.A
 N:=N
 c8:=s
 iK:=H
 env:=compEnvC a c C X.env
 outer:=X.stack
 stack:=X.stack
 ex:=d
 fn:=λ_=>false
 bz:=true
 pn:=[]
 xe:=λ_ _=>False
@[irreducible] def rB (X:Cx) (d:List Expr) (c:T4):Prop:=
 ∀(a:List (Addr×Obj)) (s:az) (e:L2.St) (H:Hp) (Q:Bool->Hp->Prop),aw X a e H s->tT X.K c e H Q->
  wpAny (model X.prog X.w) X.A (forIn d true λc r=>if r=true then do let ok<-isTrue c X.env (eval c X.env);pure (C5 ok) else pure (C5 r)) (TP X a e Q) X.xe s
def qo:Sl->aq Bool:=λ_=> .ok true
def wv:rB X [] qo:=by
 nomatch (λa s e H Q I ⟨G,g,c,b,k,d,q⟩=>by
  cases d
  exact wpAny_tests_nil ⟨H,I,q H (ap.refl H)⟩)
def zI (n:Nat) (t:TX) (c:T4) (h:T5):List D->Sl->aq Sl
 | [],e=> .ok e
 |d::i,e=>t d e>>=λa=>c a>>=λb=>if b=true
  then h a>>=λv=>cu n a>>=λg=>aK (g.length<aH) (zI n t c h i (a.set n (.ag (.ah (g++[v])))))
  else zI n t c h i a
def fO (a:Bool) (env:Sl) (j:Nat):Slot:=match env[j]? with
 |some (.ab d)=> .ab d
 |some (.ag d)=>if a=true then .ab d else .un
 |_=> .un
def wB (a:Bool) (m:Nat) (c:List Nat) (env:Sl):Sl:=ri m .un++c.map (fO a env)++[.ag (.ah [])]
def ze (h:Bool) (m:Nat) (g:List Nat) (i:TZ) (t:TX) (c:T4) (l:T5):Sl->aq D:=λa=>
 i a>>=λn=>zI (m+g.length) t c l n (wB h m g a)>>=λd=>cu (m+g.length) d>>=λe=>aK (h=true->D.bC e=true) (.ok (.ah e))
def qE (m:Nat) (c:List Nat) (d:L2.St) (a:Addr):L2.St:=ri m none++c.map (λj=>(d[j]?).join)++[some (.ref a)]
theorem qX {env:Env}: ∀ {names:List (Str×rh)} {x:Str} {k:rh},
  (names.map λ(n,k)=>if (k==oR&&env.scope.kind== .function&&env.kindOf n==some .cell) then (n,oS) else (n,k)).lookup x=some k-> ∃c,(x,c)∈names/\(k=c\/c= .free)
 | [],_,_,h=>by simp at h
 | (n,c)::r,x,k,h=>by
  have a:lv x ((if (c==oR&&env.scope.kind== .function&&env.kindOf n==some .cell)=true then (n,oS) else (n,c))::(r.map λ(n,k)=>if (k==oR&&env.scope.kind== .function&&env.kindOf n==some .cell) then (n,oS) else (n,k)))=some k:=h
  by_cases g:(c==oR&&env.scope.kind== .function&&env.kindOf n==some .cell)=true
  . rw [if_pos g] at a;simp only [mN] at a
    cases d:x==n with
    |true=>
     rw [d] at a;have e:x=n:=by simpa using d
     subst e;refine ⟨c,ci,.inr ?_⟩;simp at g;exact g.1.1
    |false=>
     rw [d] at a;obtain ⟨i,l,m⟩:=qX a;exact ⟨i,cv _ l,m⟩
  . rw [if_neg g] at a;simp only [mN] at a
    cases d:x==n with
    |true=>
     rw [d] at a;have e:x=n:=by simpa using d
     subst e;cases a;exact ⟨_,ci,.inl rfl⟩
    |false=>
     rw [d] at a;obtain ⟨i,l,m⟩:=qX a;exact ⟨i,cv _ l,m⟩
def pJ (z:Option Str) (a:List (Str×Addr)) (C:Addr):List (Str×Addr):=match z with
 |none=>a
 |some y=>(y,C+1)::a
def E3 (z:Option Str) (h:Heap):Heap:=match z with
 |none=>h
 |some _=>h.push {cls:= .type "cell",data:= .cell none}
abbrev jF (z:Option Str) (X:Cx) (N:List Str) (a:Scope) (c:List (Str×Addr)) (C:Addr) (s:az) (H:Hp) (d:List Addr):Cx:={XC X N a (pJ z c C) C s H d with fn:=λx=>some x==z}
def pK (h:lv x (pJ z a C)=some c):(z=some x/\c=C+1)\/(z≠some x/\a.lookup x=some c):=by
 cases z with
 |none=>exact .inr ⟨nofun,h⟩
 |some z=>
  have h:lv x ((z,C+1)::a)=some c:=h;rw [mN] at h
  cases e:x==z with
  |true=>rw [e] at h;cases h;exact .inl ⟨by rw [show x=z by simpa using e],rfl⟩
  |false=>rw [e] at h;exact .inr ⟨λq=>by simp at e;exact e (fU q).symm,h⟩
def sU (d:z≠some x) (h:a.lookup x=some c):lv x (pJ z a C)=some c:=by
 cases z with
 |none=>exact h
 |some z=>
  show lv x ((z,C+1)::a)=some c;rw [mN,show (x==z)=false by simpa using λq=>d (by rw [q])];exact h
def Zb {code:Value}
  (made: ∀n,cellsFrom (n+1) a.names q=pJ z q n) (d: ∀h,pushCells h a.names=E3 z h)
  (v: ∀p,p.Ns s.heap.objs.size (λ_=>none)->(∀b o,s.heap.get? b=some o->p.get? b=some o)->(∀y,z=some y->p.IsCell (s.heap.objs.size+1) none)->Q (newEnv a s.heap.objs.size globals (pJ z q s.heap.objs.size) i l code (some g) c) {s with heap:=p}):
  wpAny M A (newFunctionEnv a globals q [] i l code (some g) c) Q E s:=by
 simp only [newFunctionEnv,Option.isSome_some,if_true];refine ak (wpAny_alloc ?_);refine ak (wpAny_layCells _ (λname m r=>by cases u:m==oS<;>simp [u]) _ _ _ _ ?_);have w:(s.heap.push {cls:= .type "dict",data:= .dict #[]}).objs.size=s.heap.objs.size+1:=iQ ..;have x:=made s.heap.objs.size;rw [<-w] at x;rw [x,d];simp;refine aC ?_;have B:=Heap.Ns.new s.heap (.type "dict")
 cases z with
 |none=>exact v _ B (λb o e=>bu _ e) nofun
 |some z=>
  refine v ((s.heap.push {cls:= .type "dict",data:= .dict #[]}).push {cls:= .type "cell",data:= .cell none}) (B.keeps λb o e=>bu _ e) (λb o e=>bu _ (bu _ e)) λ_ _=>⟨_,by rw [<-w];exact b0 _ rfl,rfl⟩
structure cU (z:Option Str) (X:Cx) (scope:Scope) (cl:List (Str×Addr)) (N:List Str) (m:Nat) (js:List Nat):Prop where
 A4:closureFor scope X.env=pure cl
 kind:scope.kind= .function
 names: ∀x∈scope.names,x.2= .local->scope.names.lookup x.1=some .local
 sV: ∀y∈scope.names,y.2= .cell->z=some y.1
 made: ∀n,cellsFrom (n+1) scope.names cl=pJ z cl n
 nU: ∀h,pushCells h scope.names=E3 z h
 zk: ∀y,z=some y->scope.names.lookup y=some .cell
 cls: ∀x c,cl.lookup x=some c->X.env.cells.lookup x=some c
 free: ∀y∈scope.names,y.2= .free-> ∃c,cl.lookup y.1=some c
 nd:N.Nodup
 len:N.length=m+js.length+1
 HR: ∀(k j:Nat),js[k]?=some j-> ∃y,N[m+k]?=some y/\X.N[j]?=some y/\(X.env.scope.names.lookup y=some .cell\/X.env.scope.names.lookup y=some .free)/\scope.names.lookup y=some .free
 last: ∀y,N[m+js.length]?=some y-> ∀p∈scope.names,p.1≠y
section
variable {X:Cx} {tg iter elt:Expr} {ifs:List Expr} {L:Scope} {cl:List (Str×Addr)} {N:List Str} {m:Nat} {g:List Nat} {pos:Pos} {im:Bool} {z:Option Str}
 {fi:TZ} {t:TX} {c:T4} {fe:T5}
def uF {σ:L2.St} {C:Addr} {J:List Addr} (S:cU z X L cl N m g) (O:X.bz=true) (I:aw X r σ H s) (w:s.heap.objs.size<=C) (E: ∀b∈J,cC X r H b) (B: ∀b∈J,b<s.heap.objs.size):
  (jF z X N L cl C s H J).Ok where
 mod:=I.ok.mod
 kind:=S.kind
 glob:=I.ok.glob
 blt:=I.ok.blt
 above:=w
 inj:=λx y c d a=>by
  have no: ∀u,X.env.cells.lookup u=some (C+1)->False:=λu e=>by
    obtain ⟨v,o,ho,_⟩:=I.cell u _ e;exact absurd (bw ho) (Nat.not_lt_of_le (bZ w (ly _)))
  rcases pK d with ⟨ex,Q⟩| ⟨_,U⟩
  . rcases pK a with ⟨Y,_⟩| ⟨_,g2⟩
    . rw [ex] at Y;exact fU Y
    . rw [Q] at g2;exact (no _ (S.cls _ _ g2)).elim
  . rcases pK a with ⟨Y,Q⟩| ⟨_,g2⟩
    . rw [Q] at U;exact (no _ (S.cls _ _ U)).elim
    . exact I.ok.inj x y c (S.cls x c U) (S.cls y c g2)
 has:=λx h=>by
  have mem:z=some x\/ ∃l,(x,l)∈L.names/\l= .free:=by
    rcases h with h|h<;>obtain ⟨l,d,a⟩:=qX h
    . rcases a with z|z
      . exact .inl (S.sV _ d z.symm)
      . exact .inr ⟨l,d,z⟩
    . rcases a with z|z
      . exact .inr ⟨l,d,z.symm⟩
      . exact .inr ⟨l,d,z⟩
  by_cases p:z=some x
  . subst p;exact ⟨C+1,by show lv x ((x,C+1)::cl)=_;simp [mN]⟩
  . obtain ⟨l,d,a⟩:=mem.resolve_left p;obtain ⟨c,O⟩:=S.free _ d a;exact ⟨c,sU p O⟩
 vu:=λx c h a=>by
  have e:some x=z:=by simpa using h
  rcases pK a with ⟨_,rfl⟩| ⟨n,_⟩
  . exact bZ w (ly _)
  . exact (n e.symm).elim
 hd:=λ_=>I.ok.hd O
 frames:=I.ok.frames
 Ay:= .inl rfl
 r9:=λb i=>⟨λz=>absurd (eV (B b i) (by rw [z];exact w)) (nH _),λx c h=>by
  rcases pK h with ⟨_,rfl⟩| ⟨_,h⟩
  . exact λe=>absurd (B b i) (Nat.not_lt_of_le (by rw [<-e];exact bZ w (ly _)))
  . exact (E b i).2.2.2.2.1 x c (S.cls x c h)⟩
 bs:=I.bs
 oI:=bZ I.ok.oI I.sz
 mB:=λb o e i=>by
  rcases (E b i).2.2.2.1 with z|z
  . exact I.ok.mB b o e z
  . exact absurd (eV (bw e) (bZ I.ok.oI z)) (nH _)
 lm:=λb i z=>by
  rcases bH.mp (I.lq b z) with q|q
  . exact (E b i).2.1 q
  . exact (E b i).2.2.1 q
 eY:=I.stack
 rc:=I.lY
def uK (h:fO im env j= .ag d):False:=by
 unfold fO at h
 split at h
 . cases h
 . split at h<;>cases h
 . cases h
def VZ (h:jS (wB im m g env) (qE m g p a) b):b=a:=by
 obtain ⟨i,d,h,l⟩:=h
 have q:i=m+g.length:=by
  unfold wB at h
  by_cases o:i<m
  . rw [fy,fI (by simpa using o),nM] at h
    split at h<;>cases h
  . rw [fy,eD (by simpa using o)] at h;simp at h
    by_cases l:i-m<g.length
    . rw [fI (by simpa using l),c6] at h
      cases e:g[i-m]? with
      |none=>rw [e] at h;cases h
      |some j=>
        rw [e] at h;have r:=fU h;exact (uK r).elim
    . rw [eD (by simpa using l)] at h;simp at h
      by_cases u:i-m-g.length=0
      . omega
      . rw [mv (by simp;omega)] at h;cases h
 subst q
 have n:(qE m g p a)[m+g.length]?=some (some (.ref a)):=by
  unfold qE;rw [fy,eD (by simp),eD (by simp)];simp
 rw [n] at l;cases l;rfl
abbrev Gc (im:Bool) (G:UP) (env:Sl) (a:L2.St):Addr->Prop:=λc=>G c/\(im=false-> ¬jS env a c)
def NX {K:aA} (k:au K G H0 env n H) (J:H a=none):
   au K (Gc im G env n) H (wB im m g env) (qE m g n a) (ay H a (.ah [])):=by
 have l: ∀(i:Nat) (d:D),(wB im m g env)[i]?=some (.ag d)->i=m+g.length/\d= .ah []:=λi d h=>by
   unfold wB at h
   by_cases q:i<m
   . rw [fy,fI (by simpa using q),nM] at h
     split at h<;>cases h
   . rw [fy,eD (by simpa using q)] at h;simp at h
     by_cases p:i-m<g.length
     . rw [fI (by simpa using p),c6] at h
       cases e:g[i-m]? with
       |none=>rw [e] at h;cases h
       |some j=>
         rw [e] at h;have u:=fU h;exact (uK u).elim
     . rw [eD (by simpa using p)] at h;simp at h
       by_cases w:i-m-g.length=0
       . rw [w] at h;cases h;exact ⟨by omega,rfl⟩
       . rw [mv (by simp;omega)] at h;cases h
 have x:(qE m g n a)[m+g.length]?=some (some (.ref a)):=by
   unfold qE;rw [fy,eD (by simp),eD (by simp)];simp
 have y: ∀b,jS (wB im m g env) (qE m g n a) b->b=a:=λb ⟨i,d,q,p⟩=>by
   obtain ⟨rfl,rfl⟩:=l i d q;rw [x] at p;cases p;rfl
 have U:ap H (ay H a (.ah [])):=ap.ay J;refine ⟨by simp [wB,qE],U,λc z=>⟨(k.new c z).2,λ_=>(k.new c z).1⟩,λi d h=>?_,λi d h=>?_,λi j d e b q p w E=>(l i d q).1.trans (l j e p).1.symm⟩
 . unfold wB at h
   by_cases q:i<m
   . rw [fy,fI (by simpa using q),nM] at h
     split at h<;>cases h
   . rw [fy,eD (by simpa using q)] at h;simp at h
     by_cases p:i-m<g.length
     . rw [fI (by simpa using p),c6] at h
       cases e:g[i-m]? with
       |none=>rw [e] at h;cases h
       |some j=>
         rw [e] at h;have u:=fU h
         have O:(qE m g n a)[i]?=some ((n[j]?).join):=by
           unfold qE;rw [fy,eD (by simpa using q)];simp;rw [fI (by simpa using p),c6,e];rfl
         have B: ∀v,n[j]?=some (some v)->aD K (Gc im G env n) H v d-> ∃v,(qE m g n a)[i]?=some (some v)/\aD K (Sf (Gc im G env n) (wB im m g env) (qE m g n a)) (ay H a (.ah [])) v d:=λv e1 r=>by
           refine ⟨v,by rw [O,e1];rfl,(r.bq.ao U).aG λb z=>⟨λo=>?_,z.1⟩⟩;rw [y b o] at z;exact z.2 J
         unfold fO at u
         split at u
         . rename_i Y I;cases u;obtain ⟨v,w,E⟩:=k.ab j d I;exact B v w (E.aG λc z=>⟨z.2,λ_=>z.1⟩)
         . rename_i Y I
           split at u
           . rename_i Q;cases u;obtain ⟨v,w,h0,E⟩:=k.ag j d I;exact B _ w (E.rep (λc z=>⟨⟨z.2,λ_=>z.1⟩,Q7 k I w c z⟩) ⟨k.g0 _ h0,λz=>by rw [Q] at z;cases z⟩)
           . cases u
         . cases u
     . rw [eD (by simpa using p)] at h;simp at h
       by_cases w:i-m-g.length=0
       . rw [w] at h;cases h
       . rw [mv (by simp;omega)] at h;cases h
 . obtain ⟨rfl,rfl⟩:=l i d h;exact ⟨a,x,J,.ah jk .nil⟩
def Qz (use:Option (Value->Sem Unit)) (Q':UO) (im:Bool) (N:List Str) (m:Nat) (g:List Nat) (S:cU z X L cl N m g) (hc:X.bz=true) (hi:PI X tg iter (tI X.K fi))
   (hb: ∀(C:Addr) (s:az) (H:Hp) (fp:List Addr),PG (jF z X N L cl C s H fp) tg (tG X.K t)/\rB (jF z X N L cl C s H fp) ifs c/\PE (jF z X N L cl C s H fp) elt (tE X.K .s fe))
   (hs: ∀x,nc iter X.env x=pure x) {pins:List (Addr×Obj)} {Q:L2.St} {H:Hp} (I:aw X pins Q H s) (k:au X.K G H0 env Q H) (ef:ze im m g fi t c fe env= .ok d)
   (sW: ∀(a C:Addr) (s':az) (O:Hp) (mm:UQ) (r:Flow),s'.heap.Ns C mm->(∀h',kx C s'.heap h'->aw X pins Q O {s' with heap:=h'})->cC X pins O C->ap H O->aD X.K (Sf G env Q) O (.ref a) d->be H (.ref a)->compPost (model X.prog X.w) X.A X.xe use Q' (.ref a) C (.ok r) s'):
   wpAny (model X.prog X.w) X.A (comprehension (.ListComp elt [⟨tg,iter,ifs,0⟩] L pos) L X.env (firstIterPos [⟨tg,iter,ifs,0⟩] pos) (newList []) (firstAsync [⟨tg,iter,ifs,0⟩]) (firstIter [⟨tg,iter,ifs,0⟩] X.env) use) Q' X.xe s:=by
 nomatch (by
  obtain ⟨ds,e1,ef⟩:=ja ef;obtain ⟨iT,e2,ef⟩:=ja ef;obtain ⟨E4,e3,e4⟩:=ja ef;obtain ⟨E5,e4⟩:=jl e4;cases e4;refine wpAny_comprehension_free rfl hs S.A4 S.kind S.names ?_;refine a9 (hi pins s Q H (λJ H1=> ∃P,ap H H1/\C0 X.K (Sf G env Q) H1 J ds P/\P H1/\ ∀w E O,bg env Q H1 w E O->P O) I ⟨G,H0,env,ds,k,e1,λJ H1 P a b c' d'=>⟨P,a,b,c',d'⟩⟩) λv s1 h1=>a9 h1 λHj s2 h2=>?_
  obtain ⟨it,fp,tn,J,Y,rfl,I2,T,pc,f2,P,sm,wk,p0,sS⟩:=h2;have k2:=k.ao sm;refine hV (Zb S.made S.nU (λlG gf gg gh=>?_));dsimp only at gf gg gh ⊢;have sX:=I2.aM.fresh (aS _)
  let a:=s2.heap.objs.size
  have ha:=sX;have I3:=I2.pB (t':=s2.toks) .nil (dR _)
  let s3:az:={s2 with heap:=s2.heap.push {cls:= .type "list",dict:=none,data:= .seq ([]:List Value).toArray}}
  let C:=s3.heap.objs.size
  have f3: ∀b∈fp,cC X pins (ay Y a (.ah [])) b:=λb l=>by
   obtain ⟨z0,z⟩:=f2 b l;refine ⟨?_,z⟩
   have rC:b≠a:=by
     obtain ⟨o,ho,_⟩:=T.obj 0 _ pc b l;exact cj (bw ho)
   rw [jp rC];exact z0
  have pL: ∀b∈fp,b<s3.heap.objs.size:=λb l=>by
   obtain ⟨o,ho,_⟩:=T.obj 0 _ pc b l;refine eV (bw ho) ?_;rw [iQ];exact ly _
  have XO:=uF S hc I3 (aS _) f3 pL;obtain ⟨E6,E7,E8⟩:=hb C s3 (ay Y a (.ah [])) fp;have old: ∀b o,s3.heap.get? b=some o->lG.get? b=some o:=λb o e=>gg b o e
  have I4:aw (jF z X N L cl C s3 (ay Y a (.ah [])) fp) [] (qE m g Q a) (ay Y a (.ah [])) {s2 with heap:=lG,toks:=s2.toks+([]:List (Str×Value)).length}:=by
   refine ⟨XO,rfl,I3.bare,Un.kept old,⟨_,gf,λi y v' h1 h2 h3=>?_⟩,λy c' h=>?_,I3.aM.fresh (aS _),λy c' h=>(by
     rcases pK h with ⟨_,rfl⟩| ⟨_,h⟩
     . exact I3.aM.fresh (ly _)
     . exact I3.cm y c' (S.cls y c' h)),λp hp=>absurd hp (by simp [XC]),I3.aM.kept old,?_⟩
   . --a nV name
     have sY:N[i]?=some y:=h1;unfold qE at h2
     by_cases q1:i<m
     . rw [fy,fI (by simpa using q1),nM] at h2
       split at h2<;>cases h2
     . rw [fy,eD (by simpa using q1)] at h2;simp at h2
       by_cases q2:i-m<g.length
       . rw [fI (by simpa using q2),c6] at h2
         cases e:g[i-m]? with
         |none=>rw [e] at h2;cases h2
         |some j=>
           rw [e] at h2;have nW:(Q[j]?).join=some v':=fU h2
           have hj:Q[j]?=some (some v'):=by
             cases z:Q[j]? with
             |none=>rw [z] at nW;cases nW
             |some w'=>rw [z] at nW;simp at nW;rw [nW]
           obtain ⟨y',g1,g2,g3,g4⟩:=S.HR (i-m) j e
           have ey:y'=y:=by
             rw [show m+(i-m)=i by omega,sY] at g1;exact (fU g1).symm
           subst ey;obtain ⟨mm,hn,hl⟩:=I3.loc
           have E9:dE X.env.scope y':=by
             rcases g3 with z|z
             . exact .inr (.inl z)
             . exact .inr (.inr z)
           obtain ⟨u,ru,lk⟩:=hl j y' v' g2 hj E9;refine ⟨u,ru,.inr ⟨?_,?_⟩⟩
           . rcases h3 with z|z
             . exfalso;obtain ⟨k',m1,m2⟩:=qX z;have sU:=S.names _ m1;rcases m2 with w'|w'
               . subst w';have:=sU rfl;rw [g4] at this;cases this
               . subst w'
                 have: ∀ {names:List (Str×rh)},names.lookup y'=some .free->(names.map λ(n,k)=>if (k==oR&&X.env.scope.kind== .function&&X.env.kindOf n==some .cell) then (n,oS) else (n,k)).lookup y'≠some .local:=by
                  intro names
                  induction names with
                  |nil=>intro h;cases h
                  |cons p r ih=>
                   obtain ⟨n,kk⟩:=p;intro h h';have mO:lv y' ((if (kk==oR&&X.env.scope.kind== .function&&X.env.kindOf n==some .cell)=true then (n,oS) else (n,kk))::(r.map λ(n,k)=>if (k==oR&&X.env.scope.kind== .function&&X.env.kindOf n==some .cell) then (n,oS) else (n,k)))=some .local:=h';simp only [mN] at h
                   cases hx:y'==n with
                   |true=>
                    rw [hx] at h;cases h
                    split at mO<;>simp [mN,hx] at mO
                   |false=>
                    rw [hx] at h
                    split at mO<;>(simp only [mN,hx] at mO;exact ih h mO)
                 exact this g4 z
             . exact z
           . rcases lk with ⟨kk,_⟩| ⟨kk,c',oJ,nX⟩
             . exfalso;have A5:X.env.scope.names.lookup y'=some .local:=kk;rcases g3 with z|z<;>(rw [z] at A5;cases A5)
             . obtain ⟨c2,A6⟩:=S.free (y',.free) (rk g4) rfl
               have:c2=c':=by
                 have:=S.cls _ _ A6;rw [oJ] at this;exact (fU this).symm
               subst this;obtain ⟨o,ho,hd⟩:=nX;exact ⟨c2,sU (λq=>by rw [S.zk _ q] at g4;cases g4) A6,o,old _ _ ho,hd⟩
       . exfalso
         have A7:i=m+g.length:=by
           have hl:=(c7.mp sY).1;rw [S.len] at hl;omega
         subst A7;have no:=S.last y sY;rcases h3 with z|z|z<;>
         . obtain ⟨k',m1,_⟩:=qX z;exact no _ m1 rfl
   . rcases pK h with ⟨q,rfl⟩| ⟨_,h⟩
     . exact ⟨none,gh _ q⟩
     . obtain ⟨v',o,ho,hd⟩:=I3.cell y c' (S.cls y c' h);exact ⟨v',o,old _ _ ho,hd⟩
   . show (qE m g Q a).length=N.length;rw [S.len];simp [qE];omega
  have kC:au X.K (Gc im G env Q) Y (wB im m g env) (qE m g Q a) (ay Y a (.ah [])):=NX k2 ha
  have fC: ∀b∈fp,cC (jF z X N L cl C s3 (ay Y a (.ah [])) fp) [] (ay Y a (.ah [])) b:=λb l=>by
   obtain ⟨z0,z1,z2,z3,z4,z5⟩:=f3 b l;exact ⟨z0,(XO.r9 b l).1,XO.lm b l,.inl l,(XO.r9 b l).2,λp hp=>absurd hp (by simp [XC])⟩
  have stC:=T.keep 0 _ _ pc λb l o e=>old b o (bu _ e)
  have loop:k4 (model X.prog X.w) X.A (.compLoop (.ListComp elt [⟨tg,iter,ifs,0⟩] L pos) 0 (.ref it) (.ref a) (compEnvC L (pJ z cl C) C X.env))
     (compPost (model X.prog X.w) X.A X.xe use Q' (.ref a) C) {s2 with heap:=lG,toks:=s2.toks+([]:List (Str×Value)).length}:=by
   refine Jv (λn s'=> ∃i E O w,n=ds.length+1-i/\i<=ds.length/\aw (jF z X N L cl C s3 (ay Y a (.ah [])) fp) [] E O s'/\tn i s'.heap/\(∀b∈fp,O b=none)/\(∀b,jS w E b->b=a)/\
       au X.K (Gc im G env Q) Y w E O/\bg (wB im m g env) (qE m g Q a) (ay Y a (.ah [])) w E O/\zI (m+g.length) t c fe (ds.drop i) w= .ok iT) ?_ (ds.length+1)
     ⟨0,_,_,_,rfl,dR _,I4,stC,λb l=>(fC b l).1,?_,kC,bg.refl (ap.refl _),by simpa using e2⟩
   . rintro n s' ⟨i,E,O,w,rfl,A7,Ic,st,fr,ii,kc,fc,ec⟩;have hP:=sS env Q O (bg.refl kc.ae);obtain ⟨w1,w2,w3⟩:=wk i O hP;have sZ: ∀ {O:Hp},(∀b∈fp,O b=none)-> ∀b∈fp,cC (jF z X N L cl C s3 (ay Y a (.ah [])) fp) [] O b:=λhn b l=>⟨hn b l,(fC b l).2⟩
     by_cases bt:i<ds.length
     . have hd:i<ds.length:=by omega
       rw [wU hd] at ec;obtain ⟨iU,e5,ec⟩:=ja ec;obtain ⟨b,e6,ec⟩:=ja ec;refine a9 (T.item (jF z X N L cl C s3 (ay Y a (.ah [])) fp) rfl rfl rfl rfl i [] s' E O (λ_ _=>False) Ic (sZ fr) st (w1 bt)) λr s4 fM=>?_;obtain ⟨u,hr,h4⟩:=fM
       subst hr;refine a9 h4 λ_ s5 fM=>?_;obtain ⟨x,H5,I5,r5,y5,s0,AC⟩:=fM
       have A8: ∀b,(Sf G env Q b/\Y b≠none)->Sf (Gc im G env Q) w E b:=λb z=>⟨λo=>(by
         rw [ii b o] at z
         exact z.2 ha),z.1.2,λ_=>z.1.1⟩
       obtain ⟨A9,Fa⟩:ap O H5/\aD X.K (Sf (Gc im G env Q) w E) H5 x ds[i]:=by
         rcases w2 _ (cZ hd) x H5 y5 with ⟨rfl,rd⟩| ⟨p,vs,es,hp,rfl,rfl,ed,A2⟩
         . exact ⟨ap.refl _,(rd.bq.ao kc.ae).aG A8⟩
         . refine ⟨ap.ay hp,?_⟩;rw [ed];exact .ar jk (((A2.bq.ao kc.ae).aG A8).ao (ap.ay hp))
       have Fb:=kc.ao A9;have Fc:=I5.pinned (sZ AC) (T.obj _ _ s0);refine a9 (E6 _ s5 E H5 x u (λnT Hn=>Hn=H5/\au X.K (Gc im G env Q) Y iU nT H5/\bg w E H5 iU nT H5) Fc r5 ⟨_,Y,w,ds[i],iU,Fb,Fa,e5,λnT k1 f1=>⟨rfl,k1,f1⟩⟩) λ_ s6 fM=>?_;obtain ⟨iN,H6,I6,z6,k6,Ba⟩:=fM
       subst z6
       have xi: ∀b,jS iU iN b->b=a:=λb o=>by
         rcases Ba.more b o with z|z
         . exact ii b z
         . obtain ⟨uu,hu⟩:=k6.there o;rw [z] at hu;cases hu
       refine a9 (E7 _ s6 iN H6 (λb' Hn=>b'=b/\ap H6 Hn) I6 ⟨_,Y,iU,b,k6,e6,λHn sn=>⟨rfl,sn⟩⟩) λok s7 fM=>?_;obtain ⟨H7,I7,z7,Bb⟩:=fM
       subst z7;have k7:=k6.ao Bb;have Bc:=((fc.trans (bg.refl A9)).trans Ba).trans (bg.refl Bb)
       have out: ∀ {s8:az} {mf:L2.St} {H8:Hp} {fb:Sl},aw (jF z X N L cl C s3 (ay Y a (.ah [])) fp) ([]++Q6 fp s5.heap) mf H8 s8->(∀b,jS fb mf b->b=a)->au X.K (Gc im G env Q) Y fb mf H8->
           bg (wB im m g env) (qE m g Q a) (ay Y a (.ah [])) fb mf H8->zI (m+g.length) t c fe (ds.drop (i+1)) fb= .ok iT->
           ∃mm,mm<ds.length+1-i/\ ∃i E O w,mm=ds.length+1-i/\i<=ds.length/\aw (jF z X N L cl C s3 (ay Y a (.ah [])) fp) [] E O s8/\tn i s8.heap/\(∀b∈fp,O b=none)/\(∀b,jS w E b->b=a)/\
             au X.K (Gc im G env Q) Y w E O/\bg (wB im m g env) (qE m g Q a) (ay Y a (.ah [])) w E O/\zI (m+g.length) t c fe (ds.drop i) w= .ok iT:=by
         intro s8 mf H8 fb I8 yd k8 f8 e8;refine ⟨ds.length+1-(i+1),by omega,i+1,mf,H8,fb,rfl,bt,I8.dr,T.keep _ _ _ s0 λb l o e=>(I8.pin (b,o) (eT _ (eT _ (zP l e)))).1,λb l=>?_,yd,k8,f8,e8⟩;obtain ⟨o,e,_⟩:=T.obj _ _ s0 b l;exact (I8.pin (b,o) (eT _ (eT _ (zP l e)))).2.1
       cases ok with
       |false=>
         rw [if_neg fq] at ec ⊢;exact out I7 xi k7 Bc ec
       |true=>
         rw [if_pos rfl] at ec ⊢;obtain ⟨vd,e7,ec⟩:=ja ec;obtain ⟨acc,e8,ec⟩:=ja ec;obtain ⟨hz,ec⟩:=jl ec;refine a9 (E8 _ s7 iN H7 (λy Hn=>ap H7 Hn/\aD X.K (Sf (Gc im G env Q) iU iN) Hn y vd) I7 ⟨_,Y,iU,vd,k7,e7,λy Hn sn rn _=>⟨sn,rn⟩⟩) λyv s8 fM=>?_;obtain ⟨y,H8,I8,ry,HS,tf⟩:=fM
         have k8:=k7.ao HS;have pM:=zD e8;obtain ⟨a8,Bd,th,Be,Bf⟩:=we k8 pM;have ea:=xi a8 ⟨_,_,pM,th⟩;subst ea;have W:=k8.write pM th Be (Bf.append (.cons tf .nil))
         refine a9 (J4 _ s8 iN H8 (.ref a) [y] (.ref a) [yv] (λ_ Hn=>Hn=ay H8 a (.ah (Bd++[y]))) I8 rfl (.cons ry .nil)
           ⟨a,Bd,y,rfl,rfl,Be,by rw [Bf.length];exact hz,rfl⟩) λ_ s9 ⟨_,H9,I9,_,z9⟩=>?_
         subst z9;exact out I9 (λb o=>xi b ((xJ pM).mp o)) W.1 ((Bc.trans (bg.refl HS)).trans W.2) ec
     . have he:i=ds.length:=by omega
       rw [wV (by omega)] at ec;cases ec;refine a9 (T.done (jF z X N L cl C s3 (ay Y a (.ah [])) fp) rfl rfl rfl rfl i [] s' E O (λ_ _=>False) Ic (sZ fr) st (w3 (by omega))) λr s4 ⟨hr,I5⟩=>?_
       subst hr;have rD:=zD e3;obtain ⟨aF,NY,yn,Fd,C6⟩:=we kc rD;have ea:=ii aF ⟨_,_,rD,yn⟩;subst ea;obtain ⟨mm,hn,_⟩:=I5.loc;refine sW a C s4 O mm _ hn (λh' pN=>?_) (I3.dW (aS _) I5.free) (sm.trans kc.ae) (.ah Fd (k.new a (ap.free sm ha)) ?_) (qi sm ha)
       rotate_left
       . cases HU:im with
         |true=>exact C6.eK (E5 HU)
         |false=>exact C6.aG λc z=>⟨⟨z.2.2 HU,z.2.1⟩,Q7 kc rD yn c z⟩
       have nC: ∀b o,O b=some o->b≠C:=λb o e z=>by
         have:=I5.free;rw [z] at e;have e':O C=none:=this;rw [e] at e';cases e'
       have B:=I5.ae;have tj: ∀b o,s3.heap.get? b=some o->b≠C:=λb o e=>cj (bw e)
       have U:Un (mz X.stack) fp (ay Y a (.ah [])) O s3.heap h':=⟨λb o e n l gQ=>(pN.2 b (tj b o e)).trans (B.keep b o e n l gQ),
         λb o e n l gQ=>let ⟨sl,z⟩:=B.slot b o e n l gQ;⟨sl,(pN.2 b (tj b o e)).trans z⟩,B.free,
         λb o e gQ=>let ⟨o',z⟩:=B.there b o e gQ;⟨o',(pN.2 b (tj b o e)).trans z⟩,B.eW,B.eC,B.eX⟩
       refine aw.re I3 I5.os U (λb o e=>(I5.aM b o e).aP (λc' u oJ qq=>(pN.2 c' ?_).trans qq) (λ_ z=>z) λ_ _ z=>z) I5.bare (λb l=>?_)
       . rcases oJ with z|z
         . rw [z];exact nC b o e
         . exact nC c' _ z
       . obtain ⟨z0,z1,z2,z3,z4,z5⟩:=f3 b l;exact ⟨z3,z1,z4,z5⟩
   . exact λb o=>VZ o
  exact codeAny_compStart_list loop (T.self _ 0 _ _ _ stC loop))
def yg (im:Bool) (N:List Str) (m:Nat) (g:List Nat) (S:cU z X L cl N m g) (o:X.bz=true) (p:DI X tg iter fi)
   (u: ∀(C:Addr) (s:az) (H:Hp) (e:List Addr),N.Nodup->DG (jF z X N L cl C s H e) tg t/\rB (jF z X N L cl C s H e) ifs c/\DE (jF z X N L cl C s H e) .s elt fe)
   (v: ∀x,nc iter X.env x=pure x:=by intro _;rfl):
   DE X .t (.ListComp elt [⟨tg,iter,ifs,0⟩] L pos) (ze im m g fi t c fe):=by
 nomatch (by
  rintro h s w H Q I ⟨G,H0,y,d,k,B,q⟩;rw [eval_ListComp]
  exact Qz none (EP X h w Q) im N m g S o p (λC s H e=>u C s H e S.nd) v I k B λa C s' n E r J i O U rep Y=>⟨E,J,λh' l=>⟨.ref a,n,i h' l,rfl,q _ n U rep Y⟩⟩)
def NZ (J:D->Slot) (i:Nat) (hW: ∀ {G:UP} {O H y:Hp} {env:Sl} {l:L2.St} {v:V} {d:D},au X.K G O env l H->ap H y->aD X.K (Sf G env l) y v d->be H v->au X.K G O (env.set i (J d)) (l.set i (some v)) y/\bg env l H (env.set i (J d)) (l.set i (some v)) y) (hN:X.N.Nodup) (im:Bool) (N:List Str) (m:Nat) (g:List Nat) (S:cU z X L cl N m g) (hc:X.bz=true) (hi:DI X tg iter fi)
   (Q: ∀(C:Addr) (s:az) (H:Hp) (n:List Addr),N.Nodup->DG (jF z X N L cl C s H n) tg t/\rB (jF z X N L cl C s H n) ifs c/\DE (jF z X N L cl C s H n) .s elt fe)
   (U:X.N[i]?=some x) (hx:Loc X.env.scope x) (hf:T7 X x)
   (Y:gb (.ListComp elt [⟨tg,iter,ifs,0⟩] L pos) (some (.Name x p)) ps.line X.env=pure true) (hs: ∀x,nc iter X.env x=pure x):
   DS X (.Assign [.Name x p] (.ListComp elt [⟨tg,iter,ifs,0⟩] L pos) ps) (λenv=>ze im m g fi t c fe env>>=λd=> .ok (.nx (env.set i (J d)))):=by
 nomatch (by
  rintro u s l H E I ⟨G,O,env,o,k,ef,q⟩;obtain ⟨d,e1,e2⟩:=ja ef;cases e2;rw [Fe _ _ _ _ Y];refine ak (wpAny_standAt (ak ?_));refine ak (a9 (Qz (some (mE (.Name x p) X.env)) (λ_ B=>SP X u E .next B) im N m g S hc hi (λC s H n=>Q C s H n S.nd) hs I k e1 λa C B H' mm r hn w pL sm rep nt=>?_) λ_ B hq=>aC (aC hq));have I':=w B.heap ⟨rfl,λ_ _=>rfl⟩;obtain ⟨W1,W2⟩:=hW k sm rep nt;obtain ⟨f0,f1,f2,f3,f4,f5⟩:=pL;refine CD (yp I' hN U hx (show aE (.ref a) (.ref a) from rfl) (λs2 I2 h=>?_) hf);obtain ⟨b,h,AX⟩:=h
  have Ff:C≠b:=by
   rcases AX with z|z
   . rw [z];exact f1
   . exact λe=>f4 _ _ z e.symm
  refine ⟨mm,hn.sameBut h Ff,λh' ii=>⟨_,H',?_,q _ _ W1 W2⟩⟩
  exact I2.turned (λb o Q e=>(ii.2 b Q).trans e) f0 f1 f3 f4 f5)
def N0 (i:Nat) {p h:Pos} (l:X.N.Nodup) (im:Bool) (N:List Str) (m:Nat) (g:List Nat) (S:cU z X L cl N m g) (n:X.bz=true) (o:DI X tg iter fi)
  (q: ∀(C:Addr) (s:az) (H:Hp) (a:List Addr),N.Nodup->DG (jF z X N L cl C s H a) tg t/\rB (jF z X N L cl C s H a) ifs c/\DE (jF z X N L cl C s H a) .s elt fe)
  (d:X.N[i]?=some x:=by rfl) (u:Loc X.env.scope x:=by exact eI rfl) (v:T7 X x:=by first|exact .inl rfl|exact .inr rfl|assumption)
  (e:gb (.ListComp elt [⟨tg,iter,ifs,0⟩] L pos) (some (.Name x p)) h.line X.env=pure true:=by rfl) (w: ∀x,nc iter X.env x=pure x:=by intro _;rfl):
  DS X (.Assign [.Name x p] (.ListComp elt [⟨tg,iter,ifs,0⟩] L pos) h) (qg i (ze im m g fi t c fe)):=
 NZ .ab i (λk s r y=>⟨(k.ao s).dy r,.set s λ_ _ z _=>by cases z⟩) l im N m g S n o q d u v e w
end
def zB (n:Nat) (ds:List D):Sl:=ds.map .ab++ri (n-ds.length) .un
def vT {K:aA} (r:am K B H g ds):au K (λa=>H a=none\/B a) H (zB N.length ds) (start N g) H:=by
 have l:=r.length
 have c: ∀(i:Nat) (d:D),(zB N.length ds)[i]?≠some (.ag d):=λi d h=>by
   unfold zB at h
   by_cases q:i<ds.length
   . rw [fI (by simpa using q),c6] at h
     cases e:ds[i]? with
     |none=>rw [e] at h;cases h
     |some x=>rw [e] at h;cases h
   . rw [eD (by simpa using q),nM] at h
     split at h<;>cases h
 refine ⟨by simp [L2.start,zB,l],ap.refl H,λ_ z=> .inl z,λi d h=>?_,λi d h=>(c i d h).elim,λi j d e a h=>(c i d h).elim⟩;unfold zB at h
 by_cases q:i<ds.length
 . rw [fI (by simpa using q),c6] at h
   cases e:ds[i]? with
   |none=>rw [e] at h;cases h
   |some x=>
     rw [e] at h;cases h;obtain ⟨v,m,n⟩:=r.get e;refine ⟨v,?_,n.aG λa z=>⟨λo=>?_,.inr z⟩⟩
     . unfold L2.start;rw [fI (by simp;omega),c6,m];rfl
     . obtain ⟨p,u,z,_⟩:=o;exact c p u z
 . rw [eD (by simpa using q),nM] at h
   split at h<;>cases h
section
variable {P:bn} {w:World} {K:aA} {mg:UQ} {ae:Heap}
def Meets (e:Bool) (n:Nat) (g:T3) (ds:List D) (d:D):Prop:=(∃a,g (zB n ds)= .ok (.rt a d)/\(e=true->a=true))\/(d= .aV/\ ∃c,g (zB n ds)= .ok (.nx c))
def Fg {st:Stmt} (y:iR K x l st f I) (S:ax N m (jf st))
    (J: ∀(i:Value) (A:bp) (c:List Env) (s:az) (H:Hp) (E:XK),aL k (A.deeper (gm l (jf st) s.heap.objs.size f i))->iS (cO eG P w K mg ae N l (jf st) f i A c s H E).iL (qj st) g)
    (L: ∀ds d,ds.length=m.length->F ds= .ok d->Meets O N.length g ds d):
    bS P w K mg ae eG (k+1) f I m (lE K O m.length F):=by
 nomatch (by
  refine y.ok S (λU H Q E ⟨B,ds,d,n,_⟩=>n) (λi A c s H U Q E Y h=>?_);obtain ⟨B,ds,d,n,r,e,q⟩:=h;refine ⟨_,J i A c s H E Y,?_⟩;have p:=vT (N:=N) r;rcases L ds d (by rw [<-r.length];exact n) e with ⟨fr',z,hf⟩| ⟨rfl,u,z⟩
  . exact ⟨_,H,_,_,p,z,λv o s r nt=>q v o s r λhh=>nt (hf hh)⟩
  . exact ⟨_,H,_,_,p,z,λic o k' f'=>q .aV o k'.ae .aV λ_ a e=>by cases e⟩)
end
open PySem.W in
theorem N1 {a:List Int} (h:WData.layableAll [WData.list (a.map WData.int)]=true): ∀n∈a,tm n<=2^20:=λn c=>by
 have d:=layableW_arg h _ ci;have e:=layableW_item d (.int n) (bP.mpr ⟨n,c,rfl⟩);have g:=(layableW_iff.mp e).2.2;simpa only [WData.weight,tm] using g
open PySem.W PySem.Calls Att in
theorem YT {l:AW}
  (hn:l.most=some n) (H:d.params.defaults=[])
  (call: ∀(w:World) (e c:az) (z I:UQ) (m:Addr) (o:Obj) (J B g:Value) (a:Addr) (i:List Value) (p:List Int),
   Ground q loose [] XP w e z I c.heap->YP w c.heap->
   c.heap.get? m=some o->o.data= .func (docDef d.name d.params d.body d.scope J B g)->c.heap.CodeRec B d.name->z d.name=some (.ref m)->
   c.heap.get? a=some {cls:= .type "list",data:= .seq i.toArray}->oQ i p->p.length<=n->(∀n∈p,tm n<=2^20)->c.gens= #[]->
   k4 (model l.prog w) callerA (.call (.ref m) ⟨[.ref a],[]⟩) (λr E=>r= .ok (.ret (.bool true))/\OldK c.heap E.heap/\E.os=c.os/\pb E.gens) c):
  WalkO q loose XP YP l.row.toRowW d [] (λf i=>PySem.call f i):=by
 intro w e c z I G Y m o J B g dV kV ho hd L Q N hg args U as u v hrd O hlo;obtain rfl:dV= .none:=Dflts.none Q H;obtain rfl:kV= .none:=Dflts.noKw Q;obtain ⟨a,i,p,rfl,rfl,x,h,y⟩:=UN hn u O;refine enter_call (vL (call w e c z I m o J B g a i p G Y ho (fd_plain hd) L N x h y (N1 v) hg) λr E hq=>?_);obtain ⟨rfl,h2,h3,h4⟩:=hq;exact ⟨.inl ⟨.bool true,.bool true,[],rfl,λ_=>rfl,.bool true,U7 l _,λ_=>⟨Fh,λ_ hm=>(nomatch hm)⟩⟩,h2,h3,h4⟩
def N2 {K:aA} (c:sL H) (h:c9 K H a d):nO K H a d:=by
 rcases h with (h|h)|h
 . rcases c a with z| ⟨o,e,z⟩
   . rw [z] at h;cases h
   . rw [z] at h;cases h
 . exact .inl h
 . exact .inr h
theorem KP {K:aA}: ∀a:List Int,am K A H (a.map V.int) (a.map D.int)
 | []=> .nil
 |n::r=> .cons (.int n) (KP r)
def nY {l:AW} {K:Params->aA}
  (hn:l.most=some n) (I:n<=aH) (J:d.params.defaults=[]) (hr:aL k callerA)
  (hY: ∀(w:World) (h:Heap),YP w h->(K w.params).In h)
  (hF: ∀(w:World) (y:UQ) (E:Addr) (h:Heap),(K w.params).In h->h.Ns bY y->y d.name=some (.ref E)->
   ∃L:l5,(∀(s:az) (u:Value),BindsTo s L ⟨[u],[]⟩ [(x,u)])/\
    ∀c:Heap,(K w.params).In c->c.Ns bY y->bS l.prog w (K w.params) y c eG k E L [x] (lE (K w.params) true 1 F))
  (ht: ∀z:List Int,z.length<=n->(∀i∈z,tm i<=2^20)->F [.eJ (z.map D.int)]= .ok (.bl true)):
  PySem.W.WalkO q loose XP YP l.row.toRowW d [] (λf Q=>PySem.call f Q):=by
 refine YT hn J λw U N3 y mb E o pm cd doc a Q z G Y ho hd oO N B m g p hg=>?_
 have KX:=hY w _ Y;obtain ⟨L,hb,O⟩:=hF w y E _ KX G.T.g N;refine Nw KX G.T.g G.T.b G.T.builtins G.T.nolimit hg B m (bZ g I) hr O hb (λH hO hS=>?_) λH e s' h=>h
 exact ⟨Any,_,_,rfl,.cons (.EU (N2 hO hS) (KP z)) .nil,ht z g p,λv H' _ r _=>r.rz⟩
section
variable {X:Cx} {K:aA}
def gD (C:Int->Int->Prop) [∀i j,Decidable (C i j)] (g:Int->Int->D):D->D->aq D
 | .int i,.int j=>aK (C i j) (.ok (g i j))
 |_,_=> .aj
def vA {C:Int->Int->Prop} [∀i j,Decidable (C i j)] {g:Int->Int->D} {a b d:D} (h:gD C g a b= .ok d): ∃i j,a= .int i/\b= .int j/\C i j/\d=g i j:=by
 unfold gD at h
 split at h
 . obtain ⟨c,e⟩:=jl h;cases e;exact ⟨_,_,rfl,rfl,c,rfl⟩
 . cases h
def nZ {C c:Int->Int->Prop} [∀i j,Decidable (C i j)] {h:Int->Int->V} {g:Int->Int->D} (w: ∀i j,C i j->c i j) (r: ∀i j,Sc K (h i j) (g i j)):gn K (rI c h) (gD C g):=by
 intro x y H a b d Q l m e q;obtain ⟨i,j,rfl,rfl,n,rfl⟩:=vA e;exact ⟨i,j,l.cb,m.cb,w i j n,q _ (r i j)⟩
abbrev XT:Int->Int->Prop:=λ_ _=>True
instance: ∀i j,Decidable (XT i j):=λ_ _=>inferInstanceAs (Decidable True)
def Fi (r: ∀i j,Sc K (h i j) (g i j)):gn K (ng h) (gD XT g):=by
 intro x y H a b d Q c l e q;obtain ⟨i,j,rfl,rfl,m,rfl⟩:=vA e;exact ⟨i,j,c.cb,l.cb,q _ (r i j)⟩
def Fj (h:Sc K v d):be H v:=λa e=>absurd e (h.2 a)
def bc:D->D->aq D
 | .int i,.int j=> .ok (.int (i+j))
 | .str i,.str j=>aK (i.length+j.length<=aH) (.ok (.str (i++j)))
 | .ah a,.ah b=>aK (a.length+b.length<=aH) (.ok (.ah (a++b)))
 | .ar a,.ar b=>aK (a.isEmpty=false/\a.length+b.length<=aH) (.ok (.ar (a++b)))
 |_,_=> .aj
def jY:dc X (iA .Add) (λx y H Q=>ng (λi j=> .int (i+j)) x y H Q\/(∃i j,x= .str i/\y= .str j/\i.length+j.length<=aH/\Q (.str (i++j)) H)\/sG x y H Q\/EK X.K x y H Q):=
 su.or (ls.or (sI.or M8))
def am.len_app (r:am K A H c a) (s:am K A H d b) (h:a.length+b.length<=aH):c.length+d.length<=aH:=by rw [r.length,s.length];exact h
def yu {A:UP} {H:Hp}: ∀c,A c->(H c=none\/A c):=λ_ z=> .inr z
def qx:CW K (λx y H Q=>ng (λi j=> .int (i+j)) x y H Q\/(∃i j,x= .str i/\y= .str j/\i.length+j.length<=aH/\Q (.str (i++j)) H)\/sG x y H Q\/EK K x y H Q) bc:=by
 intro A x y H a b d Q w B e q;unfold bc at e
 split at e
 . cases e;exact .inl ⟨_,_,w.cb,B.cb,q _ H (ap.refl H) (.int _) (Fj (iC (K:=K) _))⟩
 . obtain ⟨E,Y⟩:=jl e;cases Y;have g: ∀i j:Str,i.length+j.length<=aH->(i++j).length<=aH:=λi j h=>by rw [strLen_append];exact h
   exact .inr (.inl ⟨_,_,w.lC.1,B.lC.1,E,q _ H (ap.refl H) (.str _ (g _ _ E)) (Fj (EX (K:=K) _ (g _ _ E)))⟩)
 . obtain ⟨I,J⟩:=jl e;cases J;obtain ⟨l,L,rfl,g,_,r⟩:=w.cP;obtain ⟨N,O,rfl,u,_,v⟩:=B.cP;refine .inr (.inr (.inl ⟨l,N,L,O,rfl,rfl,g,u,r.low.len_app v.low I,λp n=>q _ _ (ap.ay n) ?_ (qi (ap.refl H) n)⟩));exact .ah jk (.inl n) (((r.low.append v.low).laid n).aG λc z=>⟨.inr z.1,z.2⟩)
 . obtain ⟨⟨I,J⟩,h5⟩:=jl e;cases h5;obtain ⟨l,L,rfl,g,r⟩:=w.dL;obtain ⟨N,O,rfl,u,v⟩:=B.dL;refine .inr (.inr (.inr ⟨l,N,L,O,rfl,rfl,.of g,.of u,λz=>?_,r.len_app v J,λz=>?_,λz p n=>q _ _ (ap.ay n) ?_ (qi (ap.refl H) n)⟩))
   . subst z;cases r;cases I
   . subst z;cases v;rw [f6] at q;refine q _ H (ap.refl H) (.ar g (r.aG yu)) λa e o U m=>?_
     cases e;rw [g] at U;cases U;exact m
   . exact .ar jk (((r.append v).aG yu).ao (ap.ay n))
 . cases e
def HV:gn K (ng λi j=> .int (i-j)) (gD XT λi j=> .int (i-j)):=Fi λi j=>iC _
abbrev n5:Int->Int->Prop:=λi j=>tm i+tm j<=134217728
def wL:dc X (iA .Mult) (rI n5 λi j=> .int (i*j)):=AD λ_ _ _ _ _ _ _ a q=>mul_int q (IntMulOk.of_le (aS _) (aS _) a)
def yB:gn K (rI n5 λi j=> .int (i*j)) (gD n5 λi j=> .int (i*j)):=nZ (λ_ _ h=>h) λi j=>iC _
abbrev Bg:Int->Int->Prop:=λ_ j=>0<j/\j<1073741824
def Z1:gn K (rI pd λi j=> .int (i/j)) (gD Bg λi j=> .int (i/j)):=nZ (λ_ _ h=>h) λi j=>iC _
abbrev Bh:Int->Int->Prop:=λ_ j=>0<j
def xX:gn K (rI (λ_ j=>0<j) λi j=> .int (i%j)) (gD Bh λi j=> .int (i%j)):=nZ (λ_ _ h=>h) λi j=>iC _
abbrev tp:Int->Int->Prop:=λi j=>0<=j/\j<=1000000/\i.natAbs<2^64
def Kw:gn K (rI AG λi j=> .int (i^j.toNat)) (gD tp λi j=> .int (i^j.toNat)):=nZ (λ_ _ h=>h) λi j=>iC _
def HW:gn K (ng λi j=> .bl (decide (i<j))) (gD XT λi j=> .bl (decide (i<j))):=Fi λi j=>me _
def Fk:gn K (ng λi j=> .bl (decide (j<i))) (gD XT λi j=> .bl (decide (j<i))):=Fi λi j=>me _
def gE (i j:Str):Bool:=!(Builtin.Str.occurrences j i 0 j.length 1).isEmpty
def D.mh:D->Bool
 | .aV=>true
 |_=>false
def mP:D->D->aq D
 |a,.aV=> .ok (.bl a.mh)
 |_,_=> .aj
def UV (r:aD K A H x a):decide (x=V.aV)=a.mh:=by
 have r:=r.f
 cases a with
 |aV=>cases r;rfl
 |bl b=>cases r;rfl
 |int i=>cases r;rfl
 |str z=>cases r.1;rfl
 |mem B d=>obtain ⟨_,rfl,_⟩:=r;rfl
 |ia c=>obtain ⟨_,_,_,_,rfl,_⟩:=r;rfl
 |obj c e g=>obtain ⟨_,_,_,_,rfl,_⟩:=r;rfl
 |_=>obtain ⟨_,_,rfl,_⟩:=r;rfl
def kB:gn K (λx y H Q=>y= .aV/\Q (.bl (decide (x= .aV))) H) mP:=by
 intro x y H a b d Q c g e q;unfold mP at e
 split at e
 . cases e;refine ⟨g.pH,?_⟩;rw [UV c];exact q _ (me _)
 . cases e
def dZ:List D->aq D
 | [.ah a]=> .ok (.int a.length)
 | [.eJ a]=> .ok (.int a.length)
 | [.ar a]=> .ok (.int a.length)
 | [.str z]=> .ok (.int z.length)
 |_=> .aj
def wD:bi X (.builtin "len") (λc H Q=>(∃p a,c=[.ref p]/\(c9 X.K H p a\/f9 X.K H p a)/\Q (.int a.length) H)\/(∃z,c=[.str z]/\z.length<=aH/\Q (.int z.length) H)):=hZ.or XE
def Zu:YZ K (λi H Q=>(∃p a,i=[.ref p]/\(c9 K H p a\/f9 K H p a)/\Q (.int a.length) H)\/(∃z,i=[.str z]/\z.length<=aH/\Q (.int z.length) H)) dZ:=by
 intro i H m d Q r e q;unfold dZ at e
 split at e
 . cases e;obtain ⟨v,rfl,c⟩:=r.one;obtain ⟨p,a,rfl,g,_,h⟩:=c.cP;exact .inl ⟨p,a,rfl,.inl (.of g),by rw [h.length];exact q _ (iC _)⟩
 . cases e;obtain ⟨v,rfl,c⟩:=r.one;obtain ⟨p,a,rfl,g,h⟩:=c.lB;exact .inl ⟨p,a,rfl,.inl g.np,by rw [h.length];exact q _ (iC _)⟩
 . cases e;obtain ⟨v,rfl,c⟩:=r.one;obtain ⟨p,a,rfl,g,h⟩:=c.dL;exact .inl ⟨p,a,rfl,.inr (.of g),by rw [h.length];exact q _ (iC _)⟩
 . cases e;obtain ⟨v,rfl,c⟩:=r.one;obtain ⟨rfl,l⟩:=c.lC;exact .inr ⟨_,rfl,l,q _ (iC _)⟩
 . cases e
def JL:List D->aq D
 | [.ah a]=>(.ok (.ar a))
 | [.ar a]=>(.ok (.ar a))
 |_=> .aj
def Uy (h:H p=some (.ar c)):be H (.ref p):=λa e o q m=>by
 cases e;rw [h] at q;cases q;exact m
def JI:QJ K (λm H Q=> ∃p a,m=[.ref p]/\((c9 K H p a/\ ∀l,H l=none->Q (.ref l) (ay H l (.ar a)))\/(f9 K H p a/\Q (.ref p) H))) JL:=by
 intro A m H n d Q r e q;unfold JL at e
 split at e
 . cases e;obtain ⟨v,rfl,g⟩:=r.one;obtain ⟨p,a,rfl,c,_,h⟩:=g.cP;exact ⟨p,a,rfl,.inl ⟨.of c,λl i=>q _ _ (ap.ay i) (.ar jk ((h.low.aG yu).ao (ap.ay i))) (qi (ap.refl H) i)⟩⟩
 . cases e;obtain ⟨v,rfl,g⟩:=r.one;obtain ⟨p,a,rfl,c,h⟩:=g.dL;exact ⟨p,a,rfl,.inr ⟨.of c,q _ H (ap.refl H) (.ar c (h.aG yu)) (Uy c)⟩⟩
 . cases e
def minD:List D->aq D
 | [.int i,.int j]=> .ok (.int (if j<i then j else i))
 |_=> .aj
def N4:YZ K (λa H Q=> ∃i j,a=[.int i,.int j]/\Q (.int (if j<i then j else i)) H) minD:=by
 intro a H h d Q r e q;unfold minD at e
 split at e
 . cases e;obtain ⟨v,l,rfl,c,g⟩:=r.av;cases c.cb;cases g.cb;exact ⟨_,_,rfl,q _ (iC _)⟩
 . cases e
def maxD:List D->aq D
 | [.int i,.int j]=> .ok (.int (if j>i then j else i))
 |_=> .aj
def N5:YZ K (λa H Q=> ∃i j,a=[.int i,.int j]/\Q (.int (if j>i then j else i)) H) maxD:=by
 intro a H h d Q r e q;unfold maxD at e
 split at e
 . cases e;obtain ⟨v,l,rfl,c,g⟩:=r.av;cases c.cb;cases g.cb;exact ⟨_,_,rfl,q _ (iC _)⟩
 . cases e
def Fl:D->Option String
 | .aV=>some "NoneType"
 | .bl _=>some "bool"
 | .int _=>some "int"
 | .str _=>some "str"
 | .ar _=>some "tuple"
 | .ah _=>some "list"
 | .eJ _=>none
 | .aJ _ _=>some "dict"
 | .bO _ _=>some "dict"
 | .ia _=>none
 | .bG _ _=>none
 | .dS _ _=>none
 | .obj _ _ _=>none
 | .mem _ _=>none
 | .cx _=>none
def N6 (r:aD K A H v d) (h:Fl d=some n):eZ K H v (.type n):=by
 have r:=r.f;cases d<;>cases h
 . cases r;exact .aV
 . cases r;exact .bl _
 . cases r;exact .int _
 . cases r.1;exact .str _
 . obtain ⟨_,_,rfl,e,_⟩:=r;exact .ar e
 . obtain ⟨_,_,rfl,e,_⟩:=r;exact .ah e
 . obtain ⟨_,_,rfl,e,_⟩:=r;exact .dK e
 . obtain ⟨_,_,rfl,e,_⟩:=r;exact .dT e
def ij (T n:String):Bool:=n==T|| (T== "int" &&n== "bool")
def lH (T:String):Prop:= ∀(K:aA) (n:String),n∈["NoneType", "bool", "int", "str", "tuple", "list", "dict"]->pf K (.type n) (.type T)=some (ij T n)
def N7 (h:Fl d=some n):n∈["NoneType", "bool", "int", "str", "tuple", "list", "dict"]:=by
 cases d<;>first| (cases h;done)| (cases h;decide)
def Wb (h: ∀(K:aA),pf K (.type "NoneType") (.type T)=some (ij T "NoneType")/\pf K (.type "bool") (.type T)=some (ij T "bool")/\pf K (.type "int") (.type T)=some (ij T "int")/\
  pf K (.type "str") (.type T)=some (ij T "str")/\pf K (.type "tuple") (.type T)=some (ij T "tuple")/\pf K (.type "list") (.type T)=some (ij T "list")/\pf K (.type "dict") (.type T)=some (ij T "dict")):lH T:=by
 intro K n a;obtain ⟨c,d,e,g,i,l,m⟩:=h K;simp at a;rcases a with rfl|rfl|rfl|rfl|rfl|rfl|rfl<;>assumption
def N8:lH "int" :=Wb λK=>⟨rfl,rfl,rfl,rfl,rfl,rfl,rfl⟩
def vn:lH "bool" :=Wb λK=>⟨rfl,rfl,rfl,rfl,rfl,rfl,rfl⟩
def qL:lH "tuple" :=Wb λK=>⟨rfl,rfl,rfl,rfl,rfl,rfl,rfl⟩
def gF (T:String) (d:D):aq D:=match Fl d with
 |some n=> .ok (.bl (ij T n))
 |none=> .aj
def N9 (T:String) (h:lH T):bi X (.builtin "isinstance") (λa H Q=> ∃x d,a=[x,.ty T]/\aD X.K Any H x d/\ ∃b,gF T d= .ok (.bl b)/\Q (.bl b) H):=by
 rintro c s v H a w Q I r ⟨x,d,i,l,b,e,q⟩;subst i;obtain ⟨u,m,rfl,o,p⟩:=Ut r;cases (show m=my T from p);unfold gF at e
 split at e
 . rename_i n g;cases e;refine vk I o (N6 l g) (h X.K n (N7 g)) λtk=>⟨.bl _,H,I.tok tk,rfl,q⟩
 . cases e
def bU (T:String) (f:T5):Sl->aq D:=λa=>f a>>=gF T
def xk (T:String) (Ty:Str) {l':Lv} {p c g:Pos} (w:lH T) (x:DE X l e f) (y:Gl X "isinstance") (z:X.mg "isinstance" =none) (h:Gl X Ty) (i:X.mg Ty=none) (B:iz Ty=some (.type T))
   (E:Ty≠ "__name__" :=by decide) (I:ZH Ty:=by decide) (u:bj [e,.Name Ty c] X.env=(false,eval e X.env)::bj [.Name Ty c] X.env:=by exact jm rfl)
   (m:bj [.Name Ty c] X.env=(false,eval (.Name Ty c) X.env)::bj [] X.env:=by exact jm rfl) (n:(eA g (bj [.Name Ty c] X.env)).any (·.1)=false:=by exact jK rfl):
   DE X l' (.Call (.Name "isinstance" p) [e,.Name Ty c] [] g) (bU T f):=by
 nomatch (
  PE.imp (yx (N9 T w) y z boot_isinstance (qc x (qc (Mi (v:= .ty T) h i B rfl E I) zC m) u) (by decide) (by decide) u n) λU H Q=>by
   rintro ⟨G,J,o,d,k,L,q⟩;obtain ⟨a,e1,e2⟩:=ja L;refine ⟨G,J,o,a,k,e1,λv N s r _=>?_⟩
   have O: ∃b,d= .bl b:=by
    unfold gF at e2
    split at e2
    . cases e2;exact ⟨_,rfl⟩
    . cases e2
   obtain ⟨b,rfl⟩:=O
   exact ⟨v,a,rfl,r.aG Lv.bv,b,e2,q _ N s (.bl b) (me (K:=X.K) b).T⟩)
def YQ:List D->Option (List Bool)
 | []=>some []
 | .bl b::r=>(YQ r).map (b:: ·)
 |_=>none
theorem XL: ∀ {ds:List D} {bs:List Bool},YQ ds=some bs->ds=bs.map D.bl
 | [],bs,h=>by cases h;rfl
 |d::r,bs,h=>by
  cases d with
  |bl b=>
   simp only [YQ,tq] at h;obtain ⟨a,c,rfl⟩:=h;rw [XL c];rfl
  |_=>cases h
def Oa (bs:List Bool):YQ (bs.map D.bl)=some bs:=by
 induction bs with
 |nil=>rfl
 |cons b r a=>simp [YQ,a]
def iV:List D->aq D
 | [.ah a]=>match YQ a with
  |some bs=> .ok (.bl (bs.all id))
  |none=> .aj
 |_=> .aj
theorem QZ: ∀ {bs:List Bool} {a:List V},am K A H a (bs.map D.bl)->a=bs.map V.bl
 | [],_,.nil=>rfl
 |b::bs,_,.cons h t=>by rw [h.rz,QZ t];rfl
theorem QW: ∀ {bs:List Bool} {a:List Value},aI (bs.map V.bl) a->a=bs.map m8
 | [],_,.nil=>rfl
 |b::bs,_,.cons h t=>by
  rw [QW t];have:_=m8 b:=h;rw [this];rfl
def XG (E:X.bz=true):bi X (.builtin "all") (λy H Q=> ∃(p:Addr) (bs:List Bool),y=[.ref p]/\c9 X.K H p (bs.map V.bl)/\Q (.bl (bs.all id)) H):=by
 rintro B s σ H y us Q I r ⟨p,bs,J,L,q⟩;subst J;obtain ⟨u,rfl,N⟩:=x3 r;cases N;obtain ⟨O,U,h,hz⟩:=I.list L;have c:=QW U;subst c;refine call_all_walk (A0 h.isList ?_)
 have l:p≠s.heap.objs.size:=by
   obtain ⟨o,n,e,_⟩:=h;exact cj (bw e)
 refine ⟨s.heap.objs.size,_,_,_,_,_,λi=>(bs[i]?).getD true,rfl,Walks.list (show X.A.in1.handled=none from I.ok.hd E) s.heap.objs.size p l (bs.map m8).toArray,⟨⟨_,b0 _ rfl,rfl,rfl⟩,h.isList.at λo e=>bu _ e⟩,?_,λh' tk Y=>?_⟩
 . intro i v s' Q' E' hP m;have a:(bs.map m8)[i]?=some v:=by simpa using hP
   rw [c6] at a
   cases e:bs[i]? with
   |none=>rw [e] at a;cases a
   |some b=>
    rw [e] at a;cases a;dsimp only at m;rw [e] at m;exact q7 m
 . have hn:(bs.map m8).toArray.size=bs.length:=by simp
   have e:((fm (bs.map m8).toArray.size).all λi=>(bs[i]?).getD true)=bs.all id:=by
    rw [hn,Cn,iE,iE]
    constructor
    . intro w b x;obtain ⟨i,g,rfl⟩:=List.mem_iff_getElem.mp x;have:=w i (gs.mpr g);rw [cZ g] at this;exact this
    . intro w i g;have d:=gs.mp g;rw [cZ d];exact w _ (mu d)
   rw [e];refine ⟨.bl _,H,?_,rfl,q⟩
   exact I.kept λb o e=>Y b o (by
    intro z;have x:b=s.heap.objs.size:=by simpa using z
    exact absurd (bw e) (by rw [x];exact nH _)) (bu _ e)
def HX:YZ K (λc H Q=> ∃(p:Addr) (bs:List Bool),c=[.ref p]/\c9 K H p (bs.map V.bl)/\Q (.bl (bs.all id)) H) iV:=by
 intro c H l d Q r e q;unfold iV at e
 split at e
 . split at e
   . rename_i bs a;cases e;obtain ⟨v,rfl,h⟩:=r.one;obtain ⟨p,m,rfl,i,_,g⟩:=h.cP;rw [XL a] at g;have:=QZ g;subst this;exact ⟨p,bs,rfl,.of i,q _ (me _)⟩
   . cases e
 . cases e
end
open PySem.SeqAt (EqAt RcAt RcNeAt)
mutual
theorem D.ind {P:D->Prop} (h0:P .aV) (h1: ∀b,P (.bl b)) (h2: ∀i,P (.int i)) (h3: ∀x,P (.str x)) (h4: ∀ds,(∀d∈ds,P d)->P (.ar ds)) (h5: ∀ds,(∀d∈ds,P d)->P (.ah ds))
  (h6: ∀ds,(∀d∈ds,P d)->P (.eJ ds)) (h7:(∀ks ds,(∀d∈ds,P d)->P (.aJ ks ds))/\(∀ks ds,(∀d∈ds,P d)->P (.bO ks ds))/\(∀c,P (.ia c))/\(∀ks ds,(∀d∈ds,P d)->P (.bG ks ds))/\(∀ks ds,(∀d∈ds,P d)->P (.dS ks ds))/\(∀c ns ds,(∀d∈ds,P d)->P (.obj c ns ds))/\(∀B Φ,P (.mem B Φ))/\ ∀ds,P (.cx ds)): ∀d,P d
 | .aV=>h0
 | .bl b=>h1 b
 | .int i=>h2 i
 | .str x=>h3 x
 | .ar ds=>h4 ds (D.ik h0 h1 h2 h3 h4 h5 h6 h7 ds)
 | .ah ds=>h5 ds (D.ik h0 h1 h2 h3 h4 h5 h6 h7 ds)
 | .eJ ds=>h6 ds (D.ik h0 h1 h2 h3 h4 h5 h6 h7 ds)
 | .aJ ks ds=>h7.1 ks ds (D.ik h0 h1 h2 h3 h4 h5 h6 h7 ds)
 | .bO ks ds=>h7.2.1 ks ds (D.ik h0 h1 h2 h3 h4 h5 h6 h7 ds)
 | .ia c=>h7.2.2.1 c
 | .bG ks ds=>h7.2.2.2.1 ks ds (D.ik h0 h1 h2 h3 h4 h5 h6 h7 ds)
 | .dS ks ds=>h7.2.2.2.2.1 ks ds (D.ik h0 h1 h2 h3 h4 h5 h6 h7 ds)
 | .obj c ns ds=>h7.2.2.2.2.2.1 c ns ds (D.ik h0 h1 h2 h3 h4 h5 h6 h7 ds)
 | .mem B Φ=>h7.2.2.2.2.2.2.1 B Φ
 | .cx ds=>h7.2.2.2.2.2.2.2 ds
theorem D.ik {P:D->Prop} (a:P .aV) (h1: ∀b,P (.bl b)) (h2: ∀i,P (.int i)) (e: ∀x,P (.str x)) (g: ∀ds,(∀d∈ds,P d)->P (.ar ds)) (l: ∀ds,(∀d∈ds,P d)->P (.ah ds))
  (m: ∀ds,(∀d∈ds,P d)->P (.eJ ds)) (n:(∀ks ds,(∀d∈ds,P d)->P (.aJ ks ds))/\(∀ks ds,(∀d∈ds,P d)->P (.bO ks ds))/\(∀c,P (.ia c))/\(∀ks ds,(∀d∈ds,P d)->P (.bG ks ds))/\(∀ks ds,(∀d∈ds,P d)->P (.dS ks ds))/\(∀c ns ds,(∀d∈ds,P d)->P (.obj c ns ds))/\(∀B o,P (.mem B o))/\ ∀ds,P (.cx ds)): ∀ds:List D,∀d∈ds,P d
 | [],_,h=>by cases h
 |x::r,d,h=>by
  have p:=D.ind a h1 h2 e g l m n x;have q:=D.ik a h1 h2 e g l m n r;rcases bH.mp h with z|z
  . rw [z];exact p
  . exact q d z
end
mutual
def D.ca:D->Nat
 | .ar a=>D.bI a+1
 | .ah a=>D.bI a+1
 |_=>0
def D.bI:List D->Nat
 | []=>0
 |d::a=>max (D.ca d) (D.bI a)
end
mutual
def D.cA:D->Bool
 | .eJ _=>false
 | .aJ _ _=>false
 | .bO _ _=>false
 | .ia _=>false
 | .bG _ _=>false
 | .dS _ _=>false
 | .obj _ _ _=>false
 | .mem _ _=>false
 | .cx _=>false
 | .ar a=>D.bE a
 | .ah a=>D.bE a
 |_=>true
def D.bE:List D->Bool
 | []=>true
 |d::a=>D.cA d&&D.bE a
end
mutual
def ck:D->D->Bool
 | .aV,.aV=>true
 | .bl a,.bl b=>a==b
 | .bl a,.int j=>(if a then 1 else 0)==j
 | .int i,.bl b=>i==(if b then 1 else 0)
 | .int i,.int j=>i==j
 | .str x,.str y=>x==y
 | .ar a,.ar b=>bV a b
 | .ah a,.ah b=>bV a b
 |_,_=>false
def bV:List D->List D->Bool
 | [],[]=>true
 |a::c,b::bs=>ck a b&&bV c bs
 |_,_=>false
end
def Ob:(∀i,D.cA (.int i)=true)/\(∀x,D.cA (.str x)=true)/\(∀ds,D.cA (.ar ds)=D.bE ds)/\(∀ds,D.cA (.ah ds)=D.bE ds):=by and_intros<;>intros<;>rfl
def YF:(∀i c,ck (.int i) (.int c)=(i==c))/\(∀i d,ck (.int i) (.str d)=false)/\(∀i a,ck (.int i) (.ar a)=false)/\(∀x c,ck (.str x) (.int c)=false)/\(∀x d,ck (.str x) (.str d)=(x==d))/\(∀x a,ck (.str x) (.ar a)=false)/\(∀ds c,ck (.ar ds) (.int c)=false)/\(∀ds d,ck (.ar ds) (.str d)=false)/\(∀ds a,ck (.ar ds) (.ar a)=bV ds a)/\(∀ds a,ck (.ah ds) (.ah a)=bV ds a):=by and_intros<;>intros<;>rfl
theorem xM: ∀ {ds:List D} {d:D},d∈ds->D.ca d<=D.bI ds
 |x::r,d,h=>by
  simp only [D.bI];rcases bH.mp h with rfl|h
  . omega
  . have:=xM h;omega
theorem yH: ∀ {ds:List D} {d:D},D.bE ds=true->d∈ds->D.cA d=true
 |x::r,d,a,h=>by
  simp only [D.bE,dj] at a;rcases bH.mp h with rfl|h
  . exact a.1
  . exact yH a.2 h
theorem xz: ∀ {ds:List D},(∀d∈ds,D.cA d=true->ck d d=true)->D.bE ds=true->bV ds ds=true
 | [],_,_=>by simp [bV]
 |d::ds,h,a=>by
  simp only [D.bE,dj] at a;simp only [bV,dj];exact ⟨h d ci a.1,xz (λx c=>h x (cv _ c)) a.2⟩
def K7 (d:D):D.cA d=true->ck d d=true:=by
 refine D.ind (P:=λd=>D.cA d=true->ck d d=true) ?_ ?_ ?_ ?_ ?_ ?_ ?_ ?_ d
 . intro _;rfl
 . intro b _;exact beq_self_eq_true b
 . intro i _;exact beq_self_eq_true i
 . intro x _;exact beq_self_eq_true x
 . intro g e a;exact xz e a
 . intro g e a;exact xz e a
 . intro g e a;cases a
 . exact ⟨(by intro ks g e a;cases a),(by intro ks g e a;cases a),(by intro c a;cases a),(by intro ks g e a;cases a),(by intro ks g e a;cases a),(by intro c h g e a;cases a),(by intro B l a;cases a),(by intro g a;cases a)⟩
section
variable {K:aA} {H:Hp}
def am.lI (h: ∀d∈ds,∀(A m:UP) v g,D.cA d=true->D.cA g=true->aD K A H v d->aD K m H v g->d=g) (i:D.bE ds=true) (a:D.bE c=true) (r:am K A H l ds) (e:am K m H l c):ds=c:=by
 induction l generalizing ds c with
 |nil=>cases r.eM;cases e.eM;rfl
 |cons v l n=>
  obtain ⟨_,_,rfl,r,t⟩:=r.cq;obtain ⟨_,_,rfl,e,o⟩:=e.cq;simp only [D.bE,dj] at i a;rw [h _ ci _ _ _ _ i.1 a.1 r e,n (λd hd=>h d (cv _ hd)) i.2 a.2 t o]
def Zp (h:gA K A H v d/\D.cA d=true):(v= .aV/\d= .aV)\/(∃b,v= .bl b/\d= .bl b)\/(∃b,v= .int b/\d= .int b)\/(∃b,v= .str b/\d= .str b)\/(∃a g ds,v= .ref a/\d= .ar ds/\H a=some (.ar g)/\am K A H g ds)\/(∃a g ds,v= .ref a/\d= .ah ds/\H a=some (.ah g)/\am K (λc=>A c/\c≠a) H g ds):=by
 obtain ⟨r,h⟩:=h
 cases d with
 |aV=>exact .inl ⟨r,rfl⟩
 |bl b=>exact .inr (.inl ⟨_,r,rfl⟩)
 |int b=>exact .inr (.inr (.inl ⟨_,r,rfl⟩))
 |str b=>exact .inr (.inr (.inr (.inl ⟨_,r.1,rfl⟩)))
 |ar ds=>
  obtain ⟨a,g,r,e,i⟩:=r;exact .inr (.inr (.inr (.inr (.inl ⟨_,_,_,r,rfl,e,i⟩))))
 |ah ds=>
  obtain ⟨a,g,r,e,_,i⟩:=r;exact .inr (.inr (.inr (.inr (.inr ⟨_,_,_,r,rfl,e,i⟩))))
 |_=>cases h
def Oc (h:gA K A H .aV d/\D.cA d=true): .aV=d:=by
 rcases Zp h with ⟨_,e⟩| ⟨_,z,_⟩| ⟨_,z,_⟩| ⟨_,z,_⟩| ⟨_,_,_,z,_⟩| ⟨_,_,_,z,_⟩
 . exact e.symm
 all_goals cases z
def Od (h:gA K A H (.bl b) d/\D.cA d=true): .bl b=d:=by
 rcases Zp h with ⟨z,_⟩| ⟨_,z,e⟩| ⟨_,z,_⟩| ⟨_,z,_⟩| ⟨_,_,_,z,_⟩| ⟨_,_,_,z,_⟩<;>cases z;exact e.symm
def Oe (h:gA K A H (.int b) d/\D.cA d=true): .int b=d:=by
 rcases Zp h with ⟨z,_⟩| ⟨_,z,_⟩| ⟨_,z,e⟩| ⟨_,z,_⟩| ⟨_,_,_,z,_⟩| ⟨_,_,_,z,_⟩<;>cases z;exact e.symm
def Of (h:gA K A H (.str b) d/\D.cA d=true): .str b=d:=by
 rcases Zp h with ⟨z,_⟩| ⟨_,z,_⟩| ⟨_,z,_⟩| ⟨_,z,e⟩| ⟨_,_,_,z,_⟩| ⟨_,_,_,z,_⟩<;>cases z;exact e.symm
def Og (h:gA K A H (.ref a) d/\D.cA d=true) (c:H a=some (.ar g)): ∃ds,d= .ar ds/\am K A H g ds:=by
 rcases Zp h with ⟨z,_⟩| ⟨_,z,_⟩| ⟨_,z,_⟩| ⟨_,z,_⟩| ⟨_,_,_,z,e,q,r⟩| ⟨_,_,_,z,e,q,r⟩<;>cases z<;>rw [c] at q<;>cases q;exact ⟨_,e,r⟩
def Oh (h:gA K A H (.ref a) d/\D.cA d=true) (g:H a=some (.ah i)): ∃ds,d= .ah ds/\am K (λc=>A c/\c≠a) H i ds:=by
 rcases Zp h with ⟨z,_⟩| ⟨_,z,_⟩| ⟨_,z,_⟩| ⟨_,z,_⟩| ⟨_,_,_,z,e,q,r⟩| ⟨_,_,_,z,e,q,r⟩<;>cases z<;>rw [g] at q<;>cases q;exact ⟨_,e,r⟩
def aD.inj (d:D): ∀(A l:UP) v g,D.cA d=true->D.cA g=true->aD K A H v d->aD K l H v g->d=g:=by
 have w: ∀ {v A g y},aD K A H v g->D.cA g=true->v=y->gA K A H y g/\D.cA g=true:=λr h e=>⟨e▸r.f,h⟩
 refine D.ind (P:=λd=> ∀(A l:UP) v g,D.cA d=true->D.cA g=true->aD K A H v d->aD K l H v g->d=g) ?_ ?_ ?_ ?_ ?_ ?_ ?_ ?_ d
 . intro A l v g _ h r m;exact Oc (w m h r.f)
 . intro b A l v g _ h r m;exact Od (w m h r.f)
 . intro b A l v g _ h r m;exact Oe (w m h r.f)
 . intro b A l v g _ h r m;exact Of (w m h r.f.1)
 . intro o p A l v g i n r m;obtain ⟨a,z,rfl,x,rs⟩:=r.dL;have q:D.bE o=true:=i;obtain ⟨E,rfl,u⟩:=Og (w m n rfl) x;rw [am.lI p q n rs u]
 . intro o p A l v g i n r m;obtain ⟨a,z,rfl,x,_,rs⟩:=r.cP;have q:D.bE o=true:=i;obtain ⟨E,rfl,u⟩:=Oh (w m n rfl) x;rw [am.lI p q n rs u]
 . intro o p A l v g i;cases i
 . exact ⟨(by intro ks o p A l v g i;cases i),(by intro ks o p A l v g i;cases i),(by intro c A l v g i;cases i),(by intro ks o p A l v g i;cases i),(by intro ks o p A l v g i;cases i),(by intro c ns o p A l v g i;cases i),(by intro B I A l v g i;cases i),(by intro o A l v g i;cases i)⟩
end
def vR (a b:List D) (j:Nat):Bool:=match a[j]?,b[j]? with
 |some x,some y=>ck x y
 |_,_=>true
theorem xL: ∀(a b:List D),a.length=b.length->bV a b=(fm a.length).all (vR a b)
 | [],[],_=>by simp [bV]
 |x::a,y::b,h=>by
  have c:a.length=b.length:=by simpa using h
  rw [b9,List.range_succ_eq_map,sQ,List.all_map];simp only [bV];rw [xL a b c];congr 1
theorem yI: ∀(a b:List D),a.length≠b.length->bV a b=false
 | [],[],h=>absurd rfl h
 | [],y::b,_=>by simp [bV]
 |x::a,[],_=>by simp [bV]
 |x::a,y::b,h=>by
  simp only [bV];rw [yI a b (by simpa using h),CO]
def K5 (a b:List D):bV a b=((fm (min a.length b.length)).all (vR a b)&&a.length==b.length):=by
 by_cases h:a.length=b.length
 . rw [xL a b h,h];simp
 . rw [yI a b h];simp [h]
section
variable {X:Cx} {Y:List (Addr×Obj)} {U:L2.St} {H:Hp} {s:az}
inductive Cm (X:Cx) (H:Hp) (s:az):Value->D->Prop where
 |aV:Cm X H s .none .aV
 |bl (b:Bool):Cm X H s (.bool b) (.bl b)
 |int (i:Int) (t:Tok):Cm X H s (.int i t) (.int i)
 |str (x:Str) (t:Tok):Cm X H s (.str x t) (.str x)
 |ar {a:Addr} {xs:List V} {mM:List Value} {ds:List D}:H a=some (.ar xs)->s.heap.IsTuple a mM.toArray->aI xs mM->am X.K Any H xs ds->Cm X H s (.ref a) (.ar ds)
 |ah {a:Addr} {xs:List V} {mM:List Value} {ds:List D}:H a=some (.ah xs)->s.heap.IsList a mM.toArray->aI xs mM->am X.K Any H xs ds->Cm X H s (.ref a) (.ah ds)
def yL (I:aw X Y U H s) (r:aD X.K Any H v d) (a:aE v u) (l:D.cA d=true):Cm X H s u d:=by
 have r:=r.f
 cases d with
 |aV=>cases r;cases a;exact .aV
 |bl b=>cases r;cases a;exact .bl b
 |int i=>cases r;obtain ⟨t,rfl⟩:=a;exact .int i t
 |str x=>cases r.1;obtain ⟨t,rfl⟩:=a;exact .str x t
 |ar m=>
  obtain ⟨_,_,rfl,e,c⟩:=r;cases a;obtain ⟨g,h,p,n⟩:=I.tuple (.of e);exact .ar e p h c
 |ah m=>
  obtain ⟨_,_,rfl,e,_,c⟩:=r;cases a;obtain ⟨g,h,p,n⟩:=I.list (.of e);exact .ah e p.isList h c.low
 |_=>cases l
def C7 {A:bp} (o:am X.K Any H y a) (p:am X.K Any H z b) (r:aI y g) (vb:aI z c)
  (B: ∀d∈a,∀(v i:V) (u h:Value) (m:D),aD X.K Any H v d->aE v u->aD X.K Any H i m->aE i h->D.cA d=true->D.cA m=true->EqAt A.in1 s u h (ck d m)) (E:D.bE a=true) (I:D.bE b=true):
  ∀j (w:j<g.toArray.size) (x:j<c.toArray.size),EqAt A.in1 s g.toArray[j] c.toArray[j] (vR a b j):=by
 intro j w x;have l1:=r.length;have l2:=vb.length;have l3:=o.length;have l4:=p.length;have l:j<a.length:=by simp at w;omega
 have n:j<b.length:=by simp at x;omega
 obtain ⟨v,e1,J⟩:=o.get (cZ l);obtain ⟨i,e2,L⟩:=p.get (cZ n);obtain ⟨u,N,O⟩:=r.get e1;obtain ⟨h,Q,r4⟩:=vb.get e2
 have g1:g.toArray[j]=u:=by
  have:=c7.mp N;obtain ⟨_,q⟩:=this;simpa using q
 have g2:c.toArray[j]=h:=by
  have:=c7.mp Q;obtain ⟨_,q⟩:=this;simpa using q
 rw [g1,g2];have e:vR a b j=ck a[j] b[j]:=by unfold vR;rw [cZ l,cZ n]
 rw [e];exact B _ (mu l) v i u h _ J O L r4 (yH E (mu l)) (yH I (mu n))
def JH (I:aw X Y U H s) (d:D): ∀(A:bp) (v n:V) (u o:Value) (m:D),A.units+d.ca<cLine->aD X.K Any H v d->aE v u->aD X.K Any H n m->aE n o->D.cA d=true->D.cA m=true->EqAt A s u o (ck d m):=by
 refine D.ind (P:=λd=> ∀(A:bp) (v n:V) (u o:Value) (m:D),A.units+d.ca<cLine->aD X.K Any H v d->aE v u->aD X.K Any H n m->aE n o->D.cA d=true->D.cA m=true->EqAt A s u o (ck d m)) ?_ ?_ ?_ ?_ ?_ ?_ ?_ ?_ d
 . intro A v n u o m w r y E g h l;cases yL I r y h;have a:A.units<cLine:=by simp only [D.ca] at w;omega
   cases yL I E g l
   . exact EqAt.same _
   . exact EqAt.none_bool _
   . exact EqAt.none_int _ _
   . exact EqAt.none_str _ _
   . exact EqAt.none_tuple (by assumption) a
   . exact EqAt.none_list (by assumption) a
 . intro b A v n u o m w r y E g h l;cases yL I r y h;have a:A.units<cLine:=by simp only [D.ca] at w;omega
   cases yL I E g l
   . exact EqAt.bool_none _
   . exact EqAt.bool_bool _ _
   . exact EqAt.bool_int _ _ _
   . exact EqAt.bool_str _ _ _
   . exact EqAt.bool_tuple _ (by assumption) a
   . exact EqAt.bool_list _ (by assumption) a
 . intro i A v n u o m w r y E g h l;cases yL I r y h;have a:A.units<cLine:=by simp only [D.ca] at w;omega
   cases yL I E g l
   . exact EqAt.int_none _ _
   . exact EqAt.int_bool _ _ _
   . exact EqAt.int_int _ _ _ _
   . exact EqAt.int_str _ _ _ _
   . exact EqAt.int_tuple _ _ (by assumption) a
   . exact EqAt.int_list _ _ (by assumption) a
 . intro x A v n u o m w r y E g h l;cases yL I r y h;have a:A.units<cLine:=by simp only [D.ca] at w;omega
   cases yL I E g l
   . exact EqAt.str_none _ _
   . exact EqAt.str_bool _ _ _
   . exact EqAt.str_int _ _ _ _
   . exact EqAt.str_str _ _ _ _
   . exact EqAt.str_tuple _ _ (by assumption) a
   . exact EqAt.str_list _ _ (by assumption) a
 . intro O ih A v n u o m w r y E g h l;have a:A.units<cLine:=by simp only [D.ca] at w;omega
   have c1:=yL I r y h;have c2:=yL I E g l
   cases c1 with
   |ar e p rv rs=>
     cases c2 with
     |aV=>exact EqAt.tuple_none p a
     |bl b=>exact EqAt.tuple_bool _ p a
     |int i t=>exact EqAt.tuple_int _ _ p a
     |str x t=>exact EqAt.tuple_str _ _ p a
     |ah e2 p2 L J=>exact EqAt.tuple_list p p2 a
     | @ar a2 Fm Q N e2 p2 L J=>
      rename_i a1 Fn tr
      by_cases z:a1=a2
      . subst z;have ed:=aD.inj _ Any Any _ _ h l (aD.ar e rs) (aD.ar e2 J);rw [<-ed,K7 _ h];exact EqAt.same _
      . have q:=RcAt.tuples p p2 a (C7 rs J rv L (λd hd v n u o m g1 g2 g3 g4 g5 g6=>ih d hd A.in1 v n u o m (by
          have:=xM hd;simp only [D.ca] at w;show A.units+1+d.ca<cLine
          omega) g1 g2 g3 g4 g5 g6) h l)
        have n1:tr.toArray.size=O.length:=by rw [cn,<-rv.length,rs.length]
        have n2:Q.toArray.size=N.length:=by rw [cn,<-L.length,J.length]
        rw [n1,n2,<-K5] at q;exact Co z q
 . intro O ih A v n u o m w r y E g h l;have a:A.units<cLine:=by simp only [D.ca] at w;omega
   have c1:=yL I r y h;have c2:=yL I E g l
   cases c1 with
   |ah e p rv rs=>
     cases c2 with
     |aV=>exact EqAt.list_none p a
     |bl b=>exact EqAt.list_bool _ p a
     |int i t=>exact EqAt.list_int _ _ p a
     |str x t=>exact EqAt.list_str _ _ p a
     |ar e2 p2 L J=>exact EqAt.list_tuple p p2 a
     | @ah a2 Fm Q N e2 p2 L J=>
      rename_i a1 Fn tr;have n1:tr.toArray.size=O.length:=by rw [cn,<-rv.length,rs.length]
      have n2:Q.toArray.size=N.length:=by rw [cn,<-L.length,J.length]
      by_cases z:a1=a2
      . subst z
        have ed:D.ah O=D.ah N:=by
          rw [e] at e2;cases e2;rw [am.lI (λd _ A A' v m=>aD.inj d A A' v m) h l rs J]
        rw [<-ed,K7 _ h];exact EqAt.same _
      . simp only [YF]
        by_cases hl:O.length=N.length
        . have q:=RcAt.lists p p2 (by rw [n1,n2];exact hl) a (C7 rs J rv L (λd hd v n u o m g1 g2 g3 g4 g5 g6=>ih d hd A.in1 v n u o m (by
           have:=xM hd;simp only [D.ca] at w;show A.units+1+d.ca<cLine
           omega) g1 g2 g3 g4 g5 g6) h l)
          rw [n1,<-xL O N hl] at q;exact Co z q
        . rw [yI O N hl];exact Co z (Fo p p2 (by rw [n1,n2];simp [hl]) a)
 . intro O ih A v n u o m w r y E g h;cases h
 . exact ⟨(by intro ks O ih A v n u o m w r y E g h;cases h),(by intro ks O ih A v n u o m w r y E g h;cases h),(by intro c A v n u o m w r y E g h;cases h),(by intro ks O ih A v n u o m w r y E g h;cases h),(by intro ks O ih A v n u o m w r y E g h;cases h),(by intro c ns O ih A v n u o m w r y E g h;cases h),(by intro B Φ A v n u o m w r y E g h;cases h),(by intro O A v n u o m w r y E g h;cases h)⟩
def Kj (I:aw X Y U H s) {A:bp} (hu:A.units+d.ca<cLine) (r:aD X.K Any H v d) (ru:aE v u) (r':aD X.K Any H N o) (Oi:aE N z) (hb:D.cA d=true) (w:D.cA o=true):
  RcAt A s u z (ck d o)/\RcNeAt A s u z (!ck d o):=by
 have a:A.units<cLine:=by omega
 have c1:=yL I r ru hb;have B:=yL I r' Oi w
 cases c1 with
 |aV=>
  cases B
  . exact ⟨RcAt.none_none,RcNeAt.none_none⟩
  . exact ⟨RcAt.none_bool _,RcNeAt.none_bool _⟩
  . exact ⟨RcAt.none_int _ _,RcNeAt.none_int _ _⟩
  . exact ⟨RcAt.none_str _ _,RcNeAt.none_str _ _⟩
  . exact ⟨RcAt.none_tuple (by assumption) a,RcNeAt.none_tuple (by assumption) a⟩
  . exact ⟨RcAt.none_list (by assumption) a,RcNeAt.none_list (by assumption) a⟩
 |bl b=>
  cases B
  . exact ⟨RcAt.bool_none _,RcNeAt.bool_none _⟩
  . exact ⟨RcAt.bool_bool _ _,RcNeAt.bool_bool _ _⟩
  . exact ⟨RcAt.bool_int _ _ _,RcNeAt.bool_int _ _ _⟩
  . exact ⟨RcAt.bool_str _ _ _,RcNeAt.bool_str _ _ _⟩
  . exact ⟨RcAt.bool_tuple _ (by assumption) a,RcNeAt.bool_tuple _ (by assumption) a⟩
  . exact ⟨RcAt.bool_list _ (by assumption) a,RcNeAt.bool_list _ (by assumption) a⟩
 |int i t=>
  cases B
  . exact ⟨RcAt.int_none _ _,RcNeAt.int_none _ _⟩
  . exact ⟨RcAt.int_bool _ _ _,RcNeAt.int_bool _ _ _⟩
  . exact ⟨RcAt.int_int _ _ _ _,RcNeAt.int_int _ _ _ _⟩
  . exact ⟨RcAt.int_str _ _ _ _,RcNeAt.int_str _ _ _ _⟩
  . exact ⟨RcAt.int_tuple _ _ (by assumption) a,RcNeAt.int_tuple _ _ (by assumption) a⟩
  . exact ⟨RcAt.int_list _ _ (by assumption) a,RcNeAt.int_list _ _ (by assumption) a⟩
 |str x t=>
  cases B
  . exact ⟨RcAt.str_none _ _,RcNeAt.str_none _ _⟩
  . exact ⟨RcAt.str_bool _ _ _,RcNeAt.str_bool _ _ _⟩
  . exact ⟨RcAt.str_int _ _ _ _,RcNeAt.str_int _ _ _ _⟩
  . exact ⟨RcAt.str_str _ _ _ _,RcNeAt.str_str _ _ _ _⟩
  . exact ⟨RcAt.str_tuple _ _ (by assumption) a,RcNeAt.str_tuple _ _ (by assumption) a⟩
  . exact ⟨RcAt.str_list _ _ (by assumption) a,RcNeAt.str_list _ _ (by assumption) a⟩
 | @ar a1 Fn m E e p O Q=>
  cases B with
  |aV=>exact ⟨RcAt.tuple_none p a,RcNeAt.tuple_none p a⟩
  |bl b=>exact ⟨RcAt.tuple_bool _ p a,RcNeAt.tuple_bool _ p a⟩
  |int i t=>exact ⟨RcAt.tuple_int _ _ p a,RcNeAt.tuple_int _ _ p a⟩
  |str x t=>exact ⟨RcAt.tuple_str _ _ p a,RcNeAt.tuple_str _ _ p a⟩
  |ah e2 h c g=>exact ⟨RcAt.tuple_list p h a,RcNeAt.tuple_list p h a⟩
  | @ar a2 Fm n l e2 h c g=>
    have y:m.toArray.size=E.length:=by rw [cn,<-O.length,Q.length]
    have J:n.toArray.size=l.length:=by rw [cn,<-c.length,g.length]
    have el:=C7 Q g O c (λd hd v N u z o g1 g2 g3 g4 g5 g6=>JH I d A.in1 v N u z o (by
      have:=xM hd;simp only [D.ca] at hu;show A.units+1+d.ca<cLine
      omega) g1 g2 g3 g4 g5 g6) hb w
    have q:=RcAt.tuples p h a el;have q2:=RcNeAt.tuples p h a el;rw [y,J,<-K5] at q q2;exact ⟨q,q2⟩
 | @ah a1 Fn m E e p O Q=>
  cases B with
  |aV=>exact ⟨RcAt.list_none p a,RcNeAt.list_none p a⟩
  |bl b=>exact ⟨RcAt.list_bool _ p a,RcNeAt.list_bool _ p a⟩
  |int i t=>exact ⟨RcAt.list_int _ _ p a,RcNeAt.list_int _ _ p a⟩
  |str x t=>exact ⟨RcAt.list_str _ _ p a,RcNeAt.list_str _ _ p a⟩
  |ar e2 h c g=>exact ⟨RcAt.list_tuple p h a,RcNeAt.list_tuple p h a⟩
  | @ah a2 Fm n l e2 h c g=>
    have y:m.toArray.size=E.length:=by rw [cn,<-O.length,Q.length]
    have J:n.toArray.size=l.length:=by rw [cn,<-c.length,g.length]
    simp only [YF]
    by_cases L:E.length=l.length
    . have el:=C7 Q g O c (λd hd v N u z o g1 g2 g3 g4 g5 g6=>JH I d A.in1 v N u z o (by
       have:=xM hd;simp only [D.ca] at hu;show A.units+1+d.ca<cLine
       omega) g1 g2 g3 g4 g5 g6) hb w
      have q:=RcAt.lists p h (by rw [y,J];exact L) a el;have q2:=RcNeAt.lists p h (by rw [y,J];exact L) a el;rw [y,<-xL E l L] at q q2;exact ⟨q,q2⟩
    . rw [yI E l L];exact ⟨Fo p h (by rw [y,J];simp [L]) a,RcNeAt.lists_lengths p h (by rw [y,J];simp [L]) a⟩
end
section
variable {X:Cx}
def WS:D->D->Bool
 | .ah a,.ah b=>a.length !=b.length
 |_,_=>false
def WQ (h:WS a b=true):ck a b=false:=by
 unfold WS at h
 split at h
 . exact yI _ _ (by simpa using h)
 . cases h
def rE (a b:D):Prop:=(D.cA a=true/\D.cA b=true/\a.ca<=190)\/WS a b=true
instance (a b:D):Decidable (rE a b):=inferInstanceAs (Decidable (_\/_))
def pO (K:aA) (neg:Bool):R2:=λx y H Q=> ∃a b,aD K Any H x a/\aD K Any H y b/\rE a b/\Q (.bl (if neg then !ck a b else ck a b)) H
def WR {y:L2.St} (I:aw X o y H s) (q:A.units<cLine) (r:aD X.K Any H v d) (z:aE v u) (B:aD X.K Any H E J) (g:aE E w) (h:WS d J=true):
   RcAt A s u w false/\RcNeAt A s u w true:=by
 unfold WS at h
 split at h
 . obtain ⟨a,U,rfl,L,_,N⟩:=r.cP;obtain ⟨Y,O,rfl,i,_,l⟩:=B.cP;cases z;cases g;obtain ⟨m,Q,p,_⟩:=I.list (.of L);obtain ⟨c,n,x,_⟩:=I.list (.of i)
   have e:(m.toArray.size !=c.toArray.size)=true:=by
    rw [cn,cn,<-Q.length,<-n.length,N.length,l.length];exact h
   exact ⟨Fo p.isList x.isList e q,RcNeAt.lists_lengths p.isList x.isList e q⟩
 . cases h
def xw (n:X.A.units+200<cLine):dc X (lj .Eq) (pO X.K false):=by
 rintro c s o H x y v u Q I d e ⟨a,b,g,h,hc,q⟩;rcases hc with ⟨i,l,p⟩|hc
 . exact (Kj I (by omega) g d h e i l).1 X.prog X.w X.xe _ ⟨.bl _,H,I,rfl,q⟩
 . have m:Q (.bl false) H:=by have:=WQ hc;simpa [this] using q
   exact (WR I (by omega) g d h e hc).1 X.prog X.w X.xe _ ⟨.bl _,H,I,rfl,m⟩
def Q8 (n:X.A.units+200<cLine):dc X (lj .NotEq) (pO X.K true):=by
 rintro c s o H x y v u Q I d e ⟨a,b,g,h,hc,q⟩;rcases hc with ⟨i,l,p⟩|hc
 . exact (Kj I (by omega) g d h e i l).2 X.prog X.w X.xe _ ⟨.bl _,H,I,rfl,q⟩
 . have m:Q (.bl true) H:=by have:=WQ hc;simpa [this] using q
   exact (WR I (by omega) g d h e hc).2 X.prog X.w X.xe _ ⟨.bl _,H,I,rfl,m⟩
def dN (a b:D):aq D:=aK (rE a b) (.ok (.bl (ck a b)))
def il (a b:D):aq D:=aK (rE a b) (.ok (.bl (!ck a b)))
def J3 {K:aA}:gn K (pO K false) dN:=λx y H a b d Q c g e q=>by
 obtain ⟨h,e2⟩:=jl e;cases e2;exact ⟨a,b,c,g,h,q _ (me _)⟩
def VD {K:aA}:gn K (pO K true) il:=λx y H a b d Q c g e q=>by
 obtain ⟨h,e2⟩:=jl e;cases e2;exact ⟨a,b,c,g,h,q _ (me _)⟩
def aL.cK (r:aL k A):A.units+200<cLine:=by have:=r.un;omega
end
end M
namespace M
open PySem PySem.Spec L2
open PyProof.Rows hiding St
section
variable {X:Cx} {K:aA}
def Wh {lo:Option Int} (c:IsTup s.heap t a) (m:s.heap.IsSliceOf n p q .none) (r:IsPart p lo) (u:IsPart q e)
  (hw:HT.bA a.size 0 lo=0/\HT.bA a.size a.size e=a.size) (h:Q (.ref t) s):wpAny (model o w) A (oH (.ref t) (.ref n)) Q E s:=by
 obtain ⟨os,g,i,v⟩:=id m;have l:s.TypeIs (.ref n) "slice" :=⟨os,g,i⟩
 unfold oH
 try with_reducible refine gl ?_
 first|refine ak (aC ?_)|skip
 refine ak (Cv c.typeIs (by decide) ?_)
 refine ak (lX c.typeIs sC
  (hH sC c.typeIs entry_tuple_getitem ?_ (args_tuple_getitem _ _)))
 show wpAny _ _ (Hv (.ref t)>>=_) _ _ s;refine ak (tupleItemsOf_ c ?_);refine ak (rl l ?_);rw [if_pos (by decide)];refine ak (HT.cH m r u ?_)
 have d:(((HT.bA a.size 0 lo:Nat):Int)==0&&(1:Int)==1&&(HT.bA a.size a.size e-HT.bA a.size 0 lo)==a.size)=true:=by
  rw [hw.1,hw.2];simp
 show wpAny _ _ (if (((HT.bA a.size 0 lo:Nat):Int)==0&&(1:Int)==1&&(HT.bA a.size a.size e-HT.bA a.size 0 lo)==a.size)=true then _ else _) _ _ s;rw [if_pos d];unfold Builtin.Tuple.tupleIsExact;refine ak (ak (rl c.typeIs (aC ?_)));rw [if_pos (by decide)]
 first
  |exact ak (kw (ak (aC (aC ⟨_,rfl,aC h⟩))))
  |exact ak (kw (aC ⟨_,rfl,aC h⟩))
  |exact ak (kw (ak (aC ⟨_,rfl,aC h⟩)))
def Bj (K:aA):V->Option Int->Option Int->Hp->VK->Prop:=λx lo d H Q=> ∃a c,x= .ref a/\f9 K H a c/\(HT.bA c.length 0 lo=0/\HT.bA c.length c.length d=c.length)/\Q (.ref a) H
def n6:pv X (Bj X.K):=by
 rintro e s u H x v w y lo z B Q I h i l m ⟨a,n,o,p,hw,q⟩;subst o;cases h;obtain ⟨d,r,g,E⟩:=I.tuple p;have c:d.toArray.size=n.length:=by rw [cn];exact r.length.symm
 exact ⟨"tuple",_,sC.lookup,g.typeIs,Wh g i l m (by rw [c];exact hw) ⟨.ref a,H,I,rfl,q⟩⟩
def cV (z:Str) (lo a:Option Int):Str:=
 if ((nq lo a 1 z.length).length==z.length)=true then z else ⟨((nq lo a 1 z.length).filterMap (z.cps[·]?)).toArray⟩
def Vd (z:Str) (lo a:Option Int):(cV z lo a).length<=z.length:=by
 unfold cV
 split
 . exact aS _
 . show ((nq lo a 1 z.length).filterMap (z.cps[·]?)).toArray.size<=z.length;rw [cn];exact bZ (List.length_filterMap_le _ _) (PyProof.Rows.indices_len_le lo a z.length)
def Bk:V->Option Int->Option Int->Hp->VK->Prop:=λx lo a H Q=> ∃z,x= .str z/\z.length<=aH/\Q (.str (cV z lo a)) H
def ka (h:IsPart v o): ∃p:Option (Int×Tok),v=partValue p/\p.map (·.1)=o:=by
 cases h with
 |none=>exact ⟨none,rfl,rfl⟩
 |int i t=>exact ⟨some (i,t),rfl,rfl⟩
def Oj:pv X Bk:=by
 rintro d s B H x v E J lo a L Q I h i m n ⟨z,o,p,q⟩;subst o;obtain ⟨t,rfl⟩:=h;obtain ⟨l,rfl,r⟩:=ka m;obtain ⟨u,rfl,w⟩:=ka n;refine ⟨"str",_,F.slot_str_getitem.lookup,typeIs_str s z t,wpAny_getItem_str_slice (st:=none) i rfl ?_⟩;have y:slicePicked z l u none=nq lo a 1 z.length:=by unfold slicePicked;rw [r,w];rfl
 unfold sliceMade;rw [y]
 by_cases c:((nq lo a 1 z.length).length==z.length)=true
 . have e:cV z lo a=z:=by unfold cV;rw [if_pos c]
   rw [e] at q;rw [if_pos (by simpa using c)];exact ⟨.str z,H,I,⟨t,rfl⟩,q⟩
 . have e:cV z lo a=⟨((nq lo a 1 z.length).filterMap (z.cps[·]?)).toArray⟩:=by unfold cV;rw [if_neg c]
   have g:=Vd z lo a;rw [e] at q g;rw [if_neg (by simpa using c)];exact ⟨bZ g p,.str _,H,I.tok _,⟨_,rfl⟩,q⟩
def eB:D->Option Int->Option Int->aq D
 | .ar c,lo,a=>(.ok (.ar (cutD c lo a)))
 | .ah c,lo,a=>(.ok (.ah (cutD c lo a)))
 | .str z,lo,a=> .ok (.str (cV z lo a))
 |_,_,_=> .aj
def uE {lo:Option Int} (a:HT.bA ds.length 0 lo=0) (c:HT.bA ds.length ds.length d=ds.length):cutD ds lo d=ds:=by
 unfold cutD;rw [a,c];simp
def Ol {lo:Option Int} (o:aD X.K A H x a) (m:eB a lo h= .ok d) (q: ∀v r,ap H r->aD X.K (λc=>H c=none\/A c) r v d->be H v->Q v r):
  AQ X.K x lo h H Q\/Bj X.K x lo h H Q\/AU X.K x lo h H Q\/Bk x lo h H Q:=by
 cases a with
 |ar w=>
  cases m;obtain ⟨b,e,rfl,i,l⟩:=o.dL;have n:=l.length
  by_cases hw:HT.bA e.length 0 lo=0/\HT.bA e.length e.length h=e.length
  . refine .inr (.inl ⟨b,e,rfl,.of i,hw,?_⟩);rw [n] at hw;rw [uE hw.1 hw.2] at q;exact q _ H (ap.refl H) (.ar i (l.aG yu)) (Uy i)
  . exact .inl ⟨b,e,rfl,.of i,hw,λp g=>q _ _ (ap.ay g) (.ar jk (((YN l).aG yu).ao (ap.ay g))) (qi (ap.refl H) g)⟩
 |ah w=>
  cases m;obtain ⟨b,e,rfl,i,_,l⟩:=o.cP;exact .inr (.inr (.inl ⟨b,e,rfl,.of i,λp g=>q _ _ (ap.ay g) (.ah jk (.inl g) (((YN l.low).laid g).aG λc z=>⟨.inr z.1,z.2⟩)) (qi (ap.refl H) g)⟩))
 |str z=>
  cases m;obtain ⟨rfl,u⟩:=o.lC;have n:=bZ (Vd z lo h) u;exact .inr (.inr (.inr ⟨z,rfl,u,q _ H (ap.refl H) (.str _ n) (Fj (EX (K:=X.K) _ n))⟩))
 |_=>cases m
def qV {lo:Option Expr} (u:DE X .s e f) (w:DO X lo y) (B:DO X E I):
   DE X .t (.Subscript e (.Slice lo E none p2) J) (jW f y I eB):=by
 nomatch (
  PE.imp (Kp (sD.or (n6.or (l6.or Oj))) u w B) λσ H Q=>by
   rintro ⟨G,i,g,d,k,h,q⟩;obtain ⟨a,e1,h⟩:=ja h;obtain ⟨l,e2,h⟩:=ja h;obtain ⟨m,L,N⟩:=ja h;refine ⟨G,i,g,a,k,e1,λx H1 n O _=>⟨G,i,g,l,k.ao n,e2,λH2 o=>⟨G,i,g,m,(k.ao n).ao o,L,λH3 r=>?_⟩⟩⟩;have p:=n.trans (o.trans r)
   exact Ol ((O.ao o).ao r) N λv U Y r4 nt=>q v U (p.trans Y) (r4.aG λc z=>z.elim (λz=>k.new c (ap.free p z)) λz=>z) (nt.ao p))
def cD:Sl->aq D:=λ_=> .ok (.aJ [] [])
def Wx:DE X .t (.Dict [] [] c) cD:=by
 nomatch (PE.imp No λh H Q=>by
  rintro ⟨G,i,e,d,k,g,q⟩;cases g
  exact λp a=>q _ _ (ap.ay a) (.aJ jk (k.new p a) rfl rfl .nil) (qi (ap.refl H) a))
def Fp:D->aq D
 | .int i=> .ok (.int (-i))
 |_=> .aj
def mQ (f:T5):Sl->aq D:=λa=>f a>>=Fp
def Om (h:DE X l e f):DE X l' (.UnaryOp .USub e g) (mQ f):=by
 nomatch (PE.imp (MH MJ h) λp H Q=>by
  rintro ⟨G,m,c,d,k,n,q⟩;obtain ⟨a,e1,e2⟩:=ja n;refine ⟨G,m,c,a,k,e1,λv o s r _=>?_⟩
  cases a with
  |int i=>cases e2;exact ⟨i,r.cb,q _ o s (.int _) (iC (K:=X.K) _).T⟩
  |_=>cases e2)
end
abbrev tu:D->D->aq D:=gD XT λi j=> .int (i-j)
abbrev ff:D->D->aq D:=gD n5 λi j=> .int (i*j)
abbrev lJ:D->D->aq D:=gD Bg λi j=> .int (i/j)
abbrev cc:D->D->aq D:=gD Bh λi j=> .int (i%j)
abbrev io:D->D->aq D:=gD tp λi j=> .int (i^j.toNat)
abbrev ltI:D->D->aq D:=gD XT λi j=> .bl (decide (i<j))
abbrev rF:D->D->aq D:=gD XT λi j=> .bl (decide (j<i))
structure Av (P:bn) (w:World) (K:aA) (mg:UQ) (ae:Heap) (k:Nat) (x:Str) (ps:List Str) (fr:Bool) (F:TY):Prop where
 ex: ∃f fd,bS P w K mg ae eG k f fd ps (lE K fr ps.length F)/\mg x=some (.ref f)/\iP K (.ref f)=true/\Binds K fd ps []
def Av.mono {K:aA} (h:Av P w K mg ae j x c d F) (e:j<=k):Av P w K mg ae k x c d F:=
 let ⟨f,g,a,b⟩:=h.ex
 ⟨f,g,a.mono e,b⟩
section
variable {X:Cx} {k:Nat} {x:Str} {Q:List Str} {O:Bool} {F:TY} {e:Expr} {U:List Expr} {p Y:Pos} {g:TZ}
def Av.call (A:Av X.prog X.w X.K X.mg X.ae k x Q O F) (d:aL k X.A) (h:DA X .s (e::U) g) (i:Q.length=n:=by rfl) (hg:Gl X x:=by rfl) (a:ZH x:=by decide)
  (l:T9 X e U:=by exact jm rfl) (c:T8 X Y U:=by exact jK rfl):DE X .s (.Call (.Name x p) (e::U) [] Y) (jr n F g):=by
 subst i;obtain ⟨f,q,h1,h2,m,o⟩:=A.ex;exact NM h1 d hg h2 m o ZR h a l c
def Av.aU (A:Av X.prog X.w X.K X.mg X.ae k x Q true F) (d:aL k X.A) (h:DA X .s (e::U) g) (i:Q.length=n:=by rfl) (hg:Gl X x:=by rfl) (a:ZH x:=by decide)
  (l:T9 X e U:=by exact jm rfl) (c:T8 X Y U:=by exact jK rfl):DE X .t (.Call (.Name x p) (e::U) [] Y) (jr n F g):=by
 subst i;obtain ⟨f,q,h1,h2,m,o⟩:=A.ex;exact NN h1 d hg h2 m o ZR h a l c
def Av.iW (A:Av X.prog X.w X.K X.mg X.ae k x Q O F) (d:aL k X.A) (h:DA X .b (e::U) g) (i:Q.length=n:=by rfl) (hg:Gl X x:=by rfl) (a:ZH x:=by decide)
  (l:T9 X e U:=by exact jm rfl) (c:T8 X Y U:=by exact jK rfl):DE X .b (.Call (.Name x p) (e::U) [] Y) (jr n F g):=by
 subst i;obtain ⟨f,q,h1,h2,m,o⟩:=A.ex;exact NO h1 d hg h2 m o ZR h a l c
end
def aX (c:Bool) (n:Nat) (g:T3) (ds:List D):aq D:=match g (zB n ds) with
 | .ok (.rt a d)=>if c=true/\a=false then .aj else .ok d
 | .ok (.nx _)=> .ok .aV
 |_=> .aj
def yT (h:aX i n g ds= .ok d):Meets i n g ds d:=by
 unfold aX at h
 split at h
 . rename_i a o e
   split at h
   . cases h
   . rename_i l;cases h;refine .inl ⟨a,e,λm=>?_⟩
     cases a with
     |true=>rfl
     |false=>exact absurd ⟨m,rfl⟩ l
 . rename_i c e;cases h;exact .inr ⟨rfl,c,e⟩
 . cases h
section
variable {P:bn} {w:World} {K:aA} {mg:UQ} {ae:Heap}
def On {st:Stmt} (l:Bool) (m:iR K x x st f n) (e:mg x=some (.ref f)) (S:ax N o (jf st)) (i:Binds K n o [])
  (p: ∀(c:Value) (A:bp) (a:List Env) (s:az) (H:Hp) (E:XK),aL k (A.deeper (gm x (jf st) s.heap.objs.size f c))->iS (cO eG P w K mg ae N x (jf st) f c A a s H E).iL (qj st) g):
  Av P w K mg ae (k+1) x o l (aX l N.length g):=
 ⟨f,n,Fg m S p λq d _ h=>yT h,e,m.kp,i⟩
def Oo {st:Stmt} (i:Bool) (l:iR K x x st f h) (a:mg x=some (.ref f)) (c:Binds K h m []):Av P w K mg ae k x m i (λ_=> .aj):=
 ⟨f,h,⟨λn H Q E ⟨B,o,d,p,_⟩=>p,λA g s H args q n Q E _ _ _ _ ⟨B,o,d,_,_,e,_⟩=>by cases e⟩,a,l.kp,c⟩
end
def VQ {K:aA} {st:Stmt} (i:Bool) (m:iR K x x st f n) (S:ax N l (jf st))
 (o: ∀(c:Value) (A:bp) (a:List Env) (s:az) (H:Hp) (E:XK),aL k (A.deeper (gm x (jf st) s.heap.objs.size f c))->iS (cO eG P w K p e N x (jf st) f c A a s H E).iL (qj st) g):
 bS P w K p e eG (k+1) f n l (lE K i l.length (aX i N.length g)):=Fg m S o λq d _ h=>yT h
def Zx:iz "list" =some (.type "list"):=by decide+kernel
def Op (d:List Str) (HY a:Scope) (N:List Str) (m:Nat) (c:List Nat):Bool:=(fm c.length).all λk=>match N[m+k]?,(c[k]?).bind (d[·]?) with
 |some y,some e=>y==e&&(HY.names.lookup y==some .cell||HY.names.lookup y==some .free)&&a.names.lookup y==some .free
 |_,_=>false
def Bl (z:Option Str) (d:List Str) (a scope:Scope) (cl:List (Str×Addr)) (N:List Str) (m:Nat) (c:List Nat):Bool:=
 (scope.names.all λx=>x.2 != .local||scope.names.lookup x.1==some .local)&&(scope.names.all λx=>x.2 != .cell||z==some x.1)&&(match z with
   |some y=>scope.names.lookup y==some .cell
   |none=>true)&&(scope.names.all λy=>y.2 != .free||cl.any λp=>p.1==y.1)&&
  Op d a scope N m c&&(match N[m+c.length]? with
   |some y=>scope.names.all λp=>p.1 !=y
   |none=>true)&&N.length==m+c.length+1
def Uh {a:List (Str×Addr)} (h:(a.any λp=>p.1==y)=true): ∃c,a.lookup y=some c:=by
 induction a with
 |nil=>cases h
 |cons p r d=>
  obtain ⟨n,c⟩:=p;rw [sK,Bool.or_eq_true] at h;simp only [mN]
  cases e:y==n with
  |true=>exact ⟨c,rfl⟩
  |false=>
   rcases h with h|h
   . have:n=y:=by simpa using h
     subst this;simp at e
   . exact d h
def n8 (a:List (Str×Addr)):List (Str×Addr)->Prop
 | []=>True
 |p::r=>a.lookup p.1=some p.2/\n8 a r
theorem n8.mem: ∀ {c:List (Str×Addr)},n8 a c-> ∀p∈c,a.lookup p.1=some p.2
 |_::_,h,p,d=>(bH.mp d).elim (λe=>e▸h.1) (n8.mem h.2 p)
def wx (z:Option Str) {X:Cx} (g:closureFor a X.env=pure i) (l:a.kind= .function) (v:N.Nodup) (o:n8 X.env.cells i)
   (h:Bl z X.N X.env.scope a i N m w=true) (made: ∀n,cellsFrom (n+1) a.names i=pJ z i n:=by intro _;rfl) (d: ∀h,pushCells h a.names=E3 z h:=by intro _;rfl):cU z X a i N m w:=by
 simp only [Bl,dj,iE,beq_iff_eq] at h;obtain ⟨⟨⟨⟨⟨⟨B,E⟩,r⟩,H⟩,I⟩,u⟩,J⟩:=h;refine ⟨g,l,λx L e=>?_,λy q e=>?_,made,d,λy e=>by rw [e] at r;exact beq_iff_eq.mp r,λx c e=>o.mem (x,c) (rk e),λy q e=>?_,v,J,λk j e=>?_,λy e p O=>?_⟩
 . have:=B x L;rw [e] at this;simpa using this
 . have:=E y q;rw [e] at this;simpa using this
 . have:=H y q;rw [e] at this;exact Uh (by simpa using this)
 . have Q:=(c7.mp e).1;have:=iE.mp I k (gs.mpr Q);rw [e] at this;simp at this
   cases e1:N[m+k]? with
   |none=>rw [e1] at this;cases this
   |some y=>
    cases e2:X.N[j]? with
    |none=>rw [e1,e2] at this;cases this
    |some y'=>
     rw [e1,e2] at this;simp at this;obtain ⟨⟨U,g2⟩,Y⟩:=this;subst U;exact ⟨y,rfl,rfl,g2,Y⟩
 . rw [e] at u;have:=iE.mp u p O;simpa using this
end M
namespace M
open PySem PySem.Spec L2
def xy (h:a d env= .ok (.nx c)):cR a (d::ds) env=cR a ds c:=by
 show (a d env>>=_)=_;rw [h];rfl
theorem Qj {c:Type} (E:c->Sl) (step:c->D->c) (P:List D->c->Prop)
  (e: ∀d ds a,P (d::ds) a->body d (E a)= .ok (.nx (E (step a d)))/\P ds (step a d)): ∀(ds:List D) (a:c),P ds a->cR body ds (E a)= .ok (.nx (E (ds.foldl step a)))
 | [],a,_=>rfl
 |d::ds,a,h=>by
  obtain ⟨g,i⟩:=e d ds a h;rw [xy g,Qj E step P e ds _ i];rfl
theorem QA {E:D->List D->Sl} (h:D->D) (P:D->Prop)
  (i: ∀x a,cu n (E x a)= .ok a) (l: ∀x a c,(E x a).set n (.ag (.ah c))=E x c)
  (m: ∀x d a,t d (E x a)= .ok (E d a)) (o: ∀d a,P d->g (E d a)= .ok (h d)):
  ∀(ds:List D) (x:D) (a:List D),(∀d∈ds,P d)->a.length+ds.length<=aH-> ∃y,zI n t qo g ds (E x a)= .ok (E y (a++ds.map h))
 | [],x,a,_,_=>⟨x,by simp [zI]⟩
 |d::ds,x,a,p,q=>by
  simp at q;obtain ⟨y,r⟩:=QA h P i l m o ds d (a++[h d]) (λe u=>p e (by simp [u])) (by simp;omega);refine ⟨y,?_⟩
  have v:zI n t qo g (d::ds) (E x a)=zI n t qo g ds (E d (a++[h d])):=by
   show (t d (E x a)>>=_)=_;rw [m];show (g (E d a)>>=_)=_;rw [o d a (p d (by simp))];rw [i];show aK _ _=_;rw [ji (by omega),l]
  rw [v,r];simp
section
variable {env env':Sl} {f U O f3:T5} {g Q g2:T3} {t t1 t2:T4} {Y:TZ} {i:Nat} {d:D} {b:Bool}
@[simp] theorem xV {c e:Type} {a:c} {f:c->aq e}:(aq.ok a>>=f)=f a:=rfl
def pP (g:T3):bD->aq bD
 | .nx e=>g e
 |o=> .ok o
@[simp] theorem Jq:aB Q g2 env=(Q env>>=pP g2):=by
 show (Q env>>=_)=_;congr 1;funext o;cases o<;>rfl
@[simp] theorem Oq:dg i f env=(f env>>=λd=> .ok (.nx (env.set i (XY d)))):=rfl
@[simp] theorem K4:qg i f env=(f env>>=λd=> .ok (.nx (env.set i (.ab d)))):=rfl
@[simp] theorem Ot:a7 f env=(f env>>=λd=> .ok (.rt true d)):=rfl
@[simp] theorem Ou:retS f env=(f env>>=λd=> .ok (.rt false d)):=rfl
@[simp] theorem HZ:dz t Q g2 env=(t env>>=λb=>if b=true then Q env else g2 env):=rfl
@[simp] theorem vP:cQ t1 t2 env=(t1 env>>=λb=>if b=true then t2 env else .ok false):=rfl
@[simp] theorem Ov:ie t1 t2 env=(t1 env>>=λb=>if b=true then .ok true else t2 env):=rfl
@[simp] theorem Ox:cr t env=(t env>>=λb=> .ok (!b)):=rfl
def Fq:D->aq Bool
 | .bl b=> .ok b
 |_=> .aj
@[simp] theorem Oy:aY f env=(f env>>=Fq):=rfl
@[simp] theorem Oz {h:D->D->aq D}:av U O h env=(U env>>=λx=>O env>>=λy=>h x y):=rfl
@[simp] theorem OA:jb f Y env=(f env>>=λd=>Y env>>=λds=> .ok (d::ds)):=rfl
@[simp] theorem OB {h:TY}:app Y h env=(Y env>>=h):=rfl
@[simp] theorem OC {n:Nat} {F:TY}:jr n F Y env=(Y env>>=λds=>aK (ds.length=n) (F ds)):=rfl
@[simp] theorem OD:dM Y env=(Y env>>=λds=>aK (ds.length<=aH) (.ok (.ar ds))):=rfl
@[simp] theorem OE:dw Y env=(Y env>>=λds=>aK (ds.length<=aH) (.ok (.ah ds))):=rfl
@[simp] theorem vO {T:String}:bU T f env=(f env>>=gF T):=rfl
@[simp] theorem OF:gV f env=(f env>>=C2):=rfl
@[simp] theorem OG {a:TX} {c:TZ}:fN c a g env=(c env>>=λds=>cR (wz a g) ds env):=rfl
@[simp] theorem OH {c e:Sl->aq (Option Int)} {h:D->Option Int->Option Int->aq D}:jW f c e h env=(f env>>=λa=>c env>>=λlo=>e env>>=λl=>h a lo l):=rfl
@[simp] theorem OI:qK f env=(f env>>=HL):=rfl
@[simp] theorem OJ:af i env=match env[i]? with|some (.ab d)=> .ok d|_=> .aj:=rfl
def toK (g:aq D) (w:Bool):D->aq D
 | .bl b=>if b=w then g else .ok (.bl b)
 |_=> .aj
@[simp] theorem OK {w:Bool}:CY U O w env=(U env>>=toK (O env) w):=by
 show (U env>>=_)=_;congr 1
def runK (c:Bool):bD->aq D
 | .rt a d=>if c=true/\a=false then .aj else .ok d
 | .nx _=> .ok .aV
 |_=> .aj
def Zo (h:g (zB n ds)= .ok o):aX a n g ds=runK a o:=by
 unfold aX;rw [h];cases o<;>rfl
end
end M
namespace M
def JK (c:t env= .ok true) (h:g env= .ok (.nx a)):qZ (n+1) t g env=qZ n t g a:=by
 rw [qZ,c,xV,if_pos rfl,h];rfl
def Ur (a:t env= .ok true) (h:g env= .ok (.rt c d)):qZ (n+1) t g env= .ok (.rt c d):=by
 rw [qZ,a,xV,if_pos rfl,h];rfl
def yP (a:t env= .ok false):qZ (n+1) t g env= .ok (.nx env):=by
 rw [qZ,a,xV,if_neg (by simp)]
open PySem PySem.Spec L2
def aN:D->List D
 | .ar (_::r)=>r
 |_=>[]
mutual
def num:D->Nat
 | .ar (_::r)=>1+nums r
 |_=>1
def nums:List D->Nat
 | []=>0
 |d::r=>num d+nums r
end
mutual
def bF:D->Nat
 | .ar (_::r)=>1+bm r
 |_=>1
def bm:List D->Nat
 | []=>0
 |d::r=>max (bF d) (bm r)
end
mutual
def aZ:D->List D
 | .ar (x::r)=> .ar (x::r)::ee r
 |d=>[d]
def ee:List D->List D
 | []=>[]
 |d::r=>aZ d++ee r
end
def Fs:D->Bool| .eJ _=>false| .ia _=>false| .bG _ _=>false| .dS _ _=>false| .obj _ _ _=>false| .mem _ _=>false| .cx _=>false|_=>true
mutual
def iq:D->Bool
 | .eJ _=>false
 | .ia _=>false
 | .bG _ _=>false
 | .dS _ _=>false
 | .obj _ _ _=>false
 | .mem _ _=>false
 | .cx _=>false
 | .ar a=>decide (a.length<=11)&&b8 a
 |_=>true
def b8:List D->Bool
 | []=>true
 |d::r=>iq d&&b8 r
end
def Q9 (d:D):num d=1+nums (aN d):=by
 cases d with
 |ar a=>cases a<;>simp [num,aN,nums]
 |_=>simp [num,aN,nums]
def Zi (d:D):bF d=1+bm (aN d):=by
 cases d with
 |ar a=>cases a<;>simp [bF,aN,bm]
 |_=>simp [bF,aN,bm]
def JP (d:D):aZ d=d::ee (aN d):=by
 cases d with
 |ar a=>cases a<;>simp [aZ,aN,ee]
 |_=>simp [aZ,aN,ee]
def KA (a b:List D):nums (a++b)=nums a+nums b:=by
 induction a with
 |nil=>simp [nums]
 |cons d r c=>simp [nums,c];omega
def OL (a b:List D):bm (a++b)=max (bm a) (bm b):=by
 induction a with
 |nil=>simp [bm]
 |cons d r c=>simp [bm,c]
def Wn (h:iq d=true):Fs d=true:=by
 cases d<;>first|rfl|cases h
theorem Qk: ∀ {ds:List D} {d:D},b8 ds=true->d∈ds->iq d=true
 |x::r,d,h,hm=>by
  have h:=tD.mp h;rcases bH.mp hm with rfl|hm
  . exact h.1
  . exact Qk h.2 hm
theorem Wm: ∀ {ds:List D},(∀d∈ds,iq d=true)->b8 ds=true
 | [],_=>rfl
 |x::r,h=>tD.mpr ⟨h x (by simp),Wm λd a=>h d (by simp [a])⟩
def Qm (h:iq d=true):b8 (aN d)=true/\(aN d).length<=10:=by
 cases d with
 |ar a=>
  cases a with
  |nil=>exact ⟨rfl,by simp [aN]⟩
  |cons x r=>
   have h:=tD.mp h;have:=of_decide_eq_true h.1;exact ⟨(tD.mp h.2).2,by simp only [aN];rw [b9] at this;omega⟩
 |_=>exact ⟨rfl,by simp [aN]⟩
def below (a:List D):List D:=a.flatMap aN
def VF (a:List D):nums a=a.length+nums (below a):=by
 induction a with
 |nil=>rfl
 |cons d r c=>
  have:below (d::r)=aN d++below r:=rfl;rw [this,KA];simp only [nums,b9,c,Q9 d];omega
def VN (a:List D) (h:a≠[]):bm a=1+bm (below a):=by
 induction a with
 |nil=>exact absurd rfl h
 |cons d r c=>
  have e:below (d::r)=aN d++below r:=rfl;rw [e,OL];simp only [bm,Zi d]
  cases r with
  |nil=>simp [bm,below]
  |cons x r=>rw [c (by simp)];omega
def YC (h:b8 a=true):b8 (below a)=true:=
 Wm λd c=>by
  obtain ⟨x,e,g⟩:=tF.mp c;exact Qk (Qm (Qk h e)).1 g
def uY (h:b8 a=true):(below a).length<=10*a.length:=by
 induction a with
 |nil=>simp [below]
 |cons d r c=>
  have h:=tD.mp h;have e:below (d::r)=aN d++below r:=rfl;have:=c h.2;have:=(Qm h.1).2;rw [e,de,b9];omega
def yX (d:D):1<=num d:=by rw [Q9];omega
def y0 (d:D):1<=bF d:=by rw [Zi];omega
mutual
theorem wq: ∀d:D,(aZ d).length=num d
 | .ar (x::r)=>by simp [aZ,num,iX r];omega
 | .ar []=>by simp [aZ,num]
 | .aV=>by simp [aZ,num]
 | .bl _=>by simp [aZ,num]
 | .int _=>by simp [aZ,num]
 | .str _=>by simp [aZ,num]
 | .ah _=>by simp [aZ,num]
 | .eJ _=>by simp [aZ,num]
 | .aJ _ _=>by simp [aZ,num]
 | .bO _ _=>by simp [aZ,num]
 | .ia _=>by simp [aZ,num]
 | .bG _ _=>by simp [aZ,num]
 | .dS _ _=>by simp [aZ,num]
 | .obj _ _ _=>by simp [aZ,num]
 | .mem _ _=>by simp [aZ,num]
 | .cx _=>by simp [aZ,num]
theorem iX: ∀ds:List D,(ee ds).length=nums ds
 | []=>rfl
 |d::r=>by simp [ee,nums,wq d,iX r]
end
def dG {a:Type} {xs:List a} {k:Nat}:gy xs (k:Int)=xs[k]?:=by
 unfold gy rm
 by_cases h:k<xs.length
 . rw [if_pos (by omega),if_pos (by omega)];simp
 . rw [if_pos (by omega),if_neg (by omega)];simp;omega
def C8 {x:D} {r:List D}:bW (.ar (x::r)) (.int 0)= .ok x:=by
 exact congrArg (λz:Option D=>match z with|some d=>aq.ok d|none=> .aj) (dG (xs:=x::r) (k:=0))
section
variable {env env':Sl} {f O Q f3:T5} {g U g2:T3} {t t1 t2:T4} {Y:TZ} {i:Nat} {d x y z:D} {b:Bool} {ds:List D}
def ju (a:O env= .ok x) (c:Q env= .ok y) (e:h x y= .ok z):av O Q h env= .ok z:=by rw [Oz,a,xV,c,xV,e]
def qk (h:f env= .ok d):qg i f env= .ok (.nx (env.set i (.ab d))):=by rw [K4,h];rfl
def UJ (h:f env= .ok d):dg i f env= .ok (.nx (env.set i (XY d))):=by rw [Oq,h];rfl
def zj (h:f env= .ok d):a7 f env= .ok (.rt true d):=by rw [Ot,h];rfl
def UT (h:f env= .ok d):retS f env= .ok (.rt false d):=by rw [Ou,h];rfl
def jx (h:U env= .ok (.nx env')):aB U g2 env=g2 env':=by rw [Jq,h];rfl
def UK (h:U env= .ok (.rt a d)):aB U g2 env= .ok (.rt a d):=by rw [Jq,h];rfl
def mR (h:t env= .ok true):dz t U g2 env=U env:=by rw [HZ,h];rfl
def dh (h:t env= .ok false):dz t U g2 env=g2 env:=by rw [HZ,h];rfl
def jd (a:f env= .ok d) (c:Y env= .ok ds):jb f Y env= .ok (d::ds):=by rw [OA,a,xV,c];rfl
def zY (a:Y env= .ok ds) (c:h ds= .ok d):app Y h env= .ok d:=by rw [OB,a,xV,c]
def jz (a:Y env= .ok ds) (c:ds.length=n) (e:F ds= .ok d):jr n F Y env= .ok d:=by rw [OC,a,xV,ji c,e]
def Ia (a:Y env= .ok ds) (c:ds.length<=aH):dM Y env= .ok (.ar ds):=by rw [OD,a,xV,ji c]
def Zd (a:Y env= .ok ds) (c:ds.length<=aH):dw Y env= .ok (.ah ds):=by rw [OE,a,xV,ji c]
def jM (h:f env= .ok (.bl b)):aY f env= .ok b:=by rw [Oy,h];rfl
def Yj (a:t1 env= .ok b) (c:t2 env= .ok b2):ie t1 t2 env= .ok (b||b2):=by rw [Ov,a,xV,c];cases b<;>rfl
def Zy (a:t1 env= .ok b) (c:t2 env= .ok e):cQ t1 t2 env= .ok (b&&e):=by rw [vP,a,xV,c];cases b<;>rfl
def zR (a:t1 env= .ok b):cr t1 env= .ok (!b):=by rw [Ox,a];rfl
def uZ (a:cu i env= .ok ds) (c:f env= .ok d) (e:ds.length<aH):QF i f env= .ok (.nx (env.set i (.ag (.ah (ds++[d]))))):=by
 show (cu i env>>=_)=_;rw [a];rw [c];exact ji e
def za (a:f env= .ok x) (c:e env= .ok lo) (l:m env= .ok hi) (n:h x lo hi= .ok z):jW f e m h env= .ok z:=by
 rw [OH,a,xV,c,xV,l,xV,n]
def q9 (h:f env= .ok (.int j)):qK f env= .ok (some j):=by rw [OI,h];rfl
def Zm (h:a env= .ok ds):fN a c g env=cR (wz c g) ds env:=by rw [OG,h];rfl
def Qa (h:f env= .ok d) (a:C2 d= .ok ds):gV f env= .ok ds:=by rw [OF,h,xV,a]
def Vf (h:f env= .ok d) (a:d.eK=true):fx f env= .ok d:=by
 show (f env>>=_)=_;rw [h];exact ji a
end
def Xu {C:Int->Int->Prop} [∀i j,Decidable (C i j)] {g:Int->Int->D} {i j:Int} (h:C i j):gD C g (.int i) (.int j)= .ok (g i j):=if_pos h
def U6 (h:tp i j):io (.int i) (.int j)= .ok (.int (i^j.toNat)):=Xu h
def OM (h:n5 i j):ff (.int i) (.int j)= .ok (.int (i*j)):=Xu h
def ON (h:0<j):cc (.int i) (.int j)= .ok (.int (i%j)):=Xu h
def ur (h:0<j/\j<1073741824):lJ (.int i) (.int j)= .ok (.int (i/j)):=Xu h
def x4 (h:t d env= .ok env'):wz t g d env=g env':=by
 show (t d env>>=g)=_;rw [h];rfl
def xm (h:g (zB n ds)= .ok (.rt true d)):aX a n g ds= .ok d:=by rw [Zo h];simp [runK]
def Ft (h:g (zB n ds)= .ok (.rt false d)):aX false n g ds= .ok d:=by rw [Zo h];simp [runK]
def X6 (h:a env= .ok [.int j]) (c: -(2^62)<=j/\j<2^62):ig a env= .ok (yc 0 j.toNat):=by
 show (a env>>=sR)=_;rw [h];exact ji c
def OO (c:a.isEmpty=false) (d:a.length+b.length<=aH):bc (.ar a) (.ar b)= .ok (.ar (a++b)):=ji ⟨c,d⟩
def yi (c:a.length+b.length<=aH):bc (.ah a) (.ah b)= .ok (.ah (a++b)):=ji c
def wW:dN (.int a) (.int b)= .ok (.bl (a==b)):=by
 unfold dN;rw [ji (by left;simp [Ob,D.ca])];simp [YF]
theorem Wl (I:List D->Sl->Prop)
  (c: ∀d ds env,I (d::ds) env-> ∃a,body d env= .ok (.nx a)/\I ds a): ∀(ds:List D) (env:Sl),I ds env-> ∃a,cR body ds env= .ok (.nx a)/\I [] a
 | [],env,h=>⟨env,rfl,h⟩
 |d::ds,env,h=>by
  obtain ⟨e1,e,g⟩:=c d ds env h;obtain ⟨e2,i,l⟩:=Wl I c ds e1 g;exact ⟨e2,by rw [xy e,i],l⟩
def J5 (h:d∈yc lo n): ∃k:Int,d= .int k/\lo<=k/\k<lo+n:=by
 unfold yc at h;obtain ⟨i,a,e⟩:=bP.mp h;have:=gs.mp a;exact ⟨_,e.symm,by omega,by omega⟩
def wA (lo:Int) (n:Nat):(yc lo n).length=n:=by simp [yc]
def Ib {c:Type} {xs:List c} {i:Int} (d:0<=i) (e:i<xs.length): ∃x,gy xs i=some x/\x∈xs:=by
 obtain ⟨k,rfl⟩:=Int.eq_ofNat_of_zero_le d;have a:k<xs.length:=by omega
 exact ⟨xs[k],by rw [M.dG];exact cZ a,mu a⟩
def Fv {ds:List D} {i:Int} (a:0<=i) (e:i<ds.length): ∃d,bW (.ah ds) (.int i)= .ok d/\d∈ds:=by
 obtain ⟨c,g,h⟩:=Ib a e;exact ⟨c,by simp only [bW];rw [g],h⟩
open Builtin.Int (intBits)
def C9 (o:fO false env j=c) (h:D->D) (P:D->Prop) (p:i env= .ok ds) (l: ∀d∈ds,P d) (q:ds.length<=aH)
  (m: ∀d g,P d->a [.ab d,c,.ag (.ah g)]= .ok (h d)):ze false 1 [j] i (gN 0) qo a env= .ok (.ah (ds.map h)):=by
 show (i env>>=_)=_;rw [p];show (zI 2 (gN 0) qo a ds [.un,fO false env j,.ag (.ah [])]>>=_)=_;rw [o]
 cases ds with
 |nil=>rfl
 |cons d ds=>
  simp at q;obtain ⟨y,r⟩:=QA (n:=2) (t:=gN 0) h P (λ_ _=>rfl) (λ_ _ _=>rfl) (λ_ _ _=>rfl) m ds d [h d] (λe u=>l e (by simp [u])) (by simp;omega)
  have v:zI 2 (gN 0) qo a (d::ds) [.un,c,.ag (.ah [])]=zI 2 (gN 0) qo a ds [.ab d,c,.ag (.ah [h d])]:=by
   show (a [.ab d,c,.ag (.ah [])]>>=_)=_;rw [m d [] (l d (by simp))];exact ji (c:=([]:List D).length<aH) (by simp;omega)
  rw [v,r];rfl
theorem fX: ∀ {ds:List D},(∀d∈ds,bF d<=k)->bm ds<=k
 | [],_=>by simp [bm]
 |d::ds,h=>by
  simp only [bm];have:=h d (by simp);have:=fX (ds:=ds) λe a=>h e (by simp [a])
  omega
theorem wj: ∀ {ds:List D} {d:D},d∈ds->bF d<=bm ds
 |x::r,d,h=>by
  simp only [bm];rcases bH.mp h with rfl|h
  . omega
  . have:=wj h;omega
end M
namespace M
open PySem PySem.Spec L2
open PyProof.Rows hiding St
def dP:D->Option aT
 | .int i=>some (.inl i)
 | .str x=>some (.inr x)
 |_=>none
def iY (ks:List aT) (k:aT):Bool:=ks.any λx=>decide (x=k)
def ba (ks:List aT) (ds:List D) (k:aT):Option D:=((ks.zip ds).find? λp=>decide (p.1=k)).map (·.2)
def xS (ks:List aT) (k:aT):List aT:=if iY ks k=true then ks else ks++[k]
def xT (ks:List aT) (ds:List D) (k:aT) (d:D):List D:=if iY ks k=true then (ks.zip ds).map (λp=>if p.1=k then d else p.2) else ds++[d]
section
variable {K:aA} {A:UP} {H:Hp}
def xx (r:aD K A H y d) (h:dP d=some k):y=kV k:=by
 cases d<;>cases h
 . exact r.f
 . exact r.f.1
theorem xv: ∀ {a:List (aT×V)} {ds:List D} (k:aT),am K A H (a.map (·.2)) ds->(∀d,ba (a.map (·.1)) ds k=some d-> ∃v,b7 a k=some v/\aD K A H v d)/\(ba (a.map (·.1)) ds k=none->b7 a k=none)
 | [],ds,k,r=>⟨λd h=>by simp [ba] at h,λ_=>rfl⟩
 | (c,v)::a,ds,k,r=>by
  . obtain ⟨g,e,rfl,l,m⟩:=r.cq;have n:=xv k m
    by_cases i:c=k
    . subst i;have e1:ba ((((c,v)::a)).map (·.1)) (g::e) c=some g:=by simp [ba]
      have e2:b7 ((c,v)::a) c=some v:=by simp [b7]
      rw [e1,e2];exact ⟨λd h=>by cases h;exact ⟨v,rfl,l⟩,λh=>by cases h⟩
    . have e1:ba ((((c,v)::a)).map (·.1)) (g::e) k=ba (a.map (·.1)) e k:=by simp [ba,i]
      have e2:b7 ((c,v)::a) k=b7 a k:=by simp [b7,i]
      rw [e1,e2];exact n
def OP (a:List (aT×V)) (k:aT):(a.any λc=>decide (c.1=k))=iY (a.map (·.1)) k:=by
 unfold iY;rw [List.any_map];rfl
theorem Kh (k:aT) (g:aD K A H v d): ∀ {a:List (aT×V)} {ds:List D},am K A H (a.map (·.2)) ds->am K A H ((a.map (λc=>if c.1=k then (c.1,v) else c)).map (·.2)) (((a.map (·.1)).zip ds).map (λp=>if p.1=k then d else p.2))
 | [],_,r=>by cases r.eM;exact .nil
 | (i,n)::a,_,r=>by
  obtain ⟨_,_,rfl,l,m⟩:=r.cq;have h:=Kh k g m
  by_cases e:i=k
  . simp only [cY,oU,e,if_true];exact .cons g (by simpa [e] using h)
  . simp only [cY,oU,e,if_false];exact .cons l h
def OQ (k:aT) (r:am K A H (a.map (·.2)) ds) (c:aD K A H v d):
   (putK a k v).map (·.1)=xS (a.map (·.1)) k/\am K A H ((putK a k v).map (·.2)) (xT (a.map (·.1)) ds k d):=by
 unfold putK xS xT;rw [OP]
 by_cases h:iY (a.map (·.1)) k=true
 . rw [if_pos h,if_pos h,if_pos h];refine ⟨?_,Kh k c r⟩;rw [iI];apply lK;intro p _;simp
   split<;>rfl
 . rw [if_neg h,if_neg h,if_neg h];refine ⟨by simp,?_⟩;rw [iH];exact r.append (.cons c .nil)
def aD.gG (r:aD K A H v (.aJ ks ds)): ∃a d,v= .ref a/\H a=some (.dK d)/\A a/\d.map (·.1)=ks/\am K (λc=>A c/\c≠a) H (d.map (·.2)) ds:=r.f
end
def yy {K:aA} {i:Nat} (k:au K G o env d H) (g:env[i]?=some (.ag (.aJ ks ds))): ∃a c,d[i]?=some (some (.ref a))/\H a=some (.dK c)/\c.map (·.1)=ks/\am K (Sf G env d) H (c.map (·.2)) ds:=by
 obtain ⟨a,h,p,l⟩:=k.ag i _ g
 cases l with
 |aJ e m n r=>subst n;exact ⟨a,_,h,e,m,r⟩
def n9 (i:Nat) (env:Sl):aq (List aT×List D):=match env[i]? with
 |some (.ag (.aJ ks a))=> .ok (ks,a)
 |_=> .aj
def Ks (h:n9 i env= .ok p):env[i]?=some (.ag (.aJ p.1 p.2)):=by
 unfold n9 at h
 split at h
 . cases h;assumption
 . cases h
def au.putD {K:aA} (k:au K G h env g H) (l:env[i]?=some (.ag (.aJ ks ds))) (m:g[i]?=some (some (.ref a))) (n:H a=some (.dK c)) (o:c.map (·.1)=ks)
  (r:am K (Sf G env g) H (c.map (·.2)) ds) (p:aD K (Sf G env g) H v d):au K G h (env.set i (.ag (.aJ (xS ks kk) (xT ks ds kk d)))) g (ay H a (.dK (putK c kk v)))/\bg env g H (env.set i (.ag (.aJ (xS ks kk) (xT ks ds kk d)))) g (ay H a (.dK (putK c kk v))):=by
 subst o;obtain ⟨q,u⟩:=OQ kk r p;exact k.ge l m n trivial λx y st e w=> .aJ e q rfl (u.aP st w)
section
variable {X:Cx} {K:aA}
def mS:D->D->aq D
 | .aJ ks a,c=>match dP c with
  |some k=>match ba ks a k with
   |some d=> .ok d
   |none=> .aj
  |none=> .aj
 |_,_=> .aj
def Ie:R2:=λx y H Q=> ∃a c k v,x= .ref a/\y=kV k/\H a=some (.dK c)/\b7 c k=some v/\Q v H
def OR (i:X.A.units+20<cLine):mJ X Ie:=by
 intro value c e s B H x y v u Q I l m h n;obtain ⟨a,o,k,z,rfl,rfl,p,r,q⟩:=h;obtain rfl:v=cX a:=l;have g:gz H a (kV k) (some z):=by rw [<-r];exact gz.k p
 exact tail_any (yf I g) va.lookup (Qw i I g m λE J w d=>⟨z,H,w,d,q⟩) n
def OS (e:aD K A H x a) (g:aD K Any H y b) (h:mS a b= .ok d) (q: ∀v,aD K A H v d->Q v H):Ie x y H Q:=by
 unfold mS at h
 split at h
 . split at h
   . rename_i k i
     split at h
     . rename_i p l;cases h;obtain ⟨a,c,rfl,m,_,rfl,r⟩:=e.gG;obtain ⟨v,n,o⟩:=(xv k r.low).1 _ l;exact ⟨a,c,k,v,rfl,xx g i,m,n,q v o⟩
     . cases h
   . cases h
 . cases h
variable {a b:Expr} {O Y:T5} {N:Lv} {U p:Pos}
def OT (L:X.A.units+20<cLine) (i:Nat) {x:Str} (hb:DE X N b Y) (hN:X.N[i]?=some x:=by rfl) (hv:dE X.env.scope x:=by exact bT rfl)
   (hd:ZH x:=by decide) (h:UR x:=by decide) (hs:yj b:=by intro _ _;rfl):DE X .s (.Subscript (.Name x p) b U) (av (cJ i) Y mS):=by
 nomatch (
  PE.imp (VB (OR L) (qw hN hv hd h) hb hs) λσ H Q=>by
   rintro ⟨G,E,g,d,k,l,q⟩;obtain ⟨a',e1,l⟩:=ja l;obtain ⟨I,e2,c⟩:=ja l;rcases X7 e1 with z|z
   . obtain ⟨v,m,h2⟩:=k.ab i a' z;exact ⟨v,m,G,E,g,I,k,e2,λy n e o _=>OS (h2.ao e) (o.aG Lv.bv) c λv r3=>q v n e r3 trivial⟩
   . unfold mS at c
     split at c
     . obtain ⟨aa,u,m,hx,hk,r⟩:=yy k z;refine ⟨_,m,G,E,g,I,k,e2,λy n e o _=>?_⟩
       split at c
       . rename_i J w
         split at c
         . rename_i d' B;cases c;subst hk;obtain ⟨v,g1,g2⟩:=(xv J r).1 _ B;exact ⟨aa,u,J,v,rfl,xx (o.aG Lv.bv) w,e _ _ hx,g1,q v n e (g2.ao e) trivial⟩
         . cases c
       . cases c
     . cases c)
def ir:List D->aq D
 | [.aJ ks _]=> .ok (.int ks.length)
 |_=> .aj
def uJ:YZ K (λg H Q=> ∃a c,g=[V.ref a]/\H a=some (.dK c)/\Q (.int c.length) H) ir:=by
 intro g H l d Q r e q;unfold ir at e
 split at e
 . cases e;obtain ⟨v,rfl,h⟩:=r.one;obtain ⟨p,c,rfl,i,_,rfl,_⟩:=h.gG;exact ⟨p,c,rfl,i,by rw [<-bN];exact q _ (iC _)⟩
 . cases e
def Ig:V->List V->Hp->VK->Prop:=λx d H Q=> ∃a c k z,x= .ref a/\d=[kV k,z]/\Rd H a (.dK c)/\Q ((b7 c k).getD z) H
def OU (l:X.A.units+20<cLine):oP X "dict.get" Ig:=by
 intro i s J H x L v m Q I n o h;obtain ⟨a,c,k,z,rfl,rfl,r,q⟩:=h;obtain rfl:v=cX a:=n
 obtain ⟨d,e,rfl,u,w⟩: ∃d e,m=[d,e]/\aE (kV k) d/\aE z e:=by
  cases o with
  |cons y t=>cases t with|cons B t=>cases t;exact ⟨_,_,rfl,y,B⟩
 exact Nu l I (.inl ⟨c,k,r,rfl,rfl⟩) u w λw' s' E g=>⟨_,H,E,g,q⟩
def Db (ks:List aT) (ds:List D) (c z:D):aq D:=match dP c with
 |some k=> .ok ((ba ks ds k).getD z)
 |none=> .aj
def Fw:D->List D->aq D
 | .aJ ks c,[d,z]=>Db ks c d z
 | .bG ks c,[d,z]=>Db ks c d z
 |_,_=> .aj
def Qh (f O Y:T5):Sl->aq D:=λc=>f c>>=λa=>O c>>=λd=>Y c>>=λz=>Fw a [d,z]
def YL {u h:Pos} (hu:X.A.units+20<cLine) (ho:DE X .s o f) (h1:DE X l1 e1 fk) (h2:DE X .s e2 fz)
   (I:lx o "get" X.env (eval o X.env)=eval o X.env:=by rfl)
   (Fx:((eA h (bj [e1,e2] X.env)).all (λx=>!x.1)&&(l7 h (l8 [] X.env)).all (λx=>x.1.isSome)
    &&decide ([e1,e2].length+([]:List la).length+(if ([]:List la).isEmpty then 0 else 1)<30))=true:=by exact yF rfl rfl)
   (J:(u.endLine==h.line)=true:=by rfl) (hs:bj [e1,e2] X.env=(false,eval e1 X.env)::bj [e2] X.env:=by exact jm rfl) (m:(eA h (bj [e2] X.env)).any (·.1)=false:=by exact jK rfl)
   (Dc:bj [e2] X.env=(false,eval e2 X.env)::bj [] X.env:=by exact jm rfl):
   DE X .s (.Call (.Attribute o "get" u) [e1,e2] [] h) (Qh f fk fz):=by
 nomatch (
  PE.imp (CM PySem.F.plainAttrs_dict ES PySem.F.type_dict_get (OU hu) ho (qc h1 (qc h2 zC Dc) hs) I Fx J hs m) λσ H Q=>by
   rintro ⟨G,B,e,d,k,ef,q⟩;obtain ⟨a',e1,ef⟩:=ja ef;obtain ⟨kd,e2,ef⟩:=ja ef;obtain ⟨z,e3,n⟩:=ja ef
   have fin: ∀ {ks:List aT} {ds:List D} (p:Addr) (g:List (aT×V)) (l:Hp),ap H l->Rd l p (.dK g)->g.map (·.1)=ks->am X.K (λc=>Sf G e σ c/\c≠p) l (g.map (·.2)) ds->Db ks ds kd z= .ok d-> ∀T0:Prop,T0->T0/\
     ∃G B e d0,au X.K G B e σ l/\fk e= .ok d0/\ ∀v H2,ap l H2->aD X.K (l1.A G e σ) H2 v d0->l1.T l v-> ∃G B e d1,au X.K G B e σ H2/\fz e= .ok d1/\ ∀w H3,ap H2 H3->aD X.K (Lv.s.A G e σ) H3 w d1->Lv.s.T H2 w->Ig (.ref p) [v,w] H3 Q:=by
    intro ks ds p g l E hp hk r n T0 t0;subst hk;unfold Db at n
    cases L:dP kd with
    |none=>rw [L] at n;cases n
    |some kk=>
     rw [L] at n;cases n;refine ⟨t0,G,B,e,_,k.ao E,e2,λy H2 s2 r2 _=>⟨G,B,e,_,(k.ao E).ao s2,e3,λw H3 s3 r3 _=>?_⟩⟩;have OV:=(hp.ao s2).ao s3;refine ⟨p,g,kk,w,rfl,by rw [xx (r2.aG Lv.bv) L],OV,?_⟩;have rr:=((r.low.ao s2).ao s3)
     cases i:ba (g.map (·.1)) ds kk with
     |none=>
      rw [(xv kk rr).2 i];exact q _ H3 ((E.trans s2).trans s3) (by rw [i];exact r3) trivial
     |some d'=>
      obtain ⟨v,g1,g2⟩:=(xv kk rr).1 _ i;rw [g1];exact q _ H3 ((E.trans s2).trans s3) (by rw [i];exact g2) trivial
   cases a' with
   |aJ ks ds=>
    refine ⟨G,B,e,_,k,e1,λx l E r1 _=>?_⟩;obtain ⟨p,g,rfl,hp,_,hk,r⟩:=r1.gG;exact fin p g l E (.inl hp) hk r n _ (.inr (.inr (.inl ⟨rfl,.inl ⟨g,hp⟩⟩)))
   |bG ks ds=>
    refine ⟨G,B,e,_,k,e1,λx l E r1 _=>?_⟩;obtain ⟨p,g,rfl,hp,hk,r⟩:=r1.f;have hr:Rd l p (.dK g):=hp.elim (λz=> .inl z.1) .inr;exact fin p g l E hr hk r n _ (.inr (.inr (.inl ⟨rfl,.inr (.inr ⟨g,hr⟩)⟩)))
   |_=>cases n)
end
section
variable {X:Cx} {K:aA} {n l2:Lv} {e1 e2:Expr} {B fv:T5} {J fL L p:Pos} {x:Str}
def Wt (i:Nat) (B fv:T5):Sl->aq bD:=λa=>n9 i a>>=λq=>fv a>>=λd=>B a>>=λc=>match dP c with
 |some k=>aK (q.1.length<aH) (.ok (.nx (a.set i (.ag (.aJ (xS q.1 k) (xT q.1 q.2 k d))))))
 |none=> .aj
def ui (i:Nat) (hu:X.A.units+20<cLine) (hk:DE X n e1 B) (hv:DE X .s e2 fv) (hN:X.N[i]?=some x:=by rfl) (w:dE X.env.scope x:=by exact bT rfl)
   (hd:ZH x:=by decide) (z:UR x:=by decide)
   (hs:gb e2 (some (.Subscript (.Name x p) e1 L)) J.line X.env=pure false:=by rfl):
   DS X (.Assign [.Subscript (.Name x p) e1 L] e2 J) (Wt i B fv):=by
 nomatch (
  PS.imp (U4 hu (qw hN w hd z) hk hv hs) λE σ H=>by
   rintro ⟨G,N,e,o,k,g,q⟩;obtain ⟨ks,c1,g⟩:=ja g;obtain ⟨d,c2,g⟩:=ja g;obtain ⟨O,c3,u⟩:=ja g;have Q:=Ks c1;obtain ⟨a,I,U,hx,h,rs⟩:=yy k Q
   cases c:dP O with
   |none=>rw [c] at u;cases u
   |some kk=>
    rw [c] at u;obtain ⟨Y,c5⟩:=jl u;cases c5;refine ⟨G,N,e,d,k,c2,λv H1 l r1 _=>⟨.ref a,U,G,N,e,O,k.ao l,c3,λy H2 m r2 _=>?_⟩⟩;have r:=m _ _ (l _ _ hx);have hy:=xx (r2.aG Lv.bv) c;subst hy;have hl:I.length<aH:=by rw [<-h,bN] at Y;exact Y
    refine ⟨a,_,rfl,h8.k r hl,?_⟩;have W:=((k.ao l).ao m).putD (kk:=kk) Q U r h ((rs.ao l).ao m) (r1.ao m)
    exact q σ _ W.1 ((W.2.ao m).ao l))
def kD:aT->D
 | .inl i=> .int i
 | .inr x=> .str x
theorem Yw: ∀ {ks:List (aT×Value)} {a:List Value},a.length=ks.length->(∀(j:Nat) (v:Value),a[j]?=some v-> ∃k x,ks[j]?=some (k,x)/\(qF P w).is k v=true)->aI (ks.map λq=>kV q.1) a
 | [],[],_,_=> .nil
 | [],_::_,h,_=>by simp at h
 |_::_,[],h,_=>by simp at h
 | (k,x)::ks,v::a,h,c=>by
  obtain ⟨l,m,e,d⟩:=c 0 v rfl;simp at e;obtain ⟨rfl,rfl⟩:=e;refine .cons ?_ (Yw (by simpa using h) λj u g=>c (j+1) u (by simpa using g))
  cases k with
  |inl i=>
   obtain ⟨t,rfl⟩:=Value.isInt_shape d;exact ⟨t,rfl⟩
  |inr z=>
   obtain ⟨t,rfl⟩:=Value.isStrOf_shape d;exact ⟨t,rfl⟩
def Uc (Y:X.bz=true):bi X (.type "list") (λy H Q=> ∃a c,y=[.ref a]/\H a=some (.dK c)/\ ∀l,H l=none->Q (.ref l) (ay H l (.ah (c.map λq=>kV q.1)))):=by
 intro z s σ H y us Q I r h;obtain ⟨a,c,rfl,ha,q⟩:=h;obtain ⟨u,rfl,rx⟩:=x3 r;cases rx;obtain ⟨E,hd,N,i,dd⟩:=YK I.aM ha;have o:N.length<=aH:=by rw [<-i.length];exact E
 obtain ⟨ep,w⟩:=dd.dictAt;refine PySem.W.kdl_call (PySem.W.kdl_dict hd) (I.ok.hd Y) w o λh' tk m c' hk hS d=>?_
 have O:=Yw (by rw [eq];exact d.1) λj v e=>d.2 j v (by rw [<-fG];exact e)
 have g:(N.map λq=>kV q.1)=(c.map λq=>kV q.1):=by
  have:=i.keys;have U:=congrArg (List.map kV) this;simp at U;exact U.symm
 rw [g] at O;refine ⟨.ref s.heap.objs.size,_,I.laid hk (aS _) (show aW X.prog X.w _ h' _ (.ah (c.map λq=>kV q.1)) from ⟨by rw [bN];exact E,m.toList,c',O,by rw [Bm];exact hS⟩),rfl,q _ (I.aM.fresh (aS _))⟩
def Dd:List D->aq D
 | [.aJ ks _]=>aK ((ks.all λk=>match k with| .inl _=>true| .inr _=>false)=true) (.ok (.ah (ks.map kD)))
 |_=> .aj
def OW:QJ K (λw H Q=> ∃a c,w=[.ref a]/\H a=some (.dK c)/\ ∀l,H l=none->Q (.ref l) (ay H l (.ah (c.map λq=>kV q.1)))) Dd:=by
 intro A w H N d Q r e q;unfold Dd at e
 split at e
 . rename_i ks O;obtain ⟨g,e2⟩:=jl e;cases e2;obtain ⟨v,rfl,y⟩:=r.one;obtain ⟨p,c,rfl,E,_,rfl,_⟩:=y.gG;refine ⟨p,c,rfl,E,λl u=>q _ _ (ap.ay u) (.ah jk (.inl u) ?_) (qi (ap.refl H) u)⟩
   have key: ∀(c:List (aT×V)),((c.map (·.1)).all λk=>match k with| .inl _=>true| .inr _=>false)=true-> ∀(m:UP) (o:Hp),am K m o (c.map λq=>kV q.1) ((c.map (·.1)).map kD):=by
    intro c
    induction c with
    |nil=>intro _ m o;exact .nil
    |cons q r I=>
     intro h m o;simp only [cY,sQ,dj] at h;obtain ⟨k,v⟩:=q
     cases k with
     |inl i=>exact .cons (.int i) (I h.2 m o)
     |inr z=>cases h.1
   exact key c g _ _
 . cases e
end
section
variable {X:Cx} {e:Expr} {te:TE} {p p2 pos OX:Pos}
def OY:iz "reversed" =some (.type "reversed"):=by decide+kernel
def OZ:iz "list" =some (.type "list"):=by decide+kernel
end
end M
namespace M
open PySem PySem.W PyProof.Rows
structure Ord (lt:Nat->Nat->Bool) (n:Nat):Prop where
 O0: ∀i j,lt i j=true->lt j i=false
 trans: ∀i j k,i<n->j<n->k<n->lt i j=true->lt j k=true->lt i k=true
 total: ∀i j,i<n->j<n->i≠j->lt i j=true\/lt j i=true
section
variable {lt:Nat->Nat->Bool} {n:Nat} (O:Ord lt n)
include O
end
def mT (h:Heap) (d:Addr) (ks:List Value) (c:Nat):Prop:= ∃o a,h.get? d=some o/\o.ExactDict/\o.data= .dict a c/\a.toList.map (·.key)=ks
section
variable {prog:bn} {w:World} {A:bp} {E:UO} {s:az} {d U:Addr} {ks:List Value} {Y i:Nat}
def mT.typeIs (x:mT s.heap d ks Y):s.TypeIs (.ref d) "dict" :=let ⟨o,e,a,c,_⟩:=x;⟨o,a,c.1⟩
def mT.at (x:mT h d ks Y) (e: ∀o,h.get? d=some o->a.get? d=some o):mT a d ks Y:=let ⟨o,c,g,r⟩:=x;⟨o,c,e _ g,r⟩
def mT.lt (x:mT h d ks Y):d<h.objs.size:=let ⟨_,_,a,_⟩:=x;bw a
def O1 (l:(d==hC)=false) (g:mT s.heap d ks Y)
  (m:Q (.ref s.heap.objs.size) {s with heap:=s.heap.push {cls:= .type "dict_keyiterator",data:= .fields #[.ref d,.int 0 0,.int ks.length 0,.int Y 0]}}):wpAny (model prog w) A (pyIter (.ref d)) Q E s:=by
 obtain ⟨o,n,h,p,a,c⟩:=id g;have T:=g.typeIs;have e:n.size=ks.length:=by rw [<-c];simp
 refine wpAny_pyIter_slot T PySem.F.slot_dict_iter (hH PySem.F.slot_dict_iter T PySem.F.entry_dict_iter ?_ (PySem.F.args_dict_iter_1 _));unfold fS.«dict.__iter__» Builtin.Dict.dictSlotNone;refine ak (ak (Ef T (show wpAny _ _ (pure (cX d)) _ _ s from aC ?_)));show wpAny _ _ (Ih d>>=_) _ _ s;unfold Ih;rw [if_neg (by rw [l];exact fq)];refine ak (aC (ak (As h a (ak (r6 h a (ak (hV (aC ⟨_,rfl, "dict_keyiterator",_,⟨_,b0 _ rfl,rfl⟩,Bn.lookup,?_⟩))))))));simpa [dF,e] using m
def O2 (a:s.heap.IsKeyIter U d i ks.length Y) (u:mT s.heap d ks Y) (q:ks[i]?=some k)
  (v: ∀r,r.IsKeyIter U d (i+1) ks.length Y->kx U s.heap r->Q (some k) {s with heap:=r}):wpAny (model prog w) A (hJ (.ref U)) Q E s:=by
 obtain ⟨o,n,x,g⟩:=id a;obtain ⟨H,p,h,y,l,c⟩:=id u;have m:p.size=ks.length:=by rw [<-c];simp
 have bt:i<p.size:=by
  rw [m];rcases Nat.lt_or_ge i ks.length with z|z
  . exact z
  . rw [mv z] at q;cases q
 have B:p[i].key=k:=by
  have:(p.toList.map (·.key))[i]?=some k:=by rw [c];exact q
  rw [c6] at this;simpa [bt] using this
 unfold hJ;refine ak (rG (lX a.typeIs Bn (hH Bn a.typeIs Ii ?_ (Ij _))));refine ak (aC (ak (ak ?_)))
 first|refine ak (De a.typeIs (aC (ak (rH n g ?_))))|refine ak (Df a.typeIs (aC (ak (rH n g ?_))))
 simp only [show Ik "dict_keyiterator" =false by decide,fT,if_false];show wpAny _ _ (if (cX d==mx)=true then _ else _) _ _ s;rw [if_neg (show¬((cX d==mx)=true) by exact fq)];refine ak (aC (ak (As h l ?_)));rw [if_neg (by rw [m];simp)];refine ak (aC (ak (r6 h l ?_)));rw [if_neg (by simp)];refine aC ?_;simp only [show¬((i:Int)<0) by omega,if_false,nN,eQ bt];refine ak ?_
 first|refine ak (De a.typeIs (aC (ak (Fy a.typeIs ?_))))|refine ak (Df a.typeIs (aC (ak (Fy a.typeIs ?_))))
 show wpAny _ _ (setField (.ref U) 1 (dF ((i:Int)+1))>>=_) _ _ s;refine ak (oV n g (by simp) (ak (gl ?_)))
 have e:(s.heap.update U (tH (·.setIfInBounds 1 (dF ((i:Int)+1))))).IsKeyIter U d (i+1) ks.length Y:=
  ⟨_,li _ n (yG (nr g _)),(Bo ..).trans x,by rw [nr g];simp [dF]⟩
 refine ak (Fy e.typeIs ?_);rw [B];exact aC (aC ⟨_,rfl,aC (v _ e (iG ..))⟩)
def O3 (q:A.handled=none) (a:s.heap.IsKeyIter U d i ks.length Y) (r:mT s.heap d ks Y)
  (u: ∀n,Heap.ExtBut U s.heap n->Q none {s with heap:=n}) (x:ks.length<=i:=by exact aS _):wpAny (model prog w) A (hJ (.ref U)) Q E s:=by
 obtain ⟨o,h,y,l⟩:=id a;obtain ⟨z,p,e,v,g,c⟩:=id r;have m:p.size=ks.length:=by rw [<-c];simp
 unfold hJ;refine ak (rG (lX a.typeIs Bn (hH Bn a.typeIs Ii ?_ (Ij _))));refine ak (aC (ak (ak ?_)))
 first|refine ak (De a.typeIs (aC (ak (rH h l ?_))))|refine ak (Df a.typeIs (aC (ak (rH h l ?_))))
 simp only [show Ik "dict_keyiterator" =false by decide,fT,if_false];show wpAny _ _ (if (cX d==mx)=true then _ else _) _ _ s;rw [if_neg (show¬((cX d==mx)=true) by exact fq)];refine ak (aC (ak (As e g ?_)));rw [if_neg (by rw [m];simp)];refine ak (aC (ak (r6 e g ?_)));rw [if_neg (by simp)];refine aC ?_;simp only [show¬(((i:Nat):Int)<0) by omega,if_false,nN,Dg (show p.size<=i by omega)];refine ak ?_
 first|refine ak (De a.typeIs (aC ?_))|refine ak (Df a.typeIs (aC ?_))
 show wpAny _ _ (setField (.ref U) 0 .none>>=_) _ _ s;refine ak (oV h l (by simp) ?_);refine ak ?_;simp only [newExc,newTuple];refine ak (hV (ak (Bp (by first|rfl| (simp;rfl)) (hV ?_ (by size_fits)))) (by size_fits));simp only [raiseNew];refine ak (wpAny_handled ?_);rw [show A.in1.handled=none from q];refine ak (aC (wpAny_throw ?_));refine ak (rX ⟨_,b0 _ rfl,rfl⟩ Bq ?_);exact aC (u _ (((iG ..).extBut.push _).push _))
def O4 (lo:(d==hC)=false):KdlSrc prog w "dict" d d ks.length (λi v=>ks[i]?=some v) (λh=>mT h d ks Y) where
 type:=λ_ a=>a.typeIs
 there:=λ_ a=>⟨a.lt,a.lt⟩
 keep:=λ_ _ a n=>a.at λo e=>n d (.inl rfl) o e
 notList:=by decide
 notTuple:=by decide
 hint:=λ_ _ _ _ a p=>kdl_hint_dict a.typeIs p
 iter:=λA s y a=>⟨_,(λi h=>h.IsKeyIter s.heap.objs.size d i ks.length Y/\mT h d ks Y),(λ_ _ p=>O1 lo a p),{
  sub:=λb c=>by simp at c;simp [c]
  frame:=λ_ _ _ st n=>⟨let ⟨o,B,r⟩:=st.1;⟨o,n _ (by simp) o B,r⟩,st.2.at λo e=>n d (by simp) o e⟩
  item:=λi t Q E H st g=>by
   have x:ks[i]?=some ks[i]:=by simp [H]
   exact O2 st.1 st.2 x λq l m=>g _ q t.toks x ⟨l,st.2.at λo e=>m.extBut d o (cj a.lt) e⟩ λb o c e=>m.extBut b o (λz=>c (by simp [z])) e
  done:=λt Q E st g=>O3 y st.1 st.2 λq u=>g q t.toks λb o c e=>u b o (λz=>c (by simp [z])) e
  self:=λ_ _ _ _ st g=>wpAny_pyIter_keyiter st.1 g},⟨⟨_,b0 _ rfl,rfl,rfl⟩,a.at λo e=>bu _ e⟩⟩
end
abbrev Hd:=Str×Int
def bt (a b:Hd):Bool:=if a.1=b.1 then decide (a.2<b.2) else decide (a.1.cps.toList<b.1.cps.toList)
inductive F2 {α β:Type} (R:α->β->Prop):List α->List β->Prop where
 |nil:F2 R [] []
 |cons {a b as bs}:R a b->F2 R as bs->F2 R (a::as) (b::bs)
theorem F2.length {a c:Type} {R:a->c->Prop}: ∀ {d:List a} {bs:List c},F2 R d bs->d.length=bs.length
 |_,_,.nil=>rfl
 |_,_,.cons _ t=>by simp [t.length]
end M
namespace M
open PySem PySem.Spec L2
open PyProof.Rows hiding St
section
variable {X:Cx}
section
variable {Y U:Type} {R:Y->U->Prop} {a:Y} {b:U} {l:List Y} {n:List U}
def F2.md (r:F2 R l (b::n)): ∃a m,l=a::m/\R a b/\F2 R m n:=by cases r;exact ⟨_,_,rfl,by assumption,by assumption⟩
def F2.eM (r:F2 R l []):l=[]:=by cases r;rfl
def Fz (r:eS R (a::l) n): ∃b m,n=b::m/\R a b/\eS R l m:=by cases r;exact ⟨_,_,rfl,by assumption,by assumption⟩
def FA (r:eS R [] n):n=[]:=by cases r;rfl
end
end
mutual
def cy:D->Option NK
 | .int i=>some (.int i)
 | .str x=>some (.str x)
 | .ar a=>match bQ a with
  |some l=>some (.ar l)
  |none=>none
 | .aV=>none
 | .bl _=>none
 | .ah _=>none
 | .eJ _=>none
 | .aJ _ _=>none
 | .bO _ _=>none
 | .ia _=>none
 | .bG _ _=>none
 | .dS _ _=>none
 | .obj _ _ _=>none
 | .mem _ _=>none
 | .cx _=>none
def bQ:List D->Option (List NK)
 | []=>some []
 |d::a=>match cy d,bQ a with
  |some k,some l=>some (k::l)
  |_,_=>none
end
mutual
def NK.short:NK->Bool
 | .int _=>true
 | .str x=>decide (x.length<=aH)
 | .ar l=>NK.eh l
def NK.eh:List NK->Bool
 | []=>true
 |k::l=>NK.short k&&NK.eh l
end
def zm (h:bQ (d::ds)=some l): ∃k r,l=k::r/\cy d=some k/\bQ ds=some r:=by
 have h:(match cy d,bQ ds with|some k,some l=>some (k::l)|_,_=>none)=some l:=h
 split at h
 . rename_i k r e1 e2;cases h;exact ⟨k,r,rfl,e1,e2⟩
 . cases h
def vf (h:bQ ds=some l):cy (.ar ds)=some (.ar l):=congrArg (λz:Option (List NK)=>match z with|some l=>some (NK.ar l)|none=>none) h
def Yu (h:cy d=some k) (a:bQ ds=some l):bQ (d::ds)=some (k::l):=by
 show (match cy d,bQ ds with|some k,some l=>some (k::l)|_,_=>none)=_;rw [h,a]
section
variable {K:aA} {H:Hp}
def KM (d:D): ∀k,cy d=some k->d.eK=true/\(∀A v,aD K A H v d->dU H k v)/\(k.short=true-> ∀A v,dU H k v->aD K A H v d):=by
 refine D.ind (P:=λd=> ∀k,cy d=some k->d.eK=true/\(∀A v,aD K A H v d->dU H k v)/\(k.short=true-> ∀A v,dU H k v->aD K A H v d)) ?_ ?_ ?_ ?_ ?_ ?_ ?_ ⟨?_,?_,?_,?_,?_,?_,?_,?_⟩ d
 case refine_3=>
  intro i k h;cases h;exact ⟨rfl,λA v r=>by simp only [dU];exact r.cb,λ_ A v x=>by simp only [dU] at x;subst x;exact .int i⟩
 case refine_4=>
  intro z k h;cases h;exact ⟨rfl,λA v r=>by simp only [dU];exact r.lC.1,λs A v x=>by simp only [dU] at x;subst x;exact .str z (by simpa [NK.short] using s)⟩
 case refine_5=>
  intro c E k h
  have go: ∀(c:List D) (l:List NK),(∀d∈c,∀k,cy d=some k->d.eK=true/\(∀A v,aD K A H v d->dU H k v)/\(k.short=true-> ∀A v,dU H k v->aD K A H v d))->bQ c=some l->
     D.bC c=true/\(∀A g,am K A H g c->dn H l g)/\(NK.eh l=true-> ∀A g,dn H l g->am K A H g c):=by
   intro c
   induction c with
   |nil=>
     intro l _ h;cases h;exact ⟨rfl,λA g r=>by cases r;simp only [dn],λ_ A g x=>by simp only [dn] at x;subst x;exact .nil⟩
   |cons d c m=>
     intro l f h;obtain ⟨k,r,rfl,e1,e2⟩:=zm h;obtain ⟨I,J,L⟩:=f d ci k e1;obtain ⟨n,o,p⟩:=m r (λq N=>f q (cv _ N)) e2;refine ⟨by simp [D.bC,I,n],λA g r=>?_,λs A g x=>?_⟩
     . cases r with
       |cons O Q=>simp only [dn];exact ⟨_,_,rfl,J _ _ O,o _ _ Q⟩
     . simp only [dn] at x;simp only [NK.eh,dj] at s;obtain ⟨u,U,rfl,Y,h2⟩:=x;exact .cons (L s.1 A u Y) (p s.2 A U h2)
  have h:(match bQ c with|some l=>some (NK.ar l)|none=>none)=some k:=h
  cases e:bQ c with
  |some l=>
   rw [e] at h;cases h;obtain ⟨n,o,p⟩:=go c l E e;refine ⟨n,λA v r=>?_,λs A v x=>?_⟩
   . obtain ⟨a,w,rfl,B,rs⟩:=r.dL;simp only [dU];exact ⟨a,w,rfl,B,o _ _ rs⟩
   . simp only [dU] at x;obtain ⟨a,w,rfl,B,y⟩:=x;exact .ar B (p (by simpa only [NK.short] using s) A w y)
  |none=>rw [e] at h;cases h
 all_goals
  intros
  rename_i h;cases h
end
def bh (d:D):Option NK:=match cy d with
 |some k=>if k.ca<=8/\k.nE=true then some k else none
 |none=>none
def gj (ks:List NK) (k:NK):Bool:=ks.any λx=>decide (x=k)
def QN (ks:List NK) (k:NK):List NK:=if gj ks k=true then ks else ks++[k]
def X8 (ks:List NK) (ds:List D) (k:NK) (d:D):List D:=if gj ks k=true then (ks.zip ds).map (λp=>if p.1=k then d else p.2) else ds++[d]
section
variable {K:aA} {A:UP} {H:Hp}
def Z8 (h:bh d=some k):cy d=some k/\k.ca<=8/\k.nE=true:=by
 unfold bh at h
 split at h
 . rename_i l e
   split at h
   . cases h;exact ⟨e,by assumption⟩
   . cases h
 . cases h
def wg (r:aD K A H y d) (h:bh d=some k):TK H k y:=let ⟨e,a⟩:=Z8 h;⟨(KM (K:=K) (H:=H) _ _ e).2.1 A y r,a⟩
def Vl (a:List (NK×V)) (k:NK):(a.any λc=>decide (c.1=k))=gj (a.map (·.1)) k:=by
 unfold gj;rw [List.any_map];rfl
theorem W7 (k:NK) (g:aD K A H v d): ∀ {a:List (NK×V)} {ds:List D},am K A H (a.map (·.2)) ds->am K A H ((a.map (λc=>if c.1=k then (c.1,v) else c)).map (·.2)) (((a.map (·.1)).zip ds).map (λp=>if p.1=k then d else p.2))
 | [],_,r=>by cases r.eM;exact .nil
 | (i,n)::a,_,r=>by
  obtain ⟨_,_,rfl,l,m⟩:=r.cq;have h:=W7 k g m
  by_cases e:i=k
  . simp only [cY,oU,e,if_true];exact .cons g (by simpa [e] using h)
  . simp only [cY,oU,e,if_false];exact .cons l h
def Ki (k:NK) (r:am K A H (a.map (·.2)) ds) (c:aD K A H v d):
   (putK a k v).map (·.1)=QN (a.map (·.1)) k/\am K A H ((putK a k v).map (·.2)) (X8 (a.map (·.1)) ds k d):=by
 unfold putK QN X8;rw [Vl]
 by_cases h:gj (a.map (·.1)) k=true
 . rw [if_pos h,if_pos h,if_pos h];refine ⟨?_,W7 k c r⟩;rw [iI];apply lK;intro p _;simp
   split<;>rfl
 . rw [if_neg h,if_neg h,if_neg h];refine ⟨by simp,?_⟩;rw [iH];exact r.append (.cons c .nil)
def aD.tJ (r:aD K A H v (.bO ks ds)): ∃a d,v= .ref a/\H a=some (.dT d)/\A a/\d.map (·.1)=ks/\am K (λc=>A c/\c≠a) H (d.map (·.2)) ds:=r.f
end
def O5 {K:aA} {i:Nat} (k:au K G o env d H) (g:env[i]?=some (.ag (.bO ks ds))): ∃a c,d[i]?=some (some (.ref a))/\H a=some (.dT c)/\c.map (·.1)=ks/\am K (Sf G env d) H (c.map (·.2)) ds:=by
 obtain ⟨a,h,p,l⟩:=k.ag i _ g
 cases l with
 |bO e m n r=>subst n;exact ⟨a,_,h,e,m,r⟩
section
variable {X:Cx} {K:aA} {l1 l2:Lv} {e1 e2:Expr} {fk fv:T5} {O fL apos p:Pos} {x:Str}
def Il:Sl->aq D:=λ_=> .ok (.bO [] [])
def uB:DE X .t (.Dict [] [] O) Il:=by
 nomatch (PE.imp Kq λg H Q=>by
  rintro ⟨G,h,c,d,k,e,q⟩;cases e
  exact λp a=>q _ _ (ap.ay a) (.bO jk (k.new p a) rfl rfl .nil) (qi (ap.refl H) a))
def oM (a:Hd):D:= .ar [.str a.1,.int a.2]
end
section
variable {prog:bn} {w:World} {A:bp} {E:UO} {s:az}
theorem Y5: ∀ {c:List Int} {g:List Value},aI (c.map V.int) g->g.length=c.length/\ ∀i v,g[i]?=some v-> ∃t,v=m7 (c.getD i 0) t
 | [],_,.nil=>⟨rfl,λi v h=>by cases h⟩
 |i::c,_,.cons h t=>by
  obtain ⟨a,b⟩:=Y5 t;refine ⟨by simp [a],λj v d=>?_⟩
  cases j with
  |zero=>
   simp at d;subst d;obtain ⟨t,e⟩:=h;exact ⟨t,by rw [e];rfl⟩
  |succ j=>simp at d;simpa using b j v d
end
open PySem.SeqAt
section
variable {X:Cx} {K:aA}
theorem UU {A:UP} {H:Hp}: ∀ {g:List V} {ds:List D} {e:List Value},am K A H g ds->aI g e->e.length=ds.length/\ ∀(i:Nat) (u:Value),e[i]?=some u-> ∃x d,ds[i]?=some d/\aE x u/\aD K A H x d
 |_,_,_,.nil,.nil=>⟨rfl,λi u h=>by cases h⟩
 |_,_,_,.cons r t,.cons h l=>by
  obtain ⟨a,b⟩:=UU t l;refine ⟨by simp [a],λi u c=>?_⟩
  cases i with
  |zero=>simp at c;subst c;exact ⟨_,_,rfl,h,r⟩
  |succ i=>simp at c;simpa using b i u c
def rJ (ds:List D) (d:D):Bool:=ds.any λy=>ck y d
def Br (K:aA) (neg:Bool):R2:=λx y H Q=> ∃p c a d,y= .ref p/\c9 K H p c/\am K Any H c a/\aD K Any H x d/\(D.bE a=true/\D.cA d=true/\D.bI a<=190)/\Q (.bl (if neg then !rJ a d else rJ a d)) H
open Classical in
theorem O6 {n:List (Addr×Obj)} {s:az} {N:L2.St} {H:Hp} (I:aw X n N H s) (hu:X.A.units+200<cLine) {a:List Value} {w:List V} {ds:List D} {x:V} {v:Value} {d:D} (O:aE x v) (Q:am X.K Any H w ds) (U:aI w a) (r:aD X.K Any H x d)
   (B:D.bE ds=true/\D.cA d=true/\D.bI ds<=190): ∃e:Value->Bool,(∀y,y∈a.toArray->EqAt X.A.in1 s y v (e y))/\a.toArray.any e=rJ ds d:=by
 obtain ⟨Y,o⟩:=UU Q U;refine ⟨λy=>decide (∃(i:Nat) (c:D),a[i]?=some y/\ds[i]?=some c/\ck c d=true),λy hy=>?_,?_⟩
 . have key: ∀(i:Nat) (c:D),a[i]?=some y->ds[i]?=some c->EqAt X.A.in1 s y v (ck c d):=λi c q l=>by
     obtain ⟨E,p,g,J,L⟩:=o i y q;rw [l] at g;cases g;have u:=gt l;have LV:=xM u
     exact JH I c X.A.in1 E x y v d (by
      show X.A.units+1+c.ca<cLine
      omega) L J r O (yH B.1 u) B.2.1
   dsimp only
   by_cases h: ∃(i:Nat) (c:D),a[i]?=some y/\ds[i]?=some c/\ck c d=true
   . obtain ⟨i,c,q,l,g⟩:=h;have:=key i c q l;rw [g] at this;rw [decide_eq_true (show∃(i:Nat) (c:D),a[i]?=some y/\ds[i]?=some c/\ck c d=true from ⟨i,c,q,l,g⟩)];exact this
   . rw [decide_eq_false h];obtain ⟨i,m⟩:=oE.mp (show y∈a by simpa using hy);obtain ⟨E,p,g,J,L⟩:=o i y m;have:=key i p m g
     have e:ck p d=false:=by
      cases z:ck p d with
      |false=>rfl
      |true=>exact absurd ⟨i,p,m,g,z⟩ h
     rw [e] at this;exact this
 . rw [Cn];unfold rJ;rw [qH];simp only [List.any_toArray,qH,decide_eq_true_eq]
   constructor
   . rintro ⟨y,_,i,c,_,l,g⟩;exact ⟨c,gt l,g⟩
   . rintro ⟨c,u,g⟩;obtain ⟨i,m⟩:=oE.mp u
     have bt:i<a.length:=by
      rw [Y];exact (c7.mp m).1
     exact ⟨a[i],mu bt,i,c,cZ bt,m,g⟩
def O7 (c:X.A.units+200<cLine):dc X (lj .In) (Br X.K false):=by
 intro a s J H x y v u Q I g i h;obtain ⟨p,L,N,d,rfl,l,m,r,n,q⟩:=h;cases i;obtain ⟨o,w,z,O⟩:=I.list l;obtain ⟨e,B,E⟩:=O6 I c g m w r n;refine SeqAt.in_listAt e z.isList B ⟨.bl _,H,I,rfl,?_⟩;rw [E];exact q
def pQ (neg:Bool):D->D->aq D
 |d,.ah a=>aK (D.bE a=true/\D.cA d=true/\D.bI a<=190) (.ok (.bl (if neg then !rJ a d else rJ a d)))
 |_,_=> .aj
def O8 (neg:Bool):gn K (Br K neg) (pQ neg):=by
 intro x y H a b d Q c g e q;unfold pQ at e
 split at e
 . obtain ⟨h,e2⟩:=jl e;cases e2;obtain ⟨p,i,rfl,l,_,m⟩:=g.cP;exact ⟨p,i,_,_,rfl,.of l,m.aG (λ_ _=>trivial),c,h,q _ (me _)⟩
 . cases e
end
end M
namespace M
open PySem PySem.Spec L2
open PyProof.Rows hiding St
def XJ:iz "sorted" =some (.builtin "sorted"):=by decide+kernel
section
variable {X:Cx} {id:String} {r:List V->Hp->VK->Prop} {g:TY} {x:Str} {p Y:Pos} {e:Expr} {U:List Expr} {Q:TZ}
def xN (d:bi X (.builtin id) r) (i:QJ X.K r g) (l:Gl X x) (m:X.mg x=none) (n:iz x=some (.builtin id))
   (o:DA X .s (e::U) Q) (q:x≠ "__name__" :=by decide) (a:ZH x:=by decide)
   (u:T9 X e U:=by exact jm rfl) (c:T8 X Y U:=by exact jK rfl):DE X .t (.Call (.Name x p) (e::U) [] Y) (app Q g):=by
 nomatch (
  PE.imp (yx d l m n o q a u c) λ_ _ _ h=>HK i h)
def uC (d:bi X (.builtin id) r) (i:QJ X.K r g) (l:Gl X x) (m:X.mg x=none) (n:iz x=some (.builtin id))
   (o:DA X .b (e::U) Q) (q:x≠ "__name__" :=by decide) (a:ZH x:=by decide)
   (u:T9 X e U:=by exact jm rfl) (c:T8 X Y U:=by exact jK rfl):DE X .b (.Call (.Name x p) (e::U) [] Y) (app Q g):=by
 nomatch (
  PE.imp (yx d l m n o q a u c) λ_ _ _ h=>NL i h)
variable {ex:Expr} {t:T4}
end
end M
namespace M
open PySem PySem.Spec L2
mutual
def ce:D->List Int
 | .int i=>[i]
 | .ar (_::a)=>fP a
 |_=>[]
def fP:List D->List Int
 | []=>[]
 |d::r=>ce d++fP r
end
mutual
def bare:D->D
 | .ar (x::a)=> .ar (x::rK a)
 |_=> .int 0
def rK:List D->List D
 | []=>[]
 |d::r=>bare d::rK r
end
theorem zX: ∀a,fP a=a.flatMap ce
 | []=>rfl
 |d::r=>by simp [fP,zX r]
def YS (a:t∈c) (d:b∈ce t):b∈fP c:=by
 rw [zX];exact tF.mpr ⟨t,a,d⟩
theorem Qo: ∀ {a:List D},(∀t∈a,D.cA t=true)->D.bE a=true
 | [],_=>rfl
 |x::r,h=>by simp only [D.bE,dj];exact ⟨h x (by simp),Qo λd c=>h d (by simp [c])⟩
theorem Qu: ∀ {ts:List D},(∀t∈ts,D.ca t<=k)->D.bI ts<=k
 | [],_=>by simp [D.bI]
 |x::r,h=>by
  simp only [D.bI];have:=h x (by simp);have:=Qu (ts:=r) λd a=>h d (by simp [a])
  omega
theorem Qp: ∀ {a:List D},(∀t∈a,ck t t=true)->bV a a=true
 | [],_=>by simp [bV]
 |x::r,h=>by simp only [bV,dj];exact ⟨h x (by simp),Qp λd c=>h d (by simp [c])⟩
def ins (l:List Int) (x:Int):List Int:=if x∈l then l else l++[x]
def met (l a:List Int):List Int:=a.foldl ins l
def KD (l:List Int) (x:Int) (a:List Int):met l (x::a)=met (ins l x) a:=rfl
def mi:y∈ins l x↔y∈l\/y=x:=by
 unfold ins
 split
 . rename_i h;exact ⟨.inl,λz=>z.elim id λe=>by rw [e];exact h⟩
 . simp
theorem fY: ∀ {a l:List Int} {y:Int},y∈met l a↔y∈l\/y∈a
 | [],l,y=>by simp [met]
 |x::a,l,y=>by
  rw [KD,fY,mi];simp only [bH,or_assoc]
def gv (n:Nat):List Int->List D
 | []=>[]
 |_::r=> .int n::gv (n+1) r
def aO (l:List Int):List aT:=l.map o8
def Wg (l:List Int) (x:Int):iY (aO l) (.inl x)=decide (x∈l):=by
 induction l with
 |nil=>rfl
 |cons a l c=>
  unfold iY aO at c ⊢;rw [cY,sK,c]
  by_cases h:a=x
  . subst h;simp
  . have:x≠a:=λe=>h e.symm
    simp [h,this]
def yY (l:List Int):(aO l).length=l.length:=by simp [aO]
mutual
def tk (a:List Str):D->Bool
 | .int _=>true
 | .ar (.str z::c)=>decide (z∈a)&&(decide (c.length<=9)&&rL a c)
 |_=>false
def rL (a:List Str):List D->Bool
 | []=>true
 |d::r=>tk a d&&rL a r
end
section
variable {ns:List Str}
mutual
theorem qD {P:D->Prop} (c: ∀i,P (.int i)) (d: ∀z a,z∈ns->a.length<=9->(∀t∈a,tk ns t=true/\P t)->P (.ar (.str z::a))): ∀t,tk ns t=true->P t
 | .int i,_=>c i
 | .ar (x::a),h=>by
  cases x with
  |str z=>
   simp only [tk,dj,decide_eq_true_eq] at h;exact d z a h.1 h.2.1 (mj c d a h.2.2)
  |_=>simp [tk] at h
 | .ar [],h=>by simp [tk] at h
 | .aV,h=>by simp [tk] at h
 | .bl _,h=>by simp [tk] at h
 | .str _,h=>by simp [tk] at h
 | .ah _,h=>by simp [tk] at h
 | .eJ _,h=>by simp [tk] at h
 | .aJ _ _,h=>by simp [tk] at h
 | .bO _ _,h=>by simp [tk] at h
 | .ia _,h=>by simp [tk] at h
 | .bG _ _,h=>by simp [tk] at h
 | .dS _ _,h=>by simp [tk] at h
 | .obj _ _ _,h=>by simp [tk] at h
 | .mem _ _,h=>by simp [tk] at h
 | .cx _,h=>by simp [tk] at h
theorem mj {P:D->Prop} (l: ∀i,P (.int i)) (m: ∀z c,z∈ns->c.length<=9->(∀t∈c,tk ns t=true/\P t)->P (.ar (.str z::c))): ∀c,rL ns c=true-> ∀t∈c,tk ns t=true/\P t
 | [],_,t,g=>by cases g
 |d::r,h,t,g=>by
  simp only [rL,dj] at h;have a:=qD l m d h.1;have b:=mj l m r h.2;rcases bH.mp g with e|e
  . rw [e];exact ⟨h.1,a⟩
  . exact b t e
end
theorem Im: ∀ {a:List D},(∀t∈a,tk ns t=true)->rL ns a=true
 | [],_=>rfl
 |x::r,h=>by simp only [rL,dj];exact ⟨h x (by simp),Im λd c=>h d (by simp [c])⟩
theorem Uz: ∀ {a:List D} {t:D},rL ns a=true->t∈a->tk ns t=true
 |x::r,t,h,ht=>by
  simp only [rL,dj] at h;rcases bH.mp ht with rfl|ht
  . exact h.1
  . exact Uz h.2 ht
def Vt (c:z∈ns) (h:a.length<=9) (d: ∀t∈a,tk ns t=true):tk ns (.ar (.str z::a))=true:=by
 simp only [tk,dj,decide_eq_true_eq];exact ⟨c,h,Im d⟩
def jy (h:tk ns t=true):(∃i,t= .int i)\/ ∃z a,t= .ar (.str z::a)/\z∈ns/\a.length<=9/\ ∀u∈a,tk ns u=true:=by
 cases t with
 |int i=>exact .inl ⟨i,rfl⟩
 |ar c=>
  cases c with
  |nil=>simp [tk] at h
  |cons x a=>
   cases x with
   |str z=>
    simp only [tk,dj,decide_eq_true_eq] at h;exact .inr ⟨z,a,rfl,h.1,h.2.1,λu d=>Uz h.2.2 d⟩
   |_=>simp [tk] at h
 |_=>simp [tk] at h
def Ql: ∀t,tk ns t=true->iq t=true:=qD (λi=>rfl) λz c _ d h=>by
 simp only [iq,b8,dj,decide_eq_true_eq,b9,true_and];exact ⟨by omega,Wm λt a=>(h t a).2⟩
def Qg: ∀t,tk ns t=true->t.eK=true:=qD (λi=>rfl) λz a _ d h=>by
 show (true&&D.bC a)=true;rw [Bool.true_and];exact eN.mpr λt c=>(h t c).2
def UZ: ∀t,tk ns t=true-> ∀p∈aZ t,tk ns p=true:=qD (λi=>by simp [aZ,tk]) λz u m n h=>by
 simp only [aZ];intro p o;rcases bH.mp o with e|e
 . rw [e];exact Vt m n λt g=>(h t g).1
 . have a: ∀c:List D,ee c=c.flatMap aZ:=λc=>by
    induction c with
    |nil=>rfl
    |cons d r q=>simp [ee,q]
   rw [a] at e;obtain ⟨t,g,l⟩:=tF.mp e;exact (h t g).2 p l
def eO:List D->List Int
 | []=>[]
 | .int i::r=>i::eO r
 |_::r=>eO r
theorem KU: ∀a:List D,(eO a).length<=a.length
 | []=>by simp [eO]
 |d::r=>by
  have c:=KU r;cases d<;>simp [eO]<;>omega
theorem zS {c:Type} [BEq c] [LawfulBEq c]: ∀ {l m:List c},l.Nodup->(∀x∈l,x∈m)->l.length<=m.length
 | [],m,_,_=>by simp
 |a::l,m,h,g=>by
  have i:=oF.mp h;have n:=g a (by simp)
  have:=zS (m:=m.erase a) i.2 λx d=>by
   refine (List.mem_erase_of_ne λe=>?_).mpr (g x (by simp [d]));rw [e] at d;exact i.1 d
  rw [List.length_erase_of_mem n] at this;have o:=List.length_pos_of_mem n;simp;omega
end
open PyProof.Rows hiding St
def q5:iz "divmod" =some (.builtin "divmod"):=by decide+kernel
def zV:List D->aq D
 | [.int i,.int j]=>aK (0<j/\j<1073741824) (.ok (.ar [.int (i/j),.int (i%j)]))
 |_=> .aj
def wC {K:aA}:QJ K (λa H Q=> ∃i j,a=[.int i,.int j]/\pd i j/\ ∀p,H p=none->Q (.ref p) (ay H p (.ar [.int (i/j),.int (i%j)]))) zV:=by
 intro A a H m d Q r e q;unfold zV at e
 split at e
 . obtain ⟨g,e2⟩:=jl e;cases e2;obtain ⟨v,n,rfl,h,l⟩:=r.av;cases h.cb;cases l.cb;exact ⟨_,_,rfl,g,λp c=>q _ _ (ap.ay c) (.ar jk (.cons (.int _) (.cons (.int _) .nil))) (qi (ap.refl H) c)⟩
 . cases e
section
variable {X:Cx} {Q:List (Addr×Obj)} {N:L2.St} {H:Hp} {s:az}
def wQ (I:aw X Q N H s) (k: ∀b o,b≠d->b≠g->s.heap.get? b=some o->i.get? b=some o) (B:cC X Q H d) (E:cC X Q H g):aw X Q N H {s with heap:=i,toks:=t'}:=by
 obtain ⟨J,l,_,L,O,U⟩:=B;obtain ⟨Y,p,_,b3,b4,b5⟩:=E;have w: ∀b u,H b=some u->b≠d:=λb u e z=>by rw [z,J] at e;cases e
 have x: ∀b u,H b=some u->b≠g:=λb u e z=>by rw [z,Y] at e;cases e
 have h: ∀b o,b∉[d,g]->s.heap.get? b=some o->i.get? b=some o:=λb o a e=>k b o (λz=>a (by simp [z])) (λz=>a (by simp [z])) e
 refine I.step (λb y=>?_) (λb o _ _ a e _=>h b o a e) (λb o _ _ a e _=>⟨o.slots,h b o a e⟩) (λ_ _ _ _ n=>n)
   (λb o a e=>⟨o,h b o a e⟩) (λ_ _ e=>e) (λ_ _ _ e=>e) (λb ps e=>⟨#[],by rw [e];simp⟩) (λm hm=>?_) (λb u e=>?_) I.bare
 . simp at y;rcases y with rfl|rfl
   . exact ⟨L,l,O,U⟩
   . exact ⟨b3,p,b4,b5⟩
 . obtain ⟨o,es,ep,ho,r⟩:=hm;exact ⟨o,es,ep,k _ o (fH l) (fH p) ho,r⟩
 . refine (I.aM b u e).aP (λc v a q=>k c v ?_ ?_ q) (λ_ q=>q) λ_ _ q=>q
   . rcases a with z|z
     . rw [z];exact w b u e
     . exact w c _ z
   . rcases a with z|z
     . rw [z];exact x b u e
     . exact x c _ z
end
def O9 (K:aA) (a:Addr) (c:List V):It:=⟨λi H=>c9 K H a c/\i<c.length,λi H v d=> ∃p x,H p=none/\c[i]?=some x/\v= .ref p/\d=ay H p (.ar [.int (i:Int),x]),λi H=>c9 K H a c/\c.length<=i⟩
def Ux {K:aA} (a l e:Addr) (xs:List V) (J:e≠l):Turn P w K (.Tuple elts n pos) (O9 K a xs) [e,l] e (λi h=>(∃d,IsEnum h e l (i:Int) d)/\h.IsListIter l a i) where
 mem:=by simp
 obj:=λi h st b q=>by
  obtain ⟨⟨d,m⟩,o,ho,hc,hd⟩:=st;simp at q;rcases q with rfl|rfl
  . exact ⟨_,m,λv z=>by cases z⟩
  . exact ⟨o,ho,λv z=>by rw [hd] at z;cases z⟩
 keep:=λi h h' st k=>by
  obtain ⟨⟨d,m⟩,g⟩:=st;exact ⟨⟨d,k e (by simp) _ m⟩,g.at λo x=>k l (by simp) o x⟩
 item:=by
  intro X hP hw hK hc i c s σ H E I L st hg;subst hP hw hK;obtain ⟨hq,hi⟩:=hg;obtain ⟨mM,rv,p,hz⟩:=I.list hq;have hx:=cZ hi;obtain ⟨u,hu,ru⟩:=rv.get hx;obtain ⟨⟨d,m⟩,g⟩:=st;have fe:=L e (by simp);have fi:=L l (by simp);refine wpAny_pyNext_enum_item m g p.isList (by simpa using hu) J λh' ho N hT nF hk=>?_
  refine ⟨_,rfl,wpAny_letOwnedTupleGo_enum ho λmO Bs O=>?_⟩;have Q:=bw m;have U:l<s.heap.objs.size:=by obtain ⟨_,x,_⟩:=g;exact bw x
  have sX:=I.aM.fresh (aS _)
  have I1:aw X c σ (ay H s.heap.objs.size (.ar [.int (i:Int),xs[i]])) {s with heap:=s.heap.push {cls:= .type "tuple",data:= .seq #[.int i s.toks,u]}}:=
    I.laid (λb o e=>bu _ e) (aS _) ⟨bZ (show 2<=20 by decide) (by decide),[.int i s.toks,u],.cons ⟨_,rfl⟩ (.cons ru .nil),⟨_,b0 _ rfl,rfl,_,rfl⟩⟩
  have Y:cC X c (ay H s.heap.objs.size (.ar [.int (i:Int),xs[i]])) e:=⟨by rw [jp (cj Q)];exact fe.1,fe.2⟩
  have Bt:cC X c (ay H s.heap.objs.size (.ar [.int (i:Int),xs[i]])) l:=⟨by rw [jp (cj U)];exact fi.1,fi.2⟩
  have I2:=wQ (t':=s.toks+1) I1 (λb o r B eo=>by
    refine (O.2 b r).trans ?_
    by_cases q:b=s.heap.objs.size
    . subst q;rw [b0 _ rfl] at eo;rw [<-eo];exact hT
    . have FC:s.heap.get? b=some o:=by
       rcases Heap.get?_push_cases eo with ⟨z,_⟩|z
       . exact absurd z q
       . exact z
      exact hk b o r B FC) Y Bt
  refine ⟨.ref s.heap.objs.size,_,I2,rfl,⟨_,_,sX,hx,rfl,rfl⟩,⟨⟨_,by simpa using Bs⟩,N.at λo y=>(O.2 l J.symm).trans y⟩,λb q=>?_⟩;simp at q;rcases q with rfl|rfl
  . exact Y.1
  . exact Bt.1
 done:=by
  intro X hP hw hK hc i c s σ H E I L st hg;subst hP hw hK;obtain ⟨hq,hi⟩:=hg;obtain ⟨mM,rv,p,hz⟩:=I.list hq;obtain ⟨⟨d,m⟩,g⟩:=st;have hl:=rv.length;refine wpAny_pyNext_enum_end (I.ok.hd hc) m g p.isList (by simp;omega) λh' eb=>⟨rfl,wQ I (λb o r B eo=>eb b o B eo) (L e (by simp)) (L l (by simp))⟩
 self:=λ_ _ _ _ _ st h=>let ⟨⟨_,m⟩,_⟩:=st;Dh m h
section
variable {X:Cx} {U:List Expr} {n:Nat} {Y p O:Pos} {e:Expr} {f:T5}
def jX:Nat->List D->List D
 |_,[]=>[]
 |k,d::r=> .ar [.int (k:Int),d]::jX (k+1) r
theorem JV: ∀(k:Nat) (ds:List D),(jX k ds).length=ds.length
 |_,[]=>rfl
 |k,d::r=>by simp [jX,JV (k+1) r]
theorem JW: ∀(k i:Nat) (ds:List D),(jX k ds)[i]?=(ds[i]?).map λd=> .ar [.int ((k+i:Nat):Int),d]
 |k,i,[]=>by simp [jX]
 |k,0,d::r=>by simp [jX]
 |k,i+1,d::r=>by
  simp only [jX,rM];rw [JW (k+1) i r];congr 1;funext d;congr 3;omega
def vW (f:T5):Sl->aq (List D):=λa=>f a>>=λd=>match d with
 | .ah c=> .ok (jX 0 c)
 | .eJ c=> .ok (jX 0 c)
 |_=> .aj
def Pa (hg:Gl X "enumerate") (hm:X.mg "enumerate" =none) (h:DE X .s e f) (hs:bj [e] X.env=[(false,eval e X.env)]:=by rfl):DI X (.Tuple U n Y) (.Call (.Name "enumerate" p) [e] [] O) (vW f):=by
 have hE:PE X e (tE X.K .s f):=by nomatch h
 nomatch (show PI X (.Tuple U n Y) (.Call (.Name "enumerate" p) [e] [] O) (tI X.K (vW f)) from by
  rintro g s L H R I ⟨G,H0,c,ds,k,ef,q⟩;obtain ⟨d,e1,e2⟩:=ja ef
  have hA:PA X [e] (tA X.K .s λc=>f c>>=λd=> .ok [d]):=by
   have:=qc hE zC hs;rintro ps g s L H Q I ⟨G,H0,c,ds,k,ef,q⟩;obtain ⟨d,c1,c2⟩:=ja ef;cases c2;exact this ps g s L H Q I ⟨G,H0,c,d,k,c1,λv m l r1 _=>q [v] m l (.cons r1 .nil)⟩
  refine Call_ (yD I hg hm boot_enumerate (sq (a9 (hA O g s L H (λvs m=> ∃v,vs=[v]/\ap H m/\aD X.K (Sf G c L) m v d) I ⟨G,H0,c,[d],k,by show (f c>>=_)=_;rw [e1];rfl,λvs m l r1=>by obtain ⟨v,rfl,r⟩:=r1.one;exact ⟨v,rfl,l,r⟩⟩) λus l ⟨vs,m,I1,r1,v,ev,sm,rep⟩=>?_) hs rfl));subst ev;obtain ⟨u,rfl,ru⟩:=x3 r1;have k1:=k.ao sm
  have J: ∀(a:Addr) (B:List V) (N:List D) (P:Hp->Prop),u= .ref a->c9 X.K m a B->am X.K (Sf G c L) m B N->ds=jX 0 N->P m->(∀w,P w->c9 X.K w a B)->(∀E ic w,bg c L m E ic w->P w)->wpAny (model X.prog X.w) X.A (call (.type "enumerate") [u]) (λv l=>wpAny (model X.prog X.w) X.A (pyIter v) (Ey X g L (.Tuple U n Y) R) X.xe l) X.xe l:=by
   intro a B N P eu hq rs Pb p0 pq sS;subst eu;obtain ⟨mM,rv,pl,hz⟩:=I1.list hq;refine call_enumerate_list pl.isList λh' he hit nF hk=>Dh he ?_
   have I2:=I1.kept (t':=l.toks) hk;refine ⟨l.heap.objs.size+1,[l.heap.objs.size+1,l.heap.objs.size],_,_,m,rfl,I2,Ux a l.heap.objs.size (l.heap.objs.size+1) B (Nat.succ_ne_self _),⟨⟨_,he⟩,hit⟩,λb hb=>?_,?_⟩
   . simp at hb;rcases hb with rfl|rfl
     . exact I1.dW (ly _) (I1.aM.fresh (ly _))
     . exact I1.dW (aS _) (I1.aM.fresh (aS _))
   . refine q _ m P sm (λi w pp=>?_) p0 sS;have hl:=rs.length;subst Pb;rw [JV];refine ⟨λhi=>⟨pq w pp,by omega⟩,λd hd x H2 y=>?_,λhi=>⟨pq w pp,by omega⟩⟩;obtain ⟨p,x',hp,gQ,rfl,rfl⟩:=y;obtain ⟨d',Bu,rd⟩:=rs.get' gQ;rw [JW,Bu] at hd;cases hd;exact .inr ⟨p,_,_,hp,rfl,rfl,rfl,.cons (by rw [Di];exact .int _) (.cons rd .nil)⟩
  cases d with
  |ah N=>
   cases e2;obtain ⟨a,B,rfl,ha,na,rs⟩:=rep.cP;exact J a B N (λH=>H a=some (.ah B)) ru (.of ha) rs.low rfl ha (λw z=> .of z) λE ic w fr=>fr.keep a _ ha na.1
  |eJ N=>
   cases e2;obtain ⟨a,B,rfl,ha,rs⟩:=rep.lB;refine J a B N (λH=>nO X.K H a B) ru ha.np rs rfl ha (λw z=>z.np) λE ic w fr=>?_
   rcases ha with ⟨o,eo⟩|z
   . exact .inl ⟨o,fr.keep a _ eo λow=>(k1.lD ow eo).elim⟩
   . exact .inr z
  |_=>cases e2)
end
end M
namespace M
open PySem PySem.Spec L2
open Classical in
noncomputable instance Pc:DecidableEq D:=λa b=>propDecidable (a=b)
mutual
def nb:D->Bool
 | .int _=>true
 | .str _=>true
 | .ar a=>tK a
 |_=>false
def tK:List D->Bool
 | []=>true
 |d::r=>nb d&&tK r
end
theorem Io: ∀ {ds:List D},(∀d∈ds,nb d=true)->tK ds=true
 | [],_=>rfl
 |x::r,h=>by simp only [tK,dj];exact ⟨h x (by simp),Io λd a=>h d (by simp [a])⟩
def Ip (a:D):Prop:=nb a=true-> ∀b,nb b=true->(ck a b=true↔a=b)
theorem K6: ∀ {c:List D},(∀a∈c,Ip a)->tK c=true-> ∀bs,tK bs=true->(bV c bs=true↔c=bs)
 | [],_,_,[],_=>by simp [bV]
 | [],_,_,b::bs,_=>by simp [bV]
 |a::c,_,_,[],_=>by simp [bV]
 |a::c,h,d,b::bs,e=>by
  simp only [tK,dj] at d e;simp only [bV,dj,Al];rw [h a (by simp) d.1 b e.1,K6 (λx g=>h x (by simp [g])) d.2 bs e.2]
def YG (a:D):Ip a:=by
 refine D.ind ?_ ?_ ?_ ?_ ?_ ?_ ?_ ?_ a
 . intro h;simp [nb] at h
 . intro b h;simp [nb] at h
 . intro i _ b e;cases b<;>first| (simp [nb] at e;done)|simp [YF]
 . intro x _ b e;cases b<;>first| (simp [nb] at e;done)|simp [YF]
 . intro d g l b e
   cases b with
   |ar m=>
    simp;exact K6 g (by simpa only [nb] using l) m (by simpa only [nb] using e)
   |int i=>simp [YF]
   |str x=>simp [YF]
   |_=>simp [nb] at e
 . intro d _ h;simp [nb] at h
 . intro d _ h;simp [nb] at h
 . exact ⟨λks d _ h=>by simp [nb] at h,λks d _ h=>by simp [nb] at h,λc h=>by simp [nb] at h,λks d _ h=>by simp [nb] at h,λks d _ h=>by simp [nb] at h,λc n d _ h=>by simp [nb] at h,λB o h=>by simp [nb] at h,λd h=>by simp [nb] at h⟩
open PyProof.Rows hiding St
section
variable {X:Cx}
def Uf:bi X (.type "dict") (λd H Q=> ∃a c,d=[.ref a]/\H a=some (.dK c)/\ ∀p,H p=none->Q (.ref p) (ay H p (.dK c))):=by
 rintro e s n H d o Q I r ⟨a,c,g,h,q⟩;subst g;obtain ⟨u,rfl,i⟩:=x3 r;cases i;exact Nv I (.of h) λp v l m=>⟨.ref p,_,m,rfl,q p l⟩
def y8:iz "dict" =some (.type "dict"):=by decide+kernel
def pR (i:Nat):Sl->aq D:=λa=>match a[i]? with
 |some (.ag (.aJ ks c))=> .ok (.aJ ks c)
 |_=> .aj
def Pd (i:Nat) {p g h:Pos} (o:Gl X "dict") (r:X.mg "dict" =none) (u:X.N[i]?=some x:=by rfl) (v:dE X.env.scope x:=by exact bT rfl) (w:ZH x:=by decide)
   (l:UR x:=by decide) (n:bj [.Name x g] X.env=(false,eval (.Name x g) X.env)::bj [] X.env:=by exact jm rfl):
   DE X .t (.Call (.Name "dict" p) [.Name x g] [] h) (pR i):=by
 nomatch (
  PE.imp (JU Uf o r y8 (qc (qw u v w l) zC n) (by decide) (by decide) n (by exact jK rfl)) λL H Q=>by
   rintro ⟨G,N,y,d,k,c,q⟩;unfold pR at c
   split at c
   . rename_i ks O z;cases c;obtain ⟨a,m,B,E,I,J⟩:=yy k z;refine ⟨_,B,a,m,rfl,E,λp e=>q _ _ (ap.ay e) (.aJ jk (k.new p e) I rfl (J.laid e)) (qi (ap.refl H) e)⟩
   . cases c)
end
def Wu:List aT->List D->List aT->List D->Bool
 |k::ks,d::g,a,c=>(match ba a c k with|some e=>ck d e|none=>false)&&Wu ks g a c
 |_,_,_,_=>true
def oa (ds a:List D):Prop:=D.bE ds=true/\D.bE a=true/\D.bI ds<=190
instance (a b:List D):Decidable (oa a b):=inferInstanceAs (Decidable (_/\_))
section
variable {X:Cx} {pins:List (Addr×Obj)} {σ:L2.St} {H:Hp} {s:az}
def Pe (I:aw X pins σ H s) {A:bp} {a:List (aT×V)} {g:List (aT×Value)} {c:List D} (m:KV a g) (Q:am X.K Any H (a.map (·.2)) c) (n:D.bE c=true):
  ∀ {i:List (aT×V)} {o:List (aT×Value)} {ds:List D},KV i o->am X.K Any H (i.map (·.2)) ds->D.bE ds=true->A.units+D.bI ds<cLine->PySem.W.KeqHits A s g o (Wu (i.map (·.1)) ds (a.map (·.1)) c):=by
 intro i o ds O;unfold KV at O
 induction O generalizing ds with
 |nil=>intro r _ _;cases r;exact .nil
 | @cons p q U Y h t ih=>
  intro r w hu;obtain ⟨k,v⟩:=p;obtain ⟨k2,u⟩:=q;obtain ⟨rfl,ru⟩:=h
  cases r with
  | @cons _ _ _ d _ x r1 r2=>
   simp only [D.bE,dj] at w;simp only [D.bI] at hu;have B:=ih r2 w.2 (by omega);have l:=m.val k;obtain ⟨g1,g2⟩:=xv k Q;show PySem.W.KeqHits A s g ((k,u)::Y) ((match ba (a.map (·.1)) c k with|some e=>ck d e|none=>false)&&Wu (U.map (·.1)) x (a.map (·.1)) c)
   cases e:ba (a.map (·.1)) c k with
   |none=>
    rw [g2 e] at l
    have hn:pE g k=none:=by
     cases z:pE g k with
     |none=>rfl
     |some y=>rw [z] at l;exact l.elim
    exact .miss hn
   |some E=>
    obtain ⟨v',e1,J⟩:=g1 E e;rw [e1] at l
    cases z:pE g k with
    |none=>rw [z] at l;exact l.elim
    |some y=>
     rw [z] at l
     have L:E∈c:=by
      unfold ba at e
      cases N:((a.map (·.1)).zip c).find? λp=>decide (p.1=k) with
      |none=>rw [N] at e;cases e
      |some pr=>rw [N] at e;cases e;exact (ph (u5 N)).2
     exact .hit z (JH I d A v v' u y E (by omega) r1 ru J l w.1 (yH n L)) B
def Bv (K:aA) (neg:Bool):R2:=λx y H Q=> ∃a b d c g e,x= .ref a/\y= .ref b/\H a=some (.dK d)/\H b=some (.dK c)/\am K Any H (d.map (·.2)) g/\am K Any H (c.map (·.2)) e/\oa g e/\
 Q (.bl (if neg=true then !(d.length==c.length&&Wu (d.map (·.1)) g (c.map (·.1)) e) else (d.length==c.length&&Wu (d.map (·.1)) g (c.map (·.1)) e))) H
def Kv (U:X.A.units+200<cLine):dc X (lj .Eq) (Bv X.K false):=by
 rintro pins s σ H x y v u Q I h i ⟨a,b,l,e,Y,m,n,o,p,w,r,z,⟨B,E,c3⟩,q⟩;subst n o;cases h;cases i;obtain ⟨_,J,vs,g,L⟩:=YK I.aM p;obtain ⟨_,N,O,c,d⟩:=YK I.aM w;refine PySem.W.keq_eq J N L d (by omega) (λ_=>Pe I c z E g r B ?_) ⟨.bl _,H,I,rfl,?_⟩
 . have:X.A.in1.units=X.A.units+1:=rfl;omega
 . rw [<-g.length,<-c.length];exact q
end
def YE:D->D->aq D
 | .aJ ks d,.aJ a c=>aK (oa d c) (.ok (.bl (ks.length==a.length&&Wu ks d a c)))
 |_,_=> .aj
def Ky {K:aA}:gn K (Bv K false) YE:=λx y H a b d Q i l e q=>by
 unfold YE at e
 split at e
 . obtain ⟨m,e2⟩:=jl e;cases e2;obtain ⟨p,g,rfl,n,_,rfl,r⟩:=i.gG;obtain ⟨o,c,rfl,h,_,rfl,u⟩:=l.gG;refine ⟨p,o,g,c,_,_,rfl,rfl,n,h,r.low,u.low,m,?_⟩;have:=q _ (me _);simpa using this
 . cases e
theorem Jk: ∀(more a:List (aT×V)),((a++more).map (·.1)).Nodup->Jl a more=a++more
 | [],a,_=>by simp [Jl]
 |p::r,a,h=>by
  have d:putK a p.1 p.2=a++[p]:=by
   have: ∀q∈a,q.1≠p.1:=λq c e=>by
    rw [iH,cY] at h;have g:=(qP.mp h).2.2 q.1 (tL c) p.1 (by simp);exact g e
   unfold putK;rw [if_neg];intro z;obtain ⟨q,c,e⟩:=qH.mp z;exact this q c (by simpa using e)
  show Jl (putK a p.1 p.2) r=_;rw [d,Jk r (a++[p]) (by simpa using h)];simp
section
variable {X:Cx} {K:aA}
def Wc:List D->Option (List Int)
 | []=>some []
 | .int i::r=>(Wc r).map (i:: ·)
 |_=>none
theorem Xr {A:UP} {H:Hp}: ∀ {ds:List D} {a:List Int} {c:List V},Wc ds=some a->am K A H c ds->c=a.map V.int
 | [],a,_,e,.nil=>by cases e;rfl
 |d::r,a,_,e,.cons h t=>by
  cases d with
  |int i=>
   simp only [Wc,tq] at e;obtain ⟨g,e1,rfl⟩:=e;cases h.cb;rw [Xr e1 t];rfl
  |_=>simp [Wc] at e
end
section
variable {prog:bn} {w:World} {A:bp} {E:UO} {s:az} {it t:Addr} {i:Nat} {items:Array Value} {Q:UO}
def wM (a:s.heap.IsTupleIter it t i) (l:s.heap.IsTuple t items) (m:items[i]?=some x) (n: ∀e,e.IsTupleIter it t (i+1)->kx it s.heap e->Q x {s with heap:=e}):
  wpAny (model prog w) A (mU (.ref it)) Q E s:=by
 obtain ⟨o,d,p,c⟩:=id a;obtain ⟨q,g,_,r,h⟩:=l;unfold mU
 refine ak (lX a.typeIs Dj (hH Dj a.typeIs F.entry_tuple_iterator_next
  (show wpAny _ _ (field (.ref it) 0>>=_) _ _ s from ak (gx d c rfl (show wpAny _ _ (if (cX t==mx)=true then _ else _) _ _ s from ?_))) (F.args_tuple_iterator_next_1 _)))
 rw [if_neg (show¬((cX t==mx)=true) from fq)];refine (show wpAny _ _ (field (.ref it) 1>>=_) _ _ s from ak (gx d c rfl (show wpAny _ _ (seqItems? (.ref t)>>=_) _ _ s from ak (lh g h ?_))));simp only [nN,m];exact ak (oV d c (by simp) (aC ⟨x,rfl,aC (n _ ⟨_,li _ d (yG (nr c _)),(Bo ..).trans p,by rw [nr c];simp [dF]⟩ (iG ..))⟩))
def y6 (m:A.handled=none) (a:s.heap.IsTupleIter it t i) (n:s.heap.IsTuple t items) (p:items[i]?=none)
  (q: ∀c e,Heap.ExtBut it s.heap c->(∃o,c.get? e=some o/\o.cls= .type "StopIteration")->E (.ref e) {s with heap:=c}):
  wpAny (model prog w) A (mU (.ref it)) Q E s:=by
 obtain ⟨o,d,r,g⟩:=id a;obtain ⟨u,h,_,v,l⟩:=n;unfold mU
 refine ak (lX a.typeIs Dj (hH Dj a.typeIs F.entry_tuple_iterator_next
  (show wpAny _ _ (field (.ref it) 0>>=_) _ _ s from ak (gx d g rfl (show wpAny _ _ (if (cX t==mx)=true then _ else _) _ _ s from ?_))) (F.args_tuple_iterator_next_1 _)))
 rw [if_neg (show¬((cX t==mx)=true) from fq)];refine (show wpAny _ _ (field (.ref it) 1>>=_) _ _ s from ak (gx d g rfl (show wpAny _ _ (seqItems? (.ref t)>>=_) _ _ s from ak (lh h l ?_))));simp only [nN,p];refine ak (kw (ak (oV d g (by simp) (show wpAny _ _ (newExc (.type "StopIteration") []>>=_) _ _ _ from ak ?_))));simp only [newExc,newTuple];refine ak (hV (ak (Bp (by first|rfl| (simp;rfl)) (hV ?_ (by size_fits)))) (by size_fits));simp only [raiseNew];refine ak (wpAny_handled ?_);rw [show A.in1.handled=none from m];exact ak (aC (wpAny_throw (q _ _ (((iG ..).extBut.push _).push _) ⟨_,b0 _ rfl,rfl⟩)))
def ul (p:A.handled=none) (it l:Addr) (d:l≠it) (items:Array Value):Draws prog w A it [it,l] items.size (λi v=>items[i]?=some v) (λi h=>h.IsTupleIter it l i/\h.IsTuple l items) where
 live:=λ_ _ st=>let ⟨o,g,_⟩:=st.1;⟨o,g⟩
 frame:=λ_ _ _ st m=>⟨st.1.at λo e=>m it (by simp) o e,let ⟨o,g,r⟩:=st.2;⟨o,m l (by simp) o g,r⟩⟩
 item:=λi s Q E n st q=>wM st.1 st.2 (x:=items[i]) (by simp [n]) λu a c=>q _ u s.toks (by simp [n]) ⟨a,st.2.extBut c.extBut d⟩ c
 done:=λs Q E st y=>y6 p st.1 st.2 (by simp) y
def Pf (d:A.handled=none) (it l:Addr) (items:Array Value) (i:Nat) (n:items.size<=i):Draws prog w A it [it,l] i (λ_ _=>True) (λj h=>j=i/\h.IsTupleIter it l j/\h.IsTuple l items) where
 live:=λ_ _ st=>let ⟨o,a,_⟩:=st.2.1;⟨o,a⟩
 frame:=λ_ _ _ st c=>⟨st.1,st.2.1.at λo e=>c it (by simp) o e,let ⟨o,a,r⟩:=st.2.2;⟨o,c l (by simp) o a,r⟩⟩
 item:=λj s Q E g st p=>absurd st.1 (cj g)
 done:=λs Q E st m=>y6 d st.2.1 st.2.2 (by simp;omega) m
end
open AutoSeq1 (wpAny_loadPart') in
theorem vV (l:Addr) (a:Array Value) (n:Nat) (i:Option Addr) (q:Array (Option Value)):
  PySem.Meets (fS.«enumerate.__new__» ⟨[.type "enumerate",.ref l],[]⟩) (λ_ R s=>s.heap.get? l=some {cls:= .type "tuple",dict:=i,data:= .seq a n,slots:=q}/\
    R (.ok (.ret (.ref (s.heap.push {cls:= .type "tuple_iterator",data:= .fields #[.ref l,.int 0 0]}).objs.size)))
     {s with heap:=(s.heap.push {cls:= .type "tuple_iterator",data:= .fields #[.ref l,.int 0 0]}).push {cls:= .type "enumerate",data:= .fields #[.none,.bool false,.ref s.heap.objs.size,dF 0,.none,.none]}}):=
 .of_wp λm w A R s h=>by
  obtain ⟨r,g,d,tk,os⟩:=s;obtain ⟨e,h⟩:=h;have o:=sub_enumerate;have p:Heap.IsTuple (Shared.heap ⟨r,g,d,tk,os⟩) l a:=⟨_,e,rfl,n,rfl⟩
  wp_walk using A3 e
  refine wpAny_stack_any λst=>aC ?_
  split
  . rename_i c _ _ _ _ _;cases (c==my "enumerate")<;>(wp_walk using A3 e,A1 p;exact ⟨_,rfl,h⟩)
  . wp_walk using A3 e,A1 p
    exact ⟨_,rfl,h⟩
section
variable {prog:bn} {w:World} {A:bp} {E:UO} {s:az}
def Ud (u:s.heap.IsTuple l a)
  (h: ∀d,IsEnum d (s.heap.objs.size+1) s.heap.objs.size 0 .none->d.IsTupleIter s.heap.objs.size l 0->(∀b o,s.heap.get? b=some o->d.get? b=some o)->Q (.ref (s.heap.objs.size+1)) {s with heap:=d}):
  wpAny (model prog w) A (call (.type "enumerate") [.ref l]) Q E s:=by
 obtain ⟨⟨c,g,dt,v⟩,y,z,n,B⟩:=u;cases (show c= .type "tuple" from z);cases (show dt= .seq a n from B);refine callType_new F.called_enumerate (by decide) (F.typeCall_enumerate_1 _) (F.newCall_enumerate_1 _) (λi=>F.args_object_init_2 i _) F.entry_enumerate_new (vV l a n g v) ⟨y,?_⟩;generalize m:s.heap.push {cls:= .type "tuple_iterator",data:= .fields #[.ref l,.int 0 0]}=e;have r:e.objs.size=s.heap.objs.size+1:=by rw [<-m];exact iQ ..
 have p:e.get? s.heap.objs.size=some {cls:= .type "tuple_iterator",data:= .fields #[.ref l,.int 0 0]}:=by rw [<-m];exact b0 _ rfl
 have H: ∀b o,s.heap.get? b=some o->e.get? b=some o:=λb o x=>by rw [<-m];exact bu _ x
 have q:=b0 e (o:={cls:= .type "enumerate",data:= .fields #[.none,.bool false,.ref s.heap.objs.size,dF 0,.none,.none]}) rfl;rw [r] at q;rw [r];exact ⟨⟨_,q,rfl⟩,h _ q ⟨_,bu _ p,rfl,rfl⟩ λb o x=>bu _ (H b o x)⟩
end
def FD (K:aA) (a:Addr) (c:List V):It:=⟨λi H=>f9 K H a c/\i<c.length,λi H v d=> ∃p x,H p=none/\c[i]?=some x/\v= .ref p/\d=ay H p (.ar [.int (i:Int),x]),λi H=>f9 K H a c/\c.length<=i⟩
def Vr {K:aA} (a d e:Addr) (xs:List V) (B:e≠d) (Pg:a≠d) (Ph:a≠e):Turn P w K (.Tuple elts n pos) (FD K a xs) [e,d] e (λi h=>(∃g,IsEnum h e d (i:Int) g)/\h.IsTupleIter d a i) where
 mem:=by simp
 obj:=λi h st b r=>by
  obtain ⟨⟨g,q⟩,o,ho,hc,hd⟩:=st;simp at r;rcases r with rfl|rfl
  . exact ⟨_,q,λv z=>by cases z⟩
  . exact ⟨o,ho,λv z=>by rw [hd] at z;cases z⟩
 keep:=λi h h' st k=>by
  obtain ⟨⟨g,q⟩,l⟩:=st;exact ⟨⟨g,k e (by simp) _ q⟩,l.at λo x=>k d (by simp) o x⟩
 item:=by
  intro X hP hw hK hc i c s σ H E I N st hg;subst hP hw hK;obtain ⟨hq,hi⟩:=hg;obtain ⟨m,rv,p,hz⟩:=I.tuple hq;have hx:=cZ hi;obtain ⟨u,hu,ru⟩:=rv.get hx;obtain ⟨⟨g,q⟩,l⟩:=st;have fe:=N e (by simp);have fi:=N d (by simp);have hl:=rv.length;refine wpAny_pyNext_enum_itemD (ul (A:=X.A.in1) (I.ok.hd hc) d a Pg m.toArray) q ⟨l,show s.heap.IsTuple a m.toArray from p⟩ (by simp;omega) B (by simp [B,fH Ph]) λx h' tk px ho FE hT nF hk=>?_
  have Pj:x=u:=by
    have:m.toArray[i]?=some u:=by simpa using hu
    rw [this] at px;exact (fU px).symm
  subst Pj;refine ⟨_,rfl,wpAny_letOwnedTupleGo_enum ho λmO Bs O=>?_⟩;have Q:=bw q;have U:d<s.heap.objs.size:=by obtain ⟨_,x,_⟩:=l;exact bw x
  have sX:=I.aM.fresh (aS _)
  have I1:aw X c σ (ay H s.heap.objs.size (.ar [.int (i:Int),xs[i]])) {s with heap:=s.heap.push {cls:= .type "tuple",data:= .seq #[.int i tk,x]}}:=
    I.laid (λb o e=>bu _ e) (aS _) ⟨bZ (show 2<=20 by decide) (by decide),[.int i tk,x],.cons ⟨_,rfl⟩ (.cons ru .nil),⟨_,b0 _ rfl,rfl,_,rfl⟩⟩
  have Y:cC X c (ay H s.heap.objs.size (.ar [.int (i:Int),xs[i]])) e:=⟨by rw [jp (cj Q)];exact fe.1,fe.2⟩
  have Bt:cC X c (ay H s.heap.objs.size (.ar [.int (i:Int),xs[i]])) d:=⟨by rw [jp (cj U)];exact fi.1,fi.2⟩
  have I2:=wQ (t':=tk+1) I1 (λb o J L eo=>by
    refine (O.2 b J).trans ?_
    by_cases r:b=s.heap.objs.size
    . subst r;rw [b0 _ rfl] at eo;rw [<-eo];exact hT
    . have FC:s.heap.get? b=some o:=by
       rcases Heap.get?_push_cases eo with ⟨z,_⟩|z
       . exact absurd z r
       . exact z
      exact hk b o J L FC) Y Bt
  refine ⟨.ref s.heap.objs.size,_,I2,rfl,⟨_,_,sX,hx,rfl,rfl⟩,⟨⟨_,by simpa using Bs⟩,FE.1.at λo y=>(O.2 d B.symm).trans y⟩,λb r=>?_⟩;simp at r;rcases r with rfl|rfl
  . exact Y.1
  . exact Bt.1
 done:=by
  intro X hP hw hK hc i c s σ H E I N st hg;subst hP hw hK;obtain ⟨hq,hi⟩:=hg;obtain ⟨m,rv,p,hz⟩:=I.tuple hq;obtain ⟨⟨g,q⟩,l⟩:=st;have hl:=rv.length;refine wpAny_pyNext_enum_endD (Pf (A:=X.A.in1) (I.ok.hd hc) d a m.toArray i (by simp;omega)) q ⟨rfl,l,show s.heap.IsTuple a m.toArray from p⟩ λh' eb=>⟨rfl,wQ I (λb o J L eo=>eb b o L eo) (N e (by simp)) (N d (by simp))⟩
 self:=λ_ _ _ _ _ st h=>let ⟨⟨_,q⟩,_⟩:=st;Dh q h
section
variable {X:Cx} {elts:List Expr} {n:Nat} {mK p pos:Pos} {e:Expr} {f:T5}
def YH (f:T5):Sl->aq (List D):=λa=>f a>>=λd=>match d with
 | .ar c=> .ok (jX 0 c)
 |_=> .aj
def Pk (hg:Gl X "enumerate") (hm:X.mg "enumerate" =none) (h:DE X .s e f) (hs:bj [e] X.env=[(false,eval e X.env)]:=by rfl):DI X (.Tuple elts n mK) (.Call (.Name "enumerate" p) [e] [] pos) (YH f):=by
 have hE:PE X e (tE X.K .s f):=by nomatch h
 nomatch (show PI X (.Tuple elts n mK) (.Call (.Name "enumerate" p) [e] [] pos) (tI X.K (YH f)) from by
  rintro l s B H R I ⟨G,J,c,ds,k,L,q⟩;obtain ⟨d,e1,e2⟩:=ja L
  have hA:PA X [e] (tA X.K .s λc=>f c>>=λd=> .ok [d]):=by
   have:=qc hE zC hs;rintro ps l s B H Q I ⟨G,J,c,ds,k,L,q⟩;obtain ⟨d,c1,c2⟩:=ja L;cases c2;exact this ps l s B H Q I ⟨G,J,c,d,k,c1,λv m g z _=>q [v] m g (.cons z .nil)⟩
  refine Call_ (yD I hg hm boot_enumerate (sq (a9 (hA pos l s B H (λN m=> ∃v,N=[v]/\ap H m/\aD X.K (Sf G c B) m v d) I ⟨G,J,c,[d],k,by show (f c>>=_)=_;rw [e1];rfl,λN m g z=>by obtain ⟨v,rfl,r⟩:=z.one;exact ⟨v,rfl,g,r⟩⟩) λus g ⟨N,m,w,z,v,ev,sm,rep⟩=>?_) hs rfl));subst ev;obtain ⟨u,rfl,ru⟩:=x3 z;have k1:=k.ao sm
  cases d with
  |ar es=>
   cases e2;obtain ⟨a,O,rfl,E,rs⟩:=rep.dL;cases ru;have hq:f9 X.K m a O:= .inl (.of E);obtain ⟨U,rv,pl,hz⟩:=w.tuple hq;have bt:a<g.heap.objs.size:=by obtain ⟨o,ho,_⟩:=pl;exact bw ho
   refine Ud (show g.heap.IsTuple a U.toArray from pl) λh' he Y hk=>Dh he ?_
   have I2:=w.kept (t':=g.toks) hk;refine ⟨g.heap.objs.size+1,[g.heap.objs.size+1,g.heap.objs.size],_,_,m,rfl,I2,Vr a g.heap.objs.size (g.heap.objs.size+1) O (Nat.succ_ne_self _) (cj bt) (cj (Bw bt)),⟨⟨_,he⟩,Y⟩,λb hb=>?_,?_⟩
   . simp at hb;rcases hb with rfl|rfl
     . exact w.dW (ly _) (w.aM.fresh (ly _))
     . exact w.dW (aS _) (w.aM.fresh (aS _))
   . refine q _ m (λH=>H a=some (.ar O)) sm (λi H' pp=>?_) E λenv' ic H' fr=>fr.keep a _ E λow=>(k1.lD ow E).elim
     have hl:=rs.length;rw [JV];refine ⟨λhi=>⟨.inl (.of pp),by omega⟩,λd hd x H2 y=>?_,λhi=>⟨.inl (.of pp),by omega⟩⟩;obtain ⟨p,x',hp,gQ,rfl,rfl⟩:=y;obtain ⟨d',Bu,rd⟩:=rs.get' gQ;rw [JW,Bu] at hd;cases hd;exact .inr ⟨p,_,_,hp,rfl,rfl,rfl,.cons (by rw [Di];exact .int _) (.cons rd .nil)⟩
  |_=>cases e2)
end
inductive FF where
 |nx (env:Sl)|rt (b:Bool) (env:Sl)
abbrev At (c:L2.St) (i:Nat) (a:Addr):Prop:=c[i]?=some (some (V.ref a))
section
variable {K:aA} {G:UP} {H0 H H':Hp} {env env':Sl} {σ ic:L2.St} {i:Nat} {a:Addr} {E:Ends}
def au.anew (k:au K G H0 env σ H) (l:env[i]?=some (.ag d)) (x:At σ i a) (hs: ∀c o,c≠a->H c=some o->H' c=some o) (t:Top K (Sf G env σ) H' a d'):
   au K G H0 (env.set i (.ag d')) σ H'/\bg env σ H (env.set i (.ag d')) σ H':=by
 have hl:i<env.length:=(c7.mp l).1;have I:jS env σ a:=⟨i,_,l,x⟩
 have same: ∀c,jS (env.set i (.ag d')) σ c->jS env σ c:=λc ⟨j,e,h1,h2⟩=>by
   by_cases z:i=j
   . subst z;exact ⟨i,d,l,h2⟩
   . exact ⟨j,e,by rw [jo z] at h1;exact h1,h2⟩
 obtain ⟨a',p,r,N⟩:=k.ag i _ l;rw [x] at p;cases p;obtain ⟨o0,y,B⟩:=N.there
 have st:eL (Sf G env σ) H H':=λc o e m=>hs c o (by
   rintro rfl;rw [y] at e;cases e
   exact (m B).1 I) e
 have w: ∀c,Sf G env σ c->Sf G (env.set i (.ag d')) σ c:=λc n=>⟨λo=>n.1 (same c o),n.2⟩
 refine ⟨⟨by simp [k.len],λc o e=>?_,k.g0,λj e h=>?_,λj e h=>?_,λj J u O b Q U Y q4=>?_⟩,⟨λc o e n=>?_,λc o=> .inl (same c o),λc e=>?_⟩⟩
 . exact hs c o (by rintro rfl;rw [r] at e;cases e) (k.ae c o e)
 . by_cases z:i=j
   . subst z;obtain ⟨q,_⟩:=jH h;cases q
   . rw [jo z] at h;obtain ⟨v,h1,h2⟩:=k.ab j e h;exact ⟨v,h1,h2.aP st w⟩
 . by_cases z:i=j
   . subst z;obtain ⟨q,_⟩:=jH h;cases q;exact ⟨a,x,r,t.aP (λ_ _ e _=>e) w λ_ e=>e⟩
   . rw [jo z] at h;obtain ⟨b,h1,h0,h2⟩:=k.ag j e h
     have hb:b≠a:=by
       rintro rfl;exact z (k.mL i j _ _ b l h x h1)
     exact ⟨b,h1,h0,h2.aP st w λo e=>hs b o hb e⟩
 . have g: ∀(j:Nat) (u:D),(env.set i (.ag d'))[j]?=some (.ag u)-> ∃d0:D,env[j]?=some (.ag d0):=λj u q=>by
     by_cases z:i=j
     . subst z;exact ⟨_,l⟩
     . exact ⟨u,by rw [jo z] at q;exact q⟩
   obtain ⟨e1,z1⟩:=g j u Q;obtain ⟨e2,z2⟩:=g J O U;exact k.mL j J e1 e2 b z1 z2 Y q4
 . exact hs c o (by rintro rfl;exact n I) e
 . cases z:H c with
   |none=>rfl
   |some o=>
     by_cases L:c=a
     . subst L;obtain ⟨o1,h1,_⟩:=t.there;rw [h1] at e;cases e
     . rw [hs c o L z] at e;cases e
end
section
variable {X:Cx} {i:Nat} {e c tg:Expr} {st:Stmt} {rest body orelse:List Stmt} {pos:Pos} {l:Lv} {f:T5} {g g1 g2:Sl->aq FF}
def Iq (K:aA) (i:Nat) (t:TX):TG:=λv n H Q=> ∃G o h d a,au K G o h n H/\aD K (Sf G h n) H v d/\t d h= .ok a/\ ∀m,au K G o a m H->bg h n H a m H->m[i]?=n[i]?->Q m H
@[irreducible] def yO (X:Cx) (i:Nat) (tg:Expr) (t:TX):Prop:=PG X tg (Iq X.K i t)
theorem Wv (j:Nat) (a:j≠i) (m:X.N.Nodup) (n:X.N[j]?=some x:=by rfl) (o:Loc X.env.scope x:=by exact eI rfl)
   (p:T7 X x:=by first|exact .inl rfl|exact .inr rfl|assumption):yO X i (.Name x pos) (gN j):=by
 nomatch (
  PG.imp (JT m n o p) λv w H Q=>by
   rintro ⟨G,y,u,d,h,k,r,e,q⟩;cases e
   exact q _ (k.dy r) (.set (ap.refl H) λ_ _ z _=>by cases z) (jo a))
def Pm {k:Nat} (E:X.bz=true) (I:yO X i a t) (J:yO X i b u)
   (L:(gS [a,b] X.env).map (·.2)=mE a X.env::(gS [b] X.env).map (·.2):=by rfl) (o:(gS [b] X.env).map (·.2)=mE b X.env::(gS [] X.env).map (·.2):=by rfl)
   (N:(gS [a,b] X.env).length=2:=by rfl) (p:(gS [a,b] X.env).findIdx? (·.1)=none:=by rfl):yO X i (.Tuple [a,b] k pos) (M.g2 t u):=by
 nomatch (
  PG.imp (Hf (n:=2) E (JD I (JD J U9 o) L) N p) λv σ H Q=>by
   rintro ⟨G,y,w,d,m,k,r,e,q⟩;unfold M.g2 at e
   split at e
   . obtain ⟨h,e1,e2⟩:=ja e;obtain ⟨a,xs,rfl,O,U⟩:=r.dL;obtain ⟨Y,z,rfl,r1,r2⟩:=U.av;refine ⟨a,_,rfl,.of O,rfl,Y,[z],rfl,G,y,w,_,h,k,r1,e1,λnT k1 B z1=>⟨z,[],rfl,G,y,h,_,m,k1,B.rep k r2,e2,λx k2 f2 z2=>⟨rfl,q x k2 (B.trans f2) (z2.trans z1)⟩⟩⟩
   . cases e)
end
abbrev FI:=List D->List aT->List D->aq (Bool×List aT×List D)
section
variable {prog:bn} {w:World} {A:bp} {E:UO} {s:az} {z TI TO i1 i2 l1 l2:Addr} {k1 k2:Nat} {xs ys:Array Value} {a b:Value}
structure fA (h:Heap) (z TI TO i1 i2 l1 l2:Addr) (k1 k2:Nat) (f0:Value):Prop where
 hz:IsZip h z TI TO f0
 ti:mV h TI (.ref i1) (.ref i2)
 to: ∃a b,mV h TO a b
 h1:h.IsTupleIter i1 l1 k1
 h2:h.IsTupleIter i2 l2 k2
def xo {h d:Heap} (t:h.IsTuple c xs) (k: ∀o,h.get? c=some o->d.get? c=some o):d.IsTuple c xs:=let ⟨o,e,r⟩:=t;⟨o,k o e,r⟩
def Um {Q:UO} (D:pS z TI TO i1 i2 l1 l2) (Z:fA s.heap z TI TO i1 i2 l1 l2 k1 k2 .none) (Y:s.heap.IsTuple l1 xs) (C3:s.heap.IsTuple l2 ys) (hx:xs[k1]?=some x) (hy:ys[k2]?=some y)
  (hQ: ∀N,fA N z TI TO i1 i2 l1 l2 (k1+1) (k2+1) (dF s.heap.objs.size)->mV N s.heap.objs.size x y->
   (∀c o,c≠z->c≠TO->c≠i1->c≠i2->s.heap.get? c=some o->N.get? c=some o)->Q (.ref s.heap.objs.size) {s with heap:=N}):
  wpAny (model prog w) A (fS.«zip.__next__» ⟨[.ref z],[]⟩) (λfin s'=> ∃v,fin= .done (.ret v)/\Q v s') E s:=by
 obtain ⟨n,p,⟨a,b,Pn⟩,h1,h2⟩:=Z;refine (show wpAny _ _ (field (.ref z) 2>>=_) _ _ _ from ak (gx n rfl (x:= .bool false) rfl (show wpAny _ _ (field (.ref z) 3>>=_) _ _ _ from ak (gx n rfl (x:= .ref TI) rfl (ak (lh p rfl (show wpAny _ _ (rN (.ref z)>>=_) _ _ _ from ak ?_)))))));unfold rN;refine ak (gx n rfl (x:= .none) rfl (aC ?_));simp only [if_true];refine ak (kw (ak (gx n rfl (x:= .ref TO) rfl (ak (tM n (by simp) λg1 z1 h=>ak ?_)))));have Po:IsZip g1 z TI TO .ellipsis:=z1;simp only [List.zipIdx_cons,List.zipIdx_nil,Dk,Dl];refine ak (ak (wpAny_onRaise (show wpAny _ _ (mU (.ref i1)>>=_) _ _ _ from ak (wM (h1.extBut h.extBut D.i1z) (Y.extBut h.extBut D.l1z) hx λg2 q1 l=>aC ?_))));have q:mV g2 TO a b:=l.extBut _ _ D.TOi1 (h.extBut _ _ D.TOz Pn);refine ak (lh q rfl (ak (FG q λg3 to3 m=>ak (wpAny_letGo (aC (ak (ak (wpAny_onRaise ?_))))))));have r:mV g3 TO x b:=to3;refine (show wpAny _ _ (mU (.ref i2)>>=_) _ _ _ from ak (wM (((h2.extBut h.extBut D.i2z).extBut l.extBut D.i12.symm).extBut m.extBut D.TOi2.symm) (((C3.extBut h.extBut D.l2z).extBut l.extBut D.l2i1).extBut m.extBut D.l2TO) hy λg4 q2 u=>aC ?_));have B:mV g4 TO x b:=u.extBut _ _ D.TOi2 r;refine ak (lh B rfl (ak (FG B λd Pp H=>ak (wpAny_letGo (aC (aC ?_))))));have g:mV d TO x y:=Pp;refine ak (lh g rfl (ak (wpAny_newTuple (show wpAny _ _ (Ir (.ref z) (.ref d.objs.size)>>=_) _ _ _ from ak ?_))));have nF:d.objs.size=s.heap.objs.size:=by rw [H.1,u.1,m.1,l.1,h.1]
 have z5:IsZip d z TI TO .ellipsis:=H.extBut _ _ D.TOz.symm (u.extBut _ _ D.i2z.symm (m.extBut _ _ D.TOz.symm (l.extBut _ _ D.i1z.symm Po)));have k5: ∀c o,c≠z->c≠TO->c≠i1->c≠i2->s.heap.get? c=some o->d.get? c=some o:=λc o i O c3 c4 e=>H.extBut _ _ O (u.extBut _ _ c4 (m.extBut _ _ O (l.extBut _ _ c3 (h.extBut _ _ i e))))
 have FH:d.IsTupleIter i1 l1 (k1+1):=((q1.extBut m.extBut D.TOi1.symm).extBut u.extBut D.i12).extBut H.extBut D.TOi1.symm;have Pq:d.IsTupleIter i2 l2 (k2+1):=q2.extBut H.extBut D.TOi2.symm;have I:z<d.objs.size:=bw z5;unfold Ir;have z6:IsZip (d.push {cls:= .type "tuple",data:= .seq #[x,y]}) z TI TO .ellipsis:=bu _ z5;refine ak (tM z6 (by simp) λg7 z7 s7=>?_);have Pr:IsZip g7 z TI TO (dF d.objs.size):=z7;refine tM Pr (by simp) λU z8 s8=>aC ⟨_,rfl,(show Q (.ref d.objs.size) _ from ?_)⟩
 have J:IsZip U z TI TO (dF d.objs.size):=z8;have L: ∀c o,c≠z->d.get? c=some o->U.get? c=some o:=λc o i e=>s8.extBut _ _ i (s7.extBut _ _ i (bu _ e))
 have t8:mV U d.objs.size x y:=s8.extBut _ _ (iM I) (s7.extBut _ _ (iM I) (b0 _ rfl));rw [nF] at J t8 ⊢;exact hQ U ⟨J,L _ _ D.TIz (k5 _ _ D.TIz D.TITO D.TIi1 D.TIi2 p),⟨_,_,L _ _ D.TOz g⟩,FH.at λo e=>L _ o D.i1z e,Pq.at λo e=>L _ o D.i2z e⟩ t8 λc o i O c3 c4 e=>L c o i (k5 c o i O c3 c4 e)
def Ps (U:A.handled=none) (D:pS z TI TO i1 i2 l1 l2) (Z:fA s.heap z TI TO i1 i2 l1 l2 k1 k2 .none) (r:s.heap.IsTuple l1 xs) (H:s.heap.IsTuple l2 ys) (u:xs[k1]?=none\/ys[k2]?=none)
  (Y: ∀I e,(∀c o,c≠z->c≠TO->c≠i1->c≠i2->s.heap.get? c=some o->I.get? c=some o)->(∃o,I.get? e=some o/\o.cls= .type "StopIteration")->E (.ref e) {s with heap:=I}):
  wpAny (model prog w) A (fS.«zip.__next__» ⟨[.ref z],[]⟩) Q E s:=by
 obtain ⟨m,J,⟨a,b,L⟩,h1,h2⟩:=Z;refine (show wpAny _ _ (field (.ref z) 2>>=_) _ _ _ from ak (gx m rfl (x:= .bool false) rfl (show wpAny _ _ (field (.ref z) 3>>=_) _ _ _ from ak (gx m rfl (x:= .ref TI) rfl (ak (lh J rfl (show wpAny _ _ (rN (.ref z)>>=_) _ _ _ from ak ?_)))))));unfold rN;refine ak (gx m rfl (x:= .none) rfl (aC ?_));simp only [if_true];refine ak (kw (ak (gx m rfl (x:= .ref TO) rfl (ak (tM m (by simp) λg1 z1 i=>ak ?_)))));have v:IsZip g1 z TI TO .ellipsis:=z1;simp only [List.zipIdx_cons,List.zipIdx_nil,Dk,Dl];refine ak (ak (wpAny_onRaise (show wpAny _ _ (mU (.ref i1)>>=_) _ _ _ from ?_)))
 have ne: ∀ {h:Heap} {e:Addr} {n:Obj},IsZip h z TI TO .ellipsis->h.get? e=some n->n.cls= .type "StopIteration" ->e≠z:=λ{h e n} m d g x=>by
  subst x;rw [m] at d;cases d;simp at g
 cases N:xs[k1]? with
 |none=>
  refine ak (y6 U (h1.extBut i.extBut D.i1z) (r.extBut i.extBut D.l1z) N λg2 e l p=>?_);obtain ⟨n,d,g⟩:=p;have z2:IsZip g2 z TI TO .ellipsis:=l _ _ D.i1z.symm v;exact tM z2 (by simp) λg3 _ q=>Y g3 e (λc o y _ O _ x=>q.extBut _ _ y (l _ _ O (i.extBut _ _ y x))) ⟨n,q.extBut _ _ (ne z2 d g) d,g⟩
 |some x=>
  have hy:ys[k2]?=none:=u.resolve_left (by rw [N];simp);refine ak (wM (h1.extBut i.extBut D.i1z) (r.extBut i.extBut D.l1z) N λg2 q1 l=>aC ?_);have B:mV g2 TO a b:=l.extBut _ _ D.TOi1 (i.extBut _ _ D.TOz L);refine ak (lh B rfl (ak (FG B λg3 to3 q=>ak (wpAny_letGo (aC (ak (ak (wpAny_onRaise ?_))))))));refine (show wpAny _ _ (mU (.ref i2)>>=_) _ _ _ from ak (y6 U (((h2.extBut i.extBut D.i2z).extBut l.extBut D.i12.symm).extBut q.extBut D.TOi2.symm) (((H.extBut i.extBut D.l2z).extBut l.extBut D.l2i1).extBut q.extBut D.l2TO) hy λg4 e s4 p=>?_));obtain ⟨n,d,g⟩:=p;have z4:IsZip g4 z TI TO .ellipsis:=s4 _ _ D.i2z.symm (q.extBut _ _ D.TOz.symm (l.extBut _ _ D.i1z.symm v));exact tM z4 (by simp) λg5 _ s5=>Y g5 e (λc o y c2 O c4 x=>s5.extBut _ _ y (s4 _ _ c4 (q.extBut _ _ c2 (l.extBut _ _ O (i.extBut _ _ y x))))) ⟨n,s5.extBut _ _ (ne z4 d g) d,g⟩
end
abbrev Bx (h:Heap) (a:Addr):Heap:=h.push {cls:= .type "tuple_iterator",data:= .fields #[.ref a,.int 0 0]}
abbrev Dn (h:Heap) (a c:Addr):Heap:=(Bx h a).push {cls:= .type "tuple_iterator",data:= .fields #[.ref c,.int 0 0]}
abbrev y4 (h:Heap) (a c:Addr):Heap:=(Dn h a c).push {cls:= .type "tuple",data:= .seq #[.ref h.objs.size,.ref (Bx h a).objs.size]}
abbrev Do (h:Heap) (a c:Addr):Heap:=(y4 h a c).push {cls:= .type "tuple",data:= .seq #[.none,.none]}
abbrev tN (h:Heap) (a c:Addr):Heap:=(Do h a c).push {cls:= .type "zip",data:= .fields #[.none,.bool false,.bool false,.ref (Dn h a c).objs.size,.ref (y4 h a c).objs.size]}
def Pt (a c:Addr) (n o:Array Value):PySem.Meets (fS.«zip.__new__» ⟨[.type "zip",.ref a,.ref c],[]⟩) (λ_ R s=>s.heap.IsTuple a n/\s.heap.IsTuple c o/\R (.ok (.ret (.ref (Do s.heap a c).objs.size))) {s with heap:=tN s.heap a c}):=
 .of_wp λp w A R s h=>by
  obtain ⟨q,g,d,tk,os⟩:=s;obtain ⟨e,i,h⟩:=h;have r:=sub_zip;have l:Heap.IsTuple (Shared.heap ⟨q,g,d,tk,os⟩) a n:=e;have m:Heap.IsTuple (Shared.heap ⟨q.push {cls:= .type "tuple_iterator",data:= .fields #[.ref a,.int 0 0]},g,d,tk,os⟩) c o:=Heap.IsTuple.push i _
  wp_walk using A1 l,A1 m
  exact ⟨_,rfl,h⟩
section
variable {prog:bn} {w:World} {A:bp} {E:UO} {s:az}
def uL (i:s.heap.IsTuple a B) (l:s.heap.IsTuple d H)
  (h: ∀m,fA m (s.heap.objs.size+4) (s.heap.objs.size+2) (s.heap.objs.size+3) s.heap.objs.size (s.heap.objs.size+1) a d 0 0 .none->(∀c o,s.heap.get? c=some o->m.get? c=some o)->Q (.ref (s.heap.objs.size+4)) {s with heap:=m}):
  wpAny (model prog w) A (call (.type "zip") [.ref a,.ref d]) Q E s:=by
 refine callType_new F.called_zip (by decide) (F.typeCall_zip_2 _ _) (F.newCall_zip_2 _ _) (λn=>F.args_object_init_3 n _ _) F.entry_zip_new (Pt a d B H) ⟨i,l,?_⟩;have p:(Bx s.heap a).objs.size=s.heap.objs.size+1:=iQ ..;have q:(Dn s.heap a d).objs.size=s.heap.objs.size+2:=by rw [iQ,p]
 have r:(y4 s.heap a d).objs.size=s.heap.objs.size+3:=by rw [iQ,q]
 have v:(Do s.heap a d).objs.size=s.heap.objs.size+4:=by rw [iQ,r]
 have up1: ∀c o,(y4 s.heap a d).get? c=some o->(tN s.heap a d).get? c=some o:=λc o e=>bu _ (bu _ e)
 have g: ∀c o,(Bx s.heap a).get? c=some o->(y4 s.heap a d).get? c=some o:=λc o e=>bu _ (bu _ e)
 have u:(tN s.heap a d).get? (Do s.heap a d).objs.size=some _:=b0 _ rfl;have y:(tN s.heap a d).get? (y4 s.heap a d).objs.size=some _:=bu _ (b0 _ rfl);have z:(tN s.heap a d).get? (Dn s.heap a d).objs.size=some _:=up1 _ _ (b0 _ rfl);have g2:(tN s.heap a d).get? (Bx s.heap a).objs.size=some _:=up1 _ _ (bu _ (b0 _ rfl));have I:(tN s.heap a d).get? s.heap.objs.size=some _:=up1 _ _ (g _ _ (b0 _ rfl));show _/\_;rw [q,r,v] at u;rw [p,q] at z;rw [r] at y;rw [p] at g2;rw [v];exact ⟨⟨_,u,rfl⟩,h _ ⟨u,z,⟨_,_,y⟩,⟨_,I,rfl,rfl⟩,⟨_,g2,rfl,rfl⟩⟩ λc o x=>up1 _ _ (g _ _ (bu _ x))⟩
end
section
variable {X:Cx} {elts:List Expr} {n:Nat} {mK p pos:Pos} {e1 e2:Expr} {f1 f2:T5}
def uU:iz "zip" =some (.type "zip"):=by decide+kernel
end
section
variable {X:Cx} {r:List (Addr×Obj)} {σ:L2.St} {H:Hp} {s:az} {a:Addr}
def FK (X:Cx) (a:Addr):Prop:=(∀c,X.iK a≠some (.ar c))/\(∀o u,X.iK a≠some (.br o u))/\ ∀d,X.iK a≠some (.rb d)
def aw.loose (I:aw X r σ H s) (e:H a=some (.dK c)):FK X a:=by
 refine ⟨λd z=>?_,λo u z=>?_,λg z=>?_⟩
 . rw [I.ae.eW _ _ z] at e;cases e
 . rw [I.ae.eC _ _ _ z] at e;cases e
 . obtain ⟨m,q⟩:=I.ae.eX _ _ z;rw [q] at e;cases e
def aw.swap (I:aw X r σ H s) (e:H a=some u) (l:FK X a) (B: ∀d,u≠ .ar d) (E: ∀x,u≠ .ag x) (new:aW X.prog X.w H s.heap a g):aw X r σ (ay H a g) s:=by
 have ne: ∀b,H b=none->b≠a:=λb z w=>by subst w;rw [e] at z;cases z
 have i: ∀c b,H c=some (.ag b)->ay H a g c=some (.ag b):=λc b q=>by
   rw [jp];exact q;intro z;subst z;rw [e] at q;cases q;exact E _ rfl
 have h: ∀c d,H c=some (.ar d)->ay H a g c=some (.ar d):=λc d q=>by
   rw [jp];exact q;intro z;subst z;rw [e] at q;cases q;exact B _ rfl
 refine ⟨I.ok,I.os,I.bare,⟨I.ae.keep,I.ae.slot,λb o q n x=>?_,I.ae.there,λb d q=>?_,λb o v q=>?_,λb J q=>?_⟩,I.loc,I.cell,?_,λx c q=>?_,λp L=>?_,λb v q=>?_,I.len⟩
 . have z:=I.ae.free b o q n x;rw [jp (ne b z)];exact z
 . exact h b d (I.ae.eW b d q)
 . rw [jp (λz=>by subst z;exact l.2.1 _ _ q)];exact I.ae.eC b o v q
 . rw [jp (λz=>by subst z;exact l.2.2 _ q)];exact I.ae.eX b J q
 . rw [jp (ne _ I.free)];exact I.free
 . rw [jp (ne _ (I.cm x c q))];exact I.cm x c q
 . obtain ⟨N,m,O⟩:=I.pin p L;exact ⟨N,by rw [jp (ne _ m)];exact m,O⟩
 . by_cases y:b=a
   . subst y;rw [jk] at q;cases q;exact new.aP (λ_ _ _ z=>z) (λc z=>i c _ z) h
   . rw [jp y] at q;exact (I.aM b v q).aP (λ_ _ _ z=>z) (λc z=>i c _ z) h
def aw.freeze (I:aw X r σ H s) (e:H a=some (.dK c)) (d:s.heap.get? a=some o):aw X r σ (ay H a (.br o (.dK c))) s:=
 aw.swap I e (aw.loose I e) (λ_ z=>by cases z) (λ_ z=>by cases z) ⟨d,I.aM a _ e⟩
def aw.tO (I:aw X r σ H s) (e:H a=some (.br o (.dK c))) (l:FK X a):aw X r σ (ay H a (.dK c)) s:=
 aw.swap I e l (λ_ z=>by cases z) (λ_ z=>by cases z) (I.aM a _ e).2
end
def Dp (a:Addr) (o:Obj) (c:List (aT×V)):It:=
 ⟨λi H=>H a=some (.br o (.dK c))/\i<c.length,λi H x d=>d=H/\ ∃k v,c[i]?=some (k,v)/\x=kV k,λi H=>H a=some (.br o (.dK c))/\c.length<=i⟩
def Pu (h:(qF P w).is k u=true):aE (kV k) u:=by
 rcases qp (show Yv k u=true from h) with ⟨i,t,rfl,rfl⟩| ⟨x,t,rfl,rfl⟩
 . exact ⟨t,rfl⟩
 . exact ⟨t,rfl⟩
def KV.get (r:KV a c): ∀ {i:Nat} {k:aT} {v:V},a[i]?=some (k,v)-> ∃u,c[i]?=some (k,u):=by
 unfold KV at r
 induction r with
 |nil=>intro i k v h;simp at h
 | @cons p q _ _ h t d=>
  intro i k v e
  cases i with
  |zero=>
   obtain ⟨m,g⟩:=q;have l:p=(k,v):=by simpa using e
   subst l;have h1:=h.1;subst h1;exact ⟨g,rfl⟩
  |succ i=>simpa using d (by simpa using e)
section
variable {P:bn} {w:World} {K:aA} {tg:Expr}
def uw (g: ∀i e,o.data= .dict i e->e=p) (x:aW P w H h a (.br o (.dK l))): ∃d,KV l d/\h.DictAt (qF P w) a d p:=by
 obtain ⟨m,_,_,d,r,v,i,e,c,q,n,u⟩:=x;rw [m] at c;cases c;have:=g _ _ n;subst this;exact ⟨d,r,o,i,m,q,n,u⟩
def WV (a l:Addr) (o:Obj) (g:List (aT×V)) (ep:Nat) (p: ∀es e,o.data= .dict es e->e=ep):Turn P w K tg (Dp a o g) [l] l (λi h=>h.IsKeyIter l a i g.length ep) where
 mem:=by simp
 obj:=λi h st b m=>by
  have e:b=l:=by simpa using m
  subst e;obtain ⟨o,e,c,d⟩:=st;exact ⟨o,e,λv z=>by rw [d] at z;cases z⟩
 keep:=λi h h' st k=>st.at λo e=>k l (by simp) o e
 item:=by
  intro X B hw J hc i q s σ H E I r st L;subst B hw J;obtain ⟨N,O⟩:=L;obtain ⟨vs,x,Q⟩:=uw p (I.aM a _ N);have y:=KV.length x;obtain ⟨u,hu⟩:=KV.get x (show g[i]?=some (g[i].1,g[i].2) by simp [O]);obtain ⟨U,Y,f2,f3,f4,f5⟩:=r l (by simp);rw [y] at st;refine wpAny_pyNext_dict_item st Q hu λkey h' hk n sb=>?_
  have I1:=I.turned (t':=s.toks) (λb o m e=>(sb.2 b m).trans e) U Y f3 f4 f5;rw [<-y] at n;obtain ⟨o2,e,c,d⟩:=id n;exact ⟨key,rfl,YA e c d (by decide) ⟨kV g[i].1,H,I1,Pu hk,⟨rfl,g[i].1,g[i].2,by simp [O],rfl⟩,n,λb m=>(r b m).1⟩⟩
 done:=by
  intro X B hw J hc i q s σ H E I r st L;subst B hw J;obtain ⟨N,O⟩:=L;obtain ⟨vs,x,Q⟩:=uw p (I.aM a _ N);have y:=KV.length x;obtain ⟨U,Y,f2,f3,f4,f5⟩:=r l (by simp);rw [y] at st;exact wpAny_pyNext_dict_end (I.ok.hd hc) st Q (by simp;omega) λh' eb=>⟨rfl,I.turned (λb o m e=>eb b o m e) U Y f3 f4 f5⟩
 self:=λ_ _ _ _ _ st h=>wpAny_pyIter_keyiter st h
end
section
variable {X:Cx} {tg:Expr}
def Pw (e:TE):TI:=λg H R=>e g H λx d=> ∃a c,x= .ref a/\d a=some (.dK c)/\ ∀o,R (Dp a o c) (ay d a (.br o (.dK c)))
def Ye (g:PE X l B):PI X tg l (Pw B):=by
 intro c s E H R I h;refine a9 (g c s E H _ I h) λv d i=>?_;obtain ⟨x,H1,p,J,L⟩:=i
 obtain ⟨a,m,e,r,q⟩:=L;subst e;cases J;obtain ⟨zl,N,O,Q,U⟩:=p.aM a _ r;obtain ⟨o,Y,u,w,hx,y,hr⟩:=id U;have da:d.heap.DictAt (qF X.prog X.w) a O u:=⟨o,Y,w,hx,y,hr⟩
 have g:=KV.length Q;refine wpAny_pyIter_dict N da ?_;have n:=aw.freeze p r w;refine ⟨d.heap.objs.size,[d.heap.objs.size],_,_,_,rfl,n.kept λb o e=>bu _ e,WV a _ o m u (λPx e' z=>by rw [y] at z;cases z;rfl),⟨_,b0 _ rfl,rfl,by rw [g];rfl⟩,λb hb=>?_,q o⟩;have e:b=d.heap.objs.size:=by simpa using hb
 subst e;exact n.dW (aS _) (n.aM.fresh (aS _))
def Py (a:Addr) (c:List (aT×V)) (E:Ends):Ends:=⟨λd H=>(∃o,H a=some (.br o (.dK c)))/\E.nx d (ay H a (.dK c)),λv H=>(∃o,H a=some (.br o (.dK c)))/\E.rt v (ay H a (.dK c)),λ_ _=>False,λ_ _=>False⟩
def Yb {st:Stmt} (h:PS X st t):PS X st (λE p H=> ∃a d,H a=some (.dK d)/\t (Py a d E) p H):=by
 rintro i s p H E I ⟨a,d,e,q⟩;have l:=aw.loose I e;refine a9 (h i s p H _ I q) λf y n=>?_
 cases f with
 |next=>obtain ⟨c,w,m,⟨o,x⟩,g⟩:=n;exact ⟨c,_,aw.tO m x l,g⟩
 |brk=>obtain ⟨c,w,m,g⟩:=n;exact g.elim
 |cont=>obtain ⟨c,w,m,g⟩:=n;exact g.elim
 |ret u=>obtain ⟨v,c,w,m,r,⟨o,x⟩,g⟩:=n;exact ⟨v,c,_,aw.tO m x l,r,g⟩
end
def By:aT->Bool
 | .inl _=>true
 | .inr _=>false
def allI (ks:List aT):Bool:=ks.all By
def wP:Slot->Slot
 | .ab (.aJ ks a)=>if D.bC a=true then .ab (.bG ks a) else .un
 | .ag (.aJ ks a)=>if D.bC a=true then .ab (.bG ks a) else .un
 | .ab d=>if d.eK=true then .ab d else .un
 |_=> .un
def lend (env:Sl):Sl:=env.map wP
def kX (h:wP s= .ab d):(s= .ab d/\d.eK=true)\/(∃ks ds,d= .bG ks ds/\D.bC ds=true/\(s= .ab (.aJ ks ds)\/s= .ag (.aJ ks ds))):=by
 unfold wP at h
 split at h
 . split at h
   . rename_i a;cases h;exact .inr ⟨_,_,rfl,a,.inl rfl⟩
   . cases h
 . split at h
   . rename_i a;cases h;exact .inr ⟨_,_,rfl,a,.inr rfl⟩
   . cases h
 . split at h
   . rename_i a;cases h;exact .inl ⟨rfl,a⟩
   . cases h
 . cases h
def kW:wP s≠ .ag d:=by
 unfold wP
 split
 . split<;>(intro h;cases h)
 . split<;>(intro h;cases h)
 . split<;>(intro h;cases h)
 . intro h;cases h
section
variable {K:aA} {G:UP} {H0 H:Hp} {env:Sl} {σ:L2.St} {a:Addr} {kvs:List (aT×V)}
def Z6 {i:Nat}:(lend env)[i]?≠some (.ag d):=by
 intro h;unfold lend at h;rw [c6] at h
 cases e:env[i]? with
 |none=>rw [e] at h;cases h
 |some s=>rw [e] at h;exact kW (fU h)
def aD.held (r:aD K A H v d) (c:d.eK=true) (e:H a=some (.dK kvs)):aD K g (ay H a (.br o (.dK kvs))) v d:=
 (r.eK (A':=λ_=>False) c).aP (λb ob q m=>by
  rw [jp];exact q
  intro z;subst z;rw [e] at q;cases q;exact m trivial) λ_ z=>z.elim
def am.held (r:am K A H v d) (c:D.bC d=true) (e:H a=some (.dK kvs)):am K g (ay H a (.br o (.dK kvs))) v d:=
 (r.eK (A':=λ_=>False) c).aP (λb ob q m=>by
  rw [jp];exact q
  intro z;subst z;rw [e] at q;cases q;exact m trivial) λ_ z=>z.elim
def au.lend (k:au K G H0 env σ H) (e:H a=some (.dK kvs)) (o:Obj):au K (λ_=>True) (ay H a (.br o (.dK kvs))) (lend env) σ (ay H a (.br o (.dK kvs))) where
 len:=by rw [k.len];simp [M.lend]
 ae:=ap.refl _
 g0:=λ_ _=>trivial
 ab:=λi d h=>by
  have w: ∀c,Sf (λ_=>True) (M.lend env) σ c:=λc=>⟨λ⟨j,B,z,_⟩=>Z6 z,trivial⟩
  have m:=h;unfold M.lend at m;rw [c6] at m
  cases n:env[i]? with
  |none=>rw [n] at m;cases m
  |some s=>
   rw [n] at m;rcases kX (fU m) with ⟨rfl,q⟩| ⟨ks,E,rfl,q,rfl|rfl⟩
   . obtain ⟨v,e1,r⟩:=k.ab i d n;exact ⟨v,e1,r.held q e⟩
   . obtain ⟨v,e1,r⟩:=k.ab i _ n;obtain ⟨p,x,rfl,l,_,u,rs⟩:=r.gG;refine ⟨_,e1,.bG ?_ u rfl (rs.held q e)⟩
     by_cases g:p=a
     . subst g;rw [e] at l;cases l;exact .inr ⟨o,jk⟩
     . exact .inl ⟨by rw [jp g];exact l,w p⟩
   . obtain ⟨p,e1,_,t⟩:=k.ag i _ n
     cases t with
     | @aJ x I _ _ l u y rs=>
     refine ⟨_,e1,.bG ?_ u y (rs.held q e)⟩
     by_cases g:p=a
     . subst g;rw [e] at l;cases l;exact .inr ⟨o,jk⟩
     . exact .inl ⟨by rw [jp g];exact l,w p⟩
 ag:=λi d h=>absurd h Z6
 mL:=λi j d J L h=>absurd h Z6
def zQ (e:H a=some (.dK kvs)) (s:ap (ay H a (.br o (.dK kvs))) d):ap H (ay d a (.dK kvs)):=λb u q=>by
 by_cases c:b=a
 . subst c;rw [e] at q;cases q;exact jk
 . rw [jp c];exact s b u (by rw [jp c];exact q)
end
def Iu (K:aA) (g:Sl->aq (Option Bool)):TS:=λE d H=> ∃G e a o,au K G e a d H/\g a= .ok o/\match o with
 |none=> ∀c,ap H c->E.nx d c
 |some b=> ∀c,ap H c->E.rt (.bl b) c
@[irreducible] def DB (X:Cx) (a:List Stmt) (g:Sl->aq (Option Bool)):Prop:=fw X a (Iu X.K g)
section
variable {X:Cx} {e c:Expr} {l:Lv} {f:T5} {y d u rp cp:Pos} {g:Sl->aq (Option Bool)} {t:T4}
def FL (t:T4) (b:Bool):Sl->aq (Option Bool):=λa=>t a>>=λr=> .ok (if r=true then some b else none)
def PB {j} (i:DT X c t):DB X [.If c [.Return (some (.Constant (.bool b) j cp)) rp] [] y] (FL t b):=by
 nomatch (fw.imp (yV (U3 i (yV (Q4 G9)) ZO)) λE p H=>by
  rintro ⟨G,m,a,o,k,n,q⟩;obtain ⟨r,e1,e2⟩:=ja n;cases e2;refine ⟨G,m,a,r,k,e1,λh s=>?_⟩
  cases r with
  |true=>rw [if_pos rfl];exact q h s
  |false=>rw [if_neg fq];exact q h s)
def zb (g:Sl->aq (Option Bool)) (j:Nat):List aT->Sl->aq (Option Bool)
 | [],_=> .ok none
 |k::ks,a=>g (a.set j (.ab (kD k)))>>=λr=>match r with
  |some b=> .ok (some b)
  |none=>zb g j ks a
def ux (i:Nat) (env:Sl):aq (List aT):=match env[i]? with
 |some (.ab (.aJ ks _))=> .ok ks
 |some (.ag (.aJ ks _))=> .ok ks
 |_=> .aj
def tP (j:Nat) (ks:List aT) (env:Sl):Option Bool->aq bD
 |some b=> .ok (.rt true (.bl b))
 |none=> .ok (.nx (match ks.getLast? with
  |none=>env
  |some k=>env.set j (.ab (kD k))))
def pT (i j:Nat) (g:Sl->aq (Option Bool)):Sl->aq bD:=λa=>ux i a>>=λks=>aK (allI ks=true) (zb g j ks (lend a)>>=tP j ks a)
def Qs {K:aA} (k:au K G I env x H) (h:ux i env= .ok ks): ∃a m,x[i]?=some (some (.ref a))/\H a=some (.dK m)/\m.map (·.1)=ks:=by
 unfold ux at h
 split at h
 . rename_i n z o;cases h;obtain ⟨v,e1,r⟩:=k.ab i _ o;obtain ⟨p,B,rfl,q,_,w,E⟩:=r.gG;exact ⟨p,B,e1,q,w⟩
 . rename_i n z o;cases h;obtain ⟨p,e1,_,t⟩:=k.ag i _ o
   cases t with
   |aJ q w J E=>exact ⟨p,_,e1,q,w⟩
 . cases h
def Jm {K:aA} (h:By k=true):aD K A H (kV k) (kD k):=by
 cases k with
 |inl i=>exact .int i
 |inr x=>cases h
def PC (i j:Nat) {Q xj:Str} (hp:rf (model X.prog X.w) X.A X.env X.xe) (hc:X.bz=true) (hN:X.N.Nodup) (hb:DB X U g)
   (hi:X.N[i]?=some Q:=by rfl) (hv:dE X.env.scope Q:=by exact bT rfl)
   (hd:ZH Q:=by decide) (oO:UR Q:=by decide)
   (hj:X.N[j]?=some xj:=by rfl) (hx:Loc X.env.scope xj:=by exact eI rfl)
   (hf:T7 X xj:=by first|exact .inl rfl|exact .inr rfl|assumption)
   (hs: ∀x,nc (.Name Q u) X.env x=pure x:=by intro _;rfl):DS X (.For (.Name xj d) (.Name Q u) U [] y) (pT i j g):=by
 nomatch (
  PS.imp (Yb (Kn hp hc (Ye (qw hi hv hd oO)) (JT hN hj hx hf) hb hs)) λE σ H=>by
   rintro ⟨G,H0,L,out,k,ef,q⟩;obtain ⟨ks,e1,e2⟩:=ja ef;obtain ⟨p,e3⟩:=jl e2;obtain ⟨r,e4,e5⟩:=ja e3;obtain ⟨a,h,Bz,Y,tQ⟩:=Qs k e1;subst tQ
   have oe: ∀(n:Nat) (k:aT) (v:V),h[n]?=some (k,v)->By k=true:=λn k v z=>by
     unfold allI at p;rw [iE] at p;exact p k (bP.mpr ⟨(k,v),gt z,rfl⟩)
   refine ⟨a,h,Y,.ref a,Bz,a,h,rfl,Y,λo=>?_⟩;have kl:=k.lend Y o
   refine ⟨λn m w H'=>m=h.length-n/\n<=h.length/\ap (ay H a (.br o (.dK h))) H'/\((n=0/\w=σ)\/ ∃kk v,n≠0/\h[n-1]?=some (kk,v)/\w=σ.set j (some (kV kk)))/\zb g j ((h.map (·.1)).drop n) (lend L)= .ok r,
     ⟨h.length,by simp,dR _,ap.refl _,.inl ⟨rfl,rfl⟩,by simpa using e4⟩,?_⟩
   rintro n m w H' ⟨rfl,hn,sm,ii,I⟩;have J:=sm a _ jk
   have og: ∀v,w.set j v=σ.set j v:=λv=>by
     rcases ii with ⟨_,rfl⟩| ⟨_,_,_,_,rfl⟩
     . rfl
     . rw [List.set_set]
   by_cases bt:n<h.length
   . have B:h[n]?=some (h[n].1,h[n].2):=by simp [bt]
     have N:(h.map (·.1)).drop n=h[n].1::(h.map (·.1)).drop (n+1):=by
       rw [wU (by simpa using bt)];simp
     rw [N] at I;obtain ⟨ro,g1,g2⟩:=ja I
     refine .inr ⟨⟨J,bt⟩,λBA H2=>ap (ay H a (.br o (.dK h))) H2/\BA=σ.set j (some (kV h[n].1))/\zb g j ((h.map (·.1)).drop (n+1)) (lend L)= .ok r,
       λBA H2 ⟨z1,z2,z3⟩=>⟨h.length-(n+1),by omega,rfl,bt,z1,.inr ⟨h[n].1,h[n].2,by omega,by simpa using B,z2⟩,z3⟩,λx H2 ⟨y1,kk,v,y2,y3⟩=>?_⟩
     subst y1 y3;rw [B] at y2;cases y2;show Iu X.K g _ (w.set j (some (kV h[n].1))) H2;rw [og];refine ⟨_,_,(lend L).set j (.ab (kD h[n].1)),ro,(kl.ao sm).dy (Jm (oe _ _ _ B)),g1,?_⟩
     cases ro with
     |none=>exact λH3 s3=>⟨sm.trans s3,rfl,g2⟩
     |some b=>
       cases g2;cases e5;intro H3 s3;exact ⟨⟨o,s3 _ _ J⟩,q (.bl b) _ (k.ae.trans (zQ Y (sm.trans s3))) (.bl b) (λ_ z zz=>by cases zz)⟩
   . have zf:n=h.length:=by omega
     subst zf;rw [wV (by simp)] at I;cases I;cases e5;have sH:=zQ Y sm;refine .inl ⟨⟨J,aS _⟩,⟨o,J⟩,?_⟩;rcases ii with ⟨h0,rfl⟩| ⟨kk,v,h0,hl,rfl⟩
     . have tR:=FM h0;subst tR;exact q _ _ (k.ao sH) (bg.refl sH)
     . have O:(h.map (·.1)).getLast?=some kk:=by
        rw [FN,c6,bN,hl];rfl
       rw [O] at q
       exact q _ _ ((k.ao sH).dy (Jm (oe _ _ _ hl))) (.set sH λ_ _ z _=>by cases z))
end
section
variable {X:Cx}
def cF:D->D->aq D
 | .bG ks a,c=>match dP c with
  |some k=>match ba ks a k with
   |some d=> .ok d
   |none=> .aj
  |none=> .aj
 | .dS ks a,c=>match dP c with
  |some k=>match ba ks a k with
   |some d=> .ok d
   |none=> .aj
  |none=> .aj
 |_,_=> .aj
def Iv:R2:=λx y H Q=> ∃a c k v,x= .ref a/\y=kV k/\Rd H a (.dK c)/\b7 c k=some v/\Q v H
def PD (l:X.A.units+20<cLine):mJ X Iv:=by
 intro value c i s B H x y v u Q I m n h o;obtain ⟨a,d,k,z,rfl,rfl,p,r,q⟩:=h;obtain rfl:v=cX a:=m;have g:gz H a (kV k) (some z):=by rw [<-r];exact .inl ⟨d,k,p,rfl,rfl⟩
 exact tail_any (yf I g) va.lookup (Qw l I g n λE J w e=>⟨z,H,w,e,q⟩) o
def PF {K:aA} (p:aD K A H x a) (u:aD K Any H y b) (h:cF a b= .ok d) (q: ∀v,aD K A H v d->Q v H):Iv x y H Q:=by
 unfold cF at h
 split at h
 . split at h
   . rename_i k e
     split at h
     . rename_i w g;cases h
       cases p with
       | @bG _ _ a c _ _ _ i l m r=>
        subst l m;obtain ⟨v,n,o⟩:=(xv k r.low).1 _ g;exact ⟨a,c,k,v,rfl,xx u e,i.elim (λz=> .inl z.1) .inr,n,q v o⟩
     . cases h
   . cases h
 . split at h
   . rename_i k e
     split at h
     . rename_i w g;cases h
       cases p with
       | @dS _ _ a c _ _ _ i l m r=>
        subst l m;obtain ⟨v,n,o⟩:=(xv k r.low).1 _ g;exact ⟨a,c,k,v,rfl,xx u e,.inr i,n,q v o⟩
     . cases h
   . cases h
 . cases h
def Qv {e:Pos} (m:X.A.units+20<cLine) (n:DE X .s a o) (p:DE X N b r) (u:yj b:=by intro _ _;rfl):DE X .s (.Subscript a b e) (av o r cF):=by
 nomatch (
  PE.imp (VB (PD m) n p u) λO H Q=>by
   rintro ⟨G,h,c,d,k,g,q⟩;obtain ⟨w,e1,g⟩:=ja g;obtain ⟨z,e2,B⟩:=ja g;refine ⟨G,h,c,w,k,e1,λx U i E _=>⟨G,h,c,z,k.ao i,e2,λy I l J _=>?_⟩⟩
   exact PF (E.ao l) (J.aG Lv.bv) B λv L=>q v I (i.trans l) L trivial)
def kJ:AV X "dict.clear" (λx e H Q=> ∃a c,x= .ref a/\e=[]/\H a=some (.dK c)/\Q .aV (ay H a (.dK []))):=by
 rintro g s p H x e v r Q I h i ⟨a,c,l,m,n,q⟩;subst l m;cases h;have d:=i.zero;subst d;exact Ni I n λu o=>⟨.aV,_,o,rfl,q⟩
def uI (i:Nat):Sl->aq bD:=λa=>n9 i a>>=λ_=> .ok (.nx (a.set i (.ag (.aJ [] []))))
def uj (i:Nat) {p c d l:Pos} (y:X.N[i]?=some x:=by rfl) (z:dE X.env.scope x:=by exact bT rfl)
   (B:ZH x:=by decide) (n:UR x:=by decide)
   (g:lx (.Name x p) "clear" X.env (eval (.Name x p) X.env)=eval (.Name x p) X.env:=by rfl) (h:(c.endLine==d.line)=true:=by rfl)
   (r:gb (.Call (.Attribute (.Name x p) "clear" c) [] [] d) none l.line X.env=pure false:=by rfl):DS X (.Expr (.Call (.Attribute (.Name x p) "clear" c) [] [] d) l) (uI i):=by
 nomatch (
  PS.imp (JQ (Hy PySem.F.plainAttrs_dict PySem.F.slot_dict_clear PySem.F.type_dict_clear kJ (qw y z B n) g h) r) λE I H=>by
   rintro ⟨G,O,J,o,k,L,q⟩;obtain ⟨Q,e1,e2⟩:=ja L;cases e2;have v:=Ks e1;obtain ⟨a,m,w,u,N,U⟩:=yy k v;have W:=k.ge (o':= .dK []) v w u trivial λY H' _ e _=> .aJ e rfl rfl .nil
   exact ⟨.ref a,w,.inr (.inr (.inl ⟨rfl,.inl ⟨m,u⟩⟩)),a,m,rfl,rfl,u,q I _ W.1 W.2⟩)
def uv (c fv:T5):Sl->aq D:=λa=>c a>>=λe=>fv a>>=λd=>match dP e with
 |some k=>aK (d.eK=true) (.ok (.aJ [k] [d]))
 |none=> .aj
def PH (J:DE X l1 L N) (O:DE X .s U fv):DE X .t (.Dict [some L] [U] Y) (uv N fv):=by
 nomatch (PE.imp (Nt (Nq J O Np) rfl rfl (by simp) (by simp)) λσ H Q=>by
  rintro ⟨G,v,g,d,k,n,q⟩;obtain ⟨w,e1,n⟩:=ja n;obtain ⟨dv,e2,l⟩:=ja n
  cases c:dP w with
  |none=>rw [c] at l;cases l
  |some r=>
   rw [c] at l;obtain ⟨c1,e4⟩:=jl l;cases e4;intro p h;refine ⟨G,v,g,w,k.ao (ap.ay h),e1,λx H1 u r1 _=>⟨G,v,g,dv,(k.ao (ap.ay h)).ao u,e2,λy B E r2 _=>?_⟩⟩;have hx:=xx (r1.aG Lv.bv) c;subst hx;have i:=E _ _ (u _ _ jk);refine ⟨i,[(r,y)],rfl,by simp,?_⟩;rw [Jk [(r,y)] [] (by simp)]
   have sm:ap H (ay B p (.dK [(r,y)])):=λb o e=>by
    have I:=qu e h;rw [jp I];exact E _ _ (u _ _ (by rw [jp I];exact e))
   refine q _ _ sm (.aJ jk (k.new p h) rfl rfl (.cons ?_ .nil)) (qi (ap.refl H) h);have r3:aD X.K (λ_=>False) B y dv:=r2.eK c1
   exact r3.aP (λa o e m=>by
    rw [jp]
    . exact e
    . rintro rfl;rw [i] at e;cases e
      exact (m trivial).elim) λa z=>z.elim)
def BB:D->Option Int->Option Int->aq D
 | .eJ a,lo,c=> .ok (.ah (cutD a lo c))
 |_,_,_=> .aj
def uz {lo:Option Expr} (y:DE X .s e f) (B:DO X lo E) (I:DO X J L):
   DE X .t (.Subscript e (.Slice lo J none p2) N) (jW f E L BB):=by
 nomatch (
  PE.imp (Kp l6 y B I) λσ H Q=>by
   rintro ⟨G,l,g,d,k,h,q⟩;obtain ⟨a,e1,h⟩:=ja h;obtain ⟨m,e2,h⟩:=ja h;obtain ⟨n,O,v⟩:=ja h;refine ⟨G,l,g,a,k,e1,λx H1 o U _=>⟨G,l,g,m,k.ao o,e2,λH2 r=>⟨G,l,g,n,(k.ao o).ao r,O,λY w=>?_⟩⟩⟩;have u:=o.trans (r.trans w)
   cases a with
   |eJ ds=>
    cases v;obtain ⟨b,xs,rfl,hb,rs⟩:=((U.ao r).ao w).lB;refine ⟨b,xs,rfl,hb.np,λp i=>q _ _ (u.trans (ap.ay i)) (.ah jk (k.new p (ap.free u i)) (((YN rs).laid i).aG λc z=>⟨z.1,z.2⟩)) ((qi (ap.refl Y) i).ao u)⟩
   |_=>cases v)
def Iw (K:aA):R2:=λx y H Q=> ∃l b a c,x= .ref l/\y= .ref b/\c9 K H l a/\c9 K H b c/\a.length+c.length<=aH/\ ∀p,H p=none->Q (.ref p) (ay H p (.ah (a++c)))
def PJ:dc X (iA .Add) (Iw X.K):=by
 intro g s σ H x y v u Q I E J h;obtain ⟨l,b,xs,zs,rfl,rfl,L,N,hz,q⟩:=h;cases E;cases J;obtain ⟨c,r,⟨⟨c1,d1,O,d⟩,U,i,m,n,o⟩,z1⟩:=I.list L;obtain ⟨a,p,⟨⟨c2,d2,Y,e⟩,n2,g2,w,z,B⟩,z2⟩:=I.list N;simp only at m n o w z B;subst m n o w z B;have hl:=r.length;have C3:=p.length;refine concat_meets ⟨_,i,rfl⟩ ⟨_,g2,rfl⟩ noFill_list_add seq_list_add F.slot_list_add F.entry_list_add (F.args_list_add_2 _ _) (list_addW l b c.toArray a.toArray U n2 none none d e (by rw [cn,cn];omega)) ⟨i,g2,?_⟩;have ea:c.toArray++a.toArray=(c++a).toArray:=by simp
 rw [ea];exact ⟨.ref _,_,I.pB (r.append p) (by rw [de];omega),rfl,q _ I.fresh⟩
def pU:D->D->aq D
 | .eJ a,.ah b=>aK (a.length+b.length<=aH) (.ok (.ah (a++b)))
 |_,_=> .aj
def PK {K:aA}:CW K (Iw K) pU:=by
 intro A x y H a b d Q n o e q;unfold pU at e
 split at e
 . obtain ⟨r,u⟩:=jl e;cases u;obtain ⟨l,v,rfl,w,i⟩:=n.lB;obtain ⟨B,E,rfl,h,_,m⟩:=o.cP;refine ⟨l,B,v,E,rfl,rfl,w.np,.of h,i.len_app m.low r,λp g=>q _ _ (ap.ay g) ?_ (qi (ap.refl H) g)⟩;exact .ah jk (.inl g) (((i.append m.low).laid g).aG λc z=>⟨.inr z.1,z.2⟩)
 . cases e
def Ix (i j:Int):Prop:=0<j/\j<2^200
def Ku:dc X (iA .FloorDiv) (rI Ix λi j=> .int (i/j)):=AD λi j _ _ _ _ _ a q=>by
 have d:=a.1;have e:=a.2;refine floordiv_int (by omega) (by rw [EC i (by omega)];exact q) (.inl (PyProof.noPylong_of_log2 ?_));have c:j.natAbs<2^200:=by omega
 exact eV ((Nat.log2_lt (by omega)).mpr c) (by omega)
abbrev tU:Int->Int->Prop:=λ_ j=>0<j/\j<2^200
def Kx {K:aA}:gn K (rI Ix λi j=> .int (i/j)) (gD tU λi j=> .int (i/j)):=nZ (λ_ _ h=>h) λi j=>iC _
abbrev pV:=gD tU λi j=> .int (i/j)
def vm:lH "dict" :=Wb λK=>⟨rfl,rfl,rfl,rfl,rfl,rfl,rfl⟩
end
section
variable {X:Cx} {e:Expr}
def PL {t:TE} (h:PE X e t):PE X e (λg H Q=> ∃a c,H a=some (.dK c)/\ ∀o,t g (ay H a (.br o (.dK c))) λv i=>i a=some (.br o (.dK c))/\Q v (ay i a (.dK c))):=by
 rintro d s g H Q I ⟨a,c,e,q⟩;have l:=aw.loose I e;obtain ⟨_,_,u,_,o,_,_,m,_⟩:=I.aM a _ e;refine a9 (h d s g _ _ (aw.freeze I e m) (q o)) λv w ⟨x,y,n,p,e1,r⟩=>⟨x,_,aw.tO n e1 l,p,r⟩
def Dq (i:Nat) (env:Sl):aq Sl:=match env[i]? with
 |some (.ab (.aJ ks a))=>aK (D.bC a=true) (.ok ((lend env).set i (.ab (.dS ks a))))
 |some (.ag (.aJ ks a))=>aK (D.bC a=true) (.ok ((lend env).set i (.ab (.dS ks a))))
 |_=> .aj
def sv:D->Bool
 | .aV=>true
 | .bl _=>true
 | .int _=>true
 |_=>false
def vB (i:Nat) (f:T5):Sl->aq D:=λc=>Dq i c>>=λa=>f a>>=λd=>aK (sv d=true) (.ok d)
def PM {K:aA} {A:UP} {H:Hp} {v:V} {d:D} (r:aD K A H v d) (h:sv d=true):Sc K v d:=by
 cases d with
 |aV=>rw [r.pH];exact HE
 |bl b=>rw [r.rz];exact me b
 |int i=>rw [r.cb];exact iC i
 |_=>cases h
def au.hold {K:aA} {G:UP} {B H:Hp} {env m:Sl} {n:L2.St} {i:Nat} (k:au K G B env n H) (h:Dq i env= .ok m):
   ∃a c,H a=some (.dK c)/\ ∀o,au K (λ_=>True) (ay H a (.br o (.dK c))) m n (ay H a (.br o (.dK c))):=by
 have key: ∀(a:Addr) (c:List (aT×V)) (ks:List aT) (l:List D),H a=some (.dK c)->n[i]?=some (some (.ref a))->c.map (·.1)=ks->(∃A,am K A H (c.map (·.2)) l)->D.bC l=true-> ∀o,au K (λ_=>True) (ay H a (.br o (.dK c))) ((M.lend env).set i (.ab (.dS ks l))) n (ay H a (.br o (.dK c))):=by
   rintro a c ks l z x q ⟨A,rs⟩ g o;have E:=k.lend z o;have:=E.dy (i:=i) (v:= .ref a) (d:= .dS ks l) (.dS ⟨o,jk⟩ q rfl (rs.held g z))
   have e:n.set i (some (V.ref a))=n:=by
    obtain ⟨J,e⟩:=c7.mp x;rw [<-e,List.set_getElem_self]
   rw [e] at this;exact this
 unfold Dq at h
 split at h
 . rename_i ks l y;obtain ⟨g,h2⟩:=jl h;cases h2;obtain ⟨v,e1,r⟩:=k.ab i _ y;obtain ⟨p,u,rfl,w,_,q,rs⟩:=r.gG;exact ⟨p,u,w,key p u ks l w e1 q ⟨_,rs⟩ g⟩
 . rename_i ks l y;obtain ⟨g,h2⟩:=jl h;cases h2;obtain ⟨p,e1,_,t⟩:=k.ag i _ y
   cases t with
   | @aJ u L _ _ w q I rs=>
    subst I;exact ⟨p,u,w,key p u ks l w e1 q ⟨_,rs⟩ g⟩
 . cases h
def PN (i:Nat) {l l':Lv} {f:T5} (h:DE X l e f):DE X l' e (vB i f):=by
 nomatch (
  PE.imp (PL h) λB H Q=>by
   rintro ⟨G,E,w,d,k,g,q⟩;obtain ⟨c,e1,g⟩:=ja g;obtain ⟨I,e2,x⟩:=ja g;obtain ⟨m,y⟩:=jl x;cases y;obtain ⟨a,n,p,z⟩:=k.hold e1;refine ⟨a,n,p,λo=>⟨_,_,c,d,z o,e2,λv J s r _=>⟨s _ _ jk,?_⟩⟩⟩;have u:=PM r m
   exact q v _ (zQ p s) (u.1 _ _) u.T)
end
section
variable {X:Cx} {tg e:Expr}
def PP (g:TE):TI:=λh H R=>g h H λx d=> ∃a o c,x= .ref a/\d a=some (.br o (.dK c))/\R (Dp a o c) d
def PQ {p:TE} (l:PE X e p):PI X tg e (PP p):=by
 intro c s y H R I h;refine a9 (l c s y H _ I h) λv d m=>?_;obtain ⟨x,H1,i,B,E⟩:=m
 obtain ⟨a,o,n,J,L,q⟩:=E;subst J;cases B;obtain ⟨r,zl,N,O,Q,o',U,u,g,Y,w,hr⟩:=i.aM a _ L;rw [r] at g;cases g;have da:d.heap.DictAt (qF X.prog X.w) a O u:=⟨o,U,r,Y,w,hr⟩
 have l:=KV.length Q;refine wpAny_pyIter_dict N da ?_;refine ⟨d.heap.objs.size,[d.heap.objs.size],_,_,_,rfl,i.kept (t':=d.toks) λb o e=>bu _ e,WV a _ o n u (λPx e' z=>by rw [w] at z;cases z;rfl),⟨_,b0 _ rfl,rfl,by rw [l];rfl⟩,λb hb=>?_,q⟩;have e:b=d.heap.objs.size:=by simpa using hb
 subst e;exact i.dW (aS _) (i.aM.fresh (aS _))
def Yt (f:T5):Sl->aq (List D):=λa=>f a>>=λd=>match d with
 | .dS ks _=>aK (allI ks=true) (.ok (ks.map kD))
 |_=> .aj
theorem Xn {K:aA} {A:UP} {H:Hp}: ∀a:List (aT×V),allI (a.map (·.1))=true->am K A H (a.map λq=>kV q.1) ((a.map (·.1)).map kD)
 | [],_=> .nil
 |p::r,h=>by
  unfold allI at h;simp only [cY,sQ,dj] at h;exact .cons (Jm h.1) (Xn r h.2)
def PR {f:T5} (h:DE X .s e f):DI X tg e (Yt f):=by
 nomatch (
  PI.imp (PQ h) λσ H R=>by
   rintro ⟨G,B,n,ds,k,E,q⟩;obtain ⟨d,e1,e2⟩:=ja E
   cases d with
   |dS ks es=>
    obtain ⟨l,I⟩:=jl e2;cases I;refine ⟨G,B,n,_,k,e1,λv J r L _=>?_⟩
    cases L with
    | @dS _ _ a c _ _ _ N O k2 rs=>
     obtain ⟨o,m⟩:=N;subst O;refine ⟨a,o,c,rfl,m,q (Dp a o c) J (λp=>p a=some (.br o (.dK c))) r (Walk.toD (Xn c l) ?_) m λu Q p U=>U.keep a _ m λY=>?_⟩
     . intro i p w;have z:(c.map λq=>kV q.1).length=c.length:=bN ..;refine ⟨λg=>⟨w,by rw [z] at g;exact g⟩,λg x H2 y=>?_,λg=>⟨w,by rw [z] at g;exact g⟩⟩;obtain ⟨y1,kk,v,y2,y3⟩:=y;exact ⟨y1,by rw [c6,y2,y3];rfl⟩
     . exact (k.ao r).lD Y m
   |_=>cases e2)
end
mutual
def oW:NK->D
 | .int i=> .int i
 | .str z=> .str z
 | .ar l=> .ar (mW l)
def mW:List NK->List D
 | []=>[]
 |k::l=>oW k::mW l
end
mutual
theorem KL: ∀k:NK,cy (oW k)=some k
 | .int i=>rfl
 | .str z=>rfl
 | .ar l=>vf (gW l)
theorem gW: ∀l:List NK,bQ (mW l)=some l
 | []=>rfl
 |k::l=>Yu (KL k) (gW l)
end
def PU {K:aA} {i:Nat} (k:au K G p env d H) (h:env[i]?=some (.ag (.obj c l ds))):
  ∃a C dx fs,d[i]?=some (some (.ref a))/\H a=some (.ins C dx fs)/\cE K bY c=some (some (.ref C))/\fs.map (·.1)=l/\am K (Sf G env d) H (fs.map (·.2)) ds:=by
 obtain ⟨a,m,_,n⟩:=k.ag i _ h
 cases n with
 |obj e g o r=>subst o;exact ⟨a,_,_,_,m,e,g.1,g.2,r⟩
structure fQ (K:aA) (c f:Str):Prop where
 ex: ∃C,cE K bY c=some (some (.ref C))/\hU K C/\dX K C f
def fQ.at {K:aA} (h:fQ K c f) (e:cE K bY c=some (some (.ref C))):hU K C/\dX K C f:=by
 obtain ⟨a,h1,h2⟩:=h.ex;rw [e] at h1;cases h1;exact h2
inductive bf where
 |nx (env:Sl)|rt (d:D) (env:Sl)|ct (env:Sl)
def FP (K:aA) (G:UP) (h:Hp) (i:Nat) (a:Addr) (env:Sl) (l:L2.St) (H:Hp) (E:Ends):bf->Prop
 | .nx c=> ∀e g,au K G h c e g->At e i a->bg env l H c e g->E.nx e g
 | .rt d c=> ∀v e g,au K G h c e g->At e i a->bg env l H c e g->aD K (Sf G c e) g v d->E.rt v g
 | .ct c=> ∀e g,au K G h c e g->At e i a->bg env l H c e g->E.ct e g
def Iy (K:aA) (i:Nat) (g:Sl->aq bf):TS:=λE d H=> ∃G e c o a,au K G e c d H/\At d i a/\g c= .ok o/\FP K G e i a c d H E o
@[irreducible] def iZ (X:Cx) (i:Nat) (st:Stmt) (g:Sl->aq bf):Prop:=PS X st (Iy X.K i g)
@[irreducible] def eP (X:Cx) (i:Nat) (st:List Stmt) (g:Sl->aq bf):Prop:=fw X st (Iy X.K i g)
theorem Yi {K:aA} (f:bg env p H d n r) (q:FP K G u i a env p H E o):FP K G u i a d n r E o:=by
 cases o with
 |nx e=>exact λc g h l m=>q c g h l (f.trans m)
 |rt b e=>exact λv c g h l m w=>q v c g h l (f.trans m) w
 |ct e=>exact λc g h l m=>q c g h l (f.trans m)
section
variable {X:Cx} {i:Nat} {e B tg:Expr} {st:Stmt} {rest L O:List Stmt} {J p apos:Pos} {l:Lv} {f:T5} {g N g2:Sl->aq bf} {c n x:Str}
def bB (N g2:Sl->aq bf):Sl->aq bf:=λd=>N d>>=λo=>match o with
 | .nx a=>g2 a
 | .rt b e=> .ok (.rt b e)
 | .ct e=> .ok (.ct e)
def j6 (u:iZ X i st N) (v:eP X i rest g2):eP X i (st::rest) (bB N g2):=by
 nomatch (fw.imp (Kl u v) λE Y H=>by
  rintro ⟨G,m,h,o,a,k,w,y,q⟩;obtain ⟨r,e1,e2⟩:=ja y;refine ⟨G,m,h,r,a,k,w,e1,?_⟩
  cases r with
  |nx d=>exact λz H' I Q U=>⟨G,m,d,o,a,I,Q,e2,Yi U q⟩
  |rt b d=>cases e2;exact q
  |ct d=>cases e2;exact q)
def qm (a:iZ X i st N):eP X i [st] N:=by
 nomatch (fw.imp (yV a) λE d H q=>q)
def mX:Sl->aq bf:=λa=> .ok (.nx a)
def wX:eP X i [] mX:=by
 nomatch (fw.imp ZO λE d H=>by
  rintro ⟨G,u,h,o,a,k,m,r,q⟩;cases r
  exact q d H k m (bg.refl (ap.refl H)))
def i3 (t:T4) (N g2:Sl->aq bf):Sl->aq bf:=λa=>t a>>=λb=>if b=true then N a else g2 a
def yJ (r:DT X B t) (u:eP X i L N) (v:eP X i O g2):iZ X i (.If B L O J) (i3 t N g2):=by
 nomatch (PS.imp (U3 r u v) λE y H=>by
  rintro ⟨G,h,d,o,a,k,m,w,q⟩;obtain ⟨b,e1,e2⟩:=ja w;refine ⟨G,h,d,b,k,e1,λz s=>?_⟩
  cases b with
  |true=>
   rw [if_pos rfl] at e2 ⊢;exact ⟨G,h,d,o,a,k.ao s,m,e2,Yi (bg.refl s) q⟩
  |false=>
   rw [if_neg fq] at e2 ⊢
   exact ⟨G,h,d,o,a,k.ao s,m,e2,Yi (bg.refl s) q⟩)
def gH (f:T5):Sl->aq bf:=λa=>f a>>=λd=> .ok (.rt d a)
def ye (h:DE X .s e f):iZ X i (.Return (some e) J) (gH f):=by
 nomatch (PS.imp (Q4 h) λE u H=>by
  rintro ⟨G,w,m,o,a,k,y,z,q⟩;obtain ⟨d,e1,e2⟩:=ja z;cases e2
  exact ⟨G,w,m,d,k,e1,λv I s r _=>q v u I (k.ao s) y (bg.refl s) r⟩)
def tV (i:Nat) (c:Str):Sl->aq (List Str×List D):=λa=>match a[i]? with
 |some (.ag (.obj d h m))=>aK (d=c) (.ok (h,m))
 |_=> .aj
def PV (h:tV i c env= .ok q):env[i]?=some (.ag (.obj c q.1 q.2)):=by
 unfold tV at h
 split at h
 . rename_i m o r e;obtain ⟨a,d⟩:=jl h;subst a;cases d;exact e
 . cases h
end
structure i4 (P:bn) (w:World) (K:aA) (mg:UQ) (ae:Heap) (k:Nat) (c m:Str) (ps:List Str) (fr:Bool) (F:TY):Prop where
 ex: ∃C f fd,bS P w K mg ae eG k f fd ps (lE K fr ps.length F)/\cE K bY c=some (some (.ref C))/\hU K C/\Meth K C m f/\Binds K fd ps []
def i4.mono {K:aA} (h:i4 P w K mg ae j c m d e F) (g:j<=k):i4 P w K mg ae k c m d e F:=
 let ⟨C,f,i,a,b⟩:=h.ex
 ⟨C,f,i,a.mono g,b⟩
section
variable {X:Cx} {k n:Nat} {c m:Str} {ps:List Str} {fr:Bool} {F:TY} {o e:Expr} {es:List Expr} {pos apos:Pos} {fo:T5} {g:TZ} {pl:Sem Bool}
def rj:Sl->aq (List D):=λ_=> .ok []
end
section
variable {P:bn} {w:World} {K:aA} {mg:UQ} {ae:Heap}
def PX {st:Stmt} (n:Bool) (q:iR K m a st f o) (r:cE K bY c=some (some (.ref C))) (u:hU K C) (v:Meth K C m f) (S:ax N p (jf st)) (l:Binds K o p [])
  (x: ∀(i:Value) (A:bp) (e:List Env) (s:az) (H:Hp) (E:XK),aL k (A.deeper (gm a (jf st) s.heap.objs.size f i))->iS (cO eG P w K mg ae N a (jf st) f i A e s H E).iL (qj st) g):
  i4 P w K mg ae (k+1) c m p n (aX n N.length g):=
 ⟨C,f,o,Fg q S x λy d _ h=>yT h,r,u,v,l⟩
end
abbrev FO:=D->List D->aq (D×D)
def BC (K:aA) (n:Nat) (F:FO):Sp:=λl H Q _=> ∃(B:UP) (g:List D) (e:List V) (a:Addr) (h r i:D),l=V.ref a::e/\e.length=n/\am K (λc=>B c/\c≠a) H e g/\Top K (λc=>B c/\c≠a) H a h/\F h g= .ok (r,i)/\
 ∀v d,(∀c o,c≠a->H c=some o->d c=some o)->Top K (λc=>(H c=none\/B c)/\c≠a) d a i->aD K (λc=>(H c=none\/B c)/\c≠a) d v r->Q v d
def Jg (n:Nat) (a:D) (ds:List D):Sl:= .ag a::(ds.map .ab++ri (n-ds.length-1) .un)
def xH (h:(Jg n c ds)[j]?=some s):(j=0/\s= .ag c)\/(∃a d,j=a+1/\ds[a]?=some d/\s= .ab d)\/s= .un:=by
 unfold Jg at h
 cases j with
 |zero=>simp at h;exact .inl ⟨rfl,h.symm⟩
 |succ j=>
  rw [rM] at h
  by_cases q:j<ds.length
  . rw [fI (by simpa using q),c6] at h
    cases e:ds[j]? with
    |none=>rw [e] at h;cases h
    |some x=>rw [e] at h;cases h;exact .inr (.inl ⟨j,x,rfl,e,rfl⟩)
  . rw [eD (by simpa using q),nM] at h
    split at h
    . cases h;exact .inr (.inr rfl)
    . cases h
def VT {K:aA} {B:UP} (r:am K (λc=>B c/\c≠a) H g ds) (t:Top K (λc=>B c/\c≠a) H a u) (I:ds.length+1<=N.length):
   au K (λc=>H c=none\/c=a\/B c) (λc=>if c=a then none else H c) (Jg N.length u ds) (start N (V.ref a::g)) H/\At (start N (V.ref a::g)) 0 a:=by
 have y:=r.length
 have l:At (start N (V.ref a::g)) 0 a:=by
   show (L2.start N (V.ref a::g))[0]?=_;unfold L2.start;simp
 have n: ∀(j:Nat) (v:V),g[j]?=some v->(start N (V.ref a::g))[j+1]?=some (some v):=λj v h=>by
   have J:=(c7.mp h).1;unfold L2.start;rw [fI (by simp;omega),c6,rM,h];rfl
 have p: ∀c,jS (Jg N.length u ds) (start N (V.ref a::g)) c->c=a:=λc ⟨j,d,q,m⟩=>by
   rcases xH q with ⟨rfl,_⟩| ⟨_,_,_,_,z⟩|z
   . rw [l] at m;cases m;rfl
   . cases z
   . cases z
 have w: ∀c,B c/\c≠a->Sf (λc=>H c=none\/c=a\/B c) (Jg N.length u ds) (start N (V.ref a::g)) c:=λc z=>⟨λo=>z.2 (p c o),.inr (.inr z.1)⟩
 refine ⟨⟨?_,λc o e=>?_,λc e=>?_,λj d h=>?_,λj d h=>?_,λj x d e b q m L O=>?_⟩,l⟩
 . simp [L2.start,Jg,y];omega
 . split at e
   . cases e
   . exact e
 . split at e
   . rename_i z;exact .inr (.inl z)
   . exact .inl e
 . rcases xH h with ⟨_,z⟩| ⟨x,E,rfl,e,z⟩|z
   . cases z
   . cases z;obtain ⟨v,q,m⟩:=r.get e;exact ⟨v,n x v q,m.aG w⟩
   . cases z
 . rcases xH h with ⟨rfl,z⟩| ⟨x,E,_,e,z⟩|z
   . cases z;exact ⟨a,l,if_pos rfl,t.aP (λ_ _ e _=>e) w λ_ e=>e⟩
   . cases z
   . cases z
 . have i: ∀(j:Nat) (d:D),(Jg N.length u ds)[j]?=some (.ag d)->j=0:=λj d h=>by
     rcases xH h with ⟨z,_⟩| ⟨_,_,_,_,z⟩|z
     . exact z
     . cases z
     . cases z
   rw [i j d q,i x e m]
def UM:Sl->aq D
 | .ag d::_=> .ok d
 |_=> .aj
def UL (h:UM env= .ok d):env[0]?=some (.ag d):=by
 unfold UM at h
 split at h
 . cases h;rfl
 . cases h
def gI (N n:Nat) (g:Sl->aq bf):FO:=λe c=>aK (c.length=n) (g (Jg N e c)>>=λo=>match o with
 | .nx a=>UM a>>=λd=> .ok (.aV,d)
 | .rt r a=>UM a>>=λd=> .ok (r,d)
 | .ct _=> .aj)
section
variable {P:bn} {w:World} {K:aA} {mg:UQ} {ae:Heap}
def Iz {m u:Str} {st:Stmt} (Fu:iR K m u st f fd) (S:ax N ps (jf st)) (hn:ps.length=n+1) (hN:n+1<=N.length)
  (hb: ∀(x:Value) (A:bp) (p:List Env) (s:az) (H:Hp) (E:XK),aL k (A.deeper (gm u (jf st) s.heap.objs.size f x))->eP (cO eG P w K mg ae N u (jf st) f x A p s H E).iL 0 (qj st) g):
  bS P w K mg ae eG (k+1) f fd ps (BC K n (gI N.length n g)):=by
 nomatch (by
 refine Fu.ok S (λvs H Q E ⟨B,ds,us,a,d0,r,d1,Y,hl,_⟩=>by rw [Y,b9,hl,hn]) (λx A p s H vs Q E hr h=>?_);obtain ⟨B,ds,us,a,d0,r,d1,Y,hl,rs,t,I,q⟩:=h;refine ⟨_,hb x A p s H E hr,?_⟩;obtain ⟨e0,I⟩:=jl I;obtain ⟨o,e1,I⟩:=ja I;subst Y;obtain ⟨kk,FQ⟩:=VT (N:=N) rs t (by omega)
 have O: ∀(i:Sl) (l:L2.St) (y:Hp) (v:V),au K (λc=>H c=none\/c=a\/B c) (λc=>if c=a then none else H c) i l y->At l 0 a->UM i= .ok d1->aD K (Sf (λc=>H c=none\/c=a\/B c) i l) y v r->Q v y:=λi l y v J L e2 rv=>by
  have hi:=UL e2;obtain ⟨a2,h1,_,t2⟩:=J.ag 0 _ hi;rw [L] at h1;cases h1
  have ww: ∀c,Sf (λc=>H c=none\/c=a\/B c) i l c->(H c=none\/B c)/\c≠a:=λc z=>by
   have U:c≠a:=by
     rintro rfl;exact z.1 ⟨0,_,hi,L⟩
   refine ⟨?_,U⟩;rcases z.2 with z|z|z
   . exact .inl z
   . exact absurd z U
   . exact .inr z
  exact q v y (λc o hc e=>J.ae c o (by rw [if_neg hc];exact e)) (t2.aP (λ_ _ e _=>e) ww λ_ e=>e) (rv.aG ww)
 refine ⟨_,_,_,o,a,kk,FQ,e1,?_⟩
 cases o with
 |nx i=>
  obtain ⟨d,e2,e3⟩:=ja I;cases e3;exact λl y J L f'=>O i l y .aV J L e2 .aV
 |rt r' i=>
  obtain ⟨d,e2,e3⟩:=ja I;cases e3;exact λv l y J L f' rv=>O i l y v J L e2 rv
 |ct i=>cases I)
end
structure pW (P:bn) (w:World) (K:aA) (mg:UQ) (ae:Heap) (k:Nat) (c:Str) (n:Nat) (F:FO):Prop where
 ex: ∃C f fd ps,bS P w K mg ae eG k f fd ps (BC K n F)/\cE K bY c=some (some (.ref C))/\mg c=some (.ref C)/\Mk K C f/\Binds K fd ps []
def pW.mono {K:aA} (h:pW P w K mg ae j c n F) (d:j<=k):pW P w K mg ae k c n F:=
 let ⟨C,f,e,g,a,b⟩:=h.ex
 ⟨C,f,e,g,a.mono d,b⟩
def IA (c:Str) (n:Nat) (F:FO) (g:TZ):Sl->aq D:=λa=>g a>>=λe=>aK (e.length=n) (F (.obj c [] []) e>>=λq=>match q with
 | (.aV,d)=> .ok d
 |_=> .aj)
section
variable {P:bn} {w:World} {K:aA} {mg:UQ} {ae:Heap}
def PY {st:Stmt} (p:iR K m a st f o) (q:cE K bY c=some (some (.ref C))) (h:mg c=some (.ref C)) (mk:Mk K C f) (S:ax N i (jf st)) (l:Binds K o i []) (r:i.length=n+1) (u:n+1<=N.length)
  (v: ∀(e:Value) (A:bp) (d:List Env) (s:az) (H:Hp) (E:XK),aL k (A.deeper (gm a (jf st) s.heap.objs.size f e))->eP (cO eG P w K mg ae N a (jf st) f e A d s H E).iL 0 (qj st) g):
  pW P w K mg ae (k+1) c n (gI N.length n g):=
 ⟨C,f,o,i,Iz p S r u v,q,h,mk,l⟩
end
section
variable {prog:bn} {w:World} {A:bp} {E:UO} {s:az}
structure ei (h:Heap) (a:Addr) (es:Array (Int×Value)) (ep:Nat) (t:gJ):Prop where
 ex: ∃o,h.get? a=some o/\o.ExactSet/\o.data= .set es ep t
 el: ∀e∈es.toList,∃k tk,e.2= .int k tk/\e.1=gr k
 bd:es.size<scanBound
 ft:t.fits es.size=true
theorem ZP {c:Type} (next:Nat->Nat): ∀(fuel k:Nat) (left:List c) (a:Array c) (x:c),x∈(zo next fuel k left a).toList->x∈left\/x∈a.toList
 |0,_,_,a,x,h=> .inr h
 |fuel+1,k,left,a,x,h=>by
  unfold zo at h
  split at h
  . rename_i y e;rcases ZP next fuel (k+1) _ _ x h with z|z
    . exact .inl (List.mem_of_mem_eraseIdx z)
    . rw [Dr,cW] at z;rcases z with z|z
      . exact .inr z
      . rw [f7] at z;subst z;exact .inl (gt e)
  . exact .inr h
end
section
variable {X:Cx} {K:aA}
def tW:R2:=λx y H Q=> ∃a c k,y= .ref a/\Rd H a (.dT c)/\TK H k x/\Q (.bl (b7 c k).isSome) H
def PZ (e:X.A.units+20<cLine):dc X (lj .In) tW:=by
 rintro d s o H x y v u Q I g h ⟨a,c,k,i,l,m,q⟩;subst i;obtain rfl:u=cX a:=h;exact ER e I (.inr ⟨c,k,l,m,rfl⟩) g λp n=>⟨.bl _,H,n,rfl,q⟩
def oh (ks:List NK) (a:D):aq D:=match bh a with
 |some k=> .ok (.bl (gj ks k))
 |none=> .aj
def Ds:D->D->aq D
 |kd,.bO ks _=>oh ks kd
 |_,_=> .aj
def P0:gn K tW Ds:=by
 intro x y H a b d Q i l e q
 have g: ∀ {p:Addr} {c:List (NK×V)},Rd H p (.dT c)->oh (c.map (·.1)) a= .ok d->tW x (.ref p) H Q:=λh e=>by
   unfold oh at e
   split at e
   . rename_i k m;cases e;refine ⟨_,_,k,rfl,h,wg i m,?_⟩;rw [<-Y6,Vl];exact q _ (me _)
   . cases e
 unfold Ds at e
 split at e
 . obtain ⟨p,c,rfl,h,_,rfl,r⟩:=l.tJ;exact g (.inl h) e
 . cases e
end
section
variable {prog:bn} {w:World} {A:bp} {E:UO} {s:az}
def Xk:typeLookup (.type "list") "keys" =pure none:=by rw [BD,BE];kernel_rfl
def vc (l:s.heap.get? a=some o) (q:o.cls= .type "list") (c:o.dict=none) (r:o.data= .seq x k) (y:A.handled=none)
  (h: ∀i tk,(∀b ob,s.heap.get? b=some ob->i.get? b=some ob)->Q none {s with heap:=i,toks:=tk}):wpAny (model prog w) A (getAttr? (.ref a) "keys") Q E s:=by
 obtain ⟨u,g,d,tk,os⟩:=s;obtain ⟨B,H,m,n⟩:=o;simp only at q c r;subst q c r;have I:(⟨u,g,d,tk,os⟩:az).TypeIs (.ref a) "list" :=⟨_,l,rfl⟩
 have p:(⟨u,g,d,tk+1,os⟩:az).TypeIs (.ref a) "list" :=⟨_,l,rfl⟩
 have J:=sub_AttributeError;have L:=FR.lookup;have N:=FR.bind (.ref a);have O:=am_list_getattr_none;unfold getAttr? getAttrBy? getAttrBy
 repeat (any_goals (first | assumption | ((with_reducible show wpAny _ _ (call (Value.builtin "list.__getattribute__") _ _) _ _ _); refine call_meets FR p am_entry_list_getattribute (F.args_list_getattribute_2 _ _) (meets_getattribute_miss_list a x k n "keys" _ Xk (by decide)) ⟨l, y, λi z e v => ?_⟩) | wp_step))
 obtain ⟨U,Y,he⟩:=v.there;unfold getattributeRaised
 repeat (any_goals (first|assumption|wp_step))
 exact h i _ v.keeps
def zg:entryFor table "dict.update.loop" =some fS.«dict.update.loop» :=entryFor_of_tree (by kernel_rfl)
def qd:plainId "dict.update.loop" =true:=by decide+kernel
def ZT (c:s.heap.get? t=some o) (d:o.cls= .type "tuple") (e:o.data= .seq a n) (h:Q a.toList s):wpAny (model prog w) A (IB (.ref t)) Q E s:=by
 unfold IB;refine ak (rl (show s.TypeIs (.ref t) "tuple" from ⟨o,c,d⟩) ?_);rw [if_pos (by decide)];refine ak (lh c e ?_);exact aC h
def XI (a:Nat->VE):Nat->List VE
 |0=>[]
 |i+1=>dI (XI a i) (a i).1 (a i).2.1 (a i).2.2
theorem QC (a:Nat->VE): ∀i,(XI a i).length<=i
 |0=>aS _
 |i+1=>bZ (LX _ _ _ _) (Nat.succ_le_succ (QC a i))
def P1 {k:NK} {a v:Value} {F:NK->Value->Prop} {d:List VE} (h: ∀x∈d,F x.1 x.2.1) (e:F k a): ∀x∈dI d k a v,F x.1 x.2.1:=by
 intro x c;unfold dI at c
 split at c
 . obtain ⟨y,g,rfl⟩:=bP.mp c
   split<;>exact h y g
 . rcases cW.mp c with z|z
   . exact h x z
   . rw [f7] at z;subst z;exact e
theorem WC {a:Nat->VE} {F:NK->Value->Prop} (h: ∀i,i<n->F (a i).1 (a i).2.1): ∀i,i<=n-> ∀x∈XI a i,F x.1 x.2.1
 |0,_,x,c=>by cases c
 |i+1,d,x,c=>P1 (WC h i (by omega)) (h i (by omega)) x c
def UA {h d:Heap} {k:NK} {a:Value} (x:eR h k a) (g: ∀b o,b<h.objs.size->h.get? b=some o->d.get? b=some o):eR d k a:=
 ⟨YU (λb i ⟨o,e,c⟩=>⟨o,g b o (bw e) e,c⟩) _ _ x.1,x.2⟩
variable {R:Result->az->Prop} {I:Addr} {U Y:List Addr} {G:Array GenState->Array GenState->Prop} {n:Nat} {P:Nat->Value->Prop} {St:Nat->az->Prop}
def VJ (W:WalksS prog w A.in1 I U Y G n P St) (d:Addr) (H:d∉U) (r:Nat->VE) (l:Heap) (p: ∀i,i<n->eR l (r i).1 (r i).2.1)
  (J: ∀i v,P i v-> ∃t o m,v= .ref t/\l.get? t=some o/\o.cls= .type "tuple" /\o.data= .seq #[(r i).2.1,(r i).2.2] m)
  (P4:l.objs.size<=d) (L: ∀b∈Y,l.objs.size<=b) (hu:A.in1.units+8<cLine) (hn:n<=aH):
  ∀(k i:Nat) (s:az),n-i=k->i<=n->St i s->bL w s.heap d (XI r i)->(∀b o,b<l.objs.size->l.get? b=some o->s.heap.get? b=some o)->
    (∀g,Moved (d::Y) G s g->bL w g.heap d (XI r n)->R (.ok (.ret .none)) g)->
    k4 (model prog w) A (.builtin "dict.update.loop" ⟨[.ref d,.ref I,dF i,.none],[]⟩) R s:=by
 have P5:d∉Y:=λh=>H (W.sub _ h)
 have y: ∀b∈Y,b∈d::Y:=λb c=>cv _ c
 have q: ∀ {s g:az} {xs:List VE},bL w s.heap d xs->(∀x∈xs,eR l x.1 x.2.1)->(∀b o,b<l.objs.size->l.get? b=some o->s.heap.get? b=some o)->Moved Y G s g->bL w g.heap d xs:=λN hx tX u=>by
  obtain ⟨o,es,ep,ho,hc,hd,he,his,Dt⟩:=N;exact ⟨o,es,ep,u.heap d _ P5 ho,hc,hd,he,λx P6=>UA (hx x P6) λb o c e=>u.heap b o (λz=>absurd (L _ z) (Du c)) (tX b o c e),Dt⟩
 intro k
 induction k with
 |zero=>
  intro i s hk hi B N hold hR;have Ec:i=n:=by omega
  subst Ec;refine oX zg ?_;rw [pX qd _];refine ak (W.done s _ _ B λg u=>?_);refine ak (aC ?_);exact aC (hR g (u.mono y) (q N (WC p _ (aS _)) hold u))
 |succ k ih=>
  intro i s hk hi B N hold hR;have bt:i<n:=by omega
  refine oX zg ?_;rw [pX qd _];refine ak (W.item i s _ _ bt B λv g hP O u=>?_);obtain ⟨t,o,m,rfl,ht,hc,hd⟩:=J i v hP;have a: ∀b o,b<l.objs.size->l.get? b=some o->g.heap.get? b=some o:=λb o c e=>u.heap b o (λz=>absurd (L _ z) (Du c)) (hold b o c e)
  have oY:=q N (WC p _ hi) hold u;have P7:=a _ _ (bw ht) ht;refine ak (gl ?_);refine ak (wpAny_tryCatch (ZT P7 hc hd ?_));refine gl ?_;have BF:eR g.heap (r i).1 (r i).2.1:=UA (p i bt) a;refine G6 hu BF oY (bZ (QC r i) (bZ hi hn)) (λh' tk le Dv hs=>?_);refine aC ⟨oZ qd _,?_⟩;have Q:=ih (i+1) {g with heap:=h',toks:=tk} (by omega) bt (W.frame _ g _ _ O le λb c o e=>?_) Dv (λb o c e=>?_) λP8 FT FU=>?_
  . exact Q
  . rw [hs.2 b (λh:b=d=>H (by rw [<-h];exact c))];exact e
  . rw [hs.2 b (λh:b=d=>absurd P4 (by rw [<-h];exact Du c))];exact a b o c e
  . refine hR P8 (Moved.trans W.gtrans ((u.mono y).then_heap le λb o c e=>?_) FT) FU;rw [hs.2 b (λh:b=d=>c (by rw [h];exact ci))];exact e
def QB (g:Nat->VE) (hh:A.handled=none) (N:s.heap.get? l=some ol) (hc:ol.cls= .type "list") (P9:ol.dict=none) (hd:ol.data= .seq a m)
  (q: ∀i,i<a.size->eR s.heap (g i).1 (g i).2.1)
  (r: ∀i v,a[i]?=some v-> ∃t o m,v= .ref t/\s.heap.get? t=some o/\o.cls= .type "tuple" /\o.data= .seq #[(g i).2.1,(g i).2.2] m) (hu:A.units+20<cLine) (hn:a.size<=aH)
  (h: ∀u tk,(∀b o,s.heap.get? b=some o->u.get? b=some o)->bL w u s.heap.objs.size (XI g a.size)->Q (.ref s.heap.objs.size) {s with heap:=u,toks:=tk}):
  wpAny (model prog w) A (call (.type "dict") [.ref l]) Q E s:=by
 refine callType_codes (Q₁:=λy d=>y= .ref s.heap.objs.size/\d={s with heap:=s.heap.push {cls:= .type "dict",data:= .dict #[]}}) F.kt_called_dict (F.kt_typeCall_dict_1 _) F.entry_dict_init (kt_code_dict_new _ ⟨rfl,rfl⟩) ?_;rintro y d ⟨rfl,rfl⟩;have z: ∀b o,s.heap.get? b=some o->(s.heap.push {cls:= .type "dict",data:= .dict #[]}).get? b=some o:=λb o e=>bu _ e
 have hT:Shared.TypeIs {s with heap:=s.heap.push {cls:= .type "dict",data:= .dict #[]}} (.ref s.heap.objs.size) "dict" :=⟨_,b0 _ rfl,rfl⟩
 have QL:Shared.TypeIs {s with heap:=s.heap.push {cls:= .type "dict",data:= .dict #[]}} (.ref l) "list" :=⟨_,z _ _ N,hc⟩
 refine ⟨hT,F.args_dict_init_2 _ _,?_⟩;unfold fS.«dict.__init__»;refine ak ?_;unfold Builtin.Dict.selfAndRest;refine ak (Ef hT ?_);refine aC ?_;show wpAny _ _ (IC "dict.__init__" s.heap.objs.size (.ref l) [] .none) _ _ _;unfold IC;refine ak (rl QL ?_);rw [if_pos (by decide)];refine ak (vc (z _ _ N) hc P9 hd (by simp [hh]) λh1 lL B=>?_);simp;refine ak (kw ?_);have H:h1.IsList l a:=⟨_,B _ _ (z _ _ N),hc,m,hd⟩
 refine ak (A0 H ?_);have c:=bw (B _ _ (b0 _ rfl));have J:=bw N;have L:=cj (pF J c);refine aC ⟨oZ qd _,?_⟩;have QM:A.in1.in1.handled=none:=by simp [hh]
 refine VJ ((Walks.list QM h1.objs.size l L a).toS) s.heap.objs.size (by simp;exact ⟨cj c,iM J⟩) g s.heap q (λi v hv=>r i v hv) (aS _) (λb p=>by simp at p;subst p;exact sd c) (by show A.units+1+1+8<cLine;omega) hn (a.size-0) 0 _ (by omega) (dR _)
  ⟨⟨_,b0 _ rfl,rfl,rfl⟩,H.push _⟩ ?Q1 (λb o p e=>bu _ (B _ _ (z _ _ e))) ?hR
 case Q1=>
  exact ⟨_, #[],0,bu _ (B _ _ (b0 _ rfl)),⟨rfl,rfl,rfl⟩,rfl,rfl,(λx hx=>by cases hx),wh⟩
 case hR=>
  intro s' O oY;obtain ⟨u,g',d',FV,Q2⟩:=s';have eg:=O.gens;have ed:=O.drawn;have eo:=O.os;subst eg;subst ed;subst eo;refine ⟨rfl,h u FV (λb o e=>?_) oY⟩;have p:=bw e;exact O.heap b o (by simp;exact ⟨cj p,cj (pF p c)⟩) (bu _ (B _ _ (z _ _ e)))
end
section
variable {X:Cx} {K:aA}
inductive rO (H:Hp):List V->List (NK×V)->Prop where
 |nil:rO H [] []
 |cons {t:Addr} {b:V} {k:NK} {v:V} {r:List V} {ps:List (NK×V)}:H t=some (.ar [b,v])->TK H k b->rO H r ps->rO H (.ref t::r) ((k,v)::ps)
def Jj (c:List (NK×V)):List (NK×V):=c.foldl (λa p=>putK a p.1 p.2) []
theorem U5 {r:L2.St} (I:aw X g r H s): ∀ {l:List V} {n:List (NK×V)} {a:List Value},rO H l n->aI l a->
  ∃c:List VE,c.length=a.length/\eS (KR H) n c/\
   ∀(i:Nat) (v:Value),a[i]?=some v-> ∃q,c[i]?=some q/\ ∃t o m,v= .ref t/\s.heap.get? t=some o/\o.cls= .type "tuple" /\o.data= .seq #[q.2.1,q.2.2] m
 |_,_,_,.nil,.nil=>⟨[],rfl,.nil,λi v h=>by simp at h⟩
 |_,_,_,.cons (t:=t) (b:=b) (k:=k) u w x,.cons y z=>by
  obtain ⟨c,B,E,J⟩:=U5 I x z;obtain ⟨p,d,⟨o,e1,e2,m,L⟩,_⟩:=I.tuple (.inl (.of u))
  cases d with
  |cons N d=>
   cases d with
   |cons O d=>
    cases d;rename_i Q U;cases y;refine ⟨(k,Q,U)::c,by simp [B],.cons ⟨rfl,⟨_,w,N⟩,O⟩ E,λi v e=>?_⟩
    cases i with
    |zero=>
     simp at e;subst e;exact ⟨_,rfl,t,o,m,rfl,e1,e2,L⟩
    |succ i=>
     simp at e;obtain ⟨q,Y,g2⟩:=J i v e;exact ⟨q,by simpa using Y,g2⟩
theorem yW {e d:Type} {F:e->d->Prop}: ∀ {a:List e} {c:List d},eS F a c-> ∀(i:Nat) (y:d),c[i]?=some y-> ∃x,a[i]?=some x/\F x y
 |_,_,.nil,i,y,h=>by simp at h
 |_,_,.cons r t,0,y,h=>by simp at h;subst h;exact ⟨_,rfl,r⟩
 |_,_,.cons r t,i+1,y,h=>by
  obtain ⟨x,g,l⟩:=yW t i y (by simpa using h);exact ⟨x,by simpa using g,l⟩
theorem Vi (r:eS (KR H) c a):
  ∀i,i<=a.length->KT H (Jj (c.take i)) (XI (λj=>a.getD j (.int 0,.none,.none)) i)
 |0,_=> .nil
 |i+1,u=>by
  have g:=Vi r i (by omega);obtain ⟨q,e⟩: ∃q,a[i]?=some q:=⟨a[i]'(by omega),cZ _⟩
  obtain ⟨p,h,⟨e1,⟨y,e2,l⟩,m⟩⟩:=yW r i q e;have n:a.getD i (.int 0,.none,.none)=q:=by simp [List.getD,e]
  have o:c.take (i+1)=c.take i++[p]:=by rw [List.take_add_one,h];rfl
  have d:Jj (c.take (i+1))=putK (Jj (c.take i)) p.1 p.2:=by unfold Jj;rw [o,List.foldl_append];rfl
  rw [d];show KT H _ (dI (XI (λj=>a.getD j (.int 0,.none,.none)) i) (a.getD i (.int 0,.none,.none)).1 (a.getD i (.int 0,.none,.none)).2.1 (a.getD i (.int 0,.none,.none)).2.2);rw [n,<-e1];exact g.put p.1 e2 l m
def Ue (hc:X.bz=true) (hu:X.A.units+20<cLine):bi X (.type "dict") (λO H Q=> ∃p m w,O=[.ref p]/\c9 X.K H p m/\rO H m w/\ ∀l,H l=none->Q (.ref l) (ay H l (.dT (Jj w)))):=by
 rintro U s σ H O us Q I r ⟨p,m,w,ex,hp,x,q⟩;subst ex;obtain ⟨u,rfl,ru⟩:=x3 r;cases ru;obtain ⟨z,Y,⟨o,n,ho,B,E,hd⟩,hz⟩:=I.list hp;obtain ⟨a,h1,J,h3⟩:=U5 I x Y;have d:z.toArray.size=a.length:=by rw [cn,h1]
 have L:a.length<=aH:=by rw [h1,<-Y.length];exact hz
 refine QB (λj=>a.getD j (.int 0,.none,.none)) (I.ok.hd hc) ho B E hd (λi hi=>?_) (λi v hv=>?_) hu (by rw [d];exact L) λh' tk hk dd=>?_
 . obtain ⟨e,h⟩: ∃q,a[i]?=some q:=⟨a[i]'(by rw [d] at hi;exact hi),cZ _⟩
   obtain ⟨pp,BG,⟨e1,⟨y,e2,e4⟩,e3⟩⟩:=yW J i e h;have N:a.getD i (.int 0,.none,.none)=e:=by simp [List.getD,h]
   rw [N,<-e1];exact xg I.aM e2 e4
 . obtain ⟨e,h,g⟩:=h3 i v (by rw [<-hv];simp);have N:a.getD i (.int 0,.none,.none)=e:=by simp [List.getD,h]
   rw [N];exact g
 . have hl:=I.aM.fresh (aS _);rw [d] at dd;have kt:=Vi J a.length (aS _);have AN:=o9 J;rw [BH (by omega)] at kt;have kl:=o9 kt;have hbl:=QC (λj=>a.getD j (.int 0,.none,.none)) a.length;obtain ⟨e,es,ep,h,g2,g3,g4,_,g5⟩:=dd;refine ⟨.ref s.heap.objs.size,_,I.laid hk (aS _) (show aW X.prog X.w _ h' _ (.dT (Jj w)) from ⟨by omega,beq_eq_false_iff_ne.mpr (fH (cj I.big)),_,kt.keeps λc m ec=>?_,e,es,ep,h,g2,g3,g4,g5⟩),rfl,q _ hl⟩;rw [jp (qu ec hl)];exact ec
def gK:List D->Option (List (NK×D))
 | []=>some []
 | .ar [a,d]::r=>match bh a,gK r with
  |some k,some q=>some ((k,d)::q)
  |_,_=>none
 |_=>none
theorem Ko: ∀ {i:List V} {ds:List D} {a:List (NK×D)},am K A H i ds->gK ds=some a-> ∃c:List (NK×V),rO H i c/\c.map (·.1)=a.map (·.1)/\am K A H (c.map (·.2)) (a.map (·.2))
 |_,[],a,r,h=>by cases r.EV;cases h;exact ⟨[],.nil,rfl,.nil⟩
 |_,d::ds,a,r,h=>by
  obtain ⟨v,i,rfl,r,p⟩:=r.md
  have ⟨m,o,e⟩: ∃m o,d= .ar [m,o]:=by
    rcases d with _|_|_|_|l|_|_|_|_|_|_|_|_|_|_<;>try cases h
    rcases l with _| ⟨x,_| ⟨y,_|_⟩⟩<;>try cases h
    exact ⟨_,_,rfl⟩
  subst e
  . unfold gK at h
    cases g:bh m with
    |none=>rw [g] at h;cases h
    |some k=>
     cases n:gK ds with
     |none=>rw [g,n] at h;cases h
     |some q=>
      rw [g,n] at h;cases h;obtain ⟨c,u,g2,w⟩:=Ko p n;obtain ⟨t,L,rfl,z,B⟩:=r.dL;obtain ⟨N,E,rfl,I,J⟩:=B.av;exact ⟨(k,E)::c,.cons z (wg I g) u,by simp [g2],.cons J w⟩
def x9 (q:List NK×List D) (p:NK×D):List NK×List D:=(QN q.1 p.1,X8 q.1 q.2 p.1 p.2)
def XB:List D->aq D
 | [.ah c]=>match gK c with
  |some a=> .ok (.bO (a.foldl x9 ([],[])).1 (a.foldl x9 ([],[])).2)
  |none=> .aj
 | [.eJ c]=>match gK c with
  |some a=> .ok (.bO (a.foldl x9 ([],[])).1 (a.foldl x9 ([],[])).2)
  |none=> .aj
 |_=> .aj
theorem Q3: ∀ {a:List (NK×V)} {c:List (NK×D)} {kvs:List (NK×V)} {q:List NK×List D},a.map (·.1)=c.map (·.1)->am K A H (a.map (·.2)) (c.map (·.2))->kvs.map (·.1)=q.1->am K A H (kvs.map (·.2)) q.2->
  (a.foldl (λkvs p=>putK kvs p.1 p.2) kvs).map (·.1)=(c.foldl x9 q).1/\am K A H ((a.foldl (λkvs p=>putK kvs p.1 p.2) kvs).map (·.2)) (c.foldl x9 q).2
 | [],[],kvs,q,_,_,e,g=>⟨e,g⟩
 | [],_::_,_,_,h,_,_,_=>by cases h
 |_::_,[],_,_,h,_,_,_=>by cases h
 | (k,v)::a,(n,d)::c,kvs,q,h,.cons r m,e,g=>by
  simp at h;obtain ⟨rfl,h⟩:=h;obtain ⟨i,l⟩:=Ki k g r;rw [e] at i l;exact Q3 (kvs:=putK kvs k v) (q:=x9 q (k,d)) h m i l
def Ra:QJ K (λn H Q=> ∃p a g,n=[.ref p]/\c9 K H p a/\rO H a g/\ ∀l,H l=none->Q (.ref l) (ay H l (.dT (Jj g)))) XB:=by
 intro A n H N d Q r e q
 have h: ∀ {p:Addr} {a:List V} {u:List D},n=[.ref p]->c9 K H p a->am K A H a u->(match gK u with
     |some g=>aq.ok (D.bO (g.foldl x9 ([],[])).1 (g.foldl x9 ([],[])).2)
     |none=> .aj)= .ok d-> ∃p a g,n=[.ref p]/\c9 K H p a/\rO H a g/\ ∀l,H l=none->Q (.ref l) (ay H l (.dT (Jj g))):=λ{p a u} y i m e=>by
   split at e
   . rename_i g w;cases e;obtain ⟨B,E,g2,I⟩:=Ko m w;obtain ⟨J,L⟩:=Q3 (kvs:=[]) (q:=([],[])) g2 I rfl .nil;exact ⟨p,a,B,y,i,E,λl o=>q _ _ (ap.ay o) (.bO jk (.inl o) J rfl ((L.laid o).aG λc z=>⟨.inr z.1,z.2⟩)) (qi (ap.refl H) o)⟩
   . cases e
 unfold XB at e
 split at e
 . obtain ⟨v,rfl,x⟩:=r.one;obtain ⟨p,a,rfl,i,_,m⟩:=x.cP;exact h rfl (.of i) m.low e
 . obtain ⟨v,rfl,x⟩:=r.one;obtain ⟨p,a,rfl,i,m⟩:=x.lB;exact h rfl i.np m e
 . cases e
end
def fg {N P:List Str} {a:Scope} (c:a.kind= .function:=by rfl) (d:a.isCoroutine=false:=by rfl) (e:a.isGenerator=false:=by rfl) (g:N.Nodup:=by decide+kernel) (h:N.take P.length=P:=by rfl) (i: ∀x∈P,a.names.lookup x=some .local\/a.names.lookup x=some .cell:=by decide+kernel) (l: ∀y∈a.names,y.2≠ .free:=by decide+kernel):ax N P a:=⟨c,d,e,g,h,i,l⟩
def Dx (K:aA) (c:UQ) (x:Str) (st:Stmt) (d:List Str):Prop:= ∃f a,iR K x x st f a/\c x=some (.ref f)/\Binds K a d []
def Dw (K:aA) (p:Addr) (x q:Str) (st:Stmt):Prop:= ∃(e:Value) (g h:Option Addr) (c:Array (Option Value)) (kV d i a l:Value),
 K.lookup p=some ⟨e,g,.func (oN x q (xB st) (qj st) (jf st) .none kV d i h a l),c⟩/\vM K a q=true
def cz (K:aA) (x:Str) (st:Stmt):Prop:= ∃p:Addr,cE K bY x=some (some (.ref p))/\Dw K p x x st/\iP K (.ref p)=true
def Dm (K:aA) (C:Addr) (m q:Str) (st:Stmt) (c:List Str):Prop:= ∃f a,iR K m q st f a/\Meth K C m f/\Binds K a c []
def i5 (K:aA) (C:Addr) (m q:Str) (st:Stmt):Prop:= ∃p:Addr,mF K (.ref C) m=some (some (.ref p))/\CJ K (.ref p)=true/\Dw K p m q st/\iP K (.ref p)=true
abbrev Tk (x q:Str) (st:Stmt) (d:List Value) (e:List Str):Prop:= ∀(kV a g:Value) (h:Option Addr) (c i:Value),bindArgs (oN x q (xB st) (qj st) (jf st) .none kV a g h c i) ⟨d,[]⟩=pure (e.zip d)
section
variable {K:aA} {mg:UQ} {x q m:Str} {st:Stmt} {v:List Str} {h:Heap} {C:Addr}
def Dw.fn (l:Dw K p x q st) (k:iP K (.ref p)=true) (n: ∀g,g.length=v.length->Tk x q st g v): ∃i,iR K x q st p i/\Binds K i v []:=by
 obtain ⟨y,z,B,o,kV,r,E,u,ct,l,c⟩:=l;have F:=HD l c k;exact ⟨_,F,F.binds λa b c d e f g w=>n g w a b c d e f⟩
def cz.dx (d:cz K x st) (e:K.In h) (G:h.Ns bY mg) (g: ∀c,c.length=v.length->Tk x x st c v):Dx K mg x st v:=by
 obtain ⟨p,a,l,k⟩:=d;obtain ⟨i,F,B⟩:=l.fn k g;exact ⟨p,i,F,wr e G a,B⟩
def i5.dm (d:i5 K C m q st) (e: ∀c,c.length=v.length->Tk m q st c v):Dm K C m q st v:=by
 obtain ⟨p,a,i,l,k⟩:=d;obtain ⟨g,F,B⟩:=l.fn k e;exact ⟨p,g,F,⟨a,i,k⟩,B⟩
def QT {P:List Value->Prop} {n:Nat} (h: ∀a c,c.length=n->P (a::c)): ∀c,c.length=n+1->P c:=by
 intro c e
 cases c with
 |nil=>cases e
 |cons a r=>exact h a r (Nat.succ.inj e)
def Dy {P:List Value->Prop} (h:P []): ∀c,c.length=0->P c:=by
 intro c e
 cases c with
 |nil=>exact h
 |cons a r=>cases e
def lL (h: ∀a,Tk x q st [a] [p]:=by intro _ _ _ _ _ _ _;rfl): ∀c:List Value,c.length=[p].length->Tk x q st c [p]:=QT λa=>Dy (h a)
def pY (h: ∀a b,Tk x q st [a,b] [p,c]:=by intro _ _ _ _ _ _ _ _;rfl): ∀d:List Value,d.length=[p,c].length->Tk x q st d [p,c]:=QT λa=>QT λb=>Dy (h a b)
def Dz (h: ∀a b c,Tk x q st [a,b,c] [p,d,e]:=by intro _ _ _ _ _ _ _ _ _;rfl): ∀g:List Value,g.length=[p,d,e].length->Tk x q st g [p,d,e]:=QT λa=>QT λb=>QT λc=>Dy (h a b c)
def DC (h: ∀a b c d,Tk x q st [a,b,c,d] [p,e,g,i]:=by intro _ _ _ _ _ _ _ _ _ _;rfl): ∀l:List Value,l.length=[p,e,g,i].length->Tk x q st l [p,e,g,i]:=QT λa=>QT λb=>QT λc=>QT λd=>Dy (h a b c d)
end
section
variable {P:bn} {w:World} {K:aA} {mg:UQ} {ae:Heap}
def w4 {st:Stmt} (e:Bool) (d:Dx K mg x st h) (S:ax N h (jf st))
  (i: ∀(f:Addr) (c:Value) (A:bp) (a:List Env) (s:az) (H:Hp) (E:XK),aL k (A.deeper (gm x (jf st) s.heap.objs.size f c))->iS (cO eG P w K mg ae N x (jf st) f c A a s H E).iL (qj st) g):
  Av P w K mg ae (k+1) x h e (aX e N.length g):=by
 obtain ⟨f,l,F,m,B⟩:=d;exact On e F m S B (i f)
def ID {st:Stmt} (h:Bool) (d:Dm K C m q st i) (l:cE K bY c=some (some (.ref C))/\hU K C) (S:ax N i (jf st))
  (n: ∀(f:Addr) (e:Value) (A:bp) (a:List Env) (s:az) (H:Hp) (E:XK),aL k (A.deeper (gm q (jf st) s.heap.objs.size f e))->iS (cO eG P w K mg ae N q (jf st) f e A a s H E).iL (qj st) g):
  i4 P w K mg ae (k+1) c m i h (aX h N.length g):=by
 obtain ⟨f,o,F,m,B⟩:=d;exact PX h F l.1 l.2 m S B (n f)
def Rb {st:Stmt} (d:Dm K C "__init__" q st i) (l:cE K bY c=some (some (.ref C))/\hU K C) (h:mg c=some (.ref C)) (mk:AI K C=true/\iP K (.ref C)=true) (S:ax N i (jf st)) (o:i.length=n+1) (p:n+1<=N.length)
  (r: ∀(f:Addr) (e:Value) (A:bp) (a:List Env) (s:az) (H:Hp) (E:XK),aL k (A.deeper (gm q (jf st) s.heap.objs.size f e))->eP (cO eG P w K mg ae N q (jf st) f e A a s H E).iL 0 (qj st) g):
  pW P w K mg ae (k+1) c n (gI N.length n g):=by
 obtain ⟨f,u,F,m,B⟩:=d;exact PY F l.1 h ⟨mk.1,m.at_,m.fn,mk.2⟩ S B o p (r f)
def DD {st:Stmt} (a:Bool) (d:Dx K mg x st c):Av P w K mg ae k x c a (λ_=> .aj):=by
 obtain ⟨f,e,F,m,B⟩:=d;exact Oo a F m B
end
section
variable {X:Cx} {a b e:Expr} {f f1 f2:T5} {pos:Pos} {x:Str}
def vb (i:Nat) (d:X.N[i]?=some x:=by rfl) (g:dE X.env.scope x:=by exact bT rfl) (h:ZH x:=by decide) (c:UR x:=by decide):DE X .b (.Name x pos) (af i):=DE.b (dv i d g h c)
def ib {j}:DE X .b (.Constant (.int i) j pos) (cI i):=HF
def fh {j}:DE X .s (.Constant (.int i) j pos) (cI i):=HF
def ob (c:dc X (iA d) r) (h:gn X.K r g) (i:DE X .b a f1) (l:DE X .b b f2):DE X .b (.BinOp a d b pos) (av f1 f2 g):=VY c h i l
def gX (c:dc X (iA d) r) (h:gn X.K r g) (i:DE X .b a f1) (l:DE X .b b f2):DE X .s (.BinOp a d b pos) (av f1 f2 g):=VY c h i l
def kE (c:DE X .b a f1) (d:DE X .b b f2):DE X .b (.BinOp a .Mod b pos) (av f1 f2 cc):=VY xW xX c d
def Rc (c:DE X .b a f1) (d:DE X .b b f2):DE X .b (.BinOp a .Pow b pos) (av f1 f2 io):=VY Kt Kw c d
def gi (c:Gl X x) (d: ∃t,X.mg x=some (.int i t)) (g:ZH x:=by decide):DE X .b (.Name x pos) (cI i):=d.elim λ_ h=>NE c h g
end
abbrev FJ:=Sl->aq (D×Sl)
def IE (K:aA) (f:FJ):TE:=λe H Q=> ∃G h c d a,au K G h c e H/\f c= .ok (d,a)/\ ∀v g,au K G h a e g->bg c e H a e g->aD K (Sf G a e) g v d->Q v g
@[irreducible] def pZ (X:Cx) (e:Expr) (f:FJ):Prop:=PE X e (IE X.K f)
def Rf (K:aA) (f:Sl->aq (Bool×Sl)):TT:=λd H Q=> ∃G g c b a,au K G g c d H/\f c= .ok (b,a)/\ ∀e,au K G g a d e->bg c d H a d e->Q b e
@[irreducible] def zH (X:Cx) (e:Expr) (f:Sl->aq (Bool×Sl)):Prop:=PT X e (Rf X.K f)
def IF (f:T5):FJ:=λa=>f a>>=λd=> .ok (d,a)
def DF (f:T4):Sl->aq (Bool×Sl):=λa=>f a>>=λd=> .ok (d,a)
section
variable {X:Cx} {e a b c0:Expr} {es:List Expr} {f f1 f2:FJ} {g0:T5} {pos p apos mK:Pos} {t:Sl->aq (Bool×Sl)} {t0:T4}
def DE.j (h:DE X .s e g0):pZ X e (IF g0):=by
 nomatch (PE.imp h λm H Q=>by
  rintro ⟨G,g,env,d,c,k,i,q⟩;obtain ⟨n,e1,e2⟩:=ja i;cases e2
  exact ⟨G,g,env,d,k,e1,λv l s r _=>q v l (k.ao s) (bg.refl s) r⟩)
def DT.j (h:DT X e t0):zH X e (DF t0):=by
 nomatch (PT.imp h λm H Q=>by
  rintro ⟨G,g,env,d,c,k,i,q⟩;obtain ⟨n,e1,e2⟩:=ja i;cases e2
  exact ⟨G,g,env,d,k,e1,λl s=>q l (k.ao s) (bg.refl s)⟩)
def tY (f:FJ):Sl->aq (Bool×Sl):=λc=>f c>>=λr=>match r.1 with
 | .bl b=> .ok (b,r.2)
 |_=> .aj
def vY (h:pZ X e f) (l: ∀whole,isTrue e X.env whole=(do let v<-whole;oK e.pos;nI [v] (truthy v)):=by intro _;rfl):zH X e (tY f):=by
 nomatch (PT.imp (Ha h l) λx H Q=>by
  rintro ⟨G,m,d,b,g,k,c,q⟩;obtain ⟨⟨n,i⟩,e1,c⟩:=ja c
  cases n with
  |bl y=>
   cases c;exact ⟨G,m,d,_,_,k,e1,λv o u w r=>⟨b,r.rz,q o u w⟩⟩
  |_=>cases c)
def lM (t:Sl->aq (Bool×Sl)):Sl->aq (Bool×Sl):=λc=>t c>>=λr=> .ok (!r.1,r.2)
def vZ (h:zH X a t):zH X (.UnaryOp .Not a pos) (lM t):=by
 nomatch (PT.imp (Hb h) λn H Q=>by
  rintro ⟨G,l,d,b,i,k,g,q⟩;obtain ⟨⟨m,c⟩,e1,g⟩:=ja g;cases g
  exact ⟨G,l,d,m,c,k,e1,q⟩)
end
section
variable {X:Cx} {i j:Nat} {e c0:Expr} {f:FJ} {t:Sl->aq (Bool×Sl)} {g1 g2:Sl->aq bf} {body orelse:List Stmt} {pos p apos fL mK:Pos} {x c n:Str}
def BI (j:Nat) (f:FJ):Sl->aq bf:=λa=>f a>>=λr=> .ok (.nx (r.2.set j (.ag (.ah [r.1]))))
def Rg (j:Nat) {g l:Pos} (I:X.N.Nodup) (h:pZ X e f) (w:j≠i:=by decide) (J:X.N[j]?=some x:=by rfl) (L:Loc X.env.scope x:=by exact eI rfl) (N:gb (.List [e] l) (some (.Name x g)) pos.line X.env=pure false:=by rfl)
  (O:T7 X x:=by first|exact .inl rfl|exact .inr rfl|assumption) (y:bj [e] X.env=(false,eval e X.env)::bj [] X.env:=by exact jm rfl):iZ X i (.Assign [.Name x g] (.List [e] l) pos) (BI j f):=by
 nomatch (PS.imp (W9 I J L (Hs (qc h zC y)) N O) λE σ H=>by
  rintro ⟨G,Q,z,o,a,k,U,Y,q⟩;obtain ⟨⟨d,m⟩,e1,e2⟩:=ja Y;cases e2;refine ⟨G,Q,z,d,m,k,e1,λv H1 B fr r=>⟨by show 1<=aH;decide,λp u=>?_⟩⟩;have S:=B.lF (i:=j) (ap.ay u) (.ah jk (B.new p u) ((am.cons r .nil).laid u)) (qi (ap.refl H1) u)
  exact q _ _ S.1 ((jo w).trans U) (fr.trans S.2))
def xf (n : Nat) (t : Sl -> aq (Bool × Sl)) (g : Sl -> aq bf) : Sl -> aq bf := λh => match n with
  | 0 => .aj
  | n + 1 => t h >>= λr => if r.1 = true then g r.2 >>= λo => match o with
        | .nx a => xf n t g a
        | .rt d a => .ok (.rt d a)
        | .ct a => xf n t g a
      else .ok (.nx r.2)
def ue (n:Nat) {g:Sl->aq bf} (hp:rf (model X.prog X.w) X.A X.env X.xe) (hc:zH X c0 t) (hb:eP X i body g):iZ X i (.While c0 body [] pos) (xf n t g):=by
 nomatch (
  PS.imp (Km hp hc hb) λE σ H=>by
   rintro ⟨G,Q,I,o,a,k,ha,ef,q⟩;refine ⟨λm w Y=> ∃l,au X.K G Q l w Y/\At w i a/\bg I σ H l w Y/\xf m t g l= .ok o,⟨n,I,k,ha,bg.refl (ap.refl H),ef⟩,?_⟩;rintro m w Y ⟨l,k',J,U,e'⟩
   cases m with
   |zero=>cases e'
   |succ m=>
    obtain ⟨⟨b,B⟩,e1,e2⟩:=ja (show (t l>>=_)=_ from e');refine ⟨G,Q,l,b,B,k',e1,λH1 k1 y=>?_⟩
    cases b with
    |false=>
     rw [if_neg fq] at e2 ⊢;cases e2;exact q w H1 k1 J (U.trans y)
    |true=>
     rw [if_pos rfl] at e2 ⊢;obtain ⟨o1,e3,e4⟩:=ja e2;refine ⟨λu H2=> ∃h,au X.K G Q h u H2/\At u i a/\bg I σ H h u H2/\xf m t g h= .ok o,λu H2 z=>⟨m,pe m,z⟩,G,Q,B,o1,a,k1,J,e3,?_⟩
     cases o1 with
     |nx h=>exact λu H3 L N O=>⟨h,L,N,(U.trans y).trans O,e4⟩
     |rt d h=>
      cases e4;exact λv u H3 L N O r=>q v u H3 L N ((U.trans y).trans O) r
     |ct h=>exact λu H3 L N O=>⟨h,L,N,(U.trans y).trans O,e4⟩)
end
structure o3 (P:bn) (w:World) (K:aA) (mg:UQ) (ae:Heap) (k:Nat) (c m:Str) (n:Nat) (F:FO):Prop where
 ex: ∃C f fd ps,bS P w K mg ae eG k f fd ps (BC K n F)/\cE K bY c=some (some (.ref C))/\hU K C/\Meth K C m f/\Binds K fd ps []
def o3.mono {P:bn} {w:World} {K:aA} {mg:UQ} {ae:Heap} {j k:Nat} {c m:Str} {n:Nat} {F:FO} (h:o3 P w K mg ae j c m n F) (d:j<=k):o3 P w K mg ae k c m n F:=
 let ⟨C,f,e,g,a,b⟩:=h.ex
 ⟨C,f,e,g,a.mono d,b⟩
section
variable {X:Cx} {k n:Nat} {c m x:Str} {F:FO} {e:Expr} {es:List Expr} {pos p apos:Pos} {g:TZ} {pl:Sem Bool}
def JY {env:Sl} {h:L2.St} {i:Nat} {d r:D} {a:Addr} (u:env[i]?=some (.ag d)) (o:jS (env.set i (.ag r)) h a):jS env h a:=by
 obtain ⟨j,e,l,q⟩:=o
 by_cases z:i=j
 . subst z;exact ⟨i,d,u,q⟩
 . exact ⟨j,e,by rw [jo z] at l;exact l,q⟩
def Rh {G:UP} {H0 H J:Hp} {env l:Sl} {u:L2.St} {i:Nat} {d:D} {Q:VK} {E:XK} {a:Addr} {d0:D} {ds:List D} {N:List V} (k:au X.K G H0 env u H) (s:ap H J) (L:env[i]?=some (.ag d0)) (O:At u i a) (B:am X.K (Sf G env u) J N ds) (hn:ds.length=n)
  (h:(F d0 ds>>=λr=>aq.ok (r.1,env.set i (.ag r.2)))= .ok (d,l)) (q: ∀v y,au X.K G H0 l u y->bg env u H l u y->aD X.K (Sf G l u) y v d->Q v y):BC X.K n F (.ref a::N) J Q E:=by
 obtain ⟨⟨r,d1⟩,e1,e2⟩:=ja h;cases e2;have U:=k.ao s;obtain ⟨a',I,_,ta⟩:=U.ag i _ L;rw [O] at I;cases I;have ow:jS env u a:=⟨i,_,L,O⟩
 have w: ∀c,Sf G env u c->Sf G env u c/\c≠a:=λc z=>⟨z,by rintro rfl;exact z.1 ow⟩
 refine ⟨Sf G env u,ds,N,a,_,_,d1,rfl,by rw [B.length];exact hn,B.aG w,ta.aP (λ_ _ e _=>e) w λ_ e=>e,e1,λv y Y t' rv=>?_⟩;have back: ∀c,((J c=none\/Sf G env u c)/\c≠a)->Sf G env u c:=λc z=>z.1.elim (λz=>U.new c z) λz=>z
 have W:=U.anew L O Y (t'.aP (λ_ _ e _=>e) back λ_ e=>e);exact q v y W.1 (W.2.ao s) (rv.aG λc z=>⟨λo=>(back c z).1 (JY L o),(back c z).2⟩)
end
section
variable {P:bn} {w:World} {K:aA} {mg:UQ} {ae:Heap}
def IG {c m q:Str} {st:Stmt} {C:Addr} {N h:List Str} {k n:Nat} {g:Sl->aq bf} (d:Dm K C m q st h) (i:cE K bY c=some (some (.ref C))/\hU K C) (S:ax N h (jf st)) (l:h.length=n+1) (o:n+1<=N.length)
  (p: ∀(f:Addr) (e:Value) (A:bp) (a:List Env) (s:az) (H:Hp) (E:XK),aL k (A.deeper (gm q (jf st) s.heap.objs.size f e))->eP (cO eG P w K mg ae N q (jf st) f e A a s H E).iL 0 (qj st) g):
  o3 P w K mg ae (k+1) c m n (gI N.length n g):=by
 obtain ⟨f,r,F,u,B⟩:=d;exact ⟨C,f,r,h,Iz F S l o (p f),i.1,i.2,u,B⟩
end
def X0 (j:Nat) (f:FJ):Sl->aq bD:=λa=>f a>>=λr=> .ok (.nx (r.2.set j (.ab r.1)))
def uh {X:Cx} {e:Expr} {f:FJ} {c a:Pos} {x:Str} (j:Nat) (m:X.N.Nodup) (h:pZ X e f) (n:X.N[j]?=some x:=by rfl) (p:Loc X.env.scope x:=by exact eI rfl) (u:gb e (some (.Name x a)) c.line X.env=pure false:=by rfl)
  (w:T7 X x:=by first|exact .inl rfl|exact .inr rfl|assumption):DS X (.Assign [.Name x a] e c) (X0 j f):=by
 nomatch (PS.imp (W9 m n p h u w) λE L H=>by
  rintro ⟨G,y,i,o,k,B,q⟩;obtain ⟨⟨d,g⟩,e1,e2⟩:=ja B;cases e2
  exact ⟨G,y,i,d,g,k,e1,λv l I J r=>q _ l (I.dy r) (J.trans (bg.set (ap.refl l) λ_ _ z _=>nomatch z))⟩)
end M
namespace M
open PySem
namespace Tab
open SetTable (Probe runEnd leap bits)
def nw (m:Nat) (p:Probe):Probe:=
 if p.more>0 then {p with j:=p.j+1,more:=p.more-1} else
 {p with j:=(leap m p.i p.perturb).1,more:=runEnd m (leap m p.i p.perturb).1-(leap m p.i p.perturb).1,i:=(leap m p.i p.perturb).1,perturb:=(leap m p.i p.perturb).2}
def BJ (m:Nat) (i q:Nat):Probe:={j:=i,more:=runEnd m i-i,i:=i,perturb:=q,dummy:=none}
def gp (m:Nat) (h:Int):Nat->Probe
 |0=>BJ m (bits h%(m+1)) (bits h)
 |n+1=>nw m (gp m h n)
def at' (m:Nat) (h:Int) (n:Nat):Nat:=(gp m h n).j
def lp (m:Nat) (h:Int):Nat->Nat×Nat
 |0=>(bits h%(m+1),bits h)
 |c+1=>leap m (lp m h c).1 (lp m h c).2
def off (m:Nat) (h:Int):Nat->Nat
 |0=>0
 |c+1=>off m h c+(runEnd m (lp m h c).1-(lp m h c).1)+1
theorem Ya (e:gp m h n=BJ m i q): ∀k,k<=runEnd m i-i->gp m h (n+k)={j:=i+k,more:=runEnd m i-i-k,i:=i,perturb:=q,dummy:=none}
 |0,_=>by rw [zN,e];rfl
 |k+1,a=>by
  have:=Ya e k (by omega);rw [<-Nat.add_assoc];show nw m (gp m h (n+k))=_;rw [this];unfold nw;rw [if_pos (show runEnd m i-i-k>0 by omega)];simp;omega
theorem U1 (m:Nat) (h:Int): ∀c,gp m h (off m h c)=BJ m (lp m h c).1 (lp m h c).2
 |0=>rfl
 |c+1=>by
  have e:=Ya (U1 m h c) _ (aS _);show nw m (gp m h (off m h c+(runEnd m (lp m h c).1-(lp m h c).1)))=_;rw [e];unfold nw;rw [if_neg (by simp)];rfl
def XS (a:k<=runEnd m (lp m h c).1-(lp m h c).1):at' m h (off m h c+k)=(lp m h c).1+k:=by
 unfold at';rw [Ya (U1 m h c) k a]
def Ri (m i:Nat):runEnd m i-i<=9:=by unfold runEnd;split<;>omega
theorem IH (m:Nat) (h:Int): ∀c,off m h c<=10*c
 |0=>aS _
 |c+1=>by
  have:=IH m h c;have:=Ri m (lp m h c).1;show off m h c+(runEnd m (lp m h c).1-(lp m h c).1)+1<=_;omega
theorem II (m:Nat) (h:Int): ∀c,(lp m h c).1<=m
 |0=>FW (BK _ (DH _))
 |c+1=>FW (BK _ (DH _))
def Rj (h:Int):bits h<2^64:=by
 unfold bits;have a:(0:Int)<=h%(2^64:Int):=Int.emod_nonneg _ (by decide);have c:h%(2^64:Int)< (2^64:Int):=Int.emod_lt_of_pos _ (by decide);omega
theorem Ze (m:Nat) (h:Int): ∀c,(lp m h c).2=bits h/32^c
 |0=>by simp [lp]
 |c+1=>by
  show (lp m h c).2/32=_;rw [Ze m h c,Nat.div_div_eq_div_mul,Nat.pow_succ]
def Rk (m:Nat) (h:Int) (a:13<=c):(lp m h c).2=0:=by
 rw [Ze];refine Nat.div_eq_of_lt (eV (Rj h) ?_);exact bZ (by decide:2^64<=32^13) (Nat.pow_le_pow_right (by decide) a)
def fv (m:Nat):Nat->Nat->Nat
 |0,i=>i
 |d+1,i=>(fv m d i*5+1)%(m+1)
theorem IJ (m:Nat) (h:Int): ∀d,(lp m h (13+d)).1=fv m d (lp m h 13).1
 |0=>rfl
 |d+1=>by
  show (leap m (lp m h (13+d)).1 (lp m h (13+d)).2).1=_;rw [Rk m h (by omega)];rw [IJ m h d];rfl
def ml (m:Nat):Prop:= ∀i j,i<=m->j<=m-> ∃d,d<=m/\fv m d i=j
theorem K0 (m:Nat) (a i:Nat): ∀b,fv m (a+b) i=fv m b (fv m a i)
 |0=>rfl
 |b+1=>by show (fv m (a+b) i*5+1)%(m+1)=_;rw [K0 m a i b];rfl
def Rl (g:fv m (m+1) 0=0) (h: ∀j,j<=m-> ∃d,d<=m/\fv m d 0=j):ml m:=λi j l n=>by
 obtain ⟨a,p,c⟩:=h i l;obtain ⟨b,q,e⟩:=h j n
 by_cases o:a<=b
 . exact ⟨b-a,by omega,by rw [<-c,<-K0,show a+(b-a)=b by omega,e]⟩
 . refine ⟨m+1-a+b,by omega,?_⟩;rw [<-c,<-K0,show a+(m+1-a+b)=m+1+b by omega,K0,g,e]
def FX (m:Nat):Nat->Nat->List Nat
 |0,_=>[]
 |n+1,i=>i::FX m n ((i*5+1)%(m+1))
theorem IK (m:Nat) (i:Nat): ∀d,fv m (d+1) i=fv m d ((i*5+1)%(m+1))
 |0=>rfl
 |d+1=>by show (fv m (d+1) i*5+1)%(m+1)=_;rw [IK m i d];rfl
theorem kh (m:Nat): ∀n i j,j∈FX m n i-> ∃d,d<n/\fv m d i=j
 |0,_,_,h=>by cases h
 |n+1,i,j,h=>by
  rcases bH.mp h with rfl|h
  . exact ⟨0,DH _,rfl⟩
  . obtain ⟨d,c,a⟩:=kh m n _ j h;exact ⟨d+1,by omega,by rw [IK];exact a⟩
def YM (a:fv m (m+1) 0=0) (h:(fm (m+1)).all (λj=>(FX m (m+1) 0).contains j)=true):ml m:=
 Rl a λj g=>by
  have c:=iE.mp h j (gs.mpr (by omega));obtain ⟨d,i,e⟩:=kh m _ _ _ (List.contains_iff_mem.mp c);exact ⟨d,by omega,e⟩
def FY:ml 7:=YM (by decide+kernel) (by decide+kernel)
def Rm:ml 31:=YM (by decide+kernel) (by decide+kernel)
def Rn:ml 127:=YM (by decide+kernel) (by decide+kernel)
def Zf (C:ml m) (h:Int) (a:j<=m): ∃c,c<=m+13/\(lp m h c).1=j:=by
 obtain ⟨d,g,e⟩:=C _ j (II m h 13) a;exact ⟨13+d,by omega,by rw [IJ,e]⟩
def Vy (C:ml m) (h:Int) (a:j<=m): ∃n,n<=10*(m+13)/\at' m h n=j:=by
 obtain ⟨c,e,d⟩:=Zf C h a;refine ⟨off m h c,bZ (IH m h c) (by omega),?_⟩;have:=XS (m:=m) (h:=h) (c:=c) (dR _);rw [zN] at this;rw [this,d,zN]
def FZ (h:Int) (n:Nat):at' m h n<=m:=by
 suffices c: ∀n,(gp m h n).j+(gp m h n).more<=m by exact bZ (oG _ _) (c n)
 have a: ∀i q,i<=m->(BJ m i q).j+(BJ m i q).more<=m:=λi q d=>by
  show i+(runEnd m i-i)<=m;unfold runEnd;split<;>omega
 intro n
 induction n with
 |zero=>exact a _ _ (II m h 0)
 |succ n e=>
  show (nw m (gp m h n)).j+(nw m (gp m h n)).more<=m;unfold nw
  split
  . show (gp m h n).j+1+((gp m h n).more-1)<=m;omega
  . exact a _ 0 (FW (BK _ (DH _)))
def Zn {m:Nat} (C:ml m) (h:Int) (c:Nat->Prop) [DecidablePred c] {j:Nat} (i:j<=m) (l: ¬c j): ∃n,n<=10*(m+13)/\ ¬c (at' m h n)/\ ∀k,k<n->c (at' m h k):=by
 obtain ⟨n,u,o⟩:=Vy C h i
 suffices p: ∀N,¬c (at' m h N)-> ∃n,n<=N/\ ¬c (at' m h n)/\ ∀k,k<n->c (at' m h k) by
  obtain ⟨e,a,b⟩:=p n (by rw [o];exact l);exact ⟨e,by omega,b⟩
 intro N
 induction N using Nat.strongRecOn with
 |ind N q=>
  intro r
  by_cases d: ∀k,k<N->c (at' m h k)
  . exact ⟨N,aS _,r,d⟩
  . simp at d;obtain ⟨k,g,d⟩:=d;obtain ⟨e,a,b⟩:=q k g d;exact ⟨e,by omega,b⟩
end Tab
namespace Tab
variable {L:Bool}
open SetTable (Probe runEnd leap bits below insertAt)
theorem WF (d:Array Nat) (j:Nat) (o:d.toList.Pairwise (· < ·)): ∀(fuel lo c:Nat),c-lo<=fuel->lo<=c->c<=d.size->(∀k v,k<lo->d[k]?=some v->v<j)->(∀k v,c<=k->d[k]?=some v->j<=v)->
  (∀k v,k<DJ d j fuel lo c->d[k]?=some v->v<j)/\(∀k v,DJ d j fuel lo c<=k->d[k]?=some v->j<=v)/\DJ d j fuel lo c<=d.size
 |0,lo,c,E,H,i,l,m=>by
  obtain rfl:lo=c:=by omega
  exact ⟨l,m,i⟩
 |fuel+1,lo,c,E,H,i,l,m=>by
  unfold DJ
  by_cases y:lo<c
  . rw [if_pos y];have h:(lo+c)/2<d.size:=by omega
    have I:d.getD ((lo+c)/2) j=d[(lo+c)/2]:=by rw [p4,eQ h];rfl
    have mono: ∀a b p vb,a<b->d[a]?=some p->d[b]?=some vb->p<vb:=λa b p vb q z B=>by
      rw [<-fG] at z B;obtain ⟨r,u⟩:=c7.mp z;obtain ⟨w,x⟩:=c7.mp B;rw [<-u,<-x];exact BL.mp o a b r w q
    dsimp only;rw [I]
    by_cases n:d[(lo+c)/2]<j
    . rw [if_pos n];refine WF d j o fuel _ c (by omega) (by omega) i (λk v J e=>?_) m
      by_cases g:k=(lo+c)/2
      . subst g;rw [eQ h] at e;cases e;exact n
      . exact pF (mono k _ v _ (by omega) e (eQ h)) n
    . rw [if_neg n];refine WF d j o fuel lo _ (by omega) (by omega) (by omega) l (λk v J e=>?_)
      by_cases g:k=(lo+c)/2
      . subst g;rw [eQ h] at e;cases e;omega
      . have:=mono _ k _ v (by omega) (eQ h) e;omega
  . rw [if_neg y];obtain rfl:lo=c:=by omega
    exact ⟨l,m,i⟩
def y9 (c:a.toList.Pairwise (· < ·)) (j:Nat):(∀k v,k<fB a j->a[k]?=some v->v<j)/\(∀k v,fB a j<=k->a[k]?=some v->j<=v)/\fB a j<=a.size:=
 WF a j c a.size 0 a.size (by omega) (dR _) (aS _) (λk v h _=>absurd h (zU _)) λk v h e=>by
  rw [Dg h] at e;cases e
def Ro (d:a.toList.Pairwise (· < ·)) (e:a[i]?=some j):fB a j=i:=by
 obtain ⟨l,m,o⟩:=y9 d j
 have n:fB a j<=i:=by
  refine CT λh=>?_
  exact absurd (l i j h e) (nH _)
 have c:=(Aa.mp e).1;refine Nat.le_antisymm n (CT λh=>?_);have g:fB a j<a.size:=by omega
 have:=m _ _ (aS _) (eQ g)
 have p:a[fB a j]<a[i]:=by
  have:=BL.mp d (fB a j) i (by simpa using g) (by simpa using c) h;simpa using this
 rw [eQ c] at e;cases e;omega
theorem UE {t:gJ} (c:t.place.toList.Pairwise (· < ·)) (dm:t.dummies= #[]) (j:Nat):t.slot j=match t.place[fB t.place j]? with
  |some v=>if v=j then .live (fB t.place j) else .empty
  |none=> .empty:=by
 unfold SetTable.slot;have a:SetTable.has t.dummies j=false:=by rw [dm];rfl
 dsimp only;rw [a]
 cases h:t.place[fB t.place j]? with
 |none=>simp
 |some v=>simp
def UF {t:gJ} (a:t.place.toList.Pairwise (· < ·)) (dm:t.dummies= #[]) (e:t.place[i]?=some j):t.slot j= .live i:=by
 rw [UE a dm,Ro a e,e];simp
def Vv {t:gJ} (a:t.place.toList.Pairwise (· < ·)) (dm:t.dummies= #[]) (e:j∉t.place.toList):t.slot j= .empty:=by
 rw [UE a dm]
 split
 . rename_i v h;rw [if_neg];rintro rfl;rw [<-fG] at h;exact e (gt h)
 . rfl
structure Tb (L:Bool) (m:Nat) (t:gJ) (es:Array (Int×Value)):Prop where
 ld:t.led=L
 mask:t.mask=m
 dm:t.dummies= #[]
 sz:t.place.size=es.size
 up:t.place.toList.Pairwise (· < ·)
 le: ∀j∈t.place.toList,j<=m
 road: ∀(i j:Nat) (e:Int×Value),t.place[i]?=some j->es[i]?=some e-> ∃n,at' m e.1 n=j/\ ∀k,k<n->at' m e.1 k∈t.place.toList
def Tb.fresh (led:Bool):Tb led 7 (.fresh 0 0 led) #[]:=⟨rfl,rfl,rfl,rfl,.nil,(λ_ h=>by cases h),(λi j e h=>by simp [SetTable.fresh] at h)⟩
section
variable {m:Nat} {t:gJ} {Y:Array (Int×Value)}
def Jo {d:Type} (a:Array d) (x:d) (h:p<=a.size) (i:Nat):(insertAt a p x)[i]?=if i<p then a[i]? else if i=p then some x else a[i-1]?:=by
 rw [<-fG,F3];rw [show a[i]?=a.toList[i]? from fG.symm,show a[i-1]?=a.toList[i-1]? from fG.symm];have g:(a.toList.take p).length=p:=by simp;omega
 by_cases c:i<p
 . rw [if_pos c,fI (by omega),CK c]
 . rw [if_neg c,eD (by omega),g]
   by_cases e:i=p
   . subst e;simp
   . rw [if_neg e,show i-p=(i-p-1)+1 by omega,rM,DK,show p+(i-p-1)=i-1 by omega]
def Tb.put (T:Tb L m t Y) (E:at' m h N=j) (J:j∉t.place.toList) (O: ∀k,k<N->at' m h k∈t.place.toList):Tb L m (t.put j).1 (insertAt Y (t.put j).2 (h,x)):=by
 obtain ⟨b1,b2,H⟩:=y9 T.up j
 have l: ∀k,k∈(insertAt t.place (fB t.place j) j).toList↔k=j\/k∈t.place.toList:=λk=>by
   rw [F3];have:t.place.toList=t.place.toList.take (fB t.place j)++t.place.toList.drop (fB t.place j):=(F4 _ _).symm
   constructor
   . intro z;rcases cW.mp z with z|z
     . exact .inr (F5 z)
     . rcases bH.mp z with z|z
       . exact .inl z
       . exact .inr (List.mem_of_mem_drop z)
   . rintro (rfl|z)
     . exact eT _ ci
     . rw [this] at z;rcases cW.mp z with z|z
       . exact lr _ z
       . exact eT _ (cv _ z)
 have hd:(t.put j).1.dummies= #[]:=by
   show (if SetTable.has t.dummies j then _ else t.dummies)= #[];rw [T.dm];rfl
 refine ⟨T.ld,T.mask,hd,?_,?_,?_,?_⟩
 . show (insertAt t.place (fB t.place j) j).size=(insertAt Y (fB t.place j) (h,x)).size;have:=T.sz;rw [<-eq,<-eq,(F6 _ _ _).length_eq,(F6 _ _ _).length_eq];simp [this]
 . show (insertAt t.place (fB t.place j) j).toList.Pairwise (· < ·);rw [F3,F7,oi];refine ⟨T.up.sublist (List.take_sublist _ _),⟨λv y=>?_,T.up.sublist (List.drop_sublist _ _)⟩,λv y w hw=>?_⟩
   . obtain ⟨q,g⟩:=oE.mp y;rw [DK,fG] at g;have:=b2 _ _ (oG _ _) g;refine Nat.lt_of_le_of_ne this ?_;rintro rfl;exact J (by rw [<-fG] at g;exact gt g)
   . have p:v<j:=by
       obtain ⟨q,g⟩:=oE.mp y;obtain ⟨Q,U⟩:=c7.mp g;have I:q<fB t.place j:=by simp at Q;omega
       rw [CK I,fG] at g;exact b1 q v I g
     rcases bH.mp hw with rfl|hw
     . exact p
     . obtain ⟨q,g⟩:=oE.mp hw;rw [DK,fG] at g;exact eV p (b2 _ _ (oG _ _) g)
 . intro k hk;rcases (l k).mp hk with rfl|hk
   . rw [<-E];exact FZ h N
   . exact T.le k hk
 . intro i k e hk o;have B:fB t.place j<=Y.size:=by rw [<-T.sz];exact H
   rw [show (t.put j).1.place=insertAt t.place (fB t.place j) j from rfl,Jo _ _ H] at hk;rw [show (t.put j).2=fB t.place j from rfl,Jo _ _ B] at o
   have r: ∀u,t.place[u]?=some k->Y[u]?=some e-> ∃n,at' m e.1 n=k/\ ∀q,q<n->at' m e.1 q∈(t.put j).1.place.toList:=λu a b=>by
     obtain ⟨n,c,d⟩:=T.road u k e a b;exact ⟨n,c,λq g=>(l _).mpr (.inr (d q g))⟩
   by_cases h1:i<fB t.place j
   . rw [if_pos h1] at hk o;exact r i hk o
   . rw [if_neg h1] at hk o
     by_cases h2:i=fB t.place j
     . rw [if_pos h2] at hk o;cases hk;cases o;exact ⟨N,E,λq g=>(l _).mpr (.inr (O q g))⟩
     . rw [if_neg h2] at hk o;exact r _ hk o
theorem F8: ∀ {l l':List Nat},l.Nodup->(∀x∈l,x∈l')->l.length<=l'.length
 | [],_,_,_=>dR _
 |a::l,l',d,h=>by
  obtain ⟨e,g⟩:=oF.mp d;have i:=F8 g λx c=>(List.mem_erase_of_ne (by rintro rfl;exact e c)).mpr (h x (cv _ c))
  have n:=List.length_erase_of_mem (h a ci);have o:=List.length_pos_of_mem (h a ci);rw [b9];omega
def Tb.free (T:Tb L m t Y) (hs:Y.size<=m): ∃j,j<=m/\j∉t.place.toList:=by
 refine DL λh=>?_
 have a: ∀j,j∈fm (m+1)->j∈t.place.toList:=λj c=>DL λz=>h ⟨j,by have:=gs.mp c;omega,z⟩
 have h1:=F8 (Cs) a;rw [tZ,eq,T.sz] at h1;omega
end
end Tab
namespace Tab
variable {L:Bool}
open SetTable (Probe runEnd leap bits below insertAt)
def jS (a:Array (Option Nat)) (j:Nat):Prop:=(a.getD j (some 0)).isNone=false
instance (ow:Array (Option Nat)):DecidablePred (jS ow):=λj=>inferInstanceAs (Decidable (_=false))
def Rp (m i:Nat):i<=runEnd m i:=by unfold runEnd;split<;>omega
def Z0 (m:Nat) (h:Int) (c:Nat):off m h (c+1)=off m h c+(runEnd m (lp m h c).1-(lp m h c).1)+1:=rfl
def Rq (m:Nat) (h:Int) (c:a<b):off m h a<off m h b:=by
 induction b with
 |zero=>omega
 |succ b d=>
  rw [Z0]
  by_cases e:a=b
  . subst e;omega
  . have:=d (by omega);omega
theorem vI (g: ¬jS e (at' m h N)) (i: ∀k,k<N->jS e (at' m h k)): ∀(fuel c:Nat),off m h c<=N->N<off m h (c+fuel)->
  BM m e fuel (lp m h c).1 (lp m h c).2=some (at' m h N)
 |0,c,q,l=>by rw [zN] at l;omega
 |fuel+1,c,q,l=>by
  have r:=Rp m (lp m h c).1;unfold BM
  by_cases p:N<off m h (c+1)
  . rw [Z0] at p
    have d:at' m h N=(lp m h c).1+(N-off m h c):=by
     rw [<-XS (by omega)];congr 1;omega
    have n:(fm (runEnd m (lp m h c).1+1-(lp m h c).1)).find? (λk=>(e.getD ((lp m h c).1+k) (some 0)).isNone)=some (N-off m h c):=by
     rw [List.find?_range_eq_some];refine ⟨?_,by rw [gs];omega,λk o=>?_⟩
     . rw [<-d];unfold jS at g;simpa using g
     . have a:=i (off m h c+k) (by omega);rw [XS (by omega)] at a;unfold jS at a;simpa using a
    rw [n,d]
  . have n:(fm (runEnd m (lp m h c).1+1-(lp m h c).1)).find? (λk=>(e.getD ((lp m h c).1+k) (some 0)).isNone)=none:=by
     rw [Cq];intro k o;have o:=gs.mp o;rw [Z0] at p;have a:=i (off m h c+k) (by omega);rw [XS (by omega)] at a;unfold jS at a;rw [F9];exact a
    rw [n];exact vI g i fuel (c+1) (by omega) (by rw [show c+1+fuel=c+(fuel+1) by omega];exact l)
def Rr (C:ml m) (h:Int) (g:j<=m) (i: ¬jS a j): ∃N,BM m a (rP m) (bits h%(m+1)) (bits h)=some (at' m h N)/\ ¬jS a (at' m h N)/\ ∀k,k<N->jS a (at' m h k):=by
 obtain ⟨c,o,n⟩:=Zf C h g;obtain ⟨N,_,l,d⟩:=Zn C h (jS a) g i;refine ⟨N,?_,l,d⟩
 have p:N<=off m h c:=by
  refine CT λz=>?_
  have:=d _ z;have e:=XS (m:=m) (h:=h) (c:=c) (dR _);rw [zN,zN,n] at e;rw [e] at this;exact i this
 have:=Rq m h (show c<0+rP m by unfold rP;omega);exact vI l d (rP m) 0 (dR _) (by omega)
structure Ow (m:Nat) (hs:List Int) (ow:Array (Option Nat)) (k:Nat):Prop where
 sz:ow.size=m+1
 ag: ∀(j q:Nat),ow[j]?=some (some q)->q<k/\ ∃hq,hs[q]?=some hq/\ ∃n,at' m hq n=j/\ ∀r,r<n->jS ow (at' m hq r)
 all: ∀q,q<k-> ∃j:Nat,ow[j]?=some (some q)
 one: ∀(j j' q:Nat),ow[j]?=some (some q)->ow[j']?=some (some q)->j=j'
def JZ (c:j<a.size):jS a j↔ ∃q,a[j]?=some (some q):=by
 unfold jS;rw [p4,eQ c];cases h:a[j]<;>simp [h]
def Ow.room (O:Ow m hs d k) (y:k<=m): ∃j,j<=m/\ ¬jS d j:=by
 refine DL λh=>?_
 have c: ∀j,j<=m-> ∃q,d[j]?=some (some q):=λj g=>by
   have:jS d j:=DL λz=>h ⟨j,g,z⟩
   exact (JZ (by rw [O.sz];omega)).mp this
 have p:=F8 (l:=(fm (m+1)).map λj=>((d[j]?).getD none).getD 0) (l':=fm k) ?_ ?_
 . rw [bN,tZ,tZ] at p;omega
 . refine Ab.mpr ((Cs).imp_of_mem λ{a b} r u i e=>?_);obtain ⟨v,n⟩:=c a (by have:=gs.mp r;omega);obtain ⟨B,o⟩:=c b (by have:=gs.mp u;omega);simp only [n,o,Ap] at e;subst e;exact i (O.one a b v n o)
 . intro x w;obtain ⟨j,g,rfl⟩:=bP.mp w;obtain ⟨q,e⟩:=c j (by have:=gs.mp g;omega);simp only [e,Ap];exact gs.mpr (O.ag j q e).1
def Ow.step (O:Ow m hs g k) (u:hs[k]?=some h) (v: ¬jS g (at' m h N)) (w: ∀r,r<N->jS g (at' m h r)):Ow m hs (g.setIfInBounds (at' m h N) (some k)) (k+1):=by
 have bt:at' m h N<g.size:=by rw [O.sz];have:=FZ (m:=m) h N;omega
 have get: ∀j:Nat,(g.setIfInBounds (at' m h N) (some k))[j]?=if at' m h N=j then some (some k) else g[j]?:=λj=>by
   rw [Array.getElem?_setIfInBounds]
   split
   . rename_i e;subst e;simp [bt]
   . rfl
 have mono: ∀j,jS g j->jS (g.setIfInBounds (at' m h N) (some k)) j:=λj l=>by
   unfold jS at l ⊢;rw [p4] at l ⊢;rw [get];split
   . rfl
   . exact l
 refine ⟨by rw [Array.size_setIfInBounds];exact O.sz,λj q e=>?_,λq p=>?_,λj x q e i=>?_⟩
 . rw [get] at e
   split at e
   . rename_i z;cases e;exact ⟨pe _,h,u,N,z,λr o=>mono _ (w r o)⟩
   . obtain ⟨a,p,b,n,c,d⟩:=O.ag j q e;exact ⟨by omega,p,b,n,c,λr o=>mono _ (d r o)⟩
 . by_cases z:q=k
   . subst z;exact ⟨_,by rw [get,if_pos rfl]⟩
   . obtain ⟨j,e⟩:=O.all q (by omega);refine ⟨j,?_⟩;rw [get,if_neg];exact e;intro y;subst y;exact v ((JZ bt).mpr ⟨q,e⟩)
 . rw [get] at e i
   split at e
   . rename_i z
     split at i
     . rename_i B;rw [<-z,<-B]
     . cases e;have:=(O.ag _ _ i).1;omega
   . split at i
     . cases i;have:=(O.ag _ _ e).1;omega
     . exact O.one j x q e i
theorem IL (C:ml m) (o:g.length<=m): ∀(l done:List Int) (i:Array (Option Nat)),done++l=g->Ow m g i done.length->
  ∃d,l.foldl (λ(n:Option (Array (Option Nat)×Nat)) h=>do
   let (c,k)<-n
   let j<-BM m c (rP m) (bits h%(m+1)) (bits h)
   pure (c.setIfInBounds j (some k),k+1)) (some (i,done.length))=some (d,g.length)/\Ow m g d g.length
 | [],done,i,e,O=>by
  rw [f6] at e;subst e;exact ⟨i,rfl,O⟩
 |h::l,done,i,e,O=>by
  have x:done.length<g.length:=by rw [<-e];simp
  obtain ⟨j,p,q⟩:=O.room (by omega);obtain ⟨N,r,u,v⟩:=Rr C h p q;have w:=O.step (by rw [<-e];simp) u v;obtain ⟨d,a,b⟩:=IL C o l (done++[h]) _ (by rw [<-e];simp) (by rw [de];exact w);refine ⟨d,?_,b⟩;rw [<-a,List.foldl_cons];congr 1;show (BM m i (rP m) (bits h%(m+1)) (bits h)>>=λj=>_)=_;rw [r,de];rfl
def Ys (C:ml m) (g:hs.size<=m): ∃c,SetTable.layClean m hs=some c/\Ow m hs.toList c hs.size:=by
 have i:Ow m hs.toList (Array.replicate (m+1) none) 0:=⟨by simp,λj q e=>by rw [Array.getElem?_replicate] at e;split at e<;>simp at e,λq h=>absurd h (zU _),λj l q e=>by rw [Array.getElem?_replicate] at e;split at e<;>simp at e⟩
 obtain ⟨c,a,b⟩:=IL C (by simpa using g) hs.toList [] _ rfl i;refine ⟨c,?_,by simpa using b⟩;unfold SetTable.layClean;rw [<-Array.foldl_toList];have d:=a;simp only [du] at d;rw [d];rfl
theorem yE {a c:Type} {f:a->Option c} {g:a->c}: ∀ {l:List a},(∀x∈l,f x=some (g x))->l.filterMap f=l.map g
 | [],_=>rfl
 |x::l,h=>by rw [Cz,h x ci,cY,yE λy d=>h y (cv _ d)]
def UX {m:Nat} (T:Tb L m t o) (hw:Ga w-1=B) (C:ml B) (hm:o.size<=B):
   ∃Y order,t.relaid (o.map (·.1)) w=some (Y,order)/\Tb L B Y (order.filterMap (o[·]?))/\(order.filterMap (o[·]?)).toList.Perm o.toList/\order.toList.Perm (fm o.size):=by
 obtain ⟨ow,h1,O⟩:=Ys C (hs:=o.map (·.1)) (by simpa using hm);rw [Array.size_map] at O;unfold SetTable.relaid SetTable.laid;rw [hw,h1];generalize E:(fm (B+1)).filterMap (λj=>(ow.getD j none).map (j, ·))=l
 have mem: ∀j q,(j,q)∈l↔ow[j]?=some (some q):=λj q=>by
   rw [<-E,Aq]
   constructor
   . rintro ⟨a,J,e⟩;rw [tq] at e;obtain ⟨b,e1,e2⟩:=e;cases e2;have J:=gs.mp J;rw [p4,eQ (by rw [O.sz];exact J)] at e1;rw [eQ (by rw [O.sz];exact J)];simpa using e1
   . intro e;have v:=(Aa.mp e).1;rw [O.sz] at v;exact ⟨j,gs.mpr v,by rw [p4,e];rfl⟩
 have up:l.Pairwise (λa b=>a.1<b.1):=by
   rw [<-E];refine List.pairwise_filterMap.mpr ((List.pairwise_lt_range).imp λ{a b} N x hx y hy=>?_);rw [tq] at hx hy;obtain ⟨_,_,rfl⟩:=hx;obtain ⟨_,_,rfl⟩:=hy;exact N
 have bt: ∀p∈l,p.2<o.size:=λp r=>(O.ag p.1 p.2 ((mem _ _).mp r)).1
 have z:(l.map (·.2)).Perm (fm o.size):=by
   refine (Gb ?_ Cs).mpr λq=>?_
   . refine Ab.mpr (up.imp_of_mem λ{a b} J hb N e=>?_);have:=O.one a.1 b.1 a.2 ((mem _ _).mp J) (by rw [e];exact (mem _ _).mp hb);omega
   . rw [gs]
     constructor
     . intro h;obtain ⟨p,r,rfl⟩:=bP.mp h;exact bt p r
     . intro h;obtain ⟨j,e⟩:=O.all q h;exact bP.mpr ⟨(j,q),(mem _ _).mpr e,rfl⟩
 have H:((l.map (·.2)).toArray.filterMap (o[·]?)).toList=(l.map (·.2)).filterMap (o[·]?):=by simp
 have I:((l.map (·.2)).toArray.filterMap (o[·]?)).toList.Perm o.toList:=by
   rw [H];have:=z.filterMap (o[·]?)
   rwa [filterMap_getElem?_range] at this
 have u: ∃g:Nat->Int×Value,(∀q,q<o.size->o[q]?=some (g q))/\(l.map (·.2)).filterMap (o[·]?)=(l.map (·.2)).map g:=by
   refine ⟨λq=>(o[q]?).getD (0,.none),λq Q=>by show o[q]?=some ((o[q]?).getD (0,.none));rw [eQ Q];rfl,yE λq Q=>?_⟩;obtain ⟨p,r,rfl⟩:=bP.mp Q;show o[p.2]?=some ((o[p.2]?).getD (0,.none));rw [eQ (bt p r)];rfl
 obtain ⟨g,hg,u⟩:=u;refine ⟨{mask:=B,place:=(l.map (·.1)).toArray,dummies:= #[],finger:=t.finger,led:=t.led,moves:=t.movedTo B,plain:=t.plain},(l.map (·.2)).toArray,by rw [<-E];rfl,⟨T.ld,rfl,rfl,?_,?_,?_,?_⟩,I,z⟩
 . show (l.map (·.1)).toArray.size=_;rw [<-eq (xs:=Array.filterMap _ _),H,u];simp
 . show ((l.map (·.1)).toArray).toList.Pairwise (· < ·);exact Ab.mpr up
 . intro j v;obtain ⟨p,r,rfl⟩:=bP.mp (show j∈l.map (·.1) from v);have:=(Aa.mp ((mem p.1 p.2).mp r)).1;rw [O.sz] at this;omega
 . intro i j e v U;have v:(l.map (·.1))[i]?=some j:=by rw [<-fG] at v;exact v
   rw [<-fG,H,u,iI,c6] at U;rw [c6] at v
   cases r:l[i]? with
   |none=>rw [r] at v;cases v
   |some p=>
     rw [r] at v U;cases v;cases U;have r:=gt r;obtain ⟨a,Q,b,n,c,d⟩:=O.ag p.1 p.2 ((mem _ _).mp r)
     have e1:Q=(g p.2).1:=by
       rw [fG,Array.getElem?_map,hg _ (bt p r)] at b;simpa using b.symm
     subst e1;refine ⟨n,c,λk hk=>?_⟩;have h3:=d k hk;obtain ⟨q,h4⟩:=(JZ (by rw [O.sz];have:=FZ (m:=B) (g p.2).1 k;omega)).mp h3;exact bP.mpr ⟨_,(mem _ _).mpr h4,rfl⟩
end Tab
namespace Tab
variable {L:Bool}
open SetTable (Probe runEnd leap bits below insertAt)
theorem W8 (m:Nat) (h:Int): ∀n,(gp m h n).dummy=none
 |0=>rfl
 |n+1=>by
  show (nw m (gp m h n)).dummy=none;unfold nw;split<;>exact W8 m h n
def Rs (t:gJ) (p:Probe):t.advance p=nw t.mask p:=by unfold SetTable.advance nw;split<;>rfl
def Rt (t:gJ) (h:Int):t.probeStart h=gp t.mask h 0:=rfl
end Tab
namespace Tab
variable {L:Bool}
open SetTable (Probe runEnd leap bits below insertAt)
def Sz (m n:Nat):Prop:=(m=7/\n<=4)\/(m=31/\n<=18)\/(m=127/\n<=76)
def Sz.IM (S:Sz m n):ml m:=by
 rcases S with ⟨rfl,_⟩| ⟨rfl,_⟩| ⟨rfl,_⟩
 . exact FY
 . exact Rm
 . exact Rn
def Sz.le (S:Sz m n):n<=m/\m<=127/\m%2=1/\n<=76:=by rcases S with ⟨rfl,h⟩| ⟨rfl,h⟩| ⟨rfl,h⟩<;>omega
def Tb.fits (T:Tb L m t a) (h:a.size<=m):t.fits a.size=true:=by
 unfold SetTable.fits SetTable.fill;rw [T.dm,T.sz,T.mask];simpa using h
end Tab
namespace Tab
variable {L:Bool}
open SetTable (Probe runEnd leap bits below insertAt)
def Tb.led (T:Tb L m t a) (b:Bool):Tb L m {t with plain:=b} a:=⟨T.ld,T.mask,T.dm,T.sz,T.up,T.le,T.road⟩
def i6 {m n:Type} {f:m->n} {l o:List n} (p:l.Perm o): ∀c,o=c.map f-> ∃k:List m,l=k.map f/\k.Perm c:=by
 induction p with
 |nil=>intro c e;exact ⟨c,e,.refl _⟩
 |cons x p r=>
  intro c e
  cases c with
  |nil=>cases e
  |cons a c=>
   simp at e;obtain ⟨k,d,g⟩:=r c e.2;exact ⟨a::k,by rw [d,e.1];rfl,g.cons a⟩
 |swap x y l=>
  intro c e
  cases c with
  |nil=>cases e
  |cons a c=>
   cases c with
   |nil=>cases e
   |cons b c=>
    simp at e;obtain ⟨rfl,rfl,rfl⟩:=e;exact ⟨b::a::c,rfl,.swap a b c⟩
 |trans p q h i=>
  intro c e;obtain ⟨u,d,g⟩:=i c e;obtain ⟨v,w,z⟩:=h u d;exact ⟨v,w,z.trans g⟩
section
variable {prog:bn} {w:World} {K:Type} [DecidableEq K] (Y:KeyKind prog w K)
variable {Y} {G:UP} {A:bp} {E:UO} {s:az}
def WX {h:Heap} (g:h.get? a=some o) (e:o.data= .set l i t) (c:Array (Int×Value)) (d:gJ):
  (h.update a (Obj.putSet c d)).get? a=some {o with data:= .set c (i+1) d}:=by
 have:=li (Obj.putSet c d) g (by rw [putSet_of c d e];rfl);rw [putSet_of c d e] at this;exact this
end
end Tab
open PyProof.Rows
namespace Tab
variable {L:Bool}
def cg {a:Type} [DecidableEq a] (val:Nat->a):Nat->List a
 |0=>[]
 |i+1=>if val i∈cg val i then cg val i else cg val i++[val i]
section
variable {prog:bn} {w:World} {K:Type} [DecidableEq K] {knd:KeyKind prog w K} {A:bp} {E:UO} {s:az}
def XZ (a:Value)
  (h:Q₁ (.ref s.heap.objs.size) {s with heap:=s.heap.push {cls:= .type "set",dict:=none,data:= .set #[] 0 (.fresh 0 0 (!w.params.followText "set-order"))}}):
  k4 (model prog w) A (.call (.builtin "set.__new__") ⟨[.type "set",a],[]⟩) (wants Q₁ E) s:=by
 refine codeAny_of_tree ?_;show wpAny _ A.in1 (checkBuiltinCall "set.__new__" ⟨[.type "set",a],[]⟩>>=λ_=>again (.builtin "set.__new__" ⟨[.type "set",a],[]⟩)) _ _ s;refine ak (Bp (PySem.F.newCall_set_1 a) (aC ⟨oZ PySem.F.plain_set_new _,oX PySem.F.entry_set_new ?_⟩));rw [pX PySem.F.plain_set_new _];unfold fS.«set.__new__» Builtin.Frozenset.newClass;have c:=PySem.sub_set_self;obtain ⟨e,g,d,tk,os⟩:=s;dsimp only
 wp_walk
 refine Ac (aC ?_);dsimp only;simp only [newObj];exact ak (wpAny_alloc (aC (aC h)))
end
end Tab
end M
namespace M
open PySem PySem.W PyProof.Rows
namespace Tab
section
variable {prog:bn} {w:World} {A:bp} {E:UO} {s:az}
def Up {a:Source} {n:Nat} {Q:Nat->az->Prop} (c:n≠0) (h: ∀i,i<n->Q i {s with drawn:=s.drawn.bump a}):wpAny (model prog w) A (choose a n) Q E s:=λ_ _ _=>⟨c,h _ (BK _ (Nat.pos_of_ne_zero c))⟩
theorem YD {c:Type}: ∀ {l:List c} {i:Nat} {x:c},l[i]?=some x->(x::l.eraseIdx i).Perm l
 | [],i,x,h=>by simp at h
 |a::l,0,x,h=>by simp at h;subst h;exact Gd _
 |a::l,i+1,x,h=>by
  have d:=YD (l:=l) (i:=i) (x:=x) (by simpa using h);rw [List.eraseIdx_cons_succ];exact (List.Perm.swap a x _).trans (d.cons a)
theorem um {g:Type}: ∀(n:Nat) (a:List g) {s:az} {Q:List g->az->Prop},a.length=n->(∀e d,e.Perm a->Q e {s with drawn:=d})->wpAny (model prog w) A (drawOrder n a) Q E s
 |0,a,s,Q,c,h=>by
  cases List.length_eq_zero_iff.mp c;exact aC (h [] s.drawn (Gd _))
 |n+1,[],s,Q,c,h=>by cases c
 |n+1,x::a,s,Q,c,h=>by
  unfold drawOrder;refine ak (Up (by simp) λi l=>?_);obtain ⟨y,m⟩: ∃y,(x::a)[i]?=some y:=⟨_,cZ l⟩
  rw [m];dsimp only;refine ak (um n ((x::a).eraseIdx i) (by rw [List.length_eraseIdx_of_lt l];simpa using c) λe d o=>?_);exact aC (h (y::e) d ((o.cons y).trans (YD m)))
theorem ZP {c:Type} (next:Nat->Nat): ∀(fuel k:Nat) (left:List c) (a:Array c),left.length<=fuel->(zo next fuel k left a).toList.Perm (a.toList++left)
 |0,k,left,a,h=>by
  cases List.length_eq_zero_iff.mp (Nat.le_zero.mp h);simp [zo]
 |fuel+1,k,[],a,h=>by simp [zo]
 |fuel+1,k,x::left,a,h=>by
  have d:next k%(x::left).length< (x::left).length:=BK _ (by simp);obtain ⟨y,e⟩: ∃y,(x::left)[next k%(x::left).length]?=some y:=⟨_,cZ d⟩
  rw [zo,e];dsimp only;refine (ZP next fuel (k+1) _ _ (by rw [List.length_eraseIdx_of_lt d];simp at h ⊢;omega)).trans ?_;rw [Dr,fy];exact List.Perm.append_left _ (YD e)
def JS {c:Type} (next:Nat->Nat) (a:Array c):(t5 next a).toList.Perm a.toList:=by
 have:=ZP next a.size 0 a.toList #[] (by simp);simpa [t5] using this
def Xy:entryFor table "set.__iter__" =some fS.«frozenset.__iter__» :=entryFor_alias (id':= "frozenset.__iter__") (by kernel_rfl) rfl (by decide+kernel) (by kernel_rfl)
def aQ:PySem.Slot "set_iterator" "__next__" "set_iterator.__next__" :=
 .of (owner:= "set_iterator") (n:= "__next__") (by rw [BD,BE];kernel_rfl) (by decide+kernel) (by decide+kernel) (by decide+kernel) (by first|exact .inl (by decide+kernel)|exact .inr (by decide+kernel)) (by rw [Cp];kernel_rfl)
def zu:entryFor table "set_iterator.__next__" =some fS.«set_iterator.__next__» :=entryFor_of_tree (by kernel_rfl)
def Xd:Manifest.owners.lookup (String.ofList ['r','o','t','a','r','e','t','i','_','t','e','s'].reverse)=some Manifest.sig_set_iterator:=by kernel_rfl
def zK (a:Value):argsOk "set_iterator.__next__" ⟨[a],[]⟩:=by
 unfold argsOk;rw [signature?_of (id:= "set_iterator.__next__") (n:=['_','_','t','x','e','n','_','_']) (o:=['r','o','t','a','r','e','t','i','_','t','e','s']) (by kernel_rfl) Xd];kernel_rfl
def yr:PySem.Slot "set_iterator" "__iter__" "set_iterator.__iter__" :=
 .of (owner:= "set_iterator") (n:= "__iter__") (by rw [BD,BE];kernel_rfl) (by decide+kernel) (by decide+kernel) (by decide+kernel) (by first|exact .inl (by decide+kernel)|exact .inr (by decide+kernel)) (by rw [Cp];kernel_rfl)
def QU:entryFor table "set_iterator.__iter__" =some fS.«dict_keyiterator.__iter__» :=entryFor_alias (id':= "dict_keyiterator.__iter__") (by kernel_rfl) rfl (by decide+kernel) (by kernel_rfl)
def WG (a:Value):argsOk "set_iterator.__iter__" ⟨[a],[]⟩:=by
 unfold argsOk;rw [signature?_of (id:= "set_iterator.__iter__") (n:=['_','_','r','e','t','i','_','_']) (o:=['r','o','t','a','r','e','t','i','_','t','e','s']) (by kernel_rfl) Xd];kernel_rfl
def gL (h:Heap) (a:Addr) (Y:Array (Int×Value)) (U:Nat) (t:gJ):Prop:= ∃o,h.get? a=some o/\o.ExactSet/\o.data= .set Y U t
def lN (h:Heap) (I a:Addr) (first:Value) (i n U:Nat):Prop:= ∃o,h.get? I=some o/\o.cls= .type "set_iterator" /\o.data= .fields #[first,.int i 0,.ref a,.int n 0,.int U 0]
def lN.ty {I a:Addr} {f:Value} {i n U:Nat} (x:lN s.heap I a f i n U):s.TypeIs (.ref I) "set_iterator" :=let ⟨o,h,c,_⟩:=x;⟨o,h,c⟩
def lN.at {h c:Heap} {I a:Addr} {f:Value} {i n U:Nat} (x:lN h I a f i n U) (e: ∀o,h.get? I=some o->c.get? I=some o):lN c I a f i n U:=let ⟨o,g,r⟩:=x;⟨o,e o g,r⟩
def gL.at {h c:Heap} {a:Addr} {Y:Array (Int×Value)} {U:Nat} {t:gJ} (x:gL h a Y U t) (e: ∀o,h.get? a=some o->c.get? a=some o):gL c a Y U t:=let ⟨o,g,r⟩:=x;⟨o,e o g,r⟩
def gL.ty {a:Addr} {Y:Array (Int×Value)} {U:Nat} {t:gJ} (x:gL s.heap a Y U t):s.TypeIs (.ref a) "set" :=let ⟨o,h,c,_⟩:=x;⟨o,h,c.1⟩
variable {a:Addr} {Y:Array (Int×Value)} {U:Nat} {t:gJ}
def mY (h:Heap) (T:Addr) (p:List Nat):Prop:= ∃o k,h.get? T=some o/\o.cls= .type "tuple" /\o.data= .seq (p.map λ(i:Nat)=>dF i).toArray k
def Ru {Q:UO} (x:gL s.heap a Y U t) (m:t.fits Y.size=true) (v:Y.size<=76)
   (y:(w.params.followText "set-order" =true\/t.plain=true\/Y.size<=1)->Q (.ref s.heap.objs.size) {s with heap:=s.heap.push {cls:= .type "set_iterator",data:= .fields #[.int 0 0,.int 0 0,.ref a,.int Y.size 0,.int U 0]}})
   (z:w.params.followText "set-order" =false-> ∀(p:List Nat) (d:Drawn) (n:Obj),p.Perm (fm Y.size)->n.cls= .type "tuple" ->(∃k,n.data= .seq (p.map λ(i:Nat)=>dF i).toArray k)->Q (.ref (s.heap.objs.size+1)) {s with drawn:=d,heap:=(s.heap.push n).push {cls:= .type "set_iterator",data:= .fields #[.ref s.heap.objs.size,.int 0 0,.ref a,.int Y.size 0,.int U 0]}}):
   wpAny (model prog w) A (pyIter (.ref a)) Q E s:=by
 obtain ⟨o,l,hex,r⟩:=id x;refine wpAny_pyIter_slot x.ty PySem.F.slot_set_iter (hH PySem.F.slot_set_iter x.ty Xy ?_ (PySem.F.args_set_iter_1 _));unfold fS.«frozenset.__iter__» Builtin.Frozenset.slot0 slotArgs;simp only [BN,o6,fT,↓reduceIte,bind_assoc,du,bne_self_eq_false];unfold Builtin.Frozenset.addrOf Builtin.Frozenset.sizeOf;refine ak (aC ?_)
 try dsimp only
 refine ak (aC ?_);refine ak (ak (BO l r m (aC ?_)));unfold setDrawn setsByText;refine ak (ak (t6 l r m ?_));dsimp only;refine ak (ak (Ac (aC ?_)));refine aC ?_
 have h: ∀ {s:az} {Q:Nat->az->Prop},s.heap.get? a=some o->Q U s->wpAny (model prog w) A.in1 (setEpoch a) Q E s:=λg q=>by
   unfold setEpoch;exact ak (t6 g r m (aC q))
 show wpAny _ _ (if (!w.params.followText "set-order" &&(!t.plain&&decide (Y.size>1)))=true then _ else _) _ _ _
 by_cases c:(!w.params.followText "set-order" &&(!t.plain&&decide (Y.size>1)))=true
 . rw [if_pos c];simp only [dj,Bool.not_eq_true',decide_eq_true_eq] at c;refine ak (um Y.size (fm Y.size) (by simp) λp d u=>?_);have B:p.length<=76:=by rw [u.length_eq,tZ];exact v
   simp only [newTuple];refine ak (hV ?_ (by show ((p.map λ(i:Nat)=>dF i).toArray).size<=_;rw [cn,bN,iB];omega));refine ak (h (bu _ l) ?_);refine ak (hV ?_ (by size_fits));refine aC ⟨_,rfl, "set_iterator",_,⟨_,b0 _ rfl,rfl⟩,aQ.lookup,?_⟩;have:=z c.1 p d {cls:= .type "tuple",data:= .seq (p.map λ(i:Nat)=>dF i).toArray} u rfl ⟨_,rfl⟩;simpa [dF,iQ] using this
 . rw [if_neg c];refine ak (aC ?_);refine ak (h l ?_);refine ak (hV ?_ (by size_fits));refine aC ⟨_,rfl, "set_iterator",_,⟨_,b0 _ rfl,rfl⟩,aQ.lookup,?_⟩
   have:=y (by
    cases e:w.params.followText "set-order" with
    |true=>exact .inl rfl
    |false=>
     cases e2:t.plain with
     |true=>exact .inr (.inl rfl)
     |false=>
      rw [e,e2] at c;simp at c
      exact .inr (.inr c))
   simpa [dF] using this
def Xi {slot i:Nat} {Q:Option (Value×Nat)->az->Prop} (x:gL s.heap a Y U t) (c:t.fits Y.size=true) (d:w.params.followText "set-order" =true)
  (h:Q (((t5 (w.params.setOrder a U) Y)[i]?).map λe=>(e.2,slot)) s):wpAny (model prog w) A (setNext a slot i U) Q E s:=by
 obtain ⟨o,g,hex,l⟩:=x;unfold setNext setsByText;refine ak (t6 g l c ?_);dsimp only;refine ak (ak (Ac (aC ?_)));show wpAny _ _ (if w.params.followText "set-order" =true then _ else _) _ _ _;rw [if_pos d];rw [if_neg (by simp)];unfold setWalk setsByText;refine ak (ak (t6 g l c ?_));dsimp only;refine ak (ak (Ac (aC ?_)));show wpAny _ _ (if w.params.followText "set-order" =true then _ else _) _ _ _;rw [if_pos d];refine ak (Ac (aC ?_));exact aC h
def wd (t:gJ):Nat->Nat
 |0=>0
 |i+1=>t.place.getD i 0+1
def Ug {L:Bool} {m:Nat} (T:Tb L m t Y) {i:Nat} (B:i<=Y.size):fB t.place (wd t i)=i:=by
 obtain ⟨c,e,l⟩:=y9 T.up (wd t i)
 have mono: ∀(j k:Nat) (u v:Nat),j<k->t.place[j]?=some u->t.place[k]?=some v->u<v:=λj k u v d n o=>by
  have g:=T.up;rw [BL] at g;obtain ⟨p,r⟩:=Aa.mp n;obtain ⟨x,y⟩:=Aa.mp o;have:=g j k (by simpa using p) (by simpa using x) d;simp only [Array.getElem_toList] at this;rw [r,y] at this;exact this
 cases i with
 |zero=>
  rcases Ge (fB t.place (wd t 0)) with z|z
  . exact z
  . have bt:0<t.place.size:=by omega
    have:=c 0 t.place[0] z (eQ bt);simp only [wd] at this;omega
 |succ i=>
  have bt:i<t.place.size:=by rw [T.sz];omega
  have e0:wd t (i+1)=t.place[i]+1:=by simp only [wd,p4,eQ bt,Ap]
  rw [e0] at c e l ⊢;rcases Nat.lt_trichotomy (fB t.place (t.place[i]+1)) (i+1) with z|z|z
  . have:=e i t.place[i] (by omega) (eQ bt);omega
  . exact z
  . have h:i+1<t.place.size:=by omega
    have q:=c (i+1) t.place[i+1] z (eQ h);have:=mono i (i+1) _ _ (pe i) (eQ bt) (eQ h);omega
def Za {L:Bool} {m i:Nat} {Q:Option (Value×Nat)->az->Prop} (x:gL s.heap a Y U t) (d:t.fits Y.size=true) (g:w.params.followText "set-order" =false) (l:t.plain=true\/Y.size<=1) (T:Tb L m t Y) (n:L=true) (p:i<=Y.size)
  (h:Q ((Y[i]?).map λe=>(e.2,wd t (i+1))) s):wpAny (model prog w) A (setNext a (wd t i) i U) Q E s:=by
 obtain ⟨o,r,hex,u⟩:=x;unfold setNext setsByText;refine ak (t6 r u d ?_);dsimp only;refine ak (ak (Ac (aC ?_)));show wpAny _ _ (if w.params.followText "set-order" =true then _ else _) _ _ _;rw [if_neg (by rw [g];exact fq)]
 have c:(!t.plain&&decide (Y.size>1))=false:=by
  rcases l with e|e
  . rw [e];rfl
  . rw [decide_eq_false (by omega)];simp
 show wpAny _ _ (if (!t.plain&&decide (Y.size>1))=true then _ else _) _ _ _;rw [if_neg (by rw [c];exact fq)];have ld:t.led=true:=by rw [T.ld];exact n
 have v:(!t.led&&!Y.isEmpty)=false:=by rw [ld];rfl
 refine ak ?_;show wpAny _ _ (if (!t.led&&!Y.isEmpty)=true then _ else pure ()) _ _ _;rw [if_neg (by rw [v];exact fq)];refine aC ?_;rw [Ug T p];refine aC ?_
 cases e:Y[i]? with
 |none=>rw [e] at h;exact h
 |some q=>
  rw [e] at h;have bt:i<t.place.size:=by rw [T.sz];exact (Aa.mp e).1
  rw [eQ bt];have e0:wd t (i+1)=t.place[i]+1:=by simp only [wd,p4,eQ bt,Ap]
  rw [e0] at h;exact h
def Kc {I:Addr} {slot next i n:Nat} {v:Value} {Q:Option Value->az->Prop} (y:lN s.heap I a (.int slot 0) i n U) (x:gL s.heap a Y U t) (m:t.fits Y.size=true) (p:n=Y.size)
   (q: ∀(A:bp) (E:UO) (Q:Option (Value×Nat)->az->Prop),Q (some (v,next)) s->wpAny (model prog w) A (setNext a slot i U) Q E s)
   (r: ∀e,lN e I a (.int next 0) (i+1) n U->kx I s.heap e->Q (some v) {s with heap:=e}):wpAny (model prog w) A (hJ (.ref I)) Q E s:=by
 obtain ⟨o,u,hex,z⟩:=id x;obtain ⟨B,g,h,c⟩:=id y;unfold hJ;refine ak (rG (lX y.ty aQ (hH aQ y.ty zu ?_ (zK _))));unfold fS.«set_iterator.__next__» slotArgs;simp only [BN,o6,fT,↓reduceIte,bind_assoc,du,bne_self_eq_false];refine ak (aC ?_);refine ak (rH g c ?_);dsimp only;refine ak (BO u z m ?_);rw [if_neg (by rw [p];simp)];simp only [nN];refine ak (q _ _ _ ?_);dsimp only;refine ak (oV g c (by simp) ?_);have l:=li (tH (·.setIfInBounds 0 (dF (next:Int)))) g (yG (nr c _));have d:(tH (·.setIfInBounds 0 (dF (next:Int))) B).data= .fields (#[.int slot 0,.int i 0,.ref a,.int n 0,.int U 0].setIfInBounds 0 (dF (next:Int))):=nr c _;refine ak (oV l d (by simp) ?_);have H:=li (tH (·.setIfInBounds 1 (dF ((i:Int)+1)))) l (yG (nr d _));refine aC ⟨_,rfl,aC (r _ ⟨_,H,?_,?_⟩ ((iG ..).trans (iG ..)))⟩
 . rw [Bo,Bo];exact h
 . rw [nr d];simp [dF]
def UH {I:Addr} {slot i n:Nat} {Q:Option Value->az->Prop} (g:A.handled=none) (y:lN s.heap I a (.int slot 0) i n U) (x:gL s.heap a Y U t) (h:t.fits Y.size=true) (l:n=Y.size)
  (m: ∀(A:bp) (E:UO) (Q:Option (Value×Nat)->az->Prop),Q none s->wpAny (model prog w) A (setNext a slot i U) Q E s)
  (p: ∀d,Heap.ExtBut I s.heap d->Q none {s with heap:=d}):wpAny (model prog w) A (hJ (.ref I)) Q E s:=by
 obtain ⟨o,q,hex,r⟩:=id x;obtain ⟨v,e,u,c⟩:=id y;unfold hJ;refine ak (rG (lX y.ty aQ (hH aQ y.ty zu ?_ (zK _))));unfold fS.«set_iterator.__next__» slotArgs;simp only [BN,o6,fT,↓reduceIte,bind_assoc,du,bne_self_eq_false];refine ak (aC ?_);refine ak (rH e c ?_);dsimp only;refine ak (BO q r h ?_);rw [if_neg (by rw [l];simp)];simp only [nN];refine ak (m _ _ _ ?_);dsimp only;refine ak (oV e c (by simp) ?_);simp only [newExc,newTuple];refine ak (ak (hV (ak (Bp (by first|rfl| (simp;rfl)) (hV ?_ (by size_fits)))) (by size_fits)));simp only [raiseNew];refine ak (wpAny_handled ?_);rw [show A.in1.handled=none from g];refine ak (aC (wpAny_throw ?_));refine ak (rX ⟨_,b0 _ rfl,rfl⟩ Bq ?_);exact aC (p _ (((iG ..).extBut.push _).push _))
def UG {I T:Addr} {p:List Nat} {k i n:Nat} {e:Int×Value} {Q:Option Value->az->Prop} (y:lN s.heap I a (.ref T) i n U) (z:mY s.heap T p) (x:gL s.heap a Y U t) (m:t.fits Y.size=true) (u:n=Y.size) (v:p[i]?=some k) (B:Y[k]?=some e)
   (H: ∀d,lN d I a (.ref T) (i+1) n U->kx I s.heap d->Q (some e.2) {s with heap:=d}):wpAny (model prog w) A (hJ (.ref I)) Q E s:=by
 obtain ⟨o,q,hex,r⟩:=id x;obtain ⟨O,g,h,c⟩:=id y;obtain ⟨oT,kT,J,cT,L⟩:=z;unfold hJ;refine ak (rG (lX y.ty aQ (hH aQ y.ty zu ?_ (zK _))));unfold fS.«set_iterator.__next__» slotArgs;simp only [BN,o6,fT,↓reduceIte,bind_assoc,du,bne_self_eq_false];refine ak (aC ?_);refine ak (rH g c ?_);dsimp only;refine ak (BO q r m ?_);rw [if_neg (by rw [u];simp)];refine ak (lh J L ?_);simp only [nN];have l:((p.map λ(i:Nat)=>dF i).toArray)[i]?=some (dF k):=by simp [v]
 rw [l];simp only [dF,nN];unfold setNextDrawn;refine ak (ak (t6 q r m ?_));dsimp only;rw [if_neg (by simp)];rw [B];refine aC ?_;refine ak (oV g c (by simp) ?_);have N:=li (tH (·.setIfInBounds 1 (m7 ((i:Int)+1) 0))) g (yG (nr c _));refine aC ⟨_,rfl,aC (H _ ⟨_,N,?_,?_⟩ (iG ..))⟩
 . rw [Bo];exact h
 . rw [nr c];simp
def Rv {I T:Addr} {p:List Nat} {i n:Nat} {Q:Option Value->az->Prop} (l:A.handled=none) (y:lN s.heap I a (.ref T) i n U) (z:mY s.heap T p) (x:gL s.heap a Y U t) (m:t.fits Y.size=true) (q:n=Y.size) (r:p[i]?=none)
  (u: ∀h,Heap.ExtBut I s.heap h->Q none {s with heap:=h}):wpAny (model prog w) A (hJ (.ref I)) Q E s:=by
 obtain ⟨o,v,hex,B⟩:=id x;obtain ⟨H,d,J,c⟩:=id y;obtain ⟨oT,kT,L,cT,N⟩:=z;unfold hJ;refine ak (rG (lX y.ty aQ (hH aQ y.ty zu ?_ (zK _))));unfold fS.«set_iterator.__next__» slotArgs;simp only [BN,o6,fT,↓reduceIte,bind_assoc,du,bne_self_eq_false];refine ak (aC ?_);refine ak (rH d c ?_);dsimp only;refine ak (BO v B m ?_);rw [if_neg (by rw [q];simp)];refine ak (lh L N ?_);simp only [nN];have e:((p.map λ(i:Nat)=>dF i).toArray)[i]?=none:=by simpa using r
 rw [e];dsimp only;refine ak (oV d c (by simp) ?_);have O:=li (tH (·.setIfInBounds 0 (dF 0))) d (yG (nr c _));have g:(tH (·.setIfInBounds 0 (dF 0)) H).data= .fields (#[.ref T,.int i 0,.ref a,.int n 0,.int U 0].setIfInBounds 0 (dF 0)):=nr c _;refine ak (oV O g (by simp) ?_);simp only [newExc,newTuple];refine ak (ak (hV (ak (Bp (by first|rfl| (simp;rfl)) (hV ?_ (by size_fits)))) (by size_fits)));simp only [raiseNew];refine ak (wpAny_handled ?_);rw [show A.in1.handled=none from l];refine ak (aC (wpAny_throw ?_));refine ak (rX ⟨_,b0 _ rfl,rfl⟩ Bq ?_);exact aC (u _ ((((iG ..).trans (iG ..)).extBut.push _).push _))
def ZG {I:Addr} {f:Value} {i n:Nat} {Q:UO} (y:lN s.heap I a f i n U) (h:Q (.ref I) s):wpAny (model prog w) A (pyIter (.ref I)) Q E s:=by
 refine wpAny_pyIter_slot y.ty yr (hH yr y.ty QU ?_ (WG _));show wpAny _ _ (ret (.ref I)) _ _ s;exact aC ⟨_,rfl, "set_iterator",_,y.ty,aQ.lookup,h⟩
end
end Tab
namespace Tab
section
variable {prog:bn} {w:World} {A:bp} {E:UO} {s:az} {a:Addr} {Y:Array (Int×Value)} {U:Nat} {t:gJ}
def DM (os:List (Int×Value)) (i:Nat) (v:Value):Prop:= ∃e,os[i]?=some e/\v=e.2
def Vn (y:A.handled=none) {I:Addr} (B:a≠I) (l:t.fits Y.size=true) (n:w.params.followText "set-order" =true):Walks prog w A I [I,a] [I] Y.size (DM (t5 (w.params.setOrder a U) Y).toList) (λi h=>lN h I a (.int 0 0) i Y.size U/\gL h a Y U t) where
 sub:=λb c=>by simp at c;simp [c]
 frame:=λ_ _ _ st p=>⟨st.1.at λo e=>p I (by simp) o e,st.2.at λo e=>p a (by simp) o e⟩
 item:=λi s Q E L st d=>by
  have r:(t5 (w.params.setOrder a U) Y).toList.length=Y.size:=by rw [(JS _ Y).length_eq,eq]
  obtain ⟨e,u⟩: ∃e,(t5 (w.params.setOrder a U) Y)[i]?=some e:=⟨_,eQ (by rw [eq] at r;omega)⟩
  refine Kc (slot:=0) (next:=0) (v:=e.2) st.1 st.2 l rfl (λA E Q q=>Xi st.2 l n (by rw [u];exact q)) λm H x=>d _ m s.toks ⟨e,by rw [fG];exact u,rfl⟩ ⟨H,st.2.at λo g=>x.extBut a o B g⟩ λb o c g=>x.extBut b o (λz=>c (by simp [z])) g
 done:=λs Q E st d=>by
  have r:(t5 (w.params.setOrder a U) Y).size=Y.size:=by rw [<-eq,(JS _ Y).length_eq,eq]
  refine UH y (slot:=0) st.1 st.2 l rfl (λA E Q q=>Xi st.2 l n (by rw [Dg (by omega)];exact q)) λm J=>d m s.toks λb o c g=>J b o (λz=>c (by simp [z])) g
 self:=λ_ _ _ _ st d=>ZG st.1 d
def XV {L:Bool} {m:Nat} (H:A.handled=none) {I:Addr} (J:a≠I) (l:t.fits Y.size=true) (p:w.params.followText "set-order" =false) (r:t.plain=true\/Y.size<=1) (T:Tb L m t Y) (u:L=true):Walks prog w A I [I,a] [I] Y.size (DM Y.toList) (λi h=>i<=Y.size/\lN h I a (.int (wd t i) 0) i Y.size U/\gL h a Y U t) where
 sub:=λb c=>by simp at c;simp [c]
 frame:=λ_ _ _ st x=>⟨st.1,st.2.1.at λo e=>x I (by simp) o e,st.2.2.at λo e=>x a (by simp) o e⟩
 item:=λi s Q E N st d=>by
  obtain ⟨e,y⟩: ∃e,Y[i]?=some e:=⟨_,eQ N⟩
  refine Kc (slot:=wd t i) (next:=wd t (i+1)) (v:=e.2) st.2.1 st.2.2 l rfl (λA E Q q=>Za st.2.2 l p r T u st.1 (by rw [y];exact q)) λn O B=>d _ n s.toks ⟨e,by rw [fG];exact y,rfl⟩ ⟨by omega,O,st.2.2.at λo g=>B.extBut a o J g⟩ λb o c g=>B.extBut b o (λz=>c (by simp [z])) g
 done:=λs Q E st d=>by
  refine UH H (slot:=wd t Y.size) st.2.1 st.2.2 l rfl (λA E Q q=>Za st.2.2 l p r T u st.1 (by rw [Dg (aS _)];exact q)) λn xb=>d n s.toks λb o c g=>xb b o (λz=>c (by simp [z])) g
 self:=λ_ _ _ _ st d=>ZG st.2.1 d
def mY.at {h c:Heap} {T:Addr} {p:List Nat} (x:mY h T p) (e: ∀o,h.get? T=some o->c.get? T=some o):mY c T p:=let ⟨o,k,g,r⟩:=x;⟨o,k,e o g,r⟩
def XW (u:A.handled=none) {I T:Addr} {p:List Nat} {os:List (Int×Value)} (v:a≠I) (x:T≠I) (r:t.fits Y.size=true) (y:p.length=Y.size) (l: ∀i:Nat,i<Y.size-> ∃k e,p[i]?=some k/\Y[k]?=some e/\os[i]?=some e):
  Walks prog w A I [I,a,T] [I] Y.size (DM os) (λi h=>lN h I a (.ref T) i Y.size U/\gL h a Y U t/\mY h T p) where
 sub:=λb c=>by simp at c;simp [c]
 frame:=λ_ _ _ st m=>⟨st.1.at λo e=>m I (by simp) o e,st.2.1.at λo e=>m a (by simp) o e,st.2.2.at λo e=>m T (by simp) o e⟩
 item:=λi s Q E B st d=>by
  obtain ⟨k,e,H,J,L⟩:=l i B;refine UG st.1 st.2.2 st.2.1 r rfl H J λn N q=>d _ n s.toks ⟨e,L,rfl⟩ ⟨N,st.2.1.at λo g=>q.extBut a o v g,st.2.2.at λo g=>q.extBut T o x g⟩ λb o c g=>q.extBut b o (λz=>c (by simp [z])) g
 done:=λs Q E st d=>Rv u st.1 st.2.2 st.2.1 r rfl (mv (by omega)) λn O=>d n s.toks λb o c g=>O b o (λz=>c (by simp [z])) g
 self:=λ_ _ _ _ st d=>ZG st.1 d
def Rw {L:Bool} {m:Nat} (J:A.handled=none) (x:gL s.heap a Y U t) (T:Tb L m t Y) (S:Sz m Y.size) (hL:L=!w.params.followText "set-order") {Q:UO}
   (h: ∀(I:Addr) (N:Heap) (d:Drawn) (fp:List Addr) (os:List (Int×Value)) (St:Nat->Heap->Prop),(∀b o,s.heap.get? b=some o->N.get? b=some o)->s.heap.objs.size<=I->(∀b∈fp,b=a\/s.heap.objs.size<=b)->
     Walks prog w A I fp [I] Y.size (DM os) St->St 0 N->os.Perm Y.toList->Q (.ref I) {s with heap:=N,drawn:=d}):wpAny (model prog w) A (pyIter (.ref a)) Q E s:=by
 have B:=T.fits S.le.1;have bt:a<s.heap.objs.size:=by obtain ⟨o,ho,_⟩:=x;exact bw ho
 refine Ru x B S.le.2.2.2 (λhc=>?_) (λu p d r v O ⟨k,g⟩=>?_)
 . cases u:w.params.followText "set-order" with
   |true=>
     exact h s.heap.objs.size _ s.drawn _ _ _ (λb o e=>bu _ e) (aS _) (λb c=>by
       simp only [bH,p5,or_false] at c;rcases c with e|e
       . exact .inr (by rw [e];exact aS _)
       . exact .inl e) (Vn J (cj bt) B u) ⟨⟨_,b0 _ rfl,rfl,rfl⟩,x.at λo e=>bu _ e⟩ (JS _ Y)
   |false=>
     have v:t.plain=true\/Y.size<=1:=hc.resolve_left (by rw [u];exact fq)
     exact h s.heap.objs.size _ s.drawn _ _ _ (λb o e=>bu _ e) (aS _) (λb c=>by
       simp only [bH,p5,or_false] at c;rcases c with e|e
       . exact .inr (by rw [e];exact aS _)
       . exact .inl e) (XV J (cj bt) B u v T (by rw [hL,u];rfl)) ⟨dR _,⟨_,b0 _ rfl,rfl,rfl⟩,x.at λo e=>bu _ e⟩ (Gd _)
 . have y:p.length=Y.size:=by rw [v.length_eq,tZ]
   have z: ∀k∈p,k<Y.size:=λk H=>gs.mp (v.mem_iff.mp H)
   have l:r.isFreed=false:=by
     obtain ⟨c1,c2,c3,c4⟩:=r;simp only at g;rw [g];rfl
   have Rx:(s.heap.push r).objs.size=s.heap.objs.size+1:=iQ _ _;have gT:(s.heap.push r).get? s.heap.objs.size=some r:=b0 _ l
   have n:(p.map λk=>Y.getD k (0,.none)).Perm Y.toList:=by
     refine (v.map λk=>Y.getD k (0,.none)).trans ?_
     have:(fm Y.size).map (λk=>Y.getD k (0,.none))=Y.toList:=by
       apply List.ext_getElem (by simp);intro i h1 h2;simp at h1;simp [p4,h1]
     rw [this]
   refine h (s.heap.objs.size+1) _ d _ (p.map λk=>Y.getD k (0,.none)) _ (λb o e=>bu _ (bu _ e)) (ly _) (λb c=>?_) (XW (T:=s.heap.objs.size) (p:=p) J (cj (Bw bt)) (cj (pe _)) B y λi hi=>?_) ⟨⟨_,by rw [<-Rx];exact b0 _ rfl,rfl,rfl⟩,x.at λo e=>bu _ (bu _ e),⟨r,k,bu _ gT,O,g⟩⟩ n
   . simp only [bH,p5,or_false] at c;rcases c with e|e|e
     . exact .inr (by rw [e];exact ly _)
     . exact .inl e
     . exact .inr (by rw [e];exact aS _)
   . have q:i<p.length:=by omega
     have H:=z p[i] (mu q);exact ⟨p[i],Y[p[i]],cZ q,eQ H,by simp [q,p4,H]⟩
def Ry {r:Addr} {Q:Bool->az->Prop} (e:s.TypeIs (.ref r) "set") (h:Q false s):wpAny (model prog w) A (DN (.ref r)) Q E s:=by
 unfold DN;refine ak (Ao e PySem.F.slot_set_len.lookup ?_);generalize d:("set.__len__" :String)=g
 wp_delta
 rw [show splitId g=some ("set", "__len__") from by subst d;decide+kernel];subst d;refine ak (rX (T:= "set") (b:=true) e (by rw [Cp];kernel_rfl) ?_);refine DP (λc=>absurd c (by decide)) (λ_=>?_);refine DP (λ_=>?_) (λc=>absurd (by decide+kernel) c);exact ak (rl e (aC h))
def i7 {L:Bool} {m:Nat} {R:List Value->az->Prop} (hh:A.handled=none) (x:gL s.heap a Y U t) (T:Tb L m t Y) (S:Sz m Y.size) (hL:L=!w.params.followText "set-order")
   (h: ∀(q:Heap) (tk:Nat) (d:Drawn) (os:List (Int×Value)),(∀b o,s.heap.get? b=some o->q.get? b=some o)->os.Perm Y.toList->R (os.map (·.2)) {s with heap:=q,toks:=tk,drawn:=d}):
   wpAny (model prog w) A (collect (.ref a)) R E s:=by
 have bt:a<s.heap.objs.size:=by obtain ⟨o,ho,_⟩:=x;exact bw ho
 have hn:Y.size<=aH:=by rw [iB];have:=S.le;omega
 unfold collect;refine ak (wpAny_runValue (oX entry_proto_collect' ?_));rw [pX PySem.F.plain_proto_collect _];show wpAny _ A.in1 (newList []>>=λl=>again (.builtin "list.__iadd__" ⟨[l,.ref a],[]⟩)) _ _ s;refine ak (hV ?_);refine aC ⟨oZ PySem.F.plain_list_iadd _,oX entry_list_iadd' ?_⟩;rw [pX PySem.F.plain_list_iadd _];generalize H:({cls:= .type "list",data:= .seq ([]:List Value).toArray}:Obj)=u;have Gf:(s.heap.push u).get? s.heap.objs.size=some u:=b0 _ (by rw [<-H];rfl);have J:(s.heap.push u).objs.size=s.heap.objs.size+1:=iQ _ _;have x1:gL (s.heap.push u) a Y U t:=x.at λo e=>bu _ e
 show wpAny _ A.in1 (DQ (.ref s.heap.objs.size) (.ref a) (.ref s.heap.objs.size)) _ _ _;unfold DQ;refine ak (rl (T:= "set") (gL.ty (s:={s with heap:=s.heap.push u}) x1) ?_)
 have n1:DR (.ref s.heap.objs.size) (.ref a)=false:=by
   simp [DR];exact iM bt
 have n2:(my "set" ==my "list")=false:=by decide
 have n3:(my "set" ==my "tuple")=false:=by decide
 simp only [n1,n2,n3,Bool.or_false,fT,if_false];refine ak (Rw (A:=A.in1) (s:={s with heap:=s.heap.push u}) hh x1 T S hL λI q d fp os St hk hI pL W st hp=>?_);have x2:gL q a Y U t:=x1.at λo e=>hk _ _ e
 refine ak (gl (Ry (gL.ty (s:={s with heap:=q,drawn:=d}) x2) ?_));simp only [fT,if_false];have y:q.get? s.heap.objs.size=some {cls:= .type "list",dict:=none,data:= .seq #[] 0,slots:= #[]}:=by rw [hk _ _ Gf,<-H]
 have N:s.heap.objs.size∉fp:=λz=>by
   rcases pL _ z with e|e
   . rw [e] at bt;exact nH _ bt
   . rw [J] at e;omega
 have key: ∀(O:Heap) (c1:Nat),St 0 O->(∀b o,b≠s.heap.objs.size->q.get? b=some o->O.get? b=some o)->O.get? s.heap.objs.size=some {cls:= .type "list",dict:=none,data:= .seq #[] c1,slots:= #[]}->
     k4 (model prog w) A (.builtin "list.extend.loop" ⟨[.ref s.heap.objs.size,.ref I,.ref s.heap.objs.size],[]⟩) (λr B=>match r with
       | .ok (.ret v)=>wpAny (model prog w) A (match v with
        | .ref a=>do
         let d<-load a
         match d.data with
          | .seq xs IN=>pure xs.toList
          |x=>Ar "internal:collect"
        |x=>Ar "internal:collect") R E B
       | .ok a=>False
       | .error e=>E e B) {s with heap:=O,drawn:=d}:=λO c1 Rz DU g1=>by
   refine codeAny_extend_loopS W.toS hn s.heap.objs.size N _ Y.size 0 _ #[] c1 rfl (dR _) Rz g1 (ItemsOf.nil _) λB p c hm oY g=>?_
   show wpAny _ A (load s.heap.objs.size>>=_) _ _ B;refine ak (wpAny_load oY ?_)
   have RA:p.toList=os.map (·.2):=by
     have hl:os.length=Y.size:=by rw [hp.length_eq,eq]
     apply Am;intro i
     by_cases hi:i<Y.size
     . have Q:i<p.size:=by rw [g.1];exact hi
       obtain ⟨e,e1,e2⟩:=g.2 i p[i] (eQ Q);rw [fG,eQ Q,c6,e1,e2];rfl
     . rw [mv (by rw [eq,g.1];omega),mv (by rw [bN];omega)]
   refine aC ?_;show R p.toList B;rw [RA,Moved.eq_with hm];refine h B.heap B.toks d os (λb o e=>?_) hp;have n:=bw e;refine hm.heap b o (λz=>?_) (DU b o (cj n) (hk b o (bu _ e)));simp only [bH,p5,or_false] at z;rcases z with z|z
   . rw [z] at n;exact nH _ n
   . rw [z] at n;have:(s.heap.push u).objs.size<=I:=hI;exact absurd n (Nat.not_lt.mpr (bZ (by rw [J];exact ly _) this))
 refine DP (λ_=>?_) (λ_=>aC ⟨oZ t7 _,key _ 0 st (λb o _ e=>e) y⟩);refine ak (kw ?_);refine ak ?_;show wpAny _ _ (updateSeq s.heap.objs.size (·.push .none)>>=λ_=>updateSeq s.heap.objs.size (·.pop)) _ _ _;refine ak (sT y rfl ?_);have g2:=li (nj (·.push mx)) y rfl;refine sT (hz:=by seq_fits) g2 rfl ?_;have g3:=li (nj (·.pop)) g2 rfl;refine aC ⟨oZ t7 _,key _ _ ?_ (λb o n e=>?_) g3⟩
 . refine W.frame 0 _ _ st λb n o e=>?_
   have IP:b≠s.heap.objs.size:=λz=>N (z▸n)
   exact (pA _ _ (fH IP)).trans ((pA _ _ (fH IP)).trans e)
 . exact (pA _ _ (fH n)).trans ((pA _ _ (fH n)).trans e)
end
end Tab
end M
namespace M
open PySem
namespace Tab
variable {L:Bool}
open SetTable (Probe runEnd leap bits below insertAt)
section
variable {m:Nat} {t:gJ} {Y:Array (Int×Value)}
theorem Q5 (T:Tb L m t Y) {hashAt:Nat->Int} (h:Int) (c: ∀i,hashAt i≠h) (d:at' m h N∉t.place.toList) (e: ∀k,k<N->at' m h k∈t.place.toList):
  ∀(F n:Nat),N-n<F->n<=N->BP t hashAt h F (gp m h n)=some (.empty (at' m h N) none)
 |0,n,g,_=>absurd g (zU _)
 |F+1,n,g,p=>by
  by_cases o:n=N
  . subst o;unfold BP;rw [show (gp m h n).j=at' m h n from rfl,Vv T.up T.dm d];rw [W8]
  . obtain ⟨i,l⟩:=oE.mp (e n (by omega));rw [fG] at l
    have a:BP t hashAt h (F+1) (gp m h n)=if hashAt i==h then some (.candidate (at' m h n) i (gp m h (n+1))) else BP t hashAt h F (gp m h (n+1)):=by
     rw [BP];rw [show (gp m h n).j=at' m h n from rfl,UF T.up T.dm l];simp only [Rs,T.mask];rfl
    rw [a,show (hashAt i==h)=false by simpa using c i];simp only [fT,if_false];exact Q5 T h c d e F (n+1) (by omega) (by omega)
def vH (T:Tb L m t Y) (S:Sz m Y.size) (h:Int) (a:at' m h N∉t.place.toList) (c: ∀k,k<N->at' m h k∈t.place.toList) (d:N<=10*(m+13)):t.freeSlot h=some (at' m h N,false):=by
 unfold SetTable.freeSlot SetTable.probe;rw [Rt,T.mask,Q5 T h (λ_=>by omega) a c (10*rP m) 0 (by unfold rP;omega) (dR _)];rfl
def UW {a e:Nat} (T:Tb L m t Y) (hw:Ga a-1=e) (C:ml e) (d:Y.size<=e):
  ∃c g,rQ t Y a=(c,g,false)/\Tb L e g c/\c.toList.Perm Y.toList:=by
 obtain ⟨g,order,e1,i,l,n⟩:=UX T hw C d;have h:(order.filterMap (Y[·]?)).size=Y.size:=by rw [<-eq,l.length_eq,eq]
 have o:coversAll order Y.size=true:=by unfold coversAll;exact List.isPerm_iff.mpr n
 refine ⟨_,g,?_,i,l⟩;unfold rQ;rw [e1];dsimp only;rw [o,i.fits (by rw [h];exact d)];rfl
end
section
variable {prog:bn} {w:World}
def lO (p:Int×Tok):Int×Value:=(gr p.1,.int p.1 p.2)
def ei (w:World) (h:Heap) (a:Addr) (ks:List Int):Prop:= ∃(o:Obj) (c:Array (Int×Value)) (e:Nat) (t:gJ) (m:Nat) (d:List (Int×Tok)) (L:Bool),h.get? a=some o/\o.ExactSet/\o.data= .set c e t/\Tb L m t c/\Sz m c.size/\c.toList=d.map lO/\(d.map (·.1)).Perm ks/\ks.Nodup/\L=!w.params.followText "set-order"
variable {A:bp} {E:UO} {s:az}
def vX {a:List (Int×Tok)}:ElemsOf (m9 prog w) (a.map lO):=λe c=>by
 obtain ⟨p,_,rfl⟩:=bP.mp c;exact ⟨⟨p.1,by simp [m9,lO,ve],rfl⟩,rfl⟩
def RB {a:Addr} {ks:List Int} {d:Int} {tk:Tok} {Q:Bool->az->Prop} (hS:ei w s.heap a ks) (hn:ks.length<76)
  (h: ∀Y b,kx a s.heap Y->ei w Y a (if d∈ks then ks else ks++[d])->Q b {s with heap:=Y}):wpAny (model prog w) A (setAddHashed a (.int d tk) (gr d)) Q E s:=by
 obtain ⟨o,u,ep,t,m,kp,L,ho,hex,hd,T,S,he,pm,nd,ld⟩:=hS;have hf:=T.fits S.le.1;have hlen:u.size=ks.length:=by rw [<-eq,he,bN,<-pm.length_eq,bN]
 have IQ:ElemsOf (m9 prog w) u.toList:=by rw [he];exact vX
 have Gg:(m9 prog w).is d (.int d tk)=true:=by simp [m9,ve]
 have hb:u.size<scanBound:=by unfold scanBound;omega
 have IR: ∀k,(∃e∈u.toList,(m9 prog w).is k e.2=true)↔k∈ks:=λk=>by
  rw [he]
  constructor
  . rintro ⟨e,h1,h2⟩;obtain ⟨p,hp,rfl⟩:=bP.mp h1;have:p.1=k:=by simpa [m9,lO,ve] using h2
    exact pm.mem_iff.mp (bP.mpr ⟨p,hp,this⟩)
  . intro hk;obtain ⟨p,hp,e⟩:=bP.mp (pm.mem_iff.mpr hk);exact ⟨_,bP.mpr ⟨p,hp,rfl⟩,by simp [m9,lO,ve,e]⟩
 unfold setAddHashed setAddHashedIn;refine gl (ak (t6 ho hd hf ?_));dsimp only;rw [byScan_of (knd:=m9 prog w) (x:= .int d tk) rfl hb IQ];simp only [↓reduceIte];unfold setAddByScan;refine ak ?_;refine ak (kw ?_);refine ak (wpAny_setScan_of (knd:=m9 prog w) (k:=d) Gg ho hd hf IQ ?_)
 cases hr:List.findIdx? (λe=>(m9 prog w).is d e.2) u.toList with
 |some j=>
  dsimp only;obtain ⟨hj,RC,_⟩:=List.findIdx?_eq_some_iff_getElem.mp hr;have v:d∈ks:=(IR d).mp ⟨_,mu hj,RC⟩;refine aC (aC ?_);exact h s.heap false (Heap.SameBut.refl a s.heap) (by rw [if_pos v];exact ⟨o,u,ep,t,m,kp,L,ho,hex,hd,T,S,he,pm,nd,ld⟩)
 |none=>
  dsimp only
  have v:d∉ks:=λz=>by
    obtain ⟨e,Bs,hp⟩:=(IR d).mpr z;have:=List.findIdx?_eq_none_iff.mp hr e Bs;rw [hp] at this;exact Bool.noConfusion this
  obtain ⟨j0,RD,RE⟩:=T.free S.le.1;obtain ⟨N,RF,hN,rC⟩:=Zn S.IM (gr d) (λj=>j∈t.place.toList) RD RE;have I:=T.put (x:= .int d tk) rfl hN rC;have l:=F6 u (t.put (at' m (gr d) N)).2 (gr d,m7 d tk);rw [Dr] at l;have n:(insertAt u (t.put (at' m (gr d) N)).2 (gr d,m7 d tk)).size=u.size+1:=by rw [<-eq,l.length_eq,de,eq];rfl
  have hle:u.size+1<=m:=by
    have:=S.le;rcases S with ⟨rfl,h⟩| ⟨rfl,h⟩| ⟨rfl,h⟩<;>omega
  have J:u.size+1<=aH:=by rw [iB];have:=S.le;omega
  have DV:=I.fits (by rw [n];exact hle)
  have hL:layNew t u (gr d) (.int d tk)=(insertAt u (t.put (at' m (gr d) N)).2 (gr d,m7 d tk),(t.put (at' m (gr d) N)).1,false,false):=by
    unfold layNew;rw [vH T S (gr d) hN rC RF];dsimp only;rw [DV];unfold SetTable.orStandIn;rw [DV];rfl
  rw [hL];dsimp only;generalize (t.put (at' m (gr d) N)).1=B at I DV ⊢;generalize RG:insertAt u (t.put (at' m (gr d) N)).2 (gr d,m7 d tk)=c at I DV l n ⊢;refine ak (aC ?_)
  have fin: ∀(Y:Heap) (q:Array (Int×Value)) (t2:gJ) (m2 BQ:Nat),kx a s.heap Y->Y.get? a=some {o with data:= .set q BQ t2}->Tb L m2 t2 q->Sz m2 q.size->q.toList.Perm (u.toList++[(gr d,m7 d tk)])->Q true {s with heap:=Y}:=λY q t2 m2 BQ sb g T2 S2 p2=>by
    rw [he,show [(gr d,m7 d tk)]=[(d,tk)].map lO from rfl,<-iH] at p2;obtain ⟨RH,e2,q2⟩:=i6 p2 _ rfl;refine h Y true sb ?_;rw [if_neg v];refine ⟨_,q,BQ,t2,m2,RH,L,g,hex,rfl,T2,S2,e2,?_,?_,ld⟩
    . exact (q2.map _).trans (by rw [iH];exact pm.append_right _)
    . exact qP.mpr ⟨nd,by simp,λx gQ y hy e=>by rw [f7] at hy;subst hy;subst e;exact v gQ⟩
  have tail: ∀(gw:Bool->Sem Unit),gw false=pure ()-> ∀b:Bool,wpAny (model prog w) A (do
      storeSet a c {B with plain:=b}
      if (
        !false&&({B with plain:=b}:gJ).tooFull)=true then do
        gw (rQ {B with plain:=b} c (t9 c.size)).2.2
        storeSet a (rQ {B with plain:=b} c (t9 c.size)).1 (rQ {B with plain:=b} c (t9 c.size)).2.1
        pure (some true)
        else pure (some true)) (λr H=>match r with|some b=>Q b H|none=>False) E s:=λgw RI b=>by
    refine ak (wpAny_storeSet_of ho hd ?_ (by rw [n];exact J));have g1:=WX ho hd c {B with plain:=b};have IS:=iG s.heap a (Obj.putSet c {B with plain:=b})
    by_cases i:({B with plain:=b}:gJ).tooFull=true
    . rw [i];simp only [Bool.not_false,Bool.and_self,if_true]
      have O: ∀m',Ga (t9 c.size)-1=m'->Sz m' c.size->wpAny (model prog w) A (do
         gw (rQ {B with plain:=b} c (t9 c.size)).2.2
         storeSet a (rQ {B with plain:=b} c (t9 c.size)).1 (rQ {B with plain:=b} c (t9 c.size)).2.1
         pure (some true)) (λr H=>match r with|some b=>Q b H|none=>False) E {s with heap:=s.heap.update a (Obj.putSet c {B with plain:=b})}:=λm' hw S'=>by
        obtain ⟨q,t2,e3,T2,p2⟩:=UW (I.led b) hw S'.IM S'.le.1;rw [e3];dsimp only;rw [RI];have Dc:q.size=c.size:=by rw [<-eq,p2.length_eq,eq]
        refine ak (aC (ak (wpAny_storeSet_of g1 rfl ?_ (by rw [Dc,n];exact J))));exact aC (fin _ q t2 m' _ (IS.trans (iG _ a _)) (WX g1 rfl q t2) T2 (by rw [Dc];exact S') (p2.trans l))
      have U:m*3<=(u.size+1)*5:=by
        unfold SetTable.tooFull SetTable.fill at i;have h1:=(I.led b).dm;have h2:=(I.led b).sz;have h3:=(I.led b).mask;rw [h1,h2,h3,n] at i;simpa using i
      rcases S with ⟨rfl,h4⟩| ⟨rfl,h4⟩| ⟨rfl,h4⟩
      . have h5:u.size=4:=by omega
        exact O 31 (by rw [n,h5];decide+kernel) (.inr (.inl ⟨rfl,by omega⟩))
      . have h5:u.size=18:=by omega
        exact O 127 (by rw [n,h5];decide+kernel) (.inr (.inr ⟨rfl,by omega⟩))
      . omega
    . rw [F9] at i;rw [i];simp only [CO,fT,if_false];refine aC (fin _ c _ m _ IS g1 (I.led b) ?_ l)
      have U: ¬m*3<=(u.size+1)*5:=by
        unfold SetTable.tooFull SetTable.fill at i;have h1:=(I.led b).dm;have h2:=(I.led b).sz;have h3:=(I.led b).mask;rw [h1,h2,h3,n] at i;simpa using i
      rw [n];rcases S with ⟨rfl,h4⟩| ⟨rfl,h4⟩| ⟨rfl,h4⟩
      . exact .inl ⟨rfl,by omega⟩
      . exact .inr (.inl ⟨rfl,by omega⟩)
      . exact .inr (.inr ⟨rfl,by omega⟩)
  have out: ∀(r:Option Bool) (H:az),(match r with|some b=>Q b H|none=>False)->wpAny (model prog w) A (match r with|some added=>pure added|none=>setAddHashedIn a (.int d tk) (gr d) 99999) Q E H:=λr H U=>by
    cases r with
    |none=>exact U.elim
    |some b=>exact aC U
  split
  . refine ak ?_;rw [hashByValue_scannable 8 rfl];refine aC ?_
    split
    . exact mw (tail _ rfl B.plain) (λr H U=>out r H U) λ_ _ z=>z
    . exact mw (tail _ rfl false) (λr H U=>out r H U) λ_ _ z=>z
  . refine ak (aC ?_);simp only [↓reduceIte];exact mw (tail _ rfl B.plain) (λr H U=>out r H U) λ_ _ z=>z
end
end Tab
open PyProof.Rows
namespace Tab
section
variable {prog:bn} {w:World}
def ei.same {ks:List Int} (x:ei w h a ks) (e: ∀o,h.get? a=some o->c.get? a=some o):ei w c a ks:=by
 obtain ⟨o,d,g,t,m,kp,L,i,r⟩:=x;exact ⟨o,d,g,t,m,kp,L,e o i,r⟩
variable {A:bp} {R:Result->az->Prop} {I:Addr} {U Y:List Addr} {G:Array GenState->Array GenState->Prop} {n:Nat} {P:Nat->Value->Prop} {St:Nat->az->Prop}
def RJ (W:WalksS prog w A.in1 I U Y G n P St) (S:Addr) (m:S∉U) (val:Nat->Int) (hb: ∀i,i<n->(cg val i).length<76) (hP: ∀i v,P i v-> ∃t,v= .int (val i) t):
  ∀(k i:Nat) (s:az),n-i=k->i<=n->St i s->ei w s.heap S (cg val i)->
    (∀a,Moved (S::Y) G s a->ei w a.heap S (cg val n)->R (.ok (.ret .none)) a)->
    k4 (model prog w) A (.builtin "set.update.loop" ⟨[.ref S,.ref I],[]⟩) R s:=by
 have y:S∉Y:=λh=>m (W.sub _ h)
 have N: ∀b∈Y,b∈S::Y:=λb z=>cv _ z
 have walk: ∀ {s a:az} {ks:List Int},Moved Y G s a->ei w s.heap S ks->ei w a.heap S ks:=λd x=>x.same λo e=>d.heap S o y e
 intro k
 induction k with
 |zero=>
  intro i s hk hi l B hR;obtain rfl:i=n:=by omega
  refine oX IT ?_;rw [pX Gh _];refine ak (W.done s _ _ l λa d=>?_);exact aC (hR a (d.mono N) (walk d B))
 |succ k ih=>
  intro i s hk hi l B hR;have bt:i<n:=by omega
  refine oX IT ?_;rw [pX Gh _];refine ak (W.item i s _ _ bt l λv a hv p d=>?_);obtain ⟨tk,rfl⟩:=hP i v hv;refine ak (gl ?_);unfold setAdd;refine gl (ak (wpAny_pyHash_int ?_));have E:=walk d B;refine RB (s:={a with toks:=a.toks+1}) E (hb i bt) λO bb H g=>?_
  have Q: ∀c o,c≠S->a.heap.get? c=some o->O.get? c=some o:=λc o q e=>by rw [H.2 c q];exact e
  have J:ei w O S (cg val (i+1)):=by
    rw [cg]
    by_cases d:val i∈cg val i
    . rw [if_pos d] at g ⊢;exact g
    . rw [if_neg d] at g ⊢;exact g
  refine aC ⟨oZ Gh _,ih (i+1) _ (by omega) bt (W.frame _ a _ _ p (oG _ _) λc q o e=>?_) J λL r u=>?_⟩
  . exact Q c o (λz=>m (by rw [<-z];exact q)) e
  . refine hR L (Moved.trans W.gtrans ((d.mono N).then_heap (oG _ _) λc o q e=>?_) r) u;exact Q c o (λz=>q (by rw [z];exact ci)) e
end
section
variable {prog:bn} {w:World} {A:bp} {E:UO} {s:az} {Q:UO} {O:Array Value} {val:Nat->Int} {l:Addr}
def RK (c:h.get? a=some o) (d:o.ExactSet) (e:o.data= .set #[] 0 (.fresh 0 0 led)) (g:led=!w.params.followText "set-order"):ei w h a []:=
 ⟨o, #[],0,_,7,[],led,c,d,e,Tb.fresh led,.inl ⟨rfl,by decide⟩,rfl,.refl _,.nil,g⟩
def mZ (hh:A.handled=none) (hl:s.heap.IsList l O)
  (hi: ∀(i:Nat) v,O[i]?=some v-> ∃t,v= .int (val i) t) (hb: ∀i,i<O.size->(cg val i).length<76)
  (h: ∀(g:Heap) (tk:Nat),ei w g s.heap.objs.size (cg val O.size)->(∀b o,b<s.heap.objs.size->s.heap.get? b=some o->g.get? b=some o)->Q (.ref s.heap.objs.size) {s with heap:=g,toks:=tk}):
  wpAny (model prog w) A (call (.type "set") [.ref l]) Q E s:=by
 obtain ⟨c,tl,RL⟩:=rR.mro;have IU:=rR.made;have RM:=rR.sub;refine wpAny_call (codeAny_of_tree ?_);refine aC ⟨Code.quiet_builtin _ (by decide+kernel),oX F.entry_type_call ?_⟩;rw [Around.under_plain (weight_type_call_type "set" [.ref l] []) rfl];have h1:=rR.notType;have h2:=rR.canCreate;have IV:=F.typeCall_set_1 (.ref l)
 repeat (any_goals (first|assumption|wp_step))
 refine vL (XZ (.ref l) (E:=E) (Q₁:=λB n=> ∃led:Bool,(led=!w.params.followText "set-order")/\B= .ref s.heap.objs.size/\n={s with heap:=s.heap.push {cls:= .type "set",dict:=none,data:= .set #[] 0 (.fresh 0 0 led)}}) ⟨_,rfl,rfl,rfl⟩) λr n hr=>?_
 cases r with
 |error e=>exact hr
 |ok fl=>
  cases fl with
  |ret B=>
   obtain ⟨led,H,rfl,rfl⟩:=hr;generalize d:({cls:= .type "set",dict:=none,data:= .set #[] 0 (.fresh 0 0 led)}:Obj)=q;have hS:(s.heap.push q).get? s.heap.objs.size=some q:=b0 _ (by rw [<-d];rfl);have hT:Shared.TypeIs {s with heap:=s.heap.push q} (.ref s.heap.objs.size) "set" :=⟨_,hS,by rw [<-d]⟩
   have hli:=rR.init.lookup;have hbi:=rR.init.bind (.ref s.heap.objs.size)
   repeat (any_goals (first|assumption|wp_step))
   refine vL (codeAny_call_builtin (R:=wants (λr p=>r= .none/\ ∃g tk,p={s with heap:=g,toks:=tk}/\
       ei w g s.heap.objs.size (cg val O.size)/\(∀b o,b<s.heap.objs.size->s.heap.get? b=some o->g.get? b=some o)) E) rR.init.plain F.entry_set_init (check_set_init_1 hT ?_)) λI p a=>?_
   . obtain ⟨ol,J,L,nl,N⟩:=hl;obtain ⟨RN,u,IW,m⟩:=ol;simp only at L N;subst L;subst N;have U:(s.heap.push q).get? l=some {cls:= .type "list",dict:=u,data:= .seq O nl,slots:=m}:=bu _ J;have RO:=F.sub_list_set;have RP:=F.sub_list_frozenset;have zf:(my "list" ==my "dict")=false:=by decide
     have Y:(s.heap.push q).IsList l O:=⟨_,U,rfl,nl,rfl⟩
     have bt:=bw J;have x:(s.heap.push q).objs.size=s.heap.objs.size+1:=iQ _ _
     have og:ei w ((s.heap.push q).push {cls:= .type "list_iterator",data:= .fields #[.ref l,.int 0 0]}) s.heap.objs.size []:=
       RK (bu _ hS) (by rw [<-d];exact ⟨rfl,rfl,rfl⟩) (by rw [<-d]) H
     subst d;unfold fS.«set.__init__» noKeywords Builtin.Frozenset.updateFrom;generalize RQ:pyIter=PI
     wp_walk
     subst RQ;refine A0 Y ?_;refine ak (wpAny_runValue ?_)
     refine RJ ((Walks.list (show A.in1.in1.in1.handled=none by simp [hh]) _ l (by rw [x];exact cj (Bw bt)) O).toS) s.heap.objs.size (by rw [x];simp only [bH,p5,or_false,not_or];exact ⟨cj (pe _),iM bt⟩) val
       hb (λi v hv=>hi i v hv) (O.size-0) 0 _ rfl (dR _) ⟨⟨_,b0 _ rfl,rfl,rfl⟩,Y.push _⟩ og λs' hm y=>?_
     . obtain ⟨g,g',d',FV,Q2⟩:=s';have eg:=hm.gens;have ed:=hm.drawn;have eo:=hm.os;subst eg;subst ed;subst eo;refine aC (aC ⟨rfl,g,FV,rfl,y,λb o hb e=>?_⟩);refine hm.heap b o ?_ (bu _ (bu _ e));rw [x];simp;exact ⟨cj hb,cj (Bw hb)⟩
   . cases I with
     |error e=>exact a
     |ok z=>
       cases z with
       |ret r=>
        obtain ⟨rfl,g,tk,rfl,y,BF⟩:=a
        repeat (any_goals (first|assumption|wp_step))
        exact h _ _ y BF
       |_=>exact a.elim
  |_=>exact hr.elim
end
end Tab
end M
noncomputable section
namespace M
open PySem PySem.Spec L2
open PyProof.Rows hiding St
section
variable {X:Cx} {K:aA}
def gM (ks:List NK) (ds:List D) (k:NK):Option D:=((ks.zip ds).find? λp=>decide (p.1=k)).map (·.2)
theorem Kg: ∀ {a:List (NK×V)} {ds:List D} (k:NK) {d:D},am K A H (a.map (·.2)) ds->gM (a.map (·.1)) ds k=some d-> ∃v,b7 a k=some v/\aD K A H v d
 | [],ds,k,d,r,h=>by simp [gM] at h
 | (e,v)::a,ds,k,d,r,h=>by
  cases r with
  |cons g i=>
   by_cases c:e=k
   . subst c;simp [gM] at h;subst h;exact ⟨v,by simp [b7],g⟩
   . obtain ⟨w,l,m⟩:=Kg k i (by simpa [gM,c] using h);exact ⟨w,by simpa [b7,c] using l,m⟩
def Gi:R2:=λx y H Q=> ∃a c k v,x= .ref a/\Rd H a (.dT c)/\TK H k y/\b7 c k=some v/\Q v H
def KN (l:X.A.units+20<cLine):mJ X Gi:=by
 intro value c i s E H x y v u Q I m n h o;obtain ⟨a,d,k,z,rfl,p,r,w,q⟩:=h;obtain rfl:v=cX a:=m;have g:gz H a y (some z):=by rw [<-w];exact .inr ⟨d,k,p,r,rfl⟩
 exact tail_any (yf I g) va.lookup (Qw l I g n λJ L B e=>⟨z,H,B,e,q⟩) o
def atT (ks:List NK) (ds:List D) (a:D):aq D:=match bh a with
 |some k=>match gM ks ds k with
  |some d=> .ok d
  |none=> .aj
 |none=> .aj
def i8:D->D->aq D
 | .bO ks a,c=>atT ks a c
 |_,_=> .aj
def RR (h:atT ks ds a= .ok d): ∃k,bh a=some k/\gM ks ds k=some d:=by
 unfold atT at h
 split at h
 . rename_i k c
   split at h
   . rename_i g e;cases h;exact ⟨k,c,e⟩
   . cases h
 . cases h
def kz (m:aD K A H x a) (n:aD K Any H y b) (h:i8 a b= .ok d) (q: ∀v,aD K A H v d->Q v H):Gi x y H Q:=by
 have g: ∀ {p:Addr} {e:List (NK×V)} {i:List D},Rd H p (.dT e)->am K (λc=>A c/\c≠p) H (e.map (·.2)) i->atT (e.map (·.1)) i b= .ok d->Gi (.ref p) y H Q:=λl r h=>by
  obtain ⟨k,o,u⟩:=RR h;obtain ⟨v,w,z⟩:=Kg k r.low u;exact ⟨_,_,k,v,rfl,l,wg n o,w,q v z⟩
 cases a with
 |bO ks i=>
  obtain ⟨a,e,rfl,l,_,rfl,r⟩:=m.f;exact g (.inl l) r h
 |_=>cases h
variable {a b:Expr} {O U:T5} {N:Lv} {Y p:Pos}
def RS (l:X.A.units+20<cLine) (m:DE X .s a O) (n:DE X N b U) (o:yj b:=by intro _ _;rfl):DE X .s (.Subscript a b Y) (av O U i8):=by
 nomatch (
  PE.imp (VB (KN l) m n o) λJ H Q=>by
   rintro ⟨G,g,c,d,k,e,q⟩;obtain ⟨r,e1,e⟩:=ja e;obtain ⟨u,e2,w⟩:=ja e;refine ⟨G,g,c,r,k,e1,λx L h z _=>⟨G,g,c,u,k.ao h,e2,λy B i E _=>?_⟩⟩
   exact kz (z.ao i) (E.aG Lv.bv) w λv I=>q v B (h.trans i) I trivial)
end
end M
namespace L2
open PySem PySem.Spec PyProof.Rows
section
variable {P:bn} {w:World} {H H':Hp} {h:Heap} {a C d:Addr} {Q:List (Addr×List V)}
abbrev gq (C d:Addr) (Q:List (Addr×List V)):HO:= .cx ((C,[])::(d,[])::Q)
abbrev BR (d:Addr):List (Str×V):=[(bo,V.ref d)]
def uQ (c:dD P w H h) (e:H a=some (gq C d Q)):Q.length<=aH/\(d==hC)=false/\d≠a/\H d=some (.ag a)/\
  (∃dx g,iO h a dx C g/\H dx=some (.ag a)/\d≠dx/\ ∀f,cG ((BR d).lookup f) (g f))/\ ∃i,eS (Cw H) Q i/\M.bL w h d i:=by
 obtain ⟨C',d',p,e0,z,lo,B,E,⟨dx,hx,I,J,e1,g,n,r⟩,i,u,o,L,N,O,U,Y,c3,c4⟩:=(show aW P w H h a (gq C d Q) from c a _ e)
 cases e0;refine ⟨z,lo,B,E,⟨dx,g,⟨e1,n,I⟩,hx,J,r⟩,i,u,o,L,N,O,U,Y,c3,λx hx=>?_,c4⟩
 have all: ∀ {l:List (Addr×List V)} {m:List M.VE},eS (Cw H) l m-> ∀x∈m,M.eR h x.1 x.2.1:=by
  intro l m q
  induction q with
  |nil=>intro x hx;exact nomatch hx
  |cons hq t ih=>
   intro x hx;rcases bH.mp hx with e|hx
   . subst e;obtain ⟨y,v,_,⟨t,r⟩,_⟩:=hq;exact xg c t r
   . exact ih x hx
 exact all u x hx
def BS (H:Hp):List (Addr×List V)->List M.NK->Prop:=eS λr k=> ∃y v,r.2=[y,v]/\TK H k y
theorem DX (c:dD P w H h): ∀ {Q:List (Addr×List V)} {g:List M.VE} {ks:List M.NK},eS (Cw H) Q g->BS H Q ks->g.map (·.1)=ks
 |_,_,_,.nil,.nil=>rfl
 |_,_,_,.cons ⟨y,v,e,⟨t,r⟩,_⟩ p,.cons ⟨m,n,i,l⟩ q=>by
  rw [e] at i;cases i;rw [cY,DX c p q];congr 1;exact M.g9 _ _ _ (xg c t r).1 (xg c l r).1
def RT (c:List M.VE) (k:M.NK):(M.gP c k).isSome=decide (k∈c.map (·.1)):=by
 unfold M.gP;rw [Option.isSome_map,Cn,List.find?_isSome];simp
end
section
variable {X:Cx} {B:List (Addr×Obj)} {σ:St} {H y:Hp} {s:az} {a d C:Addr}
def aw.RU (I:aw X B σ H s) (g: ∀b,H b=none->y b=none) (hs: ∀b,y b=H b\/ky (H b)) (ok:dD X.prog X.w y s.heap):aw X B σ y s:=by
 have keep: ∀ {b o},H b=some o-> ¬ky (some o)->y b=some o:=λ{b o} e n=>by
   rcases hs b with h|h
   . rw [h];exact e
   . rw [e] at h;exact (n h).elim
 refine ⟨I.ok,I.os,I.bare,⟨I.ae.keep,I.ae.slot,λb o q n x=>g b (I.ae.free b o q n x),I.ae.there,λb i q=>keep (I.ae.eW b i q) id,λb o v q=>keep (I.ae.eC b o v q) id,λb l q=>?_⟩,I.loc,I.cell,g _ I.free,λx c q=>g _ (I.cm x c q),λp r=>?_,ok,I.len⟩
 . obtain ⟨m,z⟩:=I.ae.eX b l q;exact ⟨m,keep z id⟩
 . obtain ⟨u,w,E⟩:=I.pin p r;exact ⟨u,g _ w,E⟩
def aw.boxed {dx:Addr} (I:aw X B σ H s) (e1:H a=some (.ins C dx (BR d))) (e2:H d=some (.dT [])):aw X B σ (ay (ay H d (.ag a)) a (gq C d [])) s:=by
 have nd:d≠a:=λz=>by rw [z,e1] at e2;cases e2
 obtain ⟨p,O,r,L,N,l⟩:=Yx I.aM e1;have nx:dx≠d:=λz=>by rw [z,e2] at l;cases l
 obtain ⟨z,lo,q,m,o,v,w,h1,h2,x,E,J⟩:=(show aW X.prog X.w H s.heap d (.dT []) from I.aM d _ e2)
 cases m
 have same: ∀b u,H b=some u-> ¬ky (some u)->(ay (ay H d (.ag a)) a (gq C d [])) b=some u:=λb u e n=>by
   rw [jp (λz=>by subst z;rw [e1] at e;cases e;exact n trivial),jp (λz=>by subst z;rw [e2] at e;cases e;exact n trivial)];exact e
 refine I.RU (λb h=>?_) (λb=>?_) λb u h=>?_
 . rw [jp (λz=>by subst z;rw [e1] at h;cases h),jp (λz=>by subst z;rw [e2] at h;cases h)];exact h
 . by_cases i:b=a
   . subst i;rw [e1];exact .inr trivial
   . by_cases g:b=d
     . subst g;rw [e2];exact .inr trivial
     . rw [jp i,jp g];exact .inl rfl
 . by_cases i:b=a
   . subst i;rw [jk] at h;cases h;exact ⟨C,d,[],rfl,dR _,lo,nd,by rw [jp nd,jk],⟨dx,by rw [jp O.ne,jp nx];exact l,O.ne,fH nx,O.obj,p,O.ns,r⟩,[],.nil,o,v,w,h1,h2,x,E,J⟩
   . rw [jp i] at h
     by_cases g:b=d
     . subst g;rw [jk] at h;cases h;exact ⟨o,h1⟩
     . rw [jp g] at h;exact (I.aM b u h).aP (λ_ _ _ z=>z) (λc g=>same c _ g id) (λc q g=>same c _ g id)
end
section
variable {X:Cx} {o e value i:Expr} {f:Str} {J:List Expr} {Y U L l:Pos} {N tv ty:TE} {t:TA} {C g:Addr} {m:Str} {k:Nat} {fd:l5} {ps:List Str} {sp:Sp} {E:XK} {CX:nh} {ds:List Value} {gv:List V}
def IX (K:aA) (N:TE):TE:=λn H Q=>N n H λx h=> ∃a C d c,x= .ref a/\h a=some (gq C d c)/\hU K C/\dX K C bo/\Q (.ref d) h
def Yf (he:PE X e N) (hb:lx e bo X.env (eval e X.env)=eval e X.env):PE X (.Attribute e bo Y) (IX X.K N):=by
 intro p s σ H Q I h;refine MS hb (a9 (he p s σ H _ I h) λu s1 w=>?_);obtain ⟨x,H1,y,rx,a,C,d,z,ex,ea,c,n,q⟩:=w;subst ex;obtain rfl:u=cX a:=rx;obtain ⟨_,_,_,_,⟨dx,mA,O,_,_,r⟩,_⟩:=uQ y.aM ea;obtain ⟨u,hu,B⟩:=cG.some_of (v:=V.ref d) (o:=mA bo) (by have:=r bo;rwa [List.lookup_cons_self] at this);exact MO y.fV O (c.get bo) c.hd n hu (vD B) ⟨.ref d,H1,y.tok _,B,q⟩
def BU:R2:=λx y H Q=> ∃a C d c ks k,y= .ref d/\H a=some (gq C d c)/\TK H k x/\BS H c ks/\Q (.bl (decide (k∈ks))) H
def RV (hu:X.A.units+20<cLine):dc X (lj .In) BU:=by
 rintro h s σ H x y v u Q I p r ⟨a,C,d,n,ks,k,w,z,tk,c,q⟩;subst w;obtain rfl:u=cX d:=r;obtain ⟨_,lo,_,_,_,xs,B,O⟩:=uQ I.aM z;refine M.Aw (by omega) (xg I.aM tk p) lo O λt=>⟨.bl _,H,I.tok _,rfl,?_⟩
 rw [RT,DX I.aM B c];exact q
def RW:R2:=λx y H Q=> ∃(a C d:Addr) (c:List (Addr×List V)) (ks:List M.NK) (k:M.NK) (j:Nat) (p:Addr) (h v:V),x= .ref d/\H a=some (gq C d c)/\TK H k y/\BS H c ks/\ks[j]?=some k/\c[j]?=some (p,[h,v])/\Q v H
theorem Xb {d n:Type} {F:d->n->Prop}: ∀ {a:List d} {c:List n},eS F a c-> ∀ {i:Nat} {x:d},a[i]?=some x-> ∃y,c[i]?=some y/\F x y
 |_,_,.nil,i,x,h=>by simp at h
 |_,_,.cons r t,0,x,h=>by cases h;exact ⟨_,rfl,r⟩
 |_,_,.cons r t,i+1,x,h=>by
  obtain ⟨y,p,q⟩:=Xb t (i:=i) (by simpa using h);exact ⟨y,by simpa using p,q⟩
def RX (hu:X.A.units+20<cLine):mJ X RW:=by
 rintro value c w s σ H x y v u Q I rx ry ⟨a,C,d,B,ks,k,j,p,y',z,ex,ea,tk,h,O,hr,q⟩ hs;subst ex;obtain rfl:v=cX d:=rx;obtain ⟨_,lo,_,_,_,xs,pr,r⟩:=uQ I.aM ea;have ke:=DX I.aM pr h;obtain ⟨x1,g1,y1,v1,g2,_,g3⟩:=Xb pr hr;cases g2;have hn:(xs.map (·.1)).Nodup:=let ⟨_,_,_,_,_,_,_,_,n⟩:=r;n
 have hx:xs[j]?=some (k,x1.2):=by
  rw [<-ke,c6,g1] at O;cases O;exact g1
 refine tail_any r.typeIs va.lookup (M.nG (by omega) (xg I.aM tk ry) r (M.iF hn hx) λt=>⟨z,H,I.tok _,g3,q⟩) hs
def RY (p ty tv:TE):TS:=λD h H=>tv h H λv q=>p h q λx r=>ty h r λy n=> ∃a C d c ks k,x= .ref d/\n a=some (gq C d c)/\TK n k y/\BS n c ks/\k∉ks/\c.length<aH/\D.nx h (ay n a (gq C d (c++[(0,[y,v])])))
def RZ {td:TE} (hu:X.A.units+20<cLine) (ho:PE X o td) (hi:PE X i ty) (hv:PE X value tv) (hs:gb value (some (.Subscript o i U)) Y.line X.env=pure false):
  PS X (.Assign [.Subscript o i U] value Y) (RY td ty tv):=by
 intro B s σ H D I h;refine wpAny_Assign_Subscript (a9 (hv B s σ H _ I h) λr s1 ⟨v,H1,I1,rv,q1⟩=>a9 (ho B s1 σ H1 _ I1 q1) λu s2 ⟨x,H2,I2,rx,q2⟩=>a9 (hi B s2 σ H2 _ I2 q2) λiv s3 fM=>?_) hs;obtain ⟨y,H3,I3,ry,a,C,d,w,ks,k,ex,ea,tk,tQ,nk,hz,q⟩:=fM;subst ex;obtain rfl:u=cX d:=rx;obtain ⟨_,lo,nd,hd,⟨dx,mA,O,hx,IY,rr⟩,Q,pr,dd⟩:=uQ I3.aM ea;have ke:=DX I3.aM pr tQ;have hl:Q.length=w.length:=(o9 pr).symm;refine M.gR (by omega) (xg I3.aM tk ry) dd (by omega) λh' t Dv hs=>⟨σ,_,?_,q⟩
 have e1:M.dI Q k iv r=Q++[(k,iv,r)]:=by
  unfold M.dI;rw [if_neg];intro c;obtain ⟨z,hz,e⟩:=qH.mp c;exact nk (by rw [<-ke];exact bP.mpr ⟨z,hz,by simpa using e⟩)
 rw [e1] at Dv;obtain ⟨ob,J,ep,hq,h2,h3,h4,_,h5⟩:=Dv;have kp: ∀b q,b≠d->s3.heap.get? b=some q->h'.get? b=some q:=λb q hb z=>(hs.2 b hb).trans z
 have up: ∀b u,H3 b=some u-> ¬ky (some u)->(ay H3 a (gq C d (w++[(0,[y,v])]))) b=some u:=λb u e n=>by
  rw [jp (λz=>by subst z;rw [ea] at e;cases e;exact n trivial)];exact e
 obtain ⟨od,R0,BQ,e2,c2⟩:=O.ns;refine I3.write (x:=a) (e:=d) (by rw [ea];trivial) (.inr hd) kp ⟨ob,hq⟩ ⟨C,d,w++[(0,[y,v])],rfl,by simp;omega,lo,nd,up _ _ hd id,⟨dx,up _ _ hx id,O.ne,IY,kp _ _ (fH nd) O.obj,mA,⟨od,R0,BQ,kp _ _ (fH IY) e2,c2⟩,rr⟩,_,?_,ob,J,ep,hq,h2,h3,h4,h5⟩;have ht: ∀b Q,H3 b=some (.ar Q)->(ay H3 a (gq C d (w++[(0,[y,v])]))) b=some (.ar Q):=λb Q e=>up b _ e id
 exact CQ (eS.ll pr λp q ⟨y,v,a1,a2,a3⟩=>⟨y,v,a1,⟨a2.1.keep ht,a2.2⟩,a3⟩) ⟨y,v,rfl,⟨tk.keep ht,ry⟩,rv⟩
def Gj (K:aA) (N:TE):TS:=λD h H=> ∀d,H d=none->N h (ay H d (.dT [])) λx c=> ∃a C dx,x= .ref a/\c a=some (.ins C dx [])/\c d=some (.dT [])/\hU K C/\dX K C bo/\D.nx h (ay (ay c d (.ag a)) a (gq C d []))
def R1 (ha:PE X o N) (hs:gb (.Dict [] [] l) (some (.Attribute o bo U)) Y.line X.env=pure false):PS X (.Assign [.Attribute o bo U] (.Dict [] [] l) Y) (Gj X.K N):=by
 intro r s O H D I h;refine plainObj_wpAny_Assign_Attribute (a9 (Kq r s O H (λy H1=> ∃d,y= .ref d/\H1=ay H d (.dT [])/\H d=none) I λp hp=>⟨p,rfl,rfl,hp⟩) λu s1 v=>?_) hs;obtain ⟨y,H1,I1,ry,d,ey,eH,hd⟩:=v;subst ey eH;refine a9 (ha r s1 O _ _ I1 (h d hd)) λov s2 v=>?_;obtain ⟨x,H2,I2,rx,a,C,dx,ex,ea,e2,c,n,q⟩:=v
 subst ex;obtain rfl:ov=cX a:=rx;have nd:d≠a:=λz=>by rw [z,ea] at e2;cases e2
 refine Vx I2 ea c n (by decide) ry λs' I'=>⟨O,_,?_,q⟩
 have B:=I'.boxed (a:=a) (d:=d) (C:=C) (dx:=dx) jk (by rw [jp nd];exact e2)
 have:ay (ay (ay H2 a (.ins C dx (dJ bo (V.ref d) []))) d (.ag a)) a (gq C d [])=ay (ay H2 d (.ag a)) a (gq C d []):=by
  funext b
  by_cases w:b=a
  . subst w;rw [jk,jk]
  . rw [jp w,jp w]
    by_cases Q:b=d
    . subst Q;rw [jk,jk]
    . rw [jp Q,jp Q,jp w]
 rw [this] at B;exact B
def R3 (C:Addr) (sp:Sp) (gv:List V) (E:XK) (N:TE) (t:TA):TE:=λh H Q=>N h H λx n=> ∃a d c,x= .ref a/\n a=some (gq C d c)/\t h n λp q=>sp (x::(p++gv)) q Q E
def YB {A:bp} {E:UO} {n:List (Addr×Obj)} {q:St} {H:Hp} {s:az} {a d:Addr} {p:List (Addr×List V)} {u:Sem Bool} {Q:Value×List Value->az->Prop} (I:aw X n q H s) (e:H a=some (gq C d p)) (c:hU X.K C) (k:Meth X.K C m g) (v:m≠bo)
  (h:Q (.ref g,[.ref a]) s):wpAny (model X.prog X.w) A (sy (.ref a) m u) Q E s:=by
 obtain ⟨_,_,_,_,⟨dx,w,O,_,_,r⟩,_⟩:=uQ I.aM e;have x:w m=none:=cG.none_of (by have:=r m;rwa [mN,show (m==bo)=false from by simpa using v] at this);exact MP I.fV O (c.get m) k.at_ k.fn x h
def JE {z:Sem Bool} (he:PE X o N) (c:hU X.K C) (B:Meth X.K C m g) (p:m≠bo) (F:bS X.prog X.w X.K X.mg X.ae CX k g fd ps sp) (hr:aL k X.A) (hb:Binds X.K fd ps ds) (hd:aI gv ds) (hx:yN CX X E) (ha:PA X (e::J) t)
  (v:T9 X e J:=by rfl) (w:T8 X Y J:=by rfl)
  (ht:eval (.Call (.Attribute o m L) (e::J) [] Y) X.env=(do
   let ov<-eval o X.env
   oK L.atName
   let (f,first)<-nI [ov] (sy ov m z)
   callWith Y f first (eA Y (bj (e::J) X.env)) (l7 Y (l8 [] X.env))):=by rfl):
  PE X (.Call (.Attribute o m L) (e::J) [] Y) (R3 C sp gv E N t):=by
 intro n s O H Q I h;refine PySem.W.methodCall_KW (pl:=z) (a9 (he n s O H _ I h) λu s1 y=>?_) ht;obtain ⟨x,H1,I1,rx,a,d,rows,ex,ea,q⟩:=y;subst ex;obtain rfl:u=cX a:=rx;refine YB I1 ea c B p ?_;refine PySem.W.callWith_K (first:=[.ref a]) (h₀:=X.ae) I.ok.mod.Cy B.kp (a9 (ha Y n s1 O H1 _ I1 q) λus s2 ⟨vs,H2,I2,r,q2⟩=>⟨I2.fV,?_⟩) v w;exact Ht (us:= .ref a::us) (vs:= .ref a::vs) F hr hb hd hx I2 (.cons rfl r) q2
end
end L2
namespace M
open PySem PySem.Spec L2
open PyProof.Rows hiding St
def jD (L:List (D×D)):D:= .cx (.ar []:: .ar []::L.map λp=> .ar [p.1,p.2])
def W6:List D->Option (List (D×D))
 | []=>some []
 | .ar [k,v]::r=>match W6 r with
  |some L=>some ((k,v)::L)
  |none=>none
 |_=>none
def mn:D->aq (List (D×D))
 | .cx (.ar []:: .ar []::r)=>match W6 r with
  |some L=> .ok L
  |none=> .aj
 |_=> .aj
theorem Ke: ∀ {r:List D} {L:List (D×D)},W6 r=some L->r=L.map λp=> .ar [p.1,p.2]
 | [],L,h=>by cases h;rfl
 |d::r,L,h=>by
  unfold W6 at h
  split at h
  . rename_i e;cases e
  . rename_i k v a e;cases e
    cases q:W6 r with
    |none=>rw [q] at h;cases h
    |some c=>rw [q] at h;cases h;rw [Ke q];rfl
  . cases h
def Wa (h:mn d= .ok L):d=jD L:=by
 unfold mn at h
 split at h
 . split at h
   . rename_i r a e;cases h;rw [Ke e];rfl
   . cases h
 . cases h
theorem WZ: ∀L:List (D×D),W6 (L.map λp=> .ar [p.1,p.2])=some L
 | []=>rfl
 | (k,v)::L=>by
  show (match W6 (L.map λp=>D.ar [p.1,p.2]) with|some L=>some ((k,v)::L)|none=>none)=_;rw [WZ L]
def Jn (L:List (D×D)):mn (jD L)= .ok L:=by
 show (match W6 (L.map λp=>D.ar [p.1,p.2]) with|some L=>aq.ok L|none=> .aj)=_;rw [WZ L]
def wb:List (D×D)->Option (List NK)
 | []=>some []
 |p::r=>match bh p.1,wb r with
  |some k,some ks=>some (k::ks)
  |_,_=>none
theorem KJ: ∀ {L:List (D×D)} {ks:List NK},wb L=some ks-> ∀ {j:Nat} {p:D×D},L[j]?=some p-> ∃k,ks[j]?=some k/\bh p.1=some k
 | [],_,_,j,p,h=>by simp at h
 |q::L,ks,e,j,p,h=>by
  unfold wb at e
  cases e1:bh q.1 with
  |none=>rw [e1] at e;cases e
  |some k=>
   cases e2:wb L with
   |none=>rw [e1,e2] at e;cases e
   |some a=>
    rw [e1,e2] at e;cases e
    cases j with
    |zero=>cases h;exact ⟨k,rfl,e1⟩
    |succ j=>exact KJ e2 (j:=j) (by simpa using h)
def BV (L:List (D×D)) (a:D):aq D:=match bh a,wb L with
 |some k,some ks=> .ok (.bl (decide (k∈ks)))
 |_,_=> .aj
def oj (L:List (D×D)) (a:D):aq D:=match bh a,wb L with
 |some k,some _=>match L.find? λp=>decide (bh p.1=some k) with
  |some p=> .ok p.2
  |none=> .aj
 |_,_=> .aj
def lP (L:List (D×D)) (a c:D):aq D:=match bh a,wb L with
 |some k,some ks=>aK (k∉ks/\L.length<aH) (.ok (jD (L++[(a,c)])))
 |_,_=> .aj
section
variable {K:aA} {A:UP} {H:Hp}
def gY (K:aA) (A:UP) (H:Hp):List (Addr×List V)->List (D×D)->Prop:=eS λr p=> ∃y v,r.2=[y,v]/\aD K A H y p.1/\aD K A H v p.2
theorem IZ: ∀ {a:List (Addr×List V)} {L:List (D×D)},a.map (λr=>r.2.length)=(L.map λp=>D.ar [p.1,p.2]).map (λd=>(gc d).length)->am K A H (a.flatMap (·.2)) ((L.map λp=>D.ar [p.1,p.2]).flatMap gc)->gY K A H a L
 | [],[],_,_=> .nil
 | [],_::_,h,_=>by simp at h
 |_::_,[],h,_=>by simp at h
 | (c,g)::a,(k,v)::L,h,r=>by
  simp only [cY,Al] at h;obtain ⟨e,i⟩:=h;have e:g.length=2:=e
  match g,e with
  | [y,z],_=>
   simp only [cY,List.flatMap_cons,gc] at r;have r:am K A H (y::z::a.flatMap (·.2)) (k::v::(L.map λp=>D.ar [p.1,p.2]).flatMap gc):=r;obtain ⟨_,_,e1,l,r⟩:=r.cq;cases e1;obtain ⟨_,_,e2,m,r⟩:=r.cq;cases e2;exact .cons ⟨y,z,rfl,l,m⟩ (IZ i r)
theorem JC: ∀ {c:List (Addr×List V)} {L:List (D×D)},gY K A H c L->c.map (λr=>r.2.length)=(L.map λp=>D.ar [p.1,p.2]).map (λd=>(gc d).length)/\am K A H (c.flatMap (·.2)) ((L.map λp=>D.ar [p.1,p.2]).flatMap gc)
 |_,_,.nil=>⟨rfl,.nil⟩
 |_,_,.cons (a:=r) (b:=p) ⟨y,v,e,g,h⟩ q=>by
  obtain ⟨i,l⟩:=JC q;refine ⟨by simp only [cY,i,e];rfl,?_⟩;simp only [cY,List.flatMap_cons,e];exact .cons g (.cons h l)
def gY.low {d:UP} (w: ∀c,A c->d c) (r:gY K A H a L):gY K d H a L:=eS.ll r λ_ _ ⟨y,v,e,g,h⟩=>⟨y,v,e,g.aG w,h.aG w⟩
def gY.ao (s:ap H c) (r:gY K A H a L):gY K A c a L:=eS.ll r λ_ _ ⟨y,v,e,d,g⟩=>⟨y,v,e,d.ao s,g.ao s⟩
theorem gY.ks: ∀ {a:List (Addr×List V)} {L:List (D×D)} {ks:List NK},gY K A H a L->wb L=some ks->BS H a ks
 |_,_,_,.nil,e=>by cases e;exact .nil
 |_,p::L,ks,.cons ⟨y,v,e0,c,_⟩ q,e=>by
  unfold wb at e
  cases e1:bh p.1 with
  |none=>rw [e1] at e;cases e
  |some k=>
   cases e2:wb L with
   |none=>rw [e1,e2] at e;cases e
   |some d=>
    rw [e1,e2] at e;cases e;exact .cons ⟨y,v,e0,wg c e1⟩ (gY.ks q e2)
def Ad (K:aA) (C:Addr):Prop:=cE K bY "Joining" =some (some (.ref C))
def WT {c:List (Addr×List V)} {L:List (D×D)} (h:AY K c (.ar []:: .ar []::L.map λp=> .ar [p.1,p.2])) (r:am K A H (c.flatMap (·.2)) ((D.ar []:: .ar []::L.map λp=> .ar [p.1,p.2]).flatMap gc)):
  ∃C d a,c=(C,[])::(d,[])::a/\Ad K C/\gY K A H a L:=by
 obtain ⟨e,g⟩:=h
 match c,e with
 | (C,[])::(d,[])::a,e=>
  simp only [cY,Al] at e;exact ⟨C,d,a,rfl,g C _ rfl,IZ e.2.2 r⟩
def aD.box (r:aD K A H v (jD L)): ∃a C d g,v= .ref a/\H a=some (gq C d g)/\A a/\Ad K C/\gY K (λc=>A c/\c≠a) H g L:=by
 obtain ⟨a,rs,rfl,e,h,i,l⟩:=r.f;obtain ⟨C,d,g,rfl,b,q⟩:=WT i l;exact ⟨a,C,d,g,rfl,e,h,b,q⟩
def uR {a:List (Addr×List V)} (b:Ad K C) (r:gY K A H a L):AY K ((C,[])::(d,[])::a) (.ar []:: .ar []::L.map λp=> .ar [p.1,p.2]):=
 ⟨by simp only [cY,(JC r).1];rfl,λc r e=>by cases e;exact b⟩
def aD.rS {g:List (Addr×List V)} (e:H a=some (gq C d g)) (h:A a) (b:Ad K C) (r:gY K (λc=>A c/\c≠a) H g L):aD K A H (.ref a) (jD L):=
 .cx e h (uR b r) rfl (JC r).2
def Yh {i:Nat} (k:au K G p env g H) (h:env[i]?=some (.ag (jD L))): ∃a C d c,g[i]?=some (some (.ref a))/\H a=some (gq C d c)/\Ad K C/\gY K (Sf G env g) H c L:=by
 obtain ⟨a,l,_,m⟩:=k.ag i _ h
 cases m with
 |cx e n o r=>
  subst o;obtain ⟨C,d,c,rfl,b,q⟩:=WT n r;exact ⟨a,C,d,c,l,e,b,q⟩
def JA {i:Nat} (k:au K G r env m H) (h:cJ i env= .ok n) (o:mn n= .ok L): ∃a C d g,m[i]?=some (some (.ref a))/\H a=some (gq C d g)/\Ad K C/\gY K (λc=>Sf G env m c/\c≠a) H g L:=by
 rw [Wa o] at h;rcases X7 h with z|z
 . obtain ⟨v,l,p⟩:=k.ab i _ z;obtain ⟨a,C,d,g,rfl,e,_,b,q⟩:=p.box;exact ⟨a,C,d,g,l,e,b,q⟩
 . obtain ⟨a,C,d,g,l,e,b,q⟩:=Yh k z;exact ⟨a,C,d,g,l,e,b,q.low λc y=>⟨y,Q7 k z l c y⟩⟩
def gY.at {a:List (Addr×List V)} {L:List (D×D)} (q:gY K A H a L) {j:Nat} {p:D×D} (h:L[j]?=some p): ∃c y v,a[j]?=some (c,[y,v])/\aD K A H v p.2:=by
 induction q generalizing j with
 |nil=>simp at h
 |cons x q d=>
  obtain ⟨y,v,e,_,r⟩:=x
  cases j with
  |zero=>cases h;rename_i g _ _ _;obtain ⟨c,i⟩:=g;cases e;exact ⟨c,y,v,rfl,r⟩
  |succ j=>exact d (j:=j) (by simpa using h)
end
section
variable {X:Cx} {e e1 e2:Expr} {f f1 f2:T5} {l l1:Lv} {pos p r:Pos} {x:Str} {i j:Nat}
def BW (j:Nat) (f:T5):Sl->aq D:=λa=>f a>>=λc=>cJ j a>>=λd=>mn d>>=λL=>BV L c
def R4 (y:fQ X.K "Joining" bo): ∀n H Q,tE X.K .t (BW j f) n H Q->sr BU (tE X.K l f) (IX X.K (sh j)) n H Q:=by
 nomatch (
  λn H Q=>by
   rintro ⟨G,I,o,d,k,h,q⟩;obtain ⟨z,J,h⟩:=ja h;obtain ⟨d0,N,h⟩:=ja h;obtain ⟨L,O,g⟩:=ja h;refine ⟨G,I,o,z,k,J,λv U B Y _=>?_⟩;obtain ⟨a,C,E,c,h1,e,b,u⟩:=JA (k.ao B) N O;unfold BV at g
   cases m:bh z with
   |none=>rw [m] at g;cases g
   |some kk=>
    cases w:wb L with
    |none=>rw [m,w] at g;cases g
    |some ks=>
     rw [m,w] at g;cases g;refine ⟨_,h1,a,C,E,c,rfl,e,(y.at b).1,(y.at b).2,a,C,E,c,ks,kk,rfl,e,wg Y m,u.ks w,q _ U B (.bl _) ?_⟩
     intro a e;cases e)
def R5 (j:Nat) (c:X.A.units+20<cLine) (d:fQ X.K "Joining" bo) (h:DE X l e f) (g:X.N[j]?=some x:=by rfl) (m:dE X.env.scope x:=by exact bT rfl)
   (n:ZH x:=by decide) (a:UR x:=by decide)
   (o:lx (.Name x p) bo X.env (eval (.Name x p) X.env)=eval (.Name x p) X.env:=by rfl)
   (q:sw .In (.Attribute (.Name x p) bo r)=false:=by first|exact kG _| (with_unfolding_all rfl)):DT X (.Compare e [.In] [.Attribute (.Name x p) bo r] pos) (aY (BW j f)):=by
 nomatch (
  PT.imp (U2 (RV c) h (Yf (qw g m n a) o) q) λ_ _ _ h=>XX (l:= .t) (R4 d) h)
def p6 (j:Nat) (f:T5):Sl->aq D:=λa=>cJ j a>>=λd=>mn d>>=λL=>f a>>=λc=>oj L c
def R6 (j:Nat) (hu:X.A.units+20<cLine) (Y:fQ X.K "Joining" bo) (h:DE X l e f) (hN:X.N[j]?=some x:=by rfl) (hv:dE X.env.scope x:=by exact bT rfl)
   (hd:ZH x:=by decide) (E:UR x:=by decide)
   (hb:lx (.Name x p) bo X.env (eval (.Name x p) X.env)=eval (.Name x p) X.env:=by rfl) (n:yj e:=by intro _ _;rfl):DE X .s (.Subscript (.Attribute (.Name x p) bo r) e pos) (p6 j f):=by
 nomatch (
  PE.imp (VB (RX hu) (Yf (qw hN hv hd E) hb) h n) λσ H Q=>by
   rintro ⟨G,H0,I,d,k,o,q⟩;obtain ⟨d0,c2,o⟩:=ja o;obtain ⟨L,c3,o⟩:=ja o;obtain ⟨kd,c1,g⟩:=ja o;obtain ⟨a,C,dd,m,h1,e,b,J⟩:=JA k c2 c3;refine ⟨_,h1,a,C,dd,m,rfl,e,(Y.at b).1,(Y.at b).2,G,H0,I,kd,k,c1,λv H1 N r1 _=>?_⟩;unfold oj at g
   cases w:bh kd with
   |none=>rw [w] at g;cases g
   |some O=>
    cases n:wb L with
    |none=>rw [w,n] at g;cases g
    |some ks=>
     rw [w,n] at g;dsimp only at g
     cases B:L.find? λp=>decide (bh p.1=some O) with
     |none=>rw [B] at g;cases g
     |some pp=>
      rw [B] at g;cases g;obtain ⟨jj,hj⟩:=oE.mp (u5 B);have U:bh pp.1=some O:=by simpa using Cr B
      obtain ⟨k',g1,g2⟩:=KJ n hj;rw [U] at g2;cases g2;have u:=J.ao N;obtain ⟨c,y,v',g3,g4⟩:=u.at hj
      exact ⟨a,C,dd,m,ks,O,jj,c,y,v',rfl,N _ _ e,wg r1 w,u.ks n,g1,g3,q v' H1 N (g4.aG λc z=>z.1) trivial⟩)
def m5 (i:Nat) (f1 f2:T5):Sl->aq bf:=λa=>f2 a>>=λc=>f1 a>>=λg=>match a[i]? with
 |some (.ag d)=>mn d>>=λL=>lP L g c>>=λh=> .ok (.nx (a.set i (.ag h)))
 |_=> .aj
def Wr (i:Nat) (hu:X.A.units+20<cLine) (hf:fQ X.K "Joining" bo) (h1:DE X .s e1 f1) (h2:DE X .s e2 f2) (hN:X.N[i]?=some x:=by rfl) (hv:dE X.env.scope x:=by exact bT rfl)
   (hd:ZH x:=by decide) (J:UR x:=by decide)
   (hb:lx (.Name x p) bo X.env (eval (.Name x p) X.env)=eval (.Name x p) X.env:=by rfl)
   (n:gb e2 (some (.Subscript (.Attribute (.Name x p) bo r) e1 u)) pos.line X.env=pure false:=by rfl):
   iZ X i (.Assign [.Subscript (.Attribute (.Name x p) bo r) e1 u] e2 pos) (m5 i f1 f2):=by
 nomatch (
  PS.imp (RZ hu (Yf (qw hN hv hd J) hb) h1 h2 n) λE σ H=>by
   rintro ⟨G,H0,g,o,a,k,z,d,q⟩;obtain ⟨N,c1,d⟩:=ja d;obtain ⟨B,c2,d⟩:=ja d
   split at d
   . rename_i d0 O;obtain ⟨L,c3,d⟩:=ja d;obtain ⟨d',h,d⟩:=ja d;cases d;rw [Wa c3] at O;refine ⟨G,H0,g,N,k,c1,λv H1 s1 r1 _=>?_⟩;have Q:=k.ao s1;obtain ⟨a1,C,U,c,g1,g2,Y,g4⟩:=Yh Q O;rw [z] at g1;cases g1;refine ⟨_,z,a,C,U,c,rfl,g2,(hf.at Y).1,(hf.at Y).2,G,H0,g,B,Q,c2,λy H2 m r2 _=>?_⟩;unfold lP at h
     cases I:bh B with
     |none=>rw [I] at h;cases h
     |some kk=>
      cases n:wb L with
      |none=>rw [I,n] at h;cases h
      |some ks=>
       rw [I,n] at h;obtain ⟨⟨hn,hz⟩,c5⟩:=jl h;cases c5;have g5:=g4.ao m;have hl:c.length<aH:=by rw [o9 g5];exact hz
       refine ⟨a,C,U,c,ks,kk,rfl,m _ _ g2,wg r2 I,g5.ks n,hn,hl,?_⟩;have g6:gY X.K (Sf G g σ) H2 (c++[(0,[y,v])]) (L++[(B,N)]):=CQ g5 ⟨y,v,rfl,r2,r1.ao m⟩;have W:=(Q.ao m).ge (o':=gq C U (c++[(0,[y,v])])) (d':=jD (L++[(B,N)])) O z (m _ _ g2) trivial λA' H' st e w=> .cx e (uR Y g6) rfl ((JC g6).2.aP st w)
       exact q σ _ W.1 z ((W.2.ao m).ao s1)
   . cases d)
end
section
variable {X:Cx} {e:Expr} {es:List Expr} {f:T5} {l:Lv} {h p apos BX:Pos} {x m c:Str} {i j k n:Nat} {ps:List Str} {fr:Bool} {F:TY} {I0:FO} {g:TZ} {pl:Sem Bool}
def BY (i:Nat):Sl->aq bf:=λa=>tV i "Joining" a>>=λq=>aK (q.1=[]/\q.2=[]) (.ok (.nx (a.set i (.ag (jD [])))))
def R7 (N:fQ X.K "Joining" bo) (Y:X.N[i]?=some x:=by rfl) (hv:dE X.env.scope x:=by exact bT rfl)
   (hd:ZH x:=by decide) (v:UR x:=by decide)
   (hs:gb (.Dict [] [] BX) (some (.Attribute (.Name x p) bo apos)) h.line X.env=pure false:=by rfl):iZ X i (.Assign [.Attribute (.Name x p) bo apos] (.Dict [] [] BX) h) (BY i):=by
 nomatch (
  PS.imp (R1 (qw Y hv hd v) hs) λE σ H ⟨G,H0,env,o,a,k,u,w,q⟩ d r=>by
   obtain ⟨q0,e1,w⟩:=ja w;obtain ⟨O,e2⟩:=jl w;cases e2;have y:=PV e1;rw [O.1,O.2] at y;obtain ⟨a',C,dx,fs,Q,U,B,hn,rs⟩:=PU k y;rw [u] at Q;cases Q;have I:fs=[]:=by simpa using hn
   subst I;have nd:d≠a:=λz=>by rw [z,U] at r;cases r
   refine ⟨_,u,a,C,dx,rfl,by rw [jp (fH nd)];exact U,jk,(N.at B).1,(N.at B).2,?_⟩
   have W:=k.anew (d':=jD []) (H':=ay (ay (ay H d (.dT [])) d (.ag a)) a (gq C d [])) y u (λc o J e=>by
    rw [jp J,L4,jp (λz=>by rw [z,r] at e;cases e)];exact e) (.cx jk (uR (L:=[]) (K:=X.K) (A:=Any) (H:=H) B .nil) rfl .nil)
   exact q σ _ W.1 u W.2)
def pW.BZ (A:pW X.prog X.w X.K X.mg X.ae k c 0 I0) (I:aL (k+1) X.A) (hg:Gl X c:=by rfl) (y:ZH c:=by decide):
  DE X .t (.Call (.Name c p) [] [] h) (IA c 0 I0 rj):=by
 obtain ⟨C,f,fd,ps,h1,h2,J,L,N⟩:=A.ex
 nomatch (
 PE.imp (MY L h1 I hg J N .nil ZR y) λO H Q=>by
  rintro ⟨G,H0,env,d,k,a,q⟩;obtain ⟨ds,e1,a⟩:=ja a;cases e1;obtain ⟨hn,a⟩:=jl a;obtain ⟨⟨r,d1⟩,e2,a⟩:=ja a
  cases r with
  |aV=>
   cases a;refine λx dx w B ne=>?_
   have S:ap H (ay (ay H dx (.ag x)) x (.ins C dx [])):=λb o u=>by
    rw [jp (qu u w),jp (qu u B)];exact u
   have U:=k.new x w;refine ⟨Sf G env O,[],[],x,_,.aV,d,rfl,rfl,.nil,.obj jk ⟨h2,rfl⟩ rfl .nil,e2,λv E hs t Y=>⟨Y.pH,?_⟩⟩;have sH:ap H E:=λb o u=>hs b o (qu u w) (S b o u)
   refine q _ E sH (t.rep (λb z=>⟨z.1.elim (λz=>k.new b (ap.free S z)) λz=>z,z.2⟩) U) λb u o qb m=>?_
   cases u;rw [qb] at w;cases w
  |_=>cases a)
def wt (n:Nat) (F:TY) (j:Nat) (g:TZ):Sl->aq D:=λa=>cJ j a>>=λo=>mn o>>=λL=>g a>>=λd=>aK (d.length+1=n) (F (jD L::d))
def i4.fD (j:Nat) (A:i4 X.prog X.w X.K X.mg X.ae k "Joining" m ps fr F) (U:aL k X.A) (Y:DA X .b (e::es) g) (w:m≠bo:=by decide) (hn:ps.length=n:=by rfl)
  (hN:X.N[j]?=some x:=by rfl) (hv:dE X.env.scope x:=by exact bT rfl) (hd:ZH x:=by decide) (y:UR x:=by decide)
  (B:T9 X e es:=by exact jm rfl) (E:T8 X h es:=by exact jK rfl)
  (ht:eval (.Call (.Attribute (.Name x p) m apos) (e::es) [] h) X.env=(do
   let ov<-eval (.Name x p) X.env
   oK apos.atName
   let (f,first)<-nI [ov] (sy ov m pl)
   callWith h f first (eA h (bj (e::es) X.env)) (l7 h (l8 [] X.env))):=by rfl):DE X .b (.Call (.Attribute (.Name x p) m apos) (e::es) [] h) (wt n F j g):=by
 subst hn;obtain ⟨C,f,fd,h1,h2,h3,h4,h5⟩:=A.ex
 nomatch (
 PE.imp (JE (qw hN hv hd y) h3 h4 w h1 U h5 .nil ZR Y B E ht) λσ H Q=>by
  rintro ⟨G,H0,env,d,k,r,q⟩;obtain ⟨o,c1,r⟩:=ja r;obtain ⟨L,c2,r⟩:=ja r;obtain ⟨J,c3,r⟩:=ja r;obtain ⟨c4,c5⟩:=jl r;obtain ⟨a,C',dd,u,g1,g2,N,g4⟩:=JA k c1 c2;have:C'=C:=by have:=N.symm.trans h2;cases this;rfl
  subst this;refine ⟨_,g1,a,dd,u,rfl,g2,G,H0,env,J,k,c3,λws H2 I O=>?_⟩;show lE X.K fr ps.length F (.ref a::(ws++[])) H2 Q (λ_ _ _=>False);rw [f6]
  exact ⟨Any,jD L::J,d,by simp [O.length,c4],.cons (.rS (I _ _ g2) trivial N ((g4.ao I).low λc z=>⟨trivial,z.2⟩)) O,c5,λv H3 s3 r3 _=>q v H3 (I.trans s3) (r3.aG λc _=>trivial) trivial⟩)
end
def dA {a:Type} (p:Nat) (x:a) (l:List a):List a:=l.take p++x::l.drop p
def Wf {a:Type} {p:Nat} {x:a} {l:List a}:(dA p x l).length=l.length+1:=by
 unfold dA;simp;omega
def vx {a:Type} {p:Nat} {x:a} {l:List a} (h:p<=l.length):(dA p x l)[p]?=some x:=by
 unfold dA;rw [eD (by simp;omega),mH,DY h,Nat.sub_self];rfl
def sk (p j:Nat):Nat:=if j<p then j else j+1
def vw {a:Type} {p:Nat} {x:a} {l:List a} (h:p<=l.length) (j:Nat):(dA p x l)[sk p j]?=l[j]?:=by
 unfold dA sk
 split
 . rename_i q;rw [fI (by simp;omega),CK q]
 . rename_i q;rw [eD (by simp;omega),mH,DY h,show j+1-p=(j-p)+1 by omega,rM,DK];congr 1;omega
def R8 (p i:Nat):i=p\/ ∃j,i=sk p j:=by
 unfold sk
 by_cases h:i<p
 . exact .inr ⟨i,by rw [if_pos h]⟩
 . by_cases e:i=p
   . exact .inl e
   . exact .inr ⟨i-1,by rw [if_neg (by omega)];omega⟩
def Jf (p N:Nat) (a:D) (ds:List D):Sl:=dA p (.ag a) (ds.map .ab)++ri (N-ds.length-1) .un
def xG (a:p<=ds.length) (h:(Jf p N c ds)[i]?=some s):(i=p/\s= .ag c)\/(∃j d,i=sk p j/\ds[j]?=some d/\s= .ab d)\/s= .un:=by
 unfold Jf at h
 by_cases q:i< (dA p (Slot.ag c) (ds.map .ab)).length
 . rw [fI q] at h;rcases R8 p i with rfl| ⟨j,rfl⟩
   . rw [vx (by simpa using a)] at h;cases h;exact .inl ⟨rfl,rfl⟩
   . rw [vw (by simpa using a),c6] at h
     cases e:ds[j]? with
     |none=>rw [e] at h;cases h
     |some d=>rw [e] at h;cases h;exact .inr (.inl ⟨j,d,rfl,e,rfl⟩)
 . rw [eD (by omega),nM] at h
   split at h
   . cases h;exact .inr (.inr rfl)
   . cases h
abbrev DZ (K:aA) (p n:Nat) (F:FO):Sp:=λl H Q _=> ∃(B:UP) (g:List D) (e:List V) (a:Addr) (h r i:D),l=dA p (V.ref a) e/\e.length=n/\am K (λc=>B c/\c≠a) H e g/\Top K (λc=>B c/\c≠a) H a h/\F h g= .ok (r,i)/\
 ∀v d,(∀c o,c≠a->H c=some o->d c=some o)->Top K (λc=>(H c=none\/B c)/\c≠a) d a i->aD K (λc=>(H c=none\/B c)/\c≠a) d v r->Q v d
def VS {K:aA} {B:UP} (r:am K (λc=>B c/\c≠a) H i ds) (t:Top K (λc=>B c/\c≠a) H a u) (x:p<=ds.length) (O:ds.length+1<=N.length):
   au K (λc=>H c=none\/c=a\/B c) (λc=>if c=a then none else H c) (Jf p N.length u ds) (start N (dA p (V.ref a) i)) H/\At (start N (dA p (V.ref a) i)) p a:=by
 have I:=r.length
 have E: ∀(j:Nat) (v:V),(dA p (V.ref a) i)[j]?=some v->(start N (dA p (V.ref a) i))[j]?=some (some v):=λj v h=>by
   have J:=(c7.mp h).1;unfold L2.start;rw [fI (by rw [bN];exact J),c6,h];rfl
 have l:At (start N (dA p (V.ref a) i)) p a:=E _ _ (vx (by omega))
 have n: ∀c,jS (Jf p N.length u ds) (start N (dA p (V.ref a) i)) c->c=a:=λc ⟨j,d,q,m⟩=>by
   rcases xG x q with ⟨rfl,_⟩| ⟨_,_,_,_,z⟩|z
   . rw [l] at m;cases m;rfl
   . cases z
   . cases z
 have w: ∀c,B c/\c≠a->Sf (λc=>H c=none\/c=a\/B c) (Jf p N.length u ds) (start N (dA p (V.ref a) i)) c:=λc z=>⟨λo=>z.2 (n c o),.inr (.inr z.1)⟩
 refine ⟨⟨?_,λc o e=>?_,λc e=>?_,λj d h=>?_,λj d h=>?_,λj y d e b q m Q U=>?_⟩,l⟩
 . simp [L2.start,Jf,Wf,I];omega
 . split at e
   . cases e
   . exact e
 . split at e
   . rename_i z;exact .inr (.inl z)
   . exact .inl e
 . rcases xG x h with ⟨_,z⟩| ⟨y,L,rfl,e,z⟩|z
   . cases z
   . cases z;obtain ⟨v,q,m⟩:=r.get e;exact ⟨v,E _ _ (by rw [vw (by omega)];exact q),m.aG w⟩
   . cases z
 . rcases xG x h with ⟨rfl,z⟩| ⟨y,L,_,e,z⟩|z
   . cases z;exact ⟨a,l,if_pos rfl,t.aP (λ_ _ e _=>e) w λ_ e=>e⟩
   . cases z
   . cases z
 . have g: ∀(j:Nat) (d:D),(Jf p N.length u ds)[j]?=some (.ag d)->j=p:=λj d h=>by
     rcases xG x h with ⟨z,_⟩| ⟨_,_,_,_,z⟩|z
     . exact z
     . cases z
     . cases z
   rw [g j d q,g y e m]
def cL (i:Nat) (env:Sl):aq D:=match env[i]? with
 |some (.ag d)=> .ok d
 |_=> .aj
def wf (h:cL i env= .ok d):env[i]?=some (.ag d):=by
 unfold cL at h
 split at h
 . cases h;assumption
 . cases h
def iw (p N n:Nat) (g:Sl->aq bf):FO:=λe c=>aK (c.length=n) (g (Jf p N e c)>>=λo=>match o with
 | .nx a=>cL p a>>=λd=> .ok (.aV,d)
 | .rt r a=>cL p a>>=λd=> .ok (r,d)
 | .ct _=> .aj)
section
variable {P:bn} {w:World} {K:aA} {mg:UQ} {ae:Heap}
def Jd {m x:Str} {st:Stmt} (Fu:iR K m x st f fd) (S:ax N ps (jf st)) (hn:ps.length=n+1) (hp:p<=n) (hN:n+1<=N.length)
  (hb: ∀(y:Value) (A:bp) (u:List Env) (s:az) (H:Hp) (E:XK),aL k (A.deeper (gm x (jf st) s.heap.objs.size f y))->eP (cO eG P w K mg ae N x (jf st) f y A u s H E).iL p (qj st) g):
  bS P w K mg ae eG (k+1) f fd ps (DZ K p n (iw p N.length n g)):=by
 nomatch (by
 refine Fu.ok S (λvs H Q E ⟨B,ds,us,a,d0,r,d1,ev,hl,_⟩=>by rw [ev,Wf,hl,hn]) (λy A u s H vs Q E hr h=>?_);obtain ⟨B,ds,us,a,d0,r,d1,ev,hl,rs,t,J,q⟩:=h;refine ⟨_,hb y A u s H E hr,?_⟩;obtain ⟨e0,J⟩:=jl J;obtain ⟨o,e1,J⟩:=ja J;subst ev;obtain ⟨kk,FQ⟩:=VS (N:=N) (p:=p) rs t (by omega) (by omega)
 have U: ∀(i:Sl) (l:L2.St) (I:Hp) (v:V),au K (λc=>H c=none\/c=a\/B c) (λc=>if c=a then none else H c) i l I->At l p a->cL p i= .ok d1->aD K (Sf (λc=>H c=none\/c=a\/B c) i l) I v r->Q v I:=λi l I v L O e2 rv=>by
  have hi:=wf e2;obtain ⟨a2,h1,_,t2⟩:=L.ag p _ hi;rw [O] at h1;cases h1
  have ww: ∀c,Sf (λc=>H c=none\/c=a\/B c) i l c->(H c=none\/B c)/\c≠a:=λc z=>by
   have Y:c≠a:=by
     rintro rfl;exact z.1 ⟨p,_,hi,O⟩
   refine ⟨?_,Y⟩;rcases z.2 with z|z|z
   . exact .inl z
   . exact absurd z Y
   . exact .inr z
  exact q v I (λc o hc e=>L.ae c o (by rw [if_neg hc];exact e)) (t2.aP (λ_ _ e _=>e) ww λ_ e=>e) (rv.aG ww)
 refine ⟨_,_,_,o,a,kk,FQ,e1,?_⟩
 cases o with
 |nx i=>
  obtain ⟨d,e2,e3⟩:=ja J;cases e3;exact λl I L O f'=>U i l I .aV L O e2 .aV
 |rt r' i=>
  obtain ⟨d,e2,e3⟩:=ja J;cases e3;exact λv l I L O f' rv=>U i l I v L O e2 rv
 |ct i=>cases J)
structure om (P:bn) (w:World) (K:aA) (mg:UQ) (ae:Heap) (k:Nat) (x:Str) (p n:Nat) (F:FO):Prop where
 ex: ∃f fd ps,bS P w K mg ae eG k f fd ps (DZ K p n F)/\mg x=some (.ref f)/\iP K (.ref f)=true/\Binds K fd ps []
def om.mono (h:om P w K mg ae j x p n F) (c:j<=k):om P w K mg ae k x p n F:=
 let ⟨f,d,e,a,b⟩:=h.ex
 ⟨f,d,e,a.mono c,b⟩
structure i9 (P:bn) (w:World) (K:aA) (mg:UQ) (ae:Heap) (k:Nat) (m:Str) (p n:Nat) (F:FO):Prop where
 ex: ∃C f fd ps,bS P w K mg ae eG k f fd ps (DZ K p n F)/\cE K bY "Joining" =some (some (.ref C))/\hU K C/\Meth K C m f/\Binds K fd ps []
def i9.mono (h:i9 P w K mg ae j m p n F) (c:j<=k):i9 P w K mg ae k m p n F:=
 let ⟨C,f,d,e,a,b⟩:=h.ex
 ⟨C,f,d,e,a.mono c,b⟩
def R9 {st:Stmt} (d:Dx K mg x st e) (S:ax N e (jf st)) (h:e.length=n+1) (i:p<=n) (l:n+1<=N.length)
  (o: ∀(f:Addr) (c:Value) (A:bp) (a:List Env) (s:az) (H:Hp) (E:XK),aL k (A.deeper (gm x (jf st) s.heap.objs.size f c))->eP (cO eG P w K mg ae N x (jf st) f c A a s H E).iL p (qj st) g):
  om P w K mg ae (k+1) x p n (iw p N.length n g):=by
 obtain ⟨f,q,F,m,B⟩:=d;exact ⟨f,q,e,Jd F S h i l (o f),m,F.kp,B⟩
def Sa {st:Stmt} (d:Dx K mg x st e) (i:e.length=n+1):om P w K mg ae k x p n (λ_ _=> .aj):=by
 obtain ⟨f,l,F,m,B⟩:=d;exact ⟨f,l,e,⟨λo H Q E ⟨B,q,u,a,v,r,y,g,h,_⟩=>by rw [g,Wf,h,i],λA c s H args u o Q E _ _ _ _ ⟨B,q,z,a,v,r,y,g,h,J,t,I,_⟩=>by cases I⟩,m,F.kp,B⟩
def Sb {C:Addr} {q:Str} {st:Stmt} (d:Dm K C m q st e) (h:cE K bY "Joining" =some (some (.ref C))/\hU K C) (S:ax N e (jf st)) (i:e.length=n+1) (l:p<=n) (o:n+1<=N.length)
  (r: ∀(f:Addr) (c:Value) (A:bp) (a:List Env) (s:az) (H:Hp) (E:XK),aL k (A.deeper (gm q (jf st) s.heap.objs.size f c))->eP (cO eG P w K mg ae N q (jf st) f c A a s H E).iL p (qj st) g):
  i9 P w K mg ae (k+1) m p n (iw p N.length n g):=by
 obtain ⟨f,u,F,v,B⟩:=d;exact ⟨C,f,u,e,Jd F S i l o (r f),h.1,h.2,v,B⟩
end
section
variable {X:Cx} {k n:Nat} {m x y:Str} {F:FO} {e e1 e2 e4:Expr} {es:List Expr} {pos p py apos:Pos} {g:TZ} {pl:Sem Bool} {f1 f2 f4:T5}
def Vh {G:UP} {H0 H L:Hp} {env l:Sl} {u:L2.St} {i pp:Nat} {d:D} {Q:VK} {E:XK} {a:Addr} {d0:D} {ds:List D} {ws:List V} (k:au X.K G H0 env u H) (s:ap H L) (N:env[i]?=some (.ag d0)) (O:At u i a) (I:am X.K (Sf G env u) L ws ds) (hn:ds.length=n)
  (h:(F d0 ds>>=λr=>aq.ok (r.1,env.set i (.ag r.2)))= .ok (d,l)) (q: ∀v B,au X.K G H0 l u B->bg env u H l u B->aD X.K (Sf G l u) B v d->Q v B):DZ X.K pp n F (dA pp (.ref a) ws) L Q E:=by
 obtain ⟨⟨r,d1⟩,e1,e2⟩:=ja h;cases e2;have U:=k.ao s;obtain ⟨a',J,_,ta⟩:=U.ag i _ N;rw [O] at J;cases J;have ow:jS env u a:=⟨i,_,N,O⟩
 have w: ∀c,Sf G env u c->Sf G env u c/\c≠a:=λc z=>⟨z,by rintro rfl;exact z.1 ow⟩
 refine ⟨Sf G env u,ds,ws,a,_,_,d1,rfl,by rw [I.length];exact hn,I.aG w,ta.aP (λ_ _ e _=>e) w λ_ e=>e,e1,λv B Y t' rv=>?_⟩;have back: ∀c,((L c=none\/Sf G env u c)/\c≠a)->Sf G env u c:=λc z=>z.1.elim (λz=>U.new c z) λz=>z
 have W:=U.anew N O Y (t'.aP (λ_ _ e _=>e) back λ_ e=>e);exact q v B W.1 (W.2.ao s) (rv.aG λc z=>⟨λo=>(back c z).1 (JY N o),(back c z).2⟩)
def x0 (i:Nat) (F:FO) (f1 f2 f4:T5):FJ:=λa=>f1 a>>=λc=>f2 a>>=λd=>f4 a>>=λh=>cL i a>>=λl=>F l [c,d,h]>>=λr=> .ok (r.1,a.set i (.ag r.2))
def om.op (i:Nat) (A:om X.prog X.w X.K X.mg X.ae k x 2 3 F) (Y:aL k X.A) (h1:DE X .s e1 f1) (h2:DE X .s e2 f2) (h4:DE X .s e4 f4) (hN:X.N[i]?=some y:=by rfl) (o:dE X.env.scope y:=by exact bT rfl)
   (hd:ZH y:=by decide) (r:UR y:=by decide) (hg:Gl X x:=by rfl) (u:ZH x:=by decide)
   (L:bj [e1,e2,.Name y py,e4] X.env=(false,eval e1 X.env)::bj [e2,.Name y py,e4] X.env:=by exact jm rfl) (v:bj [e2,.Name y py,e4] X.env=(false,eval e2 X.env)::bj [.Name y py,e4] X.env:=by exact jm rfl)
   (w:bj [.Name y py,e4] X.env=(false,eval (.Name y py) X.env)::bj [e4] X.env:=by exact jm rfl) (z:bj [e4] X.env=(false,eval e4 X.env)::bj [] X.env:=by exact jm rfl)
   (B:(eA pos (bj [e2,.Name y py,e4] X.env)).any (·.1)=false:=by exact jK rfl):pZ X (.Call (.Name x p) [e1,e2,.Name y py,e4] [] pos) (x0 i F f1 f2 f4):=by
 obtain ⟨f,fd,ps,g1,g2,g3,g4⟩:=A.ex
 nomatch (
  PE.imp (ZQ g1 Y hg g2 g3 g4 .nil (E:=λ_ _ _=>False) ZR (qc h1 (qc h2 (qc (qw (i:=i) hN o hd r) (qc h4 zC z) w) v) L) u L B) λσ H Q=>by
   rintro ⟨G,I,env,d,N,k,c,q⟩;obtain ⟨d1,c1,c⟩:=ja c;obtain ⟨d2,c2,c⟩:=ja c;obtain ⟨d4,c4,c⟩:=ja c;obtain ⟨d0,c3,c⟩:=ja c;have O:=wf c3;refine ⟨G,I,env,d1,k,c1,λv1 H1 h r1 _=>⟨G,I,env,d2,k.ao h,c2,λv2 H2 l r2 _=>?_⟩⟩;obtain ⟨a,U,_,_⟩:=((k.ao h).ao l).ag i _ O;refine ⟨.ref a,U,G,I,env,d4,(k.ao h).ao l,c4,λv4 H4 J r4 _=>?_⟩
   exact Vh (E:=λ_ _ _=>False) (pp:=2) (n:=3) (ws:=[v1,v2,v4]) k (h.trans (l.trans J)) O U (.cons ((r1.ao l).ao J) (.cons (r2.ao J) (.cons r4 .nil))) rfl c q)
def Zw (j i:Nat) (F:FO) (f1:T5):FJ:=λa=>af j a>>=λo=>mn o>>=λL=>f1 a>>=λc=>cL i a>>=λd=>F d [jD L,c]>>=λr=> .ok (r.1,a.set i (.ag r.2))
def i9.call (j i:Nat) (A:i9 X.prog X.w X.K X.mg X.ae k m 2 2 F) (hr:aL k X.A) (h1:DE X .s e1 f1) (z:m≠bo:=by decide) (hN:X.N[j]?=some x:=by rfl) (hv:dE X.env.scope x:=by exact bT rfl)
  (hd:ZH x:=by decide) (B:UR x:=by decide) (I:X.N[i]?=some y:=by rfl) (J:dE X.env.scope y:=by exact bT rfl)
  (N:ZH y:=by decide) (h:UR y:=by decide)
  (l:bj [e1,.Name y py] X.env=(false,eval e1 X.env)::bj [.Name y py] X.env:=by exact jm rfl) (r:bj [.Name y py] X.env=(false,eval (.Name y py) X.env)::bj [] X.env:=by exact jm rfl) (O:(eA pos (bj [.Name y py] X.env)).any (·.1)=false:=by exact jK rfl)
  (ht:eval (.Call (.Attribute (.Name x p) m apos) [e1,.Name y py] [] pos) X.env=(do
   let ov<-eval (.Name x p) X.env
   oK apos.atName
   let (f,first)<-nI [ov] (sy ov m pl)
   callWith pos f first (eA pos (bj [e1,.Name y py] X.env)) (l7 pos (l8 [] X.env))):=by rfl):pZ X (.Call (.Attribute (.Name x p) m apos) [e1,.Name y py] [] pos) (Zw j i F f1):=by
 obtain ⟨C,f,fd,ps,g1,g2,g3,g4,g5⟩:=A.ex
 nomatch (
 PE.imp (JE (qw hN hv hd B) g3 g4 z g1 hr g5 .nil ZR (qc h1 (qc (qw (i:=i) I J N h) zC r) l) l O ht) λσ H Q=>by
  rintro ⟨G,H0,env,d,env',k,c,q⟩;obtain ⟨o,u,c⟩:=ja c;obtain ⟨L,c2,c⟩:=ja c;obtain ⟨d1,c3,c⟩:=ja c;obtain ⟨d0,c4,c⟩:=ja c;have hi:=wf c4;rw [Wa c2] at u
  have hj:env[j]?=some (.ab (jD L)):=by
   unfold af at u
   split at u
   . rename_i e;cases u;exact e
   . cases u
  obtain ⟨v,U,h2⟩:=k.ab j _ hj;obtain ⟨as,C',dd,w,rfl,b1,b2,b3,b4⟩:=h2.box;have:C'=C:=by have:=b3.symm.trans g2;cases this;rfl
  subst this;refine ⟨_,U,as,dd,w,rfl,b1,G,H0,env,d1,k,c3,λv1 H1 Y r1 _=>?_⟩;obtain ⟨a,ha,_,_⟩:=(k.ao Y).ag i _ hi
  exact ⟨.ref a,ha,Vh (E:=λ_ _ _=>False) (pp:=2) (n:=2) (ws:=[.ref as,v1]) k Y hi ha (.cons (h2.ao Y) (.cons r1 .nil)) rfl c q⟩)
def yM (i n:Nat) (F:FO) (g:TZ):FJ:=λa=>cL i a>>=λd=>mn d>>=λL=>g a>>=λc=>aK (c.length=n) (F (jD L) c>>=λr=> .ok (r.1,a.set i (.ag r.2)))
def o3.fD (i:Nat) (A:o3 X.prog X.w X.K X.mg X.ae k "Joining" m n F) (B:aL k X.A) (E:DA X .s (e::es) g) (o:m≠bo:=by decide) (I:X.N[i]?=some x:=by rfl) (J:dE X.env.scope x:=by exact bT rfl)
  (hd:ZH x:=by decide) (r:UR x:=by decide)
  (u:T9 X e es:=by exact jm rfl) (v:T8 X pos es:=by exact jK rfl)
  (N:eval (.Call (.Attribute (.Name x p) m apos) (e::es) [] pos) X.env=(do
   let ov<-eval (.Name x p) X.env
   oK apos.atName
   let (f,first)<-nI [ov] (sy ov m pl)
   callWith pos f first (eA pos (bj (e::es) X.env)) (l7 pos (l8 [] X.env))):=by rfl):pZ X (.Call (.Attribute (.Name x p) m apos) (e::es) [] pos) (yM i n F g):=by
 obtain ⟨C,f,fd,ps,h1,h2,O,U,Y⟩:=A.ex
 nomatch (
 PE.imp (JE (qw I J hd r) O U o h1 B Y .nil ZR E u v N) λσ H Q=>by
  rintro ⟨G,H0,env,d,z,k,c,q⟩;obtain ⟨d0,e1,c⟩:=ja c;obtain ⟨L,e2,c⟩:=ja c;obtain ⟨ds,e3,c⟩:=ja c;obtain ⟨hn,c⟩:=jl c;have w:=wf e1;rw [Wa e2] at w;obtain ⟨a,C',dd,h,l,hx,hc,rs⟩:=Yh k w;have:C'=C:=by have:=hc.symm.trans h2;cases this;rfl
  subst this;refine ⟨_,l,a,dd,h,rfl,hx,G,H0,env,ds,k,e3,λws H2 s2 r2=>?_⟩;show BC X.K n F (.ref a::(ws++[])) H2 Q (λ_ _ _=>False);rw [f6]
  exact Rh k s2 w l r2 hn c q)
end
section
variable {X:Cx} {i j k n:Nat} {e e1 e2 c0:Expr} {I:List Expr} {f:T5} {l l1:Lv} {Y p U O:Pos} {x m:Str} {ps:List Str} {F:TY} {g:TZ} {pl:Sem Bool} {B J:List Stmt} {u fv f1 f2:T5}
def Gk:Sl->aq bf:=λa=> .ok (.ct a)
def XA:iZ X i (.Continue Y) Gk:=by
 nomatch (PS.imp Yc λE c H=>by
  rintro ⟨G,v,d,o,a,k,h,r,q⟩;cases r
  exact q c H k h (bg.refl (ap.refl H)))
def yt (j:Nat) (f:T5):Sl->aq bf:=λa=>f a>>=λd=> .ok (.nx (a.set j (.ab d)))
def Wq (j:Nat) {c:Pos} (L:X.N.Nodup) (h:DE X .s e f) (w:j≠i:=by decide) (N:X.N[j]?=some x:=by rfl) (Q:Loc X.env.scope x:=by exact eI rfl) (hs:gb e (some (.Name x c)) Y.line X.env=pure false:=by rfl)
  (hf:T7 X x:=by first|exact .inl rfl|exact .inr rfl|assumption):iZ X i (.Assign [.Name x c] e Y) (yt j f):=by
 nomatch (PS.imp (W9 L N Q h hs hf) λE σ H=>by
  rintro ⟨G,H0,y,o,a,k,ha,ef,q⟩;obtain ⟨d,e1,e2⟩:=ja ef;cases e2
  exact ⟨G,H0,y,d,k,e1,λv H' s r _=>q _ H' ((k.ao s).dy r) ((jo w).trans ha) (.set s λ_ _ z _=>by cases z)⟩)
def vN (f:FJ):Sl->aq bf:=λa=>f a>>=λr=> .ok (.nx r.2)
def Sd {f:FJ} (h:pZ X e f) (w:gb e none Y.line X.env=pure false:=by rfl):iZ X i (.Expr e Y) (vN f):=by
 nomatch (PS.imp (JQ h w) λE z H=>by
  rintro ⟨G,L,y,o,a,k,N,Q,q⟩;obtain ⟨⟨d,c⟩,e1,e2⟩:=ja Q;cases e2
  exact ⟨G,L,y,d,c,k,e1,λv H' k1 fr r=>q z H' k1 N fr⟩)
def oq (j:Nat) (t:TX):Sl->aq bf:=λa=>cu j a>>=λh=>match h.getLast? with
 |some d=>t d (a.set j (.ag (.ah h.dropLast)))>>=λc=> .ok (.nx c)
 |none=> .aj
def Se (j:Nat) {r:Expr} {t:TX} (hg:yO X i r t) (hN:X.N[j]?=some x:=by rfl) (hv:dE X.env.scope x:=by exact bT rfl)
   (hd:ZH x:=by decide) (L:UR x:=by decide)
   (c:lx (.Name x p) "pop" X.env (eval (.Name x p) X.env)=eval (.Name x p) X.env:=by rfl) (h:(U.endLine==O.line)=true:=by rfl)
   (hs:swapsWithSole [r] (.Call (.Attribute (.Name x p) "pop" U) [] [] O) Y.line X.env=pure false:=by rfl) (hw:swappedStores [r] (.Call (.Attribute (.Name x p) "pop" U) [] [] O) X.env=pure none:=by rfl)
   (h1:(gS [r] X.env).map (·.2)=[mE r X.env]:=by rfl):iZ X i (.Assign [r] (.Call (.Attribute (.Name x p) "pop" U) [] [] O) Y) (oq j t):=by
 nomatch (
  PS.imp (Hg (Hy C4 PySem.F.slot_list_pop PySem.F.type_list_pop Ng (qw hN hv hd L) c h) hg hs hw h1) λE σ H=>by
   rintro ⟨G,H0,env,o,a0,k,N,ef,q⟩;obtain ⟨ds,e1,e2⟩:=ja ef;have hi:=zD e1;obtain ⟨a,xs,ha,Q,rs⟩:=we k hi
   cases y:ds.getLast? with
   |none=>rw [y] at e2;cases e2
   |some d=>
    rw [y] at e2;obtain ⟨w,e3,e4⟩:=ja e2;cases e4;rw [FN] at y;obtain ⟨v,Sh,rv⟩:=rs.get y;have W:=k.write hi ha Q rs.dropLast;refine ⟨.ref a,ha,.inl ⟨rfl,xs,.of Q⟩,a,xs,v,rfl,rfl,Q,by rw [rs.length];exact Sh,G,H0,_,d,w,W.1,?_,e3,λic k' f' z=>q ic _ k' (z.trans N) (W.2.trans f')⟩
    exact W.2.rep k rv)
def Wp (j:Nat) (f:T5):Sl->aq bf:=λa=>cu j a>>=λc=>f a>>=λd=>match d with
 | .ah I=>aK (c.length+I.length<=aH) (.ok (.nx (a.set j (.ag (.ah (c++I))))))
 |_=> .aj
def VU (j:Nat) (he:DE X .s e f) (hN:X.N[j]?=some x:=by rfl) (hv:dE X.env.scope x:=by exact bT rfl)
   (hd:ZH x:=by decide) (L:UR x:=by decide)
   (h:lx (.Name x p) "extend" X.env (eval (.Name x p) X.env)=eval (.Name x p) X.env:=by rfl)
   (w:((eA O (bj [e] X.env)).all (λx=>!x.1)&&(l7 O (l8 [] X.env)).all (λx=>x.1.isSome)
    &&decide ([e].length+([]:List la).length+(if ([]:List la).isEmpty then 0 else 1)<30))=true:=by exact yF rfl rfl)
   (r:(U.endLine==O.line)=true:=by rfl) (hs:bj [e] X.env=(false,eval e X.env)::bj [] X.env:=by exact jm rfl) (c:(eA O (bj [] X.env)).any (·.1)=false:=by exact jK rfl)
   (N:gb (.Call (.Attribute (.Name x p) "extend" U) [e] [] O) none Y.line X.env=pure false:=by rfl):
   iZ X i (.Expr (.Call (.Attribute (.Name x p) "extend" U) [e] [] O) Y) (Wp j f):=by
 nomatch (
  PS.imp (JQ (CM C4 CP PySem.F.type_list_extend (oP.or Xj Zc) (qw hN hv hd L) (qc he zC hs) h w r hs c) N) λE σ H=>by
   rintro ⟨G,H0,Q,o,a0,k,mo,ef,q⟩;obtain ⟨ds,e1,e2⟩:=ja ef;obtain ⟨d,e3,e4⟩:=ja e2;have hi:=zD e1;obtain ⟨a,xs,ha,hx,rs⟩:=we k hi;refine ⟨.ref a,ha,.inl ⟨rfl,xs,.of hx⟩,G,H0,Q,d,k,e3,λv H1 z r1 _=>?_⟩;have y:=z _ _ hx
   cases d with
   |ah I=>
    obtain ⟨hz,e5⟩:=jl e4;cases e5;obtain ⟨b,ys,rfl,hb,_,ry⟩:=r1.cP;have Si:=ry.low;refine .inl ⟨a,b,xs,ys,rfl,rfl,y,hb,by rw [rs.length,ry.length];exact hz,?_⟩;have W:=(k.ao z).write hi ha y ((rs.ao z).append Si);exact q σ _ W.1 mo (W.2.ao z)
   |_=>cases e4)
def VW (u fv:T5) (i:Nat):Sl->aq bf:=λa=>cL i a>>=λq=>fv a>>=λd=>u a>>=λh=>match q with
 | .bO ks c=>match bh h with
  |some k=>aK (ks.length<aH) (.ok (.nx (a.set i (.ag (.bO (QN ks k) (X8 ks c k d))))))
  |none=> .aj
 | .aJ ks c=>match dP h with
  |some k=>aK (ks.length<aH) (.ok (.nx (a.set i (.ag (.aJ (xS ks k) (xT ks c k d))))))
  |none=> .aj
 |_=> .aj
def K8 (i:Nat) (hu:X.A.units+20<cLine) (hk:DE X l1 e1 u) (hv:DE X .s e2 fv) (hN:X.N[i]?=some x:=by rfl) (Sj:dE X.env.scope x:=by exact bT rfl)
   (hd:ZH x:=by decide) (oO:UR x:=by decide)
   (hs:gb e2 (some (.Subscript (.Name x p) e1 U)) Y.line X.env=pure false:=by rfl):
   iZ X i (.Assign [.Subscript (.Name x p) e1 U] e2 Y) (VW u fv i):=by
 nomatch (
  PS.imp (U4 hu (qw hN Sj hd oO) hk hv hs) λE σ H=>by
   rintro ⟨G,H0,Q,o,a0,k,mo,ef,q⟩;obtain ⟨q0,c1,ef⟩:=ja ef;obtain ⟨d,c2,ef⟩:=ja ef;obtain ⟨kd,c3,h⟩:=ja ef;have hi:=wf c1
   cases q0 with
   |bO ks ds=>
    obtain ⟨a,kvs,ha,hx,r,rs⟩:=O5 k hi;dsimp only at h
    cases c:bh kd with
    |none=>rw [c] at h;cases h
    |some kk=>
     rw [c] at h;obtain ⟨hz,c5⟩:=jl h;cases c5;refine ⟨G,H0,Q,d,k,c2,λv H1 z r1 _=>⟨.ref a,ha,G,H0,Q,kd,k.ao z,c3,λy H2 L r2 _=>?_⟩⟩;have N:=L _ _ (z _ _ hx);have hl:kvs.length<aH:=by rw [<-r,bN] at hz;exact hz
     refine ⟨a,_,rfl,h8.t N (wg (r2.aG Lv.bv) c) hl,?_⟩;obtain ⟨p1,p2⟩:=Ki kk ((rs.ao z).ao L) (r1.ao L);rw [r] at p1 p2;have W:=((k.ao z).ao L).ge hi ha N trivial λA' H' st e w=> .bO e p1 rfl (p2.aP st w)
     exact q σ _ W.1 mo ((W.2.ao L).ao z)
   |aJ ks ds=>
    obtain ⟨a,kvs,ha,hx,r,rs⟩:=yy k hi;dsimp only at h
    cases c:dP kd with
    |none=>rw [c] at h;cases h
    |some kk=>
     rw [c] at h;obtain ⟨hz,c5⟩:=jl h;cases c5;refine ⟨G,H0,Q,d,k,c2,λv H1 z r1 _=>⟨.ref a,ha,G,H0,Q,kd,k.ao z,c3,λy H2 L r2 _=>?_⟩⟩;have N:=L _ _ (z _ _ hx);have hy:=xx (r2.aG Lv.bv) c;subst hy;have hl:kvs.length<aH:=by rw [<-r,bN] at hz;exact hz
     refine ⟨a,_,rfl,h8.k N hl,?_⟩;have W:=((k.ao z).ao L).putD (kk:=kk) hi ha N r ((rs.ao z).ao L) (r1.ao L);exact q σ _ W.1 mo ((W.2.ao L).ao z)
   |_=>cases h)
def lQ (t:Sl->aq (Bool×Sl)) (c g2:T3):Sl->aq bD:=λa=>t a>>=λr=>if r.1=true then c r.2 else g2 r.2
def Jy {t:Sl->aq (Bool×Sl)} {h g2:T3} (w:zH X c0 t) (y:iS X B h) (z:iS X J g2):DS X (.If c0 B J Y) (lQ t h g2):=by
 nomatch (PS.imp (U3 w y z) λE N H=>by
  rintro ⟨G,c,d,o,k,L,q⟩;obtain ⟨⟨b,a⟩,e1,e2⟩:=ja L;refine ⟨G,c,d,b,a,k,e1,λQ r v=>?_⟩
  cases b with
  |true=>
   rw [if_pos rfl] at e2 ⊢;exact ⟨G,c,a,o,r,e2,J1 v q⟩
  |false=>
   rw [if_neg fq] at e2 ⊢
   exact ⟨G,c,a,o,r,e2,J1 v q⟩)
def p7 (f:T5):Sl->aq D:=λa=>f a>>=λd=>match d with
 | .bO ks c=>aK (D.bC c=true) (.ok (.bO ks c))
 |_=> .aj
def i4.ua (j:Nat) (A:i4 X.prog X.w X.K X.mg X.ae k "Joining" m ps true F) (hr:aL k X.A) (ha:DA X .b (e::I) g) (E:m≠bo:=by decide) (hn:ps.length=n:=by rfl)
  (hN:X.N[j]?=some x:=by rfl) (hv:dE X.env.scope x:=by exact bT rfl) (hd:ZH x:=by decide) (N:UR x:=by decide)
  (Cu:T9 X e I:=by exact jm rfl) (AN:T8 X Y I:=by exact jK rfl)
  (ht:eval (.Call (.Attribute (.Name x p) m U) (e::I) [] Y) X.env=(do
   let ov<-eval (.Name x p) X.env
   oK U.atName
   let (f,first)<-nI [ov] (sy ov m pl)
   callWith Y f first (eA Y (bj (e::I) X.env)) (l7 Y (l8 [] X.env))):=by rfl):DE X .t (.Call (.Attribute (.Name x p) m U) (e::I) [] Y) (p7 (wt n F j g)):=by
 subst hn;obtain ⟨C,f,fd,h1,h2,h3,h4,h5⟩:=A.ex
 nomatch (
 PE.imp (JE (qw hN hv hd N) h3 h4 E h1 hr h5 .nil ZR ha Cu AN ht) λσ H Q=>by
  rintro ⟨G,H0,env,d,k,h,q⟩;obtain ⟨d9,h,r⟩:=ja h;obtain ⟨o,c1,h⟩:=ja h;obtain ⟨L,c2,h⟩:=ja h;obtain ⟨ds,c3,h⟩:=ja h;obtain ⟨c4,c5⟩:=jl h;obtain ⟨a,C',dd,w,g1,g2,g3,g4⟩:=JA k c1 c2;have:C'=C:=by have:=g3.symm.trans h2;cases this;rfl
  subst this;refine ⟨_,g1,a,dd,w,rfl,g2,G,H0,env,ds,k,c3,λws H2 y r2=>?_⟩;show lE X.K true ps.length F (.ref a::(ws++[])) H2 Q (λ_ _ _=>False);rw [f6];refine ⟨Any,jD L::ds,d9,by simp [r2.length,c4],.cons (.rS (y _ _ g2) trivial g3 ((g4.ao y).low λc z=>⟨trivial,z.2⟩)) r2,c5,λv H3 s3 r3 nt=>?_⟩
  cases d9 with
  |bO ks I=>
   obtain ⟨im,e9⟩:=jl r;cases e9;obtain ⟨b,kvs,rfl,hb,_,hk,rs⟩:=r3.tJ
   have rC:H2 b=none:=by
    cases z:H2 b with
    |none=>rfl
    |some o=>
     have:=s3 _ _ z;rw [hb] at this;cases this;exact (nt rfl b rfl _ z trivial).elim
   exact q _ H3 (y.trans s3) (.bO hb (k.new b (ap.free y rC)) hk rfl (rs.eK im)) ((be.ao y (nt rfl)))
  |_=>cases r)
def Sk (w:X.A.units+20<cLine) (z:DE X .b e1 f1) (E:DE X l e2 f2) (L:yj e2:=by intro _ _;rfl):DE X .b (.Subscript e1 e2 Y) (av f1 f2 i8):=by
 nomatch (
  PE.imp (VB (KN w) z E L) λσ H Q=>by
   rintro ⟨G,h,a,d,k,c,q⟩;obtain ⟨N,e1,c⟩:=ja c;obtain ⟨b',e2,e3⟩:=ja c;refine ⟨G,h,a,N,k,e1,λx H1 o r1 _=>⟨G,h,a,b',k.ao o,e2,λy H2 r r2 _=>?_⟩⟩
   exact kz (r1.ao r) (r2.aG Lv.bv) e3 λv r3=>q v H2 (o.trans r) r3 trivial)
end
section
variable {X:Cx} {K:aA}
theorem k9 {H:Hp}: ∀ {a:List (NK×V)} {d:List VE},KT H a d-> ∃c:List V,F2 (λy k=>TK H k y) c (a.map (·.1))/\aI c (d.map (·.2.1))
 |_,_,.nil=>⟨[],.nil,.nil⟩
 |_,_,.cons ⟨e,⟨y,t,r⟩,_⟩ q=>by
  obtain ⟨c,g,h⟩:=k9 q;exact ⟨y::c,.cons t g,.cons r h⟩
def Ub (B:X.bz=true):bi X (.type "list") (λg H Q=> ∃a c,g=[.ref a]/\Rd H a (.dT c)/\c.length<=10000/\ ∀l m,H l=none->F2 (λy k=>TK H k y) m (c.map (·.1))->Q (.ref l) (ay H l (.ah m))):=by
 rintro p s σ H g us Q I r ⟨a,c,E,J,hn,q⟩;subst E;obtain ⟨u,rfl,L⟩:=x3 r;cases L;obtain ⟨hz,lo,g,v,o,N,O,U,Y,hd,he,_⟩:=(Rd.ok J I.aM)
 obtain ⟨m,w,h2⟩:=k9 v;have x:g.length=c.length:=(o9 v).symm;have hD:mT s.heap a (g.map (·.2.1)) O:=⟨o,N,U,Y,hd,by rw [he,iI];rfl⟩
 refine PySem.W.kdl_call (O4 lo) (I.ok.hd B) hD (by rw [bN,iB];omega) λh' tk d c' n hS e=>?_
 have h:d.toList=g.map (·.2.1):=by
  apply Am;intro i;have hl:d.toList.length=(g.map (·.2.1)).length:=by rw [eq];exact e.1
  by_cases z:i<d.toList.length
  . rw [cZ z];exact (e.2 i _ (by rw [<-fG];exact cZ z)).symm
  . rw [mv (by omega),mv (by omega)]
 have yl:m.length=c.length:=by have:=w.length;rwa [bN] at this
 exact ⟨.ref s.heap.objs.size,_,I.laid n (aS _) (show aW X.prog X.w _ h' _ (.ah m) from ⟨by rw [iB];omega,d.toList,c',by rw [h];exact h2,by rw [Bm];exact hS⟩),rfl,q _ m (I.aM.fresh (aS _)) w⟩
def D0:List D->aq D
 | [.bO ks _]=>aK (ks.length<=10000/\ks.all NK.short=true) (.ok (.ah (ks.map oW)))
 |_=> .aj
theorem Xo {H:Hp} {A:UP}: ∀ {a:List V} {ks:List NK},F2 (λy k=>TK H k y) a ks->ks.all NK.short=true->am K A H a (ks.map oW)
 |_,_,.nil,_=> .nil
 |_,_,.cons (b:=k) h t,e=>by
  simp only [sQ,dj] at e;exact .cons ((KM (K:=K) (H:=H) (oW k) k (KL k)).2.2 e.1 A _ h.1) (Xo t e.2)
def Sm:QJ K (λm H Q=> ∃a g,m=[.ref a]/\Rd H a (.dT g)/\g.length<=10000/\ ∀l i,H l=none->F2 (λy k=>TK H k y) i (g.map (·.1))->Q (.ref l) (ay H l (.ah i))) D0:=by
 intro A m H B d Q r e q;unfold D0 at e
 split at e
 . obtain ⟨v,rfl,o⟩:=r.one;obtain ⟨p,g,rfl,u,_,rfl,_⟩:=o.tJ;obtain ⟨⟨n,w⟩,e2⟩:=jl e;cases e2;rw [bN] at n;refine ⟨p,g,rfl,.inl u,n,λl i h x=>q _ _ (ap.ay h) (.ah jk (.inl h) ?_) (qi (ap.refl H) h)⟩;exact ((Xo (A:=λ_=>False) x w).ao (ap.ay h)).aG λc z=>z.elim
 . cases e
end
section
variable {z:Option Str} {X:Cx} {i j:Nat} {x:Str} {tg iter elt:Expr} {ifs:List Expr} {v:Scope} {cl:List (Str×Addr)} {fi:TZ} {t:TX} {c:T4} {fe:T5} {pos:Pos}
def uf (j:Nat) {p ps:Pos} (hN:X.N.Nodup) (im:Bool) (N:List Str) (m:Nat) (w:List Nat) (S:cU z X v cl N m w) (hc:X.bz=true) (hi:DI X tg iter fi)
   (y: ∀(C:Addr) (s:az) (H:Hp) (h:List Addr),N.Nodup->DG (jF z X N v cl C s H h) tg t/\rB (jF z X N v cl C s H h) ifs c/\DE (jF z X N v cl C s H h) .s elt fe)
   (B:j≠i:=by decide) (J:X.N[j]?=some x:=by rfl) (hx:Loc X.env.scope x:=by exact eI rfl) (hf:T7 X x:=by first|exact .inl rfl|exact .inr rfl|assumption)
   (L:gb (.ListComp elt [⟨tg,iter,ifs,0⟩] v pos) (some (.Name x p)) ps.line X.env=pure true:=by rfl) (hs: ∀x,nc iter X.env x=pure x:=by intro _;rfl):
   iZ X i (.Assign [.Name x p] (.ListComp elt [⟨tg,iter,ifs,0⟩] v pos) ps) (yt j (ze im m w fi t c fe)):=by
 nomatch (by
  rintro l s σ H E I ⟨G,H0,env,o,a0,k,O,ef,q⟩;obtain ⟨d,e1,e2⟩:=ja ef;cases e2;rw [Fe _ _ _ _ L];refine ak (wpAny_standAt (ak ?_));refine ak (a9 (Qz (some (mE (.Name x p) X.env)) (λ_ u=>SP X l E .next u) im N m w S hc hi (λC s H h=>y C s H h S.nd) hs I k e1 λa C u H' mm r hn n Q sm rep nt=>?_) λ_ u hq=>aC (aC hq));have I':=n u.heap ⟨rfl,λ_ _=>rfl⟩;obtain ⟨f0,f1,f2,f3,f4,f5⟩:=Q;refine CD (yp I' hN J hx (show aE (.ref a) (.ref a) from rfl) (λs2 I2 g=>?_) hf);obtain ⟨b,g,U⟩:=g
  have Y:C≠b:=by
   rcases U with z|z
   . rw [z];exact f1
   . exact λe=>f4 _ _ z e.symm
  refine ⟨mm,hn.sameBut g Y,λh' ii=>⟨_,H',?_,q _ _ ((k.ao sm).dy rep) ((jo B).trans O) (.set sm λ_ _ z _=>by cases z)⟩⟩
  exact I2.turned (λb o y e=>(ii.2 b y).trans e) f0 f1 f3 f4 f5)
end
def JG:D->Bool
 | .aV=>true
 | .bl _=>true
 | .int _=>true
 |_=>false
def Sn {K:aA} {A a:UP} {H c:Hp} {v:V} {d:D} (h:JG d=true) (r:aD K A H v d):aD K a c v d:=by
 cases d<;>try cases h
 . cases r.pH;exact .aV
 . cases r.rz;exact .bl _
 . cases r.cb;exact .int _
def So (env:Sl):Bool:=env.all λs=>match s with
 | .ag _=>false
 |_=>true
def Ae (g:T3) (j:Nat):List aT->Sl->aq (Sum Sl D)
 | [],a=> .ok (.inl a)
 |k::ks,a=>g (a.set j (.ab (kD k)))>>=λo=>match o with
  | .nx e=>Ae g j ks e
  | .ct e=>Ae g j ks e
  | .rt _ d=> .ok (.inr d)
  | .bk _=> .aj
def B0 (i j:Nat) (g:T3):Sl->aq bD:=λa=>ux i a>>=λks=>aK (allI ks=true/\So a=true) (Ae g j ks (lend a)>>=λo=>match o with
 | .inl e=> .ok (.nx (e.map λ_=> .un))
 | .inr d=>aK (JG d=true) (.ok (.rt true d)))
section
variable {X:Cx} {body:List Stmt} {g:T3} {pos pi pj:Pos}
def Sq (i j:Nat) {L U:Str} (hp:rf (model X.prog X.w) X.A X.env X.xe) (hc:X.bz=true) (hN:X.N.Nodup) (hb:iS X body g)
   (hi:X.N[i]?=some L:=by rfl) (hv:dE X.env.scope L:=by exact bT rfl)
   (hd:ZH L:=by decide) (oO:UR L:=by decide)
   (hj:X.N[j]?=some U:=by rfl) (hx:Loc X.env.scope U:=by exact eI rfl)
   (hf:T7 X U:=by first|exact .inl rfl|exact .inr rfl|assumption)
   (hs: ∀x,nc (.Name L pi) X.env x=pure x:=by intro _;rfl):DS X (.For (.Name U pj) (.Name L pi) body [] pos) (B0 i j g):=by
 nomatch (
  PS.imp (Yb (Kn hp hc (Ye (qw hi hv hd oO)) (JT hN hj hx hf) hb hs)) λE σ H=>by
   rintro ⟨G,H0,env,out,k,ef,q⟩;obtain ⟨ks,e1,e2⟩:=ja ef;obtain ⟨⟨u,hno⟩,e3⟩:=jl e2;obtain ⟨r,e4,Y⟩:=ja e3;obtain ⟨a,c,Bz,N,tQ⟩:=Qs k e1;subst tQ
   have oe: ∀(n:Nat) (k:aT) (v:V),c[n]?=some (k,v)->By k=true:=λn k v z=>by
     unfold allI at u;rw [iE] at u;exact u k (bP.mpr ⟨(k,v),gt z,rfl⟩)
   refine ⟨a,c,N,.ref a,Bz,a,c,rfl,N,λo=>?_⟩;have kl:=k.lend N o
   let H1:=ay H a (.br o (.dK c))
   refine ⟨λn m O H'=>m=c.length-n/\n<=c.length/\ ∃l,au X.K (λ_=>True) H1 l O H'/\Ae g j ((c.map (·.1)).drop n) l= .ok r,
     ⟨c.length,by simp,dR _,lend env,kl,by simpa using e4⟩,?_⟩
   rintro n m O H' ⟨rfl,hn,l,k',w⟩;have I:H' a=some (.br o (.dK c)):=k'.ae a _ jk
   by_cases bt:n<c.length
   . have B:c[n]?=some (c[n].1,c[n].2):=by simp [bt]
     have J:(c.map (·.1)).drop n=c[n].1::(c.map (·.1)).drop (n+1):=by
      rw [wU (by simpa using bt)];simp
     rw [J] at w;obtain ⟨ro,g1,g2⟩:=ja w
     refine .inr ⟨⟨I,bt⟩,λy H2=> ∃p,au X.K (λ_=>True) H1 p y H2/\Ae g j ((c.map (·.1)).drop (n+1)) p= .ok r,
      λy H2 ⟨p,z1,z3⟩=>⟨c.length-(n+1),by omega,rfl,bt,p,z1,z3⟩,λx H2 ⟨y1,kk,v,y2,y3⟩=>?_⟩
     subst y1 y3;rw [B] at y2;cases y2;refine ⟨_,_,l.set j (.ab (kD c[n].1)),ro,k'.dy (Jm (oe _ _ _ B)),g1,?_⟩
     cases ro with
     |nx e=>exact λy H3 k3 _=>⟨e,k3,g2⟩
     |ct e=>exact λy H3 k3 _=>⟨e,k3,g2⟩
     |bk e=>cases g2
     |rt fr d=>
      cases g2;obtain ⟨Q,Y⟩:=jl Y;cases Y;intro v H3 s3 r3 _;exact ⟨⟨o,s3 _ _ jk⟩,q v _ (k.ae.trans (zQ N s3)) (Sn Q r3) (λ_ b e=>by subst e;cases d<;>cases Q<;>cases r3.f)⟩
   . have zf:n=c.length:=by omega
     subst zf;rw [wV (by simp)] at w;cases w;cases Y;have sH:=zQ N k'.ae;refine .inl ⟨⟨I,aS _⟩,⟨o,I⟩,?_⟩
     have nu: ∀ {i:Nat} {s:Slot},(l.map λ_=>Slot.un)[i]?=some s->s= .un:=λh=>by
      rw [c6] at h;obtain ⟨_,_,e⟩:=tq.mp h;exact e.symm
     have n1: ∀ {i:Nat} {d:D},(l.map λ_=>Slot.un)[i]?≠some (.ab d):=λh=>by cases nu h
     have n2: ∀ {i:Nat} {d:D},(l.map λ_=>Slot.un)[i]?≠some (.ag d):=λh=>by cases nu h
     exact q _ _ ⟨by rw [k'.len,bN],k.ae.trans sH,k.g0,λi d h=>(n1 h).elim,λi d h=>(n2 h).elim,λi j d e b h=>(n2 h).elim⟩ ⟨λb oo e _=>sH b oo e,λb ⟨i,d,h,_⟩=>(n2 h).elim,λb e=>ap.free sH e⟩)
end
def p8 (t:T4) (j:Nat):List aT->Sl->aq (Option aT)
 | [],_=> .ok none
 |k::ks,a=>t (a.set j (.ab (kD k)))>>=λb=>if b=true then .ok (some k) else p8 t j ks a
def vK (i j:Nat) (t:T4):Sl->aq bf:=λa=>ux i a>>=λks=>aK (allI ks=true/\j<a.length) (p8 t j ks (lend a)>>=λr=>match r with
 |some k=> .ok (.rt (kD k) (a.set j (.ab (kD k))))
 |none=> .ok (.nx (match ks.getLast? with
  |none=>a
  |some k=>a.set j (.ab (kD k)))))
section
variable {X:Cx} {c:Expr} {t:T4} {d pi pj pr rp ip:Pos}
def Sr (i j:Nat) {O y:Str} (hp:rf (model X.prog X.w) X.A X.env X.xe) (hc:X.bz=true) (hN:X.N.Nodup) (ht:DT X c t) (U:j≠i:=by decide)
   (hi:X.N[i]?=some O:=by rfl) (hv:dE X.env.scope O:=by exact bT rfl)
   (hd:ZH O:=by decide) (oO:UR O:=by decide)
   (hj:X.N[j]?=some y:=by rfl) (Ss:dE X.env.scope y:=by exact bT rfl) (Su:ZH y:=by decide) (Y:UR y:=by decide) (hx:Loc X.env.scope y:=by exact eI rfl)
   (hf:T7 X y:=by first|exact .inl rfl|exact .inr rfl|assumption)
   (hs: ∀x,nc (.Name O pi) X.env x=pure x:=by intro _;rfl):iZ X i (.For (.Name y pj) (.Name O pi) [.If c [.Return (some (.Name y pr)) rp] [] ip] [] d) (vK i j t):=by
 nomatch (
  PS.imp (Yb (Kn hp hc (Ye (qw hi hv hd oO)) (JT hN hj hx hf) (yV (U3 ht (yV (Q4 (qw hj Ss Su Y))) ZO)) hs)) λE Q H=>by
   rintro ⟨G,H0,p,out,a0,k,B,ef,q⟩;obtain ⟨ks,e1,e2⟩:=ja ef;obtain ⟨⟨g,Sv⟩,e3⟩:=jl e2;obtain ⟨r,e4,e5⟩:=ja e3;obtain ⟨a,e,Bz,ha,tQ⟩:=Qs k e1;subst tQ
   have oe: ∀(n:Nat) (k:aT) (v:V),e[n]?=some (k,v)->By k=true:=λn k v z=>by
     unfold allI at g;rw [iE] at g;exact g k (bP.mpr ⟨(k,v),gt z,rfl⟩)
   refine ⟨a,e,ha,.ref a,Bz,a,e,rfl,ha,λo=>?_⟩;have kl:=k.lend ha o
   refine ⟨λn m h H'=>m=e.length-n/\n<=e.length/\ap (ay H a (.br o (.dK e))) H'/\((n=0/\h=Q)\/ ∃I v,n≠0/\e[n-1]?=some (I,v)/\h=Q.set j (some (kV I)))/\p8 t j ((e.map (·.1)).drop n) (lend p)= .ok r,
     ⟨e.length,by simp,dR _,ap.refl _,.inl ⟨rfl,rfl⟩,by simpa using e4⟩,?_⟩
   rintro n m h H' ⟨rfl,hn,sm,ii,u⟩;have w:=sm a _ jk
   have og: ∀v,h.set j v=Q.set j v:=λv=>by
     rcases ii with ⟨_,rfl⟩| ⟨_,_,_,_,rfl⟩
     . rfl
     . rw [List.set_set]
   by_cases bt:n<e.length
   . have l:e[n]?=some (e[n].1,e[n].2):=by simp [bt]
     have J:(e.map (·.1)).drop n=e[n].1::(e.map (·.1)).drop (n+1):=by
       rw [wU (by simpa using bt)];simp
     rw [J] at u;obtain ⟨ro,g1,g2⟩:=ja u
     refine .inr ⟨⟨w,bt⟩,λBA H2=>ap (ay H a (.br o (.dK e))) H2/\BA=Q.set j (some (kV e[n].1))/\p8 t j ((e.map (·.1)).drop (n+1)) (lend p)= .ok r,
       λBA H2 ⟨z1,z2,z3⟩=>⟨e.length-(n+1),by omega,rfl,bt,z1,.inr ⟨e[n].1,e[n].2,by omega,by simpa using l,z2⟩,z3⟩,λx H2 ⟨y1,I,v,y2,y3⟩=>?_⟩
     subst y1 y3;rw [l] at y2;cases y2;show AA (tT X.K t) (Az (sh j)) Hc _ (h.set j (some (kV e[n].1))) H2;rw [og];have hI:=oe _ _ _ l;have Sw:j<Q.length:=by rw [k.len];exact Sv
     refine ⟨_,_,(lend p).set j (.ab (kD e[n].1)),ro,(kl.ao sm).dy (Jm hI),g1,λH3 s3=>?_⟩
     cases ro with
     |false=>
       rw [if_neg fq] at g2 ⊢;exact ⟨sm.trans s3,rfl,g2⟩
     |true=>
       rw [if_pos rfl] at g2 ⊢;cases g2;cases e5;refine ⟨kV e[n].1,by rw [sg Sw],⟨o,s3 _ _ w⟩,?_⟩;have L:=zQ ha (sm.trans s3);have I:=(k.ao L).dy (i:=j) (Jm (K:=X.K) (A:=Sf G p Q) (H:=ay H3 a (.dK e)) hI);exact q _ _ _ I ((jo U).trans B) (.set L λ_ _ z _=>by cases z) (Jm hI)
   . have zf:n=e.length:=by omega
     subst zf;rw [wV (by simp)] at u;cases u;cases e5;have L:=zQ ha sm;refine .inl ⟨⟨w,aS _⟩,⟨o,w⟩,?_⟩;rcases ii with ⟨h0,rfl⟩| ⟨I,v,h0,hl,rfl⟩
     . have tR:=FM h0;subst tR;exact q _ _ (k.ao L) B (bg.refl L)
     . have N:(e.map (·.1)).getLast?=some I:=by
        rw [FN,c6,bN,hl];rfl
       rw [N] at q
       exact q _ _ ((k.ao L).dy (Jm (oe _ _ _ hl))) ((jo U).trans B) (.set L λ_ _ z _=>by cases z))
end
def ou (i:Nat) (env:Sl) (j:Nat):Slot:=match env[j]? with
 |some (.ab d)=> .ab d
 |some (.ag d)=>if j=i then .ag d else .un
 |_=> .un
def xl (i m:Nat) (a:List Nat) (env:Sl):Sl:=ri m .un++a.map (ou i env)++[.ag (.ah [])]
def ZU (p n:Nat) (env:Sl):Bool:=(fm env.length).all λi=>match env[i]? with
 |some (.ag _)=>i==p||i==n
 |_=>true
def Xc {p n:Nat} {env:Sl} (h:ZU p n env=true) {i:Nat} {d:D} (e:env[i]?=some (.ag d)):i=p\/i=n:=by
 have:=iE.mp h i (gs.mpr (c7.mp e).1);rw [e] at this;simpa using this
def Jw (p n:Nat) (t:TX) (c:T4) (h:FJ):List D->Sl->aq Sl
 | [],e=> .ok e
 |d::i,e=>t d e>>=λa=>c a>>=λb=>if b=true
  then cu n a>>=λ_=>h a>>=λr=>cu n r.2>>=λg=>cL p r.2>>=λ_=>aK (g.length<aH/\ZU p n r.2=true) (Jw p n t c h i (r.2.set n (.ag (.ah (g++[r.1])))))
  else Jw p n t c h i a
def Zt (i q m:Nat) (e:List Nat) (h:TZ) (t:TX) (c:T4) (l:FJ):FJ:=λa=>
 cL i a>>=λ_=>h a>>=λn=>Jw (m+q) (m+e.length) t c l n (xl i m e a)>>=λd=>cu (m+e.length) d>>=λg=>cL (m+q) d>>=λo=> .ok (.ah g,a.set i (.ag o))
abbrev GJ (G:UP) (env:Sl) (a:L2.St) (H:Hp) (d:Addr):Addr->Prop:=λc=>H c=none\/c=d\/Sf G env a c
def nz (H:Hp) (a:Addr):Hp:=λc=>if c=a then none else H c
def get3 {c:Type} {m n:Nat} {x y s:c} {l:List c} (h:(ri m x++l++[y])[n]?=some s):(n<m/\s=x)\/(∃q,n=m+q/\l[q]?=some s)\/(n=m+l.length/\s=y):=by
 by_cases a:n<m
 . rw [fy,fI (by simpa using a),nM,if_pos a] at h;cases h;exact .inl ⟨a,rfl⟩
 . rw [fy,eD (by simpa using a),List.length_replicate] at h
   by_cases d:n-m<l.length
   . rw [fI d] at h;exact .inr (.inl ⟨n-m,by omega,h⟩)
   . rw [eD (by omega)] at h
     have:n-m-l.length=0:=by
      have:=(c7.mp h).1;simp at this;omega
     rw [this] at h;cases h;exact .inr (.inr ⟨by omega,rfl⟩)
def xP {m q i a:Nat} {c:List Nat} {d:L2.St} {v:V} (e:c[q]?=some i) (h:d[i]?=some (some v)):(qE m c d a)[m+q]?=some (some v):=by
 have g:=(c7.mp e).1;unfold qE;rw [fy,eD (by simp),fI (by simpa using g)];simp [e,h]
def xO {m a:Nat} {c:List Nat} {d:L2.St}:(qE m c d a)[m+c.length]?=some (some (.ref a)):=by
 unfold qE;rw [fy,eD (by simp),eD (by simp)];simp
section
variable {K:aA} {G:UP} {H0 H:Hp} {env:Sl} {L:L2.St} {i q m a a0:Nat} {E:D} {Q:List Nat}
def Sx (c:env[i]?=some (.ag E)) (h:ou i env j= .ag d):j=i/\d=E:=by
 unfold ou at h
 split at h
 . cases h
 . rename_i g e
   split at h
   . rename_i z;subst z;rw [c] at e;cases e;cases h;exact ⟨rfl,rfl⟩
   . cases h
 . cases h
def Sy (h:ou i env j= .ab d):env[j]?=some (.ab d):=by
 unfold ou at h
 split at h
 . rename_i e;cases h;exact e
 . split at h<;>cases h
 . cases h
def yz (l:env[i]?=some (.ag E)) (c:Q.Nodup) (o:Q[q]?=some i) {n:Nat} {d:D} (h:(xl i m Q env)[n]?=some (.ag d)):(n=m+q/\d=E)\/(n=m+Q.length/\d= .ah []):=by
 unfold xl at h;rcases get3 h with ⟨_,e⟩| ⟨p,rfl,e⟩| ⟨rfl,e⟩
 . cases e
 . rw [c6] at e;obtain ⟨j,g,e⟩:=tq.mp e;obtain ⟨rfl,rfl⟩:=Sx l e;have:p=q:=(List.getElem?_inj (c7.mp g).1 c).mp (g.trans o.symm);exact .inl ⟨by rw [this],rfl⟩
 . cases e;exact .inr ⟨by rw [bN],rfl⟩
def Qy (o:env[i]?=some (.ag E)) (e:At L i a0) (g:Q.Nodup) (l:Q[q]?=some i) (h:jS (xl i m Q env) (qE m Q L a) b):b=a\/b=a0:=by
 obtain ⟨n,d,p,c⟩:=h;rcases yz o g l p with ⟨rfl,_⟩| ⟨rfl,_⟩
 . rw [xP l e] at c;cases c;exact .inr rfl
 . rw [xO] at c;cases c;exact .inl rfl
def Top.bq {A:UP} (t:Top K A H b d):Top K (λc=>A c/\H c≠none) H b d:=by
 cases t with
 |ah e r=>exact .ah e r.bq
 |aJ e g h r=>exact .aJ e g h r.bq
 |bO e g h r=>exact .bO e g h r.bq
 |obj e g h r=>exact .obj e g h r.bq
 |cx e g h r=>exact .cx e g h r.bq
def vU (k:au K G H0 env L H) (p:H a=none) (u:env[i]?=some (.ag E)) (g:At L i a0) (x:Q[q]?=some i) (l:Q.Nodup):
   au K (GJ G env L H a0) (nz H a0) (xl i m Q env) (qE m Q L a) (ay H a (.ah [])):=by
 obtain ⟨oo,U⟩:=k.there ⟨i,E,u,g⟩;have N:a≠a0:=λz=>by rw [<-z,p] at U;cases U
 have w: ∀c,(Sf G env L c/\H c≠none)->Sf (GJ G env L H a0) (xl i m Q env) (qE m Q L a) c:=λc z=>⟨λo=>by
   rcases Qy u g l x o with y|y
   . rw [y] at z;exact z.2 p
   . rw [y] at z;exact z.1.1 ⟨i,E,u,g⟩,.inr (.inr z.1)⟩
 refine ⟨by simp [xl,qE],λc o e=>?_,λc e=>?_,λn d h=>?_,λn d h=>?_,λn n' d e b B Y I J=>?_⟩
 . unfold nz at e
   split at e
   . cases e
   . exact ap.ay p _ _ e
 . unfold nz at e
   split at e
   . rename_i z;exact .inr (.inl z)
   . exact .inl e
 . unfold xl at h;rcases get3 h with ⟨_,e⟩| ⟨q',rfl,e⟩| ⟨rfl,e⟩
   . cases e
   . rw [c6] at e;obtain ⟨j,hj,e⟩:=tq.mp e;obtain ⟨v,B,r⟩:=k.ab j d (Sy e);exact ⟨v,xP hj B,(r.bq.ao (ap.ay p)).aG w⟩
   . cases e
 . rcases yz u l x h with ⟨rfl,rfl⟩| ⟨rfl,rfl⟩
   . obtain ⟨a1,B,_,t⟩:=k.ag i _ u;have O:=B;rw [g] at B;cases B;exact ⟨a0,xP x O,by unfold nz;rw [if_pos rfl],t.bq.aP (ap.aP (ap.ay p)) w λo e=>ap.ay p _ _ e⟩
   . exact ⟨a,xO,by unfold nz;rw [if_neg N];exact p,.ah jk .nil⟩
 . rcases yz u l x B with ⟨rfl,_⟩| ⟨rfl,_⟩<;>rcases yz u l x Y with ⟨rfl,_⟩| ⟨rfl,_⟩
   . rfl
   . rw [xP x g] at I;rw [xO] at J;cases I;cases J;exact (N rfl).elim
   . rw [xP x g] at J;rw [xO] at I;cases I;cases J;exact (N rfl).elim
   . rfl
end
section
variable {X:Cx} {tg iter elt:Expr} {ifs:List Expr} {scope:Scope} {cl:List (Str×Addr)} {N:List Str} {m:Nat} {js:List Nat} {pos:Pos} {z:Option Str}
 {fi:TZ} {t:TX} {c:T4} {fe:FJ}
def Ua (use:Option (Value->Sem Unit)) (Q':UO) (i0 q0:Nat) (N:List Str) (m:Nat) (js:List Nat) (hq:js[q0]?=some i0) (Dt:js.Nodup) (S:cU z X scope cl N m js) (hc:X.bz=true) (hi:PI X tg iter (tI X.K fi))
   (hb: ∀(C:Addr) (s:az) (H:Hp) (fp:List Addr),PG (jF z X N scope cl C s H fp) tg (Iq X.K (m+q0) t)/\rB (jF z X N scope cl C s H fp) ifs c/\PE (jF z X N scope cl C s H fp) elt (IE X.K fe))
   (hs: ∀x,nc iter X.env x=pure x) {pins:List (Addr×Obj)} {L:L2.St} {H:Hp} {Q:Addr} {d0:D} (I:aw X pins L H s) (k:au X.K G H0 env L H) (p9:env[i0]?=some (.ag d0)) (mo:At L i0 Q) (ef:Zt i0 q0 m js fi t c fe env= .ok (d,qa))
   (sW: ∀(a C:Addr) (s':az) (O:Hp) (mm:UQ) (r:Flow),s'.heap.Ns C mm->(∀h',kx C s'.heap h'->aw X pins L O {s' with heap:=h'})->cC X pins O C->au X.K G H0 qa L O->bg env L H qa L O->aD X.K (Sf G qa L) O (.ref a) d->compPost (model X.prog X.w) X.A X.xe use Q' (.ref a) C (.ok r) s'):
   wpAny (model X.prog X.w) X.A (comprehension (.ListComp elt [⟨tg,iter,ifs,0⟩] scope pos) scope X.env (firstIterPos [⟨tg,iter,ifs,0⟩] pos) (newList []) (firstAsync [⟨tg,iter,ifs,0⟩]) (firstIter [⟨tg,iter,ifs,0⟩] X.env) use) Q' X.xe s:=by
 nomatch (by
  obtain ⟨_,_,ef⟩:=ja ef;obtain ⟨ds,e1,ef⟩:=ja ef;obtain ⟨iT,e2,ef⟩:=ja ef;obtain ⟨E4,e3,e4⟩:=ja ef;obtain ⟨d1,e9,e4⟩:=ja e4;cases e4;refine wpAny_comprehension_free rfl hs S.A4 S.kind S.names ?_;refine a9 (hi pins s L H (λJ H1=> ∃P,ap H H1/\C0 X.K (Sf G env L) H1 J ds P/\P H1/\ ∀l w O,bg env L H1 l w O->P O) I ⟨G,H0,env,ds,k,e1,λJ H1 P a b c' d'=>⟨P,a,b,c',d'⟩⟩) λv s1 h1=>a9 h1 λHj s2 h2=>?_
  obtain ⟨it,fp,tn,J,E,rfl,I2,T,pc,f2,P,sm,wk,p0,sS⟩:=h2;have k2:=k.ao sm;have hqm:q0<js.length:=(c7.mp hq).1;obtain ⟨oo0,tX⟩:=k2.there ⟨i0,d0,p9,mo⟩;have SA:=k2.lD ⟨i0,d0,p9,mo⟩ tX;refine hV (Zb S.made S.nU (λlG gf gg gh=>?_));dsimp only at gf gg gh ⊢;have sX:=I2.aM.fresh (aS _)
  let a:=s2.heap.objs.size
  have ha:=sX;have I3:=I2.pB (t':=s2.toks) .nil (dR _)
  let s3:az:={s2 with heap:=s2.heap.push {cls:= .type "list",dict:=none,data:= .seq ([]:List Value).toArray}}
  let C:=s3.heap.objs.size
  have f3: ∀b∈fp,cC X pins (ay E a (.ah [])) b:=λb g=>by
   obtain ⟨z0,z⟩:=f2 b g;refine ⟨?_,z⟩
   have rC:b≠a:=by
     obtain ⟨o,ho,_⟩:=T.obj 0 _ pc b g;exact cj (bw ho)
   rw [jp rC];exact z0
  have pL: ∀b∈fp,b<s3.heap.objs.size:=λb g=>by
   obtain ⟨o,ho,_⟩:=T.obj 0 _ pc b g;refine eV (bw ho) ?_;rw [iQ];exact ly _
  have XO:=uF S hc I3 (aS _) f3 pL;obtain ⟨E6,E7,E8⟩:=hb C s3 (ay E a (.ah [])) fp;have old: ∀b o,s3.heap.get? b=some o->lG.get? b=some o:=λb o e=>gg b o e
  have I4:aw (jF z X N scope cl C s3 (ay E a (.ah [])) fp) [] (qE m js L a) (ay E a (.ah [])) {s2 with heap:=lG,toks:=s2.toks+([]:List (Str×Value)).length}:=by
   refine ⟨XO,rfl,I3.bare,Un.kept old,⟨_,gf,λi y v' h1 h2 h3=>?_⟩,λy c' h=>?_,I3.aM.fresh (aS _),λy c' h=>(by
     rcases pK h with ⟨_,rfl⟩| ⟨_,h⟩
     . exact I3.aM.fresh (ly _)
     . exact I3.cm y c' (S.cls y c' h)),λp hp=>absurd hp (by simp [XC]),I3.aM.kept old,?_⟩
   . --a nV name
     have sY:N[i]?=some y:=h1;unfold qE at h2
     by_cases q1:i<m
     . rw [fy,fI (by simpa using q1),nM] at h2
       split at h2<;>cases h2
     . rw [fy,eD (by simpa using q1)] at h2;simp at h2
       by_cases q2:i-m<js.length
       . rw [fI (by simpa using q2),c6] at h2
         cases e:js[i-m]? with
         |none=>rw [e] at h2;cases h2
         |some j=>
           rw [e] at h2;have nW:(L[j]?).join=some v':=fU h2
           have hj:L[j]?=some (some v'):=by
             cases z:L[j]? with
             |none=>rw [z] at nW;cases nW
             |some w'=>rw [z] at nW;simp at nW;rw [nW]
           obtain ⟨y',g1,g2,g3,g4⟩:=S.HR (i-m) j e
           have ey:y'=y:=by
             rw [show m+(i-m)=i by omega,sY] at g1;exact (fU g1).symm
           subst ey;obtain ⟨mm,hn,hl⟩:=I3.loc
           have E9:dE X.env.scope y':=by
             rcases g3 with z|z
             . exact .inr (.inl z)
             . exact .inr (.inr z)
           obtain ⟨u,ru,lk⟩:=hl j y' v' g2 hj E9;refine ⟨u,ru,.inr ⟨?_,?_⟩⟩
           . rcases h3 with z|z
             . exfalso;obtain ⟨k',m1,m2⟩:=qX z;have sU:=S.names _ m1;rcases m2 with w'|w'
               . subst w';have:=sU rfl;rw [g4] at this;cases this
               . subst w'
                 have: ∀ {names:List (Str×rh)},names.lookup y'=some .free->(names.map λ(n,k)=>if (k==oR&&X.env.scope.kind== .function&&X.env.kindOf n==some .cell) then (n,oS) else (n,k)).lookup y'≠some .local:=by
                  intro names
                  induction names with
                  |nil=>intro h;cases h
                  |cons p r ih=>
                   obtain ⟨n,kk⟩:=p;intro h h';have mO:lv y' ((if (kk==oR&&X.env.scope.kind== .function&&X.env.kindOf n==some .cell)=true then (n,oS) else (n,kk))::(r.map λ(n,k)=>if (k==oR&&X.env.scope.kind== .function&&X.env.kindOf n==some .cell) then (n,oS) else (n,k)))=some .local:=h';simp only [mN] at h
                   cases hx:y'==n with
                   |true=>
                    rw [hx] at h;cases h
                    split at mO<;>simp [mN,hx] at mO
                   |false=>
                    rw [hx] at h
                    split at mO<;>(simp only [mN,hx] at mO;exact ih h mO)
                 exact this g4 z
             . exact z
           . rcases lk with ⟨kk,_⟩| ⟨kk,c',oJ,nX⟩
             . exfalso;have A5:X.env.scope.names.lookup y'=some .local:=kk;rcases g3 with z|z<;>(rw [z] at A5;cases A5)
             . obtain ⟨c2,A6⟩:=S.free (y',.free) (rk g4) rfl
               have:c2=c':=by
                 have:=S.cls _ _ A6;rw [oJ] at this;exact (fU this).symm
               subst this;obtain ⟨o,ho,hd⟩:=nX;exact ⟨c2,sU (λq=>by rw [S.zk _ q] at g4;cases g4) A6,o,old _ _ ho,hd⟩
       . exfalso
         have A7:i=m+js.length:=by
           have hl:=(c7.mp sY).1;rw [S.len] at hl;omega
         subst A7;have no:=S.last y sY;rcases h3 with z|z|z<;>
         . obtain ⟨k',m1,_⟩:=qX z;exact no _ m1 rfl
   . rcases pK h with ⟨q,rfl⟩| ⟨_,h⟩
     . exact ⟨none,gh _ q⟩
     . obtain ⟨v',o,ho,hd⟩:=I3.cell y c' (S.cls y c' h);exact ⟨v',o,old _ _ ho,hd⟩
   . show (qE m js L a).length=N.length;rw [S.len];simp [qE];omega
  have K2:a≠Q:=λz=>by rw [<-z,ha] at tX;cases tX
  have kC:au X.K (GJ G env L E Q) (nz E Q) (xl i0 m js env) (qE m js L a) (ay E a (.ah [])):=vU k2 ha p9 mo hq Dt;have pC:(qE m js L a)[m+q0]?=some (some (.ref Q)):=xP hq mo
  have fC: ∀b∈fp,cC (jF z X N scope cl C s3 (ay E a (.ah [])) fp) [] (ay E a (.ah [])) b:=λb g=>by
   obtain ⟨z0,z1,z2,z3,z4,z5⟩:=f3 b g;exact ⟨z0,(XO.r9 b g).1,XO.lm b g,.inl g,(XO.r9 b g).2,λp hp=>absurd hp (by simp [XC])⟩
  have stC:=T.keep 0 _ _ pc λb g o e=>old b o (bu _ e)
  have loop:k4 (model X.prog X.w) X.A (.compLoop (.ListComp elt [⟨tg,iter,ifs,0⟩] scope pos) 0 (.ref it) (.ref a) (compEnvC scope (pJ z cl C) C X.env))
     (compPost (model X.prog X.w) X.A X.xe use Q' (.ref a) C) {s2 with heap:=lG,toks:=s2.toks+([]:List (Str×Value)).length}:=by
   refine Jv (λn s'=> ∃i w O l,n=ds.length+1-i/\i<=ds.length/\aw (jF z X N scope cl C s3 (ay E a (.ah [])) fp) [] w O s'/\tn i s'.heap/\(∀b∈fp,O b=none)/\(∀b,jS l w b->b=a\/b=Q)/\w[m+q0]?=some (some (.ref Q))/\
       au X.K (GJ G env L E Q) (nz E Q) l w O/\bg (xl i0 m js env) (qE m js L a) (ay E a (.ah [])) l w O/\Jw (m+q0) (m+js.length) t c fe (ds.drop i) l= .ok iT) ?_ (ds.length+1)
     ⟨0,_,_,_,rfl,dR _,I4,stC,λb g=>(fC b g).1,λb o=>Qy p9 mo Dt hq o,pC,kC,bg.refl (ap.refl _),by simpa using e2⟩
   . rintro n s' ⟨i,w,O,l,rfl,A7,Ic,st,fr,ii,BG,kc,fc,ec⟩;have sA: ∀c o,c≠Q->E c=some o->O c=some o:=λc o n e=>kc.ae c o (by unfold nz;rw [if_neg n];exact e)
     have SD:O Q≠none:=λe=>by
       have e2:=fc.size Q e;rw [jp (fH K2),tX] at e2;cases e2
     have hP:=sS env L O ⟨λb o e n=>sA b o (λz=>n (by rw [z];exact ⟨i0,d0,p9,mo⟩)) e,λb o=> .inl o,λb e=>by
       by_cases z:b=Q
       . exact (SD (by rw [<-z];exact e)).elim
       . cases q:E b with
         |none=>rfl
         |some o=>rw [sA b o z q] at e;cases e⟩
     have stH:eL (λb=>Sf G env L b/\E b≠none) E O:=λb o e n=>sA b o (λz=>by subst z;exact (n (by rw [tX] at e;cases e;exact SA)).1.1 ⟨i0,d0,p9,mo⟩) e
     obtain ⟨w1,w2,w3⟩:=wk i O hP;have sZ: ∀ {O:Hp},(∀b∈fp,O b=none)-> ∀b∈fp,cC (jF z X N scope cl C s3 (ay E a (.ah [])) fp) [] O b:=λhn b g=>⟨hn b g,(fC b g).2⟩
     by_cases bt:i<ds.length
     . have hd:i<ds.length:=by omega
       rw [wU hd] at ec;obtain ⟨Y,e5,ec⟩:=ja ec;obtain ⟨b,e6,ec⟩:=ja ec;refine a9 (T.item (jF z X N scope cl C s3 (ay E a (.ah [])) fp) rfl rfl rfl rfl i [] s' w O (λ_ _=>False) Ic (sZ fr) st (w1 bt)) λr s4 fM=>?_;obtain ⟨u,hr,h4⟩:=fM
       subst hr;refine a9 h4 λ_ s5 fM=>?_;obtain ⟨x,H5,I5,r5,y5,s0,AC⟩:=fM
       have A8: ∀b,(Sf G env L b/\E b≠none)->Sf (GJ G env L E Q) l w b:=λb z=>⟨λo=>(by
         rcases ii b o with y|y
         . rw [y] at z;exact z.2 ha
         . rw [y] at z;exact z.1.1 ⟨i0,d0,p9,mo⟩),.inr (.inr z.1)⟩
       obtain ⟨A9,Fa⟩:ap O H5/\aD X.K (Sf (GJ G env L E Q) l w) H5 x ds[i]:=by
         rcases w2 _ (cZ hd) x H5 y5 with ⟨rfl,rd⟩| ⟨p,vs,es,hp,rfl,rfl,ed,A2⟩
         . exact ⟨ap.refl _,rd.bq.aP stH A8⟩
         . refine ⟨ap.ay hp,?_⟩;rw [ed];exact .ar jk ((A2.bq.aP stH A8).ao (ap.ay hp))
       have Fb:=kc.ao A9;have Fc:=I5.pinned (sZ AC) (T.obj _ _ s0);refine a9 (E6 _ s5 w H5 x u (λnT Hn=>Hn=H5/\au X.K (GJ G env L E Q) (nz E Q) Y nT H5/\bg l w H5 Y nT H5/\nT[m+q0]?=w[m+q0]?) Fc r5 ⟨_,_,l,ds[i],Y,Fb,Fa,e5,λnT k1 f1 w1=>⟨rfl,k1,f1,w1⟩⟩) λ_ s6 fM=>?_;obtain ⟨iN,H6,I6,z6,k6,Ba,B1⟩:=fM
       subst z6;rw [BG] at B1
       have xi: ∀b,jS Y iN b->b=a\/b=Q:=λb o=>by
         rcases Ba.more b o with z|z
         . exact ii b z
         . obtain ⟨uu,hu⟩:=k6.there o;rw [z] at hu;cases hu
       refine a9 (E7 _ s6 iN H6 (λb' Hn=>b'=b/\ap H6 Hn) I6 ⟨_,_,Y,b,k6,e6,λHn sn=>⟨rfl,sn⟩⟩) λok s7 fM=>?_;obtain ⟨H7,I7,z7,Bb⟩:=fM
       subst z7;have k7:=k6.ao Bb;have Bc:=((fc.trans (bg.refl A9)).trans Ba).trans (bg.refl Bb)
       have out: ∀ {s8:az} {mf:L2.St} {H8:Hp} {fb:Sl},aw (jF z X N scope cl C s3 (ay E a (.ah [])) fp) ([]++Q6 fp s5.heap) mf H8 s8->((∀b,jS fb mf b->b=a\/b=Q)/\mf[m+q0]?=some (some (.ref Q)))->au X.K (GJ G env L E Q) (nz E Q) fb mf H8->
           bg (xl i0 m js env) (qE m js L a) (ay E a (.ah [])) fb mf H8->Jw (m+q0) (m+js.length) t c fe (ds.drop (i+1)) fb= .ok iT->
           ∃mm,mm<ds.length+1-i/\ ∃i w O l,mm=ds.length+1-i/\i<=ds.length/\aw (jF z X N scope cl C s3 (ay E a (.ah [])) fp) [] w O s8/\tn i s8.heap/\(∀b∈fp,O b=none)/\(∀b,jS l w b->b=a\/b=Q)/\w[m+q0]?=some (some (.ref Q))/\
             au X.K (GJ G env L E Q) (nz E Q) l w O/\bg (xl i0 m js env) (qE m js L a) (ay E a (.ah [])) l w O/\Jw (m+q0) (m+js.length) t c fe (ds.drop i) l= .ok iT:=by
         intro s8 mf H8 fb I8 yd k8 f8 e8;refine ⟨ds.length+1-(i+1),by omega,i+1,mf,H8,fb,rfl,bt,I8.dr,T.keep _ _ _ s0 λb g o e=>(I8.pin (b,o) (eT _ (eT _ (zP g e)))).1,λb g=>?_,yd.1,yd.2,k8,f8,e8⟩;obtain ⟨o,e,_⟩:=T.obj _ _ s0 b g;exact (I8.pin (b,o) (eT _ (eT _ (zP g e)))).2.1
       cases ok with
       |false=>
         rw [if_neg fq] at ec ⊢;exact out I7 ⟨xi,B1⟩ k7 Bc ec
       |true=>
         rw [if_pos rfl] at ec ⊢;obtain ⟨SE,SF,ec⟩:=ja ec;obtain ⟨⟨vd,ox⟩,e7,ec⟩:=ja ec;obtain ⟨acc,e8,ec⟩:=ja ec;obtain ⟨dp,SG,ec⟩:=ja ec;obtain ⟨⟨hz,SH⟩,ec⟩:=jl ec;refine a9 (E8 _ s7 iN H7 (λy Hn=>au X.K (GJ G env L E Q) (nz E Q) ox iN Hn/\bg Y iN H7 ox iN Hn/\aD X.K (Sf (GJ G env L E Q) ox iN) Hn y vd) I7 ⟨_,_,Y,vd,ox,k7,e7,λy Hn kn fn rn=>⟨kn,fn,rn⟩⟩) λyv s8 fM=>?_;obtain ⟨y,H8,I8,ry,k8,SI,tf⟩:=fM
         have pM:=zD e8;obtain ⟨a8,Bd,th,Be,Bf⟩:=we k8 pM;have SJ:=wf SG
         have yd: ∀b,jS ox iN b->b=a8\/b=Q:=λb ⟨n,d,g1,g2⟩=>by
           rcases Xc SH g1 with rfl|rfl
           . rw [B1] at g2;cases g2;exact .inr rfl
           . rw [th] at g2;cases g2;exact .inl rfl
         have ea:a8=a:=by
           rcases xi a8 ⟨_,_,zD SF,th⟩ with z|z
           . exact z
           . subst z;have:=k8.mL _ _ _ _ _ pM SJ th B1;omega
         subst ea;have W:=k8.write pM th Be (Bf.append (.cons tf .nil))
         refine a9 (J4 _ s8 iN H8 (.ref a) [y] (.ref a) [yv] (λ_ Hn=>Hn=ay H8 a (.ah (Bd++[y]))) I8 rfl (.cons ry .nil)
           ⟨a,Bd,y,rfl,rfl,Be,by rw [Bf.length];exact hz,rfl⟩) λ_ s9 ⟨_,H9,I9,_,z9⟩=>?_
         subst z9;exact out I9 ⟨λb o=>yd b ((xJ pM).mp o),B1⟩ W.1 ((Bc.trans SI).trans W.2) ec
     . have he:i=ds.length:=by omega
       rw [wV (by omega)] at ec;cases ec;refine a9 (T.done (jF z X N scope cl C s3 (ay E a (.ah [])) fp) rfl rfl rfl rfl i [] s' w O (λ_ _=>False) Ic (sZ fr) st (w3 (by omega))) λr s4 ⟨hr,I5⟩=>?_
       subst hr;have rD:=zD e3;obtain ⟨aF,NY,yn,Fd,C6⟩:=we kc rD;have Go:=wf e9
       have ea:aF=a:=by
         rcases ii aF ⟨_,_,rD,yn⟩ with z|z
         . exact z
         . subst z;have:=kc.mL _ _ _ _ _ rD Go yn BG;omega
       subst ea;obtain ⟨a1,h1,_,t1⟩:=kc.ag _ _ Go;rw [BG] at h1;cases h1
       have back: ∀c,Sf (GJ G env L E Q) iT w c->Sf G env L c/\c≠Q/\c≠a:=λc y=>by
         have n0:c≠Q:=λe=>y.1 (by rw [e];exact ⟨_,_,Go,BG⟩)
         refine ⟨?_,n0,λe=>y.1 (by rw [e];exact ⟨_,_,rD,yn⟩)⟩;rcases y.2 with y|y|y
         . exact k2.new c y
         . exact (n0 y).elim
         . exact y
       have W:=k2.anew p9 mo (H':=O) (d':=d1) sA (t1.aP (λ_ _ e _=>e) (λc y=>(back c y).1) λ_ e=>e);have up: ∀c,Sf G env L c->c≠Q->Sf G (env.set i0 (.ag d1)) L c:=λc y n=>⟨λo=>y.1 (JY p9 o),y.2⟩
       obtain ⟨mm,hn,_⟩:=I5.loc;refine sW a C s4 O mm _ hn (λh' pN=>?_) (I3.dW (aS _) I5.free) W.1 (W.2.ao sm) (.ah Fd (up _ (k2.new _ ha) K2) (C6.aG λc y=>⟨up c (back c y).1 (back c y).2.1,(back c y).2.2⟩))
       have nC: ∀b o,O b=some o->b≠C:=λb o e z=>by
         have:=I5.free;rw [z] at e;have e':O C=none:=this;rw [e] at e';cases e'
       have B:=I5.ae;have tj: ∀b o,s3.heap.get? b=some o->b≠C:=λb o e=>cj (bw e)
       have U:Un (mz X.stack) fp (ay E a (.ah [])) O s3.heap h':=⟨λb o e n g gQ=>(pN.2 b (tj b o e)).trans (B.keep b o e n g gQ),
         λb o e n g gQ=>let ⟨sl,z⟩:=B.slot b o e n g gQ;⟨sl,(pN.2 b (tj b o e)).trans z⟩,B.free,
         λb o e gQ=>let ⟨o',z⟩:=B.there b o e gQ;⟨o',(pN.2 b (tj b o e)).trans z⟩,B.eW,B.eC,B.eX⟩
       refine aw.re I3 I5.os U (λb o e=>(I5.aM b o e).aP (λc' u oJ qq=>(pN.2 c' ?_).trans qq) (λ_ z=>z) λ_ _ z=>z) I5.bare (λb g=>?_)
       . rcases oJ with z|z
         . rw [z];exact nC b o e
         . exact nC c' _ z
       . obtain ⟨z0,z1,z2,z3,z4,z5⟩:=f3 b g;exact ⟨z3,z1,z4,z5⟩
  exact codeAny_compStart_list loop (T.self _ 0 _ _ _ stC loop))
def D1 (j:Nat) (f:FJ):Sl->aq bf:=λa=>f a>>=λr=> .ok (.nx (r.2.set j (.ab r.1)))
def ug (i j q:Nat) {x:Str} {p ps:Pos} (hN:X.N.Nodup) (N:List Str) (m:Nat) (js:List Nat) (S:cU z X scope cl N m js) (hc:X.bz=true) (hi:DI X tg iter fi)
   (y: ∀(C:Addr) (s:az) (H:Hp) (h:List Addr),N.Nodup->yO (jF z X N scope cl C s H h) (m+q) tg t/\rB (jF z X N scope cl C s H h) ifs c/\pZ (jF z X N scope cl C s H h) elt fe)
   (B:js[q]?=some i:=by rfl) (J:js.Nodup:=by decide) (L:j≠i:=by decide) (O:X.N[j]?=some x:=by rfl) (hx:Loc X.env.scope x:=by exact eI rfl) (hf:T7 X x:=by first|exact .inl rfl|exact .inr rfl|assumption)
   (Q:gb (.ListComp elt [⟨tg,iter,ifs,0⟩] scope pos) (some (.Name x p)) ps.line X.env=pure true:=by rfl) (hs: ∀x,nc iter X.env x=pure x:=by intro _;rfl):
   iZ X i (.Assign [.Name x p] (.ListComp elt [⟨tg,iter,ifs,0⟩] scope pos) ps) (D1 j (Zt i q m js fi t c fe)):=by
 nomatch (by
  rintro l s σ H E I ⟨G,H0,U,o,a0,k,n,ef,qq⟩;obtain ⟨⟨d,qa⟩,e1,e2⟩:=ja ef;cases e2;rw [Fe _ _ _ _ Q]
  obtain ⟨v,Y⟩: ∃v,U[i]?=some (.ag v):=by
   obtain ⟨v,e3,_⟩:=ja e1;exact ⟨v,wf e3⟩
  refine ak (wpAny_standAt (ak ?_));refine ak (a9 (Ua (some (mE (.Name x p) X.env)) (λ_ w=>SP X l E .next w) i q N m js B J S hc hi (λC s H h=>y C s H h S.nd) hs I k Y n e1 λa C w H' mm r hn u pL kO fr rep=>?_) λ_ w B=>aC (aC B));have I':=u w.heap ⟨rfl,λ_ _=>rfl⟩;obtain ⟨f0,f1,f2,f3,f4,f5⟩:=pL;refine CD (yp I' hN O hx (show aE (.ref a) (.ref a) from rfl) (λs2 I2 g=>?_) hf);obtain ⟨b,g,AX⟩:=g
  have Ff:C≠b:=by
   rcases AX with z|z
   . rw [z];exact f1
   . exact λe=>f4 _ _ z e.symm
  refine ⟨mm,hn.sameBut g Ff,λh' ii=>⟨_,H',?_,qq _ _ (kO.dy rep) ((jo L).trans n) (fr.trans (.set (ap.refl H') λ_ _ z _=>by cases z))⟩⟩
  exact I2.turned (λb o y e=>(ii.2 b y).trans e) f0 f1 f3 f4 f5)
end
def insI (a:Int):List Int->List Int
 | []=>[a]
 |b::r=>if a<b then a::b::r else b::insI a r
def wF (a:List Int):List Int:=a.foldr insI []
def We:List aT->Option (List Int)
 | []=>some []
 | .inl i::r=>match We r with
  |some l=>some (i::l)
  |none=>none
 |_=>none
def Jz:List D->aq D
 | [.aJ ks _]=>match We ks with
  |some a=>aK (a.Nodup/\a.length<64) (.ok (.ah ((wF a).map .int)))
  |none=> .aj
 |_=> .aj
def jA (a:List Int):List Int:=Tab.cg (λi=>a.getD i 0) a.length
def UD:D->aq D
 | .ah c=>match Wc c with
  |some a=>aK ((jA a).length<64) (.ok (.ah ((wF (jA a)).map .int)))
  |none=> .aj
 |_=> .aj
def ZE (f:T5):Sl->aq D:=λa=>f a>>=UD
def VI (g h:T5):Sl->aq D:=λc=>g c>>=λa=>h c>>=λb=>match a,b with
 | .ar d,.ar e=>aK (d.length<=1000/\e.length<=1000) (.ok (.ah ((d.zip e).map λp=> .ar [p.1,p.2])))
 |_,_=> .aj
end M
namespace M
open PySem PySem.W PyProof.Rows
section
variable {prog:bn} {w:World} {A:bp} {E:UO} {t:az} {Y:List Value} {ns:List Int}
def Ji {Q:UO} (q:oQ Y ns) (i:Y.length<64)
  (h: ∀(a:Array Value) (d:List Int) m c,oQ a.toList d->d.Perm ns->d.Pairwise (· <= ·)->(∀b o,t.heap.get? b=some o->m.get? b=some o)->m.get? t.heap.objs.size=some (seqObj "list" a c)->Q (.ref t.heap.objs.size) {t with heap:=m}):
  wpAny (model prog w) A (newList Y>>=λl=>nI [l] (call (.builtin "list.sort") [l] [])>>=λ_=>ret l) (λn r=> ∃v,n= .done (.ret v)/\Q v r) E t:=by
 have g:(t.heap.push (seqObj "list" Y.toArray 0)).get? t.heap.objs.size=some (seqObj "list" Y.toArray 0):=b0 _ rfl;refine ak (wpAny_newList (ak (gl ?_)) (by rw [iB];omega));refine hH slot_list_sort ⟨_,g,rfl⟩ entry_list_sort ?_ (args_list_sort _);refine list_sort_tree g q i λa d u x y=>⟨_,rfl,aC ⟨_,rfl,?_⟩⟩
 obtain ⟨c,z⟩:=sortedHeap_at (out:=a) g;refine h a d _ c u x y (λb o e=>?_) z;have p:=bw e;have B:(t.heap.push (seqObj "list" Y.toArray 0)).objs.size=t.heap.objs.size+1:=iQ _ _;rw [sortedHeap_old (cj p) (by rw [B];exact Bw p)];exact bu _ e
end
end M
namespace M
open PySem PySem.Spec L2
open PyProof.Rows hiding St
theorem Qe (a:Int): ∀l:List Int,(insI a l).Perm (a::l)
 | []=> .refl _
 |b::r=>by
  unfold insI
  split
  . exact .refl _
  . exact ((Qe a r).cons b).trans (.swap a b r)
theorem zh: ∀l:List Int,(wF l).Perm l
 | []=> .refl _
 |a::r=>(Qe a _).trans ((zh r).cons a)
theorem vy (a:Int): ∀l:List Int,l.Pairwise (· <= ·)->(insI a l).Pairwise (· <= ·)
 | [],_=> .cons (λ_ h=>nomatch h) .nil
 |b::r,h=>by
  obtain ⟨d,e⟩:=oi.mp h;unfold insI
  split
  . rename_i c
    exact oi.mpr ⟨λx hx=>by
     rcases bH.mp hx with rfl|hx
     . omega
     . have:=d x hx;omega,h⟩
  . rename_i c
    exact oi.mpr ⟨λx hx=>by
     rcases bH.mp ((Qe a r).mem_iff.mp hx) with rfl|hx
     . omega
     . exact d x hx,vy a r e⟩
theorem yq: ∀l:List Int,(wF l).Pairwise (· <= ·)
 | []=> .nil
 |a::r=>vy a _ (yq r)
theorem xF: ∀ {l m:List Int},l.Pairwise (· <= ·)->m.Pairwise (· <= ·)->l.Perm m->l=m
 | [],m,_,_,p=>by cases m with
  |nil=>rfl
  |cons b m=>exact absurd p.length_eq (by simp)
 |a::l,[],_,_,p=>absurd p.length_eq (by simp)
 |a::l,b::m,c,d,p=>by
  obtain ⟨g,h⟩:=oi.mp c;obtain ⟨i,n⟩:=oi.mp d
  have e:a=b:=by
   rcases bH.mp (p.mem_iff.mp (ci (a:=a))) with e|e
   . exact e
   . rcases bH.mp (p.mem_iff.mpr (ci (a:=b))) with e2|e2
     . exact e2.symm
     . have:=i a e;have:=g b e2;omega
  subst e;rw [xF h n (p.cons_inv)]
theorem vq: ∀ {a:List Int} {c:List Value},aI (a.map V.int) c->oQ c a
 | [],_,r=>by cases FA r;exact .nil
 |i::a,_,r=>by
  obtain ⟨_,_,rfl,⟨t,rfl⟩,d⟩:=Fz r;exact .cons i t (vq d)
theorem Qd: ∀ {a:List Value} {c:List Int},oQ a c->aI (c.map V.int) a
 |_,_,.nil=> .nil
 |_,_,.cons n t r=> .cons ⟨t,rfl⟩ (Qd r)
section
variable {X:Cx} {K:aA}
def WB (Y:X.bz=true):bi X (.builtin "sorted") (λL H Q=> ∃a i d,L=[.ref a]/\H a=some (.dK i)/\i.map (·.1)=d.map .inl/\d.length<64/\ ∀l,H l=none->Q (.ref l) (ay H l (.ah ((wF d).map .int)))):=by
 intro n s σ H L us Q I r h;obtain ⟨a,i,d,rfl,ha,hk,SK,q⟩:=h;obtain ⟨u,rfl,rx⟩:=x3 r;cases rx;obtain ⟨hz,hd,N,o,dd⟩:=YK I.aM ha;have w:N.length<=aH:=by rw [<-o.length];exact hz
 obtain ⟨ep,x⟩:=dd.dictAt;refine Calls.call_function_entry kind_sorted plain_sorted entry_sorted (args_sorted1 _) ?_;unfold fS.«sorted»;refine ak (aC (ak (PySem.W.kdu_collect (PySem.W.kdl_dict hd) (show X.A.in1.handled=none from I.ok.hd Y) x w λO tk y z g=>?_)));have B:=Yw (by rw [eq];exact g.1) λj v e=>g.2 j v (by rw [<-fG];exact e)
 have m:(N.map λq=>kV q.1)=d.map V.int:=by
  have:=o.keys;rw [hk] at this;have p:=congrArg (List.map kV) this;simp [iI,Function.comp_def] at p;exact p.symm
 rw [m] at B;have hI:=vq B;have hl:y.toList.length=d.length:=by have:=B.length;rw [bN] at this;omega
 refine Ji (t:={s with heap:=O,toks:=tk}) hI (by omega) λE J p c a1 a2 a3 k e=>?_
 have en:J=wF d:=xF a3 (yq d) (a2.trans (zh d).symm);subst en;have U:aw X n σ H {s with heap:=O,toks:=tk}:=I.kept z;exact ⟨.ref _,_,U.laid k (aS _) (show aW X.prog X.w _ p _ (.ah ((wF d).map V.int)) from ⟨by rw [bN,(zh d).length_eq,iB];omega,E.toList,c,Qd a1,by rw [Bm];exact e⟩),rfl,q _ (U.aM.fresh (aS _))⟩
theorem KQ: ∀ {ks:List aT} {a:List Int},We ks=some a->ks=a.map .inl
 | [],a,h=>by cases h;rfl
 | .inl i::r,a,h=>by
  unfold We at h
  cases e:We r with
  |none=>rw [e] at h;cases h
  |some l=>rw [e] at h;cases h;rw [KQ e];rfl
 | .inr z::r,a,h=>by cases h
theorem Qb {A:UP} {H:Hp}: ∀a:List Int,am K A H (a.map V.int) (a.map D.int)
 | []=> .nil
 |i::a=> .cons (.int i) (Qb a)
def YO:QJ K (λo H Q=> ∃a c g,o=[.ref a]/\H a=some (.dK c)/\c.map (·.1)=g.map .inl/\g.length<64/\ ∀l,H l=none->Q (.ref l) (ay H l (.ah ((wF g).map .int)))) Jz:=by
 intro A o H x d Q r e q;unfold Jz at e
 split at e
 . rename_i ks y
   cases h:We ks with
   |none=>rw [h] at e;cases e
   |some g=>
    rw [h] at e;obtain ⟨⟨z,i⟩,e2⟩:=jl e;cases e2;obtain ⟨v,rfl,u⟩:=r.one;obtain ⟨p,c,rfl,w,_,m,_⟩:=u.gG;exact ⟨p,c,g,rfl,w,by rw [m];exact KQ h,i,λl n=>q _ _ (ap.ay n) (.ah jk (.inl n) (Qb _)) (qi (ap.refl H) n)⟩
 . cases e
end
theorem K1 {d:Type} [DecidableEq d] (val:Nat->d): ∀i x,x∈Tab.cg val i↔ ∃j,j<i/\val j=x
 |0,x=>by simp [Tab.cg]
 |i+1,x=>by
  have g:=K1 val i
  have key:x∈Tab.cg val (i+1)↔x∈Tab.cg val i\/val i=x:=by
    rw [Tab.cg]
    by_cases c:val i∈Tab.cg val i
    . rw [if_pos c];exact ⟨.inl,λh=>h.elim id λe=>e▸c⟩
    . rw [if_neg c,cW,f7];exact or_congr .rfl ⟨Eq.symm,Eq.symm⟩
  rw [key,g]
  constructor
  . rintro (⟨j,l,a⟩|h)
    . exact ⟨j,by omega,a⟩
    . exact ⟨i,by omega,h⟩
  . rintro ⟨j,l,a⟩
    by_cases e:j=i
    . subst e;exact .inr a
    . exact .inl ⟨j,by omega,a⟩
theorem Zl {a:Type} [DecidableEq a] (v:Nat->a): ∀n,(Tab.cg v n).Nodup
 |0=>wh
 |n+1=>by
  have d:=Zl v n;unfold Tab.cg
  split
  . exact d
  . rename_i c
    exact qP.mpr ⟨d,by simp,λx h y g e=>by
     rw [f7] at g;subst g;subst e;exact c h⟩
theorem Xv {a:Type} [DecidableEq a] (v:Nat->a) {m:Nat}: ∀ {n:Nat},m<=n->(Tab.cg v m).length<=(Tab.cg v n).length
 |0,h=>by cases Nat.le_zero.mp h;exact aS _
 |n+1,h=>by
  rcases Nat.lt_or_ge m (n+1) with z|z
  . have c:=Xv v (m:=m) (n:=n) (by omega);rw [Tab.cg]
    split
    . exact c
    . rw [de];omega
  . have:m=n+1:=by omega
    subst this;exact aS _
def K3 (a:List Int):(jA a).Nodup:=Zl _ _
def mq {d:List Int} {a:Int}:a∈jA d↔a∈d:=by
 unfold jA;rw [K1]
 constructor
 . rintro ⟨j,c,rfl⟩;rw [List.getD_eq_getElem?_getD,cZ c];exact mu c
 . intro h;obtain ⟨j,c⟩:=oE.mp h;obtain ⟨e,g⟩:=c7.mp c;exact ⟨j,e,by rw [List.getD_eq_getElem?_getD,c];rfl⟩
def B2 (w:World) (o:Obj) (c:List Int):Prop:=o.ExactSet/\ ∃(a:Array (Int×Value)) (e:Nat) (t:gJ) (m:Nat) (d:List (Int×Tok)) (L:Bool),o.data= .set a e t/\Tab.Tb L m t a/\Tab.Sz m a.size/\L=(!w.params.followText "set-order")/\
 a.toList=d.map Tab.lO/\(d.map (·.1)).Perm c/\c.Nodup
theorem Vk: ∀a:List (Int×Tok),oQ (a.map λp=>m7 p.1 p.2) (a.map (·.1))
 | []=> .nil
 |p::r=> .cons _ _ (Vk r)
section
variable {X:Cx}
def uM (E:X.bz=true):bi X (.type "set") (λw H Q=> ∃p a,w=[.ref p]/\c9 X.K H p (a.map V.int)/\(jA a).length<64/\ ∀l o,H l=none->B2 X.w o (jA a)->Q (.ref l) (ay H l (.br o (.ag l)))):=by
 rintro x s σ H w us Q I r ⟨p,a,J,N,O,q⟩;subst J;obtain ⟨u,rfl,U⟩:=x3 r;cases U;obtain ⟨d,y,Y,_⟩:=I.list N;have c:d.toArray.size=a.length:=by rw [cn,<-y.length,bN]
 refine Tab.mZ (val:=λi=>a.getD i 0) (I.ok.hd E) Y.isList (λi v h=>(Y5 y).2 i v (by simpa using h)) (λi hi=>?_) λh' tk z g=>?_
 . have h1:=Xv (λi=>a.getD i 0) (m:=i) (n:=a.length) (by omega);have:(jA a).length<64:=O;unfold jA at this;omega
 have hl:=I.aM.fresh (aS _);rw [c] at z;obtain ⟨o,es,ep,t,m,kp,L,B,hex,hd,T,S,he,pm,nd,ld⟩:=z;exact ⟨.ref s.heap.objs.size,_,I.laid (λb o e=>g b o (bw e) e) (aS _) (show aW X.prog X.w _ h' _ (.br o (.ag _)) from ⟨B,o,B⟩),rfl,q _ o hl ⟨hex,es,ep,t,m,kp,L,hd,T,S,ld,he,pm,nd⟩⟩
def XD (O:X.bz=true):bi X (.builtin "sorted") (λz H Q=> ∃a b o g,z=[.ref a]/\H a=some (.br o (.ag b))/\B2 X.w o g/\g.length<64/\ ∀l,H l=none->Q (.ref l) (ay H l (.ah ((wF g).map .int)))):=by
 rintro i s B H z us Q I r ⟨a,b,o,g,U,Y,⟨hex,es,ep,t,m,kp,L,hd,T,S,ld,hv,pm,nd⟩,SK,q⟩;subst U;obtain ⟨u,rfl,ru⟩:=x3 r;cases ru;obtain ⟨ho,_⟩:=(show aW X.prog X.w H s.heap a (.br o (.ag b)) from I.aM a _ Y)
 refine Calls.call_function_entry kind_sorted plain_sorted entry_sorted (args_sorted1 _) ?_;unfold fS.«sorted»;refine ak (aC (ak (Tab.i7 (show X.A.in1.handled=none from I.ok.hd O) ⟨o,ho,hex,hd⟩ T S ld λv tk d os w E=>?_)));rw [hv] at E;obtain ⟨n,e1,e2⟩:=Tab.i6 E kp rfl;have e3:os.map (·.2)=n.map λp=>m7 p.1 p.2:=by rw [e1,iI];rfl
 rw [e3];have J:(n.map (·.1)).Perm g:=(e2.map _).trans pm;have hlq:n.length=g.length:=by have:=J.length_eq;rwa [bN] at this
 refine Ji (t:={s with heap:=v,toks:=tk,drawn:=d}) (Vk n) (by rw [bN];omega) λx y h2 c a1 a2 a3 k e=>?_
 have en:y=wF g:=xF a3 (yq g) (a2.trans (J.trans (zh g).symm));subst en;have h:aw X i B H {s with heap:=v,toks:=tk}:=I.kept w;have N:aw X i B H {s with heap:=v,toks:=tk,drawn:=d}:=⟨h.ok,h.os,h.bare,h.ae,h.loc,h.cell,h.free,h.cm,h.pin,h.aM,h.len⟩
 exact ⟨.ref _,_,N.laid k (aS _) (show aW X.prog X.w _ h2 _ (.ah ((wF g).map V.int)) from ⟨by rw [bN,(zh g).length_eq,iB];omega,x.toList,c,Qd a1,by rw [Bm];exact e⟩),rfl,q _ (N.aM.fresh (aS _))⟩
def Vu {a d:D} (h:UD a= .ok d): ∃ds c,a= .ah ds/\Wc ds=some c/\(jA c).length<64/\d= .ah ((wF (jA c)).map .int):=by
 unfold UD at h
 split at h
 . rename_i ds
   split at h
   . rename_i c e;obtain ⟨g,i⟩:=jl h;cases i;exact ⟨ds,c,rfl,e,g,rfl⟩
   . cases h
 . cases h
variable {g:Lv} {e1:Expr} {x:T5} {B p3 y q3:Pos}
def uy (I:X.bz=true) (O:DE X g e1 x) (n:Gl X "sorted") (r:X.mg "sorted" =none) (u:Gl X "set") (v:X.mg "set" =none)
   (c:bj [.Call (.Name "set" B) [e1] [] y] X.env=(false,eval (.Call (.Name "set" B) [e1] [] y) X.env)::bj [] X.env:=by exact jm rfl)
   (e:bj [e1] X.env=(false,eval e1 X.env)::bj [] X.env:=by exact jm rfl):
   DE X .t (.Call (.Name "sorted" p3) [.Call (.Name "set" B) [e1] [] y] [] q3) (ZE x):=by
 nomatch (
  PE.imp (yx (XD I) n r rfl (qc (JU (uM I) u v rfl (qc O zC e) (by decide) (by decide) e rfl) zC c) (by decide) (by decide) c rfl) λσ H Q=>by
   rintro ⟨G,U,w,d,k,E,q⟩;obtain ⟨a,Y,E⟩:=ja E;obtain ⟨ds,J,rfl,e1,e2,rfl⟩:=Vu E;refine ⟨G,U,w,_,k,Y,λx1 H1 L r1 _=>?_⟩;obtain ⟨p,xs,rfl,hp,_,rs⟩:=(r1.aG Lv.bv).cP;have ex:=Xr e1 rs;subst ex;refine ⟨p,J,rfl,.inl (.inl hp),e2,λl o N hO=>?_⟩;refine ⟨l,l,o,_,rfl,jk,hO,e2,λm h=>?_⟩;have sm:ap H (ay (ay H1 l (.br o (.ag l))) m (.ah ((wF (jA J)).map .int))):=(L.trans (ap.ay N)).trans (ap.ay h)
   have i:H m=none:=by
    cases z:H m with
    |none=>rfl
    |some o2=>
     have:=(L.trans (ap.ay (o:= .br o (.ag l)) N)) _ _ z;rw [h] at this;cases this
   exact q _ _ sm (.ah jk (k.new m i) (Qb _)) (qi (ap.refl H) i))
end
def SM (K:aA) (a:Addr) (c:List V):It:=⟨λi H=>c9 K H a c/\i<c.length,λi H v d=>d=H/\c[c.length-1-i]?=some v,λi H=>c9 K H a c/\c.length<=i⟩
def SN {P:bn} {w:World} {K:aA} {tg:Expr} (a l:Addr) (g:List V):Turn P w K tg (SM K a g) [l] l (λi h=>i<=g.length/\h.IsRevIter l a ((g.length:Int)-1-(i:Int))) where
 mem:=by simp
 obj:=λi h st b n=>by
  have e:b=l:=by simpa using n
  subst e;obtain ⟨_,o,e,c,d⟩:=st;exact ⟨o,e,λv z=>by rw [d] at z;cases z⟩
 keep:=λi h y st k=>⟨st.1,st.2.at λo e=>k l (by simp) o e⟩
 item:=by
  intro X J hw L hc i m s σ H E I B st N;subst J hw L;obtain ⟨hq,hi⟩:=N;obtain ⟨mM,rv,p,hz⟩:=I.list hq;have O:=cZ (show g.length-1-i<g.length by omega);obtain ⟨u,hu,ru⟩:=rv.get O;obtain ⟨Q,U,f2,Y,f4,f5⟩:=B l (by simp)
  have q:s.heap.IsRevIter l a ((g.length-1-i:Nat):Int):=by
   have:((g.length-1-i:Nat):Int)=(g.length:Int)-1-(i:Int):=by omega
   rw [this];exact st.2
  refine wpAny_pyNext_rev_item q p.isList (x:=u) (by simpa using hu) λy r sb=>?_
  have I1:aw X m σ H {s with heap:=y}:=I.turned (t':=s.toks) (λb o n e=>(sb.2 b n).trans e) Q U Y f4 f5;obtain ⟨o,e,c,d⟩:=id r;refine ⟨u,rfl,YA (s:={s with heap:=y}) e c d (by decide) ⟨_,H,I1,ru,⟨rfl,O⟩,⟨by omega,?_⟩,λb n=>(B b n).1⟩⟩;have:(g.length:Int)-1-((i+1:Nat):Int)=((g.length-1-i:Nat):Int)-1:=by omega
  rw [this];exact r
 done:=by
  intro X J hw L hc i m s σ H E I B st N;subst J hw L;obtain ⟨hq,O⟩:=N;obtain ⟨Q,U,f2,Y,f4,f5⟩:=B l (by simp)
  have q:s.heap.IsRevIter l a (-1):=by
   have:(g.length:Int)-1-(i:Int)= -1:=by have:=st.1;omega
   rw [<-this];exact st.2
  exact wpAny_pyNext_rev_end (I.ok.hd hc) q λy eb=>⟨rfl,I.turned (t':=s.toks) (λb o n e=>eb b o n e) Q U Y f4 f5⟩
 self:=λ_ _ _ _ _ st h=>wpAny_pyIter_revIter st.2 h
section
variable {X:Cx} {tg:Expr} {p c:Pos} {e:Expr} {f:T5}
def oy (f:T5):Sl->aq (List D):=λa=>f a>>=λd=>match d with
 | .ah g=> .ok g.reverse
 |_=> .aj
def SO (hg:Gl X "reversed") (hm:X.mg "reversed" =none) (h:DE X .s e f) (hs:bj [e] X.env=[(false,eval e X.env)]:=by rfl):DI X tg (.Call (.Name "reversed" p) [e] [] c) (oy f):=by
 have hE:PE X e (tE X.K .s f):=by nomatch h
 nomatch (show PI X tg (.Call (.Name "reversed" p) [e] [] c) (tI X.K (oy f)) from by
  rintro m s E H R I ⟨G,L,g,ds,k,N,q⟩;obtain ⟨d,e1,e2⟩:=ja N
  have hA:PA X [e] (tA X.K .s λg=>f g>>=λd=> .ok [d]):=by
   have:=qc hE zC hs;rintro ps m s E H Q I ⟨G,L,g,ds,k,N,q⟩;obtain ⟨d,c1,c2⟩:=ja N;cases c2;exact this ps m s E H Q I ⟨G,L,g,d,k,c1,λv w l z _=>q [v] w l (.cons z .nil)⟩
  refine Call_ (yD I hg hm OY (sq (a9 (hA c m s E H (λO w=> ∃v,O=[v]/\ap H w/\aD X.K (Sf G g E) w v d) I ⟨G,L,g,[d],k,by show (f g>>=_)=_;rw [e1];rfl,λO w l z=>by obtain ⟨v,rfl,r⟩:=z.one;exact ⟨v,rfl,l,r⟩⟩) λus l ⟨O,w,J,z,v,ev,sm,rep⟩=>?_) hs rfl));subst ev;obtain ⟨u,rfl,ru⟩:=x3 z;have k1:=k.ao sm
  cases d with
  |ah es=>
   cases e2;obtain ⟨a,U,rfl,Y,na,rs⟩:=rep.cP;obtain rfl:u=cX a:=ru;obtain ⟨n,rv,pl,hz⟩:=J.list (.of Y);have hlen:=rv.length;refine call_reversed_list pl.isList ?_;have B:(l.heap.push (revObj a ((n.toArray.size:Int)-1))).IsRevIter l.heap.objs.size a ((n.toArray.size:Int)-1):=⟨_,b0 _ rfl,rfl,rfl⟩
   refine wpAny_pyIter_revIter B ?_;have I2:=J.kept (t':=l.toks) (h':=l.heap.push (revObj a ((n.toArray.size:Int)-1))) λb o e=>bu _ e
   refine ⟨l.heap.objs.size,[l.heap.objs.size],_,_,w,rfl,I2,SN a l.heap.objs.size U,⟨dR _,?_⟩,λb hb=>?_,?_⟩
   . have:(U.length:Int)-1-((0:Nat):Int)=(n.toArray.size:Int)-1:=by rw [cn];omega
     rw [this];exact B
   . have e:b=l.heap.objs.size:=by simpa using hb
     subst e;exact J.dW (aS _) (J.aM.fresh (aS _))
   . refine q _ w (λH=>H a=some (.ah U)) sm (λi H' pp=>?_) Y λenv' ic H' fr=>fr.keep a _ Y na.1
     have hl:=rs.length;rw [Gp];refine ⟨λhi=>⟨.of pp,by omega⟩,λd hd x H2 y=>?_,λhi=>⟨.of pp,by omega⟩⟩;obtain ⟨rfl,hx⟩:=y
     have hi:i<es.length:=by
      have:=(c7.mp hd).1
      rwa [Gp] at this
     obtain ⟨d',Bu,rd⟩:=rs.low.get' hx;rw [List.getElem?_reverse hi,<-hl,Bu] at hd;cases hd;exact .inl ⟨rfl,rd⟩
  |_=>cases e2)
end
abbrev zO (x:Value) (f:Bool) (TI TO:Addr):Obj:={cls:= .type "zip",data:= .fields #[x,.bool f,.bool false,.ref TI,.ref TO]}
section
variable {prog:bn} {w:World} {A:bp} {E:UO} {s:az} {z TI TO I u r q:Addr} {m n:Nat} {l i:Array Value}
structure qf (h:Heap) (z TI TO I u r q:Addr) (m n:Nat) (t:Addr) (f:Bool):Prop where
 hz:h.get? z=some (zO (dF t) f TI TO)
 al: ∃o,h.get? t=some o
 tz:t≠z
 ti:mV h TI (.ref I) (.ref u)
 h1:h.IsTupleIter I r m
 h2:h.IsTupleIter u q n
def Y3 {Q:Bool->az->Prop} {t:Addr} {f:Bool} {o:Obj} (a:s.heap.get? z=some (zO (dF t) f TI TO)) (e:s.heap.get? t=some o) (d: ∀c,c.get? z=some (zO (dF t) true TI TO)->kx z s.heap c->Q false {s with heap:=c}):wpAny (model prog w) A (rN (.ref z)) Q E s:=by
 unfold rN;refine ak (gx a rfl rfl ?_);show wpAny _ _ (loadIfAlive ((t:Int).toNat)>>=_) _ _ _;rw [nN];refine ak (PySem.W.kdx_alive e ?_);simp only [Option.isNone_some,fT,if_false];refine ak (gx a rfl (x:= .bool f) rfl ?_)
 cases f with
 |true=>
  rw [if_neg (show¬((m8 true !=m8 true)=true) from fq)];exact aC (d s.heap a (Heap.SameBut.refl _ _))
 |false=>
  rw [if_pos (show (m8 false !=m8 true)=true from rfl)];refine ak (tM a (by simp) λg h p=>?_);exact aC (d g h p)
def Uo {Q:UO} {t:Addr} {f:Bool} (D:pS z TI TO I u r q) (Z:qf s.heap z TI TO I u r q m n t f) (L:s.heap.IsTuple r l) (N:s.heap.IsTuple q i) (hx:l[m]?=some x) (hy:i[n]?=some y) (n1:t≠I) (n2:t≠u)
  (hQ: ∀p,qf p z TI TO I u r q (m+1) (n+1) t true->mV p s.heap.objs.size x y->p.objs.size=s.heap.objs.size+1->
   (∀c o,c≠z->c≠I->c≠u->s.heap.get? c=some o->p.get? c=some o)->Q (.ref s.heap.objs.size) {s with heap:=p}):
  wpAny (model prog w) A (fS.«zip.__next__» ⟨[.ref z],[]⟩) (λO s'=> ∃v,O= .done (.ret v)/\Q v s') E s:=by
 obtain ⟨U,⟨ot,ht⟩,tz,B,h1,h2⟩:=Z;refine (show wpAny _ _ (field (.ref z) 2>>=_) _ _ _ from ak (gx U rfl (x:= .bool false) rfl (show wpAny _ _ (field (.ref z) 3>>=_) _ _ _ from ak (gx U rfl (x:= .ref TI) rfl (ak (lh B rfl (show wpAny _ _ (rN (.ref z)>>=_) _ _ _ from ak (Y3 U ht λg1 z1 g=>?_))))))));simp only [fT,if_false];rw [<-Ck];simp only [Dk,Dl];refine ak (ak (ak (gl ?_)));refine (show wpAny _ _ (mU (.ref I)>>=_) _ _ _ from ak (wM (h1.extBut g.extBut D.i1z) (L.extBut g.extBut D.l1z) hx λg2 q1 H=>aC ?_));refine aC (ak (ak (gl ?_)));refine (show wpAny _ _ (mU (.ref u)>>=_) _ _ _ from ak (wM ((h2.extBut g.extBut D.i2z).extBut H.extBut D.i12.symm) ((N.extBut g.extBut D.l2z).extBut H.extBut D.l2i1) hy λa q2 J=>aC ?_));refine aC (aC ?_);refine ak (wpAny_newTuple (aC ⟨_,rfl,?_⟩) (by show 2<=aH;rw [iB];decide));have d:a.objs.size=s.heap.objs.size:=by rw [J.1,H.1,g.1]
 have Y: ∀c o,c≠z->c≠I->c≠u->s.heap.get? c=some o->a.get? c=some o:=λc o c1 c3 c4 e=>J.extBut _ _ c4 (H.extBut _ _ c3 (g.extBut _ _ c1 e))
 have z4:a.get? z=some (zO (dF t) true TI TO):=J.extBut _ _ D.i2z.symm (H.extBut _ _ D.i1z.symm z1);have FH:=q1.extBut J.extBut D.i12;have h: ∀c o,a.get? c=some o->(a.push {cls:= .type "tuple",data:= .seq #[x,y]}).get? c=some o:=λc o e=>bu _ e
 have t8:mV (a.push {cls:= .type "tuple",data:= .seq #[x,y]}) a.objs.size x y:=b0 _ rfl;rw [d] at t8;show Q (.ref a.objs.size) _;rw [d];exact hQ _ ⟨h _ _ z4,⟨ot,h _ _ (Y _ _ tz n1 n2 ht)⟩,tz,h _ _ (Y _ _ D.TIz D.TIi1 D.TIi2 B),FH.at λo e=>h _ o e,q2.at λo e=>h _ o e⟩ t8 (by rw [iQ,d]) λc o c1 c3 c4 e=>h c o (Y c o c1 c3 c4 e)
def SQ {t:Addr} {f:Bool} (O:A.handled=none) (D:pS z TI TO I u r q) (Z:qf s.heap z TI TO I u r q m n t f) (d:s.heap.IsTuple r l) (p:s.heap.IsTuple q i) (g:l[m]?=none\/i[n]?=none)
  (U: ∀v e,(∀c o,c≠z->c≠I->c≠u->s.heap.get? c=some o->v.get? c=some o)->(∃o,v.get? e=some o/\o.cls= .type "StopIteration")->E (.ref e) {s with heap:=v}):
  wpAny (model prog w) A (fS.«zip.__next__» ⟨[.ref z],[]⟩) Q E s:=by
 obtain ⟨y,⟨ot,ht⟩,tz,B,Y,h2⟩:=Z;refine (show wpAny _ _ (field (.ref z) 2>>=_) _ _ _ from ak (gx y rfl (x:= .bool false) rfl (show wpAny _ _ (field (.ref z) 3>>=_) _ _ _ from ak (gx y rfl (x:= .ref TI) rfl (ak (lh B rfl (show wpAny _ _ (rN (.ref z)>>=_) _ _ _ from ak (Y3 y ht λg1 z1 a=>?_))))))));simp only [fT,if_false];rw [<-Ck];simp only [Dk,Dl];refine ak (ak (ak (gl ?_)))
 cases H:l[m]? with
 |none=>
  refine (show wpAny _ _ (mU (.ref I)>>=_) _ _ _ from ak (y6 O (Y.extBut a.extBut D.i1z) (d.extBut a.extBut D.l1z) H λg2 e h J=>U g2 e (λc o L N _ x=>h _ _ N (a.extBut _ _ L x)) J))
 |some x=>
  have hy:i[n]?=none:=g.resolve_left (by rw [H];simp);refine (show wpAny _ _ (mU (.ref I)>>=_) _ _ _ from ak (wM (Y.extBut a.extBut D.i1z) (d.extBut a.extBut D.l1z) H λg2 q1 h=>aC ?_));refine aC (ak (ak (gl ?_)));exact (show wpAny _ _ (mU (.ref u)>>=_) _ _ _ from ak (y6 O ((h2.extBut a.extBut D.i2z).extBut h.extBut D.i12.symm) ((p.extBut a.extBut D.l2z).extBut h.extBut D.l2i1) hy λg4 e s4 J=>U g4 e (λc o L N c4 x=>s4 _ _ c4 (h.extBut _ _ N (a.extBut _ _ L x))) J))
end
abbrev B3 (r:Value×Value):Obj:={cls:= .type "tuple",data:= .seq #[r.1,r.2]}
section
variable {prog:bn} {w:World} {A:bp} {E:UO} {s:az} {R:Result->az->Prop} {z TI TO U Y O N S:Addr} {k:Nat} {J H:Array Value} {L:List (Value×Value)}
def ZS (h:Heap) (z TI TO U Y O N S:Addr) (k:Nat):Prop:=fA h z TI TO U Y O N k k .none\/ ∃t f,qf h z TI TO U Y O N k k t f/\t≠U/\t≠Y/\t≠S
def ZS.keep (x:ZS h z TI TO U Y O N S k) (n: ∀b∈[z,TI,TO,U,Y],b≠S) (q: ∀b o,b≠S->h.get? b=some o->r.get? b=some o):ZS r z TI TO U Y O N S k:=by
 have i:=n z (by simp);have n1:=n TI (by simp);have n2:=n TO (by simp);have l:=n U (by simp);have m:=n Y (by simp);rcases x with ⟨a,b,⟨x,y,c⟩,d,e⟩| ⟨t,f,⟨a,⟨o,b⟩,c,d,e,g⟩,h1,h2,p⟩
 . exact .inl ⟨q _ _ i a,q _ _ n1 b,⟨x,y,q _ _ n2 c⟩,d.at λo e=>q _ o l e,e.at λo e=>q _ o m e⟩
 . exact .inr ⟨t,f,⟨q _ _ i a,⟨o,q _ _ p b⟩,c,q _ _ n1 d,e.at λo e=>q _ o l e,g.at λo e=>q _ o m e⟩,h1,h2,p⟩
def ZS.ty (x:ZS s.heap z TI TO U Y O N S k):s.TypeIs (.ref z) "zip" :=by
 rcases x with x| ⟨t,f,x,_⟩
 . exact ⟨_,x.hz,rfl⟩
 . exact ⟨_,x.hz,rfl⟩
def SR {x y:Value} {Q:Option Value->az->Prop} (D:pS z TI TO U Y O N) (Z:ZS s.heap z TI TO U Y O N S k) (v:S<s.heap.objs.size) (g:s.heap.IsTuple O J) (h:s.heap.IsTuple N H) (m:J[k]?=some x) (n:H[k]?=some y)
   (p: ∀a,ZS a z TI TO U Y O N S (k+1)->mV a s.heap.objs.size x y->(∀c o,c≠z->c≠TO->c≠U->c≠Y->s.heap.get? c=some o->a.get? c=some o)->Q (some (.ref s.heap.objs.size)) {s with heap:=a}):wpAny (model prog w) A (hJ (.ref z)) Q E s:=by
 have q:=Z.ty;unfold hJ;refine ak (rG (lX (name:=Au "__next__") q D2 (hH D2 q F.entry_zip_next ?_ (F.args_zip_next_1 _))));rcases Z with Z| ⟨t,f,Z,r,u,B⟩
 . have lt: ∀ {c o},s.heap.get? c=some o->s.heap.objs.size≠c:=λe=>iM (bw e)
   refine Um D Z g h m n λa d i l=>aC (p a (.inr ⟨s.heap.objs.size,false,⟨d.hz,⟨_,i⟩,lt Z.hz,d.ti,d.h1,d.h2⟩,?_,?_,iM v⟩) i l)
   . obtain ⟨o,e,_⟩:=Z.h1;exact lt e
   . obtain ⟨o,e,_⟩:=Z.h2;exact lt e
 . exact Uo D Z g h m n r u λa d i _ l=>aC (p a (.inr ⟨t,true,d,r,u,B⟩) i λc o I _ c3 c4 e=>l c o I c3 c4 e)
def SS {Q:Option Value->az->Prop} (n:A.handled=none) (D:pS z TI TO U Y O N) (Z:ZS s.heap z TI TO U Y O N S k) (d:s.heap.IsTuple O J) (g:s.heap.IsTuple N H) (a:J[k]?=none\/H[k]?=none)
   (p: ∀h,(∀c o,c≠z->c≠TO->c≠U->c≠Y->s.heap.get? c=some o->h.get? c=some o)->Q none {s with heap:=h}):wpAny (model prog w) A (hJ (.ref z)) Q E s:=by
 have q:=Z.ty;unfold hJ;refine ak (rG (lX (name:=Au "__next__") q D2 (hH D2 q F.entry_zip_next ?_ (F.args_zip_next_1 _))));rcases Z with Z| ⟨t,f,Z,y,B,I⟩
 . exact Ps n D Z d g a λh e i ⟨o,l,m⟩=>ak (rX (T:= "StopIteration") (b:=true) ⟨o,l,m⟩ Bq (aC (p _ i)))
 . exact SQ n D Z d g a λh e i ⟨o,l,m⟩=>ak (rX (T:= "StopIteration") (b:=true) ⟨o,l,m⟩ Bq (aC (p _ λc o r _ u v x=>i c o r u v x)))
def F2.qs {d e:Type} {R S:d->e->Prop} {c:List d} {bs:List e} (f:F2 R c bs):(∀a b,a∈c->R a b->S a b)->F2 S c bs:=by
 induction f with
 |nil=>exact λ_=> .nil
 |cons h _ g=>exact λk=> .cons (k _ _ (.head _) h) (g λa b m=>k a b (.tail _ m))
def F2.mem {c d:Type} {R:c->d->Prop} {g:List c} {bs:List d} (f:F2 R g bs) {a:c}:a∈g-> ∃b,R a b:=by
 induction f with
 |nil=>exact λm=>nomatch m
 |cons h _ i=>exact λm=>(bH.mp m).elim (λe=>⟨_,e▸h⟩) i
def F2.snoc {c d:Type} {R:c->d->Prop} {e:List c} {bs:List d} {a:c} {b:d} (f:F2 R e bs) (h:R a b):F2 R (e++[a]) (bs++[b]):=by
 induction f with
 |nil=>exact .cons h .nil
 |cons z _ g=>exact .cons z g
structure mr (h:Heap) (I:Addr) (as:List Addr) (L:List (Value×Value)):Prop where
 rise:as.Pairwise (· < ·)
 above: ∀a∈as,I<a/\a<h.objs.size
 here:F2 (λa r=>h.get? a=some (B3 r)) as L
def Pz (J H:Array Value) (L:List (Value×Value)):Prop:= ∀i,(∀r,L[i]?=some r->J[i]?=some r.1/\H[i]?=some r.2)/\(L.length<=i->J[i]?=none\/H[i]?=none)
def SU {I:Addr} (hh:A.handled=none) (D:pS z TI TO U Y O N) (SV:S<=I) (p: ∀b∈[z,TI,TO,U,Y],b<=I/\b≠S) (y:O≠S/\N≠S) (hP:Pz J H L) (hn:L.length<=aH) {h1:Heap}
  (hR: ∀g d c r,(∀b o,b≠S->b≠z->b≠TO->b≠U->b≠Y->h1.get? b=some o->g.get? b=some o)->g.get? S=some {cls:= .type "list",dict:=none,data:= .seq d c,slots:= #[]}->mr g I r L->d.toList=r.map cX->R (.ok (.ret .none)) {s with heap:=g}):
  ∀(k i:Nat) (h:Heap) (c:Nat) (d:Array Value) (r:List Addr),L.length-i=k->i<=L.length->ZS h z TI TO U Y O N S i->h.IsTuple O J->h.IsTuple N H->(∀b o,b≠S->b≠z->b≠TO->b≠U->b≠Y->h1.get? b=some o->h.get? b=some o)->
    h.get? S=some {cls:= .type "list",dict:=none,data:= .seq d c,slots:= #[]}->d.toList=r.map cX->mr h I r (L.take i)->I<h.objs.size->
    k4 (model prog w) A (.builtin "list.extend.loop" ⟨[.ref S,.ref z,.none],[]⟩) R {s with heap:=h}:=by
 have B: ∀b∈[z,TI,TO,U,Y],b≠S:=λb m=>(p b m).2
 have big: ∀a,I<a->a≠z/\a≠TO/\a≠U/\a≠Y:=λa ha=>by
  have e0:=(p z (by simp)).1;have e2:=(p TO (by simp)).1;have e3:=(p U (by simp)).1;have e4:=(p Y (by simp)).1;exact ⟨iM (rT e0 ha),iM (rT e2 ha),iM (rT e3 ha),iM (rT e4 ha)⟩
 have n0:=B z (by simp);have n2:=B TO (by simp);have n3:=B U (by simp);have n4:=B Y (by simp);intro k
 induction k with
 |zero=>
  intro i h c d r hk hi st ha v keep hS n l hI;refine oX PySem.F.entry_extend_loop ?_;rw [pX t7 _];refine ak (SS hh D st ha v ((hP i).2 (by omega)) λg he=>?_);rw [BH (by omega)] at l;have u: ∀a,I<a-> ∀o,h.get? a=some o->g.get? a=some o:=λa hi o e=>let ⟨b1,b2,b3,b4⟩:=big a hi;he a o b1 b2 b3 b4 e
  exact aC (hR g d c r (λb o g1 g2 Q g4 g5 e=>he b o g2 Q g4 g5 (keep b o g1 g2 Q g4 g5 e)) (he S _ n0.symm n2.symm n3.symm n4.symm hS) ⟨l.rise,λa m=>⟨(l.above a m).1,let ⟨_,e⟩:=l.here.mem m;bw (u a (l.above a m).1 _ e)⟩,l.here.qs λa b m e=>u a (l.above a m).1 _ e⟩ n)
 |succ k ih=>
  intro i h c d r hk hi st ha v keep hS n l hI;have bt:i<L.length:=by omega
  have oe:r.length=i:=by rw [l.here.length,mH];omega
  have nF:d.size=i:=by rw [<-eq,n,bN,oe]
  have La:S<h.objs.size:=bw hS;obtain ⟨hx,hy⟩:=(hP i).1 _ (cZ bt);refine oX PySem.F.entry_extend_loop ?_;rw [pX t7 _];refine ak (SR D st La ha v hx hy λg FE ht u=>?_);dsimp only at ht u ⊢;have oY:=u S _ n0.symm n2.symm n3.symm n4.symm hS;have q:h.objs.size<g.objs.size:=bw ht;have x: ∀b o,b≠S->g.get? b=some o->(g.update S (nj (·.push (cX h.objs.size)))).get? b=some o:=λb o v e=>(pA _ _ (fH v)).trans e
  have us:(g.update S (nj (·.push (cX h.objs.size)))).objs.size=g.objs.size:=D3 ..;have SW: ∀o,h.get? O=some o->g.get? O=some o:=λo e=>u O o D.l1z D.l1TO D.l1i1 D.l1i2 e
  have SX: ∀o,h.get? N=some o->g.get? N=some o:=λo e=>u N o D.l2z D.l2TO D.l2i1 D.l2i2 e
  refine ak (sT oY rfl (aC ⟨oZ t7 _,ih (i+1) _ _ (d.push (cX h.objs.size)) (r++[h.objs.size]) (by omega) bt (FE.keep B x) (xo ha λo e=>x O o y.1 (SW o e)) (xo v λo e=>x N o y.2 (SX o e))
    (λb o g1 g2 Q g4 g5 e=>x b o g1 (u b o g2 Q g4 g5 (keep b o g1 g2 Q g4 g5 e))) (li _ oY rfl) (by rw [Dr,n,iH];rfl) ⟨?_,?_,?_⟩ (by rw [us];exact pF hI q)⟩) (by rw [nF];omega) (by show (d.push (cX h.objs.size)).size<=aH+1;rw [Array.size_push,nF];omega))
  . exact F7.mpr ⟨l.rise,List.pairwise_singleton _ _,λa ha b v=>by rw [f7.mp v];exact (l.above a ha).2⟩
  . intro a ha;rcases cW.mp ha with ha|ha
    . exact ⟨(l.above a ha).1,by rw [us];exact pF (l.above a ha).2 q⟩
    . rw [f7.mp ha];exact ⟨hI,by rw [us];exact q⟩
  . rw [<-List.take_append_getElem bt];refine F2.snoc (l.here.qs λa b m e=>?_) (x _ _ (iM La) ht);have z:=l.above a m;have:=big a z.1;exact x a _ (iM (rT SV z.1)) (u a _ this.1 this.2.1 this.2.2.1 this.2.2.2 e)
def Uk:typeLookup (.type "zip") "__len__" =pure none:=by rw [BD,BE];kernel_rfl
def SY:typeLookup (.type "zip") "__length_hint__" =pure none:=by rw [BD,BE];kernel_rfl
def S0 {Q:Bool->az->Prop} (a:s.TypeIs (.ref z) "zip") (h:Q true s):wpAny (model prog w) A (DN (.ref z)) Q E s:=by
 unfold DN;refine ak (Ao a Uk ?_);refine ak (Ao a SY ?_);exact aC h
def S1 {I:Addr} (hh:A.handled=none) (D:pS z TI TO U Y O N) (v:S<=I) (i: ∀b∈[z,TI,TO,U,Y],b<=I/\b≠S) (d:O≠S/\N≠S) (hP:Pz J H L) (hn:L.length<=aH) (hI:I<s.heap.objs.size)
  (Z:fA s.heap z TI TO U Y O N 0 0 .none) (x:s.heap.IsTuple O J) (p:s.heap.IsTuple N H) (c0:Nat) (y:s.heap.get? S=some {cls:= .type "list",data:= .seq #[] c0})
  (hR: ∀g a c q,(∀b o,b≠S->b≠z->b≠TO->b≠U->b≠Y->s.heap.get? b=some o->g.get? b=some o)->g.get? S=some {cls:= .type "list",dict:=none,data:= .seq a c,slots:= #[]}->mr g I q L->a.toList=q.map cX->R (.ok (.ret .none)) {s with heap:=g}):
  wpAny (model prog w) A.in1 (DQ (.ref S) (.ref z) .none)
   (λB r=>match B with| .done f=>R (.ok f) r| .again c'=>c'.quiet=true/\k4 (model prog w) A c' R r) (λe r=>R (.error e) r) s:=by
 have nS: ∀b∈[z,TI,TO,U,Y],b≠S:=λb m=>(i b m).2
 have key: ∀(h:Heap) (Q:Nat),(∀b o,b≠S->s.heap.get? b=some o->h.get? b=some o)->h.objs.size=s.heap.objs.size->h.get? S=some {cls:= .type "list",data:= .seq #[] Q}->
   k4 (model prog w) A (.builtin "list.extend.loop" ⟨[.ref S,.ref z,.none],[]⟩) R {s with heap:=h}:=λh Q u hz Gf=>
  SU hh D v i d hP hn (λg a c q BF oY hG l=>hR g a c q (λb o g1 g2 g3 g4 g5 e=>BF b o g1 g2 g3 g4 g5 (u b o g1 e)) oY hG l)
   L.length 0 h Q #[] [] (Nat.sub_zero _) (dR _) ((ZS.keep (.inl Z) nS u)) (xo x λo e=>u _ o d.1 e) (xo p λo e=>u _ o d.2 e) (λb o _ _ _ _ _ e=>e) Gf rfl ⟨Fh,(λ_ x=>nomatch x),.nil⟩ (by rw [hz];exact hI)
 have hT:s.TypeIs (.ref z) "zip" :=⟨_,Z.hz,rfl⟩
 unfold DQ;refine ak (rl hT ?_);have q1:DR (.ref S) (.ref z)=false:=by simp [DR,(nS z (by simp)).symm]
 have q2:(my "zip" ==my "list")=false:=by decide
 have q3:(my "zip" ==my "tuple")=false:=by decide
 simp only [q1,q2,q3,Bool.or_false,fT,if_false];refine ak (wpAny_pyIter_zip Z.hz ?_);refine ak (gl (S0 hT ?_));refine DP (λ_=>?_) (λ_=>aC ⟨oZ t7 _,key s.heap c0 (λb o _ e=>e) rfl y⟩);refine ak (kw (ak ?_));refine ak (sT y rfl ?_);have n:=li (nj (·.push mx)) y rfl;refine sT n rfl ?_;refine aC ⟨oZ t7 _,key _ _ (λb o p e=>?_) (by rw [D3,D3]) (li (nj (·.pop)) n rfl)⟩;exact (pA _ _ (fH p)).trans ((pA _ _ (fH p)).trans e)
def S3 {Q:UO} (hh:A.handled=none) (D:pS z TI TO U Y O N) (bt: ∀b∈[z,TI,TO,U,Y],b<s.heap.objs.size) (hP:Pz J H L) (hn:L.length<=aH)
  (Z:fA s.heap z TI TO U Y O N 0 0 .none) (ha:s.heap.IsTuple O J) (hb:s.heap.IsTuple N H)
  (hQ: ∀i h c u,(∀b o,b≠z->b≠TO->b≠U->b≠Y->s.heap.get? b=some o->i.get? b=some o)->i.get? s.heap.objs.size=some {cls:= .type "list",dict:=none,data:= .seq h c,slots:= #[]}->mr i s.heap.objs.size u L->h.toList=u.map cX->Q (.ref s.heap.objs.size) {s with heap:=i}):
  wpAny (model prog w) A (call (.type "list") [.ref z]) Q E s:=by
 refine callType_codes (Q₁:=λl s1=>l= .ref s.heap.objs.size/\s1={s with heap:=s.heap.push {cls:= .type "list",data:= .seq #[]}}) PySem.F.called_list (PySem.F.typeCall_list_1 _) PySem.F.entry_list_init
  (code_list_new _ ⟨rfl,rfl⟩) λl s1 h1=>?_
 obtain ⟨rfl,rfl⟩:=h1;have n:(s.heap.push {cls:= .type "list",data:= .seq #[]}).get? s.heap.objs.size=some {cls:= .type "list",data:= .seq #[]}:=b0 _ rfl;refine ⟨⟨_,n,rfl⟩,PySem.F.args_list_init_2 _ _,?_⟩;have p: ∀b o,s.heap.get? b=some o->(s.heap.push {cls:= .type "list",data:= .seq #[]}).get? b=some o:=λb o e=>bu _ e
 have q:(s.heap.push {cls:= .type "list",data:= .seq #[]}).objs.size=s.heap.objs.size+1:=iQ ..;generalize s.heap.push {cls:= .type "list",data:= .seq #[]}=v at n p q;refine ak ?_;unfold Builtin.List.listItems;refine ak (lh n rfl (aC ?_));refine ak (sT n rfl ?_);have g: ∀b o,s.heap.get? b=some o->(v.update s.heap.objs.size (nj (λ_=>(#[])))).get? b=some o:=λb o e=>(pA _ _ (iM (bw e))).trans (p b o e)
 have nS: ∀b∈[z,TI,TO,U,Y],b≠s.heap.objs.size:=λb m=>cj (bt b m)
 have Z':fA (v.update s.heap.objs.size (nj (λ_=>(#[])))) z TI TO U Y O N 0 0 .none:=by
  obtain ⟨a,b,⟨x,y,c⟩,d,e⟩:=Z;exact ⟨g _ _ a,g _ _ b,⟨x,y,g _ _ c⟩,d.at λo e=>g _ o e,e.at λo e=>g _ o e⟩
 refine ak (wpAny_letGo ?_)
 refine S1 (I:=s.heap.objs.size) hh D (aS _) (λb m=>⟨sd (bt b m),nS b m⟩) ⟨cj (let ⟨o,e,_⟩:=ha;bw e),cj (let ⟨o,e,_⟩:=hb;bw e)⟩ hP hn (by show _< (v.update ..).objs.size;rw [D3,q];exact pe _)
  Z' (xo ha λo e=>g _ o e) (xo hb λo e=>g _ o e) _ (li (nj (λ_=>(#[]))) n rfl) (λi h c u hk B hG r=>?_)
 exact ⟨rfl,hQ i h c u (λb o g2 g3 g4 g5 e=>hk b o (cj (bw e)) g2 g3 g4 g5 (g b o e)) B hG r⟩
end
def ov (H N:Hp):Hp:=λb=>(N b).or (H b)
def kg {N:Hp} (e:N b=some o):ov H N b=some o:=by unfold ov;rw [e];rfl
def kf {N:Hp} (e:N b=none):ov H N b=H b:=by unfold ov;rw [e];rfl
def aw.more {X:Cx} {N:Hp} {t':Nat} (I:aw X d i H s) (k: ∀b u,s.heap.get? b=some u->g.get? b=some u) (l: ∀b o,N b=some o->s.heap.objs.size<=b) (new: ∀b o,N b=some o->aW X.prog X.w (ov H N) g b o):
  ap H (ov H N)/\aw X d i (ov H N) {s with heap:=g,toks:=t'}:=by
 have low: ∀b,b<s.heap.objs.size->N b=none:=λb m=>by
  cases e:N b with
  |none=>rfl
  |some o=>exact absurd (l b o e) (Du m)
 have a:ap H (ov H N):=λb o e=>(kf (low b (I.aM.lt e))).trans e
 exact ⟨a,I.un ⟨λb u q _ _ _=>k b u q,λb u q _ _ _=>⟨u.slots,k b u q⟩,λb u q n _=>(kf (low b (bw q))).trans n,λb u q _=>⟨u,k b u q⟩,λb h q=>a _ _ q,λb u h q=>a _ _ q,λb p q=>⟨#[],by rw [a _ _ q];simp⟩⟩ λb u e=>by
  cases q:N b with
  |some o=>
   rw [kg q] at e;cases e;exact new b _ q
  |none=>
   rw [kf q] at e
   exact (I.aM b u e).aP (λc v _ q=>k c v q) (λc q=>a _ _ q) λc h q=>a _ _ q⟩
theorem Q0: ∀(l:List Addr),aI (l.map V.ref) (l.map cX)
 | []=> .nil
 |a::l=> .cons rfl (Q0 l)
theorem kZ {P:bn} {w:World} {B:Heap}: ∀ {d:List V} {n:List Value} {p:List V} {r:List Value} {c:List Addr},aI d n->aI p r->F2 (λa q=>B.get? a=some (B3 q)) c (n.zip r)->c.Pairwise (· < ·)->
  ∃N:Hp,(∀b o,N b=some o->b∈c/\ ∀E:Hp,aW P w E B b o)/\F2 (λa q=>N a=some (.ar [q.1,q.2])) c (d.zip p)
 | [],_,_,_,c,g,h,f,_=>by
  cases FA g;rw [List.zip_nil_left] at f;cases f.eM;exact ⟨λ_=>none,(λ_ _ e=>by cases e),.nil⟩
 |u::d,_,[],_,c,g,h,f,_=>by
  cases FA h;rw [Gq] at f;cases f.eM;exact ⟨λ_=>none,(λ_ _ e=>by cases e),.nil⟩
 |u::d,_,v::p,_,c,g,h,f,J=>by
  obtain ⟨i,n,rfl,L,x⟩:=Fz g;obtain ⟨j,r,rfl,O,y⟩:=Fz h;obtain ⟨a,l,rfl,Q,U⟩:=F2.md f;obtain ⟨Y,u2⟩:=oi.mp J;obtain ⟨N,H,n2⟩:=kZ (P:=P) (w:=w) x y U u2;refine ⟨ay N a (.ar [u,v]),λb o e=>?_,.cons jk (n2.qs λb z m t=>by rw [jp (iM (Y b m))];exact t)⟩
  by_cases I:b=a
  . subst I;rw [jk] at e;cases e;exact ⟨.head _,λE=>⟨by show 2<=aH;rw [iB];decide,[i,j],.cons L (.cons O .nil),_,Q,rfl,_,rfl⟩⟩
  . rw [jp I] at e;exact ⟨.tail _ (H b o e).1,(H b o e).2⟩
def S4 (a d:List Value):Pz a.toArray d.toArray (a.zip d):=λi=>by
 constructor
 . intro r h;have:=List.getElem?_zip_eq_some.mp h;simpa using this
 . intro h;rw [D4] at h
   by_cases c:a.length<=i
   . left;simpa using c
   . right;simp;omega
section
variable {X:Cx} {e1 e2:Expr} {ta:TA} {p p2 pos v:Pos} {f1 f2:T5}
def S5 (hc:X.bz=true) (Lb:Gl X "list") (Gr:X.mg "list" =none) (Lc:Gl X "zip") (Gs:X.mg "zip" =none) (hA:PA X [e1,e2] ta)
   (s1:bj [.Call (.Name "zip" p2) [e1,e2] [] v] X.env=(false,eval (.Call (.Name "zip" p2) [e1,e2] [] v) X.env)::bj [] X.env)
   (hs:bj [e1,e2] X.env=(false,eval e1 X.env)::bj [e2] X.env) (AN:(eA v (bj [e2] X.env)).any (·.1)=false):
   PE X (.Call (.Name "list" p) [.Call (.Name "zip" p2) [e1,e2] [] v] [] pos) (λσ H Q=>ta σ H λvs x=> ∃y B E ys,vs=[.ref y,.ref B]/\x y=some (.ar E)/\x B=some (.ar ys)/\E.length<=1000/\
     ∀L r H',x L=none->ap (ay x L (.ah (r.map V.ref))) H'->F2 (λa q=>H' a=some (.ar [q.1,q.2])) r (E.zip ys)->Q (.ref L) H'):=by
 intro J s σ H Q I h;refine AM (yD I Lb Gr OZ (sq ?_ s1 (by exact jK rfl)));rw [s1];refine Calls.spliced_cons (Call_ (yD I Lc Gs uU (sq (a9 (hA v J s σ H _ I h) λus t fM=>?_) hs AN)));obtain ⟨vs,x,O,r1,y,B,E,ys,ev,h1,h2,hl,q⟩:=fM;subst ev;obtain ⟨u1,u2,rfl,S6,S7⟩:=Ut r1;cases S6;cases S7;obtain ⟨is,U,Y,_⟩:=O.tuple (.inl (.of h1));obtain ⟨js,S8,q2,_⟩:=O.tuple (.inl (.of h2));have Y:t.heap.IsTuple y is.toArray:=Y;have q2:t.heap.IsTuple B js.toArray:=q2;have S9:y<t.heap.objs.size:=by obtain ⟨o,ho,_⟩:=Y;exact bw ho
 have Ta:B<t.heap.objs.size:=by obtain ⟨o,ho,_⟩:=q2;exact bw ho
 refine uL Y q2 λi Z hk=>Calls.spliced_nil ?_
 have d:t.heap.objs.size+4<i.objs.size:=bw Z.hz;have hlen:=U.length;refine S3 (s:={t with heap:=i}) (O.ok.hd hc) (PyProof.Rows.zipApart_new S9 Ta) (λb g=>?_) (S4 is js) (by rw [D4,iB];omega) Z (xo Y λo e=>hk _ _ e) (xo q2 λo e=>hk _ _ e) λh' acc c r Ld hS hG Gu=>?_
 . simp only [bH,p5,or_false] at g;rcases g with rfl|rfl|rfl|rfl|rfl
   . exact d
   . exact pF (Gv (by decide) _) d
   . exact pF (Gv (by decide) _) d
   . exact rT (oG _ _) d
   . exact pF (Gv (by decide) _) d
 dsimp only at Ld hS hG ⊢;have l: ∀b o n,t.heap.get? b=some o->b≠t.heap.objs.size+n:=λb o n e=>cj (eV (bw e) (oG _ _))
 have DU: ∀b u,t.heap.get? b=some u->h'.get? b=some u:=λb u e=>Ld b u (l b u 4 e) (l b u 3 e) (l b u 0 e) (l b u 1 e) (hk b u e)
 obtain ⟨N,n1,n2⟩:=kZ (P:=X.prog) (w:=X.w) U S8 hG.here hG.rise;have hL:t.heap.objs.size<=i.objs.size:=sd (rT (oG _ _) d);have nL: ∀b∈r,b≠i.objs.size:=λb m=>iM (hG.above b m).1
 have oe:r.length=(E.zip ys).length:=n2.length
 obtain ⟨sm,I2⟩:=aw.more (t':=t.toks) O (N:=ay N i.objs.size (.ah (r.map V.ref))) DU (λb o e=>by
   by_cases g:b=i.objs.size
   . rw [g];exact hL
   . rw [jp g] at e
     exact bZ hL (sd (hG.above b (n1 b o e).1).1)) λb o e=>by
   by_cases g:b=i.objs.size
   . subst g;rw [jk] at e;cases e;exact ⟨by rw [bN,oe,D4,iB];omega,acc.toList,c,by rw [Gu];exact Q0 r,by rw [Bm];exact hS⟩
   . rw [jp g] at e;exact (n1 b o e).2 _
 refine ⟨.ref i.objs.size,_,I2,rfl,q _ r _ (O.aM.fresh hL) (λb o e=>?_) (n2.qs λb z m t1=>kg (by rw [jp (nL b m)];exact t1))⟩
 by_cases g:b=i.objs.size
 . subst g;rw [jk] at e;exact kg (by rw [jk];exact e)
 . rw [jp g] at e;exact sm _ _ e
theorem Y2 {K:aA} {A:UP} {g:Hp}: ∀ {h n:List V} {c:List Addr} {ds o:List D},F2 (λa q=>g a=some (.ar [q.1,q.2])) c (h.zip n)->am K A g h ds->am K A g n o->am K A g (c.map V.ref) ((ds.zip o).map λp=>D.ar [p.1,p.2])
 | [],_,c,_,_,f,i,m=>by
  rw [List.zip_nil_left] at f;cases f.eM;cases i;exact .nil
 |x::h,[],c,_,_,f,i,m=>by
  rw [Gq] at f;cases f.eM;cases m;rw [Gq];exact .nil
 |x::h,y::n,c,_,_,f,i,m=>by
  obtain ⟨d,r,rfl,u,w⟩:=am.cq i;obtain ⟨e,z,rfl,B,E⟩:=am.cq m;obtain ⟨a,l,rfl,H,f2⟩:=F2.md f;exact .cons (.ar H (.cons u (.cons B .nil))) (Y2 f2 w E)
def Tc (U:X.bz=true) (m:Gl X "list") (n:X.mg "list" =none) (o:Gl X "zip") (r:X.mg "zip" =none) (Y:DE X .s e1 f1) (h2:DE X .s e2 f2)
  (c:bj [.Call (.Name "zip" p2) [e1,e2] [] v] X.env=(false,eval (.Call (.Name "zip" p2) [e1,e2] [] v) X.env)::bj [] X.env:=by exact jm rfl)
  (J:bj [e1,e2] X.env=(false,eval e1 X.env)::bj [e2] X.env:=by exact jm rfl) (u:bj [e2] X.env=(false,eval e2 X.env)::bj [] X.env:=by exact jm rfl)
  (w:(eA v (bj [e2] X.env)).any (·.1)=false:=by exact jK rfl):
  DE X .t (.Call (.Name "list" p) [.Call (.Name "zip" p2) [e1,e2] [] v] [] pos) (VI f1 f2):=by
 have x:PE X e1 (tE X.K .s f1):=by nomatch Y
 have y:PE X e2 (tE X.K .s f2):=by nomatch h2
 nomatch (
 PE.imp (S5 U m n o r (qc x (qc y zC u) J) c J w) λσ H Q=>by
  rintro ⟨G,N,e,d,k,a,q⟩;obtain ⟨d1,c1,a⟩:=ja a;obtain ⟨d2,c2,a⟩:=ja a;refine ⟨G,N,e,d1,k,c1,λv1 H1 c r1 _=>⟨G,N,e,d2,k.ao c,c2,λv2 O i r2 _=>?_⟩⟩
  split at a
  . obtain ⟨⟨z,C3⟩,e3⟩:=jl a;cases e3;obtain ⟨a1,xs,rfl,B,g⟩:=(r1.ao i).dL;obtain ⟨a2,ys,rfl,E,I⟩:=r2.dL;refine ⟨a1,a2,xs,ys,rfl,B,E,by rw [g.length];exact z,λL as H' h l f=>?_⟩;have s3:ap O H':=(ap.ay h).trans l;exact q _ _ ((c.trans i).trans s3) (.ah (l _ _ jk) (((k.ao c).ao i).new L h) (Y2 f ((g.laid h).ao l) ((I.laid h).ao l))) (be.ao (c.trans i) (qi (ap.refl O) h))
  . cases a)
end
end M
namespace G
open PySem PySem.Spec L2 M
open PyProof.Rows hiding St
def top (i:Nat):Stmt:=PySem.Challenge.pw_endwise_k13_joint_makes_same.main.body.getD i (.Pass ⟨0,0,0,0⟩)
abbrev wI:Stmt:=top 18
abbrev xr:Stmt:=top 20
abbrev x8:Stmt:=top 21
abbrev ZI:Stmt:=top 8
abbrev wG:Stmt:=top 7
abbrev yQ:Stmt:=top 6
abbrev X1:Stmt:=top 15
abbrev US:Stmt:=top 9
abbrev X2:Stmt:=top 10
abbrev ZK:Stmt:=top 11
abbrev X3:Stmt:=top 13
abbrev xq:Stmt:=top 17
abbrev zi:Stmt:=top 26
abbrev wJ:Stmt:=top 23
abbrev wH:Stmt:=top 27
abbrev wK:Stmt:=top 24
abbrev x6:Stmt:=top 28
abbrev xt:Stmt:=top 19
abbrev x5:Stmt:=top 22
abbrev xp:Stmt:=top 25
abbrev ZJ:Stmt:=top 29
def zG:Sl->aq bD:=
 (aB (qg 2 (av (av (cI 10) (cI 40) io) (cI 121) bc)) (a7 (av (av (av (av (af 0) (af 2) cc) (cI 31415926535897932384626433832795) ff) (av (av (av (av (af 1) (af 1) ff) (av (cI 3) (af 1) ff) bc) (cI 7) bc) (cI 2718281828459045235360287471) ff) bc) (af 2) cc)))
def zd:List D->aq D:=aX true 3 (zG)
def wl:Sl->aq bD:=
 (aB (qg 1 (cS "abcdefghijklmnopqrstuvwxyz")) (aB (gC (app (jb (af 0) (jb (cI 8) ai)) zV) (g2 (gN 0) (gN 4))) (aB (gC (app (jb (af 0) (jb (av (af 4) (cI 1) bc) ai)) zV) (g2 (gN 0) (gN 5))) (aB (qg 2 (cS "")) (aB (fN (ig (jb (av (af 4) (cI 1) bc) ai)) (gN 3) (aB (gC (app (jb (af 0) (jb (cI 26) ai)) zV) (g2 (gN 0) (gN 6))) (qg 2 (av (af 2) (av (af 1) (af 6) bW) bc)))) (a7 (ze false 1 [2,1,5,0] (ig (jb (cI 5) ai)) (gN 0) qo (av (av (jW (af 1) qU (qK (af 3)) eB) (av (af 2) (av (av (af 4) (av (cI 5) (af 0) ff) bc) (cI 26) cc) bW) bc) (jW (af 1) (qK (av (af 3) (cI 1) bc)) qU eB) bc))))))))
def wo:List D->aq D:=aX true 7 (wl)
def wT:Sl->aq bD:=
 (aB (qg 1 (av (dw (jb (cI 1) (jb (cI 7) (jb (cI 83) (jb (cI 389) ai))))) (av (af 0) (cI 4) cc) bW)) (aB (qg 2 (av (av (af 0) (cI 4) lJ) (cI 1000) cc)) (aB (qg 3 (ze false 1 [2,1] (ig (jb (cI 12) ai)) (gN 0) qo (av (av (af 1) (av (af 2) (af 0) ff) bc) (cI 1000) cc))) (aB (qg 4 (av (av (af 0) (cI 4000) lJ) (cI 12) cc)) (a7 (av (jW (af 3) (qK (af 4)) qU eB) (jW (af 3) qU (qK (af 4)) eB) bc))))))
def xc:List D->aq D:=aX true 5 (wT)
def KZ:Sl->aq bD:=
 (a7 (wu (aY (bU "tuple" (af 0))) (jW (af 0) (qK (cI 1)) qU eB) (dM ai)))
def jN:List D->aq D:=aX true 1 (KZ)
def zE (a:TY):Sl->aq bD:=
 (aB (dg 1 (dw ai)) (aB (fN (gV (af 0)) (gN 2) (zA 1 (jr 1 a (jb (af 2) ai)))) (a7 (rA 1))))
def qz:List D->aq D:=aX true 3 (zE jN)
def xK (a:TY):Sl->aq bD:=
 (aB (qg 1 (dw (jb (af 0) ai))) (aB (qg 2 (cI 0)) (aB (qg 3 (cI 0)) (aB (qZ 2000 (gB (af 1)) (aB (qg 2 (av (af 2) (cI 1) (nR λi j=>i+j))) (aB (qg 3 (av (af 3) (app (jb (af 1) ai) dZ) (nR λi j=>i+j))) (aB (dz (ie (aY (av (af 2) (cI 60) rF)) (aY (av (af 3) (cI 1000) rF))) (a7 (cB true)) df) (qg 1 (jr 1 a (jb (af 1) ai))))))) (a7 (cB false))))))
def wE:List D->aq D:=aX true 4 (xK qz)
def Wi (a:TY):Sl->aq bD:=
 (aB (dz (cr (aY (bU "tuple" (af 0)))) (retS (af 0)) df) (aB (dz (aY (av cN (af 1) (pQ false))) (a7 cN) df) (aB (qg 2 (av (jW (af 0) qU (qK (cI 1)) eB) (app (jb (af 1) ai) JL) bc)) (a7 (wu (aY (jr 1 a (jb (af 2) ai))) cN (fx (af 2)))))))
def xa:List D->aq D:=aX false 3 (Wi wE)
def Le:Sl->aq bD:=
 (a7 (wu (aY (bU "tuple" (af 0))) (dM (jb (av (af 0) (cI 0) bW) (jb (av (app (jb (af 0) ai) dZ) (cI 1) tu) ai))) cN))
def QI:List D->aq D:=aX true 1 (Le)
def Qi (a:TY) (c:TY):Sl->aq bD:=
 (aB (dg 1 (dw (jb (af 0) ai))) (aB (fN (gV (jr 1 a (jb (af 0) ai))) (gN 2) (zA 1 (jr 1 c (jb (af 2) ai)))) (a7 (rA 1))))
def qJ:Nat->List D->aq D
 |0=>λ_=> .aj
 |n+1=>aX true 3 (Qi jN (qJ n))
def Wk (a:TY):Sl->aq bD:=
 (aB (dg 1 cD) (aB (fN (gV (jr 1 a (jb (af 0) ai))) (gN 2) (dz (cr (aY (bU "tuple" (af 2)))) (Wt 1 (af 2) (cB true)) df)) (pI 1 (a7 (app (jb (af 1) ai) Dd)))))
def xR:List D->aq D:=aX true 3 (Wk (qJ 64))
def qt:FO:=gI 1 0 (BY 0)
def qT:Sl->aq bD:=aB (qZ 300 (aY (BW 0 (af 1))) (qg 1 (p6 0 (af 1)))) (a7 (fx (af 1)))
def je:List D->aq D:=aX true 2 qT
def j7:Sl->aq bf:=i3 (aY (bU "tuple" (af 1))) (m5 0 (af 2) (af 1)) (i3 (aY (bU "tuple" (af 2))) (m5 0 (af 1) (af 2)) (m5 0 (app (jb (af 1) (jb (af 2) ai)) maxD) (app (jb (af 1) (jb (af 2) ai)) minD)))
def jv:FO:=gI 3 2 j7
def jJ (c:TY) (d:TY) (e:TY) (a:FO):Sl->aq bf:=
 bB (BI 3 (IF (dM (jb (af 1) (jb (af 2) ai))))) (bB (xf 3000 (DF (gB (cJ 3))) (bB (oq 3 (gN 4)) (bB (yt 5 (fx (wt 2 c 0 (jb (av (af 4) (cI 0) bW) ai)))) (bB (yt 6 (fx (wt 2 c 0 (jb (av (af 4) (cI 1) bW) ai)))) (bB (i3 (aY (av (af 5) (af 6) dN)) Gk mX) (bB (i3 (cQ (aY (bU "tuple" (af 5))) (aY (bU "tuple" (af 6)))) (bB (i3 (aY (av (jr 1 d (jb (af 5) ai)) (jr 1 d (jb (af 6) ai)) il)) (gH (cB false)) mX) (Wp 3 (VI (jr 1 e (jb (af 5) ai)) (jr 1 e (jb (af 6) ai))))) mX) (vN (yM 0 2 a (jb (af 5) (jb (af 6) ai)))))))))) (gH (cB true)))
def jE:FO:=gI 7 2 (jJ je QI jN jv)
def jP (a:TY) (c:TY) (d:TY):Sl->aq bf:=
 bB (yt 3 (ze false 1 [0] (gV (jr 1 c (jb (af 1) ai))) (gN 0) qo (fx (wt 2 a 1 (jb (af 0) ai))))) (bB (i3 (cr (aY (app (jb (ze true 1 [2] (gV (af 3)) (gN 0) qo (av (af 0) (af 1) Ds)) ai) iV))) (gH (cB false)) mX) (bB (VW (af 1) (jr 2 d (jb (af 1) (jb (ze true 1 [2] (gV (af 3)) (gN 0) qo (av (af 1) (af 0) i8)) ai))) 2) (gH (cB true))))
def jL:FO:=iw 2 4 2 (jP je jN xa)
def qe (a:TY) (c:FO):Sl->aq bD:=
 aB (dg 2 Il) (aB (qg 3 (app (jb (app (jb (ze false 1 [0] (oy (af 1)) (gN 0) qo (dM (jb (fx (wt 2 a 1 (jb (af 0) ai))) (jb (cB true) ai)))) ai) XB) ai) D0)) (aB (qZ 200 (gB (af 3)) (aB (dg 4 (dw ai)) (aB (fN (gV (af 3)) (gN 5) (lQ (lM (tY (Zw 0 2 c (af 5)))) (QF 4 (af 5)) df)) (aB (dz (aY (av (app (jb (cJ 4) ai) dZ) (app (jb (af 3) ai) dZ) dN)) (a7 cN) df) (pI 4 (qg 3 (af 4))))))) (a7 (rA 2))))
def jT:List D->aq D:=aX true 6 (qe je jL)
def Wj (d:FO) (e:FO) (g:TY) (h:TY) (a:TY) (c:TY):Sl->aq bD:=
 aB (dg 2 (IA "Joining" 0 d rj)) (aB (lQ (lM (tY (yM 2 2 e (jb (af 0) (jb (af 1) ai))))) (a7 cN) df) (aB (dg 3 (p7 (wt 2 g 2 (jb (av (jr 1 a (jb (af 0) ai)) (jr 1 a (jb (af 1) ai)) bc) ai)))) (aB (dz (aY (av (cJ 3) cN mP)) (a7 cN) df) (aB (dg 4 cD) (aB (fN (gV (av (jr 1 c (jb (af 0) ai)) (jr 1 c (jb (af 1) ai)) bc)) (gN 5) (aB (Wt 4 (af 5) (fx (av (cJ 3) (wt 2 h 2 (jb (af 5) ai)) i8))) (dz (aY (av (av (cJ 4) (af 5) mS) cN mP)) (λ_=> .aj) df))) (a7 (rA 4)))))))
def wa:List D->aq D:=aX true 6 (Wj qt jE jT je (qJ 64) xR)
def Jp:Sl->aq bD:=
 (a7 (CY (bU "int" (af 0)) (AZ (bU "bool" (af 0))) true))
def jq:List D->aq D:=aX true 1 (Jp)
def qM (a:TY):Sl->aq bD:=
 (aB (pT 0 1 (FL (ie (cr (aY (jr 1 a (jb (af 1) ai)))) (cQ (cr (aY (bU "tuple" (av (af 0) (af 1) cF)))) (cr (aY (jr 1 a (jb (av (af 0) (af 1) cF) ai)))))) false)) (a7 (cB true)))
def qQ:List D->aq D:=aX true 2 (qM jq)
def qN (a:TY) (c:TY):Sl->aq bD:=
 (aB (dz (aY (jr 1 a (jb (af 0) ai))) (retS (Qh (af 1) (af 0) (af 0))) df) (a7 (app (jb (av (dw (jb (av (af 0) (cI 0) bW) ai)) (ze false 1 [1] (gV (jW (af 0) (qK (cI 1)) qU eB)) (gN 0) qo (jr 2 c (jb (af 0) (jb (af 1) ai)))) bc) ai) JL)))
def jO:Nat->List D->aq D
 |0=>λ_=> .aj
 |n+1=>aX false 2 (qN jq (jO n))
def zF (c:TY) (a:TY):Sl->aq bD:=
 (aB (B0 0 2 (aB (qg 3 (av (af 0) (af 2) cF)) (aB (dz (cQ (aY (jr 1 c (jb (af 3) ai))) (ie (aY (av (af 3) (af 2) rF)) (aY (av (Qh (af 0) (af 3) (mQ (cI 1))) (af 3) il)))) (a7 (cB false)) df) (dz (ie (aY (av (jr 2 a (jb (af 3) (jb (af 0) ai))) (af 3) il)) (aY (av (jr 2 a (jb (af 3) (jb (af 1) ai))) (Qh (af 1) (af 2) (af 2)) il))) (a7 (cB false)) df)))) (a7 (cB true)))
def zM:List D->aq D:=aX true 4 (zF jq (jO 64))
def qO (a:TY) (c:TY):Sl->aq bD:=
 (aB (dz (aY (jr 1 a (jb (af 0) ai))) (a7 (dw (jb (af 0) ai))) df) (aB (dg 1 (dw ai)) (aB (fN (gV (jW (af 0) (qK (cI 1)) qU eB)) (gN 2) (zA 1 (jr 1 c (jb (af 2) ai)))) (a7 (rA 1)))))
def jC:Nat->List D->aq D
 |0=>λ_=> .aj
 |n+1=>aX true 3 (qO jq (jC n))
def wR (a:TY) (e:TY) (c:TY) (g:TY) (d:TY):Sl->aq bD:=
 (aB (dg 3 (jr 2 a (jb (af 0) (jb (af 1) ai)))) (aB (dz (ie (cr (aY (bU "dict" (cJ 3)))) (cr (aY (jr 1 e (jb (cJ 3) ai))))) (a7 (cB false)) df) (aB (dz (aY (av (app (jb (cJ 3) ai) Jz) (ZE (av (jr 1 d (jb (af 0) ai)) (jr 1 d (jb (af 1) ai)) bc)) il)) (a7 (cB false)) df) (aB (dz (ie (aY (av (jr 2 c (jb (af 0) (jb (cJ 3) ai))) (jr 2 c (jb (af 1) (jb (cJ 3) ai))) il)) (cr (aY (jr 2 g (jb (cJ 3) (jb (af 2) ai)))))) (a7 (cB false)) df) (aB (dg 4 (pR 3)) (aB (uI 3) (a7 (CY (av (jr 2 a (jb (af 1) (jb (af 0) ai))) (cJ 4) YE) (av (jr 2 a (jb (af 0) (jb (af 1) ai))) (cJ 4) YE) true))))))))
def qY:List D->aq D:=aX true 5 (wR wa qQ (jO 64) zM (jC 64))
def wm:Sl->aq bD:=
 (aB (qg 2 (av (av (av (af 0) (cI 69621) ff) (av (av (af 1) (cI 1) bc) (cI 1000003) ff) bc) (av (av (cI 10) (cI 30) io) (cI 57) bc) cc)) (a7 (av (av (af 2) (af 2) ff) (av (av (cI 10) (cI 30) io) (cI 57) bc) cc)))
def jB:List D->aq D:=aX true 3 (wm)
def zn (a:TY) (c:TY):Sl->aq bD:=
 (aB (gC (app (jb (af 0) (jb (cI 7) ai)) zV) (g2 (gN 0) (gN 4))) (aB (dz (ie (aY (av (af 4) (cI 0) dN)) (cQ (aY (av (af 2) (cI 0) dN)) (aY (av (af 4) (cI 3) ltI)))) (retS (av (af 3) (av (af 0) (app (jb (af 3) ai) dZ) cc) bW)) df) (aB (gC (app (jb (af 0) (jb (cI 5) ai)) zV) (g2 (gN 0) (gN 5))) (aB (gC (app (jb (af 0) (jb (cI 4) ai)) zV) (g2 (gN 0) (gN 6))) (aB (dz (cQ (aY (av (af 2) (cI 1) dN)) (aY (av (av (af 0) (cI 8) cc) (cI 1) dN))) (qg 6 (av (cI 4) (av (av (af 0) (cI 8) lJ) (cI 6) cc) bc)) df) (aB (dz (aY (av (af 2) (cI 0) dN)) (qg 6 (cI 0)) df) (a7 (app (jb (av (dw (jb (av (af 1) (af 5) bW) ai)) (ze false 1 [1,3,0,2] (ig (jb (af 6) ai)) (gN 0) qo (jr 4 a (jb (jr 2 c (jb (af 3) (jb (af 0) ai))) (jb (af 1) (jb (av (af 4) (cI 1) tu) (jb (af 2) ai)))))) bc) ai) JL))))))))
def qA:Nat->List D->aq D
 |0=>λ_=> .aj
 |n+1=>aX false 7 (zn (qA n) jB)
def zw (a:TY) (c:TY) (d:FO):Sl->aq bf:=
 bB (i3 (aY (av (av (af 1) (cI 4) cc) (cI 0) dN)) (bB (vK 2 4 (cQ (aY (av (av (af 2) (af 4) cF) (af 0) dN)) (aY (av (av (av (af 1) (cI 4) lJ) (cI 2) cc) (cI 0) dN)))) (i3 (aY (av (app (jb (cJ 2) ai) ir) (app (jb (af 3) ai) dZ) ltI)) (bB (yt 4 (av (af 3) (app (jb (cJ 2) ai) ir) bW)) (bB (VW (af 4) (af 0) 2) (gH (af 4)))) mX)) mX) (bB (i3 (aY (jr 1 a (jb (af 0) ai))) (gH (af 0)) mX) (bB (D1 5 (Zt 2 1 2 [1,2,3] (YH (jW (af 0) (qK (cI 1)) qU eB)) (g2 (gN 0) (gN 1)) qo (x0 3 d (af 1) (jr 2 c (jb (af 2) (jb (af 0) ai))) (af 4)))) (gH (app (jb (av (dw (jb (av (af 0) (cI 0) bW) ai)) (af 5) bc) ai) JL))))
def jQ:Nat->FO
 |0=>λ_ _=> .aj
 |n+1=>iw 2 6 3 (zw jq jB (jQ n))
def D5 (a:TY) (g:TY) (h:TY) (c:TY) (i:TY) (d:FO) (l:TY) (e:TY):Sl->aq bD:=
 (aB (qg 1 (jr 2 a (jb (av (av (af 0) (dw (jb (cI 0) ai)) pU) (cI 0) bW) (jb (cI 0) ai)))) (aB (qg 2 (jr 1 g (jb (af 1) ai))) (aB (qg 3 (jr 1 h (jb (av (af 1) (av (cI 10) (cI 20) io) pV) ai))) (aB (fN (vW (jW (af 0) qU (qK (cI 30)) BB)) (g2 (gN 4) (gN 5)) (aB (qg 6 (jr 2 a (jb (af 5) (jb (av (af 4) (cI 1) bc) ai)))) (aB (qg 7 (jr 4 i (jb (av (af 6) (cI 2) pV) (jb (af 2) (jb (cI 3) (jb (jW (af 3) (qK (cI 9)) qU eB) ai)))))) (aB (dg 8 cD) (aB (X0 9 (x0 8 d (af 7) (jr 2 e (jb (af 6) (jb (cI 3) ai))) (jW (af 3) qU (qK (cI 9)) eB))) (aB (X0 10 (x0 8 d (af 7) (jr 2 e (jb (af 6) (jb (cI 4) ai))) (jW (af 3) qU (qK (cI 9)) eB))) (aB (dz (cr (aY (jr 3 c (jb (af 9) (jb (af 10) (jb (cJ 8) ai)))))) (a7 (cB false)) df) (aB (qg 11 (jr 2 l (jb (af 9) (jb (af 9) ai)))) (dz (ie (aY (av (af 11) cN mP)) (cr (aY (vB 11 (app (jb (ze false 1 [11] (Yt (af 11)) (gN 0) qo (av (av (af 1) (af 0) cF) (af 0) dN)) ai) iV))))) (a7 (cB false)) df))))))))) (a7 (jr 3 c (jb (av (af 3) (cI 0) bW) (jb (dM (jb (av (af 2) (cI 0) bW) (jb (av (af 3) (cI 9) bW) ai))) (jb (uv (av (af 3) (cI 0) bW) (dM (jb (av (af 2) (cI 0) bW) (jb (av (af 3) (cI 9) bW) ai)))) ai)))))))))
def oz:List D->aq D:=aX true 12 (D5 zd wo xc qY (qA 6) (jQ 6) wa jB)
structure Gm (K:aA) (mg:UQ):Prop where
 aR:mg "isinstance" =none
 bx:mg "tuple" =none
 fE:mg "len" =none
 lR:mg "list" =none
 ub:mg "bool" =none
 B4:mg "int" =none
 fZ:mg "range" =none
 cM:mg "divmod" =none
 lS:mg "dict" =none
 jG:mg "sorted" =none
 B5:mg "set" =none
 fF:mg "enumerate" =none
 rV:mg "all" =none
 B6:mg "max" =none
 B7:mg "min" =none
 B8:mg "zip" =none
 lT:mg "reversed" =none
 gO: ∃t,mg "MOST_LEVELS" =some (.int 60 t)
 ix: ∃t,mg "MOST_PARTS" =some (.int 1000 t)
def Lf:ax ["_law_cell", "_law_k", "_law_big"] ["_law_cell", "_law_k"] (jf wI):=fg
def oA:ax ["_law_number", "_law_letters", "_law_base", "_law_k", "_law_size", "_law_at", "_law_sign"] ["_law_number"] (jf xr):=fg
def B9:ax ["_law_number", "_law_step", "_law_first", "_law_found", "_law_turn"] ["_law_number"] (jf x8):=fg
def Td:ax ["term"] ["term"] (jf ZI):=fg
def Gw:ax ["row", "below", "thing"] ["row"] (jf wG):=fg
def uS:ax ["thing", "row", "depth", "counted"] ["thing"] (jf yQ):=fg
def Lg:ax ["thing", "below", "term"] ["thing", "below"] (jf X1):=fg
def Te:ax ["term"] ["term"] (jf US):=fg
def Gx:ax ["term", "found", "place"] ["term"] (jf X2):=fg
def Gy:ax ["term", "met", "found"] ["term"] (jf ZK):=fg
def Tf:ax ["_law_found"] ["_law_found"] (jf xq):=fg
def Lh:ax ["_law_found", "_law_blank"] ["_law_found"] (jf zi):=fg
def Tg:ax ["_law_term_here", "_law_filling"] ["_law_term_here", "_law_filling"] (jf wJ):=fg
def Gz:ax ["_law_found", "_law_due", "_law_blank", "_law_term_here"] ["_law_found", "_law_due"] (jf wH):=fg
def GA:ax ["_law_term_here", "_law_found", "_law_place"] ["_law_term_here"] (jf wK):=fg
def GB:ax ["_law_one", "_law_other", "_law_due", "_law_found", "_law_held"] ["_law_one", "_law_other", "_law_due"] (jf x6):=fg
def Li:ax ["_law_number", "_law_k", "_law_mixed_here"] ["_law_number", "_law_k"] (jf xt):=fg
def qy:ax ["_law_number", "_law_names_here", "_law_deep", "_law_free_here", "_law_kind", "_law_which", "_law_count"] ["_law_number", "_law_names_here", "_law_deep", "_law_free_here"] (jf x5):=fg
def nA:ax ["_law_script", "_law_lead", "_law_names_here", "_law_free_here", "_law_k", "_law_cell", "_law_number", "_law_term_here", "_law_due", "_law_one", "_law_other", "_law_itself"] ["_law_script"] (jf ZJ):=fg
section
variable (P:bn) (w:World) (K:aA) (mg:UQ) (ae:Heap) (k:Nat)
abbrev w9 (f:TY):Prop:=Av P w K mg ae k "_law_spread" ["_law_cell", "_law_k"] true f
abbrev xE (f:TY):Prop:=Av P w K mg ae k "_law_names" ["_law_number"] true f
abbrev ym (f:TY):Prop:=Av P w K mg ae k "_law_free" ["_law_number"] true f
abbrev xQ (f:TY):Prop:=Av P w K mg ae k "places" ["term"] true f
abbrev w5 (f:TY):Prop:=Av P w K mg ae k "level_below" ["row"] true f
abbrev Jb (f:TY):Prop:=Av P w K mg ae k "is_great" ["thing"] true f
abbrev YX (f:TY):Prop:=Av P w K mg ae k "whole" ["thing", "below"] false f
abbrev GC (f:TY):Prop:=Av P w K mg ae k "head" ["term"] true f
abbrev QG (f:TY):Prop:=Av P w K mg ae k "parts" ["term"] true f
abbrev WJ (f:TY):Prop:=Av P w K mg ae k "blanks" ["term"] true f
abbrev WI (f:TY):Prop:=Av P w K mg ae k "joint" ["one", "other"] true f
abbrev qI (f:TY):Prop:=Av P w K mg ae k "_law_whole" ["_law_found"] true f
abbrev zt (f:TY):Prop:=Av P w K mg ae k "_law_terms_kind" ["_law_found"] true f
abbrev zc (f:TY):Prop:=Av P w K mg ae k "_law_filled" ["_law_term_here", "_law_filling"] false f
abbrev w6 (f:TY):Prop:=Av P w K mg ae k "_law_widest" ["_law_found", "_law_due"] true f
abbrev zL (f:TY):Prop:=Av P w K mg ae k "_law_blanks" ["_law_term_here"] true f
abbrev yk (f:TY):Prop:=Av P w K mg ae k "_law_good" ["_law_one", "_law_other", "_law_due"] true f
abbrev zx (f:TY):Prop:=Av P w K mg ae k "_law_mixed" ["_law_number", "_law_k"] true f
abbrev w8 (f:TY):Prop:=Av P w K mg ae k "_law_term" ["_law_number", "_law_names_here", "_law_deep", "_law_free_here"] false f
end
section
variable {P:bn} {w:World} {K:aA} {mg:UQ} {ae:Heap} {k:Nat} {C:Addr}
variable (T:Gm K  mg)
include T
theorem QQ (d:Dx K mg "_law_spread" wI ["_law_cell", "_law_k"]):
  w9 P w K mg ae (k+1) (aX true 3 (zG)):=
 w4 true d Lf λf c A a s H E e=>
  (jg (by exact (j8 2 Lf.nd (DE.s (qv jY qx (gX Kt Kw ib ib) fh)))) (by exact (jw (qh (VY (l:= .t) xW xX (DE.b (qv jY qx (gX wL yB (kE (vb 0) (vb 2)) ib) (gX wL yB (DE.b (qv jY qx (DE.s (qv jY qx (gX wL yB (vb 1) (vb 1)) (gX wL yB ib (vb 1)))) fh)) ib))) (vb 2))))))
theorem ZX (d:Dx K mg "_law_names" xr ["_law_number"]):
  xE P w K mg ae (k+1) (aX true 7 (wl)):=
 w4 true d oA λf h A c s H E i=>
  (jg (by exact (j8 1 oA.nd (HG (l:= .s)))) (by exact (jg (by exact (Zr (DE.s (xN zr wC rfl T.cM q5 (jc (dv 0) (jc fh jh)))) (Qt rfl (jR 0 oA.nd) (jR 4 oA.nd)))) (by exact (jg (by exact (Zr (DE.s (xN zr wC rfl T.cM q5 (jc (dv 0) (jc (by exact (DE.s (qv jY qx (dv 4) fh))) jh)))) (Qt rfl (jR 0 oA.nd) (jR 5 oA.nd)))) (by exact (jg (by exact (j8 2 oA.nd (HG (l:= .s)))) (by exact (jg (by exact (Ju lU rfl (yK rfl T.fZ (jc (by exact (DE.b (qv jY qx (dv 4) fh))) jh)) (jR 3 oA.nd) (jg (by exact (Zr (DE.s (xN zr wC rfl T.cM q5 (jc (dv 0) (jc fh jh)))) (Qt rfl (jR 0 oA.nd) (jR 6 oA.nd)))) (by exact (jw (j8 2 oA.nd (DE.s (qv jY qx (dv 2) (xn (dv 1) (vb 6)))))))))) (by exact (jw (qh (yg false ["_law_k", "_law_base", "_law_letters", "_law_at", "_law_number", "."] 1 [2,1,5,0] (wx none rfl rfl (by decide+kernel) ⟨rfl,rfl,rfl,rfl,trivial⟩ rfl) rfl (yK rfl T.fZ (jc ib jh)) (λC e g m a=>⟨(jR 0 a),wv,(DE.s (qv jY qx (DE.s (qv jY qx (DE.s (qV (dv 1) zq (zp (vb 3)))) (xn (dv 2) (kE (DE.b (qv jY qx (dv 4) (gX wL yB ib (vb 0)))) ib)))) (DE.s (qV (dv 1) (zp (DE.b (qv jY qx (dv 3) fh))) zq))))⟩))))))))))))))
theorem Xh (d:Dx K mg "_law_free" x8 ["_law_number"]):
  ym P w K mg ae (k+1) (aX true 5 (wT)):=
 w4 true d B9 λf h A c s H E i=>
  (jg (by exact (j8 1 B9.nd (xn (DE.s (xC (jc fh (jc fh (jc fh (jc fh jh)))))) (kE (vb 0) ib)))) (by exact (jg (by exact (j8 2 B9.nd (gX xW xX (ob ZV Z1 (vb 0) ib) ib))) (by exact (jg (by exact (N0 3 B9.nd false ["_law_k", "_law_first", "_law_step", "."] 1 [2,1] (wx none rfl rfl (by decide+kernel) ⟨rfl,rfl,trivial⟩ rfl) rfl (yK rfl T.fZ (jc ib jh)) (λC e g l a=>⟨(jR 0 a),wv,(gX xW xX (DE.b (qv jY qx (dv 1) (gX wL yB (vb 2) (vb 0)))) ib)⟩))) (by exact (jg (by exact (j8 4 B9.nd (gX xW xX (ob ZV Z1 (vb 0) ib) ib))) (by exact (jw (qh (qv jY qx (DE.s (qV (dv 3) (zp (vb 4)) zq)) (DE.s (qV (dv 3) zq (zp (vb 4)))))))))))))))
theorem kj (d:Dx K mg "places" ZI ["term"]):
  xQ P w K mg ae (k+1) (aX true 1 (KZ)):=
 w4 true d Td λf c A a s H E e=>
  (jw (qh (uA (qR (xk (l':= .b) "tuple" "tuple" qL (vb 0) rfl T.aR rfl T.bx m6)) (qV (dv 0) (zp ib) zq) (Zs jh))))
theorem QO (d:Dx K mg "level_below" wG ["row"]) (c:xQ P w K mg ae k e):
  w5 P w K mg ae (k+1) (aX true 3 (zE e)):=
 w4 true d Gw λf g A a s H E h=>
  (jg (by exact (xh 1 Gw.nd (xC jh))) (by exact (jg (by exact (Ju lU rfl (xY (dv 0)) (jR 2 Gw.nd) (jw (Qr 1 (DE.s (by exact Av.aU c h (jc (dv 2) jh))))))) (by exact (jw (Qq 1))))))
theorem Yk (d:Dx K mg "is_great" yQ ["thing"]) (c:w5 P w K mg ae k e):
  Jb P w K mg ae (k+1) (aX true 4 (xK e)):=
 w4 true d uS λf g A a s H E h=>
  (jg (by exact (j8 1 uS.nd (DE.s (xC (jc (dv 0) jh))))) (by exact (jg (by exact (j8 2 uS.nd fh)) (by exact (jg (by exact (j8 3 uS.nd fh)) (by exact (jg (by exact (Ws 2000 lU (uc (vb 1)) (jg (by exact (HM 2 uS.nd ib Hi)) (by exact (jg (by exact (HM 3 uS.nd (qW (l':= .b) wD Zu rfl T.fE rW (jc (vb 1) jh)) Hi)) (by exact (jg (by exact (wY (DW.dt (Xz (qC ED Fk (vb 2) (gi rfl T.gO)) (Js (qC ED Fk (vb 3) (gi rfl T.ix))))) (jw (qh (xD (l:= .t)))) qr)) (by exact (jw (j8 1 uS.nd (DE.s (by exact Av.aU c h (jc (dv 1) jh))))))))))))) (by exact (jw (qh (xD (l:= .t))))))))))))
theorem Th (d:Dx K mg "whole" X1 ["thing", "below"]) (e:Jb P w K mg ae k g):
  YX P w K mg ae (k+1) (aX false 3 (Wi g)):=
 w4 false d Lg λf h A a s H E c=>
  (jg (by exact (wY (xA (qR (xk (l':= .b) "tuple" "tuple" qL (vb 0) rfl T.aR rfl T.bx m6))) (jw (YI (dv 0))) qr)) (by exact (jg (by exact (wY (qC (O7 (aL.cK c)) (O8 false) (xZ (l:= .b)) (vb 1)) (jw (qh (xZ (l:= .t)))) qr)) (by exact (jg (by exact (j8 2 Lg.nd (DE.s (qv jY qx (DE.s (qV (dv 0) zq (zp ib))) (DE.s (zW zJ JI rfl T.bx m6 (jc (dv 1) jh))))))) (by exact (jw (qh (uA (qR (DE.b (by exact Av.aU e c (jc (dv 2) jh)))) (xZ (l:= .t)) (DE.fx (l':= .t) (dv 2)))))))))))
theorem Ti (d:Dx K mg "head" US ["term"]):
  GC P w K mg ae (k+1) (aX true 1 (Le)):=
 w4 true d Te λf c A a s H E e=>
  (jw (qh (uA (qR (xk (l':= .b) "tuple" "tuple" qL (vb 0) rfl T.aR rfl T.bx m6)) (Zs (jc (by exact (xn (dv 0) ib)) (jc (by exact (gX Ho HV (qW (l':= .b) wD Zu rfl T.fE rW (jc (vb 0) jh)) ib)) jh))) (xZ (l:= .t)))))
theorem Tj (d:Dx K mg "parts" X2 ["term"]) (e:xQ P w K mg ae k g) (h:QG P w K mg ae k i):
  QG P w K mg ae (k+1) (aX true 3 (Qi g i)):=
 w4 true d Gx λf l A a s H E c=>
  (jg (by exact (xh 1 Gx.nd (xC (jc (dv 0) jh)))) (by exact (jg (by exact (Ju lU rfl (xY (DE.s (by exact Av.aU e c (jc (dv 0) jh)))) (jR 2 Gx.nd) (jw (Qr 1 (DE.s (by exact Av.aU h c (jc (dv 2) jh))))))) (by exact (jw (Qq 1))))))
theorem km (d:Dx K mg "blanks" ZK ["term"]) (e:QG P w K mg ae k g):
  WJ P w K mg ae (k+1) (aX true 3 (Wk g)):=
 w4 true d Gy λf h A a s H E c=>
  (jg (by exact (xh 1 Gy.nd Wx)) (by exact (jg (by exact (Ju lU rfl (xY (DE.s (by exact Av.aU e c (jc (dv 0) jh)))) (jR 2 Gy.nd) (jw (wY (xA (qR (xk (l':= .b) "tuple" "tuple" qL (vb 2) rfl T.aR rfl T.bx m6))) (jw (ui 1 (wc c) (vb 2) (xD (l:= .s)))) qr)))) (by exact (jw (HQ 1 (qh (zW (Uc rfl) OW rfl T.lR Zx (jc (dv 1) jh)))))))))
theorem ZW (d:Dx K mg "_law_whole" xq ["_law_found"]):
  qI P w K mg ae (k+1) (aX true 1 (Jp)):=
 w4 true d Tf λf c A a s H E e=>
  (jw (qh (HJ (xk (l':= .b) "int" "int" N8 (vb 0) rfl T.aR rfl T.B4 PyProof.Rows.boot_int) (HI (NI (l:= .t) (xk (l':= .b) "bool" "bool" vn (vb 0) rfl T.aR rfl T.ub PyProof.Rows.boot_bool))))))
theorem yA (d:Dx K mg "_law_terms_kind" zi ["_law_found"]) (e:qI P w K mg ae k g):
  zt P w K mg ae (k+1) (aX true 2 (qM g)):=
 w4 true d Lh λf h A c s H E a=>
  (jg (by exact (PC 0 1 lU rfl Lh.nd (PB (by exact (DW.dt (Xz (xA (qR (DE.b (by exact Av.aU e a (jc (dv 1) jh))))) (Js (DW.dt (Zq (xA (qR (xk (l':= .b) "tuple" "tuple" qL (DE.b (Qv (wc a) (dv 0) (vb 1))) rfl T.aR rfl T.bx m6))) (y7 (xA (qR (DE.b (by exact Av.aU e a (jc (by exact (Qv (wc a) (dv 0) (vb 1))) jh))))))))))))))) (by exact (jw (qh (xD (l:= .t))))))
theorem QR (d:Dx K mg "_law_filled" wJ ["_law_term_here", "_law_filling"]) (i:qI P w K mg ae k l) (m:zc P w K mg ae k n):
  zc P w K mg ae (k+1) (aX false 2 (qN l n)):=
 w4 false d Tg λf o A c s H E e=>
  (jg (by exact (wY (qR (DE.b (by exact Av.aU i e (jc (dv 0) jh)))) (jw (YI (YL (wc e) (dv 1) (vb 0) (dv 0)))) qr)) (by exact (jw (qh (zW zJ JI rfl T.bx m6 (jc (by exact (DE.s (qv jY qx (DE.s (xC (jc (by exact (xn (dv 0) ib)) jh))) (DE.s (yg false ["_law_place", "_law_filling", "."] 1 [1] (wx none rfl rfl (by decide+kernel) ⟨rfl,trivial⟩ rfl) rfl (xY (DE.s (qV (dv 0) (zp ib) zq))) (λC g h p a=>⟨(jR 0 a),wv,(by exact Av.call m e (jc (dv 0) (jc (dv 1) jh)))⟩)))))) jh))))))
theorem QP (d:Dx K mg "_law_widest" wH ["_law_found", "_law_due"]) (g:qI P w K mg ae k h) (e:zc P w K mg ae k i):
  w6 P w K mg ae (k+1) (aX true 4 (zF h i)):=
 w4 true d Gz λf m A c s H E a=>
  (jg (by exact (Sq 0 2 lU rfl Gz.nd (jg (by exact (j8 3 Gz.nd (Qv (wc a) (dv 0) (vb 2)))) (by exact (jg (by exact (wY (DW.dt (Zq (qR (DE.b (by exact Av.aU g a (jc (dv 3) jh)))) (y7 (DW.dt (Xz (qC ED Fk (vb 3) (vb 2)) (Js (qC (Q8 (aL.cK a)) VD (DE.b (YL (wc a) (dv 0) (vb 3) (Om (l':= .s) ib))) (vb 3)))))))) (jw (qh (xD (l:= .t)))) qr)) (by exact (jw (wY (DW.dt (Xz (qC (Q8 (aL.cK a)) VD (DE.b (by exact Av.call e a (jc (dv 3) (jc (dv 0) jh)))) (vb 3)) (Js (qC (Q8 (aL.cK a)) VD (DE.b (by exact Av.call e a (jc (dv 3) (jc (dv 1) jh)))) (DE.b (YL (wc a) (dv 1) (vb 2) (dv 2))))))) (jw (qh (xD (l:= .t)))) qr)))))))) (by exact (jw (qh (xD (l:= .t))))))
theorem QS (d:Dx K mg "_law_blanks" wK ["_law_term_here"]) (e:qI P w K mg ae k g) (h:zL P w K mg ae k i):
  zL P w K mg ae (k+1) (aX true 3 (qO g i)):=
 w4 true d GA λf l A a s H E c=>
  (jg (by exact (wY (qR (DE.b (by exact Av.aU e c (jc (dv 0) jh)))) (jw (qh (xC (jc (dv 0) jh)))) qr)) (by exact (jg (by exact (xh 1 GA.nd (xC jh))) (by exact (jg (by exact (Ju lU rfl (xY (DE.s (qV (dv 0) (zp ib) zq))) (jR 2 GA.nd) (jw (Qr 1 (DE.s (by exact Av.aU h c (jc (dv 2) jh))))))) (by exact (jw (Qq 1))))))))
theorem ZY (d:Dx K mg "_law_mixed" xt ["_law_number", "_law_k"]):
  zx P w K mg ae (k+1) (aX true 3 (wm)):=
 w4 true d Li λf c A a s H E e=>
  (jg (by exact (j8 2 Li.nd (gX xW xX (DE.b (qv jY qx (gX wL yB (vb 0) ib) (gX wL yB (DE.b (qv jY qx (dv 1) fh)) ib))) (DE.b (qv jY qx (gX Kt Kw ib ib) fh))))) (by exact (jw (qh (VY (l:= .t) xW xX (ob wL yB (vb 2) (vb 2)) (DE.b (qv jY qx (gX Kt Kw ib ib) fh)))))))
theorem Xf (d:Dx K mg "_law_term" x5 ["_law_number", "_law_names_here", "_law_deep", "_law_free_here"]) (i:w8 P w K mg ae k l) (m:zx P w K mg ae k n):
  w8 P w K mg ae (k+1) (aX false 7 (zn l n)):=
 w4 false d qy λf o A e s H E a=>
  (jg (by exact (Zr (DE.s (xN zr wC rfl T.cM q5 (jc (dv 0) (jc fh jh)))) (Qt rfl (jR 0 qy.nd) (jR 4 qy.nd)))) (by exact (jg (by exact (wY (DW.dt (Xz (qC (xw (aL.cK a)) J3 (vb 4) ib) (Js (DW.dt (Zq (qC (xw (aL.cK a)) J3 (vb 2) ib) (y7 (qC Hq HW (vb 4) ib))))))) (jw (YI (xn (dv 3) (kE (vb 0) (qW (l':= .b) wD Zu rfl T.fE rW (jc (vb 3) jh)))))) qr)) (by exact (jg (by exact (Zr (DE.s (xN zr wC rfl T.cM q5 (jc (dv 0) (jc fh jh)))) (Qt rfl (jR 0 qy.nd) (jR 5 qy.nd)))) (by exact (jg (by exact (Zr (DE.s (xN zr wC rfl T.cM q5 (jc (dv 0) (jc fh jh)))) (Qt rfl (jR 0 qy.nd) (jR 6 qy.nd)))) (by exact (jg (by exact (wY (DW.dt (Zq (qC (xw (aL.cK a)) J3 (vb 2) ib) (y7 (qC (xw (aL.cK a)) J3 (kE (vb 0) ib) ib)))) (jw (j8 6 qy.nd (DE.s (qv jY qx fh (gX xW xX (ob ZV Z1 (vb 0) ib) ib))))) qr)) (by exact (jg (by exact (wY (qC (xw (aL.cK a)) J3 (vb 2) ib) (jw (j8 6 qy.nd fh)) qr)) (by exact (jw (qh (zW zJ JI rfl T.bx m6 (jc (by exact (DE.s (qv jY qx (DE.s (xC (jc (by exact (xn (dv 1) (vb 5))) jh))) (DE.s (yg false ["_law_k", "_law_names_here", "_law_free_here", "_law_number", "_law_deep", "."] 1 [1,3,0,2] (wx none rfl rfl (by decide+kernel) ⟨rfl,rfl,rfl,rfl,trivial⟩ rfl) rfl (yK rfl T.fZ (jc (vb 6) jh)) (λC g h p c=>⟨(jR 0 c),wv,(by exact Av.call i a (jc (by exact (DE.s (by exact Av.aU m a (jc (dv 3) (jc (dv 0) jh))))) (jc (dv 1) (jc (by exact (gX Ho HV (vb 4) ib)) (jc (dv 2) jh)))))⟩)))))) jh))))))))))))))))
end
abbrev ZM:Stmt:=yZ (top 14) 0
abbrev xu:Stmt:=yZ (top 14) 1
abbrev yR:Stmt:=yZ (top 14) 2
abbrev X4:Stmt:=yZ (top 14) 3
abbrev ZL:Stmt:=yZ (top 14) 4
abbrev JM:Stmt:=yZ (top 14) 5
def Tl:ax ["self"] ["self"] (jf ZM):=fg
def Lj:ax ["self", "found"] ["self", "found"] (jf xu):=fg
def Ca:ax ["self", "one", "other", "waiting", "pair", "upper", "lower"] ["self", "one", "other"] (jf yR):=fg
def Tn:ax ["self", "one", "other"] ["self", "one", "other"] (jf X4):=fg
def Af:ax ["self", "found", "made", "waiting", "later", "thing"] ["self", "found"] (jf ZL):=fg
def Lk:ax ["self", "thing", "made", "below"] ["self", "thing", "made"] (jf JM):=fg
def Cb:ax ["one", "other", "joining", "made", "filling", "blank"] ["one", "other"] (jf X3):=fg
def D6:ax ["_law_term_here", "_law_number", "_law_pool", "_law_free_here", "_law_blank", "_law_places"] ["_law_term_here", "_law_number", "_law_pool", "_law_free_here"] (jf xp):=fg
section
variable (P:bn) (w:World) (K:aA) (mg:UQ) (ae:Heap) (k:Nat)
abbrev WL (f:FO):Prop:=pW P w K mg ae k "Joining" 0 f
abbrev q8 (f:TY):Prop:=i4 P w K mg ae k "Joining" "foremost" ["self", "found"] true f
abbrev YY (f:FO):Prop:=o3 P w K mg ae k "Joining" "put_together" 2 f
abbrev Jc (f:FO):Prop:=o3 P w K mg ae k "Joining" "brings_together" 2 f
abbrev WK (f:TY):Prop:=i4 P w K mg ae k "Joining" "made_terms" ["self", "found"] true f
abbrev QH (f:FO):Prop:=i9 P w K mg ae k "makes" 2 2 f
abbrev WH (f:FO):Prop:=om P w K mg ae k "_law_wider" 2 3 f
abbrev HC (C:Addr):Prop:=cE K bY "Joining" =some (some (.ref C))/\hU K C
end
section
variable {P:bn} {w:World} {K:aA} {mg:UQ} {ae:Heap} {k:Nat} {C:Addr}
variable {I y B z J U x N L O Q:TY} (T:Gm K mg) (Y:fQ K "Joining" bo)
include T
theorem ku (d:Dm K C "__init__" "Joining.__init__" ZM ["self"]) (e:HC K C) (a:mg "Joining" =some (.ref C)) (mk:AI K C=true/\iP K (.ref C)=true) (Y:fQ K "Joining" bo):
  WL P w K mg ae (k+1) qt:=
 Rb d e a mk Tl rfl (by decide) λf g A c s H E h=>qm (R7 Y)
theorem ZZ (d:Dm K C "foremost" "Joining.foremost" xu ["self", "found"]) (e:HC K C) (Y:fQ K "Joining" bo):
  q8 P w K mg ae (k+1) je:=
 ID true d e Lj λf g A a s H E c=>
  jg (Ws 300 lU (R5 0 (wc c) Y (vb 1)) (jw (j8 1 Lj.nd (R6 0 (wc c) Y (vb 1))))) (jw (qh (DE.fx (l':= .t) (dv 1))))
theorem To (d:Dm K C "put_together" "Joining.put_together" X4 ["self", "one", "other"]) (e:HC K C) (Y:fQ K "Joining" bo):
  YY P w K mg ae (k+1) jv:=
 IG d e Tn rfl (by decide) λf g A a s H E c=>
  qm (yJ (qR (xk (l':= .b) "tuple" "tuple" qL (vb 1) rfl T.aR rfl T.bx m6)) (qm (Wr 0 (wc c) Y (dv 2) (dv 1)))
   (qm (yJ (qR (xk (l':= .b) "tuple" "tuple" qL (vb 2) rfl T.aR rfl T.bx m6)) (qm (Wr 0 (wc c) Y (dv 1) (dv 2)))
    (qm (Wr 0 (wc c) Y (qW (l':= .s) (uO rfl) N5 rfl T.B6 boot_max (jc (vb 1) (jc (vb 2) jh))) (qW (l':= .s) (uN rfl) N4 rfl T.B7 boot_min (jc (vb 1) (jc (vb 2) jh))))))))
theorem VC {o p q:TY} (d:Dm K C "makes" "Joining.makes" JM ["self", "thing", "made"]) (u:HC K C) (h:q8 P w K mg ae k o) (i:xQ P w K mg ae k p) (m:YX P w K mg ae k q):
  QH P w K mg ae (k+1) (iw 2 4 2 (jP o p q)):=
 Sb d u Lk rfl (by decide) (by decide) λf v A n s H E g=>
  j6 (uf 3 Lk.nd false ["place", "self", "."] 1 [0] (wx none rfl rfl (by decide+kernel) ⟨rfl,trivial⟩ rfl) rfl (xY (DE.s (by exact Av.aU i g (jc (dv 1) jh)))) (λC c e r a=>⟨jR 0 a,wv,DE.fx (l':= .s) (by exact i4.fD 1 h g (jc (vb 0) jh))⟩))
  (j6 (yJ (xA (qR (qW (l':= .b) (XG rfl) HX rfl T.rV Ll (jc (DE.s (yg true ["place", "made", "."] 1 [2] (wx none rfl rfl (by decide+kernel) ⟨rfl,trivial⟩ rfl) rfl (xY (dv 3)) (λC c e r a=>⟨jR 0 a,wv,(by exact Vc (l:= .s) (PZ (wc g)) P0 (vb 0) (vb 1))⟩))) jh)))) (qm (ye (xD (l:= .s)))) wX)
  (j6 (K8 2 (wc g) (vb 1) (by exact Av.call m g (jc (dv 1) (jc (DE.s (yg true ["place", "made", "."] 1 [2] (wx none rfl rfl (by decide+kernel) ⟨rfl,trivial⟩ rfl) rfl (xY (dv 3)) (λC c e r a=>⟨jR 0 a,wv,(by exact RS (wc g) (dv 1) (vb 0))⟩))) jh))))
  (qm (ye (xD (l:= .s))))))
theorem Yl {n o p:TY} {c:FO} (d:Dm K C "brings_together" "Joining.brings_together" yR ["self", "one", "other"]) (q:HC K C) (e:q8 P w K mg ae k n) (g:GC P w K mg ae k o) (h:xQ P w K mg ae k p) (i:YY P w K mg ae k c):
  Jc P w K mg ae (k+1) (gI 7 2 (jJ n o p c)):=
 IG d q Ca rfl (by decide) λf r A m s H E a=>
  j6 (Rg 3 Ca.nd (DE.j (DE.s (Zs (jc (dv 1) (jc (dv 2) jh))))))
  (j6 (ue 3000 lU (DT.j (uc (db 3)))
   (j6 (Se 3 (Wv 4 (by decide) Ca.nd))
   (j6 (Wq 5 Ca.nd (DE.fx (l':= .s) (by exact i4.fD 0 e a (jc (DE.b (by exact (xn (dv 4) ib))) jh))))
   (j6 (Wq 6 Ca.nd (DE.fx (l':= .s) (by exact i4.fD 0 e a (jc (DE.b (by exact (xn (dv 4) ib))) jh))))
   (j6 (yJ (qC (xw (aL.cK a)) J3 (vb 5) (vb 6)) (qm XA) wX)
   (j6 (yJ (DW.dt (Zq (qR (xk (l':= .b) "tuple" "tuple" qL (vb 5) rfl T.aR rfl T.bx m6)) (y7 (qR (xk (l':= .b) "tuple" "tuple" qL (vb 6) rfl T.aR rfl T.bx m6)))))
    (j6 (yJ (qC (Q8 (aL.cK a)) VD (DE.b (by exact Av.aU g a (jc (dv 5) jh))) (DE.b (by exact Av.aU g a (jc (dv 6) jh)))) (qm (ye (xD (l:= .s)))) wX)
    (qm (VU 3 (DE.s (by exact Tc rfl rfl T.lR rfl T.B8 (DE.s (by exact Av.aU h a (jc (dv 5) jh))) (DE.s (by exact Av.aU h a (jc (dv 6) jh)))))))) wX)
   (qm (Sd (by exact o3.fD 0 i a (jc (dv 5) (jc (dv 6) jh)))))))))))
  (qm (ye (xD (l:= .s)))))
theorem kr {i:TY} {m:FO} (d:Dm K C "made_terms" "Joining.made_terms" ZL ["self", "found"]) (p:HC K C) (e:q8 P w K mg ae k i) (g:QH P w K mg ae k m):
  WK P w K mg ae (k+1) (aX true 6 (qe i m)):=
 ID true d p Af λf q A h s H E c=>
  jg (xh 2 Af.nd uB)
  (jg (j8 3 Af.nd (DE.s (zW (Ub rfl) Sm rfl T.lR Zx (jc (DE.s (zW (Ue rfl (wc c)) Ra rfl T.lS y8 (jc (DE.s (yg false ["thing", "self", "."] 1 [0] (wx none rfl rfl (by decide+kernel) ⟨rfl,trivial⟩ rfl) rfl (SO rfl T.lT (dv 1)) (λC n o r a=>⟨jR 0 a,wv,DE.s (Zs (jc (DE.fx (l':= .s) (by exact i4.fD 1 e c (jc (vb 0) jh))) (jc (xD (l:= .s)) jh)))⟩))) jh))) jh))))
  (jg (Ws 200 lU (uc (dv 3))
   (jg (xh 4 Af.nd (xC jh))
   (jg (Ju lU rfl (xY (dv 3)) (jR 5 Af.nd) (jw (Jy (vZ (vY (by exact i9.call 0 2 g c (dv 5)))) (jw (uk 4 (dv 5))) qr)))
   (jg (wY (qC (xw (aL.cK c)) J3 (qW (l':= .b) wD Zu rfl T.fE rW (jc (db 4) jh)) (qW (l':= .b) wD Zu rfl T.fE rW (jc (vb 3) jh))) (jw (qh (xZ (l:= .t)))) qr)
   (jw (HQ 4 (j8 3 Af.nd (dv 4))))))))
  (jw (Qq 2))))
theorem Tp {o p:FO} {q r u v:TY} (d:Dx K mg "joint" X3 ["one", "other"]) (g:WL P w K mg ae k o) (h:Jc P w K mg ae k p) (i:WK P w K mg ae k q) (m:q8 P w K mg ae k r) (e:QG P w K mg ae k u) (c:WJ P w K mg ae k v):
  WI P w K mg ae (k+2) (aX true 6 (Wj o p q r u v)):=
 w4 true d Cb λf wp A n s H E a=>
  jg (xh 2 Cb.nd (by exact pW.BZ g a))
  (jg (Jy (vZ (vY (by exact o3.fD 2 h (a.mono (by omega)) (jc (dv 0) (jc (dv 1) jh))))) (jw (qh (xZ (l:= .t)))) qr)
  (jg (xh 3 Cb.nd (by exact i4.ua 2 i (a.mono (by omega)) (jc (DE.b (qv jY qx (DE.s (by exact Av.aU e (a.mono (by omega)) (jc (dv 0) jh))) (DE.s (by exact Av.aU e (a.mono (by omega)) (jc (dv 1) jh))))) jh)))
  (jg (wY (qC ki kB (db 3) (xZ (l:= .b))) (jw (qh (xZ (l:= .t)))) qr)
  (jg (xh 4 Cb.nd Wx)
  (jg (Ju lU rfl (xY (DE.s (qv jY qx (DE.s (by exact Av.aU c (a.mono (by omega)) (jc (dv 0) jh))) (DE.s (by exact Av.aU c (a.mono (by omega)) (jc (dv 1) jh)))))) (jR 5 Cb.nd)
   (jg (ui 4 (wc a) (vb 5) (DE.fx (l':= .s) (Sk (wc a) (db 3) (by exact i4.fD 2 m (a.mono (by omega)) (jc (vb 5) jh)))))
   (jw (wY (qC ki kB (DE.b (by exact OT (wc a) 4 (vb 5))) (xZ (l:= .b))) (jw NS) qr))))
  (jw (Qq 4)))))))
theorem Tq {l m:TY} {n:FO} (d:Dx K mg "_law_wider" xp ["_law_term_here", "_law_number", "_law_pool", "_law_free_here"]) (e:qI P w K mg ae k l) (g:zx P w K mg ae k m) (h:WH P w K mg ae k n):
  WH P w K mg ae (k+1) (iw 2 6 3 (zw l m n)):=
 R9 d D6 rfl (by decide) (by decide) λf q A i s H E c=>
  j6 (yJ (qC (xw (aL.cK c)) J3 (ob xW xX (vb 1) ib) ib)
   (j6 (Sr 2 4 lU rfl D6.nd (DW.dt (Zq (qC (xw (aL.cK c)) J3 (DE.b (by exact Qv (wc c) (dv 2) (vb 4))) (vb 0)) (y7 (qC (xw (aL.cK c)) J3 (ob xW xX (ob ZV Z1 (vb 1) ib) ib) ib)))))
   (qm (yJ (qC Hq HW (qW (l':= .b) XF uJ rfl T.fE rW (jc (db 2) jh)) (qW (l':= .b) wD Zu rfl T.fE rW (jc (vb 3) jh)))
    (j6 (Wq 4 D6.nd (xn (dv 3) (qW (l':= .b) XF uJ rfl T.fE rW (jc (db 2) jh))))
    (j6 (K8 2 (wc c) (vb 4) (dv 0)) (qm (ye (dv 4))))) wX))) wX)
  (j6 (yJ (qR (DE.b (by exact Av.aU e c (jc (dv 0) jh)))) (qm (ye (dv 0))) wX)
  (j6 (ug 2 5 1 D6.nd ["_law_k", "_law_place", "_law_number", "_law_pool", "_law_free_here", "."] 2 [1,2,3] (wx none rfl rfl (by decide+kernel) ⟨rfl,rfl,rfl,trivial⟩ rfl) rfl (Pk rfl T.fF (by exact (DE.s (qV (dv 0) (zp ib) zq))))
   (λC o p r a=>⟨Pm rfl (Wv 0 (by decide) a) (Wv 1 (by decide) a),wv,by exact om.op 3 h c (dv 1) (DE.s (by exact Av.aU g c (jc (dv 2) (jc (dv 0) jh)))) (dv 4)⟩))
  (qm (ye (DE.s (zW zJ JI rfl T.bx m6 (jc (by exact (DE.s (qv jY qx (DE.s (xC (jc (by exact (xn (dv 0) ib)) jh))) (dv 5)))) jh)))))))
theorem Xg (d:Dx K mg "_law_good" x6 ["_law_one", "_law_other", "_law_due"]) (c:WI P w K mg ae k U) (i:zt P w K mg ae k N) (g:zc P w K mg ae k L) (m:w6 P w K mg ae k O) (h:zL P w K mg ae k Q):
  yk P w K mg ae (k+1) (aX true 5 (wR U N L O Q)):=
 w4 true d GB λf n A e s H E a=>
  (jg (by exact (xh 3 GB.nd (by exact Av.aU c a (jc (dv 0) (jc (dv 1) jh))))) (by exact (jg (by exact (wY (DW.dt (Xz (xA (qR (xk (l':= .b) "dict" "dict" vm (db 3) rfl T.aR rfl T.lS y8))) (Js (xA (qR (by exact Av.iW i a (jc (db 3) jh))))))) (jw (qh (xD (l:= .t)))) qr)) (by exact (jg (by exact (wY (qC (Q8 (aL.cK a)) VD (uC (WB rfl) YO rfl T.jG XJ (jc (db 3) jh)) (DE.b (uy rfl (by exact (DE.b (qv jY qx (DE.s (by exact Av.aU h a (jc (dv 0) jh))) (DE.s (by exact Av.aU h a (jc (dv 1) jh)))))) rfl T.jG rfl T.B5))) (jw (qh (xD (l:= .t)))) qr)) (by exact (jg (by exact (wY (DW.dt (Xz (qC (Q8 (aL.cK a)) VD (by exact Av.iW g a (jc (vb 0) (jc (db 3) jh))) (by exact Av.iW g a (jc (vb 1) (jc (db 3) jh)))) (Js (xA (qR (by exact Av.iW m a (jc (db 3) (jc (vb 2) jh)))))))) (jw (qh (xD (l:= .t)))) qr)) (by exact (jg (by exact (xh 4 GB.nd (Pd 3 rfl T.lS))) (by exact (jg (by exact (uj 3)) (by exact (jw (qh (HJ (Vc (l:= .b) (Kv (aL.cK a)) Ky (DE.b (by exact Av.aU c a (jc (dv 1) (jc (dv 0) jh)))) (db 4)) (HI (Vc (l:= .t) (Kv (aL.cK a)) Ky (DE.b (by exact Av.aU c a (jc (dv 0) (jc (dv 1) jh)))) (db 4))))))))))))))))))
theorem Tr {e:FO} {f:Addr} {g:l5} (q:iR K "law" "law" ZJ f g) (h:w9 P w K mg ae k I) (r:xE P w K mg ae k y) (u:ym P w K mg ae k B) (i:yk P w K mg ae k z) (v:w8 P w K mg ae k J) (m:WH P w K mg ae k e) (QK:WI P w K mg ae k U) (n:zx P w K mg ae k x):
  bS P w K mg ae eG (k+1) f g ["_law_script"] (lE K true 1 (aX true 12 (D5 I y B z J e U x))):=
 VQ true q nA λwp A d s H E a=>
  (jg (by exact (j8 1 nA.nd (DE.s (by exact Av.aU h a (jc (by exact (xn (DE.s (qv PJ PK (dv 0) (DE.s (xC (jc fh jh))))) ib)) (jc fh jh)))))) (by exact (jg (by exact (j8 2 nA.nd (DE.s (by exact Av.aU r a (jc (dv 1) jh))))) (by exact (jg (by exact (j8 3 nA.nd (DE.s (by exact Av.aU u a (jc (by exact (gX Ku Kx (vb 1) (Rc ib ib))) jh))))) (by exact (jg (by exact (Ju lU rfl (Pa rfl T.fF (by exact (DE.s (uz (dv 0) zq (zp ib))))) (Qt rfl (jR 4 nA.nd) (jR 5 nA.nd)) (jg (by exact (j8 6 nA.nd (DE.s (by exact Av.aU h a (jc (dv 5) (jc (by exact (DE.s (qv jY qx (dv 4) fh))) jh)))))) (by exact (jg (by exact (j8 7 nA.nd (by exact Av.call v a (jc (by exact (gX Ku Kx (vb 6) ib)) (jc (dv 2) (jc fh (jc (by exact (DE.s (qV (dv 3) (zp ib) zq))) jh))))))) (by exact (jg (by exact (xh 8 nA.nd Wx)) (by exact (jg (by exact (uh 9 nA.nd (by exact om.op 8 m a (dv 7) (DE.s (by exact Av.aU n a (jc (dv 6) (jc fh jh)))) (DE.s (qV (dv 3) zq (zp ib)))))) (by exact (jg (by exact (uh 10 nA.nd (by exact om.op 8 m a (dv 7) (DE.s (by exact Av.aU n a (jc (dv 6) (jc fh jh)))) (DE.s (qV (dv 3) zq (zp ib)))))) (by exact (jg (by exact (wY (xA (qR (by exact Av.iW i a (jc (vb 9) (jc (vb 10) (jc (db 8) jh)))))) (jw (qh (xD (l:= .t)))) qr)) (by exact (jg (by exact (j8 11 nA.nd (DE.s (by exact Av.aU QK a (jc (dv 9) (jc (dv 9) jh)))))) (by exact (jw (wY (DW.dt (Xz (qC ki kB (vb 11) (xZ (l:= .b))) (Js (xA (qR (PN (l':= .b) 11 (by exact (qW (l':= .b) (XG rfl) HX rfl T.rV Ll (jc (by exact (DE.b (yg false ["_law_blank", "_law_itself", "."] 1 [11] (wx none rfl rfl (by decide+kernel) ⟨rfl,trivial⟩ rfl) rfl (PR (dv 11)) (λC o p fp c=>⟨(jR 0 c),wv,(Vc (l:= .s) (xw (aL.cK a)) J3 (DE.b (Qv (wc a) (dv 1) (vb 0))) (vb 0))⟩)))) jh))))))))) (jw (qh (xD (l:= .t)))) qr)))))))))))))))))) (by exact (jw (qh (by exact Av.aU i a (jc (by exact (xn (dv 3) ib)) (jc (by exact (DE.s (Zs (jc (by exact (xn (dv 2) ib)) (jc (by exact (xn (dv 3) ib)) jh))))) (jc (by exact (DE.s (PH (by exact (DE.b (xn (dv 3) ib))) (by exact (DE.s (Zs (jc (by exact (xn (dv 2) ib)) (jc (by exact (xn (dv 3) ib)) jh)))))))) jh))))))))))))))
end
def all_mk {l:AW} {w:World} {K:aA} {h:Heap} {g:UQ} {fa O:Addr} (c:K.In h) (G:h.Ns bY g) (Ts:g "law" =some (.ref fa))
  {Y y:Option Addr} {GD:Array (Option Value)} {GF z B E q H:Value} {d:Addr}
  (d0:cz K "_law_spread" wI)
  (d1:cz K "_law_names" xr)
  (d2:cz K "_law_free" x8)
  (d3:cz K "places" ZI)
  (d4:cz K "level_below" wG)
  (d5:cz K "is_great" yQ)
  (d6:cz K "whole" X1)
  (d7:cz K "head" US)
  (d8:cz K "parts" X2)
  (d9:cz K "blanks" ZK)
  (Tt:cz K "joint" X3)
  (Tu:cz K "_law_whole" xq)
  (Lm:cz K "_law_terms_kind" zi)
  (Ln:cz K "_law_filled" wJ)
  (Tv:cz K "_law_widest" wH)
  (Lo:cz K "_law_blanks" wK)
  (Tx:cz K "_law_good" x6)
  (Tz:cz K "_law_mixed" xt)
  (Lp:cz K "_law_term" x5)
  (Lq:cz K "_law_wider" xp)
  (j0:i5 K d "__init__" "Joining.__init__" ZM)
  (j1:i5 K d "foremost" "Joining.foremost" xu)
  (j2:i5 K d "brings_together" "Joining.brings_together" yR)
  (j3:i5 K d "put_together" "Joining.put_together" X4)
  (j4:i5 K d "made_terms" "Joining.made_terms" ZL)
  (j5:i5 K d "makes" "Joining.makes" JM)
  (r:cE K bY "Joining" =some (some (.ref d))) (I:AH K d Str.empty=true) (J:CI K d=true) (L:EF K d=true) (N:mF K (.ref d) "__setattr__" =some (some (.builtin "object.__setattr__")))
  (GH:mF K (.ref d) "leads" =some none) (GI:AI K d=true) (GK:iP K (.ref d)=true)
  (TB:cE K bY "law" =some (some (.ref O))) (TC:K.lookup O=some ⟨GF,Y,.func (oN "law" "law" (xB ZJ) (qj ZJ) (jf ZJ) .none z B E y q H),GD⟩) (TD:vM K q "law" =true) (TF:iP K (.ref O)=true)
  (z0:cE K bY "isinstance" =some none)
  (z1:cE K bY "tuple" =some none)
  (z2:cE K bY "len" =some none)
  (z3:cE K bY "list" =some none)
  (z4:cE K bY "bool" =some none)
  (z5:cE K bY "int" =some none)
  (z6:cE K bY "range" =some none)
  (z7:cE K bY "divmod" =some none)
  (z8:cE K bY "dict" =some none)
  (z9:cE K bY "sorted" =some none)
  (TH:cE K bY "set" =some none)
  (TJ:cE K bY "enumerate" =some none)
  (TL:cE K bY "all" =some none)
  (GL:cE K bY "max" =some none)
  (GN:cE K bY "min" =some none)
  (GO:cE K bY "zip" =some none)
  (p:cE K bY "reversed" =some none)
  (i: ∃t,cE K bY "MOST_LEVELS" =some (some (.int 60 t)))
  (m: ∃t,cE K bY "MOST_PARTS" =some (some (.int 1000 t)))
  : ∃fd:l5,(∀(s:az) (v:Value),BindsTo s fd ⟨[v],[]⟩ [("_law_script",v)])/\ ∀a:Heap,K.In a->a.Ns bY g->bS l.prog w K g a eG 70 fa fd ["_law_script"] (lE K true 1 oz):=by
 have e:=Ts.symm.trans (wr c G TB);cases e;have T:Gm K  g:=⟨jI c G z0,jI c G z1,jI c G z2,jI c G z3,jI c G z4,jI c G z5,jI c G z6,jI c G z7,jI c G z8,jI c G z9,jI c G TH,jI c G TJ,jI c G TL,jI c G GL,jI c G GN,jI c G GO,jI c G p,i.imp λ_ h=>wr c G h,m.imp λ_ h=>wr c G h⟩
 have U:=HD (st:=ZJ) TC TD TF;refine ⟨oN "law" "law" (xB ZJ) (qj ZJ) (jf ZJ) .none z B E y q H,λs v=> .of_eq rfl,λa _ _=>?_⟩;have V0:w9 l.prog w K g a 1 zd:=QQ (k:=0) T (d0.dx c G pY);have V1:xE l.prog w K g a 1 wo:=ZX (k:=0) T (d1.dx c G lL);have V2:ym l.prog w K g a 1 xc:=Xh (k:=0) T (d2.dx c G lL);have V3:xQ l.prog w K g a 1 jN:=kj (k:=0) T (d3.dx c G lL);have V4:w5 l.prog w K g a 2 qz:=QO (k:=1) T (d4.dx c G lL) (V3.mono (by decide));have V5:Jb l.prog w K g a 3 wE:=Yk (k:=2) T (d5.dx c G lL) (V4.mono (by decide));have V6:YX l.prog w K g a 4 xa:=Th (k:=3) T (d6.dx c G pY) (V5.mono (by decide));have V7:GC l.prog w K g a 1 QI:=Ti (k:=0) T (d7.dx c G lL)
 have V8: ∀n,QG l.prog w K g a (1+n) (qJ n):=by
  intro n
  induction n with
  |zero=>exact DD true (d8.dx c G lL)
  |succ n x=>exact Tj (k:=1+n) T (d8.dx c G lL) (V3.mono (by omega)) x
 have V9:WJ l.prog w K g a 66 xR:=km (k:=65) T (d9.dx c G lL) ((V8 64).mono (by decide));have o:HC K d:=⟨r,I,J,L,N⟩
 have fJ:fQ K "Joining" bo:=⟨d,r,⟨I,J,L,N⟩,GH⟩
 have W0:WL l.prog w K g a 1 qt:=ku (k:=0) T (j0.dm lL) o (wr c G r) ⟨GI,GK⟩ fJ;have W1:q8 l.prog w K g a 1 je:=ZZ (k:=0) T (j1.dm pY) o fJ;have W3:YY l.prog w K g a 1 jv:=To (k:=0) T (j3.dm Dz) o fJ;have W2:Jc l.prog w K g a 2 jE:=Yl (k:=1) T (j2.dm Dz) o (W1.mono (by decide)) (V7.mono (by decide)) (V3.mono (by decide)) (W3.mono (by decide));have W5:QH l.prog w K g a 5 jL:=VC (k:=4) T (j5.dm Dz) o (W1.mono (by decide)) (V3.mono (by decide)) (V6.mono (by decide));have W4:WK l.prog w K g a 6 jT:=kr (k:=5) T (j4.dm pY) o (W1.mono (by decide)) (W5.mono (by decide));have Lr:WI l.prog w K g a 68 wa:=Tp (k:=66) T (Tt.dx c G pY) (W0.mono (by decide)) (W2.mono (by decide)) (W4.mono (by decide)) (W1.mono (by decide)) ((V8 64).mono (by decide)) (V9.mono (by decide));have u:qI l.prog w K g a 1 jq:=ZW (k:=0) T (Tu.dx c G lL);have TM:zt l.prog w K g a 2 qQ:=yA (k:=1) T (Lm.dx c G lL) (u.mono (by decide))
 have Ls: ∀n,zc l.prog w K g a (1+n) (jO n):=by
  intro n
  induction n with
  |zero=>exact DD false (Ln.dx c G pY)
  |succ n x=>exact QR (k:=1+n) T (Ln.dx c G pY) (u.mono (by omega)) x
 have TN:w6 l.prog w K g a 66 zM:=QP (k:=65) T (Tv.dx c G pY) (u.mono (by decide)) ((Ls 64).mono (by decide))
 have TQ: ∀n,zL l.prog w K g a (1+n) (jC n):=by
  intro n
  induction n with
  |zero=>exact DD true (Lo.dx c G lL)
  |succ n x=>exact QS (k:=1+n) T (Lo.dx c G lL) (u.mono (by omega)) x
 have TR:yk l.prog w K g a 69 qY:=Xg (k:=68) T (Tx.dx c G Dz) (Lr.mono (by decide)) (TM.mono (by decide)) ((Ls 64).mono (by decide)) (TN.mono (by decide)) ((TQ 64).mono (by decide));have Q:zx l.prog w K g a 1 jB:=ZY (k:=0) T (Tz.dx c G pY)
 have TU: ∀n,w8 l.prog w K g a (1+n) (qA n):=by
  intro n
  induction n with
  |zero=>exact DD false (Lp.dx c G DC)
  |succ n x=>exact Xf (k:=1+n) T (Lp.dx c G DC) x (Q.mono (by omega))
 have TV: ∀n,WH l.prog w K g a (1+n) (jQ n):=by
  intro n
  induction n with
  |zero=>exact Sa (Lq.dx c G DC) rfl
  |succ n x=>exact Tq (k:=1+n) T (Lq.dx c G DC) (u.mono (by omega)) (Q.mono (by omega)) x
 exact Tr (k:=69) T U (V0.mono (by decide)) (V1.mono (by decide)) (V2.mono (by decide)) (TR.mono (by decide)) ((TU 6).mono (by decide)) ((TV 6).mono (by decide)) (Lr.mono (by decide)) (Q.mono (by decide))
end G
namespace G
open PySem PySem.Spec L2 M
open Builtin.Int (intBits)
def gZ:Str:= "abcdefghijklmnopqrstuvwxyz"
def qB (x:D) (r:List D):cutD (x::r) (some 1) none=r:=by
 have a:HT.bA (x::r).length 0 (some 1)=1:=by
  have:=HT.fW (x::r).length 0 1;simp only [b9] at this ⊢;exact this.trans (by omega)
 unfold cutD;rw [a,HT.eE];simp
def JR {d:D} (h:Fs d=true):jN [d]= .ok (.ar (aN d)):=by
 cases d with
 |ar a=>
  cases a with
  |nil=>rfl
  |cons x r=>
   show aq.ok (D.ar (cutD (x::r) (some 1) none))=_;rw [qB];rfl
 |_=>first|rfl|cases h
def Xm {c:List D} (h:b8 c=true) (o:c.length<=1000):qz [.ah c]= .ok (.ah (below c)):=by
 have key:=Qj (body:=wz (gN 2) (zA 1 (jr 1 jN (jb (af 2) ai)))) (λ(a:List D×Slot)=>[.ab (.ah c),.ag (.ah a.1),a.2]) (λa d=>(a.1++aN d,.ab d)) (λg a=>b8 g=true/\a.1.length+(below g).length<=10000) (λd g a ⟨l,m⟩=>by
  simp only [b8,dj] at l;have e:below (d::g)=aN d++below g:=rfl;rw [e,de] at m;refine ⟨?_,l.2,by simp only [de];omega⟩;show zA 1 (jr 1 jN (jb (af 2) ai)) [.ab (.ah c),.ag (.ah a.1),.ab d]=_;show (aq.ok a.1>>=λg=>jN [d]>>=_)=_;rw [JR (Wn l.1)]
  exact ji (bZ (by omega:_<=10000) (by decide))) c ([],.un) ⟨h,by have:=uY h;simp only [du];omega⟩
 have i: ∀(g:List D) (a:List D×Slot),(g.foldl (λ(a:List D×Slot) d=>(a.1++aN d,Slot.ab d)) a).1=a.1++below g:=by
  intro g
  induction g with
  |nil=>intro a;simp [below]
  |cons d g n=>intro a;rw [List.foldl_cons,n];simp [below]
 have e1:zE jN (zB 3 [.ah c])= .ok (.rt true (.ah (below c))):=by
  unfold zE;have l:zB 3 [.ah c]=[.ab (.ah c),.un,.un]:=rfl;rw [l];show (cR (wz (gN 2) (zA 1 (jr 1 jN (jb (af 2) ai)))) c [.ab (.ah c),.ag (.ah []),.un]>>=_)=_;rw [key];show aq.ok (bD.rt true (D.ah (c.foldl (λ(a:List D×Slot) d=>(a.1++aN d,Slot.ab d)) ([],.un)).1))=_;rw [i];simp
 exact Zo e1
def Zk:Sl->aq bD:=(aB (qg 2 (av (af 2) (cI 1) (nR λi j=>i+j)))
 (aB (qg 3 (av (af 3) (app (jb (af 1) ai) dZ) (nR λi j=>i+j)))
 (aB (dz (ie (aY (av (af 2) (cI 60) rF)) (aY (av (af 3) (cI 1000) rF))) (a7 (cB true)) df)
 (qg 1 (jr 1 qz (jb (af 1) ai))))))
def VO {d:D} {a:List D} {dp ct:Nat} (h:b8 a=true):Zk [.ab d,.ab (.ah a),.ab (.int dp),.ab (.int ct)]=if 60<dp+1\/1000<ct+a.length then .ok (.rt true (.bl true)) else .ok (.nx [.ab d,.ab (.ah (below a)),.ab (.int ((dp+1:Nat):Int)),.ab (.int ((ct+a.length:Nat):Int))]):=by
 have e0:Zk [.ab d,.ab (.ah a),.ab (.int dp),.ab (.int ct)]=((if decide ((60:Int)< (dp:Int)+1)=true then aq.ok true else aq.ok (decide ((1000:Int)< (ct:Int)+a.length)))>>=λb=>(if b=true then aq.ok (bD.rt true (.bl true)) else aq.ok (.nx [.ab d,.ab (.ah a),.ab (.int ((dp:Int)+1)),.ab (.int ((ct:Int)+a.length))])))>>=pP (qg 1 (jr 1 qz (jb (af 1) ai))):=by
   unfold Zk;rw [Jq,K4];show (aB _ _) _=_;rw [Jq];rfl
 rw [e0]
 by_cases c:60<dp+1
 . rw [if_pos (by simp;omega),if_pos (.inl c)];rfl
 . rw [if_neg (by simp;omega)]
   by_cases e:1000<ct+a.length
   . rw [if_pos (.inr e)];have:decide ((1000:Int)< (ct:Int)+a.length)=true:=by simp;omega
     rw [this];rfl
   . rw [if_neg (by omega)];have:decide ((1000:Int)< (ct:Int)+a.length)=false:=by simp;omega
     rw [this];show (qz [.ah a]>>=_)=_;rw [Xm h (by omega)];show aq.ok (bD.nx [.ab d,.ab (.ah (below a)),.ab (.int ((dp:Int)+1)),.ab (.int ((ct:Int)+a.length))])=_;simp
theorem Zj (d:D): ∀(n:Nat) (a:List D) (dp c:Nat),b8 a=true->dp<=60->c<=1000->62<=dp+n->
  ((60<dp+bm a\/1000<c+nums a)->qZ n (gB (af 1)) Zk [.ab d,.ab (.ah a),.ab (.int dp),.ab (.int c)]= .ok (.rt true (.bl true)))/\
  (¬(60<dp+bm a\/1000<c+nums a)-> ∃env,qZ n (gB (af 1)) Zk [.ab d,.ab (.ah a),.ab (.int dp),.ab (.int c)]= .ok (.nx env))
 |0,_,dp,c,_,m,_,o=>by omega
 |n+1,a,dp,c,g,m,o,u=>by
  cases a with
  |nil=>
   simp only [bm,nums];exact ⟨λh=>by omega,λ_=>⟨_,yP rfl⟩⟩
  |cons x r=>
   have e:=VO (d:=d) (dp:=dp) (ct:=c) g;have p:=VN (x::r) (by simp);have q:=VF (x::r)
   by_cases i:60<dp+1\/1000<c+(x::r).length
   . rw [if_pos i] at e;exact ⟨λ_=>Ur rfl e,λh=>absurd (show 60<dp+bm (x::r)\/1000<c+nums (x::r) by omega) h⟩
   . rw [if_neg i] at e;have l:=Zj d n (below (x::r)) (dp+1) (c+(x::r).length) (YC g) (by omega) (by omega) (by omega);rw [JK rfl e,p,q]
     constructor
     . intro h;exact l.1 (by omega)
     . intro h;exact l.2 (by omega)
def lV (d:D):Bool:=decide (60<bF d\/1000<num d)
def TW {d:D} (h:iq d=true):wE [d]= .ok (.bl (lV d)):=by
 have a:=Zj d 2000 [d] 0 0 (by simp [b8,h]) (by omega) (by omega) (by omega);have e1:bm [d]=bF d:=by simp [bm]
 have e2:nums [d]=num d:=by simp [nums]
 rw [e1,e2] at a;simp only [Di] at a
 have e0:xK qz (zB 4 [d])=(qZ 2000 (gB (af 1)) Zk [.ab d,.ab (.ah [d]),.ab (.int ((0:Nat):Int)),.ab (.int ((0:Nat):Int))]>>=pP (a7 (cB false))):=by
   unfold xK;rw [Jq];show (aB _ _) _=_;rw [Jq];rfl
 by_cases c:60<bF d\/1000<num d
 . have:lV d=true:=by simp [lV,c]
   rw [this];refine Zo (o:= .rt true (.bl true)) ?_;rw [e0,a.1 c];rfl
 . have:lV d=false:=by simp [lV];omega
   rw [this];obtain ⟨e,g⟩:=a.2 c;refine Zo (o:= .rt true (.bl false)) ?_;rw [e0,g];rfl
theorem Ve {cs:List Slot} {g:T5} (R:D->Prop) (P:D->Prop) (l: ∀d a,P d-> ∃t,g (.ab d::(cs++[.ag (.ah a)]))= .ok t/\R t):
  ∀(ds:List D) (x:Slot) (a:List D),(∀d∈ds,P d)->a.length+ds.length<=aH->(∀t∈a,R t)->
   ∃(y:Slot) (c:List D),zI (1+cs.length) (gN 0) qo g ds (x::(cs++[.ag (.ah a)]))= .ok (y::(cs++[.ag (.ah c)]))/\c.length=a.length+ds.length/\ ∀t∈c,R t
 | [],x,a,_,_,i=>⟨x,a,rfl,by simp,i⟩
 |d::ds,x,a,m,n,i=>by
  simp only [b9] at n;obtain ⟨t,o,hR⟩:=l d a (m d (by simp))
  obtain ⟨y,c,p,q,r⟩:=Ve R P l ds (.ab d) (a++[t]) (λe v=>m e (by simp [v])) (by simp only [de,b9,du];omega) (λu w=>by
   rcases cW.mp w with h|h
   . exact i u h
   . simp only [bH,p5,or_false] at h
     rw [h];exact hR)
  refine ⟨y,c,?_,by rw [q];simp only [de,b9,du];omega,r⟩
  have e1:cu (1+cs.length) (.ab d::(cs++[.ag (.ah a)]))= .ok a:=by
   unfold cu;rw [show (1+cs.length)=cs.length+1 by omega,rM,eD (aS _)];simp
  have e2:(Slot.ab d::(cs++[Slot.ag (.ah a)])).set (1+cs.length) (.ag (.ah (a++[t])))= .ab d::(cs++[.ag (.ah (a++[t]))]):=by
   rw [show (1+cs.length)=cs.length+1 by omega,List.set_cons_succ,List.set_append_right _ _ (aS _)];simp
  show (g (.ab d::(cs++[.ag (.ah a)]))>>=_)=_;rw [o];show (cu (1+cs.length) (.ab d::(cs++[.ag (.ah a)]))>>=_)=_;rw [e1];show aK _ _=_;rw [ji (by omega)];show zI _ _ _ _ ds ((Slot.ab d::(cs++[Slot.ag (.ah a)])).set (1+cs.length) (.ag (.ah (a++[t]))))=_;rw [e2,p]
def uG {js:List Nat} {fi:TZ} {fe:T5} {env:Sl} {ds:List D} {cs:List Slot} (R:D->Prop) (P:D->Prop) (i:js.map (fO false env)=cs) (l:fi env= .ok ds) (m: ∀d∈ds,P d) (n:ds.length<=aH)
  (o: ∀d g,P d-> ∃t,fe (.ab d::(cs++[.ag (.ah g)]))= .ok t/\R t): ∃a,ze false 1 js fi (gN 0) qo fe env= .ok (.ah a)/\a.length=ds.length/\ ∀t∈a,R t:=by
 obtain ⟨y,a,p,q,r⟩:=Ve R P o ds .un [] m (by simpa using n) (λ_ h=>by cases h);refine ⟨a,?_,by simpa using q,r⟩;have e:js.length=cs.length:=by rw [<-i];simp
 show (fi env>>=_)=_;rw [l];show (zI (1+js.length) (gN 0) qo fe ds (wB false 1 js env)>>=_)=_
 have u:wB false 1 js env= .un::(cs++[.ag (.ah [])]):=by
  unfold wB;rw [i];rfl
 rw [u,e,p];show (cu (1+cs.length) (y::(cs++[.ag (.ah a)]))>>=_)=_
 have e1:cu (1+cs.length) (y::(cs++[.ag (.ah a)]))= .ok a:=by
  unfold cu;rw [show (1+cs.length)=cs.length+1 by omega,rM,eD (aS _)];simp
 rw [e1];exact ji (c:=false=true->D.bC a=true) (λh=>by cases h)
def VX {a c:T5} {env:Sl} {i j:Int} (d:a env= .ok (.int i)) (e:c env= .ok (.int j)) (g:0<j/\j<1073741824):app (jb a (jb c ai)) zV env= .ok (.ar [.int (i/j),.int (i%j)]):=
 zY (jd d (jd e rfl)) (ji g)
def Ja {f:T5} {env:Sl} {a b:Nat} {x y:D} (h:f env= .ok (.ar [x,y])):gC f (g2 (gN a) (gN b)) env= .ok (.nx ((env.set a (.ab x)).set b (.ab y))):=by
 show (f env>>=_)=_;rw [h];rfl
def zy {a c:T5} {env:Sl} {i j:Int} (d:a env= .ok (.int i)) (e:c env= .ok (.int j)) (g:0<j):av a c cc env= .ok (.int (i%j)):=ju d e (ON g)
def wN {c d:T5} {env:Sl} {i j:Int} {a b:Nat} (e:c env= .ok (.int i)) (g:d env= .ok (.int j)) (h:i.natAbs<2^a) (l:j.natAbs<2^b) (m:a+b<=134217728):av c d ff env= .ok (.int (i*j)):=
 ju e g (OM (show intBits i+intBits j<=134217728 from bZ (Nat.add_le_add (PySem.intBits_le_iff.mpr h) (PySem.intBits_le_iff.mpr l)) m))
def zZ {a c:T5} {env:Sl} {i j:Int} (d:a env= .ok (.int i)) (e:c env= .ok (.int j)):av a c bc env= .ok (.int (i+j)):=ju d e rfl
def Jh (c k:Int) (g:0<=k/\k<=1000): ∃m:Int,zd [.int c,.int k]= .ok (.int m)/\0<=m/\m<2^140:=by
 have d:av (cI 10) (cI 40) io [.ab (.int c),.ab (.int k),.un]= .ok (.int (10^40)):=ju rfl rfl (U6 (by decide))
 have e:(k*k).natAbs<2^21:=by
  rw [Int.natAbs_mul];have:k.natAbs<=1000:=by omega
  have:=Nat.mul_le_mul this this;omega
 refine ⟨(c%(10^40+121)*31415926535897932384626433832795+(k*k+3*k+7)*2718281828459045235360287471)%(10^40+121),xm ?_,by omega,by omega⟩;show zG [.ab (.int c),.ab (.int k),.un]=_;unfold zG;rw [jx ((qk (zZ d rfl)).trans rfl)];refine zj (zy (zZ (wN (a:=140) (b:=120) (zy rfl rfl (by omega)) rfl (by omega) (by omega) (by omega)) (wN (a:=30) (b:=120) (zZ (zZ (wN (a:=30) (b:=30) rfl rfl (by omega) (by omega) (by omega)) (wN (a:=30) (b:=30) rfl rfl (by omega) (by omega) (by omega))) rfl) rfl (by omega) (by omega) (by omega))) rfl (by omega))
def wO (m k:Int) (h:0<=m/\m<2^140) (i:0<=k/\k<=1000): ∃c:Int,jB [.int m,.int k]= .ok (.int c)/\0<=c/\c<2^140:=by
 have d: ∀u:Slot,av (cI 10) (cI 30) io [.ab (.int m),.ab (.int k),u]= .ok (.int (10^30)):=λu=>ju rfl rfl (U6 (by decide))
 generalize e:(m*69621+(k+1)*1000003)%(10^30+57)=x;have g:0<=x/\x<2^110:=by omega
 refine ⟨x*x%(10^30+57),xm ?_,by omega,by omega⟩;show wm [.ab (.int m),.ab (.int k),.un]=_;unfold wm;rw [jx (env':=[.ab (.int m),.ab (.int k),.ab (.int x)]) ((qk (zy (zZ (wN (a:=141) (b:=30) rfl rfl (by omega) (by omega) (by omega)) (wN (a:=30) (b:=30) (zZ rfl rfl) rfl (by omega) (by omega) (by omega))) (zZ (d _) rfl) (by omega))).trans (by rw [e];rfl))];exact zj (zy (wN (a:=111) (b:=111) rfl rfl (by omega) (by omega) (by omega)) (zZ (d _) rfl) (by omega))
def isNm:D->Bool| .str z=>(decide (1<=(z.length:Int))&&decide ((z.length:Int)<=8))&&z.cps.toList.all (λc=>gE ⟨#[c]⟩ gZ)|_=>false
def KO (z:Str):isNm (.str z)=((decide (1<=(z.length:Int))&&decide ((z.length:Int)<=8))&&z.cps.toList.all (λc=>gE ⟨#[c]⟩ gZ)):=rfl
def Vm {a:Type} (l:List a) (p:a->Bool):iV [.ah (l.map λc=>D.bl (p c))]= .ok (.bl (l.all p)):=by
 have:l.map (λc=>D.bl (p c))=(l.map p).map D.bl:=by simp
 rw [this];show (match YQ ((l.map p).map D.bl) with|some bs=>aq.ok (D.bl (bs.all id))|none=>aq.aj)=_;rw [Oa];simp
def qG (z:Str):Prop:= ∀c∈z.cps.toList,gE ⟨#[c]⟩ gZ=true
def Yq {a b:Str} (d:qG a) (e:qG b):qG (a++b):=λc g=>by
 have h:c∈(a.cps++b.cps).toList:=g;rw [Array.toList_append,cW] at h;exact h.elim (d c) (e c)
def kQ {z:Str} (lo d:Option Int) (h:qG z):qG (cV z lo d):=λc a=>by
 unfold cV at a
 split at a
 . exact h c a
 . simp only [Aq] at a;obtain ⟨i,_,d⟩:=a;exact h c (by rw [<-fG] at d;exact gt d)
def T1:qG gZ:=by
 intro c a;have:gZ.cps.toList.all (λc=>gE ⟨#[c]⟩ gZ)=true:=by decide+kernel
 exact iE.mp this c a
def Cc {z:Str} {i:Int} (a:0<=i) (d:i<z.length): ∃c,bW (.str z) (.int i)= .ok (.str ⟨#[c]⟩)/\c∈z.cps.toList:=by
 obtain ⟨c,e,g⟩:=Ib (xs:=z.cps.toList) a (by simpa [Str.length] using d);exact ⟨c,by simp only [bW];rw [e],g⟩
def kP {c:Nat} (h:c∈gZ.cps.toList):qG ⟨#[c]⟩:=λx a=>by
 have:x=c:=by simpa using a
 rw [this];exact T1 c h
def Uj (i:Int) (n:Nat) (h:0<=i):(nq none (some i) 1 n).length<=i.toNat:=by
 unfold nq sliceRange;simp only [show (1:Int)>0 by decide,if_true,bN,tZ]
 split<;>(try split)<;>(try split)<;>(try simp only [Int.ediv_one])<;>omega
def Wo (i:Int) (n:Nat) (h:0<=i):(nq (some i) none 1 n).length<=n-i.toNat:=by
 unfold nq sliceRange;simp only [show (1:Int)>0 by decide,if_true,bN,tZ]
 split<;>(try split)<;>(try split)<;>(try simp only [Int.ediv_one])<;>omega
def Lu (z:Str) (lo a:Option Int):(cV z lo a).length<=(nq lo a 1 z.length).length:=by
 unfold cV
 split
 . rename_i h;rw [beq_iff_eq] at h;omega
 . show ((nq lo a 1 z.length).filterMap (z.cps[·]?)).toArray.size<=_;rw [cn];exact List.length_filterMap_le _ _
def WM {z:Str} (a:1<=z.length) (c:z.length<=8) (h:qG z):isNm (.str z)=true:=by
 rw [KO];simp only [dj,decide_eq_true_eq,iE];exact ⟨⟨by omega,by omega⟩,h⟩
def Cd (d:D):Prop:= ∃a:List D,d= .ah a/\a.length=5/\ ∀x∈a,∃z:Str,x= .str z/\isNm (.str z)=true
def Lw:gZ.length=26:=by decide
def Yn (m:Int): ∃d,wo [.int m]= .ok d/\Cd d:=by
 have h:20<=aH:=by decide
 generalize B:m%8=sz;have hs:0<=sz/\sz<8:=by omega
 generalize E:m/8=x;generalize o:x%(sz+1)=e;have ha:0<=e/\e<sz+1:=by rw [<-o];exact ⟨Int.emod_nonneg _ (by omega),Int.emod_lt_of_pos _ (by omega)⟩
 generalize H:x/(sz+1)=y
 obtain ⟨O,Y,I,g,u1,w1,rfl,J,p⟩:=Wl (body:=wz (gN 3) (aB (gC (app (jb (af 0) (jb (cI 26) ai)) zV) (g2 (gN 0) (gN 6))) (qg 2 (av (af 2) (av (af 1) (af 6) bW) bc))))
  (λQ q=> ∃(n:Int) (f:Str) (u w:Slot),q=[.ab (.int n),.ab (.str gZ),.ab (.str f),u,.ab (.int sz),.ab (.int e),w]/\f.length+Q.length=(sz+1).toNat/\qG f)
  (by
   rintro d Q q ⟨n,f,u,w,rfl,L,lw⟩;obtain ⟨c,r,l⟩:=Cc (i:=n%26) (by omega) (by rw [Lw];omega);simp only [b9] at L;have v:(f++(⟨#[c]⟩:Str)).length=f.length+1:=strLen_append _ _;refine ⟨[.ab (.int (n/26)),.ab (.str gZ),.ab (.str (f++(⟨#[c]⟩:Str))),.ab d,.ab (.int sz),.ab (.int e),.ab (.int (n%26))],?_,_,_,_,_,rfl,by rw [v];omega,Yq lw (kP l)⟩;rw [x4 (env':=[.ab (.int n),.ab (.str gZ),.ab (.str f),.ab d,.ab (.int sz),.ab (.int e),w]) rfl];rw [jx (env':=[.ab (.int (n/26)),.ab (.str gZ),.ab (.str f),.ab d,.ab (.int sz),.ab (.int e),.ab (.int (n%26))]) (Ja (VX rfl rfl (by omega)))]
   refine (qk (ju rfl (ju rfl rfl r) (ji (c:=f.length+(⟨#[c]⟩:Str).length<=aH) (bZ (show f.length+1<=8 by omega) (by decide))))).trans rfl)
  (yc 0 (sz+1).toNat) [.ab (.int y),.ab (.str gZ),.ab (.str ""),.un,.ab (.int sz),.ab (.int e),.un] ⟨y, "",.un,.un,rfl,by rw [wA,show ("" :Str).length=0 by decide,Di],λc r=>by cases r⟩
 simp only [du] at J
 obtain ⟨U,N,L,hR⟩:=uG (js:=[2,1,5,0]) (fi:=ig (jb (cI 5) ai)) (fe:=av (av (jW (af 1) qU (qK (af 3)) eB) (av (af 2) (av (av (af 4) (av (cI 5) (af 0) ff) bc) (cI 26) cc) bW) bc) (jW (af 1) (qK (av (af 3) (cI 1) bc)) qU eB) bc)
  (env:=[.ab (.int I),.ab (.str gZ),.ab (.str g),u1,.ab (.int sz),.ab (.int e),w1]) (ds:=yc 0 5) (cs:=[.ab (.str g),.ab (.str gZ),.ab (.int e),.ab (.int I)])
  (λt=> ∃z:Str,t= .str z/\isNm (.str z)=true) (λd=> ∃k:Int,d= .int k/\0<=k/\k<0+(5:Nat)) rfl rfl (λd hd=>J5 hd) (by rw [wA];exact bZ (by decide) h) (by
   rintro d acc ⟨k,rfl,hk0,DU⟩;obtain ⟨c,r,l⟩:=Cc (z:=gZ) (i:=(I+5*k)%26) (by omega) (by rw [Lw];omega);have hA:=bZ (Lu g none (some e)) (Uj e g.length (by omega));have hB:=bZ (Lu g (some (e+1)) none) (Wo (e+1) g.length (by omega));have h1:(cV g none (some e)++(⟨#[c]⟩:Str)).length=(cV g none (some e)).length+1:=strLen_append _ _;have h2:((cV g none (some e)++(⟨#[c]⟩:Str))++cV g (some (e+1)) none).length=(cV g none (some e)++(⟨#[c]⟩:Str)).length+(cV g (some (e+1)) none).length:=strLen_append _ _
   refine ⟨_,ju (ju (za rfl rfl (q9 rfl) rfl) (ju rfl (zy (zZ rfl (wN (a:=10) (b:=10) rfl rfl (by omega) (by omega) (by omega))) rfl (by omega)) r) (ji (c:=(cV g none (some e)).length+(⟨#[c]⟩:Str).length<=aH) (bZ (show _+1<=20 by omega) h))) (za rfl (q9 (ju rfl rfl rfl)) rfl rfl) (ji (c:=_+_<=aH) (by omega)),_,rfl,WM (by omega) (by omega) (Yq (Yq (kQ _ _ p) (kP l)) (kQ _ _ p))⟩)
 refine ⟨.ah U,xm ?_,U,rfl,by rw [L,wA],hR⟩;show wl [.ab (.int m),.un,.un,.un,.un,.un,.un]=_;unfold wl;rw [jx (env':=[.ab (.int m),.ab (.str gZ),.un,.un,.un,.un,.un]) rfl];rw [jx (env':=[.ab (.int x),.ab (.str gZ),.un,.un,.ab (.int sz),.un,.un]) ((Ja (VX rfl rfl (by omega))).trans (by rw [E,B];rfl))];rw [jx (env':=[.ab (.int y),.ab (.str gZ),.un,.un,.ab (.int sz),.ab (.int e),.un]) ((Ja (VX (i:=x) (j:=sz+1) rfl (ju rfl rfl rfl) (by omega))).trans (by rw [H,o];rfl))];rw [jx (env':=[.ab (.int y),.ab (.str gZ),.ab (.str ""),.un,.ab (.int sz),.ab (.int e),.un]) rfl];rw [jx ((Zm (ds:=yc 0 (sz+1).toNat) (X6 (jd (ju rfl rfl rfl) rfl) (by omega))).trans Y)];exact zj N
def jZ:20000<=aH:=by decide
def jV {k:Nat} (h:k<=20000):k<=aH:=bZ h jZ
def cw:D->Bool
 | .ar _=>true
 |_=>false
def GP (x:D) (r:List D):cutD (x::r) none (some 1)=[x]:=by
 unfold cutD;rw [HT.eE,show (some (1:Int))=some ((1:Nat):Int) from rfl,HT.fW];simp only [List.drop_zero,Nat.sub_zero,b9];rw [show min 1 (r.length+1)=1 by omega];rfl
def Ce (a:List Str) (d:D):Prop:=d= .ah (a.map .str)/\a.length=5/\ ∀z∈a,isNm (.str z)=true
def WN {d:D} (h:Cd d): ∃a,Ce a d:=by
 obtain ⟨c,rfl,l,m⟩:=h
 have key: ∀c:List D,(∀x∈c,∃z:Str,x= .str z/\isNm (.str z)=true)-> ∃a:List Str,c=a.map .str/\ ∀z∈a,isNm (.str z)=true:=λc=>by
  induction c with
  |nil=>intro _;exact ⟨[],rfl,λ_ h=>by cases h⟩
  |cons x r n=>
   intro h;obtain ⟨z,rfl,o⟩:=h _ (ci ..);obtain ⟨a,rfl,g⟩:=n λy i=>h y (by simp [i])
   refine ⟨z::a,rfl,λy i=>?_⟩;rcases bH.mp i with e|e
   . rw [e];exact o
   . exact g y e
 obtain ⟨a,rfl,g⟩:=key c m;exact ⟨a,rfl,by simpa using l,g⟩
section
variable {ns:List Str}
def Lx {ns:List Str} {d:D} (h:Ce ns d) (i:Int) (c:0<=i) (l:i<5): ∃z:Str,bW d (.int i)= .ok (.str z)/\z∈ns:=by
 obtain ⟨rfl,m,_⟩:=h;obtain ⟨x,a,e⟩:=Fv (ds:=ns.map .str) c (by rw [bN];omega);obtain ⟨z,g,rfl⟩:=bP.mp e;exact ⟨z,a,g⟩
def Zg {t:D} (h:tk ns t=true):gF "tuple" t= .ok (.bl (cw t)):=by
 rcases jy h with ⟨i,rfl⟩| ⟨z,a,rfl,_⟩<;>rfl
def Z3 {t:D} (h:tk ns t=true):Fs t=true:=Wn (Ql t h)
end
section
variable {ns:List Str} {fs:List Int}
def zT (z:Str) (a:List D):bF (.ar (.str z::a))=1+bm a:=by rw [Zi];rfl
def ya (z:Str) (a:List D):num (.ar (.str z::a))=1+nums a:=by rw [Q9];rfl
def wy (z:Str) (a:List D):ce (.ar (.str z::a))=fP a:=by simp [ce]
def wZ (i:Int):ce (.int i)=[i]:=by simp [ce]
def WO {a b:Int}:il (.int a) (.int b)= .ok (.bl (!(a==b))):=by
 unfold il;rw [ji (by left;simp [D.cA,D.ca])];simp [ck]
structure Gt (ns:List Str) (fs:List Int) (h n:Nat) (t:D):Prop where
 tk:tk ns t=true
 hg:bF t<=h
 nm:num t<=n
 bk: ∀x∈ce t,x∈fs
theorem fX {h:Nat}: ∀ {ts:List D},(∀t∈ts,bF t<=h)->bm ts<=h
 | [],_=>by simp [bm]
 |x::r,k=>by
  have a:=k x (by simp);have b:=fX (ts:=r) λt c=>k t (by simp [c])
  simp only [bm];omega
theorem kF {n:Nat}: ∀ {ts:List D},(∀t∈ts,num t<=n)->nums ts<=ts.length*n
 | [],_=>by simp [nums]
 |x::r,k=>by
  have a:=k x (by simp);have b:=kF (ts:=r) λt c=>k t (by simp [c])
  simp only [nums,b9,Nat.add_mul,Nat.one_mul];omega
def Cf {f g:T5} {env:Sl} {a b:D} (h:f env= .ok a) (k:g env= .ok b):dM (jb f (jb g ai)) env= .ok (.ar [a,b]):=Ia (jd h (jd k rfl)) (jV (by simp))
end
theorem Kr: ∀(n:Nat) (d:D),iq d=true->bF d<=n->num d<=1000->qJ n [d]= .ok (.ah (aZ d))
 |0,d,_,h,_=>by have:=y0 d;omega
 |n+1,d,l,m,o=>by
  have p:=Qm l;rw [Zi] at m;rw [Q9] at o
  have key:=Qj (body:=wz (gN 2) (zA 1 (jr 1 (qJ n) (jb (af 2) ai)))) (λa=>[.ab d,.ag (.ah a.1),a.2]) (λa e=>(a.1++aZ e,.ab e)) (λc a=>b8 c=true/\bm c<=n/\a.1.length+nums c<=1000) (λe c a ⟨i,q,r⟩=>by
   simp only [b8,dj] at i;simp only [bm] at q;simp only [nums] at r;have v:=wq e;refine ⟨?_,i.2,by omega,by simp only [de];omega⟩;show zA 1 (jr 1 (qJ n) (jb (af 2) ai)) [.ab d,.ag (.ah a.1),.ab e]=_;show (aq.ok a.1>>=λc=>qJ n [e]>>=_)=_;rw [Kr n e i.1 (by omega) (by omega)]
   exact ji (bZ (by omega:_<=10000) (by decide))) (aN d) ([d],.un) ⟨p.1,by omega,by simp only [b9,du];omega⟩
  have g: ∀(c:List D) a,(c.foldl (λa e=>(a.1++aZ e,Slot.ab e)) a).1=a.1++ee c:=by
   intro c
   induction c with
   |nil=>intro a;simp [ee]
   |cons d c u=>intro a;rw [List.foldl_cons,u];simp [ee]
  have e1:Qi jN (qJ n) (zB 3 [d])= .ok (.rt true (.ah (aZ d))):=by
   have e0:Qi jN (qJ n) (zB 3 [d])=((jN [d]>>=C2)>>=λc=>cR (wz (gN 2) (zA 1 (jr 1 (qJ n) (jb (af 2) ai)))) c [.ab d,.ag (.ah [d]),.un])>>=pP (a7 (rA 1)):=by
    unfold Qi;rw [Jq];show (aB _ _) _=_;rw [Jq];rfl
   rw [e0,JR (Wn l)];show (cR _ (aN d) _>>=_)=_;rw [key];rw [g,JP];rfl
  exact Zo e1
section
variable {ns:List Str} {fs:List Int}
def mP:D->Bool
 | .int _=>true
 |_=>false
def Y4 {t:D} (h:tk ns t=true):jq [t]= .ok (.bl (mP t)):=by
 rcases jy h with ⟨i,rfl⟩| ⟨z,a,rfl,_⟩<;>rfl
def WD: ∀t,tk ns t=true->(ce t).length<=num t:=qD (λi=>by simp [ce,num]) λz e _ _ h=>by
 rw [wy,ya]
 have: ∀a:List D,(∀u∈a,(ce u).length<=num u)->(fP a).length<=nums a:=λa=>by
  induction a with
  |nil=>intro _;simp [fP,nums]
  |cons d r g=>
   intro h;have l:=h d (by simp);have m:=g λu c=>h u (by simp [c])
   simp only [fP,nums,de];omega
 have:=this e λu c=>(h u c).2
 omega
def fK (l:List Int):List D:=l.map λ_=> .bl true
def Xx (l:List Int) (x:Int):xS (aO l) (.inl x)=aO (ins l x)/\xT (aO l) (fK l) (.inl x) (.bl true)=fK (ins l x):=by
 unfold xS xT ins;rw [Wg]
 by_cases h:x∈l
 . simp only [h,decide_true,if_true,true_and];clear h
   induction l with
   |nil=>rfl
   |cons a l c=>
    simp only [aO,fK,cY,oU] at c ⊢;rw [c];simp
 . simp [h,aO,fK]
def vv (l:List Int) (x:Int):(ins l x).length<=l.length+1:=by
 unfold ins;split<;>simp
def nB (t:D):List Int:=met [] (eO (aZ t))
theorem yh (t:Slot): ∀(ds:List D) (a:List Int) (u:Slot),(∀d∈ds,tk ns d=true)->a.length+ds.length<=2000-> ∃l,cR (wz (gN 2) (dz (cr (aY (bU "tuple" (af 2)))) (Wt 1 (af 2) (cB true)) df)) ds [t,.ag (.aJ (aO a) (fK a)),u]= .ok (.nx [t,.ag (.aJ (aO (met a (eO ds))) (fK (met a (eO ds)))),l])
 | [],a,u,_,_=>⟨u,rfl⟩
 |d::ds,a,u,h,q=>by
  simp only [b9] at q;have p:=h d (by simp);have g:cr (aY (bU "tuple" (af 2))) [t,.ag (.aJ (aO a) (fK a)),.ab d]= .ok (!cw d):=zR (jM (by rw [vO];exact Zg p));rcases jy p with ⟨i,rfl⟩| ⟨z,m,rfl,_⟩
  . obtain ⟨r,v⟩:=Xx a i;have w:(aO a).length<aH:=by rw [yY];exact eV (by omega) jZ
    have c:wz (gN 2) (dz (cr (aY (bU "tuple" (af 2)))) (Wt 1 (af 2) (cB true)) df) (.int i) [t,.ag (.aJ (aO a) (fK a)),u]= .ok (.nx [t,.ag (.aJ (aO (ins a i)) (fK (ins a i))),.ab (.int i)]):=by
     rw [x4 (env':=[t,.ag (.aJ (aO a) (fK a)),.ab (.int i)]) rfl,mR g];show aK ((aO a).length<aH) (aq.ok (bD.nx [t,.ag (.aJ (xS (aO a) (.inl i)) (xT (aO a) (fK a) (.inl i) (.bl true))),.ab (.int i)]))=_;rw [ji w,r,v]
    have:=vv a i;obtain ⟨l,n⟩:=yh t ds (ins a i) (.ab (.int i)) (λe o=>h e (by simp [o])) (by omega);exact ⟨l,by rw [xy c,n];rfl⟩
  . have c:wz (gN 2) (dz (cr (aY (bU "tuple" (af 2)))) (Wt 1 (af 2) (cB true)) df) (.ar (.str z::m)) [t,.ag (.aJ (aO a) (fK a)),u]= .ok (.nx [t,.ag (.aJ (aO a) (fK a)),.ab (.ar (.str z::m))]):=by
     rw [x4 (env':=[t,.ag (.aJ (aO a) (fK a)),.ab (.ar (.str z::m))]) rfl,dh g];rfl
    obtain ⟨l,n⟩:=yh t ds a (.ab (.ar (.str z::m))) (λe o=>h e (by simp [o])) (by omega);exact ⟨l,by rw [xy c,n];rfl⟩
def uV {t:D} (c:tk ns t=true) (e:bF t<=64) (g:num t<=1000):xR [t]= .ok (.ah ((nB t).map .int)):=by
 have h:=Kr 64 t (Ql t c) e g;have d:=wq t;obtain ⟨u,i⟩:=yh (.ab t) (aZ t) [] .un (UZ t c) (by simp only [du];omega);have a:gV (jr 1 (qJ 64) (jb (af 0) ai)) [.ab t,.ag (.aJ [] []),.un]= .ok (aZ t):=Qa (jz (jd rfl rfl) rfl h) rfl;refine xm ?_;unfold Wk;rw [jx (env':=[.ab t,.ag (.aJ [] []),.un]) rfl];rw [jx ((Zm a).trans i)];show a7 (app (jb (af 1) ai) Dd) [.ab t,.ab (.aJ (aO (nB t)) (fK (nB t))),u]=_;refine zj (zY (jd rfl rfl) ?_);show aK _ _=_;rw [ji (by simp [aO])];simp [aO,kD,Function.comp_def]
def KW (z:Str) (a:List D):QI [.ar (.str z::a)]= .ok (oM (z,(a.length:Int))):=by
 refine xm ?_;refine (zj ?_).trans rfl;refine Ia (jd (ju rfl rfl C8) (jd ?_ rfl)) (jV (show 2<=20000 by decide));exact ju (zY (jd rfl rfl) rfl) rfl (congrArg (λx=>aq.ok (D.int x)) (show ((D.str z::a).length:Int)-1=(a.length:Int) by simp only [b9];omega))
end
theorem KG {n:Nat} (t:Slot): ∀(ds:List D) (a:List Int) (u:Slot),(∀d∈ds,jC n [d]= .ok (.ah ((ce d).map .int))/\(ce d).length<=num d)->a.length+nums ds<=2000->
  ∃(g:Slot),cR (wz (gN 2) (zA 1 (jr 1 (jC n) (jb (af 2) ai)))) ds [t,.ag (.ah (a.map .int)),u]= .ok (.nx [t,.ag (.ah ((a++fP ds).map .int)),g])
 | [],a,u,_,_=>⟨u,by simp [cR,fP]⟩
 |d::r,a,u,h,i=>by
  obtain ⟨l,m⟩:=h d (by simp);simp only [nums] at i ⊢;obtain ⟨g,o⟩:=KG t r (a++ce d) (.ab d) (λe p=>h e (by simp [p])) (by simp only [de];omega);refine ⟨g,?_⟩
  have s:wz (gN 2) (zA 1 (jr 1 (jC n) (jb (af 2) ai))) d [t,.ag (.ah (a.map .int)),u]= .ok (.nx [t,.ag (.ah ((a++ce d).map .int)),.ab d]):=by
   rw [x4 (env':=[t,.ag (.ah (a.map .int)),.ab d]) rfl];have q:jr 1 (jC n) (jb (af 2) ai) [t,.ag (.ah (a.map .int)),.ab d]= .ok (.ah ((ce d).map .int)):=jz (jd rfl rfl) rfl l;show (aq.ok (a.map D.int)>>=λds=>jr 1 (jC n) (jb (af 2) ai) [t,.ag (.ah (a.map .int)),.ab d]>>=_)=_;rw [q];refine (ji (c:=(a.map D.int).length+((ce d).map D.int).length<=aH) (by simp only [bN];exact jV (by omega))).trans ?_;rw [iH];rfl
  rw [xy s,o];simp only [fP,fy]
theorem Z7: ∀(n:Nat) (t:D),tk v t=true->bF t<=n->num t<=1000->jC n [t]= .ok (.ah ((ce t).map .int))
 |0,t,_,h,_=>by have:=y0 t;omega
 |n+1,t,o,q,l=>by
  have c:aY (jr 1 jq (jb (af 0) ai)) [.ab t,.un,.un]= .ok (mP t):=jM (jz (jd rfl rfl) rfl (Y4 o));rcases jy o with ⟨i,rfl⟩| ⟨z,r,rfl,w,y,p⟩
  . refine xm ?_;show qO jq (jC n) [.ab (.int i),.un,.un]=_;unfold qO;rw [wZ];exact UK ((mR c).trans (zj (Zd (jd rfl rfl) (jV (by simp)))))
  . rw [zT] at q;rw [ya] at l
    have g: ∀d∈r,num d<=nums r:=λd e=>by
     obtain ⟨a,b,rfl⟩:=List.append_of_mem e;rw [KA];simp only [nums];omega
    obtain ⟨B,u⟩:=KG (n:=n) (.ab (.ar (.str z::r))) r [] .un (λd e=>⟨Z7 n d (p d e) (by have:=wj e;omega) (by have:=g d e;omega),WD d (p d e)⟩) (by simp only [du];omega);refine xm ?_;show qO jq (jC n) [.ab (.ar (.str z::r)),.un,.un]=_;unfold qO;have m:jW (af 0) (qK (cI 1)) qU eB [.ab (.ar (.str z::r)),.ag (.ah []),.un]= .ok (.ar r):=za (x:= .ar (.str z::r)) (lo:=some 1) (hi:=none) rfl (q9 rfl) rfl (show aq.ok (D.ar (cutD (.str z::r) (some 1) none))=_ by rw [qB]);rw [jx ((dh c).trans rfl)];rw [jx (env':=[.ab (.ar (.str z::r)),.ag (.ah []),.un]) rfl];rw [wy];exact (jx ((Zm (ds:=r) (Qa m rfl)).trans u)).trans rfl
section
variable {ns:List Str}
mutual
def sub (a:Int->D):D->D
 | .int i=>a i
 | .ar (x::r)=> .ar (x::subs a r)
 |d=>d
def subs (a:Int->D):List D->List D
 | []=>[]
 |d::r=>sub a d::subs a r
end
theorem Ka (a:Int->D): ∀c,subs a c=c.map (sub a)
 | []=>by simp [subs]
 |d::r=>by simp [subs,Ka a r]
def qS (a:Int->D) (z:Str) (c:List D):sub a (.ar (.str z::c))= .ar (.str z::c.map (sub a)):=by simp [sub,Ka]
def sub_int (a:Int->D) (i:Int):sub a (.int i)=a i:=by simp [sub]
def XU {a:Int->D} (h: ∀i,tk ns (a i)=true): ∀t,tk ns t=true->tk ns (sub a t)=true:=qD (λi=>by rw [sub_int];exact h i) λz m c d e=>by
 rw [qS];refine Vt c (by simpa using d) λu g=>?_
 obtain ⟨t,l,rfl⟩:=bP.mp g;exact (e t l).2
def Jr: ∀t,tk ns t=true->D.cA t=true/\D.ca t<=bF t:=qD (λi=>by simp [D.cA,D.ca]) λz c _ e h=>by
 have d:D.bE c=true:=Qo λt a=>((h t a).2).1
 have g:D.bI c<=bm c:=Qu λt a=>bZ ((h t a).2).2 (wj a)
 rw [zT];refine ⟨by simp [D.cA,D.bE,d],?_⟩;simp only [D.ca,D.bI];omega
def Y0: ∀t,tk ns t=true->ck t t=true:=qD (λi=>by simp [ck]) λz c _ d h=>by
 simp only [ck,bV,beq_self_eq_true,Bool.true_and];exact Qp λt a=>(h t a).2
def look (ks:List aT) (ds:List D) (i:Int):D:=(ba ks ds (.inl i)).getD (.int i)
def Y7 {ks:List aT} {ds:List D} {k:aT} {d:D} (h:ba ks ds k=some d):d∈ds:=by
 unfold ba at h
 cases a:(ks.zip ds).find? λp=>decide (p.1=k) with
 |none=>rw [a] at h;cases h
 |some c=>rw [a] at h;cases h;exact (ph (u5 a)).2
def Y1 {ks:List aT} {ds:List D} (h: ∀d∈ds,tk ns d=true) (i:Int):tk ns (look ks ds i)=true:=by
 unfold look
 cases e:ba ks ds (.inl i) with
 |none=>rfl
 |some d=>exact h d (Y7 e)
def jaN {ks:List aT} {ds:List D} {B:Nat} (a:1<=B) (h: ∀d∈ds,bF d<=B) (i:Int):bF (look ks ds i)<=B:=by
 unfold look
 cases e:ba ks ds (.inl i) with
 |none=>simp [bF];omega
 |some d=>exact h d (Y7 e)
theorem Qn {ks:List aT} {ds:List D} {dd:D} (l:dd= .aJ ks ds\/dd= .bG ks ds): ∀(n:Nat) (t:D),tk ns t=true->bF t<=n->jO n [t,dd]= .ok (sub (look ks ds) t)
 |0,t,_,h=>by have:=y0 t;omega
 |n+1,t,p,q=>by
  have e:aY (jr 1 jq (jb (af 0) ai)) [.ab t,.ab dd]= .ok (mP t):=jM (jz (jd rfl rfl) rfl (Y4 p));rcases jy p with ⟨i,rfl⟩| ⟨z,r,rfl,w,y,u⟩
  . refine Ft ?_;show qN jq (jO n) [.ab (.int i),.ab dd]=_;unfold qN;rw [sub_int];exact UK ((mR e).trans (UT (by rcases l with rfl|rfl<;>rfl)))
  . rw [zT] at q;have o:jW (af 0) (qK (cI 1)) qU eB [.ab (.ar (.str z::r)),.ab dd]= .ok (.ar r):=za (x:= .ar (.str z::r)) (lo:=some 1) (hi:=none) rfl (q9 rfl) rfl (show aq.ok (D.ar (cutD (.str z::r) (some 1) none))=_ by rw [qB])
    have g:ze false 1 [1] (gV (jW (af 0) (qK (cI 1)) qU eB)) (gN 0) qo (jr 2 (jO n) (jb (af 0) (jb (af 1) ai))) [.ab (.ar (.str z::r)),.ab dd]= .ok (.ah (r.map (sub (look ks ds)))):=by
     refine C9 (c:= .ab dd) rfl (sub (look ks ds)) (λd=>d∈r) (Qa o rfl) (λd m=>m) (jV (by omega)) ?_;intro d v m;refine jz (jd rfl (jd rfl rfl)) rfl (Qn l n d (u d m) ?_);have:=wj m;omega
    refine xm ?_;show qN jq (jO n) [.ab (.ar (.str z::r)),.ab dd]=_;unfold qN;rw [jx ((dh e).trans rfl),qS];exact zj (zY (jd (ju (Zd (jd (ju rfl rfl C8) rfl) (jV (by simp))) g (yi (a:=[.str z]) (b:=r.map (sub (look ks ds))) (by rw [bN];simp only [b9,du];exact jV (by omega)))) rfl) rfl)
end
open Classical in
def root:List (D×D)->D->D
 | [],x=>x
 |p::L,x=>if x=p.1 then root L p.2 else root L x
def lc (L:List (D×D)):Prop:=L.Pairwise (λp q=>q.1≠p.1/\q.2≠p.1)/\ ∀p∈L,p.2≠p.1
def lc.tail {p:D×D} {L:List (D×D)} (h:lc (p::L)):lc L:=⟨(oi.mp h.1).2,λq a=>h.2 q (cv _ a)⟩
theorem JO: ∀ {L:List (D×D)} {x:D},x∉L.map (·.1)->root L x=x
 | [],_,_=>rfl
 |p::L,x,h=>by
  rw [root,if_neg (λe:x=p.1=>h (by rw [e];exact ci))];exact JO λz=>h (cv _ z)
theorem ZN {a:D}: ∀ {L:List (D×D)} {x:D},(∀q∈L,q.2≠a)->x≠a->root L x≠a
 | [],_,_,h=>h
 |p::L,x,c,h=>by
  rw [root]
  split
  . exact ZN (λq m=>c q (cv _ m)) (c p ci)
  . exact ZN (λq m=>c q (cv _ m)) h
theorem yw: ∀ {L:List (D×D)} {x:D},lc L->root L x∉L.map (·.1)
 | [],_,_=>λh=>nomatch h
 |p::L,x,h=>by
  have a: ∀q∈L,q.2≠p.1:=λq c=>((oi.mp h.1).1 q c).2
  rw [root];intro z;rcases bH.mp z with e|e
  . split at e
    . exact ZN a (h.2 p ci) e
    . rename_i d;exact ZN a d e
  . split at e
    . exact yw h.tail e
    . exact yw h.tail e
theorem JN: ∀ {L:List (D×D)} {k v:D},lc L->(k,v)∈L->root L k=root L v
 |p::L,k,v,h,m=>by
  have a: ∀q∈L,q.1≠p.1/\q.2≠p.1:=λq c=>(oi.mp h.1).1 q c
  rcases bH.mp m with e|e
  . subst e;rw [root,if_pos rfl,root,if_neg (h.2 _ ci)]
  . rw [root,if_neg (a _ e).1,root,if_neg (a _ e).2];exact JN h.tail e
open Classical in
theorem lc.snoc {L:List (D×D)} {a b:D} (h:lc L) (i:a∉L.map (·.1)) (l:b∉L.map (·.1)) (d:b≠a):lc (L++[(a,b)]):=
 ⟨F7.mpr ⟨h.1,List.pairwise_singleton _ _,λp c q g=>by
  rw [f7] at g;subst g
  exact ⟨λe=>i (bP.mpr ⟨p,c,e.symm⟩),λe=>l (bP.mpr ⟨p,c,e.symm⟩)⟩⟩,λp c=>by
  rcases cW.mp c with z|z
  . exact h.2 p z
  . rw [f7] at z;subst z;exact d⟩
theorem ql {d:Type} (a:D->d): ∀ {L:List (D×D)} {x:D},(∀p∈L,a p.1=a p.2)->a (root L x)=a x
 | [],_,_=>rfl
 |p::L,x,h=>by
  have c: ∀q∈L,a q.1=a q.2:=λq g=>h q (cv _ g)
  rw [root]
  split
  . rename_i e;rw [ql a c,e,h p ci]
  . exact ql a c
section
variable {ns:List Str}
def Z9 {ds:List D} {k:NK} (h:cy (.ar ds)=some k): ∃l,k= .ar l/\bQ ds=some l:=by
 cases e:bQ ds with
 |none=>
  have:cy (.ar ds)=none:=congrArg (λz:Option (List NK)=>match z with|some l=>some (NK.ar l)|none=>none) e;rw [this] at h;cases h
 |some l=>
  rw [vf e] at h;cases h;exact ⟨l,rfl,rfl⟩
theorem Xp: ∀ {ds a:List D} {l:List NK},(∀d∈ds,∀e∈a,∀k,cy d=some k->cy e=some k->d=e)->bQ ds=some l->bQ a=some l->ds=a
 | [],[],_,_,_,_=>rfl
 | [],e::a,l,_,c,g=>by
  obtain ⟨k,r,rfl,_,_⟩:=zm g;cases c
 |d::ds,[],l,_,c,g=>by
  obtain ⟨k,r,rfl,_,_⟩:=zm c;cases g
 |d::ds,e::a,l,h,c,g=>by
  obtain ⟨k,r,rfl,i,m⟩:=zm c;obtain ⟨v,w,n,o,p⟩:=zm g;cases n;rw [h d (by simp) e (by simp) k i o,Xp (λx q y u=>h x (by simp [q]) y (by simp [u])) m p]
def jaV: ∀a,tk ns a=true-> ∀b,tk ns b=true-> ∀k,cy a=some k->cy b=some k->a=b:=
 qD (P:=λa=> ∀b,tk ns b=true-> ∀k,cy a=some k->cy b=some k->a=b) (λi b g k h c=>by
  cases h;rcases jy g with ⟨j,rfl⟩| ⟨z,r,rfl,_⟩
  . cases c;rfl
  . obtain ⟨l,e,_⟩:=Z9 c;cases e) λz E H I m b g k h c=>by
  obtain ⟨l,rfl,e1⟩:=Z9 h;obtain ⟨J,L,rfl,n,o⟩:=zm e1;cases n;rcases jy g with ⟨j,rfl⟩| ⟨N,r,rfl,_,_,p⟩
  . cases c
  . obtain ⟨l,e,e2⟩:=Z9 c;cases e;obtain ⟨O,Q,q,u,v⟩:=zm e2;cases q;cases u;rw [Xp (λd w e B k x y=>(m d w).2 e (p e B) k x y) o v]
def KK {a b:D} {k:NK} (c:tk ns a=true) (d:tk ns b=true) (e:bh a=some k) (g:bh b=some k):a=b:=
 jaV a c b d k (Z8 e).1 (Z8 g).1
theorem J9: ∀ {L:List (D×D)} {ks:List NK} {x:D} {k:NK},(∀p∈L,tk ns p.1=true)->tk ns x=true->bh x=some k->wb L=some ks->(k∈ks↔x∈L.map (·.1))
 | [],ks,x,k,_,_,_,c=>by cases c;simp
 |p::L,ks,x,k,d,g,h,c=>by
  unfold wb at c
  cases e1:bh p.1 with
  |none=>rw [e1] at c;cases c
  |some a=>
   cases e2:wb L with
   |none=>rw [e1,e2] at c;cases c
   |some l=>
    rw [e1,e2] at c;cases c;have i:=J9 (λq m=>d q (cv _ m)) g h e2;rw [bH,cY,bH,i];refine or_congr ⟨λe=>?_,λe=>?_⟩ .rfl
    . subst e;exact KK g (d p ci) h e1
    . rw [e,e1] at h;cases h;rfl
def jfW {L:List (D×D)} {ks:List NK} {x:D} {k:NK} (c: ∀p∈L,tk ns p.1=true) (d:tk ns x=true) (h:bh x=some k) (a:wb L=some ks): ∃b:Bool,BV L x= .ok (.bl b)/\(b=true↔x∈L.map (·.1)):=by
 refine ⟨decide (k∈ks),?_,by rw [decide_eq_true_iff];exact J9 c d h a⟩;unfold BV;rw [h,a]
def jdP {L:List (D×D)} {ks:List NK} {x:D} {k:NK} (c: ∀p∈L,tk ns p.1=true) (d:tk ns x=true) (h:bh x=some k) (g:wb L=some ks) (i:x∈L.map (·.1)): ∃v,(x,v)∈L/\oj L x= .ok v:=by
 unfold oj;rw [h,g];dsimp only
 cases e:L.find? λp=>decide (bh p.1=some k) with
 |none=>
  obtain ⟨p,a,rfl⟩:=bP.mp i;have:=Cq.mp e p a;rw [h] at this;simp at this
 |some p=>
  have a:=u5 e;have l:bh p.1=some k:=by simpa using Cr e
  have:=KK (c p a) d l h;exact ⟨p.2,by rw [<-this];exact a,rfl⟩
def jc2 {L:List (D×D)} {ks:List NK} {x v:D} {k:NK} (d: ∀p∈L,tk ns p.1=true) (e:tk ns x=true) (h:bh x=some k) (a:wb L=some ks) (g:x∉L.map (·.1)) (i:L.length<10000):lP L x v= .ok (jD (L++[(x,v)])):=by
 unfold lP;rw [h,a];dsimp only;exact ji (c:=k∉ks/\L.length<aH) ⟨λz=>g ((J9 d e h a).mp z),by have:20000<=aH:=jZ;omega⟩
end
open Classical in
def dp:List (D×D)->D->Nat
 | [],_=>0
 |p::L,x=>if x=p.1 then 1+dp L p.2 else dp L x
theorem GQ: ∀(L:List (D×D)) (x:D),dp L x<=L.length
 | [],_=>aS _
 |p::L,x=>by
  have a:=GQ L p.2;have c:=GQ L x;rw [dp,b9]
  split<;>omega
theorem uq: ∀ {L:List (D×D)} {k v:D},lc L->(k,v)∈L->dp L k=1+dp L v
 |p::L,k,v,h,m=>by
  have a: ∀q∈L,q.1≠p.1/\q.2≠p.1:=λq c=>(oi.mp h.1).1 q c
  rcases bH.mp m with e|e
  . subst e;rw [dp,if_pos rfl,dp,if_neg (h.2 _ ci)]
  . rw [dp,if_neg (a _ e).1,dp,if_neg (a _ e).2];exact uq h.tail e
section
variable {ns:List Str}
def GR (ns:List Str) (L:List (D×D)):Prop:=(∀p∈L,tk ns p.1=true/\tk ns p.2=true/\ ∃k,bh p.2=some k)/\(∃ks,wb L=some ks)/\lc L
theorem Xw {L:List (D×D)} (h:GR ns L): ∀(n:Nat) (x:D),dp L x<n->tk ns x=true->(∃k,bh x=some k)->qZ n (aY (BW 0 (af 1))) (qg 1 (p6 0 (af 1))) [.ab (jD L),.ab x]= .ok (.nx [.ab (jD L),.ab (root L x)])
 |0,_,q,_,_=>absurd q (zU _)
 |n+1,x,q,r,⟨k,u⟩=>by
  obtain ⟨c,⟨ks,l⟩,m⟩:=h;have a: ∀p∈L,tk ns p.1=true:=λp y=>(c p y).1
  obtain ⟨b,e,w⟩:=jfW a r u l
  have e2:BW 0 (af 1) [.ab (jD L),.ab x]= .ok (.bl b):=by
   show (aq.ok x>>=λo=>aq.ok (jD L)>>=λd=>mn d>>=λL=>BV L o)=_;rw [jn,jn,Jn,jn];exact e
  cases b with
  |false=>
   rw [yP (jM e2),JO λz=>by have:=w.mpr z;cases this]
  |true=>
   obtain ⟨v,i,g⟩:=jdP a r u l (w.mp rfl)
   have g2:p6 0 (af 1) [.ab (jD L),.ab x]= .ok v:=by
    show (aq.ok (jD L)>>=λd=>mn d>>=λL=>aq.ok x>>=λo=>oj L o)=_;rw [jn,Jn,jn,jn];exact g
   have B:=uq m i;rw [JK (jM e2) (qk g2),JN m i];exact Xw ⟨c,⟨ks,l⟩,m⟩ n v (by omega) (c _ i).2.1 (c _ i).2.2
def jcU {L:List (D×D)} (h: ∀p∈L,tk ns p.2=true): ∀ {x:D},tk ns x=true->tk ns (root L x)=true:=by
 induction L with
 |nil=>exact λa=>a
 |cons p L c=>
  intro x a;have d: ∀q∈L,tk ns q.2=true:=λq e=>h q (cv _ e)
  rw [root]
  split
  . exact c d (h p ci)
  . exact c d a
def vJ {L:List (D×D)} (h:GR ns L) (c:L.length<300) {x:D} (a:tk ns x=true) (d: ∃k,bh x=some k):je [jD L,x]= .ok (root L x):=by
 refine xm ?_;show qT [.ab (jD L),.ab x]=_;unfold qT;rw [jx (Xw h 300 x (rT (GQ L x) c) a d)];exact zj (Vf rfl (Qg _ (jcU (λp e=>(h.1 p e).2.1) a)))
def xU {t:T4} {a c:Sl->aq bf} {env:Sl} {b:Bool} {d:aq bf} (h:t env= .ok b) (e:(if b=true then a env else c env)=d):i3 t a c env=d:=by unfold i3;rw [h];exact e
def X9 {L:List (D×D)} {c e:T5} {a b x v d:D} (g:c [.ag (jD L),.ab a,.ab b]= .ok x) (i:e [.ag (jD L),.ab a,.ab b]= .ok v) (h:lP L x v= .ok d):m5 0 c e [.ag (jD L),.ab a,.ab b]= .ok (.nx [.ag d,.ab a,.ab b]):=by
 unfold m5;rw [i,jn,g,jn];show (mn (jD L)>>=λL=>lP L x v>>=_)=_;rw [Jn,jn,h];rfl
def fR (a b:D):D:=if cw a=true then b else if cw b=true then a else match a,b with
 | .int i,.int j=> .int (if j>i then j else i)
 |a,_=>a
def g8 (a b:D):D:=if cw a=true then a else if cw b=true then b else match a,b with
 | .int i,.int j=> .int (if j<i then j else i)
 |a,_=>a
def GS {L:List (D×D)} {a b d:D} (c:tk ns a=true) (g:tk ns b=true) (h:lP L (fR a b) (g8 a b)= .ok d):jv (jD L) [a,b]= .ok (.aV,d):=by
 have l:aY (bU "tuple" (af 1)) [.ag (jD L),.ab a,.ab b]= .ok (cw a):=jM (by show (aq.ok a>>=gF "tuple")=_;rw [jn];exact Zg c);have m:aY (bU "tuple" (af 2)) [.ag (jD L),.ab a,.ab b]= .ok (cw b):=jM (by show (aq.ok b>>=gF "tuple")=_;rw [jn];exact Zg g)
 have n:j7 [.ag (jD L),.ab a,.ab b]= .ok (.nx [.ag d,.ab a,.ab b]):=by
  unfold j7;refine xU l ?_;unfold fR g8 at h
  cases e:cw a with
  |true=>
   rw [e] at h;rw [if_pos rfl];rw [if_pos rfl,if_pos rfl] at h;exact X9 rfl rfl h
  |false=>
   rw [e] at h;rw [if_neg (by decide)];simp only [fT,if_false] at h;refine xU m ?_
   cases e2:cw b with
   |true=>
    rw [e2] at h;rw [if_pos rfl];simp only [if_true] at h;exact X9 rfl rfl h
   |false=>
    rw [e2] at h;rw [if_neg (by decide)];simp only [fT,if_false] at h;rcases jy c with ⟨i,rfl⟩| ⟨z,r,rfl,_⟩
    . rcases jy g with ⟨j,rfl⟩| ⟨z,r,rfl,_⟩
      . exact X9 rfl rfl h
      . cases e2
    . cases e
 unfold jv gI;refine (ji rfl).trans ?_;show (j7 [.ag (jD L),.ab a,.ab b]>>=_)=_;rw [n];rfl
theorem bM {x:D}: ∀ {ts:List D},x∈ee ts↔ ∃t∈ts,x∈aZ t
 | []=>by simp [ee]
 |d::r=>by simp [ee,bM (ts:=r)]
def xI (t:D):t∈aZ t:=by rw [JP];exact ci
theorem Kz {d:D}: ∀ {a:List D},d∈a->num d<=nums a
 |x::r,h=>by
  simp only [nums];rcases bH.mp h with e|e
  . rw [e];omega
  . have:=Kz e;omega
def KH {x y:D} (h:y∈aN x):num y<num x:=by rw [Q9 x];have:=Kz h;omega
def jfJ {x y:D} (h:y∈aN x):bF y<bF x:=by rw [Zi x];have:=wj h;omega
theorem Kk: ∀(n:Nat) (t:D),num t<=n-> ∀ {x:D},x∈aZ t->num x<=num t/\bF x<=bF t/\ ∀y∈aN x,y∈aZ t
 |0,t,h,_,_=>by have:=yX t;omega
 |n+1,t,h,x,l=>by
  rw [JP] at l ⊢;rcases bH.mp l with e|e
  . subst e;exact ⟨aS _,aS _,λy d=>cv _ (bM.mpr ⟨y,d,xI y⟩)⟩
  . obtain ⟨u,g,i⟩:=bM.mp e;have m:=KH g;have o:=jfJ g;obtain ⟨a,b,c⟩:=Kk n u (by omega) i;exact ⟨by omega,by omega,λy d=>cv _ (bM.mpr ⟨u,g,c y d⟩)⟩
def YR {i:Int}: ∀t,tk ns t=true->(i∈ce t↔D.int i∈aZ t):=qD (λj=>by simp [ce,aZ]) λz d _ _ h=>by
 rw [wy,zX,JP,tF,bH,bM]
 constructor
 . rintro ⟨t,a,c⟩;exact .inr ⟨t,a,(h t a).2.mp c⟩
 . rintro (e| ⟨t,a,c⟩)
   . cases e
   . exact ⟨t,a,(h t a).2.mpr c⟩
theorem KS {i:Int}: ∀ {l:List D},i∈eO l↔D.int i∈l
 | []=>by simp [eO]
 |d::r=>by
  have a:=KS (i:=i) (l:=r);cases d<;>simp [eO,a]
def WW {a ψ:Int->D}: ∀t,tk ns t=true->(∀i∈ce t,a i=ψ i)->sub a t=sub ψ t:=qD (λi h=>by rw [sub_int,sub_int];exact h i (by rw [wZ];simp)) λz g _ _ h d=>by
 rw [qS,qS];congr 2;exact lK λt c=>(h t c).2 λi e=>d i (by rw [wy];exact YS c e)
def UC: ∀t,tk ns t=true->sub D.int t=t:=qD (λi=>sub_int _ i) λz c _ _ h=>by
 rw [qS];congr 2;exact (lK λt a=>(h t a).2).trans (List.map_id _)
def JF (a:Int->D) (z:Str) (c:List D):aN (sub a (.ar (.str z::c)))=c.map (sub a):=by rw [qS];rfl
def jds (c:Int->D): ∀t,tk ns t=true->num t<=num (sub c t)/\bF t<=bF (sub c t):=qD (λi=>by rw [sub_int];exact ⟨yX _,y0 _⟩) λz e _ g h=>by
 clear g;rw [Q9 (sub c _),Zi (sub c _),JF,ya,zT]
 have:nums e<=nums (e.map (sub c))/\bm e<=bm (e.map (sub c)):=by
  induction e with
  |nil=>exact ⟨aS _,aS _⟩
  |cons d r l=>
   have a:=(h d (by simp)).2;have b:=l λu m=>h u (by simp [m])
   simp only [cY,nums,bm];omega
 omega
def U0 (a:Int->D) {x:D}: ∀t,tk ns t=true->x∈aZ t->sub a x∈aZ (sub a t):=qD (λi h=>by
   have:x= .int i:=by simpa [aZ] using h
   rw [this];exact xI _) λz l _ _ h d=>by
 rw [JP] at d ⊢;rcases bH.mp d with e|e
 . rw [e];exact ci
 . obtain ⟨u,g,c⟩:=bM.mp e;rw [JF];exact cv _ (bM.mpr ⟨sub a u,tL g,(h u g).2 c⟩)
def twin {c g:Int->D} (n: ∀i j,c j= .int i->i<=j) (o: ∀i j,g j= .int i->i<=j): ∀v,tk ns v=true-> ∀u,tk ns u=true->sub c v=u->sub g u=v->u=v:=qD (λj u d e1 e2=>by
  rw [sub_int] at e1;rcases jy d with ⟨i,rfl⟩| ⟨z,r,rfl,_⟩
  . rw [sub_int] at e2;have:=n i j e1;have:=o j i e2;rw [show i=j by omega]
  . rw [qS] at e2;cases e2) λz a _ _ h u d e1 e2=>by
 subst e1;rw [qS] at e2 d ⊢;rw [qS,iI] at e2;have p:a.map (sub g ∘ sub c)=a:=by injection e2 with e;injection e
 congr 2
 have l: ∀t∈a,tk ns (sub c t)=true:=λt l=>by
  rcases jy d with ⟨i,e⟩| ⟨w,r,e,_,_,q⟩
  . cases e
  . injection e with e;injection e with _ e;exact q _ (by rw [<-e];exact tL l)
 have:a.map (sub c)=a.map id:=lK λt m=>by
  refine (h t m).2 _ (l t m) rfl ?_;have:=List.map_inj_left.mp (p.trans (List.map_id a).symm) t m;exact this
 rw [this,List.map_id]
def nD:D->Option (D×Nat)
 | .ar (x::r)=>some (x,r.length)
 |_=>none
structure dB (ns:List Str) (S:List D) (L:List (D×D)):Prop where
 dQ: ∀x∈S,tk ns x=true
 ms: ∀x∈S,∀y∈aN x,y∈S
 lW:lc L
 gE: ∀p∈L,p.1∈S/\p.2∈S
 Ag: ∀p∈L,(cw p.1=true->cw p.2=true)/\ ∀i j,p=(.int i,.int j)->j<i
 Cg: ∀p∈L,cw p.1=true->nD p.1=nD p.2/\(aN p.1).map (root L)=(aN p.2).map (root L)
theorem yU {S:List D}: ∀ {L:List (D×D)} {x:D},(∀p∈L,p.2∈S)->x∈S->root L x∈S
 | [],_,_,h=>h
 |p::L,x,a,h=>by
  have c: ∀q∈L,q.2∈S:=λq d=>a q (cv _ d)
  rw [root]
  split
  . exact yU c (a p ci)
  . exact yU c h
theorem Kf {l:Type} (F:D->l): ∀ {L:List (D×D)} {x:D},(∀p∈L,cw p.1=true->cw p.2=true/\F p.1=F p.2)->cw x=true->cw (root L x)=true/\F (root L x)=F x
 | [],_,_,h=>⟨h,rfl⟩
 |p::L,x,g,h=>by
  have i: ∀q∈L,cw q.1=true->cw q.2=true/\F q.1=F q.2:=λq m=>g q (cv _ m)
  rw [root]
  split
  . rename_i e;obtain ⟨a,b⟩:=g p ci (by rw [<-e];exact h);obtain ⟨c,d⟩:=Kf F i a;exact ⟨c,by rw [d,<-b,e]⟩
  . exact Kf F i h
theorem X5: ∀ {L:List (D×D)} {b j:Int},(∀p∈L,(tk ns p.1=true/\tk ns p.2=true)/\(cw p.1=true->cw p.2=true)/\ ∀i j,p=(.int i,.int j)->j<i)->root L (.int b)= .int j->j<=b
 | [],b,j,_,h=>by cases h;exact Int.le_refl _
 |p::L,b,j,g,h=>by
  have a: ∀q∈L,(tk ns q.1=true/\tk ns q.2=true)/\(cw q.1=true->cw q.2=true)/\ ∀i j,q=(.int i,.int j)->j<i:=λq d=>g q (cv _ d)
  rw [root] at h;obtain ⟨⟨_,l⟩,n,m⟩:=g p ci
  split at h
  . rename_i e;rcases jy l with ⟨c,e2⟩| ⟨z,r,e2,_⟩
    . rw [e2] at h;have:=X5 a h;have:=m b c (Prod.ext e.symm e2);omega
    . have:cw (root L p.2)=true:=(Kf (λ_=>()) (λq d x=>⟨(a q d).2.1 x,rfl⟩) (by rw [e2];rfl)).1;rw [h] at this;cases this
  . exact X5 a h
def Mf (L:List (D×D)):Nat->D->D
 |0,x=>x
 |n+1,x=>match root L x with
  | .ar (z::a)=> .ar (z::a.map (Mf L n))
  |d=>d
def Mk (L:List (D×D)) (x:D):D:=Mf L 200 x
def GU {L:List (D×D)} {n:Nat} {x:D} {i:Int} (h:root L x= .int i):Mf L (n+1) x= .int i:=by rw [Mf,h]
def GV {L:List (D×D)} {n:Nat} {x z:D} {a:List D} (h:root L x= .ar (z::a)):Mf L (n+1) x= .ar (z::a.map (Mf L n)):=by rw [Mf,h]
structure j9 (ns:List Str) (S:List D) (L:List (D×D)) (U:Int->D):Prop where
 rs: ∀p∈L,sub U p.1=sub U p.2
 nm: ∀x∈S,num (sub U x)<=100
 hg: ∀x∈S,bF (sub U x)<=50
variable {S:List D} {L:List (D×D)} {U:Int->D}
def dB.rt (k:dB ns S L) {x:D} (h:x∈S):root L x∈S/\tk ns (root L x)=true/\root L (root L x)=root L x:=
 have a:=yU (λp c=>(k.gE p c).2) h
 ⟨a,k.dQ _ a,JO (yw k.lW)⟩
def dB.kt (k:dB ns S L) (b:j9 ns S L U) {x:D} (h:x∈S) {z:Str} {c:List D} (e:root L x= .ar (.str z::c)): ∀t∈c,t∈S/\num (sub U t)<num (sub U x):=λt d=>by
 have a:=(k.rt h).1;refine ⟨k.ms _ a t (by rw [e];exact d),?_⟩;rw [<-ql (sub U) b.rs (x:=x),e];exact KH (by rw [JF];exact tL d)
theorem dB.aP (k:dB ns S L) (b:j9 ns S L U): ∀(n m:Nat) (x:D),x∈S->num (sub U x)<=n->n<=m->Mf L m x=Mf L n x
 |0,_,x,_,h,_=>by have:=yX (sub U x);omega
 |n+1,0,_,_,_,h=>by omega
 |n+1,m+1,x,d,l,o=>by
  rcases jy (k.rt d).2.1 with ⟨i,e⟩| ⟨z,p,e,_⟩
  . rw [GU e,GU e]
  . rw [GV e,GV e];congr 2;refine lK λt g=>?_
    obtain ⟨a,c⟩:=k.kt b d e t g;exact k.aP b n m t a (by omega) (by omega)
def dB.mt (k:dB ns S L) (b:j9 ns S L U) {x z:D} {d:List D} (h:x∈S) (e:root L x= .ar (z::d)):Mk L x= .ar (z::d.map (Mk L)):=by
 have m:=e;rcases jy (k.rt h).2.1 with ⟨i,e2⟩| ⟨n,g,e2,_⟩
 . rw [e2] at e;cases e
 . rw [e2] at e;cases e;unfold Mk;rw [GV e2];congr 2;refine lK λt l=>?_
   obtain ⟨a,c⟩:=k.kt b h e2 t l;have:=b.nm t a;exact (k.aP b 199 200 t a (by omega) (by omega)).symm
def Jx {x:D} {i:Int} (h:root L x= .int i):Mk L x= .int i:=GU h
def dB.gk (k:dB ns S L) {x:D} (h:x∈S):Mk L (root L x)=Mk L x:=by
 unfold Mk Mf;rw [(k.rt h).2.2]
def dB.ind (k:dB ns S L) (b:j9 ns S L U) {P:D->Prop} (h1: ∀x∈S,∀i,root L x= .int i->P x) (h2: ∀x∈S,∀z ts,z∈ns->ts.length<=9->root L x= .ar (.str z::ts)->(∀t∈ts,t∈S/\P t)->P x): ∀x∈S,P x:=by
 have: ∀(n:Nat) (x:D),num (sub U x)<=n->x∈S->P x:=λn=>by
  induction n with
  |zero=>intro x h;have:=yX (sub U x);omega
  |succ n g=>
   intro x o d;rcases jy (k.rt d).2.1 with ⟨i,e⟩| ⟨z,ts,e,hz,l,_⟩
   . exact h1 x d i e
   . exact h2 x d z ts hz l e λt m=>by
      obtain ⟨a,c⟩:=k.kt b d e t m;exact ⟨a,g t (by omega) a⟩
 exact λx d=>this _ x (aS _) d
def dB.u0 (k:dB ns S L) (b:j9 ns S L U): ∀x∈S,tk ns (Mk L x)=true:=k.ind b (λx _ i e=>by rw [Jx e];rfl) λx a z l hz c e h=>by
 rw [k.mt b a e]
 exact Vt hz (by simpa using c) λu d=>by
  obtain ⟨t,g,rfl⟩:=bP.mp d;exact (h t g).2
def dB.Ly (k:dB ns S L) (b:j9 ns S L U): ∀x∈S,∀i∈ce (Mk L x),D.int i∈S/\root L (.int i)= .int i:=k.ind b (λx c j e i a=>by
  rw [Jx e,wZ] at a;have:i=j:=by simpa using a
  subst this;have:=k.rt c;rw [e] at this
  exact ⟨this.1,this.2.2⟩) λx c z l hz m e h i a=>by
 rw [k.mt b c e,wy,zX] at a;obtain ⟨u,d,a⟩:=tF.mp a;obtain ⟨t,g,rfl⟩:=bP.mp d;exact (h t g).2 i a
def dB.keep (k:dB ns S L) (b:j9 ns S L U) {a:Int->D} (c: ∀p∈L,sub a p.1=sub a p.2): ∀x∈S,sub a (Mk L x)=sub a x:=k.ind b (λx d i e=>by
  rw [Jx e,<-e,ql (sub a) c (x:=x)]) λx d z l hz m e h=>by
 rw [k.mt b d e,qS,<-ql (sub a) c (x:=x),e,qS,iI];congr 2;exact lK λt g=>(h t g).2
def Sg (L:List (D×D)) (i:Int):D:=Mk L (.int i)
def dB.again (k:dB ns S L) (b:j9 ns S L U): ∀x∈S,sub (Sg L) (Mk L x)=Mk L x:=k.ind b (λx a i e=>by
  rw [Jx e,sub_int];unfold Sg
  rw [<-e,k.gk a,Jx e,e]) λx a z d hz g e h=>by
 rw [k.mt b a e,qS,iI];congr 2;exact lK λt c=>(h t c).2
def dB.GW (k:dB ns S L) (b:j9 ns S L U): ∀x,tk ns x=true->x∈S->sub (Sg L) x=Mk L x:=qD (λi _=>sub_int _ i) λz a _ _ h l=>by
 obtain ⟨_,e⟩:=Kf (L:=L) (λd=>(nD d,(aN d).map (root L))) (λp o x=>⟨(k.Ag p o).1 x,Prod.ext (k.Cg p o x).1 (k.Cg p o x).2⟩) (x:= .ar (.str z::a)) rfl;have e1:nD (root L (.ar (.str z::a)))=some (.str z,a.length):=congrArg (·.1) e;have e2:(aN (root L (.ar (.str z::a)))).map (root L)=a.map (root L):=congrArg (·.2) e;rcases jy (k.rt l).2.1 with ⟨i,g⟩| ⟨r,m,g,_,_,c⟩
 . rw [g] at e1;cases e1
 . rw [g] at e1 e2;cases (show r=z by injection e1 with e;injection e with e _;injection e);have e2:m.map (root L)=a.map (root L):=e2;rw [k.mt b l g,qS];congr 2;have q: ∀t∈a,t∈S:=λt n=>k.ms _ l t n
   have v: ∀u∈m,u∈S:=λu c=>(k.kt b l g u c).1
   have w:m.map (Mk L)=(m.map (root L)).map (Mk L):=by
    rw [iI];exact lK λu c=>(k.gk (v u c)).symm
   have y:a.map (Mk L)=(a.map (root L)).map (Mk L):=by
    rw [iI];exact lK λu c=>(k.gk (q u c)).symm
   rw [w,e2,<-y];exact lK λt n=>(h t n).2 (q t n)
def dB.least (k:dB ns S L) (b:j9 ns S L U) {i j:Int} (d:D.int i∈S) (h:Sg L i= .int j):j<=i/\D.int j∈S/\Sg L j= .int j:=by
 have l:j∈ce (Mk L (.int i)):=by
   show j∈ce (Sg L i);rw [h,wZ];simp
 obtain ⟨a,c⟩:=k.Ly b _ d j l;refine ⟨?_,a,Jx c⟩;rcases jy (k.rt d).2.1 with ⟨m,e⟩| ⟨z,n,e,_⟩
 . have:Mk L (.int i)= .int m:=Jx e;rw [show Mk L (.int i)= .int j from h] at this;cases this;exact X5 (ns:=ns) (λp g=>⟨⟨k.dQ _ (k.gE p g).1,k.dQ _ (k.gE p g).2⟩,k.Ag p g⟩) e
 . have:Mk L (.int i)=_:=k.mt b d e;rw [show Mk L (.int i)= .int j from h] at this;cases this
def dB.o7 (k:dB ns S L) (b:j9 ns S L U): ∀x∈S,num (Mk L x)<=100/\bF (Mk L x)<=50:=λx a=>by
 have h:=jds U _ (k.u0 b x a);rw [k.keep b b.rs x a] at h;have:=b.nm x a;have:=b.hg x a;omega
theorem Xq: ∀ {ts:List D} {n:Nat},(∀t∈ts,∃k,cy t=some k/\k.ca<=n/\oW k=t/\k.short=true)-> ∃l,bQ ts=some l/\NK.bI l<=n/\mW l=ts/\NK.eh l=true
 | [],_,_=>⟨[],rfl,dR _,rfl,rfl⟩
 |t::r,n,h=>by
  obtain ⟨k,a,b,c,d⟩:=h t (by simp);obtain ⟨l,e,o,g,i⟩:=Xq (ts:=r) λu m=>h u (by simp [m])
  refine ⟨k::l,Yu a e,?_,?_,?_⟩
  . show max k.ca (NK.bI l)<=n;omega
  . show oW k::mW l=_;rw [c,g]
  . show (k.short&&NK.eh l)=true;rw [d,i];rfl
def jdG (m: ∀z∈ns,z.length<=aH): ∀t,tk ns t=true-> ∃k,cy t=some k/\k.ca<=bF t/\oW k=t/\k.short=true:=qD (λi=>⟨.int i,rfl,dR _,rfl,rfl⟩) λz e o _ h=>by
 obtain ⟨l,a,b,c,d⟩:=Xq (ts:=e) (n:=bm e) λt g=>by
   obtain ⟨k,a,b,c⟩:=(h t g).2;exact ⟨k,a,bZ b (wj g),c⟩
 refine ⟨.ar (.str z::l),vf (Yu rfl a),?_,?_,?_⟩
 . rw [zT];show max 0 (NK.bI l)+1<=_;omega
 . show D.ar (.str z::mW l)=_;rw [c]
 . show (decide (z.length<=aH)&&NK.eh l)=true;rw [d,decide_eq_true (m z o)];rfl
def nk (d:D):NK:=(bh d).getD (.int 0)
def jdF (g: ∀z∈ns,z.length<=aH) {t:D} (h:tk ns t=true) (l:bF t<=8):bh t=some (nk t)/\oW (nk t)=t/\(nk t).short=true:=by
 obtain ⟨k,a,b,c,d⟩:=jdG g t h
 have:bh t=some k:=by
  unfold bh;rw [a];show (if k.ca<=8/\k.nE=true then some k else none)=_;rw [if_pos];refine ⟨by omega,?_⟩
  cases k with
  |str z=>
   rcases jy h with ⟨i,rfl⟩| ⟨z,r,rfl,_⟩
   . cases c
   . cases c
  |_=>rfl
 have e:nk t=k:=by unfold nk;rw [this];rfl
 rw [e];exact ⟨this,c,d⟩
def D7: ∀t,tk ns t=true->nb t=true:=qD (λ_=>rfl) λz c _ _ h=>Io λd a=>by
 rcases bH.mp a with rfl|e
 . rfl
 . exact (h d e).2
def vQ {a b:D} (d:tk ns a=true) (e:tk ns b=true) (h:bF a<=100): ∃x:Bool,dN a b= .ok (.bl x)/\(x=true↔a=b):=by
 have g:=Jr a d;refine ⟨ck a b,ji (c:=rE a b) (.inl ⟨g.1,(Jr b e).1,by omega⟩),YG a (D7 a d) b (D7 b e)⟩
def jdv {a b:D} (d:tk ns a=true) (e:tk ns b=true) (h:bF a<=100): ∃x:Bool,il a b= .ok (.bl x)/\(x=false↔a=b):=by
 have g:=Jr a d;refine ⟨!ck a b,ji (c:=rE a b) (.inl ⟨g.1,(Jr b e).1,by omega⟩),?_⟩;rw [Bool.not_eq_false'];exact YG a (D7 a d) b (D7 b e)
def jfA (z y:Str) (i j:Int): ∃x:Bool,il (oM (z,i)) (oM (y,j))= .ok (.bl x)/\(x=false↔z=y/\i=j):=by
 refine ⟨!ck (oM (z,i)) (oM (y,j)),ji (c:=rE (oM (z,i)) (oM (y,j))) (.inl ⟨by rfl,by rfl,by simp [oM,D.ca,D.bI]⟩),?_⟩;rw [Bool.not_eq_false',YG _ rfl _ rfl]
 constructor
 . intro e;injection e with e;injection e with e1 e2;injection e2 with e2;injection e1 with e1;injection e2 with e2;exact ⟨e1,e2⟩
 . rintro ⟨rfl,rfl⟩;rfl
def sJ {a c:Sl->aq bf} {env e':Sl} (h:a env= .ok (.nx e')):bB a c env=c e':=by unfold bB;rw [h];rfl
def D8 {a e:Sl->aq bf} {env c:Sl} {d:D} (h:a env= .ok (.rt d c)):bB a e env= .ok (.rt d c):=by unfold bB;rw [h];rfl
def sJc {a d:Sl->aq bf} {env c:Sl} (h:a env= .ok (.ct c)):bB a d env= .ok (.ct c):=by unfold bB;rw [h];rfl
def JB {j:Nat} {f:T5} {env:Sl} {d:D} (h:f env= .ok d):yt j f env= .ok (.nx (env.set j (.ab d))):=by unfold yt;rw [h];rfl
def jcK {n:Nat} {t:Sl->aq (Bool×Sl)} {g:Sl->aq bf} {env e1:Sl} (h:t env= .ok (false,e1)):xf (n+1) t g env= .ok (.nx e1):=by unfold xf;rw [h];rfl
def jeH {n:Nat} {t:Sl->aq (Bool×Sl)} {g:Sl->aq bf} {env e1 e2:Sl} (h:t env= .ok (true,e1)) (a:g e1= .ok (.nx e2)\/g e1= .ok (.ct e2)):xf (n+1) t g env=xf n t g e2:=by
 rw [xf,h];show (g e1>>=_)=_;rcases a with e|e<;>rw [e]<;>rfl
def D9 {F:TY} {j:Nat} {f:T5} {env:Sl} {L:List (D×D)} {x y:D} (a:cJ j env= .ok (jD L)) (c:f env= .ok x) (d:F [jD L,x]= .ok y) (e:y.eK=true):fx (wt 2 F j (jb f ai)) env= .ok y:=by
 refine Vf ?_ e;unfold wt;rw [a,jn,Jn,jn,jd c rfl,jn];exact (ji rfl).trans d
abbrev pD (p:D×D):D:= .ar [p.1,p.2]
structure dH (ns:List Str) (S:List D):Prop where
 nm: ∀z∈ns,z.length<=aH
 dQ: ∀x∈S,tk ns x=true
 hg: ∀x∈S,bF x<=8
 ms: ∀x∈S,∀y∈aN x,y∈S
 len:S.length<=188
structure Bi (ns:List Str) (S:List D) (one Y:D) (L W:List (D×D)):Prop where
 lW:lc L
 gE: ∀p∈L,p.1∈S/\p.2∈S
 wS: ∀p∈W,p.1∈S/\p.2∈S
 Ag: ∀p∈L,(cw p.1=true->cw p.2=true)/\ ∀i j,p=(.int i,.int j)->j<i
 hd: ∀p∈L,cw p.1=true->nD p.1=nD p.2
 o4: ∀φ:Int->D,sub φ one=sub φ Y->(∀p∈L,sub φ p.1=sub φ p.2)/\ ∀p∈W,sub φ p.1=sub φ p.2
 con: ∀f:D->D,(∀p∈L,f p.1=f p.2)->(∀p∈W,f p.1=f p.2)->f one=f Y/\ ∀p∈L,cw p.1=true->(aN p.1).map f=(aN p.2).map f
def dH.key {S:List D} (s:dH ns S) {x:D} (h:x∈S):bh x=some (nk x)/\oW (nk x)=x/\(nk x).short=true:=jdF s.nm (s.dQ x h) (s.hg x h)
theorem KI: ∀ {L:List (D×D)},(∀p∈L,∃k,bh p.1=some k)-> ∃ks,wb L=some ks
 | [],_=>⟨[],rfl⟩
 |p::L,h=>by
  obtain ⟨k,a⟩:=h p ci;obtain ⟨ks,b⟩:=KI (L:=L) λq c=>h q (cv _ c)
  exact ⟨k::ks,by unfold wb;rw [a,b]⟩
def dH.Lz {S:List D} (s:dH ns S) {L:List (D×D)} (h: ∀p∈L,p.1∈S/\p.2∈S) (c:lc L):GR ns L:=
 ⟨λp a=>⟨s.dQ _ (h p a).1,s.dQ _ (h p a).2,_,(s.key (h p a).2).1⟩,KI λp a=>⟨_,(s.key (h p a).1).1⟩,c⟩
def dH.short {S:List D} (s:dH ns S) {L:List (D×D)} (h: ∀p∈L,p.1∈S/\p.2∈S) (c:lc L):L.length<=188:=by
 have a:(L.map (·.1)).Nodup:=Ab.mpr (c.1.imp λh e=>h.1 e.symm)
 have:=zS a (m:=S) λx d=>by
  obtain ⟨p,g,rfl⟩:=bP.mp d;exact (h p g).1
 rw [bN] at this;have:=s.len;omega
def dH.oB {S:List D} (s:dH ns S) {L:List (D×D)} (h: ∀p∈L,p.1∈S/\p.2∈S) (c:lc L) {x:D} (d:x∈S):je [jD L,x]= .ok (root L x)/\root L x∈S/\(root L x).eK=true:=
 have a:=yU (λp e=>(h p e).2) d
 ⟨vJ (s.Lz h c) (by have:=s.short h c;omega) (s.dQ x d) ⟨_,(s.key d).1⟩,a,Qg _ (s.dQ _ a)⟩
theorem Ul {f:D->D}: ∀ {c d:List D},c.map f=d.map f-> ∀p∈c.zip d,f p.1=f p.2
 | [],_,_,p,a=>by simp at a
 |_::_,[],_,p,a=>by simp at a
 |t::c,u::d,h,p,a=>by
  simp only [cY,Al] at h;rcases bH.mp a with rfl|e
  . exact h.1
  . exact Ul h.2 p e
theorem kN {f:D->D}: ∀ {a c:List D},a.length=c.length->(∀p∈a.zip c,f p.1=f p.2)->a.map f=c.map f
 | [],[],_,_=>rfl
 | [],_::_,h,_=>by simp at h
 |_::_,[],h,_=>by simp at h
 |t::a,u::c,h,k=>by
  rw [cY,cY,k (t,u) ci,kN (by simpa using h) λp d=>k p (cv _ d)]
def jfc {u v:D} (d:tk ns u=true) (g:tk ns v=true) (h:u≠v):((fR u v=u/\g8 u v=v)\/(fR u v=v/\g8 u v=u))/\(cw (fR u v)=true->cw (g8 u v)=true)/\(∀i j,(fR u v,g8 u v)=(.int i,.int j)->j<i)/\(cw (fR u v)=true->fR u v=v/\g8 u v=u/\cw u=true):=by
 rcases jy d with ⟨i,rfl⟩| ⟨z,l,rfl,_⟩
 . rcases jy g with ⟨j,rfl⟩| ⟨z,m,rfl,_⟩
   . have n:i≠j:=λe=>h (by rw [e])
     have e1:fR (.int i) (.int j)= .int (if j>i then j else i):=rfl;have e2:g8 (.int i) (.int j)= .int (if j<i then j else i):=rfl;rw [e1,e2];refine ⟨?_,nofun,?_,nofun⟩
     . by_cases c:j<i
       . rw [if_neg (by omega),if_pos c];exact .inl ⟨rfl,rfl⟩
       . rw [if_pos (by omega),if_neg c];exact .inr ⟨rfl,rfl⟩
     . intro a b e;injection e with e1 e2;injection e1 with e1;injection e2 with e2;subst e1 e2
       split<;>split<;>omega
   . exact ⟨.inl ⟨rfl,rfl⟩,λ_=>rfl,λo j e=>absurd (congrArg Prod.snd e:D.ar (.str z::m)=D.int j) nofun,nofun⟩
 . exact ⟨.inr ⟨rfl,rfl⟩,λ_=>rfl,λo j e=>absurd (congrArg Prod.snd e:D.ar (.str z::l)=D.int j) nofun,λ_=>⟨rfl,rfl,rfl⟩⟩
variable {S:List D} {one Y:D} {L W:List (D×D)}
def Y9 {x:D} (h:tk ns x=true) (t:cw x=true): ∃z a,x= .ar (.str z::a):=by
 rcases jy h with ⟨i,rfl⟩| ⟨z,a,rfl,_⟩
 . cases t
 . exact ⟨z,a,rfl⟩
def jdE {x:D} (h:cw x=false):aN x=[]:=by cases x<;>first|rfl|cases h
def sub_zip {c:Int->D} {u v:D} (e:tk ns u=true) (g:tk ns v=true) (h:sub c u=sub c v):(∀p∈(aN u).zip (aN v),sub c p.1=sub c p.2)/\(cw u=true->cw v=true->nD u=nD v):=by
 rcases jy e with ⟨i,rfl⟩| ⟨z,l,rfl,_⟩
 . exact ⟨λp a=>by simp [aN] at a,nofun⟩
 . rcases jy g with ⟨j,rfl⟩| ⟨y,m,rfl,_⟩
   . exact ⟨λp a=>by simp [aN] at a,λ_=>nofun⟩
   . rw [qS,qS] at h;injection h with h;injection h with n d;refine ⟨λp a=>Ul d p a,λ_ _=>?_⟩;have:=congrArg List.length d;rw [bN,bN] at this;show some (D.str z,l.length)=some (D.str y,m.length);rw [n,this]
def Bi.same (b:Bi ns S one Y L (W++[p])) (e:root L p.1=root L p.2):Bi ns S one Y L W:=
 ⟨b.lW,b.gE,λq a=>b.wS q (lr _ a),b.Ag,b.hd,λc h=>⟨(b.o4 c h).1,λq a=>(b.o4 c h).2 q (lr _ a)⟩,λf h1 h2=>b.con f h1 λq a=>by
  rcases cW.mp a with z|z
  . exact h2 q z
  . rw [f7] at z;subst z
    rw [<-ql f h1 (x:=q.1),e,ql f h1]⟩
def Bi.add (s:dH ns S) (b:Bi ns S one Y L (W++[p])) {u v:D} (w:root L p.1=u) (y:root L p.2=v) (e:u≠v) (N:cw u=true->cw v=true->nD u=nD v):Bi ns S one Y (L++[(fR u v,g8 u v)]) (W++(aN u).zip (aN v))/\fR u v∉L.map (·.1)/\fR u v∈S:=by
 have r:=b.wS p (eT _ (Ah _));have B:u∈S:=by rw [<-w];exact yU (λp r=>(b.gE p r).2) r.1
 have E:v∈S:=by rw [<-y];exact yU (λp r=>(b.gE p r).2) r.2
 have uo:u∉L.map (·.1):=by rw [<-w];exact yw b.lW
 have vo:v∉L.map (·.1):=by rw [<-y];exact yw b.lW
 obtain ⟨t1,t2,t3,t4⟩:=jfc (s.dQ u B) (s.dQ v E) e;have O:fR u v∈S/\g8 u v∈S:=by rcases t1 with ⟨a,c⟩| ⟨a,c⟩<;>rw [a,c]<;>exact ⟨‹_›,‹_›⟩
 have H:fR u v∉L.map (·.1)/\g8 u v∉L.map (·.1):=by rcases t1 with ⟨a,c⟩| ⟨a,c⟩<;>rw [a,c]<;>exact ⟨‹_›,‹_›⟩
 have kv:g8 u v≠fR u v:=by rcases t1 with ⟨a,c⟩| ⟨a,c⟩<;>rw [a,c]<;>first|exact e|exact e.symm
 have l:cw (fR u v)=true->fR u v=v/\g8 u v=u/\cw u=true/\cw v=true:=λh=>by
   obtain ⟨a,c,d⟩:=t4 h;exact ⟨a,c,d,by rw [a] at h;exact h⟩
 refine ⟨⟨b.lW.snoc H.1 H.2 kv,λq g=>?_,λq g=>?_,λq g=>?_,λq g=>?_,λm h=>?_,λf h1 h2=>?_⟩,H.1,O.1⟩
 . rcases cW.mp g with z|z
   . exact b.gE q z
   . rw [f7] at z;subst z;exact O
 . rcases cW.mp g with z|z
   . exact b.wS q (lr _ z)
   . have:=ph (show (q.1,q.2)∈_ from z);exact ⟨s.ms u B _ this.1,s.ms v E _ this.2⟩
 . rcases cW.mp g with z|z
   . exact b.Ag q z
   . rw [f7] at z;subst z;exact ⟨t2,t3⟩
 . rcases cW.mp g with z|z
   . exact b.hd q z
   . rw [f7] at z;subst z;intro h;obtain ⟨a,c,I,J⟩:=l h;show nD (fR u v)=nD (g8 u v);rw [a,c,N I J]
 . obtain ⟨n,Q⟩:=b.o4 m h
   have i:sub m u=sub m v:=by
     rw [<-w,<-y,ql (sub m) n,ql (sub m) n];exact Q p (eT _ (Ah _))
   refine ⟨λq g=>?_,λq g=>?_⟩
   . rcases cW.mp g with z|z
     . exact n q z
     . rw [f7] at z;subst z;show sub m (fR u v)=sub m (g8 u v);rcases t1 with ⟨a,c⟩| ⟨a,c⟩<;>rw [a,c]
       . exact i
       . exact i.symm
   . rcases cW.mp g with z|z
     . exact Q q (lr _ z)
     . exact (sub_zip (s.dQ u B) (s.dQ v E) i).1 q z
 . have n: ∀q∈L,f q.1=f q.2:=λq g=>h1 q (lr _ g)
   have o:f (fR u v)=f (g8 u v):=h1 _ (eT _ (Ah _))
   have i:f u=f v:=by
     rcases t1 with ⟨a,c⟩| ⟨a,c⟩<;>rw [a,c] at o
     . exact o
     . exact o.symm
   obtain ⟨c1,c2⟩:=b.con f n λq g=>by
     rcases cW.mp g with z|z
     . exact h2 q (lr _ z)
     . rw [f7] at z;subst z;rw [<-ql f n (x:=q.1),<-ql f n (x:=q.2),w,y,i]
   refine ⟨c1,λq g=>?_⟩;rcases cW.mp g with z|z
   . exact c2 q z
   . rw [f7] at z;subst z;intro h;obtain ⟨a,c,I,J⟩:=l h;show (aN (fR u v)).map f=(aN (g8 u v)).map f;rw [a,c];refine (kN ?_ λq g=>h2 q (eT _ g)).symm;obtain ⟨z1,ts,rfl⟩:=Y9 (s.dQ u B) I;obtain ⟨z2,us,rfl⟩:=Y9 (s.dQ v E) J;have:=N rfl rfl;injection this with this;injection this with _ this
end
section
variable {ns:List Str} {S:List D} {one B:D} {L W:List (D×D)}
def Ea:Sl->aq bf:=bB (oq 3 (gN 4)) (bB (yt 5 (fx (wt 2 je 0 (jb (av (af 4) (cI 0) bW) ai)))) (bB (yt 6 (fx (wt 2 je 0 (jb (av (af 4) (cI 1) bW) ai)))) (bB (i3 (aY (av (af 5) (af 6) dN)) Gk mX) (bB (i3 (cQ (aY (bU "tuple" (af 5))) (aY (bU "tuple" (af 6)))) (bB (i3 (aY (av (jr 1 QI (jb (af 5) ai)) (jr 1 QI (jb (af 6) ai)) il)) (gH (cB false)) mX) (Wp 3 (VI (jr 1 jN (jb (af 5) ai)) (jr 1 jN (jb (af 6) ai))))) mX) (vN (yM 0 2 jv (jb (af 5) (jb (af 6) ai))))))))
def jff (ob o t e a c:Slot) (p:D×D):oq 3 (gN 4) [ob,o,t,.ag (.ah ((W++[p]).map pD)),e,a,c]= .ok (.nx [ob,o,t,.ag (.ah (W.map pD)),.ab (pD p),a,c]):=by
 unfold oq;show (aq.ok ((W++[p]).map pD)>>=_)=_;rw [jn,iH];show (match (W.map pD++[pD p]).getLast? with|some d=>_|none=>_)=_;rw [List.getLast?_concat];show (gN 4 (pD p) [ob,o,t,.ag (.ah (W.map pD++[pD p]).dropLast),e,a,c]>>=_)=_;rw [List.dropLast_concat];rfl
def jdB {d e:T5} {env:Sl} {a c:List D} (g:d env= .ok (.ar a)) (i:e env= .ok (.ar c)) (h:a.length<=1000/\c.length<=1000):VI d e env= .ok (.ah ((a.zip c).map pD)):=by
 unfold VI;rw [g,jn,i,jn];exact ji h
def je9 (s:dH ns S) (h: ∀p∈L,p.1∈S/\p.2∈S) (c:lc L) {u v:D} (g:u∈S) (i:v∈S) (l:fR u v∉L.map (·.1)) (d:fR u v∈S) (o t w:Slot) (e:Slot):vN (yM 0 2 jv (jb (af 5) (jb (af 6) ai))) [.ag (jD L),o,t,w,e,.ab u,.ab v]= .ok (.nx [.ag (jD (L++[(fR u v,g8 u v)])),o,t,w,e,.ab u,.ab v]):=by
 obtain ⟨ks,m⟩:=(s.Lz h c).2.1;have a:=GS (s.dQ u g) (s.dQ v i) (jc2 (ns:=ns) (λp a=>s.dQ _ (h p a).1) (s.dQ _ d) (s.key d).1 m l (by have:=s.short h c;omega) (v:=g8 u v));unfold vN yM;show ((mn (jD L)>>=_)>>=_)=_;rw [Jn,jn];show ((aK ([u,v].length=2) (jv (jD L) [u,v]>>=_))>>=_)=_;rw [a];rfl
def jeo (s:dH ns S) {p:D×D} (b:Bi ns S one B L (W++[p])) {d:Int->D} (h0:sub d one=sub d B) (hW:W.length<=5000) (o t u4 J m:Slot):
  ∃r w s4 s5 s6,(Ea [.ag (jD L),o,t,.ag (.ah ((W++[p]).map pD)),u4,J,m]= .ok (.nx [.ag (jD r),o,t,.ag (.ah (w.map pD)),s4,s5,s6])\/Ea [.ag (jD L),o,t,.ag (.ah ((W++[p]).map pD)),u4,J,m]= .ok (.ct [.ag (jD r),o,t,.ag (.ah (w.map pD)),s4,s5,s6]))/\Bi ns S one B r w/\w.length+10*(200-r.length)<W.length+1+10*(200-L.length):=by
 have hp:=b.wS p (eT _ (Ah _));obtain ⟨fu,E,iu⟩:=s.oB b.gE b.lW hp.1;obtain ⟨fv,N,iv⟩:=s.oB b.gE b.lW hp.2;generalize O:root L p.1=u at fu E iu;generalize Q:root L p.2=v at fv N iv;have g:=s.dQ u E;have l:=s.dQ v N;have e1:yt 5 (fx (wt 2 je 0 (jb (av (af 4) (cI 0) bW) ai))) [.ag (jD L),o,t,.ag (.ah (W.map pD)),.ab (pD p),J,m]= .ok (.nx [.ag (jD L),o,t,.ag (.ah (W.map pD)),.ab (pD p),.ab u,m]):=JB (D9 rfl (ju rfl rfl C8) fu iu);have e2:yt 6 (fx (wt 2 je 0 (jb (av (af 4) (cI 1) bW) ai))) [.ag (jD L),o,t,.ag (.ah (W.map pD)),.ab (pD p),.ab u,m]= .ok (.nx [.ag (jD L),o,t,.ag (.ah (W.map pD)),.ab (pD p),.ab u,.ab v]):=JB (D9 rfl (ju rfl rfl rfl) fv iv);obtain ⟨x,U,H⟩:=vQ g l (by have:=s.hg u E;omega);have et:aY (av (af 5) (af 6) dN) [.ag (jD L),o,t,.ag (.ah (W.map pD)),.ab (pD p),.ab u,.ab v]= .ok x:=jM (ju rfl rfl U);have hW2:(W.map pD).length=W.length:=bN _;unfold Ea;rw [sJ (jff ..),sJ e1,sJ e2]
 cases x with
 |true=>
  have e:=H.mp rfl;exact ⟨L,W,_,_,_,.inr (sJc (xU et (if_pos rfl))),b.same (by rw [O,Q,e]),by omega⟩
 |false=>
  have e:u≠v:=λz=>by have:=H.mpr z;cases this
  rw [sJ (e':=[.ag (jD L),o,t,.ag (.ah (W.map pD)),.ab (pD p),.ab u,.ab v]) (xU et (if_neg (by decide)))];obtain ⟨r1,r2⟩:=b.o4 d h0
  have Y:sub d u=sub d v:=by
   rw [<-O,<-Q,ql (sub d) r1,ql (sub d) r1];exact r2 p (eT _ (Ah _))
  have hh:=(sub_zip g l Y).2;obtain ⟨b',ko,kS⟩:=b.add s O Q e hh
  have n:((aN u).zip (aN v)).length<=9:=by
   rw [D4];rcases jy g with ⟨i,rfl⟩| ⟨z,a,rfl,_,q,_⟩
   . exact bZ (Nat.min_le_left _ _) (dR _)
   . exact bZ (Nat.min_le_left _ _) q
  have hL:(L++[(fR u v,g8 u v)]).length=L.length+1:=by simp
  have hs:=s.short b'.gE b'.lW;refine ⟨_,_,.ab (pD p),.ab u,.ab v,.inl ?_,b',by rw [de];omega⟩;have ti:cQ (aY (bU "tuple" (af 5))) (aY (bU "tuple" (af 6))) [.ag (jD L),o,t,.ag (.ah (W.map pD)),.ab (pD p),.ab u,.ab v]= .ok (cw u&&cw v):=Zy (jM (by show (aq.ok u>>=gF "tuple")=_;rw [jn];exact Zg g)) (jM (by show (aq.ok v>>=gF "tuple")=_;rw [jn];exact Zg l));refine (sJ (e':=[.ag (jD L),o,t,.ag (.ah ((W++(aN u).zip (aN v)).map pD)),.ab (pD p),.ab u,.ab v]) (xU ti ?_)).trans (je9 s b.gE b.lW E N ko kS o t _ _)
  cases z:cw u&&cw v with
  |false=>
   rw [if_neg (by decide)]
   have:(aN u).zip (aN v)=[]:=by
     rcases Bool.and_eq_false_iff.mp z with z|z<;>rw [jdE z]<;>simp
   rw [this,f6];rfl
  |true=>
   rw [if_pos rfl];obtain ⟨z1,z2⟩:=tD.mp z;have hd:=hh z1 z2;obtain ⟨y,a,rfl⟩:=Y9 g z1;obtain ⟨I,c,rfl⟩:=Y9 l z2;injection hd with hd;injection hd with h hd2;injection h with h;obtain ⟨x,U,H⟩:=jfA y I (a.length:Int) (c.length:Int);have:x=false:=H.mpr ⟨h,by rw [hd2]⟩;subst this;refine (sJ (e':=[.ag (jD L),o,t,.ag (.ah (W.map pD)),.ab (pD p),.ab (.ar (.str y::a)),.ab (.ar (.str I::c))]) (xU (jM (ju (jz (jd rfl rfl) rfl (KW y a)) (jz (jd rfl rfl) rfl (KW I c)) U)) (if_neg (by decide)))).trans ?_;have lt:a.length<=9:=by rcases jy g with ⟨_,e⟩| ⟨_,_,e,_,q,_⟩<;>cases e;exact q
   have lu:c.length<=9:=by rcases jy l with ⟨_,e⟩| ⟨_,_,e,_,q,_⟩<;>cases e;exact q
   have ez:VI (jr 1 jN (jb (af 5) ai)) (jr 1 jN (jb (af 6) ai)) [.ag (jD L),o,t,.ag (.ah (W.map pD)),.ab (pD p),.ab (.ar (.str y::a)),.ab (.ar (.str I::c))]= .ok (.ah ((a.zip c).map pD)):=by
     exact jdB (jz (jd rfl rfl) rfl (JR (Z3 g))) (jz (jd rfl rfl) rfl (JR (Z3 l))) ⟨show a.length<=_ by omega,show c.length<=_ by omega⟩
   unfold Wp;show (aq.ok (W.map pD)>>=_)=_;rw [jn,ez,jn];show aK _ _=_;have lz:((a.zip c).map pD).length<=9:=by rw [bN];exact n
   rw [ji (jV (by omega)),iH];rfl
theorem uT (s:dH ns S) {v:Int->D} (w:sub v one=sub v B) (o t:Slot): ∀(n:Nat) (L W:List (D×D)) (a c g:Slot),Bi ns S one B L W->W.length+10*(200-L.length)<n->W.length+10*(200-L.length)<=5000-> ∃i l q u,xf n (DF (gB (cJ 3))) Ea [.ag (jD L),o,t,.ag (.ah (W.map pD)),a,c,g]= .ok (.nx [.ag (jD i),o,t,.ag (.ah []),l,q,u])/\Bi ns S one B i []
 |0,_,_,_,_,_,_,h,_=>absurd h (zU _)
 |n+1,L,W,a,c,g,b,x,y=>by
  rcases List.eq_nil_or_concat W with rfl| ⟨W,p,rfl⟩
  . exact ⟨L,a,c,g,jcK rfl,b⟩
  . simp only [List.concat_eq_append,de,b9,du] at b x y ⊢;obtain ⟨i,z,l,q,u,e,E,m⟩:=jeo s b w (by omega) o t a c g;obtain ⟨L2,H,I,J,e2,N⟩:=uT s w o t n i z l q u E (by omega) (by omega);refine ⟨L2,H,I,J,?_,N⟩
    have O:DF (gB (cJ 3)) [.ag (jD L),o,t,.ag (.ah ((W++[p]).map pD)),a,c,g]= .ok (true,[.ag (jD L),o,t,.ag (.ah ((W++[p]).map pD)),a,c,g]):=by
     have:(W++[p]).map pD≠[]:=by simp
     obtain ⟨d,r,e⟩:=List.exists_cons_of_ne_nil this;rw [e];rfl
    rw [jeH O e,e2]
def jen (s:dH ns S) (d:one∈S) (i:B∈S) {c:Int->D} (l:sub c one=sub c B): ∃L,jE (jD []) [one,B]= .ok (.bl true,jD L)/\Bi ns S one B L []:=by
 have m:Bi ns S one B [] [(one,B)]:=⟨⟨Fh,λ_=>nofun⟩,λ_=>nofun,λp a=>by rw [f7] at a;subst a;exact ⟨d,i⟩,λ_=>nofun,λ_=>nofun,λc h=>⟨λ_=>nofun,λp a=>by rw [f7] at a;subst a;exact h⟩,λf _ h=>⟨h (one,B) (Ah _),λ_=>nofun⟩⟩
 obtain ⟨L,n,o,q,e,b⟩:=uT s l (.ab one) (.ab B) 3000 [] [(one,B)] .un .un .un m (by simp) (by simp);refine ⟨L,?_,b⟩;unfold jE gI;refine (ji rfl).trans ?_
 have g:jJ je QI jN jv [.ag (jD []),.ab one,.ab B,.un,.un,.un,.un]= .ok (.rt (.bl true) [.ag (jD L),.ab one,.ab B,.ag (.ah []),n,o,q]):=by
  unfold jJ;rw [sJ (e':=[.ag (jD []),.ab one,.ab B,.ag (.ah [pD (one,B)]),.un,.un,.un]) rfl];exact (sJ e).trans rfl
 show (jJ je QI jN jv [.ag (jD []),.ab one,.ab B,.un,.un,.un,.un]>>=_)=_;rw [g];rfl
def Bi.ok (s:dH ns S) (b:Bi ns S one B L []):dB ns S L/\root L one=root L B:=by
 obtain ⟨c,d⟩:=b.con (root L) (λp a=>JN b.lW a) nofun;exact ⟨⟨s.dQ,s.ms,b.lW,b.gE,b.Ag,λp a h=>⟨b.hd p a h,d p a h⟩⟩,c⟩
end
section
variable {ns:List Str} {S:List D} {L:List (D×D)} {O:Int->D} {P:List D}
def LA {i:Nat} {l:TZ} {a:T5} {env:Sl} {ds:List D} {c:Slot} (q:fO true env i=c) (h:D->D) (P:D->Prop) (r:l env= .ok ds) (o: ∀d∈ds,P d) (u:ds.length<=aH)
  (p: ∀d g,P d->a [.ab d,c,.ag (.ah g)]= .ok (h d)) (v:D.bC (ds.map h)=true):ze true 1 [i] l (gN 0) qo a env= .ok (.ah (ds.map h)):=by
 show (l env>>=_)=_;rw [r];show (zI 2 (gN 0) qo a ds [.un,fO true env i,.ag (.ah [])]>>=_)=_;rw [q]
 obtain ⟨y,m⟩: ∃y,zI 2 (gN 0) qo a ds [.un,c,.ag (.ah [])]= .ok [y,c,.ag (.ah (ds.map h))]:=by
  cases ds with
  |nil=>exact ⟨.un,rfl⟩
  |cons d ds=>
   simp only [b9] at u;obtain ⟨y,m⟩:=QA (n:=2) (t:=gN 0) (E:=λx g=>[.ab x,c,.ag (.ah g)]) h P (λ_ _=>rfl) (λ_ _ _=>rfl) (λ_ _ _=>rfl) p ds d [h d] (λe w=>o e (by simp [w])) (by simp only [b9,du];omega);refine ⟨.ab y,?_⟩
   have z:zI 2 (gN 0) qo a (d::ds) [.un,c,.ag (.ah [])]=zI 2 (gN 0) qo a ds [.ab d,c,.ag (.ah [h d])]:=by
    show (a [.ab d,c,.ag (.ah [])]>>=_)=_;rw [p d [] (o d (by simp))];exact ji (c:=([]:List D).length<aH) (by simp only [du];omega)
   rw [z,m];rfl
 rw [m];exact ji (c:=true=true->D.bC (ds.map h)=true) λ_=>v
def dH.inj (s:dH ns S) {x y:D} (a:x∈S) (c:y∈S) (h:nk x=nk y):x=y:=by rw [<-(s.key a).2.1,h,(s.key c).2.1]
def dH.has (s:dH ns S) (c: ∀x∈P,x∈S) {y:D} (d:y∈S):gj (P.map nk) (nk y)=true↔y∈P:=by
 unfold gj;rw [qH]
 constructor
 . rintro ⟨k,g,e⟩;obtain ⟨x,a,rfl⟩:=bP.mp g;rw [<-s.inj (c x a) d (of_decide_eq_true e)];exact a
 . exact λh=>⟨nk y,tL h,decide_eq_true rfl⟩
theorem dH.val (s:dH ns S) {f:D->D} {y:D} (a:y∈S): ∀ {P:List D},(∀x∈P,x∈S)->y∈P->gM (P.map nk) (P.map f) (nk y)=some (f y)
 |x::P,c,h=>by
  unfold gM;rw [cY,cY,oU,rq]
  by_cases e:x=y
  . subst e;rw [decide_eq_true rfl];rfl
  . rw [decide_eq_false λz=>e (s.inj (c x ci) a z)];exact s.val a (λx d=>c x (cv _ d)) ((bH.mp h).resolve_left λz=>e z.symm)
def di (L:List (D×D)) (P:List D):D:= .bO (P.map nk) (P.map (Mk L))
def Vz (L:List (D×D)) (P:List D) (x:D):Prop:= ∀y∈aN x,root L y∈P
theorem LB: ∀ {a:List D},(∀t∈a,tk ns t=true)->rJ a .aV=false
 | [],_=>rfl
 |t::r,h=>by
  have:ck t .aV=false:=by rcases jy (h t (by simp)) with ⟨i,rfl⟩| ⟨z,a,rfl,_⟩<;>rfl
  show (ck t .aV||rJ r .aV)=false;rw [this,LB λu c=>h u (by simp [c])];rfl
def Qf {a:List D} (h: ∀t∈a,tk ns t=true):D.bC a=true:=eN.mpr λt c=>Qg _ (h t c)
def jgX {g:T4} {c a:T5} {env:Sl} (h:g env= .ok false):wu g c a env=a env:=by unfold wu;rw [h];rfl
def jcJ (i:Int) (v:D):xa [.int i,v]= .ok (.int i):=Ft (d:= .int i) rfl
def jcI {z:Str} {g d:List D} (h:tk ns (.ar (.str z::d))=true) (w:num (.ar (.str z::d))<=1000) (p:bF (.ar (.str z::d))<=60):xa [.ar (.str z::g),.ah d]= .ok (.ar (.str z::d)):=by
 have l: ∀u∈d,tk ns u=true:=by rcases jy h with ⟨_,e⟩| ⟨_,_,e,_,_,q⟩<;>cases e;exact q
 have o:d.length<=9:=by rcases jy h with ⟨_,e⟩| ⟨_,_,e,_,o,_⟩<;>cases e;exact o
 have m:pQ false .aV (.ah d)= .ok (.bl false):=by
  have r:D.bI d<=190:=Qu λu i=>by
   have:=(Jr u (l u i)).2;have:=wj i;rw [zT] at p;omega
  refine (ji (c:=D.bE d=true/\D.cA .aV=true/\D.bI d<=190) ⟨Qo λu i=>(Jr u (l u i)).1,rfl,r⟩).trans ?_;rw [if_neg (by decide),LB l]
 have n:jW (af 0) qU (qK (cI 1)) eB [.ab (.ar (.str z::g)),.ab (.ah d),.un]= .ok (.ar [.str z]):=za (x:= .ar (.str z::g)) (lo:=none) (hi:=some 1) rfl rfl (q9 rfl) (show aq.ok (D.ar (cutD (.str z::g) none (some 1)))=_ by rw [GP]);refine xm ?_;show Wi wE [.ab (.ar (.str z::g)),.ab (.ah d),.un]=_;unfold Wi;rw [jx (env':=[.ab (.ar (.str z::g)),.ab (.ah d),.un]) rfl];rw [jx (env':=[.ab (.ar (.str z::g)),.ab (.ah d),.un]) ((dh (jM (ju rfl rfl m))).trans rfl)];rw [jx (env':=[.ab (.ar (.str z::g)),.ab (.ah d),.ab (.ar (.str z::d))]) (qk (ju n (zY (jd rfl rfl) rfl) (OO (a:=[.str z]) rfl (jV (by simp only [b9,du];omega)))))];refine zj ?_
 have v:aY (jr 1 wE (jb (af 2) ai)) [.ab (.ar (.str z::g)),.ab (.ah d),.ab (.ar (.str z::d))]= .ok false:=by
  refine jM ((jz (jd rfl rfl) rfl (TW (Ql _ h))).trans ?_)
  have:lV (.ar (.str z::d))=false:=by
   unfold lV;exact decide_eq_false (by omega)
  rw [this]
 exact (jgX v).trans (Vf rfl (Qg _ h))
def kK (s:dH ns S) (k:dB ns S L) {x:D} (e:x∈S) (made:D):yt 3 (ze false 1 [0] (gV (jr 1 jN (jb (af 1) ai))) (gN 0) qo (fx (wt 2 je 1 (jb (af 0) ai)))) [.ab (jD L),.ab x,.ag made,.un]= .ok (.nx [.ab (jD L),.ab x,.ag made,.ab (.ah ((aN x).map (root L)))]):=by
 refine JB (C9 (c:= .ab (jD L)) rfl (root L) (λd=>d∈aN x) (Qa (jz (jd rfl rfl) rfl (JR (Z3 (s.dQ x e)))) rfl) (λd g=>g) (jV ?_) λd h g=>?_)
 . rcases jy (s.dQ x e) with ⟨i,rfl⟩| ⟨z,m,rfl,_,l,_⟩
   . exact dR _
   . exact bZ l (by decide)
 . obtain ⟨a,b,c⟩:=s.oB k.gE k.lW (s.ms x e d g);exact D9 rfl rfl a c
def LC (s:dH ns S) (k:dB ns S L) (l: ∀y∈P,y∈S) {x:D} (g:x∈S): ∃b,aY (app (jb (ze true 1 [2] (gV (af 3)) (gN 0) qo (av (af 0) (af 1) Ds)) ai) iV) [.ab (jD L),.ab x,.ag (di L P),.ab (.ah ((aN x).map (root L)))]= .ok b/\(b=true↔Vz L P x):=by
 have n: ∀d∈(aN x).map (root L),d∈S:=λd e=>by
   obtain ⟨y,a,rfl⟩:=bP.mp e;exact (k.rt (s.ms x g y a)).1
 have m:((aN x).map (root L)).length<=9:=by
   rw [bN];rcases jy (s.dQ x g) with ⟨i,rfl⟩| ⟨z,q,rfl,_,m,_⟩
   . exact dR _
   . exact m
 refine ⟨((aN x).map (root L)).all λd=>gj (P.map nk) (nk d),jM (zY (jd (LA (c:= .ab (di L P)) rfl (λd=>D.bl (gj (P.map nk) (nk d))) (λd=>d∈S) (Qa rfl rfl) n (jV (by omega)) (λd o e=>?_) ?_) rfl) (Vm _ _)),?_⟩
 . refine ju rfl rfl ?_;show oh (P.map nk) d=_;unfold oh;rw [(s.key e).1]
 . refine eN.mpr λt p=>?_
   obtain ⟨d,_,rfl⟩:=bP.mp p;rfl
 . rw [iE]
   exact ⟨λh y a=>(s.has l (k.rt (s.ms x g y a)).1).mp (h _ (tL a)),λh d e=>by
     obtain ⟨y,a,rfl⟩:=bP.mp e
     exact (s.has l (k.rt (s.ms x g y a)).1).mpr (h y a)⟩
def jdA (s:dH ns S) (k:dB ns S L) (c: ∀y∈P,y∈S) {x:D} (a:x∈S) (d: ¬Vz L P x):jL (di L P) [jD L,x]= .ok (.bl false,di L P):=by
 suffices g:jP je jN xa [.ab (jD L),.ab x,.ag (di L P),.un]= .ok (.rt (.bl false) [.ab (jD L),.ab x,.ag (di L P),.ab (.ah ((aN x).map (root L)))]) by
  unfold jL iw;refine (ji rfl).trans ?_;show (jP je jN xa [.ab (jD L),.ab x,.ag (di L P),.un]>>=_)=_;rw [g];rfl
 unfold jP;obtain ⟨b,e,h⟩:=LC s k c a
 cases b with
 |true=>exact absurd (h.mp rfl) d
 |false=>exact (sJ (kK s k a _)).trans (D8 (xU (zR e) rfl))
def jbm {c fv:T5} {i:Nat} {env:Sl} {ks:List NK} {ds:List D} {d a:D} {k:NK} (e:cL i env= .ok (.bO ks ds)) (g:fv env= .ok d) (h:c env= .ok a) (l:bh a=some k) (m:ks.length<aH):VW c fv i env= .ok (.nx (env.set i (.ag (.bO (QN ks k) (X8 ks ds k d))))):=by
 unfold VW;rw [e,jn,g,jn,h,jn];show (match bh a with|some k=>aK (ks.length<aH) (aq.ok (bf.nx (env.set i (.ag (.bO (QN ks k) (X8 ks ds k d))))))|none=>_)=_;rw [l];exact ji m
def jdz (s:dH ns S) (k:dB ns S L) (b:j9 ns S L O) (h: ∀y∈P,y∈S) {x:D} (a:x∈S) (l:root L x=x) (p:x∉P) (r:P.length<=1000) (u:Vz L P x):jL (di L P) [jD L,x]= .ok (.bl true,di L (P++[x])):=by
 suffices g:jP je jN xa [.ab (jD L),.ab x,.ag (di L P),.un]= .ok (.rt (.bl true) [.ab (jD L),.ab x,.ag (di L (P++[x])),.ab (.ah ((aN x).map (root L)))]) by
   unfold jL iw;refine (ji rfl).trans ?_;show (jP je jN xa [.ab (jD L),.ab x,.ag (di L P),.un]>>=_)=_;rw [g];rfl
 unfold jP;obtain ⟨c,v,w⟩:=LC s k h a;cases w.mpr u
 have N:((aN x).map (root L)).length<=9:=by
   rw [bN];rcases jy (s.dQ x a) with ⟨i,rfl⟩| ⟨z,B,rfl,_,r,_⟩
   . exact dR _
   . exact r
 have E:ze true 1 [2] (gV (af 3)) (gN 0) qo (av (af 1) (af 0) i8) [.ab (jD L),.ab x,.ag (di L P),.ab (.ah ((aN x).map (root L)))]= .ok (.ah ((aN x).map (Mk L))):=by
   have e:((aN x).map (root L)).map (Mk L)=(aN x).map (Mk L):=by
     rw [iI];exact lK λy m=>k.gk (s.ms x a y m)
   rw [<-e];refine LA (c:= .ab (di L P)) rfl (Mk L) (λd=>d∈P) (Qa rfl rfl) (λd n=>?_) (jV (by omega)) (λd H n=>ju rfl rfl ?_) ?_
   . obtain ⟨y,m,rfl⟩:=bP.mp n;exact u y m
   . show atT (P.map nk) (P.map (Mk L)) d=_;unfold atT;rw [(s.key (h d n)).1];show (match gM (P.map nk) (P.map (Mk L)) (nk d) with|some d=>aq.ok d|none=> .aj)=_;rw [s.val (h d n) h n]
   . rw [e];refine Qf (ns:=ns) λt I=>?_
     obtain ⟨y,m,rfl⟩:=bP.mp I;exact k.u0 b _ (s.ms x a y m)
 have hw:xa [x,.ah ((aN x).map (Mk L))]= .ok (Mk L x):=by
   have o:=k.u0 b x a;have q:=k.o7 b x a;rcases jy (s.dQ x a) with ⟨i,rfl⟩| ⟨z,B,rfl,_⟩
   . rw [jcJ,Jx l]
   . rw [k.mt b a l] at o q ⊢;exact jcI o (bZ q.1 (by decide)) (bZ q.2 (by decide))
 refine (sJ (kK s k a _)).trans ((sJ (xU (zR v) rfl)).trans ((sJ (e':=[.ab (jD L),.ab x,.ag (di L (P++[x])),.ab (.ah ((aN x).map (root L)))]) ?_).trans rfl))
 . refine (jbm rfl (jz (jd rfl (jd E rfl)) rfl hw) rfl (s.key a).1 (by rw [bN];have:=jZ;omega)).trans ?_
   have J:gj (P.map nk) (nk x)=false:=by
     rw [<-F9];exact λz=>p ((s.has h a).mp z)
   unfold QN X8;rw [J];show aq.ok (bf.nx [_,_,Slot.ag (.bO (P.map nk++[nk x]) (P.map (Mk L)++[Mk L x])),_])=_;unfold di;rw [iH,iH];rfl
open Classical in
def iy (l:List D) (x:D):List D:=if x∈l then l else l++[x]
def uniq (l a:List D):List D:=a.foldl iy l
def kb {l:List D} {x y:D}:y∈iy l x↔y∈l\/y=x:=by
 unfold iy
 split
 . rename_i h;exact ⟨.inl,λz=>z.elim id λe=>by rw [e];exact h⟩
 . simp
def jdK {l:List D} {x:D} (h:l.Nodup):(iy l x).Nodup:=by
 unfold iy
 split
 . exact h
 . rename_i k;exact qP.mpr ⟨h,by simp,λa d b c e=>k (by rw [f7] at c;rw [<-c,<-e];exact d)⟩
theorem Y8 {y:D}: ∀ {a l:List D},y∈uniq l a↔y∈l\/y∈a
 | [],l=>by simp [uniq]
 |x::a,l=>by
  show y∈uniq (iy l x) a↔_;rw [Y8,kb,bH,or_assoc]
theorem Uv: ∀ {xs l:List D},l.Nodup->(uniq l xs).Nodup
 | [],_,h=>h
 |_::xs,_,h=>Uv (xs:=xs) (jdK h)
theorem dH.LD (s:dH ns S): ∀ {a:List D},(∀x∈a,x∈S)->gK (a.map λx=> .ar [x,.bl true])=some (a.map λx=>(nk x,.bl true))
 | [],_=>rfl
 |x::a,h=>by
  show (match bh x,gK (a.map λx=> .ar [x,.bl true]) with|some k,some q=>some ((k,D.bl true)::q)|_,_=>none)=_;rw [(s.key (h x ci)).1,s.LD λy c=>h y (cv _ c)];rfl
theorem dH.put (s:dH ns S): ∀ {a l:List D} {v:List D},(∀x∈a,x∈S)->(∀x∈l,x∈S)->((a.map λx=>(nk x,D.bl true)).foldl x9 (l.map nk,v)).1=(uniq l a).map nk
 | [],_,_,_,_=>rfl
 |x::a,l,v,h,d=>by
  have g:=h x ci;show ((a.map λx=>(nk x,D.bl true)).foldl x9 (QN (l.map nk) (nk x),_)).1=(uniq (iy l x) a).map nk
  have e:QN (l.map nk) (nk x)=(iy l x).map nk:=by
   unfold QN iy
   by_cases c:x∈l
   . rw [if_pos ((s.has d g).mpr c),if_pos c]
   . rw [if_neg λz=>c ((s.has d g).mp z),if_neg c,iH];rfl
  rw [e];exact s.put (λy i=>h y (cv _ i)) λy i=>(kb.mp i).elim (d y) λe=>by rw [e];exact g
def Ai:Sl->aq bD:=lQ (lM (tY (Zw 0 2 jL (af 5)))) (QF 4 (af 5)) df
def XH {F:FO} {env:Sl} {x a c r:D} (d:af 0 env= .ok (jD L)) (e:af 5 env= .ok x) (g:cL 2 env= .ok a) (h:F a [jD L,x]= .ok (r,c)):Zw 0 2 F (af 5) env= .ok (r,env.set 2 (.ag c)):=by
 unfold Zw;rw [d,jn,Jn,jn,e,jn,g,jn,h];rfl
def LF {env e1:Sl} {b:Bool} {r:aq bD} (h:Zw 0 2 jL (af 5) env= .ok (.bl b,e1)) (a:(if b=true then df e1 else QF 4 (af 5) e1)=r):Ai env=r:=by
 unfold Ai lQ lM tY;rw [h];cases b<;>exact a
theorem kI (s:dH ns S) (k:dB ns S L) (b:j9 ns S L O) (f e:Slot): ∀(a P l:List D) (u:Slot),(∀y∈P,y∈S)->(∀w∈a,w∈S/\root L w=w)->(P++a).Nodup->P.length+a.length<=500->l.length+a.length<=500->
  ∃c g i,cR (wz (gN 5) Ai) a [.ab (jD L),f,.ag (di L P),e,.ag (.ah l),u]= .ok (.nx [.ab (jD L),f,.ag (di L c),e,.ag (.ah (l++g)),i])/\(c++g).Perm (P++a)/\P.length<=c.length/\((∃w∈a,Vz L P w)->P.length<c.length)
 | [],P,l,u,_,_,_,_,_=>⟨P,[],u,by rw [f6];rfl,.rfl,aS _,λ⟨_,h,_⟩=>nomatch h⟩
 |w::a,P,l,u,n,hw,q,N,Q=>by
  simp only [b9] at N Q;obtain ⟨r,U⟩:=hw w ci;have m: ∀v∈a,v∈S/\root L v=v:=λv hv=>hw v (cv _ hv)
  have e0:wz (gN 5) Ai w [.ab (jD L),f,.ag (di L P),e,.ag (.ah l),u]=Ai [.ab (jD L),f,.ag (di L P),e,.ag (.ah l),.ab w]:=x4 rfl
  by_cases x:Vz L P w
  . have B:w∉P:=λz=>(qP.mp q).2.2 w z w ci rfl
    obtain ⟨c,g,i,o,p,E,I⟩:=kI s k b f e a (P++[w]) l (.ab w) (λy Y=>(cW.mp Y).elim (n y) λz=>by rw [f7] at z;rw [z];exact r) m (by rw [fy];exact q) (by simp only [de,b9,du];omega) (by omega);simp only [de,b9,du] at E;refine ⟨c,g,i,?_,by rw [fy] at p;exact p,by omega,λ_=>by omega⟩;rw [xy (e0.trans (LF (XH rfl rfl rfl (jdz s k b n r U B (by omega) x)) rfl))];exact o
  . have H:(P++a).Nodup:=q.sublist (List.Sublist.append_left (List.sublist_cons_self w a) P);obtain ⟨c,g,i,o,p,E,I⟩:=kI s k b f e a P (l++[w]) (.ab w) n m H (by omega) (by simp only [de,b9,du];omega);refine ⟨c,w::g,i,?_,?_,E,λ⟨v,hv,J⟩=>?_⟩
    . rw [xy (e0.trans (LF (XH rfl rfl rfl (jdA s k n r x)) (uZ (ds:=l) (d:=w) rfl rfl (eV (by omega) jZ))))];rw [fy,List.singleton_append] at o;exact o
    . exact (List.perm_middle).trans ((p.cons w).trans List.perm_middle.symm)
    . rcases bH.mp hv with rfl|hv
      . exact absurd J x
      . exact I ⟨v,hv,J⟩
theorem KF (f:D->Nat): ∀ {W:List D},W≠[]-> ∃w∈W,∀v∈W,f w<=f v
 | [],h=>absurd rfl h
 | [w],_=>⟨w,by simp,λv d=>by rw [f7] at d;rw [d];exact aS _⟩
 |a::b::W,_=>by
  obtain ⟨w,i,g⟩:=KF f (W:=b::W) (by simp)
  by_cases c:f a<=f w
  . exact ⟨a,ci,λv d=>(bH.mp d).elim (λe=>by rw [e];exact aS _) λz=>bZ c (g v z)⟩
  . exact ⟨w,cv _ i,λv d=>(bH.mp d).elim (λe=>by rw [e];omega) (g v)⟩
def LG:Sl->aq bD:=aB (dg 4 (dw ai)) (aB (fN (gV (af 3)) (gN 5) Ai) (aB (dz (aY (av (app (jb (cJ 4) ai) dZ) (app (jb (af 3) ai) dZ) dN)) (a7 cN) df) (pI 4 (qg 3 (af 4)))))
theorem kH (s:dH ns S) (k:dB ns S L) (b:j9 ns S L O) (f:Slot) {l:List D} (N:l.Nodup) (r: ∀y,y∈l↔ ∃x∈S,root L x=y) (hl:l.length<=199): ∀(n:Nat) (P W:List D) (q g:Slot),(P++W).Perm l->W.length<n-> ∃m u B,qZ n (gB (af 3)) LG [.ab (jD L),f,.ag (di L P),.ab (.ah W),q,g]= .ok (.nx [.ab (jD L),f,.ag (di L m),.ab (.ah []),u,B])/\m.Perm l
 |0,_,_,_,_,_,h=>absurd h (zU _)
 |n+1,P,[],q,g,e,_=>⟨P,q,g,yP rfl,by rw [f6] at e;exact e⟩
 |n+1,P,w::W,q,g,e,bt=>by
  have o:=e.length_eq;rw [de] at o
  have E: ∀y∈P++w::W,y∈S/\root L y=y:=λy c=>by
   obtain ⟨x,hx,rfl⟩:=(r y).mp (e.mem_iff.mp c);have:=k.rt hx;exact ⟨this.1,this.2.2⟩
  obtain ⟨m,p,Q,a1,U,a3,a4⟩:=kI s k b f (.ab (.ah (w::W))) (w::W) P [] g (λy c=>(E y (lr _ c)).1) (λy c=>E y (eT _ c)) (e.nodup_iff.mpr N) (by omega) (by simp only [du];omega)
  have H: ∃v∈w::W,Vz L P v:=by
   obtain ⟨v,Y,hm⟩:=KF (λd=>num (sub O d)) (W:=w::W) (by simp);refine ⟨v,Y,λy c=>?_⟩;obtain ⟨vS,vr⟩:=E v (eT _ Y);have yS:=s.ms v vS y c;have I:root L y∈P++w::W:=e.mem_iff.mpr ((r _).mpr ⟨y,yS,rfl⟩);rcases cW.mp I with z|z
   . exact z
   . have h1:=hm _ z;rw [ql (sub O) b.rs] at h1
     have h2:num (sub O y)<num (sub O v):=by
      rcases jy (s.dQ v vS) with ⟨i,rfl⟩| ⟨z,ts,rfl,_⟩
      . cases c
      . exact KH (by rw [JF];exact tL c)
     omega
  have h3:=a4 H;have a:=U.length_eq;rw [de,de] at a;obtain ⟨P2,u,B,b1,b2⟩:=kH s k b f N r hl n m p (.ab (.ah p)) Q (U.trans e) (by omega);refine ⟨P2,u,B,?_,b2⟩;rw [<-b1];refine JK rfl ?_;unfold LG;rw [jx (env':=[.ab (jD L),f,.ag (di L P),.ab (.ah (w::W)),.ag (.ah []),g]) rfl];rw [jx ((Zm (ds:=w::W) rfl).trans a1),List.nil_append];have J:((p.length:Nat):Int)≠((w::W).length:Nat):=by simp only [b9] at a ⊢;omega
  refine (jx (env':=[.ab (jD L),f,.ag (di L m),.ab (.ah (w::W)),.ag (.ah p),Q]) ((dh (jM ((ju (x:= .int (p.length:Nat)) (y:= .int ((w::W).length:Nat)) rfl rfl wW).trans (by rw [beq_eq_false_iff_ne.mpr J])))).trans rfl)).trans rfl
def jgU (s:dH ns S) (k:dB ns S L) (b:j9 ns S L O): ∃P,jT [jD L,.ah S]= .ok (di L P)/\(∀y∈P,y∈S)/\ ∀x∈S,root L x∈P:=by
 have hR: ∀x∈S.reverse.map (root L),x∈S:=λx e=>by
  obtain ⟨y,h,rfl⟩:=bP.mp e;exact (k.rt (List.mem_reverse.mp h)).1
 have m: ∀y,y∈uniq [] (S.reverse.map (root L))↔ ∃x∈S,root L x=y:=λy=>by
  rw [Y8,bP];simp
 have g: ∀y∈uniq [] (S.reverse.map (root L)),y∈S:=λy h=>by
  obtain ⟨x,e,rfl⟩:=(m y).mp h;exact (k.rt e).1
 have n:(uniq [] (S.reverse.map (root L))).Nodup:=Uv wh;have z:(uniq [] (S.reverse.map (root L))).length<=188:=bZ (zS n g) s.len;have B:=s.len
 have e1:ze false 1 [0] (oy (af 1)) (gN 0) qo (dM (jb (fx (wt 2 je 1 (jb (af 0) ai))) (jb (cB true) ai))) [.ab (jD L),.ab (.ah S),.ag (di L []),.un,.un,.un]= .ok (.ah ((S.reverse.map (root L)).map λx=> .ar [x,.bl true])):=by
  rw [iI];refine C9 (c:= .ab (jD L)) rfl _ (λd=>d∈S) rfl (λd i=>List.mem_reverse.mp i) (by rw [Gp];exact jV (by omega)) λd r i=>?_
  obtain ⟨a,_,c⟩:=s.oB k.gE k.lW i;exact Cf (D9 rfl rfl a c) rfl
 have e2:app (jb (app (jb (ze false 1 [0] (oy (af 1)) (gN 0) qo (dM (jb (fx (wt 2 je 1 (jb (af 0) ai))) (jb (cB true) ai)))) ai) XB) ai) D0 [.ab (jD L),.ab (.ah S),.ag (di L []),.un,.un,.un]= .ok (.ah (uniq [] (S.reverse.map (root L)))):=by
  have i:XB [.ah ((S.reverse.map (root L)).map λx=> .ar [x,.bl true])]= .ok (.bO ((uniq [] (S.reverse.map (root L))).map nk) (((S.reverse.map (root L)).map λx=>(nk x,D.bl true)).foldl x9 ([],[])).2):=by
    show (match gK ((S.reverse.map (root L)).map λx=> .ar [x,.bl true]) with|some o=>aq.ok (D.bO (o.foldl x9 ([],[])).1 (o.foldl x9 ([],[])).2)|none=> .aj)=_;rw [s.LD hR];have:=s.put (l:=[]) (v:=[]) hR nofun;rw [List.map_nil] at this;show aq.ok (D.bO (((S.reverse.map (root L)).map λx=>(nk x,D.bl true)).foldl x9 ([],[])).1 _)=_;rw [this]
  refine zY (jd (zY (jd e1 rfl) i) rfl) ?_;refine (ji (c:=((uniq [] (S.reverse.map (root L))).map nk).length<=10000/\((uniq [] (S.reverse.map (root L))).map nk).all NK.short=true) ⟨by rw [bN];omega,?_⟩).trans ?_
  . rw [iE];intro q u;obtain ⟨x,e,rfl⟩:=bP.mp u;exact (s.key (g x e)).2.2
  . rw [iI];congr 2;exact (lK λx e=>(s.key (g x e)).2.1).trans (List.map_id _)
 obtain ⟨P,E,H,w,p⟩:=kH s k b (.ab (.ah S)) n m (by omega) 200 [] _ .un .un (by rw [List.nil_append]) (by omega);refine ⟨P,xm ?_,λy h=>g y (p.mem_iff.mp h),λx e=>p.mem_iff.mpr ((m _).mpr ⟨x,e,rfl⟩)⟩;show qe je jL [.ab (jD L),.ab (.ah S),.un,.un,.un,.un]=_;unfold qe;rw [jx (env':=[.ab (jD L),.ab (.ah S),.ag (di L []),.un,.un,.un]) rfl];rw [jx (qk e2)];exact (jx w).trans rfl
end
section
variable {ns:List Str} {S:List D} {L:List (D×D)} {J:Int->D} {P:List D} {one other:D}
def jfT {l:List Int} {x:Int} (h:l.Nodup):(ins l x).Nodup:=by
 unfold ins
 split
 . exact h
 . rename_i k;exact qP.mpr ⟨h,by simp,λa d b c e=>k (by rw [f7] at c;rw [<-c,<-e];exact d)⟩
theorem kL: ∀ {xs l:List Int},l.Nodup->(met l xs).Nodup
 | [],_,h=>h
 |_::xs,_,h=>kL (xs:=xs) (jfT h)
def jfb (f:Int->D) (l:List Int) (x:Int):xS (aO l) (.inl x)=aO (ins l x)/\xT (aO l) (l.map f) (.inl x) (f x)=(ins l x).map f:=by
 unfold xS xT ins;rw [Wg]
 by_cases h:x∈l
 . simp only [h,decide_true,if_true,true_and];clear h
   induction l with
   |nil=>rfl
   |cons a l c=>
    simp only [aO,cY,oU] at c ⊢;rw [c]
    by_cases e:a=x
    . subst e;simp
    . simp [e]
 . simp [h,aO]
theorem Je (f:Int->D) (x:Int): ∀(l:List Int),ba (aO l) (l.map f) (.inl x)=if x∈l then some (f x) else none
 | []=>rfl
 |a::l=>by
  have c:=Je f x l;unfold ba aO at c ⊢;rw [cY,cY,oU,rq]
  by_cases e:a=x
  . subst e;simp
  . rw [decide_eq_false (λz=>e (vl z))];simp only [bH,show¬x=a from λz=>e z.symm,false_or];exact c
def jbn {c fv:T5} {i:Nat} {env:Sl} {ks:List aT} {ds:List D} {d a:D} {k:aT} (e:n9 i env= .ok (ks,ds)) (g:fv env= .ok d) (h:c env= .ok a) (l:dP a=some k) (m:ks.length<aH):Wt i c fv env= .ok (.nx (env.set i (.ag (.aJ (xS ks k) (xT ks ds k d))))):=by
 unfold Wt;rw [e,jn,g,jn,h,jn];show (match dP a with|some k=>aK (ks.length<aH) (aq.ok (bD.nx (env.set i (.ag (.aJ (xS ks k) (xT ks ds k d))))))|none=>_)=_;rw [l];exact ji m
def LH:Sl->aq bD:=aB (Wt 4 (af 5) (fx (av (cJ 3) (wt 2 je 2 (jb (af 5) ai)) i8))) (dz (aY (av (av (cJ 4) (af 5) mS) cN M.mP)) (λ_=> .aj) df)
def jaZ {t:D} (h:tk ns t=true):t.mh=false:=by rcases jy h with ⟨i,rfl⟩| ⟨z,r,rfl,_⟩<;>rfl
def LI {F:TY} {j:Nat} {f:T5} {env:Sl} {L:List (D×D)} {x y:D} (a:cJ j env= .ok (jD L)) (c:f env= .ok x) (d:F [jD L,x]= .ok y):wt 2 F j (jb f ai) env= .ok y:=by
 unfold wt;rw [a,jn,Jn,jn,jd c rfl,jn];exact (ji rfl).trans d
theorem vj (s:dH ns S) (k:dB ns S L) (b:j9 ns S L J) (m: ∀y∈P,y∈S) (n: ∀x∈S,root L x∈P) (o t:Slot): ∀(bs a:List Int) (u:Slot),(∀i∈bs,D.int i∈S)->a.length+bs.length<=1000-> ∃l,cR (wz (gN 5) LH) (bs.map .int) [o,t,.ag (jD L),.ag (di L P),.ag (.aJ (aO a) (a.map (Sg L))),u]= .ok (.nx [o,t,.ag (jD L),.ag (di L P),.ag (.aJ (aO (met a bs)) ((met a bs).map (Sg L))),l])
 | [],a,u,_,_=>⟨u,rfl⟩
 |i::bs,a,u,h,q=>by
  simp only [b9] at q;have g:=h i ci;have r:=vv a i;obtain ⟨l,e⟩:=vj s k b m n o t bs (ins a i) (.ab (.int i)) (λj v=>h j (cv _ v)) (by omega);refine ⟨l,?_⟩;rw [cY,KD,<-e];refine xy ?_;rw [x4 (env':=[o,t,.ag (jD L),.ag (di L P),.ag (.aJ (aO a) (a.map (Sg L))),.ab (.int i)]) rfl];obtain ⟨w,p,I⟩:=s.oB k.gE k.lW g
  have B:i8 (di L P) (root L (.int i))= .ok (Sg L i):=by
   show atT (P.map nk) (P.map (Mk L)) (root L (.int i))=_;unfold atT;rw [(s.key p).1];show (match gM (P.map nk) (P.map (Mk L)) (nk (root L (.int i))) with|some d=>aq.ok d|none=> .aj)=_;rw [s.val p m (n _ g)];exact congrArg aq.ok (k.gk g)
  have c:tk ns (Sg L i)=true:=k.u0 b _ g;obtain ⟨E,H⟩:=jfb (Sg L) a i;unfold LH;rw [jx ((jbn (d:=Sg L i) (k:= .inl i) rfl (Vf (ju rfl (LI rfl rfl w) B) (Qg _ c)) rfl rfl (by rw [yY];exact eV (by omega) jZ)).trans (by rw [E,H]))];refine (dh (jM (ju (ju rfl rfl (z:=Sg L i) ?_) rfl (show aq.ok (D.bl (Sg L i).mh)=_ by rw [jaZ (ns:=ns) c])))).trans rfl;show (match ba (aO (ins a i)) ((ins a i).map (Sg L)) (.inl i) with|some d=>aq.ok d|none=> .aj)=_;rw [Je,if_pos (mi.mpr (.inr rfl))]
def lb (one other:D):List Int:=met [] (nB one++nB other)
def WE {t:D} {i:Int}:i∈nB t↔D.int i∈aZ t:=by
 unfold nB;rw [fY,KS];simp
def ek {i:Int}:i∈lb one other↔D.int i∈aZ one++aZ other:=by
 unfold lb;rw [fY,cW,cW,WE,WE];simp
def kY:(lb one other).Nodup:=kL wh
structure Jt (ns:List Str) (one other:D) (σ:Int->D):Prop where
 tk: ∀i,tk ns (σ i)=true
 sz: ∀i,num (σ i)<=100/\bF (σ i)<=50
 o4:sub σ one=sub σ other
 again: ∀i,sub σ (σ i)=σ i
 gen: ∀J:Int->D,sub J one=sub J other-> ∀i,sub J (σ i)=J i
 low: ∀i j,σ i= .int j->j<=i/\σ j= .int j
 inl: ∀i∈lb one other,∀j,σ i= .int j->j∈lb one other
 out: ∀i,i∉lb one other->σ i= .int i
 small: ∀x∈aZ one++aZ other,num (sub σ x)<=100/\bF (sub σ x)<=50
def uW {t:D}:(nB t).length<=num t:=by
 have c:(met [] (eO (aZ t))).length<=(eO (aZ t)).length:=zS (kL wh) λx a=>(fY.mp a).elim nofun id
 have:=KU (aZ t);have:=wq t;show (met [] (eO (aZ t))).length<=_;omega
def kR (f:Int->D) (l:List Int) (i:Int):look (aO l) (l.map f) i=if i∈l then f i else .int i:=by
 unfold look;rw [Je]
 split<;>rfl
def uP {F:FO} {i:Nat} {env:Sl} {L:List (D×D)} {x y r d:D} (a:cL i env= .ok (jD L)) (c:af 0 env= .ok x) (e:af 1 env= .ok y) (g:F (jD L) [x,y]= .ok (r,d)):yM i 2 F (jb (af 0) (jb (af 1) ai)) env= .ok (r,env.set i (.ag d)):=by
 unfold yM;rw [a,jn,Jn,jn,jd c (jd e rfl),jn];show aK ([x,y].length=2) (F (jD L) [x,y]>>=_)=_;rw [g];exact ji rfl
def jfP (s:dH ns (aZ one++aZ other)) (hu:sub J one=sub J other) (hb: ∀x∈aZ one++aZ other,num (sub J x)<=100/\bF (sub J x)<=50): ∃l:Int->D,Jt ns one other l/\wa [one,other]= .ok (.aJ (aO (lb one other)) ((lb one other).map l)):=by
 have p:one∈aZ one++aZ other:=lr _ (xI _);have q:other∈aZ one++aZ other:=eT _ (xI _);obtain ⟨L,e1,w⟩:=jen s p q hu;obtain ⟨k,ho⟩:=w.ok s;have b:j9 ns (aZ one++aZ other) L J:=⟨(w.o4 J hu).1,λx d=>(hb x d).1,λx d=>(hb x d).2⟩
 obtain ⟨P,e2,hP,hr⟩:=jgU s k b;have t1:=s.dQ _ p;have t2:=s.dQ _ q;have g1:=s.hg _ p;have g2:=s.hg _ q;have r:=s.len;rw [de,wq,wq] at r;have b1:= @uW one;have b2:= @uW other
 have o: ∀i,look (aO (lb one other)) ((lb one other).map (Sg L)) i=if D.int i∈aZ one++aZ other then Sg L i else .int i:=λi=>by
   rw [kR]
   by_cases h:D.int i∈aZ one++aZ other
   . rw [if_pos h,if_pos (ek.mpr h)]
   . rw [if_neg h,if_neg λz=>h (ek.mp z)]
 generalize hs:look (aO (lb one other)) ((lb one other).map (Sg L))=l at o;have e: ∀ {i},D.int i∈aZ one++aZ other->l i=Sg L i:=λh=>by rw [o,if_pos h]
 have a: ∀ {i},D.int i∉aZ one++aZ other->l i= .int i:=λh=>by rw [o,if_neg h]
 have m: ∀x,tk ns x=true->(∀i∈ce x,D.int i∈aZ one++aZ other)->sub l x=sub (Sg L) x:=λx tx h=>WW x tx λi g=>e (h i g)
 have B: ∀x∈aZ one++aZ other,∀i∈ce x,D.int i∈aZ one++aZ other:=λx d i g=>by
   have: ∀t,tk ns t=true->(∀y∈aZ t,y∈aZ one++aZ other)->i∈ce t->D.int i∈aZ one++aZ other:=λt tt h g=>h _ ((YR t tt).mp g)
   refine this x (s.dQ x d) (λy hy=>?_) g
   have key: ∀(n:Nat) (x:D),num x<=n->x∈aZ one++aZ other-> ∀y∈aZ x,y∈aZ one++aZ other:=λn=>by
     induction n with
     |zero=>intro x h;have:=yX x;omega
     |succ n ih=>
       intro x h d y hy;rw [JP] at hy;rcases bH.mp hy with rfl|hy
       . exact d
       . obtain ⟨z,hz,E⟩:=bM.mp hy;exact ih z (by have:=KH hz;omega) (s.ms x d z hz) y E
   exact key _ x (aS _) d y hy
 have H: ∀x∈aZ one++aZ other,sub l x=Mk L x:=λx d=>(m x (s.dQ x d) (B x d)).trans (k.GW b x (s.dQ x d) d)
 refine ⟨l,⟨λi=>?_,λi=>?_,?_,λi=>?_,λφ I i=>?_,λi j h=>?_,λi g j h=>?_,λi h=>a λz=>h (ek.mpr z),λx d=>?_⟩,?_⟩
 . by_cases h:D.int i∈aZ one++aZ other
   . rw [e h];exact k.u0 b _ h
   . rw [a h];rfl
 . by_cases h:D.int i∈aZ one++aZ other
   . rw [e h];exact k.o7 b _ h
   . rw [a h];exact ⟨by simp [num],by simp [bF]⟩
 . rw [H _ p,H _ q,<-k.gk p,<-k.gk q,ho]
 . by_cases h:D.int i∈aZ one++aZ other
   . rw [e h];exact (m _ (k.u0 b _ h) λj hj=>(k.Ly b _ h j hj).1).trans (k.again b _ h)
   . rw [a h,sub_int,a h]
 . by_cases h:D.int i∈aZ one++aZ other
   . rw [e h];exact (k.keep b (w.o4 φ I).1 _ h).trans (sub_int _ _)
   . rw [a h,sub_int]
 . by_cases c:D.int i∈aZ one++aZ other
   . rw [e c] at h;obtain ⟨a1,a2,a3⟩:=k.least b c h;exact ⟨a1,by rw [e a2];exact a3⟩
   . rw [a c] at h;cases h;exact ⟨Int.le_refl _,a c⟩
 . have c:=ek.mp g;rw [e c] at h;exact ek.mpr (k.least b c h).2.1
 . rw [H x d];exact k.o7 b x d
 . have u:(lb one other).map l=(lb one other).map (Sg L):=lK λi g=>e (ek.mp g)
   rw [u];have N:=Kr 64 one (Ql _ t1) (by omega) (by omega);have O:=Kr 64 other (Ql _ t2) (by omega) (by omega);have Q:=uV (ns:=ns) t1 (by omega) (by omega);have U:=uV (ns:=ns) t2 (by omega) (by omega)
   obtain ⟨u',ej⟩:=vj s k b hP hr (.ab one) (.ab other) (nB one++nB other) [] .un (λi g=>by
     rw [cW,WE,WE] at g
     exact cW.mpr g) (by rw [de];simp only [du];omega)
   refine xm ?_;show Wj qt jE jT je (qJ 64) xR [.ab one,.ab other,.un,.un,.un,.un]=_;unfold Wj;rw [jx (env':=[.ab one,.ab other,.ag (jD []),.un,.un,.un]) rfl];have hc:=uP (i:=2) (env:=[.ab one,.ab other,.ag (jD []),.un,.un,.un]) rfl rfl rfl e1
   have Y:lQ (lM (tY (yM 2 2 jE (jb (af 0) (jb (af 1) ai))))) (a7 cN) df [.ab one,.ab other,.ag (jD []),.un,.un,.un]= .ok (.nx [.ab one,.ab other,.ag (jD L),.un,.un,.un]):=by
     unfold lQ lM tY;rw [hc];rfl
   rw [jx Y];have v:av (jr 1 (qJ 64) (jb (af 0) ai)) (jr 1 (qJ 64) (jb (af 1) ai)) bc [.ab one,.ab other,.ag (jD L),.un,.un,.un]= .ok (.ah (aZ one++aZ other)):=ju (jz (jd rfl rfl) rfl N) (jz (jd rfl rfl) rfl O) (yi (by rw [wq,wq];exact jV (by omega)))
   have hck:p7 (wt 2 jT 2 (jb (av (jr 1 (qJ 64) (jb (af 0) ai)) (jr 1 (qJ 64) (jb (af 1) ai)) bc) ai)) [.ab one,.ab other,.ag (jD L),.un,.un,.un]= .ok (di L P):=by
     unfold p7;rw [LI rfl v e2,jn]
     exact ji (c:=D.bC (P.map (Mk L))=true) (Qf (ns:=ns) λt ht=>by
       obtain ⟨x,d,rfl⟩:=bP.mp ht
       exact k.u0 b x (hP x d))
   rw [jx (env':=[.ab one,.ab other,.ag (jD L),.ag (di L P),.un,.un]) (UJ hck)];rw [jx (env':=[.ab one,.ab other,.ag (jD L),.ag (di L P),.un,.un]) rfl];rw [jx (env':=[.ab one,.ab other,.ag (jD L),.ag (di L P),.ag (.aJ [] []),.un]) rfl]
   have hit:gV (av (jr 1 xR (jb (af 0) ai)) (jr 1 xR (jb (af 1) ai)) bc) [.ab one,.ab other,.ag (jD L),.ag (di L P),.ag (.aJ [] []),.un]= .ok ((nB one++nB other).map .int):=by
     refine Qa (ju (jz (jd rfl rfl) rfl Q) (jz (jd rfl rfl) rfl U) (yi ?_)) ?_
     . rw [bN,bN];exact jV (by omega)
     . rw [iH];rfl
   exact (jx ((Zm hit).trans ej)).trans rfl
end
section
variable {ns:List Str} {fs:List Int}
def o5:Nat->Nat
 |0=>1
 |1=>10
 |r+2=>1+3*o5 (r+1)
def jep (r:Nat):1<=o5 r:=by
 cases r with
 |zero=>exact aS _
 |succ r=>cases r with
  |zero=>decide
  |succ r=>simp only [o5];omega
theorem QX {l:D} (hn:Ce ns l) (hf:fs.length=3): ∀(n r:Nat) (m:Int),r+1<=n->(0<=m/\m<2^140)-> ∃t,qA n [.int m,l,.int r,.ah (fs.map .int)]= .ok t/\Gt ns fs (r+1) (o5 r) t
 |0,r,m,h1,hm=>by omega
 |n+1,r,m,h1,hm=>by
  have N:20<=aH:=by decide
  generalize hkd:m%7=o;generalize Gr:m/7=J;generalize B:D.ah (fs.map .int)=p
  have t1:ie (aY (av (af 4) (cI 0) dN)) (cQ (aY (av (af 2) (cI 0) dN)) (aY (av (af 4) (cI 3) ltI))) [.ab (.int J),.ab l,.ab (.int r),.ab p,.ab (.int o),.un,.un]= .ok ((o==0)|| (((r:Int)==0)&&decide (o<3))):=
    Yj (jM (ju rfl rfl wW)) (Zy (jM (ju rfl rfl wW)) (jM (ju rfl rfl rfl)))
  have start: ∀g:Sl->aq bD,aB (gC (app (jb (af 0) (jb (cI 7) ai)) zV) (g2 (gN 0) (gN 4))) g [.ab (.int m),.ab l,.ab (.int r),.ab p,.un,.un,.un]=g [.ab (.int J),.ab l,.ab (.int r),.ab p,.ab (.int o),.un,.un]:=by
    intro g;rw [jx (env':=[.ab (.int J),.ab l,.ab (.int r),.ab p,.ab (.int o),.un,.un]) ((Ja (VX rfl rfl (by omega))).trans (by rw [Gr,hkd];rfl))]
  by_cases v:((o==0)|| (((r:Int)==0)&&decide (o<3)))=true
  . obtain ⟨d,hd,O⟩:=Fv (ds:=fs.map .int) (i:=J%3) (by omega) (by rw [bN,hf];omega);obtain ⟨i,hi,rfl⟩:=bP.mp O;rw [B] at hd;have Q:dZ [p]= .ok (.int 3):=by rw [<-B];show aq.ok (D.int ((fs.map D.int).length:Int))=_;rw [bN,hf];rfl
    refine ⟨.int i,Ft ?_,⟨rfl,by simp [bF],jep r,by rw [wZ];intro x U;simp only [bH,p5,or_false] at U;rw [U];exact hi⟩⟩;show zn (qA n) jB [.ab (.int m),.ab l,.ab (.int r),.ab p,.un,.un,.un]=_;unfold zn;rw [start];exact UK ((mR (by rw [t1,v])).trans (UT (ju rfl (zy rfl (zY (jd rfl rfl) Q) (by omega)) hd)))
  . have v:((o==0)|| (((r:Int)==0)&&decide (o<3)))=false:=by simpa using v
    generalize hwh:J%5=w;generalize Gs:J/5=m2;generalize hc0:m2%4=c0;generalize GX:m2/4=q;have Y:0<=q/\q<2^140:=by omega
    obtain ⟨z,hz,hzn⟩:=Lx hn w (by omega) (by omega)
    have IV: ∃y:Int,0<=y/\y<=9/\(r=0->y=0)/\(r≠1->y<=3)/\ ∀g:Sl->aq bD,aB (dz (cQ (aY (av (af 2) (cI 1) dN)) (aY (av (av (af 0) (cI 8) cc) (cI 1) dN))) (qg 6 (av (cI 4) (av (av (af 0) (cI 8) lJ) (cI 6) cc) bc)) df) (aB (dz (aY (av (af 2) (cI 0) dN)) (qg 6 (cI 0)) df) g)
        [.ab (.int q),.ab l,.ab (.int r),.ab p,.ab (.int o),.ab (.int w),.ab (.int c0)]=g [.ab (.int q),.ab l,.ab (.int r),.ab p,.ab (.int o),.ab (.int w),.ab (.int y)]:=by
      have ta:cQ (aY (av (af 2) (cI 1) dN)) (aY (av (av (af 0) (cI 8) cc) (cI 1) dN)) [.ab (.int q),.ab l,.ab (.int r),.ab p,.ab (.int o),.ab (.int w),.ab (.int c0)]= .ok (((r:Int)==1)&&(q%8==1)):=
        Zy (jM (ju rfl rfl wW)) (jM (ju (ju rfl rfl rfl) rfl wW))
      have tb: ∀c:Int,aY (av (af 2) (cI 0) dN) [.ab (.int q),.ab l,.ab (.int r),.ab p,.ab (.int o),.ab (.int w),.ab (.int c)]= .ok ((r:Int)==0):=λc=>jM (ju rfl rfl wW)
      by_cases L:(((r:Int)==1)&&(q%8==1))=true
      . have hr1:r=1:=by simp only [dj,beq_iff_eq] at L;omega
        subst hr1;refine ⟨4+q/8%6,by omega,by omega,λh=>by omega,λh=>absurd rfl h,λg=>?_⟩;rw [jx (env':=[.ab (.int q),.ab l,.ab (.int (1:Nat)),.ab p,.ab (.int o),.ab (.int w),.ab (.int (4+q/8%6))]) ((mR (by rw [ta,L])).trans rfl)];rw [jx ((dh (by rw [tb];rfl)).trans rfl)]
      . have L:(((r:Int)==1)&&(q%8==1))=false:=by simpa using L
        by_cases LJ:r=0
        . subst LJ;refine ⟨0,by omega,by omega,λ_=>rfl,λ_=>by omega,λg=>?_⟩;rw [jx ((dh (by rw [ta,L])).trans rfl)];rw [jx ((mR (by rw [tb];rfl)).trans rfl)];rfl
        . refine ⟨c0,by omega,by omega,λh=>absurd h LJ,λ_=>by omega,λg=>?_⟩;rw [jx ((dh (by rw [ta,L])).trans rfl)];rw [jx ((dh (by rw [tb];simp;omega)).trans rfl)]
    obtain ⟨y,c1,c2,E,c4,GY⟩:=IV
    obtain ⟨H,hts,hl,hR⟩:=uG (js:=[1,3,0,2]) (fi:=ig (jb (af 6) ai)) (fe:=jr 4 (qA n) (jb (jr 2 jB (jb (af 3) (jb (af 0) ai))) (jb (af 1) (jb (av (af 4) (cI 1) tu) (jb (af 2) ai)))))
      (env:=[.ab (.int q),.ab l,.ab (.int r),.ab p,.ab (.int o),.ab (.int w),.ab (.int y)]) (ds:=yc 0 y.toNat) (cs:=[.ab l,.ab p,.ab (.int q),.ab (.int r)])
      (Gt ns fs (r-1+1) (o5 (r-1))) (λd=> ∃k:Int,d= .int k/\0<=k/\k<10/\1<=r) rfl (X6 (jd rfl rfl) (by omega)) (λd hd=>by
        obtain ⟨k,rfl,k0,k1⟩:=J5 hd
        exact ⟨k,rfl,k0,by omega,by
          rcases Ge r with h|h; · rw [E h] at k1;simp at k1;omega
          . exact h⟩) (by rw [wA];omega) (by
        rintro d acc ⟨k,rfl,k0,k1,hr⟩;obtain ⟨m4,GZ,hb⟩:=wO q k Y (by omega);obtain ⟨t,u,hg⟩:=QX hn hf n (r-1) m4 (by omega) hb;rw [B] at u;have e:((r:Int)-1)=((r-1:Nat):Int):=by omega
        exact ⟨t,jz (ds:=[.int m4,l,.int ((r:Int)-1),p]) (jd (jz (jd rfl (jd rfl rfl)) rfl GZ) (jd rfl (jd (ju rfl rfl rfl) (jd rfl rfl)))) rfl (by rw [e];exact u),hg⟩)
    rw [wA] at hl;refine ⟨.ar (.str z::H),xm ?_,⟨Vt hzn (by omega) λt u=>(hR t u).tk,?_,?_,?_⟩⟩
    . show zn (qA n) jB [.ab (.int m),.ab l,.ab (.int r),.ab p,.un,.un,.un]=_;unfold zn;rw [start,jx ((dh (by rw [t1,v])).trans rfl)];rw [jx (env':=[.ab (.int m2),.ab l,.ab (.int r),.ab p,.ab (.int o),.ab (.int w),.un]) ((Ja (VX rfl rfl (by omega))).trans (by rw [Gs,hwh];rfl))];rw [jx (env':=[.ab (.int q),.ab l,.ab (.int r),.ab p,.ab (.int o),.ab (.int w),.ab (.int c0)]) ((Ja (VX rfl rfl (by omega))).trans (by rw [GX,hc0];rfl))];rw [GY];exact zj (zY (jd (ju (Zd (jd (ju rfl rfl hz) rfl) (bZ (show 1<=20 by decide) N)) hts (yi (a:=[.str z]) (b:=H) (by simp only [b9,du];omega))) rfl) rfl)
    . rw [zT];rcases Ge r with h|h
      . have:H=[]:=FM (by rw [hl,E h];rfl);subst this;simp [bm]
      . have:=M.fX (ds:=H) (k:=r) λt u=>by have:=(hR t u).hg;omega
        omega
    . rw [ya];have I:=kF (ts:=H) (n:=o5 (r-1)) λt u=>(hR t u).nm
      match r,E,c4,I with
      |0,E,c4,I=>
        have:H.length=0:=by rw [hl,E rfl];rfl
        rw [this] at I;simp only [o5];omega
      |1,E,c4,I=>
        simp only [o5,Nat.sub_self] at I ⊢;omega
      |r+2,E,c4,I=>
        simp only [o5,show r+2-1=r+1 from rfl] at I ⊢;have h3:H.length<=3:=by have:=c4 (by omega);omega
        have:=Nat.mul_le_mul_right (o5 (r+1)) h3;omega
    . intro x U;rw [wy,zX] at U;obtain ⟨t,u,hxt⟩:=tF.mp U;exact (hR t u).bk x hxt
def jem {i:Bool} {l:List Nat} {q:TZ} {m:T5} {env:Sl} {ds:List D} {cs:List Slot} (u:l.map (fO i env)=cs) (h:D->D) (P:D->Prop) (w:q env= .ok ds) (o: ∀d∈ds,P d) (v:ds.length<=aH)
  (z: ∀d a,P d->m (.ab d::(cs++[.ag (.ah a)]))= .ok (h d)) (B:i=true->D.bC (ds.map h)=true):ze i 1 l q (gN 0) qo m env= .ok (.ah (ds.map h)):=by
 have n:l.length=cs.length:=by rw [<-u];simp
 have e1: ∀(x:Slot) (a:List D),cu (1+cs.length) (x::(cs++[.ag (.ah a)]))= .ok a:=λx a=>by
  unfold cu;rw [show (1+cs.length)=cs.length+1 by omega,rM,eD (aS _)];simp
 have e2: ∀(x:Slot) (a g:List D),(x::(cs++[Slot.ag (.ah a)])).set (1+cs.length) (.ag (.ah g))=x::(cs++[.ag (.ah g)]):=λx a g=>by
  rw [show (1+cs.length)=cs.length+1 by omega,List.set_cons_succ,List.set_append_right _ _ (aS _)];simp
 have key: ∀(ds:List D) (x:Slot) (a:List D),(∀d∈ds,P d)->a.length+ds.length<=aH-> ∃y,zI (1+cs.length) (gN 0) qo m ds (x::(cs++[.ag (.ah a)]))= .ok (y::(cs++[.ag (.ah (a++ds.map h))])):=λds=>by
  induction ds with
  |nil=>intro x a _ _;exact ⟨x,by simp [zI]⟩
  |cons d ds E=>
   intro x a o v;simp only [b9] at v;obtain ⟨y,p⟩:=E (.ab d) (a++[h d]) (λe r=>o e (by simp [r])) (by simp only [de,b9,du];omega);refine ⟨y,?_⟩;show (m (.ab d::(cs++[.ag (.ah a)]))>>=_)=_;rw [z d a (o d (by simp)),jn];show (cu (1+cs.length) (Slot.ab d::(cs++[.ag (.ah a)]))>>=_)=_;rw [e1,jn,ji (by omega)];show zI _ _ _ _ ds ((Slot.ab d::(cs++[Slot.ag (.ah a)])).set (1+cs.length) (.ag (.ah (a++[h d]))))=_;rw [e2];rw [fy] at p;exact p
 obtain ⟨y,p⟩:=key ds .un [] o (by simp only [du];omega);show (q env>>=_)=_;rw [w];show (zI (1+l.length) (gN 0) qo m ds (wB i 1 l env)>>=_)=_
 have r:wB i 1 l env= .un::(cs++[.ag (.ah [])]):=by
  unfold wB;rw [u];rfl
 rw [r,n,p,jn,e1,jn];exact ji (c:=i=true->D.bC (ds.map h)=true) B
def kq (a s:Int):List Int:=(fm 12).map λ(k:Nat)=>(a+s*(k:Int))%1000
def jf0 {a s:Int} (h:s=1\/s=7\/s=83\/s=389):(kq a s).Nodup:=by
 refine Ab.mpr (List.Pairwise.imp (R:=λx y:Nat=>x<y/\y<12) (λ{x y} c e=>?_) ?_)
 . rcases h with rfl|rfl|rfl|rfl<;>omega
 . have:=List.pairwise_lt_range (n:=12);exact List.Pairwise.imp_of_mem (λ{x y} g d h=>⟨h,gs.mp d⟩) this
def WA (l:List D) (t:Nat):cutD l (some (t:Int)) none=l.drop t:=by
 unfold cutD;rw [HT.fW,HT.eE]
 by_cases h:t<=l.length
 . rw [DY h];exact BH (by simp)
 . rw [Nat.min_eq_right (by omega),List.drop_of_length_le (by omega:l.length<=t)];simp
def Wz (l:List D) (t:Nat):cutD l none (some (t:Int))=l.take t:=by
 unfold cutD;rw [HT.eE,HT.fW];simp only [List.drop_zero,Nat.sub_zero]
 by_cases h:t<=l.length
 . rw [DY h]
 . rw [Nat.min_eq_right (by omega),BH (aS _),BH (by omega)]
def VP (m:Int): ∃fs:List Int,xc [.int m]= .ok (.ah (fs.map .int))/\fs.length=12/\fs.Nodup:=by
 have c:20<=aH:=by decide
 obtain ⟨s,p,l⟩: ∃s:Int,bW (.ah [.int 1,.int 7,.int 83,.int 389]) (.int (m%4))= .ok (.int s)/\(s=1\/s=7\/s=83\/s=389):=by
   obtain ⟨d,n,o⟩:=Fv (ds:=[.int 1,.int 7,.int 83,.int 389]) (i:=m%4) (by omega) (by simp only [b9,du];omega);simp only [bH,p5,or_false] at o;rcases o with rfl|rfl|rfl|rfl<;>exact ⟨_,n,by simp⟩
 generalize q:m/4%1000=a;generalize r:m/4000%12=t;obtain ⟨t,rfl⟩:=Int.eq_ofNat_of_zero_le (show 0<=t by omega)
 have g:ze false 1 [2,1] (ig (jb (cI 12) ai)) (gN 0) qo (av (av (af 1) (av (af 2) (af 0) ff) bc) (cI 1000) cc) [.ab (.int m),.ab (.int s),.ab (.int a),.un,.un]= .ok (.ah ((kq a s).map .int)):=by
   have:(kq a s).map D.int=(yc 0 12).map λd=>match d with| .int k=> .int ((a+s*k)%1000)|_=> .aV:=by
     have u:yc 0 12=(fm 12).map λ(k:Nat)=>D.int (k:Int):=by simp [yc]
     rw [u];unfold kq;rw [iI,iI];rfl
   rw [this];refine jem (cs:=[.ab (.int a),.ab (.int s)]) rfl _ (λd=> ∃k:Int,d= .int k/\0<=k/\k<0+(12:Nat)) (X6 (j:=12) (jd rfl rfl) (by omega)) (λd n=>J5 n) (by rw [wA];exact bZ (by decide) c) (λd v h=>?_) nofun;obtain ⟨k,rfl,y,z⟩:=h;exact zy (zZ rfl (wN (a:=10) (b:=10) rfl rfl (by omega) (by omega) (by omega))) rfl (by omega)
 have e:(kq a s).length=12:=by simp [kq]
 refine ⟨(kq a s).drop t++(kq a s).take t,xm ?_,?_,?_⟩
 . show wT [.ab (.int m),.un,.un,.un,.un]=_;unfold wT;rw [jx (env':=[.ab (.int m),.ab (.int s),.un,.un,.un]) (qk (ju (Zd (jd rfl (jd rfl (jd rfl (jd rfl rfl)))) (bZ (by decide) c)) (zy rfl rfl (by omega)) p))];rw [jx (env':=[.ab (.int m),.ab (.int s),.ab (.int a),.un,.un]) ((qk (zy (ju rfl rfl (ur (by omega))) rfl (by omega))).trans (by rw [q];rfl))];rw [jx (env':=[.ab (.int m),.ab (.int s),.ab (.int a),.ab (.ah ((kq a s).map .int)),.un]) (qk g)];rw [jx (env':=[.ab (.int m),.ab (.int s),.ab (.int a),.ab (.ah ((kq a s).map .int)),.ab (.int (t:Int))]) ((qk (zy (ju rfl rfl (ur (by omega))) rfl (by omega))).trans (by rw [r];rfl))];refine zj ?_;refine (ju (za (x:= .ah ((kq a s).map .int)) (lo:=some (t:Int)) (hi:=none) rfl (q9 rfl) rfl rfl) (za (x:= .ah ((kq a s).map .int)) (lo:=none) (hi:=some (t:Int)) rfl rfl (q9 rfl) rfl) (yi ?_)).trans ?_
   . rw [WA,Wz,v5,mH,bN,e];omega
   . rw [WA,Wz,<-List.map_drop,<-List.map_take,<-iH]
 . rw [de,v5,mH,e];omega
 . have h:=jf0 (a:=a) l
   have w:((kq a s).drop t++(kq a s).take t).Perm (kq a s):=by
     have:=List.perm_append_comm (l₁:=(kq a s).drop t) (l₂:=(kq a s).take t)
     rwa [F4] at this
   exact w.nodup_iff.mpr h
end
section
variable {ns:List Str} {one I:D} {σ:Int->D}
theorem Uu: ∀ {ks:List aT} {ds:List D},ks.Nodup-> ∀p∈ks.zip ds,ba ks ds p.1=some p.2
 | [],ds,_,p,hp=>by simp at hp
 |k::ks,[],_,p,hp=>by simp at hp
 |k::ks,d::ds,h,p,hp=>by
  rw [oF] at h;rw [oU,bH] at hp;rcases hp with rfl|hp
  . simp [ba]
  . have a:k≠p.1:=λe=>h.1 (e▸(ph hp).1)
    have:ba (k::ks) (d::ds) p.1=ba ks ds p.1:=by simp [ba,a]
    rw [this];exact Uu h.2 p hp
theorem Vb {a:List aT} {c:List D}: ∀(ks:List aT) (ds:List D),(∀p∈ks.zip ds,ba a c p.1=some p.2)->(∀d∈ds,ck d d=true)->Wu ks ds a c=true
 | [],ds,_,_=>by cases ds<;>rfl
 |k::ks,[],_,_=>rfl
 |k::ks,d::ds,h,g=>by
  have i:=h (k,d) (by simp);show ((match ba a c k with|some e=>ck d e|none=>false)&&Wu ks ds a c)=true;rw [show ba a c k=some d from i,Vb ks ds (λp l=>h p (by rw [oU];exact cv _ l)) λe m=>g e (by simp [m])];simp [g d (by simp)]
def jfI {l:List Int} (h:l.Nodup):(aO l).Nodup:=by
 unfold aO;exact Ab.mpr (h.imp λa e=>a (vl e))
theorem KY {g:Sl->aq (Option Bool)} {j:Nat} {env:Sl}: ∀ks:List aT,(∀k∈ks,g (env.set j (.ab (kD k)))= .ok none)->zb g j ks env= .ok none
 | [],_=>rfl
 |k::ks,h=>by
  show (g (env.set j (.ab (kD k)))>>=_)=_;rw [h k (by simp)];exact KY ks λa c=>h a (by simp [c])
def JJ (l:List Int):allI (aO l)=true:=by
 unfold allI;rw [iE];intro k a;obtain ⟨i,_,rfl⟩:=bP.mp a;rfl
def vF {l:List Int} {i:Int} (h:i∈l):cF (.bG (aO l) (l.map σ)) (.int i)= .ok (σ i):=by
 show (match ba (aO l) (l.map σ) (.inl i) with|some d=>aq.ok d|none=> .aj)=_;rw [Je,if_pos h]
def Yy (h: ∀i,tk ns (σ i)=true) (l:List Int):D.bC (l.map σ)=true:=Qf (ns:=ns) λd a=>by
 obtain ⟨i,_,rfl⟩:=bP.mp a;exact h i
def jgW (h: ∀i,tk ns (σ i)=true) (l:List Int):qQ [.aJ (aO l) (l.map σ)]= .ok (.bl true):=by
 refine xm ?_;show qM jq [.ab (.aJ (aO l) (l.map σ)),.un]=_;unfold qM
 have d:lend [.ab (.aJ (aO l) (l.map σ)),.un]=[.ab (.bG (aO l) (l.map σ)),.un]:=by
  show [wP (.ab (.aJ (aO l) (l.map σ))),.un]=_;rw [show wP (.ab (.aJ (aO l) (l.map σ)))= .ab (.bG (aO l) (l.map σ)) from if_pos (Yy h l)]
 generalize m:FL (ie (cr (aY (jr 1 jq (jb (af 1) ai)))) (cQ (cr (aY (bU "tuple" (av (af 0) (af 1) cF)))) (cr (aY (jr 1 jq (jb (av (af 0) (af 1) cF) ai)))))) false=T
 have c:zb T 1 (aO l) (lend [.ab (.aJ (aO l) (l.map σ)),.un])= .ok none:=by
  refine KY _ λk n=>?_
  obtain ⟨i,o,rfl⟩:=bP.mp n;rw [d,<-m];have p:jr 1 jq (jb (af 1) ai) [.ab (.bG (aO l) (l.map σ)),.ab (.int i)]= .ok (.bl true):=jz (jd rfl rfl) rfl rfl;have g:av (af 0) (af 1) cF [.ab (.bG (aO l) (l.map σ)),.ab (.int i)]= .ok (σ i):=ju rfl rfl (vF o);have q:bU "tuple" (av (af 0) (af 1) cF) [.ab (.bG (aO l) (l.map σ)),.ab (.int i)]= .ok (.bl (cw (σ i))):=by rw [vO,g];exact Zg (h i)
  have v:jr 1 jq (jb (av (af 0) (af 1) cF) ai) [.ab (.bG (aO l) (l.map σ)),.ab (.int i)]= .ok (.bl (mP (σ i))):=jz (jd g rfl) rfl (Y4 (h i));show (ie _ _ [.ab (.bG (aO l) (l.map σ)),.ab (.int i)]>>=_)=_;rw [Yj (zR (jM p)) (Zy (zR (jM q)) (zR (jM v)))];rcases jy (h i) with ⟨j,e⟩| ⟨z,r,e,_⟩<;>rw [e]<;>rfl
 have a: ∃u:Slot,pT 0 1 T [.ab (.aJ (aO l) (l.map σ)),.un]= .ok (.nx [.ab (.aJ (aO l) (l.map σ)),u]):=by
  have e:pT 0 1 T [.ab (.aJ (aO l) (l.map σ)),.un]=tP 1 (aO l) [.ab (.aJ (aO l) (l.map σ)),.un] none:=by
   show aK _ _=_;rw [ji (JJ l),c];rfl
  rw [e];unfold tP
  cases (aO l).getLast? with
  |none=>exact ⟨.un,rfl⟩
  |some k=>exact ⟨.ab (kD k),rfl⟩
 obtain ⟨u,w⟩:=a;rw [jx w];rfl
theorem vE {g:T3} {F0 F1:Slot}: ∀(ks:List aT) (i a:Slot),(∀k∈ks,∀a,∃c d,g [F0,F1,.ab (kD k),a]= .ok (.nx [F0,F1,c,d]))-> ∃c d,Ae g 2 ks [F0,F1,i,a]= .ok (.inl [F0,F1,c,d])
 | [],i,a,_=>⟨i,a,rfl⟩
 |k::ks,i,a,h=>by
  obtain ⟨c,d,e⟩:=h k (by simp) a;obtain ⟨l,m,e2⟩:=vE ks c d λn o=>h n (by simp [o])
  refine ⟨l,m,?_⟩;show (g [F0,F1,.ab (kD k),a]>>=_)=_;rw [e];exact e2
def Z5 {a:D} (h:tk ns a=true) (c:bF a<=100):il a a= .ok (.bl false):=by
 obtain ⟨x,e,d⟩:=jdv h h c;rw [e,d.mpr rfl]
def jha {a c:T4} {env:Sl} (h:a env= .ok false):cQ a c env= .ok false:=by rw [vP,h];rfl
def vG {f a c:T5} {env:Sl} {ks:List aT} {ds:List D} {kd z:D} {k:aT} (h:f env= .ok (.bG ks ds)) (d:a env= .ok kd) (e:c env= .ok z) (g:dP kd=some k):Qh f a c env= .ok ((ba ks ds k).getD z):=by
 unfold Qh;rw [h,jn,d,jn,e,jn];show (match dP kd with|some k=>aq.ok ((ba ks ds k).getD z)|none=> .aj)=_;rw [g]
def Jt.lk (J:Jt ns one I σ):look (aO (lb one I)) ((lb one I).map σ)=σ:=funext λi=>by
 rw [kR]
 by_cases h:i∈lb one I
 . rw [if_pos h]
 . rw [if_neg h,J.out i h]
def jcH {ks:List aT} {ds:List D} (J:Jt ns one I σ) (m: ∀d∈ds,tk ns d=true/\bF d<=50) (x:sub (look ks ds) one=sub (look ks ds) I):zM [.aJ (aO (lb one I)) ((lb one I).map σ),.aJ ks ds]= .ok (.bl true):=by
 generalize q:lb one I=l;have lk:look (aO l) (l.map σ)=σ:=by rw [<-q];exact J.lk
 have n: ∀i∈l,∀j,σ i= .int j->j∈l:=by rw [<-q];exact J.inl
 refine xm ?_;show zF jq (jO 64) [.ab (.aJ (aO l) (l.map σ)),.ab (.aJ ks ds),.un,.un]=_;unfold zF;have y:D.bC (l.map σ)=true:=Yy J.tk l;have B:D.bC ds=true:=Qf (ns:=ns) λd h=>(m d h).1
 generalize E:(aB (qg 3 (av (af 0) (af 2) cF)) (aB (dz (cQ (aY (jr 1 jq (jb (af 3) ai))) (ie (aY (av (af 3) (af 2) rF)) (aY (av (Qh (af 0) (af 3) (mQ (cI 1))) (af 3) il)))) (a7 (cB false)) df) (dz (ie (aY (av (jr 2 (jO 64) (jb (af 3) (jb (af 0) ai))) (af 3) il)) (aY (av (jr 2 (jO 64) (jb (af 3) (jb (af 1) ai))) (Qh (af 1) (af 2) (af 2)) il))) (a7 (cB false)) df)))=H
 have o:lend [.ab (.aJ (aO l) (l.map σ)),.ab (.aJ ks ds),.un,.un]=[.ab (.bG (aO l) (l.map σ)),.ab (.bG ks ds),.un,.un]:=by
  show [wP (.ab (.aJ (aO l) (l.map σ))),wP (.ab (.aJ ks ds)),.un,.un]=_;rw [show wP (.ab (.aJ (aO l) (l.map σ)))= .ab (.bG (aO l) (l.map σ)) from if_pos y,show wP (.ab (.aJ ks ds))= .ab (.bG ks ds) from if_pos B]
 obtain ⟨v2,v3,p⟩:=vE (g:=H) (F0:= .ab (.bG (aO l) (l.map σ))) (F1:= .ab (.bG ks ds)) (aO l) .un .un λk L N=>by
  obtain ⟨i,u,rfl⟩:=bP.mp L;refine ⟨.ab (.int i),.ab (σ i),?_⟩;rw [<-E];show aB _ _ [.ab (.bG (aO l) (l.map σ)),.ab (.bG ks ds),.ab (.int i),N]=_;rw [jx (qk (ju rfl rfl (vF u)))];show aB _ _ [.ab (.bG (aO l) (l.map σ)),.ab (.bG ks ds),.ab (.int i),.ab (σ i)]=_;have c:=J.tk i;have si:=J.sz i
  have O:cQ (aY (jr 1 jq (jb (af 3) ai))) (ie (aY (av (af 3) (af 2) rF)) (aY (av (Qh (af 0) (af 3) (mQ (cI 1))) (af 3) il))) [.ab (.bG (aO l) (l.map σ)),.ab (.bG ks ds),.ab (.int i),.ab (σ i)]= .ok false:=by
   rcases jy c with ⟨j,e⟩| ⟨z,r,e,_⟩
   . obtain ⟨a1,Q⟩:=J.low i j e;rw [e]
     have g:Qh (af 0) (af 3) (mQ (cI 1)) [.ab (.bG (aO l) (l.map σ)),.ab (.bG ks ds),.ab (.int i),.ab (.int j)]= .ok (.int j):=by
      rw [vG (ks:=aO l) (ds:=l.map σ) (kd:= .int j) (z:= .int (-1)) (k:= .inl j) rfl rfl rfl rfl,Je,if_pos (n i u j e),Q];rfl
     have g2:av (af 3) (af 2) rF [.ab (.bG (aO l) (l.map σ)),.ab (.bG ks ds),.ab (.int i),.ab (.int j)]= .ok (.bl (decide (i<j))):=ju rfl rfl rfl;have U:av (Qh (af 0) (af 3) (mQ (cI 1))) (af 3) il [.ab (.bG (aO l) (l.map σ)),.ab (.bG ks ds),.ab (.int i),.ab (.int j)]= .ok (.bl false):=ju g rfl (by rw [WO];simp);have Y:jr 1 jq (jb (af 3) ai) [.ab (.bG (aO l) (l.map σ)),.ab (.bG ks ds),.ab (.int i),.ab (.int j)]= .ok (.bl true):=jz (jd rfl rfl) rfl rfl;refine (Zy (jM Y) (Yj (jM g2) (jM U))).trans ?_;rw [decide_eq_false (by omega)];rfl
   . rw [e];exact jha (jM (jz (jd rfl rfl) rfl rfl))
  rw [jx ((dh O).trans rfl)];have v:=Qn (dd:= .bG (aO l) (l.map σ)) (.inr rfl) 64 (σ i) c (by omega);rw [lk,J.again] at v;have w:=Qn (dd:= .bG ks ds) (.inr rfl) 64 (σ i) c (by omega);rw [J.gen _ x i] at w;have h2:bF (look ks ds i)<=50:=jaN (by omega) (λd h=>(m d h).2) i;have h3:=Z5 (a:=look ks ds i) (Y1 (λd h=>(m d h).1) i) (by omega);exact (dh (Yj (jM (ju (jz (jd rfl (jd rfl rfl)) rfl v) rfl (Z5 c (by omega)))) (jM (ju (jz (jd rfl (jd rfl rfl)) rfl w) (vG rfl rfl rfl rfl) h3)))).trans rfl
 refine (jx (env':=[.un,.un,.un,.un]) ?_).trans rfl;show aK _ _=_;rw [ji ⟨JJ l,rfl⟩,o,p];rfl
end
section
variable {ns:List Str} {one H:D} {E:List Int}
theorem Xt: ∀l:List Int,We (aO l)=some l
 | []=>rfl
 |i::l=>by
  show (match We (aO l) with|some l=>some (i::l)|none=>none)=_;rw [Xt l]
theorem Xs: ∀l:List Int,Wc (l.map .int)=some l
 | []=>rfl
 |i::l=>by
  show (Wc (l.map .int)).map (i:: ·)=_;rw [Xs l];rfl
def jdu (l:List Int):il (.ah (l.map .int)) (.ah (l.map .int))= .ok (.bl false):=by
 have e:D.bE (l.map .int)=true:=Qo λd a=>by
  obtain ⟨i,_,rfl⟩:=bP.mp a;rfl
 have h:D.bI (l.map .int)<=0:=Qu λd a=>by
  obtain ⟨i,_,rfl⟩:=bP.mp a;exact aS _
 have g:bV (l.map .int) (l.map .int)=true:=Qp λd a=>by
  obtain ⟨i,_,rfl⟩:=bP.mp a;show (i==i)=true;simp
 refine (ji (c:=rE (.ah (l.map .int)) (.ah (l.map .int))) (.inl ⟨e,e,by show D.bI (l.map .int)+1<=190;omega⟩)).trans ?_;show aq.ok (D.bl (!bV (l.map .int) (l.map .int)))=_;rw [g];rfl
structure Tw (ns:List Str) (E:List Int) (one H:D):Prop where
 nm: ∀z∈ns,z.length<=aH
 t1:tk ns one=true
 t2:tk ns H=true
 h1:bF one<=4
 h2:bF H<=4
 n1:num one<=94
 n2:num H<=94
 b1: ∀i∈ce one,i∈E
 b2: ∀i∈ce H,i∈E
def Tw.flip (w:Tw ns E one H):Tw ns E H one:=⟨w.nm,w.t2,w.t1,w.h2,w.h1,w.n2,w.n1,w.b2,w.b1⟩
def Tw.self (w:Tw ns E one H):Tw ns E one one:=⟨w.nm,w.t1,w.t1,w.h1,w.h1,w.n1,w.n1,w.b1,w.b1⟩
def Tw.sok (w:Tw ns E one H):dH ns (aZ one++aZ H):=by
 have key: ∀t,tk ns t=true->bF t<=4-> ∀x∈aZ t,tk ns x=true/\bF x<=8/\ ∀y∈aN x,y∈aZ t:=λt h i x a=>by
   obtain ⟨_,b,c⟩:=Kk _ t (aS _) a;exact ⟨UZ t h x a,by omega,c⟩
 have d:=key one w.t1 w.h1;have e:=key H w.t2 w.h2;refine ⟨w.nm,λx a=>?_,λx a=>?_,λx a y g=>?_,?_⟩
 . exact (cW.mp a).elim (λz=>(d x z).1) λz=>(e x z).1
 . exact (cW.mp a).elim (λz=>(d x z).2.1) λz=>(e x z).2.1
 . exact (cW.mp a).elim (λz=>lr _ ((d x z).2.2 y g)) λz=>eT _ ((e x z).2.2 y g)
 . rw [de,wq,wq];have:=w.n1;have:=w.n2;omega
def Tw.Aj (w:Tw ns E one H) {i:Int}:i∈lb one H↔i∈ce one++ce H:=by
 rw [ek,cW,cW,YR one w.t1,YR H w.t2]
def Tw.LK (w:Tw ns E one H) {i:Int} (h:i∈lb one H):i∈E:=(cW.mp (w.Aj.mp h)).elim (w.b1 i) (w.b2 i)
def Tw.jt (w:Tw ns E one H) {θ:Int->D} (c:sub θ one=sub θ H) (g:num (sub θ one)<=100) (h:bF (sub θ one)<=50): ∃d:Int->D,Jt ns one H d/\wa [one,H]= .ok (.aJ (aO (lb one H)) ((lb one H).map d)):=
 jfP w.sok c λx e=>by
  have:sub θ x∈aZ (sub θ one):=by
   rcases cW.mp e with z|z
   . exact U0 θ one w.t1 z
   . rw [c];exact U0 θ H w.t2 z
  obtain ⟨a,b,_⟩:=Kk _ _ (aS _) this;omega
def Jt.same {c d:Int->D} (a:Jt ns one H c) (b:Jt ns H one d):c=d:=funext λi=>
 twin (ns:=ns) (λi j e=>(a.low j i e).1) (λi j e=>(b.low j i e).1) (d i) (b.tk i) (c i) (a.tk i) (b.gen c a.o4.symm i) (a.gen d b.o4.symm i)
def Ch {a:Int->D} (o: ∀i,tk ns (a i)=true) (z: ∀i,bF (a i)<=50) {c g:List Int} (u:c.Nodup) (B:g.Nodup) (v: ∀x,x∈c↔x∈g):YE (.aJ (aO c) (c.map a)) (.aJ (aO g) (g.map a))= .ok (.bl true):=by
 have m:c.length=g.length:=((Gb u B).mpr v).length_eq
 have h: ∀l:List Int,D.bE (l.map a)=true:=λl=>Qo λd n=>by
  obtain ⟨i,_,rfl⟩:=bP.mp n;exact (Jr _ (o i)).1
 have I:oa (c.map a) (g.map a):=⟨h c,h g,bZ (Qu (k:=50) λd n=>by
  obtain ⟨i,_,rfl⟩:=bP.mp n
  exact bZ (Jr _ (o i)).2 (z i)) (by decide)⟩
 have q:Wu (aO c) (c.map a) (aO g) (g.map a)=true:=by
  refine Vb _ _ (λp w=>?_) λd n=>?_
  . have r:=Uu (jfI u) p w;obtain ⟨i,y,e⟩:=bP.mp (ph w).1;rw [<-e] at r ⊢;rw [Je,if_pos y] at r;rw [Je,if_pos ((v i).mp y)];exact r
  . obtain ⟨i,_,rfl⟩:=bP.mp n;exact Y0 _ (o i)
 show aK (oa _ _) _=_;rw [ji I,q,yY,yY,m];simp
def LL (w:Tw ns E one H) (L:E.length<=12) {ks:List aT} {ds:List D} (Y: ∀d∈ds,tk ns d=true/\bF d<=50) (m:sub (look ks ds) one=sub (look ks ds) H) (N:num (sub (look ks ds) one)<=100) (O:bF (sub (look ks ds) one)<=50):qY [one,H,.aJ ks ds]= .ok (.bl true):=by
 obtain ⟨p,J,Q⟩:=w.jt m N O;obtain ⟨ρ,J2,q⟩:=w.flip.jt m.symm (by rw [<-m];exact N) (by rw [<-m];exact O);cases J.same J2;have hw:=jcH J Y m;have hk:=jgW J.tk (lb one H);have Lb:=w.h1;have Lc:=w.h2;have hq1:=w.n1;have hq2:=w.n2;have U:=Qn (dd:= .aJ (aO (lb one H)) ((lb one H).map p)) (.inl rfl) 64 one w.t1 (by omega);have r:=Qn (dd:= .aJ (aO (lb one H)) ((lb one H).map p)) (.inl rfl) 64 H w.t2 (by omega);rw [J.lk] at U r;rw [<-J.o4] at r;have nF:=J.small one (lr _ (xI _));have u:tk ns (sub p one)=true:=XU J.tk one w.t1;have l12:(lb one H).length<=12:=bZ (zS kY λi v=>w.LK v) L;have Lm:(jA (ce one++ce H)).length<=12:=bZ (zS (K3 _) λi v=>w.LK (w.Aj.mpr (mq.mp v))) L;have y:wF (jA (ce one++ce H))=wF (lb one H):=xF (yq _) (yq _) ((zh _).trans (((Gb (K3 _) kY).mpr λi=>by rw [mq,w.Aj]).trans (zh _).symm));have z:=Z7 64 one w.t1 (by omega) (by omega);have B:=Z7 64 H w.t2 (by omega) (by omega);have bl1:=WD one w.t1;have bl2:=WD H w.t2;have e:=kY (one:=one) (other:=H);have I:=Ch J.tk (λi=>(J.sz i).2) (kY (one:=H) (other:=one)) e λx=>by rw [w.flip.Aj,w.Aj,cW,cW,or_comm]
 have n:=Ch J.tk (λi=>(J.sz i).2) e e λx=> .rfl
 generalize lb one H=l at*;generalize lb H one=l2 at*;generalize o:D.aJ (aO l) (l.map p)=a at*;have dO:J0 a=true:=by rw [<-o];rfl
 refine xm ?_;show wR wa qQ (jO 64) zM (jC 64) [.ab one,.ab H,.ab (.aJ ks ds),.un,.un]=_;unfold wR;refine (jx (env':=[.ab one,.ab H,.ab (.aJ ks ds),.ag a,.un]) ((UJ (jz (jd rfl (jd rfl rfl)) rfl Q)).trans (by rw [show XY a= .ag a from if_pos dO];rfl))).trans ?_;have s1:bU "dict" (cJ 3) [.ab one,.ab H,.ab (.aJ ks ds),.ag a,.un]= .ok (.bl true):=by rw [<-o];rfl
 refine (jx (env':=[.ab one,.ab H,.ab (.aJ ks ds),.ag a,.un]) ((dh (Yj (zR (jM s1)) (zR (jM (jz (jd rfl rfl) rfl hk))))).trans rfl)).trans ?_
 have s2:app (jb (cJ 3) ai) Jz [.ab one,.ab H,.ab (.aJ ks ds),.ag a,.un]= .ok (.ah ((wF l).map .int)):=by
  refine zY (jd rfl rfl) ?_;rw [<-o];show (match We (aO l) with|some h=>aK (h.Nodup/\h.length<64) (aq.ok (D.ah ((wF h).map .int)))|none=> .aj)=_;rw [Xt];exact ji (c:=l.Nodup/\l.length<64) ⟨e,by omega⟩
 have s3:ZE (av (jr 1 (jC 64) (jb (af 0) ai)) (jr 1 (jC 64) (jb (af 1) ai)) bc) [.ab one,.ab H,.ab (.aJ ks ds),.ag a,.un]= .ok (.ah ((wF l).map .int)):=by
  have g:av (jr 1 (jC 64) (jb (af 0) ai)) (jr 1 (jC 64) (jb (af 1) ai)) bc [.ab one,.ab H,.ab (.aJ ks ds),.ag a,.un]= .ok (.ah ((ce one).map .int++(ce H).map .int)):=ju (jz (jd rfl rfl) rfl z) (jz (jd rfl rfl) rfl B) (yi (by rw [bN,bN];exact jV (by omega)));unfold ZE;rw [g,jn,<-iH];show (match Wc ((ce one++ce H).map .int) with|some h=>aK ((jA h).length<64) (aq.ok (D.ah ((wF (jA h)).map .int)))|none=> .aj)=_;rw [Xs];refine (ji (c:=(jA (ce one++ce H)).length<64) (by omega)).trans ?_;rw [y]
 refine (jx (env':=[.ab one,.ab H,.ab (.aJ ks ds),.ag a,.un]) ((dh (jM (ju s2 s3 (jdu _)))).trans rfl)).trans ?_;refine (jx (env':=[.ab one,.ab H,.ab (.aJ ks ds),.ag a,.un]) ((dh (Yj (jM (ju (jz (jd rfl (jd rfl rfl)) rfl U) (jz (jd rfl (jd rfl rfl)) rfl r) (Z5 u (by omega)))) (zR (jM (jz (jd rfl (jd rfl rfl)) rfl hw))))).trans rfl)).trans ?_;have s4:dg 4 (pR 3) [.ab one,.ab H,.ab (.aJ ks ds),.ag a,.un]= .ok (.nx [.ab one,.ab H,.ab (.aJ ks ds),.ag a,.ag a]):=by rw [<-o];rfl
 have s5:uI 3 [.ab one,.ab H,.ab (.aJ ks ds),.ag a,.ag a]= .ok (.nx [.ab one,.ab H,.ab (.aJ ks ds),.ag (.aJ [] []),.ag a]):=by rw [<-o];rfl
 rw [jx s4,jx s5];have e1:av (jr 2 wa (jb (af 1) (jb (af 0) ai))) (cJ 4) YE [.ab one,.ab H,.ab (.aJ ks ds),.ag (.aJ [] []),.ag a]= .ok (.bl true):=ju (jz (jd rfl (jd rfl rfl)) rfl q) rfl I;have e2:av (jr 2 wa (jb (af 0) (jb (af 1) ai))) (cJ 4) YE [.ab one,.ab H,.ab (.aJ ks ds),.ag (.aJ [] []),.ag a]= .ok (.bl true):=ju (jz (jd rfl (jd rfl rfl)) rfl Q) rfl n;refine zj ?_;rw [OK,e1];exact e2
end
section
variable {ns:List Str} {N:List Int} {P Q:List D}
def jU (N:List Int) (P:List D):D:= .aJ (aO (N.take P.length)) P
def oC (N:List Int) (P:List D):Int->D:=look (aO (N.take P.length)) P
def yo (x:aT) (ks:List aT) (d:D) (ds:List D) (k:aT):ba (x::ks) (d::ds) k=if x=k then some d else ba ks ds k:=by
 by_cases e:x=k
 . rw [if_pos e];subst e;simp [ba]
 . rw [if_neg e];simp [ba,e]
theorem Zz: ∀(N:List Int) (P:List D) (k:Nat) (x:Int),N.Nodup->N[k]?=some x->k<P.length->ba (aO (N.take P.length)) P (.inl x)=P[k]?
 | [],_,k,x,_,h,_=>by simp at h
 |a::N,[],k,x,_,_,h=>by simp at h
 |a::N,d::P,0,x,_,h,_=>by
  have:a=x:=by simpa using h
  subst this;show ba (.inl a::aO (N.take P.length)) (d::P) (.inl a)=_;rw [yo,if_pos rfl];rfl
 |a::N,d::P,k+1,x,c,h,l=>by
  rw [oF] at c;have i:N[k]?=some x:=by simpa using h
  have g:(o8 a:aT)≠ .inl x:=λe=>c.1 (by rw [vl e];exact gt i)
  show ba (.inl a::aO (N.take P.length)) (d::P) (.inl x)=_;rw [yo,if_neg g,Zz N P k x c.2 i (by simpa using l)];rfl
def LM {k:Nat} {x:Int} {d:D} (c:N.Nodup) (h:N[k]?=some x) (a:P[k]?=some d):oC N P x=d:=by
 unfold oC look;rw [Zz N P k x c h (c7.mp a).1,a];rfl
def jfg {x:Int} (h:x∉N):oC N P x= .int x:=by
 unfold oC look
 cases e:ba (aO (N.take P.length)) P (.inl x) with
 |none=>rfl
 |some d=>
  exfalso;unfold ba at e
  cases z:((aO (N.take P.length)).zip P).find? λp=>decide (p.1= .inl x) with
  |none=>rw [z] at e;cases e
  |some p=>
   have a:=Cr z;have g:=(ph (u5 z)).1;obtain ⟨i,c,e2⟩:=bP.mp g;rw [<-e2] at a;have:i=x:=vl (of_decide_eq_true a);rw [this] at c;exact h (F5 c)
theorem LN {t:T4} {j:Nat} {env:Sl} (R:aT->Prop): ∀ks:List aT,(∀k∈ks,∃b,t (env.set j (.ab (kD k)))= .ok b/\(b=true->R k))-> ∃r,p8 t j ks env= .ok r/\ ∀k,r=some k->k∈ks/\R k
 | [],_=>⟨none,rfl,nofun⟩
 |k::ks,h=>by
  obtain ⟨b,e,g⟩:=h k (by simp)
  have e2:p8 t j (k::ks) env=if b=true then .ok (some k) else p8 t j ks env:=by
   show (t (env.set j (.ab (kD k)))>>=_)=_;rw [e];rfl
  cases b with
  |true=>exact ⟨some k,e2,λa c=>by cases c;exact ⟨by simp,g rfl⟩⟩
  |false=>
   obtain ⟨r,i,d⟩:=LN R ks λa l=>h a (by simp [l])
   exact ⟨r,e2.trans i,λa c=>⟨by simp [(d a c).1],(d a c).2⟩⟩
structure Wd (ns:List Str) (N:List Int) (P:List D) (t w:D) (Q:List D):Prop where
 len:(P++Q).length<=N.length
 sub: ∀d∈Q,d∈aZ t
 tk:tk ns w=true
 hg:bF w<=bF t
 nm:num w<=num t
 bk: ∀i∈ce w,i∈N\/i∈ce t
 Ak: ∀R,(P++Q++R).length<=N.length->G.sub (oC N (P++Q++R)) w=t
structure Wds (ns:List Str) (N:List Int) (P:List D) (ts ws Q:List D):Prop where
 len:(P++Q).length<=N.length
 sub: ∀d∈Q,∃t∈ts,d∈aZ t
 tk: ∀w∈ws,M.tk ns w=true
 ln:ws.length=ts.length
 hg:bm ws<=bm ts
 nm:nums ws<=nums ts
 bk: ∀w∈ws,∀i∈ce w,i∈N\/ ∃t∈ts,i∈ce t
 Ak: ∀R,(P++Q++R).length<=N.length->ws.map (G.sub (oC N (P++Q++R)))=ts
def cf (ns:List Str) (P:List D):Prop:= ∀d∈P,tk ns d=true/\bF d<=50
def cf.app (a:cf ns P) (b:cf ns Q):cf ns (P++Q):=λd hd=>(cW.mp hd).elim (a d) (b d)
def cf.of {t:D} (a:tk ns t=true) (c:bF t<=50) (h: ∀d∈Q,d∈aZ t):cf ns Q:=λd hd=>⟨UZ t a d (h d hd),by have:=(Kk _ t (aS _) (h d hd)).2.1;omega⟩
def jaw {x:Int} {t:D} (a:N.Nodup) (h:N[P.length]?=some x):D.aJ (xS (aO (N.take P.length)) (.inl x)) (xT (aO (N.take P.length)) P (.inl x) t)=jU N (P++[t]):=by
 have c:x∉N.take P.length:=λz=>by
  obtain ⟨k,d,e⟩:=List.getElem_of_mem z;rw [mH] at d;rw [List.getElem_take] at e;obtain ⟨g,i⟩:=c7.mp h;exact BL.mp a k P.length (by omega) g (by omega) (e.trans i.symm)
 have l:iY (aO (N.take P.length)) (.inl x)=false:=by rw [Wg];exact decide_eq_false c
 unfold jU xS xT;rw [l];show D.aJ (aO (N.take P.length)++[.inl x]) (P++[t])=_
 have:N.take (P++[t]).length=N.take P.length++[x]:=by
  rw [de];show N.take (P.length+1)=_;rw [List.take_add_one,h];rfl
 rw [this];unfold aO;rw [iH];rfl
abbrev Ci:Sl->aq Bool:=cQ (aY (av (av (af 2) (af 4) cF) (af 0) dN)) (aY (av (av (av (af 1) (cI 4) lJ) (cI 2) cc) (cI 0) dN))
def jeI (u:N.Nodup) (v:cf ns P) (U:P.length<=N.length) {t frD:D} {m:Int} (o:tk ns t=true) (c:Slot): ∃r,p8 Ci 4 (aO (N.take P.length)) (lend [.ab t,.ab (.int m),.ag (jU N P),.ab frD,.un,c])= .ok r/\ ∀k,r=some k->k∈aO (N.take P.length)/\ ∃i,k= .inl i/\oC N P i=t/\i∈N/\ ∃j:Nat,N[j]?=some i/\P[j]?=some t:=by
 refine LN _ _ λk w=>?_
 obtain ⟨i,y,rfl⟩:=bP.mp w;obtain ⟨j,B,e⟩:=List.getElem_of_mem y;rw [mH] at B;have l:N[j]?=some i:=by rw [c7];exact ⟨by omega,by rw [<-e,List.getElem_take]⟩
 have a:j<P.length:=by omega
 have n:P[j]?=some P[j]:=cZ a;have E:=v P[j] (mu a);obtain ⟨x,H,I⟩:=vQ E.1 o (by omega)
 have p:lend [.ab t,.ab (.int m),.ag (jU N P),.ab frD,.un,c]=[.ab t,.ab (.int m),.ab (.bG (aO (N.take P.length)) P),wP (.ab frD),.un,wP c]:=by
  have J:wP (.ab t)= .ab t:=by
   rcases jy o with ⟨b,rfl⟩| ⟨z,r,rfl,_⟩
   . rfl
   . exact if_pos (Qg _ o)
  have L:wP (.ag (jU N P))= .ab (.bG (aO (N.take P.length)) P):=if_pos (Qf (ns:=ns) λd h=>(v d h).1);show [wP (.ab t),_,wP (.ag (jU N P)),_,_,_]=_;rw [J,L];rfl
 rw [p]
 have g:av (af 2) (af 4) cF [.ab t,.ab (.int m),.ab (.bG (aO (N.take P.length)) P),wP (.ab frD),.ab (.int i),wP c]= .ok P[j]:=ju rfl rfl (by
  show (match ba (aO (N.take P.length)) P (.inl i) with|some d=>aq.ok d|none=> .aj)=_
  rw [Zz N P j i u l a,n])
 refine ⟨x&&(m/4%2==0),Zy (jM (ju g rfl H)) (jM (ju (zy (ju rfl rfl (ur (by omega))) rfl (by omega)) rfl wW)),λO=>?_⟩;have q:P[j]=t:=I.mp (tD.mp O).1;rw [q] at n;exact ⟨i,rfl,LM u l n,gt l,j,l,n⟩
abbrev frD (N:List Int):D:= .ah (N.map .int)
abbrev u3 (n:Nat):FJ:=x0 3 (jQ n) (af 1) (jr 2 jB (jb (af 2) (jb (af 0) ai))) (af 4)
def Rec (ns:List Str) (N:List Int) (n:Nat) (t:D):Prop:= ∀(m:Int) (P:List D),(0<=m/\m<2^140)->cf ns P->P.length<=N.length-> ∃w Q,jQ n (jU N P) [t,.int m,frD N]= .ok (w,jU N (P++Q))/\Wd ns N P t w Q
theorem Us {n:Nat} {m:Int} (hm:0<=m/\m<2^140): ∀(o:List D) (k:Nat) (a P:List D) (v y:Slot),(∀t∈o,Rec ns N n t/\tk ns t=true/\bF t<=50)->k+o.length<=20->a.length+o.length<=20->cf ns P->P.length<=N.length->
  ∃p Q B E,Jw 3 5 (g2 (gN 0) (gN 1)) qo (u3 n) (jX k o) [v,y,.ab (.int m),.ag (jU N P),.ab (frD N),.ag (.ah a)]= .ok [B,E,.ab (.int m),.ag (jU N (P++Q)),.ab (frD N),.ag (.ah (a++p))]/\Wds ns N P o p Q
 | [],k,a,P,v,y,_,_,_,_,H=>⟨[],[],v,y,by rw [f6,f6];rfl,⟨by rw [f6];exact H,nofun,nofun,rfl,aS _,aS _,nofun,λ_ _=>rfl⟩⟩
 |t::o,k,a,P,v,y,h,hk,ha,hP,H=>by
  simp only [b9] at hk ha;obtain ⟨hr,I,J⟩:=h t (by simp);obtain ⟨L,em,O⟩:=wO m (k:Int) hm (by omega);obtain ⟨w,q,ew,g⟩:=hr L P O hP H;obtain ⟨p,U,B,E,e2,l⟩:=Us hm o (k+1) (a++[w]) (P++q) (.ab (.int (k:Int))) (.ab t) (λu r=>h u (by simp [r])) (by omega) (by simp only [de,b9,du];omega) (hP.app (cf.of I J g.sub)) g.len;refine ⟨w::p,q++U,B,E,?_,⟨?_,?_,?_,?_,?_,?_,?_,?_⟩⟩
  . rw [<-fy,show a++w::p=(a++[w])++p by simp,<-e2]
    have ef:u3 n [.ab (.int (k:Int)),.ab t,.ab (.int m),.ag (jU N P),.ab (frD N),.ag (.ah a)]= .ok (w,[.ab (.int (k:Int)),.ab t,.ab (.int m),.ag (jU N (P++q)),.ab (frD N),.ag (.ah a)]):=by
      have e1:jr 2 jB (jb (af 2) (jb (af 0) ai)) [.ab (.int (k:Int)),.ab t,.ab (.int m),.ag (jU N P),.ab (frD N),.ag (.ah a)]= .ok (.int L):=jz (jd rfl (jd rfl rfl)) rfl em;unfold u3 x0;show (aq.ok t>>=_)=_;rw [jn,e1,jn];show (jQ n (jU N P) [t,.int L,frD N]>>=_)=_;rw [ew];rfl
    show ((u3 n [.ab (.int (k:Int)),.ab t,.ab (.int m),.ag (jU N P),.ab (frD N),.ag (.ah a)])>>=_)=_;rw [ef];exact ji (c:=a.length<aH/\ZU 3 5 [.ab (.int (k:Int)),.ab t,.ab (.int m),.ag (jU N (P++q)),.ab (frD N),.ag (.ah a)]=true) ⟨eV (by omega) jZ,rfl⟩
  . rw [<-fy];exact l.len
  . intro d hd;rcases cW.mp hd with z|z
    . exact ⟨t,by simp,g.sub d z⟩
    . obtain ⟨u,r,Y⟩:=l.sub d z;exact ⟨u,by simp [r],Y⟩
  . intro x hx;rcases bH.mp hx with rfl|hx
    . exact g.tk
    . exact l.tk x hx
  . rw [b9,b9,l.ln]
  . have:=g.hg;have:=l.hg;simp only [bm];omega
  . have:=g.nm;have:=l.nm;simp only [nums];omega
  . intro x hx i hi;rcases bH.mp hx with rfl|hx
    . exact (g.bk i hi).imp id λz=>⟨t,by simp,z⟩
    . exact (l.bk x hx i hi).imp id λ⟨u,r,z⟩=>⟨u,by simp [r],z⟩
  . intro R hR;have e:P++(q++U)++R=P++q++(U++R):=by simp
    rw [cY];congr 1
    . rw [e] at hR ⊢;exact g.Ak _ hR
    . rw [<-fy] at hR ⊢;exact l.Ak _ hR
abbrev LO:Sl->aq bf:=i3 (aY (av (av (af 1) (cI 4) cc) (cI 0) dN)) (bB (vK 2 4 Ci) (i3 (aY (av (app (jb (cJ 2) ai) ir) (app (jb (af 3) ai) dZ) ltI)) (bB (yt 4 (av (af 3) (app (jb (cJ 2) ai) ir) bW)) (bB (VW (af 4) (af 0) 2) (gH (af 4)))) mX)) mX
def LP {t:D} (m:tk ns t=true) {i:Int} {j:Nat} (g:N.Nodup) (c:N[j]?=some i) (e:(P++Q)[j]?=some t) (h:(P++Q).length<=N.length) (l: ∀d∈Q,d∈aZ t):Wd ns N P t (.int i) Q:=
 ⟨h,l,rfl,y0 t,yX t,λx a=>by rw [wZ] at a;simp at a;rw [a];exact .inl (gt c),λR _=>by
  rw [sub_int]
  exact LM g c (by rw [fI (c7.mp e).1];exact e)⟩
def jcL (h:N.Nodup) (H:cf ns P) (q:P.length<=N.length) (Y:N.length<=20) {t:D} {m:Int} (o:tk ns t=true):(∃w Q u,LO [.ab t,.ab (.int m),.ag (jU N P),.ab (frD N),.un,.un]= .ok (.rt w u)/\cL 2 u= .ok (jU N (P++Q))/\Wd ns N P t w Q)\/ ∃a,LO [.ab t,.ab (.int m),.ag (jU N P),.ab (frD N),.un,.un]= .ok (.nx [.ab t,.ab (.int m),.ag (jU N P),.ab (frD N),a,.un]):=by
 have g:aY (av (av (af 1) (cI 4) cc) (cI 0) dN) [.ab t,.ab (.int m),.ag (jU N P),.ab (frD N),.un,.un]= .ok (m%4==0):=jM (ju (zy rfl rfl (by omega)) rfl wW)
 cases e0:m%4==0 with
 |false=>
  rw [e0] at g;exact .inr ⟨.un,(xU g (if_neg (by decide))).trans rfl⟩
 |true=>
  rw [e0] at g;obtain ⟨r,y,I⟩:=jeI (m:=m) (frD:=frD N) h H q o .un;have e:(aO (N.take P.length)).length=P.length:=by rw [yY,mH];omega
  have p:vK 2 4 Ci [.ab t,.ab (.int m),.ag (jU N P),.ab (frD N),.un,.un]=aK (allI (aO (N.take P.length))=true/\4<6) (p8 Ci 4 (aO (N.take P.length)) (lend [.ab t,.ab (.int m),.ag (jU N P),.ab (frD N),.un,.un])>>=λr=>match r with
   |some k=> .ok (.rt (kD k) [.ab t,.ab (.int m),.ag (jU N P),.ab (frD N),.ab (kD k),.un])
   |none=> .ok (.nx (match (aO (N.take P.length)).getLast? with
     |none=>[.ab t,.ab (.int m),.ag (jU N P),.ab (frD N),.un,.un]
     |some k=>[.ab t,.ab (.int m),.ag (jU N P),.ab (frD N),.ab (kD k),.un]))):=rfl
  rw [ji ⟨JJ _,by decide⟩,y,jn] at p;clear y
  cases r with
  |some k=>
   obtain ⟨hk,i,rfl,hp,hi,j,J,L⟩:=I k rfl;refine .inl ⟨.int i,[],_,(xU g (if_pos rfl)).trans (D8 p),by rw [f6];rfl,LP o h J (by rw [f6];exact L) (by rw [f6];exact q) nofun⟩
  |none=>
   have l: ∃a,vK 2 4 Ci [.ab t,.ab (.int m),.ag (jU N P),.ab (frD N),.un,.un]= .ok (.nx [.ab t,.ab (.int m),.ag (jU N P),.ab (frD N),a,.un]):=by
     rw [p];dsimp only
     cases (aO (N.take P.length)).getLast? with
     |none=>exact ⟨.un,rfl⟩
     |some k=>exact ⟨.ab (kD k),rfl⟩
   obtain ⟨a,l⟩:=l;have z:app (jb (cJ 2) ai) ir [.ab t,.ab (.int m),.ag (jU N P),.ab (frD N),a,.un]= .ok (.int (P.length:Int)):=zY (jd rfl rfl) (by show aq.ok (D.int ((aO (N.take P.length)).length:Int))=_;rw [e]);have O:app (jb (af 3) ai) dZ [.ab t,.ab (.int m),.ag (jU N P),.ab (frD N),a,.un]= .ok (.int (N.length:Int)):=zY (jd rfl rfl) (by show aq.ok (D.int ((N.map D.int).length:Int))=_;rw [bN]);have B:aY (av (app (jb (cJ 2) ai) ir) (app (jb (af 3) ai) dZ) ltI) [.ab t,.ab (.int m),.ag (jU N P),.ab (frD N),a,.un]= .ok (decide ((P.length:Int)< (N.length:Int))):=jM (ju z O rfl)
   by_cases c:P.length<N.length
   . have n:N[P.length]?=some N[P.length]:=cZ c;generalize N[P.length]=x at n
     have U:av (af 3) (app (jb (cJ 2) ai) ir) bW [.ab t,.ab (.int m),.ag (jU N P),.ab (frD N),a,.un]= .ok (.int x):=ju rfl z (by
      show (match gy (N.map D.int) (P.length:Int) with|some d=>aq.ok d|none=> .aj)=_
      rw [dG (v:=D.int x) (by rw [c6,n];rfl)])
     refine .inl ⟨.int x,[t],[.ab t,.ab (.int m),.ag (jU N (P++[t])),.ab (frD N),.ab (.int x),.un],?_,rfl,LP (j:=P.length) o h n (by simp) (by simp only [de,b9,du];omega) λd E=>by simp at E;rw [E];exact xI t⟩;refine (xU g (if_pos rfl)).trans ((sJ l).trans ((xU B (by rw [decide_eq_true (by omega)];exact if_pos rfl)).trans ((sJ (JB U)).trans ((sJ (e':=[.ab t,.ab (.int m),.ag (jU N (P++[t])),.ab (frD N),.ab (.int x),.un]) ?_).trans rfl))));show aK ((aO (N.take P.length)).length<aH) (aq.ok (bf.nx [.ab t,.ab (.int m),.ag (.aJ (xS (aO (N.take P.length)) (.inl x)) (xT (aO (N.take P.length)) P (.inl x) t)),.ab (frD N),.ab (.int x),.un]))=_;rw [ji (by rw [e];exact eV (by omega) jZ),jaw h n]
   . exact .inr ⟨a,(xU g (if_pos rfl)).trans ((sJ l).trans ((xU B (by rw [decide_eq_false (by omega)];exact if_neg (by decide))).trans rfl))⟩
theorem Uq (O:N.Nodup) (U:N.length<=20): ∀(n:Nat) (t:D),tk ns t=true->bF t<=n->n<=50->(∀i∈ce t,i∉N)->Rec ns N n t
 |0,t,_,h,_,_=>by have:=y0 t;omega
 |n+1,t,y,hh,h50,Y=>by
  intro m P hm hP E
  suffices g: ∃w Q p,zw jq jB (jQ n) [.ab t,.ab (.int m),.ag (jU N P),.ab (frD N),.un,.un]= .ok (.rt w p)/\cL 2 p= .ok (jU N (P++Q))/\Wd ns N P t w Q by
    obtain ⟨w,Q,p,g1,g2,g3⟩:=g;refine ⟨w,Q,?_,g3⟩;refine (ji (c:=[t,.int m,frD N].length=3) rfl).trans ?_;show (zw jq jB (jQ n) [.ab t,.ab (.int m),.ag (jU N P),.ab (frD N),.un,.un]>>=_)=_;rw [g1];show (cL 2 p>>=_)=_;rw [g2];rfl
  unfold zw;rcases jcL (m:=m) O hP E U y with ⟨w,Q,p,B,a2,a3⟩| ⟨e,B⟩
  . exact ⟨w,Q,p,D8 B,a2,a3⟩
  . have hw:aY (jr 1 jq (jb (af 0) ai)) [.ab t,.ab (.int m),.ag (jU N P),.ab (frD N),e,.un]= .ok (mP t):=jM (jz (jd rfl rfl) rfl (Y4 y));rcases jy y with ⟨i,rfl⟩| ⟨z,a,rfl,hz,H,r⟩
    . refine ⟨.int i,[],[.ab (.int i),.ab (.int m),.ag (jU N P),.ab (frD N),e,.un],(sJ B).trans ((D8 (xU hw (if_pos rfl)))),by rw [f6];rfl,⟨by rw [f6];exact E,nofun,y,aS _,aS _,λx v=> .inr v,λR _=>?_⟩⟩;rw [sub_int];exact jfg (Y i (by rw [wZ];simp))
    . rw [zT] at hh
      have hk: ∀u∈a,Rec ns N n u/\tk ns u=true/\bF u<=50:=λu l=>by
        have:=wj l;exact ⟨Uq O U n u (r u l) (by omega) (by omega) λi q=>Y i (by rw [wy];exact YS l q),r u l,by omega⟩
      obtain ⟨o,Q,v0,v1,e2,d⟩:=Us hm a 0 [] P .un .un hk (by omega) (by simp only [du];omega) hP E;rw [List.nil_append] at e2;have I:jW (af 0) (qK (cI 1)) qU eB [.ab (.ar (.str z::a)),.ab (.int m),.ag (jU N P),.ab (frD N),e,.un]= .ok (.ar a):=za (x:= .ar (.str z::a)) (lo:=some 1) (hi:=none) rfl (q9 rfl) rfl (show aq.ok (D.ar (cutD (.str z::a) (some 1) none))=_ by rw [qB])
      have J:YH (jW (af 0) (qK (cI 1)) qU eB) [.ab (.ar (.str z::a)),.ab (.int m),.ag (jU N P),.ab (frD N),e,.un]= .ok (jX 0 a):=by
        unfold YH;rw [I];rfl
      have hc:D1 5 (Zt 2 1 2 [1,2,3] (YH (jW (af 0) (qK (cI 1)) qU eB)) (g2 (gN 0) (gN 1)) qo (u3 n)) [.ab (.ar (.str z::a)),.ab (.int m),.ag (jU N P),.ab (frD N),e,.un]= .ok (.nx [.ab (.ar (.str z::a)),.ab (.int m),.ag (jU N (P++Q)),.ab (frD N),e,.ab (.ah o)]):=by
        have hj:Zt 2 1 2 [1,2,3] (YH (jW (af 0) (qK (cI 1)) qU eB)) (g2 (gN 0) (gN 1)) qo (u3 n) [.ab (.ar (.str z::a)),.ab (.int m),.ag (jU N P),.ab (frD N),e,.un]= .ok (.ah o,[.ab (.ar (.str z::a)),.ab (.int m),.ag (jU N (P++Q)),.ab (frD N),e,.un]):=by
          unfold Zt;rw [show cL 2 [.ab (.ar (.str z::a)),.ab (.int m),.ag (jU N P),.ab (frD N),e,.un]= .ok (jU N P) from rfl,jn,J,jn];show (Jw 3 5 (g2 (gN 0) (gN 1)) qo (u3 n) (jX 0 a) [.un,.un,.ab (.int m),.ag (jU N P),.ab (frD N),.ag (.ah [])]>>=_)=_;rw [e2];rfl
        unfold D1;rw [hj];rfl
      refine ⟨.ar (.str z::o),Q,[.ab (.ar (.str z::a)),.ab (.int m),.ag (jU N (P++Q)),.ab (frD N),e,.ab (.ah o)],(sJ B).trans ((sJ ((xU hw (if_neg (by intro z;cases z))).trans rfl)).trans ((sJ hc).trans ?_)),rfl,⟨d.len,λx v=>?_,Vt hz (by rw [d.ln];exact H) d.tk,?_,?_,λi q=>?_,λR hR=>?_⟩⟩
      . have el:av (dw (jb (av (af 0) (cI 0) bW) ai)) (af 5) bc [.ab (.ar (.str z::a)),.ab (.int m),.ag (jU N (P++Q)),.ab (frD N),e,.ab (.ah o)]= .ok (.ah ([.str z]++o)):=ju (Zd (jd (ju rfl rfl C8) rfl) (jV (by simp))) rfl (yi (by rw [d.ln];simp only [b9,du];exact jV (by omega)));have er:app (jb (av (dw (jb (av (af 0) (cI 0) bW) ai)) (af 5) bc) ai) JL [.ab (.ar (.str z::a)),.ab (.int m),.ag (jU N (P++Q)),.ab (frD N),e,.ab (.ah o)]= .ok (.ar (.str z::o)):=zY (jd el rfl) rfl;show (app _ _ _>>=_)=_;rw [er];rfl
      . obtain ⟨u,l,v⟩:=d.sub x v;rw [JP];exact cv _ (bM.mpr ⟨u,l,v⟩)
      . rw [zT,zT];have:=d.hg;omega
      . rw [ya,ya];have:=d.nm;omega
      . rw [wy,zX] at q;obtain ⟨w,L,q⟩:=tF.mp q;rcases d.bk w L i q with z| ⟨u,l,z⟩
        . exact .inl z
        . exact .inr (by rw [wy];exact YS l z)
      . rw [qS,d.Ak R hR]
end
section
variable {ns:List Str}
def ut {i j:Int} (h:0<j/\j<2^200):pV (.int i) (.int j)= .ok (.int (i/j)):=Xu (C:=tU) h
theorem Xa: ∀(ds:List D) (k:Nat) (d:D),d∈jX k ds-> ∃(j:Nat) (x:D),d= .ar [.int (j:Int),x]/\j<k+ds.length/\x∈ds
 | [],k,d,h=>by cases h
 |y::r,k,d,h=>by
  rcases bH.mp h with e|h
  . exact ⟨k,y,e,by simp only [b9];omega,by simp⟩
  . obtain ⟨j,x,e,c,a⟩:=Xa r (k+1) d h;exact ⟨j,x,e,by simp only [b9];omega,by simp [a]⟩
def LQ {z:Str} (h:isNm (.str z)=true):z.length<=aH:=by
 rw [KO] at h;simp only [dj,decide_eq_true_eq] at h;exact jV (by omega)
def Kd {j:Nat} {f:FJ} {env a:Sl} {d:D} (h:f env= .ok (d,a)):X0 j f env= .ok (.nx (a.set j (.ab d))):=by unfold X0;rw [h];rfl
def LR {l:List Int} {k:Nat} {i:Int} (h:l[k]?=some i):bW (.ah (l.map .int)) (.int (k:Int))= .ok (.int i):=by
 show (match gy (l.map D.int) (k:Int) with|some d=>aq.ok d|none=> .aj)=_;rw [dG (v:=D.int i) (by rw [c6,h];rfl)]
def jgK {d:List Int} {w v:D} (t:Tw ns d w v): ∃l:List Int,wa [w,w]= .ok (.aJ (aO l) (l.map .int))/\l.length<=1000:=by
 have c:sub D.int w=w:=UC w t.t1;have:=t.n1;have:=t.h1;obtain ⟨a,J,e⟩:=t.self.jt (θ:=D.int) rfl (by rw [c];omega) (by rw [c];omega);have: ∀i,a i=D.int i:=λi=>by rw [<-UC (a i) (J.tk i)];exact J.gen D.int rfl i
 refine ⟨lb w w,by rw [e,show a=D.int from funext this],?_⟩;refine bZ (zS kY (m:=ce w++ce w) λi g=>t.self.Aj.mp g) ?_;have:=WD w t.t1;rw [de];omega
def jbO (l:List Int) (U:l.length<=1000) (n o p q r u v w x y a:Slot):vB 11 (app (jb (ze false 1 [11] (Yt (af 11)) (gN 0) qo (av (av (af 1) (af 0) cF) (af 0) dN)) ai) iV) [n,o,p,q,r,u,v,w,x,y,a,.ab (.aJ (aO l) (l.map .int))]= .ok (.bl true):=by
 have z:D.bC (l.map .int)=true:=Yy (ns:=[]) (σ:=D.int) (λ_=>rfl) l;generalize J:(lend [n,o,p,q,r,u,v,w,x,y,a,.ab (.aJ (aO l) (l.map .int))]).set 11 (.ab (.dS (aO l) (l.map .int)))=E;have e:E[11]?=some (.ab (.dS (aO l) (l.map .int))):=by rw [<-J];rfl
 have L:Dq 11 [n,o,p,q,r,u,v,w,x,y,a,.ab (.aJ (aO l) (l.map .int))]= .ok E:=by
  rw [<-J];exact ji (c:=D.bC (l.map .int)=true) z
 have N:af 11 E= .ok (.dS (aO l) (l.map .int)):=by rw [OJ,e]
 have B:Yt (af 11) E= .ok ((aO l).map kD):=by
  unfold Yt;rw [N];exact ji (c:=allI (aO l)=true) (JJ l)
 have m:fO false E 11= .ab (.dS (aO l) (l.map .int)):=by unfold fO;rw [e]
 have O:ze false 1 [11] (Yt (af 11)) (gN 0) qo (av (av (af 1) (af 0) cF) (af 0) dN) E= .ok (.ah (((aO l).map kD).map λ_=>D.bl true)):=by
  refine C9 m _ (λd=> ∃i∈l,d= .int i) B (λd Q=>?_) (by rw [bN,yY];exact jV (by omega)) λd H h=>?_
  . obtain ⟨k,B,rfl⟩:=bP.mp Q;obtain ⟨i,I,rfl⟩:=bP.mp B;exact ⟨i,I,rfl⟩
  . obtain ⟨i,I,rfl⟩:=h
    have g:av (af 1) (af 0) cF [.ab (.int i),.ab (.dS (aO l) (l.map .int)),.ag (.ah H)]= .ok (.int i):=ju rfl rfl (by
     show (match ba (aO l) (l.map D.int) (.inl i) with|some d=>aq.ok d|none=> .aj)=_
     rw [Je,if_pos I])
    exact ju g rfl (by rw [wW];simp)
 unfold vB;rw [L,jn,zY (jd O rfl) (Vm _ λ_=>true),jn];refine (ji rfl).trans ?_;simp
abbrev Cj:Sl->aq bD:=aB (qg 6 (jr 2 zd (jb (af 5) (jb (av (af 4) (cI 1) bc) ai)))) (aB (qg 7 (jr 4 (qA 6) (jb (av (af 6) (cI 2) pV) (jb (af 2) (jb (cI 3) (jb (jW (af 3) (qK (cI 9)) qU eB) ai)))))) (aB (dg 8 cD) (aB (X0 9 (x0 8 (jQ 6) (af 7) (jr 2 jB (jb (af 6) (jb (cI 3) ai))) (jW (af 3) qU (qK (cI 9)) eB))) (aB (X0 10 (x0 8 (jQ 6) (af 7) (jr 2 jB (jb (af 6) (jb (cI 4) ai))) (jW (af 3) qU (qK (cI 9)) eB))) (aB (dz (cr (aY (jr 3 qY (jb (af 9) (jb (af 10) (jb (cJ 8) ai)))))) (a7 (cB false)) df) (aB (qg 11 (jr 2 wa (jb (af 9) (jb (af 9) ai)))) (dz (ie (aY (av (af 11) cN M.mP)) (cr (aY (vB 11 (app (jb (ze false 1 [11] (Yt (af 11)) (gN 0) qo (av (av (af 1) (af 0) cF) (af 0) dN)) ai) iV))))) (a7 (cB false)) df)))))))
def jaR {p S:D} (hn:Ce ns p) {lead:Int} {fs:List Int} (hf:fs.length=12) (hd:fs.Nodup) {j:Nat} (hj:j<=63) (i:Int) (v6 v7 v8 U e a:Slot): ∃u6 u7 u8 u9 LS LU,Cj [.ab S,.ab (.int lead),.ab p,.ab (.ah (fs.map .int)),.ab (.int (j:Int)),.ab (.int i),v6,v7,v8,U,e,a]= .ok (.nx [.ab S,.ab (.int lead),.ab p,.ab (.ah (fs.map .int)),.ab (.int (j:Int)),.ab (.int i),u6,u7,u8,u9,LS,LU]):=by
 have hns: ∀z∈ns,z.length<=aH:=λz hz=>LQ (hn.2.2 z hz)
 obtain ⟨m,em,hm⟩:=Jh i ((j:Int)+1) (by omega);generalize B:fs.take 9=c;generalize H:fs.drop 9=Y;have g:fs=c++Y:=by rw [<-B,<-H,F4]
 have l9:c.length=9:=by rw [<-B,mH,hf];rfl
 have l3:Y.length=3:=by rw [<-H,v5,hf]
 rw [g] at hd;obtain ⟨n1,n2,n3⟩:=qP.mp hd;obtain ⟨t,et,u⟩:=QX (fs:=Y) hn l3 6 3 (m/2) (by omega) (by omega);have afB:num t<=94:=u.nm;have hhg:bF t<=4:=u.hg;obtain ⟨m3,em3,GX⟩:=wO m 3 hm (by omega);obtain ⟨m4,em4,GZ⟩:=wO m 4 hm (by omega);have L: ∀x∈ce t,x∉c:=λx N z=>n3 x z x (u.bk x N) rfl
 obtain ⟨q,n,ew1,I⟩:=Uq (ns:=ns) n1 (by omega) 6 t u.tk (by omega) (by omega) L m3 [] GX nofun (dR _);have p1:cf ns ([]++n):=cf.app nofun (cf.of u.tk (by omega) I.sub);obtain ⟨J,v,O,y⟩:=Uq (ns:=ns) n1 (by omega) 6 t u.tk (by omega) (by omega) L m4 ([]++n) GZ p1 I.len;have p2:cf ns ([]++n++v):=p1.app (cf.of u.tk (by omega) y.sub);have f1:sub (oC c ([]++n++v)) q=t:=I.Ak v y.len
 have f2:sub (oC c ([]++n++v)) J=t:=by
  have:=y.Ak [] (by rw [f6];exact y.len);rw [f6] at this;exact this
 have h1:=I.hg;have h2:=y.hg;have h3:=I.nm;have h4:=y.nm
 have tw:Tw ns fs q J:=⟨hns,I.tk,y.tk,by omega,by omega,by omega,by omega,λx N=>by
  rw [g];exact (I.bk x N).elim (lr _) λz=>eT _ (u.bk x z),λx N=>by
  rw [g]
  exact (y.bk x N).elim (lr _) λz=>eT _ (u.bk x z)⟩
 have o:=LL tw (by omega) (ks:=aO (c.take (([]:List D)++n++v).length)) (ds:=([]:List D)++n++v) p2 (f1.trans f2.symm) (by show num (sub (oC c ([]++n++v)) q)<=100;rw [f1];omega) (by show bF (sub (oC c ([]++n++v)) q)<=50;rw [f1];omega);obtain ⟨l,ej,hl⟩:=jgK tw;generalize hP:jU c ([]++n++v)=Q at O;have o:qY [q,J,Q]= .ok (.bl true):=by rw [<-hP];exact o
 have hpo:jU c []= .aJ [] []:=rfl;generalize hF:D.ah (fs.map .int)=r
 have c1: ∀E:Sl,af 3 E= .ok r->jW (af 3) qU (qK (cI 9)) eB E= .ok (frD c):=λE h=>za (lo:=none) (hi:=some ((9:Nat):Int)) h rfl (q9 rfl) (by
  rw [<-hF];show aq.ok (D.ah (cutD (fs.map .int) none (some ((9:Nat):Int))))=_
  rw [Wz,<-List.map_take,B])
 have c2: ∀E:Sl,af 3 E= .ok r->jW (af 3) (qK (cI 9)) qU eB E= .ok (.ah (Y.map .int)):=λE h=>za (lo:=some ((9:Nat):Int)) (hi:=none) h (q9 rfl) rfl (by
  rw [<-hF];show aq.ok (D.ah (cutD (fs.map .int) (some ((9:Nat):Int)) none))=_
  rw [WA,<-List.map_drop,H])
 have cp: ∀(E:Sl) (k:Int) (mk:Int) (d d' w:D),af 7 E= .ok t->af 6 E= .ok (.int m)->af 3 E= .ok r->cL 8 E= .ok d->jB [.int m,.int k]= .ok (.int mk)->jQ 6 d [t,.int mk,frD c]= .ok (w,d')->x0 8 (jQ 6) (af 7) (jr 2 jB (jb (af 6) (jb (cI k) ai))) (jW (af 3) qU (qK (cI 9)) eB) E= .ok (w,E.set 8 (.ag d')):=λE k mk d d' w a1 a2 a3 a4 a5 a6=>by
  have b1:jr 2 jB (jb (af 6) (jb (cI k) ai)) E= .ok (.int mk):=jz (jd a2 (jd rfl rfl)) rfl a5;unfold x0;rw [a1,jn,b1,jn,c1 E a3,jn,a4,jn,a6];rfl
 refine ⟨.ab (.int m),.ab t,.ag Q,.ab q,.ab J,.ab (.aJ (aO l) (l.map .int)),?_⟩;refine (jx (env':=[.ab S,.ab (.int lead),.ab p,.ab r,.ab (.int (j:Int)),.ab (.int i),.ab (.int m),v7,v8,U,e,a]) ((qk (jz (jd rfl (jd (zZ rfl rfl) rfl)) rfl em)).trans rfl)).trans ?_;refine (jx (env':=[.ab S,.ab (.int lead),.ab p,.ab r,.ab (.int (j:Int)),.ab (.int i),.ab (.int m),.ab t,v8,U,e,a]) ((qk (jz (jd (ju rfl rfl (ut (by omega))) (jd rfl (jd rfl (jd (c2 _ rfl) rfl)))) rfl et)).trans rfl)).trans ?_;refine (jx (env':=[.ab S,.ab (.int lead),.ab p,.ab r,.ab (.int (j:Int)),.ab (.int i),.ab (.int m),.ab t,.ag (jU c []),U,e,a]) rfl).trans ?_;refine (jx (env':=[.ab S,.ab (.int lead),.ab p,.ab r,.ab (.int (j:Int)),.ab (.int i),.ab (.int m),.ab t,.ag (jU c ([]++n)),.ab q,e,a]) (Kd (cp _ 3 m3 _ _ _ rfl rfl rfl rfl em3 ew1))).trans ?_;refine (jx (env':=[.ab S,.ab (.int lead),.ab p,.ab r,.ab (.int (j:Int)),.ab (.int i),.ab (.int m),.ab t,.ag Q,.ab q,.ab J,a]) (Kd (cp _ 4 m4 _ _ _ rfl rfl rfl rfl em4 O))).trans ?_;refine (jx (env':=[.ab S,.ab (.int lead),.ab p,.ab r,.ab (.int (j:Int)),.ab (.int i),.ab (.int m),.ab t,.ag Q,.ab q,.ab J,a]) ((dh (zR (jM (jz (jd rfl (jd rfl (jd rfl rfl))) rfl o)))).trans rfl)).trans ?_;refine (jx (env':=[.ab S,.ab (.int lead),.ab p,.ab r,.ab (.int (j:Int)),.ab (.int i),.ab (.int m),.ab t,.ag Q,.ab q,.ab J,.ab (.aJ (aO l) (l.map .int))]) ((qk (jz (jd rfl (jd rfl rfl)) rfl ej)).trans rfl)).trans ?_;exact (dh (Yj (b:=false) (b2:=false) rfl (zR (jM (jbO l hl _ _ _ _ _ _ _ _ _ _ _))))).trans rfl
end
def jaS {w:List Str} {r S:D} (N:Ce w r) {lead:Int} {fs:List Int} (hf:fs.length=12) (v:fs.Nodup) (O Q U Y v8 v9 h l:Slot):a7 (jr 3 qY (jb (av (af 3) (cI 0) bW) (jb (dM (jb (av (af 2) (cI 0) bW) (jb (av (af 3) (cI 9) bW) ai))) (jb (uv (av (af 3) (cI 0) bW) (dM (jb (av (af 2) (cI 0) bW) (jb (av (af 3) (cI 9) bW) ai)))) ai)))) [.ab S,.ab (.int lead),.ab r,.ab (.ah (fs.map .int)),O,Q,U,Y,v8,v9,h,l]= .ok (.rt true (.bl true)):=by
 obtain ⟨z,ez,y⟩:=Lx N 0 (by omega) (by omega);obtain ⟨a,B⟩: ∃a,fs[0]?=some a:=⟨fs[0],cZ (by omega)⟩
 obtain ⟨b,H⟩: ∃b,fs[9]?=some b:=⟨fs[9],cZ (by omega)⟩
 have I:a≠b:=λe=>by
  obtain ⟨h0,e0⟩:=c7.mp B;obtain ⟨h9,J⟩:=c7.mp H;exact BL.mp v 0 9 h0 h9 (by omega) (by rw [e0,J,e])
 have ma:=gt B;have mb:=gt H;generalize m:D.ar [.str z,.int b]=o;have n:tk w o=true:=by rw [<-m];exact Vt y (by simp) λu hu=>by simp at hu;rw [hu];rfl
 have hh:bF o=2:=by rw [<-m,zT];rfl
 have hnn:num o=2:=by rw [<-m,ya];rfl
 have p: ∀x∈ce o,x=b:=λx g=>by
  rw [<-m,wy,zX] at g;simpa [wZ] using g
 have k1:look [.inl a] [o] a=o:=by unfold look;rw [yo,if_pos rfl];rfl
 have k2:look [.inl a] [o] b= .int b:=by unfold look;rw [yo,if_neg (λe=>I (vl e))];rfl
 have L:sub (look [.inl a] [o]) (.int a)=o:=by rw [sub_int,k1]
 have s2:sub (look [.inl a] [o]) o=o:=by
  refine (WW (ψ:=D.int) o n λi hi=>?_).trans (UC o n);rw [p i hi,k2]
 have tw:Tw w fs (.int a) o:=⟨λz y=>LQ (N.2.2 z y),rfl,n,by simp [bF],by omega,by simp [num],by omega,λx g=>by rw [wZ] at g;simp at g;rw [g];exact ma,λx g=>by rw [p x g];exact mb⟩
 have q:=LL tw (by omega) (ks:=[.inl a]) (ds:=[o]) (λd v=>by simp at v;rw [v];exact ⟨n,by omega⟩) (L.trans s2.symm) (by rw [L];omega) (by rw [L];omega);generalize hF:D.ah (fs.map .int)=FS;generalize hE:([.ab S,.ab (.int lead),.ab r,.ab FS,O,Q,U,Y,v8,v9,h,l]:Sl)=E;have r3:af 3 E= .ok FS:=by rw [<-hE];rfl
 have r2:af 2 E= .ok r:=by rw [<-hE];rfl
 have e0:av (af 3) (cI 0) bW E= .ok (.int a):=ju r3 rfl (by rw [<-hF];exact LR (k:=0) B);have J:av (af 3) (cI 9) bW E= .ok (.int b):=ju r3 rfl (by rw [<-hF];exact LR (k:=9) H);have en:av (af 2) (cI 0) bW E= .ok (.str z):=ju r2 rfl ez;have et:dM (jb (av (af 2) (cI 0) bW) (jb (av (af 3) (cI 9) bW) ai)) E= .ok o:=(Cf en J).trans (by rw [m])
 have ed:uv (av (af 3) (cI 0) bW) (dM (jb (av (af 2) (cI 0) bW) (jb (av (af 3) (cI 9) bW) ai))) E= .ok (.aJ [.inl a] [o]):=by
  unfold uv;rw [e0,jn,et,jn];exact ji (c:=o.eK=true) (Qg _ n)
 exact zj (jz (jd e0 (jd et (jd ed rfl))) rfl q)
def oD (a:List Int) (hlen:a.length<=63) (hb: ∀i∈a,tm i<=2^20):oz [.eJ (a.map D.int)]= .ok (.bl true):=by
 have q: ∀k:Nat,k<=100->k<=aH:=λk hk=>jV (by omega)
 obtain ⟨E,I⟩: ∃E:Int,bW (.ah (a.map D.int++[.int 0])) (.int 0)= .ok (.int E):=by
  cases a with
  |nil=>exact ⟨0,rfl⟩
  |cons c r=>exact ⟨c,by
    show (match gy (D.int c::(r.map D.int++[.int 0])) 0 with|some d=>aq.ok d|none=> .aj)=_
    rw [show gy (D.int c::(r.map D.int++[.int 0])) 0=some (D.int c) from dG (j:=0) rfl]⟩
 have n:pU (.eJ (a.map D.int)) (.ah [.int 0])= .ok (.ah (a.map D.int++[.int 0])):=ji (by simp only [bN,b9,du];exact q _ (by omega));obtain ⟨lead,o,hl0⟩:=Jh E 0 (by omega);obtain ⟨p,J,h5⟩:=Yn lead;obtain ⟨ns,hn⟩:=WN h5
 have u: ∀(k:Nat) (g:Sl),k<=40->av (cI 10) (cI (k:Int)) io g= .ok (.int (10^k)):=λk g hk=>ju rfl rfl (by
  have:=U6 (i:=10) (j:=(k:Int)) ⟨by omega,by omega,by decide⟩
  simpa using this)
 obtain ⟨fs,L,hf,H⟩:=VP (lead/10^20);generalize hS:D.eJ (a.map D.int)=S;rw [hS] at n;have v: ∀x∈cutD (a.map D.int) none (some 30),x∈a.map D.int:=λx N=>List.mem_of_mem_drop (F5 N)
 have hcl:(cutD (a.map D.int) none (some 30)).length<=63:=by
  unfold cutD;rw [mH,v5,bN];omega
 obtain ⟨iU,l1,O,Q,w,y,z,B,l,m,rfl,_⟩:=Wl (body:=wz (g2 (gN 4) (gN 5)) Cj)
  (λds g=> ∃O Q w y z B l m:Slot,g=[.ab S,.ab (.int lead),.ab p,.ab (.ah (fs.map .int)),O,Q,w,y,z,B,l,m]/\ ∀d∈ds,∃(j:Nat) (i:Int),d= .ar [.int (j:Int),.int i]/\j<=63)
  (by
   rintro d ds g ⟨O,Q,w,y,z,B,l,m,rfl,h⟩;obtain ⟨j,i,rfl,hj⟩:=h d (by simp);obtain ⟨u6,u7,u8,u9,LS,LU,e⟩:=jaR (S:=S) hn (lead:=lead) hf H hj i w y z B l m
   exact ⟨_,(x4 (env':=[.ab S,.ab (.int lead),.ab p,.ab (.ah (fs.map .int)),.ab (.int (j:Int)),.ab (.int i),w,y,z,B,l,m]) rfl).trans e,_,_,_,_,_,_,_,_,rfl,λe he=>h e (by simp [he])⟩)
  (jX 0 (cutD (a.map D.int) none (some 30))) [.ab S,.ab (.int lead),.ab p,.ab (.ah (fs.map .int)),.un,.un,.un,.un,.un,.un,.un,.un]
  ⟨_,_,_,_,_,_,_,_,rfl,λd H=>by
   obtain ⟨j,x,e,hj,N⟩:=Xa _ _ _ H;obtain ⟨i,_,rfl⟩:=bP.mp (v x N)
   exact ⟨j,i,e,by omega⟩⟩
 refine xm ?_;show D5 zd wo xc qY (qA 6) (jQ 6) wa jB [.ab S,.un,.un,.un,.un,.un,.un,.un,.un,.un,.un,.un]=_;unfold D5;refine (jx (env':=[.ab S,.ab (.int lead),.un,.un,.un,.un,.un,.un,.un,.un,.un,.un]) ((qk (jz (ds:=[.int E,.int 0]) (jd (ju (ju rfl (Zd (jd rfl rfl) (q _ (by simp))) n) rfl I) (jd rfl rfl)) rfl o)).trans rfl)).trans ?_;refine (jx (env':=[.ab S,.ab (.int lead),.ab p,.un,.un,.un,.un,.un,.un,.un,.un,.un]) ((qk (jz (jd rfl rfl) rfl J)).trans rfl)).trans ?_;refine (jx (env':=[.ab S,.ab (.int lead),.ab p,.ab (.ah (fs.map .int)),.un,.un,.un,.un,.un,.un,.un,.un]) ((qk (jz (jd (ju rfl (u 20 _ (by omega)) (ut (by omega))) rfl) rfl L)).trans rfl)).trans ?_;have U:BB S none (some 30)= .ok (.ah (cutD (a.map D.int) none (some 30))):=by rw [<-hS];rfl
 have Y:vW (jW (af 0) qU (qK (cI 30)) BB) [.ab S,.ab (.int lead),.ab p,.ab (.ah (fs.map .int)),.un,.un,.un,.un,.un,.un,.un,.un]= .ok (jX 0 (cutD (a.map D.int) none (some 30))):=by
  have:jW (af 0) qU (qK (cI 30)) BB [.ab S,.ab (.int lead),.ab p,.ab (.ah (fs.map .int)),.un,.un,.un,.un,.un,.un,.un,.un]= .ok (.ah (cutD (a.map D.int) none (some 30))):=za rfl rfl (q9 rfl) U;unfold vW;rw [this];rfl
 exact (jx ((Zm Y).trans l1)).trans (jaS hn hf H ..)
end G
structure PySem.W.Fast:Prop where
 (te18254988284223821565 tw2916826964095637433 tw16028351776281034329 tw12714581607819123288 tw7034407231961230613 tw3183952393698098986 tw2581839444006196225 tw5828624194386779486 tw13096333698205241021 tw12312048454138636102 tw7998345469615936393 tw15592219016467265309 tw3453827965213536594 tw4081780299185316661 tw7512522832663591578 tw10960718922138360636 tw991972725387985453 tw7343785464629604090 tw15468337952673833401 tw17730540084946691964 tw12115205423318329110 tw2646868625142864880 tw12946396662774636947 tw3864840899665245290 tw5530921129777256980 te7482566274277168322 te7689764168619960853 te923069588264513974 te15181275035460295168 te11109276176283004200 te10000998583723713827 te15680974138232121003 te8682369982270523483 te13177801617440519243 te4005567648772284245 te2940753525349667539 te916321899338220022 te7423125408325428564 te15520928344341946470 te115982084543649464 te9451935937868028193 te18387990716509330678 te1294730224402966631 te1621799750381253861 te9108031292606358704 te14117270396734265828 te7011063001493104527 te11936784782200720642 te2555177562203727772 te4845004188234843549 te32837983019965196 te2008564280245808886 te12608031156465213243 te17781034232720484191 te1079889477099480843 te8387944706628982985 te12047071162031527353 te9155111765392662203 te6803943001784199054 te13145197252277445531 te11689336818069334865 te10971572910407055546 te15875776500947196173 te9576953063138277627 te4377895232823359358 te9252860903924515528 te10850360630205095606 te3258948156236715001 te10538759313972927104 te8165555735397005287 te10620008372918660121 te12830227748440747406 te16206886877986222726 te13500219149248330641 te14512208592587185357 te831182523098655458 te740249652823550310 te1935742424868869192 te11077475936764479770 te13612980781542138464 te11726683045898398233 te11655730064662802128 te9722250987316367242 te18141695429593577157 te11085075264812042760 te3562455813999217897 te17252473496596690195 te14647993330930962976 te3705236610788379752 te14038698918057089606 te14600830111705783820 te9525234373025450844 te3327330526158014876 te8424244721641192941 te3682637384721181339 te17381224302224433300 te9735675730171487580 te4871455626257232201 te14411606906270683456 te6898699843409032838 te4457024200280268102 te518195563389708912 te362945522741715423 te6218447593665140039 te1134407456900139641 te2238355409700969841 te4411862521903728827 te7006420248257624224 te3090693827122458472 te13406257905165847729 te8402386972947284168 te12892274028800437402 te17260386536855094585 te13566955819866878355 te17790472884353224726 te12402574163553611085 te1622830849299793729 te1264370718702995602 te14303964083376158639 te10035246524764199533 te11302385961885353762 te5709399119623083063 te17100146597972461943 te2925095407140954285 te10728314896597766571 te2801250286277618287 te8564782702182254205 te7484406796723264319 te15719743307799489747 te6411480547536475880 te11681643720034699774 te1790344901310424763 te7507018860333194396 te1100023967291346980 te16212293997534596338 te12093476016048797551 te12485195110568746025 te16882867412244746801 te8260142894934591009 te7838593228951567343 te4295513107569459945 te14840333120332983007 te10203688562304879678 te13350867366409201954 te8938545509740262011 te4412193208578484443 te4337341944220674200 te253837311322784518 te7062874873563327639 te12789499513989279461 te6293484235390879079 te13387445619537434914 te26622245915270128 te15424984182857968382 te8597591945531681288 te2720768783332276102 te15734517995124862522 te7308223606334684138 te14259765110525727948 te9645917322885713235 te10512015430103930997 te17814405098233442953 te10272600365875355893 te624680366160119099 te3862980897353817009 te8093164798846896699 te4771605066711057945 te940628983119401014 te11162688889790018669 te148458653403369179 te18295903707805428142 te13650891563506576104 te7126895799034428618 te10961387871791330341 te18247488922606359427 te3047120972841775382 te9808578495418257816 te12615141722123023043 te4060950595644404275 te4323286475780619669 te10049050607006629464 te14979828648240824035 te15125921144856006837 te10250346149176612439 te5001055645654416495 te13967565298659105585 te15925601737945542060 te5293025977665807222 te18198944762907948055 te5340446559052198668:True)
open PySem PySem.W PyProof.Rows
set_option maxHeartbeats 0 in
theorem PySem.Challenge.cw_endwise_k13_joint_makes_same_holds : PySem.Challenge.rw_endwise_k13_joint_makes_same.Holds := by
  w_on; o_law; k_head; (case hw => w_witness2)
  k_fill
  refine M.nY (l := PySem.Challenge.rw_endwise_k13_joint_makes_same) (n := 63) (k := 70) (x := "_law_script") (F := G.oz) rfl (by decide) rfl ⟨rfl, by decide, by decide, rfl⟩ (fun w h Y => PySem.W.kIn_of Y) ?F G.oD
  case F =>
    intro w mg fa h KX Gn hmg
    refine' G.all_mk KX Gn hmg _ _ _ _ _ _ _ _ _ _ _ _ _ _ _ _ _ _ _ _ _ _ _ _ _ _ ?e0 _ _ _ _ _ _ _ _ _ _ _ _ _ _ _ _ _ _ _ _ _ _ _ _ _ _ _ _ _ _
    (case e0=>k_is)
    any_goals first|exact ⟨_,by k_is,⟨_,_,_,_,_,_,_,_,_,by k_is,by k_is⟩,by k_is⟩|exact ⟨_,by k_is,by k_is,⟨_,_,_,_,_,_,_,_,_,by k_is,by k_is⟩,by k_is⟩|k_is|exact ⟨_,by k_is⟩|kernel_rfl

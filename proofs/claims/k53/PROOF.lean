import PyProof.Rows.All
import Wide.All
import OpenK.AllK
import Wide.FinOn
import Lean
import PyProof.EqAt
import PyProof.EqKinds
import PyProof.TupleCall
import PyProof.NeKinds
import KE.KRevSl
import KE.KIsAll
import PyProof.FitsBits
import KE.LcSums
import KE.KRevIter
import PyProof.ListRange
import PyProof.Rows.SumAny
import PyProof.Rows.SortWalk
import PyProof.AttrMissHeap
import KE.KDictOf
import PyProof.ZipIter
import PyProof.DictWalks
import KE.KDictList
import KE.KFind
import KE.KDictSum
import KE.KSortTup
import PyProof.Rows.SetFrom
import PyProof.SetRoads
import PyProof.Rows.Range3
import PySem.Challenge.RW_nodeladder_k53_nearest_and_within
set_option bootstrap.genMatcherCode false
set_option Elab.async false
set_option linter.all false
set_option maxRecDepth 1000000
set_option autoImplicit true
set_option relaxedAutoImplicit true
open PySem.W renaming Frag→za0,nsIn→zaw,fnOf→zb8,mg_none_of→zbc,keepIn→zbd,findIn→zbe,codeIn→zby,emptyDict→zca,kia_one→zd1,instObj→zd2
open Classical renaming choose_spec→za1,choose→za8,byContradiction→zcb,propDecidable→zd4
open List renaming length_map→za2,mem_cons_self→za3,mem_cons_of_mem→za4,map_cons→za6,mem_singleton→za7,length_cons→za9,getElem?_eq_getElem→zaa,mem_cons→zab,set_cons_succ→zac,mem_append_right→zad,size_toArray→zae,set_cons_zero→zah,replicate→zai,getElem?_eq_some_iff→zak,getD_eq_getElem?_getD→zal,mem_of_getElem?→zam,getElem?_map→zan,mem_append→zaq,mem_map→zau,length_append→zav,nodup_append→zax,map_append→zaz,range→zb1,getElem?_set_self→zb3,mem_append_left→zb5,getElem?_cons_succ→zb7,foldl_cons→zb9,nodup_cons→zbg,getElem?_eq_none→zbj,append_nil→zbk,length_take→zbo,mem_filter→zbp,map_map→zbq,length_set→zbr,getElem?_set_ne→zbs,pairwise_cons→zbt,mem_of_mem_take→zbw,nodup_nil→zbz,getElem?_append_left→zc0,take_length→zc1,length_reverse→zc3,take_add_one→zc4,lookup_cons→zc9,replicate_succ→zcd,take_append_drop→zcf,length_singleton→zcg,getElem?_replicate→zcl,length_range→zcq,append_assoc→zcr,filterMap_cons→zcs,getElem?_append_right→zcu,length_drop→zcv,length_filter_le→zcw,mem_range→zcy,drop_eq_getElem_cons→zcz,map_nil→zd7,getElem?_range→zd9,getElem?_cons_zero→zda,getElem_mem→zdd,eq_nil_of_length_eq_zero→zde,take_of_length_le→zdh,length_replicate→zdj,find?_cons→zdk,pairwise_map→zdm,any_cons→zdn,mem_or_eq_of_mem_set→zdr,cons_append→zdu
open PySem.Heap renaming get?_push_of_some→za5,lt_size→zaf,get?_push_size→zaj,get?_update_self→zch,SameBut→zcn,get?_update_other→zct,size_push→zd0
open Nat renaming le_refl→zag,ne_of_lt→zap,lt_of_lt_of_le→zar,zero_le→zb0,le_of_lt→zbf,le_trans→zbl,le_succ→zd3,lt_irrefl→zdb
open Bool renaming false_ne_true→zao,false_eq_true→zas,and_eq_true→zb2,eq_iff_iff→zd5
open Option.some renaming inj→zat
open Array renaming getElem?_eq_getElem→zay,getD_eq_getD_getElem?→zbu,length_toList→zc2,getElem?_toList→zce,getElem?_eq_none→zdg
open Int renaming toNat_natCast→zb4,emod_lt_of_pos→zc8,emod_nonneg→zci,add_assoc→zdo
open Or renaming inl→zb6
open Prod renaming fst→zba,snd→zc7
open PySem.Builtin.Int renaming intBits→zbb
open PySem.Value renaming ref→zbh,int→zck,type→zcm,none→zdc
open PySem.SetTable renaming below→zbi
open PyProof.Rows renaming callWith_type1→zbm,callWith_builtin1→zcx
open Ne renaming symm→zbn
open PySem.Around renaming under_plainId→zbv
open PySem.Heap.SameBut renaming update→zbx
open PySem.Obj renaming mapSeq→zc5
open PySem.Calls renaming spliced_cons→zc6,spliced_nil→zcc
open False renaming elim→zcj
open PySem.F renaming plain_min_loop→zco,plainAttrs_list→zd6
open Option renaming map_some→zcp,isSome_iff_exists→zdt
open PySem.SetTable.below renaming go→zd8
open True renaming intro→zdf
open PySem.NameKind renaming free→zdi
open PySem.Builtin.List renaming listTooLong→zdl
open PySem.W.Fast renaming tw821141287760084731→zdp
open PySem.SeqAt.EqAt renaming int_int→zdq
open PySem renaming mem_of_lookup→zds
open ForInStep renaming yield→zdv
local macro_rules|`(~~~$t)=>`(autoParam $t PySem.W.name_B._auto_1)
local macro_rules|`(def $i $b* :$t $v:declVal)=>`(theorem $i $b* :$t $v:declVal)
local macro_rules|`(abbrev $i $b* :$t $v:declVal)=>`(noncomputable def $i $b* :$t $v:declVal)|`(abbrev $i $b* $v:declVal)=>`(noncomputable def $i $b* $v:declVal)
section
set_option maxHeartbeats 0
namespace L2
open PySem PySem.Spec PyProof.Rows PySem.W PySem.Calls
abbrev inClass (s:Stmt)(j:Nat):Stmt:=match s with
 | .ClassDef _ _ _ body _ _ _ _ _ _ _=>body.getD j (.Pass ⟨0,0,0,0⟩)
 |_=>.Pass ⟨0,0,0,0⟩
abbrev AV (s:Stmt):Arguments:=match s with
 | .FunctionDef _ a _ _ _ _ _ _ _ _=>a
 |_=>{posonlyargs:=[],args:=[],vararg:=none,kwonlyargs:=[],kw_defaults:=[],kwarg:=none,defaults:=[]}
abbrev Aw (s:Stmt):List Stmt:=match s with
 | .FunctionDef _ _ b _ _ _ _ _ _ _=>b
 |_=>[]
abbrev A4 (s:Stmt):Scope:=match s with
 | .FunctionDef _ _ _ _ _ _ sc _ _ _=>sc
 |_=>{kind:=.function,names:=[],isGenerator:=false,isCoroutine:=false}
structure FP (K:za0)(x:Str)(st:Stmt):Prop where
 ex:∃(f:Addr) (oc:Value) (od an:Option Addr) (sl:Array (Option Value)) (kV dc pm cd ct:Value),zaw K mainGlobals x=some (some (.ref f))/\K.lookup f=some ⟨oc,od,.func (zb8 x x (AV st) (Aw st) (A4 st) .none kV dc pm an cd ct),sl⟩/\zby K cd x=true/\zbd K (.ref f)=true
structure MP (K:za0)(C:Addr)(m qual:Str)(st:Stmt):Prop where
 ex:∃(f:Addr) (oc:Value) (od an:Option Addr) (sl:Array (Option Value)) (kV dc pm cd ct:Value),zbe K (.ref C) m=some (some (.ref f))/\PySem.W.isFn K (.ref f)=true/\K.lookup f=some ⟨oc,od,.func (zb8 m qual (AV st) (Aw st) (A4 st) .none kV dc pm an cd ct),sl⟩/\zby K cd qual=true/\zbd K (.ref f)=true
abbrev Bn (p:Program):Program:={p with main:={p.main with body:=p.main.body.filter λ s=>match s with | .FunctionDef n .. =>n == "law" |_=>false} }
abbrev yJ:Stmt->List Str
 | .FunctionDef n ..| .ClassDef n ..=>[n]
 | .Assign [.Name x _] .. =>[x]
 |_=>[]
abbrev Mc (p:Program):List Str:=(p.main.body.flatMap yJ).filter λ x => !(x == "law")
structure Rn where
 run:(String->Option Builtin)->Program->World->Nat->Option Value->Nat->Shared->Thread->Option Shared
 ns:Heap->Addr->Str->Option Value
 imp:(String->Option Builtin)->Program->World->Nat->Shared->Thread->Option Shared
 yK:Program->Shared->Option Shared
 st:Program->Shared×Thread
 tb:String->Option Builtin
abbrev V1 (R:Rn)(p:Program)(w:World)(N:Nat):Option Shared:=
 ((R.imp R.tb (opening p) w N (R.st (opening p)).fst (R.st (opening p)).snd).bind (R.yK p)).bind λ s₀ =>
 match s₀.heap.isNs mainGlobals&&s₀.gens.size==0 with
 |true=>(R.run R.tb p w s₀.heap.objs.size (R.ns s₀.heap mainGlobals (Str.ofString "__annotations__")) N s₀ (topStub p)).bind λ s₁ =>
  match staticsOk (importedModules p.main.body) s₀.heap s₁.heap&&namesBound p s₁.heap&&gensDone s₁&&laidKept s₀.heap s₁.heap with
  |true=>some s₁
  |false=>none
 |false=>none
abbrev R1:Rn:=⟨PySem.W.Fast.tw14082659384304107361,PySem.W.Fast.tw8920871248978507458,PySem.W.Fast.tw10274390034422433532,PySem.W.Fast.tw14289696077712309145,PySem.W.Fast.tw1435165496053646825,PySem.W.Fast.tw14364793385576792824⟩
abbrev Y6 (R:Rn)(p:Program)(w:World)(N:Nat):Heap:=match V1 R p w N with | some s=>s.heap | none=>⟨#[],default⟩
abbrev uD (h:Heap)(as:List Addr):za0:=as.filterMap λ a=>(h.get? a).map λ o=>(a,o)
abbrev xJ (v:Option (Option Value)):Addr:=match v with | some (some (.ref f))=>f | _=>0
abbrev DB (K:za0)(f:Addr):Obj:=(K.lookup f).getD ⟨.none,none,.plain,#[]⟩
abbrev IC (d:Data)(st:Stmt):FuncData:=match d with | .func fd=>fd | _=>zb8 Str.empty Str.empty (AV st) [] (A4 st) .none .none .none .none none .none .none
abbrev qN (v:Value):Addr:=match v with | .ref a=>a | _=>0
abbrev qO (d:Data):Nat:=match d with | .seq _ n=>n | _=>0
abbrev cA (K:za0)(x:Str):Addr:=xJ (zaw K mainGlobals x)
abbrev mA (K:za0)(C:Addr)(m:Str):Addr:=xJ (zbe K (.ref C) m)
def vF {K}{st}(a:zaw K mainGlobals x=some (some (.ref (cA K x))):=by kernel_rfl)(l:K.lookup (cA K x)=some ⟨(DB K (cA K x)).cls,(DB K (cA K x)).dict,.func (zb8 x x (AV st) (Aw st) (A4 st) .none (IC (DB K (cA K x)).data st).kwdefaults (IC (DB K (cA K x)).data st).doc (IC (DB K (cA K x)).data st).pyModule (IC (DB K (cA K x)).data st).annotations (IC (DB K (cA K x)).data st).code (IC (DB K (cA K x)).data st).closureTuple),(DB K (cA K x)).slots⟩:=by kernel_rfl)(c:zby K (IC (DB K (cA K x)).data st).code x=true:=by kernel_rfl)(k:zbd K (.ref (cA K x))=true:=by kernel_rfl):FP K x st:=⟨⟨_,_,_,_,_,_,_,_,_,_,a,l,c,k⟩⟩
def vG {K}{st}(a:zbe K (.ref C) m=some (some (.ref (mA K C m))):=by kernel_rfl)(i:PySem.W.isFn K (.ref (mA K C m))=true:=by kernel_rfl)(l:K.lookup (mA K C m)=some ⟨(DB K (mA K C m)).cls,(DB K (mA K C m)).dict,.func (zb8 m qual (AV st) (Aw st) (A4 st) .none (IC (DB K (mA K C m)).data st).kwdefaults (IC (DB K (mA K C m)).data st).doc (IC (DB K (mA K C m)).data st).pyModule (IC (DB K (mA K C m)).data st).annotations (IC (DB K (mA K C m)).data st).code (IC (DB K (mA K C m)).data st).closureTuple),(DB K (mA K C m)).slots⟩:=by kernel_rfl)(c:zby K (IC (DB K (mA K C m)).data st).code qual=true:=by kernel_rfl)(k:zbd K (.ref (mA K C m))=true:=by kernel_rfl):MP K C m qual st:=⟨⟨_,_,_,_,_,_,_,_,_,_,a,i,l,c,k⟩⟩
structure IP (K:za0)(C:Addr)(m qual:Str)(st:Stmt):Prop where
 ex:∃(f td:Addr) (oc to:Value) (od an tq:Option Addr) (sl ts:Array (Option Value)) (tn:Nat) (kV dc pm cd ct:Value),zbe K (.ref C) m=some (some (.ref f))/\PySem.W.isFn K (.ref f)=true/\K.lookup f=some ⟨oc,od,.func (zb8 m qual (AV st) (Aw st) (A4 st) (.ref td) kV dc pm an cd ct),sl⟩/\zby K cd qual=true/\zbd K (.ref f)=true/\K.lookup td=some ⟨to,tq,.seq #[.none] tn,ts⟩
abbrev tA (K:za0)(C:Addr)(m:Str)(st:Stmt):Addr:=qN (IC (DB K (mA K C m)).data st).defaults
def vH {K}{st}(a:zbe K (.ref C) m=some (some (.ref (mA K C m))):=by kernel_rfl)(i:PySem.W.isFn K (.ref (mA K C m))=true:=by kernel_rfl)(l:K.lookup (mA K C m)=some ⟨(DB K (mA K C m)).cls,(DB K (mA K C m)).dict,.func (zb8 m qual (AV st) (Aw st) (A4 st) (.ref (tA K C m st)) (IC (DB K (mA K C m)).data st).kwdefaults (IC (DB K (mA K C m)).data st).doc (IC (DB K (mA K C m)).data st).pyModule (IC (DB K (mA K C m)).data st).annotations (IC (DB K (mA K C m)).data st).code (IC (DB K (mA K C m)).data st).closureTuple),(DB K (mA K C m)).slots⟩:=by kernel_rfl)(c:zby K (IC (DB K (mA K C m)).data st).code qual=true:=by kernel_rfl)(k:zbd K (.ref (mA K C m))=true:=by kernel_rfl)(d:K.lookup (tA K C m st)=some ⟨(DB K (tA K C m st)).cls,(DB K (tA K C m st)).dict,.seq #[.none] (qO (DB K (tA K C m st)).data),(DB K (tA K C m st)).slots⟩:=by kernel_rfl):IP K C m qual st:=⟨⟨_,_,_,_,_,_,_,_,_,_,_,_,_,_,_,a,i,l,c,k,d⟩⟩
structure xK (K:za0)(x:Str)(j:Int)(st:Stmt):Prop where
 ex:∃(f td:Addr) (oc to:Value) (od an tq:Option Addr) (sl ts:Array (Option Value)) (tn:Nat) (tk:Tok) (kV dc pm cd ct:Value),zaw K mainGlobals x=some (some (.ref f))/\K.lookup f=some ⟨oc,od,.func (zb8 x x (AV st) (Aw st) (A4 st) (.ref td) kV dc pm an cd ct),sl⟩/\zby K cd x=true/\zbd K (.ref f)=true/\K.lookup td=some ⟨to,tq,.seq #[.int j tk] tn,ts⟩
abbrev dA (K:za0)(x:Str)(st:Stmt):Addr:=qN (IC (DB K (cA K x)).data st).defaults
abbrev yL:PySem.Data->Tok
 | .seq xs _=>(match xs[0]? with|some (zck _ t)=>t|_=>0)
 |_=>0
def vI {K}{st}(a:zaw K mainGlobals x=some (some (.ref (cA K x))):=by kernel_rfl)(l:K.lookup (cA K x)=some ⟨(DB K (cA K x)).cls,(DB K (cA K x)).dict,.func (zb8 x x (AV st) (Aw st) (A4 st) (.ref (dA K x st)) (IC (DB K (cA K x)).data st).kwdefaults (IC (DB K (cA K x)).data st).doc (IC (DB K (cA K x)).data st).pyModule (IC (DB K (cA K x)).data st).annotations (IC (DB K (cA K x)).data st).code (IC (DB K (cA K x)).data st).closureTuple),(DB K (cA K x)).slots⟩:=by kernel_rfl)(c:zby K (IC (DB K (cA K x)).data st).code x=true:=by kernel_rfl)(k:zbd K (.ref (cA K x))=true:=by kernel_rfl)(d:K.lookup (dA K x st)=some ⟨(DB K (dA K x st)).cls,(DB K (dA K x st)).dict,.seq #[.int j (yL (DB K (dA K x st)).data)] (qO (DB K (dA K x st)).data),(DB K (dA K x st)).slots⟩:=by kernel_rfl):xK K x j st:=⟨⟨_,_,_,_,_,_,_,_,_,_,_,_,_,_,_,_,a,l,c,k,d⟩⟩
end L2
namespace dk
open PySem L2
def prim:(PySem.W.chainsOk PySem.Challenge.pw_nodeladder_k53_nearest_and_within||true)=true:=by k_qdec
def IG (w:World):(V1 R1 PySem.W.Fast.tw1330080210386587153 w 6300).map (λ s=>(PySem.W.Fast.tw5160383126252970620 (PySem.W.R.mapR (λ x:DefRec=>x.name) (PySem.W.Fast.tw3399658132070893891 (Bn PySem.W.Fast.tw1330080210386587153))) (PySem.W.Fast.tw5991557255702980513 (Bn PySem.W.Fast.tw1330080210386587153)) [] {s with gens:=#[]},PySem.W.Fast.tw10880121769531294198 s.heap (zdp (Bn PySem.W.Fast.tw1330080210386587153) (Mc PySem.W.Fast.tw1330080210386587153)) (PySem.W.R.mapR (λ x:DefRec=>x.name) (PySem.W.Fast.tw3399658132070893891 (Bn PySem.W.Fast.tw1330080210386587153))) (PySem.W.R.mapR (λ x:Str×PyData=>x.1) (PySem.W.Fast.tw7409074990110511671 (Bn PySem.W.Fast.tw1330080210386587153))) (PySem.W.R.mapR (λ x:ClsRec=>x.name) (PySem.W.Fast.tw13664370479719496447 (Bn PySem.W.Fast.tw1330080210386587153) (zdp (Bn PySem.W.Fast.tw1330080210386587153) (Mc PySem.W.Fast.tw1330080210386587153))))&&PySem.W.Fast.tw14722251495701143533 s.heap (PySem.W.Fast.tw5923862056798008813 PySem.W.Fast.tw1330080210386587153.main.body)&&s.heap.isNs mainGlobals&&s.heap.isNs builtinsNs&&PySem.W.Fast.tw10994771534591457954 (Bn PySem.W.Fast.tw1330080210386587153) s.heap&&(PySem.W.xlAt (Bn PySem.W.Fast.tw1330080210386587153) [] s&&PySem.W.recOk [] s)&&(if true=true then s.gens.size==0 else !leftWithCleanup s.gens),s.heap.bltView,PySem.W.Fast.tw479339242167458305 (Bn PySem.W.Fast.tw1330080210386587153) s,PySem.W.Fast.tw16090120013241838585 (Bn PySem.W.Fast.tw1330080210386587153) (PySem.W.Fast.tw3247288618530077131 (Bn PySem.W.Fast.tw1330080210386587153)) s,PySem.W.Fast.tw2386780881361962483 (Bn PySem.W.Fast.tw1330080210386587153) (zdp (Bn PySem.W.Fast.tw1330080210386587153) (Mc PySem.W.Fast.tw1330080210386587153)) s,PySem.W.Fast.tw11698064438423848299 (Bn PySem.W.Fast.tw1330080210386587153) (Mc PySem.W.Fast.tw1330080210386587153) s,PySem.W.Fast.tw7317090234206586261 (Bn PySem.W.Fast.tw1330080210386587153) s,PySem.W.Fast.tw7369524293546568484 (Bn PySem.W.Fast.tw1330080210386587153) (Mc PySem.W.Fast.tw1330080210386587153) s))=some (PyProof.Rows.expectedOf (Bn PySem.W.Fast.tw1330080210386587153),true,bltViewBooted,true,pinGoodD (PyProof.Rows.drecsOf (Bn PySem.W.Fast.tw1330080210386587153)),PyProof.Rows.plainGoodE (Bn PySem.W.Fast.tw1330080210386587153) (PySem.W.looseW (Bn PySem.W.Fast.tw1330080210386587153) (Mc PySem.W.Fast.tw1330080210386587153)),PyProof.Rows.plainGoodD (Bn PySem.W.Fast.tw1330080210386587153) (Mc PySem.W.Fast.tw1330080210386587153),PySem.W.wideGood (Bn PySem.W.Fast.tw1330080210386587153),PySem.W.clsGoodW (Bn PySem.W.Fast.tw1330080210386587153) (Mc PySem.W.Fast.tw1330080210386587153)):=by kernel_rfl
abbrev topP (p:Program)(i:Nat):Stmt:=p.main.body.getD i (.Pass ⟨0,0,0,0⟩)
abbrev Kp (R:Rn)(p:Program)(w:World):za0:=uD (Y6 R p w 6300) [3,76,77,83,84,90,91,95,96,100,101,107,108,112,113,119,120,124,125,131,132,136,137,143,144,145,149,150,154,155,161,162,168,169,175,176,182,183,187,188,194,195,201,202,206,207,211,212,218,219,225,226,232,233,237,238,246,252,253,266,267,280,281,287,288,308,309,311,312,322,323,329,330,336,337,343,344,350,351,357,358,364,365,371,372,376,377,383,384,390,391,395,396,402,403,407,408]
abbrev Pw (K:za0)(p:Program):Prop:=
 (((((((zaw K mainGlobals "Ladder" = some (some (.ref (cA K "Ladder"))))/\(PySem.W.plainGet K (cA K "Ladder") Str.empty=true))/\(PySem.W.hasDictIn K (cA K "Ladder")=true))/\((PySem.W.plainOver K (cA K "Ladder")=true)/\(zbe K (.ref (cA K "Ladder")) "__setattr__" = some (some (.builtin "object.__setattr__")))))/\(((PySem.W.makesIn K (cA K "Ladder")=true)/\(zbd K (.ref (cA K "Ladder"))=true))/\((FP K "is_whole_below" (topP p 7))/\(FP K "is_measure" (topP p 8)))))/\(((((FP K "is_road" (topP p 9))/\(FP K "is_map" (topP p 10)))/\(FP K "checked" (topP p 11)))/\((FP K "added" (topP p 12))/\(FP K "least" (topP p 13))))/\(((FP K "road_cost" (topP p 14))/\(FP K "kept_costs" (topP p 16)))/\((FP K "climbed" (topP p 17))/\(FP K "swept" (topP p 19))))))/\((((((FP K "costs_out" (topP p 20))/\(FP K "within" (topP p 22)))/\(FP K "cost_so_far" (topP p 24)))/\((FP K "lay" (topP p 25))/\(FP K "lay_over" (topP p 26))))/\(((FP K "laid_arcs" (topP p 27))/\(FP K "is_order" (topP p 29)))/\((FP K "checked_order" (topP p 30))/\(FP K "first_bows" (topP p 31)))))/\(((((FP K "missing_bows" (topP p 32))/\(FP K "lightest" (topP p 33)))/\(FP K "ranked" (topP p 34)))/\((FP K "costs_from" (topP p 36))/\(FP K "order_or_ranked" (topP p 38))))/\(((FP K "kept_arcs" (topP p 39))/\(MP K (cA K "Ladder") "order" "Ladder.order" (inClass (topP p 40) 2)))/\((MP K (cA K "Ladder") "checked_arc" "Ladder.checked_arc" (inClass (topP p 40) 4))/\(MP K (cA K "Ladder") "cost" "Ladder.cost" (inClass (topP p 40) 5)))))))/\(((((((MP K (cA K "Ladder") "kept" "Ladder.kept" (inClass (topP p 40) 8))/\(FP K "_law_cell_at" (topP p 42)))/\(FP K "_law_mix" (topP p 43)))/\((FP K "_law_great" (topP p 44))/\(FP K "_law_whole" (topP p 45))))/\(((FP K "_law_is_cost" (topP p 46))/\(FP K "_law_roads" (topP p 47)))/\((FP K "_law_order" (topP p 48))/\(FP K "_law_added" (topP p 49)))))/\(((((FP K "_law_least" (topP p 50))/\(FP K "_law_open" (topP p 51)))/\(FP K "_law_costs" (topP p 52)))/\((FP K "_law_near" (topP p 53))/\(FP K "_law_length" (topP p 54))))/\(((zaw K mainGlobals "all" = some none)/\(zaw K mainGlobals "bool" = some none))/\((zaw K mainGlobals "dict" = some none)/\(zaw K mainGlobals "enumerate" = some none)))))/\((((((zaw K mainGlobals "int" = some none)/\(zaw K mainGlobals "isinstance" = some none))/\(zaw K mainGlobals "len" = some none))/\((zaw K mainGlobals "list" = some none)/\(zaw K mainGlobals "max" = some none)))/\(((zaw K mainGlobals "min" = some none)/\(zaw K mainGlobals "range" = some none))/\((zaw K mainGlobals "reversed" = some none)/\(zaw K mainGlobals "set" = some none))))/\(((((zaw K mainGlobals "sorted" = some none)/\(zaw K mainGlobals "tuple" = some none))/\(zbe K (.ref (cA K "Ladder")) "kept_ones" = some none))/\((zbe K (.ref (cA K "Ladder")) "laid" = some none)/\(zbe K (.ref (cA K "Ladder")) "own_map" = some none)))/\(((zbe K (.ref (cA K "Ladder")) "own_order" = some none)/\(xK K "nearest" 1 (topP p 21)))/\((IP K (cA K "Ladder") "__init__" "Ladder.__init__" (inClass (topP p 40) 0))/\(FP K "law" (topP p 55)))))))
def eK (w:World):Pw (Kp R1 PySem.W.Fast.tw1330080210386587153 w) PySem.W.Fast.tw1330080210386587153:=by
 unfold Pw
 and_intros<;>first|exact vF|exact vG|exact vH|exact vI|kernel_rfl
end dk
end
set_option Elab.async false
set_option linter.all false
set_option maxRecDepth 100000
set_option autoImplicit true
set_option relaxedAutoImplicit true
namespace L2
open PySem PySem.Spec PyProof.Rows
noncomputable abbrev Key:=Sum Int Str
variable {w:World}{h h':Heap}{e c:Expr}{pins:List (Addr×Obj)}{s:Shared}{pos apos:Pos}{E:Value->Shared->Prop}{A:Around}{dx C:Addr}{es:List Expr}{fd:FuncData}{ps:List Str}
abbrev Oh:Key->Value->Bool
 | .inl k,v=>Value.isInt k v
 | .inr x,v=>Value.isStrOf x v
abbrev vJ (w:World):Key->Int
 | .inl k=>hashInt k
 | .inr x=>hashStr w x
def Bt:∀ {k:Key}{v:Value},Oh k v=true->(∃i t,k=Sum.inl i/\v=zck i t)\/(∃x t,k=Sum.inr x/\v=Value.str x t)
 | .inl i,v,h=>by
  obtain⟨t,e⟩:=Value.isInt_shape (k:=i) (v:=v) h;exact .inl ⟨i,t,rfl,e⟩
 | .inr x,v,h=>by
  obtain⟨t,e⟩:=Value.isStrOf_shape (x:=x) (v:=v) h;exact .inr ⟨x,t,rfl,e⟩
def Ww (i:Int)(t:Tok):Oh (.inl i) (.int i t)=true:=by simp[Oh,Value.isInt]
def Wx (x:Str)(t:Tok):Oh (.inr x) (.str x t)=true:=by simp[Oh,Value.isStrOf]
def lR (a b:Int):decide ((Sum.inl a:Key)=Sum.inl b)=(a==b):=by
 by_cases e:a=b
 ·subst e;simp
 ·have h:¬ (Sum.inl a:Key)=Sum.inl b:=λ q=>e (Sum.inl.inj q);rw[decide_eq_false h];exact (beq_eq_false_iff_ne.mpr e).symm
def lS (a b:Str):decide ((Sum.inr a:Key)=Sum.inr b)=decide (a=b):=by
 by_cases e:a=b
 ·subst e;simp
 ·have h:¬ (Sum.inr a:Key)=Sum.inr b:=λ q=>e (Sum.inr.inj q);rw[decide_eq_false h,decide_eq_false e]
def lT (a:Int)(b:Str):decide ((Sum.inl a:Key)=Sum.inr b)=false:=decide_eq_false (λ q=>nomatch q)
def lU (a:Str)(b:Int):decide ((Sum.inr a:Key)=Sum.inl b)=false:=decide_eq_false (λ q=>nomatch q)
abbrev Ba (prog:Program)(w:World):PySem.KeyKind prog w Key where
 is:=Oh
 hash:=vJ w
 inj:=λ v a b ha hb=>by
  rcases Bt ha with ⟨i,t,rfl,rfl⟩|⟨x,t,rfl,rfl⟩
  ·rcases Bt hb with ⟨j,u,rfl,e⟩|⟨y,u,rfl,e⟩
   ·injection e with e1 _;rw[e1]
   ·exact nomatch e
  ·rcases Bt hb with ⟨j,u,rfl,e⟩|⟨y,u,rfl,e⟩
   ·exact nomatch e
   ·injection e with e1 _;rw[e1]
 byValue:=λ k v h=>by
  rcases Bt h with ⟨i,t,rfl,rfl⟩|⟨x,t,rfl,rfl⟩<;>rfl
 pyHash:=λ hv h=>by
  rcases Bt hv with ⟨i,t,rfl,rfl⟩|⟨x,t,rfl,rfl⟩
  ·exact wpAny_pyHash_int h
  ·exact wpAny_pyHash_str h
 eqBool:=λ hu hv h=>by
  rcases Bt hu with ⟨i,t,rfl,rfl⟩|⟨x,t,rfl,rfl⟩
  ·rcases Bt hv with ⟨j,u,rfl,rfl⟩|⟨y,u,rfl,rfl⟩
   ·rw[lR] at h;exact wpAny_eqBool_int h
   ·rw[lT] at h;exact SeqAt.EqAt.int_str i t y u _ _ _ _ h
  ·rcases Bt hv with ⟨j,u,rfl,rfl⟩|⟨y,u,rfl,rfl⟩
   ·rw[lU] at h;exact SeqAt.EqAt.str_int x t j u _ _ _ _ h
   ·rw[lS] at h;exact wpAny_eqBool_str h
 «strs»:=λ k x t v h=>by
  rcases Bt h with ⟨i,u,rfl,e⟩|⟨y,u,rfl,e⟩
  ·exact nomatch e
  ·injection e with e1 _
   subst e1;cases v<;>rfl
def Rb (prog:Program)(w:World)(i:Int)(t:Tok):(Ba prog w).is (.inl i) (.int i t)=true:=Ww i t
def Rc (prog:Program)(w:World)(x:Str)(t:Tok):(Ba prog w).is (.inr x) (.str x t)=true:=Wx x t
inductive V where
 |AE|bl (b:Bool)|int (i:Int)|str (x:Str)|lV (b:Array UInt8)|qP (b:UInt64)|ref (a:Addr)|ty (n:String)
 deriving DecidableEq
abbrev RelV:V->Value->Prop
 | .AE,u=>u=zdc
 | .bl b,u=>u=Value.bool b
 | .int i,u=>∃t,u=zck i t
 | .str x,u=>∃t,u=Value.str x t
 | .lV b,u=>∃t,u=Value.bytes b t
 | .qP b,u=>∃t,u=Value.float b t
 | .ref a,u=>u=zbh a
 | .ty n,u=>u=zcm n
noncomputable abbrev Vals:List V->List Value->Prop:=Paired RelV
def Vals.length (r:Vals xs us):xs.length=us.length:=Paired.length r
def Vals.get:∀ {xs:List V}{us:List Value}{i:Nat}{x:V},Vals xs us->xs[i]?=some x->∃u,us[i]?=some u/\RelV x u
 |_,_,_,_,.nil,e=>by simp at e
 |_,_,0,_,.cons r _,e=>by simp at e;subst e;exact⟨_,rfl,r⟩
 |_,_,i+1,x,.cons _ t,e=>by
  obtain⟨u,h1,h2⟩:=Vals.get (i:=i) (x:=x) t (by simpa using e);exact⟨u,by simpa using h1,h2⟩
def Vals.set (r:RelV x u):∀ {xs:List V}{us:List Value}(i:Nat),Vals xs us->Vals (xs.set i x) (us.set i u)
 |_,_,_,.nil=>.nil
 |_,_,0,.cons _ t=>.cons r t
 |_,_,i+1,.cons q t=>.cons q (Vals.set r i t)
def Vals.append:∀ {xs ys:List V}{us ws:List Value},Vals xs us->Vals ys ws->Vals (xs++ys) (us++ws)
 |_,_,_,_,.nil,s=>s
 |_,_,_,_,.cons r t,s=>.cons r (Vals.append t s)
def Vals.take:∀ {xs:List V}{us:List Value}(n:Nat),Vals xs us->Vals (xs.take n) (us.take n)
 |_,_,0,_|_,_,_+1,.nil=>.nil
 |_,_,n+1,.cons r t=>.cons r (Vals.take n t)
def Vals.drop:∀ {xs:List V}{us:List Value}(n:Nat),Vals xs us->Vals (xs.drop n) (us.drop n)
 |_,_,0,r=>r
 |_,_,_+1,.nil=>.nil
 |_,_,n+1,.cons _ t=>Vals.drop n t
abbrev G1:Option V->Option Value->Prop
 |some v,some u=>RelV v u
 |none,none=>True
 |_,_=>False
abbrev KV {κ:Type}:List (κ×V)->List (κ×Value)->Prop:=Paired λ(p:κ×V) (q:κ×Value)=>p.1=q.1/\RelV p.2 q.2
abbrev kV:Key->V
 | .inl i=>.int i
 | .inr x=>.str x
inductive HO where
 |lst (xs:List V)
 |tup (xs:List V)
 |dK (kvs:List (Key×V))|dT (kvs:List (List Key×V))
 |set (S:Int->Bool) (n:Nat)
 |ins (C dx:Addr) (fs:List (Str×V))
 |own (x:Addr)
 |xd (fs:List (Str×V))
 |met (f x:Addr)
 |vK (lo hi:Int)
 |Y1 (o:Obj) (u:HO)
 |lW (ps:Array Value)
 |ext (φ:Heap->Prop)
noncomputable abbrev Hp:=Addr->Option HO
variable {H H':Hp}
abbrev upd (H:Hp)(a:Addr)(o:HO):Hp:=λ b=>if b=a then some o else H b
def Aq:upd H a o a=some o:=by unfold upd;rw[if_pos rfl]
def Ai (h:b≠a):upd H a o b=H b:=by unfold upd;rw[if_neg h]
def qQ (h:H a=some o)(h':H b=some u)(d:o≠u):a≠b:=by
 intro e;subst e;rw[h] at h';exact d (zat h')
def Ax (h:H a=some o)(h':H b=none):a≠b:=by
 intro e;subst e;rw[h] at h';cases h'
section
variable (P:Program) (w:World)
abbrev BQ (H:Hp)(h:Heap)(a:Addr):HO->Prop
 | .lst xs=>xs.length<=sizeLine/\∃(aa:List Value) (n:Nat),Vals xs aa/\h.get? a=some {cls:=.type "list",data:=.seq aa.toArray n}
 | .tup xs=>xs.length<=sizeLine/\∃aa:List Value,Vals xs aa/\IsTup h a aa.toArray
 | .dK kvs=>kvs.length<=sizeLine/\(a==sysModules)=false/\∃vs,KV kvs vs/\h.DictOf (Ba P w) a vs
 | .dT kvs=>kvs.length<=sizeLine/\(a==sysModules)=false/\∃xs:List (List Key×Addr×Value),
  Paired (λ(p:List Key×V) (q:List Key×Addr×Value)=>p.1=q.1/\H q.2.1=some (.tup (p.1.map kV))/\RelV p.2 q.2.2) kvs xs/\
  ∃o es ep,h.get? a=some o/\o.ExactDict/\o.data=.dict es ep/\es.toList=xs.map (entryOfKey (tupleKind (Ba P w)))/\(xs.map (·.1)).Nodup
 | .set S n=>h.SetOf (intKind P w) a S n
 | .ins C dx fs=>H dx=some (.own a)/\fs.length<=1000/\dx≠a/\h.get? a=some (zd2 C dx)/\
  ∃mA,h.Ns1 dx mA/\(∀f,G1 (fs.lookup f) (mA f))/\PySem.Within mA (fs.map (·.1))
 | .own _=>∃o,h.get? a=some o
 | .xd fs=>∃mA,h.Ns1 a mA/\∀f,G1 (fs.lookup f) (mA f)
 | .vK lo hi=>∃t u v,h.get? a=some {cls:=.type "range",data:=.fields #[.int lo t,.int hi u,.int 1 v]}
 | .Y1 o u=>h.get? a=some o/\BQ H h a u
 | .lW ps=>h.get? a=some {cls:=.none,data:=.fields ps}
 | .met f x=>h.get? a=some (PySem.W.methodObj (.ref f) (.ref x))
 | .ext φ=>φ h/\(∃o,h.get? a=some o)/\∀h1 h2:Heap,φ h1->(∀o,h1.get? a=some o->h2.get? a=some o)->φ h2
abbrev G5 (H:Hp)(h:Heap):Prop:=∀a o,H a=some o->BQ P w H h a o
end
section
variable {P:Program}{a:Addr}{o:HO}
def BQ.lt (x:BQ P w H h a o):a<h.objs.size:=by
 cases o with
 |lst xs=>obtain⟨_,_,_,_,e⟩:=x;exact zaf e
 |tup xs=>obtain⟨_,_,_,p⟩:=x;exact p.lt
 |dK kvs|dT kvs=>obtain⟨_,_,_,_,o,_,_,e,_⟩:=x;exact zaf e
 |set S n=>obtain⟨o,_,_,_,e,_⟩:=x;exact zaf e
 |ins C dx fs=>obtain⟨_,_,_,e,_⟩:=x;exact zaf e
 |own y=>obtain⟨_,e⟩:=x;exact zaf e
 |xd fs=>obtain⟨_,⟨_,_,_,e,_⟩,_⟩:=x;exact zaf e
 |vK lo hi=>obtain⟨_,_,_,e⟩:=x;exact zaf e
 |Y1 ob u=>obtain⟨e,_⟩:=x;exact zaf e
 |lW ps|met f y=>exact zaf (show h.get? a=some _ from x)
 |ext φ=>obtain⟨_,⟨_,e⟩,_⟩:=x;exact zaf e
def Paired.lX {α β:Type}{F G:α->β->Prop}:∀ {l₁:List α}{l₂:List β},Paired F l₁ l₂->(∀a b,F a b->G a b)->Paired G l₁ l₂
 |_,_,.nil,_=>.nil
 |_,_,.cons r t,f=>.cons (f _ _ r) (Paired.lX t f)
def BQ.Rf (x:BQ P w H h a o)(k:∀b u,(b=a\/H b=some (.own a))->h.get? b=some u->h'.get? b=some u)
 (ho:∀b,H b=some (.own a)->H' b=some (.own a)) (ht:∀b xs,H b=some (.tup xs)->H' b=some (.tup xs)):BQ P w H' h' a o:=by
 induction o with
 |lst xs=>obtain⟨z,aa,n,r,e⟩:=x;exact⟨z,aa,n,r,k _ _ (.inl rfl) e⟩
 |tup xs=>obtain⟨z,aa,r,ob,e,c⟩:=x;exact⟨z,aa,r,ob,k _ _ (.inl rfl) e,c⟩
 |dK kvs=>obtain⟨z,y,vs,r,ob,es,ep,e,c⟩:=x;exact⟨z,y,vs,r,ob,es,ep,k _ _ (.inl rfl) e,c⟩
 |dT kvs =>
  obtain⟨z,y,xs,r,ob,es,ep,e,c⟩:=x;exact⟨z,y,xs,Paired.lX r λ p q z=>⟨z.1,ht _ _ z.2.1,z.2.2⟩,ob,es,ep,k _ _ (.inl rfl) e,c⟩
 |set S n=>obtain⟨ob,es,ep,t,e,c⟩:=x;exact⟨ob,es,ep,t,k _ _ (.inl rfl) e,c⟩
 |ins C dx fs =>
  obtain⟨d,z,ne,e,mA,⟨od,es,ep,e2,c⟩,r⟩:=x;exact⟨ho _ d,z,ne,k _ _ (.inl rfl) e,mA,⟨od,es,ep,k _ _ (.inr d) e2,c⟩,r⟩
 |own y=>obtain⟨ob,e⟩:=x;exact⟨ob,k _ _ (.inl rfl) e⟩
 |xd fs=>obtain⟨mA,⟨od,es,ep,e,c⟩,r⟩:=x;exact⟨mA,⟨od,es,ep,k _ _ (.inl rfl) e,c⟩,r⟩
 |vK lo hi=>obtain⟨t,u,v,e⟩:=x;exact⟨t,u,v,k _ _ (.inl rfl) e⟩
 |Y1 ob u ih=>obtain⟨e,q⟩:=x;exact⟨k _ _ (.inl rfl) e,ih q⟩
 |lW ps =>
  have e:h.get? a=some {cls:=.none,data:=.fields ps}:=x;show h'.get? a=some {cls:=.none,data:=.fields ps};exact k a _ (.inl rfl) e
 |met f y =>
  have e:h.get? a=some (PySem.W.methodObj (.ref f) (.ref y)):=x;show h'.get? a=some (PySem.W.methodObj (.ref f) (.ref y));exact k a _ (.inl rfl) e
 |ext φ=>obtain⟨p,⟨o,e⟩,st⟩:=x;exact⟨st _ _ p λ o q=>k _ _ (.inl rfl) q,⟨o,k _ _ (.inl rfl) e⟩,st⟩
def G5.lt (x:G5 P w H h)(e:H a=some o):a<h.objs.size:=(x a o e).lt
def G5.fresh (x:G5 P w H h)(e:h.objs.size<=a):H a=none:=by
 cases q:H a with
 |none=>rfl
 |some u=>exact absurd (zar (x.lt q) e) (zdb _)
def G5.kept (x:G5 P w H h)(k:∀b u,h.get? b=some u->h'.get? b=some u):G5 P w H h':=λ a o e =>
 (x a o e).Rf (λ b u _ q=>k b u q) (λ _ q=>q) λ _ _ q=>q
def G5.laid (x:G5 P w H h)(k:∀b u,h.get? b=some u->h'.get? b=some u)(hp:h.objs.size<=a)(new:BQ P w (upd H a o) h' a o):G5 P w (upd H a o) h':=λ b u e=>by
 have hn:=x.fresh hp;by_cases hb:b=a
 ·subst hb;rw[Aq] at e;cases e;exact new
 ·rw[Ai hb] at e;exact (x b u e).Rf (λ c v _ q=>k c v q) (λ c q=>by rw[Ai (Ax q hn)];exact q) λ c xs q=>by rw[Ai (Ax q hn)];exact q
end
abbrev Rd (H:Hp)(a:Addr)(u:HO):Prop:=H a=some u\/∃o,H a=some (.Y1 o u)
def Rd.ok (r:Rd H a u)(x:G5 P w H h):BQ P w H h a u:=by
 rcases r with r|⟨o,r⟩
 ·exact x a u r
 ·obtain⟨_,q⟩:=x a _ r;exact q
abbrev qR:Option HO->Prop
 |some (.lst _)|some (.dK _)|some (.dT _)|some (.set _ _)|some (.ins _ _ _)|some (.ext _)=>True
 |_=>False
section
variable {P:Program}{x e:Addr}{o':HO}
def G5.write (ok:G5 P w H h)(mu:qR (H x))(he:e=x\/H e=some (.own x))(k:∀b u,b≠e->h.get? b=some u->h'.get? b=some u)(dl:∃u,h'.get? e=some u)
 (new:BQ P w (upd H x o') h' x o'):G5 P w (upd H x o') h':=λ b u q=>by
 have iu:∀c y,H c=some (.own y)->c≠x:=λ c y r z=>by subst z;rw[r] at mu;exact mu
 have mx:∀c xs,H c=some (.tup xs)->c≠x:=λ c xs r z=>by subst z;rw[r] at mu;exact mu
 by_cases hb:b=x
 ·subst hb;rw[Aq] at q;cases q;exact new
 ·rw[Ai hb] at q;by_cases eo:b=e
  ·have q':H b=some (.own x):=by
    rcases he with z|z
    ·exact absurd (eo.trans z) hb
    ·rw[eo];exact z
   rw[q] at q';cases q';obtain⟨v,hv⟩:=dl;exact⟨v,by rw[eo];exact hv⟩
  ·refine (ok b u q).Rf (λ c v hc r=>k c v ?_ r) (λ c r=>by rw[Ai (iu c b r)];exact r) λ c xs r=>by rw[Ai (mx c xs r)];exact r
   rcases hc with rfl|hc
   ·exact eo
   ·rintro rfl;rcases he with z|z
    ·exact iu c b hc z
    ·rw[hc] at z;cases z;exact hb rfl
end
structure Un (fs ex:List Addr)(H H':Hp)(h h':Heap):Prop where
 keep:∀b o,h.get? b=some o->H b=none->b∉fs->b∉ex->h'.get? b=some o
 slot:∀b o,h.get? b=some o->H b=none->b∈fs->b∉ex->∃sl,h'.get? b=some {o with slots:=sl}
 free:∀b o,h.get? b=some o->H b=none->b∉ex->H' b=none
 there:∀b o,h.get? b=some o->b∉ex->∃o',h'.get? b=some o'
 Px:∀b xs,H b=some (.tup xs)->H' b=some (.tup xs)
 NQ:∀b o u,H b=some (.Y1 o u)->H' b=some (.Y1 o u)
 Py:∀b ps,H b=some (.lW ps)->∃more,H' b=some (.lW (ps++more))
section
variable {fs bP ex my:List Addr}{H1 H2:Hp}{h1 h2:Heap}{a x e:Addr}{o:HO}
def Un.any (u:Un fs ex H H1 h h1)(q:h.get? b=some ob)(n:H b=none)(hx:b∉ex):∃sl,h1.get? b=some {ob with slots:=sl}:=by
 by_cases hb:b∈fs
 ·exact u.slot b ob q n hb hx
 ·exact⟨ob.slots,u.keep b ob q n hb hx⟩
def Un.kept (k:∀b u,h.get? b=some u->h'.get? b=some u):Un fs ex H H h h':=
 ⟨λ b ob q _ _ _=>k b ob q,λ b ob q _ _ _=>⟨ob.slots,k b ob q⟩,λ _ _ _ n _=>n,λ b ob q _=>⟨ob,k b ob q⟩,λ _ _ q=>q,λ _ _ _ q=>q,λ _ ps q=>⟨#[],by rw[q];simp⟩⟩
def Un.refl:Un fs ex H H h h:=Un.kept λ _ _ q=>q
def Un.laid (k:∀b u,h.get? b=some u->h'.get? b=some u)(hp:h.objs.size<=a)(hn:H a=none):Un fs ex H (upd H a o) h h' where
 keep:=λ b u q _ _ _=>k b u q
 slot:=λ b u q _ _ _=>⟨u.slots,k b u q⟩
 free:=λ b u q n _=>by rw[Ai (zap (zar (zaf q) hp))];exact n
 there:=λ b u q _=>⟨u,k b u q⟩
 Px:=λ b xs q=>by rw[Ai (Ax q hn)];exact q
 NQ:=λ b u xs q=>by rw[Ai (Ax q hn)];exact q
 Py:=λ b ps q=>⟨#[],by rw[Ai (Ax q hn),q];simp⟩
def Un.write (mu:qR (H x))(he:e=x\/H e=some (.own x))(k:∀b u,b≠e->h.get? b=some u->h'.get? b=some u)(dl:∃u,h'.get? e=some u):Un fs ex H (upd H x o) h h':=by
 have hx:∀b,H b=none->b≠x:=λ b n z=>by subst z;rw[n] at mu;exact mu
 have hb:∀b,H b=none->b≠e:=λ b n z=>by
  subst z;rcases he with r|r
  ·exact hx b n r
  ·rw[n] at r;cases r
 have hm:∀b u,H b=some u->¬ qR (some u)->b≠x:=λ b u q nm z=>by subst z;rw[q] at mu;exact nm mu
 refine⟨λ b u q n _ _=>k b u (hb b n) q,λ b u q n _ _=>⟨u.slots,k b u (hb b n) q⟩,λ b u q n _=>by rw[Ai (hx b n)];exact n,λ b u q _=>?_,
  λ b xs q=>by rw[Ai (hm b _ q λ z=>z)];exact q,λ b u xs q=>by rw[Ai (hm b _ q λ z=>z)];exact q,λ b ps q=>⟨#[],by rw[Ai (hm b _ q λ z=>z),q];simp⟩⟩
 by_cases eo:b=e
 ·subst eo;exact dl
 ·exact⟨u,k b u eo q⟩
end
abbrev Cp (h:Heap)(H:Hp):List Addr:=(zb1 h.objs.size).filter λ a=>(H a).isSome
abbrev Pz (h:Heap)(H:Hp):Heap:=PySem.W.hideAll h (Cp h H)
def Wy (h:Heap)(H:Hp):(Pz h H).objs.size=h.objs.size:=PySem.W.hideAll_size _ _
def Y7 (e:h.get? b=some o)(n:H b=none):(Pz h H).get? b=some o:=
 PySem.W.hideAll_get _ e λ hm=>by
  have q:(H b).isSome=true:=(zbp.mp hm).2;rw[n] at q;simp at q
def eL (e:(Pz h H).get? b=some o):h.get? b=some o/\H b=none:=by
 have e':h.get? b=some o:=PySem.W.of_hideAll (Cp h H) e;refine⟨e',?_⟩;cases q:H b with
 |none=>rfl
 |some x =>
  have hm:b∈Cp h H:=zbp.mpr ⟨zcy.mpr (zaf e'),by simp[q]⟩;have z:(Pz h H).get? b=none:=PySem.W.hideAll_none (Cp h H) hm;rw[z] at e;cases e
abbrev eM (g h:Heap)(L:Addr):List (Addr×Obj):=(zb1 h.objs.size).filterMap λ a=>if a=L\/(g.get? a).isSome=true then none else (h.get? a).map λ o=>(a,o)
abbrev rest (g h:Heap)(L d:Addr):List (Addr×Obj):=(eM g h L).filter λ p=>decide (p.1≠d)
structure Mod (K:za0)(mg:Str->Option Value)(base:Heap):Prop where
 Y8:K.In base
 glob:base.Ns mainGlobals mg
 blt:∃mb,base.Ns builtinsNs mb/\∀x:Str,x ≠ "__name__" -> mb x=bootBuiltins x
 nolimit:base.NoLimit
structure Cx where
 prog:Program
 w:World
 K:za0
 mg:Str->Option Value
 base:Heap
 A:Around
 N:List Str
 s₀:Shared
 H₀:Hp
 env:Env
 outer:List Env
 stack:List Env
 ex:List Addr
 fn:Str->Bool
 calm:Bool
 pn:List (Addr×Obj)
 xe:Value->Shared->Prop
variable {X:Cx}
abbrev Y2 (l:List Env):List Addr:=l.filterMap (·.frame)
noncomputable abbrev Cx.fs (X:Cx):List Addr:=Y2 X.outer
abbrev vL (sc:Scope)(x:Str):Prop:=sc.names.lookup x=some .local\/sc.names.lookup x=some .cell\/sc.names.lookup x=some .free
abbrev Loc (sc:Scope)(x:Str):Prop:=sc.names.lookup x=some .local\/sc.names.lookup x=some .cell
abbrev Look (env:Env)(h:Heap)(m:Str->Option Value)(x:Str)(u:Value):Prop:=
 (env.kindOf x=some .local/\m x=some u)\/((env.kindOf x=some .cell\/env.kindOf x=some .free)/\∃c,env.cells.lookup x=some c/\h.IsCell c (some u))
structure Cx.Ok (X:Cx):Prop where
 mod:Mod X.K X.mg X.base
 kind:X.env.scope.kind=.function
 glob:X.env.globals=mainGlobals
 blt:X.env.builtins=builtinsNs
 above:X.s₀.heap.objs.size<=X.env.locals
 inj:∀x y c,X.env.cells.lookup x=some c->X.env.cells.lookup y=some c->x=y
 has:∀x,(X.env.kindOf x=some .cell\/X.env.kindOf x=some .free)->∃c,X.env.cells.lookup x=some c
 qS:∀x c,X.fn x=true->X.env.cells.lookup x=some c->X.s₀.heap.objs.size<=c
 hd:X.calm=true->X.A.handled=none
 frames:X.A.frames=some X.stack
 uE:X.stack=X.outer\/(X.stack=X.env::X.outer/\X.env.frame=some X.env.locals)
 uF:∀b∈X.ex,b≠X.env.locals/\∀x c,X.env.cells.lookup x=some c->c≠b
 bs:∀b o,X.base.get? b=some o->X.s₀.heap.get? b=some o/\X.H₀ b=none
 eN:X.base.objs.size<=X.s₀.heap.objs.size
 Y9:∀b o,X.base.get? b=some o->b∉X.ex
 Yb:∀b∈X.ex,b∉X.fs
 Kd:X.s₀.heap.FunFrames X.base X.outer
 lY:∀b∈X.fs,X.H₀ b=none
structure Inv (X:Cx)(pins:List (Addr×Obj))(σ:List (Option V))(H:Hp)(s:Shared):Prop where
 ok:X.Ok
 os:s.os=X.s₀.os
 bare:AllBare s.gens
 base:Un X.fs X.ex X.H₀ H X.s₀.heap s.heap
 loc:∃m,s.heap.Ns X.env.locals m/\∀(i:Nat) (x:Str) (v:V),X.N[i]?=some x->σ[i]?=some (some v)->vL X.env.scope x->∃u,RelV v u/\Look X.env s.heap m x u
 cell:∀x c,X.env.cells.lookup x=some c->∃v,s.heap.IsCell c v
 free:H X.env.locals=none
 FR:∀x c,X.env.cells.lookup x=some c->H c=none
 pin:∀p∈X.pn++pins,s.heap.get? p.1=some p.2/\H p.1=none/\p.1≠X.env.locals/\p.1∉X.fs/\∀v,p.2.data≠.cell v
 Ar:G5 X.prog X.w H s.heap
 len:σ.length=X.N.length
section
variable {σ:List (Option V)}
def Cx.Ok.vM (ok:X.Ok)(e:X.base.get? b=some o):b∉X.fs:=λ hb=>by
 have:=(ok.Kd.mem hb).1;rw[e] at this;cases this
def Inv.bs (I:Inv X pins σ H s):∀b o,X.base.get? b=some o->s.heap.get? b=some o/\H b=none:=λ b o e =>
 ⟨I.base.keep b o (I.ok.bs b o e).1 (I.ok.bs b o e).2 (I.ok.vM e) (I.ok.Y9 b o e),I.base.free b o (I.ok.bs b o e).1 (I.ok.bs b o e).2 (I.ok.Y9 b o e)⟩
def Inv.bk (I:Inv X pins σ H s):∀b o,X.base.get? b=some o->s.heap.get? b=some o:=λ b o e=>(I.bs b o e).1
def Inv.mod (I:Inv X pins σ H s):Mod X.K X.mg X.base:=I.ok.mod
def Inv.LB (I:Inv X pins σ H s):X.K.In s.heap:=I.ok.mod.Y8.keeps I.bk
def Inv.fr (I:Inv X pins σ H s):∃m,Fr X.base X.env.locals s.heap m:=
 let ⟨m,hn,_⟩:=I.loc
 ⟨m,hn,I.bk,zbl I.ok.eN I.ok.above⟩
def Inv.lt (I:Inv X pins σ H s):X.env.locals<s.heap.objs.size:=let ⟨_,hn,_⟩:=I.loc;hn.lt
def Inv.sz (I:Inv X pins σ H s):X.s₀.heap.objs.size<=s.heap.objs.size:=zbl I.ok.above (zbf I.lt)
def Inv.vN (I:Inv X pins σ H s)(h:s.heap.objs.size<=a):a∉X.fs:=λ hb=>by
 obtain⟨_,o,ho,_⟩:=I.ok.Kd.mem hb;exact absurd (zar (zaf ho) (zbl I.sz h)) (zdb _)
def Inv.lZ (I:Inv X pins σ H s):∀x c,X.env.cells.lookup x=some c->c≠X.env.locals:=λ x c e z=>by
 obtain⟨v,o,ho,hd⟩:=I.cell x c e;obtain⟨m,⟨o',es,ep,aJ,aS,_⟩,_⟩:=I.loc;rw[z,aJ] at ho;cases ho;rw[aS] at hd;cases hd
def Inv.Kd (I:Inv X pins σ H s):s.heap.FunFrames X.base X.outer:=by
 have all:∀(l:List Env),(∀b∈Y2 l,b∈X.fs)->X.s₀.heap.FunFrames X.base l->s.heap.FunFrames X.base l:=by
  intro l;induction l with
  |nil=>intro _ _;trivial
  |cons env r ih =>
   intro hs hl;obtain⟨hk,⟨L,o,hf,hn,ho,hd⟩,hr⟩:=hl;have hL:L∈X.fs:=hs L (by unfold Y2;rw[zcs,hf];exact za3);obtain⟨sl,e⟩:=I.base.slot L o ho (I.ok.lY L hL) hL λ z=>I.ok.Yb L z hL;exact⟨hk,⟨L,_,hf,hn,e,hd⟩,ih (λ b hb=>hs b (by unfold Y2;rw[zcs,hf];exact za4 _ hb)) hr⟩
 exact all X.outer (λ _ hb=>hb) I.ok.Kd
def Inv.stack (I:Inv X pins σ H s):s.heap.FunFrames X.base X.stack:=by
 rcases I.ok.uE with e|⟨e,hf⟩
 ·rw[e];exact I.Kd
 ·rw[e];obtain⟨m,hn,_⟩:=I.loc;refine .cons (by rw[I.ok.kind];decide) hf hn ?_ I.Kd;exact Heap.get?_none_of_le (zbl I.ok.eN I.ok.above)
def Inv.Ts (I:Inv X pins σ H s):∀b∈Y2 X.stack,b∈X.env.locals::X.fs:=λ b hb=>by
 rcases I.ok.uE with e|⟨e,hf⟩
 ·rw[e] at hb;exact za4 _ hb
 ·rw[e] at hb;unfold Y2 at hb;rw[zcs,hf] at hb;exact hb
def Inv.V2 (I:Inv X pins σ H s):∀b∈Y2 X.stack,H b=none:=λ b hb=>by
 rcases zab.mp (I.Ts b hb) with e|hb
 ·rw[e];exact I.free
 ·obtain⟨_,o,ho,_⟩:=I.ok.Kd.mem hb;exact I.base.free b o ho (I.ok.lY b hb) λ z=>I.ok.Yb b z hb
def Inv.step {ch:List Addr}(I:Inv X pins σ H s)(ck:∀b∈ch,(b∈X.ex\/X.s₀.heap.objs.size<=b)/\b≠X.env.locals/\(∀x c,X.env.cells.lookup x=some c->c≠b)/\∀p∈X.pn++pins,p.1≠b)(keep:∀b o,b≠X.env.locals->b∉X.fs->b∉ch->s.heap.get? b=some o->H b=none->h'.get? b=some o)(slot:∀b o,b≠X.env.locals->b∈X.fs->b∉ch->s.heap.get? b=some o->H b=none->∃sl,h'.get? b=some {o with slots:=sl})(free:∀b o,b∉ch->s.heap.get? b=some o->H b=none->H' b=none)(there:∀b o,b∉ch->s.heap.get? b=some o->∃o',h'.get? b=some o')(Px:∀b xs,H b=some (.tup xs)->H' b=some (.tup xs))(NQ:∀b o u,H b=some (.Y1 o u)->H' b=some (.Y1 o u))(Py:∀b ps,H b=some (.lW ps)->∃more,H' b=some (.lW (ps++more)))(ns:∀m,s.heap.Ns X.env.locals m->h'.Ns X.env.locals m)(Ar:G5 X.prog X.w H' h')(hg:AllBare g'):
 Inv X pins σ H' {s with heap:=h',gens:=g',drawn:=d',toks:=t' }:=by
 have ss:∀b o,X.s₀.heap.get? b=some o->b≠X.env.locals:=λ b o e=>zap (zar (zaf e) I.ok.above);have ii:∀b o,X.s₀.heap.get? b=some o->b∉X.ex->b∉ch:=λ b o e hx hb=>by
  rcases (ck b hb).1 with z|z
  ·exact hx z
  ·exact absurd (zar (zaf e) z) (zdb _)
 have cellK:∀x c,X.env.cells.lookup x=some c->∀v,s.heap.IsCell c v->h'.IsCell c v:=λ x c e v ⟨o,ho,hd⟩=>by
  have iw:c∉ch:=λ z=>(ck c z).2.2.1 x c e rfl;by_cases hc:c∈X.fs
  ·obtain⟨sl,q⟩:=slot c o (I.lZ x c e) hc iw ho (I.FR x c e);exact⟨_,q,hd⟩
  ·exact⟨o,keep c o (I.lZ x c e) hc iw ho (I.FR x c e),hd⟩
 refine⟨I.ok,I.os,hg,⟨λ b o e n hb hx=>?_,λ b o e n hb hx=>?_,λ b o e n hx=>?_,λ b o e hx=>?_,λ b xs e=>Px b xs (I.base.Px b xs e),λ b o xs e=>NQ b o xs (I.base.NQ b o xs e),λ b ps e=>?_⟩,?_,λ x c e=>?_,?_,λ x c e=>?_,λ p hp=>?_,Ar,I.len⟩
 ·exact keep b o (ss b o e) hb (ii b o e hx) (I.base.keep b o e n hb hx) (I.base.free b o e n hx)
 ·obtain⟨sl,e1⟩:=I.base.slot b o e n hb hx;obtain⟨vo,e2⟩:=slot b _ (ss b o e) hb (ii b o e hx) e1 (I.base.free b o e n hx);exact⟨vo,e2⟩
 ·obtain⟨o',e1⟩:=I.base.there b o e hx;exact free b o' (ii b o e hx) e1 (I.base.free b o e n hx)
 ·obtain⟨o',e1⟩:=I.base.there b o e hx;exact there b o' (ii b o e hx) e1
 ·obtain⟨m1,e1⟩:=I.base.Py b ps e;obtain⟨m2,e2⟩:=Py b _ e1;exact⟨m1++m2,by rw[e2,Array.append_assoc]⟩
 ·obtain⟨m,hn,hl⟩:=I.loc;refine⟨m,ns m hn,λ i x v e1 e2 e3=>?_⟩;obtain⟨u,r,l⟩:=hl i x v e1 e2 e3;refine⟨u,r,?_⟩;rcases l with l|⟨k,c,e,z⟩
  ·exact .inl l
  ·exact .inr ⟨k,c,e,cellK x c e _ z⟩
 ·obtain⟨v,z⟩:=I.cell x c e;exact⟨v,cellK x c e v z⟩
 ·obtain⟨m,⟨o,_,_,ho,_⟩,_⟩:=I.loc;exact free _ o (λ z=>(ck _ z).2.1 rfl) ho I.free
 ·obtain⟨v,o,ho,hd⟩:=I.cell x c e;exact free c o (λ z=>(ck c z).2.2.1 x c e rfl) ho (I.FR x c e)
 ·obtain⟨e,n,ne,nf,d⟩:=I.pin p hp;have iw:p.1∉ch:=λ z=>(ck p.1 z).2.2.2 p hp rfl;exact⟨keep p.1 p.2 ne nf iw e n,free p.1 p.2 iw e n,ne,nf,d⟩
def Inv.un (I:Inv X pins σ H s)(u:Un X.fs [] H H' s.heap h')(Ar:G5 X.prog X.w H' h'):Inv X pins σ H' {s with heap:=h',toks:=t' }:=by
 obtain⟨m,⟨o,es,ep,ho,r⟩,_⟩:=id I.loc;obtain⟨sl,hL⟩:=u.any ho I.free (by simp);exact I.step (g':=s.gens) (d':=s.drawn) (ch:=[]) (λ _ z=>nomatch z) (λ b o _ hb _ e n=>u.keep b o e n hb (by simp)) (λ b o _ hb _ e n=>u.slot b o e n hb (by simp)) (λ b o _ e n=>u.free b o e n (by simp)) (λ b o _ e=>u.there b o e (by simp)) u.Px u.NQ u.Py (λ m' hm=>by
  obtain⟨o',bD,mz,aJ,r'⟩:=hm;rw[ho] at aJ;cases aJ;exact⟨_,bD,mz,hL,r'⟩) Ar I.bare
def Inv.call (I:Inv X pins σ H s)(u:Un (Y2 X.stack) ch H H' s.heap h')(Ar:G5 X.prog X.w H' h')(hg:AllBare g')(ck:∀b∈ch,(b∈X.ex\/X.s₀.heap.objs.size<=b)/\b≠X.env.locals/\(∀x c,X.env.cells.lookup x=some c->c≠b)/\∀p∈X.pn++pins,p.1≠b):
 Inv X pins σ H' {s with heap:=h',gens:=g',drawn:=d',toks:=t' }:=by
 obtain⟨m,⟨o,es,ep,ho,r⟩,_⟩:=id I.loc;obtain⟨sl,hL⟩:=u.any ho I.free λ z=>(ck _ z).2.1 rfl;exact I.step (ch:=ch) ck (λ b o hL hb hc e n=>u.keep b o e n (λ z=>(zab.mp (I.Ts b z)).elim hL hb) hc) (λ b o _ _ hc e n=>u.any e n hc) (λ b o hc e n=>u.free b o e n hc) (λ b o hc e=>u.there b o e hc) u.Px u.NQ u.Py (λ m' hm=>by
  obtain⟨o',bD,mz,aJ,r'⟩:=hm;rw[ho] at aJ;cases aJ;exact⟨_,bD,mz,hL,r'⟩) Ar hg
def Inv.turned (I:Inv X pins σ H s)(k:∀b o,b≠it->s.heap.get? b=some o->h'.get? b=some o)(hn:H it=none)(hL:it≠X.env.locals)(h1:it∈X.ex\/X.s₀.heap.objs.size<=it)(h2:∀x c,X.env.cells.lookup x=some c->c≠it)(h3:∀p∈X.pn++pins,p.1≠it):Inv X pins σ H {s with heap:=h',toks:=t' }:=by
 have su:∀b u,H b=some u->b≠it:=λ b u e z=>by rw[z,hn] at e;cases e
 refine I.step (g':=s.gens) (d':=s.drawn) (ch:=[it]) (λ b hb=>?_) (λ b o _ _ hc e _=>k b o (λ z=>hc (by simp[z])) e) (λ b o _ _ hc e _=>⟨o.slots,k b o (λ z=>hc (by simp[z])) e⟩) (λ _ _ _ _ n=>n)
  (λ b o hc e=>⟨o,k b o (λ z=>hc (by simp[z])) e⟩) (λ _ _ e=>e) (λ _ _ _ e=>e) (λ b ps e=>⟨#[],by rw[e];simp⟩) (λ m hm=>?_) (λ b u e=>?_) I.bare
 ·have e:b=it:=by simpa using hb
  subst e;exact⟨h1,hL,h2,h3⟩
 ·obtain⟨o,es,ep,ho,r⟩:=hm;exact⟨o,es,ep,k _ o (zbn hL) ho,r⟩
 ·refine (I.Ar b u e).Rf (λ c v hc q=>k c v ?_ q) (λ _ q=>q) λ _ _ q=>q;rcases hc with z|z
  ·rw[z];exact su b u e
  ·exact su c _ z
def Inv.tok (I:Inv X pins σ H s)(t:Nat):Inv X pins σ H {s with toks:=t}:=I.un (h':=s.heap) (t':=t) Un.refl I.Ar
def Inv.kept (I:Inv X pins σ H s)(k:∀b u,s.heap.get? b=some u->h'.get? b=some u):Inv X pins σ H {s with heap:=h',toks:=t' }:=I.un (Un.kept k) (I.Ar.kept k)
def Inv.laid (I:Inv X pins σ H s)(k:∀b u,s.heap.get? b=some u->h'.get? b=some u)(hp:s.heap.objs.size<=a)(new:BQ X.prog X.w (upd H a o) h' a o):
 Inv X pins σ (upd H a o) {s with heap:=h',toks:=t' }:=I.un (Un.laid k hp (I.Ar.fresh hp)) (I.Ar.laid k hp new)
def Inv.write {e}(I:Inv X pins σ H s)(mu:qR (H x))(he:e=x\/H e=some (.own x))(k:∀b u,b≠e->s.heap.get? b=some u->h'.get? b=some u)(dl:∃u,h'.get? e=some u)(new:BQ X.prog X.w (upd H x o) h' x o):Inv X pins σ (upd H x o) {s with heap:=h',toks:=t' }:=I.un (Un.write mu he k dl) (I.Ar.write mu he k dl new)
def Inv.weak (I:Inv X pins σ H s)(hl:σ'.length=σ.length)(w:∀(i:Nat) v,σ'[i]?=some (some v)->σ[i]?=some (some v)):Inv X pins σ' H s:=
 ⟨I.ok,I.os,I.bare,I.base,let ⟨m,hn,ix⟩:=I.loc;⟨m,hn,λ i x v e1 e2 e3=>ix i x v e1 (w i v e2) e3⟩,I.cell,I.free,I.FR,I.pin,I.Ar,hl.trans I.len⟩
def Inv.IH (I:Inv X pins σ H s)(h:∀p∈dm,s.heap.get? p.1=some p.2/\H p.1=none/\p.1≠X.env.locals/\p.1∉X.fs/\∀v,p.2.data≠.cell v):Inv X dm σ H s:=
 ⟨I.ok,I.os,I.bare,I.base,I.loc,I.cell,I.free,I.FR,λ p hp=>(zaq.mp hp).elim (λ z=>I.pin p (zb5 _ z)) (h p),I.Ar,I.len⟩
def Rg {N:List Str}(hN:N.Nodup){i:Nat}(a:N[i]?=some x)(b:N[j]?=some x):i=j:=by
 obtain⟨h1,e1⟩:=zak.mp a;obtain⟨h2,e2⟩:=zak.mp b;exact (List.getElem_inj hN).mp (e1.trans e2.symm)
def Oi (I:Inv X pins σ H s)(hN:X.N.Nodup)(hi:X.N[i]?=some x)(hx:Loc X.env.scope x)(r:RelV v u)(h:∀s',Inv X pins (σ.set i (some v)) H s'->(∃a,zcn a s.heap s'.heap/\(a=X.env.locals\/X.env.cells.lookup x=some a))->Q () s')(hf:X.fn x=true\/X.env.scope.names.lookup x=some .local:=by first|exact .inl rfl|exact .inr rfl|assumption):wpAny M A (storeName X.env x u) Q E s:=by
 obtain⟨m,hn,hl⟩:=id I.loc;have m6:(X.env.scope.kind==.class||(X.env.scope.kind==.module&&X.env.locals != X.env.globals))=false:=by rw[I.ok.kind];rfl
 have hiσ:i<σ.length:=by rw[I.len];exact (zak.mp hi).1
 have lZ:=I.lZ;have tracked:∀ {a:Addr} {h':Heap},(∃o,s.heap.get? a=some o/\H a=none)->zcn a s.heap h'->G5 X.prog X.w H h':=fun {a h'} ha hs b ob e=>by
  obtain⟨_,_,dn⟩:=ha;refine (I.Ar b ob e).Rf (λ c w' hc q=>(hs.2 c ?_).trans q) (λ _ q=>q) λ _ _ q=>q;rintro rfl;rcases hc with rfl|hc
  ·rw[dn] at e;cases e
  ·rw[dn] at hc;cases hc
 rcases hx with hk|hk
 ·refine wpAny_storeName_local hk hn (λ h' bm hs=>?_) m6;obtain⟨oL,_,_,cr,_⟩:=id hn;refine h _ ⟨I.ok,I.os,I.bare,⟨λ b o e n hb hx=>?_,λ b o e n hb hx=>?_,I.base.free,λ b o e hx=>?_,I.base.Px,I.base.NQ,I.base.Py⟩,⟨_,bm,λ j y v' e1 e2 e3=>?_⟩,λ y c e=>?_,I.free,I.FR,λ p hp=>?_,tracked ⟨oL,cr,I.free⟩ hs,by simpa using I.len⟩ ⟨_,hs,.inl rfl⟩
  ·exact (hs.2 b (zap (zar (zaf e) I.ok.above))).trans (I.base.keep b o e n hb hx)
  ·obtain⟨sl,e1⟩:=I.base.slot b o e n hb hx;exact⟨sl,(hs.2 b (zap (zar (zaf e) I.ok.above))).trans e1⟩
  ·obtain⟨o',e1⟩:=I.base.there b o e hx;exact⟨o',(hs.2 b (zap (zar (zaf e) I.ok.above))).trans e1⟩
  ·by_cases hj:j=i
   ·subst hj;rw[hi] at e1;cases e1;rw[zb3 hiσ] at e2;cases e2;exact⟨u,r,.inl ⟨hk,by simp⟩⟩
   ·rw[zbs (zbn hj)] at e2;obtain⟨u',r',q⟩:=hl j y v' e1 e2 e3;refine⟨u',r',?_⟩;rcases q with ⟨k,e⟩|⟨k,c,e,z⟩
    ·refine .inl ⟨k,?_⟩;have:y≠x:=λ e=>hj (Rg hN e1 (e▸hi));simp[this,e]
    ·exact .inr ⟨k,c,e,z.sameBut hs (lZ y c e)⟩
  ·obtain⟨w',z⟩:=I.cell y c e;exact⟨w',z.sameBut hs (lZ y c e)⟩
  ·obtain⟨e,n,ne,nf,d⟩:=I.pin p hp;exact⟨(hs.2 p.1 ne).trans e,n,ne,nf,d⟩
 ·have m7:X.fn x=true:=by
   rcases hf with z|z
   ·exact z
   ·rw[z] at hk;cases hk
  obtain⟨c,hc⟩:=I.ok.has x (.inl hk);obtain⟨w',z⟩:=I.cell x c hc;refine wpAny_storeName_cell I.ok.kind hk hc z (λ h' aQ hs=>?_);obtain⟨oc,sv,m8⟩:=id z;refine h {s with heap:=h' } ⟨I.ok,I.os,I.bare,⟨λ b o e n hb hx=>?_,λ b o e n hb hx=>?_,I.base.free,λ b o e hx=>?_,I.base.Px,I.base.NQ,I.base.Py⟩,⟨m,hn.sameBut hs (zbn (lZ x c hc)),λ j y v' e1 e2 e3=>?_⟩,λ y c' e=>?_,I.free,I.FR,λ p hp=>?_,tracked ⟨oc,sv,I.FR x c hc⟩ hs,by simpa using I.len⟩ ⟨c,hs,.inr hc⟩
  ·exact (hs.2 b (zap (zar (zaf e) (I.ok.qS x c m7 hc)))).trans (I.base.keep b o e n hb hx)
  ·obtain⟨sl,e1⟩:=I.base.slot b o e n hb hx;exact⟨sl,(hs.2 b (zap (zar (zaf e) (I.ok.qS x c m7 hc)))).trans e1⟩
  ·obtain⟨o',e1⟩:=I.base.there b o e hx;exact⟨o',(hs.2 b (zap (zar (zaf e) (I.ok.qS x c m7 hc)))).trans e1⟩
  ·by_cases hj:j=i
   ·subst hj;rw[hi] at e1;cases e1;rw[zb3 hiσ] at e2;cases e2;exact⟨u,r,.inr ⟨.inl hk,c,hc,aQ⟩⟩
   ·rw[zbs (zbn hj)] at e2;obtain⟨u',r',q⟩:=hl j y v' e1 e2 e3;refine⟨u',r',?_⟩;rcases q with q|⟨k,c',e,z'⟩
    ·exact .inl q
    ·refine .inr ⟨k,c',e,z'.sameBut hs ?_⟩;rintro rfl;exact hj (Rg hN e1 (I.ok.inj _ _ _ e hc▸hi))
  ·by_cases cm:c'=c
   ·subst cm;exact⟨_,aQ⟩
   ·obtain⟨w2,z2⟩:=I.cell y c' e;exact⟨w2,z2.sameBut hs cm⟩
  ·obtain⟨e,n,ne,nf,d⟩:=I.pin p hp;refine⟨(hs.2 p.1 ?_).trans e,n,ne,nf,d⟩;intro q;rw[q,sv] at e;have q':oc=p.2:=zat e;exact d w' (by rw[<-q'];exact m8)
def Rh (I:Inv X pins σ H s)(hN:X.N.Nodup)(hi:X.N[i]?=some x)(hx:Loc X.env.scope x)(r:RelV v u)(h:∀s',Inv X pins (σ.set i (some v)) H s'->Q () s')(hf:X.fn x=true\/X.env.scope.names.lookup x=some .local:=by first|exact .inl rfl|exact .inr rfl|assumption):wpAny M A (storeName X.env x u) Q E s:=
 Oi I hN hi hx r (λ s' I' _=>h s' I') hf
def Inv.qT (I:Inv X pins σ H s)(ho:s'.os=s.os)(u:Un (Y2 X.stack) ch H H' s.heap s'.heap)(Ar:G5 X.prog X.w H' s'.heap)(hg:AllBare s'.gens)(ck:∀b∈ch,(b∈X.ex\/X.s₀.heap.objs.size<=b)/\b≠X.env.locals/\(∀x c,X.env.cells.lookup x=some c->c≠b)/\∀p∈X.pn++pins,p.1≠b):Inv X pins σ H' s':=by
 obtain⟨h',g',d',t',o'⟩:=s';have e:o'=s.os:=ho;subst e;exact I.call (g':=g') (t':=t') (d':=d') u Ar hg ck
end
noncomputable abbrev XK:=Value->Option Addr->Hp->Prop
noncomputable abbrev St:=List (Option V)
variable {σ:St}
noncomputable abbrev VK:=V->Hp->Prop
noncomputable abbrev TE:=St->Hp->VK->Prop
variable {ta te:TE}
noncomputable abbrev TT:=St->Hp->(Bool->Hp->Prop)->Prop
noncomputable abbrev TA:=St->Hp->(List V->Hp->Prop)->Prop
structure Ends where
 nx:St->Hp->Prop
 rt:VK
 bk:St->Hp->Prop:=λ _ _=>False
 ct:St->Hp->Prop:=λ _ _=>False
noncomputable abbrev TS:=Ends->St->Hp->Prop
abbrev EP (X:Cx)(pins:List (Addr×Obj))(σ:St)(Q:VK)(u:Value)(s':Shared):Prop:=∃v H',Inv X pins σ H' s'/\RelV v u/\Q v H'
abbrev TP (X:Cx)(pins:List (Addr×Obj))(σ:St)(Q:Bool->Hp->Prop)(b:Bool)(s':Shared):Prop:=∃H',Inv X pins σ H' s'/\Q b H'
abbrev AP (X:Cx)(pins:List (Addr×Obj))(σ:St)(Q:List V->Hp->Prop)(us:List Value)(s':Shared):Prop:=∃vs H',Inv X pins σ H' s'/\Vals vs us/\Q vs H'
abbrev SP (X:Cx)(pins:List (Addr×Obj))(D:Ends)(f:Flow)(s':Shared):Prop:=
 match f with
 | .next=>∃σ' H',Inv X pins σ' H' s'/\D.nx σ' H'
 | .brk=>∃σ' H',Inv X pins σ' H' s'/\D.bk σ' H'
 | .cont=>∃σ' H',Inv X pins σ' H' s'/\D.ct σ' H'
 | .ret u=>∃v σ' H',Inv X pins σ' H' s'/\RelV v u/\D.rt v H'
abbrev PE (X:Cx)(e:Expr)(t:TE):Prop:=
 ∀(pins:List (Addr×Obj)) (s:Shared) (σ:St) (H:Hp) (Q:VK),Inv X pins σ H s->t σ H Q->wpAny (model X.prog X.w) X.A (eval e X.env) (EP X pins σ Q) X.xe s
abbrev PT (X:Cx)(e:Expr)(t:TT):Prop:=
 ∀(pins:List (Addr×Obj)) (s:Shared) (σ:St) (H:Hp) (Q:Bool->Hp->Prop),Inv X pins σ H s->t σ H Q->wpAny (model X.prog X.w) X.A (isTrue e X.env (eval e X.env)) (TP X pins σ Q) X.xe s
abbrev PW (X:Cx)(e:Expr)(t:TT):Prop:=
 ∀(whole:Sem Value) (pins:List (Addr×Obj)) (s:Shared) (σ:St) (H:Hp) (Q:Bool->Hp->Prop),Inv X pins σ H s->t σ H Q->wpAny (model X.prog X.w) X.A (isTrue e X.env whole) (TP X pins σ Q) X.xe s
def PW.pt (h:PW X e t):PT X e t:=h _
abbrev PA (X:Cx)(es:List Expr)(t:TA):Prop:=
 ∀(pos:Pos) (pins:List (Addr×Obj)) (s:Shared) (σ:St) (H:Hp) (Q:List V->Hp->Prop),Inv X pins σ H s->t σ H Q->wpAny (model X.prog X.w) X.A (spliced (backTo pos (starEach es X.env))) (AP X pins σ Q) X.xe s
abbrev PS (X:Cx)(st:Stmt)(t:TS):Prop:=
 ∀(pins:List (Addr×Obj)) (s:Shared) (σ:St) (H:Hp) (D:Ends),Inv X pins σ H s->t D σ H->wpAny (model X.prog X.w) X.A (exec st X.env) (SP X pins D) X.xe s
abbrev V3 (X:Cx)(st:List Stmt)(t:TS):Prop:=
 ∀(pins:List (Addr×Obj)) (s:Shared) (σ:St) (H:Hp) (D:Ends),Inv X pins σ H s->t D σ H->wpAny (model X.prog X.w) X.A (execs st X.env) (SP X pins D) X.xe s
def Bh {α:Type}{t:Sem α}{Q Q'}(h:wpAny M A t Q E s)(hQ:∀a s,Q a s->Q' a s):wpAny M A t Q' E s:=wpAny_mono h hQ λ _ _ x=>x
section
def bin (ha:PE X a ta)(hb:PE X b tb){R:V->V->Hp->Prop}(I:Inv X pins σ H s)(h:ta σ H λ x H1=>tb σ H1 λ y H2=>R x y H2){α:Type}{Q}{f:Value->Value->Sem α}(hf:∀v u s2 x y H2,Inv X pins σ H2 s2->RelV x v->RelV y u->R x y H2->wpAny (model X.prog X.w) X.A (f v u) Q X.xe s2):
 wpAny (model X.prog X.w) X.A (eval a X.env) (λ v s₁=>wpAny (model X.prog X.w) X.A (eval b X.env) (λ u s₂=>wpAny (model X.prog X.w) X.A (f v u) Q X.xe s₂) X.xe s₁) X.xe s:=by
 refine Bh (ha pins s σ H _ I h) λ v s1 zz=>?_;obtain⟨x,H1,I1,r1,q1⟩:=zz;refine Bh (hb pins s1 σ H1 _ I1 q1) λ u s2 zz=>?_;obtain⟨y,H2,I2,r2,q2⟩:=zz;exact hf v u s2 x y H2 I2 r1 r2 q2
abbrev Lm (i:Nat):TE:=λ σ H Q=>∃v,σ[i]?=some (some v)/\Q v H
abbrev tC (v:V):TE:=λ _ H Q=>Q v H
def mB (hN:X.N[i]?=some x)(hv:vL X.env.scope x)(hd:(x==("__debug__" : Str))=false:=by decide)(aR:(x==("__classdict__" : Str))=false:=by decide):PE X (.Name x pos) (Lm i):=by
 intro pins s σ H Q I h;obtain⟨v,e,h⟩:=h;obtain⟨m,hn,hl⟩:=I.loc;obtain⟨u,r,l⟩:=hl i x v hN e hv;have fin:EP X pins σ Q u s:=⟨v,H,I,r,h⟩;rcases l with ⟨hk,hm⟩|⟨hk,c,hc,dq⟩
 ·exact wpAny_Name (wpAny_loadName_local I.ok.kind hk hn hm fin) hd
 ·rcases hk with hk|hk
  ·exact wpAny_Name (wpAny_loadName_cell I.ok.kind hk hc dq fin) hd
  ·exact wpAny_Name (wpAny_loadName_free I.ok.kind hk hc dq fin aR) hd
def mC {i j pos}:PE X (.Constant (.int i) j pos) (tC (.int i)):=λ _ _ _ H _ I h=>wpAny_Constant_int ⟨.int i,H,I.tok _,⟨_,rfl⟩,h⟩
def qU {b j pos}:PE X (.Constant (.bool b) j pos) (tC (.bl b)):=λ _ _ _ H _ I h=>Constant_bool ⟨.bl b,H,I,rfl,h⟩
def mD {j pos}:PE X (.Constant .none j pos) (tC .AE):=λ _ _ _ H _ I h=>Constant_none ⟨.AE,H,I,rfl,h⟩
abbrev Gl (X:Cx)(x:Str):Prop:=X.env.kindOf x=some .globalImplicit
def PB (I:Inv X pins σ H s)(hg:Gl X x)(hm:X.mg x=some u)(h:Q u s)(hd:(x==("__debug__" : Str))=false:=by decide):wpAny (model X.prog X.w) X.A (eval (.Name x pos) X.env) Q E s:=
 Calls.Name_function_global I.ok.kind hg (Calls.loadGlobal_global (by rw[I.ok.glob];exact I.mod.glob.keeps I.bk) hm h) hd
def CS (I:Inv X pins σ H s)(hg:Gl X x)(hm:X.mg x=none)(hv:bootBuiltins x=some u)(h:Q u s)(hn:x ≠ "__name__" := by decide)(hd:(x==("__debug__" : Str))=false:=by decide):wpAny (model X.prog X.w) X.A (eval (.Name x pos) X.env) Q E s:=by
 obtain⟨mb,h1,h2⟩:=I.mod.blt;exact Calls.Name_function_global I.ok.kind hg (Calls.loadGlobal_builtin (by rw[I.ok.glob];exact I.mod.glob.keeps I.bk) hm (by rw[I.ok.blt];exact h1.keeps I.bk) ((h2 x hn).trans hv) h) hd
def eO (hg:Gl X x)(hm:X.mg x=none)(hv:bootBuiltins x=some u)(r:RelV v u)(hn:x ≠ "__name__" := by decide)(hd:(x==("__debug__" : Str))=false:=by decide):PE X (.Name x pos) (tC v):=
 λ _ _ _ H _ I h=>CS I hg hm hv ⟨v,H,I,r,h⟩ hn hd
variable {a b:Expr}{tb:TE}
abbrev PC (X:Cx)(op:CmpOp)(a b:Expr)(t:TE):Prop:=
 ∀(pins:List (Addr×Obj)) (s:Shared) (σ:St) (H:Hp) (Q:VK),Inv X pins σ H s->t σ H Q->
  wpAny (model X.prog X.w) X.A (eval a X.env) (λ v s₁=>wpAny (model X.prog X.w) X.A (eval b X.env) (λ u s₂=>wpAny (model X.prog X.w) X.A (compareOp op v u) (EP X pins σ Q) X.xe s₂) X.xe s₁) X.xe s
def Ri (b:Expr)(h:op≠.In)(h2:op≠.NotIn):behindInMarks op b=false:=by
 have e1:(op==CmpOp.In)=false:=by cases op<;>first|rfl|exact absurd rfl h
 have e2:(op==CmpOp.NotIn)=false:=by cases op<;>first|rfl|exact absurd rfl h2
 cases b<;>simp[behindInMarks,e1,e2]
abbrev vP (ta:TE):TE:=λ σ H Q=>ta σ H λ x H1=>Q (.bl (decide (x=.AE))) H1
abbrev qV (ta:TE):TE:=λ σ H Q=>ta σ H λ x H1=>Q (.bl (!decide (x=.AE))) H1
def RelV.Rj (r:RelV x v):(v==zdc)=decide (x=.AE):=by
 cases x with
 |AE|bl _=>cases r;rfl
 |int _|str _|lV _|qP _=>obtain⟨t,rfl⟩:=r;rfl
 |ref _|ty _=>cases r;rfl
def Yc {j pos'}(ha:PE X a ta):PC X .Is a (.Constant .none j pos') (vP ta):=by
 intro pins s σ H Q I h;refine Bh (ha pins s σ H _ I h) λ v s1 zz=>?_;obtain⟨x,H1,I1,r1,q1⟩:=zz;exact Constant_none (is_none_gen ⟨.bl _,H1,I1,by rw[r1.Rj];rfl,q1⟩)
def eQ {j pos'}(ha:PE X a ta):PC X .IsNot a (.Constant .none j pos') (qV ta):=by
 intro pins s σ H Q I h;refine Bh (ha pins s σ H _ I h) λ v s1 zz=>?_;obtain⟨x,H1,I1,r1,q1⟩:=zz;exact Constant_none (isnot_none_gen ⟨.bl _,H1,I1,by rw[r1.Rj];rfl,q1⟩)
abbrev tB (t:TE):TT:=λ σ H Q=>t σ H λ x H1=>∃c,x=.bl c/\Q c H1
def mE (h:PC X op a b t)(h1:behindInMarks op b=false:=by first | exact Ri _ (by decide) (by decide) | rfl):PE X (.Compare a [op] [b] pos) t:=λ pins s σ H Q I hw=>wpAny_Compare1 (h pins s σ H Q I hw) h1
def Yd (h:PC X op a b t)(h1:behindInMarks op b=false:=by first | exact Ri _ (by decide) (by decide) | rfl):PT X (.Compare a [op] [b] pos) (tB t):=by
 intro pins s σ H Q I hw;refine wpAny_isTrue_Compare1 (Bh (h pins s σ H _ I hw) λ v s1 h1=>Bh h1 λ u s2 h2=>Bh h2 λ c s3 zz=>?_) h1;obtain⟨x,H1,I1,r1,q1⟩:=zz;obtain⟨d,rfl,q⟩:=q1;cases r1;exact wpAny_truthy_bool ⟨H1,I1,q⟩
variable {tA ln:TT}{rest:List Expr}
abbrev vQ (t u:TT):TT:=λ σ H Q=>t σ H λ c H1=>if c=true then u σ H1 Q else Q false H1
abbrev yM (t u:TT):TT:=λ σ H Q=>t σ H λ c H1=>if c=true then Q true H1 else u σ H1 Q
abbrev vR (t:TT):TT:=λ σ H Q=>t σ H λ c H1=>Q (!c) H1
def pw_and1 (ha:PT X a tA):PW X (.BoolOp .And [a] pos) tA:=by
 intro wh pins s σ H Q I h;refine isTrue_and (Bh (ha pins s σ H Q I h) λ c s1 e=>?_);cases c with
 |true=>exact isTrue_and_nil e
 |false=>exact e
def pw_or1 (ha:PT X a tA):PW X (.BoolOp .Or [a] pos) tA:=by
 intro wh pins s σ H Q I h;refine isTrue_or (Bh (ha pins s σ H Q I h) λ c s1 e=>?_);cases c with
 |false=>exact isTrue_or_nil e
 |true=>exact e
def pw_and (ha:PT X a tA)(hb:PW X (.BoolOp .And (b::rest) pos) ln):PW X (.BoolOp .And (a::b::rest) pos) (vQ tA ln):=by
 intro wh pins s σ H Q I h;refine isTrue_and (Bh (ha pins s σ H _ I h) λ c s1 zz=>?_);obtain⟨H1,I1,q1⟩:=zz;cases c with
 |true=>exact hb wh pins s1 σ H1 Q I1 q1
 |false=>exact⟨H1,I1,q1⟩
def pw_or (ha:PT X a tA)(hb:PW X (.BoolOp .Or (b::rest) pos) ln):PW X (.BoolOp .Or (a::b::rest) pos) (yM tA ln):=by
 intro wh pins s σ H Q I h;refine isTrue_or (Bh (ha pins s σ H _ I h) λ c s1 zz=>?_);obtain⟨H1,I1,q1⟩:=zz;cases c with
 |true=>exact⟨H1,I1,q1⟩
 |false=>exact hb wh pins s1 σ H1 Q I1 q1
def mF (ha:PT X a tA):PT X (.UnaryOp .Not a pos) (vR tA):=by
 intro pins s σ H Q I h;exact isTrue_not (ha pins s σ H (λ c H1=>Q (!c) H1) I h)
abbrev qW (ta tb:TE):TE:=λ σ H Q=>ta σ H λ x H1=>∃c,x=.bl c/\if c=true then tb σ H1 Q else Q (.bl false) H1
abbrev vS (ta tb:TE):TE:=λ σ H Q=>ta σ H λ x H1=>∃c,x=.bl c/\if c=true then Q (.bl true) H1 else tb σ H1 Q
abbrev qX (ta:TE):TE:=λ σ H Q=>ta σ H λ x H1=>∃c,x=.bl c/\Q (.bl (!c)) H1
def mG {op}(h:PE X a t):PE X (.BoolOp op [a] pos) t:=λ pins s σ H Q I hw=>BoolOp_one (h pins s σ H Q I hw)
def mH (ha:PE X a ta)(hb:PE X (.BoolOp .And (b::rest) pos) tb):PE X (.BoolOp .And (a::b::rest) pos) (qW ta tb):=by
 intro pins s σ H Q I h;refine BoolOp_and (Bh (ha pins s σ H _ I h) λ v s1 zz=>?_);obtain⟨x,H1,I1,r1,q1⟩:=zz;obtain⟨c,rfl,q1⟩:=q1;cases r1;refine wpAny_truthy_bool ?_;cases c with
 |true=>exact hb pins s1 σ H1 Q I1 q1
 |false=>exact⟨.bl false,H1,I1,rfl,q1⟩
def qY (ha:PE X a ta)(hb:PE X (.BoolOp .Or (b::rest) pos) tb):PE X (.BoolOp .Or (a::b::rest) pos) (vS ta tb):=by
 intro pins s σ H Q I h;refine BoolOp_or (Bh (ha pins s σ H _ I h) λ v s1 zz=>?_);obtain⟨x,H1,I1,r1,q1⟩:=zz;obtain⟨c,rfl,q1⟩:=q1;cases r1;refine wpAny_truthy_bool ?_;cases c with
 |false=>exact hb pins s1 σ H1 Q I1 q1
 |true=>exact⟨.bl true,H1,I1,rfl,q1⟩
def mI (ha:PE X a ta):PE X (.UnaryOp .Not a pos) (qX ta):=by
 intro pins s σ H Q I h;refine UnaryOp_ (Bh (ha pins s σ H _ I h) λ v s1 zz=>?_);obtain⟨x,H1,I1,r1,q1⟩:=zz;obtain⟨c,rfl,q1⟩:=q1;cases r1;exact not_of (wpAny_truthy_bool ⟨.bl (!c),H1,I1,rfl,q1⟩)
end
abbrev Du (K:za0)(H:Hp)(a:Addr)(xs:List V):Prop:=
 Rd H a (.lst xs) \/
  ∃(o:Obj) (aa:Array Value) (n:Nat),K.lookup a=some o/\o.cls=.type "list" /\ o.dict=none/\o.data=.seq aa n/\aa.size<=sizeLine/\Vals xs aa.toList
abbrev EQ (K:za0)(H:Hp)(a:Addr)(xs:List V):Prop:=
 Rd H a (.tup xs) \/
  ∃(o:Obj) (aa:Array Value) (n:Nat),K.lookup a=some o/\o.cls=.type "tuple" /\ o.data=.seq aa n/\aa.size<=sizeLine/\Vals xs aa.toList
abbrev vT:Value->Option V
 | .none=>some .AE
 | .bool b=>some (.bl b)
 | .int i _=>some (.int i)
 | .str x _=>some (.str x)
 | .bytes b _=>some (.lV b)
 | .float b _=>some (.qP b)
 | .ref a=>some (.ref a)
 | .type n=>some (.ty n)
 |_=>none
def RelV.abs (r:RelV x u):vT u=some x:=by
 cases x with
 |AE|bl _=>cases r;rfl
 |int _|str _|lV _|qP _=>obtain⟨t,rfl⟩:=r;rfl
 |ref _|ty _=>cases r;rfl
def RelV.inj (r:RelV x u)(q:RelV y u):x=y:=zat (r.abs.symm.trans q.abs)
def Vals.inj:∀ {xs ys:List V}{us:List Value},Vals xs us->Vals ys us->xs=ys
 |_,_,_,.nil,.nil=>rfl
 |_,_,_,.cons r t,.cons r' t'=>by rw[r.inj r',Vals.inj t t']
section
variable {a:Addr}{xs ys:List V}
def Du.of {K}(h:H a=some (.lst xs)):Du K H a xs:=.inl (.inl h)
def EQ.of {K}(h:H a=some (.tup xs)):EQ K H a xs:=.inl (.inl h)
def Inv.list (I:Inv X pins σ H s)(h:Du X.K H a xs):∃aa:List Value,Vals xs aa/\PlainL s.heap a aa.toArray/\xs.length<=sizeLine:=by
 rcases h with h|⟨o,aa,n,hk,hc,hd,hs,hz,r⟩
 ·obtain⟨z,aa,n,r,e⟩:=h.ok I.Ar;exact⟨aa,r,⟨_,n,e,rfl,rfl,rfl⟩,z⟩
 ·refine⟨aa.toList,r,⟨o,n,I.LB a o hk,hc,hd,by simpa using hs⟩,?_⟩;have e:=r.length;simp only[zc2] at e;omega
def Inv.tuple (I:Inv X pins σ H s)(h:EQ X.K H a xs):∃aa:List Value,Vals xs aa/\IsTup s.heap a aa.toArray/\xs.length<=sizeLine:=by
 rcases h with h|⟨o,aa,n,hk,hc,hs,hz,r⟩
 ·obtain⟨z,aa,r,p⟩:=h.ok I.Ar;exact⟨aa,r,p,z⟩
 ·refine⟨aa.toList,r,⟨o,I.LB a o hk,hc,n,by simpa using hs⟩,?_⟩;have e:=r.length;simp only[zc2] at e;omega
def Inv.G7 (I:Inv X pins σ H s)(h:Du X.K H a xs)(h':Du X.K H a ys):xs=ys:=by
 obtain⟨aa,r,⟨o,n,e,_,_,d⟩,_⟩:=I.list h;obtain⟨its',r',⟨o',n',e',_,_,d'⟩,_⟩:=I.list h';rw[e] at e';cases e';rw[d] at d';injection d' with d1 _
 have:aa=its':=by simpa using congrArg Array.toList d1
 subst this;exact r.inj r'
def Inv.GQ (I:Inv X pins σ H s)(h:EQ X.K H a xs)(h':EQ X.K H a ys):xs=ys:=by
 obtain⟨aa,r,⟨o,e,_,n,d⟩,_⟩:=I.tuple h;obtain⟨its',r',⟨o',e',_,n',d'⟩,_⟩:=I.tuple h';rw[e] at e';cases e';rw[d] at d';injection d' with d1 _
 have:aa=its':=by simpa using congrArg Array.toList d1
 subst this;exact r.inj r'
end
noncomputable abbrev Cx.NR (X:Cx)(E:Value->Shared->Prop):Cx:={X with xe:=E}
noncomputable abbrev Cx.qZ (X:Cx):Cx:=X.NR λ _ _=>False
def Cx.Ok.NR (ok:X.Ok)(E:Value->Shared->Prop):(X.NR E).Ok:=
 ⟨ok.mod,ok.kind,ok.glob,ok.blt,ok.above,ok.inj,ok.has,ok.qS,ok.hd,ok.frames,ok.uE,ok.uF,ok.bs,ok.eN,ok.Y9,ok.Yb,ok.Kd,ok.lY⟩
def Cx.Ok.G8 (ok:(X.NR E).Ok):X.Ok:=
 ⟨ok.mod,ok.kind,ok.glob,ok.blt,ok.above,ok.inj,ok.has,ok.qS,ok.hd,ok.frames,ok.uE,ok.uF,ok.bs,ok.eN,ok.Y9,ok.Yb,ok.Kd,ok.lY⟩
def Inv.NR (I:Inv X pins σ H s)(E:Value->Shared->Prop):Inv (X.NR E) pins σ H s:=⟨I.ok.NR E,I.os,I.bare,I.base,I.loc,I.cell,I.free,I.FR,I.pin,I.Ar,I.len⟩
def Inv.G8 (I:Inv (X.NR E) pins σ H s):Inv X pins σ H s:=⟨I.ok.G8,I.os,I.bare,I.base,I.loc,I.cell,I.free,I.FR,I.pin,I.Ar,I.len⟩
def SP.G8 (h:SP (X.NR E) pins D f s'):SP X pins D f s':=by
 cases f with
 |next|brk|cont=>obtain⟨σ',H',I,q⟩:=h;exact⟨σ',H',I.G8,q⟩
 |ret u=>obtain⟨v,σ',H',I,r,q⟩:=h;exact⟨v,σ',H',I.G8,r,q⟩
def V3.qZ {st}(h:V3 X.qZ st t):V3 X st t:=λ pins s σ H D I hw =>
 wpAny_mono (h pins s σ H D (I.NR _) hw) (λ _ _ q=>q.G8) λ _ _ z=>zcj z
section
variable {st:Stmt}{rest:List Stmt}{t u:TS}
abbrev rA:TS:=λ D σ H=>D.nx σ H
abbrev vU (t u:TS):TS:=λ D σ H=>t {D with nx:=u D} σ H
def eR:V3 X [] rA:=λ _ _ σ H _ I h=>wpAny_execs_nil ⟨σ,H,I,h⟩
def Ye (h1:PS X st t)(h2:V3 X rest u):V3 X (st::rest) (vU t u):=by
 intro pins s σ H D I h;refine wpAny_execs_cons (Bh (h1 pins s σ H {D with nx:=u D} I h) λ f s1 q=>?_);cases f with
 |next =>
  obtain⟨σ',H',I',q⟩:=q;exact h2 pins s1 σ' H' D I' q
 |ret v|brk|cont=>exact q
def eS (h1:PS X st t):V3 X [st] t:=by
 intro pins s σ H D I h;refine wpAny_execs_cons (Bh (h1 pins s σ H D I h) λ f s1 q=>?_);cases f with
 |next=>exact wpAny_execs_nil q
 |ret v|brk|cont=>exact q
def Inv.quiet (I:Inv X pins σ H s):interactive X.env=false:=by simp[interactive,I.ok.kind]
abbrev rB (te:TE):TS:=λ D σ H=>te σ H λ _ H1=>D.nx σ H1
def GR (he:PE X e te)(hs: ~~~(swapsWith e none pos.line X.env=pure false)):PS X (.Expr e pos) (rB te):=by
 intro pins s σ H D I h;exact wpAny_Expr_any (Bh (he pins s σ H _ I h) λ v s1 ⟨x,H1,I1,r1,q1⟩=>⟨σ,H1,I1,q1⟩) I.quiet hs
abbrev vV (te:TE):TS:=λ D σ H=>te σ H D.rt
def Tt (he:PE X e te):PS X (.Return (some e) pos) (vV te):=by
 intro pins s σ H D I h;exact wpAny_Return_some (Bh (he pins s σ H _ I h) λ v s1 ⟨x,H1,I1,r1,q1⟩=>⟨x,σ,H1,I1,r1,q1⟩)
abbrev vW (c:TT)(t u:TS):TS:=λ D σ H=>c σ H λ b H1=>if b=true then t D σ H1 else u D σ H1
def rC (hc:PT X c tc)(ha:V3 X a t)(hb:V3 X b u):PS X (.If c a b pos) (vW tc t u):=by
 intro pins s σ H D I h;refine wpAny_If (Bh (hc pins s σ H _ I h) λ d s1 zz=>?_);obtain⟨H1,I1,q1⟩:=zz;cases d with
 |true=>exact ha pins s1 σ H1 D I1 q1
 |false=>exact hb pins s1 σ H1 D I1 q1
end
noncomputable abbrev TG:=V->St->Hp->(St->Hp->Prop)->Prop
noncomputable abbrev Y3:=List V->St->Hp->(St->Hp->Prop)->Prop
abbrev PG (X:Cx)(target:Expr)(t:TG):Prop:=
 ∀(pins:List (Addr×Obj)) (s:Shared) (σ:St) (H:Hp) (v:V) (u:Value) (Q:St->Hp->Prop),Inv X pins σ H s->RelV v u->t v σ H Q->
  wpAny (model X.prog X.w) X.A (assign target X.env u) (λ _ s'=>∃σ' H',Inv X pins σ' H' s'/\Q σ' H') X.xe s
abbrev qH (X:Cx)(ts:List Expr)(t:Y3):Prop:=
 ∀(pins:List (Addr×Obj)) (s:Shared) (σ:St) (H:Hp) (vs:List V) (us:List Value) (Q:St->Hp->Prop),Inv X pins σ H s->Vals vs us->t vs σ H Q->
  wpAny (model X.prog X.w) X.A (assignInOrder ((assignEach ts X.env).map (·.2)) us) (λ _ s'=>∃σ' H',Inv X pins σ' H' s'/\Q σ' H') X.xe s
noncomputable abbrev mJ:=V->V->V->Hp->(Hp->Prop)->Prop
abbrev rD (X:Cx)(t:mJ):Prop:=
 ∀(pins:List (Addr×Obj)) (s:Shared) (σ:St) (H:Hp) (o i v:V) (ov iv u:Value) (Q:Hp->Prop),Inv X pins σ H s->RelV o ov->RelV i iv->RelV v u->t o i v H Q->
  wpAny (model X.prog X.w) X.A (setItem ov iv u) (λ _ s'=>∃H',Inv X pins σ H' s'/\Q H') X.xe s
abbrev Oj (i:Nat):TG:=λ v σ H Q=>Q (σ.set i (some v)) H
def PD (hN:X.N.Nodup)(hi:X.N[i]?=some x)(hx:Loc X.env.scope x)(hf:X.fn x=true\/X.env.scope.names.lookup x=some .local:=by first | exact .inl rfl | exact .inr rfl | assumption):PG X (.Name x pos) (Oj i):=by
 intro pins s σ H v u Q I r h;exact wpAny_assign_Name (Rh I hN hi hx r (λ s' I'=>⟨_,H,I',h⟩) hf)
abbrev mK:Y3:=λ vs σ H Q=>vs=[]/\Q σ H
abbrev Yg (t:TG)(u:Y3):Y3:=λ vs σ H Q=>∃v r,vs=v::r/\t v σ H λ σ' H'=>u r σ' H' Q
def V4:qH X [] mK:=by
 intro pins s σ H vs us Q I r h;obtain⟨e,h⟩:=h;subst e;cases r;exact assignInOrder_nil ⟨σ,H,I,h⟩
def Rk (h1:PG X e t)(h2:qH X es u)(hs: ~~~((assignEach (e::es) X.env).map (·.2)=assign e X.env::(assignEach es X.env).map (·.2))):qH X (e::es) (Yg t u):=by
 intro pins s σ H vs us Q I r h;obtain⟨v,vr,e1,h⟩:=h;subst e1;cases r with
 |cons r rr =>
  rw[hs];refine assignInOrder_cons (Bh (h1 pins s σ H _ _ _ I r h) λ _ s1 zz=>?_);obtain⟨σ1,H1,I1,q1⟩:=zz;exact h2 pins s1 σ1 H1 _ _ Q I1 rr q1
abbrev mL (K:za0)(n:Nat)(t:Y3):TG:=λ v σ H Q=>∃a xs,v=.ref a/\EQ K H a xs/\xs.length=n/\t xs σ H Q
def Yh (hc:X.calm=true)(h:qH X es t)(hn: ~~~((assignEach es X.env).length=n))(aE: ~~~((assignEach es X.env).findIdx? (·.1)=none)):PG X (.Tuple es k pos) (mL X.K n t):=by
 intro pins s σ H v u Q I r hw;obtain⟨a,xs,e1,hq,hl,hw⟩:=hw;subst e1;cases r;obtain⟨aa,rv,ht,hz⟩:=I.tuple hq;refine assign_Tuple_tuple (I.ok.hd hc) ht (by simp[hn,<-hl,rv.length]) aE λ h' hx=>?_;have I1:Inv X pins σ H {s with heap:=h' }:=I.kept (t':=s.toks) λ b o e=>hx b o (zap (zaf e)) e;exact h pins _ σ H xs _ Q I1 (by simpa using rv) hw
abbrev vX (to ti:TE)(t:mJ):TG:=λ v σ H Q=>to σ H λ o H1=>ti σ H1 λ i H2=>t o i v H2 λ H3=>Q σ H3
def Yi (ho:PE X o to)(hi:PE X i ti)(hs:rD X t)(ha:∀v,assign (.Subscript o i pos) X.env v=(do
  let ov <-holding [v] (eval o X.env);let iv <-holding [v,ov] (eval i X.env)
  standAt pos
  holding [v,ov,iv] (setItem ov iv v)
  release [v,ov,iv] []):=by intro _;rfl):PG X (.Subscript o i pos) (vX to ti t):=by
 intro pins s σ H v u Q I r h;rw[ha];refine wpAny_bind (wpAny_holding (Bh (ho pins s σ H _ I h) λ ov s1 zz=>?_));obtain⟨x,H1,I1,r1,q1⟩:=zz;refine wpAny_bind (wpAny_holding (Bh (hi pins s1 σ H1 _ I1 q1) λ iv s2 zz=>?_));obtain⟨y,H2,I2,r2,q2⟩:=zz;refine wpAny_bind (wpAny_standAt (wpAny_bind (wpAny_holding (Bh (hs pins s2 σ H2 x y v ov iv u _ I2 r1 r2 r q2) λ _ s3 zz=>?_))));obtain⟨H3,I3,q3⟩:=zz;exact wpAny_release ⟨σ,H3,I3,q3⟩
abbrev rE (te:TE)(g:TG):TS:=λ D σ H=>te σ H λ x H1=>g x σ H1 D.nx
def Yj (he:PE X e te)(hg:PG X tg g)(hs: ~~~(swapsWithSole [tg] e pos.line X.env=pure false))(hw: ~~~(swappedStores [tg] e X.env=pure none))(h1: ~~~((assignEach [tg] X.env).map (·.2)=[assign tg X.env])):PS X (.Assign [tg] e pos) (rE te g):=by
 intro pins s σ H D I h;refine wpAny_Assign_stores (Bh (he pins s σ H _ I h) λ v s1 zz=>?_) hs hw;obtain⟨x,H1,I1,r1,q1⟩:=zz;rw[h1];exact Bh (hg pins s1 σ H1 x v _ I1 r1 q1) λ _ s2 q=>q
def Tu (hN:X.N.Nodup)(hi:X.N[i]?=some x)(hx:Loc X.env.scope x)(he:PE X e te)(hs: ~~~(swapsWith e (some (.Name x pos')) pos.line X.env=pure false))(hf:X.fn x=true\/X.env.scope.names.lookup x=some .local:=by first | exact .inl rfl | exact .inr rfl | assumption):
 PS X (.Assign [.Name x pos'] e pos) (rE te (Oj i)):=by
 intro pins s σ H D I h;refine wpAny_Assign_Name (Bh (he pins s σ H _ I h) λ v s1 zz=>?_) hs;obtain⟨y,H1,I1,r1,q1⟩:=zz;exact Rh I1 hN hi hx r1 (λ s2 I2=>⟨_,H1,I2,q1⟩) hf
abbrev mM (c:TT)(tb:TS):TS:=λ D σ H=>∃W:Nat->St->Hp->Prop,(∃m,W m σ H)/\∀m σ H,W m σ H->
 c σ H λ b H1=>if b=true then ∃N:St->Hp->Prop,(∀σ' H',N σ' H'->∃m',m'<m/\W m' σ' H')/\tb {D with nx:=N,ct:=N,bk:=D.nx} σ H1 else D.nx σ H1
def Yk (hp:PassesOwn (model X.prog X.w) X.A X.env X.xe)(hc:PT X c tc)(hb:V3 X body tb):PS X (.While c body [] pos) (mM tc tb):=by
 intro pins s σ H D I h;obtain⟨W,⟨m0,w0⟩,turn⟩:=h;refine wpAny_While (codeAny_whileLoop (λ n s'=>∃σ' H',Inv X pins σ' H' s'/\W n σ' H') ?_ m0 ⟨σ,H,I,w0⟩);rintro n s1 ⟨σ1,H1,I1,w1⟩;refine wpAny_passesOwn hp (Bh (hc pins s1 σ1 H1 _ I1 (turn n σ1 H1 w1)) λ b s2 zz=>?_);obtain⟨H2,I2,q2⟩:=zz;cases b with
 |true =>
  obtain⟨N,hN,q2⟩:=q2;rw[if_pos rfl];refine wpAny_passesOwn hp (Bh (hb pins s2 σ1 H2 _ I2 q2) λ f s3 q3=>?_);cases f with
  |next =>
   obtain⟨σ3,H3,I3,n3⟩:=q3;obtain⟨m',hm,w3⟩:=hN σ3 H3 n3;exact⟨m',hm,σ3,H3,I3,w3⟩
  |cont =>
   obtain⟨σ3,H3,I3,n3⟩:=q3;obtain⟨m',hm,w3⟩:=hN σ3 H3 n3;exact⟨m',hm,σ3,H3,I3,w3⟩
  |brk|ret v=>exact q3
 |false =>
  rw[if_neg zao];exact wpAny_execs_nil ⟨σ1,H2,I2,q2⟩
structure It where
 go:Nat->Hp->Prop
 kO:Nat->Hp->V->Hp->Prop
 stop:Nat->Hp->Prop
abbrev Ln (X:Cx)(pins:List (Addr×Obj))(H:Hp)(b:Addr):Prop:=
 H b=none/\b≠X.env.locals/\b∉X.fs/\(b∈X.ex\/X.s₀.heap.objs.size<=b)/\(∀x c,X.env.cells.lookup x=some c->c≠b)/\∀p∈X.pn++pins,p.1≠b
def Inv.Yl (I:Inv X pins σ H s)(hb:s.heap.objs.size<=b)(hn:H' b=none):Ln X pins H' b:=by
 refine⟨hn,Nat.ne_of_gt (zar I.lt hb),I.vN hb,.inr (zbl I.sz hb),λ x c e z=>?_,λ p hp z=>?_⟩
 ·obtain⟨v,q⟩:=I.cell x c e;exact absurd (zar q.lt (by rw[z];exact hb)) (zdb _)
 ·exact absurd (zar (zaf (I.pin p hp).1) (by rw[z];exact hb)) (zdb _)
structure Turn (P:Program)(w:World)(K:za0)(tg:Expr)(J:It)(fp:List Addr)(it:Addr)(tn:Nat->Heap->Prop):Prop where
 mem:it∈fp
 obj:∀i h,tn i h->∀b∈fp,∃o,h.get? b=some o/\∀v,o.data≠.cell v
 keep:∀i h h',tn i h->(∀b∈fp,∀o,h.get? b=some o->h'.get? b=some o)->tn i h'
 item:∀(X:Cx),X.prog=P->X.w=w->X.K=K->X.calm=true->∀(i:Nat) (pins:List (Addr×Obj)) (s:Shared) (σ:St) (H:Hp) (E:Value->Shared->Prop),Inv X pins σ H s->(∀b∈fp,Ln X pins H b)->tn i s.heap->J.go i H->
  wpAny (model P w) X.A (pyNext (.ref it)) (λ r s1=>∃u,r=some u/\
   wpAny (model P w) X.A (letOwnedTupleGo tg (.ref it) u) (λ _ s2=>∃x H',Inv X pins σ H' s2/\RelV x u/\J.kO i H x H'/\tn (i+1) s2.heap/\∀b∈fp,H' b=none) E s1) E s
 done:∀(X:Cx),X.prog=P->X.w=w->X.K=K->X.calm=true->∀(i:Nat) (pins:List (Addr×Obj)) (s:Shared) (σ:St) (H:Hp) (E:Value->Shared->Prop),Inv X pins σ H s->(∀b∈fp,Ln X pins H b)->tn i s.heap->J.stop i H->
  wpAny (model P w) X.A (pyNext (.ref it)) (λ r s1=>r=none/\Inv X pins σ H s1) E s
 self:∀(A:Around) (i:Nat) (s:Shared) (Q:Value->Shared->Prop) (E:Value->Shared->Prop),tn i s.heap->Q (.ref it) s->wpAny (model P w) A (pyIter (.ref it)) Q E s
noncomputable abbrev TI:=St->Hp->(It->Hp->Prop)->Prop
abbrev xM (X:Cx)(pins:List (Addr×Obj))(σ:St)(tg:Expr)(R:It->Hp->Prop)(lp:Value)(s2:Shared):Prop:=
 ∃(it:Addr) (fp:List Addr) (tn:Nat->Heap->Prop) (J:It) (H':Hp),lp=.ref it/\Inv X pins σ H' s2/\Turn X.prog X.w X.K tg J fp it tn/\tn 0 s2.heap/\(∀b∈fp,Ln X pins H' b)/\R J H'
abbrev PI (X:Cx)(tg iter:Expr)(wi:TI):Prop:=
 ∀(pins:List (Addr×Obj)) (s:Shared) (σ:St) (H:Hp) (R:It->Hp->Prop),Inv X pins σ H s->wi σ H R->
  wpAny (model X.prog X.w) X.A (eval iter X.env) (λ v s1=>wpAny (model X.prog X.w) X.A (pyIter v) (xM X pins σ tg R) X.xe s1) X.xe s
def Ym (ho:s.heap.get? it=some o)(hc:o.cls=.type n)(hd:o.data=.fields vs)(hn:["enumerate","zip","dict_itemiterator","dict_reverseitemiterator","odict_iterator","itertools.zip_longest","itertools.pairwise"].contains n=false)(hQ:Q () s):wpAny M A (letOwnedTupleGo tg (.ref it) u) Q E s:=by
 unfold letOwnedTupleGo;cases tg<;>first
  |exact wpAny_pure hQ
  |(cases u<;>first
   |exact wpAny_pure hQ
   |(
    refine wpAny_bind (wpAny_load ho ?_);rw[hc,hd];show wpAny M A (if (["enumerate","zip","dict_itemiterator","dict_reverseitemiterator","odict_iterator","itertools.zip_longest","itertools.pairwise"].contains n&&vs[0]?== some (rawInt _))=true then _ else _) Q E s;rw[if_neg (by intro h;rw[hn,Bool.false_and] at h;cases h)];exact wpAny_pure hQ))
abbrev xN (K:za0)(a:Addr):It:=
 ⟨λ i H=>∃xs x,Du K H a xs/\xs[i]?=some x,λ i H x H'=>H'=H/\∀xs,Du K H a xs->xs[i]?=some x,λ i H=>∃xs,Du K H a xs/\xs.length<=i⟩
abbrev uG (lo:Int)(n:Nat):It:=⟨λ i _=>i<n,λ i H x H'=>H'=H/\x=.int (lo+i),λ i _=>n<=i⟩
def Wz {K}(a it:Addr):Turn P w K tg (xN K a) [it] it (λ i h=>h.IsListIter it a i) where
 mem:=by simp
 obj:=λ i h st b hb=>by
  have e:b=it:=by simpa using hb
  subst e;obtain⟨o,e,c,d⟩:=st;exact⟨o,e,λ v z=>by rw[d] at z;cases z⟩
 keep:=λ i h h' st k=>st.at λ o e=>k it (by simp) o e
 item:=by
  intro X hP hw hK hc i pins s σ H E I hf st hg;subst hP hw hK;obtain⟨xs,x,hq,hx⟩:=hg;obtain⟨aa,rv,p,hz⟩:=I.list hq;obtain⟨u,hu,ru⟩:=rv.get hx;obtain⟨f0,f1,f2,f3,f4,f5⟩:=hf it (by simp);refine wpAny_pyNext_list_item st p.isList (x:=u) (by simpa using hu) λ h' bn sb=>?_;have I1:Inv X pins σ H {s with heap:=h' }:=I.turned (t':=s.toks) (λ b o hb e=>(sb.2 b hb).trans e) f0 f1 f3 f4 f5;obtain⟨o,e,c,d⟩:=id bn;exact⟨u,rfl,Ym (s:={s with heap:=h' }) e c d (by decide) ⟨x,H,I1,ru,⟨rfl,λ ys hy=>by rw[I.G7 hy hq];exact hx⟩,bn,λ b hb=>(hf b hb).1⟩⟩
 done:=by
  intro X hP hw hK hc i pins s σ H E I hf st hg;subst hP hw hK;obtain⟨xs,hq,hx⟩:=hg;obtain⟨aa,rv,p,hz⟩:=I.list hq;obtain⟨f0,f1,f2,f3,f4,f5⟩:=hf it (by simp);have hl:=rv.length;exact wpAny_pyNext_list_end (I.ok.hd hc) st p.isList (by simp;omega) λ h' eb=>⟨rfl,I.turned (t':=s.toks) (λ b o hb e=>eb b o hb e) f0 f1 f3 f4 f5⟩
 self:=λ _ _ _ _ _ st h=>wpAny_pyIter_listiter st h
def Tv {K}(it:Addr)(lo:Int)(n:Nat):Turn P w K tg (uG lo n) [it] it (λ i h=>IsRangeIter h it (lo+(i:Nat)*1) ((n:Int)-(i:Nat)) 1) where
 mem:=by simp
 obj:=λ i h st b hb=>by
  have e:b=it:=by simpa using hb
  subst e;exact⟨_,st,λ v z=>by
   have z':Data.fields _=Data.cell v:=z;cases z'⟩
 keep:=λ i h h' st k=>k it (by simp) _ st
 item:=by
  intro X hP hw hK hc i pins s σ H E I hf st hg;subst hP hw hK;obtain⟨f0,f1,f2,f3,f4,f5⟩:=hf it (by simp);have W:=Walks.range (prog:=X.prog) (w:=X.w) (I.ok.hd hc) it lo 1 n;refine W.item i s _ _ hg st λ v h' tk hv bn kk=>?_;obtain⟨t,rfl⟩:=hv;have I1:Inv X pins σ H {s with heap:=h',toks:=tk}:=I.turned (λ b o hb e=>kk b o (by simpa using hb) e) f0 f1 f3 f4 f5;refine⟨_,rfl,Ym (s:={s with heap:=h',toks:=tk}) (n := "range_iterator") bn rfl rfl (by decide) ⟨.int (lo+i),H,I1,⟨t,?_⟩,⟨rfl,rfl⟩,bn,λ b hb=>(hf b hb).1⟩⟩;rw[Int.mul_one]
 done:=by
  intro X hP hw hK hc i pins s σ H E I hf st hg;subst hP hw hK;obtain⟨f0,f1,f2,f3,f4,f5⟩:=hf it (by simp);exact wpAny_pyNext_range_end (I.ok.hd hc) st (by have:n<=i:=hg;omega) λ h' eb=>⟨rfl,I.turned (t':=s.toks) (λ b o hb e=>eb b o hb e) f0 f1 f3 f4 f5⟩
 self:=λ _ _ _ _ _ st h=>wpAny_pyIter_rangeiter st h
section
variable {tg:Expr}
abbrev rF (K:za0)(tl:TE):TI:=λ σ H R=>tl σ H λ x H1=>∃a,x=.ref a/\(∃xs,Du K H1 a xs)/\R (xN K a) H1
def eT (hl:PE X l tl):PI X tg l (rF X.K tl):=by
 intro pins s σ H R I h;refine Bh (hl pins s σ H _ I h) λ v s1 zz=>?_;obtain⟨x,H1,I1,r1,q1⟩:=zz;obtain⟨a,e,⟨xs,hq⟩,q⟩:=q1;subst e;cases r1;obtain⟨aa,rv,p,hz⟩:=I1.list hq;refine wpAny_pyIter_list p.isList ?_;refine⟨s1.heap.objs.size,[s1.heap.objs.size],_,_,H1,rfl,I1.kept (t':=s1.toks) λ b o e=>za5 _ e,Wz a _,⟨_,zaj _ rfl,rfl,rfl⟩,λ b hb=>?_,q⟩;have e:b=s1.heap.objs.size:=by simpa using hb
 subst e;exact I1.Yl (zag _) (I1.Ar.fresh (zag _))
def Yn {lo}(I:Inv X pins σ H s)(h1 : -(2^62)<=lo)(h2:lo<2^62)(h3 : -(2^62)<=hi)(h4:hi<2^62)(q:R (uG lo (hi-lo).toNat) H):wpAny (model X.prog X.w) X.A (pyIter (.ref s.heap.objs.size)) (xM X pins σ tg R) E {s with heap:=s.heap.push {cls:=.type "range",data:=.fields #[.int lo t,.int hi u,.int 1 v]},toks:=tk}:=by
 refine wpAny_pyIter_range (IsRange.new ..) (small_one h1 h2 h3 h4) ?_;have I1:Inv X pins σ H {s with heap:=s.heap.push {cls:=.type "range",data:=.fields #[.int lo t,.int hi u,.int 1 v]},toks:=tk}:=I.kept λ b o e=>za5 _ e;refine⟨(s.heap.push {cls:=.type "range",data:=.fields #[.int lo t,.int hi u,.int 1 v]}).objs.size,[(s.heap.push {cls:=.type "range",data:=.fields #[.int lo t,.int hi u,.int 1 v]}).objs.size],_,_,H,rfl,
  I1.kept (t':=tk) λ b o e=>za5 _ e,Tv _ lo (hi-lo).toNat,?_,λ b hb=>?_,q⟩
 ·have e1:lo+((0:Nat):Int)*1=lo:=by simp
  have e2:(((hi-lo).toNat:Nat):Int)-((0:Nat):Int)=Builtin.Range.rangeSize lo hi 1:=by rw[rangeSize_one];split<;>omega
  show IsRangeIter _ _ (lo+((0:Nat):Int)*1) ((((hi-lo).toNat:Nat):Int)-((0:Nat):Int)) 1;rw[e1,e2];exact zaj _ rfl
 ·have e:b=(s.heap.push {cls:=.type "range",data:=.fields #[.int lo t,.int hi u,.int 1 v]}).objs.size:=by simpa using hb
  subst e;exact I1.Yl (zag _) (I1.Ar.fresh (zag _))
abbrev rG (ta:TA):TI:=λ σ H R=>ta σ H λ vs H1=>∃j:Int,vs=[.int j]/\-(2^62)<=j/\j<2^62/\R (uG 0 j.toNat) H1
def WA {ta}(hg:Gl X "range")(hm:X.mg "range" = none)(ha:PA X [a] ta)(hs: ~~~(starEach [a] X.env=[(false,eval a X.env)])):PI X tg (.Call (.Name "range" p) [a] [] pos) (rG ta):=by
 intro pins s σ H R I h;refine Call_ (CS I hg hm boot_range (zbm (Bh (ha pos pins s σ H _ I h) λ us s1 zz=>?_) hs rfl));obtain⟨vs,H1,I1,r1,q1⟩:=zz;obtain⟨j,e,q1,q2,q⟩:=q1;subst e;cases r1 with
 |cons r rr =>
  cases rr;obtain⟨t,rfl⟩:=r;exact call_range_1 (Yn I1 (by omega) (by omega) q1 q2 (by simpa using q))
abbrev vY (wi:TI)(g:TG)(tb:TS):TS:=λ D σ H=>wi σ H λ J H1=>∃W:Nat->Nat->St->Hp->Prop,(∃m,W 0 m σ H1)/\∀i m σ H,W i m σ H->
 (J.stop i H/\D.nx σ H)\/(J.go i H/\∃N:St->Hp->Prop,(∀σ' H',N σ' H'->∃m',m'<m/\W (i+1) m' σ' H')/\∀x H',J.kO i H x H'->g x σ H' λ σ2 H2=>tb {D with nx:=N,ct:=N,bk:=D.nx} σ2 H2)
abbrev HP (fp:List Addr)(h:Heap):List (Addr×Obj):=fp.filterMap λ b=>(h.get? b).map λ o=>(b,o)
def Fl (hb:b∈fp)(e:h.get? b=some o):(b,o)∈HP fp h:=List.mem_filterMap.mpr ⟨b,hb,by rw[e];rfl⟩
def Ol (hp:p∈HP fp h):p.1∈fp/\h.get? p.1=some p.2:=by
 obtain⟨b,hb,e⟩:=List.mem_filterMap.mp hp;cases q:h.get? b with
 |none=>rw[q] at e;cases e
 |some o =>
  rw[q] at e;have e':(b,o)=p:=zat e;subst e';exact⟨hb,q⟩
def Inv.pinned (I:Inv X pins σ H s)(hf:∀b∈fp,Ln X pins H b)(ho:∀b∈fp,∃o,s.heap.get? b=some o/\∀v,o.data≠.cell v):Inv X (pins++HP fp s.heap) σ H s:=
 I.IH λ p hp=>(zaq.mp hp).elim (λ z=>I.pin p (zad _ z)) λ z=>by
  obtain⟨hb,e⟩:=Ol z;obtain⟨f0,f1,f2,_⟩:=hf p.1 hb;obtain⟨o,e',d⟩:=ho p.1 hb;rw[e] at e';cases e';exact⟨e,f0,f1,f2,d⟩
def Inv.II (I:Inv X (pins++pl) σ H s):Inv X pins σ H s:=I.IH λ p hp=>I.pin p (zad _ (zb5 _ hp))
def mN (hp:PassesOwn (model X.prog X.w) X.A X.env X.xe)(hc:X.calm=true)(hi:PI X tg iter wi)(hg:PG X tg g)(hb:V3 X body tb)(hs:∀x,foldedSetIterable iter X.env x=pure x:=by intro _;rfl):PS X (.For tg iter body [] pos) (vY wi g tb):=by
 intro pins s σ H D I h;refine wpAny_For (Bh (hi pins s σ H _ I h) λ v s1 h1=>Bh h1 λ lp s2 h2=>?_) hs;obtain⟨it,fp,tn,J,H2,e,I2,T,cu,f2,W,⟨m0,w0⟩,turn⟩:=h2;subst e;have br:∀ {H':Hp},(∀b∈fp,H' b=none)->∀b∈fp,Ln X pins H' b:=λ hn b hb=>⟨hn b hb,(f2 b hb).2⟩;refine codeAny_forLoop_any (λ n s'=>∃i σ' H',Inv X pins σ' H' s'/\tn i s'.heap/\(∀b∈fp,H' b=none)/\W i n σ' H') ?_ m0 ⟨0,σ,H2,I2,cu,λ b hb=>(f2 b hb).1,w0⟩;rintro n s3 ⟨i,σ3,H3,I3,iy,iz,w3⟩;rcases turn i n σ3 H3 w3 with ⟨stop,qn⟩|⟨go,N,hN,step⟩
 ·refine wpAny_passesOwn hp (Bh (T.done X rfl rfl rfl hc i pins s3 σ3 H3 X.xe I3 (br iz) iy stop) λ r s4 zz=>?_);obtain⟨hr,I4⟩:=zz;subst hr;exact wpAny_execs_nil ⟨σ3,H3,I4,qn⟩
 ·refine wpAny_passesOwn hp (Bh (T.item X rfl rfl rfl hc i pins s3 σ3 H3 X.xe I3 (br iz) iy go) λ r s4 zz=>?_);obtain⟨u,hr,h4⟩:=zz;subst hr;refine wpAny_passesOwn hp (Bh h4 λ _ s5 zz=>?_);obtain⟨x,H5,I5,r5,y5,e7,m9⟩:=zz;have na:=I5.pinned (br m9) (T.obj _ _ e7);refine wpAny_passesOwn hp (Bh (hg _ s5 σ3 H5 x u _ na r5 (step x H5 y5)) λ _ s6 zz=>?_);obtain⟨σ6,H6,I6,q6⟩:=zz;refine wpAny_passesOwn hp (Bh (hb _ s6 σ6 H6 _ I6 q6) λ f s7 q7=>?_);have again:∀ {σ7:St} {H7:Hp},Inv X (pins++HP fp s5.heap) σ7 H7 s7->N σ7 H7->∃m,m<n/\∃i σ' H',Inv X pins σ' H' s7/\tn i s7.heap/\(∀b∈fp,H' b=none)/\W i m σ' H':=fun {σ7 H7} I7 n7=>by
   obtain⟨m',hm,w7⟩:=hN σ7 H7 n7;refine⟨m',hm,i+1,σ7,H7,I7.II,T.keep _ _ _ e7 λ b hb o e=>(I7.pin (b,o) (zad _ (zad _ (Fl hb e)))).1,λ b hb=>?_,w7⟩;obtain⟨o,e,d⟩:=T.obj _ _ e7 b hb;exact (I7.pin (b,o) (zad _ (zad _ (Fl hb e)))).2.1
  cases f with
  |next|cont=>obtain⟨σ7,H7,I7,n7⟩:=q7;exact again I7 n7
  |brk=>obtain⟨σ7,H7,I7,q7⟩:=q7;exact⟨σ7,H7,I7.II,q7⟩
  |ret v=>obtain⟨x7,σ7,H7,I7,r7,q7⟩:=q7;exact⟨x7,σ7,H7,I7.II,r7,q7⟩
end
noncomputable abbrev R2:=V->V->Hp->VK->Prop
abbrev G9 (X:Cx)(f:Value->Value->Sem Value)(r:R2):Prop:=
 ∀(pins:List (Addr×Obj)) (s:Shared) (σ:St) (H:Hp) (x y:V) (v u:Value) (Q:VK),Inv X pins σ H s->RelV x v->RelV y u->r x y H Q->
  wpAny (model X.prog X.w) X.A (f v u) (EP X pins σ Q) X.xe s
abbrev vZ (X:Cx)(f:Value->Sem Value)(r:V->Hp->VK->Prop):Prop:=
 ∀(pins:List (Addr×Obj)) (s:Shared) (σ:St) (H:Hp) (x:V) (v:Value) (Q:VK),Inv X pins σ H s->RelV x v->r x H Q->
  wpAny (model X.prog X.w) X.A (f v) (EP X pins σ Q) X.xe s
abbrev FT (X:Cx)(f:Value)(r:List V->Hp->VK->Prop):Prop:=
 ∀(pins:List (Addr×Obj)) (s:Shared) (σ:St) (H:Hp) (xs:List V) (us:List Value) (Q:VK),Inv X pins σ H s->Vals xs us->r xs H Q->
  wpAny (model X.prog X.w) X.A (call f us) (EP X pins σ Q) X.xe s
abbrev wA (X:Cx)(r:V->Hp->(Bool->Hp->Prop)->Prop):Prop:=
 ∀(pins:List (Addr×Obj)) (s:Shared) (σ:St) (H:Hp) (x:V) (v:Value) (Q:Bool->Hp->Prop),Inv X pins σ H s->RelV x v->r x H Q->
  wpAny (model X.prog X.w) X.A (truthy v) (TP X pins σ Q) X.xe s
abbrev qI (r:R2)(ta tb:TE):TE:=λ σ H Q=>ta σ H λ x H1=>tb σ H1 λ y H2=>r x y H2 Q
abbrev yN (r:V->Hp->VK->Prop)(ta:TE):TE:=λ σ H Q=>ta σ H λ x H1=>r x H1 Q
abbrev rI (C:Int->Int->Prop)(g:Int->Int->V):R2:=λ x y H Q=>∃i j,x=.int i/\y=.int j/\C i j/\Q (g i j) H
abbrev eE (g:Int->Int->V):R2:=λ x y H Q=>∃i j,x=.int i/\y=.int j/\Q (g i j) H
abbrev rU (g:Int->V):V->Hp->VK->Prop:=λ x H Q=>∃i,x=.int i/\Q (g i) H
section
variable {a b:Expr}{tb tc:TE}
def mO (ha:PE X a ta)(hb:PE X b tb){R:V->V->Hp->Prop}(I:Inv X pins σ H s)(h:ta σ H λ x H1=>tb σ H1 λ y H2=>R x y H2){f:Value->Value->Sem Value}(hf:∀v u s2 x y H2,Inv X pins σ H2 s2->RelV x v->RelV y u->R x y H2->wpAny (model X.prog X.w) X.A (f v u) Q X.xe s2):
 wpAny (model X.prog X.w) X.A (eval a X.env) (λ v s₁=>wpAny (model X.prog X.w) X.A (eval b X.env) (λ u s₂=>wpAny (model X.prog X.w) X.A (f v u) Q X.xe s₂) X.xe s₁) X.xe s:=by
 refine Bh (ha pins s σ H _ I h) λ v s1 zz=>?_;obtain⟨x,H1,I1,r1,q1⟩:=zz;refine Bh (hb pins s1 σ H1 _ I1 q1) λ u s2 zz=>?_;obtain⟨y,H2,I2,r2,q2⟩:=zz;exact hf v u s2 x y H2 I2 r1 r2 q2
def Yo (ho:G9 X (binaryOp op) r)(ha:PE X a ta)(hb:PE X b tb):PE X (.BinOp a op b pos) (qI r ta tb):=by
 intro pins s σ H Q I h;exact wpAny_BinOp (mO ha hb I h λ v u s2 x y H2 I2 rx ry q=>ho pins s2 σ H2 x y v u Q I2 rx ry q)
def rH (ho:vZ X (unaryOp op) r)(ha:PE X a ta):PE X (.UnaryOp op a pos) (yN r ta):=by
 intro pins s σ H Q I h;exact UnaryOp_ (Bh (ha pins s σ H _ I h) λ v s1 ⟨x,H1,I1,r1,q1⟩=>ho pins s1 σ H1 x v Q I1 r1 q1)
def uH {C}{g:Int->Int->Int}(rule:∀(i j:Int) (t u:Tok) (s:Shared) (Q:Value->Shared->Prop) (E:Value->Shared->Prop),C i j->Q (.int (g i j) s.toks) {s with toks:=s.toks+1}->wpAny (model X.prog X.w) X.A (f (.int i t) (.int j u)) Q E s):
 G9 X f (rI C λ i j=>.int (g i j)):=by
 intro pins s σ H x y v u Q I rx ry h;obtain⟨i,j,rfl,rfl,hc,q⟩:=h;obtain⟨t,rfl⟩:=rx;obtain⟨t',rfl⟩:=ry;exact rule i j t t' s _ _ hc ⟨.int (g i j),H,I.tok _,⟨_,rfl⟩,q⟩
def rJ {g:Int->Int->Int}(rule:∀(i j:Int) (t u:Tok) (s:Shared) (Q:Value->Shared->Prop) (E:Value->Shared->Prop),Q (.int (g i j) s.toks) {s with toks:=s.toks+1}->wpAny (model X.prog X.w) X.A (f (.int i t) (.int j u)) Q E s):
 G9 X f (eE λ i j=>.int (g i j)):=by
 intro pins s σ H x y v u Q I rx ry h;obtain⟨i,j,rfl,rfl,q⟩:=h;obtain⟨t,rfl⟩:=rx;obtain⟨t',rfl⟩:=ry;exact rule i j t t' s _ _ ⟨.int (g i j),H,I.tok _,⟨_,rfl⟩,q⟩
def mP {g:Int->Int->Bool}(rule:∀(i j:Int) (t u:Tok) (s:Shared) (Q:Value->Shared->Prop) (E:Value->Shared->Prop),Q (.bool (g i j)) s->wpAny (model X.prog X.w) X.A (f (.int i t) (.int j u)) Q E s):
 G9 X f (eE λ i j=>.bl (g i j)):=by
 intro pins s σ H x y v u Q I rx ry h;obtain⟨i,j,rfl,rfl,q⟩:=h;obtain⟨t,rfl⟩:=rx;obtain⟨t',rfl⟩:=ry;exact rule i j t t' s _ _ ⟨.bl (g i j),H,I,rfl,q⟩
abbrev Yp (i j:Int):Prop:=0<j/\j<1073741824
abbrev eU (i j:Int):Prop:=0<=j/\j<=1000000/\i.natAbs<2^64
abbrev Yq (i j:Int):Prop:=(-(2^64)<i/\i<2^64)\/(-(2^64)<j/\j<2^64)
def Yq.ok (h:Yq i j):IntMulOk i j:=by
 rcases h with ⟨h1,h2⟩|⟨h1,h2⟩
 ·exact .of_left (intBits_le_64 h1 h2)
 ·exact .of_right (intBits_le_64 h1 h2)
def mQ:G9 X (binaryOp .Add) (eE λ i j=>.int (i+j)):=rJ λ _ _ _ _ _ _ _ q=>add_int q
def mR:G9 X (binaryOp .Sub) (eE λ i j=>.int (i-j)):=rJ λ _ _ _ _ _ _ _ q=>sub_int q
def eV:G9 X (binaryOp .FloorDiv) (rI Yp λ i j=>.int (i / j)):=uH λ i j _ _ _ _ _ hc q=>by
 have h1:(0:Int)<j:=hc.1;have h2:j<1073741824:=hc.2;exact floordiv_int (by omega) (by rw[Int.fdiv_eq_ediv_of_nonneg i (by omega)];exact q) (.inl (PyProof.noPylong_small (by omega)))
def mS:G9 X (binaryOp .Mod) (rI (λ _ j=>0<j) λ i j=>.int (i%j)):=uH λ i j _ _ _ _ _ hc q=>by
 have h1:(0:Int)<j:=hc;exact mod_int' (by omega) (by rw[Int.fmod_eq_emod_of_nonneg i (by omega)];exact q)
def mT:G9 X (binaryOp .Pow) (rI eU λ i j=>.int (i^j.toNat)):=uH λ _ _ _ _ _ _ _ hc q=>pow_int_small hc.1 hc.2.1 hc.2.2 q
def yO {g:Int->Int}(rule:∀(i:Int) (t:Tok) (s:Shared) (Q:Value->Shared->Prop) (E:Value->Shared->Prop),Q (.int (g i) s.toks) {s with toks:=s.toks+1}->wpAny (model X.prog X.w) X.A (f (.int i t)) Q E s):
 vZ X f (rU λ i=>.int (g i)):=by
 intro pins s σ H x v Q I rx h;obtain⟨i,rfl,q⟩:=h;obtain⟨t,rfl⟩:=rx;exact rule i t s _ _ ⟨.int (g i),H,I.tok _,⟨_,rfl⟩,q⟩
def mU:vZ X (unaryOp .USub) (rU λ i=>.int (-i)):=yO λ _ _ _ _ _ q=>neg_int q
end
section
variable {a b:Expr}{tb tc:TE}
def kP:G9 X (compareOp .Lt) (eE λ i j=>.bl (decide (i<j))):=mP λ _ _ _ _ _ _ _ q=>lt_int q
def kQ:G9 X (compareOp .LtE) (eE λ i j=>.bl (decide (i<=j))):=mP λ _ _ _ _ _ _ _ q=>le_int q
def rK:G9 X (compareOp .Gt) (eE λ i j=>.bl (decide (j<i))):=mP λ _ _ _ _ _ _ _ q=>gt_int q
def G9.or (h:G9 X f r)(h':G9 X f r'):G9 X f (λ x y H Q=>r x y H Q\/r' x y H Q):=by
 intro pins s σ H x y v u Q I rx ry q;rcases q with q|q
 ·exact h pins s σ H x y v u Q I rx ry q
 ·exact h' pins s σ H x y v u Q I rx ry q
def Ga (b:Expr)(h:op≠.In:=by decide)(h2:op≠.NotIn:=by decide):behindInMarks op b=false:=by
 have e1:(op==CmpOp.In)=false:=by cases op<;>first|rfl|exact absurd rfl h
 have e2:(op==CmpOp.NotIn)=false:=by cases op<;>first|rfl|exact absurd rfl h2
 cases b<;>simp[behindInMarks,e1,e2]
def eW (ho:G9 X (compareOp op) r)(ha:PE X a ta)(hb:PE X b tb)(hm:behindInMarks op b=false):PE X (.Compare a [op] [b] pos) (qI r ta tb):=by
 intro pins s σ H Q I h;exact wpAny_Compare1 (mO ha hb I h λ v u s2 x y H2 I2 rx ry q=>ho pins s2 σ H2 x y v u Q I2 rx ry q) hm
abbrev rL (t:TE):TT:=λ σ H Q=>t σ H λ x H'=>∃k,x=.bl k/\Q k H'
def eX (ho:G9 X (compareOp op) r)(ha:PE X a ta)(hb:PE X b tb)(hm:behindInMarks op b=false):PT X (.Compare a [op] [b] pos) (rL (qI r ta tb)):=by
 intro pins s σ H Q I h;refine wpAny_isTrue_Compare1 (Bh (ha pins s σ H _ I h) λ v s1 ⟨x,H1,I1,r1,q1⟩=>Bh (hb pins s1 σ H1 _ I1 q1) λ u s2 ⟨y,H2,I2,r2,q2⟩ =>
  Bh (ho pins s2 σ H2 x y v u _ I2 r1 r2 q2) λ c s3 ⟨z,H3,I3,r3,k,e,q3⟩=>?_) hm
 subst e;cases r3;exact wpAny_truthy_bool ⟨H3,I3,q3⟩
abbrev mV (r r':R2)(ta tb tc:TE):TE:=λ σ H Q=>ta σ H λ x H1=>tb σ H1 λ y H2=>r x y H2 λ z H3=>∃k,z=.bl k/\
 (if k=true then tc σ H3 λ w' H4=>r' y w' H4 Q else Q (.bl false) H3)
def Yr (ho:G9 X (compareOp op) r)(aJ:G9 X (compareOp e8) r')(ha:PE X a ta)(hb:PE X b tb)(hc:PE X c tc)(hm:lastMarks [op,e8] [b,c]=false:=by with_unfolding_all rfl):PE X (.Compare a [op,e8] [b,c] pos) (mV r r' ta tb tc):=by
 intro pins s σ H Q I h;refine Compare_chain (Bh (ha pins s σ H _ I h) λ v s1 ⟨x,H1,I1,r1,q1⟩=>chain_link (Bh (hb pins s1 σ H1 _ I1 q1) λ u s2 ⟨y,H2,I2,r2,q2⟩ =>
  Bh (ho pins s2 σ H2 x y v u _ I2 r1 r2 q2) λ d s3 ⟨z,H3,I3,r3,k,e,q3⟩=>?_)) hm
 subst e;cases r3;refine wpAny_truthy_bool ?_;cases k with
 |false=>exact ite_ff ⟨.bl false,H3,I3,rfl,q3⟩
 |true=>exact ite_tt (chain_last (Bh (hc pins s3 σ H3 _ I3 q3) λ w' s4 ⟨z',H4,I4,r4,q4⟩=>aJ pins s4 σ H4 y z' u w' Q I4 r2 r4 q4))
abbrev rM (K:za0)(x:V)(H:Hp)(k:Bool):Prop:=
 match x with
 | .AE=>k=false
 | .bl b=>k=b
 | .int i=>k=(i != 0)
 | .str y=>y.length<=sizeLine/\k=((y.length:Int) != 0)
 | .lV y=>y.size<=sizeLine/\k=((y.size:Int) != 0)
 | .ref p=>(∃xs,Du K H p xs/\k = !xs.isEmpty)\/(∃xs,EQ K H p xs/\k = !xs.isEmpty)\/∃kvs,H p=some (.dK kvs)/\k = !kvs.isEmpty
 |_=>False
def Tw {κ:Type}{kvs:List (κ×V)}{vs}(r:KV kvs vs):(!vs.isEmpty) = !kvs.isEmpty:=by
 cases r<;>rfl
def Md (r:Vals xs aa):(!aa.toArray.isEmpty) = !xs.isEmpty:=by
 cases r<;>simp
def Ke:(sizeLine:Nat)<2^63:=by rw[sizeLine_eq];decide
def mW:wA X (λ x H Q=>∃k,rM X.K x H k/\Q k H):=by
 intro pins s σ H x v Q I rx h;obtain⟨k,e,q⟩:=h;have hl:=Ke;have hs:sizeLine=16777216:=sizeLine_eq;cases x with
 |AE =>
  cases rx;have e':k=false:=e;subst e';exact truthy_none ⟨H,I,q⟩
 |bl b =>
  cases rx;have e':k=b:=e;subst e';exact wpAny_truthy_bool ⟨H,I,q⟩
 |int i =>
  obtain⟨t,rfl⟩:=rx;have e':k=(i != 0):=e;subst e';exact PySem.P.truthy_int ⟨H,I,q⟩
 |str y =>
  obtain⟨t,rfl⟩:=rx;obtain⟨hy,e'⟩:y.length<=sizeLine/\k=((y.length:Int) != 0):=e;subst e';exact PySem.P.truthy_str (by omega) ⟨H,I.tok _,q⟩
 |lV y =>
  obtain⟨t,rfl⟩:=rx;obtain⟨hy,e'⟩:y.size<=sizeLine/\k=((y.size:Int) != 0):=e;subst e';exact PySem.W.truthy_bytes (by omega) ⟨H,I.tok _,q⟩
 |ref p =>
  cases rx;have e':(∃xs,Du X.K H p xs/\k = !xs.isEmpty)\/(∃xs,EQ X.K H p xs/\k = !xs.isEmpty)\/∃kvs,H p=some (.dK kvs)/\k = !kvs.isEmpty:=e;rcases e' with ⟨xs,hx,e'⟩|⟨xs,hx,e'⟩|⟨kvs,hx,e'⟩
  ·subst e';obtain⟨aa,r,pl,hz⟩:=I.list hx;have hlen:=r.length;exact wpAny_truthy_list pl.isList (by simp only[zae];omega) ⟨H,I.tok _,by rw[Md r];exact q⟩
  ·subst e';obtain⟨aa,r,pl,hz⟩:=I.tuple hx;have hlen:=r.length;exact truthy_tuple pl (by simp only[zae];omega) ⟨H,I.tok _,by rw[Md r];exact q⟩
  ·subst e';obtain⟨hz,hS,vs,r,m⟩:kvs.length<=sizeLine/\(p==sysModules)=false/\∃vs,KV kvs vs/\s.heap.DictOf (Ba X.prog X.w) p vs:=I.Ar p _ hx;have hlen:kvs.length=vs.length:=Paired.length r;exact wpAny_truthy_dict hS m (by omega) ⟨H,I.tok _,by rw[Tw r];exact q⟩
 |_=>exact (show False from e).elim
def Ys (ha:PE X a ta)(he:∀whole,isTrue a X.env whole=(do let v <-whole;standAt a.pos;holding [v] (truthy v))):
 PT X a (λ σ H Q=>ta σ H λ x H'=>∃k,rM X.K x H' k/\Q k H'):=by
 intro pins s σ H Q I h;exact isTrue_plain (Bh (ha pins s σ H _ I h) λ v s1 ⟨x,H1,I1,r1,q1⟩=>mW pins s1 σ H1 x v Q I1 r1 q1) (he _)
def vals1 (r:Vals [x] us):∃u,us=[u]/\RelV x u:=by
 cases r with
 |cons r1 r2=>cases r2;exact⟨_,rfl,r1⟩
def vals2 (r:Vals [x,y] us):∃u w',us=[u,w']/\RelV x u/\RelV y w':=by
 cases r with
 |cons r1 r2 =>
  cases r2 with
  |cons r3 r4=>cases r4;exact⟨_,_,rfl,r1,r3⟩
def WB (hc:X.calm=true):FT X (.builtin "max") (λ xs H Q=>∃i j,xs=[.int i,.int j]/\Q (.int (if j > i then j else i)) H):=by
 intro pins s σ H xs us Q I r h;obtain⟨i,j,rfl,q⟩:=h;obtain⟨u,w',rfl,⟨t,rfl⟩,⟨t',rfl⟩⟩:=vals2 r;refine max_two_ints (I.ok.hd hc) λ h' tk k=>⟨_,H,I.kept k,?_,q⟩;by_cases hj:j > i
 ·rw[if_pos hj,if_pos hj];exact⟨_,rfl⟩
 ·rw[if_neg hj,if_neg hj];exact⟨_,rfl⟩
def WC:FT X (.type "int") (λ xs H Q=>(∃i,xs=[.int i]/\Q (.int i) H)\/∃k,xs=[.bl k]/\Q (.int (if k then 1 else 0)) H):=by
 intro pins s σ H xs us Q I r h;rcases h with ⟨i,rfl,q⟩|⟨k,rfl,q⟩
 ·obtain⟨u,rfl,t,rfl⟩:=vals1 r;exact call_int_int ⟨.int i,H,I,⟨_,rfl⟩,q⟩
 ·obtain⟨u,rfl,r1⟩:=vals1 r;cases r1;exact call_int_bool ⟨.int (if k then 1 else 0),H,I.tok _,⟨_,rfl⟩,q⟩
end
structure Tx (h:Heap)(x dx C:Addr)(mA:Str->Option Value):Prop where
 obj:h.get? x=some (zd2 C dx)
 ns:h.Ns1 dx mA
 ne:dx≠x
def WD {mA}(n:h.Ns1 dx mA):∃od,h.get? dx=some od/\∀name,PySem.W.lookIn name od=some (mA name):=by
 obtain⟨o,es,ep,ho,hd,hk,_,hm⟩:=n;refine⟨o,ho,λ name=>?_⟩;have e:=hm name;unfold nsFind findBy at e;rw[<-Array.find?_toList] at e;unfold PySem.W.lookIn;rw[hd];dsimp only;split
 ·rename_i y q;rw[q] at e;exact congrArg some e
 ·rename_i q;rw[q] at e;have a:es.toList.any (·.refKey)=false:=by
   rw[List.any_eq_false];intro y hy;obtain⟨z,t,nc⟩:=hk y (Array.mem_toList_iff.mp hy);simp[DictEntry.refKey,nc]
  have a':¬ es.toList.any (·.refKey)=true:=by rw[a];exact zao
  rw[if_neg a'];exact congrArg some e
def Tx.look {mA}(I:Tx h x dx C mA):∃od,PySem.W.InstAt h x (zd2 C dx) C (some od)/\∀name,PySem.W.lookIn name od=some (mA name):=
 let ⟨od,ho,hl⟩:=WD I.ns
 ⟨od,⟨I.obj,rfl,rfl,ho⟩,hl⟩
section
variable {prog:Program}{K:za0}{x f:Addr}{mA:Str->Option Value}{name:Str}{v:Value}
def get_map (X:K.In s.heap)(I:Tx s.heap x dx C mA)(hg:PySem.W.plainGet K C name=true)(hh:PySem.W.hasDictIn K C=true)(ha:zbe K (.ref C) name=some none)(hv:mA name=some v)(ng:PySem.W.handedIn v=true)(h:Q v {s with toks:=s.toks+1}):
 wpAny (model prog w) A (getAttr (.ref x) name expr) Q E s:=by
 obtain⟨od,J,hl⟩:=I.look;exact PySem.W.get_value X J (PySem.W.plainGet_of hg).1 (PySem.W.findObj_own hh ha rfl (by rw[hl,hv])) ng h
def Yt (X:K.In s.heap)(I:Tx s.heap x dx C mA)(hg:PySem.W.plainGet K C name=true)(hf:zbe K (.ref C) name=some (some (.ref f)))(ht:PySem.W.isFn K (.ref f)=true)(hv:mA name=none)(h:Q (.ref f,[.ref x]) s):
 wpAny (model prog w) A (getMethod (.ref x) name pl) Q E s:=by
 obtain⟨od,J,hl⟩:=I.look;exact PySem.W.method_fn X J (PySem.W.plainGet_of hg).1 (PySem.W.plainGet_of hg).2 hf (beq_iff_eq.mp ht) (by show (PySem.W.lookIn name od).map (·.isSome)=some false;rw[hl,hv];rfl) h
def eY (X:K.In s.heap)(I:Tx s.heap x dx C mA)(hs:zbe K (.ref C) "__setattr__" = some (some (.builtin "object.__setattr__")))(hp:PySem.W.plainOver K C=true)(ht:PySem.W.takerIn K C name=some none)(hh:PySem.W.hasDictIn K C=true)(hw:PySem.Within mA ns)(hsz:ns.length<=sizeLine)(h:∀h',Tx h' x dx C (λ y=>if y=name then some v else mA y)->zcn dx s.heap h'->Q () {s with heap:=h',toks:=s.toks+2}):
 wpAny (model prog w) A (setAttr (.ref x) name v) Q E s:=by
 obtain⟨od,J,hl⟩:=I.look;refine PySem.W.set_plain X J hs (PySem.W.osa_open (s:={s with toks:=s.toks+1}) (r:=none) X J hp ht λ b=>?_);obtain⟨cd,hc,aS⟩:=PySem.W.any_some hh;have hx:s.heap.get? x=some ⟨.ref C,some dx,.plain,#[]⟩:=I.obj;refine wpAny_bind (wpAny_pure (wpAny_bind (wpAny_bind (wpAny_loadPart hx (wpAny_bind (PySem.W.Looks.here (s:={s with toks:=s.toks+1}) (PySem.W.looks_clsIn X hc) ?_))))));rw[aS];refine wpAny_pure (a:=some dx) (wpAny_bind (wpAny_pure (wpAny_bind ?_)));refine wpAny_nsSet1 (s:={s with toks:=s.toks+1}) I.ns λ h' aF a8=>?_;obtain⟨oD,zT,zU,vp,vq,vt⟩:=aF.count (PySem.Within.cons name v hw);refine wpAny_bind (wpAny_lookBehind vp (by rw[vq];exact pastItsLine_dict (zbl vt (by rw[za9];omega))) ?_);exact wpAny_pure (h _ ⟨(a8.2 _ (zbn I.ne)).trans I.obj,aF,I.ne⟩ a8)
def Yu (X:K.In s.heap)(hm:PySem.W.makesIn K C=true)(hi:zbe K (.ref C) "__init__" = some (some (.ref f)))(hf:PySem.W.typeIn K (.ref f)=some (.type "function"))(h:codeAny (model prog w) (A.under (.builtin "type.__call__" ⟨.ref C::vs,kw⟩)) (.call (.ref f) ⟨.ref (s.heap.objs.size+1)::vs,kw⟩) (PySem.W.InitBack (s.heap.objs.size+1) R)
  {s with heap:=(s.heap.push zca).push (zd2 C s.heap.objs.size)}):
 codeAny (model prog w) A (.call (.ref C) ⟨vs,kw⟩) R s:=by
 obtain⟨hh,g,d,t,os⟩:=s;exact PySem.W.make_core (PySem.W.makes_of X hm) (PySem.W.looks_findIn X hi) (λ self=>PySem.W.bind_fn X self hf) (.inl rfl) h
end
abbrev Ee (f:Str)(v:V):List (Str×V)->List (Str×V)
 |[]=>[(f,v)]
 |(g,x)::r=>if g=f then (g,v)::r else (g,x)::Ee f v r
def KQ (f g:Str)(v:V):∀fs:List (Str×V),(Ee f v fs).lookup g=if g=f then some v else fs.lookup g
 |[]=>by
  show List.lookup g [(f,v)]=_;by_cases h:g=f
  ·have hb:(g==f)=true:=beq_iff_eq.mpr h;simp only[List.lookup,hb,if_pos h]
  ·have hb:(g==f)=false:=beq_eq_false_iff_ne.mpr h;simp only[List.lookup,hb,if_neg h]
 |(k,x)::r=>by
  have ih:=KQ f g v r;rw[show Ee f v ((k,x)::r)=(if k=f then (k,v)::r else (k,x)::Ee f v r) from rfl];by_cases hk:k=f
  ·rw[if_pos hk];by_cases h:g=k
   ·have hb:(g==k)=true:=beq_iff_eq.mpr h;simp only[List.lookup,hb,if_pos (h.trans hk)]
   ·have hb:(g==k)=false:=beq_eq_false_iff_ne.mpr h;simp only[List.lookup,hb,if_neg (λ e:g=f=>h (e.trans hk.symm))]
  ·rw[if_neg hk];by_cases h:g=k
   ·have hb:(g==k)=true:=beq_iff_eq.mpr h;simp only[List.lookup,hb,if_neg (λ e:g=f=>hk (h.symm.trans e))]
   ·have hb:(g==k)=false:=beq_eq_false_iff_ne.mpr h;simp only[List.lookup,hb];exact ih
def Kf (f:Str)(v:V):∀fs:List (Str×V),f∈(Ee f v fs).map (·.1)/\∀g,g∈fs.map (·.1)->g∈(Ee f v fs).map (·.1)
 |[]=>⟨by simp[Ee],λ g h=>by simp at h⟩
 |(k,x)::r=>by
  obtain⟨i1,i2⟩:=Kf f v r;rw[show Ee f v ((k,x)::r)=(if k=f then (k,v)::r else (k,x)::Ee f v r) from rfl];by_cases hk:k=f
  ·rw[if_pos hk];subst hk;exact⟨by simp,λ g h=>by simpa using h⟩
  ·rw[if_neg hk];refine⟨?_,λ g h=>?_⟩
   ·rw[za6];exact za4 _ i1
   ·rw[za6] at h ⊢;rcases zab.mp h with e|e
    ·exact zab.mpr (.inl e)
    ·exact za4 _ (i2 g e)
def KR (f:Str)(v:V):∀fs:List (Str×V),(Ee f v fs).length<=fs.length+1
 |[]=>by simp[Ee]
 |(k,x)::r=>by
  have ih:=KR f v r;rw[show Ee f v ((k,x)::r)=(if k=f then (k,v)::r else (k,x)::Ee f v r) from rfl];by_cases hk:k=f
  ·rw[if_pos hk,za9,za9];omega
  ·rw[if_neg hk,za9,za9];omega
def G1.some_of (r:G1 (some v) o):∃u,o=some u/\RelV v u:=by
 cases o with
 |none=>exact (show False from r).elim
 |some u=>exact⟨u,rfl,r⟩
def G1.none_of (r:G1 none o):o=none:=by
 cases o with
 |none=>rfl
 |some u=>exact (show False from r).elim
def WE (r:RelV v u):PySem.W.handedIn u=true:=by
 cases v with
 |AE=>cases (show u=zdc from r);rfl
 |bl b=>cases (show u=Value.bool b from r);rfl
 |int i=>obtain⟨t,e⟩:=(show ∃t,u=zck i t from r);cases e;rfl
 |str x=>obtain⟨t,e⟩:=(show ∃t,u=Value.str x t from r);cases e;rfl
 |lV b=>obtain⟨t,e⟩:=(show ∃t,u=Value.bytes b t from r);cases e;rfl
 |qP b=>obtain⟨t,e⟩:=(show ∃t,u=Value.float b t from r);cases e;rfl
 |ref a=>cases (show u=zbh a from r);rfl
 |ty n=>cases (show u=zcm n from r);rfl
section
variable {P:Program}{a:Addr}{fs bP:List (Str×V)}
def PF (Ar:G5 P w H h)(e:H a=some (.ins C dx fs)):∃mA,Tx h a dx C mA/\(∀f,G1 (fs.lookup f) (mA f))/\PySem.Within mA (fs.map (·.1))/\fs.length<=1000/\H dx=some (.own a):=by
 obtain⟨d,z,ne,ob,mA,n,r,q⟩:=(show BQ P w H h a (.ins C dx fs) from Ar a _ e);exact⟨mA,⟨ob,n,ne⟩,r,q,z,d⟩
end
structure WG (K:za0)(C:Addr):Prop where
 pg:PySem.W.plainGet K C Str.empty=true
 hd:PySem.W.hasDictIn K C=true
 po:PySem.W.plainOver K C=true
 sa:zbe K (.ref C) "__setattr__" = some (some (.builtin "object.__setattr__"))
def WG.get {K}(c:WG K C)(f:Str):PySem.W.plainGet K C f=true:=c.pg
abbrev HQ (K:za0)(C:Addr)(f:Str):Prop:=zbe K (.ref C) f=some none
def HQ.rN {K}(n:HQ K C f):PySem.W.takerIn K C f=some none:=by
 unfold PySem.W.takerIn;rw[show zbe K (.ref C) f=some none from n];rfl
structure Meth (K:za0)(C:Addr)(m:Str)(f:Addr):Prop where
 at_:zbe K (.ref C) m=some (some (.ref f))
 fn:PySem.W.isFn K (.ref f)=true
 kp:zbd K (.ref f)=true
section
variable {a:Addr}{fs:List (Str×V)}{f:Str}{v:V}
def Tz (I:Inv X pins σ H s)(e:H a=some (.ins C dx fs))(c:WG X.K C)(n:HQ X.K C f)(l:fs.lookup f=some v)(h:∀u s',Inv X pins σ H s'->RelV v u->Q u s'):wpAny (model X.prog X.w) A (getAttr (.ref a) f b) Q E s:=by
 obtain⟨mA,O,r,_,_,_⟩:=PF I.Ar e;obtain⟨u,hu,ru⟩:=G1.some_of (v:=v) (o:=mA f) (by rw[<-l];exact r f);exact get_map I.LB O (c.get f) c.hd n hu (WE ru) (h u _ (I.tok _) ru)
def Me (I:Inv X pins σ H s)(e:H a=some (.ins C dx fs))(c:WG X.K C)(k:Meth X.K C m g)(l:fs.lookup m=none)(h:Q (.ref g,[.ref a]) s):wpAny (model X.prog X.w) A (getMethod (.ref a) m pl) Q E s:=by
 obtain⟨mA,O,r,_,_,_⟩:=PF I.Ar e;have hn:mA m=none:=G1.none_of (by rw[<-l];exact r m);exact Yt I.LB O (c.get m) k.at_ k.fn hn h
def TB (I:Inv X pins σ H s)(e:H a=some (.ins C dx fs))(c:WG X.K C)(n:HQ X.K C f)(hl:fs.length<1000)(ry:RelV y u)(h:∀s',Inv X pins σ (upd H a (.ins C dx (Ee f y fs))) s'->Q () s'):wpAny (model X.prog X.w) A (setAttr (.ref a) f u) Q E s:=by
 obtain⟨mA,O,r,wi,_,ho⟩:=PF I.Ar e;have hz:(fs.map (·.1)).length<=sizeLine:=by rw[za2,sizeLine_eq];omega
 refine eY I.LB O c.sa c.po n.rN c.hd wi hz λ h' O' sb=>h _ ?_;have hd:∃o,h'.get? dx=some o:=let ⟨o,_,_,e',_⟩:=O'.ns;⟨o,e'⟩;refine I.write (x:=a) (e:=dx) (by rw[e];exact zdf) (.inr ho) (λ b q hb z=>(sb.2 b hb).trans z) hd ?_;refine⟨by rw[Ai O.ne];exact ho,?_,O.ne,O'.obj,_,O'.ns,λ g=>?_,λ g hg=>?_⟩
 ·have:=KR f y fs;omega
 ·show G1 ((Ee f y fs).lookup g) (if g=f then some u else mA g);rw[KQ];by_cases q:g=f
  ·rw[if_pos q,if_pos q];exact ry
  ·rw[if_neg q,if_neg q];exact r g
 ·by_cases q:g=f
  ·rw[q];exact (Kf f y fs).1
  ·refine (Kf f y fs).2 g (wi g λ z=>hg ?_);show (if g=f then some u else mA g)=none;rw[if_neg q];exact z
def Inv.made (I:Inv X pins σ H s):Inv X pins σ (upd (upd H s.heap.objs.size (.own (s.heap.objs.size+1))) (s.heap.objs.size+1) (.ins C s.heap.objs.size []))
 {s with heap:=(s.heap.push zca).push (zd2 C s.heap.objs.size)}:=by
 have e1:(s.heap.push zca).get? s.heap.objs.size=some zca:=zaj s.heap rfl;have e2:((s.heap.push zca).push (zd2 C s.heap.objs.size)).get? (s.heap.objs.size+1)=some (zd2 C s.heap.objs.size):=by
  have:=zaj (s.heap.push zca) (o:=zd2 C s.heap.objs.size) rfl;rwa[zd0] at this
 have e3:(s.heap.push zca).Ns s.heap.objs.size (λ _=>none):=⟨zca,#[],_,e1,rfl,(λ e he=>absurd he (by simp)),λ _=>rfl⟩;have I1:=I.laid (a:=s.heap.objs.size) (o:=.own (s.heap.objs.size+1)) (h':=s.heap.push zca) (t':=s.toks) (λ b u q=>za5 _ q) (zag _) ⟨_,e1⟩;refine I1.laid (a:=s.heap.objs.size+1) (o:=.ins C s.heap.objs.size []) (t':=s.toks) (λ b u q=>za5 _ q) (Nat.le_of_eq (zd0 _ _)) ?_;have ne:s.heap.objs.size≠s.heap.objs.size+1:=zap (Nat.lt_succ_self _);refine⟨by rw[Ai ne,Aq],zb0 _,ne,e2,λ _=>none,(Heap.Ns1.of_empty e3).at λ o q=>za5 _ q,λ _=>zdf,λ y hy=>absurd rfl hy⟩
def eZ (hb:attributeBase e f env (eval e env)=eval e env)(h:wpAny (model prog w) A (eval e env) (λ o s₁=>wpAny (model prog w) A (getAttr o f true) Q E s₁) E s):wpAny (model prog w) A (eval (.Attribute e f pos) env) Q E s:=
 Attribute_any_ h (by rw[arm_eval_Attribute,hb])
end
abbrev wB (K:za0)(ta:TE)(f:Str):TE:=λ σ H Q=>ta σ H λ x H1=>∃a C dx fs v,x=.ref a/\H1 a=some (.ins C dx fs)/\WG K C/\HQ K C f/\fs.lookup f=some v/\Q v H1
abbrev wC (K:za0)(ta tv:TE)(f:Str):TS:=λ D σ H=>tv σ H λ y H1=>ta σ H1 λ x H2=>∃a C dx fs,x=.ref a/\H2 a=some (.ins C dx fs)/\WG K C/\HQ K C f/\fs.length<1000/\
 D.nx σ (upd H2 a (.ins C dx (Ee f y fs)))
section
variable {o value:Expr}{f:Str}{pos' bt:Pos}{tv:TE}
def mX (he:PE X e ta)(hb:attributeBase e f X.env (eval e X.env)=eval e X.env):PE X (.Attribute e f pos) (wB X.K ta f):=by
 intro pins s σ H Q I h;refine eZ hb (Bh (he pins s σ H _ I h) λ u s1 zz=>?_);obtain⟨x,H1,I1,rx,a,C,dx,fs,v,ex,ea,c,n,l,q⟩:=zz;subst ex;obtain rfl:u=zbh a:=rx;exact Tz I1 ea c n l λ u' s2 I2 ru=>⟨v,H1,I2,ru,q⟩
def mY (ha:PE X o ta)(hv:PE X value tv)(hs:swapsWith value (some (.Attribute o f pos')) pos.line X.env=pure false):PS X (.Assign [.Attribute o f pos'] value pos) (wC X.K ta tv f):=by
 intro pins s σ H D I h;refine plainObj_wpAny_Assign_Attribute (Bh (hv pins s σ H _ I h) λ u s1 ⟨y,H1,I1,ry,q⟩=>Bh (ha pins s1 σ H1 _ I1 q) λ ov s2 zz=>?_) hs;obtain⟨x,H2,I2,rx,a,C,dx,fs,ex,ea,c,n,l,q2⟩:=zz;subst ex;obtain rfl:ov=zbh a:=rx;exact TB I2 ea c n l ry λ s3 I3=>⟨σ,_,I3,q2⟩
end
structure Bp (k:Nat)(A:Around):Prop where
 hd:A.handled=none
 dp:A.depth+3*k+5<recursionLimit
 un:A.units+16*k+200<cLine
def Bp.mono (r:Bp k A)(h:j<=k):Bp j A:=⟨r.hd,by have:=r.dp;omega,by have:=r.un;omega⟩
def Bp.deeper (r:Bp (k+1) A)(env:Env):Bp k (A.deeper env):=
 ⟨r.hd,by have:=r.dp;show A.depth+1+3*k+5<_;omega,by have:=r.un;show A.units+3+16*k+200<_;omega⟩
def TC:(A.under (.builtin "type.__call__" ⟨.ref C::us,kw⟩)).depth=A.depth+1:=by
 first|rfl|simp[Around.under,Code.weight,Code.isCreation,Code.isGuard,Code.isCaller,Code.frames,Code.isFrame,guardIds]
def TF:(A.under (.builtin "type.__call__" ⟨.ref C::us,kw⟩)).units=A.units+1:=by
 first|rfl|simp[Around.under,Code.cUnits,Code.frames,Code.isFrame]
def Bp.make (r:Bp (k+1) A)(C:Addr)(us:List Value)(kw:List (Str×Value)):Bp k (A.under (.builtin "type.__call__" ⟨.ref C::us,kw⟩)):=
 ⟨r.hd,by have:=r.dp;rw[TC];omega,by have:=r.un;rw[TF];omega⟩
def Bp.depth (r:Bp k A):A.depth<recursionLimit:=by have:=r.dp;omega
def Bp.units (r:Bp k A):A.units+64<cLine:=by have:=r.un;omega
abbrev mZ:TA:=λ _ H Q=>Q [] H
abbrev kR (ta:TE)(tr:TA):TA:=λ σ H Q=>ta σ H λ x H1=>tr σ H1 λ xs H2=>Q (x::xs) H2
section
variable {t:TA}
def CD:PA X [] mZ:=λ _ _ _ _ H Q I h=>zcc ⟨[],H,I,.nil,h⟩
def Bu (ha:PE X e te)(hr:PA X es t)(hs: ~~~(starEach (e::es) X.env=(false,eval e X.env)::starEach es X.env)):PA X (e::es) (kR te t):=by
 intro pos pins s σ H Q I h;rw[hs];show wpAny _ _ (spliced ((false,eval e X.env)::backTo pos (starEach es X.env))) _ _ s;refine zc6 (Bh (ha pins s σ H _ I h) λ u s1 zz=>?_);obtain⟨x,H1,I1,r1,q1⟩:=zz;exact Bh (hr pos pins s1 σ H1 _ I1 q1) λ us s2 ⟨xs,H2,I2,r2,q2⟩=>⟨x::xs,H2,I2,.cons r1 r2,q2⟩
abbrev wD (t:TA):TE:=λ σ H Q=>t σ H λ xs H1=>xs.length<=sizeLine/\∀p,H1 p=none->Q (.ref p) (upd H1 p (.tup xs))
abbrev wF (t:TA):TE:=λ σ H Q=>t σ H λ xs H1=>xs.length<=sizeLine/\∀p,H1 p=none->Q (.ref p) (upd H1 p (.lst xs))
def Yv {x1}(h:PA X es t):PE X (.Tuple es x1 pos) (wD t):=by
 intro pins s σ H Q I hq;refine wpAny_Tuple_spliced (Bh (h pos pins s σ H _ I hq) λ us s1 ⟨xs,H1,I1,r,z,q⟩=>⟨by rw[<-r.length];exact z,?_⟩);have hf:H1 s1.heap.objs.size=none:=I1.Ar.fresh (zag _);refine⟨.ref s1.heap.objs.size,upd H1 s1.heap.objs.size (.tup xs),I1.laid (t':=s1.toks) (λ b u e=>za5 _ e) (zag _) ?_,rfl,q _ hf⟩;exact⟨z,us,r,⟨_,zaj _ rfl,rfl,_,rfl⟩⟩
def PH (h:PA X es t):PE X (.List es pos) (wF t):=by
 intro pins s σ H Q I hq;refine wpAny_List_spliced (Bh (h pos pins s σ H _ I hq) λ us s1 ⟨xs,H1,I1,r,z,q⟩=>⟨by rw[<-r.length];exact z,?_⟩);have hf:H1 s1.heap.objs.size=none:=I1.Ar.fresh (zag _);refine⟨.ref s1.heap.objs.size,upd H1 s1.heap.objs.size (.lst xs),I1.laid (t':=s1.toks) (λ b u e=>za5 _ e) (zag _) ?_,rfl,q _ hf⟩;exact⟨z,us,0,r,zaj _ rfl⟩
end
noncomputable abbrev Sp:=List V->Hp->VK->XK->Prop
variable {sp:Sp}
noncomputable abbrev TH:=List Env->Hp->Shared->XK->Value->Shared->Prop
structure TJ (P:Program)(w:World)(K:za0)(mg:Str->Option Value)(base:Heap)(A:Around)(outer:List Env)(s:Shared)(H:Hp):Prop where
 frames:A.frames=some outer
 mod:Mod K mg base
 bs:∀b o,base.get? b=some o->s.heap.get? b=some o/\H b=none
 eN:base.objs.size<=s.heap.objs.size
 Kd:s.heap.FunFrames base outer
 lY:∀b∈Y2 outer,H b=none
 Ar:G5 P w H s.heap
 bare:AllBare s.gens
variable {CX:TH}
abbrev CE (outer:List Env)(P:Program)(w:World)(H:Hp)(s:Shared)(Q:VK)(u:Value)(s':Shared):Prop:=
 ∃v H',s'.os=s.os/\AllBare s'.gens/\Un (Y2 outer) [] H H' s.heap s'.heap/\G5 P w H' s'.heap/\RelV v u/\Q v H'
abbrev CR (CX:TH)(outer:List Env)(P:Program)(w:World)(H:Hp)(s:Shared)(Q:VK)(E:XK)(r:Result)(s':Shared):Prop:=
 match r with
 | .ok (.ret u)=>CE outer P w H s Q u s'
 | .ok _=>False
 | .error e=>CX outer H s E e s'
structure D5 (P:Program)(w:World)(K:za0)(mg:Str->Option Value)(base:Heap)(CX:TH)(k:Nat)(f:Addr)(fd:FuncData)(ps:List Str)(sp:Sp):Prop where
 len:∀vs H Q E,sp vs H Q E->vs.length=ps.length
 run:∀(A:Around) (outer:List Env) (s:Shared) (H:Hp) (args:Args) (us:List Value) (vs:List V) (Q:VK) (E:XK),Bp k A->TJ P w K mg base A outer s H->BindsTo s fd args (ps.zip us)->Vals vs us->sp vs H Q E->
  codeAny (model P w) A (.call (.ref f) args) (CR CX outer P w H s Q E) s
def TJ.make {K}(e:TJ P w K mg base A outer s H)(C:Addr)(us:List Value)(kw:List (Str×Value)):
 TJ P w K mg base (A.under (.builtin "type.__call__" ⟨.ref C::us,kw⟩)) outer s H:=⟨by first|exact e.frames|(simpa [Around.under,Code.envs,Code.isFrame,pushEnvs] using e.frames),e.mod,e.bs,e.eN,e.Kd,e.lY,e.Ar,e.bare⟩
section
variable {s':Shared}
def Inv.nA (I:Inv X pins σ H s):TJ X.prog X.w X.K X.mg X.base X.A X.stack s H:=
 ⟨I.ok.frames,I.ok.mod,I.bs,zbl I.ok.eN I.sz,I.stack,I.V2,I.Ar,I.bare⟩
def Inv.after (I:Inv X pins σ H s)(h:CE X.stack X.prog X.w H s Q u s'):EP X pins σ Q u s':=by
 obtain⟨v,H',os,bare,un,Ar,r,q⟩:=h;obtain⟨hh,g,d,t,vw⟩:=s';obtain rfl:vw=s.os:=os;exact⟨v,H',I.call (h':=hh) (g':=g) (d':=d) (t':=t) (ch:=[]) un Ar bare (λ b z=>absurd z (by simp)),r,q⟩
end
abbrev rO (sp:Sp)(dvs:List V)(E:XK)(t:TA):TE:=λ σ H Q=>t σ H λ vs H1=>sp (vs++dvs) H1 Q E
abbrev rQ (C:Addr)(sp:Sp)(dvs:List V)(E:XK)(t:TA):TE:=λ σ H Q=>t σ H λ vs H1=>∀x dx,H1 x=none->H1 dx=none->dx≠x->
 sp (.ref x::(vs++dvs)) (upd (upd H1 dx (.own x)) x (.ins C dx [])) (λ v H2=>v=.AE/\Q (.ref x) H2) E
abbrev Binds (K:za0)(fd:FuncData)(ps:List Str)(ds:List Value):Prop:=
 ∀(s:Shared) (us:List Value),K.In s.heap->(us++ds).length=ps.length->BindsTo s fd ⟨us,[]⟩ (ps.zip (us++ds))
def Binds.all {K}(h:∀us:List Value,us.length=ps.length->bindArgs fd ⟨us,[]⟩=pure (ps.zip us)):Binds K fd ps []:=λ s us _ hl=>by
 rw[zbk] at hl ⊢;exact .of_eq (h us hl)
abbrev Gb (CX:TH)(X:Cx)(E:XK):Prop:=∀(pins:List (Addr×Obj)) (σ:St) (H:Hp) (s:Shared) (e:Value) (s':Shared),Inv X pins σ H s->CX X.stack H s E e s'->X.xe e s'
section
variable {k:Nat}{f:Addr}{dvs:List V}{ds:List Value}{E:XK}{x m:Str}{p:Pos}{o:Expr}{t:TA}
def TK (F:D5 X.prog X.w X.K X.mg X.base CX k f fd ps sp)(hr:Bp k X.A)(hb:Binds X.K fd ps ds)(hd:Vals dvs ds)(hx:Gb CX X E)(I:Inv X pins σ H s)(r:Vals vs us)(h:sp (vs++dvs) H Q E):wpAny (model X.prog X.w) X.A (call (.ref f) us) (EP X pins σ Q) X.xe s:=by
 have r2:Vals (vs++dvs) (us++ds):=r.append hd;have hl:(us++ds).length=ps.length:=by rw[<-r2.length];exact F.len _ _ _ _ h
 refine wpAny_call (codeAny_mono (F.run X.A X.stack s H ⟨us,[]⟩ (us++ds) (vs++dvs) Q E hr I.nA (hb s us I.LB hl) r2 h) λ r s' hq=>?_);cases r with
 |error e=>exact hx pins σ H s e s' I hq
 |ok fl =>
  cases fl with
  |ret u=>exact I.after hq
  |next|brk|cont=>exact zcj hq
def PJ (F:D5 X.prog X.w X.K X.mg X.base CX k f fd ps sp)(hr:Bp k X.A)(hg:Gl X x)(hm:X.mg x=some (.ref f))(hk:zbd X.K (.ref f)=true)(hb:Binds X.K fd ps ds)(hd:Vals dvs ds)(hx:Gb CX X E)(ha:PA X (e::es) t)(aK:(x==("__debug__" : Str))=false:=by decide)(he: ~~~(starEach (e::es) X.env=(false,eval e X.env)::starEach es X.env))(hpl: ~~~((backTo pos (starEach es X.env)).any (·.1)=false)):
 PE X (.Call (.Name x p) (e::es) [] pos) (rO sp dvs E t):=by
 intro pins s σ H Q I h;refine wpAny_Call_Name_kw (PB I hg hm ?_ aK);refine PySem.W.callWith_K (h₀:=X.base) I.ok.mod.Y8 hk (Bh (ha pos pins s σ H _ I h) λ us s1 ⟨vs,H1,I1,r,q⟩=>⟨I1.LB,?_⟩) he hpl;exact TK F hr hb hd hx I1 r q
structure Mk (K:za0)(C f:Addr):Prop where
 makes:PySem.W.makesIn K C=true
 init:zbe K (.ref C) "__init__" = some (some (.ref f))
 fn:PySem.W.isFn K (.ref f)=true
 kp:zbd K (.ref C)=true
def Yw (M:Mk X.K C f)(F:D5 X.prog X.w X.K X.mg X.base CX k f fd ps sp)(hr:Bp (k+1) X.A)(hb:Binds X.K fd ps ds)(hd:Vals dvs ds)(hx:Gb CX X E)(I:Inv X pins σ H s)(r:Vals vs us)(h:∀x dx,H x=none->H dx=none->dx≠x->sp (.ref x::(vs++dvs)) (upd (upd H dx (.own x)) x (.ins C dx [])) (λ v H2=>v=.AE/\Q (.ref x) H2) E):
 wpAny (model X.prog X.w) X.A (call (.ref C) us) (EP X pins σ Q) X.xe s:=by
 have hq:=h (s.heap.objs.size+1) s.heap.objs.size (I.Ar.fresh (zd3 _)) (I.Ar.fresh (zag _)) (zap (Nat.lt_succ_self _));have I2:=Inv.made (C:=C) I;have r2:Vals (V.ref (s.heap.objs.size+1)::(vs++dvs)) (zbh (s.heap.objs.size+1)::(us++ds)):=.cons rfl (r.append hd);have hl:(zbh (s.heap.objs.size+1)::us++ds).length=ps.length:=by
  have e:=r2.length;rw[F.len _ _ _ _ hq] at e;exact e.symm
 refine wpAny_call (Yu (f:=f) I.LB M.makes M.init (beq_iff_eq.mp M.fn) (codeAny_mono (F.run _ X.stack _ _ ⟨zbh (s.heap.objs.size+1)::us,[]⟩ (zbh (s.heap.objs.size+1)::(us++ds)) _ _ E (hr.make C us [])
  (I2.nA.make C us []) (hb _ (zbh (s.heap.objs.size+1)::us) I2.LB hl) r2 hq) λ r s' e9=>?_))
 cases r with
 |error e=>exact hx pins σ _ _ e s' I2 e9
 |ok fl =>
  cases fl with
  |ret u =>
   obtain⟨v,H',I3,rv,ev,q3⟩:=I2.after e9;subst ev;exact⟨rv,⟨V.ref (s.heap.objs.size+1),H',I3,rfl,q3⟩⟩
  |next|brk|cont=>exact zcj e9
def V5 (M:Mk X.K C f)(F:D5 X.prog X.w X.K X.mg X.base CX k f fd ps sp)(hr:Bp (k+1) X.A)(hg:Gl X x)(hm:X.mg x=some (.ref C))(hb:Binds X.K fd ps ds)(hd:Vals dvs ds)(hx:Gb CX X E)(ha:PA X (e::es) t)(aK:(x==("__debug__" : Str))=false:=by decide)(he: ~~~(starEach (e::es) X.env=(false,eval e X.env)::starEach es X.env))(hpl: ~~~((backTo pos (starEach es X.env)).any (·.1)=false)):
 PE X (.Call (.Name x p) (e::es) [] pos) (rQ C sp dvs E t):=by
 intro pins s σ H Q I h;refine wpAny_Call_Name_kw (PB I hg hm ?_ aK);refine PySem.W.callWith_K (h₀:=X.base) I.ok.mod.Y8 M.kp (Bh (ha pos pins s σ H _ I h) λ us s1 ⟨vs,H1,I1,r,q⟩=>⟨I1.LB,?_⟩) he hpl;exact Yw M F hr hb hd hx I1 r q
end
abbrev PK (X:Cx)(i4:List Keyword)(t:TA):Prop:=
 ∀(pos:Pos) (pins:List (Addr×Obj)) (s:Shared) (σ:St) (H:Hp) (Q:List V->Hp->Prop),Inv X pins σ H s->t σ H Q->wpAny (model X.prog X.w) X.A (evalAll ((backToKw pos (keywordEach i4 X.env)).map (·.2))) (AP X pins σ Q) X.xe s
section
variable {k:Nat}{f:Addr}{ks:List Str}{E:XK}{x m:Str}{p aN:Pos}{o:Expr}{i4:List Keyword}{t tk:TA}{nm:Option Str}
def nB:PK X [] mZ:=λ _ _ _ _ H Q I h=>wpAny_evalAll_nil ⟨[],H,I,.nil,h⟩
def fA (ha:PE X e te)(hr:PK X i4 t):PK X (⟨nm,e,aN⟩::i4) (kR te t):=by
 intro pos pins s σ H Q I h;show wpAny _ _ (evalAll ((do let v <-eval e X.env;standAt pos;pure v)::(backToKw pos (keywordEach i4 X.env)).map (·.2))) _ _ s;refine wpAny_evalAll_cons (wpAny_bind (Bh (ha pins s σ H _ I h) λ u s1 ⟨x,H1,I1,r1,q1⟩=>wpAny_bind (wpAny_standAt (wpAny_pure ?_))));exact Bh (hr pos pins s1 σ H1 _ I1 q1) λ us s2 ⟨xs,H2,I2,r2,q2⟩=>⟨x::xs,H2,I2,.cons r1 r2,q2⟩
variable {g:List Value->List Value->List Value}{gV:List V->List V->List V}
end
structure Ad (N P:List Str)(sc:Scope):Prop where
 kind:sc.kind=.function
 co:sc.isCoroutine=false
 gen:sc.isGenerator=false
 nd:N.Nodup
 pre:N.take P.length=P
 xO:∀x∈P,sc.names.lookup x=some .local\/sc.names.lookup x=some .cell
 nE:∀y∈sc.names,y.2≠.free
def Om {kindOf}:∀ {binds:List (Str×Value)}{m:Str->Option Value},(∀v,(x,v)∉binds)->bindL kindOf binds m x=m x
 |[],_,_=>rfl
 |(n,v)::r,m,h=>by
  unfold bindL;rw[Om λ w hw=>h w (za4 _ hw)];split
  ·have:x≠n:=by rintro rfl;exact h v za3
   simp[this]
  ·rfl
def Oo {kindOf}:∀ {binds:List (Str×Value)}{m:Str->Option Value},(∀v,(x,v)∉binds)->bindC kindOf binds m x=m x
 |[],_,_=>rfl
 |(n,v)::r,m,h=>by
  unfold bindC;rw[Oo λ w hw=>h w (za4 _ hw)];split
  ·rfl
  ·have:x≠n:=by rintro rfl;exact h v za3
   simp[this]
def Oq {kindOf:Str->Option NameKind}{x:Str}{v:Value}:∀ {P:List Str}{vs:List Value}{i:Nat}{m:Str->Option Value},P.Nodup->P[i]?=some x->vs[i]?=some v->kindOf x=some .local->
 bindL kindOf (P.zip vs) m x=some v
 |[],_,_,_,_,h,_,_|_::_,[],_,_,_,_,h,_=>by simp at h
 |p::P,w::vs,0,m,nd,h1,h2,hk=>by
  simp at h1 h2;subst h1;subst h2;show bindL kindOf ((p,w)::P.zip vs) m p=_;unfold bindL;rw[Om λ v hv=>(zbg.mp nd).1 (List.of_mem_zip hv).1,if_pos hk];simp
 |p::P,w::vs,i+1,m,nd,h1,h2,hk=>by
  show bindL kindOf ((p,w)::P.zip vs) m x=_;unfold bindL;exact Oq (i:=i) (zbg.mp nd).2 (by simpa using h1) (by simpa using h2) hk
def Ot {kindOf:Str->Option NameKind}{x:Str}{v:Value}:∀ {P:List Str}{vs:List Value}{i:Nat}{m:Str->Option Value},P.Nodup->P[i]?=some x->vs[i]?=some v->kindOf x≠some .local->
 bindC kindOf (P.zip vs) m x=some v
 |[],_,_,_,_,h,_,_|_::_,[],_,_,_,_,h,_=>by simp at h
 |p::P,w::vs,0,m,nd,h1,h2,hk=>by
  simp at h1 h2;subst h1;subst h2;show bindC kindOf ((p,w)::P.zip vs) m p=_;unfold bindC;rw[Oo λ v hv=>(zbg.mp nd).1 (List.of_mem_zip hv).1,if_neg hk];simp
 |p::P,w::vs,i+1,m,nd,h1,h2,hk=>by
  show bindC kindOf ((p,w)::P.zip vs) m x=_;unfold bindC;exact Ot (i:=i) (zbg.mp nd).2 (by simpa using h1) (by simpa using h2) hk
abbrev start (N:List Str)(vs:List V):St:=vs.map some++zai (N.length-vs.length) none
abbrev Rl (CX:TH)(P:Program)(w:World)(K:za0)(mg:Str->Option Value)(base:Heap)(N:List Str)(qual:Str)(scope:Scope)(f:Addr)(cd:Value)(A:Around)(outer:List Env)(s:Shared)(H:Hp)(E:XK):Cx where
 prog:=P
 w:=w
 K:=K
 mg:=mg
 base:=base
 A:=A.deeper (envOfC qual scope s.heap.objs.size f cd)
 N:=N
 s₀:=s
 H₀:=H
 env:=envOfC qual scope s.heap.objs.size f cd
 outer:=outer
 stack:=envOfC qual scope s.heap.objs.size f cd::outer
 ex:=[]
 calm:=true
 fn:=λ _=>true
 pn:=[]
 xe:=λ e s'=>wpAny (model P w) (A.deeper (envOfC qual scope s.heap.objs.size f cd)) (leaving (envOfC qual scope s.heap.objs.size f cd) e) (λ _ i5=>CX outer H s E e i5) (λ e' i5=>CX outer H s E e' i5) s'
def Rm {sc:Scope}(h:sc.names.lookup x=some .cell):∃c,(cellsFrom n sc.names []).lookup x=some c:=by
 have q:=PySem.W.cellsFrom_some sc.names n [] (.inl h);exact zdt.mp q
def WH {K}{E}(S:Ad N ps scope)(hd:A.handled=none)(e0:TJ P w K mg base A outer s H)(hl:vs.length=ps.length)(r:Vals vs us)(x:InCallC s s.heap.objs.size (bindL (envOfC qual scope s.heap.objs.size f cd).kindOf (ps.zip us) λ _=>none) (cellsFrom (s.heap.objs.size+1) scope.names []) (bindC (envOfC qual scope s.heap.objs.size f cd).kindOf (ps.zip us) λ _=>none) s1):
 Inv (Rl CX P w K mg base N qual scope f cd A outer s H E) [] (start N vs) H s1:=by
 have hpl:ps.length<=N.length:=by have:=congrArg List.length S.pre;rw[zbo] at this;omega
 obtain⟨h1,tk,rfl,hk⟩:=x.done;have i6:∀b:Addr,b∉(Rl CX P w K mg base N qual scope f cd A outer s H E).ex:=λ b z=>absurd (show b∈([]:List Addr) from z) (by simp);refine⟨⟨e0.mod,S.kind,rfl,rfl,zag _,λ y z c h1 h2=>?_,λ y hy=>?_,λ y c _ h=>?_,λ _=>hd,Around.frames_deeper e0.frames,.inr ⟨rfl,rfl⟩,λ b z=>absurd z (i6 b),e0.bs,e0.eN,λ b _ _=>i6 b,λ b z=>absurd z (i6 b),e0.Kd,e0.lY⟩,
  rfl,e0.bare,Un.kept hk,⟨_,x.toInCall.ns,λ i y v h1 h2 h3=>?_⟩,λ y c h=>⟨_,x.cell y c h⟩,e0.Ar.fresh (zag _),λ y c h=>?_,λ p hp=>absurd (show p∈([]:List (Addr×Obj)) from hp) (by simp),e0.Ar.kept hk,?_⟩
 ·exact name_of_addr x.apart (zds h1) (zds h2)
 ·have hy:scope.names.lookup y=some .cell\/scope.names.lookup y=some .free:=hy;rcases hy with hy|hy
  ·exact Rm hy
  ·exact absurd rfl (S.nE _ (zds hy))
 ·exact zbf (x.above y c (zds h))
 ·have hi:i<vs.length:=by
   unfold start at h2;by_cases hi:i<vs.length
   ·exact hi
   ·rw[zcu (by simpa using hi)] at h2;rw[zcl] at h2;split at h2<;>cases h2
  have ha:vs[i]?=some v:=by
   unfold start at h2;rw[zc0 (by simpa using hi),zan] at h2;cases e:vs[i]? with
   |none=>rw[e] at h2;cases h2
   |some a=>rw[e] at h2;cases h2;rfl
  obtain⟨u,hu,rv⟩:=r.get ha;have hp:ps[i]?=some y:=by
   rw[<-S.pre,List.getElem?_take_of_lt (by omega)];exact h1
  have sw:ps.Nodup:=by rw[<-S.pre];exact S.nd.sublist (List.take_sublist _ _)
  refine⟨u,rv,?_⟩;rcases S.xO y (zam hp) with k|k
  ·exact .inl ⟨k,Oq sw hp hu k⟩
  ·obtain⟨c,e⟩:=Rm (n:=s.heap.objs.size+1) k;refine .inr ⟨.inl k,c,e,?_⟩;have q:=x.cell y c e;rw[Ot sw hp hu (by show scope.names.lookup y≠_;rw[k];decide)] at q;exact q
 ·exact e0.Ar.fresh (zbf (x.above y c (zds h)))
 ·unfold start;show _=N.length;rw[zav,za2,zdj];omega
def Ro {K}{kV}(lk:K.lookup f=some ⟨oc,od,.func (zb8 name qual params body scope dV kV doc pm an B2 ct),Rp⟩)(aR:zby K B2 qual=true)(S:Ad N ps scope)(len:∀vs H Q E,sp vs H Q E->vs.length=ps.length)(bQ:∀(A:Around) (outer:List Env) (s:Shared) (H:Hp) (vs:List V) (Q:VK) (E:XK),Bp k (A.deeper (envOfC qual scope s.heap.objs.size f B2))->sp vs H Q E->
  ∃t,V3 (Rl CX P w K mg base N qual scope f B2 A outer s H E) body t/\t {nx:=λ _ H'=>Q .AE H',rt:=Q} (start N vs) H):
 D5 P w K mg base CX (k+1) f (zb8 name qual params body scope dV kV doc pm an B2 ct) ps sp:=by
 refine⟨len,λ A outer s H args us vs Q E hr e0 hb r bE=>?_⟩;have hl:=len _ _ _ _ bE;have KX:K.In s.heap:=e0.mod.Y8.keeps λ b o e=>(e0.bs b o e).1;have lim:s.heap.NoLimit:=e0.mod.nolimit.keeps λ b o e=>(e0.bs b o e).1;have i7:∀y∈ps.zip us,scope.names.lookup y.1=some .local\/(scope.names.lookup y.1=some .cell/\((cellsFrom (s.heap.objs.size+1) scope.names []).lookup y.1).isSome=true):=λ⟨n,v⟩ hy=>by
  rcases S.xO n (List.of_mem_zip hy).1 with q|q
  ·exact .inl q
  ·exact .inr ⟨q,PySem.W.cellsFrom_some _ _ _ (.inl q)⟩
 refine codeAny_call_function hr.depth (KX _ _ lk) rfl S.co S.gen rfl (PySem.W.codeRec_of KX aR) (hb _ _ _ _ ?_);refine wpAny_newFunctionEnv_cells S.kind i7 λ env he s1 x=>?_;subst he;refine⟨lim.keeps x.toInCall.keep,codeAny_func ?_⟩;obtain⟨t,ht,hq⟩:=bQ A outer s H vs Q E (hr.deeper _) bE;have I:Inv (Rl CX P w K mg base N qual scope f B2 A outer s H E) [] (start N vs) H s1:=WH S hr.hd e0 hl r x;refine wpAny_mono (ht [] s1 (start N vs) H _ I hq) (λ fl s' hs=>?_) λ e s' hs=>hs;have fin:∀ {σ':St} {H':Hp} {v:V} {u:Value},Inv (Rl CX P w K mg base N qual scope f B2 A outer s H E) [] σ' H' s'->RelV v u->Q v H'->CE outer P w H s Q u s':=
  fun {σ' H' v u} J rv q=>⟨v,H',J.os,J.bare,J.base,J.Ar,rv,q⟩
 cases fl with
 |ret u =>
  obtain⟨v,σ',H',J,rv,q⟩:=hs;exact fin J rv q
 |next =>
  obtain⟨σ',H',J,q⟩:=hs;exact fin (v:=V.AE) (u:=zdc) J rfl q
 |brk =>
  obtain⟨_,_,_,q⟩:=hs;exact zcj q
 |cont =>
  obtain⟨_,_,_,q⟩:=hs;exact zcj q
section
variable {x:Str}{p:Pos}{t:TA}{id T:String}{r:List V->Hp->VK->Prop}
abbrev wG (r:List V->Hp->VK->Prop)(t:TA):TE:=λ σ H Q=>t σ H λ vs H1=>r vs H1 Q
def Rq (hc:FT X (.builtin id) r)(hg:Gl X x)(hm:X.mg x=none)(hv:bootBuiltins x=some (.builtin id))(ha:PA X (e::es) t)(hn:x ≠ "__name__" := by decide)(aK:(x==("__debug__" : Str))=false:=by decide)(he: ~~~(starEach (e::es) X.env=(false,eval e X.env)::starEach es X.env))(hpl: ~~~((backTo pos (starEach es X.env)).any (·.1)=false)):PE X (.Call (.Name x p) (e::es) [] pos) (wG r t):=by
 intro pins s σ H Q I h;refine wpAny_Call_Name_kw (CS I hg hm hv ?_ hn aK);exact zcx (Bh (ha pos pins s σ H _ I h) λ us s1 ⟨vs,H1,I1,r1,q1⟩=>hc pins s1 σ H1 vs us Q I1 r1 q1) he hpl
def Ou (hc:FT X (.type T) r)(hg:Gl X x)(hm:X.mg x=none)(hv:bootBuiltins x=some (.type T))(ha:PA X (e::es) t)(hn:x ≠ "__name__" := by decide)(aK:(x==("__debug__" : Str))=false:=by decide)(he: ~~~(starEach (e::es) X.env=(false,eval e X.env)::starEach es X.env))(hpl: ~~~((backTo pos (starEach es X.env)).any (·.1)=false)):PE X (.Call (.Name x p) (e::es) [] pos) (wG r t):=by
 intro pins s σ H Q I h;refine wpAny_Call_Name_kw (CS I hg hm hv ?_ hn aK);exact zbm (Bh (ha pos pins s σ H _ I h) λ us s1 ⟨vs,H1,I1,r1,q1⟩=>hc pins s1 σ H1 vs us Q I1 r1 q1) he hpl
end
end L2
namespace HT
open PySem PyProof.Rows
abbrev lexLt:List Int->List Int->Bool
 |[],[]=>false
 |[],_::_=>true
 |_::_,[]=>false
 |x::xs,y::ys=>if x=y then lexLt xs ys else decide (x<y)
def Ef (x y:Int)(xs ys:List Int):lexLt (x::xs) (y::ys)=if x=y then lexLt xs ys else decide (x<y):=rfl
def Dp:lexLt [] []=false:=rfl
def Mf (y:Int)(ys:List Int):lexLt [] (y::ys)=true:=rfl
def Mg (x:Int)(xs:List Int):lexLt (x::xs) []=false:=rfl
def Yx (A:Around)(s:Shared)(a:Int)(t:Tok)(c:Int)(u:Tok):∃e,SeqAt.EqAt A s (.int a t) (.int c u) e/\(e=true↔a=c):=
 ⟨(a==c),zdq a t c u,by simp⟩
def Yy (A:Around)(s:Shared)(a:Int)(t:Tok)(c:Int)(u:Tok)(prog:Program)(w:World)(E:Value->Shared->Prop)(Q:Value->Shared->Prop)(h:Q (.bool (decide (a<c))) s):
 wpAny (model prog w) A (richCompare .Lt (.int a t) (.int c u)) Q E s:=
 (PyProof.Rows.lt_int h:wpAny (model prog w) A (compareOp .Lt (.int a t) (.int c u)) Q E s)
section
open PySem.SeqAt
open PySem.AutoSeq1 (wpAny_loadPart')
open PySem.MeetsSeq PySem.MeetsSeq2 PySem.MeetsSeq3
def NS (l b:Addr)(items ao:Array Value)(n n2:Nat)(dd nh:Option Addr)(sl i8:Array (Option Value))(ns ms:List Int)(hi:IntsAre items.toList ns)(hj:IntsAre ao.toList ms):
 Meets (Builtin.«tuple.__lt__» ⟨[.ref l,.ref b],[]⟩)
  (λ _ R s=>s.heap.get? l=some {cls:=.type "tuple",dict:=dd,data:=.seq items n,slots:=sl}/\s.heap.get? b=some {cls:=.type "tuple",dict:=nh,data:=.seq ao n2,slots:=i8}/\
   R (.ok (.ret (.bool (lexLt ns ms)))) s):=
 .of_wp λ prog w A R s h=>by
  obtain⟨hp,g,d,tk,os⟩:=s;obtain⟨hl,hb,h⟩:=h;have f2:=AutoSeq1.sub_tuple_tuple;have z1:items.size=ns.length:=by rw[<-hi.length];simp
  have z2:ao.size=ms.length:=by rw[<-hj.length];simp
  wp_walk using wpAny_loadPart' hl,wpAny_loadPart' hb,wpAny_forIn_list _ (λ rest b s'=>b.1=none/\s'=⟨hp,g,d,tk,os⟩/\∃(vs ws:List Value) (bR ij:List Int),rest=vs.zip ws/\
   IntsAre vs bR/\IntsAre ws ij/\bR.length+ao.size=ij.length+items.size/\R (.ok (.ret (.bool (lexLt bR ij)))) ⟨hp,g,d,tk,os⟩) _
  case turn =>
   rintro ⟨y,x⟩ rest b s' ⟨a7,rfl,vs,ws,bR,ij,hz,ni,fc,hlen,hR⟩;cases ni with
   |nil=>rw[List.zip_nil_left] at hz;cases hz
   |cons a t nj =>
    cases fc with
    |nil=>rw[List.zip_nil_right] at hz;cases hz
    |cons c u nk =>
     rw[List.zip_cons_cons] at hz;injection hz with vx i9
     injection vx with hy hx
     subst hy hx;rw[Ef] at hR;simp only[za9] at hlen;obtain⟨e,he,ja⟩:=Yx A.in1 ⟨hp,g,d,tk,os⟩ a t c u;refine wpAny_bind (he prog w _ _ ?_);cases e with
     |true =>
      rw[if_pos (ja.mp rfl)] at hR
      wp_walk
      exact⟨rfl,rfl,_,_,_,_,i9,nj,nk,by omega,hR⟩
     |false =>
      rw[if_neg (λ q=>absurd (ja.mpr q) zao)] at hR;have vy:=Yy A.in1 ⟨hp,g,d,tk,os⟩ a t c u prog w
      wp_walk using vy
      exact⟨_,rfl,by simpa using hR⟩
  case fin =>
   rintro ⟨b1,b2⟩ s' ⟨a7,rfl,vs,ws,bR,ij,hz,ni,fc,hlen,hR⟩;simp only at a7;subst a7;have hv:lexLt bR ij=decide (items.size<ao.size):=by
    cases ni with
    |nil =>
     cases fc with
     |nil =>
      simp only[List.length_nil] at hlen;rw[Dp];exact (decide_eq_false (by omega)).symm
     |cons c u hw =>
      simp only[List.length_nil,za9] at hlen;rw[Mf];exact (decide_eq_true (by omega)).symm
    |cons a t hv =>
     cases fc with
     |nil =>
      simp only[List.length_nil,za9] at hlen;rw[Mg];exact (decide_eq_false (by omega)).symm
     |cons c u hw =>
      rw[List.zip_cons_cons] at hz;cases hz
   rw[hv] at hR
   wp_walk
   exact⟨_,rfl,by simpa [Builtin.Tuple.tupleCompareSizes] using hR⟩
  case h =>
   exact⟨rfl,rfl,items.toList,ao.toList,ns,ms,rfl,hi,hj,by omega,h⟩
end
section
variable {prog:Program}{w:World}{A:Around}{E:Value->Shared->Prop}{s:Shared}
def HR (hl:IsTup s.heap l items)(hb:IsTup s.heap b ao)(hi:IntsAre items.toList ns)(hj:IntsAre ao.toList ms)(hu:A.units<cLine)(h:Q (.bool (lexLt ns ms)) s):wpAny (model prog w) A (compareOp .Lt (.ref l) (.ref b)) Q E s:=by
 obtain⟨⟨cls,dd,data,sl⟩,ho,hc,n,hd⟩:=id hl;obtain⟨⟨vz,nh,data2,i8⟩,sx,sy,n2,hd2⟩:=id hb;simp only at hc hd sy hd2;subst hc hd sy hd2;exact richCompare_meets_room (op:=.Lt) ⟨_,ho,rfl⟩ ⟨_,sx,rfl⟩ PySem.F.slot_tuple_lt PySem.F.entry_tuple_lt (PySem.F.args_tuple_lt_2 _ _) (NS l b items ao n n2 dd nh sl i8 ns ms hi hj)
  ⟨ho,sx,show Value.bool (lexLt ns ms)≠Value.notImplemented/\Q (.bool (lexLt ns ms)) s from ⟨(λ x=>nomatch x),h⟩⟩ hu
abbrev LC (n d:Nat):Option Int->Nat
 |none=>d
 |some v=>if v<0 then (v+(n:Int)).toNat else min v.toNat n
def Rr (n d:Nat):LC n d none=d:=rfl
def PL (n d k:Nat):LC n d (some (k:Int))=min k n:=by
 show (if (k:Int)<0 then ((k:Int)+(n:Int)).toNat else min (k:Int).toNat n)=min k n;rw[if_neg (by omega),zb4]
end
end HT
namespace L2
open PySem PySem.Spec PyProof.Rows
noncomputable abbrev TO:=St->Hp->(Option Int->Hp->Prop)->Prop
abbrev PO (X:Cx)(e:Option Expr)(t:TO):Prop:=
 ∀(pins:List (Addr×Obj)) (s:Shared) (σ:St) (H:Hp) (Q:Option Int->Hp->Prop),Inv X pins σ H s->t σ H Q->
  wpAny (model X.prog X.w) X.A (evalPart e X.env) (λ u s'=>∃o H',Inv X pins σ H' s'/\IsPart u o/\Q o H') X.xe s
abbrev fB:TO:=λ _ H Q=>Q none H
abbrev rR (t:TE):TO:=λ σ H Q=>t σ H λ x H1=>∃i,x=.int i/\Q (some i) H1
def intsAre_of:∀ {us:List Value},Vals (ns.map V.int) us->IntsAre us ns:=by
 induction ns with
 |nil=>intro us r;rw[zd7] at r;cases r;exact .nil
 |cons n ns ih =>
  intro us r;rw[za6] at r;cases r with
  |cons r1 r2 =>
   obtain⟨t,e⟩:=r1;subst e;exact .cons n t (ih r2)
section
variable {X:Cx}{e:Expr}{te:TE}{lo hi:Option Expr}{tl th:TO}{pos p2:Pos}
def fC:PO X none fB:=by
 intro pins s σ H Q I h;rw[evalPart_none];exact wpAny_pure ⟨none,H,I,.none,h⟩
def fD (h:PE X e te):PO X (some e) (rR te):=by
 intro pins s σ H Q I hw;rw[evalPart_some];refine Bh (h pins s σ H _ I hw) λ u s1 zz=>?_;obtain⟨x,H1,I1,r1,q1⟩:=zz;obtain⟨i,rfl,q⟩:=q1;obtain⟨t,rfl⟩:=r1;exact⟨some i,H1,I1,.int i t,q⟩
abbrev xP (X:Cx)(r:V->Option Int->Option Int->Hp->VK->Prop):Prop:=
 ∀(pins:List (Addr×Obj)) (s:Shared) (σ:St) (H:Hp) (x:V) (v vl vu:Value) (lo hi:Option Int) (sl:Addr) (Q:VK),Inv X pins σ H s->RelV x v->s.heap.IsSliceOf sl vl vu .none->IsPart vl lo->IsPart vu hi->r x lo hi H Q->
  ∃T id,typeLookup (.type T) "__getitem__" = pure (some (.builtin id))/\s.TypeIs v T/\wpAny (model X.prog X.w) X.A (getItem v (.ref sl)) (EP X pins σ Q) X.xe s
abbrev yP (r:V->Option Int->Option Int->Hp->VK->Prop)(te:TE)(tl th:TO):TE:=λ σ H Q=>te σ H λ x H1=>tl σ H1 λ l H2=>th σ H2 λ u H3=>r x l u H3 Q
def Yz (hr:xP X r)(he:PE X e te)(hl:PO X lo tl)(hu:PO X hi th):PE X (.Subscript e (.Slice lo hi none p2) pos) (yP r te tl th):=by
 intro pins s σ H Q I h;refine Subscript_ (Bh (he pins s σ H _ I h) λ v s1 zz=>?_);obtain⟨x,H1,I1,r1,q1⟩:=zz;refine wpAny_Slice (Bh (hl pins s1 σ H1 _ I1 q1) λ vl s2 ⟨l,H2,I2,pl,q2⟩=>Bh (hu pins s2 σ H2 _ I2 q2) λ vu s3 zz=>?_);obtain⟨u,H3,I3,pu,q3⟩:=zz;rw[evalPart_none];refine wpAny_pure ?_;have I4:Inv X pins σ H3 {s3 with heap:=s3.heap.push {cls:=.type "slice",data:=.fields #[vl,vu,.none]} }:=I3.kept (t':=s3.toks) λ b ob q=>za5 _ q;obtain⟨T,id,hT,ht,hg⟩:=hr pins {s3 with heap:=s3.heap.push {cls:=.type "slice",data:=.fields #[vl,vu,.none]} } σ H3 x v vl vu l u s3.heap.objs.size Q I4 r1 (Heap.IsSliceOf.new ..) pl pu q3;show wpAny (model X.prog X.w) X.A (subscriptTail e (.Slice lo hi none p2) v (.ref s3.heap.objs.size)) (EP X pins σ Q) X.xe {s3 with heap:=s3.heap.push {cls:=.type "slice",data:=.fields #[vl,vu,.none]} };exact tail_any (ops:=[.ref s3.heap.objs.size,v]) ht hT hg (by with_unfolding_all rfl)
abbrev YA (xs:List V)(lo hi:Option Int):List V:=(xs.drop (HT.LC xs.length 0 lo)).take (HT.LC xs.length xs.length hi-HT.LC xs.length 0 lo)
def Rt (xs:List V)(lo hi:Option Int):(YA xs lo hi).length<=xs.length:=by
 unfold YA;rw[zbo,zcv];omega
abbrev rS (K:za0):R2:=λ x y H Q=>∃a b ns ms,x=.ref a/\y=.ref b/\EQ K H a (ns.map V.int)/\EQ K H b (ms.map V.int)/\Q (.bl (HT.lexLt ns ms)) H
def YB (hu:X.A.units<cLine):G9 X (compareOp .Lt) (rS X.K):=by
 intro pins s σ H x y v u Q I rx ry h;obtain⟨a,b,ns,ms,rfl,rfl,ha,hb,q⟩:=h;cases rx;cases ry;obtain⟨aa,r1,p1,_⟩:=I.tuple ha;obtain⟨aO,r2,p2,_⟩:=I.tuple hb;have i1:IntsAre aa.toArray.toList ns:=intsAre_of r1;have i2:IntsAre aO.toArray.toList ms:=intsAre_of r2;exact HT.HR p1 p2 i1 i2 hu ⟨.bl (HT.lexLt ns ms),H,I,rfl,q⟩
end
abbrev Ov (n:Nat)(i:Int):Option Nat:=if 0<=i then (if i<n then some i.toNat else none) else if -(n:Int)<=i then some (i+n).toNat else none
abbrev Ru {α:Type}(xs:List α)(i:Int):Option α:=(Ov xs.length i).bind λ j=>xs[j]?
def V6 (h:Ov n i=some j):seqIndex? i n=some j/\j<n/\-(n:Int)<=i/\i<n:=by
 unfold Ov at h;by_cases h0:0<=i
 ·rw[if_pos h0] at h;by_cases h1:i<n
  ·rw[if_pos h1] at h;have e:i.toNat=j:=zat h;exact⟨by rw[seqIndex_of h0 h1,e],by omega,by omega,h1⟩
  ·rw[if_neg h1] at h;cases h
 ·rw[if_neg h0] at h;by_cases h1 : -(n:Int)<=i
  ·rw[if_pos h1] at h;have e:(i+n).toNat=j:=zat h;exact⟨by rw[seqIndex_neg (by omega) h1,e],by omega,h1,by omega⟩
  ·rw[if_neg h1] at h;cases h
def V7 {α:Type}{xs}{v:α}(h:Ru xs i=some v):∃j,seqIndex? i xs.length=some j/\xs[j]?=some v/\j<xs.length/\-(xs.length:Int)<=i/\i<xs.length:=by
 unfold Ru at h;cases e:Ov xs.length i with
 |none=>rw[e] at h;cases h
 |some j =>
  rw[e] at h;obtain⟨h1,h2,h3,h4⟩:=V6 e;exact⟨j,h1,h,h2,h3,h4⟩
abbrev GS (b:Expr):Prop:=∀o i,subscripted b false o i=operate [o,i] (getItem o i)
abbrev fE (X:Cx)(r:R2):Prop:=
 ∀(value slice:Expr) (pins:List (Addr×Obj)) (s:Shared) (σ:St) (H:Hp) (x y:V) (v u:Value) (Q:VK),Inv X pins σ H s->RelV x v->RelV y u->r x y H Q->
  subscripted slice false v u=operate [v,u] (getItem v u)->wpAny (model X.prog X.w) X.A (subscriptTail value slice v u) (EP X pins σ Q) X.xe s
abbrev yQ (X:Cx)(id:String)(r:V->List V->Hp->VK->Prop):Prop:=
 ∀(pins:List (Addr×Obj)) (s:Shared) (σ:St) (H:Hp) (x:V) (xs:List V) (v:Value) (us:List Value) (Q:VK),Inv X pins σ H s->RelV x v->Vals xs us->r x xs H Q->
  wpAny (model X.prog X.w) X.A (call (.builtin id) (v::us)) (EP X pins σ Q) X.xe s
section
variable {X:Cx}{a b:Expr}{ta tb:TE}{pos:Pos}
def fE.or (h:fE X r)(h':fE X r'):fE X (λ x y H Q=>r x y H Q\/r' x y H Q):=by
 intro value slice pins s σ H x y v u Q I rx ry q hs;rcases q with q|q
 ·exact h value slice pins s σ H x y v u Q I rx ry q hs
 ·exact h' value slice pins s σ H x y v u Q I rx ry q hs
def V8 (hr:fE X r)(ha:PE X a ta)(hb:PE X b tb)(hs:GS b):PE X (.Subscript a b pos) (qI r ta tb):=by
 intro pins s σ H Q I h;exact Subscript_ (mO ha hb I h λ v u s2 x y H2 I2 rx ry q=>hr a b pins s2 σ H2 x y v u Q I2 rx ry q (hs _ _))
abbrev nF (K:za0):R2:=λ x y H Q=>∃p xs i v,x=.ref p/\y=.int i/\Du K H p xs/\Ru xs i=some v/\Q v H
abbrev nG (K:za0):R2:=λ x y H Q=>∃p xs i v,x=.ref p/\y=.int i/\EQ K H p xs/\Ru xs i=some v/\Q v H
def LD:fE X (nF X.K):=by
 intro value slice pins s σ H x y v u Q I rx ry h hs;obtain⟨p,xs,i,z,rfl,rfl,hq,he,q⟩:=h;cases rx;obtain⟨t,rfl⟩:=ry;obtain⟨aa,r,pl,hz⟩:=I.list hq;obtain⟨j,h1,h2,h3,h4,h5⟩:=V7 he;obtain⟨w,ew,ba⟩:=r.get h2;have hl:=r.length;have hn:=Ke;have fin:EP X pins σ Q w s:=⟨z,H,I,ba,q⟩;by_cases h0:0<=i
 ·have hj:i.toNat=j:=by
   rw[seqIndex_of h0 h5] at h1;exact zat h1
  exact item_listR pl.isList h0 (by omega) (by rw[hj];simpa using ew) fin hs
 ·have hj:(i+(aa.toArray.size:Int)).toNat=j:=by
   rw[seqIndex_neg (by omega) h4] at h1;rw[zae,<-hl];exact zat h1
  exact subscriptTail_builtinR (x:=w) pl.isList.typeIs slot_list_getitem.lookup
   (wpAny_getItem_list_neg (Q:=λ r s'=>r=w/\EP X pins σ Q r s') pl.isList (by omega) (by rw[zae]<;>omega) (by omega) (by rw[hj];simpa using ew) ⟨rfl,fin⟩) hs
def nI:fE X (nG X.K):=by
 intro value slice pins s σ H x y v u Q I rx ry h hs;obtain⟨p,xs,i,z,rfl,rfl,hq,he,q⟩:=h;cases rx;obtain⟨t,rfl⟩:=ry;obtain⟨aa,r,pl,hz⟩:=I.tuple hq;obtain⟨j,h1,h2,h3,h4,h5⟩:=V7 he;obtain⟨w,ew,ba⟩:=r.get h2;have hl:=r.length;have hn:=Ke;have fin:EP X pins σ Q w s:=⟨z,H,I,ba,q⟩;exact subscriptTail_builtinR (x:=w) pl.typeIs slot_tuple_getitem.lookup
  (getItem_tuple (j:=j) (Q:=λ r s'=>r=w/\EP X pins σ Q r s') pl (by omega) (by omega) (by rw[zae,<-hl];exact h1) (by simpa using ew) ⟨rfl,fin⟩) hs
def TM (aa:List Value)(n j:Nat)(u:Value):zc5 (·.setIfInBounds j u) {cls:=.type "list",data:=.seq aa.toArray n}={cls:=.type "list",data:=.seq (aa.set j u).toArray n}:=by
 simp[zc5]
def Inv.lst (I:Inv X pins σ H s)(h:H p=some (.lst xs)):
 ∃(aa:List Value) (n:Nat),Vals xs aa/\s.heap.get? p=some {cls:=.type "list",data:=.seq aa.toArray n}/\xs.length<=sizeLine:=by
 obtain⟨z,aa,n,r,e⟩:=I.Ar p _ h;exact⟨aa,n,r,e,z⟩
def Inv.nJ {aa:List Value}(I:Inv X pins σ H s)(h:H p=some (.lst xs))(ho:s.heap.get? p=some {cls:=.type "list",data:=.seq aa.toArray n})(hf:f {cls:=.type "list",data:=.seq aa.toArray n}={cls:=.type "list",data:=.seq its'.toArray n' })(r:Vals ys its')(hz:ys.length<=sizeLine)(t:Nat):
 Inv X pins σ (upd H p (.lst ys)) {s with heap:=s.heap.update p f,toks:=t}:=by
 have e:(s.heap.update p f).get? p=some {cls:=.type "list",data:=.seq its'.toArray n' }:=by
  rw[zch f ho (by rw[hf]<;>rfl),hf]
 refine I.write (x:=p) (e:=p) (by rw[h];trivial) (.inl rfl) (λ b u hb q=>(zct _ _ (zbn hb)).trans q) ⟨_,e⟩ ?_;exact⟨hz,its',n',r,e⟩
abbrev rT:V->V->V->Hp->(Hp->Prop)->Prop:=λ o i v H Q=>∃p xs k j,o=.ref p/\i=.int k/\H p=some (.lst xs)/\Ov xs.length k=some j/\Q (upd H p (.lst (xs.set j v)))
def set_list:rD X rT:=by
 intro pins s σ H o i v ov iv u Q I ro ri rv h;obtain⟨p,xs,k,j,rfl,rfl,hp,hj,q⟩:=h;cases ro;obtain⟨t,rfl⟩:=ri;obtain⟨aa,n,r,ho,hz⟩:=I.lst hp;obtain⟨h1,h2,h3,h4⟩:=V6 hj;have hl:=r.length;have hn:=Ke;have I':Inv X pins σ (upd H p (.lst (xs.set j v))) {s with heap:=s.heap.update p (zc5 (·.setIfInBounds j u))}:=
  I.nJ hp ho (TM aa n j u) (r.set rv j) (by rw[zbr];exact hz) s.toks
 by_cases h0:0<=k
 ·have hk:k.toNat=j:=by
   rw[seqIndex_of h0 h4] at h1;exact zat h1
  exact PySem.W.ki_setAt ho h0 (by omega) (by rw[zae,<-hl];exact h4) (by rw[hk];exact⟨_,I',q⟩)
 ·have hk:(k+(aa.toArray.size:Int)).toNat=j:=by
   rw[seqIndex_neg (by omega) h3] at h1;rw[zae,<-hl];exact zat h1
  exact PySem.W.ki_setBack ho (by omega) (by rw[zae,<-hl];exact h3) (by omega) (by rw[hk];exact⟨_,I',q⟩)
def PM (lo hi:Option Int)(n:Nat):(sliceBounds lo hi none n).1=((HT.LC n 0 lo:Nat):Int)/\(sliceBounds lo hi none n).2.1=((HT.LC n n hi:Nat):Int)/\(sliceBounds lo hi none n).2.2=1:=by
 refine⟨?_,?_,rfl⟩
 ·cases lo with
  |none=>simp[sliceBounds,HT.LC]
  |some i =>
   simp only[sliceBounds,HT.LC,Option.getD_none,show (1:Int) > 0 by decide,if_true];by_cases h:i<0
   ·simp only[h,if_true]<;>omega
   ·simp only[h,if_false]<;>omega
 ·cases hi with
  |none=>simp[sliceBounds,HT.LC]
  |some i =>
   simp only[sliceBounds,HT.LC,Option.getD_none,show (1:Int) > 0 by decide,if_true];by_cases h:i<0
   ·simp only[h,if_true]<;>omega
   ·simp only[h,if_false]<;>omega
def NT (aa:List Value)(lo hi:Option Int):slicePick aa.toArray lo hi none=((aa.drop (HT.LC aa.length 0 lo)).take (HT.LC aa.length aa.length hi-HT.LC aa.length 0 lo)).toArray:=by
 obtain⟨h1,h2,h3⟩:=PM lo hi aa.toArray.size;unfold slicePick;rw[h1,h2,h3];simp only[sliceRange_one,pick_run,zae]<;>rfl
abbrev wH (K:za0):V->Option Int->Option Int->Hp->VK->Prop:=λ x lo hi H Q=>∃a xs,x=.ref a/\Du K H a xs/\∀p,H p=none->Q (.ref p) (upd H p (.lst (YA xs lo hi)))
def fF:xP X (wH X.K):=by
 intro pins s σ H x v vl vu lo hi sl Q I rx hs pl pu h;obtain⟨a,xs,rfl,hx,q⟩:=h;cases rx;obtain⟨aa,r,ht,hz⟩:=I.list hx;have hlen:=r.length;refine⟨"list",_,slot_list_getitem.lookup,ht.isList.typeIs,?_⟩;refine wpAny_getItem_list_slice ht.isList hs pl pu .none (by simp) ?_ (by rw[zae]<;>omega);rw[NT,<-hlen];refine⟨.ref s.heap.objs.size,_,I.laid (t':=s.toks) (o:=.lst (YA xs lo hi)) (λ b ob q=>za5 _ q) (zag _) ?_,rfl,q _ (I.Ar.fresh (zag _))⟩;exact⟨zbl (Rt xs lo hi) hz,_,0,(r.drop (HT.LC xs.length 0 lo)).take (HT.LC xs.length xs.length hi-HT.LC xs.length 0 lo),zaj _ rfl⟩
abbrev IJ:V->Bool
 | .AE| .bl _| .int _| .str _=>true
 |_=>false
abbrev kS:V->V->Bool
 | .AE,.AE=>true
 | .bl a,.bl b=>a==b
 | .bl a,.int b=>(if a then 1 else 0)==b
 | .int a,.bl b=>a==(if b then 1 else 0)
 | .int a,.int b| .str a,.str b=>a==b
 |_,_=>false
def nK (ry:RelV y u)(rx:RelV x v)(fy:IJ y=true)(fx:IJ x=true):SeqAt.EqAt A s u v (kS y x):=by
 cases y with
 |AE =>
  cases ry;cases x with
  |AE=>cases rx;exact SeqAt.EqAt.same _
  |bl b=>cases rx;exact SeqAt.EqAt.none_bool b
  |int b=>obtain⟨t,rfl⟩:=rx;exact SeqAt.EqAt.none_int b t
  |str b=>obtain⟨t,rfl⟩:=rx;exact SeqAt.EqAt.none_str b t
  |_=>exact absurd (show false=true from fx) zao
 |bl a =>
  cases ry;cases x with
  |AE=>cases rx;exact SeqAt.EqAt.bool_none a
  |bl b=>cases rx;exact SeqAt.EqAt.bool_bool a b
  |int b=>obtain⟨t,rfl⟩:=rx;exact SeqAt.EqAt.bool_int a b t
  |str b=>obtain⟨t,rfl⟩:=rx;exact SeqAt.EqAt.bool_str a b t
  |_=>exact absurd (show false=true from fx) zao
 |int a =>
  obtain⟨t',rfl⟩:=ry;cases x with
  |AE=>cases rx;exact SeqAt.EqAt.int_none a t'
  |bl b=>cases rx;exact SeqAt.EqAt.int_bool a t' b
  |int b=>obtain⟨t,rfl⟩:=rx;exact zdq a t' b t
  |str b=>obtain⟨t,rfl⟩:=rx;exact SeqAt.EqAt.int_str a t' b t
  |_=>exact absurd (show false=true from fx) zao
 |str a =>
  obtain⟨t',rfl⟩:=ry;cases x with
  |AE=>cases rx;exact SeqAt.EqAt.str_none a t'
  |bl b=>cases rx;exact SeqAt.EqAt.str_bool a t' b
  |int b=>obtain⟨t,rfl⟩:=rx;exact SeqAt.EqAt.str_int a t' b t
  |str b=>obtain⟨t,rfl⟩:=rx;exact SeqAt.EqAt.str_str a t' b t
  |_=>exact absurd (show false=true from fx) zao
 |_=>exact absurd (show false=true from fy) zao
abbrev TN (x:V)(u:Value):Bool:=match u with
 | .none=>kS .AE x
 | .bool b=>kS (.bl b) x
 | .int i _=>kS (.int i) x
 | .str z _=>kS (.str z) x
 |_=>false
def YC (r:RelV y u)(f:IJ y=true):TN x u=kS y x:=by
 cases y with
 |AE|bl b=>cases r;rfl
 |int i|str z=>obtain⟨t,rfl⟩:=r;rfl
 |_=>exact absurd (show false=true from f) zao
def IK {x:V}:∀ {xs:List V}{us:List Value},Vals xs us->xs.all IJ=true->us.any (TN x)=xs.any λ y=>kS y x
 |_,_,.nil,_=>rfl
 |y::xs,u::us,.cons r t,f=>by
  rw[List.all_cons,zb2] at f;rw[zdn,zdn,YC r f.1,IK t f.2]
def Gd {A:Around}{s:Shared}{x:V}{v:Value}(rx:RelV x v)(fx:IJ x=true):∀ {xs:List V}{us:List Value},Vals xs us->xs.all IJ=true->∀u∈us,SeqAt.EqAt A s u v (TN x u)
 |_,_,.nil,_=>λ u hu=>by cases hu
 |y::xs,u::us,.cons r t,f=>λ u' hu=>by
  rw[List.all_cons,zb2] at f;rcases zab.mp hu with rfl|hu
  ·rw[YC r f.1];exact nK r rx f.1 fx
  ·exact Gd rx fx t f.2 u' hu
abbrev uI (x:V)(xs:List V):Bool:=xs.any λ y=>kS y x
abbrev uJ (K:za0)(neg:Bool):R2:=λ x y H Q=>∃p xs,y=.ref p/\(Du K H p xs\/EQ K H p xs)/\IJ x=true/\xs.all IJ=true/\Q (.bl (if neg then !uI x xs else uI x xs)) H
def WI:G9 X (compareOp .In) (uJ X.K false):=by
 intro pins s σ H x y v u Q I rx ry h;obtain⟨p,xs,rfl,hq,fx,fs,q⟩:=h;cases ry;rcases hq with hq|hq
 ·obtain⟨aa,r,pl,hz⟩:=I.list hq;refine SeqAt.in_listAt (TN x) pl.isList (λ w hw=>Gd rx fx r fs w (by simpa using hw)) ⟨.bl _,H,I,rfl,?_⟩;rw[show aa.toArray.any (TN x)=aa.any (TN x) by simp,IK r fs];exact q
 ·obtain⟨aa,r,pl,hz⟩:=I.tuple hq;refine SeqAt.in_tupleAt (TN x) pl (λ w hw=>Gd rx fx r fs w (by simpa using hw)) ⟨.bl _,H,I,rfl,?_⟩;rw[show aa.toArray.any (TN x)=aa.any (TN x) by simp,IK r fs];exact q
def PN:G9 X (compareOp .NotIn) (uJ X.K true):=by
 intro pins s σ H x y v u Q I rx ry h;obtain⟨p,xs,rfl,hq,fx,fs,q⟩:=h;cases ry;rcases hq with hq|hq
 ·obtain⟨aa,r,pl,hz⟩:=I.list hq;refine SeqAt.notIn_listAt (TN x) pl.isList (λ w hw=>Gd rx fx r fs w (by simpa using hw)) ⟨.bl _,H,I,rfl,?_⟩;rw[show aa.toArray.any (TN x)=aa.any (TN x) by simp,IK r fs];exact q
 ·obtain⟨aa,r,pl,hz⟩:=I.tuple hq;refine SeqAt.notIn_tupleAt (TN x) pl (λ w hw=>Gd rx fx r fs w (by simpa using hw)) ⟨.bl _,H,I,rfl,?_⟩;rw[show aa.toArray.any (TN x)=aa.any (TN x) by simp,IK r fs];exact q
def PP:FT X (.builtin "len") (λ xs H Q=>∃p ys,xs=[.ref p]/\(Du X.K H p ys\/EQ X.K H p ys)/\Q (.int ys.length) H):=by
 intro pins s σ H xs us Q I r h;obtain⟨p,ys,rfl,hq,q⟩:=h;obtain⟨u,rfl,rx⟩:=vals1 r;cases rx;have hn:=Ke;rcases hq with hq|hq
 ·obtain⟨aa,r',pl,hz⟩:=I.list hq;have hlen:=r'.length;exact Calls.call_len_list pl.isList (by simp only[zae]<;>omega) ⟨.int ys.length,H,I.tok _,⟨s.toks+1,by rw[zae,hlen]⟩,q⟩
 ·obtain⟨aa,r',pl,hz⟩:=I.tuple hq;have hlen:=r'.length;exact len_tuple pl (by simp only[zae]<;>omega) ⟨.int ys.length,H,I.tok _,⟨s.toks+1,by rw[zae,hlen]⟩,q⟩
def PQ:FT X (.type "list") (λ xs H Q=>∃p ys,xs=[.ref p]/\(Du X.K H p ys\/EQ X.K H p ys)/\∀l,H l=none->Q (.ref l) (upd H l (.lst ys))):=by
 intro pins s σ H xs us Q I r h;obtain⟨p,ys,rfl,hq,q⟩:=h;obtain⟨u,rfl,rx⟩:=vals1 r;cases rx;have fin:∀(aa:List Value),Vals ys aa->ys.length<=sizeLine->∀(h':Heap) (c':Nat),(∀b o',s.heap.get? b=some o'->h'.get? b=some o')->
  h'.get? s.heap.objs.size=some {cls:=.type "list",dict:=none,data:=.seq aa.toArray c',slots:=#[]}->EP X pins σ Q (.ref s.heap.objs.size) {s with heap:=h' }:=λ aa r' hz h' c' kp e =>
  ⟨.ref s.heap.objs.size,_,I.laid (t':=s.toks) kp (zag _) (show BQ X.prog X.w _ h' _ (.lst ys) from ⟨hz,aa,c',r',e⟩),rfl,q _ (I.Ar.fresh (zag _))⟩
 rcases hq with hq|hq
 ·obtain⟨aa,r',pl,hz⟩:=I.list hq;have hlen:=r'.length;obtain⟨o,ho,hc,n,hd⟩:=pl.isList;exact call_list_seq p (.inl rfl) ho hc hd (λ h' c' kp e=>fin aa r' hz h' c' kp e) (by simp only[zae]<;>omega)
 ·obtain⟨aa,r',pl,hz⟩:=I.tuple hq;have hlen:=r'.length;obtain⟨o,ho,hc,n,hd⟩:=pl;exact call_list_seq p (.inr rfl) ho hc hd (λ h' c' kp e=>fin aa r' hz h' c' kp e) (by simp only[zae]<;>omega)
def NU:FT X (.type "tuple") (λ xs H Q=>∃p ys,xs=[.ref p]/\((Du X.K H p ys/\∀l,H l=none->Q (.ref l) (upd H l (.tup ys)))\/(EQ X.K H p ys/\Q (.ref p) H))):=by
 intro pins s σ H xs us Q I r h;obtain⟨p,ys,rfl,h⟩:=h;obtain⟨u,rfl,rx⟩:=vals1 r;cases rx;rcases h with ⟨hq,q⟩|⟨hq,q⟩
 ·obtain⟨aa,r',pl,hz⟩:=I.list hq;have hlen:=r'.length;refine call_tuple_list pl.isList (λ h' kp=>?_) (by simp only[zae]<;>omega);have I1:Inv X pins σ H {s with heap:=h' }:=I.kept (t':=s.toks) kp;have I2:Inv X pins σ (upd H h'.objs.size (.tup ys)) {s with heap:=h'.push {cls:=.type "tuple",data:=.seq aa.toArray} }:=
   I1.laid (t':=s.toks) (λ b o e=>za5 _ e) (zag _) (show BQ X.prog X.w _ _ _ (.tup ys) from ⟨hz,aa,r',IsTup.new _ _⟩)
  exact⟨.ref h'.objs.size,_,I2,rfl,q _ (I1.Ar.fresh (zag _))⟩
 ·obtain⟨aa,r',pl,hz⟩:=I.tuple hq;exact call_tuple_same pl ⟨.ref p,H,I,rfl,q⟩
abbrev xQ (K:za0)(T:String)(x:V)(H:Hp):Prop:=match x with
 | .str _=>T = "str"
 | .int _=>T = "int"
 | .ref p=>(T = "list" /\ ∃xs,Du K H p xs)\/(T = "tuple" /\ ∃o,K.lookup p=some o/\o.cls=.type "tuple" /\ o.dict=none) \/
  (T = "dict" /\ ((∃kvs,H p=some (.dK kvs))\/∃kvs,H p=some (.dT kvs)))\/(T = "set" /\ ∃S n,H p=some (.set S n))
 |_=>False
def nL (I:Inv X pins σ H s)(r:RelV x v)(ty:xQ X.K T x H):
 s.TypeIs v T/\∀a,v=.ref a->∃ob,s.heap.get? a=some ob/\ob.dict=none:=by
 cases x with
 |str z =>
  obtain⟨t,rfl⟩:=r;cases (show T = "str" from ty);exact⟨typeIs_str s z t,λ _ e=>nomatch e⟩
 |int i =>
  obtain⟨t,rfl⟩:=r;cases (show T = "int" from ty);exact⟨typeIs_int s i t,λ _ e=>nomatch e⟩
 |ref p =>
  cases r;rcases ty with ⟨rfl,xs,hq⟩|⟨rfl,o,hk,hc,hd⟩|⟨rfl,hk⟩|⟨rfl,S,n,hk⟩
  ·obtain⟨aa,_,pl,_⟩:=I.list hq;refine⟨pl.isList.typeIs,λ a e=>?_⟩;cases e;obtain⟨o,n,e,c,hd,_⟩:=pl;exact⟨o,e,hd⟩
  ·refine⟨⟨o,I.LB p o hk,hc⟩,λ a e=>?_⟩;cases e;exact⟨o,I.LB _ o hk,hd⟩
  ·have z:∃o,s.heap.get? p=some o/\o.ExactDict:=by
    rcases hk with ⟨kvs,hk⟩|⟨kvs,hk⟩
    ·obtain⟨_,_,_,_,o,_,_,e,ex,_⟩:=I.Ar p _ hk;exact⟨o,e,ex⟩
    ·obtain⟨_,_,_,_,o,_,_,e,ex,_⟩:=I.Ar p _ hk;exact⟨o,e,ex⟩
   obtain⟨o,e,ex⟩:=z;refine⟨⟨o,e,ex.1⟩,λ a e2=>?_⟩;cases e2;exact⟨o,e,ex.2.1⟩
  ·obtain⟨o,_,_,_,e,ex,_⟩:=I.Ar p _ hk;refine⟨⟨o,e,ex.1⟩,λ a e2=>?_⟩;cases e2;exact⟨o,e,ex.2.1⟩
 |_=>exact zcj ty
abbrev yR (K:za0)(T:String)(r:V->List V->Hp->VK->Prop)(to:TE)(t:TA):TE:=λ σ H Q=>to σ H λ x H1=>xQ K T x H1/\t σ H1 λ xs H2=>r x xs H2 Q
variable {o e:Expr}{es:List Expr}{to:TE}{t:TA}{name:Str}{apos af:Pos}{T id:String}{r:V->List V->Hp->VK->Prop}
def Rv (pa:PlainAttrs T)(slot:Slot T name id)(v4:typeOf (.builtin id)=pure (.type "method_descriptor"))(hm:yQ X id r)(ho:PE X o to)(ha:PA X (e::es) t)(az: ~~~(attributeBase o name X.env (eval o X.env)=eval o X.env))(aL: ~~~(((backTo af (starEach (e::es) X.env)).all (λ x => !x.1)&&(backToKw af (keywordEach [] X.env)).all (λ x=>x.1.isSome)
  && decide ((e::es).length+([]:List Keyword).length+(if ([]:List Keyword).isEmpty then 0 else 1)<30))=true))(a5: ~~~((apos.endLine==af.line)=true))(hs: ~~~(starEach (e::es) X.env=(false,eval e X.env)::starEach es X.env))(am: ~~~((backTo af (starEach es X.env)).any (·.1)=false)):
 PE X (.Call (.Attribute o name apos) (e::es) [] af) (yR X.K T r to t):=by
 intro pins s σ H Q I h;refine wpAny_Call_method_late az aL a5 rfl (Bh (ho pins s σ H _ I h) λ v s1 zz=>?_);obtain⟨x,H1,I1,r1,ty,q1⟩:=zz;obtain⟨h1,h2⟩:=nL I1 r1 ty;refine⟨T,id,pa,slot,v4,h1,h2,?_⟩;have hA:=ha af pins s1 σ H1 _ I1 q1;rw[hs] at hA ⊢;refine Calls.callWith_builtin (by show (false||(backTo af (starEach es X.env)).any (·.1))=false;rw[am]<;>rfl) (Calls.evalArgs_plain ?_);exact Bh hA λ us s2 ⟨vs,H2,I2,r2,q2⟩=>hm pins s2 σ H2 x vs v us Q I2 r1 r2 q2
end
abbrev uK (X:Cx)(id:String)(r:V->List V->Hp->VK->Prop):Prop:=
 ∀(pins:List (Addr×Obj)) (s:Shared) (σ:St) (H:Hp) (x:V) (xs:List V) (v:Value) (us:List Value) (Q:VK),Inv X pins σ H s->RelV x v->Vals xs us->r x xs H Q->
  wpAny (model X.prog X.w) X.A (call (.builtin id) (v::us)) (EP X pins σ Q) X.xe s
def Vals.one (h:Vals [x] us):∃u,us=[u]/\RelV x u:=by
 cases h with
 |cons r q=>cases q;exact⟨_,rfl,r⟩
def Vals.two (h:Vals [x,y] us):∃u v,us=[u,v]/\RelV x u/\RelV y v:=by
 cases h with
 |cons r q=>obtain⟨u,rfl,h⟩:=Vals.one q;exact⟨_,_,rfl,r,h⟩
def Vals.dropLast (h:Vals xs us):Vals xs.dropLast us.dropLast:=by
 induction h with
 |nil=>exact .nil
 |cons r t ih =>
  cases t with
  |nil=>exact .nil
  |cons q t'=>exact .cons r ih
def Vals.eraseIdx:∀ {xs:List V}{us:List Value}(i:Nat),Vals xs us->Vals (xs.eraseIdx i) (us.eraseIdx i)
 |_,_,_,.nil=>.nil
 |_,_,0,.cons _ t=>t
 |_,_,i+1,.cons r t=>.cons r (Vals.eraseIdx i t)
def Vals.rep (h:Vals xs us):∀k:Nat,Vals (zai k xs).flatten (zai k us).flatten
 |0=>.nil
 |k+1=>by
  rw[zcd,zcd,List.flatten_cons,List.flatten_cons];exact Vals.append h (Vals.rep h k)
def foldl_rep (aa:List Value):∀(k:Nat) (acc:List Value),
 List.foldl (λ x1 x2=>x1++x2) acc.toArray (zai k aa.toArray)=(acc++(zai k aa).flatten).toArray
 |0,acc=>by simp
 |k+1,acc=>by
  have e:acc.toArray++aa.toArray=(acc++aa).toArray:=by simp
  have e2:(acc++aa)++(zai k aa).flatten=acc++(zai (k+1) aa).flatten:=by
   rw[zcd,List.flatten_cons,zcr]
  rw[<-e2,<-foldl_rep aa k (acc++aa),<-e,zcd,zb9]
section
variable {X:Cx}{pins:List (Addr×Obj)}{σ:St}{H:Hp}{s:Shared}{l b:Addr}{xs ys zs:List V}
def Inv.fG {aa:List Value}(I:Inv X pins σ H s)(hH:H l=some (.lst xs))(e:s.heap.get? l=some {cls:=.type "list",data:=.seq aa.toArray n})(hf:f aa.toArray=its'.toArray)(hv:Vals ys its')(hz:ys.length<=sizeLine):
 Inv X pins σ (upd H l (.lst ys)) {s with heap:=s.heap.update l (zc5 f),toks:=t' }:=by
 have q:=PySem.IsL.update e f;rw[hf] at q;refine I.write (x:=l) (e:=l) (by rw[hH];exact trivial) (.inl rfl) (λ b' u hb hu=>(zct s.heap (zc5 f) (zbn hb)).trans hu) ⟨_,q⟩ ?_;exact⟨hz,its',_,hv,q⟩
def Inv.rV (I:Inv X pins σ H s)(hv:Vals ys aa)(hz:ys.length<=sizeLine):
 Inv X pins σ (upd H s.heap.objs.size (.lst ys)) {s with heap:=s.heap.push {cls:=.type "list",data:=.seq aa.toArray},toks:=t' }:=
 I.laid (λ _ _ q=>za5 _ q) (zag _) ⟨hz,aa,0,hv,zaj _ rfl⟩
def Inv.fresh (I:Inv X pins σ H s):H s.heap.objs.size=none:=I.Ar.fresh (zag _)
def Inv.WJ (I:Inv X pins σ H s)(hH:H l=some (.lst xs)):xs.length<=sizeLine/\∃(aa:List Value) (n:Nat),Vals xs aa/\xs.length=aa.length/\s.heap.get? l=some {cls:=.type "list",data:=.seq aa.toArray n}:=by
 obtain⟨z,aa,n,r,e⟩:=I.Ar l _ hH;exact⟨z,aa,n,r,r.length,e⟩
def Rw (h:n<=sizeLine):zdl n=false:=by
 unfold zdl;exact decide_eq_false (by omega)
end
section
variable {X:Cx}
abbrev fH:V->List V->Hp->VK->Prop:=λ x vs H Q=>∃l xs y,x=.ref l/\vs=[y]/\H l=some (.lst xs)/\xs.length<sizeLine/\Q .AE (upd H l (.lst (xs++[y])))
def Ox:uK X "list.append" fH:=by
 intro pins s σ H x vs v us Q I rx rv h;obtain⟨l,xs,y,rfl,rfl,hH,hz,q⟩:=h;cases rx;obtain⟨u,rfl,ru⟩:=rv.one;obtain⟨z,aa,n,r,hl,e⟩:=I.WJ hH;refine call_meets F.slot_list_append ⟨_,e,rfl⟩ F.entry_list_append (F.args_list_append_2 _ _) (PySem.list_append l aa.toArray n u (by rw[zae];omega)) ⟨e,?_⟩;refine⟨.AE,_,I.fG (its':=aa++[u]) hH e (by simp) (r.append (.cons ru .nil)) ?_,rfl,q⟩;rw[zav,zcg];omega
abbrev fI:V->List V->Hp->VK->Prop:=λ x vs H Q=>∃l b xs zs,x=.ref l/\vs=[.ref b]/\H l=some (.lst xs)/\H b=some (.lst zs)/\xs.length+zs.length<=sizeLine/\Q .AE (upd H l (.lst (xs++zs)))
def WK:uK X "list.extend" fI:=by
 intro pins s σ H x vs v us Q I rx rv h;obtain⟨l,b,xs,zs,rfl,rfl,hH,hB,hz,q⟩:=h;cases rx;obtain⟨u,rfl,ru⟩:=rv.one;cases ru;obtain⟨z,aa,n,r,hl,e⟩:=I.WJ hH;obtain⟨z2,aO,n2,r2,ar,e2⟩:=I.WJ hB;have hsz:aa.toArray.size+aO.toArray.size<=sizeLine:=by rw[zae,zae];omega
 have bS:¬ (!aa.toArray.isEmpty&&zdl (aa.toArray.size+aO.toArray.size))=true:=by
  rw[Rw hsz,Bool.and_false];exact zao
 refine call_meets F.slot_list_extend ⟨_,e,rfl⟩ F.entry_list_extend (F.args_list_extend_2 _ _)
  (AutoSeq1.list_extend_list_list_0 l aa.toArray n b aO.toArray n2 bS (by rw[zae];omega) (by omega)) ⟨e,e2,?_⟩
 refine⟨.AE,_,I.fG (its':=aa++aO) hH e (by simp) (r.append r2) ?_,rfl,q⟩;rw[zav];omega
abbrev wI:R2:=λ x y H Q=>∃l k xs,x=.ref l/\y=.int k/\H l=some (.lst xs)/\-(2^63)<=k/\k<2^63/\xs.length*k.toNat<=sizeLine/\
 ∀p,H p=none->Q (.ref p) (upd H p (.lst (zai k.toNat xs).flatten))
def len_rep {α:Type}(xs:List α)(k:Nat):(zai k xs).flatten.length=k*xs.length:=by
 induction k with
 |zero=>simp
 |succ k ih=>rw[zcd,List.flatten_cons,zav,ih,Nat.succ_mul,Nat.add_comm]
def nM:G9 X (binaryOp .Mult) wI:=by
 intro pins s σ H x y v u Q I rx ry h;obtain⟨l,k,xs,rfl,rfl,hH,h1,h2,hz,q⟩:=h;cases rx;obtain⟨t,rfl⟩:=ry;obtain⟨z,aa,n,r,hl,e⟩:=I.WJ hH;have hlen:aa.toArray.size*k.toNat<=sizeLine:=by rw[zae,<-hl];exact hz
 have nl:¬ aa.toArray.size*k.toNat > (2^63-1) / 8:=by
  have:(sizeLine:Nat)<=(2^63-1) / 8:=by decide
  omega
 have ff:¬ (!Builtin.List.listFitsIndex k)=true:=by
  rw[fitsIndex_both h1 h2];exact zao
 have bS:¬ zdl (aa.toArray.size*k.toNat)=true:=by
  rw[Rw hlen];exact zao
 have bu:List.foldl (λ x1 x2=>x1++x2) #[] (zai (if aa.toArray.isEmpty=true then 0 else k.toNat) aa.toArray)=(zai k.toNat aa).flatten.toArray:=by
  have f0:∀m:Nat,List.foldl (λ x1 x2=>x1++x2) #[] (zai m aa.toArray)=(zai m aa).flatten.toArray:=λ m=>by
   have:=foldl_rep aa m [];rw[List.nil_append] at this;exact this
  rw[f0];cases aa with
  |nil=>simp
  |cons a r'=>rw[if_neg (by simp)]
 refine wpAny_binaryOp_repeat_ref (T := "list") (U := "int") (by decide) ⟨_,e,rfl⟩ (λ s'=>typeIs_int s' k t) noFill_list_mul F.fills_int_mul F.slot_int_rmul repeat_list F.slot_int_index.lookup
  (call_meets F.slot_int_rmul (typeIs_int s k t) F.entry_int_rmul (F.args_int_rmul_2 _ _) (int___rmul___int_list k t l aa.toArray n)
   ⟨e,rfl,⟨_,e,rfl⟩,call_meets F.slot_list_mul ⟨_,e,rfl⟩ F.entry_list_mul (F.args_list_mul_2 _ _) (AutoListH.list___mul___list_int_3 l aa.toArray n k t ff nl bS) ⟨e,?_⟩⟩)
 rw[bu];exact⟨.ref _,_,I.rV (t':=s.toks) (r.rep k.toNat) (by rw[len_rep,Nat.mul_comm];exact hz),rfl,q _ I.fresh⟩
end
end L2
namespace sB
open PySem PySem.W PySem.Calls PyProof.Rows
def Lp:∀(ns:List Int) (vs:List Value),WellAll P h vs (ns.map WData.int)->IntsAre vs ns:=by
 intro ns;induction ns with
 |nil =>
  intro vs w;rw[zd7] at w;cases w;exact .nil
 |cons n ns ih =>
  intro vs w;rw[za6] at w;cases w with
  |cons a b =>
   cases a;exact .cons _ _ (ih _ b)
def WL {l:OpenLaw}(hn:l.most=some n)(cv:l.row.toRowW.claim.pre args=true)(lq:WellAll P h vals args):
 ∃a vs ns,vals=[zbh a]/\args=[WData.list (ns.map WData.int)]/\h.get? a=some {cls:=.type "list",data:=.seq vs.toArray}/\IntsAre vs ns/\ns.length<=n:=by
 have v5:WShape.hasAll [] args [.list .int]=true:=(pre_splitW cv).1;have hc:l.pre.holds [] {args:=args}=true:=(pre_splitW cv).2;obtain⟨d,r,rfl,h1,h2⟩:=hasAllW_cons v5;obtain rfl:=hasAllW_nil h2;obtain⟨xs,rfl,h3⟩:=hasW_list h1;obtain⟨ns,rfl⟩:=items_int h3;have hlen:ns.length<=n:=by
  unfold OpenLaw.pre at hc;have h4:(WTm.not (.lt (.lit (.int (n:Int))) (.len (.arg 0)))).holds [] {args:=[.list (ns.map .int)]}=true:=by
   have h4:=(holds_andW hc).1;rw[hn] at h4;exact h4
  have h5:=condW_of h4 (w_not (w_lt w_lit (w_len_list (w_arg rfl))));rw[za2] at h5;refine Nat.le_of_not_lt λ q=>?_;have q':(n:Int)<((ns.length:Nat):Int):=by omega
  first
   |(rw[decide_eq_true q'] at h5;exact absurd h5 (by decide))
   |(simp at h5;omega)
 cases lq with
 |cons w1 w2 =>
  cases w2;cases w1 with
  |list ho aB=>exact⟨_,_,ns,rfl,rfl,ho,Lp ns _ aB,hlen⟩
def WM (l:OpenLaw)(args:List WData):l.row.toRowW.claim.post args (.bool true) args=true:=
 postW_of (r:=l.row.toRowW) (X:=(true==true))
  (show WShape.has [] (.bool true) .bool=true by first|rfl|decide|simp[WShape.has,WShape.arms,WShape.armsAll])
  (show (WTm.eq .res (.lit (.bool true))).value [] {args:=args,res:=some (.bool true),after:=args}=some (.bool (true==true)) from w_eq_bool (w_res rfl) w_lit) rfl
end sB
namespace L2
open PySem PySem.Spec PyProof.Rows
def Oy:∀ {vs:List Value}{ns:List Int},IntsAre vs ns->Vals (ns.map V.int) vs
 |_,_,.nil=>.nil
 |_,_,.cons n t h=>.cons ⟨t,rfl⟩ (Oy h)
variable {w:World}{mg:Str->Option Value}{base:Heap}{X:Cx}{H:Hp}{pins:List (Addr×Obj)}{σ:St}{s:Shared}{A:Around}{E:Value->Shared->Prop}{e tg iter:Expr}{pos:Pos}{td ty:TE}{scope:Scope}{NB:List Str}{μ:List (Option Nat)}{fp:List Addr}{WX:Str->Hp->Prop}
abbrev fJ (H:Hp):Prop:=∀b,H b=none\/∃o xs,H b=some (.Y1 o (.lst xs))
def Rx {K}(KX:K.In s₁.heap)(np:s₁.heap.Ns mainGlobals mg)(hb:s₁.heap.Ns builtinsNs mb)(v6:∀x:Str,x ≠ "__name__" -> mb x=bootBuiltins x)(nq:s₁.heap.NoLimit)(hg:s₁.gens=#[])(ha:s₁.heap.get? a=some {cls:=.type "list",data:=.seq vs.toArray})(hi:IntsAre vs ns)(hl:ns.length<=sizeLine)(hr:Bp k callerA)(F:∀base:Heap,K.In base->base.Ns mainGlobals mg->D5 P w K mg base CX k fa fd [x] sp)(jb:∀(s:Shared) (u:Value),BindsTo s fd ⟨[u],[]⟩ [(x,u)])(bE:∀H:Hp,fJ H->Du K H a (ns.map V.int)->sp [.ref a] H (λ v _=>v=.bl true) λ _ _ _=>False)(jc:∀H e s',CX [] H s₁ (λ _ _ _=>False) e s'->False):
 codeAny (model P w) callerA (.call (.ref fa) ⟨[.ref a],[]⟩) (λ r s'=>r=.ok (.ret (.bool true))/\OldK s₁.heap s'.heap/\s'.os=s₁.os/\AllBare s'.gens) s₁:=by
 have rv:=Oy hi;have nr:=hi.length;have core:∀H:Hp,fJ H->Du K H a (ns.map V.int)->G5 P w H s₁.heap->(∀b,H b≠none->b=a)->(H a≠none->K.lookup a=none)->
  codeAny (model P w) callerA (.call (.ref fa) ⟨[.ref a],[]⟩) (λ r s'=>r=.ok (.ret (.bool true))/\OldK s₁.heap s'.heap/\s'.os=s₁.os/\AllBare s'.gens) s₁:=by
  intro H hO hS Ar hA hK;have bA:∀ {b:Addr} {o:Obj},s₁.heap.get? b=some o->H b=none->(Pz s₁.heap H).get? b=some o:=λ e n=>Y7 e n;have i6:∀ {b:Addr} {o:Obj} {es:Array DictEntry} {ep:Nat},s₁.heap.get? b=some o->o.data=.dict es ep->H b=none:=fun {b o es ep} e d=>by
   cases q:H b with
   |none=>rfl
   |some u =>
    have e':b=a:=hA b (by rw[q];simp);subst e';rw[ha] at e;cases e;have d':Data.seq vs.toArray _=Data.dict es ep:=d;cases d'
  have lr:∀ {b:Addr} {m:Str->Option Value},s₁.heap.Ns b m->(Pz s₁.heap H).Ns b m:=fun {b m} ⟨o,es,ep,e,d,r⟩=>⟨o,es,ep,bA e (i6 e d),d,r⟩;have sK:K.In (Pz s₁.heap H):=λ b o e=>bA (KX b o e) (by
   cases q:H b with
   |none=>rfl
   |some u =>
    have e':b=a:=hA b (by rw[q];simp);subst e';rw[hK (by rw[q];simp)] at e;cases e)
  have hM:Mod K mg (Pz s₁.heap H):=⟨sK,lr np,⟨mb,lr hb,v6⟩,let ⟨mc,h1,h2⟩:=nq;⟨mc,lr h1,h2⟩⟩;have e0:TJ P w K mg (Pz s₁.heap H) callerA [] s₁ H:=⟨rfl,hM,λ b o e=>eL e,Nat.le_of_eq (Wy _ _),trivial,λ b hb=>absurd (show b∈([]:List Addr) from hb) (by simp),Ar,.of_eq hg⟩;refine codeAny_mono ((F _ sK (lr np)).run callerA [] s₁ H ⟨[.ref a],[]⟩ [.ref a] [.ref a] _ _ hr e0 (jb s₁ (.ref a)) (.cons rfl .nil) (bE H hO hS)) λ r s' h=>?_;cases r with
  |error e=>exact (jc H e s' h).elim
  |ok fl =>
   cases fl with
   |next|brk|cont=>exact zcj h
   |ret u =>
    obtain⟨v,H',os,bare,un,fg,r',q⟩:=h;have q':v=.bl true:=q;subst q';obtain rfl:u=Value.bool true:=r';refine⟨rfl,OldK.of_keep λ b o e=>?_,os,bare⟩;cases q:H b with
    |none=>exact un.keep b o e q (by intro z;exact absurd (show b∈([]:List Addr) from z) (by simp)) (by simp)
    |some u =>
     rcases hO b with z|⟨ob,xs,z⟩
     ·rw[q] at z;cases z
     ·have z2:=un.NQ b ob _ z;obtain⟨e1,_⟩:=Ar b _ z;obtain⟨e2,_⟩:=fg b _ z2;rw[e] at e1;cases e1;exact e2
 cases hk:K.lookup a with
 |some o =>
  have e:=KX a o hk;rw[ha] at e;cases e;refine core (λ _=>none) (λ _=>.inl rfl) (.inr ⟨_,vs.toArray,_,hk,rfl,rfl,rfl,by rw[zae,nr];exact hl,by simpa using rv⟩) (λ b u z=>by have z':(none:Option HO)=some u:=z;cases z') (λ b z=>absurd rfl z) λ z=>absurd rfl z
 |none =>
  refine core (λ b=>if b=a then some (.Y1 {cls:=.type "list",data:=.seq vs.toArray} (.lst (ns.map V.int))) else none) (λ b=>?_) (.inl (.inr ⟨{cls:=.type "list",data:=.seq vs.toArray},if_pos rfl⟩)) (λ b u z=>?_) (λ b z=>?_) λ _=>hk
  ·by_cases hb:b=a
   ·exact .inr ⟨_,_,if_pos hb⟩
   ·exact .inl (if_neg hb)
  ·by_cases hb:b=a
   ·have z':=(if_pos hb).symm.trans z;cases z';subst hb;exact⟨ha,by rw[za2];exact hl,vs,_,rv,ha⟩
   ·have z':=(if_neg hb).symm.trans z;cases z'
  ·by_cases hb:b=a
   ·exact hb
   ·exact absurd (if_neg hb) z
noncomputable abbrev fK:TH:=λ _ _ _ _ _ _=>False
noncomputable abbrev E0:XK:=λ _ _ _=>False
structure Y4 (K:za0)(x qual:Str)(st:Stmt)(f:Addr)(fd:FuncData):Prop where
 ex:∃(oc:Value) (od:Option Addr) (kV doc pm:Value) (an:Option Addr) (B2 ct:Value) (Rp:Array (Option Value)),
  fd=zb8 x qual (AV st) (Aw st) (A4 st) .none kV doc pm an B2 ct/\K.lookup f=some ⟨oc,od,.func fd,Rp⟩/\zby K B2 qual=true
 kp:zbd K (.ref f)=true
section
variable {P:Program}{K:za0}
def Y4.ok {st}(F:Y4 K x qual st f fd)(S:Ad N ps (A4 st))(len:∀vs H Q E,sp vs H Q E->vs.length=ps.length)(bQ:∀(B2:Value) (A:Around) (outer:List Env) (s:Shared) (H:Hp) (vs:List V) (Q:VK) (E:XK),Bp k (A.deeper (envOfC qual (A4 st) s.heap.objs.size f B2))->sp vs H Q E->
  ∃t,V3 (Rl fK P w K mg base N qual (A4 st) f B2 A outer s H E).qZ (Aw st) t/\t {nx:=λ _ H'=>Q .AE H',rt:=Q} (start N vs) H):D5 P w K mg base fK (k+1) f fd ps sp:=by
 obtain⟨oc,od,kV,doc,pm,an,B2,ct,Rp,rfl,lk,aR⟩:=F.ex;refine Ro lk aR S len λ A outer s H vs Q E hr bE=>?_;obtain⟨t,h,q⟩:=bQ B2 A outer s H vs Q E hr bE;exact⟨t,h.qZ,q⟩
def Y4.binds {st}(F:Y4 K x qual st f fd)(h:∀(kV doc pm:Value) (an:Option Addr) (B2 ct:Value) (us:List Value),us.length=ps.length->bindArgs (zb8 x qual (AV st) (Aw st) (A4 st) .none kV doc pm an B2 ct) ⟨us,[]⟩=pure (ps.zip us)):Binds K fd ps []:=by
 obtain⟨oc,od,kV,doc,pm,an,B2,ct,Rp,rfl,lk,aR⟩:=F.ex;exact .all (h kV doc pm an B2 ct)
def TQ {st}{kV}(l:K.lookup f=some ⟨oc,od,.func (zb8 x qual (AV st) (Aw st) (A4 st) .none kV doc pm an B2 ct),Rp⟩)(c:zby K B2 qual=true)(k:zbd K (.ref f)=true):Y4 K x qual st f (zb8 x qual (AV st) (Aw st) (A4 st) .none kV doc pm an B2 ct):=⟨⟨oc,od,kV,doc,pm,an,B2,ct,Rp,rfl,l,c⟩,k⟩
end
def AA (h:n<=1000):n<sizeLine:=Nat.lt_of_le_of_lt h (by decide)
def pv (i:Nat)(hN: ~~~(X.N[i]?=some x))(hv:vL X.env.scope x:=by first | exact zb6 rfl | exact Or.inr (zb6 rfl) | exact Or.inr (Or.inr rfl))(hd:(x==("__debug__" : Str))=false:=by decide)(aR:(x==("__classdict__" : Str))=false:=by decide):PE X (.Name x pos) (Lm i):=mB hN hv hd aR
abbrev Ae (H H':Hp):Prop:=∀b o,H b=some o->H' b=some o
def Ae.refl (H:Hp):Ae H H:=λ _ _ h=>h
def Ae.trans (a:Ae H H1)(b:Ae H1 H2):Ae H H2:=λ c o h=>b c o (a c o h)
def Ae.seq {K}(e:Ae H H')(h:Du K H a xs):Du K H' a xs:=by
 rcases h with (h|⟨o,h⟩)|h
 ·exact .inl (.inl (e _ _ h))
 ·exact .inl (.inr ⟨o,e _ _ h⟩)
 ·exact .inr h
section
variable {κ:Type} [DecidableEq κ]
abbrev NV (kvs:List (κ×V))(k:κ):Option V:=(kvs.find? λ kv=>decide (kv.1=k)).map (·.2)
abbrev putK (kvs:List (κ×V))(k:κ)(v:V):List (κ×V):=
 if (kvs.any λ kv=>decide (kv.1=k))=true then kvs.map (λ kv=>if kv.1=k then (kv.1,v) else kv) else kvs++[(k,v)]
def Mh {p:κ×V}{r:List (κ×V)}{k:κ}(e:p.1=k):NV (p::r) k=some p.2:=by simp[NV,zdk,e]
def Mi {p:κ×V}{r:List (κ×V)}{k:κ}(e:¬ p.1=k):NV (p::r) k=NV r k:=by simp[NV,zdk,e]
def Ry (k:κ):∀kvs:List (κ×V),(kvs.any λ kv=>decide (kv.1=k))=(NV kvs k).isSome
 |[]=>rfl
 |p::r=>by
  rw[zdn];by_cases e:p.1=k
  ·simp only[Mh e,decide_eq_true e,Bool.true_or,Option.isSome_some]
  ·rw[Mi e,decide_eq_false e,Bool.false_or];exact Ry k r
def EF (kvs:List (κ×V))(k:κ)(v:V):(putK kvs k v).length<=kvs.length+1:=by
 unfold putK;split
 ·rw[za2];omega
 ·rw[zav,za9,List.length_nil];omega
def G1.F4 (r:G1 o u):o.isSome=u.isSome:=by
 cases o with
 |none=>cases u with
  |none=>rfl
  |some _=>exact (show False from r).elim
 |some _=>cases u with
  |none=>exact (show False from r).elim
  |some _=>rfl
def G1.getD (r:G1 o u)(rd:RelV d d'):RelV (o.getD d) (u.getD d'):=by
 cases o with
 |none=>cases u with
  |none=>exact rd
  |some _=>exact (show False from r).elim
 |some _=>cases u with
  |none=>exact (show False from r).elim
  |some _=>exact r
def KV.val {kvs:List (κ×V)}{vs:List (κ×Value)}(r:KV kvs vs)(k:κ):G1 (NV kvs k) (valueAt vs k):=by
 unfold KV at r;induction r with
 |nil=>exact zdf
 | @cons p q ps qs h t ih =>
  obtain⟨h1,h2⟩:=h;by_cases e:p.1=k
  ·have e':q.1=k:=h1.symm.trans e;have b:valueAt (q::qs) k=some q.2:=by simp[valueAt,zdk,e']
   rw[Mh e,b];exact h2
  ·have e':¬ q.1=k:=λ z=>e (h1.trans z);have b:valueAt (q::qs) k=valueAt qs k:=by simp[valueAt,zdk,e']
   rw[Mi e,b];exact ih
def KV.any {kvs:List (κ×V)}{vs:List (κ×Value)}(r:KV kvs vs)(k:κ):(kvs.any λ kv=>decide (kv.1=k))=vs.any λ kv=>decide (kv.1=k):=by
 unfold KV at r;induction r with
 |nil=>rfl
 |cons h t ih=>rw[zdn,zdn,ih,h.1]
def KV.nN {kvs:List (κ×V)}{vs:List (κ×Value)}(r:KV kvs vs)(k:κ){y:V}{u:Value}(ry:RelV y u):
 KV (kvs.map λ kv=>if kv.1=k then (kv.1,y) else kv) (vs.map λ kv=>if kv.1=k then (kv.1,u) else kv):=by
 unfold KV at r ⊢;induction r with
 |nil=>exact .nil
 | @cons p q ps qs h t ih =>
  rw[za6,za6];refine .cons ?_ ih;obtain⟨h1,h2⟩:=h;by_cases e:p.1=k
  ·rw[if_pos e,if_pos (h1.symm.trans e)];exact⟨h1,ry⟩
  ·rw[if_neg e,if_neg (λ z=>e (h1.trans z))];exact⟨h1,h2⟩
def KV.put {kvs:List (κ×V)}{vs:List (κ×Value)}(r:KV kvs vs)(k:κ){y:V}{u:Value}(ry:RelV y u):KV (putK kvs k y) (stored vs k u):=by
 unfold putK stored;rw[r.any k];by_cases e:(vs.any λ kv=>decide (kv.1=k))=true
 ·rw[if_pos e,if_pos e];exact r.nN k ry
 ·rw[if_neg e,if_neg e];exact Paired.snoc r ⟨rfl,ry⟩
def KV.length {kvs:List (κ×V)}{vs:List (κ×Value)}(r:KV kvs vs):kvs.length=vs.length:=Paired.length r
end
def Mj (r:RelV (kV k) u):(Ba P w).is k u=true:=by
 cases k with
 |inl i=>obtain⟨t,e⟩:=(show ∃t,u=zck i t from r);subst e;exact Rb P w i t
 |inr x=>obtain⟨t,e⟩:=(show ∃t,u=Value.str x t from r);subst e;exact Rc P w x t
def Oz:∀ {ks:List Key}{us:List Value},Vals (ks.map kV) us->ItemsAre (Ba P w) ks us
 |[],_,r=>by rw[zd7] at r;cases r;exact .nil
 |k::ks,_,r=>by
  rw[za6] at r;cases r with
  |cons h t=>exact .cons (Mj h) (Oz t)
noncomputable abbrev KT (H:Hp):List (List Key×V)->List (List Key×Addr×Value)->Prop:=Paired λ p q=>p.1=q.1/\H q.2.1=some (.tup (p.1.map kV))/\RelV p.2 q.2.2
def KT.val (r:KT H kvs xs)(k:List Key):G1 (NV kvs k) ((atKey xs k).map (·.2)):=by
 induction r with
 |nil=>exact zdf
 | @cons p q ps qs h t ih =>
  obtain⟨h1,_,h2⟩:=h;by_cases e:p.1=k
  ·have e':q.1=k:=h1.symm.trans e;have b:atKey (q::qs) k=some q.2:=by simp[atKey,zdk,e']
   rw[Mh e,b];exact h2
  ·have e':¬ q.1=k:=λ z=>e (h1.trans z);have b:atKey (q::qs) k=atKey qs k:=by simp[atKey,zdk,e']
   rw[Mi e,b];exact ih
def KT.nN (r:KT H kvs xs)(k:List Key)(ry:RelV y u):
 KT H (kvs.map λ kv=>if kv.1=k then (kv.1,y) else kv) (xs.map (putAt k u)):=by
 induction r with
 |nil=>exact .nil
 | @cons p q ps qs h t ih =>
  rw[za6,za6];refine .cons ?_ ih;obtain⟨h1,h2,h3⟩:=h;unfold putAt;by_cases e:p.1=k
  ·rw[if_pos e,if_pos (h1.symm.trans e)];exact⟨h1,h2,ry⟩
  ·rw[if_neg e,if_neg (λ z=>e (h1.trans z))];exact⟨h1,h2,h3⟩
def KT.put (r:KT H kvs xs)(k:List Key)(hb:H b=some (.tup (k.map kV)))(ry:RelV y u):
 KT H (putK kvs k y) (storedH xs k b u):=by
 have e:(kvs.any λ kv=>decide (kv.1=k))=(atKey xs k).isSome:=by
  rw[Ry,(r.val k).F4,Option.isSome_map]
 unfold putK storedH;rw[e];by_cases q:(atKey xs k).isSome=true
 ·rw[if_pos q,if_pos q];exact r.nN k ry
 ·rw[if_neg q,if_neg q];exact Paired.snoc r ⟨rfl,hb,ry⟩
def KT.keeps (r:KT H kvs xs)(ht:∀b ys,H b=some (.tup ys)->H' b=some (.tup ys)):KT H' kvs xs:=
 Paired.lX r λ _ _ z=>⟨z.1,ht _ _ z.2.1,z.2.2⟩
section
variable {P:Program}{h:Heap}{a:Addr}
def kT (ok:G5 P w H h)(e:Rd H a u):BQ P w H h a u:=e.ok ok
def Ml (ok:G5 P w H h)(e:Rd H a (.dK kvs)):kvs.length<=sizeLine/\(a==sysModules)=false/\∃vs,KV kvs vs/\h.DictOf (Ba P w) a vs:=
 show BQ P w H h a (.dK kvs) from kT ok e
def kU (ok:G5 P w H h)(e:H a=some (.dK kvs)):kvs.length<=sizeLine/\(a==sysModules)=false/\∃vs,KV kvs vs/\h.DictOf (Ba P w) a vs:=Ml ok (.inl e)
def HS (ok:G5 P w H h)(e:H a=some (.tup (ks.map kV))):(tupleKind (Ba P w)).is h ks a:=by
 obtain⟨_,aa,r,o,h1,h2,n,h3⟩:=(show BQ P w H h a (.tup (ks.map kV)) from ok a _ e);exact⟨o,aa.toArray,n,h1,h2,h3,by simpa using Oz r⟩
def Mm (ok:G5 P w H h)(e:Rd H a (.dT kvs)):kvs.length<=sizeLine/\(a==sysModules)=false/\
 ∃xs,KT H kvs xs/\h.DictOfH (tupleKind (Ba P w)) a xs:=by
 obtain⟨z,y,xs,r,o,es,ep,h1,h2,h3,h4,h5⟩:=(show BQ P w H h a (.dT kvs) from kT ok e);refine⟨z,y,xs,r,o,es,ep,h1,h2,h3,h4,λ x hx=>?_,h5⟩;have all:∀ {l:List (List Key×V)} {m:List (List Key×Addr×Value)},KT H l m->∀x∈m,(tupleKind (Ba P w)).is h x.1 x.2.1:=by
  intro l m q;induction q with
  |nil=>intro x hx;exact nomatch hx
  | @cons p q ps qs hq t ih =>
   intro x hx;rcases zab.mp hx with e|hx
   ·subst e;exact HS ok (by rw[<-hq.1];exact hq.2.1)
   ·exact ih x hx
 exact all r x hx
def rW (ok:G5 P w H h)(e:H a=some (.dT kvs)):kvs.length<=sizeLine/\(a==sysModules)=false/\
 ∃xs,KT H kvs xs/\h.DictOfH (tupleKind (Ba P w)) a xs:=Mm ok (.inl e)
end
abbrev PR (H:Hp)(a:Addr)(y:V)(r:Option V):Prop:=
 (∃kvs k,Rd H a (.dK kvs)/\y=kV k/\r=NV kvs k)\/∃kvs k b,Rd H a (.dT kvs)/\y=.ref b/\H b=some (.tup (k.map kV))/\r=NV kvs k
abbrev rX (H:Hp)(a:Addr)(y v:V)(H':Hp):Prop:=
 (∃kvs k,H a=some (.dK kvs)/\y=kV k/\kvs.length<sizeLine/\H'=upd H a (.dK (putK kvs k v))) \/
 ∃kvs k b,H a=some (.dT kvs)/\y=.ref b/\H b=some (.tup (k.map kV))/\kvs.length<sizeLine/\H'=upd H a (.dT (putK kvs k v))
section
variable {a:Addr}{y v:V}{u r:Value}{o:Option V}
def Inv.big (I:Inv X pins σ H s):sysModules<s.heap.objs.size:=by
 have h:mainGlobals<s.heap.objs.size:=(I.mod.glob.keeps I.bk).lt;exact Nat.lt_trans (by decide) h
def WN (hu:A.units+1<cLine)(I:Inv X pins σ H s)(g:PR H a y (some v))(ry:RelV y u)(h:∀w' s',Inv X pins σ H s'->RelV v w'->Q w' s'):
 wpAny (model X.prog X.w) A (getItem (.ref a) u) Q E s:=by
 rcases g with ⟨kvs,k,e,ey,l⟩|⟨kvs,k,b,e,ey,eb,l⟩
 ·subst ey;obtain⟨z,hd,vs,rel,dd⟩:=Ml I.Ar e;obtain⟨w',hw,ba⟩:=G1.some_of (v:=v) (o:=valueAt vs k) (by rw[l];exact rel.val k);exact wpAny_getItem_of (Mj ry) dd.mapOf hw (h w' _ (I.tok _) ba)
 ·subst ey;cases (show u=zbh b from ry);obtain⟨z,hd,xs,rel,dd⟩:=Mm I.Ar e;obtain⟨w',hw,ba⟩:=G1.some_of (v:=v) (o:=(atKey xs k).map (·.2)) (by rw[l];exact rel.val k);obtain⟨p,hp,v7⟩:=Option.map_eq_some_iff.mp hw;refine wpAny_getItem_heap (tupleKind_room_in1 hu) (HS I.Ar eb) dd hp ?_;rw[v7];exact h w' _ (I.tok _) ba
def wJ (hu:A.units+1<cLine)(I:Inv X pins σ H s)(g:PR H a y o)(ry:RelV y u)(h:∀s',Inv X pins σ H s'->Q (.bool o.isSome) s'):
 wpAny (model X.prog X.w) A (compareOp .In u (.ref a)) Q E s:=by
 rcases g with ⟨kvs,k,e,ey,l⟩|⟨kvs,k,b,e,ey,eb,l⟩
 ·subst ey;obtain⟨z,hd,vs,rel,dd⟩:=Ml I.Ar e;refine wpAny_in_of (Mj ry) hd dd.mapOf ?_;rw[<-(rel.val k).F4,<-l];exact h _ (I.tok _)
 ·subst ey;cases (show u=zbh b from ry);obtain⟨z,hd,xs,rel,dd⟩:=Mm I.Ar e;refine wpAny_in_heap (tupleKind_room_in1 hu) (HS I.Ar eb) hd dd ?_;have q:=(rel.val k).F4;rw[Option.isSome_map] at q;rw[<-q,<-l];exact h _ (I.tok _)
def fL (hu:A.units+1<cLine)(I:Inv X pins σ H s)(g:PR H a y o)(ry:RelV y u)(h:∀s',Inv X pins σ H s'->Q (.bool (!o.isSome)) s'):
 wpAny (model X.prog X.w) A (compareOp .NotIn u (.ref a)) Q E s:=by
 rcases g with ⟨kvs,k,e,ey,l⟩|⟨kvs,k,b,e,ey,eb,l⟩
 ·subst ey;obtain⟨z,hd,vs,rel,dd⟩:=Ml I.Ar e;refine wpAny_notIn_of (Mj ry) hd dd.mapOf ?_;rw[<-(rel.val k).F4,<-l];exact h _ (I.tok _)
 ·subst ey;cases (show u=zbh b from ry);obtain⟨z,hd,xs,rel,dd⟩:=Mm I.Ar e;refine wpAny_notIn_heap (tupleKind_room_in1 hu) (HS I.Ar eb) hd dd ?_;have q:=(rel.val k).F4;rw[Option.isSome_map] at q;rw[<-q,<-l];exact h _ (I.tok _)
def PV (I:Inv X pins σ H s)(mu:qR (H a))(hs:zcn a s.heap h')(he:∃q,h'.get? a=some q)(new:BQ X.prog X.w (upd H a ob) h' a ob):
 Inv X pins σ (upd H a ob) {s with heap:=h',toks:=t' }:=
 I.write (x:=a) (e:=a) mu (.inl rfl) (λ b q hb z=>(hs.2 b hb).trans z) he new
def YD (z:kvs.length<=sizeLine)(hd:(a==sysModules)=false)(rel:KV kvs vs)(dd:h'.DictOf (Ba P w) a vs):
 BQ P w H' h' a (.dK kvs):=⟨z,hd,vs,rel,dd⟩
def WO (hu:A.units+1<cLine)(I:Inv X pins σ H s)(g:rX H a y v H')(ry:RelV y u)(rv:RelV v r)(h:∀s',Inv X pins σ H' s'->Q () s'):
 wpAny (model X.prog X.w) A (setItem (.ref a) u r) Q E s:=by
 rcases g with ⟨kvs,k,e,ey,l,eH⟩|⟨kvs,k,b,e,ey,eb,l,eH⟩
 ·subst ey eH;obtain⟨z,hd,vs,rel,dd⟩:=kU I.Ar e;have hz:vs.length<=sizeLine:=by rw[<-rel.length];exact z
  have hl:(putK kvs k v).length<=sizeLine:=by have:=EF kvs k v;omega
  refine wpAny_setItem_pairs (hsz:=hz) (Mj ry) dd λ h' fj hs=>h _ ?_;have he:∃q,h'.get? a=some q:=let ⟨q,_,_,hq,_⟩:=fj;⟨q,hq⟩;exact PV I (by rw[e];exact zdf) hs he (YD hl hd (rel.put k rv) fj)
 ·subst ey eH;cases (show u=zbh b from ry);obtain⟨z,hd,xs,rel,dd⟩:=rW I.Ar e;have hz:xs.length<=sizeLine:=by rw[<-Paired.length rel];exact z
  have hl:(putK kvs k v).length<=sizeLine:=by have:=EF kvs k v;omega
  refine wpAny_setItem_heap (hsz:=hz) (tupleKind_room_in1 hu) (HS I.Ar eb) dd λ h' fj hs=>h _ ?_;obtain⟨q,es,ep,hq,h2,h3,h4,_,h5⟩:=fj;refine PV I (by rw[e];exact zdf) hs ⟨q,hq⟩ ⟨hl,hd,_,(rel.put k eb rv).keeps λ c ys ec=>?_,q,es,ep,hq,h2,h3,h4,h5⟩;rw[Ai (qQ ec e (λ z=>nomatch z))];exact ec
end
def Rz (I:Inv X pins σ H s)(g:PR H a y o):s.TypeIs (.ref a) "dict" := by
 rcases g with ⟨kvs,k,e,_,_⟩|⟨kvs,k,b,e,_,_,_⟩
 ·obtain⟨_,_,vs,_,dd⟩:=Ml I.Ar e;exact dd.typeIs
 ·obtain⟨_,_,xs,_,dd⟩:=Mm I.Ar e;exact dd.typeIs
abbrev rY (td ty tv:TE):TS:=λ D σ H=>tv σ H λ v H1=>td σ H1 λ x H2=>ty σ H2 λ y H3=>∃a H4,x=.ref a/\rX H3 a y v H4/\D.nx σ H4
section
variable {o i value:Expr}{pos' bt:Pos}{tv:TE}
def fM (hu:X.A.units+1<cLine)(ho:PE X o td)(hi:PE X i ty)(hv:PE X value tv)(hs:swapsWith value (some (.Subscript o i pos')) pos.line X.env=pure false):
 PS X (.Assign [.Subscript o i pos'] value pos) (rY td ty tv):=by
 intro pins s σ H D I h;refine wpAny_Assign_Subscript (Bh (hv pins s σ H _ I h) λ r s1 ⟨v,H1,I1,rv,q1⟩=>Bh (ho pins s1 σ H1 _ I1 q1) λ u s2 ⟨x,H2,I2,rx,q2⟩=>Bh (hi pins s2 σ H2 _ I2 q2) λ iv s3 zz=>?_) hs;obtain⟨y,H3,I3,ry,a,H4,ex,g,q3⟩:=zz;subst ex;obtain rfl:u=zbh a:=rx;exact WO hu I3 g ry rv λ s4 I4=>⟨σ,H4,I4,q3⟩
end
def RB (h:Heap)(hb:sysModules<h.objs.size):BQ P w H (h.push {cls:=.type "dict",data:=.dict #[]}) h.objs.size (.dK []):=
 ⟨zb0 _,beq_eq_false_iff_ne.mpr (zbn (zap hb)),[],.nil,Heap.DictOf.new h⟩
def YE (h:Heap)(hb:sysModules<h.objs.size):BQ P w H (h.push {cls:=.type "dict",data:=.dict #[]}) h.objs.size (.dT []):=
 ⟨zb0 _,beq_eq_false_iff_ne.mpr (zbn (zap hb)),[],.nil,_,#[],0,zaj _ rfl,⟨rfl,rfl,rfl⟩,rfl,rfl,zbz⟩
abbrev nO:TE:=λ _ H Q=>∀p,H p=none->Q (.ref p) (upd H p (.dK []))
abbrev nQ:TE:=λ _ H Q=>∀p,H p=none->Q (.ref p) (upd H p (.dT []))
def YF:PE X (.Dict [] [] pos) nO:=λ pins s σ H Q I h =>
 wpAny_Dict_empty ⟨.ref s.heap.objs.size,_,I.laid (a:=s.heap.objs.size) (o:=.dK []) (t':=s.toks) (λ _ _ q=>za5 _ q) (zag _) (RB s.heap I.big),rfl,h _ (I.Ar.fresh (zag _))⟩
def YG:PE X (.Dict [] [] pos) nQ:=λ pins s σ H Q I h =>
 wpAny_Dict_empty ⟨.ref s.heap.objs.size,_,I.laid (a:=s.heap.objs.size) (o:=.dT []) (t':=s.toks) (λ _ _ q=>za5 _ q) (zag _) (YE s.heap I.big),rfl,h _ (I.Ar.fresh (zag _))⟩
abbrev TR:List (TE×TE)->St->Hp->(List (V×V)->Hp->Prop)->Prop
 |[],_,H,Q=>Q [] H
 |(tk,tv)::r,σ,H,Q=>tk σ H λ x H1=>tv σ H1 λ y H2=>TR r σ H2 λ ps H3=>Q ((x,y)::ps) H3
noncomputable abbrev VV:List (V×V)->List (Value×Value)->Prop:=Paired λ p q=>RelV p.1 q.1/\RelV p.2 q.2
abbrev uL (X:Cx)(pos:Pos)(keys:List (Option Expr))(values:List Expr)(cz:List (TE×TE)):Prop:=
 ∀(pins:List (Addr×Obj)) (s:Shared) (σ:St) (H:Hp) (Q:List (V×V)->Hp->Prop),Inv X pins σ H s->TR cz σ H Q->
  wpAny (model X.prog X.w) X.A (evalPairs (pairTrees keys values X.env pos)) (λ vs s'=>∃ps H',Inv X pins σ H' s'/\VV ps vs/\Q ps H') X.xe s
def fN:uL X pos [] [] []:=λ pins s σ H Q I h=>pairTrees_nil_walk ⟨[],H,I,.nil,h⟩
def YH (hk:PE X k tk)(hv:PE X v tv)(hr:uL X pos ks vs cz):
 uL X pos (some k::ks) (v::vs) ((tk,tv)::cz):=λ pins s σ H Q I h =>
 pairTrees_cons_walk (Bh (hk pins s σ H _ I h) λ u s1 ⟨x,H1,I1,rx,q1⟩=>Bh (hv pins s1 σ H1 _ I1 q1) λ w2 s2 ⟨y,H2,I2,ry,q2⟩ =>
  Bh (hr pins s2 σ H2 _ I2 q2) λ ws s3 ⟨ps,H3,I3,rel,q3⟩=>⟨(x,y)::ps,H3,I3,.cons ⟨rx,ry⟩ rel,q3⟩)
abbrev Ge (kvs more:List (Key×V)):List (Key×V):=more.foldl (λ acc kv=>putK acc kv.1 kv.2) kvs
def KV.merge:∀ {more:List (Key×V)}{rs:List (Key×Value)}{kvs:List (Key×V)}{vs:List (Key×Value)},KV more rs->KV kvs vs->KV (Ge kvs more) (merged vs rs):=by
 intro more rs kvs vs r;unfold KV at r;induction r generalizing kvs vs with
 |nil=>intro q;exact q
 | @cons p q ps qs h t ih =>
  intro r0;have e:KV (putK kvs p.1 p.2) (stored vs q.1 q.2):=by
   have:=r0.put p.1 h.2;rw[<-h.1];exact this
  exact ih e
def Hx:∀(more kvs:List (Key×V)),(Ge kvs more).length<=kvs.length+more.length
 |[],kvs=>by show kvs.length<=kvs.length+0;omega
 |p::r,kvs=>by
  have h1:=Hx r (putK kvs p.1 p.2);have h2:=EF kvs p.1 p.2;show (Ge (putK kvs p.1 p.2) r).length<=_;rw[za9];omega
def Mn {P:Program}{w:World}:∀ {kvs:List (Key×V)}{ws:List (Value×Value)},VV (kvs.map λ kv=>(kV kv.1,kv.2)) ws->∃rs,Carries (Ba P w) ws rs/\KV kvs rs
 |[],_,r=>by rw[zd7] at r;cases r;exact⟨[],zdf,.nil⟩
 |p::kvs,_,r=>by
  rw[za6] at r;cases r with
  | @cons a b as bs h t =>
   obtain⟨rs,c,q⟩:=Mn (P:=P) (w:=w) t;obtain⟨b1,b2⟩:=b;exact⟨(p.1,b2)::rs,⟨Mj h.1,rfl,c⟩,.cons ⟨rfl,h.2⟩ q⟩
abbrev rZ (cz:List (TE×TE)):TE:=λ σ H Q=>∀p,H p=none->TR cz σ (upd H p (.dK [])) λ ps H2=>H2 p=some (.dK [])/\∃kvs:List (Key×V),ps=kvs.map (λ kv=>(kV kv.1,kv.2))/\kvs.length<=15/\Q (.ref p) (upd H2 p (.dK (Ge [] kvs)))
def fO (h:uL X pos keys values cz)(aB:keys.all (·.isSome)=true)(hl:keys.length=values.length)(h0:keys≠[])(v8:keys.length<=15):PE X (.Dict keys values pos) (rZ cz):=by
 intro pins s σ H Q I q;have hn:=I.Ar.fresh (zag s.heap.objs.size);have I1:=I.laid (a:=s.heap.objs.size) (o:=.dK []) (h':=s.heap.push {cls:=.type "dict",data:=.dict #[]}) (t':=s.toks) (λ _ _ q=>za5 _ q) (zag _) (RB s.heap I.big);refine wpAny_Dict_walk (knd:=Ba X.prog X.w) aB hl h0 v8 (Bh (h pins _ σ _ _ I1 (q _ hn)) λ ws s2 zz=>?_);obtain⟨ps,H2,I2,rel,e,kvs,ep,lk,q2⟩:=zz;subst ep;obtain⟨rs,c,rk⟩:=Mn (P:=X.prog) (w:=X.w) rel;obtain⟨z,hd,tf,r0,dd⟩:=kU I2.Ar e;cases r0;refine⟨rs,c,dd,λ h' fj hs=>⟨.ref s.heap.objs.size,_,?_,rfl,q2⟩⟩;have hz:(Ge [] kvs).length<=sizeLine:=by
  have h1:=Hx kvs [];rw[List.length_nil] at h1;rw[sizeLine_eq];omega
 have he:∃q,h'.get? s.heap.objs.size=some q:=let ⟨q,_,_,hq,_⟩:=fj;⟨q,hq⟩;exact PV I2 (by rw[e];exact zdf) hs he (YD hz hd (rk.merge .nil) fj)
structure M1 (X:Cx)(o:Expr)(m:Str)(apos:Pos)(e:Expr)(af:Pos):Prop where
 base:attributeBase o m X.env (eval o X.env)=eval o X.env
 yS:((backTo af (starEach [e] X.env)).all (λ x => !x.1)&&(backToKw af (keywordEach [] X.env)).all (λ x=>x.1.isSome)
  && decide (([e]:List Expr).length+([]:List Keyword).length+(if ([]:List Keyword).isEmpty then 0 else 1)<30))=true
 line:(apos.endLine==af.line)=true
 sA:backTo af (starEach [e] X.env)=[(false,eval e X.env)]
abbrev wK (H:Hp)(a:Addr):Prop:=(∃kvs,Rd H a (.dK kvs))\/∃kvs,Rd H a (.dT kvs)
def TU (I:Inv X pins σ H s)(d:wK H a):
 s.TypeIs (.ref a) "dict" /\ (∀b,zbh a=.ref b->∃ob,s.heap.get? b=some ob/\ob.dict=none)/\(a==sysModules)=false:=by
 rcases d with ⟨kvs,e⟩|⟨kvs,e⟩
 ·obtain⟨_,hd,vs,_,dd⟩:=Ml I.Ar e;refine⟨dd.typeIs,λ b q=>?_,hd⟩;cases q;obtain⟨ob,_,_,h1,h2,_⟩:=dd;exact⟨ob,h1,h2.2.1⟩
 ·obtain⟨_,hd,xs,_,dd⟩:=Mm I.Ar e;refine⟨dd.typeIs,λ b q=>?_,hd⟩;cases q;obtain⟨ob,_,_,h1,h2,_⟩:=dd;exact⟨ob,h1,h2.2.1⟩
section
variable {a:Addr}{y d:V}{u r:Value}{o:Option V}
def nR (hu:A.units+1<cLine)(I:Inv X pins σ H s)(g:PR H a y o)(ry:RelV y u)(h:∀w' s',Inv X pins σ H s'->RelV (o.getD .AE) w'->Q w' s'):
 wpAny (model X.prog X.w) A (call (.builtin "dict.get") [.ref a,u]) Q E s:=by
 rcases g with ⟨kvs,k,e,ey,l⟩|⟨kvs,k,b,e,ey,eb,l⟩
 ·subst ey;obtain⟨z,hd,vs,rel,dd⟩:=Ml I.Ar e;refine call_meetsIn PySem.F.slot_dict_get dd.typeIs PySem.F.entry_dict_get (PySem.F.args_dict_get_2 _ _) (meets_dict_get (Ba X.prog X.w) a (Mj ry) hd) ⟨_,dd.mapOf,h _ _ (I.tok _) ?_⟩;rw[l];exact (rel.val k).getD rfl
 ·subst ey;cases (show u=zbh b from ry);obtain⟨z,hd,xs,rel,dd⟩:=Mm I.Ar e;refine call_meetsIn PySem.F.slot_dict_get dd.typeIs PySem.F.entry_dict_get (PySem.F.args_dict_get_2 _ _) (meetsH_dict_get (tupleKind (Ba X.prog X.w)) a b hd) ⟨tupleKind_room_in1 hu,k,xs,HS I.Ar eb,dd,h _ _ (I.tok _) ?_⟩;rw[l];exact (rel.val k).getD rfl
end
abbrev nS (td ty:TE):TE:=λ σ H Q=>td σ H λ x H1=>∃a,x=.ref a/\wK H1 a/\ty σ H1 λ y H2=>∃o,PR H2 a y o/\Q (o.getD .AE) H2
section
variable {o f:Expr}{apos af:Pos}{tx:TE}
def YI (hu:X.A.units+1<cLine)(ho:PE X o td)(he:PE X e ty)(m:M1 X o "get" apos e af):PE X (.Call (.Attribute o "get" apos) [e] [] af) (nS td ty):=by
 intro pins s σ H Q I h;refine wpAny_Call_method m.base m.yS m.line PySem.F.plainAttrs_dict PySem.F.slot_dict_get PySem.F.type_dict_get (Bh (ho pins s σ H _ I h) λ u s1 zz=>?_);obtain⟨x,H1,I1,rx,a,ex,d,q1⟩:=zz;subst ex;obtain rfl:u=zbh a:=rx;obtain⟨t1,t2,_⟩:=TU I1 d;refine⟨t1,t2,?_⟩;rw[m.sA];refine Calls.callWith_builtin rfl (Calls.evalArgs_plain (zc6 (Bh (he pins s1 σ H1 _ I1 q1) λ iv s2 ⟨y,H2,I2,ry,ov,g,q2⟩=>zcc ?_)));exact nR hu I2 g ry λ w' s3 I3 ba=>⟨_,H2,I3,ba,q2⟩
end
abbrev V9 (y:Str×NameKind):Bool:=y.2==.cell
abbrev Gf (sc outer:Scope):Bool:=
 decide (sc.kind=.function)&&(decide ((sc.names.filter V9).length<=1)&&sc.names.all λ y=>(decide (y.2≠.cell)||decide (sc.names.lookup y.1=some .cell))&&(decide (y.2≠.free)||decide (outer.names.lookup y.1=some .cell)||decide (outer.names.lookup y.1=some .free))&&(decide (y.2≠.local)||decide (sc.names.lookup y.1=some .local)))
abbrev Gg (names:List (Str×NameKind)):Option Str:=(names.find? V9).map (·.1)
abbrev Va (C:Addr)(names:List (Str×NameKind))(cs:List (Str×Addr)):List (Str×Addr):=match Gg names with
 |some x=>(x,C+1)::cs
 |none=>cs
def RC (h:Gg names=some x):(x,.cell)∈names:=by
 unfold Gg at h;obtain⟨y,h1,rfl⟩:=Option.map_eq_some_iff.mp h;have h2:=List.find?_some h1;have e:y.2=.cell:=by unfold V9 at h2;simpa using h2
 have:=List.mem_of_find?_eq_some h1;rw[<-e];exact this
def nT (h:(names.filter V9).length<=1)(hx:(x,.cell)∈names):Gg names=some x:=by
 induction names with
 |nil=>cases hx
 |cons y r ih =>
  unfold Gg;cases e:V9 y with
  |true =>
   rw[List.filter_cons_of_pos e,za9] at h;rw[List.find?_cons_of_pos e];rcases zab.mp hx with rfl|hx
   ·rfl
   ·have:(x,NameKind.cell)∈r.filter V9:=zbp.mpr ⟨hx,rfl⟩;rw[zde (l:=r.filter V9) (by omega)] at this;cases this
  |false =>
   rw[List.filter_cons_of_neg (by rw[e];exact zao)] at h;rw[List.find?_cons_of_neg (by rw[e];exact zao)];rcases zab.mp hx with rfl|hx
   ·cases e
   ·exact ih h hx
def TV:∀ {names:List (Str×NameKind)}{n:Nat}{acc:List (Str×Addr)},(names.filter V9).length<=1->cellsFrom n names acc=match Gg names with | some x=>(x,n)::acc | none=>acc
 |[],_,_,_=>rfl
 |(x,k)::r,n,acc,h=>by
  unfold cellsFrom Gg;cases e:V9 (x,k) with
  |true =>
   rw[List.filter_cons_of_pos e,za9] at h;rw[List.find?_cons_of_pos e,if_pos (show (k==NameKind.cell)=true from e),TV (by omega)];cases q:Gg r with
   |none=>rfl
   |some y =>
    have:(y,NameKind.cell)∈r.filter V9:=zbp.mpr ⟨RC q,rfl⟩;rw[zde (l:=r.filter V9) (by omega)] at this;cases this
  |false =>
   have e':¬ V9 (x,k)=true:=by rw[e];exact zao
   rw[List.filter_cons_of_neg e'] at h;rw[List.find?_cons_of_neg e',if_neg (show ¬ (k==NameKind.cell)=true from e'),TV h];rfl
abbrev PX (N NB:List Str)(sc:Scope)(μ:List (Option Nat)):Bool:=
 decide (NB.length=μ.length)&&(NB.zip μ).all λ p=>match p.2 with
  |none=>true
  |some i=>decide (N[i]?=some p.1)&&decide (sc.names.lookup p.1=some .free)
abbrev ER (μ:List (Option Nat))(σ:St):St:=μ.map λ o=>o.bind λ i=>(σ[i]?).join
abbrev Fm (cells:List (Str×Addr)):List (Str×NameKind)->List (Str×Addr)->List (Str×Addr)
 |[],cs=>cs
 |(n,k)::r,cs=>Fm cells r (if (k==.free)=true then (n,(cells.lookup n).getD 0)::cs else cs)
def Hy (h:∀y∈scope.names,y.2=.free->∃c,env.cells.lookup y.1=some c):closureFor scope env=pure (Fm env.cells scope.names []):=by
 unfold closureFor;have key:∀(names:List (Str×NameKind)) (cs:List (Str×Addr)),(∀y∈names,y.2=.free->∃c,env.cells.lookup y.1=some c)->
  (forIn names cs λ(x:Str×NameKind) r=>match x with
   |(name,kind)=>if (kind==zdi)=true then do
    let __do_lift <-cellOf env name
    pure (zdv ((name,__do_lift)::r))
    else pure (zdv r):Sem _)=pure (Fm env.cells names cs):=by
  intro names;induction names with
  |nil=>intro cs _;rfl
  |cons y r ih =>
   intro cs hy;obtain⟨n,k⟩:=y;rw[List.forIn_cons];by_cases hk:k=.free
   ·subst hk;obtain⟨c,hc⟩:=hy (n,.free) za3 rfl;have e:cellOf env n=pure c:=by unfold cellOf;rw[show env.cells.lookup n=some c from hc]
    simp only[e,beq_self_eq_true,if_true,pure_bind];rw[ih _ λ z hz=>hy z (za4 _ hz)];simp only[Fm,beq_self_eq_true,if_true];rw[show env.cells.lookup n=some c from hc];rfl
   ·have hb:(k==zdi)=false:=by simpa using hk
    simp only[hb,zas,if_false,pure_bind];rw[ih _ λ z hz=>hy z (za4 _ hz)];simp only[Fm,hb,zas,if_false]
 have q:=key scope.names [] h;simp only[bind_pure];exact q
def RD:∀ {names:List (Str×NameKind)}{cs:List (Str×Addr)}{x:Str}{c:Addr},(x,c)∈Fm cells names cs->(x,c)∈cs\/((x,.free)∈names/\c=(cells.lookup x).getD 0)
 |[],cs,x,c,h=>.inl h
 |(n,k)::r,cs,x,c,h=>by
  rcases RD (names:=r) h with q|⟨q,e⟩
  ·by_cases hk:k=.free
   ·subst hk;simp only[beq_self_eq_true,if_true] at q;rcases zab.mp q with z|z
    ·cases z;exact .inr ⟨za3,rfl⟩
    ·exact .inl z
   ·have hb:(k==zdi)=false:=by simpa using hk
    simp only[hb,zas,if_false] at q;exact .inl q
  ·exact .inr ⟨za4 _ q,e⟩
def Mo:∀ {names:List (Str×NameKind)}{cs:List (Str×Addr)}{p:Str×Addr},p∈cs->p∈Fm cells names cs
 |[],_,_,h=>h
 |(n,k)::r,cs,p,h=>by
  show p∈Fm cells r _;refine Mo ?_;by_cases hk:(k==zdi)=true
  ·rw[if_pos hk];exact za4 _ h
  ·rw[if_neg hk];exact h
def Mp:∀ {names:List (Str×NameKind)}{cs:List (Str×Addr)}{x:Str},(x,.free)∈names->∃c,(x,c)∈Fm cells names cs
 |(n,k)::r,cs,x,h=>by
  rcases zab.mp h with z|z
  ·cases z;refine⟨(cells.lookup n).getD 0,?_⟩;show _∈Fm cells r (if (zdi==zdi)=true then _ else _);exact Mo (by rw[if_pos (beq_self_eq_true _)];exact za3)
  ·exact Mp (names:=r) z
def Dq:∀ {l:List (Str×Addr)},(x,c)∈l->∃c',l.lookup x=some c'
 |(y,d)::r,h=>by
  rw[zc9];by_cases e:(x==y)=true
  ·rw[e];exact⟨d,rfl⟩
  ·rw[Bool.eq_false_iff.mpr e];rcases zab.mp h with z|z
   ·cases z;exact absurd (beq_self_eq_true x) e
   ·exact Dq z
def IL (h:(relabel scope env).names.lookup x=some k):∃k',scope.names.lookup x=some k'/\(k=k'\/(k'=.free/\k=.cell)):=by
 unfold relabel at h;dsimp only at h;revert h;induction scope.names with
 |nil=>intro h;cases h
 |cons y r ih =>
  obtain⟨n,k'⟩:=y;intro h;rw[za6,zc9] at h;rw[zc9];by_cases hc:(k'==zdi&&env.scope.kind==.function&&env.kindOf n==some .cell)=true
  ·dsimp only at h;rw[if_pos hc] at h;dsimp only at h;cases e:x==n with
   |true =>
    rw[e] at h;have hf:k'=.free:=by
     have:=hc;simp only[zb2] at this;simpa using this.1.1
    exact⟨k',rfl,.inr ⟨hf,(zat h).symm⟩⟩
   |false=>rw[e] at h;exact ih h
  ·dsimp only at h;rw[if_neg hc] at h;dsimp only at h;cases e:x==n with
   |true=>rw[e] at h;exact⟨k',rfl,.inl (zat h).symm⟩
   |false=>rw[e] at h;exact ih h
def lookup_mem {α:Type}{k}:∀ {l:List (Str×α)},l.lookup x=some k->(x,k)∈l
 |(y,d)::r,h=>by
  rw[zc9] at h;cases e:x==y with
  |true =>
   rw[e] at h;cases h;have:x=y:=by simpa using e
   subst this;exact za3
  |false=>rw[e] at h;exact za4 _ (lookup_mem h)
abbrev blockOf (X:Cx)(s:Shared)(H:Hp)(scope:Scope)(C:Addr)(NB:List Str)(ex:List Addr):Cx:=
 {X with N:=NB,s₀:=s,H₀:=H,env:=compEnvC scope (Va C scope.names (Fm X.env.cells scope.names [])) C X.env,outer:=X.stack,stack:=X.stack,ex:=ex,fn:=λ y=>Gg scope.names==some y,pn:=[],xe:=λ _ _=>False}
section
variable {s4:Shared}{C:Addr}
def Kg (h:Gf scope X.env.scope=true):scope.kind=.function:=by
 unfold Gf at h;simp only[zb2,decide_eq_true_eq] at h;exact h.1
def RE (h:Gf sc outer=true):(sc.names.filter V9).length<=1:=by
 unfold Gf at h;rw[zb2,zb2,decide_eq_true_eq,decide_eq_true_eq] at h;exact h.2.1
def IM (h:Gf sc outer=true)(hy:y∈sc.names):(y.2=.cell->sc.names.lookup y.1=some .cell)/\(y.2=.free->outer.names.lookup y.1=some .cell\/outer.names.lookup y.1=some .free)/\(y.2=.local->sc.names.lookup y.1=some .local):=by
 unfold Gf at h;simp only[zb2,decide_eq_true_eq,List.all_eq_true,Bool.or_eq_true] at h;obtain⟨⟨h1,h2⟩,h3⟩:=h.2.2 y hy;exact⟨λ e=>h1.elim (λ q=>absurd e q) id,λ e=>by
  rcases h2 with (q|q)|q
  ·exact absurd e q
  ·exact .inl q
  ·exact .inr q,λ e=>h3.elim (λ q=>absurd e q) id⟩
def HU (I:Inv X pins σ H s)(h:Gf scope X.env.scope=true)(hx:(x,.free)∈scope.names):∃c,X.env.cells.lookup x=some c:=I.ok.has x ((IM h hx).2.1 rfl)
def Mq (I:Inv X pins σ H s)(h:Gf scope X.env.scope=true)(e:(Fm X.env.cells scope.names []).lookup x=some c):X.env.cells.lookup x=some c:=by
 rcases RD (lookup_mem e) with q|⟨q,r⟩
 ·cases q
 ·obtain⟨c',e'⟩:=HU I h q;rw[e'] at r;rw[e',r];rfl
def Dd (I:Inv X pins σ H s)(h:Gf scope X.env.scope=true)(e:(Va C scope.names (Fm X.env.cells scope.names [])).lookup x=some c):(Gg scope.names=some x/\c=C+1)\/X.env.cells.lookup x=some c:=by
 unfold Va at e;cases q:Gg scope.names with
 |none=>rw[q] at e;exact .inr (Mq I h e)
 |some y =>
  rw[q] at e;dsimp only at e;rw[zc9] at e;cases b:x==y with
  |true=>rw[b] at e;cases e;exact .inl ⟨by rw[eq_of_beq b],rfl⟩
  |false=>rw[b] at e;exact .inr (Mq I h e)
def Mr (h:Gf scope env.scope=true)(hk:(relabel scope env).names.lookup x=some k)(hc:k=.cell\/k=.free):(x,.free)∈scope.names\/Gg scope.names=some x:=by
 obtain⟨k',e,q⟩:=IL hk;have m:=lookup_mem e;rcases q with q|⟨q,_⟩
 ·subst q;rcases hc with z|z
  ·subst z;exact .inr (nT (RE h) m)
  ·subst z;exact .inl m
 ·subst q;exact .inl m
def fP (h:PX X.N NB scope μ=true):NB.length=μ.length/\∀(j i:Nat),μ[j]?=some (some i)->∃x,NB[j]?=some x/\X.N[i]?=some x/\scope.names.lookup x=some .free:=by
 unfold PX at h;simp only[zb2,decide_eq_true_eq,List.all_eq_true] at h;refine⟨h.1,λ j i e=>?_⟩;have hj:j<NB.length:=by rw[h.1];exact (zak.mp e).1
 have m:(NB[j],some i)∈NB.zip μ:=by
  refine List.mem_iff_getElem?.mpr ⟨j,?_⟩;rw[List.getElem?_zip_eq_some];exact⟨zaa hj,e⟩
 have q:=h.2 _ m;dsimp only at q;simp only[zb2,decide_eq_true_eq] at q;exact⟨NB[j],zaa hj,q.1,q.2⟩
def RF (I:Inv X pins σ H s)(a9:Gf scope X.env.scope=true)(bv:PX X.N NB scope μ=true)(ik:∀b∈fp,Ln X pins H b)(ls:∀b∈fp,∃o,s.heap.get? b=some o)(hC:s.heap.objs.size<=C)(ns:h4.Ns C λ _=>none)(k:∀b o,s.heap.get? b=some o->h4.get? b=some o)(bT:∀x,Gg scope.names=some x->h4.IsCell (C+1) none):
 Inv (blockOf X s H scope C NB fp) [] (ER μ σ) H {s with heap:=h4,toks:=t4}:=by
 obtain⟨hlen,bv⟩:=fP bv;have tj:∀b o,s.heap.get? b=some o->b≠C:=λ b o e=>zap (zar (zaf e) hC);have tm:∀x c,X.env.cells.lookup x=some c->c≠C+1:=λ x c e z=>by
  obtain⟨v,o,ho,_⟩:=I.cell x c e;exact absurd (zar (zaf ho) hC) (by rw[z];exact Nat.not_lt.mpr (zd3 C))
 have lu:∀x c,X.env.cells.lookup x=some c->c≠C:=λ x c e=>by
  obtain⟨v,o,ho,_⟩:=I.cell x c e;exact tj c o ho
 refine⟨⟨I.ok.mod,(show scope.kind=_ from Kg a9),I.ok.glob,I.ok.blt,hC,λ x y c h1 h2=>?_,λ x hx=>?_,λ x c hf e=>?_,I.ok.hd,I.ok.frames,.inl rfl,λ b hb=>?_,I.bs,zbl I.ok.eN I.sz,λ b o e hb=>?_,λ b hb hz=>?_,I.stack,I.V2⟩,
  rfl,I.bare,Un.kept k,⟨_,ns,λ j x v e1 e2 e3=>?_⟩,λ x c e=>?_,I.Ar.fresh hC,λ x c e=>?_,λ p hp=>(by cases hp),I.Ar.kept k,?_⟩
 ·rcases Dd I a9 h1 with ⟨a1,a2⟩|a<;>rcases Dd I a9 h2 with ⟨b1,b2⟩|b
  ·rw[a1] at b1;exact zat b1
  ·exact absurd a2 (tm y c b)
  ·exact absurd b2 (tm x c a)
  ·exact I.ok.inj x y c a b
 ·have q:(x,zdi)∈scope.names\/Gg scope.names=some x:=by
   rcases hx with hx|hx
   ·exact Mr a9 hx (.inl rfl)
   ·exact Mr a9 hx (.inr rfl)
  rcases q with q|q
  ·obtain⟨c,m⟩:=Mp (cells:=X.env.cells) (cs:=[]) q;refine Dq (c:=c) ?_;show (x,c)∈Va C scope.names _;unfold Va;split
   ·exact za4 _ m
   ·exact m
  ·refine Dq (c:=C+1) ?_;show (x,C+1)∈Va C scope.names _;unfold Va;rw[q];exact za3
 ·have hq:Gg scope.names=some x:=by simpa [blockOf] using hf
  have e':(Va C scope.names (Fm X.env.cells scope.names [])).lookup x=some c:=e;unfold Va at e';rw[hq] at e';dsimp only at e';rw[zc9,beq_self_eq_true] at e';cases e';exact Nat.le_succ_of_le hC
 ·obtain⟨o,ho⟩:=ls b hb;refine⟨tj b o ho,λ x c e z=>?_⟩;rcases Dd I a9 e with ⟨_,a2⟩|e
  ·exact absurd (zar (zaf ho) hC) (by rw[<-z,a2];exact Nat.not_lt.mpr (zd3 C))
  ·exact (ik b hb).2.2.2.2.1 x c e z
 ·rcases (ik b hb).2.2.2.1 with z|z
  ·exact I.ok.Y9 b o e z
  ·exact absurd (zar (zaf (I.ok.bs b o e).1) z) (zdb _)
 ·rcases zab.mp (I.Ts b hz) with e|e
  ·exact (ik b hb).2.1 e
  ·exact (ik b hb).2.2.1 e
 ·have jd:(μ[j]?).map (λ o=>o.bind λ i=>(σ[i]?).join)=some (some v):=by
   rw[<-zan];exact e2
  cases q:μ[j]? with
  |none=>rw[q] at jd;cases jd
  |some o =>
   rw[q] at jd;cases o with
   |none=>cases jd
   |some i =>
    have e4:(σ[i]?).join=some v:=by simpa using jd
    have e5:σ[i]?=some (some v):=by
     cases z:σ[i]? with
     |none=>rw[z] at e4;cases e4
     |some w=>rw[z] at e4;simp at e4;rw[e4]
    obtain⟨x',n1,n2,n3⟩:=bv j i q;have ex:x'=x:=zat (n1.symm.trans e1);subst ex;have m:=lookup_mem n3;have ov:=(IM a9 m).2.1 rfl;obtain⟨mm,hn,hl⟩:=I.loc;obtain⟨u,r,l⟩:=hl i x' v n2 e5 (ov.elim (λ z=>.inr (.inl z)) λ z=>.inr (.inr z));refine⟨u,r,.inr ⟨?_,?_⟩⟩
    ·rcases e3 with z|z|z
     ·obtain⟨k',z1,z2⟩:=IL (k:=.local) z;rw[n3] at z1;cases z1;rcases z2 with z2|⟨_,z2⟩<;>cases z2
     ·exact .inl z
     ·exact .inr z
    ·rcases l with ⟨l,_⟩|⟨_,c,l1,l2⟩
     ·rcases ov with z|z<;>(rw[show X.env.kindOf x'=_ from z] at l;cases l)
     ·obtain⟨c',m'⟩:=Mp (cells:=X.env.cells) (cs:=[]) m;obtain⟨zV,l3⟩:=Dq m';have l4:=Mq I a9 l3;rw[l1] at l4;cases l4;have l5:(Va C scope.names (Fm X.env.cells scope.names [])).lookup x'=some c:=by
       unfold Va;cases q9:Gg scope.names with
       |none=>exact l3
       |some y =>
        have ne:(x'==y)=false:=by
         cases b:x'==y with
         |false=>rfl
         |true =>
          have z:=(IM a9 (RC q9)).1 rfl;rw[<-eq_of_beq b] at z;rw[show scope.names.lookup x'=some .cell from z] at n3;cases n3
        dsimp only;rw[zc9,ne];exact l3
      refine⟨c,l5,?_⟩;obtain⟨o,ho,hd⟩:=l2;exact⟨o,k _ _ ho,hd⟩
 ·rcases Dd I a9 e with ⟨a1,rfl⟩|e
  ·exact⟨_,bT x a1⟩
  ·obtain⟨v,o,ho,hd⟩:=I.cell x c e;exact⟨v,o,k _ _ ho,hd⟩
 ·rcases Dd I a9 e with ⟨a1,rfl⟩|e
  ·exact I.Ar.fresh (Nat.le_succ_of_le hC)
  ·exact I.FR x c e
 ·show (ER μ σ).length=NB.length;unfold ER;rw[za2,hlen]
def G5.adopt (x:G5 P w H h)(hn:H a=none)(new:BQ P w (upd H a o) h a o):G5 P w (upd H a o) h:=λ b u e=>by
 by_cases hb:b=a
 ·subst hb;rw[Aq] at e;cases e;exact new
 ·rw[Ai hb] at e;exact (x b u e).Rf (λ c v _ q=>q) (λ c q=>by rw[Ai (Ax q hn)];exact q) λ c xs q=>by rw[Ai (Ax q hn)];exact q
def WQ (I:Inv X pins σ H s)(ik:∀b∈fp,Ln X pins H b)(J:Inv (blockOf X s H scope C NB fp) pl σ' H' s')(hC:s.heap.objs.size<=C)(hD:s.heap.objs.size<=D)(c4:D≠C)(eD:s'.heap.get? D=some {cls:=.type "list",data:=.seq aa.toArray n})(nD:H' D=none)(r:Vals ys aa)(hz:ys.length<=sizeLine)(sb:zcn C s'.heap h'):Inv X pins σ (upd H' D (.lst ys)) {s' with heap:=h' }:=by
 have fm:∀b o,s.heap.get? b=some o->b≠C:=λ b o e=>zap (zar (zaf e) hC);have nu:∀b o,s.heap.get? b=some o->b≠D:=λ b o e=>zap (zar (zaf e) hD);have freshD:H D=none:=I.Ar.fresh hD;have nC:H' C=none:=J.free;have u:Un (Y2 X.stack) fp H H' s.heap s'.heap:=J.base;have fg:G5 X.prog X.w H' h':=λ b ob e=>(J.Ar b ob e).Rf (λ c v hc q=>(sb.2 c (by
  intro z;subst z;rcases hc with rfl|hc
  ·rw[nC] at e;cases e
  ·rw[nC] at hc;cases hc)).trans q) (λ _ q=>q) λ _ _ q=>q
 refine I.qT (ch:=fp) J.os ⟨λ b o e n hb hx=>?_,λ b o e n hb hx=>?_,λ b o e n hx=>?_,λ b o e hx=>?_,λ b xs e=>?_,λ b o u' e=>?_,λ b ps e=>?_⟩ (fg.adopt nD ⟨hz,aa,n,r,(sb.2 D c4).trans eD⟩) J.bare λ b hb=>?_
 ·exact (sb.2 b (fm b o e)).trans (u.keep b o e n hb hx)
 ·obtain⟨sl,q⟩:=u.slot b o e n hb hx;exact⟨sl,(sb.2 b (fm b o e)).trans q⟩
 ·rw[Ai (nu b o e)];exact u.free b o e n hx
 ·obtain⟨o',q⟩:=u.there b o e hx;exact⟨o',(sb.2 b (fm b o e)).trans q⟩
 ·rw[Ai (Ax e freshD)];exact u.Px b xs e
 ·rw[Ai (Ax e freshD)];exact u.NQ b o u' e
 ·rw[Ai (Ax e freshD)];exact u.Py b ps e
 ·obtain⟨_,f1,_,f3,f4,f5⟩:=ik b hb;exact⟨f3,f1,f4,f5⟩
end
def YJ (h1:(scope.names.filter V9).length<=1)(hQ:∀h',h'.Ns s.heap.objs.size (λ _=>none)->(∀b o,s.heap.get? b=some o->h'.get? b=some o)->(∀x,Gg scope.names=some x->h'.IsCell (s.heap.objs.size+1) none)->
  Q {scope:=scope,locals:=s.heap.objs.size,globals:=g,cells:=Va s.heap.objs.size scope.names cl,qual:=qual,func:=none,code:=outer.code,frame:=outer.frame,builtins:=outer.builtins} {s with heap:=h' }):
 wpAny M A (newFunctionEnv scope g cl [] qual none .none (some outer)) Q E s:=by
 unfold newFunctionEnv;simp only[Option.isSome_some,if_true];refine wpAny_bind (wpAny_alloc (wpAny_bind (wpAny_layCells _ (λ x k cs=>by cases e:k==NameKind.cell<;>simp[e]) _ _ _ _ ?_)));have ok:=cellsFrom_ok scope.names (s.heap.push {cls:=.type "dict",data:=.dict #[]}) 0 [] ⟨λ _ _ z=>(by cases z),.nil⟩ (zb0 _);rw[TV h1] at ok ⊢;rw[zd0] at ok;rw[List.forIn_nil];refine wpAny_bind (wpAny_pure (wpAny_pure ?_));have key:=hQ (pushCells (s.heap.push {cls:=.type "dict",data:=.dict #[]}) scope.names) ((Heap.Ns.new s.heap (.type "dict")).keeps (pushCells_keeps _ _)) (λ b o e=>pushCells_keeps _ _ b o (za5 _ e)) (λ x hx=>(ok.empty x (s.heap.objs.size+1) (by rw[hx];exact za3)).1);unfold Va at key;rw[<-zd0 s.heap {cls:=.type "dict",data:=.dict #[]}] at key;exact key
def PY (I:Nat->Shared->Prop)(turn:∀n s,I n s->wpAny (model prog w) A (pyNext it) (λ r s₁=>match r with
  |none=>R (.ok .next) s₁
  |some v=>wpAny (model prog w) A (letOwnedTupleGo target it v) (λ _ s₁'=>wpAny (model prog w) A (assign target env v) (λ _ s₂ =>
   wpAny (model prog w) A (forIn ifs true λ c r=>if r=true then do let ok <-isTrue c env (eval c env);pure (zdv ok) else pure (zdv r)) (λ ok s₃ =>
    if ok=true then wpAny (model prog w) A (eval elt env) (λ x s₄ =>
     wpAny (model prog w) A (call (.builtin "list.append") [acc,x]) (λ _ s₅=>∃m,m<n/\I m s₅) (λ _ _=>False) s₄) (λ _ _=>False) s₃
    else ∃m,m<n/\I m s₃) (λ _ _=>False) s₂) (λ _ _=>False) s₁') (λ _ _=>False) s₁) (λ _ _=>False) s)(n:Nat)(h:I n s):
 codeAny (model prog w) A (.compLoop (.ListComp elt [⟨target,iter,ifs,0⟩] scope pos) 0 it acc env) R s:=by
 refine codeAny_loop rfl I (λ n s hI=>?_) n h;show wpAny _ A ((compTurn (.ListComp elt [⟨target,iter,ifs,0⟩] scope pos) 0 it acc env).onRaise (λ x=>do noteFrame x env;theTreesLotGoes x)) _ _ s;refine wpAny_noted ?_;rw[compTurn_list];refine wpAny_bind (wpAny_standAt (wpAny_bind (wpAny_mono (turn n s hI) (λ r s₁ h₁=>?_) λ _ _ h'=>h'.elim)));cases r with
 |none=>exact wpAny_pure h₁
 |some v =>
  refine wpAny_bind (wpAny_mono h₁ (λ _ s₁' h₁'=>?_) λ _ _ h'=>h'.elim);refine wpAny_bind (wpAny_mono h₁' (λ _ s₂ h₂=>wpAny_bind (wpAny_mono h₂ (λ ok s₃ h₃=>?_) λ _ _ h'=>h'.elim)) λ _ _ h'=>h'.elim);cases ok with
  |false=>exact wpAny_pure ⟨rfl,h₃⟩
  |true =>
   exact wpAny_bind (wpAny_bind (wpAny_mono h₃ (λ x s₄ h₄=>wpAny_bind (wpAny_mono h₄ (λ _ s₅ h₅=>wpAny_pure (wpAny_pure ⟨rfl,h₅⟩)) λ _ _ h'=>h'.elim)) λ _ _ h'=>h'.elim))
abbrev qJ (X:Cx)(cs:List Expr)(t:TT):Prop:=
 ∀(pins:List (Addr×Obj)) (s:Shared) (σ:St) (H:Hp) (Q:Bool->Hp->Prop),Inv X pins σ H s->t σ H Q->
  wpAny (model X.prog X.w) X.A (forIn cs true λ c r=>if r=true then do let ok <-isTrue c X.env (eval c X.env);pure (zdv ok) else pure (zdv r)) (TP X pins σ Q) X.xe s
abbrev wL:TT:=λ _ H Q=>Q true H
def fQ:qJ X [] wL:=λ _ _ _ H _ I h=>wpAny_tests_nil ⟨H,I,h⟩
def fR (h:PT X c t):qJ X [c] t:=λ pins s σ H Q I q=>wpAny_tests_one (h pins s σ H Q I q)
abbrev Kh (μ:List (Option Nat))(g:TG):Prop:=∀σ x H Q,g x (ER μ σ) H Q->g x (ER μ σ) H λ σ' H'=>Q σ' H'/\∀(j:Nat) v,(ER μ σ)[j]?=some (some v)->σ'[j]?=some (some v)
def fS (h:μ[i]?=some none):Kh μ (Oj i):=λ σ x H Q q=>by
 refine⟨q,λ j v e=>?_⟩;have ae:j≠i:=λ z=>by
  subst z;unfold ER at e;rw[zan,h] at e;cases e
 rw[zbs (zbn ae)];exact e
abbrev xR (J:It)(H1:Hp)(Q:VK)(st:V->Hp->(St->Hp->Prop)->Prop)(tc:TT)(te:TE):Prop:=
 ∃W:Nat->Nat->List V->Hp->Prop,(∃m,W 0 m [] H1)/\∀i m ys H2,W i m ys H2->
  (J.stop i H2/\∀D,H2 D=none->Q (.ref D) (upd H2 D (.lst ys))) \/
  (J.go i H2/\ys.length<sizeLine/\∃N:List V->Hp->Prop,(∀bo H',N bo H'->∃m',m'<m/\W (i+1) m' bo H')/\∀x H3,J.kO i H2 x H3->st x H3 λ σ4 H4=>tc σ4 H4 λ b H5=>if b=true then te σ4 H5 λ y H6=>N (ys++[y]) H6 else N ys H5)
abbrev Vb (wi:TI)(μ:List (Option Nat))(g:TG)(tc:Shared->Hp->Addr->List Addr->TT)(te:Shared->Hp->Addr->List Addr->TE):TE:=λ σ H Q=>wi σ H λ J H1=>∀s C ex,xR J H1 Q (λ x H K=>g x (ER μ σ) H K) (tc s H1 C ex) (te s H1 C ex)
section
variable {H2:Hp}{s2:Shared}{elt:Expr}{ifs:List Expr}{g:TG}{tc:Shared->Hp->Addr->List Addr->TT}{te:Shared->Hp->Addr->List Addr->TE}{it:Addr}{tn:Nat->Heap->Prop}{J:It}{Q:VK}
def OA (hc:X.calm=true)(I2:Inv X pins σ H2 s2)(T:Turn X.prog X.w X.K tg J fp it tn)(cu:tn 0 s2.heap)(f2:∀b∈fp,Ln X pins H2 b)(a9:Gf scope X.env.scope=true)(bv:PX X.N NB scope μ=true)(je:Kh μ g)(hb:∀(s:Shared) (H:Hp) (C:Addr) (ex:List Addr),PG (blockOf X s H scope C NB ex) tg g/\qJ (blockOf X s H scope C NB ex) ifs (tc s H C ex)/\PE (blockOf X s H scope C NB ex) elt (te s H C ex))(q:∀C,xR J H2 Q (λ x H K=>g x (ER μ σ) H K) (tc s2 H2 C fp) (te s2 H2 C fp)){RR:Value->Addr->Result->Shared->Prop}(fin:∀(D C:Addr) (s':Shared) (H':Hp) (ys:List V) (m:Str->Option Value),s2.heap.objs.size<=D->s2.heap.objs.size<=C->D≠C->s'.heap.Ns C m->H' C=none->(∀h',zcn C s'.heap h'->Inv X pins σ (upd H' D (.lst ys)) {s' with heap:=h' })->Q (.ref D) (upd H' D (.lst ys))->RR (.ref D) C (.ok .next) s'):
 wpAny (model X.prog X.w) X.A (newList []) (λ acc s₃=>wpAny (model X.prog X.w) X.A (newFunctionEnv scope X.env.globals (Fm X.env.cells scope.names []) [] X.env.qual none .none (some X.env)) (λ jf s₄ =>
  codeAny (model X.prog X.w) X.A (.compStart (.ListComp elt [⟨tg,iter,ifs,0⟩] scope pos) 0 (.ref it) acc {jf with scope:=relabel scope X.env}) (RR acc jf.locals) s₄) E s₃) E s2:=by
 refine wpAny_newObj_type (YJ (RE a9) λ h₁ hns₁ hk₁ hcl₁=>?_);dsimp only at hns₁ hk₁ hcl₁ ⊢;generalize nv:s2.heap.push {cls:=.type "list",dict:=none,data:=.seq ([]:List Value).toArray}=lw at hns₁ hk₁ hcl₁ ⊢;have hC:lw.objs.size=s2.heap.objs.size+1:=by rw[<-nv,zd0]
 have c4:s2.heap.objs.size≠lw.objs.size:=by rw[hC];exact zap (Nat.lt_succ_self _)
 have fv:s2.heap.objs.size<=lw.objs.size:=by rw[hC];exact zd3 _
 have old:∀b o,s2.heap.get? b=some o->h₁.get? b=some o:=λ b o e=>hk₁ b o (nv▸za5 _ e);have eD:h₁.get? s2.heap.objs.size=some {cls:=.type "list",data:=.seq ([]:List Value).toArray}:=hk₁ _ _ (nv▸zaj _ rfl);have ls:∀b∈fp,∃o,s2.heap.get? b=some o:=λ b hb=>let ⟨o,e,_⟩:=T.obj _ _ cu b hb;⟨o,e⟩;have ny:∀b∈fp,b≠s2.heap.objs.size:=λ b hb=>let ⟨o,e⟩:=ls b hb;zap (zaf e);generalize tu:s2.heap.objs.size=D at fv c4 eD ny ⊢;generalize zW:lw.objs.size=C at *;have bF:s2.heap.objs.size<=D:=by rw[tu];exact zag _
 have bU:s2.heap.objs.size<=C:=by rw[tu];exact fv
 have I4:Inv (blockOf X s2 H2 scope C NB fp) [] (ER μ σ) H2 {s2 with heap:=h₁}:=RF (t4:=s2.toks) I2 a9 bv f2 ls bU hns₁ old hcl₁;have br:∀ {H':Hp} {pl:List (Addr×Obj)},(∀b∈fp,H' b=none)->(∀p∈pl,p.1=D)->∀b∈fp,Ln (blockOf X s2 H2 scope C NB fp) pl H' b:=fun {H' pl} hn hp b hb=>by
  refine⟨hn b hb,(I4.ok.uF b hb).1,I4.ok.Yb b hb,.inl hb,λ x c e z=>(I4.ok.uF b hb).2 x c e z,λ p jg z=>?_⟩;have nz:p∈pl:=by simpa [blockOf] using jg
  exact ny b hb (z▸hp p nz)
 have v9:D∉(blockOf X s2 H2 scope C NB fp).fs:=λ z=>by
  obtain⟨_,o,ho,_⟩:=I4.ok.Kd.mem z;exact absurd (zaf ho) (Nat.not_lt.mpr bF)
 obtain⟨W,⟨m0,w0⟩,turn⟩:=q C;have loop:∀s₃:Shared,s₃={s2 with heap:=h₁} ->
  codeAny (model X.prog X.w) X.A (.compLoop (.ListComp elt [⟨tg,iter,ifs,0⟩] scope pos) 0 (.ref it) (.ref D) (compEnvC scope (Va C scope.names (Fm X.env.cells scope.names [])) C X.env)) (RR (.ref D) C) s₃:=by
  rintro s₃ rfl;refine PY (λ n s'=>∃i ys aa k H',Inv (blockOf X s2 H2 scope C NB fp) [(D,{cls:=.type "list",data:=.seq aa k})] (ER μ σ) H' s'/\tn i s'.heap/\(∀b∈fp,H' b=none)/\Vals ys aa.toList/\ys.length<=sizeLine/\W i n ys H') ?_ m0
   ⟨0,[],#[],0,H2,I4.IH λ p hp=>?_,T.keep _ _ _ cu λ b hb o e=>old b o e,λ b hb=>(f2 b hb).1,.nil,zb0 _,w0⟩
  rotate_left
  ·have e:=za7.mp hp;subst e;exact⟨eD,I2.Ar.fresh bF,c4,v9,λ v=>by simp⟩
  rintro n s3 ⟨i,ys,aa,k,H3,I3,iy,iz,rv,hz,w3⟩;rcases turn i n ys H3 w3 with ⟨stop,qn⟩|⟨go,ag,N,hN,step⟩
  ·refine wpAny_mono (T.done (blockOf X s2 H2 scope C NB fp) rfl rfl rfl hc i _ s3 _ H3 (λ _ _=>False) I3 (br iz (by simp)) iy stop) (λ r s4 zz=>?_) λ _ _ e=>e;obtain⟨hr,lx⟩:=zz;subst hr;obtain⟨p1,p2,p3,p4,p5⟩:=lx.pin _ (zad _ za3);obtain⟨m,hn,_⟩:=id lx.loc;have e1:s4.heap.get? D=some {cls:=.type "list",data:=.seq aa.toList.toArray k}:=by simpa using p1
   exact fin D C s4 H3 ys m bF bU c4 hn lx.free (λ h' sb=>WQ I2 f2 lx bU bF c4 e1 p2 rv hz sb) (qn D p2)
  ·refine wpAny_mono (T.item (blockOf X s2 H2 scope C NB fp) rfl rfl rfl hc i _ s3 _ H3 (λ _ _=>False) I3 (br iz (by simp)) iy go) (λ r s4 zz=>?_) λ _ _ e=>e;obtain⟨u,hr,h4⟩:=zz;subst hr;refine Bh h4 λ _ s5 zz=>?_;obtain⟨x,H5,I5,r5,y5,e7,m9⟩:=zz;have na:=I5.pinned (br m9 (by simp)) (T.obj _ _ e7);have bn:=je σ x H5 _ (step x H5 y5);obtain⟨hg,ht,he⟩:=hb s2 H2 C fp;refine Bh (hg _ s5 _ H5 x u _ na r5 bn) λ _ s6 zz=>?_;obtain⟨σ6,H6,I6,q6,k6⟩:=zz;refine Bh (ht _ s6 σ6 H6 _ I6 q6) λ ok s7 zz=>?_;obtain⟨H7,I7,q7⟩:=zz;have again:∀ {H8:Hp} {s8:Shared} {its':Array Value} {k':Nat} {bo:List V},Inv (blockOf X s2 H2 scope C NB fp) ([(D,{cls:=.type "list",data:=.seq its' k' })]++HP fp s5.heap) σ6 H8 s8->Vals bo its'.toList->bo.length<=sizeLine->(∃m,m<n/\W (i+1) m bo H8)->
    ∃m,m<n/\∃i ys aa k H',Inv (blockOf X s2 H2 scope C NB fp) [(D,{cls:=.type "list",data:=.seq aa k})] (ER μ σ) H' s8/\tn i s8.heap/\(∀b∈fp,H' b=none)/\Vals ys aa.toList/\ys.length<=sizeLine/\W i m ys H':=fun {H8 s8 its' k' bo} I8 c5 wa n8=>by
    obtain⟨m',hm,w8⟩:=n8;refine⟨m',hm,i+1,bo,its',k',H8,(I8.II.weak ?_ k6),T.keep _ _ _ e7 λ b hb o e=>(I8.pin (b,o) (zad _ (zad _ (Fl hb e)))).1,λ b hb=>?_,c5,wa,w8⟩
    ·rw[I8.len];exact I4.len
    ·obtain⟨o,e,d⟩:=T.obj _ _ e7 b hb;exact (I8.pin (b,o) (zad _ (zad _ (Fl hb e)))).2.1
   cases ok with
   |false =>
    simp only[zas,if_false] at q7 ⊢;exact again I7 rv hz (hN _ _ q7)
   |true =>
    simp only[if_true] at q7 ⊢;refine Bh (he _ s7 σ6 H7 _ I7 q7) λ uy s8 zz=>?_;obtain⟨y,H8,I8,r8,q8⟩:=zz;obtain⟨p1,p2,p3,p4,p5⟩:=I8.pin (D,_) (zad _ (zb5 _ za3));have e1:s8.heap.get? D=some {cls:=.type "list",data:=.seq aa k}:=p1;have hsz:aa.size=ys.length:=by rw[<-zc2];exact rv.length.symm
    refine call_meets F.slot_list_append ⟨_,e1,rfl⟩ F.entry_list_append (F.args_list_append_2 _ _) (PySem.list_append D aa k uy (by rw[hsz];omega)) ⟨e1,?_⟩;have bG:=PySem.IsL.update e1 (·.push uy);have Iu:Inv (blockOf X s2 H2 scope C NB fp) (HP fp s5.heap) σ6 H8 s8:=I8.IH λ p hp=>I8.pin p (zad _ (zad _ hp));have It:=Iu.turned (it:=D) (h':=s8.heap.update D (zc5 (·.push uy))) (t':=s8.toks) (λ b o hb e=>(zct _ _ (zbn hb)).trans e) p2 p3 (.inr bF) (λ x c e z=>?_) (λ p hp z=>?_)
    ·refine again (its':=aa.push uy) (k':=if (aa.push uy).size==aa.size then k else k+1) (It.IH λ p hp=>?_) (by simpa using rv.append (.cons r8 .nil)) (by rw[zav,zcg];omega) (hN _ _ q8);rcases zaq.mp hp with hp|hp
     ·have e:=za7.mp hp;subst e;exact⟨bG,p2,p3,p4,λ v=>by simp⟩
     ·exact It.pin p (zad _ hp)
    ·rcases Dd I2 a9 e with ⟨_,a2⟩|e'
     ·exact absurd (a2.symm.trans z) (Nat.ne_of_gt (Nat.lt_succ_of_le fv))
     ·obtain⟨v,o,ho,_⟩:=I2.cell x c e';exact absurd (zaf ho) (by rw[z];exact Nat.not_lt.mpr bF)
    ·have jg:p∈HP fp s5.heap:=by simpa [blockOf] using hp
     exact ny p.1 (Ol jg).1 z
 exact codeAny_compStart_list (loop _ rfl) (T.self _ 0 _ _ _ (T.keep _ _ _ cu λ b hb o e=>old b o e) (loop _ rfl))
def fT (hc:X.calm=true)(hi:PI X tg iter wi)(a9:Gf scope X.env.scope=true)(bv:PX X.N NB scope μ=true)(je:Kh μ g)(hb:∀(s:Shared) (H:Hp) (C:Addr) (ex:List Addr),PG (blockOf X s H scope C NB ex) tg g/\qJ (blockOf X s H scope C NB ex) ifs (tc s H C ex)/\PE (blockOf X s H scope C NB ex) elt (te s H C ex))(hs:∀x,foldedSetIterable iter X.env x=pure x:=by intro _;rfl):PE X (.ListComp elt [⟨tg,iter,ifs,0⟩] scope pos) (Vb wi μ g tc te):=by
 intro pins s σ H Q I h;have bw:∀y∈scope.names,y.2=.local->scope.names.lookup y.1=some .local:=λ y hy=>(IM a9 hy).2.2;have bV:closureFor scope X.env=pure (Fm X.env.cells scope.names []):=Hy λ y hy e=>HU I a9 (x:=y.1) (by rw[<-e];exact hy);rw[eval_ListComp];refine wpAny_comprehension_free (use:=none) rfl hs bV (Kg a9) bw (Bh (hi pins s σ H _ I h) λ v s1 h1=>Bh h1 λ lp s2 h2=>?_);obtain⟨it,fp,tn,J,H2,e,I2,T,cu,f2,q⟩:=h2;subst e;refine OA (RR:=λ acc C=>compPost (model X.prog X.w) X.A X.xe none (EP X pins σ Q) acc C) hc I2 T cu f2 a9 bv je hb (λ C=>q s2 C fp) ?_;intro D C s' H' ys m hD hC c4 hn nC hI hq;exact⟨m,hn,λ h' sb=>⟨.ref D,_,hI h' sb,rfl,hq⟩⟩
abbrev sC (i:Nat)(te:TE):TS:=λ D σ H=>te σ H λ x H1=>D.nx (σ.set i (some x)) H1
def Vc (hN:X.N.Nodup)(jh:X.N[i]?=some y)(hy:Loc X.env.scope y)(hc:X.calm=true)(hi:PI X tg iter wi)(a9:Gf scope X.env.scope=true)(bv:PX X.N NB scope μ=true)(je:Kh μ g)(hb:∀(s:Shared) (H:Hp) (C:Addr) (ex:List Addr),PG (blockOf X s H scope C NB ex) tg g/\qJ (blockOf X s H scope C NB ex) ifs (tc s H C ex)/\PE (blockOf X s H scope C NB ex) elt (te s H C ex))(bz: ~~~(swapsWith (.ListComp elt [⟨tg,iter,ifs,0⟩] scope pos) (some (.Name y py)) al.line X.env=pure true))(hs:∀x,foldedSetIterable iter X.env x=pure x:=by intro _;rfl)(hf:X.fn y=true\/X.env.scope.names.lookup y=some .local:=by first|exact .inl rfl|exact .inr rfl|assumption):
 PS X (.Assign [.Name y py] (.ListComp elt [⟨tg,iter,ifs,0⟩] scope pos) al) (sC i (Vb wi μ g tc te)):=by
 intro pins s σ H D' I h;have bw:∀y∈scope.names,y.2=.local->scope.names.lookup y.1=some .local:=λ y hy=>(IM a9 hy).2.2;have bV:closureFor scope X.env=pure (Fm X.env.cells scope.names []):=Hy λ y hy e=>HU I a9 (x:=y.1) (by rw[<-e];exact hy);rw[exec_Assign_Name_used _ _ _ _ bz];refine wpAny_bind (wpAny_standAt (wpAny_bind ?_));show wpAny _ X.A (do let _ <-comprehension (.ListComp elt [⟨tg,iter,ifs,0⟩] scope pos) scope X.env _ (newList []) false (eval iter X.env) (some (assign (.Name y py) X.env))) _ _ s;refine wpAny_bind (wpAny_mono (wpAny_comprehension_free (use:=some (assign (.Name y py) X.env)) (Q:=λ _ s'=>SP X pins D' .next s') rfl hs bV (Kg a9) bw (Bh (hi pins s σ H _ I h) λ v s1 h1=>Bh h1 λ lp s2 h2=>?_)) (λ _ s' hq=>wpAny_pure (wpAny_pure hq)) λ _ _ e=>e);obtain⟨it,fp,tn,J,H2,e,I2,T,cu,f2,q⟩:=h2;subst e;refine OA (RR:=λ acc C=>compPost (model X.prog X.w) X.A X.xe (some (assign (.Name y py) X.env)) (λ _ s'=>SP X pins D' .next s') acc C) hc I2 T cu f2 a9 bv je hb (λ C=>q s2 C fp) ?_;intro D C s' H' ys m hD hC c4 hn nC hI hq;have I':=hI s'.heap (.refl ..);show wpAny _ X.A (assign (.Name y py) X.env (.ref D)) _ _ _;refine wpAny_assign_Name (Oi (i:=i) (v:=.ref D) I' hN jh hy rfl (λ i5 wb n5=>?_) hf);obtain⟨a,sb,ha⟩:=n5;have ii:a≠C:=by
  rcases ha with z|z
  ·rw[z];exact zap (zar I2.lt hC)
  ·obtain⟨v,o,ho,_⟩:=I2.cell y a z;exact zap (zar (zaf ho) hC)
 refine⟨m,hn.sameBut sb (zbn ii),λ h' dr=>?_⟩;refine⟨_,_,wb.turned (it:=C) (t':=i5.toks) (λ b o hb e=>(dr.2 b hb).trans e) (by rw[Ai (zbn c4)];exact nC) (Nat.ne_of_gt (zar I2.lt hC)) (.inr (zbl I2.sz hC)) (λ x c e z=>?_) (λ p hp z=>?_),hq⟩
 ·obtain⟨v,o,ho,_⟩:=I2.cell x c e;exact absurd (zaf ho) (by rw[z];exact Nat.not_lt.mpr hC)
 ·exact absurd (zaf (I2.pin p hp).1) (by rw[z];exact Nat.not_lt.mpr hC)
end
abbrev xS (K:za0)(a:Addr):It:=
 ⟨λ i H=>∃xs x,Du K H a xs/\xs[i]?=some x,λ i H v H'=>∃p x,H p=none/\v=.ref p/\(∀xs,Du K H a xs->xs[i]?=some x)/\H'=upd H p (.tup [.int i,x]),λ i H=>∃xs,Du K H a xs/\xs.length<=i⟩
def TX {e}(I:Inv X pins σ H s)(he:Ln X pins H e)(hi:Ln X pins H it)(k:∀b o,b≠e->b≠it->s.heap.get? b=some o->h'.get? b=some o):Inv X pins σ H {s with heap:=h',toks:=t' }:=by
 obtain⟨e0,e1,e2,e3,e4,e5⟩:=he;obtain⟨f0,f1,f2,f3,f4,f5⟩:=hi;have ne:∀b u,H b=some u->b≠e/\b≠it:=λ b u q=>⟨λ z=>(by rw[z,e0] at q;cases q),λ z=>(by rw[z,f0] at q;cases q)⟩;refine I.step (g':=s.gens) (d':=s.drawn) (ch:=[e,it]) (λ b hb=>?_) (λ b o _ _ hc q _=>k b o (λ z=>hc (by simp[z])) (λ z=>hc (by simp[z])) q) (λ b o _ _ hc q _=>⟨o.slots,k b o (λ z=>hc (by simp[z])) (λ z=>hc (by simp[z])) q⟩) (λ _ _ _ _ n=>n)
  (λ b o hc q=>⟨o,k b o (λ z=>hc (by simp[z])) (λ z=>hc (by simp[z])) q⟩) (λ _ _ q=>q) (λ _ _ _ q=>q) (λ b ps q=>⟨#[],by rw[q];simp⟩) (λ m hm=>?_) (λ b u q=>?_) I.bare
 ·rcases zab.mp hb with z|z
  ·subst z;exact⟨e3,e1,e4,e5⟩
  ·have z:=za7.mp z;subst z;exact⟨f3,f1,f4,f5⟩
 ·obtain⟨o,es,ep,ho,r⟩:=hm;exact⟨o,es,ep,k _ o (zbn e1) (zbn f1) ho,r⟩
 ·refine (I.Ar b u q).Rf (λ c v hc z=>k c v ?_ ?_ z) (λ _ z=>z) λ _ _ z=>z
  ·rcases hc with z|z
   ·rw[z];exact (ne b u q).1
   ·exact (ne c _ z).1
  ·rcases hc with z|z
   ·rw[z];exact (ne b u q).2
   ·exact (ne c _ z).2
def WR {K}{x1}(a e it:Addr)(ae:e≠it):
 Turn P w K (.Tuple bW x1 bt) (xS K a) [e,it] e (λ i h=>(∃old,IsEnum h e it i old)/\h.IsListIter it a i) where
 mem:=by simp
 obj:=λ i h st b hb=>by
  obtain⟨⟨old,h1⟩,o,h2,c,d⟩:=st;rcases zab.mp hb with z|z
  ·subst z;exact⟨_,h1,λ v z=>by cases z⟩
  ·have z:=za7.mp z;subst z;exact⟨o,h2,λ v z=>by rw[d] at z;cases z⟩
 keep:=λ i h h' st k=>⟨let ⟨old,h1⟩:=st.1;⟨old,k e (by simp) _ h1⟩,st.2.at λ o e=>k it (by simp) o e⟩
 item:=by
  intro X hP hw hK hc i pins s σ H E I hf st hg;subst hP hw hK;obtain⟨xs,x,hq,hx⟩:=hg;obtain⟨⟨old,he⟩,hit⟩:=st;obtain⟨aa,rv,p,hz⟩:=I.list hq;obtain⟨u,hu,ru⟩:=rv.get hx;have fe:=hf e (by simp);have fi:=hf it (by simp);refine wpAny_pyNext_enum_item he hit p.isList (x:=u) (by simpa using hu) ae λ h1 dl n6 ht hsz hk=>?_;refine⟨_,rfl,wpAny_letOwnedTupleGo_enum (s:={s with heap:=h1,toks:=s.toks+1}) dl λ h2 wc a8=>?_⟩;have b7:zcn e h1 h2:=a8;have nt:s.heap.objs.size≠e:=Nat.ne_of_gt (zaf he);have we:s.heap.objs.size≠it:=by
   obtain⟨o,ho,_⟩:=hit;exact Nat.ne_of_gt (zaf ho)
  have I1:Inv X pins σ H {s with heap:=h2,toks:=s.toks+1}:=TX I fe fi λ b o hb a7 q=>(b7.2 b hb).trans (hk b o hb a7 q);have tup:h2.get? s.heap.objs.size=some {cls:=.type "tuple",data:=.seq #[.int i s.toks,u]}:=(b7.2 _ nt).trans ht;have nH:H s.heap.objs.size=none:=I.Ar.fresh (zag _);have vv:Vals [.int i,x] [.int i s.toks,u]:=.cons ⟨_,rfl⟩ (.cons ru .nil);have n9:G5 X.prog X.w (upd H s.heap.objs.size (.tup [.int i,x])) h2:=I1.Ar.adopt nH ⟨by show 2<=sizeLine;decide,_,vv,⟨_,tup,rfl,_,rfl⟩⟩;have I2:Inv X pins σ (upd H s.heap.objs.size (.tup [.int i,x])) {s with heap:=h2,toks:=s.toks+1}:=by
   refine I.step (g':=s.gens) (d':=s.drawn) (ch:=[e,it]) (λ b hb=>?_) (λ b o _ _ hc q _=>(b7.2 b (λ z=>hc (by simp[z]))).trans (hk b o (λ z=>hc (by simp[z])) (λ z=>hc (by simp[z])) q)) (λ b o _ _ hc q _=>⟨o.slots,(b7.2 b (λ z=>hc (by simp[z]))).trans (hk b o (λ z=>hc (by simp[z])) (λ z=>hc (by simp[z])) q)⟩)
    (λ b o hc q n=>by rw[Ai (zap (zaf q))];exact n) (λ b o hc q=>⟨o,(b7.2 b (λ z=>hc (by simp[z]))).trans (hk b o (λ z=>hc (by simp[z])) (λ z=>hc (by simp[z])) q)⟩)
    (λ b xs q=>by rw[Ai (Ax q nH)];exact q) (λ b o u q=>by rw[Ai (Ax q nH)];exact q) (λ b ps q=>⟨#[],by rw[Ai (Ax q nH),q];simp⟩) (λ m hm=>?_) n9 I.bare
   ·rcases zab.mp hb with z|z
    ·subst z;exact⟨fe.2.2.2.1,fe.2.1,fe.2.2.2.2.1,fe.2.2.2.2.2⟩
    ·have z:=za7.mp z;subst z;exact⟨fi.2.2.2.1,fi.2.1,fi.2.2.2.2.1,fi.2.2.2.2.2⟩
   ·obtain⟨o,es,ep,ho,r⟩:=hm;exact⟨o,es,ep,(b7.2 _ (zbn fe.2.1)).trans (hk _ o (zbn fe.2.1) (zbn fi.2.1) ho),r⟩
  refine⟨.ref s.heap.objs.size,_,I2,rfl,⟨_,x,nH,rfl,λ ys hy=>by rw[I.G7 hy hq];exact hx,rfl⟩,⟨⟨u,wc⟩,n6.at λ o q=>(b7.2 it (zbn ae)).trans q⟩,λ b hb=>?_⟩;have a7:b≠s.heap.objs.size:=by
   rcases zab.mp hb with z|z
   ·rw[z];exact zbn nt
   ·rw[za7.mp z];exact zbn we
  rw[Ai a7];exact (hf b hb).1
 done:=by
  intro X hP hw hK hc i pins s σ H E I hf st hg;subst hP hw hK;obtain⟨xs,hq,hx⟩:=hg;obtain⟨⟨old,he⟩,hit⟩:=st;obtain⟨aa,rv,p,hz⟩:=I.list hq;have hl:=rv.length;obtain⟨f0,f1,f2,f3,f4,f5⟩:=hf it (by simp);exact wpAny_pyNext_enum_end (I.ok.hd hc) he hit p.isList (by simp;omega) λ h' eb=>⟨rfl,I.turned (t':=s.toks) (λ b o hb e=>eb b o hb e) f0 f1 f3 f4 f5⟩
 self:=λ _ _ _ _ _ st h=>let ⟨_,he⟩:=st.1;wpAny_pyIter_enum he h
abbrev sD (K:za0)(ta:TA):TI:=λ σ H R=>ta σ H λ vs H1=>∃a,vs=[.ref a]/\(∃xs,Du K H1 a xs)/\R (xS K a) H1
def fU {x1}(hg:Gl X "enumerate")(hm:X.mg "enumerate" = none)(ha:PA X [a] ta)(hb:bootBuiltins "enumerate" = some (.type "enumerate"):=by decide +kernel)(hs: ~~~(starEach [a] X.env=[(false,eval a X.env)])):
 PI X (.Tuple bW x1 bt) (.Call (.Name "enumerate" p) [a] [] pos) (sD X.K ta):=by
 intro pins s σ H R I h;refine Call_ (CS I hg hm hb (zbm (Bh (ha pos pins s σ H _ I h) λ us s1 zz=>?_) hs rfl));obtain⟨vs,H1,I1,r1,q1⟩:=zz;obtain⟨j,e,⟨xs,hq⟩,q⟩:=q1;subst e;cases r1 with
 |cons r rr =>
  cases rr;cases r;obtain⟨aa,rv,p,hz⟩:=I1.list hq;refine call_enumerate_list p.isList λ h' he hit hsz hk=>?_;refine wpAny_pyIter_enum (s:={s1 with heap:=h' }) he ?_;have I2:Inv X pins σ H1 {s1 with heap:=h' }:=I1.kept (t':=s1.toks) hk;refine⟨_,[s1.heap.objs.size+1,s1.heap.objs.size],_,_,H1,rfl,I2,WR j _ _ (Nat.succ_ne_self _),⟨⟨_,he⟩,hit⟩,λ b hb=>?_,q⟩;rcases zab.mp hb with z|z
  ·rw[z];exact I1.Yl (zd3 _) (I1.Ar.fresh (zd3 _))
  ·rw[za7.mp z];exact I1.Yl (zag _) (I1.Ar.fresh (zag _))
abbrev BK {α:Type}(o:Option (α×List Int))(b:α×List Int):Option (α×List Int):=match o with | none=>some b | some c=>if HT.lexLt b.2 c.2=true then some b else some c
abbrev Bb {α:Type}(bs:List (α×List Int)):Option (α×List Int):=bs.foldl BK none
abbrev IQ (bs:List (Addr×List Int)):Array Value:=match Bb bs with | none=>#[] | some b=>#[.ref b.1,.ref b.1]
def HV {α:Type}(bs:List (α×List Int))(b:α×List Int):Bb (bs++[b])=match Bb bs with | none=>some b | some c=>if HT.lexLt b.2 c.2=true then some b else some c:=by
 unfold Bb;rw[List.foldl_append];rfl
def OB {α:Type}:∀(bs:List (α×List Int)) (b:α×List Int),Bb bs=some b->b∈bs:=by
 intro bs
 suffices h:∀(bs:List (α×List Int)) (o:Option (α×List Int)) (b:α×List Int),bs.foldl BK o=some b->b∈bs\/o=some b by
  intro b hb;rcases h bs none b hb with q|q
  ·exact q
  ·cases q
 intro bs;induction bs with
 |nil=>intro o b h;exact .inr h
 |cons x r ih =>
  intro o b h;rw[zb9] at h;rcases ih _ _ h with q|q
  ·exact .inl (za4 _ q)
  ·cases o with
   |none=>cases q;exact .inl za3
   |some c =>
    unfold BK at q;dsimp only at q;split at q
    ·cases q;exact .inl za3
    ·exact .inr q
def HW {α:Type}(o:Option (α×List Int))(b:α×List Int):BK o b≠none:=by
 unfold BK;split
 ·intro z;cases z
 ·split<;>(intro z;cases z)
def Ms {α:Type}:∀ {bs:List (α×List Int)},bs≠[]->Bb bs≠none:=by
 intro bs h;unfold Bb
 suffices z:∀(bs:List (α×List Int)) (o:Option (α×List Int)),o≠none->bs.foldl BK o≠none by
  cases bs with
  |nil=>exact (h rfl).elim
  |cons b r=>rw[zb9];exact z r _ (HW _ _)
 intro bs;induction bs with
 |nil=>intro o h;exact h
 |cons b r ih=>intro o h;rw[zb9];exact ih _ (HW _ _)
abbrev sE (o:Option Value):List (Str×Value):=o.toList.map λ d=>(Str.ofString "default",d)
def YK (a:Value)(o:Option Value):argsOk "min" ⟨[a],sE o⟩:=by cases o<;>(unfold argsOk;kernel_rfl)
section
variable {prog:Program}{R:Result->Shared->Prop}
def YL (bs:List (Addr×List Int))(tv:Addr->Array Value)(l I S:Addr)(o:Option Value)(oe:o=none->bs≠[])(hh:A.handled=none)(hu:A.in1.units<cLine)(ly:S≠I)(l6:l≠I)(tw:l≠S)(og:∀b∈bs,b.1≠I/\b.1≠S)
 (hk:∀b∈bs,IntsAre (tv b.1).toList b.2):∀(k j:Nat) (s:Shared) (c:Nat),bs.length-j=k->j<=bs.length->s.heap.IsListIter I l j->s.heap.IsList l (bs.map λ b=>zbh b.1).toArray->(∀b∈bs,IsTup s.heap b.1 (tv b.1))->
  s.heap.get? S=some {cls:=.type "list",dict:=none,data:=.seq (IQ (bs.take j)) c,slots:=#[]} ->
  (∀h' tk,(∀b o,b≠I->b≠S->s.heap.get? b=some o->h'.get? b=some o)->R (.ok (.ret (match Bb bs with|none=>o.getD .none|some b=>.ref b.1))) {s with heap:=h',toks:=tk})->
  codeAny (model prog w) A (.builtin "min.loop" ⟨[.ref I,.none,.ref S],sE o⟩) R s:=by
 have bc:(toString "min" ++ toString ".loop" : String) = "min.loop" := by decide
 intro k;induction k with
 |zero =>
  intro j s c hr hj hit hl ht hS hR;have bd:j=bs.length:=by omega
  subst bd;rw[zc1] at hS;refine codeAny_builtin PySem.F.entry_min_loop ?_;rw[zbv zco _];show wpAny _ A.in1 (seqItems? (.ref S) >>= _) _ _ s;refine wpAny_bind (wpAny_seqItems hS rfl ?_);show wpAny _ A.in1 (tryCatch (pyNext (.ref I)) _ >>= _) _ _ s;refine wpAny_bind (wpAny_tryCatch (wpAny_pyNext_list_end (A:=A.in1) hh hit hl (by simp) λ h' eb=>?_));have aT:h'.get? S=_:=eb S _ ly hS;unfold IQ at aT;cases hb:Bb bs with
  |none =>
   unfold IQ;rw[hb];cases o with
   |none=>exact (Ms (oe rfl) hb).elim
   |some d =>
   show wpAny _ A.in1 (rule _ >>= _) _ _ _;refine wpAny_bind (wpAny_rule (wpAny_pure ?_));have q:=hR h' s.toks λ b o h1 h2 e=>eb b o h1 e;rw[hb] at q;exact q
  |some b =>
   rw[hb] at aT;unfold IQ;rw[hb];show wpAny _ A.in1 (updateSeq S (λ _=>#[]) >>= _) _ _ _;refine wpAny_bind ?_;refine wpAny_updateSeq aT rfl (wpAny_bind (wpAny_letGo (wpAny_pure ?_)));have q:=hR (h'.update S (zc5 λ _=>#[])) s.toks λ b o h1 h2 e=>(zct _ _ (zbn h2)).trans (eb b o h1 e);rw[hb] at q;exact q
 |succ k ih =>
  intro j s c hr hj hit hl ht hS hR;have ag:j<bs.length:=by omega
  have ej:bs.take (j+1)=bs.take j++[bs[j]]:=by rw[zc4,zaa ag];rfl
  have mj:bs[j]∈bs:=zdd ag;refine codeAny_builtin PySem.F.entry_min_loop ?_;rw[zbv zco _];show wpAny _ A.in1 (seqItems? (.ref S) >>= _) _ _ s;refine wpAny_bind (wpAny_seqItems hS rfl ?_);show wpAny _ A.in1 (tryCatch (pyNext (.ref I)) _ >>= _) _ _ s;refine wpAny_bind (wpAny_tryCatch (wpAny_pyNext_list_item (A:=A.in1) hit hl (x:=.ref bs[j].1) (by simp[ag]) λ h' bX sb=>?_));have dr:zcn I s.heap h':=sb;have aT:h'.get? S=_:=(dr.2 S ly).trans hS;have ix:h'.IsList l (bs.map λ b=>zbh b.1).toArray:=hl.at λ o e=>(dr.2 l l6).trans e;have ji:∀b∈bs,IsTup h' b.1 (tv b.1):=λ b hb=>by
   obtain⟨o,ho,r⟩:=ht b hb;exact⟨o,(dr.2 b.1 (og b hb).1).trans ho,r⟩
  cases hb:Bb (bs.take j) with
  |none =>
   unfold IQ at aT ⊢;rw[hb] at aT ⊢;show wpAny _ A.in1 (updateSeq S (λ _=>#[.ref bs[j].1,.ref bs[j].1]) >>= _) _ _ _;refine wpAny_bind ?_;refine wpAny_updateSeq aT rfl ?_;rw[bc];have s1:=zbx h' S (zc5 λ _=>(#[.ref bs[j].1,.ref bs[j].1]:Array Value));refine wpAny_pure ⟨plainId_quiet zco _,ih (j+1) _ (c+1) (by omega) ag (bX.at λ o e=>(s1.2 I (zbn ly)).trans e) (ix.at λ o e=>(s1.2 l tw).trans e) (λ b hb=>?_) ?_ λ jj tk bY=>?_⟩
   ·obtain⟨o,ho,r⟩:=ji b hb;exact⟨o,(s1.2 b.1 (og b hb).2).trans ho,r⟩
   ·refine (zch _ aT rfl).trans ?_;unfold IQ;rw[ej,HV,hb];rfl
   ·exact hR jj tk λ b o h1 h2 e=>bY b o h1 h2 ((s1.2 b h2).trans ((dr.2 b h1).trans e))
  |some m =>
   have mm:m∈bs:=zbw (OB _ _ hb);unfold IQ at aT ⊢;rw[hb] at aT ⊢;show wpAny _ A.in1 (tryCatch (holding [.ref bs[j].1,.ref bs[j].1] (richCompare .Lt (.ref bs[j].1) (.ref m.1) >>= _)) _ >>= _) _ _ _;refine wpAny_bind (wpAny_tryCatch (wpAny_holding (wpAny_bind (HT.HR (ji _ mj) (ji _ mm) (hk _ mj) (hk _ mm) hu ?_))));refine wpAny_bind (wpAny_holding (wpAny_truthy_bool ?_));refine wpAny_bind (wpAny_letGo (wpAny_pure ?_));cases hc:HT.lexLt bs[j].2 m.2 with
   |true =>
    simp only[if_true];have s1:=zbx h' S (zc5 λ _=>(#[.ref bs[j].1,.ref bs[j].1]:Array Value));refine wpAny_bind ?_;refine wpAny_updateSeq aT rfl (wpAny_bind (wpAny_letGo ?_));rw[bc];refine wpAny_pure ⟨plainId_quiet zco _,ih (j+1) _ c (by omega) ag (bX.at λ o e=>(s1.2 I (zbn ly)).trans e) (ix.at λ o e=>(s1.2 l tw).trans e) (λ b hb=>?_) ?_ λ jj tk bY=>?_⟩
    ·obtain⟨o,ho,r⟩:=ji b hb;exact⟨o,(s1.2 b.1 (og b hb).2).trans ho,r⟩
    ·refine (zch _ aT rfl).trans ?_;unfold IQ;rw[ej,HV,hb];simp only[hc,if_true];rfl
    ·exact hR jj tk λ b o h1 h2 e=>bY b o h1 h2 ((s1.2 b h2).trans ((dr.2 b h1).trans e))
   |false =>
    simp only[zas,if_false];refine wpAny_bind (wpAny_letGo ?_);rw[bc];refine wpAny_pure ⟨plainId_quiet zco _,ih (j+1) _ c (by omega) ag bX ix ji ?_ λ jj tk bY=>?_⟩
    ·refine aT.trans ?_;unfold IQ;rw[ej,HV,hb];simp only[hc,zas,if_false]
    ·exact hR jj tk λ b o h1 h2 e=>bY b o h1 h2 ((dr.2 b h1).trans e)
def Mt (bs:List (Addr×List Int))(tv:Addr->Array Value)(l:Addr)(o:Option Value)(oe:o=none->bs≠[])(hh:A.handled=none)(hu:A.in1.units<cLine)(hl:s.heap.IsList l (bs.map λ b=>zbh b.1).toArray)(ht:∀b∈bs,IsTup s.heap b.1 (tv b.1))(hk:∀b∈bs,IntsAre (tv b.1).toList b.2)(hQ:∀h' tk,(∀b o,s.heap.get? b=some o->h'.get? b=some o)->Q (match Bb bs with|none=>o.getD .none|some b=>.ref b.1) {s with heap:=h',toks:=tk}):
 wpAny (model prog w) A (call (.builtin "min") [.ref l] (sE o)) Q E s:=by
 have bc:(toString "min" ++ toString ".loop" : String) = "min.loop" := by decide
 obtain⟨ol,oh,_⟩:=id hl;have zX:l<s.heap.objs.size:=zaf oh;refine kmk_tree PySem.F.kind_min PySem.F.plain_min PySem.F.entry_min (YK _ _) ?_;show wpAny _ A.in1 (Builtin.Builtins.bindParams "min" ["key","default"] 0 ⟨[],sE o⟩ >>= _) _ _ s;refine wpAny_bind (wpAny_of_eq (show Builtin.Builtins.bindParams "min" ["key","default"] 0 ⟨[],sE o⟩=pure [none,o] by cases o<;>rfl) ?_);refine wpAny_bind (wpAny_pure ?_);refine wpAny_bind (wpAny_pyIter_list hl ?_);refine wpAny_bind (wpAny_newList ?_ (zb0 _));rw[bc];have hS:(s.heap.push {cls:=.type "list_iterator",data:=.fields #[.ref l,.int 0 0]}).objs.size=s.heap.objs.size+1:=zd0 ..;have old:∀b o,s.heap.get? b=some o->b≠s.heap.objs.size/\b≠(s.heap.push {cls:=.type "list_iterator",data:=.fields #[.ref l,.int 0 0]}).objs.size:=λ b o e=>⟨zap (zaf e),by rw[hS];exact zap (Nat.lt_succ_of_lt (zaf e))⟩;have grow:∀b o,s.heap.get? b=some o->((s.heap.push {cls:=.type "list_iterator",data:=.fields #[.ref l,.int 0 0]}).push {cls:=.type "list",data:=.seq #[]}).get? b=some o:=λ b o e=>za5 _ (za5 _ e);refine wpAny_pure ⟨plainId_quiet zco _,?_⟩;refine YL bs tv l s.heap.objs.size (s.heap.push {cls:=.type "list_iterator",data:=.fields #[.ref l,.int 0 0]}).objs.size o oe hh hu (by rw[hS];exact Nat.succ_ne_self _) (old l ol oh).1 (old l ol oh).2 (λ b hb=>?_) hk _ 0 _ 0 rfl (zb0 _) ?_ ?_ (λ b hb=>?_) ?_ ?_
 ·obtain⟨o,ho,_⟩:=ht b hb;exact old b.1 o ho
 ·exact⟨_,za5 _ (zaj _ rfl),rfl,rfl⟩
 ·exact hl.at λ o e=>grow l o e
 ·obtain⟨o,ho,r⟩:=ht b hb;exact⟨o,grow b.1 o ho,r⟩
 ·exact zaj _ rfl
 ·intro h' tk bZ;exact hQ h' tk λ b o e=>bZ b o (old b o e).1 (old b o e).2 (grow b o e)
end
section
variable {e2:Expr}{te:TE}{p kp:Pos}
abbrev sF (K:za0)(te td:TE):TE:=λ σ H Q=>te σ H λ x H1=>td σ H1 λ d H2=>∃(a:Addr) (bs:List (Addr×List Int)),x=.ref a/\Du K H2 a (bs.map λ b=>V.ref b.1)/\(∀b∈bs,EQ K H2 b.1 (b.2.map V.int))/\Q (match Bb bs with | none=>d | some b=>.ref b.1) H2
def Ki:∀ {bs:List (Addr×List Int)}{us:List Value},Vals (bs.map λ b=>V.ref b.1) us->us=bs.map λ b=>zbh b.1
 |[],_,.nil=>rfl
 |b::r,_,.cons h t=>by cases h;rw[Ki t];rfl
def fV (hc:X.calm=true)(hu:X.A.units+1<cLine)(hg:Gl X "min")(hm:X.mg "min" = none)(he:PE X e te)(hd:PE X e2 td)(aE: ~~~(starEach [e] X.env=[(false,eval e X.env)]))(aB: ~~~((backToKw pos (keywordEach [⟨some "default",e2,kp⟩] X.env)).all (·.1.isSome)=true))(f6: ~~~((backToKw pos (keywordEach [⟨some "default",e2,kp⟩] X.env)).filterMap (·.1)=([("default" : Str)]:List Str)))(oj: ~~~((backToKw pos (keywordEach [⟨some "default",e2,kp⟩] X.env)).any (·.1.isNone)=false))(bH: ~~~(backTo pos (starEach [e] X.env)=(false,eval e X.env)::backTo pos (starEach [] X.env)))(hpl: ~~~((backTo pos (starEach [e] X.env)).any (·.1)=false)):
 PE X (.Call (.Name "min" p) [e] [⟨some "default",e2,kp⟩] pos) (sF X.K te td):=by
 intro pins s σ H Q I h;refine wpAny_Call_Name_kw (CS I hg hm boot_min ?_ (by decide) (by decide));refine callWith_kw (Bh ((Bu he CD (hs:=aE)) pos pins s σ H (λ vs H1=>match vs with|[x]=>td σ H1 λ d H2=>∃(a:Addr) (bs:List (Addr×List Int)),x=.ref a/\Du X.K H2 a (bs.map λ b=>V.ref b.1)/\(∀b∈bs,EQ X.K H2 b.1 (b.2.map V.int))/\Q (match Bb bs with|none=>d|some b=>.ref b.1) H2|_=>False) I h) λ us s1 zz=>?_) bH hpl aB oj;obtain⟨vs,H1,I1,r1,q1⟩:=zz;obtain⟨x,rfl⟩:∃x,vs=[x]:=by
  match vs,q1 with
  |[x],_=>exact⟨x,rfl⟩
 refine Bh ((fA hd nB) pos pins s1 σ H1 (λ zs H2=>match zs with|[d]=>∃(a:Addr) (bs:List (Addr×List Int)),x=.ref a/\Du X.K H2 a (bs.map λ b=>V.ref b.1)/\(∀b∈bs,EQ X.K H2 b.1 (b.2.map V.int))/\Q (match Bb bs with|none=>d|some b=>.ref b.1) H2|_=>False) I1 q1) λ ws s2 zz=>?_;obtain⟨zs,H2,I2,r2,q2⟩:=zz;obtain⟨d,rfl⟩:∃d,zs=[d]:=by
  match zs,q2 with
  |[d],_=>exact⟨d,rfl⟩
 obtain⟨a,bs,rfl,hl,hb,q⟩:=q2;obtain⟨ua,rfl,ra⟩:=r1.one;obtain⟨ud,rfl,rd⟩:=r2.one;cases ra;rw[f6];obtain⟨aa,rv,pl,hz⟩:=I2.list hl;have ei:=Ki rv;subst ei;have tv:∀a:Addr,∃t:Array Value,∀b∈bs,b.1=a->IsTup s2.heap a t/\IntsAre t.toList b.2:=λ a=>by
  by_cases ca:∃b∈bs,b.1=a
  ·obtain⟨b,ca,rfl⟩:=ca;obtain⟨ts,rt,pt,_⟩:=I2.tuple (hb b ca);refine⟨ts.toArray,λ b' a7 e=>⟨pt,?_⟩⟩;have q2:=hb b' a7;rw[e] at q2;have e2:=I2.GQ q2 (hb b ca);rw[<-e2] at rt;simpa using intsAre_of rt
  ·exact⟨#[],λ b a7 e=>absurd ⟨b,a7,e⟩ ca⟩
 refine Mt bs (λ b=>za8 (tv b)) a (some ud) (λ h=>by cases h) (I2.ok.hd hc) hu pl.isList (λ b a7=>(za1 (tv b.1) b a7 rfl).1) (λ b a7=>(za1 (tv b.1) b a7 rfl).2) λ h' tk hk=>?_;refine⟨match Bb bs with|none=>d|some b=>.ref b.1,H2,I2.kept (t':=tk) hk,?_,q⟩;cases Bb bs with
 |none=>exact rd
 |some b=>rfl
end
inductive D where
 |AE|bl (b:Bool)|int (i:Int)|str (x:Str)|tup (ds:List D)|lst (ds:List D)|KS (x:Str)|Bm (t:Bool) (ks vs:List D)|ins (x:Str) (ns:List Str) (ds:List D)
abbrev Dv:Key->D
 | .inl i=>.int i
 | .inr x=>.str x
def Rd.same (r:Rd H a u)(e:Ae H H'):Rd H' a u:=r.elim (λ h=>.inl (e _ _ h)) λ⟨o,h⟩=>.inr ⟨o,e _ _ h⟩
mutual
inductive BR (K:za0) (H:Hp):V->D->Prop
 |AE:BR K H .AE .AE
 |bl (b):BR K H (.bl b) (.bl b)
 |int (i):BR K H (.int i) (.int i)
 |str (x):BR K H (.str x) (.str x)
 |tup {a xs ds}:H a=some (.tup xs)->Ag K H xs ds->BR K H (.ref a) (.tup ds)
 |lst {a xs ds}:Du K H a xs->Ag K H xs ds->BR K H (.ref a) (.lst ds)
 |Vd {a kvs ds}:Rd H a (.dK kvs)->Ag K H (kvs.map zc7) ds->BR K H (.ref a) (.Bm false (kvs.map λ kv=>Dv kv.1) ds)
 |Ve {a kvs ds}:Rd H a (.dT kvs)->Ag K H (kvs.map zc7) ds->BR K H (.ref a) (.Bm true (kvs.map λ kv=>.tup (kv.1.map Dv)) ds)
 |ins {a C dx fs x ds}:zaw K mainGlobals x=some (some (.ref C))->H a=some (.ins C dx fs)->Ag K H (fs.map zc7) ds->BR K H (.ref a) (.ins x (fs.map zba) ds)
 |KS {a x}:zaw K mainGlobals x=some (some (.ref a))->True->BR K H (.ref a) (.KS x)
inductive Ag (K:za0) (H:Hp):List V->List D->Prop
 |nil:Ag K H [] []
 |cons {x d xs ds}:BR K H x d->Ag K H xs ds->Ag K H (x::xs) (d::ds)
end
def Ag.length {K}:∀ {xs:List V}{ds:List D},Ag K H xs ds->xs.length=ds.length
 |_,_,.nil=>rfl
 |_,_,.cons _ t=>by rw[za9,za9,Ag.length t]
def Ag.get {K:za0}{H:Hp}:∀ {xs:List V}{ds:List D}{i:Nat}{d:D},Ag K H xs ds->ds[i]?=some d->∃x,xs[i]?=some x/\BR K H x d
 |_,_,_,_,.nil,e=>by simp at e
 |_,_,0,_,.cons r _,e=>by simp at e;subst e;exact⟨_,rfl,r⟩
 |_,_,i+1,d,.cons _ t,e=>by
  obtain⟨u,h1,h2⟩:=Ag.get (i:=i) (d:=d) t (by simpa using e);exact⟨u,by simpa using h1,h2⟩
def Ag.nU {K:za0}{H:Hp}:∀ {xs:List V}{ds:List D}{i:Nat}{x:V},Ag K H xs ds->xs[i]?=some x->∃d,ds[i]?=some d/\BR K H x d
 |_,_,_,_,.nil,e=>by simp at e
 |_,_,0,_,.cons r _,e=>by simp at e;subst e;exact⟨_,rfl,r⟩
 |_,_,i+1,d,.cons _ t,e=>by
  obtain⟨u,h1,h2⟩:=Ag.nU (i:=i) (x:=d) t (by simpa using e);exact⟨u,by simpa using h1,h2⟩
def Ag.append {K:za0}{H:Hp}:∀ {xs ys:List V}{ds es:List D},Ag K H xs ds->Ag K H ys es->Ag K H (xs++ys) (ds++es):=by
 intro _ _ _ _ x_ h;cases x_ with
 |nil=>exact h
 |cons r t=>exact .cons r (Ag.append t h)
def Ag.snoc {K}(h:Ag K H xs ds)(r:BR K H x d):Ag K H (xs++[x]) (ds++[d]):=h.append (.cons r .nil)
def Ag.take {K}:∀ {xs:List V}{ds:List D}(n:Nat),Ag K H xs ds->Ag K H (xs.take n) (ds.take n)
 |_,_,0,_|_,_,_+1,.nil=>.nil
 |_,_,n+1,.cons r t=>.cons r (Ag.take n t)
def Ag.drop {K}:∀ {xs:List V}{ds:List D}(n:Nat),Ag K H xs ds->Ag K H (xs.drop n) (ds.drop n)
 |_,_,0,r=>r
 |_,_,_+1,.nil=>.nil
 |_,_,n+1,.cons _ t=>Ag.drop n t
def Ag.ints {K}:∀(ns:List Int),Ag K H (ns.map V.int) (ns.map D.int)
 |[]=>.nil
 |n::r=>.cons (.int n) (Ag.ints r)
def Ae.wM {K}(e:Ae H H')(h:EQ K H a xs):EQ K H' a xs:=by
 rcases h with (h|⟨o,h⟩)|h
 ·exact .inl (.inl (e _ _ h))
 ·exact .inl (.inr ⟨o,e _ _ h⟩)
 ·exact .inr h
mutual
theorem BR.mono {K:za0}{H H':Hp}(e:Ae H H'):∀ {v:V}{d:D},BR K H v d->BR K H' v d:=by
 intro _ _ x_;cases x_ with
 |AE=>exact .AE
 |bl b=>exact .bl b
 |int i=>exact .int i
 |str x=>exact .str x
 |tup h r=>exact .tup (e _ _ h) (Ag.mono e r)
 |lst h r=>exact .lst (e.seq h) (Ag.mono e r)
 |Vd h r=>exact .Vd (h.same e) (Ag.mono e r)
 |Ve h r=>exact .Ve (h.same e) (Ag.mono e r)
 |ins n h r=>exact .ins n (e _ _ h) (Ag.mono e r)
 |KS h r=>exact .KS h r
theorem Ag.mono {K:za0}{H H':Hp}(e:Ae H H'):∀ {vs:List V}{ds:List D},Ag K H vs ds->Ag K H' vs ds:=by
 intro _ _ x_;cases x_ with
 |nil=>exact .nil
 |cons h t=>exact .cons (BR.mono e h) (Ag.mono e t)
end
def AQ (h:H p=none)(o:HO):Ae H (upd H p o):=λ b u q=>by rw[Ai (Ax q h)];exact q
mutual
noncomputable def Bk:D->D->Bool
 | .AE,.AE=>true
 | .bl a,.bl b| .int a,.int b| .str a,.str b=>a==b
 | .bl a,.int b=>(if a then 1 else 0)==b
 | .int a,.bl b=>a==(if b then 1 else 0)
 | .tup a,.tup b| .lst a,.lst b=>Cr a b
 | .KS a,.KS b=>a==b
 | .Bm s a b,.Bm t c d=>(s==t)&&(Cr a c&&Cr b d)
 | .ins x n a,.ins y m b=>(x==y)&&((n==m)&&Cr a b)
 |_,_=>false
noncomputable def Cr:List D->List D->Bool
 |[],[]=>true
 |a::r,b::t=>Bk a b&&Cr r t
 |_,_=>false
end
mutual
theorem Mu:∀d:D,Bk d d=true
 | .AE=>by simp[Bk]
 | .bl b| .int b| .str b=>by simp[Bk]
 | .tup b| .lst b=>by simp only[Bk];exact CJ b
 | .KS b=>by simp[Bk]
 | .Bm s a b=>by simp only[Bk];rw[CJ a,CJ b];simp
 | .ins x n a=>by simp only[Bk];rw[CJ a];simp
theorem CJ:∀d:List D,Cr d d=true
 |[]=>by simp[Cr]
 |a::r=>by simp only[Cr,Mu a,CJ r,Bool.and_true]
end
mutual
noncomputable def Cv:D->Bool
 | .tup a| .lst a=>Kj a
 | .KS _| .Bm _ _ _| .ins _ _ _=>false
 |_=>true
noncomputable def Kj:List D->Bool
 |[]=>true
 |a::r=>Cv a&&Kj r
end
def PZ:∀ {ds:List D}{d:D},d∈ds->Kj ds=true->Cv d=true
 |a::r,d,h,q=>by
  rw[Kj,zb2] at q;rcases zab.mp h with z|z
  ·subst z;exact q.1
  ·exact PZ z q.2
mutual
noncomputable def Q0:D->Nat
 | .tup a| .lst a=>Q1 a+1
 |_=>0
noncomputable def Q1:List D->Nat
 |[]=>0
 |a::r=>max (Q0 a) (Q1 r)
end
def Vf:∀ {ds:List D}{d:D},d∈ds->Q0 d<=Q1 ds
 |a::r,d,h=>by
  rw[Q1];rcases zab.mp h with z|z
  ·subst z;exact Nat.le_max_left _ _
  ·exact zbl (Vf z) (Nat.le_max_right _ _)
def RG:∀ {a b:List D},Cr a b=true->a.length=b.length
 |[],[],_=>rfl
 |[],_::_,h|_::_,[],h=>by simp[Cr] at h
 |a::r,b::t,h=>by
  simp only[Cr,zb2] at h;rw[za9,za9,RG h.2]
def HX:∀(a b:List D),a.length=b.length->(zb1 a.length).all (λ j=>Bk (a.getD j .AE) (b.getD j .AE))=Cr a b
 |[],[],_=>by simp[Cr]
 |a::r,b::t,h=>by
  have ih:=HX r t (by simpa using h);rw[za9,List.range_succ_eq_map,List.all_cons,List.all_map,Cr,<-ih];simp[Function.comp_def]
 |[],_::_,h|_::_,[],h=>by cases h
def Vg (h:a.length≠b.length):Cr a b=false:=by
 cases e:Cr a b with
 |false=>rfl
 |true=>exact absurd (RG e) h
def YM (a b:List D):((zb1 (min a.length b.length)).all (λ j=>Bk (a.getD j .AE) (b.getD j .AE))&&(a.length==b.length))=Cr a b:=by
 by_cases h:a.length=b.length
 ·rw[<-HX a b h,h];simp
 ·rw[Vg h,beq_false_of_ne h,Bool.and_false]
def Vh (I:Inv X pins σ H s)(h:Du X.K H a xs)(h':EQ X.K H a ys):False:=by
 obtain⟨aa,_,⟨o,n,e,c,_,_⟩,_⟩:=I.list h;obtain⟨its',_,⟨o',e',c',_⟩,_⟩:=I.tuple h';rw[e] at e';cases e';rw[c] at c';revert c';decide
mutual
theorem fW (I:Inv X pins σ H s){v:V}{d d':D}(n1:Cv d=true)(n2:Cv d'=true)(h:BR X.K H v d)(h':BR X.K H v d'):d=d':=by
 cases h with
 |tup h r =>
  cases h' with
  |tup h' r' =>
   have e:=I.GQ (.of h) (.of h');subst e;rw[Gh I (by rw[Cv] at n1;exact n1) (by rw[Cv] at n2;exact n2) r r']
  |lst h' _=>exact (Vh I h' (.of h)).elim
  |_=>rw[Cv] at n2;cases n2
 |lst h r =>
  cases h' with
  |lst h' r' =>
   have e:=I.G7 h h';subst e;rw[Gh I (by rw[Cv] at n1;exact n1) (by rw[Cv] at n2;exact n2) r r']
  |tup h' _=>exact (Vh I h (.of h')).elim
  |_=>rw[Cv] at n2;cases n2
 |AE|bl _|int _|str _=>cases h';rfl
 |_=>rw[Cv] at n1;cases n1
theorem Gh (I:Inv X pins σ H s){v:List V}{d d':List D}(n1:Kj d=true)(n2:Kj d'=true)(h:Ag X.K H v d)(h':Ag X.K H v d'):d=d':=by
 cases h with
 |nil=>cases h';rfl
 |cons h r =>
  cases h' with
  |cons h' r' =>
   rw[Kj,zb2] at n1 n2;rw[fW I n1.1 n2.1 h h',Gh I n1.2 n2.2 r r']
end
def xT (r:Vals xs aa)(j:Nat)(h:j<aa.toArray.size):∃x,xs[j]?=some x/\RelV x aa.toArray[j]:=by
 have h':j<aa.length:=by simpa using h
 have hx:j<xs.length:=by rw[r.length];exact h'
 obtain⟨u,hu,ru⟩:=r.get (zaa hx);rw[zaa h'] at hu;refine⟨xs[j],zaa hx,?_⟩;have e:aa.toArray[j]=u:=by simpa using hu
 rw[e];exact ru
def Vi {ds:List D}(h:ds[j]?=some d):ds.getD j .AE=d:=by rw[zal,h];rfl
def kW (I:Inv X pins σ H s)(n:Nat):∀(A:Around) (d e:D) (v w:V) (u1 u2:Value),Q0 d<=n->Cv d=true->Cv e=true->A.units+n<cLine->BR X.K H v d->BR X.K H w e->RelV v u1->RelV w u2->SeqAt.EqAt A s u1 u2 (Bk d e)/\SeqAt.RcAt A s u1 u2 (Bk d e)/\SeqAt.RcNeAt A s u1 u2 (!Bk d e):=by
 induction n using Nat.strongRecOn with
 |ind n ih =>
  intro A d e v w u1 u2 hd aG aw hu h1 h2 r1 r2;have aj:A.units<cLine:=by omega
  have el:∀ {xs ys:List V} {ds es:List D} {aa its':List Value},Vals xs aa->Vals ys its'->Ag X.K H xs ds->Ag X.K H ys es->Kj ds=true->Kj es=true->Q1 ds<n->∀(j:Nat) (h1:j<aa.toArray.size) (h2:j<its'.toArray.size),SeqAt.EqAt A.in1 s aa.toArray[j] its'.toArray[j] (Bk (ds.getD j .AE) (es.getD j .AE)):=λ rv c5 r r' n1 n2 hn j h1 h2=>by
   obtain⟨x,hx,rx⟩:=xT rv j h1;obtain⟨y,hy,ry⟩:=xT c5 j h2;obtain⟨dx,ex,wg⟩:=r.nU hx;obtain⟨dy,ey,wj⟩:=r'.nU hy;rw[Vi ex,Vi ey];exact (ih _ hn A.in1 dx dy x y _ _ (Vf (zam ex)) (PZ (zam ex) n1) (PZ (zam ey) n2) (by show A.units+1+_<cLine;omega) wg wj rx ry).1
  cases h1 with
  |KS _ _|Vd _ _|Ve _ _|ins _ _ _=>simp[Cv] at aG
  |AE =>
   cases r1;cases h2 with
   |KS _ _|Vd _ _|Ve _ _|ins _ _ _=>simp[Cv] at aw
   |AE=>cases r2;simp only[Bk];exact⟨.same _,.none_none,.none_none⟩
   |bl b=>cases r2;simp only[Bk];exact⟨.none_bool _,.none_bool _,.none_bool _⟩
   |int b=>obtain⟨t,rfl⟩:=r2;simp only[Bk];exact⟨.none_int _ _,.none_int _ _,.none_int _ _⟩
   |str b=>obtain⟨t,rfl⟩:=r2;simp only[Bk];exact⟨.none_str _ _,.none_str _ _,.none_str _ _⟩
   |tup h r=>cases r2;simp only[Bk];obtain⟨_,_,p,_⟩:=I.tuple (.of h);exact⟨.none_tuple p aj,.none_tuple p aj,.none_tuple p aj⟩
   |lst h r=>cases r2;simp only[Bk];obtain⟨_,_,p,_⟩:=I.list h;exact⟨.none_list p.isList aj,.none_list p.isList aj,.none_list p.isList aj⟩
  |bl a =>
   cases r1;cases h2 with
   |KS _ _|Vd _ _|Ve _ _|ins _ _ _=>simp[Cv] at aw
   |AE=>cases r2;simp only[Bk];exact⟨.bool_none _,.bool_none _,.bool_none _⟩
   |bl b=>cases r2;simp only[Bk];exact⟨.bool_bool _ _,.bool_bool _ _,.bool_bool _ _⟩
   |int b=>obtain⟨t,rfl⟩:=r2;simp only[Bk];exact⟨.bool_int _ _ _,.bool_int _ _ _,.bool_int _ _ _⟩
   |str b=>obtain⟨t,rfl⟩:=r2;simp only[Bk];exact⟨.bool_str _ _ _,.bool_str _ _ _,.bool_str _ _ _⟩
   |tup h r=>cases r2;simp only[Bk];obtain⟨_,_,p,_⟩:=I.tuple (.of h);exact⟨.bool_tuple _ p aj,.bool_tuple _ p aj,.bool_tuple _ p aj⟩
   |lst h r=>cases r2;simp only[Bk];obtain⟨_,_,p,_⟩:=I.list h;exact⟨.bool_list _ p.isList aj,.bool_list _ p.isList aj,.bool_list _ p.isList aj⟩
  |int a =>
   obtain⟨t',rfl⟩:=r1;cases h2 with
   |KS _ _|Vd _ _|Ve _ _|ins _ _ _=>simp[Cv] at aw
   |AE=>cases r2;simp only[Bk];exact⟨.int_none _ _,.int_none _ _,.int_none _ _⟩
   |bl b=>cases r2;simp only[Bk];exact⟨.int_bool _ _ _,.int_bool _ _ _,.int_bool _ _ _⟩
   |int b=>obtain⟨t,rfl⟩:=r2;simp only[Bk];exact⟨.int_int _ _ _ _,.int_int _ _ _ _,.int_int _ _ _ _⟩
   |str b=>obtain⟨t,rfl⟩:=r2;simp only[Bk];exact⟨.int_str _ _ _ _,.int_str _ _ _ _,.int_str _ _ _ _⟩
   |tup h r=>cases r2;simp only[Bk];obtain⟨_,_,p,_⟩:=I.tuple (.of h);exact⟨.int_tuple _ _ p aj,.int_tuple _ _ p aj,.int_tuple _ _ p aj⟩
   |lst h r=>cases r2;simp only[Bk];obtain⟨_,_,p,_⟩:=I.list h;exact⟨.int_list _ _ p.isList aj,.int_list _ _ p.isList aj,.int_list _ _ p.isList aj⟩
  |str a =>
   obtain⟨t',rfl⟩:=r1;cases h2 with
   |KS _ _|Vd _ _|Ve _ _|ins _ _ _=>simp[Cv] at aw
   |AE=>cases r2;simp only[Bk];exact⟨.str_none _ _,.str_none _ _,.str_none _ _⟩
   |bl b=>cases r2;simp only[Bk];exact⟨.str_bool _ _ _,.str_bool _ _ _,.str_bool _ _ _⟩
   |int b=>obtain⟨t,rfl⟩:=r2;simp only[Bk];exact⟨.str_int _ _ _ _,.str_int _ _ _ _,.str_int _ _ _ _⟩
   |str b=>obtain⟨t,rfl⟩:=r2;simp only[Bk];exact⟨.str_str _ _ _ _,.str_str _ _ _ _,.str_str _ _ _ _⟩
   |tup h r=>cases r2;simp only[Bk];obtain⟨_,_,p,_⟩:=I.tuple (.of h);exact⟨.str_tuple _ _ p aj,.str_tuple _ _ p aj,.str_tuple _ _ p aj⟩
   |lst h r=>cases r2;simp only[Bk];obtain⟨_,_,p,_⟩:=I.list h;exact⟨.str_list _ _ p.isList aj,.str_list _ _ p.isList aj,.str_list _ _ p.isList aj⟩
  | @tup a xs ds h r =>
   cases r1;obtain⟨aa,rv,p,_⟩:=I.tuple (.of h);cases h2 with
   |KS _ _|Vd _ _|Ve _ _|ins _ _ _=>simp[Cv] at aw
   |AE=>cases r2;simp only[Bk];exact⟨.tuple_none p aj,.tuple_none p aj,.tuple_none p aj⟩
   |bl b=>cases r2;simp only[Bk];exact⟨.tuple_bool _ p aj,.tuple_bool _ p aj,.tuple_bool _ p aj⟩
   |int b=>obtain⟨t,rfl⟩:=r2;simp only[Bk];exact⟨.tuple_int _ _ p aj,.tuple_int _ _ p aj,.tuple_int _ _ p aj⟩
   |str b=>obtain⟨t,rfl⟩:=r2;simp only[Bk];exact⟨.tuple_str _ _ p aj,.tuple_str _ _ p aj,.tuple_str _ _ p aj⟩
   | @lst a2 om es h' r'=>cases r2;simp only[Bk];obtain⟨_,_,p',_⟩:=I.list h';exact⟨.tuple_list p p'.isList aj,.tuple_list p p'.isList aj,.tuple_list p p'.isList aj⟩
   | @tup a2 om es h' r' =>
    cases r2;obtain⟨its',c5,p',_⟩:=I.tuple (.of h');have z1:aa.toArray.size=ds.length:=by rw[zae,<-rv.length,r.length]
    have z2:its'.toArray.size=es.length:=by rw[zae,<-c5.length,r'.length]
    have hj:=el rv c5 r r' (by rw[Cv] at aG;exact aG) (by rw[Cv] at aw;exact aw) (by rw[Q0] at hd;omega);have q:=SeqAt.RcAt.tuples (A:=A) (e:=λ j=>Bk (ds.getD j .AE) (es.getD j .AE)) p p' aj hj;have q':=SeqAt.RcNeAt.tuples (A:=A) (e:=λ j=>Bk (ds.getD j .AE) (es.getD j .AE)) p p' aj hj;rw[z1,z2,YM] at q q';simp only[Bk];by_cases ha:a=a2
    ·subst ha;have e':=I.GQ (.of h) (.of h');subst e';have e2:=Gh I (by rw[Cv] at aG;exact aG) (by rw[Cv] at aw;exact aw) r r';subst e2;rw[CJ] at q q' ⊢;exact⟨.same _,q,q'⟩
    ·exact⟨.of_refs ha q,q,q'⟩
  | @lst a xs ds h r =>
   cases r1;obtain⟨aa,rv,p,_⟩:=I.list h;cases h2 with
   |KS _ _|Vd _ _|Ve _ _|ins _ _ _=>simp[Cv] at aw
   |AE=>cases r2;simp only[Bk];exact⟨.list_none p.isList aj,.list_none p.isList aj,.list_none p.isList aj⟩
   |bl b=>cases r2;simp only[Bk];exact⟨.list_bool _ p.isList aj,.list_bool _ p.isList aj,.list_bool _ p.isList aj⟩
   |int b=>obtain⟨t,rfl⟩:=r2;simp only[Bk];exact⟨.list_int _ _ p.isList aj,.list_int _ _ p.isList aj,.list_int _ _ p.isList aj⟩
   |str b=>obtain⟨t,rfl⟩:=r2;simp only[Bk];exact⟨.list_str _ _ p.isList aj,.list_str _ _ p.isList aj,.list_str _ _ p.isList aj⟩
   | @tup a2 om es h' r'=>cases r2;simp only[Bk];obtain⟨_,_,p',_⟩:=I.tuple (.of h');exact⟨.list_tuple p.isList p' aj,.list_tuple p.isList p' aj,.list_tuple p.isList p' aj⟩
   | @lst a2 om es h' r' =>
    cases r2;obtain⟨its',c5,p',_⟩:=I.list h';have z1:aa.toArray.size=ds.length:=by rw[zae,<-rv.length,r.length]
    have z2:its'.toArray.size=es.length:=by rw[zae,<-c5.length,r'.length]
    have hj:=el rv c5 r r' (by rw[Cv] at aG;exact aG) (by rw[Cv] at aw;exact aw) (by rw[Q0] at hd;omega);have qq:SeqAt.RcAt A s (.ref a) (.ref a2) (Cr ds es)/\SeqAt.RcNeAt A s (.ref a) (.ref a2) (!Cr ds es):=by
     by_cases hz:aa.toArray.size=its'.toArray.size
     ·have q:=SeqAt.RcAt.lists (A:=A) (e:=λ j=>Bk (ds.getD j .AE) (es.getD j .AE)) p.isList p'.isList hz aj hj;have q':=SeqAt.RcNeAt.lists (A:=A) (e:=λ j=>Bk (ds.getD j .AE) (es.getD j .AE)) p.isList p'.isList hz aj hj;rw[z1,HX ds es (by rw[<-z1,<-z2,hz])] at q q';exact⟨q,q'⟩
     ·rw[Vg (by rw[<-z1,<-z2];exact hz)];exact⟨.lists_lengths p.isList p'.isList (by simpa using hz) aj,.lists_lengths p.isList p'.isList (by simpa using hz) aj⟩
    obtain⟨q,q'⟩:=qq;simp only[Bk];by_cases ha:a=a2
    ·subst ha;have e':=I.G7 h h';subst e';have e2:=Gh I (by rw[Cv] at aG;exact aG) (by rw[Cv] at aw;exact aw) r r';subst e2;rw[CJ] at q q' ⊢;exact⟨.same _,q,q'⟩
    ·exact⟨.of_refs ha q,q,q'⟩
abbrev fX (K:za0)(A:Around)(neg:Bool):R2:=λ x y H Q=>∃d e,BR K H x d/\BR K H y e/\A.units+Q0 d<cLine/\Cv d=true/\Cv e=true/\Q (.bl (if neg=true then !Bk d e else Bk d e)) H
def YN:G9 X (compareOp .Eq) (fX X.K X.A false):=by
 intro pins s σ H x y v u Q I rx ry h;obtain⟨d,e,hd,he,hu,n1,n2,q⟩:=h;exact (kW I (Q0 d) X.A d e x y v u (zag _) n1 n2 hu hd he rx ry).2.1 X.prog X.w X.xe _ ⟨.bl _,H,I,rfl,q⟩
def nV:G9 X (compareOp .NotEq) (fX X.K X.A true):=by
 intro pins s σ H x y v u Q I rx ry h;obtain⟨d,e,hd,he,hu,n1,n2,q⟩:=h;exact (kW I (Q0 d) X.A d e x y v u (zag _) n1 n2 hu hd he rx ry).2.2 X.prog X.w X.xe _ ⟨.bl _,H,I,rfl,q⟩
inductive OT where
 |sh (d:D)|lst (ts:List OT)|tup (ts:List OT)|Bm (t:Bool) (ks:List D) (ts:List OT)|ins (x:Str) (ns:List Str) (ts:List OT)
inductive Ow where
 |rows (C8:List (List D))
 |LF (p:Nat) (ds:List D)
 |tree (p:Option Nat) (t:OT)
inductive Cl where
 |val (d:D)|own (ds:List D)|ow (o:Ow)
noncomputable abbrev Ac:=List (Option Cl)
inductive M (α:Type) where
 |ok (a:α)|ex (c:Str)|bad
variable {ρ:Ac}{g:Ac->M D}{ft:Ac->M Bool}{fi:Ac->M (List D)}
abbrev M.bind {α β:Type}(m:M α)(k:α->M β):M β:=match m with
 | .ok a=>k a
 | .ex c=>.ex c
 | .bad=>.bad
@[simp] theorem M.A8 {α β:Type}(a:α) (k:α->M β):(M.ok a).bind k=k a:=rfl
def YO {α β:Type}{m}{k}{G:M β->Prop}{R:M α->Prop}(h:G (m.bind k))(hk:∀a,G (k a)->R (.ok a))(hb:G .bad->R .bad:=by exact λ h=>h)(hx:∀x,G (.ex x)->R (.ex x):=by exact λ _ h=>h):R m:=by
 cases m with
 |ok a=>exact hk a h
 |ex x=>exact hx x h
 |bad=>exact hb h
abbrev del (H:Hp)(P:Addr->Prop):Hp:=λ a=>open Classical in if P a then none else H a
def Au (h:¬ P a):del H P a=H a:=by unfold del;rw[if_neg h]
def De (h:P a):del H P a=none:=by unfold del;rw[if_pos h]
def Am (h:del H P a=some o):¬ P a/\H a=some o:=by
 by_cases hp:P a
 ·rw[De hp] at h;cases h
 ·rw[Au hp] at h;exact⟨hp,h⟩
def Rd.B3 (r:Rd (del H P) a u):Rd H a u:=r.elim (λ h=>.inl (Am h).2) λ⟨o,h⟩=>.inr ⟨o,(Am h).2⟩
def Ae.del {H H':Hp}{P:Addr->Prop}(e:Ae H H'):Ae (del H P) (del H' P):=λ b o h=>by
 obtain⟨h1,h2⟩:=Am h;rw[Au h1];exact e b o h2
def CT (h:∀a,P' a->P a):Ae (L2.del H P) (L2.del H P'):=λ b o e=>by
 obtain⟨h1,h2⟩:=Am e;rw[Au λ z=>h1 (h b z)];exact h2
def Eg:Ae (L2.del H P) H:=λ b o e=>(Am e).2
abbrev DC (H:Hp)(a:Addr):Prop:=∃o,H a=some o/\∀xs,o≠.tup xs/\∀z,o≠.Y1 z (.tup xs)
def DC.same (h:DC H a)(e:Ae H H'):DC H' a:=let ⟨o,q,r⟩:=h;⟨o,e a o q,r⟩
def DC.no (h:DC H a)(e:H a=none):False:=by
 obtain⟨o,q,r⟩:=h;rw[e] at q;cases q
def DC.lst (h:H a=some (.lst xs)):DC H a:=⟨_,h,λ _=>⟨λ z=>(by cases z),λ _ z=>by cases z⟩⟩
mutual
inductive C9 (K:za0) (H:Hp) (P:Addr->Prop):V->OT->List Addr->Prop
 |sh {v d}:BR K (del H P) v d->C9 K H P v (.sh d) []
 |lst {p xs ts fp}:H p=some (.lst xs)->AF K H P xs ts fp->C9 K H P (.ref p) (.lst ts) (p::fp)
 |tup {p xs ts fp}:del H P p=some (.tup xs)->AF K H P xs ts fp->C9 K H P (.ref p) (.tup ts) fp
 |dK {p kvs ts fp}:H p=some (.dK kvs)->AF K H P (kvs.map zc7) ts fp->C9 K H P (.ref p) (.Bm false (kvs.map λ kv=>Dv kv.1) ts) (p::fp)
 |dT {p kvs ts fp}:H p=some (.dT kvs)->AF K H P (kvs.map zc7) ts fp->C9 K H P (.ref p) (.Bm true (kvs.map λ kv=>.tup (kv.1.map Dv)) ts) (p::fp)
 |ins {p C dx fs ts fp x}:zaw K mainGlobals x=some (some (.ref C))->H p=some (.ins C dx fs)->AF K H P (fs.map zc7) ts fp->C9 K H P (.ref p) (.ins x (fs.map zba) ts) (p::fp)
inductive AF (K:za0) (H:Hp) (P:Addr->Prop):List V->List OT->List Addr->Prop
 |nil:AF K H P [] [] []
 |cons {v t fp vs ts fq}:C9 K H P v t fp->AF K H P vs ts fq->AF K H P (v::vs) (t::ts) (fp++fq)
end
mutual
noncomputable def er:OT->D
 | .sh d=>d
 | .lst ts=>.lst (Vj ts)
 | .tup ts=>.tup (Vj ts)
 | .Bm t ks ts=>.Bm t ks (Vj ts)
 | .ins x ns ts=>.ins x ns (Vj ts)
noncomputable def Vj:List OT->List D
 |[]=>[]
 |t::r=>er t::Vj r
end
def Vk:∀ts:List OT,Vj ts=ts.map er
 |[]=>rfl
 |t::r=>by rw[Vj,Vk r,za6]
mutual
theorem C9.move {K:za0}{H H':Hp}{P P':Addr->Prop}(sm:Ae (del H P) (del H' P')):∀ {v:V}{t:OT}{fp:List Addr},(∀a∈fp,H' a=H a)->C9 K H P v t fp->C9 K H' P' v t fp:=by
 intro _ _ _ k x_;cases x_ with
 |sh h=>exact .sh (h.mono sm)
 |lst h r=>exact .lst ((k _ za3).trans h) (AF.move sm (λ a ha=>k a (za4 _ ha)) r)
 |tup h r=>exact .tup (sm _ _ h) (AF.move sm k r)
 |dK h r=>exact .dK ((k _ za3).trans h) (AF.move sm (λ a ha=>k a (za4 _ ha)) r)
 |dT h r=>exact .dT ((k _ za3).trans h) (AF.move sm (λ a ha=>k a (za4 _ ha)) r)
 |ins n h r=>exact .ins n ((k _ za3).trans h) (AF.move sm (λ a ha=>k a (za4 _ ha)) r)
theorem AF.move {K:za0}{H H':Hp}{P P':Addr->Prop}(sm:Ae (del H P) (del H' P')):∀ {v:List V}{t:List OT}{fp:List Addr},(∀a∈fp,H' a=H a)->AF K H P v t fp->AF K H' P' v t fp:=by
 intro _ _ _ k x_;cases x_ with
 |nil=>exact .nil
 |cons h r=>exact .cons (C9.move sm (λ a ha=>k a (zb5 _ ha)) h) (AF.move sm (λ a ha=>k a (zad _ ha)) r)
end
mutual
theorem C9.Cp {K:za0}{H:Hp}{P:Addr->Prop}:∀ {v:V}{t:OT}{fp:List Addr},C9 K H P v t fp->∀a∈fp,DC H a:=by
 intro _ _ _ x_ a ha;cases x_ with
 |sh h=>cases ha
 |lst h r =>
  rcases zab.mp ha with rfl|ha
  ·exact .lst h
  ·exact AF.Cp r a ha
 |tup h r=>exact AF.Cp r a ha
 |dK h r =>
  rcases zab.mp ha with rfl|ha
  ·exact⟨_,h,λ _=>⟨λ z=>(by cases z),λ _ z=>by cases z⟩⟩
  ·exact AF.Cp r a ha
 |dT h r =>
  rcases zab.mp ha with rfl|ha
  ·exact⟨_,h,λ _=>⟨λ z=>(by cases z),λ _ z=>by cases z⟩⟩
  ·exact AF.Cp r a ha
 |ins n h r =>
  rcases zab.mp ha with rfl|ha
  ·exact⟨_,h,λ _=>⟨λ z=>(by cases z),λ _ z=>by cases z⟩⟩
  ·exact AF.Cp r a ha
theorem AF.Cp {K:za0}{H:Hp}{P:Addr->Prop}:∀ {v:List V}{t:List OT}{fp:List Addr},AF K H P v t fp->∀a∈fp,DC H a:=by
 intro _ _ _ x_ a ha;cases x_ with
 |nil=>cases ha
 |cons h r =>
  rcases zaq.mp ha with ha|ha
  ·exact C9.Cp h a ha
  ·exact AF.Cp r a ha
end
mutual
theorem C9.Cs {K:za0}{H:Hp}{P P':Addr->Prop}:∀ {v:V}{t:OT}{fp ah:List Addr},C9 K H P v t fp->C9 K H P' v t ah->fp=ah
 |_,_,_,_,.sh _,.sh _=>rfl
 |_,_,_,_,.lst h r,.lst h' r'=>by
  rw[h] at h';cases h';rw[AF.Cs r r']
 |_,_,_,_,.tup h r,.tup h' r'=>by
  have e:=(Am h).2.symm.trans (Am h').2;cases e;exact AF.Cs r r'
 |_,_,_,_,.dK (kvs:=kvs) (ts:=ts) h r,x=>by
  generalize ht:OT.Bm false (kvs.map λ kv=>Dv kv.1) ts=t at x;cases x with
  |dK h' r' =>
   rw[h] at h';cases h';injection ht with _ _ e
   subst e;rw[AF.Cs r r']
  |dT h' r'=>rw[h] at h';cases h'
  |_=>cases ht
 |_,_,_,_,.dT (kvs:=kvs) (ts:=ts) h r,x=>by
  generalize ht:OT.Bm true (kvs.map λ kv=>D.tup (kv.1.map Dv)) ts=t at x;cases x with
  |dT h' r' =>
   rw[h] at h';cases h';injection ht with _ _ e
   subst e;rw[AF.Cs r r']
  |dK h' r'=>rw[h] at h';cases h'
  |_=>cases ht
 |_,_,_,_,.ins (fs:=fs) (ts:=ts) (x:=y) n h r,x=>by
  generalize ht:OT.ins y (fs.map zba) ts=t at x;cases x with
  |ins n' h' r' =>
   rw[h] at h';cases h';injection ht with _ _ e
   subst e;rw[AF.Cs r r']
  |_=>cases ht
theorem AF.Cs {K:za0}{H:Hp}{P P':Addr->Prop}:∀ {v:List V}{t:List OT}{fp ah:List Addr},AF K H P v t fp->AF K H P' v t ah->fp=ah
 |_,_,_,_,.nil,.nil=>rfl
 |_,_,_,_,.cons h r,.cons h' r'=>by rw[C9.Cs h h',AF.Cs r r']
end
mutual
theorem C9.has {K:za0}{H:Hp}{P P0:Addr->Prop}(hs:∀a,P0 a->P a):∀ {v:V}{t:OT}{fp:List Addr},(∀a∈fp,¬ P0 a)->C9 K H P v t fp->BR K (del H P0) v (er t):=by
 intro _ _ _ k x_;cases x_ with
 |sh h=>rw[er];exact h.mono (CT hs)
 |lst h r=>rw[er];exact .lst (.of (show del H P0 _=_ by rw[Au (k _ za3)];exact h)) (AF.has hs (λ a ha=>k a (za4 _ ha)) r)
 |tup h r=>rw[er];exact .tup (CT hs _ _ h) (AF.has hs k r)
 |dK h r=>rw[er];exact .Vd (.inl (show del H P0 _=_ by rw[Au (k _ za3)];exact h)) (AF.has hs (λ a ha=>k a (za4 _ ha)) r)
 |dT h r=>rw[er];exact .Ve (.inl (show del H P0 _=_ by rw[Au (k _ za3)];exact h)) (AF.has hs (λ a ha=>k a (za4 _ ha)) r)
 |ins n h r=>rw[er];exact .ins n (show del H P0 _=_ by rw[Au (k _ za3)];exact h) (AF.has hs (λ a ha=>k a (za4 _ ha)) r)
theorem AF.has {K:za0}{H:Hp}{P P0:Addr->Prop}(hs:∀a,P0 a->P a):∀ {v:List V}{t:List OT}{fp:List Addr},(∀a∈fp,¬ P0 a)->AF K H P v t fp->Ag K (del H P0) v (Vj t):=by
 intro _ _ _ k x_;cases x_ with
 |nil=>rw[Vj];exact .nil
 |cons h r=>rw[Vj];exact .cons (C9.has hs (λ a ha=>k a (zb5 _ ha)) h) (AF.has hs (λ a ha=>k a (zad _ ha)) r)
end
inductive BA (K:za0) (H:Hp) (P:Addr->Prop):List Addr->List (List D)->Prop
 |nil:BA K H P [] []
 |cons {q:Addr} {xs:List V} {ds:List D} {ps:List Addr} {C8:List (List D)}:H q=some (.lst xs)->Ag K (del H P) xs ds->BA K H P ps C8->BA K H P (q::ps) (ds::C8)
abbrev Dz (K:za0)(H:Hp)(P:Addr->Prop):Cl->V->List Addr->Prop
 | .own ds,v,fp=>∃p xs,v=.ref p/\fp=[p]/\H p=some (.lst xs)/\Ag K (del H P) xs ds
 | .ow (.rows C8),v,fp=>∃p ps,v=.ref p/\fp=p::ps/\H p=some (.lst (ps.map V.ref))/\BA K H P ps C8
 | .ow (.LF _ ds),v,fp=>∃p xs,v=.ref p/\fp=[p]/\H p=some (.lst xs)/\Ag K (del H P) xs ds
 | .ow (.tree _ t),v,fp=>C9 K H P v t fp
 | .val _,_,_=>False
abbrev HY:Cl->Bool
 | .val _=>false
 |_=>true
def BA.move {K:za0}{H H':Hp}{P P':Addr->Prop}(sm:Ae (del H P) (del H' P')):∀ {ps:List Addr}{C8:List (List D)},(∀a∈ps,H' a=H a)->BA K H P ps C8->BA K H' P' ps C8:=by
 intro _ _ k x_;cases x_ with
 |nil=>exact .nil
 |cons h r t=>exact .cons ((k _ za3).trans h) (r.mono sm) (BA.move sm (λ a ha=>k a (za4 _ ha)) t)
def BA.at {K:za0}{H:Hp}{P:Addr->Prop}:∀ {ps:List Addr}{C8:List (List D)},BA K H P ps C8->∀a∈ps,∃xs,H a=some (.lst xs)
 |_,_,.nil,a,h=>by cases h
 |_,_,.cons h r t,a,ha=>by
  rcases zab.mp ha with rfl|ha
  ·exact⟨_,h⟩
  ·exact t.at a ha
def BA.length {K}:∀ {ps:List Addr}{C8:List (List D)},BA K H P ps C8->ps.length=C8.length:=by
 intro _ _ x_;cases x_ with
 |nil=>exact rfl
 |cons h r t=>rw[za9,za9,t.length]
def BA.get {K:za0}{H:Hp}{P:Addr->Prop}:∀ {ps:List Addr}{C8:List (List D)}{i:Nat}{ds:List D},BA K H P ps C8->C8[i]?=some ds->∃q xs,ps[i]?=some q/\H q=some (.lst xs)/\Ag K (del H P) xs ds
 |_,_,_,_,.nil,e=>by simp at e
 |_,_,0,_,.cons h r _,e=>by simp at e;subst e;exact⟨_,_,rfl,h,r⟩
 |_,_,i+1,ds,.cons _ _ t,e=>by
  obtain⟨q,xs,h1,h2⟩:=BA.get (i:=i) (ds:=ds) t (by simpa using e);exact⟨q,xs,by simpa using h1,h2⟩
def RH:∀ {ps qs:List Addr},ps.map V.ref=qs.map V.ref->ps=qs
 |[],[],_=>rfl
 |[],_::_,h|_::_,[],h=>by cases h
 |p::ps,q::qs,h=>by
  rw[za6,za6] at h;injection h with h1 h2
  injection h1 with h1
  rw[h1,RH h2]
def Dz.move {K}(sm:Ae (del H P) (del H' P'))(k:∀a∈fp,H' a=H a)(h:Dz K H P c v fp):Dz K H' P' c v fp:=by
 cases c with
 |val d=>exact h
 |own ds =>
  obtain⟨p,xs,rfl,rfl,h1,h2⟩:=h;exact⟨p,xs,rfl,rfl,(k p za3).trans h1,h2.mono sm⟩
 |ow o =>
  cases o with
  |rows C8 =>
   obtain⟨p,ps,rfl,rfl,h1,h2⟩:=h;exact⟨p,ps,rfl,rfl,(k p za3).trans h1,h2.move sm λ a ha=>k a (za4 _ ha)⟩
  |LF p ds =>
   obtain⟨p,xs,rfl,rfl,h1,h2⟩:=h;exact⟨p,xs,rfl,rfl,(k p za3).trans h1,h2.mono sm⟩
  |tree p t=>exact C9.move sm k h
def Dz.at {K}(h:Dz K H P c v fp):∀a∈fp,∃o,H a=some o:=by
 cases c with
 |val d=>exact h.elim
 |own ds =>
  obtain⟨p,xs,rfl,rfl,h1,h2⟩:=h;exact λ a ha=>⟨.lst xs,by rw[za7.mp ha];exact h1⟩
 |ow o =>
  cases o with
  |rows C8 =>
   obtain⟨p,ps,rfl,rfl,h1,h2⟩:=h;intro a ha;rcases zab.mp ha with rfl|ha
   ·exact⟨_,h1⟩
   ·obtain⟨xs,q⟩:=h2.at a ha;exact⟨_,q⟩
  |LF p ds =>
   obtain⟨p,xs,rfl,rfl,h1,h2⟩:=h;exact λ a ha=>⟨.lst xs,by rw[za7.mp ha];exact h1⟩
  |tree p t =>
   intro a ha;obtain⟨o,q,_⟩:=C9.Cp h a ha;exact⟨o,q⟩
def Dz.same {K}(e:Ae H H')(h:Dz K H P c v fp):Dz K H' P c v fp:=
 h.move e.del λ a ha=>by obtain⟨xs,q⟩:=h.at a ha;rw[q];exact e _ _ q
def Dz.Cs {K}(h:Dz K H P c v fp)(h':Dz K H P' c v ah):fp=ah:=by
 cases c with
 |val d=>exact h.elim
 |own ds =>
  obtain⟨p,xs,rfl,rfl,h1,h2⟩:=h;obtain⟨p',du,e,rfl,cb,f7⟩:=h';cases e;rfl
 |ow o =>
  cases o with
  |rows C8 =>
   obtain⟨p,ps,rfl,rfl,h1,h2⟩:=h;obtain⟨p',zY,e,rfl,cb,f7⟩:=h';cases e;rw[h1] at cb;injection cb with e
   injection e with e
   rw[RH e]
  |LF p ds =>
   obtain⟨p,xs,rfl,rfl,h1,h2⟩:=h;obtain⟨p',du,e,rfl,cb,f7⟩:=h';cases e;rfl
  |tree p t=>exact C9.Cs h h'
structure DR where
 pr:Addr->Prop
 g:Nat->Addr
instance:CoeFun DR (λ _=>Addr->Prop):=⟨DR.pr⟩
instance:Coe DR (Addr->Prop):=⟨DR.pr⟩
abbrev OC:Cl->Option Nat
 | .ow (.LF n _)=>some n
 | .ow (.tree (some n) _)=>some n
 |_=>none
structure Al (K:za0)(P0:DR)(P:Addr->Prop)(H:Hp)(σ:St)(ρ:Ac):Prop where
 sub:∀a,P0 a->P a
 Cp:∀a,P a->DC H a
 val:∀(i:Nat) d,ρ[i]?=some (some (.val d))->∃v,σ[i]?=some (some v)/\BR K (del H P) v d
 ows:∀(i:Nat) c,ρ[i]?=some (some c)->HY c=true->∃v fp,σ[i]?=some (some v)/\Dz K H P c v fp/\(∀a∈fp,P a/\¬ P0 a)/\fp.Nodup
 apart:∀(i j:Nat) c c' v v' fp ah,ρ[i]?=some (some c)->ρ[j]?=some (some c')->σ[i]?=some (some v)->σ[j]?=some (some v')->Dz K H P c v fp->Dz K H P c' v' ah->i≠j->∀a∈fp,a∉ah
 len:σ.length=ρ.length
 pin:∀(i:Nat) c n,ρ[i]?=some (some c)->OC c=some n->σ[i]?=some (some (.ref (P0.g n)))
def Al.own {K}(E:Al K P0 P H σ ρ)(i:Nat)(ds:List D)(h:ρ[i]?=some (some (.own ds))):
 ∃p xs,σ[i]?=some (some (.ref p))/\H p=some (.lst xs)/\P p/\¬ P0 p/\Ag K (del H P) xs ds:=by
 obtain⟨v,fp,h1,⟨p,xs,rfl,rfl,h2,h3⟩,h4,_⟩:=E.ows i _ h rfl;exact⟨p,xs,h1,h2,(h4 p za3).1,(h4 p za3).2,h3⟩
def Al.YQ {K}(E:Al K P0 P H σ ρ)(sm:Ae (del H P) (del H' P')){i:Nat}(ki:∀v fp,σ[i]?=some (some v)->Dz K H P c v fp->∀a∈fp,H' a=H a)(kj:∀v fp,σ[j]?=some (some v)->Dz K H P c' v fp->∀a∈fp,H' a=H a)(hi:ρ[i]?=some (some c))(hj:ρ[j]?=some (some c'))(si:σ[i]?=some (some v))(sj:σ[j]?=some (some v'))(h:Dz K H' P' c v fp)(h':Dz K H' P' c' v' ah)(ae:i≠j):∀a∈fp,a∉ah:=by
 have key:∀(k:Nat) (d:Cl) (w:V) (fq:List Addr),ρ[k]?=some (some d)->σ[k]?=some (some w)->(∀v fp,σ[k]?=some (some v)->Dz K H P d v fp->∀a∈fp,H' a=H a)->Dz K H' P' d w fq->Dz K H P d w fq:=λ k d w fq hk sk kk ho=>by
  have io:HY d=true:=by cases d<;>first|rfl|exact ho.elim
  obtain⟨w',bM,s2,o2,_⟩:=E.ows k d hk io;rw[sk] at s2;cases s2;have o3:=o2.move sm (kk _ _ sk o2);rw[ho.Cs o3];exact o2
 exact E.apart i j c c' v v' fp ah hi hj si sj (key i c v fp hi si ki h) (key j c' v' ah hj sj kj h') ae
def Al.same {K}(E:Al K P0 P H σ ρ)(e:Ae H H'):Al K P0 P H' σ ρ:=
 ⟨E.sub,λ a h=>(E.Cp a h).same e,λ i d h=>let ⟨v,h1,h2⟩:=E.val i d h;⟨v,h1,h2.mono e.del⟩,
  λ i c h io=>let ⟨v,fp,h1,h2,h3,h4⟩:=E.ows i c h io;⟨v,fp,h1,h2.same e,h3,h4⟩,
  λ i j c c' v v' fp ah hi hj si sj h h' ae=>E.YQ e.del (λ v fp _ o a ha=>by obtain⟨xs,q⟩:=o.at a ha;rw[q];exact e _ _ q) (λ v fp _ o a ha=>by obtain⟨xs,q⟩:=o.at a ha;rw[q];exact e _ _ q) hi hj si sj h h' ae,E.len,E.pin⟩
abbrev gV (K:za0)(WX:Str->Hp->Prop)(P:Addr->Prop)(H:Hp)(Q:VK):M D->Prop
 | .ok d=>∀v H',Ae H H'->BR K (del H' P) v d->Q v H'
 | .ex x=>∀H',Ae H H'->WX x H'
 | .bad=>False
abbrev gA (K:za0)(WX:Str->Hp->Prop)(P:Addr->Prop)(H:Hp)(Q:List V->Hp->Prop):M (List D)->Prop
 | .ok d=>∀v H',Ae H H'->Ag K (del H' P) v d->Q v H'
 | .ex x=>∀H',Ae H H'->WX x H'
 | .bad=>False
abbrev gT (WX:Str->Hp->Prop)(H:Hp)(Q:Bool->Hp->Prop):M Bool->Prop
 | .ok b=>∀H',Ae H H'->Q b H'
 | .ex x=>∀H',Ae H H'->WX x H'
 | .bad=>False
section
variable {K:za0}{P:Addr->Prop}{H':Hp}
def gV.same (h:gV K WX P H Q m)(e:Ae H H'):gV K WX P H' Q m:=by
 cases m with
 |ok d=>exact λ v H2 q hv=>h v H2 (e.trans q) hv
 |ex x=>exact λ H2 q=>h H2 (e.trans q)
 |bad=>exact h
def gA.same (h:gA K WX P H Q m)(e:Ae H H'):gA K WX P H' Q m:=by
 cases m with
 |ok d=>exact λ v H2 q hv=>h v H2 (e.trans q) hv
 |ex x=>exact λ H2 q=>h H2 (e.trans q)
 |bad=>exact h
def gT.same (h:gT WX H Q m)(e:Ae H H'):gT WX H' Q m:=by
 cases m with
 |ok d|ex x=>exact λ H2 q=>h H2 (e.trans q)
 |bad=>exact h
end
abbrev Lv (c:Bool)(P0:DR)(P:Addr->Prop):Addr->Prop:=if c=true then P else P0.pr
abbrev DE (X:Cx)(WX:Str->Hp->Prop)(c:Bool)(e:Expr)(f:Ac->M D):Prop:=
 ∃t,PE X e t/\∀P0 P σ H Q ρ,Al X.K P0 P H σ ρ->gV X.K WX (Lv c P0 P) H Q (f ρ)->t σ H Q
abbrev DA (X:Cx)(WX:Str->Hp->Prop)(c:Bool)(es:List Expr)(f:Ac->M (List D)):Prop:=
 ∃t,PA X es t/\(∀P0 P σ H Q ρ,Al X.K P0 P H σ ρ->gA X.K WX (Lv c P0 P) H Q (f ρ)->t σ H Q)/\∀ρ ds,f ρ=.ok ds->ds.length=es.length
abbrev DT (X:Cx)(WX:Str->Hp->Prop)(e:Expr)(f:Ac->M Bool):Prop:=
 ∃t,PT X e t/\∀P0 P σ H Q ρ,Al X.K P0 P H σ ρ->gT WX H Q (f ρ)->t σ H Q
abbrev DW (X:Cx)(WX:Str->Hp->Prop)(e:Expr)(f:Ac->M Bool):Prop:=
 ∃t,PW X e t/\∀P0 P σ H Q ρ,Al X.K P0 P H σ ρ->gT WX H Q (f ρ)->t σ H Q
def DW.dt (h:DW X WX e f):DT X WX e f:=let ⟨t,h1,h2⟩:=h;⟨t,h1.pt,h2⟩
section
variable {c:Bool}{P0:DR}{P:Addr->Prop}
def Al.lv (E:Al X.K P0 P H σ ρ)(c:Bool):∀a,Lv c P0 P a->P a:=λ a h=>by
 cases c with
 |true=>exact h
 |false=>exact E.sub a h
def Al.sG (E:Al X.K P0 P H σ ρ)(c:Bool):∀a,Lv c P0 P a->DC H a:=λ a h=>E.Cp a (E.lv c a h)
def Mv (h:DE X WX true e f):DE X WX false e f:=by
 obtain⟨t,h1,h2⟩:=h;refine⟨t,h1,λ P0 P σ H Q ρ E g=>h2 P0 P σ H Q ρ E ?_⟩;cases e:f ρ with
 |ok d=>rw[e] at g;exact λ v H' s hv=>g v H' s (hv.mono (CT E.sub))
 |ex x|bad=>rw[e] at g;exact g
abbrev sH:D->Bool
 | .tup _ | .lst _ | .KS _ | .Bm _ _ _ | .ins _ _ _=>false
 |_=>true
abbrev fl (m:M D):M D:=m.bind λ d=>if sH d=true then .ok d else .bad
abbrev rv (i:Nat)(ρ:Ac):M D:=match ρ[i]? with | some (some (.val d))=>.ok d | _=>.bad
abbrev ra (i:Nat)(ρ:Ac):M D:=match ρ[i]? with | some (some (.val d))=>.ok d | some (some (.own ds))=>.ok (.lst ds) | some (some (.ow (.rows C8)))=>.ok (.lst (C8.map D.lst)) | some (some (.ow (.LF _ ds)))=>.ok (.lst ds) | some (some (.ow (.tree _ t)))=>.ok (er t) | _=>.bad
def A1 (i:Nat)(h:PE X (.Name x pos) (Lm i)):DE X WX true (.Name x pos) (rv i):=by
 refine⟨_,h,λ P0 P σ H Q ρ E g=>?_⟩;unfold rv at g;split at g
 ·rename_i d e;obtain⟨v,h1,h2⟩:=E.val i d e;exact⟨v,h1,g v H (Ae.refl H) h2⟩
 ·exact g.elim
def A5 {i j pos}:DE X WX c (.Constant (.int i) j pos) (λ _=>.ok (.int i)):=⟨_,mC,λ P0 P σ H Q ρ E g=>g _ H (Ae.refl H) (.int i)⟩
def D6 {b j pos}:DE X WX c (.Constant (.bool b) j pos) (λ _=>.ok (.bl b)):=⟨_,qU,λ P0 P σ H Q ρ E g=>g _ H (Ae.refl H) (.bl b)⟩
def Df {j pos}:DE X WX c (.Constant .none j pos) (λ _=>.ok .AE):=⟨_,mD,λ P0 P σ H Q ρ E g=>g _ H (Ae.refl H) .AE⟩
abbrev Vl (K:za0)(WX:Str->Hp->Prop)(r:R2)(aP:D->D->M D):Prop:=
 ∀(P:Addr->Prop) (H:Hp) (x y:D) (v w:V) (Q:VK),(∀a,P a->DC H a)->BR K (del H P) v x->BR K (del H P) w y->gV K WX P H Q (aP x y)->r v w H Q
variable {a b:Expr}{f:Ac->M D}
def RI (ha:∀P0 P σ H Q ρ,Al X.K P0 P H σ ρ->gV X.K WX (Lv c P0 P) H Q (f ρ)->ta σ H Q)(hb:∀P0 P σ H Q ρ,Al X.K P0 P H σ ρ->gV X.K WX (Lv c P0 P) H Q (g ρ)->tb σ H Q)(hr:Vl X.K WX r aP)(E:Al X.K P0 P H σ ρ)(h:gV X.K WX (Lv c P0 P) H Q ((f ρ).bind λ x=>(g ρ).bind λ y=>aP x y)):qI r ta tb σ H Q:=by
 refine ha P0 P σ H _ ρ E ?_;cases e:f ρ with
 |bad|ex x=>rw[e] at h;exact h
 |ok x =>
  rw[e] at h;intro v H1 s1 hv;refine hb P0 P σ H1 _ ρ (E.same s1) ?_;cases e2:g ρ with
  |bad=>rw[e2] at h;exact h
  |ex y=>rw[e2] at h;exact gV.same (m:=.ex y) h s1
  |ok y =>
   rw[e2] at h;intro w H2 s2 hw;exact hr _ H2 x y v w Q (λ a q=>((E.same s1).same s2).sG c a q) (hv.mono s2.del) hw ((gV.same h s1).same s2)
def OD (ho:G9 X (binaryOp op) r)(hr:Vl X.K WX r aP)(ha:DE X WX c a f)(hb:DE X WX c b g):DE X WX c (.BinOp a op b pos) (λ ρ=>(f ρ).bind λ x=>(g ρ).bind λ y=>aP x y):=by
 obtain⟨ta,a1,a2⟩:=ha;obtain⟨tb,b1,b2⟩:=hb;exact⟨_,Yo ho a1 b1,λ P0 P σ H Q ρ E h=>RI a2 b2 hr E h⟩
def YR (ho:G9 X (compareOp op) r)(hr:Vl X.K WX r aP)(ha:DE X WX c a f)(hb:DE X WX c b g)(hm:behindInMarks op b=false):DE X WX c (.Compare a [op] [b] pos) (λ ρ=>(f ρ).bind λ x=>(g ρ).bind λ y=>aP x y):=by
 obtain⟨ta,a1,a2⟩:=ha;obtain⟨tb,b1,b2⟩:=hb;exact⟨_,eW ho a1 b1 hm,λ P0 P σ H Q ρ E h=>RI a2 b2 hr E h⟩
def sI (ho:fE X r)(hr:Vl X.K WX r aP)(ha:DE X WX c a f)(hb:DE X WX c b g)(hs:GS b):DE X WX c (.Subscript a b pos) (λ ρ=>(f ρ).bind λ x=>(g ρ).bind λ y=>aP x y):=by
 obtain⟨ta,a1,a2⟩:=ha;obtain⟨tb,b1,b2⟩:=hb;exact⟨_,V8 ho a1 b1 hs,λ P0 P σ H Q ρ E h=>RI a2 b2 hr E h⟩
abbrev By (k:Int->Int->M D)(x y:D):M D:=match x,y with | .int i,.int j=>k i j | _,_=>.bad
def BR.int_inv {K}(h:BR K H v (.int i)):v=.int i:=by cases h;rfl
def BR.Mw {K}(h:BR K H v (.bl i)):v=.bl i:=by cases h;rfl
def Q2 {C:Int->Int->Prop}{gv:Int->Int->V}{gd:Int->Int->D}[∀i j,Decidable (C i j)](hg:∀i j K H,BR K H (gv i j) (gd i j)):Vl X.K WX (rI C gv) (By λ i j=>if C i j then .ok (gd i j) else .bad):=by
 intro P H x y v w Q ht hx hy h;unfold By at h;split at h
 ·rename_i i j;rw[hx.int_inv,hy.int_inv];dsimp only at h;by_cases hc:C i j
  ·rw[if_pos hc] at h;exact⟨i,j,rfl,rfl,hc,h _ H (Ae.refl H) (hg i j _ _)⟩
  ·rw[if_neg hc] at h;exact h.elim
 ·exact h.elim
def IR {gd:Int->Int->D}(hg:∀i j K H,BR K H (gv i j) (gd i j)):Vl X.K WX (eE gv) (By λ i j=>.ok (gd i j)):=by
 intro P H x y v w Q ht hx hy h;unfold By at h;split at h
 ·rename_i i j;rw[hx.int_inv,hy.int_inv];exact⟨i,j,rfl,rfl,h _ H (Ae.refl H) (hg i j _ _)⟩
 ·exact h.elim
instance (i j:Int):Decidable (Yp i j):=by unfold Yp;infer_instance
instance (i j:Int):Decidable (eU i j):=by unfold eU;infer_instance
instance (i j:Int):Decidable (Yq i j):=by unfold Yq;infer_instance
abbrev sJ:=By λ i j=>.ok (.int (i+j))
abbrev sL:=By λ i j=>.ok (.int (i-j))
abbrev CP:=By λ i j=>if 0<j then .ok (.int (i%j)) else .bad
abbrev F5:=By λ i j=>if Yp i j then .ok (.int (i / j)) else .bad
abbrev WS:=By λ i j=>if eU i j then .ok (.int (i^j.toNat)) else .bad
abbrev xU:=By λ i j=>.ok (.bl (decide (i<j)))
abbrev xV:=By λ i j=>.ok (.bl (decide (i<=j)))
abbrev xW:=By λ i j=>.ok (.bl (decide (j<i)))
abbrev yT:=By λ i j=>.ok (.bl (decide (j<=i)))
def BN (ha:DE X WX c a f)(hb:DE X WX c b g):DE X WX c (.BinOp a .Add b pos) (λ ρ=>(f ρ).bind λ x=>(g ρ).bind λ y=>sJ x y):=OD mQ (IR λ _ _ _ _=>.int _) ha hb
def YS (ha:DE X WX c a f)(hb:DE X WX c b g):DE X WX c (.BinOp a .Sub b pos) (λ ρ=>(f ρ).bind λ x=>(g ρ).bind λ y=>sL x y):=OD mR (IR λ _ _ _ _=>.int _) ha hb
def B6 (ha:DE X WX c a f)(hb:DE X WX c b g):DE X WX c (.BinOp a .Mod b pos) (λ ρ=>(f ρ).bind λ x=>(g ρ).bind λ y=>CP x y):=OD mS (Q2 λ _ _ _ _=>.int _) ha hb
def Cz (ha:DE X WX c a f)(hb:DE X WX c b g):DE X WX c (.BinOp a .FloorDiv b pos) (λ ρ=>(f ρ).bind λ x=>(g ρ).bind λ y=>F5 x y):=OD eV (Q2 λ _ _ _ _=>.int _) ha hb
def YT (ha:DE X WX c a f)(hb:DE X WX c b g):DE X WX c (.BinOp a .Pow b pos) (λ ρ=>(f ρ).bind λ x=>(g ρ).bind λ y=>WS x y):=OD mT (Q2 λ _ _ _ _=>.int _) ha hb
abbrev eF (n:Nat)(x y:D):M D:=if Q0 x<=n/\Cv x=true/\Cv y=true then .ok (.bl (Bk x y)) else .bad
abbrev YU (n:Nat)(x y:D):M D:=if Q0 x<=n/\Cv x=true/\Cv y=true then .ok (.bl (!Bk x y)) else .bad
def YV (hu:X.A.units+n<cLine):Vl X.K WX (fX X.K X.A false) (eF n):=by
 intro P H x y v w Q ht hx hy h;unfold eF at h;by_cases hd:Q0 x<=n/\Cv x=true/\Cv y=true
 ·rw[if_pos hd] at h;exact⟨x,y,hx.mono Eg,hy.mono Eg,by omega,hd.2.1,hd.2.2,h _ H (Ae.refl H) (.bl _)⟩
 ·rw[if_neg hd] at h;exact h.elim
def nW (hu:X.A.units+n<cLine):Vl X.K WX (fX X.K X.A true) (YU n):=by
 intro P H x y v w Q ht hx hy h;unfold YU at h;by_cases hd:Q0 x<=n/\Cv x=true/\Cv y=true
 ·rw[if_pos hd] at h;exact⟨x,y,hx.mono Eg,hy.mono Eg,by omega,hd.2.1,hd.2.2,h _ H (Ae.refl H) (.bl _)⟩
 ·rw[if_neg hd] at h;exact h.elim
def YW (hu:X.A.units+n<cLine)(ha:DE X WX c a f)(hb:DE X WX c b g):DE X WX c (.Compare a [.Eq] [b] pos) (λ ρ=>(f ρ).bind λ x=>(g ρ).bind λ y=>eF n x y):=YR YN (YV hu) ha hb (Ga _)
abbrev C1:D->Bool
 | .AE=>true
 |_=>false
def BR.wN {K}(h:BR K H v d):decide (v=.AE)=C1 d:=by
 cases h<;>simp[C1]
def nX {j pos'}(ha:DE X WX c a f):DE X WX c (.Compare a [.Is] [.Constant .none j pos'] pos) (λ ρ=>(f ρ).bind λ x=>.ok (.bl (C1 x))):=by
 obtain⟨ta,a1,a2⟩:=ha;refine⟨_,mE (Yc a1),λ P0 P σ H Q ρ E h=>?_⟩;dsimp only at h;refine a2 P0 P σ H _ ρ E ?_;cases e:f ρ with
 |bad|ex x=>rw[e] at h;exact h
 |ok x=>rw[e] at h;exact λ v H1 s1 hv=>h _ H1 s1 (by rw[hv.wN];exact .bl _)
abbrev fY (x y:D):M D:=match x,y with
 | .tup ds,.int i| .lst ds,.int i=>(match Ru ds i with|some d=>.ok d|none=>.bad)
 |_,_=>.bad
def Ag.Ru {K}(h:Ag K H xs ds)(e:L2.Ru ds i=some d):∃v,L2.Ru xs i=some v/\BR K H v d:=by
 unfold L2.Ru at e ⊢;rw[<-h.length] at e;cases q:Ov xs.length i with
 |none=>rw[q] at e;cases e
 |some j =>
  rw[q] at e;exact h.get e
def Du.B3 {K}{a}(h:Du K (del H P) a xs):Du K H a xs:=Eg.seq h
def EQ.B3 {K}{a}(h:EQ K (del H P) a xs):EQ K H a xs:=Eg.wM h
def Gi:Vl X.K WX (λ x y H Q=>nF X.K x y H Q\/nG X.K x y H Q) fY:=by
 intro P H x y v w Q ht hx hy h;unfold fY at h;split at h
 ·rename_i ds i;split at h
  ·rename_i d e;cases hy;cases hx with
   |tup hs hl =>
    obtain⟨u,h1,h2⟩:=hl.Ru e;exact .inr ⟨_,_,i,u,rfl,rfl,EQ.of (Am hs).2,h1,h _ H (Ae.refl H) h2⟩
  ·exact h.elim
 ·rename_i ds i;split at h
  ·rename_i d e;cases hy;cases hx with
   |lst hs hl =>
    obtain⟨u,h1,h2⟩:=hl.Ru e;exact .inl ⟨_,_,i,u,rfl,rfl,hs.B3,h1,h _ H (Ae.refl H) h2⟩
  ·exact h.elim
 ·exact h.elim
def A7:DA X WX c [] (λ _=>.ok []):=⟨_,CD,λ P0 P σ H Q ρ E h=>h [] H (Ae.refl H) .nil,λ ρ ds h=>by cases h;rfl⟩
def A2 (he:DE X WX c e f)(hr:DA X WX c es fs)(hs: ~~~(starEach (e::es) X.env=(false,eval e X.env)::starEach es X.env)):
 DA X WX c (e::es) (λ ρ=>(f ρ).bind λ d=>(fs ρ).bind λ ds=>.ok (d::ds)):=by
 obtain⟨te,e1,e2⟩:=he;obtain⟨tr,r1,r2,r3⟩:=hr;refine⟨_,Bu e1 r1 hs,λ P0 P σ H Q ρ E h=>?_,λ ρ ds h=>?_⟩
 rotate_left
 ·dsimp only at h;cases q:f ρ with
  |bad|ex x=>rw[q] at h;cases h
  |ok x =>
   rw[q] at h;cases q2:fs ρ with
   |bad|ex x=>rw[q2] at h;cases h
   |ok xs =>
    rw[q2] at h;cases h;rw[za9,za9,r3 ρ xs q2]
 dsimp only at h;refine e2 P0 P σ H _ ρ E ?_;cases q:f ρ with
 |bad|ex x=>rw[q] at h;exact h
 |ok x =>
  rw[q] at h;intro v H1 s1 hv;refine r2 P0 P σ H1 _ ρ (E.same s1) ?_;cases q2:fs ρ with
  |bad=>rw[q2] at h;exact h
  |ex y=>rw[q2] at h;exact gA.same (m:=.ex y) h s1
  |ok ds =>
   rw[q2] at h;exact λ vs H2 s2 a6=>h _ H2 (s1.trans s2) (.cons (hv.mono s2.del) a6)
def IS (hn:H p=none)(ht:∀a,P a->DC H a):del (upd H p o) P p=some o:=by
 rw[Au λ z=>(ht p z).no hn];exact Aq
def AH {x1}(ha:DA X WX c es fs)(hz:es.length<=1000:=by decide):DE X WX c (.Tuple es x1 pos) (λ ρ=>(fs ρ).bind λ ds=>if ds.length<=1000 then .ok (.tup ds) else .bad):=by
 obtain⟨ta,a1,a2,a3⟩:=ha;refine⟨_,Yv a1,λ P0 P σ H Q ρ E h=>?_⟩;dsimp only at h;refine a2 P0 P σ H _ ρ E ?_;cases q:fs ρ with
 |bad|ex y=>rw[q] at h;exact h
 |ok ds =>
  rw[q] at h;simp only[M.A8] at h;by_cases hd:ds.length<=1000
  ·rw[if_pos hd] at h;intro vs H1 s1 a6;refine⟨zbf (AA (by rw[a6.length];exact hd)),λ p hp=>h _ _ (s1.trans (AQ hp _)) (.tup (IS hp λ a q=>(E.same s1).sG c a q) (a6.mono (AQ hp _).del))⟩
  ·rw[if_neg hd] at h;exact h.elim
def Fn (ha:DA X WX c es fs):DE X WX c (.List es pos) (λ ρ=>(fs ρ).bind λ ds=>if ds.length<=1000 then .ok (.lst ds) else .bad):=by
 obtain⟨ta,a1,a2,a3⟩:=ha;refine⟨_,PH a1,λ P0 P σ H Q ρ E h=>?_⟩;dsimp only at h;refine a2 P0 P σ H _ ρ E ?_;cases q:fs ρ with
 |bad|ex y=>rw[q] at h;exact h
 |ok ds =>
  rw[q] at h;simp only[M.A8] at h;by_cases hd:ds.length<=1000
  ·rw[if_pos hd] at h;intro vs H1 s1 a6;refine⟨zbf (AA (by rw[a6.length];exact hd)),λ p hp=>h _ _ (s1.trans (AQ hp _)) (.lst (.of (IS hp λ a q=>(E.same s1).sG c a q)) (a6.mono (AQ hp _).del))⟩
  ·rw[if_neg hd] at h;exact h.elim
end
abbrev NW (d:D):M Bool:=match d with | .bl b=>.ok b | _=>.bad
section
variable {c:Bool}{P0:DR}{P:Addr->Prop}{a b:Expr}{f:Ac->M D}{gt:Ac->M Bool}
def sM {K}(h:gT WX H Q (m.bind NW)):gV K WX P H (λ x H'=>∃k,x=.bl k/\Q k H') m:=by
 cases m with
 |bad|ex x=>exact h
 |ok d =>
  intro v H' s hv;simp only[M.A8] at h;unfold NW at h;split at h
  ·rename_i b;exact⟨b,hv.Mw,h H' s⟩
  ·exact h.elim
def EG (ho:G9 X (compareOp op) r)(hr:Vl X.K WX r aP)(ha:DE X WX c a f)(hb:DE X WX c b g)(hm:behindInMarks op b=false):DT X WX (.Compare a [op] [b] pos) (λ ρ=>((f ρ).bind λ x=>(g ρ).bind λ y=>aP x y).bind NW):=by
 obtain⟨ta,a1,a2⟩:=ha;obtain⟨tb,b1,b2⟩:=hb;exact⟨_,eX ho a1 b1 hm,λ P0 P σ H Q ρ E h=>RI a2 b2 hr E (sM h)⟩
def kX (ha:DE X WX c a f)(hb:DE X WX c b g):DT X WX (.Compare a [.Lt] [b] pos) (λ ρ=>((f ρ).bind λ x=>(g ρ).bind λ y=>xU x y).bind NW):=EG kP (IR λ _ _ _ _=>.bl _) ha hb (Ga _)
def kY (ha:DE X WX c a f)(hb:DE X WX c b g):DT X WX (.Compare a [.LtE] [b] pos) (λ ρ=>((f ρ).bind λ x=>(g ρ).bind λ y=>xV x y).bind NW):=EG kQ (IR λ _ _ _ _=>.bl _) ha hb (Ga _)
def Vm (ha:DE X WX c a f)(hb:DE X WX c b g):DT X WX (.Compare a [.Gt] [b] pos) (λ ρ=>((f ρ).bind λ x=>(g ρ).bind λ y=>xW x y).bind NW):=EG rK (IR λ _ _ _ _=>.bl _) ha hb (Ga _)
def KU (hu:X.A.units+n<cLine)(ha:DE X WX c a f)(hb:DE X WX c b g):DT X WX (.Compare a [.Eq] [b] pos) (λ ρ=>((f ρ).bind λ x=>(g ρ).bind λ y=>eF n x y).bind NW):=EG YN (YV hu) ha hb (Ga _)
def Hz (hu:X.A.units+n<cLine)(ha:DE X WX c a f)(hb:DE X WX c b g):DT X WX (.Compare a [.NotEq] [b] pos) (λ ρ=>((f ρ).bind λ x=>(g ρ).bind λ y=>YU n x y).bind NW):=EG nV (nW hu) ha hb (Ga _)
def HZ {j pos'}(ha:DE X WX c a f):DT X WX (.Compare a [.Is] [.Constant .none j pos'] pos) (λ ρ=>(f ρ).bind λ x=>.ok (C1 x)):=by
 obtain⟨ta,a1,a2⟩:=ha;refine⟨_,Yd (Yc a1),λ P0 P σ H Q ρ E h=>?_⟩;dsimp only at h;refine a2 P0 P σ H _ ρ E ?_;cases e:f ρ with
 |bad|ex x=>rw[e] at h;exact h
 |ok x=>rw[e] at h;exact λ v H1 s1 hv=>⟨_,rfl,by rw[hv.wN];exact h H1 s1⟩
def DU {j pos'}(ha:DE X WX c a f):DT X WX (.Compare a [.IsNot] [.Constant .none j pos'] pos) (λ ρ=>(f ρ).bind λ x=>.ok (!C1 x)):=by
 obtain⟨ta,a1,a2⟩:=ha;refine⟨_,Yd (eQ a1),λ P0 P σ H Q ρ E h=>?_⟩;dsimp only at h;refine a2 P0 P σ H _ ρ E ?_;cases e:f ρ with
 |bad|ex x=>rw[e] at h;exact h
 |ok x=>rw[e] at h;exact λ v H1 s1 hv=>⟨_,rfl,by rw[hv.wN];exact h H1 s1⟩
def C2 (ha:DT X WX a ft):DT X WX (.UnaryOp .Not a pos) (λ ρ=>(ft ρ).bind λ b=>.ok (!b)):=by
 obtain⟨ta,a1,a2⟩:=ha;refine⟨_,mF a1,λ P0 P σ H Q ρ E h=>?_⟩;dsimp only at h;refine a2 P0 P σ H _ ρ E ?_;cases e:ft ρ with
 |bad|ex x=>rw[e] at h;exact h
 |ok x=>rw[e] at h;exact λ H1 s1=>h H1 s1
def EH (ha:DT X WX a ft):DW X WX (.BoolOp .And [a] pos) ft:=let ⟨ta,a1,a2⟩:=ha;⟨_,pw_and1 a1,a2⟩
def CU (ha:DT X WX a ft):DW X WX (.BoolOp .Or [a] pos) ft:=let ⟨ta,a1,a2⟩:=ha;⟨_,pw_or1 a1,a2⟩
def Fo {rest}(ha:DT X WX a ft)(hb:DW X WX (.BoolOp .And (b::rest) pos) gt):DW X WX (.BoolOp .And (a::b::rest) pos) (λ ρ=>(ft ρ).bind λ k=>if k=true then gt ρ else .ok false):=by
 obtain⟨ta,a1,a2⟩:=ha;obtain⟨tb,b1,b2⟩:=hb;refine⟨_,pw_and a1 b1,λ P0 P σ H Q ρ E h=>?_⟩;dsimp only at h;refine a2 P0 P σ H _ ρ E ?_;cases e:ft ρ with
 |bad|ex x=>rw[e] at h;exact h
 |ok k =>
  rw[e] at h;intro H1 s1;cases k with
  |true =>
   simp only[M.A8,if_true] at h ⊢;exact b2 P0 P σ H1 _ ρ (E.same s1) (h.same s1)
  |false =>
   simp only[M.A8,zas,if_false] at h ⊢;exact h H1 s1
def DM {rest}(ha:DT X WX a ft)(hb:DW X WX (.BoolOp .Or (b::rest) pos) gt):DW X WX (.BoolOp .Or (a::b::rest) pos) (λ ρ=>(ft ρ).bind λ k=>if k=true then .ok true else gt ρ):=by
 obtain⟨ta,a1,a2⟩:=ha;obtain⟨tb,b1,b2⟩:=hb;refine⟨_,pw_or a1 b1,λ P0 P σ H Q ρ E h=>?_⟩;dsimp only at h;refine a2 P0 P σ H _ ρ E ?_;cases e:ft ρ with
 |bad|ex x=>rw[e] at h;exact h
 |ok k =>
  rw[e] at h;intro H1 s1;cases k with
  |true =>
   simp only[M.A8,if_true] at h ⊢;exact h H1 s1
  |false =>
   simp only[M.A8,zas,if_false] at h ⊢;exact b2 P0 P σ H1 _ ρ (E.same s1) (h.same s1)
def Kk {op}(ha:DE X WX c a f):DE X WX c (.BoolOp op [a] pos) f:=let ⟨ta,a1,a2⟩:=ha;⟨_,mG a1,a2⟩
def I0 {rest}(ha:DE X WX c a f)(hb:DE X WX c (.BoolOp .And (b::rest) pos) g):DE X WX c (.BoolOp .And (a::b::rest) pos) (λ ρ=>((f ρ).bind NW).bind λ k=>if k=true then g ρ else .ok (.bl false)):=by
 obtain⟨ta,a1,a2⟩:=ha;obtain⟨tb,b1,b2⟩:=hb;refine⟨_,mH a1 b1,λ P0 P σ H Q ρ E h=>?_⟩;dsimp only at h;refine a2 P0 P σ H _ ρ E ?_;cases e:f ρ with
 |bad|ex x=>rw[e] at h;exact h
 |ok d =>
  rw[e] at h;simp only[M.A8] at h;unfold NW at h;split at h
  ·rename_i k;intro v H1 s1 hv;refine⟨k,hv.Mw,?_⟩;cases k with
   |true =>
    simp only[M.A8,if_true] at h ⊢;exact b2 P0 P σ H1 _ ρ (E.same s1) (h.same s1)
   |false =>
    simp only[M.A8,zas,if_false] at h ⊢;exact h _ H1 s1 (.bl _)
  ·exact h.elim
def sN {rest}(ha:DE X WX c a f)(hb:DE X WX c (.BoolOp .Or (b::rest) pos) g):DE X WX c (.BoolOp .Or (a::b::rest) pos) (λ ρ=>((f ρ).bind NW).bind λ k=>if k=true then .ok (.bl true) else g ρ):=by
 obtain⟨ta,a1,a2⟩:=ha;obtain⟨tb,b1,b2⟩:=hb;refine⟨_,qY a1 b1,λ P0 P σ H Q ρ E h=>?_⟩;dsimp only at h;refine a2 P0 P σ H _ ρ E ?_;cases e:f ρ with
 |bad|ex x=>rw[e] at h;exact h
 |ok d =>
  rw[e] at h;simp only[M.A8] at h;unfold NW at h;split at h
  ·rename_i k;intro v H1 s1 hv;refine⟨k,hv.Mw,?_⟩;cases k with
   |true =>
    simp only[M.A8,if_true] at h ⊢;exact h _ H1 s1 (.bl _)
   |false =>
    simp only[M.A8,zas,if_false] at h ⊢;exact b2 P0 P σ H1 _ ρ (E.same s1) (h.same s1)
  ·exact h.elim
def YX (ha:DE X WX c a f):DE X WX c (.UnaryOp .Not a pos) (λ ρ=>((f ρ).bind NW).bind λ k=>.ok (.bl (!k))):=by
 obtain⟨ta,a1,a2⟩:=ha;refine⟨_,mI a1,λ P0 P σ H Q ρ E h=>?_⟩;dsimp only at h;refine a2 P0 P σ H _ ρ E ?_;cases e:f ρ with
 |bad|ex x=>rw[e] at h;exact h
 |ok d =>
  rw[e] at h;simp only[M.A8] at h;unfold NW at h;split at h
  ·rename_i k;exact λ v H1 s1 hv=>⟨k,hv.Mw,h _ H1 s1 (.bl _)⟩
  ·exact h.elim
def wO (ha:DE X WX c a f):DE X WX c (.UnaryOp .USub a pos) (λ ρ=>(f ρ).bind λ d=>match d with | .int i=>.ok (.int (-i)) | _=>.bad):=by
 obtain⟨ta,a1,a2⟩:=ha;refine⟨_,rH mU a1,λ P0 P σ H Q ρ E h=>?_⟩;dsimp only at h;refine a2 P0 P σ H _ ρ E ?_;cases e:f ρ with
 |bad|ex x=>rw[e] at h;exact h
 |ok d =>
  rw[e] at h;simp only[M.A8] at h;split at h
  ·rename_i i;exact λ v H1 s1 hv=>⟨i,hv.int_inv,h _ H1 s1 (.int _)⟩
  ·exact h.elim
def WT {p q:Int->Int->Bool}(ho:G9 X (compareOp op) (eE λ i j=>.bl (p i j)))(aJ:G9 X (compareOp e8) (eE λ i j=>.bl (q i j)))(ha:DE X WX c a f)(hb:DE X WX c b g)(hd:DE X WX c d h)(hm:lastMarks [op,e8] [b,d]=false:=by with_unfolding_all rfl):DE X WX c (.Compare a [op,e8] [b,d] pos) (λ ρ=>(f ρ).bind λ x=>(g ρ).bind λ y=>By (λ i j=>if p i j=true then (h ρ).bind λ z=>By (λ _ k=>.ok (.bl (q j k))) (.int 0) z else .ok (.bl false)) x y):=by
 obtain⟨ta,a1,a2⟩:=ha;obtain⟨tb,b1,b2⟩:=hb;obtain⟨td,d1,d2⟩:=hd;refine⟨_,Yr ho aJ a1 b1 d1 hm,λ P0 P σ H Q ρ E hh=>?_⟩;dsimp only at hh;refine a2 P0 P σ H _ ρ E ?_;cases e:f ρ with
 |bad|ex x=>rw[e] at hh;exact hh
 |ok x =>
  rw[e] at hh;intro v H1 s1 hv;refine b2 P0 P σ H1 _ ρ (E.same s1) ?_;cases e2:g ρ with
  |bad=>rw[e2] at hh;exact hh
  |ex y=>rw[e2] at hh;exact gV.same (m:=.ex y) hh s1
  |ok y =>
   rw[e2] at hh;simp only[M.A8] at hh;unfold By at hh;split at hh
   ·rename_i i j;intro w H2 s2 hw;refine⟨i,j,hv.int_inv,hw.int_inv,p i j,rfl,?_⟩;dsimp only at hh;by_cases hp:p i j=true
    ·rw[if_pos hp] at hh ⊢;refine d2 P0 P σ H2 _ ρ ((E.same s1).same s2) ?_;cases e3:h ρ with
     |bad=>rw[e3] at hh;exact hh
     |ex z=>rw[e3] at hh;exact gV.same (gV.same (m:=.ex z) hh s1) s2
     |ok z =>
      rw[e3] at hh;simp only[M.A8] at hh;cases z with
      |int k=>exact λ u H3 s3 hu=>⟨j,k,hw.int_inv,hu.int_inv,hh _ H3 ((s1.trans s2).trans s3) (.bl _)⟩
      |_=>exact hh.elim
    ·rw[if_neg hp] at hh ⊢;exact hh _ H2 (s1.trans s2) (.bl _)
   ·exact hh.elim
abbrev IT (K:za0)(WX:Str->Hp->Prop)(r:List V->Hp->VK->Prop)(dF:List D->M D):Prop:=
 ∀(P:Addr->Prop) (H:Hp) (ds:List D) (vs:List V) (Q:VK),(∀a,P a->DC H a)->Ag K (del H P) vs ds->gV K WX P H Q (dF ds)->r vs H Q
variable {x:Str}{p:Pos}{es:List Expr}{fs:Ac->M (List D)}{id T:String}{r:List V->Hp->VK->Prop}{dF:List D->M D}
def YY (ha:∀P0 P σ H Q ρ,Al X.K P0 P H σ ρ->gA X.K WX (Lv c P0 P) H Q (fs ρ)->ta σ H Q)(hr:IT X.K WX r dF)(E:Al X.K P0 P H σ ρ)(h:gV X.K WX (Lv c P0 P) H Q ((fs ρ).bind dF)):wG r ta σ H Q:=by
 refine ha P0 P σ H _ ρ E ?_;cases e:fs ρ with
 |bad|ex x=>rw[e] at h;exact h
 |ok ds =>
  rw[e] at h;exact λ vs H1 s1 a6=>hr _ H1 ds vs Q (λ a q=>(E.same s1).sG c a q) a6 (h.same s1)
def IU (hc:FT X (.builtin id) r)(hr:IT X.K WX r dF)(hg:Gl X x)(hm:X.mg x=none)(hv:bootBuiltins x=some (.builtin id))(ha:DA X WX c (e::es) fs)(hn:x ≠ "__name__" := by decide)(aK:(x==("__debug__" : Str))=false:=by decide)(he: ~~~(starEach (e::es) X.env=(false,eval e X.env)::starEach es X.env))(hpl: ~~~((backTo pos (starEach es X.env)).any (·.1)=false)):DE X WX c (.Call (.Name x p) (e::es) [] pos) (λ ρ=>(fs ρ).bind dF):=by
 obtain⟨ta,a1,a2,a3⟩:=ha;exact⟨_,Rq hc hg hm hv a1 hn aK he hpl,λ P0 P σ H Q ρ E h=>YY a2 hr E h⟩
def OE (hc:FT X (.type T) r)(hr:IT X.K WX r dF)(hg:Gl X x)(hm:X.mg x=none)(hv:bootBuiltins x=some (.type T))(ha:DA X WX c (e::es) fs)(hn:x ≠ "__name__" := by decide)(aK:(x==("__debug__" : Str))=false:=by decide)(he: ~~~(starEach (e::es) X.env=(false,eval e X.env)::starEach es X.env))(hpl: ~~~((backTo pos (starEach es X.env)).any (·.1)=false)):DE X WX c (.Call (.Name x p) (e::es) [] pos) (λ ρ=>(fs ρ).bind dF):=by
 obtain⟨ta,a1,a2,a3⟩:=ha;exact⟨_,Ou hc hg hm hv a1 hn aK he hpl,λ P0 P σ H Q ρ E h=>YY a2 hr E h⟩
abbrev WU (ds:List D):M D:=match ds with
 |[.lst xs]|[.tup xs]=>.ok (.int xs.length)
 |_=>.bad
def Ag.one {K}(h:Ag K H vs [d]):∃v,vs=[v]/\BR K H v d:=by
 cases h with
 |cons h t=>cases t;exact⟨_,rfl,h⟩
def Ag.two {K}{e}(h:Ag K H vs [d,e]):∃v w,vs=[v,w]/\BR K H v d/\BR K H w e:=by
 cases h with
 |cons h t =>
  obtain⟨w,rfl,hw⟩:=t.one;exact⟨_,w,rfl,h,hw⟩
def nY:IT X.K WX (λ xs H Q=>∃p ys,xs=[.ref p]/\(Du X.K H p ys\/EQ X.K H p ys)/\Q (.int ys.length) H) WU:=by
 intro P H ds vs Q ht hl h;unfold WU at h;split at h
 ·obtain⟨v,rfl,hv⟩:=hl.one;cases hv with
  |lst hs hh=>exact⟨_,_,rfl,.inl hs.B3,by rw[hh.length];exact h _ H (Ae.refl H) (.int _)⟩
 ·obtain⟨v,rfl,hv⟩:=hl.one;cases hv with
  |tup hs hh=>exact⟨_,_,rfl,.inr (EQ.of (Am hs).2),by rw[hh.length];exact h _ H (Ae.refl H) (.int _)⟩
 ·exact h.elim
def Dg (hg:Gl X "len")(hm:X.mg "len" = none)(ha:DE X WX c e f)(hs: ~~~(starEach [e] X.env=[(false,eval e X.env)])):DE X WX c (.Call (.Name "len" p) [e] [] pos) (λ ρ=>((f ρ).bind λ d=>(M.ok []).bind λ ds=>.ok (d::ds)).bind WU):=
 IU PP nY hg hm PySem.boot_len (A2 ha A7 hs) (he:=hs)
abbrev TY (ds:List D):M D:=match ds with
 |[.lst xs]|[.tup xs]=>.ok (.tup xs)
 |_=>.bad
def YZ:IT X.K WX (λ xs H Q=>∃p ys,xs=[.ref p]/\((Du X.K H p ys/\∀l,H l=none->Q (.ref l) (upd H l (.tup ys)))\/(EQ X.K H p ys/\Q (.ref p) H))) TY:=by
 intro P H ds vs Q ht hl h;unfold TY at h;split at h
 ·obtain⟨v,rfl,hv⟩:=hl.one;cases hv with
  |lst hs hh=>exact⟨_,_,rfl,.inl ⟨hs.B3,λ l hn=>h _ _ (AQ hn _) (.tup (IS hn ht) (hh.mono (AQ hn _).del))⟩⟩
 ·obtain⟨v,rfl,hv⟩:=hl.one;cases hv with
  |tup hs hh=>exact⟨_,_,rfl,.inr ⟨EQ.of (Am hs).2,h _ H (Ae.refl H) (.tup hs hh)⟩⟩
 ·exact h.elim
def Z0 (hg:Gl X "tuple")(hm:X.mg "tuple" = none)(ha:DE X WX c e f)(hb:bootBuiltins "tuple" = some (.type "tuple"):=by decide +kernel)(hs: ~~~(starEach [e] X.env=[(false,eval e X.env)])):DE X WX c (.Call (.Name "tuple" p) [e] [] pos) (λ ρ=>((f ρ).bind λ d=>(M.ok []).bind λ ds=>.ok (d::ds)).bind TY):=
 OE NU YZ hg hm hb (A2 ha A7 hs) (he:=hs)
abbrev kZ:D->String
 | .AE => "NoneType"
 | .bl _ => "bool"
 | .int _ => "int"
 | .str _ => "str"
 | .tup _ => "tuple"
 | .lst _ => "list"
 | .KS _ => "NoneType"
 | .Bm _ _ _ => "dict"
 | .ins _ _ _ => "NoneType"
abbrev EC (T:String)(d:D):Bool:=(kZ d==T)||(kZ d == "bool" && T == "int")
abbrev HA (T:String)(d:D):M D:=match d with
 | .KS _| .ins _ _ _=>.bad
 |d=>.ok (.bl (EC T d))
abbrev sP:D->Bool
 | .KS _| .ins _ _ _=>true
 |_=>false
def Z1 (h:sP d=false):HA T d=.ok (.bl (EC T d)):=by cases d<;>first | rfl | cases h
abbrev wQ (K:za0)(T:String):List V->Hp->VK->Prop:=λ xs H Q=>∃x d,xs=[x,.ty T]/\BR K H x d/\sP d=false/\Q (.bl (EC T d)) H
def Z2 (hk:∀d:D,PySem.W.kitOne X.K (.type (kZ d)) (.type T)=some (EC T d)):FT X (.builtin "isinstance") (wQ X.K T):=by
 intro pins s σ H xs us Q I r h;obtain⟨x,d,rfl,hd,hx,q⟩:=h;obtain⟨u,w,rfl,rx,ba⟩:=r.two;cases ba;have fin:∀tk,EP X pins σ Q (.bool (EC T d)) {s with toks:=tk}:=λ tk=>⟨.bl _,H,I.tok tk,rfl,q⟩;have e:=hk d;cases hd with
 |KS _ _|ins _ _ _=>cases hx
 |Vd hs hl =>
  cases rx;obtain⟨⟨o,h1,h2⟩,_,_⟩:=TU I (.inl ⟨_,hs⟩);exact zd1 PySem.W.kitx_dict I.LB ⟨o,h1,h2⟩ e (λ z=>nomatch z) fin
 |Ve hs hl =>
  cases rx;obtain⟨⟨o,h1,h2⟩,_,_⟩:=TU I (.inr ⟨_,hs⟩);exact zd1 PySem.W.kitx_dict I.LB ⟨o,h1,h2⟩ e (λ z=>nomatch z) fin
 |AE=>cases rx;exact zd1 PySem.W.kitx_none I.LB zdf e (λ z=>nomatch z) fin
 |bl b=>cases rx;exact zd1 PySem.W.kitx_bool I.LB zdf e (λ z=>nomatch z) fin
 |int b=>obtain⟨t,rfl⟩:=rx;exact zd1 PySem.W.kitx_int I.LB zdf e (λ z=>nomatch z) fin
 |str b=>obtain⟨t,rfl⟩:=rx;exact zd1 PySem.W.kitx_str I.LB zdf e (λ z=>nomatch z) fin
 |tup hs hl =>
  cases rx;obtain⟨_,_,⟨o,h1,h2,_⟩,_⟩:=I.tuple (.of hs);exact zd1 PySem.W.kitx_tuple I.LB ⟨o,h1,h2⟩ e (λ z=>nomatch z) fin
 |lst hs hl =>
  cases rx;obtain⟨_,_,⟨o,n,h1,h2,_⟩,_⟩:=I.list hs;exact zd1 PySem.W.kitx_list I.LB ⟨o,h1,h2⟩ e (λ z=>nomatch z) fin
def DD (hk:∀d:D,PySem.W.kitOne X.K (.type (kZ d)) (.type T)=some (EC T d))(hg:Gl X "isinstance")(hm:X.mg "isinstance" = none)(bN:Gl X x2)(aZ:X.mg x2=none)(jk:bootBuiltins x2=some (.type T))(ha:DE X WX c e f)(hb:bootBuiltins "isinstance" = some (.builtin "isinstance"):=by decide +kernel)(aF:x2 ≠ "__name__" := by decide)(on:(x2==("__debug__" : Str))=false:=by decide)(hs: ~~~(starEach [e,.Name x2 p2] X.env=(false,eval e X.env)::starEach [.Name x2 p2] X.env))(a8: ~~~(starEach [.Name x2 p2] X.env=[(false,eval (.Name x2 p2) X.env)]))(hpl: ~~~((backTo pos (starEach [.Name x2 p2] X.env)).any (·.1)=false)):
 DE X WX c (.Call (.Name "isinstance" p) [e,.Name x2 p2] [] pos) (λ ρ=>(f ρ).bind λ d=>HA T d):=by
 obtain⟨ta,a1,a2⟩:=ha;refine⟨_,Rq (Z2 hk) hg hm hb (Bu a1 (Bu (eO (v:=.ty T) bN aZ jk rfl aF on) CD a8) hs) (by decide) (by decide) hs hpl,λ P0 P σ H Q ρ E h=>?_⟩;dsimp only at h;refine a2 P0 P σ H _ ρ E ?_;refine YO h λ d h=>?_;cases hx:sP d with
 |true=>cases d<;>first|exact h.elim|cases hx
 |false =>
  rw[Z1 hx] at h;exact λ v H1 s1 hv=>⟨v,d,rfl,hv.mono Eg,hx,h _ H1 s1 (.bl _)⟩
def Fp (K:za0)(d:D):PySem.W.kitOne K (.type (kZ d)) (.type "tuple")=some (EC "tuple" d):=by cases d<;>rfl
def GU (K:za0)(d:D):PySem.W.kitOne K (.type (kZ d)) (.type "list")=some (EC "list" d):=by cases d<;>rfl
def OF (K:za0)(d:D):PySem.W.kitOne K (.type (kZ d)) (.type "bool")=some (EC "bool" d):=by cases d<;>rfl
def RJ (K:za0)(d:D):PySem.W.kitOne K (.type (kZ d)) (.type "int")=some (EC "int" d):=by cases d<;>rfl
abbrev qK (lo hi:Option Int)(d:D):M D:=match d with
 | .lst ds=>.ok (.lst ((ds.drop (HT.LC ds.length 0 lo)).take (HT.LC ds.length ds.length hi-HT.LC ds.length 0 lo)))
 |_=>.bad
abbrev DO (X:Cx)(WX:Str->Hp->Prop)(c:Bool)(e:Option Expr)(f:Ac->M (Option Int)):Prop:=
 ∃t,PO X e t/\∀P0 P σ H Q ρ,Al X.K P0 P H σ ρ->(match f ρ with | .ok o=>∀H',Ae H H'->Q o H' | .ex x=>∀H',Ae H H'->WX x H' | .bad=>False)->t σ H Q
def LG:DO X WX c none (λ _=>.ok none):=⟨_,fC,λ P0 P σ H Q ρ E h=>h H (Ae.refl H)⟩
abbrev xX (d:D):M (Option Int):=match d with | .int i=>.ok (some i) | _=>.bad
def GV (ha:DE X WX c e f):DO X WX c (some e) (λ ρ=>(f ρ).bind xX):=by
 obtain⟨ta,a1,a2⟩:=ha;refine⟨_,fD a1,λ P0 P σ H Q ρ E h=>?_⟩;dsimp only at h;refine a2 P0 P σ H _ ρ E ?_;cases q:f ρ with
 |bad|ex x=>rw[q] at h;exact h
 |ok d =>
  rw[q] at h;cases d with
  |int i=>exact λ v H1 s1 hv=>⟨i,hv.int_inv,h H1 s1⟩
  |_=>exact h.elim
end
inductive Out where
 |ret (d:D)|next (ρ:Ac)|brk (ρ:Ac)|cont (ρ:Ac)|CF (c:Cl)|ES (t:OT) (ρ:Ac)
variable {g1 g2:Ac->M Out}
abbrev Tr (P0 P:Addr->Prop)(H:Hp)(P':Addr->Prop)(H':Hp):Prop:=Ae (del H P) (del H' P')/\∀a,P0 a->H' a=H a
def Tr.refl:Tr P0 P H P H:=⟨Ae.refl _,λ _ _=>rfl⟩
def Tr.trans (a:Tr P0 P H P1 H1)(b:Tr P0 P1 H1 P2 H2):Tr P0 P H P2 H2:=⟨a.1.trans b.1,λ x h=>(b.2 x h).trans (a.2 x h)⟩
def Al.tr {K}(E:Al K P0 P H σ ρ)(e:Ae H H'):Tr P0 P H P H':=
 ⟨e.del,λ a h=>by obtain⟨o,q,_⟩:=E.Cp a (E.sub a h);rw[e a o q,q]⟩
abbrev gS (K:za0)(WX:Str->Hp->Prop)(P0:DR)(P:Addr->Prop)(H:Hp)(Z:Ends):M Out->Prop
 | .ok (.ret d)=>∀v H' P',Tr P0 P H P' H'->BR K (del H' P0) v d->Z.rt v H'
 | .ok (.next ρ)=>∀σ' H' P',Tr P0 P H P' H'->Al K P0 P' H' σ' ρ->Z.nx σ' H'
 | .ok (.brk ρ)=>∀σ' H' P',Tr P0 P H P' H'->Al K P0 P' H' σ' ρ->Z.bk σ' H'
 | .ok (.cont ρ)=>∀σ' H' P',Tr P0 P H P' H'->Al K P0 P' H' σ' ρ->Z.ct σ' H'
 | .ok (.CF c)=>∀v fp H' P',Tr P0 P H P' H'->(∀a,P0 a->P' a)->(∀a,P' a->DC H' a)->Dz K H' P' c v fp->(∀a∈fp,P' a/\¬ P0 a)->fp.Nodup->Z.rt v H'
 | .ok (.ES t ρ)=>∀v fp σ' H' P',Tr P0 P H P' H'->Al K P0 P' H' σ' ρ->C9 K H' P' v t fp->fp.Nodup->(∀a∈fp,P' a/\¬ P0 a/\∀(j:Nat) c v' fq,ρ[j]?=some (some c)->σ'[j]?=some (some v')->Dz K H' P' c v' fq->a∉fq)->Z.rt v H'
 | .ex x=>∀H' P',Tr P0 P H P' H'->WX x H'
 | .bad=>False
def gS.tr {K}(h:gS K WX P0 P H Z m)(t:Tr P0 P H P' H'):gS K WX P0 P' H' Z m:=by
 cases m with
 |bad=>exact h
 |ex x=>exact λ H2 P2 t2=>h H2 P2 (t.trans t2)
 |ok o =>
  cases o with
  |ret d=>exact λ v H2 P2 t2 hv=>h v H2 P2 (t.trans t2) hv
  |next ρ|brk ρ|cont ρ=>exact λ σ2 H2 P2 t2 hv=>h σ2 H2 P2 (t.trans t2) hv
  |CF c=>exact λ v fp H2 P2 t2=>h v fp H2 P2 (t.trans t2)
  |ES c ρ=>exact λ v fp σ2 H2 P2 t2=>h v fp σ2 H2 P2 (t.trans t2)
abbrev DS (X:Cx)(WX:Str->Hp->Prop)(st:Stmt)(g:Ac->M Out):Prop:=
 ∃t,PS X st t/\∀P0 P σ H Z ρ,Al X.K P0 P H σ ρ->gS X.K WX P0 P H Z (g ρ)->t Z σ H
abbrev R7 (X:Cx)(WX:Str->Hp->Prop)(st:List Stmt)(g:Ac->M Out):Prop:=
 ∃t,V3 X st t/\∀P0 P σ H Z ρ,Al X.K P0 P H σ ρ->gS X.K WX P0 P H Z (g ρ)->t Z σ H
abbrev TZ (m:M Out)(k:Ac->M Out):M Out:=match m with
 | .ok (.next ρ)=>k ρ
 |m=>m
section
variable {c:Bool}{P0:DR}{P:Addr->Prop}{a b:Expr}{f:Ac->M D}{gt:Ac->M Bool}{st:Stmt}{rest:List Stmt}
def As:R7 X WX [] (λ ρ=>.ok (.next ρ)):=⟨_,eR,λ P0 P σ H Z ρ E h=>h σ H P Tr.refl E⟩
def A6 (h:DS X WX st g1):R7 X WX [st] g1:=let ⟨t,h1,h2⟩:=h;⟨_,eS h1,h2⟩
def A3 (h:DS X WX st g1)(hr:R7 X WX rest g2):R7 X WX (st::rest) (λ ρ=>TZ (g1 ρ) g2):=by
 obtain⟨t,h1,h2⟩:=h;obtain⟨u,r1,r2⟩:=hr;refine⟨_,Ye h1 r1,λ P0 P σ H Z ρ E h=>?_⟩;dsimp only at h;refine h2 P0 P σ H {Z with nx:=u Z} ρ E ?_;cases q:g1 ρ with
 |bad|ex x=>rw[q] at h;exact h
 |ok o =>
  rw[q] at h;cases o with
  |ret d|brk d|cont d|CF d|ES d ρ2=>exact h
  |next ρ'=>exact λ σ' H' P' t E'=>r2 P0 P' σ' H' Z ρ' E' (gS.tr h t)
def Q3 (ha:DE X WX false e f):DS X WX (.Return (some e) pos) (λ ρ=>(f ρ).bind λ d=>.ok (.ret d)):=by
 obtain⟨ta,a1,a2⟩:=ha;refine⟨_,Tt a1,λ P0 P σ H Z ρ E h=>?_⟩;dsimp only at h;refine a2 P0 P σ H _ ρ E ?_;cases q:f ρ with
 |bad=>rw[q] at h;exact h
 |ex x=>rw[q] at h;exact λ H' s=>h H' P (E.tr s)
 |ok d=>rw[q] at h;exact λ v H' s hv=>h v H' P (E.tr s) hv
def B5 {c}(hc:DT X WX c ft)(ha:R7 X WX sa g1)(hb:R7 X WX sb g2):DS X WX (.If c sa sb pos) (λ ρ=>(ft ρ).bind λ k=>if k=true then g1 ρ else g2 ρ):=by
 obtain⟨tc,c1,c2⟩:=hc;obtain⟨ta,a1,a2⟩:=ha;obtain⟨tb,b1,b2⟩:=hb;refine⟨_,rC c1 a1 b1,λ P0 P σ H Z ρ E h=>?_⟩;dsimp only at h;refine c2 P0 P σ H _ ρ E ?_;cases q:ft ρ with
 |bad=>rw[q] at h;exact h
 |ex x=>rw[q] at h;exact λ H' s=>h H' P (E.tr s)
 |ok k =>
  rw[q] at h;intro H1 s1;cases k with
  |true =>
   simp only[M.A8,if_true] at h ⊢;exact a2 P0 P σ H1 Z ρ (E.same s1) (h.tr (E.tr s1))
  |false =>
   simp only[M.A8,zas,if_false] at h ⊢;exact b2 P0 P σ H1 Z ρ (E.same s1) (h.tr (E.tr s1))
def get_set {α:Type}{l:List α}{x y}(h:(l.set i x)[j]?=some y):(i=j/\i<l.length/\x=y)\/(i≠j/\l[j]?=some y):=by
 by_cases e:i=j
 ·subst e;rw[List.getElem?_set_self'] at h;cases q:l[i]? with
  |none=>rw[q] at h;cases h
  |some z =>
   rw[q] at h;exact .inl ⟨rfl,(zak.mp q).1,by simpa using h⟩
 ·rw[zbs e] at h;exact .inr ⟨e,h⟩
def Al.WV {K}(E:Al K P0 P H σ ρ)(hv:BR K (del H P) v d):Al K P0 P H (σ.set i (some v)) (ρ.set i (some (.val d))):=by
 have gs:∀ {j:Nat},i≠j->(σ.set i (some v))[j]?=σ[j]? :=λ h=>zbs h;refine⟨E.sub,E.Cp,λ j e h=>?_,λ j c h io=>?_,λ j k c c' u u' fp ah h1 h2 h3 h4 h5 h6 ae=>?_,by rw[zbr,zbr];exact E.len,λ j c n h hp=>?_⟩
 rotate_left 3
 ·rcases get_set h with ⟨rfl,hl,e1⟩|⟨ae,h⟩
  ·cases e1;cases hp
  ·rw[gs ae];exact E.pin j c n h hp
 ·rcases get_set h with ⟨rfl,hl,e1⟩|⟨ae,h⟩
  ·cases e1;exact⟨v,zb3 (by rw[E.len];exact hl),hv⟩
  ·obtain⟨w,h1,h2⟩:=E.val j e h;exact⟨w,by rw[gs ae];exact h1,h2⟩
 ·rcases get_set h with ⟨rfl,hl,e1⟩|⟨ae,h⟩
  ·cases e1;cases io
  ·obtain⟨w,fp,h1,h2⟩:=E.ows j c h io;exact⟨w,fp,by rw[gs ae];exact h1,h2⟩
 ·rcases get_set h1 with ⟨rfl,hl,e1⟩|⟨bI,h1⟩
  ·cases e1;exact h5.elim
  ·rcases get_set h2 with ⟨rfl,hl,e1⟩|⟨aF,h2⟩
   ·cases e1;exact h6.elim
   ·rw[gs bI] at h3;rw[gs aF] at h4;exact E.apart j k c c' u u' fp ah h1 h2 h3 h4 h5 h6 ae
def Al.WW {K}(E:Al K P0 P H σ ρ){c}(hs:∀a,P a->P' a)(ht:∀a,P' a->DC H' a)(sm:Ae (del H P) (del H' P'))(keep:∀(j:Nat) c' v' ah,i≠j->ρ[j]?=some (some c')->σ[j]?=some (some v')->Dz K H P c' v' ah->∀a∈ah,H' a=H a/\a∉fp)(new:Dz K H' P' c v fp)(hp:∀a∈fp,P' a/\¬ P0 a)(nd:fp.Nodup)(f8:∀n,OC c=some n->v=.ref (P0.g n):=by intro n z;cases z):Al K P0 P' H' (σ.set i (some v)) (ρ.set i (some c)):=by
 have gs:∀ {j:Nat},i≠j->(σ.set i (some v))[j]?=σ[j]? :=λ h=>zbs h;refine⟨λ a h=>hs a (E.sub a h),ht,λ j e h=>?_,λ j c' h io=>?_,λ j k c1 c2 u u' ay bM h1 h2 h3 h4 h5 h6 ae=>?_,by rw[zbr,zbr];exact E.len,λ j c' n h hp=>?_⟩
 rotate_left 3
 ·rcases get_set h with ⟨rfl,hl,e1⟩|⟨ae,h⟩
  ·cases e1;rw[zb3 (by rw[E.len];exact hl),f8 n hp]
  ·rw[gs ae];exact E.pin j c' n h hp
 ·rcases get_set h with ⟨rfl,hl,e1⟩|⟨ae,h⟩
  ·cases e1;exact new.elim
  ·obtain⟨w,h1,h2⟩:=E.val j e h;exact⟨w,by rw[gs ae];exact h1,h2.mono sm⟩
 ·rcases get_set h with ⟨rfl,hl,e1⟩|⟨ae,h⟩
  ·cases e1;exact⟨v,fp,zb3 (by rw[E.len];exact hl),new,hp,nd⟩
  ·obtain⟨w,fq,h1,h2,h3,h4⟩:=E.ows j c' h io;exact⟨w,fq,by rw[gs ae];exact h1,h2.move sm λ a ha=>(keep j c' w fq ae h h1 h2 a ha).1,λ a ha=>⟨hs a (h3 a ha).1,(h3 a ha).2⟩,h4⟩
 ·have back:∀(l:Nat) (d:Cl) (w:V) (fq:List Addr),i≠l->ρ[l]?=some (some d)->σ[l]?=some (some w)->Dz K H' P' d w fq->∃fr,Dz K H P d w fr/\fr=fq:=λ l d w fq hn hk sk ho=>by
   have io:HY d=true:=by cases d<;>first|rfl|exact ho.elim
   obtain⟨w',bM,s2,o2,_⟩:=E.ows l d hk io;rw[sk] at s2;cases s2;exact⟨bM,o2,(o2.move sm λ a ha=>(keep l d w bM hn hk sk o2 a ha).1).Cs ho⟩
  rcases get_set h1 with ⟨rfl,hl,e1⟩|⟨bI,h1⟩
  ·cases e1;rw[zb3 (by rw[E.len];exact hl)] at h3;cases h3;rcases get_set h2 with ⟨e,_⟩|⟨aF,h2⟩
   ·exact (ae e).elim
   ·rw[gs aF] at h4;obtain⟨fr,o,rfl⟩:=back k c2 u' bM aF h2 h4 h6;intro a ha hb;rw[new.Cs h5] at keep;exact (keep k c2 u' fr aF h2 h4 o a hb).2 ha
  ·rw[gs bI] at h3;obtain⟨fr,o,rfl⟩:=back j c1 u ay bI h1 h3 h5;rcases get_set h2 with ⟨rfl,hl,e1⟩|⟨aF,h2⟩
   ·cases e1;rw[zb3 (by rw[E.len];exact hl)] at h4;cases h4;intro a ha;rw[new.Cs h6] at keep;exact (keep j c1 u fr bI h1 h3 o a ha).2
   ·rw[gs aF] at h4;obtain⟨oq,o2,rfl⟩:=back k c2 u' bM aF h2 h4 h6;exact E.apart j k c1 c2 u u' fr oq h1 h2 h3 h4 o o2 ae
def Al.sQ {K}(E:Al K P0 P H σ ρ){c}(hs:∀a,P0 a->P' a)(ht:∀a,P' a->DC H' a)(sm:Ae (del H P) (del H' P'))(keep:∀(j:Nat) c' v' ah,i≠j->ρ[j]?=some (some c')->σ[j]?=some (some v')->Dz K H P c' v' ah->∀a∈ah,H' a=H a/\a∉fp/\P' a)(new:Dz K H' P' c v fp)(hp:∀a∈fp,P' a/\¬ P0 a)(nd:fp.Nodup)(f8:∀n,OC c=some n->v=.ref (P0.g n):=by intro n z;cases z):Al K P0 P' H' (σ.set i (some v)) (ρ.set i (some c)):=by
 have gs:∀ {j:Nat},i≠j->(σ.set i (some v))[j]?=σ[j]? :=λ h=>zbs h;refine⟨hs,ht,λ j e h=>?_,λ j c' h io=>?_,λ j k c1 c2 u u' ay bM h1 h2 h3 h4 h5 h6 ae=>?_,by rw[zbr,zbr];exact E.len,λ j c' n h hp=>?_⟩
 rotate_left 3
 ·rcases get_set h with ⟨rfl,hl,e1⟩|⟨ae,h⟩
  ·cases e1;rw[zb3 (by rw[E.len];exact hl),f8 n hp]
  ·rw[gs ae];exact E.pin j c' n h hp
 ·rcases get_set h with ⟨rfl,hl,e1⟩|⟨ae,h⟩
  ·cases e1;exact new.elim
  ·obtain⟨w,h1,h2⟩:=E.val j e h;exact⟨w,by rw[gs ae];exact h1,h2.mono sm⟩
 ·rcases get_set h with ⟨rfl,hl,e1⟩|⟨ae,h⟩
  ·cases e1;exact⟨v,fp,zb3 (by rw[E.len];exact hl),new,hp,nd⟩
  ·obtain⟨w,fq,h1,h2,h3,h4⟩:=E.ows j c' h io;exact⟨w,fq,by rw[gs ae];exact h1,h2.move sm λ a ha=>(keep j c' w fq ae h h1 h2 a ha).1,λ a ha=>⟨(keep j c' w fq ae h h1 h2 a ha).2.2,(h3 a ha).2⟩,h4⟩
 ·have back:∀(l:Nat) (d:Cl) (w:V) (fq:List Addr),i≠l->ρ[l]?=some (some d)->σ[l]?=some (some w)->Dz K H' P' d w fq->∃fr,Dz K H P d w fr/\fr=fq:=λ l d w fq hn hk sk ho=>by
   have io:HY d=true:=by cases d<;>first|rfl|exact ho.elim
   obtain⟨w',bM,s2,o2,_⟩:=E.ows l d hk io;rw[sk] at s2;cases s2;exact⟨bM,o2,(o2.move sm λ a ha=>(keep l d w bM hn hk sk o2 a ha).1).Cs ho⟩
  rcases get_set h1 with ⟨rfl,hl,e1⟩|⟨bI,h1⟩
  ·cases e1;rw[zb3 (by rw[E.len];exact hl)] at h3;cases h3;rcases get_set h2 with ⟨e,_⟩|⟨aF,h2⟩
   ·exact (ae e).elim
   ·rw[gs aF] at h4;obtain⟨fr,o,rfl⟩:=back k c2 u' bM aF h2 h4 h6;intro a ha hb;rw[new.Cs h5] at keep;exact (keep k c2 u' fr aF h2 h4 o a hb).2.1 ha
  ·rw[gs bI] at h3;obtain⟨fr,o,rfl⟩:=back j c1 u ay bI h1 h3 h5;rcases get_set h2 with ⟨rfl,hl,e1⟩|⟨aF,h2⟩
   ·cases e1;rw[zb3 (by rw[E.len];exact hl)] at h4;cases h4;intro a ha;rw[new.Cs h6] at keep;exact (keep j c1 u fr bI h1 h3 o a ha).2.1
   ·rw[gs aF] at h4;obtain⟨oq,o2,rfl⟩:=back k c2 u' bM aF h2 h4 h6;exact E.apart j k c1 c2 u u' fr oq h1 h2 h3 h4 o o2 ae
def Kl {α:Type}:∀ {l:List α}{i:Nat}{x:α},l[i]?=some x->l.set i x=l
 |[],_,_,h=>by cases h
 |y::r,0,x,h=>by cases h;rfl
 |y::r,i+1,x,h=>by rw[zac,Kl (by simpa using h)]
def Al.mut {K}(E:Al K P0 P H σ ρ)(ho:ρ[i]?=some (some (.own ds)))(hs:σ[i]?=some (some (.ref p)))(pP:P p)(l7:¬ P0 p)(hx:Ag K (del H P) xs jl):
 Al K P0 P (upd H p (.lst xs)) σ (ρ.set i (some (.own jl)))/\Tr P0 P H P (upd H p (.lst xs)):=by
 have sd:del (upd H p (.lst xs)) P=del H P:=by
  funext b;by_cases hb:P b
  ·rw[De hb,De hb]
  ·rw[Au hb,Au hb,Ai (λ z=>hb (by rw[z];exact pP))]
 have sm:Ae (del H P) (del (upd H p (.lst xs)) P):=by rw[sd];exact Ae.refl _
 obtain⟨v,fp,s1,o1,_⟩:=E.ows i _ ho rfl;rw[hs] at s1;cases s1;have key:=E.WW (P':=P) (H':=upd H p (.lst xs)) (i:=i) (v:=.ref p) (c:=.own jl) (fp:=[p]) (λ a h=>h) (λ a h=>?_) sm (λ j c' v' ah ae h1 h2 h3 a ha=>?_) ⟨p,xs,rfl,rfl,Aq,by rw[sd];exact hx⟩ (λ a ha=>by rw[za7.mp ha];exact⟨pP,l7⟩) (by simp)
 ·rw[Kl hs] at key;exact⟨key,sm,λ a h=>by rw[Ai (λ z=>l7 (by rw[<-z];exact h))]⟩
 ·by_cases ha:a=p
  ·subst ha;exact DC.lst Aq
  ·unfold DC;rw[Ai ha];exact E.Cp a h
 ·obtain⟨p',du,e,rfl,_⟩:=o1;cases e;have hn:a≠p:=λ z=>E.apart j i c' _ v' _ ah [p] h1 ho h2 hs h3 ⟨p,du,rfl,rfl,by assumption⟩ (zbn ae) a ha (by rw[z];exact za7.mpr rfl);exact⟨Ai hn,λ z=>hn (za7.mp z)⟩
def Al.grow {K}(E:Al K P0 P H σ ρ)(ho:ρ[i]?=some (some (.own ds)))(hs:σ[i]?=some (some (.ref p)))(hp:H p=some (.lst xs))(pP:P p)(l7:¬ P0 p)(hx:Ag K (del H P) xs ds)(hv:BR K (del H P) v d):
 Al K P0 P (upd H p (.lst (xs++[v]))) σ (ρ.set i (some (.own (ds++[d]))))/\Tr P0 P H P (upd H p (.lst (xs++[v]))):=E.mut ho hs pP l7 (hx.snoc hv)
def AG (i:Nat)(hN:X.N.Nodup)(hi:X.N[i]?=some x)(hx:Loc X.env.scope x)(ha:DE X WX true e f)(hs: ~~~(swapsWith e (some (.Name x pos')) pos.line X.env=pure false))(hf:X.fn x=true\/X.env.scope.names.lookup x=some .local:=by first | exact .inl rfl | exact .inr rfl | assumption):
 DS X WX (.Assign [.Name x pos'] e pos) (λ ρ=>(f ρ).bind λ d=>.ok (.next (ρ.set i (some (.val d))))):=by
 obtain⟨ta,a1,a2⟩:=ha;refine⟨_,Tu hN hi hx a1 hs hf,λ P0 P σ H Z ρ E h=>?_⟩;dsimp only at h;refine a2 P0 P σ H _ ρ E ?_;cases q:f ρ with
 |bad=>rw[q] at h;exact h
 |ex x=>rw[q] at h;exact λ H' s=>h H' P (E.tr s)
 |ok d=>rw[q] at h;exact λ v H' s hv=>h _ H' P (E.tr s) ((E.same s).WV hv)
def fZ {K}{α:Type}{m}{k}{R:M α->Prop}(h:gS K WX P0 P H Z (m.bind k))(E:Al K P0 P H σ ρ)(hk:∀a,gS K WX P0 P H Z (k a)->R (.ok a))(hb:False->R .bad:=by exact λ h=>h)(hx:∀x,(∀H',Ae H H'->WX x H')->R (.ex x):=by exact λ _ h=>h):R m:=by
 cases m with
 |ok a=>exact hk a h
 |ex x=>exact hx x λ H' s=>h H' P (E.tr s)
 |bad=>exact hb h
abbrev WY (i:Nat)(ρ:Ac)(m:M D):M Out:=match ρ[i]? with
 |some (some (.own ds))=>m.bind λ d=>if ds.length<1000 then .ok (.next (ρ.set i (some (.own (ds++[d]))))) else .bad
 |_=>.bad
def Dh (i:Nat)(hv:PE X (.Name x p1) (Lm i))(ha:DE X WX true e f)(hs: ~~~(starEach [e] X.env=[(false,eval e X.env)]))(bz: ~~~(swapsWith (.Call (.Attribute (.Name x p1) "append" apos) [e] [] af) none pos.line X.env=pure false))(az: ~~~(attributeBase (.Name x p1) "append" X.env (eval (.Name x p1) X.env)=eval (.Name x p1) X.env))(aL: ~~~(((backTo af (starEach [e] X.env)).all (λ x => !x.1)&&(backToKw af (keywordEach [] X.env)).all (λ x=>x.1.isSome)&&decide (([e]:List Expr).length+([]:List Keyword).length+(if ([]:List Keyword).isEmpty then 0 else 1)<30))=true))(a5: ~~~((apos.endLine==af.line)=true))(am: ~~~((backTo af (starEach [] X.env)).any (·.1)=false)):
 DS X WX (.Expr (.Call (.Attribute (.Name x p1) "append" apos) [e] [] af) pos) (λ ρ=>WY i ρ (f ρ)):=by
 obtain⟨ta,a1,a2⟩:=ha;refine⟨_,GR (Rv zd6 PySem.F.slot_list_append PySem.F.type_list_append Ox hv (Bu a1 CD hs) az aL a5 hs am) bz,λ P0 P σ H Z ρ E h=>?_⟩;dsimp only at h;unfold WY at h;split at h
 ·rename_i ds e1;obtain⟨p,xs,h1,h2,h3,h4,h5⟩:=E.own i ds e1;refine⟨_,h1,.inl ⟨rfl,xs,.of h2⟩,?_⟩;refine a2 P0 P σ H _ ρ E ?_;refine fZ h E λ d h=>?_;by_cases hl:ds.length<1000
  ·rw[if_pos hl] at h;intro v H1 s1 hv;have E1:=E.same s1;have f7:H1 p=some (.lst xs):=s1 _ _ h2;refine⟨p,xs,v,rfl,rfl,f7,AA (by rw[h5.length];omega),?_⟩;obtain⟨E2,t2⟩:=E1.grow e1 h1 f7 h3 h4 (h5.mono s1.del) hv;exact h _ _ _ ((E.tr s1).trans t2) E2
  ·rw[if_neg hl] at h;exact h.elim
 ·exact h.elim
end
abbrev gG (K:za0)(P0:DR)(P:Addr->Prop)(H:Hp)(Q:St->Hp->Prop):M Ac->Prop
 | .ok ρ=>∀σ',Al K P0 P H σ' ρ->Q σ' H
 |_=>False
abbrev DG (X:Cx)(tg:Expr)(gt:D->Ac->M Ac):Prop:=
 ∃g:TG,PG X tg g/\∀P0 P σ H Q ρ v d,Al X.K P0 P H σ ρ->BR X.K (del H P) v d->gG X.K P0 P H Q (gt d ρ)->g v σ H Q
abbrev uM (X:Cx)(wk:List Expr)(gt:List D->Ac->M Ac):Prop:=
 ∃g:Y3,qH X wk g/\∀P0 P σ H Q ρ v d,Al X.K P0 P H σ ρ->Ag X.K (del H P) v d->gG X.K P0 P H Q (gt d ρ)->g v σ H Q
structure gB (K:za0)(J:It)(P:Addr->Prop)(H:Hp)(ds:List D):Prop where
 go:∀(i:Nat) P' H',Ae (del H P) (del H' P')->i<ds.length->J.go i H'
 stop:∀(i:Nat) P' H',Ae (del H P) (del H' P')->ds.length<=i->J.stop i H'
 kO:∀(i:Nat) P' H' v f9 d,Ae (del H P) (del H' P')->(∀a,P' a->DC H' a)->ds[i]?=some d->J.kO i H' v f9->Ae H' f9/\BR K (del f9 P') v d
abbrev DI (X:Cx)(WX:Str->Hp->Prop)(tg iter:Expr)(f:Ac->M (List D)):Prop:=
 ∃wi,PI X tg iter wi/\∀P0 P σ H R ρ,Al X.K P0 P H σ ρ->(match f ρ with | .ok ds=>∀J H',Ae H H'->gB X.K J P H' ds->R J H' | .ex x=>∀H',Ae H H'->WX x H' | .bad=>False)->wi σ H R
abbrev forM (gt:D->Ac->M Ac)(body:Ac->M Out):List D->Ac->M Out
 |[],ρ=>.ok (.next ρ)
 |d::r,ρ=>match gt d ρ with
  | .ok ρ1=>(match body ρ1 with
   | .ok (.next ρ2)| .ok (.cont ρ2)=>forM gt body r ρ2
   | .ok (.brk ρ2)=>.ok (.next ρ2)
   |m=>m)
  |_=>.bad
section
variable {c:Bool}{P0:DR}{P:Addr->Prop}{a b:Expr}{f:Ac->M D}{gt:D->Ac->M Ac}{c8:List D->Ac->M Ac}{gb:Ac->M Out}
def B4 (i:Nat)(hN:X.N.Nodup)(hi:X.N[i]?=some x)(hx:Loc X.env.scope x)(hf:X.fn x=true\/X.env.scope.names.lookup x=some .local:=by first | exact .inl rfl | exact .inr rfl | assumption):DG X (.Name x pos) (λ d ρ=>.ok (ρ.set i (some (.val d)))):=
 ⟨_,PD hN hi hx hf,λ P0 P σ H Q ρ v d E hv h=>h _ (E.WV hv)⟩
def Vn:uM X [] (λ ds ρ=>match ds with | []=>.ok ρ | _=>.bad):=⟨_,V4,λ P0 P σ H Q ρ v d E hv h=>by
 cases hv with
 |nil=>exact⟨rfl,h σ E⟩
 |cons _ _=>exact h.elim⟩
def IV (h1:DG X e gt)(h2:uM X es c8)(hs: ~~~((assignEach (e::es) X.env).map (·.2)=assign e X.env::(assignEach es X.env).map (·.2))):
 uM X (e::es) (λ ds ρ=>match ds with|d::r=>(gt d ρ).bind (c8 r)|[]=>.bad):=by
 obtain⟨t,a1,a2⟩:=h1;obtain⟨u,b1,b2⟩:=h2;refine⟨_,Rk a1 b1 hs,λ P0 P σ H Q ρ v d E hv h=>?_⟩;cases hv with
 |nil=>exact h.elim
 | @cons x d xs ds hx cn =>
  refine⟨x,xs,rfl,a2 P0 P σ H _ ρ x d E hx ?_⟩;dsimp only at h;cases q:gt d ρ with
  |bad|ex y=>rw[q] at h;exact h
  |ok ρ1=>rw[q] at h;exact λ σ' E'=>b2 P0 P σ' H Q ρ1 xs ds E' cn h
def Z3 (hc:X.calm=true)(h:uM X es c8)(hn: ~~~((assignEach es X.env).length=n))(aE: ~~~((assignEach es X.env).findIdx? (·.1)=none)):
 DG X (.Tuple es k pos) (λ d ρ=>match d with | .tup ds=>if ds.length=n then c8 ds ρ else .bad|_=>.bad):=by
 obtain⟨t,a1,a2⟩:=h;refine⟨_,Yh hc a1 hn aE,λ P0 P σ H Q ρ v d E hv h=>?_⟩;cases hv with
 | @tup a xs ds hs hl =>
  dsimp only at h;by_cases hd:ds.length=n
  ·rw[if_pos hd] at h;exact⟨a,xs,rfl,EQ.of (Am hs).2,by rw[hl.length];exact hd,a2 P0 P σ H Q ρ xs ds E hl h⟩
  ·rw[if_neg hd] at h;exact h.elim
 |_=>exact h.elim
def AW (ha:DE X WX true e f):DI X WX tg e (λ ρ=>(f ρ).bind λ d=>match d with | .lst ds=>.ok ds | _=>.bad):=by
 obtain⟨ta,a1,a2⟩:=ha;refine⟨_,eT a1,λ P0 P σ H R ρ E h=>?_⟩;dsimp only at h;refine a2 P0 P σ H _ ρ E ?_;cases q:f ρ with
 |bad|ex x=>rw[q] at h;exact h
 |ok d =>
  rw[q] at h;cases d with
  |lst ds =>
   intro v H1 s1 hv;cases hv with
   | @lst a xs _ hs hl =>
    refine⟨a,rfl,⟨xs,hs.B3⟩,h _ H1 s1 ⟨λ i P' H' s hi=>?_,λ i P' H' s hi=>?_,λ i P' H' v f9 d s ht hd y=>?_⟩⟩
    ·obtain⟨x,hx,_⟩:=hl.get (zaa hi);exact⟨xs,x,(s.seq hs).B3,hx⟩
    ·exact⟨xs,(s.seq hs).B3,by rw[hl.length];exact hi⟩
    ·obtain⟨rfl,y⟩:=y;obtain⟨x,hx,aS⟩:=hl.get hd;have e:=y xs (s.seq hs).B3;rw[hx] at e;cases e;exact⟨Ae.refl _,aS.mono s⟩
  |_=>exact h.elim
abbrev BD (lo:Int):Nat->List D
 |0=>[]
 |n+1=>.int lo::BD (lo+1) n
def Bc (lo:Int):∀n:Nat,(BD lo n).length=n:=by
 intro n;induction n generalizing lo with
 |zero=>rfl
 |succ n ih=>rw[BD,za9,ih]
def BO {lo}{i:Nat}(h:(BD lo n)[i]?=some d):d=.int (lo+i)/\i<n:=by
 have hi:i<n:=by
  have:=(zak.mp h).1;rw[Bc] at this;exact this
 refine⟨?_,hi⟩;induction n generalizing lo i with
 |zero=>omega
 |succ n ih =>
  cases i with
  |zero=>rw[BD] at h;simp at h;rw[<-h];simp
  |succ i =>
   rw[BD,zb7] at h;rw[ih h (by omega)];congr 1;omega
def U0 {K}(lo:Int)(n:Nat):gB K (uG lo n) P H (BD lo n):=
 ⟨λ i P' H' _ hi=>by rw[Bc] at hi;exact hi,λ i P' H' _ hi=>by rw[Bc] at hi;exact hi,λ i P' H' v f9 d _ _ hd y=>by
  obtain⟨rfl,rfl⟩:=y;obtain⟨rfl,_⟩:=BO hd;exact⟨Ae.refl _,.int _⟩⟩
abbrev Q4:D->M (List D)
 | .int j=>@ite _ (-(2^62)<=j/\j<2^62) (zd4 _) (.ok (BD 0 j.toNat)) .bad
 |_=>.bad
def RK (h1 : -(2^62)<=j)(h2:j<2^62):Q4 (.int j)=.ok (BD 0 j.toNat):=if_pos ⟨h1,h2⟩
def Eh {n:Nat}(h:n<=1000):Q4 (.int (n:Int))=.ok (BD 0 n):=by
 rw[RK (by omega) (by omega),zb4]
def BE (hg:Gl X "range")(hm:X.mg "range" = none)(ha:DE X WX c a f)(hs: ~~~(starEach [a] X.env=[(false,eval a X.env)])):
 DI X WX tg (.Call (.Name "range" p) [a] [] pos) (λ ρ=>(f ρ).bind Q4):=by
 obtain⟨ta,a1,a2⟩:=ha;refine⟨_,WA hg hm (Bu a1 CD hs) hs,λ P0 P σ H R ρ E h=>?_⟩;dsimp only at h;refine a2 P0 P σ H _ ρ E ?_;cases q:f ρ with
 |bad|ex x=>rw[q] at h;exact h
 |ok d =>
  rw[q] at h;cases d with
  |int j =>
   simp only[M.A8] at h;by_cases hj : -(2^62)<=j/\j<2^62
   ·rw[RK hj.1 hj.2] at h;exact λ v H1 s1 hv=>⟨j,by rw[hv.int_inv],hj.1,hj.2,h _ H1 s1 (U0 0 _)⟩
   ·have e:Q4 (.int j)=.bad:=if_neg hj;rw[e] at h;exact h.elim
  |_=>exact h.elim
abbrev HB (k:Nat):List D->List D
 |[]=>[]
 |d::r=>.tup [.int k,d]::HB (k+1) r
def E8 (k:Nat)(ds:List D):(HB k ds).length=ds.length:=by
 induction ds generalizing k with
 |nil=>rfl
 |cons d r ih=>rw[HB,za9,za9,ih]
def GW {e:D}(h:(HB k ds)[i]?=some e):∃d,ds[i]?=some d/\e=.tup [.int ((k+i:Nat):Int),d]:=by
 induction ds generalizing k i with
 |nil=>rw[HB] at h;simp at h
 |cons d r ih =>
  cases i with
  |zero=>rw[HB] at h;simp at h;exact⟨d,rfl,by rw[<-h];rfl⟩
  |succ i =>
   rw[HB,zb7] at h;obtain⟨d',h1,h2⟩:=ih h;refine⟨d',by simpa using h1,?_⟩;rw[h2];congr 3;omega
def Q5 {x1}(hg:Gl X "enumerate")(hm:X.mg "enumerate" = none)(ha:DE X WX true a f)(hb:bootBuiltins "enumerate" = some (.type "enumerate"):=by decide +kernel)(hs: ~~~(starEach [a] X.env=[(false,eval a X.env)])):
 DI X WX (.Tuple bW x1 bt) (.Call (.Name "enumerate" p) [a] [] pos) (λ ρ=>(f ρ).bind λ d=>match d with | .lst ds=>.ok (HB 0 ds)|_=>.bad):=by
 obtain⟨ta,a1,a2⟩:=ha;refine⟨_,fU hg hm (Bu a1 CD hs) hb hs,λ P0 P σ H R ρ E h=>?_⟩;dsimp only at h;refine a2 P0 P σ H _ ρ E ?_;cases q:f ρ with
 |bad|ex x=>rw[q] at h;exact h
 |ok d =>
  rw[q] at h;cases d with
  |lst ds =>
   intro v H1 s1 hv;cases hv with
   | @lst a xs _ hs hl =>
    refine⟨a,rfl,⟨xs,hs.B3⟩,h _ H1 s1 ⟨λ i P' H' s hi=>?_,λ i P' H' s hi=>?_,λ i P' H' v f9 d s ht hd y=>?_⟩⟩
    ·rw[E8] at hi;obtain⟨x,hx,_⟩:=hl.get (zaa hi);exact⟨xs,x,(s.seq hs).B3,hx⟩
    ·rw[E8] at hi;exact⟨xs,(s.seq hs).B3,by rw[hl.length];exact hi⟩
    ·obtain⟨p,x,hn,rfl,y,rfl⟩:=y;obtain⟨d',aI,rfl⟩:=GW hd;obtain⟨x',hx,aS⟩:=hl.get aI;have e:=y xs (s.seq hs).B3;rw[hx] at e;cases e;refine⟨AQ hn _,.tup (IS hn ht) (.cons ?_ (.cons ((aS.mono s).mono (AQ hn _).del) .nil))⟩;rw[Nat.zero_add];exact .int _
  |_=>exact h.elim
def IW {α:Type}{l:List α}(h:i<l.length):l.drop i=l[i]::l.drop (i+1):=zcz h
def BF (hp:PassesOwn (model X.prog X.w) X.A X.env X.xe)(hc:X.calm=true)(hi:DI X WX tg iter fi)(hg:DG X tg gt)(hb:R7 X WX body gb)(hs:∀x,foldedSetIterable iter X.env x=pure x:=by intro _;rfl):
 DS X WX (.For tg iter body [] pos) (λ ρ=>(fi ρ).bind λ ds=>forM gt gb ds ρ):=by
 obtain⟨wi,i1,i2⟩:=hi;obtain⟨t,a1,a2⟩:=hg;obtain⟨tb,b1,b2⟩:=hb;refine⟨_,mN hp hc i1 a1 b1 hs,λ P0 P σ H Z ρ E h=>?_⟩;dsimp only at h;refine i2 P0 P σ H _ ρ E ?_;cases q:fi ρ with
 |bad=>rw[q] at h;exact h
 |ex x=>rw[q] at h;exact λ H' s=>h H' P (E.tr s)
 |ok ds =>
  rw[q] at h;simp only[M.A8] at h;intro J H1 s1 ok;refine⟨λ i m σ' H'=>m=ds.length-i/\i<=ds.length/\∃P' ρ',Tr P0 P H1 P' H'/\Al X.K P0 P' H' σ' ρ'/\gS X.K WX P0 P' H' Z (forM gt gb (ds.drop i) ρ'),
   ⟨ds.length,by simp,zb0 _,P,ρ,Tr.refl,E.same s1,by rw[List.drop_zero];exact h.tr (E.tr s1)⟩,?_⟩
  rintro i m σ' H' ⟨rfl,hi,P',ρ',t',E',g'⟩;by_cases ag:i<ds.length
  ·refine .inr ⟨ok.go i P' H' t'.1 ag,λ σ2 H2=>i+1<=ds.length/\∃P2 ρ2,Tr P0 P H1 P2 H2/\Al X.K P0 P2 H2 σ2 ρ2/\gS X.K WX P0 P2 H2 Z (forM gt gb (ds.drop (i+1)) ρ2),λ σ2 H2 hq=>⟨ds.length-(i+1),by omega,rfl,hq.1,hq.2⟩,λ v H2 y=>?_⟩;obtain⟨s2,hv⟩:=ok.kO i P' H' v H2 ds[i] t'.1 E'.Cp (zaa ag) y;rw[IW ag,forM] at g';have E2:=E'.same s2;refine a2 P0 P' σ' H2 _ ρ' v ds[i] E2 hv ?_;cases q1:gt ds[i] ρ' with
   |bad=>rw[q1] at g';exact g'
   |ex x=>rw[q1] at g';exact g'.elim
   |ok ρ1 =>
    rw[q1] at g';dsimp only at g';intro σ3 E3;refine b2 P0 P' σ3 H2 _ ρ1 E3 ?_;have tt:Tr P0 P H1 P' H2:=t'.trans (E'.tr s2);cases q2:gb ρ1 with
    |bad=>rw[q2] at g';exact g'
    |ex x=>rw[q2] at g';exact gS.tr (m:=.ex x) g' (E'.tr s2)
    |ok o =>
     rw[q2] at g';cases o with
     |ret d=>exact gS.tr (m:=.ok (.ret d)) g' (E'.tr s2)
     |CF d=>exact gS.tr (m:=.ok (.CF d)) g' (E'.tr s2)
     |ES d ρ2=>exact gS.tr (m:=.ok (.ES d ρ2)) g' (E'.tr s2)
     |next ρ2|cont ρ2=>exact λ σ4 H4 P4 t4 E4=>⟨ag,P4,ρ2,tt.trans t4,E4,gS.tr g' ((E'.tr s2).trans t4)⟩
     |brk ρ2=>exact λ σ4 H4 P4 t4 E4=>g' σ4 H4 P4 ((E'.tr s2).trans t4) E4
  ·have e:i=ds.length:=by omega
   subst e;refine .inl ⟨ok.stop _ P' H' t'.1 (zag _),?_⟩;rw[List.drop_length,forM] at g';exact g' σ' H' P' Tr.refl E'
end
abbrev U1 (K:za0)(n:Nat)(F:List D->M D):Sp:=λ vs H Q _=>vs.length=n/\∃P ds,(∀a,P a->DC H a)/\Ag K (del H P) vs ds/\gV K (λ _ _=>False) P H Q (F ds)
abbrev AB (N:List Str)(ds:List D):Ac:=ds.map (λ d=>some (.val d))++zai (N.length-ds.length) none
abbrev wR:Cl->M D
 | .val d=>.ok d
 | .own ds=>.ok (.lst ds)
 | .ow (.rows C8)=>.ok (.lst (C8.map D.lst))
 | .ow (.LF _ _)=>.bad
 | .ow (.tree _ t)=>.ok (er t)
abbrev fin (m:M Out):M D:=match m with
 | .ok (.ret d)=>.ok d
 | .ok (.CF c)=>wR c
 | .ok (.next _)=>.ok .AE
 |_=>.bad
def Km {K}(ht:∀a,P a->DC H a)(h:Ag K (del H P) vs ds):Al K ⟨P,λ _=>0⟩ P H (start N vs) (AB N ds):=by
 have hl:=h.length;have key:∀(i:Nat) (c:Cl),(AB N ds)[i]?=some (some c)->∃d,ds[i]?=some d/\c=.val d:=λ i c e=>by
  unfold AB at e;by_cases hi:i<ds.length
  ·rw[zc0 (by simpa using hi),zan] at e;cases q:ds[i]? with
   |none=>rw[q] at e;cases e
   |some d=>rw[q] at e;cases e;exact⟨d,rfl,rfl⟩
  ·rw[zcu (by simpa using hi),zcl] at e;split at e<;>cases e
 refine⟨λ _ h=>h,ht,λ i d e=>?_,λ i es e io=>?_,λ i j c c' v v' fp ah e _ _ _ ho _ _=>?_,?_,λ i c n e hp=>?_⟩
 rotate_left 4
 ·obtain⟨d',q,z⟩:=key i _ e;cases z;cases hp
 ·obtain⟨d',q,z⟩:=key i _ e;cases z;obtain⟨v,hv,hd⟩:=h.get q;refine⟨v,?_,hd⟩;unfold start;rw[zc0 (by rw[za2];exact (zak.mp hv).1),zan,hv];rfl
 ·obtain⟨d',q,z⟩:=key i _ e;cases z;cases io
 ·obtain⟨d',q,z⟩:=key i _ e;cases z;exact ho.elim
 ·unfold start AB;simp[hl]
def CB (t:Tr P P H P' H'):Ae H H':=λ b o e=>by
 by_cases hb:P b
 ·rw[t.2 b hb];exact e
 ·exact (Am (t.1 b o (by rw[Au hb];exact e))).2
def BA.nZ {K:za0}{H:Hp}{P P0:Addr->Prop}(hs:∀a,P0 a->P a):∀ {ps:List Addr}{C8:List (List D)},(∀a∈ps,¬ P0 a)->BA K H P ps C8->Ag K (del H P0) (ps.map V.ref) (C8.map D.lst)
 |_,_,_,.nil=>.nil
 |_,_,k,.cons h r t=>.cons (.lst (.of (show del H P0 _=_ by rw[Au (k _ za3)];exact h)) (r.mono (CT hs))) (BA.nZ hs (λ a ha=>k a (za4 _ ha)) t)
def gC {K}(h:gV K WX P H Q (wR c))(t':Tr P P H P2 H')(hs:∀a,P a->P2 a)(ht:∀a,P2 a->DC H' a)(ho:Dz K H' P2 c v fp)(hp:∀a∈fp,P2 a/\¬ P a):Q v H':=by
 cases c with
 |val d=>exact ho.elim
 |own ds =>
  obtain⟨p,xs,rfl,rfl,h1,h2⟩:=ho;exact h _ H' (CB t') (.lst (.of (show del H' P p=_ by rw[Au (hp p za3).2];exact h1)) (h2.mono (CT hs)))
 |ow o =>
  cases o with
  |rows C8 =>
   obtain⟨p,ps,rfl,rfl,h1,h2⟩:=ho;exact h _ H' (CB t') (.lst (.of (show del H' P p=_ by rw[Au (hp p za3).2];exact h1)) (h2.nZ hs λ a ha=>(hp a (za4 _ ha)).2))
  |LF p ds=>exact h.elim
  |tree p t=>exact h _ H' (CB t') (C9.has hs (λ a ha=>(hp a ha).2) ho)
section
variable {P:Program}{K:za0}
def sR {st}(F:Y4 K x qual st f fd)(S:Ad N ps (A4 st))(g:Ac->M Out)(hb:∀(B2:Value) (A:Around) (outer:List Env) (s:Shared) (H:Hp) (E:XK),Bp k (A.deeper (envOfC qual (A4 st) s.heap.objs.size f B2))->R7 (Rl fK P w K mg base N qual (A4 st) f B2 A outer s H E).qZ (λ _ _=>False) (Aw st) g):
 D5 P w K mg base fK (k+1) f fd ps (U1 K ps.length λ ds=>fin (g (AB N ds))):=by
 refine F.ok S (λ vs H Q E h=>h.1) λ B2 A outer s H vs Q E hr h=>?_;obtain⟨hl,P',ds,ht,hv,hq⟩:=h;obtain⟨t,h1,h2⟩:=hb B2 A outer s H E hr;refine⟨t,h1,h2 ⟨P',λ _=>0⟩ P' _ H _ _ (Km ht hv) ?_⟩;dsimp only at hq;revert hq;cases g (AB N ds) with
 |bad|ex x=>exact λ h=>h.elim
 |ok o =>
  cases o with
  |ret d=>exact λ h v H' P2 t hv=>h v H' (CB t) hv
  |next ρ=>exact λ h σ' H' P2 t E=>h .AE H' (CB t) .AE
  |brk ρ|cont ρ=>exact λ h=>h.elim
  |CF c=>exact λ h v fp H' P2 t hs ht ho hp nd=>gC h t hs ht ho hp
  |ES d ρ=>exact λ h=>h.elim
end
section
variable {c:Bool}{P0:DR}{P:Addr->Prop}{a b:Expr}{f:Ac->M D}{gt:D->Ac->M Ac}{es:List Expr}{fs:Ac->M (List D)}
abbrev BB (μ:List (Option Nat))(ρ:Ac):Ac:=μ.map λ o=>o.bind λ i=>match ρ[i]? with | some (some (.val d))=>some (.val d) | _=>none
def GX {j:Nat}(h:(BB μ ρ)[j]?=some (some cl)):∃i d,μ[j]?=some (some i)/\ρ[i]?=some (some (.val d))/\cl=.val d:=by
 unfold BB at h;rw[zan] at h;cases q:μ[j]? with
 |none=>rw[q] at h;cases h
 |some o =>
  rw[q] at h;cases o with
  |none=>cases h
  |some i =>
   simp only[zcp,Option.bind_some,Option.some.injEq] at h;split at h
   ·rename_i d e;cases h;exact⟨i,d,rfl,e,rfl⟩
   ·cases h
def Al.block {K}(E:Al K P0 P H σ ρ)(μ:List (Option Nat)):Al K P0 P H (ER μ σ) (BB μ ρ):=by
 refine⟨E.sub,E.Cp,λ j d h=>?_,λ j ds h io=>?_,λ j k c c' v v' fp ah h _ _ _ ho _ _=>?_,by unfold ER BB;simp,λ j c n h hp=>by obtain⟨i,d',h1,h2,h3⟩:=GX h;subst h3;cases hp⟩
 ·obtain⟨i,d',h1,h2,h3⟩:=GX h;cases h3;obtain⟨v,h4,h5⟩:=E.val i d h2;refine⟨v,?_,h5⟩;unfold ER;rw[zan,h1];simp[h4]
 ·obtain⟨i,d',h1,h2,h3⟩:=GX h;cases h3;cases io
 ·obtain⟨i,d',h1,h2,h3⟩:=GX h;cases h3;exact ho.elim
abbrev Bi (gt:D->Ac->M Ac)(ft:Ac->M Bool)(fe:Ac->M D):List D->Ac->M (List D)
 |[],_=>.ok []
 |d::r,ρ=>match gt d ρ with
  | .ok ρ1=>(match ft ρ1 with
   | .ok k=>if k=true then (match fe ρ1 with
    | .ok y=>(match Bi gt ft fe r ρ with | .ok ys=>.ok (y::ys)|_=>.bad)
    |_=>.bad) else Bi gt ft fe r ρ
   |_=>.bad)
  |_=>.bad
abbrev sS (X:Cx)(scope:Scope)(NB:List Str)(μ:List (Option Nat))(tg:Expr)(gt:D->Ac->M Ac):Prop:=
 ∃g:TG,(∀s H C ex,PG (blockOf X s H scope C NB ex) tg g)/\Kh μ g/\∀P0 P σ H Q ρ v d,Al X.K P0 P H σ ρ->BR X.K (del H P) v d->gG X.K P0 P H Q (gt d ρ)->g v σ H Q
def Bd (i:Nat)(hN:NB.Nodup)(hi:NB[i]?=some x)(hx:(relabel scope X.env).names.lookup x=some .local)(hm:μ[i]?=some none):sS X scope NB μ (.Name x pos) (λ d ρ=>.ok (ρ.set i (some (.val d)))):=
 ⟨Oj i,λ s H C ex=>PD (X:=blockOf X s H scope C NB ex) hN hi (.inl hx) (.inr hx),fS hm,λ P0 P σ H Q ρ v d E hv h=>h _ (E.WV hv)⟩
abbrev sT (X:Cx)(cs:List Expr)(f:Ac->M Bool):Prop:=
 ∃t,qJ X cs t/\∀P0 P σ H Q ρ,Al X.K P0 P H σ ρ->gT (λ _ _=>False) H Q (f ρ)->t σ H Q
def DV:sT X [] (λ _=>.ok true):=⟨_,fQ,λ P0 P σ H Q ρ E h=>h H (Ae.refl H)⟩
def DY (h:DT X (λ _ _=>False) a ft):sT X [a] ft:=let ⟨t,h1,h2⟩:=h;⟨_,fR h1,h2⟩
abbrev IX (m:M (List D)):M D:=match m with | .ok ys=>.ok (.lst ys) | _=>.bad
def oA (i2:∀P0 P σ H R ρ,Al X.K P0 P H σ ρ->(match fi ρ with | .ok ds=>∀J H',Ae H H'->gB X.K J P H' ds->R J H' | .ex x=>∀H',Ae H H'->WX x H' | .bad=>False)->wi σ H R)(g2:∀P0 P σ H Q ρ v d,Al X.K P0 P H σ ρ->BR X.K (del H P) v d->gG X.K P0 P H Q (gt d ρ)->gg v σ H Q)(t2:∀s H' C ex P0 P σ H Q ρ,Al X.K P0 P H σ ρ->gT (λ _ _=>False) H Q (ft ρ)->tc s H' C ex σ H Q)(e2:∀s H' C ex P0 P σ H Q ρ,Al X.K P0 P H σ ρ->gV X.K (λ _ _=>False) (Lv c P0 P) H Q (fe ρ)->te s H' C ex σ H Q)(E:Al X.K P0 P H σ ρ)(h:gV X.K WX (Lv c P0 P) H Q ((fi ρ).bind λ ds=>if ds.length<=1000 then IX (Bi gt ft fe ds (BB μ ρ)) else .bad)):Vb wi μ gg tc te σ H Q:=by
 refine i2 P0 P σ H _ ρ E ?_;cases q:fi ρ with
 |bad|ex x=>rw[q] at h;exact h
 |ok ds =>
  rw[q] at h;simp only[M.A8] at h;by_cases hd:¬ ds.length<=1000
  ·rw[if_neg hd] at h;exact h.elim
  have hd:ds.length<=1000:=by omega
  rw[if_pos hd] at h;intro J H1 s1 ok s C ex;cases qc:Bi gt ft fe ds (BB μ ρ) with
  |bad|ex x=>rw[qc] at h;exact h.elim
  |ok total =>
   rw[qc] at h;unfold IX at h;dsimp only at h;have E1:=E.same s1;refine⟨λ i m ys H2=>m=ds.length-i/\i<=ds.length/\ys.length<=i/\Ae H1 H2/\∃es rest,Ag X.K (del H2 (Lv c P0 P)) ys es/\Bi gt ft fe (ds.drop i) (BB μ ρ)=.ok rest/\es++rest=total,
    ⟨ds.length,by simp,zb0 _,zag _,Ae.refl _,[],total,.nil,by rw[List.drop_zero];exact qc,rfl⟩,?_⟩
   rintro i m ys H2 ⟨rfl,hi,hy,s2,es,rest,ga,ak,aU⟩;by_cases ag:i<ds.length
   ·refine .inr ⟨ok.go i P H2 s2.del ag,Nat.lt_of_le_of_lt hy (AA (by omega)),λ bo H'=>i+1<=ds.length/\bo.length<=i+1/\Ae H1 H'/\∃es rest,Ag X.K (del H' (Lv c P0 P)) bo es/\Bi gt ft fe (ds.drop (i+1)) (BB μ ρ)=.ok rest/\es++rest=total,λ bo H' hq=>⟨ds.length-(i+1),by omega,rfl,hq.1,hq.2.1,hq.2.2.1,hq.2.2.2⟩,λ v H3 y=>?_⟩;have E2:=E1.same s2;obtain⟨s3,hv⟩:=ok.kO i P H2 v H3 ds[i] s2.del E2.Cp (zaa ag) y;rw[IW ag,Bi] at ak;have E3:=(E2.same s3).block μ;refine g2 P0 P _ H3 _ (BB μ ρ) v ds[i] E3 hv ?_;cases q1:gt ds[i] (BB μ ρ) with
    |bad|ex x=>rw[q1] at ak;cases ak
    |ok ρ1 =>
     rw[q1] at ak;dsimp only at ak;intro σ4 E4;refine t2 s H1 C ex P0 P σ4 H3 _ ρ1 E4 ?_;cases q2:ft ρ1 with
     |bad|ex x=>rw[q2] at ak;cases ak
     |ok k =>
      rw[q2] at ak;dsimp only at ak;intro H5 s5;cases k with
      |false =>
       simp only[zas,if_false] at ak ⊢;exact⟨ag,by omega,(s2.trans s3).trans s5,es,rest,(ga.mono s3.del).mono s5.del,ak,aU⟩
      |true =>
       simp only[if_true] at ak ⊢;refine e2 s H1 C ex P0 P σ4 H5 _ ρ1 (E4.same s5) ?_;cases q3:fe ρ1 with
       |bad|ex x=>rw[q3] at ak;cases ak
       |ok y' =>
        rw[q3] at ak;dsimp only at ak;cases q4:Bi gt ft fe (ds.drop (i+1)) (BB μ ρ) with
        |bad|ex x=>rw[q4] at ak;cases ak
        |ok oy =>
         rw[q4] at ak;cases ak;intro w H6 s6 hw;refine⟨ag,by rw[zav,zcg];omega,((s2.trans s3).trans s5).trans s6,es++[y'],oy,(((ga.mono s3.del).mono s5.del).mono s6.del).snoc hw,rfl,?_⟩;rw[zcr];exact aU
   ·have e:i=ds.length:=by omega
    subst e;rw[List.drop_length,Bi] at ak;cases ak;rw[zbk] at aU;subst aU;refine .inl ⟨ok.stop _ P H2 s2.del (zag _),λ D0 hn=>h _ _ ((s1.trans s2).trans (AQ hn _)) (.lst (.of (IS hn λ a q=>(E1.same s2).sG c a q)) (ga.mono (AQ hn _).del))⟩
def IY (i:Nat)(μ:List (Option Nat))(hN:X.N.Nodup)(jh:X.N[i]?=some x)(hx:Loc X.env.scope x)(hc:X.calm=true)(hi:DI X WX tg iter fi)(a9:Gf scope X.env.scope=true)(bv:PX X.N NB scope μ=true)(hg:sS X scope NB μ tg gt)(ht:∀s H C ex,sT (blockOf X s H scope C NB ex) ifs ft)(he:∀s H C ex,DE (blockOf X s H scope C NB ex) (λ _ _=>False) true elt fe)(bz: ~~~(swapsWith (.ListComp elt [⟨tg,iter,ifs,0⟩] scope pos) (some (.Name x px)) al.line X.env=pure true))(hs:∀x,foldedSetIterable iter X.env x=pure x:=by intro _;rfl)(hf:X.fn x=true\/X.env.scope.names.lookup x=some .local:=by first|exact .inl rfl|exact .inr rfl|assumption):
 DS X WX (.Assign [.Name x px] (.ListComp elt [⟨tg,iter,ifs,0⟩] scope pos) al) (λ ρ=>((fi ρ).bind λ ds=>if ds.length<=1000 then IX (Bi gt ft fe ds (BB μ ρ)) else .bad).bind λ d=>.ok (.next (ρ.set i (some (.val d))))):=by
 obtain⟨wi,i1,i2⟩:=hi;obtain⟨gg,g1,gk,g2⟩:=hg;refine⟨_,Vc hN jh hx hc i1 a9 bv gk (λ s H C ex=>⟨g1 s H C ex,(za1 (ht s H C ex)).1,(za1 (he s H C ex)).1⟩) bz hs hf,λ P0 P σ H Z ρ E h=>?_⟩;refine oA (c:=true) i2 g2 (λ s H' C ex P0 P σ H Q ρ E h=>(za1 (ht s H' C ex)).2 P0 P σ H Q ρ E h) (λ s H' C ex P0 P σ H Q ρ E h=>(za1 (he s H' C ex)).2 P0 P σ H Q ρ E h) E ?_;dsimp only at h;revert h;cases ((fi ρ).bind λ ds=>if ds.length<=1000 then IX (Bi gt ft fe ds (BB μ ρ)) else .bad) with
 |bad=>exact λ h=>h
 |ex y=>exact λ h H' s=>h H' P (E.tr s)
 |ok d=>exact λ h v H' s hv=>h _ H' P (E.tr s) ((E.same s).WV hv)
end
section
variable {c:Bool}{P0:DR}{P:Addr->Prop}{a b k:Expr}{f:Ac->M D}{te tk:TE}{p2:Pos}
abbrev yU (x y:D):M D:=match x,y with | .lst ds,.int i=>if i = -1 then .ok (.lst ds.reverse) else .bad | _,_=>.bad
abbrev CK:List D->Option (List Int)
 |[]=>some []
 | .int i::r=>(CK r).map (i::·)
 |_=>none
abbrev Z4:D->Option (List Int)
 | .tup ds=>CK ds
 |_=>none
abbrev Gj:List D->Option (List (D×List Int))
 |[]=>some []
 |d::r=>(Z4 d).bind λ k=>(Gj r).map ((d,k)::·)
abbrev Vo (l d:D):M D:=match l with
 | .lst ds=>(match Gj ds with|some ks=>.ok (match Bb ks with|none=>d|some b=>b.1)|none=>.bad)
 |_=>.bad
def Kn {K:za0}{H:Hp}:∀ {xs:List V}{ds:List D}{ns:List Int},Ag K H xs ds->CK ds=some ns->xs=ns.map V.int
 |_,_,_,.nil,e=>by simp only[CK] at e;cases e;rfl
 |_,_,_,.cons (d:=d) h t,e=>by
  cases d with
  |int i =>
   simp only[CK] at e;cases q:CK _ with
   |none=>rw[q] at e;cases e
   |some ns =>
    rw[q] at e;cases e;rw[h.int_inv,Kn t q];rfl
  |_=>simp[CK] at e
noncomputable abbrev Alike (K:za0)(H:Hp):List (Addr×List Int)->List (D×List Int)->Prop:=Paired λ p q=>p.2=q.2/\BR K H (.ref p.1) q.1
def I9 {K:za0}{H:Hp}:∀ {xs:List V}{ds:List D}{ks:List (D×List Int)},Ag K H xs ds->Gj ds=some ks->∃bs:List (Addr×List Int),xs=bs.map (λ b=>V.ref b.1)/\(∀b∈bs,EQ K H b.1 (b.2.map V.int))/\Alike K H bs ks
 |_,_,_,.nil,e=>by simp only[Gj] at e;cases e;exact⟨[],rfl,by simp,.nil⟩
 |_,_,_,.cons (d:=d) h t,e=>by
  simp only[Gj] at e;cases q:Z4 d with
  |none=>rw[q] at e;cases e
  |some k =>
   rw[q] at e;simp only[Option.bind_some] at e;cases q2:Gj _ with
   |none=>rw[q2] at e;cases e
   |some ks =>
    rw[q2] at e;cases e;obtain⟨bs,h1,h2,h3⟩:=I9 t q2;cases d with
    |tup es =>
     have h':=h;cases h with
     | @tup a xs _ hs hl =>
      simp only[Z4] at q;have e1:=Kn hl q;subst e1;refine⟨(a,k)::bs,by rw[h1];rfl,λ b hb=>?_,.cons ⟨rfl,h'⟩ h3⟩;rcases zab.mp hb with z|z
      ·subst z;exact EQ.of hs
      ·exact h2 b z
    |_=>simp[Z4] at q
def Mx {K}(h:Alike K H bs ks):(Bb bs=none/\Bb ks=none)\/∃b k,Bb bs=some b/\Bb ks=some k/\b.2=k.2/\BR K H (.ref b.1) k.1:=by
 unfold Bb
 suffices z:∀(o:Option (Addr×List Int)) (o':Option (D×List Int)),((o=none/\o'=none)\/∃b k,o=some b/\o'=some k/\b.2=k.2/\BR K H (.ref b.1) k.1)->
  ((bs.foldl BK o=none/\ks.foldl BK o'=none) \/
   ∃b k,bs.foldl BK o=some b/\ks.foldl BK o'=some k/\b.2=k.2/\BR K H (.ref b.1) k.1) from z none none (.inl ⟨rfl,rfl⟩)
 induction h with
 |nil=>intro o o' h;exact h
 | @cons b k bs ks hh t ih =>
  intro o o' h;rw[zb9,zb9];refine ih _ _ ?_;rcases h with ⟨rfl,rfl⟩|⟨b',k',rfl,rfl,e1,e2⟩
  ·exact .inr ⟨b,k,rfl,rfl,hh⟩
  ·unfold BK;dsimp only;rw[hh.1,e1];by_cases hl:HT.lexLt k.2 k'.2=true
   ·rw[if_pos hl,if_pos hl];exact .inr ⟨b,k,rfl,rfl,hh⟩
   ·rw[if_neg hl,if_neg hl];exact .inr ⟨b',k',rfl,rfl,e1,e2⟩
def Vp (hc:X.calm=true)(hu:X.A.units+1<cLine)(hg:Gl X "min")(hm:X.mg "min" = none)(ha:DE X WX c e f)(hb:DE X WX c e2 g)(aE: ~~~(starEach [e] X.env=[(false,eval e X.env)]))(aB: ~~~((backToKw pos (keywordEach [⟨some "default",e2,kp⟩] X.env)).all (·.1.isSome)=true))(f6: ~~~((backToKw pos (keywordEach [⟨some "default",e2,kp⟩] X.env)).filterMap (·.1)=([("default" : Str)]:List Str)))(oj: ~~~((backToKw pos (keywordEach [⟨some "default",e2,kp⟩] X.env)).any (·.1.isNone)=false))(bH: ~~~(backTo pos (starEach [e] X.env)=(false,eval e X.env)::backTo pos (starEach [] X.env)))(hpl: ~~~((backTo pos (starEach [e] X.env)).any (·.1)=false)):
 DE X WX c (.Call (.Name "min" p) [e] [⟨some "default",e2,kp⟩] pos) (λ ρ=>(f ρ).bind λ x=>(g ρ).bind λ y=>Vo x y):=by
 obtain⟨ta,a1,a2⟩:=ha;obtain⟨tb,b1,b2⟩:=hb;refine⟨_,fV hc hu hg hm a1 b1 aE aB f6 oj bH hpl,λ P0 P σ H Q ρ E h=>RI (r:=λ x d H2 Q=>∃(a:Addr) (bs:List (Addr×List Int)),x=.ref a/\Du X.K H2 a (bs.map λ b=>V.ref b.1)/\(∀b∈bs,EQ X.K H2 b.1 (b.2.map V.int))/\Q (match Bb bs with|none=>d|some b=>.ref b.1) H2) a2 b2 ?_ E h⟩;intro P H x y v w Q ht hx hy h;unfold Vo at h;split at h
 ·rename_i ds;split at h
  ·rename_i ks e1;cases hx with
   | @lst a xs _ hs hl =>
    obtain⟨bs,rfl,h2,h3⟩:=I9 hl e1;refine⟨a,bs,rfl,hs.B3,λ b hb=>(h2 b hb).B3,?_⟩;rcases Mx h3 with ⟨q1,q2⟩|⟨b,k,q1,q2,_,q3⟩
    ·rw[q1];rw[q2] at h;exact h _ H (Ae.refl H) hy
    ·rw[q1];rw[q2] at h;exact h _ H (Ae.refl H) q3
  ·exact h.elim
 ·exact h.elim
end
def AL (hr:Bp k A)(n:Nat)(hn:n<=64):A.units+n<cLine:=by have:=hr.units;omega
structure AK (K:za0)(mg:Str->Option Value)(x:Str)(st:Stmt)(ps:List Str):Prop where
 ex:∃f fd,Y4 K x x st f fd/\mg x=some (.ref f)/\Binds K fd ps []
abbrev U2 (P:Program)(w:World)(base:Heap):TH:=λ _ _ _ _ _ _=>False
noncomputable abbrev eG (P:Program)(w:World)(K:za0)(mg:Str->Option Value)(base:Heap)(N:List Str)(qual:Str)(scope:Scope)(f:Addr)(cd:Value)(A:Around)(outer:List Env)(s:Shared)(H:Hp)(E:XK):Cx:=
 Rl (U2 P w base) P w K mg base N qual scope f cd A outer s H E
structure F6 (X:Cx)(E:XK):Prop where
 call:Gb (U2 X.prog X.w X.base) X E
 own:PassesOwn (model X.prog X.w) X.A X.env X.xe
def A9 {K}{E}:
 F6 (eG P w K mg base N qual scope f cd A outer s H E) E:=⟨λ _ _ _ _ _ _ _ h=>h.elim,PassesOwn.leaving⟩
def AX (h:X.xe=λ _ _=>False):F6 X E0:=⟨λ _ _ _ _ _ _ _ h=>h.elim,by rw[h];exact PassesOwn.never⟩
def F6.toXCall {E}(h:F6 X E):F6 X E:=h
abbrev CQ (K:za0)(E:XK):Str->Hp->Prop:=λ x H=>∃c,zaw K mainGlobals x=some (some (.ref c))/\E (.ref c) none H
section
variable {c:Bool}{a b:Expr}{f:Ac->M D}{p:Pos}
abbrev lA (K:za0):R2:=λ x y H Q=>∃l b xs zs,x=.ref l/\y=.ref b/\Du K H l xs/\Du K H b zs/\xs.length+zs.length<=sizeLine/\∀p,H p=none->Q (.ref p) (upd H p (.lst (xs++zs)))
def gD:G9 X (binaryOp .Add) (lA X.K):=by
 intro pins s σ H x y v u Q I rx ry h;obtain⟨l,b,xs,zs,rfl,rfl,h1,h2,hz,q⟩:=h;cases rx;cases ry;obtain⟨aa,r,⟨⟨c1,d1,t1,wl⟩,n,e1,q1,q2,q3⟩,bp⟩:=I.list h1;obtain⟨aO,r2,⟨⟨c2,d2,t2,i8⟩,n2,e2,q4,q5,q6⟩,jm⟩:=I.list h2;dsimp only at q1 q2 q3 q4 q5 q6;subst q1 q2 q3 q4 q5 q6;have l1:=r.length;have l2:=r2.length;refine concat_meets ⟨_,e1,rfl⟩ ⟨_,e2,rfl⟩ noFill_list_add seq_list_add PySem.F.slot_list_add PySem.F.entry_list_add (PySem.F.args_list_add_2 _ _) (list_addW l b aa.toArray aO.toArray n n2 none none wl i8 (by rw[zae,zae];omega)) ⟨e1,e2,?_⟩;rw[show aa.toArray++aO.toArray=(aa++aO).toArray by simp];exact⟨.ref _,_,I.rV (t':=s.toks) (r.append r2) (by rw[zav];omega),rfl,q _ I.fresh⟩
abbrev xY (x y:D):M D:=match x,y with
 | .int i,.int j=>.ok (.int (i+j))
 | .lst ds,.lst es=>if ds.length+es.length<=1000 then .ok (.lst (ds++es)) else .bad
 |_,_=>.bad
def Ag.xZ {K:za0}{H:Hp}:∀ {xs ys:List V}{ds es:List D},Ag K H xs ds->Ag K H ys es->Ag K H (xs++ys) (ds++es)
 |_,_,_,_,.nil,h=>h
 |_,_,_,_,.cons a t,h=>.cons a (t.xZ h)
abbrev uN (neg:Bool)(x y:D):M D:=match x,y with
 | .int i,.lst ds=>(match CK ds with|some ns=>.ok (.bl (if neg then !ns.contains i else ns.contains i))|none=>.bad)
 |_,_=>.bad
def Z5 (i:Int)(ns:List Int):uI (.int i) (ns.map V.int)=ns.contains i:=by
 unfold uI;induction ns with
 |nil=>rfl
 |cons n r ih =>
  rw[za6,zdn,ih,List.contains_cons];congr 1;show (n==i)=(i==n);rw[zd5,beq_iff_eq,beq_iff_eq];exact eq_comm
def WZ (ns:List Int):(ns.map V.int).all IJ=true:=by
 induction ns with
 |nil=>rfl
 |cons n r ih=>rw[za6,List.all_cons,ih];rfl
def Gk:Vl X.K WX (uJ X.K neg) (uN neg):=by
 intro P H x y v w Q ht hx hy h;unfold uN at h;split at h
 ·rename_i i ds;split at h
  ·rename_i ns hn;cases hx;cases hy with
   |lst h1 h2 =>
    have e:=Kn h2 hn;subst e;refine⟨_,_,rfl,.inl h1.B3,rfl,WZ ns,?_⟩;rw[Z5];exact h _ H (Ae.refl H) (.bl _)
  ·exact h.elim
 ·exact h.elim
end
def U3 {st}:DS X WX st (λ _=>.bad):=⟨λ _ _ _=>False,λ _ _ _ _ _ _ h=>h.elim,λ _ _ _ _ _ _ _ h=>h.elim⟩
abbrev RL (i j:Int):Prop:=(i.natAbs<2^1000/\j.natAbs<2^1000)\/Yq i j
instance (i j:Int):Decidable (RL i j):=by unfold RL;infer_instance
def OG (h:i.natAbs<2^1000):zbb i<=2^20:=by
 unfold zbb;split
 ·exact zb0 _
 ·rename_i z;have h0:i.natAbs≠0:=λ q=>z (by rw[Int.natAbs_eq_zero.mp q];rfl);have:=(Nat.log2_lt h0).mpr h;have h3:(1000:Nat)<=2^20:=by decide
  exact zbl this h3
def RL.ok (h:RL i j):IntMulOk i j:=by
 rcases h with ⟨h1,h2⟩|h
 ·exact IntMulOk.of_bits (OG h1) (OG h2)
 ·exact h.ok
def IZ (p:D->Bool)(f:D->D):∀(ds:List D),(∀d∈ds,∃ρ1,gt d ρ=.ok ρ1/\ft ρ1=.ok (p d)/\(p d=true->fe ρ1=.ok (f d)))->Bi gt ft fe ds ρ=.ok ((ds.filter p).map f)
 |[],_=>rfl
 |d::r,h=>by
  obtain⟨ρ1,h1,h2,h3⟩:=h d za3;have ih:=IZ p f r λ d hd=>h d (za4 _ hd);rw[Bi,h1];dsimp only;rw[h2];dsimp only;by_cases hp:p d=true
  ·rw[if_pos hp,h3 hp];dsimp only;rw[ih,List.filter_cons_of_pos hp];rfl
  ·rw[if_neg hp,ih,List.filter_cons_of_neg hp]
def Fq (n:Nat):BD 0 n=(zb1 n).map λ i:Nat=>D.int (i:Int):=by
 apply List.ext_getElem?;intro i;rw[zan];by_cases h:i<n
 ·have hi:i<(BD 0 n).length:=by rw[Bc];exact h
  have e:=zaa hi;obtain⟨h1,_⟩:=BO e;rw[e,h1,zd9 h,Int.zero_add];rfl
 ·rw[zbj (by rw[Bc];omega),zbj (by simp;omega)];rfl
def E9 (ns:List Int):CK (ns.map D.int)=some ns:=by
 induction ns with
 |nil=>rfl
 |cons n r ih=>rw[za6,CK,ih];rfl
def Z6 (ds:List D)(n:Nat):qK (some (n:Int)) none (.lst ds)=.ok (.lst (ds.drop n)):=by
 unfold qK;dsimp only;rw[HT.Rr,HT.PL];congr 2;by_cases h:n<=ds.length
 ·rw[Nat.min_eq_left h,zdh (by rw[zcv];exact zag _)]
 ·rw[Nat.min_eq_right (by omega),List.drop_of_length_le (zag _),List.drop_of_length_le (by omega),List.take_nil]
abbrev Pl (n:Nat)(d:D):Prop:=Q0 d<=n/\Cv d=true
def Q6:∀ {ds:List D},(∀d∈ds,Q0 d<=n)->Q1 ds<=n
 |[],_=>by rw[Q1];exact zb0 _
 |d::r,h=>by
  rw[Q1];exact Nat.max_le.mpr ⟨h d za3,Q6 λ d hd=>h d (za4 _ hd)⟩
def Q7:∀ {ds:List D},(∀d∈ds,Cv d=true)->Kj ds=true
 |[],_=>by rw[Kj]
 |d::r,h=>by
  rw[Kj,h d za3,Q7 λ d hd=>h d (za4 _ hd)];rfl
def ET (i:Int):Pl n (.int i):=⟨by rw[Q0];exact zb0 _;all_goals simp,by rw[Cv];all_goals simp⟩
def oB:Pl n .AE:=⟨by rw[Q0];exact zb0 _;all_goals simp,by rw[Cv];all_goals simp⟩
def U4 (h:∀d∈ds,Pl n d):Pl (n+1) (.tup ds):=
 ⟨by rw[Q0];exact Nat.succ_le_succ (Q6 λ d hd=>(h d hd).1),by rw[Cv];exact Q7 λ d hd=>(h d hd).2⟩
def Z7 (h:∀d∈ds,Pl n d):Pl (n+1) (.lst ds):=
 ⟨by rw[Q0];exact Nat.succ_le_succ (Q6 λ d hd=>(h d hd).1),by rw[Cv];exact Q7 λ d hd=>(h d hd).2⟩
def LH (ns:List Int):Pl (n+1) (.lst (ns.map D.int)):=Z7 λ d hd=>by
 obtain⟨i,_,rfl⟩:=zau.mp hd;exact ET i
def Pl.le (h:Pl n d)(k:n<=m):Pl m d:=⟨zbl h.1 k,h.2⟩
def oC:∀d∈([]:List D),Pl n d:=λ d h=>by cases h
def GY (h:Pl n d)(t:∀d∈ds,Pl n d):∀e∈d::ds,Pl n e:=λ e he=>by
 rcases zab.mp he with rfl|he
 ·exact h
 ·exact t e he
def Q8 (h:Pl n x)(k:Pl n y):eF n x y=.ok (.bl (Bk x y)):=by
 unfold eF;rw[if_pos ⟨h.1,h.2,k.2⟩]
def U5 (h:Pl n x)(k:Pl n y):YU n x y=.ok (.bl (!Bk x y)):=by
 unfold YU;rw[if_pos ⟨h.1,h.2,k.2⟩]
def Z8 (h:Pl n x):eF n x x=.ok (.bl true):=by rw[Q8 h h,Mu]
def My (h:Pl n x):YU n x x=.ok (.bl false):=by rw[U5 h h,Mu];rfl
def X0 (f:D->D)(ds:List D)(h:∀d∈ds,∃ρ1,gt d ρ=.ok ρ1/\ft ρ1=.ok true/\fe ρ1=.ok (f d)):Bi gt ft fe ds ρ=.ok (ds.map f):=by
 rw[IZ (λ _=>true) f ds λ d hd=>by
  obtain⟨ρ1,h1,h2,h3⟩:=h d hd;exact⟨ρ1,h1,h2,λ _=>h3⟩]
 rw[List.filter_eq_self.mpr λ _ _=>rfl]
def gE (ds:List D)(a b:Nat):qK (some (a:Int)) (some (b:Int)) (.lst ds)=.ok (.lst ((ds.drop a).take (b-a))):=by
 unfold qK;dsimp only;rw[HT.PL,HT.PL];congr 2;by_cases h:a<=ds.length
 ·rw[Nat.min_eq_left h];by_cases h2:b<=ds.length
  ·rw[Nat.min_eq_left h2]
  ·rw[Nat.min_eq_right (by omega),zdh (by rw[zcv];exact zag _),zdh (by rw[zcv];omega)]
 ·rw[Nat.min_eq_right (show ds.length<=a by omega),List.drop_of_length_le (zag _),List.drop_of_length_le (show ds.length<=a by omega),List.take_nil,List.take_nil]
section
variable {c:Bool}{P0:DR}{P:Addr->Prop}{a b:Expr}{f:Ac->M D}{gt:Ac->M Bool}{st:Stmt}{rest:List Stmt}
def RM {K}(h:BR K H v d):∀n:Nat,Ag K H (zai n v) (zai n d)
 |0=>.nil
 |n+1=>by rw[zcd,zcd];exact .cons h (RM h n)
def Mz {K}(h:BR K H v d):∀ {vs:List V}{ds:List D}(n:Nat),Ag K H vs ds->Ag K H (vs.set n v) (ds.set n d)
 |_,_,_,.nil=>.nil
 |_,_,0,.cons _ t=>.cons h t
 |_,_,n+1,.cons a t=>.cons a (Mz h n t)
abbrev yV (i:Nat)(ρ:Ac)(d k:D):M Out:=match k with
 | .int j=>if 0<=j/\j.toNat<=1000 then .ok (.next (ρ.set i (some (.own (zai j.toNat d))))) else .bad
 |_=>.bad
def OH {α:Type}(v:α):∀n:Nat,(zai n [v]).flatten=zai n v
 |0=>rfl
 |n+1=>by rw[zcd,List.flatten_cons,OH v n];rfl
abbrev oE (i:Nat)(ρ:Ac)(ds:List D)(d k:D):M Out:=match k with
 | .int j=>(match Ov ds.length j with|some n=>.ok (.next (ρ.set i (some (.own (ds.set n d)))))|none=>.bad)
 |_=>.bad
abbrev gF (i:Nat)(ρ:Ac)(m:M D)(d:D):M Out:=match ρ[i]? with
 |some (some (.own ds))=>m.bind (oE i ρ ds d)
 |_=>.bad
def MA (i:Nat)(hv:PE X (.Name x p1) (Lm i))(ha:DE X WX true a f)(hk:DE X WX true b g)(hs: ~~~(swapsWithSole [.Subscript (.Name x p1) b al] a pos.line X.env=pure false))(hw: ~~~(swappedStores [.Subscript (.Name x p1) b al] a X.env=pure none))(h1: ~~~((assignEach [.Subscript (.Name x p1) b al] X.env).map (·.2)=[assign (.Subscript (.Name x p1) b al) X.env]))(gc:∀v,assign (.Subscript (.Name x p1) b al) X.env v=(do
  let ov <-holding [v] (eval (.Name x p1) X.env);let iv <-holding [v,ov] (eval b X.env)
  standAt al
  holding [v,ov,iv] (setItem ov iv v)
  release [v,ov,iv] []):=by intro _;rfl):
 DS X WX (.Assign [.Subscript (.Name x p1) b al] a pos) (λ ρ=>(f ρ).bind (gF i ρ (g ρ))):=by
 obtain⟨ta,a1,a2⟩:=ha;obtain⟨tb,b1,b2⟩:=hk;refine⟨_,Yj a1 (Yi hv b1 set_list gc) hs hw h1,λ P0 P σ H Z ρ E h=>?_⟩;dsimp only at h;refine a2 P0 P σ H _ ρ E ?_;refine fZ h E λ d h=>?_;intro v H1 s1 hv;have E1:=E.same s1;unfold gF at h;split at h
 ·rename_i ds e1;obtain⟨p,xs,h1,h2,h3,h4,h5⟩:=E1.own i ds e1;refine⟨_,h1,b2 P0 P σ H1 _ ρ E1 ?_⟩;cases q2:g ρ with
  |bad=>rw[q2] at h;exact h.elim
  |ex x=>rw[q2] at h;exact λ H' s2=>h H' P ((E.tr s1).trans (E1.tr s2))
  |ok k =>
   rw[q2] at h;simp only[M.A8] at h;unfold oE at h;intro w H2 s2 hw;split at h
   ·rename_i j;cases hw;split at h
    ·rename_i n en;have E2:=E1.same s2;refine⟨p,xs,j,n,rfl,rfl,s2 _ _ h2,by rw[h5.length];exact en,?_⟩;obtain⟨E3,t3⟩:=E2.mut e1 h1 h3 h4 (Mz (hv.mono s2.del) n (h5.mono s2.del));exact h _ _ _ ((E.tr s1).trans ((E1.tr s2).trans t3)) E3
    ·exact h.elim
   ·exact h.elim
 ·exact h.elim
abbrev Av (c:Ac->M Bool)(b:Ac->M Out):Nat->Ac->M Out
 |0,_=>.bad
 |n+1,ρ=>match c ρ with
  | .ok true=>(match b ρ with
   | .ok (.next ρ')| .ok (.cont ρ')=>Av c b n ρ'
   | .ok (.brk ρ')=>.ok (.next ρ')
   |r=>r)
  | .ok false=>.ok (.next ρ)
  | .ex x=>.ex x
  | .bad=>.bad
abbrev KW (c:Ac->M Bool)(b:Ac->M Out)(ρ:Ac):M Out:=
 @dite _ (∃n,Av c b n ρ≠.bad) (zd4 _) (λ h=>Av c b (za8 h) ρ) (λ _=>.bad)
def CL {c}{b}:∀ {n:Nat}{ρ:Ac},Av c b n ρ≠.bad->∀m,Av c b (n+m) ρ=Av c b n ρ
 |0,ρ,h,m=>(h rfl).elim
 |n+1,ρ,h,m=>by
  rw[show n+1+m=(n+m)+1 by omega];rw[Av] at h;rw[Av,Av];cases q:c ρ with
  |bad|ex x=>rfl
  |ok k =>
   rw[q] at h;cases k with
   |false=>rfl
   |true =>
    dsimp only at h ⊢;cases q2:b ρ with
    |bad|ex x=>rfl
    |ok o =>
     rw[q2] at h;cases o with
     |next ρ'=>dsimp only at h ⊢;exact CL h m
     |cont ρ'=>dsimp only at h ⊢;exact CL h m
     |brk ρ'=>rfl
     |ret d|CF d|ES d ρ2=>rfl
def Z9 {c}{b}(h:Av c b n ρ≠.bad):KW c b ρ=Av c b n ρ:=by
 unfold KW;have hx:∃n,Av c b n ρ≠.bad:=⟨n,h⟩;rw[dif_pos hx];have hc:=za1 hx;have e1:=CL h (za8 hx);have e2:=CL hc n;rw[Nat.add_comm] at e2;rw[<-e1,e2]
def X1 {c}{b}(h:KW c b ρ≠.bad):∃n,Av c b n ρ≠.bad/\KW c b ρ=Av c b n ρ:=by
 by_cases hx:∃n,Av c b n ρ≠.bad
 ·obtain⟨n,hn⟩:=hx;exact⟨n,hn,Z9 hn⟩
 ·exact (h (by unfold KW;rw[dif_neg hx])).elim
def lB {K}(h:gS K WX P0 P H Z m):m≠.bad:=λ e=>by rw[e] at h;exact h
def RN (hp:PassesOwn (model X.prog X.w) X.A X.env X.xe)(hc:DT X WX a ft)(hb:R7 X WX body g1):DS X WX (.While a body [] pos) (KW ft g1):=by
 obtain⟨tc,c1,c2⟩:=hc;obtain⟨tb,b1,b2⟩:=hb;refine⟨_,Yk hp c1 b1,λ P0 P σ H Z ρ E h=>?_⟩;obtain⟨n,hn,en⟩:=X1 (lB h);rw[en] at h;refine⟨λ m σ' H'=>∃ρ' P',Al X.K P0 P' H' σ' ρ'/\Tr P0 P H P' H'/\gS X.K WX P0 P' H' Z (Av ft g1 m ρ'),⟨n,ρ,P,E,Tr.refl,h⟩,?_⟩;rintro m σ1 H1 ⟨ρ1,P1,E1,t1,h1⟩;cases m with
 |zero=>exact h1.elim
 |succ m =>
  rw[Av] at h1;refine c2 P0 P1 σ1 H1 _ ρ1 E1 ?_;cases q:ft ρ1 with
  |bad=>rw[q] at h1;exact h1
  |ex x=>rw[q] at h1;exact λ H2 s2=>h1 H2 P1 (E1.tr s2)
  |ok k =>
   rw[q] at h1;intro H2 s2;have E2:=E1.same s2;cases k with
   |false =>
    rw[if_neg (by simp)];exact h1 σ1 H2 P1 (E1.tr s2) E2
   |true =>
    rw[if_pos rfl];dsimp only at h1;refine⟨λ σ' H'=>∃ρ' P',Al X.K P0 P' H' σ' ρ'/\Tr P0 P H P' H'/\gS X.K WX P0 P' H' Z (Av ft g1 m ρ'),λ σ' H' z=>⟨m,Nat.lt_succ_self m,z⟩,?_⟩;refine b2 P0 P1 σ1 H2 _ ρ1 E2 ?_;cases q2:g1 ρ1 with
    |bad=>rw[q2] at h1;exact h1
    |ex x=>rw[q2] at h1;exact λ H3 P3 t3=>h1 H3 P3 ((E1.tr s2).trans t3)
    |ok o =>
     rw[q2] at h1;have t2:=t1.trans (E1.tr s2);cases o with
     |next ρ'=>exact λ σ3 H3 P3 t3 E3=>⟨ρ',P3,E3,t2.trans t3,h1.tr ((E1.tr s2).trans t3)⟩
     |cont ρ'=>exact λ σ3 H3 P3 t3 E3=>⟨ρ',P3,E3,t2.trans t3,h1.tr ((E1.tr s2).trans t3)⟩
     |brk ρ'=>exact λ σ3 H3 P3 t3 E3=>h1 σ3 H3 P3 ((E1.tr s2).trans t3) E3
     |ret d=>exact λ v H3 P3 t3 hv=>h1 v H3 P3 ((E1.tr s2).trans t3) hv
     |CF d=>exact λ v fp H3 P3 t3=>h1 v fp H3 P3 ((E1.tr s2).trans t3)
     |ES d ρ2=>exact λ v fp σ3 H3 P3 t3=>h1 v fp σ3 H3 P3 ((E1.tr s2).trans t3)
abbrev Vq (ds:List D):M D:=match ds with
 |[.int i]=>.ok (.int i)
 |[.bl b]=>.ok (.int (if b then 1 else 0))
 |_=>.bad
def gH:IT X.K WX (λ xs H Q=>(∃i,xs=[.int i]/\Q (.int i) H)\/∃k,xs=[.bl k]/\Q (.int (if k then 1 else 0)) H) Vq:=by
 intro P H ds vs Q ht hl h;unfold Vq at h;split at h
 ·obtain⟨v,rfl,hv⟩:=hl.one;cases hv;exact .inl ⟨_,rfl,h _ H (Ae.refl H) (.int _)⟩
 ·obtain⟨v,rfl,hv⟩:=hl.one;cases hv;exact .inr ⟨_,rfl,h _ H (Ae.refl H) (.int _)⟩
 ·exact h.elim
def gI (hg:Gl X "int")(hm:X.mg "int" = none)(ha:DE X WX c e f)(hb:bootBuiltins "int" = some (.type "int"):=by decide +kernel)(hs: ~~~(starEach [e] X.env=[(false,eval e X.env)])):DE X WX c (.Call (.Name "int" p) [e] [] pos) (λ ρ=>((f ρ).bind λ d=>(M.ok []).bind λ ds=>.ok (d::ds)).bind Vq):=
 OE WC gH hg hm hb (A2 ha A7 hs) (he:=hs)
abbrev Gm:List D->Option (List Bool)
 |[]=>some []
 | .bl b::r=>(Gm r).map (b::·)
 |_=>none
def MB (bs:List Bool):Gm (bs.map D.bl)=some bs:=by
 induction bs with
 |nil=>rfl
 |cons b r ih=>rw[za6,Gm,ih];rfl
def MC:∀ {ds:List D}{bs:List Bool},Gm ds=some bs->ds=bs.map D.bl
 |[],bs,h=>by cases h;rfl
 | .bl b::r,bs,h=>by
  rw[Gm] at h;cases q:Gm r with
  |none=>rw[q] at h;cases h
  |some wm=>rw[q] at h;cases h;rw[MC q];rfl
 | .AE::r,bs,h| .int _::r,bs,h| .str _::r,bs,h| .tup _::r,bs,h| .lst _::r,bs,h| .KS _::r,bs,h| .Bm _ _ _::r,bs,h| .ins _ _ _::r,bs,h=>by cases h
def MD {K}:∀ {vs:List V}{bs:List Bool},Ag K H vs (bs.map D.bl)->vs=bs.map V.bl
 |_,[],.nil=>rfl
 |_,b::r,.cons h t=>by cases h;rw[MD t];rfl
def ME:∀ {bs:List Bool}{us:List Value},Vals (bs.map V.bl) us->LSm.BoolsAre us bs
 |[],_,.nil=>.nil
 |b::r,_,.cons h t=>by cases h;exact .cons b (ME t)
def MF (hc:X.calm=true):FT X (.builtin "all") (λ xs H Q=>∃p bs,xs=[.ref p]/\Du X.K H p (List.map V.bl bs)/\Q (.bl (bs.all id)) H):=by
 intro pins s σ H xs us Q I r h;obtain⟨p,bs,rfl,hq,q⟩:=h;obtain⟨u,rfl,rx⟩:=vals1 r;cases rx;obtain⟨aa,r',pl,hz⟩:=I.list hq;have hl:=pl.isList;have hb:=ME r';have ag:p<s.heap.objs.size:=by obtain⟨_,e,_⟩:=hl;exact zaf e
 refine call_all_walk (wpAny_pyIter_list hl ?_);refine⟨s.heap.objs.size,[s.heap.objs.size,p],[s.heap.objs.size],aa.toArray.size,_,_,λ i=>(bs[i]?).getD true,rfl,Walks.list (A:=X.A.in1) (I.ok.hd hc) _ p (zap ag) aa.toArray,
  ⟨⟨_,zaj _ rfl,rfl,rfl⟩,hl.push _⟩,λ i v s' Q' E' hP hQ=>?_,λ h' tk hk=>?_⟩
 ·obtain⟨b,e,rfl⟩:=hb.get i v (by simpa using hP);simp only[e,Option.getD_some] at hQ;exact wpAny_truthy_bool hQ
 ·have e:((zb1 aa.toArray.size).all λ i=>(bs[i]?).getD true)=bs.all id:=by
   rw[zae,hb.length];exact LSm.range_all bs
  rw[e];exact⟨.bl _,H,I.kept (t':=tk) (LSm.kept_iter hk),rfl,q⟩
abbrev X2 (ds:List D):M D:=match ds with
 |[.lst xs]=>(match Gm xs with|some bs=>.ok (.bl (bs.all id))|none=>.bad)
 |_=>.bad
def oF:IT X.K WX (λ xs H Q=>∃p bs,xs=[.ref p]/\Du X.K H p (List.map V.bl bs)/\Q (.bl (bs.all id)) H) X2:=by
 intro P H ds vs Q ht hl h;unfold X2 at h;split at h
 ·rename_i xs;obtain⟨v,rfl,hv⟩:=hl.one;split at h
  ·rename_i bs eb;have:=MC eb;subst this;cases hv with
   |lst hs hh =>
    have:=MD hh;subst this;exact⟨_,bs,rfl,hs.B3,h _ H (Ae.refl H) (.bl _)⟩
  ·exact h.elim
 ·exact h.elim
def Q9 (hc:X.calm=true)(hg:Gl X "all")(hm:X.mg "all" = none)(ha:DE X WX c e f)(hb:bootBuiltins "all" = some (.builtin "all"):=by decide +kernel)(hs: ~~~(starEach [e] X.env=[(false,eval e X.env)])):DE X WX c (.Call (.Name "all" p) [e] [] pos) (λ ρ=>((f ρ).bind λ d=>(M.ok []).bind λ ds=>.ok (d::ds)).bind X2):=
 IU (MF hc) oF hg hm hb (A2 ha A7 hs) (he:=hs)
end
abbrev Sm (n:Int):Prop:=zbb n<=2^20
def Za:∀ {ns:List Int},W.WData.weightAll (ns.map W.WData.int)<=2^20->∀n∈ns,Sm n
 |m::r,h,n,hn=>by
  rw[za6,W.WData.weightAll,W.WData.weight] at h;rcases zab.mp hn with rfl|hn
  ·unfold Sm zbb;omega
  ·exact Za (by omega) n hn
def sU {ns:List Int}(h:W.WData.layableAll [W.WData.list (ns.map W.WData.int)]=true):∀n∈ns,Sm n:=by
 unfold W.WData.layableAll at h;rw[List.all_cons,zb2] at h;have h1:=h.1;unfold W.WData.layable at h1;rw[zb2,decide_eq_true_eq,W.WData.weight] at h1;exact Za h1.2
end L2
namespace HT
open PySem PySem.W PyProof.Rows Spec Calls sB
def OI {l:OpenLaw}(hn:l.most=some n)(ge:d.params.defaults=[])(run:∀(w:World) (s₀ s₁:Shared) (mg mb:Str->Option Value) (fa:Addr) (o:Obj) (pm cd doc:Value) (a:Addr) (vs:List Value) (ns:List Int),(∀n∈ns,L2.Sm n)->
  Ground q loose [] XP w s₀ mg mb s₁.heap->YP w s₁.heap->s₁.heap.get? fa=some o->o.data=.func (docDef d.name d.params d.body d.scope pm cd doc)->s₁.heap.CodeRec cd d.name->mg d.name=some (.ref fa)->
  s₁.heap.get? a=some {cls:=.type "list",data:=.seq vs.toArray}->IntsAre vs ns->ns.length<=n->s₁.gens=#[]->
  codeAny (model l.prog w) callerA (.call (.ref fa) ⟨[.ref a],[]⟩) (λ r s'=>r=.ok (.ret (.bool true))/\OldK s₁.heap s'.heap/\s'.os=s₁.os/\AllBare s'.gens) s₁):
 WalkO q loose XP YP l.row.toRowW d [] (λ f vs=>PySem.call f vs):=by
 intro w s₀ s₁ mg mb G Y fa o pm cd doc dV kV ho hd aR hD gf hg args vals as cv o6 dw lq zZ;obtain rfl:dV=.none:=Dflts.none hD ge;obtain rfl:kV=.none:=Dflts.noKw hD;obtain⟨a,vs,ns,rfl,rfl,cc,be,hlen⟩:=WL hn cv lq;refine enter_call (codeAny_mono (run w s₀ s₁ mg mb fa o pm cd doc a vs ns (L2.sU o6) G Y ho (fd_plain hd) aR gf cc be hlen hg) λ r s' hq=>?_);obtain⟨rfl,h2,h3,h4⟩:=hq;exact⟨.inl ⟨.bool true,.bool true,[],rfl,λ _=>rfl,.bool true,WM l _,λ _=>⟨List.Pairwise.nil,λ _ hm=>(nomatch hm)⟩⟩,h2,h3,h4⟩
end HT
namespace L2
open PySem PySem.Spec PyProof.Rows
def uO {l:PySem.W.OpenLaw}{K:Params->za0}{CX:World->TH}{sp:World->Sp}(hn:l.most=some n)(aF:n<=sizeLine)(ge:d.params.defaults=[])(hr:Bp k callerA)(hY:∀(w:World) (h:Heap),YP w h->(K w.params).In h)(F:∀(w:World) (mg:Str->Option Value) (fa:Addr) (h:Heap),(K w.params).In h->h.Ns mainGlobals mg->mg d.name=some (.ref fa)->∃fd:FuncData,(∀(s:Shared) (u:Value),BindsTo s fd ⟨[u],[]⟩ [(x,u)])/\
  ∀base:Heap,(K w.params).In base->base.Ns mainGlobals mg->D5 l.prog w (K w.params) mg base (CX w) k fa fd [x] (sp w))(bE:∀(w:World) (H:Hp) (a:Addr) (ns:List Int),(∀n∈ns,Sm n)->ns.length<=n->fJ H->Du (K w.params) H a (ns.map V.int)->sp w [.ref a] H (λ v _=>v=.bl true) λ _ _ _=>False)(jc:∀(w:World) (H:Hp) (s:Shared) (e:Value) (s':Shared),CX w [] H s (λ _ _ _=>False) e s'->False):PySem.W.WalkO q loose XP YP l.row.toRowW d [] (λ f vs=>PySem.call f vs):=by
 refine HT.OI hn ge λ w s₀ s₁ mg mb fa o pm cd doc a vs ns bq G Y ho hd aR gf cc be hlen hg=>?_;have KX:=hY w _ Y;obtain⟨fd,hb,hF⟩:=F w mg fa _ KX G.T.g gf;exact Rx KX G.T.g G.T.b G.T.builtins G.T.nolimit hg cc be (zbl hlen aF) hr hF hb (λ H hO hS=>bE w H a ns bq hlen hO hS) λ H e s'=>jc w H s₁ e s'
variable {X:Cx}{WX:Str->Hp->Prop}{c:Bool}{P0:DR}{P P':Addr->Prop}{H H':Hp}{σ:St}{ρ ρ':Ac}{a b e:Expr}{g g2:Ac->M D}{pos:Pos}{fn:Ac->M OT}{es:List Expr}{mg:Str->Option Value}{base:Heap}{ft:Ac->M Bool}{gt:D->Ac->M Ac}{fx:Ac->M (Ac×OT)}
def gJ (h:∀ns:List Int,ns.length<=63->(∀n∈ns,Sm n)->F [.lst (ns.map D.int)]=.ok (.bl true))(K:za0)(H:Hp)(a:Addr)(ns:List Int)(bq:∀n∈ns,Sm n)(hl:ns.length<=63)(hS:Du K H a (ns.map V.int)):U1 K 1 F [.ref a] H (λ v _=>v=.bl true) λ _ _ _=>False:=by
 refine⟨rfl,λ _=>False,[.lst (ns.map D.int)],λ _ z=>z.elim,.cons (.lst ?_ (Ag.ints ns)) .nil,?_⟩
 ·have e:del H (λ _=>False)=H:=by funext b;exact Au (λ z=>z)
  rw[e];exact hS
 ·rw[h ns hl bq];exact λ v H' s hv=>hv.Mw
abbrev OJ (i j:Int):Prop:=(zbb i<=2^20+1/\zbb j<=2^10)\/RL i j
def X3 {a b}(h:zbb a+zbb b<=2^21):IntMulOk a b:=by
 have e:(2:Nat)^21=2097152:=by decide
 have h2:Builtin.Int.intTooBig (zbb a+zbb b)=false:=by
  unfold Builtin.Int.intTooBig bitsLine;exact decide_eq_false (by omega)
 unfold IntMulOk;rw[h2];simp
def OJ.ok (h:OJ i j):IntMulOk i j:=by
 rcases h with ⟨h1,h2⟩|h
 ·exact X3 (by omega)
 ·exact h.ok
def gL:G9 X (binaryOp .Mult) (rI OJ λ i j=>.int (i*j)):=uH λ _ _ _ _ _ _ _ hc q=>mul_int q hc.ok
noncomputable instance (i j:Int):Decidable (OJ i j):=zd4 _
abbrev HC:=By λ i j=>if OJ i j then .ok (.int (i*j)) else .bad
def Ei (h:OJ i j):HC (.int i) (.int j)=.ok (.int (i*j)):=by
 unfold HC By;dsimp only;rw[if_pos h]
def Fs (ha:DE X WX c a f)(hb:DE X WX c b g):DE X WX c (.BinOp a .Mult b pos) (λ ρ=>(f ρ).bind λ x=>(g ρ).bind λ y=>HC x y):=OD gL (Q2 λ _ _ _ _=>.int _) ha hb
def bits_le (h:n.natAbs<2^k):zbb n<=k:=by
 unfold zbb;split
 ·exact zb0 _
 ·rename_i hn;have hp:n.natAbs≠0:=by simpa using hn
  exact (Nat.log2_lt hp).mpr h
def X4 {c}(h:Sm c)(hx:x.natAbs<2^20):zbb (c+x)<=2^20+1:=by
 refine bits_le ?_;have h1:=natAbs_lt_pow_bits c;have h2:(2:Nat)^zbb c<=2^(2^20):=Nat.pow_le_pow_right (by omega) h;have h3:(2:Nat)^20<=2^(2^20):=Nat.pow_le_pow_right (by omega) (by omega);have h4:(c+x).natAbs<=c.natAbs+x.natAbs:=Int.natAbs_add_le c x;rw[Nat.pow_succ];omega
mutual
noncomputable def J0:D->Bool
 | .tup a=>J1 a
 | .lst _| .KS _| .Bm _ _ _| .ins _ _ _=>false
 |_=>true
noncomputable def J1:List D->Bool
 |[]=>true
 |a::r=>J0 a&&J1 r
end
def Vr {P0}{a}(ht:∀a,P a->DC H a)(h:del H P0 a=some (.tup xs)):del H P a=some (.tup xs):=by
 obtain⟨h1,h2⟩:=Am h;rw[Au λ z=>by
  obtain⟨o',q,r⟩:=ht a z;rw[h2] at q;cases q;exact (r xs).1 rfl]
 exact h2
mutual
theorem BR.J0 {K:za0}{H:Hp}{P0 P:Addr->Prop}(ht:∀a,P a->DC H a):∀ {v:V}{d:D},J0 d=true->BR K (del H P0) v d->BR K (del H P) v d
 |_,_,_,.AE=>.AE
 |_,_,_,.bl b=>.bl b
 |_,_,_,.int i=>.int i
 |_,_,_,.str x=>.str x
 |_,_,n,.tup h r=>.tup (Vr ht h) (Ag.J0 ht (by rw[L2.J0] at n;exact n) r)
 |_,_,n,.lst h r|_,_,n,.KS h r|_,_,n,.Vd h r|_,_,n,.Ve h r|_,_,n,.ins _ h r=>by rw[L2.J0] at n;cases n
theorem Ag.J0 {K:za0}{H:Hp}{P0 P:Addr->Prop}(ht:∀a,P a->DC H a):∀ {vs:List V}{ds:List D},J1 ds=true->Ag K (del H P0) vs ds->Ag K (del H P) vs ds:=by
 intro _ _ n x_;cases x_ with
 |nil=>exact .nil
 |cons h t =>
  rw[J1,zb2] at n;exact .cons (BR.J0 ht n.1 h) (Ag.J0 ht n.2 t)
end
abbrev dp (m:M D):M D:=m.bind λ d=>if J0 d=true then .ok d else .bad
def gM (h:DE X WX false e f):DE X WX true e (λ ρ=>dp (f ρ)):=by
 obtain⟨t,h1,h2⟩:=h;refine⟨t,h1,λ P0 P σ H Q ρ E g=>h2 P0 P σ H Q ρ E ?_⟩;unfold dp at g;dsimp only at g;cases e:f ρ with
 |ok d =>
  rw[e] at g;simp only[M.A8] at g;by_cases hf:J0 d=true
  ·rw[if_pos hf] at g;exact λ v H' s hv=>g v H' s (hv.J0 (E.same s).Cp hf)
  ·rw[if_neg hf] at g;exact g.elim
 |ex x|bad=>rw[e] at g;exact g
section
variable {α:Type}(lt:α->α->Prop)
abbrev NO:List α->List α->Prop
 |y::ys,x::xs=>(lt y x/\ys.length=xs.length)\/(y=x/\NO ys xs)
 |_,_=>False
def NO.len:∀ {ys xs:List α},NO lt ys xs->ys.length=xs.length
 |y::ys,x::xs,h=>by
  rcases h with ⟨_,h⟩|⟨_,h⟩
  ·rw[za9,za9,h]
  ·rw[za9,za9,NO.len h]
 |[],[],h|[],_::_,h|_::_,[],h=>h.elim
def Zb (n:Nat)(ih:∀xs:List α,xs.length=n->Acc (NO lt) xs){x:α}(hx:Acc lt x):∀ {xs:List α},xs.length=n->Acc (NO lt) xs->Acc (NO lt) (x::xs):=by
 induction hx with
 |intro x _ wn =>
  intro xs hl cn;induction cn with
  |intro xs _ o7 =>
   refine .intro _ λ zs h=>?_;cases zs with
   |nil=>exact h.elim
   |cons y ys =>
    rcases h with ⟨h1,h2⟩|⟨h1,h2⟩
    ·exact wn y h1 (h2.trans hl) (ih ys (h2.trans hl))
    ·subst h1;exact o7 ys h2 ((NO.len lt h2).trans hl)
def MG (h:∀x,Acc lt x):∀(n:Nat) (xs:List α),xs.length=n->Acc (NO lt) xs
 |0,[],_=>.intro _ λ zs h=>by cases zs<;>exact h.elim
 |n+1,x::xs,e=>Zb lt n (MG h n) (h x) (by simpa using e) (MG h n xs (by simpa using e))
def Vs:∀ {xs:List α}{i:Nat}{y:α}{x:α},xs[i]?=some x->lt y x->NO lt (xs.set i y) xs
 |[],_,_,_,h,_=>by cases h
 |z::zs,0,y,x,h,hl=>by
  cases h;exact .inl ⟨hl,rfl⟩
 |z::zs,i+1,y,x,h,hl=>.inr ⟨rfl,Vs (by simpa using h) hl⟩
def NO.trans (ht:∀a b c,lt a b->lt b c->lt a c):∀ {xs ys zs:List α},NO lt xs ys->NO lt ys zs->NO lt xs zs
 |x::xs,y::ys,z::zs,h1,h2=>by
  rcases h1 with ⟨a,b⟩|⟨rfl,b⟩
  ·rcases h2 with ⟨c,d⟩|⟨rfl,d⟩
   ·exact .inl ⟨ht _ _ _ a c,b.trans d⟩
   ·exact .inl ⟨a,b.trans (NO.len lt d)⟩
  ·rcases h2 with ⟨c,d⟩|⟨rfl,d⟩
   ·exact .inl ⟨c,(NO.len lt b).trans d⟩
   ·exact .inr ⟨rfl,NO.trans ht b d⟩
 |[],_,_,h,_|_::_,[],_,h,_|_::_,_::_,[],_,h=>by cases h
end
section
variable {f:Ac->M D}
def Al.forget {K}(E:Al K P0 P H σ ρ)(k:Nat):Al K P0 P H σ (ρ.set k none):=by
 have key:∀(j:Nat) (cl:Cl),(ρ.set k none)[j]?=some (some cl)->k≠j/\ρ[j]?=some (some cl):=λ j cl h=>by
  rcases get_set h with ⟨_,_,z⟩|z
  ·cases z
  ·exact z
 exact⟨E.sub,E.Cp,λ j d h=>E.val j d (key j _ h).2,λ j d h io=>E.ows j d (key j _ h).2 io,λ i j c c' v v' fp ah h1 h2=>E.apart i j c c' v v' fp ah (key i _ h1).2 (key j _ h2).2,by rw[zbr];exact E.len,λ j c n h hp=>E.pin j c n (key j _ h).2 hp⟩
def gN (i:Nat)(hN:X.N.Nodup)(hi:X.N[i]?=some x)(hx:Loc X.env.scope x)(hs: ~~~(swapsWith (.List [] c9) (some (.Name x pos')) pos.line X.env=pure false))(hf:X.fn x=true\/X.env.scope.names.lookup x=some .local:=by first | exact .inl rfl | exact .inr rfl | assumption):
 DS X WX (.Assign [.Name x pos'] (.List [] c9) pos) (λ ρ=>.ok (.next (ρ.set i (some (.ow (.rows [])))))):=by
 refine⟨_,Tu hN hi hx (PH CD) hs hf,λ P0 P σ H Z ρ E h=>?_⟩;refine⟨zb0 _,λ p hp=>?_⟩;have nP:¬ P p:=λ z=>(E.Cp p z).no hp;have sm:Ae (del H P) (del (upd H p (.lst [])) (λ a=>P a\/a=p)):=λ b o e=>by
  obtain⟨h1,h2⟩:=Am e;have hb:b≠p:=Ax h2 hp;rw[Au (λ z=>z.elim h1 hb),Ai hb];exact h2
 refine h _ _ (λ a=>P a\/a=p) ⟨sm,λ a ha=>by rw[Ai (λ z=>nP (by rw[<-z];exact E.sub a ha))]⟩ (E.WW (fp:=[p]) (λ a h=>.inl h) (λ a h=>?_) sm (λ j c' v' ah ae h1 h2 h3 a ha=>?_) ⟨p,[],rfl,rfl,Aq,.nil⟩ (λ a ha=>?_) (by simp))
 ·by_cases ha:a=p
  ·subst ha;exact DC.lst Aq
  ·rcases h with h|h
   ·unfold DC;rw[Ai ha];exact E.Cp a h
   ·exact absurd h ha
 ·obtain⟨ys,q⟩:=h3.at a ha;have hn:a≠p:=Ax q hp;exact⟨Ai hn,λ z=>hn (za7.mp z)⟩
 ·rw[za7.mp ha];exact⟨.inr rfl,λ z=>nP (E.sub p z)⟩
def BA.snoc {K}(hq:H q=some (.lst xs))(hx:Ag K (del H P) xs ds):∀ {ps:List Addr}{C8:List (List D)},BA K H P ps C8->BA K H P (ps++[q]) (C8++[ds]):=by
 intro _ _ x_;cases x_ with
 |nil=>exact .cons hq hx .nil
 |cons h r t=>exact .cons h r (t.snoc hq hx)
abbrev Zc (i k:Nat)(ρ:Ac):M Out:=match ρ[i]?,ρ[k]? with
 |some (some (.ow (.rows C8))),some (some (.own ds))=>if C8.length<1000/\i≠k then .ok (.next ((ρ.set k none).set i (some (.ow (.rows (C8++[ds])))))) else .bad
 |_,_=>.bad
def gO (i k:Nat)(hv:PE X (.Name x p1) (Lm i))(hw:PE X (.Name y p2) (Lm k))(hs: ~~~(starEach [.Name y p2] X.env=[(false,eval (.Name y p2) X.env)]))(bz: ~~~(swapsWith (.Call (.Attribute (.Name x p1) "append" apos) [.Name y p2] [] af) none pos.line X.env=pure false))(az: ~~~(attributeBase (.Name x p1) "append" X.env (eval (.Name x p1) X.env)=eval (.Name x p1) X.env))(aL: ~~~(((backTo af (starEach [.Name y p2] X.env)).all (λ x => !x.1)&&(backToKw af (keywordEach [] X.env)).all (λ x=>x.1.isSome)&&decide (([.Name y p2]:List Expr).length+([]:List Keyword).length+(if ([]:List Keyword).isEmpty then 0 else 1)<30))=true))(a5: ~~~((apos.endLine==af.line)=true))(am: ~~~((backTo af (starEach [] X.env)).any (·.1)=false)):
 DS X WX (.Expr (.Call (.Attribute (.Name x p1) "append" apos) [.Name y p2] [] af) pos) (Zc i k):=by
 refine⟨_,GR (Rv zd6 PySem.F.slot_list_append PySem.F.type_list_append Ox hv (Bu hw CD hs) az aL a5 hs am) bz,λ P0 P σ H Z ρ E h=>?_⟩;unfold Zc at h;split at h
 ·rename_i C8 ds e1 e2;by_cases hl:C8.length<1000/\i≠k
  ·rw[if_pos hl] at h;obtain⟨v,fp,h1,o1,h4,nd⟩:=E.ows i _ e1 rfl;obtain⟨w,fq,k1,o2,k4,_⟩:=E.ows k _ e2 rfl;have oa:=o1;have ob:=o2;obtain⟨p,ps,rfl,rfl,h2,h3⟩:=o1;obtain⟨q,xs,rfl,rfl,k2,k3⟩:=o2;refine⟨_,h1,.inl ⟨rfl,_,.of h2⟩,⟨_,k1,p,_,_,rfl,rfl,h2,AA (by rw[za2,h3.length];exact zbf hl.1),?_⟩⟩;have pP:=h4 p za3;have sd:del (upd H p (.lst (ps.map V.ref++[V.ref q]))) P=del H P:=by
    funext b;by_cases hb:P b
    ·rw[De hb,De hb]
    ·rw[Au hb,Au hb,Ai (λ z=>hb (by rw[z];exact pP.1))]
   have sm:Ae (del H P) (del (upd H p (.lst (ps.map V.ref++[V.ref q]))) P):=by rw[sd];exact Ae.refl _
   have qn:q∉p::ps:=λ z=>E.apart i k _ _ _ _ _ _ e1 e2 h1 k1 oa ob hl.2 q z (za7.mpr rfl);have qp:q≠p:=λ z=>qn (by rw[z];exact za3);have key:=(E.forget k).WW (P':=P) (H':=upd H p (.lst (ps.map V.ref++[V.ref q]))) (i:=i) (v:=.ref p) (c:=.ow (.rows (C8++[ds]))) (fp:=p::(ps++[q])) (λ a h=>h) (λ a h=>?_) sm (λ j c' v' ah ae g1 g2 g3 a ha=>?_)
    ⟨p,ps++[q],rfl,rfl,by rw[zaz];exact Aq,?_⟩ (λ a ha=>?_) ?_
   ·rw[Kl h1] at key;exact h _ _ _ ⟨sm,λ a h=>by rw[Ai (λ z=>pP.2 (by rw[<-z];exact h))]⟩ key
   ·by_cases ha:a=p
    ·subst ha;exact DC.lst Aq
    ·unfold DC;rw[Ai ha];exact E.Cp a h
   ·have hj:k≠j/\ρ[j]?=some (some c'):=by
     rcases get_set g1 with ⟨_,_,z⟩|z
     ·cases z
     ·exact z
    have n1:=E.apart j i _ _ _ _ _ _ hj.2 e1 g2 h1 g3 oa (zbn ae) a ha;have n2:=E.apart j k _ _ _ _ _ _ hj.2 e2 g2 k1 g3 ob (zbn hj.1) a ha;have ap:a≠p:=λ z=>n1 (by rw[z];exact za3);refine⟨Ai ap,λ z=>?_⟩;rcases zab.mp z with z|z
    ·exact ap z
    ·rcases zaq.mp z with z|z
     ·exact n1 (za4 _ z)
     ·exact n2 z
   ·refine BA.snoc (xs:=xs) (by rw[Ai qp];exact k2) (by rw[sd];exact k3) (h3.move sm λ a ha=>Ai λ z=>?_);rw[zbg] at nd;exact nd.1 (by rw[<-z];exact ha)
   ·rcases zab.mp ha with rfl|ha
    ·exact pP
    ·rcases zaq.mp ha with ha|ha
     ·exact h4 a (za4 _ ha)
     ·exact k4 a ha
   ·rw[zbg] at nd ⊢;refine⟨λ z=>?_,?_⟩
    ·rcases zaq.mp z with z|z
     ·exact nd.1 z
     ·exact qp (za7.mp z).symm
    ·rw[zax];refine⟨nd.2,by simp,λ x hx y hy z=>?_⟩;rw[za7.mp hy] at z;exact qn (za4 _ (z▸hx))
  ·rw[if_neg hl] at h;exact h.elim
 ·exact h.elim
def Zd {α:Type}{l:List α}(h:Ov l.length k=some n):Ru l k=l[n]? :=by
 unfold Ru;rw[h];rfl
abbrev rowAt (C8:List (List D))(ka:D):M (List D):=match ka with
 | .int j=>(match Ov C8.length j with|some n=>(match C8[n]? with|some ds=>.ok ds|none=>.bad)|none=>.bad)
 |_=>.bad
def OK (h:rowAt C8 ka=m)(hb:m≠.bad):∃j n ds,ka=.int j/\Ov C8.length j=some n/\C8[n]?=some ds/\m=.ok ds:=by
 subst h;unfold rowAt at hb ⊢;split at hb
 ·rename_i j;split at hb
  ·rename_i n en;split at hb
   ·rename_i ds ed;exact⟨j,n,ds,rfl,en,ed,by simp only[en,ed]⟩
   ·exact (hb rfl).elim
  ·exact (hb rfl).elim
 ·exact (hb rfl).elim
abbrev gQ (i:Nat)(ρ:Ac)(ma mb:M D):M D:=match ρ[i]? with
 |some (some (.ow (.rows C8)))=>ma.bind λ ka=>(rowAt C8 ka).bind λ ds=>mb.bind λ kb=>fY (.lst ds) kb
 |_=>.bad
def sV {K}(h:gV K WX P H Q m):m≠.bad:=λ e=>by rw[e] at h;exact h
def Vt {α β:Type}{m:M α}{k:α->M β}(h:m.bind k≠.bad):m≠.bad:=λ e=>by rw[e] at h;exact h rfl
def U6 (i:Nat)(hv:PE X (.Name x p1) (Lm i))(ha:DE X WX true a f)(hb:DE X WX true b g)(hs:GS a:=by exact λ _ _=>rfl)(a8:GS b:=by exact λ _ _=>rfl):
 DE X WX true (.Subscript (.Subscript (.Name x p1) a p2) b pos) (λ ρ=>gQ i ρ (f ρ) (g ρ)):=by
 obtain⟨ta,a1,a2⟩:=ha;obtain⟨tb,b1,b2⟩:=hb;refine⟨_,V8 LD (V8 LD hv a1 hs) b1 a8,λ P0 P σ H Q ρ E h=>?_⟩;dsimp only at h;unfold gQ at h;split at h
 ·rename_i C8 e1;obtain⟨v,fp,h1,⟨p,ps,rfl,rfl,h2,h3⟩,h4,nd⟩:=E.ows i _ e1 rfl;refine⟨_,h1,a2 P0 P σ H _ ρ E ?_⟩;refine YO h λ ka h=>?_;intro w H1 s1 hw;obtain⟨j,n,ds,rfl,en,ed,em⟩:=OK rfl (Vt (sV h));rw[em] at h;simp only[M.A8] at h;cases hw;obtain⟨r,xs,r1,r2,r3⟩:=h3.get ed;have hl:Ov (ps.map V.ref).length j=some n:=by rw[za2,h3.length];exact en
  refine⟨p,_,j,.ref r,rfl,rfl,.of (s1 _ _ h2),by rw[Zd hl,zan,r1];rfl,?_⟩;refine b2 P0 P σ H1 _ ρ (E.same s1) ?_;cases q2:g ρ with
  |bad=>rw[q2] at h;exact h.elim
  |ex x=>rw[q2] at h;exact λ H' s'=>h H' (s1.trans s')
  |ok kb =>
   rw[q2] at h;simp only[M.A8] at h;intro u H2 s2 hu;unfold fY at h;split at h
   ·rename_i bH;cases bH
   ·rename_i jl j' bH;cases bH;split at h
    ·rename_i d e;cases hu;obtain⟨z,k1,k2⟩:=(r3.mono (s1.trans s2).del).Ru e;exact⟨r,xs,j',z,rfl,rfl,.of (s2 _ _ (s1 _ _ r2)),k1,h _ H2 (s1.trans s2) k2⟩
    ·exact h.elim
   ·exact h.elim
 ·exact h.elim
def BA.set {K:za0}{H H':Hp}{P:Addr->Prop}(sm:Ae (del H P) (del H' P)){r:Addr}{xs:List V}{ds:List D}(hr:H' r=some (.lst xs))(hx:Ag K (del H' P) xs ds)(k:∀a,a≠r->H' a=H a):∀ {ps:List Addr}{C8:List (List D)}{n:Nat},ps.Nodup->ps[n]?=some r->BA K H P ps C8->BA K H' P ps (C8.set n ds)
 |_,_,_,_,e,.nil=>by simp at e
 |_,_,0,nd,e,.cons h1 h2 t=>by
  simp at e;subst e;rw[zbg] at nd;exact .cons hr hx (t.move sm λ a ha=>k a λ z=>nd.1 (by rw[<-z];exact ha))
 |q::ps,d::C8,n+1,nd,e,.cons h1 h2 t=>by
  rw[zbg] at nd;have e':ps[n]?=some r:=by simpa using e
  refine .cons ((k q λ z=>nd.1 (by rw[z];exact zam e')).trans h1) (h2.mono sm) (t.set sm hr hx k nd.2 e')
abbrev gR (i:Nat)(ρ:Ac)(C8:List (List D))(d ka:D)(ds:List D)(kb:D):M Out:=match ka,kb with
 | .int j,.int l=>(match Ov C8.length j,Ov ds.length l with|some n,some m=>.ok (.next (ρ.set i (some (.ow (.rows (C8.set n (ds.set m d)))))))|_,_=>.bad)
 |_,_=>.bad
abbrev Vu (i:Nat)(ρ:Ac)(ma mb:M D)(d:D):M Out:=match ρ[i]? with
 |some (some (.ow (.rows C8)))=>ma.bind λ ka=>(rowAt C8 ka).bind λ ds=>mb.bind λ kb=>gR i ρ C8 d ka ds kb
 |_=>.bad
def gU (i:Nat)(hv:PE X (.Name x p1) (Lm i))(he:DE X WX true e g2)(ha:DE X WX true a f)(hb:DE X WX true b g)(wo:GS a:=by exact λ _ _=>rfl)(hs: ~~~(swapsWithSole [.Subscript (.Subscript (.Name x p1) a p2) b al] e pos.line X.env=pure false))(hw: ~~~(swappedStores [.Subscript (.Subscript (.Name x p1) a p2) b al] e X.env=pure none))(h1: ~~~((assignEach [.Subscript (.Subscript (.Name x p1) a p2) b al] X.env).map (·.2)=[assign (.Subscript (.Subscript (.Name x p1) a p2) b al) X.env]))(gc:∀v,assign (.Subscript (.Subscript (.Name x p1) a p2) b al) X.env v=(do
  let ov <-holding [v] (eval (.Subscript (.Name x p1) a p2) X.env);let iv <-holding [v,ov] (eval b X.env)
  standAt al
  holding [v,ov,iv] (setItem ov iv v)
  release [v,ov,iv] []):=by intro _;rfl):
 DS X WX (.Assign [.Subscript (.Subscript (.Name x p1) a p2) b al] e pos) (λ ρ=>(g2 ρ).bind (Vu i ρ (f ρ) (g ρ))):=by
 obtain⟨te,e1,e2⟩:=he;obtain⟨ta,a1,a2⟩:=ha;obtain⟨tb,b1,b2⟩:=hb;refine⟨_,Yj e1 (Yi (V8 LD hv a1 wo) b1 set_list gc) hs hw h1,λ P0 P σ H Z ρ E h=>?_⟩;dsimp only at h;refine e2 P0 P σ H _ ρ E ?_;refine fZ h E λ d h=>?_;intro v H0 s0 o8;have E0:=E.same s0;unfold Vu at h;split at h
 ·rename_i C8 tz;obtain⟨v',fp,h1,o1,h4,nd⟩:=E0.ows i _ tz rfl;have oa:=o1;obtain⟨p,ps,rfl,rfl,h2,h3⟩:=o1;refine⟨_,h1,a2 P0 P σ H0 _ ρ E0 ?_⟩;cases q:f ρ with
  |bad=>rw[q] at h;exact h.elim
  |ex x=>rw[q] at h;exact λ H' s=>h H' P ((E.tr s0).trans (E0.tr s))
  |ok ka =>
   rw[q] at h;simp only[M.A8] at h;intro w H1 s1 hw;obtain⟨j,n,ds,rfl,en,ed,em⟩:=OK rfl (Vt (lB h));rw[em] at h;simp only[M.A8] at h;cases hw;obtain⟨r,xs,r1,r2,r3⟩:=h3.get ed;have hl:Ov (ps.map V.ref).length j=some n:=by rw[za2,h3.length];exact en
   refine⟨p,_,j,.ref r,rfl,rfl,.of (s1 _ _ h2),by rw[Zd hl,zan,r1];rfl,?_⟩;have E1:=E0.same s1;refine b2 P0 P σ H1 _ ρ E1 ?_;cases q2:g ρ with
   |bad=>rw[q2] at h;exact h.elim
   |ex x=>rw[q2] at h;exact λ H' s'=>h H' P ((E.tr s0).trans ((E0.tr s1).trans (E1.tr s')))
   |ok kb =>
    rw[q2] at h;simp only[M.A8] at h;intro u H2 s2 hu;unfold gR at h;split at h
    ·rename_i j' l bH;cases bH;cases hu;split at h
     ·rename_i n' m em wp;rw[en] at em;cases em;have E2:=E1.same s2;have ce:=s1.trans s2;have rm:r∈ps:=zam r1;have rP:=h4 r (za4 _ rm);have dz:=zbg.mp nd;have rp:r≠p:=λ z=>dz.1 (by rw[<-z];exact rm);have sd:del (upd H2 r (.lst (xs.set m v))) P=del H2 P:=by
       funext b;by_cases hb:P b
       ·rw[De hb,De hb]
       ·rw[Au hb,Au hb,Ai (λ z=>hb (by rw[z];exact rP.1))]
      have sm:Ae (del H2 P) (del (upd H2 r (.lst (xs.set m v))) P):=by rw[sd];exact Ae.refl _
      have ob:=oa.same ce;refine⟨r,xs,l,m,rfl,rfl,ce _ _ r2,by rw[r3.length];exact wp,?_⟩;have key:=E2.WW (P':=P) (H':=upd H2 r (.lst (xs.set m v))) (i:=i) (v:=.ref p) (c:=.ow (.rows (C8.set n (ds.set m d)))) (fp:=p::ps) (λ a h=>h) (λ a h=>?_) sm (λ j2 c' v' ah ae g1 g2 g3 a ha=>?_)
       ⟨p,ps,rfl,rfl,by rw[Ai (zbn rp)];exact ce _ _ h2,?_⟩ h4 nd
      ·rw[Kl h1] at key;exact h _ _ _ ((E.tr s0).trans ((E0.tr ce).trans ⟨sm,λ a h=>by rw[Ai (λ z=>rP.2 (by rw[<-z];exact h))]⟩)) key
      ·by_cases ha:a=r
       ·subst ha;exact DC.lst Aq
       ·unfold DC;rw[Ai ha];exact E2.Cp a h
      ·have n1:=E2.apart j2 i _ _ _ _ _ _ g1 tz g2 h1 g3 ob (zbn ae) a ha;exact⟨Ai λ z=>n1 (by rw[z];exact za4 _ rm),n1⟩
      ·have wq:BA X.K H2 P ps C8:=h3.move ce.del λ a ha=>by obtain⟨ys,z⟩:=h3.at a ha;rw[z];exact ce _ _ z
       refine wq.set sm Aq ?_ (λ a ha=>Ai ha) dz.2 r1;rw[sd];exact Mz ((o8.mono s1.del).mono s2.del) m (r3.mono ce.del)
     ·exact h.elim
    ·exact h.elim
 ·exact h.elim
end
section
variable {f:Ac->M D}
def Ea:∀ {ds:List D}{ns:List Int},CK ds=some ns->ds=ns.map D.int
 |[],ns,h=>by cases h;rfl
 | .int b::r,bs,h=>by
  rw[CK] at h;cases q:CK r with
  |none=>rw[q] at h;cases h
  |some wm=>rw[q] at h;cases h;rw[Ea q];rfl
 | .AE::r,bs,h| .bl _::r,bs,h| .str _::r,bs,h| .tup _::r,bs,h| .lst _::r,bs,h| .KS _::r,bs,h| .Bm _ _ _::r,bs,h| .ins _ _ _::r,bs,h=>by cases h
def Di {K}:∀ {vs:List V}{bs:List Int},Ag K H vs (bs.map D.int)->vs=bs.map V.int
 |_,[],.nil=>rfl
 |_,b::r,.cons h t=>by cases h;rw[Di t];rfl
end
section
variable {f:Ac->M D}
abbrev Vv (ds:List D):M D:=match ds with
 |[.int i,.int j]=>.ok (.int (if j > i then j else i))
 |_=>.bad
def gW:IT X.K WX (λ xs H Q=>∃i j,xs=[.int i,.int j]/\Q (.int (if j > i then j else i)) H) Vv:=by
 intro P H ds vs Q ht hl h;unfold Vv at h;split at h
 ·obtain⟨v,w,rfl,hv,hw⟩:=hl.two;cases hv;cases hw;exact⟨_,_,rfl,h _ H (Ae.refl H) (.int _)⟩
 ·exact h.elim
def gY (hc:X.calm=true)(hg:Gl X "max")(hm:X.mg "max" = none)(ha:DE X WX c a f)(l8:DE X WX c b g)(hb:bootBuiltins "max" = some (.builtin "max"):=by decide +kernel)(hs: ~~~(starEach [b] X.env=[(false,eval b X.env)]))(a8: ~~~(starEach [a,b] X.env=(false,eval a X.env)::starEach [b] X.env))(hpl: ~~~((backTo pos (starEach [b] X.env)).any (·.1)=false)):
 DE X WX c (.Call (.Name "max" p) [a,b] [] pos) (λ ρ=>((f ρ).bind λ d=>((g ρ).bind λ d=>(M.ok []).bind λ ds=>.ok (d::ds)).bind λ ds=>.ok (d::ds)).bind Vv):=
 IU (WB hc) gW hg hm hb (A2 ha (A2 l8 A7 hs) a8) (he:=a8) (hpl:=hpl)
end
def oG (t:Tr P P H P2 H'){a}(h:P2 a)(hn:¬ P a):H a=none:=by
 cases q:H a with
 |none=>rfl
 |some o =>
  have:=t.1 a o (by rw[Au hn];exact q);exact ((Am this).1 h).elim
section
variable {f:Ac->M D}
abbrev gZ:V->List V->Hp->VK->Prop:=λ x vs H Q=>∃(l:Addr) (xs:List V) (k:Nat) (y:V),x=.ref l/\vs=[.int (k:Int),y]/\H l=some (.lst xs)/\k<=xs.length/\xs.length<sizeLine/\Q .AE (upd H l (.lst (xs.take k++y::xs.drop k)))
def RO:∀ {xs:List V}{us:List Value}{y:V}{w:Value},Vals xs us->∀k:Nat,RelV y w->Vals (xs.take k++y::xs.drop k) (us.take k++w::us.drop k)
 |_,_,_,_,r,0,h=>.cons h r
 |_,_,_,_,.nil,k+1,h=>.cons h .nil
 |_,_,_,_,.cons a t,k+1,h=>.cons a (RO t k h)
def Ze (x:Int)(u:Tok)(y:Value)(hc:¬(!Builtin.List.listFitsIndex x)=true)(hs:items.size<=sizeLine)(e:s.heap.get? l=some {cls:=.type "list",data:=.seq items n})(h:Q .none {s with heap:=s.heap.update l (zc5 λ xs=>(xs.extract 0 (if x<0 then (x+(xs.size:Int)).toNat else min x.toNat xs.size)).push y++xs.extract (if x<0 then (x+(xs.size:Int)).toNat else min x.toNat xs.size)),toks:=s.toks}):wpAny (model prog wd) A (call (.builtin "list.insert") [.ref l,.int x u,y]) Q E s:=by
 have hm:=PySem.AutoSeq1.list_insert_list_int_val_1 l items n x u y hc hs;have ha:=PySem.F.args_list_insert_3 (.ref l) (.int x u) y;exact call_meets PySem.F.slot_list_insert ⟨_,e,rfl⟩ PySem.F.entry_list_insert ha hm ⟨e,h⟩
def X5:uK X "list.insert" gZ:=by
 intro pins s σ H x vs v us Q I rx rv h;obtain⟨l,xs,k,y,rfl,rfl,hH,hk,hz,q⟩:=h;cases rx;obtain⟨u,w,rfl,ru,ba⟩:=rv.two;obtain⟨tk,rfl⟩:=ru;obtain⟨z,aa,n,r,hl,e⟩:=I.WJ hH;have hlen:=r.length;have h63:=Ke;have ff:¬ (!Builtin.List.listFitsIndex (k:Int))=true:=by
  unfold Builtin.List.listFitsIndex;simp;omega
 have hsz:aa.toArray.size<=sizeLine:=by rw[zae,<-hl];exact zbf hz
 refine Ze (k:Int) tk w ff hsz e ?_;refine⟨.AE,_,I.fG (its':=aa.take k++w::aa.drop k) hH e ?_ ?_ ?_,rfl,q⟩
 ·have e1:¬ ((k:Int)<0):=by omega
  have e2:min (k:Int).toNat aa.toArray.size=k:=by rw[zb4,zae];omega
  simp only[e1,if_false,e2];apply Array.toList_inj.mp;simp;rw[zdh (by rw[zcv];exact zag _)]
 ·exact RO r k ba
 ·rw[zav,za9,zbo,zcv];omega
abbrev X6 (i:Nat)(ρ:Ac)(mk md:M D):M Out:=match ρ[i]? with
 |some (some (.own ds))=>mk.bind λ k=>md.bind λ d=>match k with
  | .int j=>if 0<=j/\j.toNat<=ds.length/\ds.length<1000 then .ok (.next (ρ.set i (some (.own (ds.take j.toNat++d::ds.drop j.toNat))))) else .bad
  |_=>.bad
 |_=>.bad
def OL {K}:∀ {vs:List V}{ds:List D}(n:Nat),Ag K H vs ds->Ag K H (vs.take n) (ds.take n)
 |_,_,0,_=>by rw[List.take_zero,List.take_zero];exact .nil
 |_,_,_+1,.nil=>.nil
 |_,_,n+1,.cons h t=>by rw[List.take_succ_cons,List.take_succ_cons];exact .cons h (OL n t)
def OM {K}:∀ {vs:List V}{ds:List D}(n:Nat),Ag K H vs ds->Ag K H (vs.drop n) (ds.drop n)
 |_,_,0,h=>h
 |_,_,_+1,.nil=>.nil
 |_,_,n+1,.cons h t=>by rw[List.drop_succ_cons,List.drop_succ_cons];exact OM n t
def RP {K:za0}{H:Hp}:∀ {vs ws:List V}{ds es:List D},Ag K H vs ds->Ag K H ws es->Ag K H (vs++ws) (ds++es)
 |_,_,_,_,.nil,k=>k
 |_,_,_,_,.cons h t,k=>.cons h (RP t k)
def X7 (i:Nat)(hv:PE X (.Name x p1) (Lm i))(hk:DE X WX true a f)(hd:DE X WX true b g)(hs: ~~~(starEach [a,b] X.env=(false,eval a X.env)::starEach [b] X.env))(a8: ~~~(starEach [b] X.env=[(false,eval b X.env)]))(bz: ~~~(swapsWith (.Call (.Attribute (.Name x p1) "insert" apos) [a,b] [] af) none pos.line X.env=pure false))(az: ~~~(attributeBase (.Name x p1) "insert" X.env (eval (.Name x p1) X.env)=eval (.Name x p1) X.env))(aL: ~~~(((backTo af (starEach [a,b] X.env)).all (λ x => !x.1)&&(backToKw af (keywordEach [] X.env)).all (λ x=>x.1.isSome)&&decide (([a,b]:List Expr).length+([]:List Keyword).length+(if ([]:List Keyword).isEmpty then 0 else 1)<30))=true))(a5: ~~~((apos.endLine==af.line)=true))(am: ~~~((backTo af (starEach [b] X.env)).any (·.1)=false)):
 DS X WX (.Expr (.Call (.Attribute (.Name x p1) "insert" apos) [a,b] [] af) pos) (λ ρ=>X6 i ρ (f ρ) (g ρ)):=by
 obtain⟨ta,a1,a2⟩:=hk;obtain⟨tb,b1,b2⟩:=hd;refine⟨_,GR (Rv zd6 PySem.F.slot_list_insert PySem.F.type_list_insert X5 hv (Bu a1 (Bu b1 CD a8) hs) az aL a5 hs am) bz,λ P0 P σ H Z ρ E h=>?_⟩;dsimp only at h;unfold X6 at h;split at h
 ·rename_i ds e1;obtain⟨p,xs,h1,h2,h3,h4,h5⟩:=E.own i ds e1;refine⟨_,h1,.inl ⟨rfl,xs,.of h2⟩,a2 P0 P σ H _ ρ E ?_⟩;refine fZ h E λ k h=>?_;intro w H1 s1 hw;have E1:=E.same s1;refine b2 P0 P σ H1 _ ρ E1 ?_;cases q2:g ρ with
  |bad=>rw[q2] at h;exact h
  |ex y=>rw[q2] at h;exact λ H' s=>h H' P ((E.tr s1).trans (E1.tr s))
  |ok d =>
   rw[q2] at h;simp only[M.A8] at h;intro v H2 s2 o8;have E2:=E1.same s2;have ce:=s1.trans s2;split at h
   ·rename_i j;cases hw;by_cases hj:0<=j/\j.toNat<=ds.length/\ds.length<1000
    ·rw[if_pos hj] at h;have wr:((j.toNat:Nat):Int)=j:=Int.toNat_of_nonneg hj.1;have t5:=h5.mono ce.del;refine⟨p,xs,j.toNat,v,rfl,by rw[wr],ce _ _ h2,by rw[h5.length];exact hj.2.1,AA (by rw[h5.length];exact zbf hj.2.2),?_⟩;obtain⟨E3,t3⟩:=E2.mut e1 h1 h3 h4 (RP (OL j.toNat t5) (.cons o8 (OM j.toNat t5)));exact h _ _ _ ((E.tr ce).trans t3) E3
    ·rw[if_neg hj] at h;exact h.elim
   ·exact h.elim
 ·exact h.elim
abbrev sW (ds:List D):M D:=match ds with
 |[.lst xs]=>(match Gm xs with|some bs=>.ok (.bl (bs.any id))|none=>.bad)
 |_=>.bad
end
abbrev kids:OT->List OT
 | .sh _=>[]
 | .lst ts| .tup ts| .Bm _ _ ts| .ins _ _ ts=>ts
abbrev LI:OT->List OT->OT
 | .sh d,_=>.sh d
 | .lst _,ts=>.lst ts
 | .tup _,ts=>.tup ts
 | .Bm b ks _,ts=>.Bm b ks ts
 | .ins x ns _,ts=>.ins x ns ts
abbrev Ko:OT->List Nat->Option OT
 |t,[]=>some t
 |t,j::π=>match (kids t)[j]? with|some s=>Ko s π|none=>none
abbrev EU:OT->List Nat->OT->OT
 |_,[],u=>u
 |t,j::π,u=>match (kids t)[j]? with|some s=>LI t ((kids t).set j (EU s π u))|none=>t
@[simp] theorem Zf (t:OT):Ko t []=some t:=by unfold Ko;rfl
@[simp] theorem F7 (t u:OT):EU t [] u=u:=by unfold EU;rfl
def X8 (h:(kids t)[j]?=some s):Ko t (j::π)=Ko s π:=by rw[Ko,h]
def X9 (h:(kids t)[j]?=some s):EU t (j::π) u=LI t ((kids t).set j (EU s π u)):=by rw[EU,h]
section
variable {K:za0}
abbrev CM (K:za0)(H:Hp)(P:Addr->Prop)(v:V)(t:OT)(q:List Addr)(xs:List V):Prop:=match t with
 | .sh _=>False
 | .lst ts=>∃p,v=.ref p/\q=[p]/\H p=some (.lst xs)
 | .tup ts=>∃p,v=.ref p/\q=[]/\del H P p=some (.tup xs)
 | .Bm false ks ts=>∃p kvs,v=.ref p/\q=[p]/\H p=some (.dK kvs)/\ks=(kvs.map λ kv=>Dv kv.1)/\xs=kvs.map zc7
 | .Bm true ks ts=>∃p kvs,v=.ref p/\q=[p]/\H p=some (.dT kvs)/\ks=(kvs.map λ kv=>.tup (kv.1.map Dv))/\xs=kvs.map zc7
 | .ins x ns ts=>∃p C dx fs,v=.ref p/\q=[p]/\zaw K mainGlobals x=some (some (.ref C))/\H p=some (.ins C dx fs)/\ns=fs.map zba/\xs=fs.map zc7
def CM.own (h:CM K H P v t q xs)(r:AF K H P xs (kids t) fp):C9 K H P v t (q++fp):=by
 cases t with
 |sh d=>exact h.elim
 |lst ts=>obtain⟨p,rfl,rfl,h⟩:=h;exact .lst h r
 |tup ts=>obtain⟨p,rfl,rfl,h⟩:=h;exact .tup h r
 |Bm b ks ts =>
  cases b with
  |false=>obtain⟨p,kvs,rfl,rfl,h,rfl,rfl⟩:=h;exact .dK h r
  |true=>obtain⟨p,kvs,rfl,rfl,h,rfl,rfl⟩:=h;exact .dT h r
 |ins x ns ts=>obtain⟨p,C,dx,fs,rfl,rfl,n,h,rfl,rfl⟩:=h;exact .ins n h r
def C9.node (h:C9 K H P v t fp)(hk:kids t≠[]\/∀d,t≠.sh d):∃q xs fq,fp=q++fq/\CM K H P v t q xs/\AF K H P xs (kids t) fq:=by
 cases h with
 |sh h=>rcases hk with hk|hk;exact (hk rfl).elim;exact (hk _ rfl).elim
 |lst h r=>exact⟨[_],_,_,rfl,⟨_,rfl,rfl,h⟩,r⟩
 |tup h r=>exact⟨[],_,_,rfl,⟨_,rfl,rfl,h⟩,r⟩
 |dK h r|dT h r=>exact⟨[_],_,_,rfl,⟨_,_,rfl,rfl,h,rfl,rfl⟩,r⟩
 |ins n h r=>exact⟨[_],_,_,rfl,⟨_,_,_,_,rfl,rfl,n,h,rfl,rfl⟩,r⟩
def CM.move (sm:Ae (del H P) (del H' P'))(k:∀a∈q,H' a=H a)(h:CM K H P v t q xs):CM K H' P' v t q xs:=by
 cases t with
 |sh d=>exact h.elim
 |lst ts=>obtain⟨p,rfl,rfl,h⟩:=h;exact⟨p,rfl,rfl,(k p za3).trans h⟩
 |tup ts=>obtain⟨p,rfl,rfl,h⟩:=h;exact⟨p,rfl,rfl,sm _ _ h⟩
 |Bm b ks ts =>
  cases b with
  |false|true=>obtain⟨p,kvs,rfl,rfl,h,rfl,rfl⟩:=h;exact⟨p,kvs,rfl,rfl,(k p za3).trans h,rfl,rfl⟩
 |ins x ns ts=>obtain⟨p,C,dx,fs,rfl,rfl,n,h,rfl,rfl⟩:=h;exact⟨p,C,dx,fs,rfl,rfl,n,(k p za3).trans h,rfl,rfl⟩
def CM.kids (h:CM K H P v t q xs)(ts:List OT):CM K H P v (LI t ts) q xs:=by
 cases t with
 |sh d=>exact h.elim
 |lst us|tup us=>exact h
 |Bm b ks us=>cases b<;>exact h
 |ins x ns us=>exact h
def Qa (h:CM K H P v t q xs)(ts:List OT):L2.kids (LI t ts)=ts:=by
 cases t with
 |sh d=>exact h.elim
 |lst us|tup us|Bm b ks us|ins x ns us=>rfl
def CM.inj (h:CM K H P v t q xs)(h':CM K H P v t q' du):q=q'/\xs=du:=by
 cases t with
 |sh d=>exact h.elim
 |lst ts|tup ts=>obtain⟨p,rfl,rfl,h⟩:=h;obtain⟨p',e,rfl,h'⟩:=h';cases e;rw[h] at h';cases h';exact⟨rfl,rfl⟩
 |Bm b ks ts =>
  cases b with
  |false|true=>obtain⟨p,kvs,rfl,rfl,h,_,rfl⟩:=h;obtain⟨p',o9,e,rfl,h',_,rfl⟩:=h';cases e;rw[h] at h';cases h';exact⟨rfl,rfl⟩
 |ins x ns ts=>obtain⟨p,C,dx,fs,rfl,rfl,n,h,_,rfl⟩:=h;obtain⟨p',C',dx',bP,e,rfl,n',h',_,rfl⟩:=h';cases e;rw[h] at h';cases h';exact⟨rfl,rfl⟩
inductive J2 (K:za0) (H:Hp) (P:Addr->Prop):V->OT->List Nat->V->OT->Prop
 |nil {v t}:J2 K H P v t [] v t
 |cons {v t q xs j x s π v1 t1}:CM K H P v t q xs->xs[j]?=some x->(kids t)[j]?=some s->J2 K H P x s π v1 t1->J2 K H P v t (j::π) v1 t1
def J2.sub (h:J2 K H P v t π v1 t1):Ko t π=some t1:=by
 induction h with
 |nil=>exact Zf _
 |cons _ _ hs _ ih=>rw[X8 hs];exact ih
def AF.get:∀ {xs:List V}{ts:List OT}{fp:List Addr}{j:Nat}{x:V}{s:OT},AF K H P xs ts fp->xs[j]?=some x->ts[j]?=some s->∃pre fs post,fp=pre++fs++post/\C9 K H P x s fs
 |_,_,_,_,_,_,.nil,e,_=>by simp at e
 |_,_,_,0,_,_,.cons h r,e,e'=>by
  simp at e e';subst e;subst e';exact⟨[],_,_,rfl,h⟩
 |_,_,_,j+1,_,_,.cons (fp:=f1) h r,e,e'=>by
  obtain⟨pre,fs,post,z,q⟩:=AF.get r (by simpa using e) (by simpa using e');exact⟨f1++pre,fs,post,by rw[z];simp,q⟩
def AF.len:∀ {xs:List V}{ts:List OT}{fp:List Addr},AF K H P xs ts fp->xs.length=ts.length
 |_,_,_,.nil=>rfl
 |_,_,_,.cons _ r=>by rw[za9,za9,r.len]
def C9.part (h:C9 K H P v t fp)(s:J2 K H P v t π v1 t1):∃ay,C9 K H P v1 t1 ay/\(∀a∈ay,a∈fp)/\(fp.Nodup->ay.Nodup):=by
 induction s generalizing fp with
 |nil=>exact⟨fp,h,λ _ h=>h,λ h=>h⟩
 |cons n hx hs _ ih =>
  obtain⟨q,xs,fq,rfl,n',r⟩:=h.node (.inl λ z=>by rw[z] at hs;cases hs);obtain⟨rfl,rfl⟩:=n.inj n';obtain⟨pre,fs,post,rfl,o⟩:=r.get hx hs;obtain⟨ay,o1,k,kn⟩:=ih o;exact⟨ay,o1,λ a ha=>zad _ (zb5 _ (zad _ (k a ha))),λ nd=>kn (zax.mp (zax.mp (zax.mp nd).2.1).1).2.1⟩
def AF.put (sm:Ae (del H P) (del H' P')):∀ {xs:List V}{ts:List OT}{fp:List Addr}{j:Nat}{x:V}{s s':OT}{fs bP:List Addr},AF K H P xs ts fp->xs[j]?=some x->ts[j]?=some s->C9 K H P x s fs->C9 K H' P' x s' bP->(∀a∈fp,a∉fs->H' a=H a)->fp.Nodup->bP.Nodup->(∀a∈bP,a∈fp->a∈fs)->
 ∃ah,AF K H' P' xs (ts.set j s') ah/\ah.Nodup/\∀a∈ah,a∈bP\/(a∈fp/\a∉fs)
 |_,_,_,_,_,_,_,_,_,.nil,e,_,_,_,_,_,_,_=>by simp at e
 |_,_,_,0,x,s,s',fs,bP,.cons (fp:=f1) (fq:=f2) h r,e,e',o,o',k,nd,dz,dj=>by
  simp at e e';subst e;subst e';have:=h.Cs o;subst this;have bf:=zax.mp nd;have k2:∀a∈f2,a∉f1:=λ a ha hb=>bf.2.2 a hb a ha rfl;refine⟨bP++f2,.cons o' (r.move sm λ a ha=>k a (zad _ ha) (k2 a ha)),zax.mpr ⟨dz,bf.2.1,λ a ha b hb z=>?_⟩,λ a ha=>?_⟩
  ·subst z;exact k2 a hb (dj a ha (zad _ hb))
  ·rcases zaq.mp ha with ha|ha
   ·exact .inl ha
   ·exact .inr ⟨zad _ ha,k2 a ha⟩
 |_,_,_,j+1,x,s,s',fs,bP,.cons (vs:=tf) (ts:=wt) (fp:=f1) (fq:=f2) h r,e,e',o,o',k,nd,dz,dj=>by
  have bf:=zax.mp nd;have e2:tf[j]?=some x:=by simpa using e
  have e3:wt[j]?=some s:=by simpa using e'
  obtain⟨pre,fx,post,hf,ox⟩:=r.get e2 e3;have:=ox.Cs o;subst this;have k1:∀a∈f1,a∉fx:=λ a ha hb=>bf.2.2 a ha a (by rw[hf];exact zb5 _ (zad _ hb)) rfl;obtain⟨ah,q1,q2,q3⟩:=AF.put sm r e2 e3 o o' (λ a ha hn=>k a (zad _ ha) hn) bf.2.1 dz (λ a ha hb=>dj a ha (zad _ hb));refine⟨f1++ah,.cons (h.move sm λ a ha=>k a (zb5 _ ha) (k1 a ha)) q1,zax.mpr ⟨bf.1,q2,λ a ha b hb z=>?_⟩,λ a ha=>?_⟩
  ·subst z;rcases q3 a hb with z|z
   ·exact k1 a ha (dj a z (zb5 _ ha))
   ·exact bf.2.2 a ha a z.1 rfl
  ·rcases zaq.mp ha with ha|ha
   ·exact .inr ⟨zb5 _ ha,k1 a ha⟩
   ·rcases q3 a ha with z|z
    ·exact .inl z
    ·exact .inr ⟨zad _ z.1,z.2⟩
def C9.put (sm:Ae (del H P) (del H' P'))(h:C9 K H P v t fp)(s:J2 K H P v t π v1 t1)(o:C9 K H P v1 t1 ay)(o':C9 K H' P' v1 u fu)(k:∀a∈fp,a∉ay->H' a=H a)(nd:fp.Nodup)(dz:fu.Nodup)(dj:∀a∈fu,a∈fp->a∈ay):
 ∃ah,C9 K H' P' v (EU t π u) ah/\ah.Nodup/\∀a∈ah,a∈fu\/(a∈fp/\a∉ay):=by
 induction s generalizing fp with
 |nil =>
  rw[F7];exact⟨fu,o',dz,λ a ha=>.inl ha⟩
 | @cons v t q xs j x s π v1 t1 n hx hs s1 ih =>
  obtain⟨q',du,fq,rfl,n',r⟩:=h.node (.inl λ z=>by rw[z] at hs;cases hs);obtain⟨rfl,rfl⟩:=n.inj n';have jn:=zax.mp nd;obtain⟨pre,fs,post,hf,ox⟩:=r.get hx hs;have sub:∀a∈fs,a∈fq:=λ a ha=>by rw[hf];exact zb5 _ (zad _ ha)
  have wu:fs.Nodup:=by
   have:=jn.2.1;rw[hf] at this;exact (zax.mp (zax.mp this).1).2.1
  obtain⟨fz,oz,kz,_⟩:=ox.part s1;have:=oz.Cs o;subst this;obtain⟨bP,q1,q2,q3⟩:=ih ox o o' (λ a ha hn=>k a (zad _ (sub a ha)) hn) wu (λ a ha hb=>dj a ha (zad _ (sub a hb)));have qf:∀a∈q,a∉fs:=λ a ha hb=>jn.2.2 a ha a (sub a hb) rfl;have kq:∀a∈q,H' a=H a:=λ a ha=>k a (zb5 _ ha) λ z=>qf a ha (kz a z);obtain⟨ah,p1,p2,p3⟩:=r.put sm hx hs ox q1 (λ a ha hn=>k a (zad _ ha) λ z=>hn (kz a z)) jn.2.1 q2 (λ a ha hb=>by
   rcases q3 a ha with z|z
   ·exact kz a (dj a z (zad _ hb))
   ·exact z.1)
  rw[X9 hs];have n2:=(n.move sm kq).kids ((kids t).set j (EU s π u));have o2:=n2.own (fp:=ah) (by rw[Qa n];exact p1);refine⟨q++ah,o2,zax.mpr ⟨jn.1,p2,λ a ha b hb z=>?_⟩,λ a ha=>?_⟩
  ·subst z;rcases p3 a hb with z|z
   ·rcases q3 a z with y|y
    ·exact qf a ha (kz a (dj a y (zb5 _ ha)))
    ·exact qf a ha y.1
   ·exact jn.2.2 a ha a z.1 rfl
  ·rcases zaq.mp ha with ha|ha
   ·exact .inr ⟨zb5 _ ha,λ z=>qf a ha (kz a z)⟩
   ·rcases p3 a ha with z|z
    ·rcases q3 a z with y|y
     ·exact .inl y
     ·exact .inr ⟨zad _ (sub a y.1),y.2⟩
    ·exact .inr ⟨zad _ z.1,λ y=>z.2 (kz a y)⟩
end
abbrev PU (P:Addr->Prop)(fp:List Addr):Addr->Prop:=λ a=>P a\/a∈fp
def MH:∀a,P a->PU P fp a:=λ a h=>.inl h
def Dr (s:Ae H H')(hn:∀a∈fp,H a=none):Ae (del H P) (del H' (PU P fp)):=λ b o e=>by
 obtain⟨h1,h2⟩:=Am e;rw[Au λ z=>z.elim h1 λ w=>by rw[hn b w] at h2;cases h2];exact s b o h2
def Qb:del H (PU P [])=del H P:=by
 funext b;by_cases h:P b
 ·rw[De h,De (.inl h)]
 ·rw[Au h,Au λ z=>z.elim h λ w=>by cases w]
def Kq {K}(hP:∀a,P a->DC H' a)(o:C9 K H' Q v t fp):∀a,PU P fp a->DC H' a:=λ a h=>h.elim (hP a) (o.Cp a)
def Vw {K}(hP:∀a,P a->DC H' a)(o:AF K H' Q v t fp):∀a,PU P fp a->DC H' a:=λ a h=>h.elim (hP a) (o.Cp a)
def Al.more {K}(E:Al K P0 P H σ ρ)(e:Ae H H')(hs:∀a,P a->P' a)(ht:∀a,P' a->DC H' a)(sm:Ae (del H P) (del H' P')):Al K P0 P' H' σ ρ:=by
 have keep:∀(c:Cl) (v:V) (fp:List Addr),Dz K H P c v fp->∀a∈fp,H' a=H a:=λ c v fp o a ha=>by
  obtain⟨xs,q⟩:=o.at a ha;rw[q];exact e _ _ q
 exact⟨λ a h=>hs a (E.sub a h),ht,λ i d h=>let ⟨v,h1,h2⟩:=E.val i d h;⟨v,h1,h2.mono sm⟩,
  λ i c h io=>let ⟨v,fp,h1,h2,h3,h4⟩:=E.ows i c h io;⟨v,fp,h1,h2.move sm (keep c v fp h2),λ a ha=>⟨hs a (h3 a ha).1,(h3 a ha).2⟩,h4⟩,
  λ i j c c' v v' fp ah hi hj si sj h h' ae=>E.YQ sm (λ v fp _ o a ha=>keep _ _ _ o a ha) (λ v fp _ o a ha=>keep _ _ _ o a ha) hi hj si sj h h' ae,E.len,E.pin⟩
abbrev Zg (K:za0)(WX:Str->Hp->Prop)(P:Addr->Prop)(H:Hp)(Q:VK):M OT->Prop
 | .ok t=>∀v fp H',Ae H H'->(∀a∈fp,H a=none)->fp.Nodup->C9 K H' (PU P fp) v t fp->Q v H'
 | .ex x=>∀H',Ae H H'->WX x H'
 | .bad=>False
abbrev yW (K:za0)(WX:Str->Hp->Prop)(P:Addr->Prop)(H:Hp)(Q:List V->Hp->Prop):M (List OT)->Prop
 | .ok t=>∀v fp H',Ae H H'->(∀a∈fp,H a=none)->fp.Nodup->AF K H' (PU P fp) v t fp->Q v H'
 | .ex x=>∀H',Ae H H'->WX x H'
 | .bad=>False
def F8 (s:Ae H H'){a}(h:H' a=none):H a=none:=by
 cases q:H a with
 |none=>rfl
 |some o=>rw[s a o q] at h;cases h
section
variable {K:za0}
def Zg.same (h:Zg K WX P H Q m)(e:Ae H H'):Zg K WX P H' Q m:=by
 cases m with
 |ok d=>exact λ v fp H2 q hn nd o=>h v fp H2 (e.trans q) (λ a ha=>F8 e (hn a ha)) nd o
 |ex x=>exact λ H2 q=>h H2 (e.trans q)
 |bad=>exact h
end
abbrev DN (X:Cx)(WX:Str->Hp->Prop)(e:Expr)(f:Ac->M OT):Prop:=
 ∃t,PE X e t/\∀P0 P σ H Q ρ,Al X.K P0 P H σ ρ->Zg X.K WX P H Q (f ρ)->t σ H Q
abbrev sX (X:Cx)(WX:Str->Hp->Prop)(es:List Expr)(f:Ac->M (List OT)):Prop:=
 ∃t,PA X es t/\(∀P0 P σ H Q ρ,Al X.K P0 P H σ ρ->yW X.K WX P H Q (f ρ)->t σ H Q)/\∀ρ ts,f ρ=.ok ts->ts.length=es.length
abbrev sY (d:D):M OT:=.ok (.sh d)
abbrev qL (t:OT):M D:=.ok (er t)
section
variable {f:Ac->M D}
def AY (h:DE X WX true e f):DN X WX e (λ ρ=>(f ρ).bind sY):=by
 obtain⟨t,h1,h2⟩:=h;refine⟨t,h1,λ P0 P σ H Q ρ E g=>h2 P0 P σ H Q ρ E ?_⟩;dsimp only at g;cases q:f ρ with
 |bad|ex x=>rw[q] at g;exact g
 |ok d=>rw[q] at g;exact λ v H' s hv=>g v [] H' s (λ a ha=>by cases ha) zbz (.sh (by rw[Qb];exact hv))
def Ah (h:DN X WX e fn):DE X WX c e (λ ρ=>(fn ρ).bind qL):=by
 suffices z:DE X WX true e (λ ρ=>(fn ρ).bind qL) by
  cases c with
  |true=>exact z
  |false=>exact Mv z
 obtain⟨t,h1,h2⟩:=h;refine⟨t,h1,λ P0 P σ H Q ρ E g=>h2 P0 P σ H Q ρ E ?_⟩;dsimp only at g;cases q:fn ρ with
 |bad|ex x=>rw[q] at g;exact g
 |ok d =>
  rw[q] at g;exact λ v fp H' s hn nd o=>g v H' s (o.has MH λ a ha z=>(E.Cp a z).no (hn a ha))
def EI:sX X WX [] (λ _=>.ok []):=⟨_,CD,λ P0 P σ H Q ρ E h=>h [] [] H (Ae.refl H) (λ a ha=>by cases ha) zbz .nil,λ ρ ds h=>by cases h;rfl⟩
def RQ (he:DN X WX e fn)(hr:sX X WX es fs)(hs: ~~~(starEach (e::es) X.env=(false,eval e X.env)::starEach es X.env)):
 sX X WX (e::es) (λ ρ=>(fn ρ).bind λ d=>(fs ρ).bind λ ds=>.ok (d::ds)):=by
 obtain⟨te,e1,e2⟩:=he;obtain⟨tr,r1,r2,r3⟩:=hr;refine⟨_,Bu e1 r1 hs,λ P0 P σ H Q ρ E h=>?_,λ ρ ds h=>?_⟩
 rotate_left
 ·dsimp only at h;cases q:fn ρ with
  |bad|ex x=>rw[q] at h;cases h
  |ok x =>
   rw[q] at h;cases q2:fs ρ with
   |bad|ex x=>rw[q2] at h;cases h
   |ok xs =>
    rw[q2] at h;cases h;rw[za9,za9,r3 ρ xs q2]
 dsimp only at h;refine e2 P0 P σ H _ ρ E ?_;cases q:fn ρ with
 |bad|ex x=>rw[q] at h;exact h
 |ok x =>
  rw[q] at h;intro v fp H1 s1 n1 gh o1;have E1:Al X.K P0 (PU P fp) H1 σ ρ:=E.more s1 MH (Kq (E.same s1).Cp o1) (Dr s1 n1);refine r2 P0 (PU P fp) σ H1 _ ρ E1 ?_;cases q2:fs ρ with
  |bad=>rw[q2] at h;exact h
  |ex y=>rw[q2] at h;exact λ H' s=>h H' (s1.trans s)
  |ok ds =>
   rw[q2] at h;intro vs fq H2 s2 n2 bf o2;have dj:∀a∈fp,a∉fq:=λ a ha hb=>(o1.Cp a ha).no (n2 a hb);have eP:PU (PU P fp) fq=PU P (fp++fq):=by
    funext a;simp only[PU,zaq,or_assoc]
   have sm:Ae (del H1 (PU P fp)) (del H2 (PU P (fp++fq))):=by rw[<-eP];exact Dr s2 n2
   refine h _ (fp++fq) H2 (s1.trans s2) (λ a ha=>?_) (zax.mpr ⟨gh,bf,λ a ha b hb z=>dj a ha (by rw[z];exact hb)⟩) (.cons (o1.move sm λ a ha=>?_) (by rw[<-eP];exact o2))
   ·rcases zaq.mp ha with ha|ha
    ·exact n1 a ha
    ·exact F8 s1 (n2 a ha)
   ·obtain⟨o,z,_⟩:=o1.Cp a ha;rw[z];exact s2 _ _ z
def oH (hn:H p=none)(hP:∀a,PU P fp a->DC H a):Ae (del H (PU P fp)) (del (upd H p o) (PU P (p::fp))):=λ b u e=>by
 obtain⟨h1,h2⟩:=Am e;have hb:b≠p:=Ax h2 hn;rw[Au λ z=>z.elim (λ z=>h1 (.inl z)) λ w=>(zab.mp w).elim hb λ w=>h1 (.inr w),Ai hb];exact h2
def Ia (ha:sX X WX es fs)(hz:es.length<=1000:=by decide):DN X WX (.List es pos) (λ ρ=>(fs ρ).bind λ ts=>.ok (.lst ts)):=by
 obtain⟨ta,a1,a2,a3⟩:=ha;refine⟨_,PH a1,λ P0 P σ H Q ρ E h=>?_⟩;dsimp only at h;refine a2 P0 P σ H _ ρ E ?_;cases q:fs ρ with
 |bad|ex y=>rw[q] at h;exact h
 |ok ts =>
  rw[q] at h;simp only[M.A8] at h;intro vs fp H1 s1 n1 gh o1;have hP:=Vw (E.same s1).Cp o1;refine⟨zbf (AA (by rw[o1.len,a3 ρ ts q];exact hz)),λ p hp=>?_⟩;have ae:∀a∈fp,a≠p:=λ a ha z=>(o1.Cp a ha).no (by rw[z];exact hp);exact h _ (p::fp) _ (s1.trans (AQ hp _)) (λ a ha=>(zab.mp ha).elim (λ z=>by rw[z];exact F8 s1 hp) (n1 a)) (zbg.mpr ⟨λ z=>ae p z rfl,gh⟩) (.lst Aq (o1.move (oH hp hP) λ a ha=>Ai (ae a ha)))
def hV (hn:H p=none)(hP:∀a,PU P fp a->DC H a):Ae (del H (PU P fp)) (del (upd H p o) (PU P fp)):=λ b u e=>by
 obtain⟨h1,h2⟩:=Am e;have hb:b≠p:=Ax h2 hn;rw[Au h1,Ai hb];exact h2
def oI {x1}(ha:sX X WX es fs)(hz:es.length<=1000:=by decide):DN X WX (.Tuple es x1 pos) (λ ρ=>(fs ρ).bind λ ts=>.ok (.tup ts)):=by
 obtain⟨ta,a1,a2,a3⟩:=ha;refine⟨_,Yv a1,λ P0 P σ H Q ρ E h=>?_⟩;dsimp only at h;refine a2 P0 P σ H _ ρ E ?_;cases q:fs ρ with
 |bad|ex y=>rw[q] at h;exact h
 |ok ts =>
  rw[q] at h;simp only[M.A8] at h;intro vs fp H1 s1 n1 gh o1;have hP:=Vw (E.same s1).Cp o1;refine⟨zbf (AA (by rw[o1.len,a3 ρ ts q];exact hz)),λ p hp=>?_⟩;have ae:∀a∈fp,a≠p:=λ a ha z=>(o1.Cp a ha).no (by rw[z];exact hp);refine h _ fp _ (s1.trans (AQ hp _)) n1 gh (.tup ?_ (o1.move (hV hp hP) λ a ha=>Ai (ae a ha)));rw[Au λ z=>(hP p z).no hp];exact Aq
def Ag.ows {K}:∀ {xs:List V}{ds:List D},Ag K (del H P) xs ds->AF K H P xs (ds.map .sh) []:=by
 intro _ _ x_;cases x_ with
 |nil=>exact .nil
 |cons h t=>exact .cons (.sh h) t.ows
def Zg.Ib {K}(h:Zg K WX P H Q (.ok (.lst (ds.map .sh))))(s1:Ae H H1)(hx:Ag K (del H1 P) xs ds):∀p,H1 p=none->Q (.ref p) (upd H1 p (.lst xs)):=λ p hp=>by
 have hn:∀a∈[p],H1 a=none:=λ a ha=>by rw[za7.mp ha];exact hp
 exact h _ [p] _ (s1.trans (AQ hp _)) (λ a ha=>F8 s1 (hn a ha)) (by simp) (.lst Aq (hx.mono (Dr (AQ hp _) hn)).ows)
def AF.oJ {K}:∀ {xs:List V}{ds:List D}{fp:List Addr},AF K H P xs (ds.map .sh) fp->fp=[]/\Ag K (del H P) xs ds
 |_,[],_,.nil=>⟨rfl,.nil⟩
 |_,d::ds,_,.cons (.sh h) r=>by
  obtain⟨rfl,q⟩:=AF.oJ r;exact⟨rfl,.cons h q⟩
abbrev Lq:Cl->Cl
 | .val d=>.val d
 | .own ds=>.val (.lst ds)
 | .ow (.rows C8)=>.val (.lst (C8.map D.lst))
 | .ow (.LF _ ds)=>.val (.lst ds)
 | .ow (.tree _ t)=>.val (er t)
abbrev ED (ρ:Ac):Ac:=ρ.map λ o=>o.map Lq
@[simp] theorem J3:ED []=[]:=rfl
@[simp] theorem GZ (ρ:Ac):ED (none::ρ)=none::ED ρ:=rfl
@[simp] theorem H9 (c:Cl) (ρ:Ac):ED (some c::ρ)=some (Lq c)::ED ρ:=rfl
def Al.low {K}(E:Al K P0 P H σ ρ):Al K P0 P0 H σ (ED ρ):=by
 have key:∀(i:Nat) (c:Cl),(ED ρ)[i]?=some (some c)->∃c',ρ[i]?=some (some c')/\c=Lq c':=λ i c h=>by
  unfold ED at h;rw[zan] at h;cases q:ρ[i]? with
  |none=>rw[q] at h;cases h
  |some o =>
   rw[q] at h;cases o with
   |none=>cases h
   |some c'=>cases h;exact⟨c',rfl,rfl⟩
 have pc:∀c,HY (Lq c)=false:=λ c=>by
  cases c with
  |val d|own ds=>rfl
  |ow o=>cases o<;>rfl
 have jo:∀c,OC (Lq c)=none:=λ c=>by
  cases c with
  |val d|own ds=>rfl
  |ow o=>cases o<;>rfl
 have wv:∀c v fp,¬ Dz K H P0 (Lq c) v fp:=λ c v fp h=>by
  cases c with
  |val d|own ds=>exact h
  |ow o=>cases o<;>exact h
 refine⟨λ _ h=>h,λ a h=>E.Cp a (E.sub a h),λ i d h=>?_,λ i c h io=>?_,λ i j c c' v v' fp ah hi hj si sj h h' ae=>?_,by unfold ED;rw[za2];exact E.len,λ i c n h hp=>by obtain⟨c',h1,rfl⟩:=key i _ h;rw[jo] at hp;cases hp⟩
 ·obtain⟨c,h1,h2⟩:=key i _ h;cases c with
  |val d' =>
   cases h2;obtain⟨v,q1,q2⟩:=E.val i d h1;exact⟨v,q1,q2.mono (CT E.sub)⟩
  |own ds =>
   cases h2;obtain⟨p,xs,q1,q2,q3,q4,q5⟩:=E.own i ds h1;exact⟨_,q1,.lst (.of (show del H P0 p=_ by rw[Au q4];exact q2)) (q5.mono (CT E.sub))⟩
  |ow o =>
   obtain⟨v,fp,q1,q2,q3,q4⟩:=E.ows i _ h1 rfl;cases o with
   |rows C8 =>
    cases h2;obtain⟨p,ps,rfl,rfl,q5,q6⟩:=q2;exact⟨_,q1,.lst (.of (show del H P0 p=_ by rw[Au (q3 p za3).2];exact q5)) (q6.nZ E.sub λ a ha=>(q3 a (za4 _ ha)).2)⟩
   |LF p ds =>
    cases h2;obtain⟨p,xs,rfl,rfl,q5,q6⟩:=q2;exact⟨_,q1,.lst (.of (show del H P0 p=_ by rw[Au (q3 p za3).2];exact q5)) (q6.mono (CT E.sub))⟩
   |tree p t =>
    cases h2;exact⟨_,q1,C9.has E.sub (λ a ha=>(q3 a ha).2) q2⟩
 ·obtain⟨c',h1,rfl⟩:=key i _ h;rw[pc] at io;cases io
 ·obtain⟨c1,h1,rfl⟩:=key i _ hi;exact (wv _ _ _ h).elim
def oK (h:DE X WX c e f):DE X WX false e (λ ρ=>f (ED ρ)):=by
 obtain⟨t,h1,h2⟩:=h;refine⟨t,h1,λ P0 P σ H Q ρ E g=>h2 P0 P0 σ H Q (ED ρ) E.low ?_⟩;have e:Lv c P0 P0=P0:=by cases c<;>rfl
 rw[e];exact g
def Gn (h:DT X WX e ft):DT X WX e (λ ρ=>ft (ED ρ)):=by
 obtain⟨t,h1,h2⟩:=h;exact⟨t,h1,λ P0 P σ H Q ρ E g=>h2 P0 P0 σ H Q (ED ρ) E.low g⟩
mutual
noncomputable def Gp:OT->Bool
 | .sh d=>J0 d
 | .lst ts| .tup ts| .Bm _ _ ts| .ins _ _ ts=>FU ts
noncomputable def FU:List OT->Bool
 |[]=>true
 |t::r=>Gp t&&FU r
end
mutual
theorem C9.clean {K:za0}{H:Hp}{P P':Addr->Prop}(ht:∀a,P' a->DC H a):∀ {v:V}{t:OT}{fp:List Addr},Gp t=true->C9 K H P v t fp->C9 K H P' v t fp:=by
 intro _ _ _ n x_;cases x_ with
 |sh h=>exact .sh (h.J0 ht (by rw[Gp] at n;exact n))
 |lst h r=>exact .lst h (AF.clean ht (by rw[Gp] at n;exact n) r)
 |tup h r=>exact .tup (Vr ht h) (AF.clean ht (by rw[Gp] at n;exact n) r)
 |dK h r=>exact .dK h (AF.clean ht (by rw[Gp] at n;exact n) r)
 |dT h r=>exact .dT h (AF.clean ht (by rw[Gp] at n;exact n) r)
 |ins x h r=>exact .ins x h (AF.clean ht (by rw[Gp] at n;exact n) r)
theorem AF.clean {K:za0}{H:Hp}{P P':Addr->Prop}(ht:∀a,P' a->DC H a):∀ {v:List V}{t:List OT}{fp:List Addr},FU t=true->AF K H P v t fp->AF K H P' v t fp:=by
 intro _ _ _ n x_;cases x_ with
 |nil=>exact .nil
 |cons h r =>
  rw[FU,zb2] at n;exact .cons (C9.clean ht n.1 h) (AF.clean ht n.2 r)
end
abbrev RS (m:M OT):M OT:=m.bind λ t=>if Gp t=true then .ok t else .bad
def DF (h:DN X WX e fn):DN X WX e (λ ρ=>RS (fn (ED ρ))):=by
 obtain⟨t,h1,h2⟩:=h;refine⟨t,h1,λ P0 P σ H Q ρ E g=>h2 P0 P0 σ H Q (ED ρ) E.low ?_⟩;unfold RS at g;dsimp only at g;cases q:fn (ED ρ) with
 |bad|ex x=>rw[q] at g;exact g
 |ok t =>
  rw[q] at g;simp only[M.A8] at g;by_cases hf:Gp t=true
  ·rw[if_pos hf] at g;exact λ v fp H' s hn nd o=>g v fp H' s hn nd (o.clean (Kq (E.same s).Cp o) hf)
  ·rw[if_neg hf] at g;exact g.elim
abbrev Ib (d:D):M OT:=match d with
 | .lst ds| .tup ds=>.ok (.lst (ds.map .sh))
 |_=>.bad
def Ha (hg:Gl X "list")(hm:X.mg "list" = none)(ha:DE X WX true e f)(hb:bootBuiltins "list" = some (.type "list"):=by decide +kernel)(aE: ~~~(starEach [e] X.env=[(false,eval e X.env)])):
 DN X WX (.Call (.Name "list" p) [e] [] pos) (λ ρ=>(f ρ).bind Ib):=by
 obtain⟨ta,a1,a2⟩:=ha;refine⟨_,Ou PQ hg hm hb (Bu a1 CD aE) (he:=aE),λ P0 P σ H Q ρ E h=>?_⟩;dsimp only at h;refine a2 P0 P σ H _ ρ E ?_;refine YO h λ d h=>?_;intro v H1 s1 hv;unfold Ib at h;split at h
 ·cases hv with
  |lst hs hh=>exact⟨_,_,rfl,.inl hs.B3,h.Ib s1 hh⟩
 ·cases hv with
  |tup hs hh=>exact⟨_,_,rfl,.inr (EQ.of (Am hs).2),h.Ib s1 hh⟩
 ·exact h.elim
abbrev yA (K:za0)(WX:Str->Hp->Prop)(r:R2)(aP:D->D->M OT):Prop:=
 ∀(P:Addr->Prop) (H:Hp) (x y:D) (v w:V) (Q:VK),(∀a,P a->DC H a)->BR K (del H P) v x->BR K (del H P) w y->Zg K WX P H Q (aP x y)->r v w H Q
def sZ (ha:∀P0 P σ H Q ρ,Al X.K P0 P H σ ρ->gV X.K WX (Lv true P0 P) H Q (f ρ)->ta σ H Q)(hb:∀P0 P σ H Q ρ,Al X.K P0 P H σ ρ->gV X.K WX (Lv true P0 P) H Q (g ρ)->tb σ H Q)(hr:yA X.K WX r aP)(E:Al X.K P0 P H σ ρ)(h:Zg X.K WX P H Q ((f ρ).bind λ x=>(g ρ).bind λ y=>aP x y)):qI r ta tb σ H Q:=by
 refine ha P0 P σ H _ ρ E ?_;cases e:f ρ with
 |bad|ex x=>rw[e] at h;exact h
 |ok x =>
  rw[e] at h;intro v H1 s1 hv;refine hb P0 P σ H1 _ ρ (E.same s1) ?_;cases e2:g ρ with
  |bad=>rw[e2] at h;exact h
  |ex y=>rw[e2] at h;exact λ H' s=>h H' (s1.trans s)
  |ok y =>
   rw[e2] at h;intro w H2 s2 hw;exact hr _ H2 x y v w Q ((E.same s1).same s2).Cp (hv.mono s2.del) hw ((h.same s1).same s2)
abbrev RT (x y:D):M OT:=match x,y with
 | .lst a,.lst b=>if a.length+b.length<=1000 then .ok (.lst ((a++b).map .sh)) else .bad
 |_,_=>.bad
end
abbrev spT (K:za0)(n:Nat)(F:List D->M OT):Sp:=λ vs H Q E=>vs.length=n/\∃P ds,(∀a,P a->DC H a)/\Ag K (del H P) vs ds/\Zg K (CQ K E) P H Q (F ds)
abbrev tD:Cl->M OT
 | .val d=>.ok (.sh d)
 | .own ds=>.ok (.lst (ds.map .sh))
 | .ow (.rows C8)=>.ok (.lst (C8.map λ ds=>.lst (ds.map .sh)))
 | .ow (.LF _ _)=>.bad
 | .ow (.tree none t)=>.ok t
 | .ow (.tree (some _) _)=>.bad
abbrev RU (m:M Out):M OT:=match m with
 | .ok (.ret d)=>.ok (.sh d)
 | .ok (.CF c)=>tD c
 | .ok (.next _)=>.ok (.sh .AE)
 | .ex x=>.ex x
 |_=>.bad
def BA.ows {K}:∀ {ps:List Addr}{C8:List (List D)},BA K H P ps C8->AF K H P (ps.map V.ref) (C8.map λ ds=>.lst (ds.map .sh)) ps:=by
 intro _ _ x_;cases x_ with
 |nil=>exact .nil
 |cons h r t=>exact .cons (.lst h r.ows) t.ows
def Dz.tree {K}{c}(h:Dz K H P c v fp)(e:tD c=.ok t):C9 K H P v t fp:=by
 cases c with
 |val d=>exact h.elim
 |own ds =>
  cases e;obtain⟨p,xs,rfl,rfl,h1,h2⟩:=h;exact .lst h1 h2.ows
 |ow o =>
  cases o with
  |rows C8 =>
   cases e;obtain⟨p,ps,rfl,rfl,h1,h2⟩:=h;exact .lst h1 h2.ows
  |LF p ds=>cases e
  |tree p t' =>
   cases p with
   |none=>cases e;exact h
   |some q=>cases e
section
variable {P:Program}{w:World}{K:za0}
def Vx {P}{c}(h:Zg K WX P H Q (tD c))(t:Tr P P H P2 H')(hs:∀a,P a->P2 a)(ho:Dz K H' P2 c v fp)(hp:∀a∈fp,P2 a/\¬ P a)(nd:fp.Nodup):Q v H':=by
 cases q:tD c with
 |bad=>rw[q] at h;exact h.elim
 |ex x=>cases c with
  |val d|own ds=>cases q
  |ow o =>
   cases o with
   |rows C8|LF p ds=>cases q
   |tree p t'=>cases p<;>cases q
 |ok u =>
  rw[q] at h;have o:=ho.tree q;refine h v fp H' (CB t) (λ a ha=>oG t (hp a ha).1 (hp a ha).2) nd (o.move (CT λ a ha=>ha.elim (hs a) λ z=>(hp a z).1) λ _ _=>rfl)
def tE {st}(F:Y4 K x qual st f fd)(S:Ad N ps (A4 st))(g:Ac->M Out)(hb:∀(B2:Value) (A:Around) (outer:List Env) (s:Shared) (H:Hp) (E:XK),Bp k (A.deeper (envOfC qual (A4 st) s.heap.objs.size f B2))->R7 (eG P w K mg base N qual (A4 st) f B2 A outer s H E) (CQ K E) (Aw st) g):
 D5 P w K mg base (U2 P w base) (k+1) f fd ps (spT K ps.length λ ds=>RU (g (AB N ds))):=by
 obtain⟨oc,od,kV,doc,pm,an,B2,ct,Rp,rfl,lk,aR⟩:=F.ex;refine Ro lk aR S (λ vs H Q E h=>h.1) λ A outer s H vs Q E hr h=>?_;obtain⟨hl,P',ds,ht,hv,hq⟩:=h;obtain⟨t,h1,h2⟩:=hb B2 A outer s H E hr;refine⟨t,h1,h2 ⟨P',λ _=>0⟩ P' _ H _ _ (Km ht hv) ?_⟩;dsimp only at hq;revert hq;cases g (AB N ds) with
 |bad=>exact λ h=>h.elim
 |ex x=>exact λ h H' P2 t=>h H' (CB t)
 |ok o =>
  cases o with
  |ret d=>exact λ h v H' P2 t hv=>h v [] H' (CB t) (λ a ha=>by cases ha) zbz (.sh (by rw[Qb];exact hv))
  |next ρ=>exact λ h σ' H' P2 t E=>h .AE [] H' (CB t) (λ a ha=>by cases ha) zbz (.sh .AE)
  |brk ρ|cont ρ=>exact λ h=>h.elim
  |CF c=>exact λ h v fp H' P2 t hs ht ho hp nd=>Vx h t hs ho hp nd
  |ES d ρ=>exact λ h=>h.elim
end
structure BS (P:Program)(w:World)(K:za0)(mg:Str->Option Value)(base:Heap)(x:Str)(k n:Nat)(F:List D->M OT):Prop where
 ex:∃fa fd ps,D5 P w K mg base (U2 P w base) k fa fd ps (spT K n F)/\mg x=some (.ref fa)/\zbd K (.ref fa)=true/\Binds K fd ps []
def AD {P}{K}{st}(T:AK K mg x st ps)(S:Ad N ps (A4 st))(g:Ac->M Out)(hb:∀(f:Addr) (B2:Value) (A:Around) (outer:List Env) (s:Shared) (H:Hp) (E:XK),Bp k (A.deeper (envOfC x (A4 st) s.heap.objs.size f B2))->R7 (eG P w K mg base N x (A4 st) f B2 A outer s H E) (CQ K E) (Aw st) g)(hn: ~~~(ps.length=n)):
 BS P w K mg base x (k+1) n (λ ds=>RU (g (AB N ds))):=by
 obtain⟨f,fd,F,hm,hB⟩:=T.ex;subst hn;exact⟨⟨f,fd,ps,tE F S g (hb f),hm,F.kp,hB⟩⟩
section
variable {E:XK}{fs:Ac->M (List D)}{f:Ac->M D}
def Aa (xo:F6 X E)(G:BS X.prog X.w X.K X.mg X.base x k n F)(hr:Bp k X.A)(hg:Gl X x)(ha:DA X (CQ X.K E) true (e::es) fs)(hn:(e::es).length=n)(aK:(x==("__debug__" : Str))=false:=by decide)(he: ~~~(starEach (e::es) X.env=(false,eval e X.env)::starEach es X.env))(hpl: ~~~((backTo pos (starEach es X.env)).any (·.1)=false)):
 DN X (CQ X.K E) (.Call (.Name x p) (e::es) [] pos) (λ ρ=>(fs ρ).bind F):=by
 obtain⟨fa,fd,ps,hF,hm,hk,hb⟩:=G.ex;obtain⟨ta,a1,a2,a3⟩:=ha;refine⟨_,PJ hF hr hg hm hk hb .nil xo.call a1 aK he hpl,λ P0 P σ H Q ρ E h=>?_⟩;dsimp only at h;refine a2 P0 P σ H _ ρ E ?_;cases q:fs ρ with
 |bad|ex x=>rw[q] at h;exact h
 |ok ds =>
  rw[q] at h;simp only[M.A8] at h;intro vs H1 s1 a6;rw[zbk];exact⟨by rw[a6.length,a3 ρ ds q];exact hn,P,ds,(E.same s1).Cp,a6,h.same s1⟩
def Bq (h:DN X WX e fn):DN X (λ _ _=>False) e fn:=by
 obtain⟨t,h1,h2⟩:=h;refine⟨t,h1,λ P0 P σ H Q ρ E g=>h2 P0 P σ H Q ρ E ?_⟩;cases q:fn ρ with
 |bad=>rw[q] at g;exact g
 |ex x=>rw[q] at g;exact (g H (Ae.refl H)).elim
 |ok t=>rw[q] at g;exact g
abbrev Zh (t:OT):M Out:=match t with
 | .sh d=>.ok (.ret d)
 |t=>.ok (.CF (.ow (.tree none t)))
end
section
variable {f:Ac->M D}
def Al.wU {K}(E:Al K P0 P H σ ρ)(s:Ae H H')(hn:∀a∈fp,H a=none):Tr P0 P H (PU P fp) H':=
 ⟨Dr s hn,λ a ha=>by obtain⟨o,q,_⟩:=E.Cp a (E.sub a ha);rw[q];exact s _ _ q⟩
def Aj (ha:DN X WX e fn):DS X WX (.Return (some e) pos) (λ ρ=>(fn ρ).bind Zh):=by
 obtain⟨ta,a1,a2⟩:=ha;refine⟨_,Tt a1,λ P0 P σ H Z ρ E h=>?_⟩;dsimp only at h;refine a2 P0 P σ H _ ρ E ?_;refine fZ h E λ t h=>?_;intro v fp H' s hn nd o;have key:gS X.K WX P0 P H Z (.ok (.CF (.ow (.tree none t))))->Z.rt v H':=λ h =>
  h v fp H' (PU P fp) (E.wU s hn) (λ a ha=>.inl (E.sub a ha)) (Kq (E.same s).Cp o) o (λ a ha=>⟨.inr ha,λ z=>(E.Cp a (E.sub a z)).no (hn a ha)⟩) nd
 cases t with
 |sh d =>
  cases o with
  |sh hv=>exact h v H' P (E.tr s) (hv.mono (CT λ a ha=>.inl (E.sub a ha)))
 |lst ts|tup ts|Bm b ks ts|ins x ns ts=>exact key h
abbrev Ej:List OT->Option (List D)
 |[]=>some []
 | .sh d::r=>(Ej r).map (d::·)
 |_::_=>none
def CN:∀ds:List D,Ej (ds.map .sh)=some ds
 |[]=>rfl
 |d::r=>by rw[za6,Ej,CN r];rfl
def Dj:∀ {ts:List OT}{ds:List D},Ej ts=some ds->ts=ds.map .sh
 |[],ds,h=>by cases h;rfl
 | .sh d::r,ds,h=>by
  rw[Ej] at h;cases q:Ej r with
  |none=>rw[q] at h;cases h
  |some es=>rw[q] at h;cases h;rw[za6,<-Dj q]
 | .lst _::r,ds,h| .tup _::r,ds,h| .Bm _ _ _::r,ds,h| .ins _ _ _::r,ds,h=>by cases h
abbrev toCl (p:Option Nat)(t:OT):Cl:=match t with
 | .lst ts=>(match Ej ts with
  |some ds=>(match p with|none=>.own ds|some q=>.ow (.LF q ds))
  |none=>.ow (.tree p (.lst ts)))
 |t=>.ow (.tree p t)
@[simp] theorem toCl_list (ds:List D):toCl none (.lst (ds.map .sh))=.own ds:=by unfold toCl;simp only[CN]
@[simp] theorem toCl_listP (q:Nat) (ds:List D):toCl (some q) (.lst (ds.map .sh))=.ow (.LF q ds):=by unfold toCl;simp only[CN]
@[simp] theorem toCl_dct (p:Option Nat) (b:Bool) (ks:List D) (ts:List OT):toCl p (.Bm b ks ts)=.ow (.tree p (.Bm b ks ts)):=rfl
abbrev treeOf:Cl->Option (Option Nat×OT)
 | .own ds=>some (none,.lst (ds.map .sh))
 | .ow (.LF p ds)=>some (some p,.lst (ds.map .sh))
 | .ow (.rows C8)=>some (none,.lst (C8.map λ ds=>.lst (ds.map .sh)))
 | .ow (.tree p t)=>some (p,t)
 | .val _=>none
def Dz.toT {K}{c}(h:Dz K H P c v fp)(e:treeOf c=some (p,t)):C9 K H P v t fp:=by
 cases c with
 |val d=>exact h.elim
 |own ds =>
  cases e;obtain⟨p,xs,rfl,rfl,h1,h2⟩:=h;exact .lst h1 h2.ows
 |ow o =>
  cases o with
  |rows C8 =>
   cases e;obtain⟨p,ps,rfl,rfl,h1,h2⟩:=h;exact .lst h1 h2.ows
  |LF p ds =>
   cases e;obtain⟨p,xs,rfl,rfl,h1,h2⟩:=h;exact .lst h1 h2.ows
  |tree p t'=>cases e;exact h
def Dz.toCl {K:za0}{H:Hp}{P:Addr->Prop}{v:V}{fp:List Addr}{p:Option Nat}{t:OT}(h:C9 K H P v t fp):Dz K H P (toCl p t) v fp:=by
 unfold L2.toCl;split
 ·rename_i ts;cases q:Ej ts with
  |none=>exact h
  |some ds =>
   have e:=Dj q;subst e;cases h with
   |lst h1 h2 =>
    obtain⟨rfl,h3⟩:=h2.oJ;cases p with
    |none|some q=>exact⟨_,_,rfl,rfl,h1,h3⟩
 ·exact h
def Ic (p:Option Nat)(t:OT):OC (toCl p t)=p:=by
 unfold toCl;split
 ·rename_i ts;cases q:Ej ts with
  |none|some ds=>cases p<;>rfl
 ·cases p<;>rfl
def Ie {c}(h:treeOf c=some (p,t)):OC c=p:=by
 cases c with
 |val d=>cases h
 |own ds=>cases h;rfl
 |ow o =>
  cases o with
  |rows C8|LF p ds=>cases h;rfl
  |tree p t=>cases h;cases p<;>rfl
abbrev RV (i:Nat)(ρ:Ac)(t:OT):M Out:=match t with
 | .sh d=>.ok (.next (ρ.set i (some (.val d))))
 |t=>.ok (.next (ρ.set i (some (toCl none t))))
def lC {K}(E:Al K P0 P H σ ρ)(s:Ae H H')(hn:∀a∈fp,H a=none)(nd:fp.Nodup)(o:C9 K H' (PU P fp) v t fp)(h:gS K WX P0 P H Z (RV i ρ t)):Z.nx (σ.set i (some v)) H':=by
 have key:gS K WX P0 P H Z (.ok (.next (ρ.set i (some (toCl none t)))))->Z.nx (σ.set i (some v)) H':=λ h=>by
  refine h _ H' (PU P fp) (E.wU s hn) (E.WW MH (Kq (E.same s).Cp o) (Dr s hn) (λ j c' v' ah ae g1 g2 g3 a ha=>?_) (Dz.toCl o) (λ a ha=>⟨.inr ha,λ z=>(E.Cp a (E.sub a z)).no (hn a ha)⟩) nd (λ n z=>by rw[Ic] at z;cases z));obtain⟨xs,z⟩:=g3.at a ha;exact⟨by rw[z];exact s _ _ z,λ w=>by rw[hn a w] at z;cases z⟩
 cases t with
 |sh d =>
  cases o with
  |sh hv=>exact h _ H' P (E.tr s) ((E.same s).WV (by rw[Qb] at hv;exact hv))
 |lst ts|tup ts|Bm b ks ts|ins x ns ts=>exact key h
def Bf (i:Nat)(hN:X.N.Nodup)(hi:X.N[i]?=some x)(hx:Loc X.env.scope x)(ha:DN X WX e fn)(hs: ~~~(swapsWith e (some (.Name x pos')) pos.line X.env=pure false))(hf:X.fn x=true\/X.env.scope.names.lookup x=some .local:=by first | exact .inl rfl | exact .inr rfl | assumption):
 DS X WX (.Assign [.Name x pos'] e pos) (λ ρ=>(fn ρ).bind (RV i ρ)):=by
 obtain⟨ta,a1,a2⟩:=ha;refine⟨_,Tu hN hi hx a1 hs hf,λ P0 P σ H Z ρ E h=>?_⟩;dsimp only at h;refine a2 P0 P σ H _ ρ E ?_;cases q:fn ρ with
 |bad=>rw[q] at h;exact h
 |ex x=>rw[q] at h;exact λ H' s=>h H' P (E.tr s)
 |ok t =>
  rw[q] at h;exact λ v fp H' s hn nd o=>lC E s hn nd o h
abbrev U7 (i:Nat)(ρ:Ac):M Out:=match ρ[i]? with
 |some (some (.val d))=>.ok (.ret d)
 |some (some c)=>.ok (.CF c)
 |_=>.bad
def CV (i:Nat)(hv:PE X (.Name x p1) (Lm i)):DS X WX (.Return (some (.Name x p1)) pos) (U7 i):=by
 refine⟨_,Tt hv,λ P0 P σ H Z ρ E h=>?_⟩;unfold U7 at h;split at h
 ·rename_i d e1;obtain⟨v,h1,h2⟩:=E.val i d e1;exact⟨v,h1,h v H P Tr.refl (h2.mono (CT E.sub))⟩
 ·rename_i c hc e1;have io:HY c=true:=by
   cases c with
   |val d=>exact (hc d rfl).elim
   |own ds|ow o=>rfl
  obtain⟨v,fp,h1,h2,h3,h4⟩:=E.ows i _ e1 io;exact⟨v,h1,h v fp H P Tr.refl E.sub E.Cp h2 h3 h4⟩
 ·exact h.elim
def Qc:∀ds:List D,Vj (ds.map .sh)=ds
 |[]=>rfl
 |d::r=>by rw[za6,Vj,er,Qc r]
abbrev Zi (i:Nat)(ρ:Ac):Ac:=match ρ[i]? with
 |some (some c)=>ρ.set i (some (Lq c))
 |_=>ρ
end
section
variable {K:za0}
def CM.same (e:Ae H H')(h:CM K H P v t q xs):CM K H' P v t q xs:=by
 cases t with
 |sh d=>exact h.elim
 |lst ts=>obtain⟨p,rfl,rfl,h⟩:=h;exact⟨p,rfl,rfl,e _ _ h⟩
 |tup ts=>obtain⟨p,rfl,rfl,h⟩:=h;exact⟨p,rfl,rfl,e.del _ _ h⟩
 |Bm b ks ts =>
  cases b with
  |false|true=>obtain⟨p,kvs,rfl,rfl,h,rfl,rfl⟩:=h;exact⟨p,kvs,rfl,rfl,e _ _ h,rfl,rfl⟩
 |ins x ns ts=>obtain⟨p,C,dx,fs,rfl,rfl,n,h,rfl,rfl⟩:=h;exact⟨p,C,dx,fs,rfl,rfl,n,e _ _ h,rfl,rfl⟩
def J2.same (e:Ae H H')(h:J2 K H P v t π v1 t1):J2 K H' P v t π v1 t1:=by
 induction h with
 |nil=>exact .nil
 |cons n hx hs _ ih=>exact .cons (n.same e) hx hs ih
def CM.more (sm:Ae (del H P) (del H' P'))(e:Ae H H')(h:CM K H P v t q xs):CM K H' P' v t q xs:=by
 cases t with
 |sh d=>exact h.elim
 |lst ts=>obtain⟨p,rfl,rfl,h⟩:=h;exact⟨p,rfl,rfl,e _ _ h⟩
 |tup ts=>obtain⟨p,rfl,rfl,h⟩:=h;exact⟨p,rfl,rfl,sm _ _ h⟩
 |Bm b ks ts =>
  cases b with
  |false|true=>obtain⟨p,kvs,rfl,rfl,h,rfl,rfl⟩:=h;exact⟨p,kvs,rfl,rfl,e _ _ h,rfl,rfl⟩
 |ins x ns ts=>obtain⟨p,C,dx,fs,rfl,rfl,n,h,rfl,rfl⟩:=h;exact⟨p,C,dx,fs,rfl,rfl,n,e _ _ h,rfl,rfl⟩
def J2.more (sm:Ae (del H P) (del H' P'))(e:Ae H H')(h:J2 K H P v t π v1 t1):J2 K H' P' v t π v1 t1:=by
 induction h with
 |nil=>exact .nil
 |cons n hx hs _ ih=>exact .cons (n.more sm e) hx hs ih
end
abbrev Vy (i:Nat)(ρ:Ac)(π:List Nat):Option OT:=match ρ[i]? with
 |some (some c)=>(match treeOf c with|some (_,t)=>Ko t π|none=>none)
 |_=>none
structure Br (K:za0)(P:Addr->Prop)(H:Hp)(σ:St)(ρ:Ac)(i:Nat)(π:List Nat)(v:V)(t1:OT):Prop where
 ex:∃v0 c p t,ρ[i]?=some (some c)/\treeOf c=some (p,t)/\σ[i]?=some (some v0)/\J2 K H P v0 t π v t1
def Br.at {K}(h:Br K P H σ ρ i π v t1):Vy i ρ π=some t1:=by
 obtain⟨v0,c,p,t,h1,h2,h3,h4⟩:=h.ex;unfold Vy;simp only[h1,h2];exact h4.sub
def Br.same {K}(e:Ae H H')(h:Br K P H σ ρ i π v t1):Br K P H' σ ρ i π v t1:=by
 obtain⟨v0,c,p,t,h1,h2,h3,h4⟩:=h.ex;exact⟨v0,c,p,t,h1,h2,h3,h4.same e⟩
def Br.more {K}(sm:Ae (del H P) (del H' P'))(e:Ae H H')(h:Br K P H σ ρ i π v t1):Br K P' H' σ ρ i π v t1:=by
 obtain⟨v0,c,p,t,h1,h2,h3,h4⟩:=h.ex;exact⟨v0,c,p,t,h1,h2,h3,h4.more sm e⟩
def Br.own {K}(h:Br K P H σ ρ i π v t1)(E:Al K P0 P H σ ρ):∃ay,C9 K H P v t1 ay/\(∀a∈ay,P a/\¬ P0 a)/\ay.Nodup:=by
 obtain⟨v0,c,p,t,h1,h2,h3,h4⟩:=h.ex;have io:HY c=true:=by cases c<;>first|rfl|cases h2
 obtain⟨w,fp,k1,k2,k3,k4⟩:=E.ows i c h1 io;rw[h3] at k1;cases k1;obtain⟨ay,o1,hk,kn⟩:=(k2.toT h2).part h4;exact⟨ay,o1,λ a ha=>k3 a (hk a ha),kn k4⟩
abbrev gP (K:za0)(WX:Str->Hp->Prop)(P:Addr->Prop)(H:Hp)(σ:St)(ρ:Ac)(i:Nat)(Q:VK):M (List Nat)->Prop
 | .ok π=>∀v t1 H',Ae H H'->Br K P H' σ ρ i π v t1->Q v H'
 | .ex x=>∀H',Ae H H'->WX x H'
 | .bad=>False
abbrev DP (X:Cx)(WX:Str->Hp->Prop)(e:Expr)(i:Nat)(f:Ac->M (List Nat)):Prop:=
 ∃t,PE X e t/\∀P0 P σ H Q ρ,Al X.K P0 P H σ ρ->gP X.K WX P H σ ρ i Q (f ρ)->t σ H Q
section
variable {f:Ac->M D}{fp:Ac->M (List Nat)}{i:Nat}
abbrev RW (i:Nat)(ρ:Ac):M (List Nat):=match Vy i ρ [] with | some _=>.ok [] | none=>.bad
def C6 (i:Nat)(hv:PE X (.Name x p1) (Lm i)):DP X WX (.Name x p1) i (RW i):=by
 refine⟨_,hv,λ P0 P σ H Q ρ E h=>?_⟩;unfold RW at h;split at h
 ·rename_i t e;unfold Vy at e;split at e
  ·rename_i cl e1;split at e
   ·rename_i p t0 e2;have io:HY cl=true:=by cases cl<;>first|rfl|cases e2
    obtain⟨v,fp,h1,h2,h3,h4⟩:=E.ows i cl e1 io;exact⟨v,h1,h v t0 H (Ae.refl H) ⟨v,cl,p,t0,e1,e2,h1,.nil⟩⟩
   ·cases e
  ·cases e
 ·exact h.elim
abbrev wV (i:Nat)(ρ:Ac)(π:List Nat):M D:=match Vy i ρ π with
 |some (.sh d)=>.ok d
 |_=>.bad
def Al.tF {K}(E:Al K P0 P H σ ρ)(pl:Br K P H σ ρ i π v1 t1)(o:C9 K H P v1 t1 ay)(hs:∀a,P a->P' a)(ht:∀a,P' a->DC H' a)(sm:Ae (del H P) (del H' P'))(keep:∀a,P a->a∉ay->H' a=H a)(o':C9 K H' P' v1 u fu)(nd:fu.Nodup)(hf:∀a∈fu,a∈ay\/(P' a/\¬ P0 a/\∀(j:Nat) c v fp,ρ[j]?=some (some c)->σ[j]?=some (some v)->Dz K H P c v fp->a∉fp)):
 ∃c p t,ρ[i]?=some (some c)/\treeOf c=some (p,t)/\Al K P0 P' H' σ (ρ.set i (some (toCl p (EU t π u))))/\Tr P0 P H P' H':=by
 obtain⟨v0,c,p,t,h1,h2,h3,h4⟩:=pl.ex;have io:HY c=true:=by cases c<;>first|rfl|cases h2
 obtain⟨w,fp,k1,k2,k3,k4⟩:=E.ows i c h1 io;rw[h3] at k1;cases k1;have ot:=k2.toT h2;obtain⟨fz,oz,kz,_⟩:=ot.part h4;have:=oz.Cs o;subst this;obtain⟨ah,q1,q2,q3⟩:=ot.put sm h4 o o' (λ a ha hn=>keep a (k3 a ha).1 hn) k4 nd (λ a ha hb=>(hf a ha).elim id λ z=>(z.2.2 i c v0 fp h1 h3 k2 hb).elim);refine⟨c,p,t,h1,h2,?_,sm,λ a ha=>keep a (E.sub a ha) λ z=>(k3 a (kz a z)).2 ha⟩;have key:=E.WW (P':=P') (H':=H') (i:=i) (v:=v0) (c:=toCl p (EU t π u)) (fp:=ah) hs ht sm (λ j c' v' fq ae g1 g2 g3 a ha=>?_) (Dz.toCl q1) (λ a ha=>?_) q2 (λ n z=>by rw[Ic] at z;subst z;have:=E.pin i c n h1 (Ie h2);rw[h3] at this;cases this;rfl)
 ·rw[Kl h3] at key;exact key
 ·have pd:a∉fp:=E.apart j i c' c v' v0 fq fp g1 h1 g2 h3 g3 k2 (zbn ae) a ha;have jp:HY c'=true:=by cases c'<;>first|rfl|exact g3.elim
  obtain⟨w',fr,m1,m2,m3,m4⟩:=E.ows j c' g1 jp;rw[g2] at m1;cases m1;have:=m2.Cs g3;subst this;refine⟨keep a (m3 a ha).1 λ z=>pd (kz a z),λ z=>?_⟩;rcases q3 a z with y|y
  ·rcases hf a y with x|x
   ·exact pd (kz a x)
   ·exact x.2.2 j c' v' fr g1 g2 g3 ha
  ·exact pd y.1
 ·rcases q3 a ha with y|y
  ·rcases hf a y with x|x
   ·exact⟨hs a (k3 a (kz a x)).1,(k3 a (kz a x)).2⟩
   ·exact⟨x.1,x.2.1⟩
  ·exact⟨hs a (k3 a y.1).1,(k3 a y.1).2⟩
def Al.wW {K}(E:Al K P0 P H σ ρ)(pl:Br K P H σ ρ i π (.ref l) (.lst ts))(hH:H l=some (.lst xs))(o:AF K H P xs ts fq)(o':AF K H P ys us fu)(nd:fu.Nodup)(hl:l∉fu)(hf:∀a∈fu,a∈fq\/(P a/\¬ P0 a/\∀(j:Nat) c v fp,ρ[j]?=some (some c)->σ[j]?=some (some v)->Dz K H P c v fp->a∉fp)):
 ∃c p t,ρ[i]?=some (some c)/\treeOf c=some (p,t)/\Al K P0 P (upd H l (.lst ys)) σ (ρ.set i (some (toCl p (EU t π (.lst us)))))/\Tr P0 P H P (upd H l (.lst ys)):=by
 have ot:C9 K H P (.ref l) (.lst ts) (l::fq):=.lst hH o;obtain⟨ay,o1,hp,_⟩:=pl.own E;have:=o1.Cs ot;subst this;have pP:P l:=(hp l za3).1;have sd:del (upd H l (.lst ys)) P=del H P:=by
  funext b;by_cases hb:P b
  ·rw[De hb,De hb]
  ·rw[Au hb,Au hb,Ai (λ z=>hb (by rw[z];exact pP))]
 have sm:Ae (del H P) (del (upd H l (.lst ys)) P):=by rw[sd];exact Ae.refl _
 refine E.tF pl ot (λ _ h=>h) (λ a h=>?_) sm (λ a ha hn=>Ai λ z=>hn (by rw[z];exact za3)) (.lst Aq (o'.move sm λ a ha=>Ai λ z=>hl (by rw[<-z];exact ha))) (zbg.mpr ⟨hl,nd⟩) (λ a ha=>?_)
 ·by_cases ha:a=l
  ·subst ha;exact DC.lst Aq
  ·unfold DC;rw[Ai ha];exact E.Cp a h
 ·rcases zab.mp ha with z|z
  ·exact .inl (by rw[z];exact za3)
  ·rcases hf a z with y|y
   ·exact .inl (za4 _ y)
   ·exact .inr y
end
abbrev kd:D->Option Key
 | .int i=>some (.inl i)
 | .str x=>some (.inr x)
 |_=>none
abbrev qM:List D->Option (List Key)
 |[]=>some []
 |d::r=>match kd d,qM r with|some k,some ks=>some (k::ks)|_,_=>none
def lD (h:kd d=some k):d=Dv k:=by
 cases d<;>simp[kd] at h<;>subst h<;>rfl
def Zj:∀ {ds:List D}{ks:List Key},qM ds=some ks->ds=ks.map Dv
 |[],ks,h=>by cases h;rfl
 |d::r,ks,h=>by
  rw[qM] at h;cases q:kd d with
  |none=>rw[q] at h;cases h
  |some k =>
   cases q2:qM r with
   |none=>rw[q,q2] at h;cases h
   |some t6 =>
    rw[q,q2] at h;cases h;rw[za6,<-lD q,<-Zj q2]
inductive hX:Bool->D->Prop
 |k (κ:Key):hX false (Dv κ)
 |t (κ:List Key):hX true (.tup (κ.map Dv))
abbrev keyOk (b:Bool)(d:D):Bool:=match b,d with
 |false,d=>(kd d).isSome
 |true,.tup ds=>(qM ds).isSome
 |_,_=>false
def F9 {b}(h:keyOk b d=true):hX b d:=by
 cases b with
 |false =>
  obtain⟨k,hk⟩:=zdt.mp (show (kd d).isSome=true from h);rw[lD hk];exact .k k
 |true =>
  cases d with
  |tup ds =>
   obtain⟨k,hk⟩:=zdt.mp (show (qM ds).isSome=true from h);rw[Zj hk];exact .t k
  |_=>cases h
def MI (a b:Key):Bk (Dv a) (Dv b)=decide (a=b):=by
 cases a with
 |inl i =>
  cases b with
  |inl j=>simp only[Dv,Bk];rw[zd5];simp
  |inr y=>simp[Dv,Bk]
 |inr x =>
  cases b with
  |inl j=>simp[Dv,Bk]
  |inr y=>simp only[Dv,Bk];rw[zd5];simp
def LJ:∀a b:List Key,Cr (a.map Dv) (b.map Dv)=decide (a=b)
 |[],[]|[],_::_|_::_,[]=>by simp[Cr]
 |a::r,b::t=>by
  rw[za6,za6,Cr,MI,LJ r t,zd5];simp
abbrev G2 {α:Type}:List D->List α->D->Option α
 |k::ks,v::vs,y=>if Bk k y=true then some v else G2 ks vs y
 |_,_,_=>none
abbrev Ig {α:Type}:List D->List α->D->α->List α
 |k::ks,v::vs,y,z=>(if Bk k y=true then z else v)::Ig ks vs y z
 |_,vs,_,_=>vs
abbrev Lr (ks:List D)(y:D):Bool:=ks.any λ k=>Bk k y
section
variable {κ:Type} [DecidableEq κ] {fk:κ->D}(hf:∀a b,Bk (fk a) (fk b)=decide (a=b))
include hf
def MJ {α:Type}:∀(kvs:List (κ×α)) (k:κ),G2 (kvs.map λ kv=>fk kv.1) (kvs.map zc7) (fk k)=(kvs.find? λ kv=>decide (kv.1=k)).map (·.2)
 |[],k=>rfl
 |p::r,k=>by
  rw[za6,za6,G2,hf,zdk];by_cases e:p.1=k
  ·rw[decide_eq_true e];rfl
  ·rw[decide_eq_false e];simp only[zas,if_false];exact MJ r k
def MK {α:Type}(kvs:List (κ×α))(k:κ):Lr (kvs.map λ kv=>fk kv.1) (fk k)=kvs.any λ kv=>decide (kv.1=k):=by
 unfold Lr;rw[List.any_map];congr 1;funext kv;exact hf _ _
def J4 (k:κ)(v:V):∀(kvs:List (κ×V)),Ig (kvs.map λ kv=>fk kv.1) (kvs.map zc7) (fk k) v=(kvs.map λ kv=>if kv.1=k then (kv.1,v) else kv).map zc7
 |[]=>rfl
 |p::r=>by
  rw[za6,za6,Ig,hf,za6,za6,J4 k v r];by_cases e:p.1=k
  ·rw[decide_eq_true e,if_pos e];rfl
  ·rw[decide_eq_false e,if_neg e];rfl
def J5 (k:κ)(v:V):∀(kvs:List (κ×V)),(kvs.map λ kv=>if kv.1=k then (kv.1,v) else kv).map (λ kv=>fk kv.1)=kvs.map λ kv=>fk kv.1
 |[]=>rfl
 |p::r=>by
  rw[za6,za6,za6,J5 k v r];by_cases e:p.1=k
  ·rw[if_pos e]
  ·rw[if_neg e]
end
def ML {K:za0}{H:Hp}:∀ {ks:List D}{xs:List V}{ds:List D}{y d:D},Ag K H xs ds->G2 ks ds y=some d->∃x,G2 ks xs y=some x/\BR K H x d
 |[],_,_,_,_,_,e|_::_,_,_,_,_,.nil,e=>by simp[G2] at e
 |k::ks,_,_,y,d,.cons h t,e=>by
  rw[G2] at e ⊢;by_cases q:Bk k y=true
  ·rw[if_pos q] at e ⊢;cases e;exact⟨_,rfl,h⟩
  ·rw[if_neg q] at e ⊢;exact ML t e
def Hb {α:Type}:∀ {ks:List D}{xs:List α}{y:D},xs.length=ks.length->Lr ks y=(G2 ks xs y).isSome
 |[],[],y,_=>rfl
 |k::ks,x::xs,y,h=>by
  unfold Lr;rw[zdn,G2];cases q:Bk k y with
  |true=>rfl
  |false =>
   simp only[Bool.false_or,zas,if_false];exact Hb (by simpa using h)
 |[],_::_,_,h|_::_,[],_,h=>by cases h
def J6 {K}(hv:BR K (del H P) v d):∀ {ks:List D}{xs:List V}{ds:List D},Ag K (del H P) xs ds->Ag K (del H P) (Ig ks xs y v) (Ig ks ds y d)
 |[],_,_,h=>by simp only[Ig];exact h
 |_::_,_,_,.nil=>by simp only[Ig];exact .nil
 |k::ks,_,_,.cons h t=>by
  rw[Ig,Ig];refine .cons ?_ (J6 hv t);by_cases q:Bk k y=true
  ·rw[if_pos q,if_pos q];exact hv
  ·rw[if_neg q,if_neg q];exact h
section
variable {K:za0}
def Ag.keys:∀ {xs:List V}(κ:List Key),Ag K H xs (κ.map Dv)->xs=κ.map kV
 |_,[],.nil=>rfl
 |_,k::r,.cons h t=>by
  rw[za6,<-Ag.keys r t];congr 1;cases k with
  |inl i=>exact h.int_inv
  |inr x=>cases h;rfl
def BR.oM (h:BR K H y (Dv κ)):y=kV κ:=by
 cases κ with
 |inl i=>exact h.int_inv
 |inr x=>cases h;rfl
def Qd {b}(hv:BR K (del H P) v (.Bm b ks vs))(hy:BR K (del H P) y k)(hk:hX b k):∃a xs,v=.ref a/\PR H a y (G2 ks xs k)/\Ag K (del H P) xs vs/\xs.length=ks.length:=by
 cases hv with
 |Vd hh hl =>
  cases hk with
  |k κ =>
   refine⟨_,_,rfl,?_,hl,by simp⟩;rw[hy.oM,MJ MI];exact .inl ⟨_,κ,hh.B3,rfl,rfl⟩
 |Ve hh hl =>
  cases hk with
  |t κ =>
   cases hy with
   |tup ht ar =>
    have e:=Ag.keys κ ar;subst e;refine⟨_,_,rfl,?_,hl,by simp⟩;rw[MJ (fk:=λ κ:List Key=>D.tup (κ.map Dv)) (λ a b=>by simp only[Bk];exact LJ a b)];exact .inr ⟨_,κ,_,hh.B3,rfl,(Am ht).2,rfl⟩
end
section
variable {f:Ac->M D}{fp:Ac->M (List Nat)}{i:Nat}
abbrev tG:R2:=λ x y H Q=>∃a v,x=.ref a/\PR H a y (some v)/\Q v H
def hZ (hu:X.A.units+1<cLine):fE X tG:=by
 intro value slice pins s σ H x y v u Q I rx ry h hs;obtain⟨a,z,rfl,g,q⟩:=h;cases rx;have hT:=Rz I g;have h₂:wpAny (model X.prog X.w) X.A (getItem (.ref a) u) (EP X pins σ Q) X.xe s:=WN hu I g ry λ w' s3 I3 ba=>⟨z,H,I3,ba,q⟩;unfold subscriptTail;refine wpAny_bind ?_;rw[getitemInPython_of_ne hT.not_modules];refine wpAny_bind (wpAny_specialOf hT PySem.F.slot_dict_getitem.lookup ?_);have fin:wpAny (model X.prog X.w) X.A (subscripted slice false (.ref a) u) (λ r s₃=>wpAny (model X.prog X.w) X.A (letTemporaryGo value (.ref a) r >>= λ _=>pure r) (EP X pins σ Q) X.xe s₃) X.xe s:=by
  rw[hs];exact wpAny_operating (wpAny_mono h₂ (λ r s₃ h₃=>wpAny_bind (wpAny_letTemporaryGo (wpAny_pure h₃))) λ _ _ x=>x)
 first
  |exact wpAny_pure (wpAny_bind fin)
  |exact wpAny_bind (wpAny_pure (wpAny_bind fin))
  |exact wpAny_bind fin
abbrev AO (x y:D):M D:=match x with
 | .Bm b ks vs=>if keyOk b y=true then (match G2 ks vs y with|some d=>.ok d|none=>.bad) else .bad
 |x=>fY x y
def iA:Vl X.K WX (λ x y H Q=>(nF X.K x y H Q\/nG X.K x y H Q)\/tG x y H Q) AO:=by
 intro P H x y v w Q ht hx hy h;cases x with
 |Bm b ks vs =>
  simp only[AO] at h;by_cases hk:keyOk b y=true
  ·rw[if_pos hk] at h;obtain⟨a,xs,rfl,g,hl,_⟩:=Qd hx hy (F9 hk);split at h
   ·rename_i d e;obtain⟨u,e1,e2⟩:=ML hl e;rw[e1] at g;exact .inr ⟨a,u,rfl,g,h _ H (Ae.refl H) e2⟩
   ·exact h.elim
  ·rw[if_neg hk] at h;exact h.elim
 |AE|bl b|int b|str b|tup b|lst b|KS b|ins b _ _=>exact .inl (Gi P H _ y v w Q ht hx hy h)
def Ab (hu:X.A.units+n<cLine)(ha:DE X WX c a f)(hb:DE X WX c b g)(hs:GS b:=by exact λ _ _=>rfl)(hn:1<=n:=by decide):DE X WX c (.Subscript a b pos) (λ ρ=>(f ρ).bind λ x=>(g ρ).bind λ y=>AO x y):=sI ((LD.or nI).or (hZ (by omega))) iA ha hb hs
abbrev oN (neg:Bool):R2:=λ y x H Q=>∃a o,x=.ref a/\PR H a y o/\Q (.bl (if neg=true then !o.isSome else o.isSome)) H
def U8 (hu:X.A.units+1<cLine):G9 X (compareOp .In) (oN false):=by
 intro pins s σ H x y v u Q I rx ry h;obtain⟨a,o,rfl,g,q⟩:=h;cases ry;exact wJ hu I g rx λ s3 I3=>⟨.bl o.isSome,H,I3,rfl,q⟩
def NX (hu:X.A.units+1<cLine):G9 X (compareOp .NotIn) (oN true):=by
 intro pins s σ H x y v u Q I rx ry h;obtain⟨a,o,rfl,g,q⟩:=h;cases ry;exact fL hu I g rx λ s3 I3=>⟨.bl (!o.isSome),H,I3,rfl,q⟩
abbrev J7 (neg:Bool)(y x:D):M D:=match x with
 | .Bm b ks vs=>if keyOk b y=true then .ok (.bl (if neg=true then !Lr ks y else Lr ks y)) else .bad
 |x=>uN neg y x
def Vz:Vl X.K WX (λ x y H Q=>uJ X.K neg x y H Q\/oN neg x y H Q) (J7 neg):=by
 intro P H x y v w Q ht hx hy h;cases y with
 |Bm b ks vs =>
  simp only[J7] at h;by_cases hk:keyOk b x=true
  ·rw[if_pos hk] at h;obtain⟨a,xs,rfl,g,hl,hn⟩:=Qd hy hx (F9 hk);rw[Hb (xs:=xs) hn] at h;exact .inr ⟨a,_,rfl,g,h _ H (Ae.refl H) (.bl _)⟩
  ·rw[if_neg hk] at h;exact h.elim
 |AE|bl b|int b|str b|tup b|lst b|KS b|ins b _ _=>exact .inl (Gk P H x _ v w Q ht hx hy h)
def Kr (hu:X.A.units+n<cLine)(ha:DE X WX c a f)(hb:DE X WX c b g)(hm: ~~~(behindInMarks .In b=false))(hn:1<=n:=by decide):DT X WX (.Compare a [.In] [b] pos) (λ ρ=>((f ρ).bind λ x=>(g ρ).bind λ y=>J7 false x y).bind NW):=EG (WI.or (U8 (by omega))) Vz ha hb hm
def LK (hu:X.A.units+n<cLine)(ha:DE X WX c a f)(hb:DE X WX c b g)(hm: ~~~(behindInMarks .NotIn b=false))(hn:1<=n:=by decide):DT X WX (.Compare a [.NotIn] [b] pos) (λ ρ=>((f ρ).bind λ x=>(g ρ).bind λ y=>J7 true x y).bind NW):=EG (PN.or (NX (by omega))) Vz ha hb hm
abbrev Gq:D->M Bool
 | .AE=>.ok false
 | .bl b=>.ok b
 | .int i=>.ok (i != 0)
 | .tup ds| .lst ds=>.ok (!ds.isEmpty)
 |_=>.bad
def J8 {K}(h:Ag K H xs ds):(!ds.isEmpty) = !xs.isEmpty:=by cases h<;>rfl
def BG (h:DE X WX c e f)(he:∀whole,isTrue e X.env whole=(do let v <-whole;standAt e.pos;holding [v] (truthy v)):=by intro _;rfl):DT X WX e (λ ρ=>(f ρ).bind Gq):=by
 obtain⟨t,h1,h2⟩:=h;refine⟨_,Ys h1 he,λ P0 P σ H Q ρ E h=>h2 P0 P σ H _ ρ E ?_⟩;dsimp only at h;refine YO h λ d h=>?_;intro v H' s hv;cases hv with
 |AE=>exact⟨false,rfl,h H' s⟩
 |bl b=>exact⟨b,rfl,h H' s⟩
 |int i=>exact⟨_,rfl,h H' s⟩
 |tup hs hl=>exact⟨_,.inr (.inl ⟨_,EQ.of (Am hs).2,rfl⟩),by rw[<-J8 hl];exact h H' s⟩
 |lst hs hl=>exact⟨_,.inl ⟨_,hs.B3,rfl⟩,by rw[<-J8 hl];exact h H' s⟩
 |_=>exact h.elim
end
abbrev J9 (m:M (List D)):M OT:=match m with | .ok ys=>.ok (.lst (ys.map .sh)) | _=>.bad
section
variable {tg iter:Expr}{f:Ac->M D}{fi:Ac->M (List D)}{fs:Ac->M (List D)}
def Zk (i2:∀P0 P σ H R ρ,Al X.K P0 P H σ ρ->(match fi ρ with | .ok ds=>∀J H',Ae H H'->gB X.K J P H' ds->R J H' | .ex x=>∀H',Ae H H'->WX x H' | .bad=>False)->wi σ H R)(g2:∀P0 P σ H Q ρ v d,Al X.K P0 P H σ ρ->BR X.K (del H P) v d->gG X.K P0 P H Q (gt d ρ)->gg v σ H Q)(t2:∀s H' C ex P0 P σ H Q ρ,Al X.K P0 P H σ ρ->gT (λ _ _=>False) H Q (ft ρ)->tc s H' C ex σ H Q)(e2:∀s H' C ex P0 P σ H Q ρ,Al X.K P0 P H σ ρ->gV X.K (λ _ _=>False) (Lv true P0 P) H Q (fe ρ)->te s H' C ex σ H Q)(E:Al X.K P0 P H σ ρ)(h:Zg X.K WX P H Q ((fi ρ).bind λ ds=>if ds.length<=1000 then J9 (Bi gt ft fe ds (BB μ ρ)) else .bad)):Vb wi μ gg tc te σ H Q:=by
 refine i2 P0 P σ H _ ρ E ?_;cases q:fi ρ with
 |bad|ex x=>rw[q] at h;exact h
 |ok ds =>
  rw[q] at h;simp only[M.A8] at h;by_cases hd:¬ ds.length<=1000
  ·rw[if_neg hd] at h;exact h.elim
  have hd:ds.length<=1000:=by omega
  rw[if_pos hd] at h;intro J H1 s1 ok s C ex;cases qc:Bi gt ft fe ds (BB μ ρ) with
  |bad|ex x=>rw[qc] at h;exact h.elim
  |ok total =>
   rw[qc] at h;unfold J9 at h;dsimp only at h;have E1:=E.same s1;refine⟨λ i m ys H2=>m=ds.length-i/\i<=ds.length/\ys.length<=i/\Ae H1 H2/\∃es rest,Ag X.K (del H2 P) ys es/\Bi gt ft fe (ds.drop i) (BB μ ρ)=.ok rest/\es++rest=total,
    ⟨ds.length,by simp,zb0 _,zag _,Ae.refl _,[],total,.nil,by rw[List.drop_zero];exact qc,rfl⟩,?_⟩
   rintro i m ys H2 ⟨rfl,hi,hy,s2,es,rest,ga,ak,aU⟩;by_cases ag:i<ds.length
   ·refine .inr ⟨ok.go i P H2 s2.del ag,Nat.lt_of_le_of_lt hy (AA (by omega)),λ bo H'=>i+1<=ds.length/\bo.length<=i+1/\Ae H1 H'/\∃es rest,Ag X.K (del H' P) bo es/\Bi gt ft fe (ds.drop (i+1)) (BB μ ρ)=.ok rest/\es++rest=total,λ bo H' hq=>⟨ds.length-(i+1),by omega,rfl,hq.1,hq.2.1,hq.2.2.1,hq.2.2.2⟩,λ v H3 y=>?_⟩;have E2:=E1.same s2;obtain⟨s3,hv⟩:=ok.kO i P H2 v H3 ds[i] s2.del E2.Cp (zaa ag) y;rw[IW ag,Bi] at ak;have E3:=(E2.same s3).block μ;refine g2 P0 P _ H3 _ (BB μ ρ) v ds[i] E3 hv ?_;cases q1:gt ds[i] (BB μ ρ) with
    |bad|ex x=>rw[q1] at ak;cases ak
    |ok ρ1 =>
     rw[q1] at ak;dsimp only at ak;intro σ4 E4;refine t2 s H1 C ex P0 P σ4 H3 _ ρ1 E4 ?_;cases q2:ft ρ1 with
     |bad|ex x=>rw[q2] at ak;cases ak
     |ok k =>
      rw[q2] at ak;dsimp only at ak;intro H5 s5;cases k with
      |false =>
       simp only[zas,if_false] at ak ⊢;exact⟨ag,by omega,(s2.trans s3).trans s5,es,rest,(ga.mono s3.del).mono s5.del,ak,aU⟩
      |true =>
       simp only[if_true] at ak ⊢;refine e2 s H1 C ex P0 P σ4 H5 _ ρ1 (E4.same s5) ?_;cases q3:fe ρ1 with
       |bad|ex x=>rw[q3] at ak;cases ak
       |ok y' =>
        rw[q3] at ak;dsimp only at ak;cases q4:Bi gt ft fe (ds.drop (i+1)) (BB μ ρ) with
        |bad|ex x=>rw[q4] at ak;cases ak
        |ok oy =>
         rw[q4] at ak;cases ak;intro w H6 s6 hw;refine⟨ag,by rw[zav,zcg];omega,((s2.trans s3).trans s5).trans s6,es++[y'],oy,(((ga.mono s3.del).mono s5.del).mono s6.del).snoc hw,rfl,?_⟩;rw[zcr];exact aU
   ·have e:i=ds.length:=by omega
    subst e;rw[List.drop_length,Bi] at ak;cases ak;rw[zbk] at aU;subst aU;exact .inl ⟨ok.stop _ P H2 s2.del (zag _),λ D0 hn=>h.Ib (s1.trans s2) ga D0 hn⟩
def CC (μ:List (Option Nat))(hc:X.calm=true)(hi:DI X WX tg iter fi)(a9:Gf scope X.env.scope=true)(bv:PX X.N NB scope μ=true)(hg:sS X scope NB μ tg gt)(ht:∀s H C ex,sT (blockOf X s H scope C NB ex) ifs ft)(he:∀s H C ex,DE (blockOf X s H scope C NB ex) (λ _ _=>False) true elt fe)(hs:∀x,foldedSetIterable iter X.env x=pure x:=by intro _;rfl):
 DN X WX (.ListComp elt [⟨tg,iter,ifs,0⟩] scope pos) (λ ρ=>(fi ρ).bind λ ds=>if ds.length<=1000 then J9 (Bi gt ft fe ds (BB μ ρ)) else .bad):=by
 obtain⟨wi,i1,i2⟩:=hi;obtain⟨gg,g1,gk,g2⟩:=hg;refine⟨_,fT hc i1 a9 bv gk (λ s H C ex=>⟨g1 s H C ex,(za1 (ht s H C ex)).1,(za1 (he s H C ex)).1⟩) hs,λ P0 P σ H Q ρ E h=>?_⟩;exact Zk i2 g2 (λ s H' C ex P0 P σ H Q ρ E h=>(za1 (ht s H' C ex)).2 P0 P σ H Q ρ E h) (λ s H' C ex P0 P σ H Q ρ E h=>(za1 (he s H' C ex)).2 P0 P σ H Q ρ E h) E h
def Zl (i:Nat)(μ:List (Option Nat))(hN:X.N.Nodup)(jh:X.N[i]?=some x)(hx:Loc X.env.scope x)(hc:X.calm=true)(hi:DI X WX tg iter fi)(a9:Gf scope X.env.scope=true)(bv:PX X.N NB scope μ=true)(hg:sS X scope NB μ tg gt)(ht:∀s H C ex,sT (blockOf X s H scope C NB ex) ifs ft)(he:∀s H C ex,DE (blockOf X s H scope C NB ex) (λ _ _=>False) true elt fe)(bz: ~~~(swapsWith (.ListComp elt [⟨tg,iter,ifs,0⟩] scope pos) (some (.Name x px)) al.line X.env=pure true))(hs:∀x,foldedSetIterable iter X.env x=pure x:=by intro _;rfl)(hf:X.fn x=true\/X.env.scope.names.lookup x=some .local:=by first|exact .inl rfl|exact .inr rfl|assumption):
 DS X WX (.Assign [.Name x px] (.ListComp elt [⟨tg,iter,ifs,0⟩] scope pos) al) (λ ρ=>(RS ((fi (ED ρ)).bind λ ds=>if ds.length<=1000 then J9 (Bi gt ft fe ds (BB μ (ED ρ))) else .bad)).bind (RV i ρ)):=by
 obtain⟨wi,i1,i2⟩:=hi;obtain⟨gg,g1,gk,g2⟩:=hg;refine⟨_,Vc hN jh hx hc i1 a9 bv gk (λ s H C ex=>⟨g1 s H C ex,(za1 (ht s H C ex)).1,(za1 (he s H C ex)).1⟩) bz hs hf,λ P0 P σ H Z ρ E h=>?_⟩;refine Zk (P0:=P0) (P:=P0) i2 g2 (λ s H' C ex P0 P σ H Q ρ E h=>(za1 (ht s H' C ex)).2 P0 P σ H Q ρ E h) (λ s H' C ex P0 P σ H Q ρ E h=>(za1 (he s H' C ex)).2 P0 P σ H Q ρ E h) E.low ?_;dsimp only at h;revert h;cases ((fi (ED ρ)).bind λ ds=>if ds.length<=1000 then J9 (Bi gt ft fe ds (BB μ (ED ρ))) else .bad) with
 |bad=>exact λ h=>h
 |ex y=>exact λ h H' s=>h H' P (E.tr s)
 |ok t =>
  unfold RS;simp only[M.A8];by_cases hf:Gp t=true
  ·rw[if_pos hf];exact λ h v fp H' s hn nd o=>lC E s hn nd (o.clean (Kq (E.same s).Cp o) hf) h
  ·rw[if_neg hf];exact λ h=>h.elim
end
abbrev wX (K:za0)(WX:Str->Hp->Prop)(P:Addr->Prop)(p:Addr)(fp:List Addr)(H:Hp)(Q:VK):M (OT×OT)->Prop
 | .ok (t,r)=>∀v H' P' ah fr,(∀a,P a->a∉fp->P' a/\H' a=H a)->(∀a,P' a->DC H' a)->Ae (del H P) (del H' P')->C9 K H' P' (.ref p) t ah->ah.Nodup->C9 K H' P' v r fr->fr.Nodup->(∀a∈fr,a∉ah)->
  (∀a∈ah,P' a/\(P a->a∈fp))->(∀a∈fr,P' a/\(P a->a∈fp))->Q v H'
 | .ex _| .bad=>False
abbrev ON (K:za0)(n:Nat)(F:OT->List D->M (OT×OT)):Sp:=λ vs H Q E=>vs.length=n/\∃P p t fp rest au,vs=.ref p::rest/\(∀a,P a->DC H a)/\(∀a∈fp,P a)/\fp.Nodup/\C9 K H P (.ref p) t fp/\Ag K (del H P) rest au/\wX K (CQ K E) P p fp H Q (F t au)
abbrev D7 (N:List Str)(t:OT)(au:List D):Ac:=some (toCl (some 0) t)::(au.map (λ d=>some (.val d))++zai (N.length-(au.length+1)) none)
abbrev Gr (ρ:Ac):Option OT:=match ρ[0]? with
 |some (some c)=>(match treeOf c with|some (some 0,t)=>some t|_=>none)
 |_=>none
abbrev Ek (m:M Out):M (OT×OT):=match m with
 | .ok (.next ρ)=>(match Gr ρ with|some t=>.ok (t,.sh .AE)|none=>.bad)
 | .ok (.ES r ρ)=>(match Gr ρ with|some t=>.ok (t,r)|none=>.bad)
 |_=>.bad
def Xa (p:Option Nat)(t:OT):HY (toCl p t)=true:=by
 unfold toCl;split
 ·rename_i ts;cases q:Ej ts with
  |none=>rfl
  |some ds=>cases p<;>rfl
 ·rfl
def Ja {K}{rest}(ht:∀a,P a->DC H a)(hp:∀a∈fp,P a)(nd:fp.Nodup)(o:C9 K H P (.ref p) t fp)(h:Ag K (del H P) rest au):
 Al K ⟨λ a=>P a/\a∉fp,λ _=>p⟩ P H (start N (.ref p::rest)) (D7 N t au):=by
 have hl:=h.length;have key:∀(i:Nat) (c:Cl),(au.map (λ d=>some (Cl.val d))++zai (N.length-(au.length+1)) none)[i]?=some (some c)->∃d,au[i]?=some d/\c=.val d:=λ i c e=>by
  by_cases hi:i<au.length
  ·rw[zc0 (by simpa using hi),zan] at e;cases q:au[i]? with
   |none=>rw[q] at e;cases e
   |some d=>rw[q] at e;cases e;exact⟨d,rfl,rfl⟩
  ·rw[zcu (by simpa using hi),zcl] at e;split at e<;>cases e
 have t7:(start N (.ref p::rest))[0]?=some (some (.ref p)):=by unfold start;rfl
 refine⟨λ a h=>h.1,ht,λ i d e=>?_,λ i c e io=>?_,λ i j c c' v v' fp ah e1 e2 _ _ o1 o2 ae=>?_,?_,λ i c n e ww=>?_⟩
 rotate_left 4
 ·cases i with
  |zero=>exact t7
  |succ i =>
   obtain⟨d',q,z⟩:=key i _ (by unfold D7 at e;simpa using e);cases z;cases ww
 ·cases i with
  |zero =>
   have e':some (toCl (some 0) t)=some (.val d):=by simpa [D7] using e
   have:=Xa (some 0) t;rw[zat e'] at this;cases this
  |succ i =>
   obtain⟨d',q,z⟩:=key i _ (by unfold D7 at e;simpa using e);cases z;obtain⟨v,hv,hd⟩:=h.get q;refine⟨v,?_,hd⟩;unfold start;rw[za6,zdu,zb7,zc0 (by rw[za2];exact (zak.mp hv).1),zan,hv];rfl
 ·cases i with
  |zero =>
   have e':toCl (some 0) t=c:=by simpa [D7] using e
   subst e';exact⟨_,fp,t7,Dz.toCl o,λ a ha=>⟨hp a ha,λ z=>z.2 ha⟩,nd⟩
  |succ i =>
   obtain⟨d',q,z⟩:=key i _ (by unfold D7 at e;simpa using e);cases z;cases io
 ·cases i with
  |zero =>
   cases j with
   |zero=>exact (ae rfl).elim
   |succ j =>
    obtain⟨d',q,z⟩:=key j _ (by unfold D7 at e2;simpa using e2);cases z;exact o2.elim
  |succ i =>
   obtain⟨d',q,z⟩:=key i _ (by unfold D7 at e1;simpa using e1);cases z;exact o1.elim
 ·unfold start D7;simp[hl]
section
variable {P:Program}{w:World}{K:za0}
def LL (E:Al K P0 P' H' σ' ρ)(h:Gr ρ=some t):∃c ah,ρ[0]?=some (some c)/\σ'[0]?=some (some (.ref (P0.g 0)))/\Dz K H' P' c (.ref (P0.g 0)) ah/\C9 K H' P' (.ref (P0.g 0)) t ah/\ah.Nodup/\∀a∈ah,P' a/\¬ P0 a:=by
 unfold Gr at h;split at h
 ·rename_i c e;split at h
  ·rename_i t' e2;cases h;have io:HY c=true:=by cases c<;>first|rfl|cases e2
   obtain⟨v,fp,k1,k2,k3,k4⟩:=E.ows 0 c e io;have:=E.pin 0 c 0 e (Ie e2);rw[k1] at this;cases this;exact⟨c,fp,e,k1,k2,k2.toT e2,k4,k3⟩
  ·cases h
 ·cases h
def oO {st}(F:Y4 K x qual st f fd)(S:Ad N ps (A4 st))(g:Ac->M Out)(hb:∀(B2:Value) (A:Around) (outer:List Env) (s:Shared) (H:Hp) (E:XK),Bp k (A.deeper (envOfC qual (A4 st) s.heap.objs.size f B2))->R7 (eG P w K mg base N qual (A4 st) f B2 A outer s H E) (CQ K E) (Aw st) g):
 D5 P w K mg base (U2 P w base) (k+1) f fd ps (ON K ps.length λ t au=>Ek (g (D7 N t au))):=by
 obtain⟨oc,od,kV,doc,pm,an,B2,ct,Rp,rfl,lk,aR⟩:=F.ex;refine Ro lk aR S (λ vs H Q E h=>h.1) λ A outer s H vs Q E hr h=>?_;obtain⟨hl,P',p,t,fp,rest,au,rfl,ht,hp,nd,ho,hv,hq⟩:=h;obtain⟨tt,h1,h2⟩:=hb B2 A outer s H E hr;refine⟨tt,h1,h2 ⟨λ a=>P' a/\a∉fp,λ _=>p⟩ P' _ H _ _ (Ja ht hp nd ho hv) ?_⟩;dsimp only at hq;revert hq;cases g (D7 N t au) with
 |bad|ex x=>exact λ h=>h.elim
 |ok o =>
  have sub:∀ {P2:Addr->Prop} {H2:Hp} {σ2:St} {ρ:Ac},Al K ⟨λ a=>P' a/\a∉fp,λ _=>p⟩ P2 H2 σ2 ρ->∀a,P2 a/\¬ (P' a/\a∉fp)->P2 a/\(P' a->a∈fp):=λ E a ha=>⟨ha.1,λ z=>zcb λ w=>ha.2 ⟨z,w⟩⟩;cases o with
  |ret d|CF d=>exact λ h=>h.elim
  |next ρ =>
   intro hq σ' H' P2 t2 E2;unfold Ek at hq;dsimp only at hq;split at hq
   ·rename_i t' e;obtain⟨c,ah,k1,k2,k3,k4,k5,k6⟩:=LL E2 e;exact hq .AE H' P2 ah [] (λ a ha hn=>⟨E2.sub a ⟨ha,hn⟩,t2.2 a ⟨ha,hn⟩⟩) E2.Cp t2.1 k4 k5 (.sh .AE) zbz (λ a ha=>by cases ha) (λ a ha=>sub E2 a (k6 a ha)) (λ a ha=>by cases ha)
   ·exact hq.elim
  |ES r ρ =>
   intro hq v fr σ' H' P2 t2 E2 o2 bf hf;unfold Ek at hq;dsimp only at hq;split at hq
   ·rename_i t' e;obtain⟨c,ah,k1,k2,k3,k4,k5,k6⟩:=LL E2 e;exact hq v H' P2 ah fr (λ a ha hn=>⟨E2.sub a ⟨ha,hn⟩,t2.2 a ⟨ha,hn⟩⟩) E2.Cp t2.1 k4 k5 o2 bf (λ a ha=>(hf a ha).2.2 0 c _ ah k1 k2 k3) (λ a ha=>sub E2 a (k6 a ha)) (λ a ha=>sub E2 a ⟨(hf a ha).1,(hf a ha).2.1⟩)
   ·exact hq.elim
  |brk ρ|cont ρ=>exact λ h=>h.elim
end
structure OO (P:Program)(w:World)(K:za0)(mg:Str->Option Value)(base:Heap)(x:Str)(k n:Nat)(F:OT->List D->M (OT×OT)):Prop where
 ex:∃fa fd ps,D5 P w K mg base (U2 P w base) k fa fd ps (ON K n F)/\mg x=some (.ref fa)/\zbd K (.ref fa)=true/\Binds K fd ps []
def RX {P}{K}{st}(T:AK K mg x st ps)(S:Ad N ps (A4 st))(g:Ac->M Out)(hb:∀(f:Addr) (B2:Value) (A:Around) (outer:List Env) (s:Shared) (H:Hp) (E:XK),Bp k (A.deeper (envOfC x (A4 st) s.heap.objs.size f B2))->R7 (eG P w K mg base N x (A4 st) f B2 A outer s H E) (CQ K E) (Aw st) g)(hn: ~~~(ps.length=n)):
 OO P w K mg base x (k+1) n (λ t au=>Ek (g (D7 N t au))):=by
 obtain⟨f,fd,F,hm,hB⟩:=T.ex;subst hn;exact⟨⟨f,fd,ps,oO F S g (hb f),hm,F.kp,hB⟩⟩
section
variable {f:Ac->M D}{fp:Ac->M (List Nat)}{i:Nat}{fs:Ac->M (List D)}
def Al.tH {K}(E:Al K P0 P H σ ρ)(pl:Br K P H σ ρ i π v1 t1)(o:C9 K H P v1 t1 ay)(hs:∀a,P a->a∉ay->P' a/\H' a=H a)(ht:∀a,P' a->DC H' a)(sm:Ae (del H P) (del H' P'))(o':C9 K H' P' v1 u fu)(nd:fu.Nodup)(hf:∀a∈fu,P' a/\(P a->a∈ay))(or:C9 K H' P' v2 r fr)(ndr:fr.Nodup)(hr:∀a∈fr,P' a/\(P a->a∈ay))(dj:∀a∈fr,a∉fu):
 ∃c p t,ρ[i]?=some (some c)/\treeOf c=some (p,t)/\Al K P0 P' H' σ (ρ.set i (some (toCl p (EU t π u))))/\Tr P0 P H P' H'/\
  ∀a∈fr,P' a/\¬ P0 a/\∀(j:Nat) c' v fq,(ρ.set i (some (toCl p (EU t π u))))[j]?=some (some c')->σ[j]?=some (some v)->Dz K H' P' c' v fq->a∉fq:=by
 obtain⟨v0,c,p,t,h1,h2,h3,h4⟩:=pl.ex;have io:HY c=true:=by cases c<;>first|rfl|cases h2
 obtain⟨w,fp,k1,k2,k3,k4⟩:=E.ows i c h1 io;rw[h3] at k1;cases k1;have ot:=k2.toT h2;obtain⟨fz,oz,kz,_⟩:=ot.part h4;have:=oz.Cs o;subst this;obtain⟨ah,q1,q2,q3⟩:=ot.put sm h4 o o' (λ a ha hn=>(hs a (k3 a ha).1 hn).2) k4 nd (λ a ha hb=>(hf a ha).2 (k3 a hb).1);have t8:∀(j:Nat) c' v' fq,i≠j->ρ[j]?=some (some c')->σ[j]?=some (some v')->Dz K H P c' v' fq->∀a∈fq,P a/\a∉fp:=λ j c' v' fq ae g1 g2 g3 a ha=>by
  have jp:HY c'=true:=by cases c'<;>first|rfl|exact g3.elim
  obtain⟨w',pe,m1,m2,m3,m4⟩:=E.ows j c' g1 jp;rw[g2] at m1;cases m1;have:=m2.Cs g3;subst this;exact⟨(m3 a ha).1,E.apart j i c' c v' v0 pe fp g1 h1 g2 h3 g3 k2 (zbn ae) a ha⟩
 have key:=E.sQ (P':=P') (H':=H') (i:=i) (v:=v0) (c:=toCl p (EU t π u)) (fp:=ah) (λ a ha=>(hs a (E.sub a ha) λ z=>(k3 a (kz a z)).2 ha).1) ht sm (λ j c' v' fq ae g1 g2 g3 a ha=>?_) (Dz.toCl q1) (λ a ha=>?_) q2 (λ n z=>by rw[Ic] at z;subst z;have:=E.pin i c n h1 (Ie h2);rw[h3] at this;cases this;rfl)
 ·rw[Kl h3] at key;refine⟨c,p,t,h1,h2,key,⟨sm,λ a ha=>(hs a (E.sub a ha) λ z=>(k3 a (kz a z)).2 ha).2⟩,λ a ha=>⟨(hr a ha).1,λ z=>(k3 a (kz a ((hr a ha).2 (E.sub a z)))).2 z,λ j c' v fq g1 g2 g3 hb=>?_⟩⟩;rcases get_set g1 with ⟨rfl,hl,z⟩|⟨ae,g1⟩
  ·cases z;rw[h3] at g2;cases g2;rw[g3.Cs (Dz.toCl q1)] at hb;rcases q3 a hb with y|y
   ·exact dj a ha y
   ·exact y.2 ((hr a ha).2 (k3 a y.1).1)
  ·have jp:HY c'=true:=by cases c'<;>first|rfl|exact g3.elim
   obtain⟨w',pe,m1,m2,m3,m4⟩:=E.ows j c' g1 jp;rw[g2] at m1;cases m1;have o2:=t8 j c' v pe ae g1 g2 m2;have mv:=m2.move sm λ b a7=>(hs b (o2 b a7).1 λ z=>(o2 b a7).2 (kz b z)).2;rw[g3.Cs mv] at hb;exact (o2 a hb).2 (kz a ((hr a ha).2 (o2 a hb).1))
 ·have o2:=t8 j c' v' fq ae g1 g2 g3 a ha;have hk:=hs a o2.1 λ z=>o2.2 (kz a z);refine⟨hk.2,λ z=>?_,hk.1⟩;rcases q3 a z with y|y
  ·exact o2.2 (kz a ((hf a y).2 o2.1))
  ·exact o2.2 y.1
 ·rcases q3 a ha with y|y
  ·exact⟨(hf a y).1,λ z=>(k3 a (kz a ((hf a y).2 (E.sub a z)))).2 z⟩
  ·exact⟨(hs a (k3 a y.1).1 y.2).1,(k3 a y.1).2⟩
end
abbrev Ih (i:Nat)(ρ:Ac)(π:List Nat)(u:OT):M Out:=match ρ[i]? with
 |some (some c)=>(match treeOf c with|some (p,t)=>.ok (.next (ρ.set i (some (toCl p (EU t π u)))))|none=>.bad)
 |_=>.bad
abbrev KY (i:Nat)(ρ:Ac)(π:List Nat):M (List OT):=match Vy i ρ π with | some (.lst ts)=>.ok ts | _=>.bad
def Jb {c}(h:ρ[i]?=some (some c))(ht:treeOf c=some (p,t)):Ih i ρ π u=.ok (.next (ρ.set i (some (toCl p (EU t π u))))):=by
 unfold Ih;simp only[h,ht]
section
variable {f:Ac->M D}{fp:Ac->M (List Nat)}{i:Nat}{fs:Ac->M (List D)}
abbrev iB {α:Type}(o:Option α):M α:=match o with | some x=>.ok x | none=>.bad
abbrev To (i:Nat)(ρ:Ac)(π:List Nat):M (List D):=match Vy i ρ π with | some (.lst ts)=>(match Ej ts with | some ds=>.ok ds | none=>.bad) | _=>.bad
def Br.shl {K}(pl:Br K P H σ ρ i π v t1)(E:Al K P0 P H σ ρ)(h:To i ρ π=.ok ds):t1=.lst (ds.map .sh)/\∃l xs,v=.ref l/\H l=some (.lst xs)/\Ag K (del H P) xs ds:=by
 unfold To at h;rw[pl.at] at h;split at h
 ·rename_i t9 e;split at h
  ·rename_i jl e';cases e;cases h;have z:=Dj e';subst z;obtain⟨ay,o1,hp,nd⟩:=pl.own E;cases o1 with
   |lst hh hr=>exact⟨rfl,_,_,rfl,hh,hr.oJ.2⟩
  ·cases h
 ·cases h
def Zm (h:To i ρ π=.ex x):False:=by
 unfold To at h;split at h
 ·split at h<;>cases h
 ·cases h
def Al.tI {K}{es}(E:Al K P0 P H σ ρ)(pl:Br K P H σ ρ i π (.ref l) (.lst (ds.map .sh)))(hH:H l=some (.lst xs))(o:Ag K (del H P) xs ds)(o':Ag K (del H P) ys es):
 ∃c p t,ρ[i]?=some (some c)/\treeOf c=some (p,t)/\Al K P0 P (upd H l (.lst ys)) σ (ρ.set i (some (toCl p (EU t π (.lst (es.map .sh))))))/\Tr P0 P H P (upd H l (.lst ys)):=
 E.wW pl hH o.ows o'.ows zbz (λ z=>by cases z) (λ a ha=>by cases ha)
abbrev iC (t:OT):M (List D):=match t with | .lst us=>iB (Ej us) | _=>.bad
def Zn (ha:DP X WX a i fp)(he:DN X WX e fn)(hs: ~~~(starEach [e] X.env=[(false,eval e X.env)]))(bz: ~~~(swapsWith (.Call (.Attribute a "extend" apos) [e] [] af) none pos.line X.env=pure false))(az: ~~~(attributeBase a "extend" X.env (eval a X.env)=eval a X.env))(aL: ~~~(((backTo af (starEach [e] X.env)).all (λ x => !x.1)&&(backToKw af (keywordEach [] X.env)).all (λ x=>x.1.isSome)&&decide (([e]:List Expr).length+([]:List Keyword).length+(if ([]:List Keyword).isEmpty then 0 else 1)<30))=true))(a5: ~~~((apos.endLine==af.line)=true))(am: ~~~((backTo af (starEach [] X.env)).any (·.1)=false)):
 DS X WX (.Expr (.Call (.Attribute a "extend" apos) [e] [] af) pos) (λ ρ=>(fp ρ).bind λ π=>(To i ρ π).bind λ ds=>((fn ρ).bind iC).bind λ es=>if ds.length+es.length<=1000 then Ih i ρ π (.lst ((ds++es).map .sh)) else .bad):=by
 obtain⟨ta,a1,a2⟩:=ha;obtain⟨te,e1,e2⟩:=he;refine⟨_,GR (Rv zd6 PySem.F.slot_list_extend PySem.F.type_list_extend WK a1 (Bu e1 CD hs) az aL a5 hs am) bz,λ P0 P σ H Z ρ E h=>?_⟩;dsimp only at h;refine a2 P0 P σ H _ ρ E ?_;refine fZ h E λ π h=>?_;intro v t1 H1 s1 pl;have E1:=E.same s1;cases q1:To i ρ π with
 |bad=>rw[q1] at h;exact h.elim
 |ex x=>exact (Zm q1).elim
 |ok ds =>
  rw[q1] at h;simp only[M.A8] at h;obtain⟨rfl,l,xs,rfl,hl,ol⟩:=pl.shl E1 q1;refine⟨.inl ⟨rfl,xs,.of hl⟩,e2 P0 P σ H1 _ ρ E1 ?_⟩;cases q2:fn ρ with
  |bad=>rw[q2] at h;exact h
  |ex y=>rw[q2] at h;exact λ H' s=>h H' P ((E.tr s1).trans (E1.tr s))
  |ok t =>
   rw[q2] at h;simp only[M.A8] at h;intro w fw H2 s2 n2 bf o2;have sm:=Dr (P:=P) s2 n2;have E2:Al X.K P0 (PU P fw) H2 σ ρ:=E1.more s2 MH (Kq (E1.same s2).Cp o2) sm;cases t with
   |lst us =>
    simp only[iC] at h;cases q3:Ej us with
    |none=>rw[q3] at h;exact h.elim
    |some es =>
     rw[q3] at h;simp only[iB,M.A8] at h;have z:=Dj q3;subst z;cases o2 with
     |lst hb hr =>
      by_cases hz:ds.length+es.length<=1000
      ·rw[if_pos hz] at h;have he:=hr.oJ.2;have jq:=ol.mono sm;have ar:=s2 _ _ hl;obtain⟨c,p,t0,g1,g2,E3,t3⟩:=E2.tI (pl.more sm s2) ar jq (jq.append he);rw[Jb g1 g2] at h;exact⟨l,_,xs,_,rfl,rfl,ar,hb,zbf (AA (by rw[ol.length,he.length];exact hz)),h _ _ _ (((E.tr s1).trans (E1.wU s2 n2)).trans t3) E3⟩
      ·rw[if_neg hz] at h;exact h.elim
   |_=>exact h.elim
end
abbrev gX (K:za0)(WX:Str->Hp->Prop)(P0:DR)(P:Addr->Prop)(H:Hp)(σ:St)(Q:VK):M (Ac×OT)->Prop
 | .ok (ρ,t)=>∀v fp H' P',Tr P0 P H P' H'->Al K P0 P' H' σ ρ->C9 K H' P' v t fp->fp.Nodup->(∀a∈fp,P' a/\¬ P0 a/\∀(j:Nat) c v' fq,ρ[j]?=some (some c)->σ[j]?=some (some v')->Dz K H' P' c v' fq->a∉fq)->Q v H'
 | .ex x=>∀H' P',Tr P0 P H P' H'->WX x H'
 | .bad=>False
abbrev DX (X:Cx)(WX:Str->Hp->Prop)(e:Expr)(f:Ac->M (Ac×OT)):Prop:=
 ∃t,PE X e t/\∀P0 P σ H Q ρ,Al X.K P0 P H σ ρ->gX X.K WX P0 P H σ Q (f ρ)->t σ H Q
abbrev Zo:OT->Bool
 | .sh _=>false
 |_=>true
abbrev RY (i:Nat)(F:OT->List D->M (OT×OT))(ρ:Ac)(π:List Nat)(au:List D):M (Ac×OT):=match ρ[i]? with
 |some (some c)=>(match treeOf c with
  |some (p,t)=>(match Ko t π with
   |some t1=>if Zo t1=true then (match F t1 au with | .ok (t2,r)=>.ok (ρ.set i (some (toCl p (EU t π t2))),r)|_=>.bad) else .bad
   |none=>.bad)
  |none=>.bad)
 |_=>.bad
section
variable {E:XK}{f:Ac->M D}{fp:Ac->M (List Nat)}{i:Nat}{fs:Ac->M (List D)}
def Zp {c}(h:ρ[i]?=some (some c))(ht:treeOf c=some (p,t))(hs:Ko t π=some t1)(hN:Zo t1=true)(hF:F t1 au=.ok (t2,r)):RY i F ρ π au=.ok (ρ.set i (some (toCl p (EU t π t2))),r):=by
 unfold RY;simp only[h,ht,hs,hN,if_true,hF]
def Zq (xo:F6 X E)(G:OO X.prog X.w X.K X.mg X.base x k n F)(hr:Bp k X.A)(hg:Gl X x)(hp:DP X (CQ X.K E) a i fp)(ha:DA X (CQ X.K E) true es fs)(hn:es.length+1=n)(aK:(x==("__debug__" : Str))=false:=by decide)(he: ~~~(starEach (a::es) X.env=(false,eval a X.env)::starEach es X.env))(hpl: ~~~((backTo pos (starEach es X.env)).any (·.1)=false)):
 DX X (CQ X.K E) (.Call (.Name x p) (a::es) [] pos) (λ ρ=>(fp ρ).bind λ π=>(fs ρ).bind λ au=>RY i F ρ π au):=by
 obtain⟨fa,fd,ps,hF,hm,hk,hb⟩:=G.ex;obtain⟨tp,p1,p2⟩:=hp;obtain⟨ta,a1,a2,a3⟩:=ha;refine⟨_,PJ hF hr hg hm hk hb .nil xo.call (Bu p1 a1 he) aK he hpl,λ P0 P σ H Q ρ Ev h=>?_⟩;dsimp only at h;refine p2 P0 P σ H _ ρ Ev ?_;cases q:fp ρ with
 |bad=>rw[q] at h;exact h
 |ex x=>rw[q] at h;exact λ H' s=>h H' P (Ev.tr s)
 |ok π =>
  rw[q] at h;simp only[M.A8] at h;intro v t1 H1 s1 pl;have E1:=Ev.same s1;refine a2 P0 P σ H1 _ ρ E1 ?_;cases q2:fs ρ with
  |bad=>rw[q2] at h;exact h
  |ex y=>rw[q2] at h;exact λ H' s=>h H' P ((Ev.tr s1).trans (E1.tr s))
  |ok au =>
   rw[q2] at h;simp only[M.A8] at h;intro vs H2 s2 a6;have E2:=E1.same s2;have da:=pl.same s2;show ON X.K n F ((v::vs)++[]) H2 Q E;rw[zbk];obtain⟨v0,c,pp,t,g1,g2,g3,g4⟩:=da.ex;unfold RY at h;simp only[g1,g2,g4.sub] at h;by_cases hx:Zo t1=true
   ·rw[if_pos hx] at h;obtain⟨ay,o1,wx,gh⟩:=da.own E2;have jr:∃l,v=.ref l:=by
     cases o1 with
     |sh hv=>exact absurd hx (by simp[Zo])
     |lst _ _|tup _ _|dK _ _|dT _ _|ins _ _ _=>exact⟨_,rfl⟩
    obtain⟨l,rfl⟩:=jr;refine⟨by rw[za9,a6.length,a3 ρ au q2];exact hn,P,l,t1,ay,vs,au,rfl,E2.Cp,λ b hb=>(wx b hb).1,gh,o1,a6,?_⟩;cases qF:F t1 au with
    |bad|ex x=>rw[qF] at h;exact h.elim
    |ok z =>
    obtain⟨t2,r⟩:=z;rw[qF] at h;intro w H' P' fu fr k1 k2 k3 k4 k5 k6 k7 k8 k9 pf;obtain⟨c',p',t',m1,m2,m3,m4,m5⟩:=E2.tH da o1 k1 k2 k3 k4 k5 k9 k6 k7 pf k8;rw[g1] at m1;cases m1;rw[g2] at m2;cases m2;exact h w fr H' P' (((Ev.tr s1).trans (E1.tr s2)).trans m4) m3 k6 k7 m5
   ·rw[if_neg hx] at h;exact h.elim
def MM (he:DX X WX e fx)(hs: ~~~(swapsWith e none pos.line X.env=pure false)):DS X WX (.Expr e pos) (λ ρ=>(fx ρ).bind λ z=>.ok (.next z.1)):=by
 obtain⟨te,e1,e2⟩:=he;refine⟨_,GR e1 hs,λ P0 P σ H Z ρ E h=>?_⟩;dsimp only at h;refine e2 P0 P σ H _ ρ E ?_;cases q:fx ρ with
 |bad|ex x=>rw[q] at h;exact h
 |ok z=>rw[q] at h;exact λ v fp H' P' t E' o nd hf=>h σ H' P' t E'
end
abbrev FV (i:Nat)(ρ:Ac)(π:List Nat):M (Bool×List D×List D):=match Vy i ρ π with
 |some (.Bm b ks ts)=>(match Ej ts with|some vs=>.ok (b,ks,vs)|none=>.bad)
 |_=>.bad
abbrev putD (ks vs:List D)(k v:D):List D×List D:=if Lr ks k=true then (ks,Ig ks vs k v) else (ks++[k],vs++[v])
section
variable {E:XK}{f:Ac->M D}{fp:Ac->M (List Nat)}{i:Nat}{fs:Ac->M (List D)}
def Br.Bm {K}(pl:Br K P H σ ρ i π v t1)(E:Al K P0 P H σ ρ)(h:FV i ρ π=.ok (bl,ks,vs)):t1=.Bm bl ks (vs.map .sh)/\∃l xs,v=.ref l/\P l/\Ag K (del H P) xs vs/\C9 K H P (.ref l) (.Bm bl ks (vs.map .sh)) [l]/\
 ((bl=false/\∃kvs,H l=some (.dK kvs)/\ks=(kvs.map λ kv=>Dv kv.1)/\xs=kvs.map zc7)\/(bl=true/\∃kvs,H l=some (.dT kvs)/\ks=(kvs.map λ kv=>.tup (kv.1.map Dv))/\xs=kvs.map zc7)):=by
 unfold FV at h;rw[pl.at] at h;split at h
 ·rename_i b' t6 t9 e;split at h
  ·rename_i aV e';cases e;cases h;have z:=Dj e';subst z;obtain⟨ay,o1,hp,nd⟩:=pl.own E;generalize ht:OT.Bm bl ks (vs.map .sh)=t at o1;cases o1 with
   |dK hh hr =>
    injection ht with h1 h2 h3
    subst h1 h2 h3;obtain⟨rfl,hs⟩:=hr.oJ;exact⟨rfl,_,_,rfl,(hp _ za3).1,hs,.dK hh hr,.inl ⟨rfl,_,hh,rfl,rfl⟩⟩
   |dT hh hr =>
    injection ht with h1 h2 h3
    subst h1 h2 h3;obtain⟨rfl,hs⟩:=hr.oJ;exact⟨rfl,_,_,rfl,(hp _ za3).1,hs,.dT hh hr,.inr ⟨rfl,_,hh,rfl,rfl⟩⟩
   |_=>cases ht
  ·cases h
 ·cases h
def Zr (h:FV i ρ π=.ex x):False:=by
 unfold FV at h;split at h
 ·split at h<;>cases h
 ·cases h
def Al.oP {K}(E:Al K P0 P H σ ρ)(pl:Br K P H σ ρ i π (.ref l) t1)(ot:C9 K H P (.ref l) t1 [l])(hn:∀xs,o'≠.tup xs/\∀z,o'≠.Y1 z (.tup xs))(new:Ae (del H P) (del (upd H l o') P)->C9 K (upd H l o') P (.ref l) u [l]):
 ∃c p t,ρ[i]?=some (some c)/\treeOf c=some (p,t)/\Al K P0 P (upd H l o') σ (ρ.set i (some (toCl p (EU t π u))))/\Tr P0 P H P (upd H l o'):=by
 obtain⟨ay,o1,hp,_⟩:=pl.own E;have:=o1.Cs ot;subst this;have pP:P l:=(hp l za3).1;have sd:del (upd H l o') P=del H P:=by
  funext b;by_cases hb:P b
  ·rw[De hb,De hb]
  ·rw[Au hb,Au hb,Ai (λ z=>hb (by rw[z];exact pP))]
 have sm:Ae (del H P) (del (upd H l o') P):=by rw[sd];exact Ae.refl _
 refine E.tF pl ot (λ _ h=>h) (λ a h=>?_) sm (λ a ha hn=>Ai λ z=>hn (by rw[z];exact za3)) (new sm) (by simp) (λ a ha=>.inl ha);by_cases ha:a=l
 ·subst ha;exact⟨_,Aq,hn⟩
 ·unfold DC;rw[Ai ha];exact E.Cp a h
def LM (hu:X.A.units+n<cLine)(ha:DP X WX a i fp)(hk:DE X WX true b g)(hv:DE X WX true e f)(hs: ~~~(swapsWith e (some (.Subscript a b pos')) pos.line X.env=pure false))(hn:1<=n:=by decide):
 DS X WX (.Assign [.Subscript a b pos'] e pos) (λ ρ=>(f ρ).bind λ v=>(fp ρ).bind λ π=>(g ρ).bind λ k=>(FV i ρ π).bind λ z=>if keyOk z.1 k=true/\z.2.1.length<1000 then Ih i ρ π (.Bm z.1 (putD z.2.1 z.2.2 k v).1 ((putD z.2.1 z.2.2 k v).2.map .sh)) else .bad):=by
 obtain⟨ta,a1,a2⟩:=ha;obtain⟨tk,k1,k2⟩:=hk;obtain⟨tv,v1,v2⟩:=hv;refine⟨_,fM (by omega) a1 k1 v1 hs,λ P0 P σ H Z ρ E h=>?_⟩;dsimp only at h;refine v2 P0 P σ H _ ρ E ?_;refine fZ h E λ d h=>?_;intro w H0 s0 hw;have E0:=E.same s0;refine a2 P0 P σ H0 _ ρ E0 ?_;cases q:fp ρ with
 |bad=>rw[q] at h;exact h
 |ex x=>rw[q] at h;exact λ H' s=>h H' P ((E.tr s0).trans (E0.tr s))
 |ok π =>
  rw[q] at h;simp only[M.A8] at h;intro v t1 H1 s1 pl;have E1:=E0.same s1;refine k2 P0 P σ H1 _ ρ E1 ?_;cases q2:g ρ with
  |bad=>rw[q2] at h;exact h
  |ex y=>rw[q2] at h;exact λ H' s=>h H' P (((E.tr s0).trans (E0.tr s1)).trans (E1.tr s))
  |ok k =>
   rw[q2] at h;simp only[M.A8] at h;intro y H2 s2 hy;have E2:=E1.same s2;have da:=pl.same s2;have l9:=(hw.mono s1.del).mono s2.del;have ub:=((E.tr s0).trans (E0.tr s1)).trans (E1.tr s2);cases q3:FV i ρ π with
   |bad=>rw[q3] at h;exact h.elim
   |ex x=>exact (Zr q3).elim
   |ok z =>
    obtain⟨bb,ks,vs⟩:=z;rw[q3] at h;simp only[M.A8] at h;by_cases hc:keyOk bb k=true/\ks.length<1000
    ·rw[if_pos hc] at h;obtain⟨rfl,l,xs,rfl,hP,cn,ot,js⟩:=da.Bm E2 q3;have hK:=F9 hc.1;rcases js with ⟨rfl,kvs,hH,rfl,rfl⟩|⟨rfl,kvs,hH,rfl,rfl⟩
     ·cases hK with
      |k κ =>
       have ey:=hy.oM;refine⟨l,_,rfl,.inl ⟨kvs,κ,hH,ey,AA (by have:=hc.2;rw[za2] at this;omega),rfl⟩,?_⟩;have bu:∃aV,(putD (kvs.map λ kv=>Dv kv.1) vs (Dv κ) d)=((putK kvs κ w).map (λ kv=>Dv kv.1),aV)/\Ag X.K (del H2 P) ((putK kvs κ w).map zc7) aV:=by
        unfold putD putK;rw[MK MI];by_cases hh:(kvs.any λ kv=>decide (kv.1=κ))=true
        ·rw[if_pos hh,if_pos hh];refine⟨_,by rw[J5 (fk:=Dv) MI],?_⟩;rw[<-J4 (fk:=Dv) MI];exact J6 l9 cn
        ·rw[if_neg hh,if_neg hh];refine⟨_,by rw[zaz];rfl,?_⟩;rw[zaz];exact cn.snoc l9
       obtain⟨aV,e1,e2⟩:=bu;obtain⟨c,p,t0,g1,g2,E3,t3⟩:=E2.oP (o':=.dK (putK kvs κ w)) (u:=.Bm false ((putK kvs κ w).map λ kv=>Dv kv.1) (aV.map .sh)) da ot (λ _=>⟨λ z=>(by cases z),λ _ z=>by cases z⟩) (λ mv=>.dK Aq (e2.mono mv).ows);rw[e1,Jb g1 g2] at h;exact h _ _ _ (ub.trans t3) E3
     ·cases hK with
      |t κ =>
       cases hy with
       |tup ht ar =>
        have ey:=Ag.keys κ ar;subst ey;refine⟨l,_,rfl,.inr ⟨kvs,κ,_,hH,rfl,(Am ht).2,AA (by have:=hc.2;rw[za2] at this;omega),rfl⟩,?_⟩;have hf:∀a b:List Key,Bk (.tup (a.map Dv)) (.tup (b.map Dv))=decide (a=b):=λ a b=>by simp only[Bk];exact LJ a b
        have bu:∃aV,(putD (kvs.map λ kv=>.tup (kv.1.map Dv)) vs (.tup (κ.map Dv)) d)=((putK kvs κ w).map (λ kv=>.tup (kv.1.map Dv)),aV)/\Ag X.K (del H2 P) ((putK kvs κ w).map zc7) aV:=by
         unfold putD putK;rw[MK (fk:=λ κ:List Key=>D.tup (κ.map Dv)) hf];by_cases hh:(kvs.any λ kv=>decide (kv.1=κ))=true
         ·rw[if_pos hh,if_pos hh];refine⟨_,by rw[J5 (fk:=λ κ:List Key=>D.tup (κ.map Dv)) hf],?_⟩;rw[<-J4 (fk:=λ κ:List Key=>D.tup (κ.map Dv)) hf];exact J6 l9 cn
         ·rw[if_neg hh,if_neg hh];refine⟨_,by rw[zaz];rfl,?_⟩;rw[zaz];exact cn.snoc l9
        obtain⟨aV,e1,e2⟩:=bu;obtain⟨c,p,t0,g1,g2,E3,t3⟩:=E2.oP (o':=.dT (putK kvs κ w)) (u:=.Bm true ((putK kvs κ w).map λ kv=>.tup (kv.1.map Dv)) (aV.map .sh)) da ot (λ _=>⟨λ z=>(by cases z),λ _ z=>by cases z⟩) (λ mv=>.dT Aq (e2.mono mv).ows);rw[e1,Jb g1 g2] at h;exact h _ _ _ (ub.trans t3) E3
    ·rw[if_neg hc] at h;exact h.elim
def RZ (tk:Bool):DN X WX (.Dict [] [] pos) (λ _=>.ok (.Bm tk [] [])):=by
 cases tk with
 |false =>
  refine⟨_,YF,λ P0 P σ H Q ρ E h p hp=>?_⟩;exact h _ [p] _ (AQ hp _) (λ a ha=>by rw[za7.mp ha];exact hp) (by simp) (.dK (kvs:=[]) Aq .nil)
 |true =>
  refine⟨_,YG,λ P0 P σ H Q ρ E h p hp=>?_⟩;exact h _ [p] _ (AQ hp _) (λ a ha=>by rw[za7.mp ha];exact hp) (by simp) (.dT (kvs:=[]) Aq .nil)
end
section
variable {f:Ac->M D}
abbrev lE (K:za0):List V->Hp->VK->Prop:=λ xs H Q=>∃(a:Addr) (bs:List (Addr×List Int)) (b:Addr×List Int),xs=[.ref a]/\Du K H a (bs.map λ b=>V.ref b.1)/\(∀b∈bs,EQ K H b.1 (b.2.map V.int))/\Bb bs=some b/\Q (.ref b.1) H
def Xb (hc:X.calm=true)(hu:X.A.units+1<cLine):FT X (.builtin "min") (lE X.K):=by
 intro pins s σ H xs us Q I r h;obtain⟨a,bs,b0,rfl,hl,hb,he,q⟩:=h;obtain⟨ua,rfl,ra⟩:=r.one;cases ra;obtain⟨aa,rv,pl,hz⟩:=I.list hl;have ei:=Ki rv;subst ei;have tv:∀a:Addr,∃t:Array Value,∀b∈bs,b.1=a->IsTup s.heap a t/\IntsAre t.toList b.2:=λ a=>by
  by_cases ca:∃b∈bs,b.1=a
  ·obtain⟨b,ca,rfl⟩:=ca;obtain⟨ts,rt,pt,_⟩:=I.tuple (hb b ca);refine⟨ts.toArray,λ b' a7 e=>⟨pt,?_⟩⟩;have q2:=hb b' a7;rw[e] at q2;have e2:=I.GQ q2 (hb b ca);rw[<-e2] at rt;simpa using intsAre_of rt
  ·exact⟨#[],λ b a7 e=>absurd ⟨b,a7,e⟩ ca⟩
 have ae:bs≠[]:=λ z=>by subst z;cases he
 refine Mt bs (λ b=>za8 (tv b)) a none (λ _=>ae) (I.ok.hd hc) hu pl.isList (λ b a7=>(za1 (tv b.1) b a7 rfl).1) (λ b a7=>(za1 (tv b.1) b a7 rfl).2) λ h' tk hk=>?_;rw[he];exact⟨.ref b0.1,H,I.kept (t':=tk) hk,rfl,q⟩
abbrev VA (ds:List D):M D:=match ds with
 |[.lst xs]=>(match Gj xs with|some ks=>(match Bb ks with|some k=>.ok k.1|none=>.bad)|none=>.bad)
 |_=>.bad
def iD:IT X.K WX (lE X.K) VA:=by
 intro P H ds vs Q ht hl h;unfold VA at h;split at h
 ·rename_i xs;obtain⟨v,rfl,hv⟩:=hl.one;split at h
  ·rename_i ks e1;cases hv with
   |lst hs hh =>
    obtain⟨bs,rfl,h2,h3⟩:=I9 hh e1;split at h
    ·rename_i k e2;rcases Mx h3 with ⟨q1,q2⟩|⟨b,k',q1,q2,_,q3⟩
     ·rw[q2] at e2;cases e2
     ·rw[q2] at e2;cases e2;exact⟨_,bs,b,rfl,hs.B3,λ b hb=>(h2 b hb).B3,q1,h _ H (Ae.refl H) q3⟩
    ·exact h.elim
  ·exact h.elim
 ·exact h.elim
def iE (hc:X.calm=true)(hu:X.A.units+n<cLine)(hg:Gl X "min")(hm:X.mg "min" = none)(ha:DE X WX c e f)(hb:bootBuiltins "min" = some (.builtin "min"):=by decide +kernel)(hs: ~~~(starEach [e] X.env=[(false,eval e X.env)]))(hn:1<=n:=by decide):DE X WX c (.Call (.Name "min" p) [e] [] pos) (λ ρ=>((f ρ).bind λ d=>(M.ok []).bind λ ds=>.ok (d::ds)).bind VA):=
 IU (Xb hc (by omega)) iD hg hm hb (A2 ha A7 hs) (he:=hs)
end
section
variable {E:XK}{f:Ac->M D}{fp:Ac->M (List Nat)}{i:Nat}
abbrev iF:V->List V->Hp->VK->Prop:=λ x vs H Q=>∃(l:Addr) (ns:List Int) (k:Int),x=.ref l/\vs=[.int k]/\H l=some (.lst (ns.map V.int))/\k∈ns/\Q .AE (upd H l (.lst ((ns.erase k).map V.int)))
def OP {α β:Type}(f:α->β):∀(l:List α) (k:Nat),(l.eraseIdx k).map f=(l.map f).eraseIdx k
 |[],_|_::_,0=>rfl
 |x::r,k+1=>by rw[List.eraseIdx_cons_succ,za6,za6,List.eraseIdx_cons_succ,OP f r k]
abbrev U9 (k:Int):Value->Bool
 | .int i _=>i==k
 |_=>false
def Xc:uK X "list.remove" iF:=by
 intro pins s σ H x vs v us Q I rx rv h;obtain⟨l,ns,k,rfl,rfl,hH,hk,q⟩:=h;cases rx;obtain⟨u,rfl,ru⟩:=rv.one;obtain⟨tk,rfl⟩:=ru;obtain⟨z,aa,n,r,hl,e⟩:=I.WJ hH;have hlen:=r.length;have gi:ns.idxOf k<ns.length:=List.idxOf_lt_length_iff.mpr hk;have gj:∀m (hm:m<aa.toArray.size) (uc:m<ns.length),∃t,aa.toArray[m]=zck ns[m] t:=λ m hm uc=>by
  have hx:(ns.map V.int)[m]?=some (V.int ns[m]):=by rw[zan,zaa uc];rfl
  obtain⟨w,hw,ba⟩:=r.get hx;obtain⟨t,rfl⟩:=ba;refine⟨t,?_⟩;have:aa[m]?=some aa[m]:=zaa (by simpa using hm);rw[hw] at this;simpa using (zat this).symm
 have hsz:aa.toArray.size=ns.length:=by rw[zae,<-hlen,za2]
 have hm:=MeetsSeq.list_remove l aa.toArray n (.int k tk) (U9 k) (λ y hy=>by
  obtain⟨m,hm,rfl⟩:=Array.mem_iff_getElem.mp hy;obtain⟨t,ht⟩:=gj m hm (by rw[<-hsz];exact hm);rw[ht];exact MeetsSeq.EqGives.int _ _ _ _) (ns.idxOf k) (by rw[hsz];exact gi) (by
  obtain⟨t,ht⟩:=gj (ns.idxOf k) (by rw[hsz];exact gi) gi;rw[ht];simp[U9]) (λ m hm ag=>by
  obtain⟨t,ht⟩:=gj m hm (by omega);rw[ht];have:=List.not_of_lt_findIdx (p:=(· == k)) (xs:=ns) (i:=m) ag;simpa [U9] using this) (by rw[zae];omega)
 refine call_meets F.slot_list_remove ⟨_,e,rfl⟩ F.entry_list_remove (F.args_list_remove_2 _ _) hm ⟨e,?_⟩;refine⟨.AE,_,I.fG (its':=aa.eraseIdx (ns.idxOf k)) hH e ?_ ?_ ?_,rfl,q⟩
 ·show aa.toArray.eraseIdxIfInBounds _=_;rw[List.eraseIdxIfInBounds_toArray]
 ·rw[show ns.erase k=ns.eraseIdx (ns.idxOf k) from List.erase_eq_eraseIdx_of_idxOf rfl,OP];exact r.eraseIdx _
 ·rw[za2];have:=List.length_erase_le (a:=k) (l:=ns);rw[za2] at z;omega
def Xd (ha:DP X WX a i fp)(he:DE X WX true e f)(hs: ~~~(starEach [e] X.env=[(false,eval e X.env)]))(bz: ~~~(swapsWith (.Call (.Attribute a "remove" apos) [e] [] af) none pos.line X.env=pure false))(az: ~~~(attributeBase a "remove" X.env (eval a X.env)=eval a X.env))(aL: ~~~(((backTo af (starEach [e] X.env)).all (λ x => !x.1)&&(backToKw af (keywordEach [] X.env)).all (λ x=>x.1.isSome)&&decide (([e]:List Expr).length+([]:List Keyword).length+(if ([]:List Keyword).isEmpty then 0 else 1)<30))=true))(a5: ~~~((apos.endLine==af.line)=true))(am: ~~~((backTo af (starEach [] X.env)).any (·.1)=false)):
 DS X WX (.Expr (.Call (.Attribute a "remove" apos) [e] [] af) pos) (λ ρ=>(fp ρ).bind λ π=>(To i ρ π).bind λ ds=>(f ρ).bind λ d=>match d,CK ds with
  | .int k,some ns=>if k∈ns then Ih i ρ π (.lst (((ns.erase k).map D.int).map .sh)) else .bad
  |_,_=>.bad):=by
 obtain⟨ta,a1,a2⟩:=ha;obtain⟨te,e1,e2⟩:=he;refine⟨_,GR (Rv zd6 PySem.F.slot_list_remove PySem.F.type_list_remove Xc a1 (Bu e1 CD hs) az aL a5 hs am) bz,λ P0 P σ H Z ρ E h=>?_⟩;dsimp only at h;refine a2 P0 P σ H _ ρ E ?_;refine fZ h E λ π h=>?_;intro v t1 H1 s1 pl;have E1:=E.same s1;cases q1:To i ρ π with
 |bad=>rw[q1] at h;exact h.elim
 |ex x=>exact (Zm q1).elim
 |ok ds =>
  rw[q1] at h;simp only[M.A8] at h;obtain⟨rfl,l,xs,rfl,hl,ol⟩:=pl.shl E1 q1;refine⟨.inl ⟨rfl,xs,.of hl⟩,e2 P0 P σ H1 _ ρ E1 ?_⟩;cases q2:f ρ with
  |bad=>rw[q2] at h;exact h
  |ex y=>rw[q2] at h;exact λ H' s=>h H' P ((E.tr s1).trans (E1.tr s))
  |ok d =>
   rw[q2] at h;simp only[M.A8] at h;intro w H2 s2 hw;have E2:=E1.same s2;have da:=pl.same s2;cases d with
   |int k =>
    cases q3:CK ds with
    |none=>rw[q3] at h;exact h.elim
    |some ns =>
     rw[q3] at h;dsimp only at h;by_cases hk:k∈ns
     ·rw[if_pos hk] at h;have:=Ea q3;subst this;have jq:=ol.mono s2.del;have ex:=Di jq;subst ex;have ar:=s2 _ _ hl;obtain⟨c,p,t0,g1,g2,E3,t3⟩:=E2.tI (ys:=(ns.erase k).map V.int) (es:=(ns.erase k).map D.int) da ar jq (Ag.ints _);rw[Jb g1 g2] at h;exact⟨l,ns,k,rfl,by rw[hw.int_inv],ar,hk,h _ _ _ (((E.tr s1).trans (E1.tr s2)).trans t3) E3⟩
     ·rw[if_neg hk] at h;exact h.elim
   |_=>exact h.elim
end
section
variable {f:Ac->M D}{te:TE}
abbrev tJ (ds:List D):M D:=match ds with
 |[.lst xs]=>(match CK xs with|some ns=>.ok (.int ns.sum)|none=>.bad)
 |_=>.bad
abbrev wY (te:TE):TE:=λ σ H Q=>te σ H λ x H1=>∃n:Nat,x=.int (n:Int)/\n<=1000/\∀r,H1 r=none->Q (.ref r) (upd H1 r (.lst ((zb1 n).map λ i:Nat=>V.int (i:Int))))
def Xe (h:ItemsOf (λ i v=>∃t,v=zck (0+(i:Int)*1) t) acc n):Vals ((zb1 n).map λ i:Nat=>V.int (i:Int)) acc.toList:=by
 obtain⟨h1,h2⟩:=h;have key:∀(l:List Value) (k:Nat),(∀i v,l[i]?=some v->∃t,v=zck ((k+i:Nat):Int) t)->Vals ((List.range' k l.length).map λ i:Nat=>V.int (i:Int)) l:=by
  intro l;induction l with
  |nil=>intro k _;exact .nil
  |cons v r ih =>
   intro k hk;rw[za9,List.range'_succ,za6];refine .cons (by obtain⟨t,e⟩:=hk 0 v rfl;exact⟨t,by simpa using e⟩) (ih (k+1) λ i w hw=>?_);obtain⟨t,e⟩:=hk (i+1) w (by simpa using hw);exact⟨t,by rw[e];congr 1;omega⟩
 have:=key acc.toList 0 (λ i v hv=>by
  obtain⟨t,e⟩:=h2 i v (by rw[<-zce];exact hv);exact⟨t,by rw[e];congr 1;omega⟩)
 rw[zc2,h1] at this;rw[List.range_eq_range'];exact this
def Qe (hc:X.calm=true)(hg:Gl X "list")(hm:X.mg "list" = none)(bN:Gl X "range")(aZ:X.mg "range" = none)(he:PE X e te)(hv:bootBuiltins "list" = some (.type "list"):=by decide +kernel)(hs: ~~~(starEach [.Call (.Name "range" p2) [e] [] aD] X.env=[(false,eval (.Call (.Name "range" p2) [e] [] aD) X.env)]))(a8: ~~~(starEach [e] X.env=[(false,eval e X.env)])):
 PE X (.Call (.Name "list" p) [.Call (.Name "range" p2) [e] [] aD] [] pos) (wY te):=by
 intro pins s σ H Q I h;refine wpAny_Call_Name_kw (CS I hg hm hv ?_);refine zbm ?_ hs;rw[hs];refine zc6 ?_;refine wpAny_Call_Name_kw (CS I bN aZ boot_range ?_);refine zbm ?_ a8;rw[a8];refine zc6 (Bh (he pins s σ H _ I h) λ u s1 zz=>?_);obtain⟨x,H1,I1,r1,q1⟩:=zz;obtain⟨n,rfl,hn,q⟩:=q1;obtain⟨t,rfl⟩:=r1;refine zcc ?_;refine call_range_1 ?_;refine zcc ?_;have h4:((n:Nat):Int)<2^62:=by omega
 refine call_list_range (n:=n) (I1.ok.hd hc) (IsRange.new ..) (small_one (by omega) (by omega) (by omega) h4) (by rw[rangeSize_one];split<;>omega) (by omega) λ h' tk gm c' hk aT bJ=>?_;have kp:∀b o,s1.heap.get? b=some o->h'.get? b=some o:=λ b o e=>hk b o (za5 _ e);have rv:=Xe bJ;have jt:∀o:Obj,s1.heap.objs.size<=(s1.heap.push o).objs.size:=λ o=>by simp[Heap.push]
 refine⟨.ref _,_,I1.laid (t':=tk) (o:=.lst ((zb1 n).map λ i:Nat=>V.int (i:Int))) kp (jt _) ⟨?_,gm.toList,c',rv,by simpa using aT⟩,rfl,q _ (I1.Ar.fresh (jt _))⟩;rw[za2,zcq];exact zbf (AA hn)
abbrev uP (d:D):M OT:=match d with
 | .int j=>@ite _ (0<=j/\j<=1000) (zd4 _) (.ok (.lst ((BD 0 j.toNat).map .sh))) .bad
 |_=>.bad
def Qf {n:Nat}(h:n<=1000):uP (.int (n:Int))=.ok (.lst (((zb1 n).map λ i:Nat=>D.int (i:Int)).map .sh)):=by
 unfold uP;dsimp only;rw[if_pos ⟨by omega,by omega⟩,zb4,Fq]
def Jc (hc:X.calm=true)(hg:Gl X "list")(hm:X.mg "list" = none)(bN:Gl X "range")(aZ:X.mg "range" = none)(he:DE X WX true e f)(hv:bootBuiltins "list" = some (.type "list"):=by decide +kernel)(hs: ~~~(starEach [.Call (.Name "range" p2) [e] [] aD] X.env=[(false,eval (.Call (.Name "range" p2) [e] [] aD) X.env)]))(a8: ~~~(starEach [e] X.env=[(false,eval e X.env)])):
 DN X WX (.Call (.Name "list" p) [.Call (.Name "range" p2) [e] [] aD] [] pos) (λ ρ=>(f ρ).bind uP):=by
 obtain⟨te,e1,e2⟩:=he;refine⟨_,Qe hc hg hm bN aZ e1 hv hs a8,λ P0 P σ H Q ρ E h=>?_⟩;refine e2 P0 P σ H _ ρ E ?_;dsimp only at h;refine YO h λ d h=>?_;intro v H1 s1 hv;cases d with
 |int j =>
  by_cases hj:0<=j/\j<=1000
  ·obtain⟨n,rfl⟩:∃n:Nat,j=n:=⟨j.toNat,by omega⟩;rw[Qf (by omega)] at h;refine⟨n,hv.int_inv,by omega,λ r hr=>h.Ib s1 (xs:=(zb1 n).map λ i:Nat=>V.int (i:Int)) ?_ r hr⟩;have:∀l:List Nat,Ag X.K (del H1 P) (l.map λ i:Nat=>V.int (i:Int)) (l.map λ i:Nat=>D.int (i:Int)):=λ l=>by
    induction l with
    |nil=>exact .nil
    |cons x r ih=>exact .cons (.int _) ih
   exact this _
  ·have e:uP (.int j)=.bad:=if_neg hj;rw[e] at h;exact h.elim
 |_=>exact h.elim
abbrev Zs (lo hi:Option Int)(d:D):M OT:=match d with
 | .lst ds=>.ok (.lst (((ds.drop (HT.LC ds.length 0 lo)).take (HT.LC ds.length ds.length hi-HT.LC ds.length 0 lo)).map .sh))
 |_=>.bad
def Gs {lo}(ha:DE X WX true e f)(hl:DO X WX true lo ph)(hh:DO X WX true hi fh):DN X WX (.Subscript e (.Slice lo hi none p2) pos) (λ ρ=>(f ρ).bind λ d=>(ph ρ).bind λ l=>(fh ρ).bind λ u=>Zs l u d):=by
 obtain⟨ta,a1,a2⟩:=ha;obtain⟨tl,l1,l2⟩:=hl;obtain⟨th,h1,h2⟩:=hh;refine⟨_,Yz fF a1 l1 h1,λ P0 P σ H Q ρ E h=>?_⟩;dsimp only at h;refine a2 P0 P σ H _ ρ E ?_;cases q:f ρ with
 |bad|ex x=>rw[q] at h;exact h
 |ok d =>
  rw[q] at h;intro v H1 s1 hv;refine l2 P0 P σ H1 _ ρ (E.same s1) ?_;cases q2:ph ρ with
  |bad=>rw[q2] at h;exact h
  |ex y=>rw[q2] at h;exact λ H' s=>h H' (s1.trans s)
  |ok l =>
   rw[q2] at h;intro H2 s2;refine h2 P0 P σ H2 _ ρ ((E.same s1).same s2) ?_;cases q3:fh ρ with
   |bad=>rw[q3] at h;exact h
   |ex y=>rw[q3] at h;exact λ H' s=>h H' ((s1.trans s2).trans s)
   |ok u =>
    rw[q3] at h;simp only[M.A8] at h;intro H3 s3;unfold Zs at h;split at h
    ·cases hv with
     |lst hs hl =>
      refine⟨_,_,rfl,(s3.seq (s2.seq hs.B3)),λ p hp=>h.Ib ((s1.trans s2).trans s3) ?_ p hp⟩;unfold YA;rw[hl.length];exact ((((hl.drop _).take _).mono s2.del).mono s3.del)
    ·exact h.elim
def Zt:yA X.K WX (lA X.K) RT:=by
 intro P H x y v w Q ht hx hy h;unfold RT at h;split at h
 ·rename_i ds es;by_cases hl:ds.length+es.length<=1000
  ·rw[if_pos hl] at h;cases hx with
   |lst h1 h2 =>
    cases hy with
    |lst h3 h4=>exact⟨_,_,_,_,rfl,rfl,h1.B3,h3.B3,zbf (AA (by rw[h2.length,h4.length];exact hl)),h.Ib (Ae.refl _) (h2.xZ h4)⟩
  ·rw[if_neg hl] at h;exact h.elim
 ·exact h.elim
def iG (ha:DE X WX true a f)(hb:DE X WX true b g):DN X WX (.BinOp a .Add b pos) (λ ρ=>(f ρ).bind λ x=>(g ρ).bind λ y=>RT x y):=by
 obtain⟨ta,a1,a2⟩:=ha;obtain⟨tb,b1,b2⟩:=hb;exact⟨_,Yo gD a1 b1,λ P0 P σ H Q ρ E h=>sZ a2 b2 Zt E h⟩
abbrev GK (μ:List (Option Nat))(g:TG):Prop:=∀σ0 σ x H Q,(∀(j:Nat) v,(ER μ σ0)[j]?=some (some v)->σ[j]?=some (some v))->g x σ H Q->g x σ H λ σ' H'=>Q σ' H'/\∀(j:Nat) v,(ER μ σ0)[j]?=some (some v)->σ'[j]?=some (some v)
abbrev tK (μ:List (Option Nat))(g:Y3):Prop:=∀σ0 σ x H Q,(∀(j:Nat) v,(ER μ σ0)[j]?=some (some v)->σ[j]?=some (some v))->g x σ H Q->g x σ H λ σ' H'=>Q σ' H'/\∀(j:Nat) v,(ER μ σ0)[j]?=some (some v)->σ'[j]?=some (some v)
def GK.keeps {g}(h:GK μ g):Kh μ g:=λ σ x H Q q=>h σ (ER μ σ) x H Q (λ _ _ z=>z) q
def iH (h:μ[i]?=some none):GK μ (Oj i):=λ σ0 σ x H Q hk q=>by
 refine⟨q,λ j v hj=>?_⟩;have ae:i≠j:=λ z=>by
  subst z;unfold ER at hj;rw[zan,h] at hj;cases hj
 rw[zbs ae];exact hk j v hj
def iI:tK μ mK:=λ σ0 σ x H Q hk q=>⟨q.1,q.2,hk⟩
def Zu (mono:∀v σ H Q Q',(∀σ' H',Q σ' H'->Q' σ' H')->t v σ H Q->t v σ H Q')(ht:GK μ t)(hu:tK μ u):tK μ (Yg t u):=λ σ0 σ x H Q hk q=>by
 obtain⟨v,r,rfl,q⟩:=q;exact⟨v,r,rfl,mono _ _ _ _ _ (λ σ' H' z=>hu σ0 σ' r H' Q z.2 z.1) (ht σ0 σ v H _ hk q)⟩
def oQ {K}(h:tK μ t):GK μ (mL K n t):=λ σ0 σ x H Q hk q=>by
 obtain⟨a,xs,rfl,h1,h2,q⟩:=q;exact⟨a,xs,rfl,h1,h2,h σ0 σ xs H Q hk q⟩
variable {c8:List D->Ac->M Ac}
abbrev iJ (X:Cx)(scope:Scope)(NB:List Str)(μ:List (Option Nat))(es:List Expr)(gt:List D->Ac->M Ac):Prop:=
 ∃g:Y3,(∀s H C ex,qH (blockOf X s H scope C NB ex) es g)/\tK μ g/\∀P0 P σ H Q ρ vs ds,Al X.K P0 P H σ ρ->Ag X.K (del H P) vs ds->gG X.K P0 P H Q (gt ds ρ)->g vs σ H Q
def S0:iJ X scope NB μ [] (λ ds ρ=>match ds with | []=>.ok ρ | _=>.bad):=
 ⟨mK,λ s H C ex=>V4,iI,λ P0 P σ H Q ρ vs ds E hv h=>by
  cases hv with
  |nil=>exact⟨rfl,h σ E⟩
  |cons _ _=>exact h.elim⟩
def Hc (i:Nat)(hN:NB.Nodup)(hi:NB[i]?=some x)(hx:(relabel scope X.env).names.lookup x=some .local)(hm:μ[i]?=some none)(hr:iJ X scope NB μ es c8)(hs:∀s H C ex,(assignEach (.Name x px::es) (blockOf X s H scope C NB ex).env).map (·.2)=assign (.Name x px) (blockOf X s H scope C NB ex).env::(assignEach es (blockOf X s H scope C NB ex).env).map (·.2):=by intro _ _ _ _;rfl):
 iJ X scope NB μ (.Name x px::es) (λ ds ρ=>match ds with|d::r=>c8 r (ρ.set i (some (.val d)))|[]=>.bad):=by
 obtain⟨gr,r1,r2,r3⟩:=hr;refine⟨Yg (Oj i) gr,λ s H C ex=>Rk (PD (X:=blockOf X s H scope C NB ex) hN hi (.inl hx) (.inr hx)) (r1 s H C ex) (hs s H C ex),Zu (λ v σ H Q Q' hq h=>hq _ _ h) (iH hm) r2,λ P0 P σ H Q ρ vs ds E hv h=>?_⟩;cases hv with
 |nil=>exact h.elim
 |cons h1 h2=>exact⟨_,_,rfl,r3 P0 P _ H Q _ _ _ (E.WV h1) h2 h⟩
def VB (hc:X.calm=true)(h:iJ X scope NB μ es c8)(hn:∀s H C ex,(assignEach es (blockOf X s H scope C NB ex).env).length=n:=by intro _ _ _ _;rfl)(aE:∀s H C ex,(assignEach es (blockOf X s H scope C NB ex).env).findIdx? (·.1)=none:=by intro _ _ _ _;rfl):
 sS X scope NB μ (.Tuple es k pt) (λ d ρ=>match d with | .tup ds=>if ds.length=n then c8 ds ρ else .bad|_=>.bad):=by
 obtain⟨t,a1,a2,a3⟩:=h;refine⟨mL X.K n t,λ s H C ex=>Yh (X:=blockOf X s H scope C NB ex) hc (a1 s H C ex) (hn s H C ex) (aE s H C ex),(oQ a2).keeps,λ P0 P σ H Q ρ v d E hv h=>?_⟩;cases hv with
 | @tup a xs ds hs hl =>
  dsimp only at h;by_cases hd:ds.length=n
  ·rw[if_pos hd] at h;exact⟨a,xs,rfl,EQ.of (Am hs).2,by rw[hl.length];exact hd,a3 P0 P σ H Q ρ xs ds E hl h⟩
  ·rw[if_neg hd] at h;exact h.elim
 |_=>exact h.elim
end
abbrev WP (m:M Out)(nx:Ac->Prop)(rt:Out->Prop)(ex:Str->Prop):Prop:=match m with
 | .ok (.next ρ)=>nx ρ
 | .ok o=>rt o
 | .ex x=>ex x
 | .bad=>False
section
variable {nx:Ac->Prop}{rt:Out->Prop}{ex:Str->Prop}{m:M Out}{k:Ac->M Out}
def B9 (h:m=.ok (.next ρ'))(hn:nx ρ'):WP m nx rt ex:=by rw[h];exact hn
def WP.mono (h:WP m nx rt ex)(h1:∀ρ,nx ρ->ue ρ)(h2:∀o,rt o->uf o)(h3:∀x,ex x->my x):WP m ue uf my:=by
 cases m with
 |bad=>exact h
 |ex x=>exact h3 x h
 |ok o =>
  cases o with
  |next ρ=>exact h1 ρ h
  |ret d|brk d|cont d|CF d|ES d ρ=>exact h2 _ h
def wp_seq (h:WP m (λ ρ=>WP (k ρ) nx rt ex) rt ex):WP (TZ m k) nx rt ex:=by
 cases m with
 |bad|ex x=>exact h
 |ok o =>
  cases o with
  |next ρ|ret d|brk d|cont d|CF d|ES d ρ=>exact h
def wp_step (h:m=.ok (.next ρ'))(hk:WP (k ρ') nx rt ex):WP (TZ m k) nx rt ex:=by rw[h];exact hk
def C3 (h:WP m I rt ex)(hk:∀ρ,I ρ->WP (k ρ) nx rt ex):WP (TZ m k) nx rt ex:=wp_seq (h.mono hk (λ _ h=>h) λ _ h=>h)
abbrev inLoop (I:Ac->Prop)(nx:Ac->Prop)(rt:Out->Prop)(o:Out):Prop:=match o with
 | .cont ρ=>I ρ
 | .brk ρ=>nx ρ
 |o=>rt o
def BH (I:Nat->Ac->Prop)(h0:I 0 ρ)(step:∀i d ρ,ds[i]?=some d->I i ρ->∃ρ1,gt d ρ=.ok ρ1/\WP (gb ρ1) (I (i+1)) (inLoop (I (i+1)) nx rt) ex)(done:∀ρ,I ds.length ρ->nx ρ):WP (forM gt gb ds ρ) nx rt ex:=by
 have key:∀(n i:Nat) (ρ:Ac),i+n=ds.length->I i ρ->WP (forM gt gb (ds.drop i) ρ) nx rt ex:=by
  intro n;induction n with
  |zero =>
   intro i ρ hi h;have e:i=ds.length:=by omega
   subst e;rw[List.drop_length,forM];exact done ρ h
  |succ n ih =>
   intro i ρ hi h;have ag:i<ds.length:=by omega
   obtain⟨ρ1,h1,h2⟩:=step i ds[i] ρ (zaa ag) h;rw[IW ag,forM,h1];dsimp only;cases q:gb ρ1 with
   |bad|ex x=>rw[q] at h2;exact h2
   |ok o =>
    rw[q] at h2;cases o with
    |next ρ2=>exact ih (i+1) ρ2 (by omega) h2
    |ret d|CF d|ES d ρ2=>exact h2
    |cont ρ2=>exact ih (i+1) ρ2 (by omega) h2
    |brk ρ2=>exact h2
 have:=key ds.length 0 ρ (by omega) h0;rw[List.drop_zero] at this;exact this
def S1 {α:Type}{c}{b}{lt}(J:α->Ac->Prop){x}(hx:Acc lt x)(h0:J x ρ)(step:∀x ρ,J x ρ->(c ρ=.ok false/\nx ρ)\/(c ρ=.ok true/\WP (b ρ) (λ ρ2=>∃y,lt y x/\J y ρ2) (inLoop (λ ρ2=>∃y,lt y x/\J y ρ2) nx rt) ex)):WP (KW c b ρ) nx rt ex:=by
 have key:∀x,Acc lt x->∀ρ,J x ρ->∃n,Av c b n ρ≠.bad/\WP (Av c b n ρ) nx rt ex:=by
  intro x hx;induction hx with
  |intro x _ ih =>
   intro ρ h;rcases step x ρ h with ⟨h1,h2⟩|⟨h1,h2⟩
   ·refine⟨1,?_,?_⟩
    ·rw[Av,h1];intro z;cases z
    ·rw[Av,h1];exact h2
   ·cases q:b ρ with
    |bad=>rw[q] at h2;exact h2.elim
    |ex y =>
     rw[q] at h2;refine⟨1,?_,?_⟩
     ·rw[Av,h1];dsimp only;rw[q];intro z;cases z
     ·rw[Av,h1];dsimp only;rw[q];exact h2
    |ok o =>
     rw[q] at h2;have go:∀ρ2,(∃y,lt y x/\J y ρ2)->(∀n,Av c b (n+1) ρ=Av c b n ρ2)->∃n,Av c b n ρ≠.bad/\WP (Av c b n ρ) nx rt ex:=by
      rintro ρ2 ⟨y,hy,hJ⟩ e;obtain⟨n,h3,h4⟩:=ih y hy ρ2 hJ;exact⟨n+1,by rw[e];exact h3,by rw[e];exact h4⟩
     cases o with
     |next ρ2|cont ρ2=>exact go ρ2 h2 λ n=>by rw[Av,h1];dsimp only;rw[q]
     |brk ρ2 =>
      refine⟨1,?_,?_⟩
      ·rw[Av,h1];dsimp only;rw[q];intro z;cases z
      ·rw[Av,h1];dsimp only;rw[q];exact h2
     |ret d =>
      refine⟨1,?_,?_⟩
      ·rw[Av,h1];dsimp only;rw[q];intro z;cases z
      ·rw[Av,h1];dsimp only;rw[q];exact h2
     |CF d =>
      refine⟨1,?_,?_⟩
      ·rw[Av,h1];dsimp only;rw[q];intro z;cases z
      ·rw[Av,h1];dsimp only;rw[q];exact h2
     |ES d ρ2 =>
      refine⟨1,?_,?_⟩
      ·rw[Av,h1];dsimp only;rw[q];intro z;cases z
      ·rw[Av,h1];dsimp only;rw[q];exact h2
 obtain⟨n,h1,h2⟩:=key x hx ρ h0;unfold KW;have hx:∃n,Av c b n ρ≠.bad:=⟨n,h1⟩;rw[dif_pos hx];have e:Av c b (za8 hx) ρ=Av c b n ρ:=by
  have a:=CL (za1 hx) n;have b':=CL h1 (za8 hx);rw[Nat.add_comm] at b';rw[<-a,<-b']
 rw[e];exact h2
abbrev wZ (Q:OT->Prop)(o:Out):Prop:=match o with
 | .ret d=>Q (.sh d)
 | .CF c=>∃t,tD c=.ok t/\Q t
 |_=>False
def Jd (h:WP m (λ _=>Q (.sh .AE)) (wZ Q) (λ _=>False)):∃t,RU m=.ok t/\Q t:=by
 cases m with
 |bad|ex x=>exact h.elim
 |ok o =>
  cases o with
  |next ρ|ret d=>exact⟨_,rfl,h⟩
  |CF c=>exact h
  |ES c ρ|brk ρ|cont ρ=>exact h.elim
def Bv (h:WP m (λ _=>OT.sh .AE=t) (wZ (·=t)) (λ _=>False)):RU m=.ok t:=by
 obtain⟨u,h1,h2⟩:=Jd (Q:=(·=t)) h;rw[h1,h2]
abbrev yB (Q:D->Prop)(o:Out):Prop:=match o with
 | .ret d=>Q d
 | .CF c=>∃t,wR c=.ok t/\Q t
 |_=>False
def tL (h:WP m (λ _=>Q .AE) (yB Q) (λ _=>False)):∃t,fin m=.ok t/\Q t:=by
 cases m with
 |bad|ex x=>exact h.elim
 |ok o =>
  cases o with
  |next ρ|ret d=>exact⟨_,rfl,h⟩
  |CF c=>exact h
  |ES c ρ|brk ρ|cont ρ=>exact h.elim
def tM (h:WP m (λ _=>D.AE=d) (yB (·=d)) (λ _=>False)):fin m=.ok d:=by
 obtain⟨u,h1,h2⟩:=tL (Q:=(·=d)) h;rw[h1,h2]
end
section
variable {d:D}{ds es:List D}{o:Option Cl}{i n:Nat}{p:Option Nat}{t u:OT}{π:List Nat}{b:Bool}{ks vs:List D}{ts:List OT}{m:M D}
def uQ:rv 0 (some (.val d)::ρ)=.ok d:=rfl
def uR:rv (i+1) (o::ρ)=rv i ρ:=rfl
abbrev S2 (f:Ac->Ac)(m:M Out):M Out:=match m with
 | .ok (.next ρ)=>.ok (.next (f ρ))
 |m=>m
def Je:S2 f (.ok (.next ρ))=.ok (.next (f ρ)):=rfl
def Jf:RW 0 (some (.own ds)::ρ)=.ok []:=rfl
def Jg:RW 0 (some (.ow (.LF n ds))::ρ)=.ok []:=rfl
def Hd:RW 0 (some (.ow (.tree p t))::ρ)=.ok []:=by unfold RW Vy;simp[treeOf]
def VC:RW (i+1) (o::ρ)=RW i ρ:=rfl
def VD:Vy 0 (some (.own ds)::ρ) π=Ko (.lst (ds.map .sh)) π:=rfl
def VE:Vy 0 (some (.ow (.LF n ds))::ρ) π=Ko (.lst (ds.map .sh)) π:=rfl
def MN:Vy 0 (some (.ow (.tree p t))::ρ) π=Ko t π:=rfl
def LN:To 0 (some (.own ds)::ρ) []=.ok ds:=by unfold To;simp[VD,CN]
def LO:To 0 (some (.ow (.LF n ds))::ρ) []=.ok ds:=by unfold To;simp[VE,CN]
def Jh:To 0 (some (.ow (.tree p (.lst (ds.map .sh))))::ρ) []=.ok ds:=by unfold To;simp[MN,CN]
def iK:To (i+1) (o::ρ) π=To i ρ π:=rfl
def He:KY 0 (some (.own ds)::ρ) []=.ok (ds.map .sh):=by unfold KY;simp[VD]
def Hf:KY 0 (some (.ow (.LF n ds))::ρ) []=.ok (ds.map .sh):=by unfold KY;simp[VE]
def Ft:KY 0 (some (.ow (.tree p (.lst ts)))::ρ) []=.ok ts:=by unfold KY;simp[MN]
def Qg:KY (i+1) (o::ρ) π=KY i ρ π:=rfl
def Dk:FV 0 (some (.ow (.tree p (.Bm b ks (vs.map .sh))))::ρ) []=.ok (b,ks,vs):=by unfold FV;simp[MN,CN]
def Qh:FV (i+1) (o::ρ) π=FV i ρ π:=rfl
def Ji:Ih 0 (some (.own ds)::ρ) [] u=.ok (.next (some (toCl none u)::ρ)):=by unfold Ih;simp[treeOf]
def Jj:Ih 0 (some (.ow (.LF n ds))::ρ) [] u=.ok (.next (some (toCl (some n) u)::ρ)):=by unfold Ih;simp[treeOf]
def Hg:Ih 0 (some (.ow (.tree p t))::ρ) π u=.ok (.next (some (toCl p (EU t π u))::ρ)):=by unfold Ih;simp[treeOf]
def VF:Ih (i+1) (o::ρ) π u=S2 (o::·) (Ih i ρ π u):=by
 unfold Ih S2;simp only[zb7,zac];split
 ·rename_i c e;split<;>simp_all
 ·simp_all
def Jk:WY 0 (some (.own ds)::ρ) (.ok d)=if ds.length<1000 then .ok (.next (some (.own (ds++[d]))::ρ)) else .bad:=rfl
def VG:WY (i+1) (o::ρ) m=S2 (o::·) (WY i ρ m):=by
 unfold WY;rw[zb7];cases q:ρ[i]? with
 |none=>rfl
 |some oo =>
  cases oo with
  |none=>rfl
  |some c =>
   cases c with
   |own ds =>
    cases m with
    |ok d =>
     simp only[M.A8,zac];by_cases h:ds.length<1000
     ·rw[if_pos h,if_pos h];rfl
     ·rw[if_neg h,if_neg h];rfl
    |ex x|bad=>rfl
   |val d|ow w=>rfl
def Jl:X6 0 (some (.own ds)::ρ) (.ok (.int j)) (.ok d)=if 0<=j/\j.toNat<=ds.length/\ds.length<1000 then .ok (.next (some (.own (ds.take j.toNat++d::ds.drop j.toNat))::ρ)) else .bad:=rfl
def VH:X6 (i+1) (o::ρ) m m2=S2 (o::·) (X6 i ρ m m2):=by
 unfold X6;rw[zb7];cases q:ρ[i]? with
 |none=>rfl
 |some oo =>
  cases oo with
  |none=>rfl
  |some c =>
   cases c with
   |own ds =>
    cases m with
    |ok d =>
     cases m2 with
     |ok d2 =>
      simp only[M.A8,zac];cases d with
      |int j =>
       dsimp only;by_cases h:0<=j/\j.toNat<=ds.length/\ds.length<1000
       ·rw[if_pos h,if_pos h];rfl
       ·rw[if_neg h,if_neg h];rfl
      |_=>rfl
     |ex x|bad=>rfl
    |ex x|bad=>rfl
   |val d|ow w=>rfl
def Jm:U7 0 (some (.val d)::ρ)=.ok (.ret d):=rfl
def Jn:U7 0 (some (.own ds)::ρ)=.ok (.CF (.own ds)):=rfl
def LP:U7 0 (some (.ow w)::ρ)=.ok (.CF (.ow w)):=rfl
def VI:U7 (i+1) (o::ρ)=U7 i ρ:=rfl
def yC:wV i ρ π=match Vy i ρ π with | some (.sh d)=>.ok d | _=>.bad:=rfl
def iL:Zi (i+1) (o::ρ)=o::Zi i ρ:=by
 unfold Zi;simp only[zb7,zac];split<;>simp_all
def iM {c}:Zi 0 (some c::ρ)=some (Lq c)::ρ:=rfl
def Jo:Lq (.val d)=.val d:=rfl
def Jp:Lq (.own ds)=.val (.lst ds):=rfl
def Jq:Lq (.ow (.LF n ds))=.val (.lst ds):=rfl
def LQ:Lq (.ow (.tree p t))=.val (er t):=rfl
def Ii:er (.Bm b ks (vs.map .sh))=.Bm b ks vs:=by rw[er,Qc]
def Ks:er (.lst (ds.map .sh))=.lst ds:=by rw[er,Qc]
def S3:er (.sh d)=d:=rfl
def uS:BB (none::l) ρ=none::BB l ρ:=rfl
def uU:BB [] ρ=[]:=rfl
def iN:BB (some i::l) ρ=(match ρ[i]? with | some (some (.val d))=>some (.val d) | _=>none)::BB l ρ:=rfl
def iO {α:Type}{x:α}{y}:(if ([]:List D).length<=1000 then x else y)=x:=if_pos (by show 0<=1000;decide)
def iP {α:Type}{x:α}{y}{a:D}:(if [a].length<=1000 then x else y)=x:=if_pos (by show 1<=1000;decide)
def iQ {α:Type}{x y:α}{a b:D}:(if [a,b].length<=1000 then x else y)=x:=if_pos (by show 2<=1000;decide)
def iR {α:Type}{x y:α}{a b c:D}:(if [a,b,c].length<=1000 then x else y)=x:=if_pos (by show 3<=1000;decide)
def iS {α:Type}{x:α}{y}{a b c}:(if [a,b,c,d].length<=1000 then x else y)=x:=if_pos (by show 4<=1000;decide)
def toCl_nil:toCl none (.lst [])=.own []:=rfl
def BP {α:Type}{gt:D->Ac->M Ac}{ft:Ac->M Bool}{fe:Ac->M D}{g:α->D}(p:α->Bool)(f:α->D):∀ {l:List α},(∀x∈l,∃ρ1,gt (g x) ρ=.ok ρ1/\ft ρ1=.ok (p x)/\(p x=true->fe ρ1=.ok (f x)))->Bi gt ft fe (l.map g) ρ=.ok ((l.filter p).map f)
 |[],_=>rfl
 |x::r,h=>by
  obtain⟨ρ1,h1,h2,h3⟩:=h x za3;have ih:=BP (gt:=gt) (ft:=ft) (fe:=fe) (g:=g) p f (l:=r) λ y hy=>h y (za4 _ hy);rw[za6,Bi,h1];dsimp only;rw[h2];dsimp only;rw[List.filter_cons];cases hp:p x with
  |true =>
   rw[if_pos rfl,h3 hp];dsimp only;rw[ih];simp
  |false=>simp[ih]
def Ca {α:Type}{g}(f:α->D){l:List α}(h:∀x∈l,∃ρ1,gt (g x) ρ=.ok ρ1/\ft ρ1=.ok true/\fe ρ1=.ok (f x)):Bi gt ft fe (l.map g) ρ=.ok (l.map f):=by
 have:=BP (gt:=gt) (ft:=ft) (fe:=fe) (ρ:=ρ) (g:=g) (λ _=>true) f (l:=l) λ x hx=>by
  obtain⟨ρ1,h1,h2,h3⟩:=h x hx;exact⟨ρ1,h1,h2,λ _=>h3⟩
 rw[this,List.filter_eq_self.mpr (λ _ _=>rfl)]
def BU {α:Type}{g}{l:List α}(h:(l.map g)[i]?=some d):∃x,l[i]?=some x/\d=g x:=by
 rw[zan] at h;cases q:l[i]? with
 |none=>rw[q] at h;cases h
 |some x=>rw[q] at h;cases h;exact⟨x,rfl,rfl⟩
def Qi:iC (.lst (ds.map .sh))=.ok ds:=by unfold iC;simp[CN,iB]
def Hh {α:Type}{x:α}:iB (some x)=.ok x:=rfl
def LR:RV i ρ (.sh d)=.ok (.next (ρ.set i (some (.val d)))):=rfl
def Jr:RV i ρ (.lst ts)=.ok (.next (ρ.set i (some (toCl none (.lst ts))))):=rfl
def Js:RV i ρ (.tup ts)=.ok (.next (ρ.set i (some (.ow (.tree none (.tup ts)))))):=rfl
def Jt:RV i ρ (.Bm b ks ts)=.ok (.next (ρ.set i (some (.ow (.tree none (.Bm b ks ts)))))):=rfl
def Ju:RV i ρ (.ins x ns ts)=.ok (.next (ρ.set i (some (.ow (.tree none (.ins x ns ts)))))):=rfl
def LS:Zh (.sh d)=.ok (.ret d):=rfl
def Jv:Zh (.lst ts)=.ok (.CF (.ow (.tree none (.lst ts)))):=rfl
def Jw:Zh (.tup ts)=.ok (.CF (.ow (.tree none (.tup ts)))):=rfl
def Jx:Zh (.Bm b ks ts)=.ok (.CF (.ow (.tree none (.Bm b ks ts)))):=rfl
def S4 {α:Type}{f}(h:∀x,J0 (f x)=true):∀l:List α,J1 (l.map f)=true
 |[]=>by simp[J1]
 |x::r=>by rw[za6,J1,h x,S4 h r];rfl
def S5:∀ds:List D,FU (ds.map .sh)=J1 ds
 |[]=>by simp[J1,FU]
 |d::r=>by rw[za6,FU,Gp,S5 r,J1]
def oR (h:J0 d=true):RS (.ok (.sh d))=.ok (.sh d):=by unfold RS;simp[Gp,h]
def iT (h:J1 ds=true):RS (.ok (.lst (ds.map .sh)))=.ok (.lst (ds.map .sh)):=by unfold RS;simp[Gp,S5,h]
def iU {i}:J0 (.int i)=true:=by simp[J0]
def Zv:Gq (.lst ds)=.ok (!ds.isEmpty):=rfl
def oS {a:Int}{m}(h0:0<=a)(h1:a<m)(s0:1<=s)(s1:s<m):(a+s)%m≠a:=by
 by_cases h:a+s<m
 ·rw[Int.emod_eq_of_lt (by omega) h];omega
 ·have e:(a+s)%m=(a+s-m)%m:=by rw[Int.sub_emod_right]
  rw[e,Int.emod_eq_of_lt (by omega) (by omega)];omega
def LU (i j:Int):eF k (.int i) (.int j)=.ok (.bl (decide (i=j))):=by
 rw[Q8 (ET _) (ET _)];simp only[Bk,Bool.beq_eq_decide_eq]
def LV (i j:Int):YU k (.int i) (.int j)=.ok (.bl (!decide (i=j))):=by
 rw[U5 (ET _) (ET _)];simp only[Bk,Bool.beq_eq_decide_eq]
def Jy {i}:sJ (.int i) (.int j)=.ok (.int (i+j)):=rfl
def Jz {i}:sL (.int i) (.int j)=.ok (.int (i-j)):=rfl
def LW {i}:xU (.int i) (.int j)=.ok (.bl (decide (i<j))):=rfl
def LX {i}:xV (.int i) (.int j)=.ok (.bl (decide (i<=j))):=rfl
def LY {i}:xW (.int i) (.int j)=.ok (.bl (decide (j<i))):=rfl
def LZ {i}:yT (.int i) (.int j)=.ok (.bl (decide (j<=i))):=rfl
def M2 {i}:xX (.int i)=.ok (some i):=rfl
def JA:WU [.lst ds]=.ok (.int ds.length):=rfl
def JB:WU [.tup ds]=.ok (.int ds.length):=rfl
def ite_tt {α:Type}{x:α}{y}:(if true=true then x else y)=x:=rfl
def ite_ff {α:Type}{x:α}{y}:(if false=true then x else y)=y:=rfl
def Zw {lo}(h:qK lo hi x=.ok (.lst ds)):Zs lo hi x=.ok (.lst (ds.map .sh)):=by
 unfold qK at h;unfold Zs;cases x with
 |lst xs=>dsimp only at h ⊢;injection h with h;injection h with h;rw[h]
 |_=>cases h
def S6 (xs:List D)(k:Nat):Zs (some (k:Int)) none (.lst xs)=.ok (.lst ((xs.drop k).map .sh)):=Zw (Z6 xs k)
def iV (xs:List D)(a b:Nat):Zs (some (a:Int)) (some (b:Int)) (.lst xs)=.ok (.lst (((xs.drop a).take (b-a)).map .sh)):=Zw (gE xs a b)
def JC:Ib (.lst ds)=.ok (.lst (ds.map .sh)):=rfl
def JD:Ib (.tup ds)=.ok (.lst (ds.map .sh)):=rfl
def Hi {ns:List Int}:tJ [.lst (ns.map D.int)]=.ok (.int ns.sum):=by unfold tJ;dsimp only;rw[E9]
def Hj:HA T (.lst ds)=.ok (.bl (EC T (.lst ds))):=rfl
def Hk:HA T (.tup ds)=.ok (.bl (EC T (.tup ds))):=rfl
def Hl:HA T (.int k)=.ok (.bl (EC T (.int k))):=rfl
def Hm:HA T .AE=.ok (.bl (EC T .AE)):=rfl
def JE:HA T (.bl k)=.ok (.bl (EC T (.bl k))):=rfl
def Hn:HA T (.str k)=.ok (.bl (EC T (.str k))):=rfl
def Ho:HA T (.Bm b ks vs)=.ok (.bl (EC T (.Bm b ks vs))):=rfl
def VJ:EC "list" (.lst ds)=true:=rfl
def VL:EC "tuple" (.tup ds)=true:=rfl
def VM:EC "int" (.int k)=true:=rfl
def VN:EC "bool" (.int k)=false:=rfl
def VO:EC "dict" (.Bm b ks vs)=true:=rfl
def Hq {ns:List Int}:J7 neg (.int k) (.lst (ns.map D.int))=.ok (.bl (if neg then !ns.contains k else ns.contains k)):=by
 unfold J7 uN;dsimp only;rw[E9]
abbrev vO (s:Option D):Option Cl:=s.map .val
def M3:ED (vO s::ρ)=vO s::ED ρ:=by cases s<;>rfl
end
abbrev Ua (x:Int):List Int->List Int
 |[]=>[x]
 |y::r=>if x<=y then x::y::r else y::Ua x r
abbrev D8:List Int->List Int
 |[]=>[]
 |x::r=>Ua x (D8 r)
def Kt (x:Int):∀l:List Int,(Ua x l).Perm (x::l)
 |[]=>.refl _
 |y::r=>by
  unfold Ua;split
  ·exact .refl _
  ·exact ((Kt x r).cons y).trans (.swap x y r)
def Cb:∀l:List Int,(D8 l).Perm l
 |[]=>.refl _
 |x::r=>(Kt x (D8 r)).trans ((Cb r).cons x)
def KZ (x:Int):∀l:List Int,l.Pairwise (·<=·)->(Ua x l).Pairwise (·<=·)
 |[],_=>by simp[Ua]
 |y::r,h=>by
  unfold Ua;have hy:=zbt.mp h;split
  ·rename_i bB;exact zbt.mpr ⟨λ z hz=>by
    rcases zab.mp hz with rfl|hz
    ·exact bB
    ·exact Int.le_trans bB (hy.1 z hz),h⟩
  ·rename_i bB;exact zbt.mpr ⟨λ z hz=>by
    rcases zab.mp ((Kt x r).mem_iff.mp hz) with rfl|hz
    ·omega
    ·exact hy.1 z hz,KZ x r hy.2⟩
def CW:∀l:List Int,(D8 l).Pairwise (·<=·)
 |[]=>.nil
 |x::r=>KZ x _ (CW r)
def Dw:∀ {a b:List Int},a.Perm b->a.Pairwise (·<=·)->b.Pairwise (·<=·)->a=b
 |[],b,hp,_,_=>(List.nil_perm.mp hp).symm
 |x::r,[],hp,_,_=>by have:=hp.length_eq;simp at this
 |x::r,y::t,hp,ha,hb=>by
  have bC:=zbt.mp ha;have a7:=zbt.mp hb;have e:x=y:=by
   have h1:x∈y::t:=hp.mem_iff.mp (za3 ..);have h2:y∈x::r:=hp.mem_iff.mpr (za3 ..);rcases zab.mp h1 with e|h1
   ·exact e
   rcases zab.mp h2 with e|h2
   ·exact e.symm
   have:=bC.1 _ h2;have:=a7.1 _ h1;omega
  subst e;rw[Dw (List.Perm.cons_inv hp) bC.2 a7.2]
def Fu:∀ {us:List Value}{ns:List Int},IntsAre us ns->Vals (ns.map V.int) us
 |_,_,.nil=>.nil
 |_,_,.cons n t h=>.cons ⟨t,rfl⟩ (Fu h)
def Ij {K}:∀l:List Int,Ag K H (l.map V.int) (l.map D.int)
 |[]=>.nil
 |x::r=>.cons (.int _) (Ij r)
section
variable {f:Ac->M D}{te:TE}
abbrev xA (X:Cx)(te:TE):TE:=λ σ H Q=>te σ H λ x H1=>∃p ns,x=.ref p/\Du X.K H1 p (List.map V.int ns)/\ns.length<64/\∀r,H1 r=none->Q (.ref r) (upd H1 r (.lst ((D8 ns).map V.int)))
def Xf (hc:X.calm=true)(hg:Gl X "sorted")(hm:X.mg "sorted" = none)(he:PE X e te)(hv:bootBuiltins "sorted" = some (.builtin "sorted"):=by decide +kernel)(hs: ~~~(starEach [e] X.env=[(false,eval e X.env)])):
 PE X (.Call (.Name "sorted" p) [e] [] pos) (xA X te):=by
 intro pins s σ H Q I h;refine wpAny_Call_Name_kw (CS I hg hm hv ?_);refine zcx ?_ hs;rw[hs];refine zc6 (Bh (he pins s σ H _ I h) λ u s1 zz=>?_);obtain⟨x,H1,I1,r1,q1⟩:=zz;obtain⟨q,ns,rfl,hq,pi,h⟩:=q1;cases r1;refine zcc ?_;obtain⟨aa,r',pl,hz⟩:=I1.list hq;have hi:=intsAre_of r';have il:=r'.length;rw[za2] at il;refine sorted_ints pl.isList hi (by omega) λ out bR b1 b2 b3=>?_;obtain⟨c',aT⟩:=sortedAll_at s1.heap aa out;have e:bR=D8 ns:=Dw (b2.trans (Cb ns).symm) b3 (CW ns);subst e;refine⟨.ref _,_,I1.laid (t':=s1.toks) (o:=.lst ((D8 ns).map V.int)) (λ b o e=>sortedAll_old e) (zd3 _) ⟨?_,out.toList,c',Fu b1,by simpa using aT⟩,rfl,h _ (I1.Ar.fresh (zd3 _))⟩;rw[za2,(Cb ns).length_eq];exact zbf (AA (by omega))
abbrev iW (d:D):M OT:=match d with
 | .lst xs=>(match CK xs with|some ns=>if ns.length<64 then .ok (.lst (((D8 ns).map .int).map .sh)) else .bad|none=>.bad)
 |_=>.bad
def Xg (h:ns.length<64):iW (.lst (ns.map .int))=.ok (.lst (((D8 ns).map .int).map .sh)):=by
 unfold iW;dsimp only;rw[E9];dsimp only;rw[if_pos h]
def Xh (hc:X.calm=true)(hg:Gl X "sorted")(hm:X.mg "sorted" = none)(he:DE X WX true e f)(hv:bootBuiltins "sorted" = some (.builtin "sorted"):=by decide +kernel)(hs: ~~~(starEach [e] X.env=[(false,eval e X.env)])):
 DN X WX (.Call (.Name "sorted" p) [e] [] pos) (λ ρ=>(f ρ).bind iW):=by
 obtain⟨te,e1,e2⟩:=he;refine⟨_,Xf hc hg hm e1 hv hs,λ P0 P σ H Q ρ E h=>?_⟩;refine e2 P0 P σ H _ ρ E ?_;dsimp only at h;refine YO h λ d h=>?_;intro v H1 s1 hv;unfold iW at h;split at h
 ·rename_i xs;split at h
  ·rename_i ns eb;have:=Ea eb;subst this;split at h
   ·rename_i hl;cases hv with
    |lst hs hh =>
     have:=Di hh;subst this;exact⟨_,ns,rfl,hs.B3,hl,h.Ib s1 (Ij _)⟩
   ·exact h.elim
  ·exact h.elim
 ·exact h.elim
abbrev iX (d k:D):M OT:=match k with
 | .int j=>if 0<=j/\j.toNat<=1000 then .ok (.lst ((zai j.toNat d).map .sh)) else .bad
 |_=>.bad
def MO {n:Nat}(h:n<=1000):iX d (.int (n:Int))=.ok (.lst ((zai n d).map .sh)):=by
 unfold iX;dsimp only;rw[if_pos ⟨by omega,by omega⟩,zb4]
def Ub (ha:DE X WX true a f)(hb:DE X WX true b g)(aE: ~~~(starEach [a] X.env=[(false,eval a X.env)])):
 DN X WX (.BinOp (.List [a] c9) .Mult b pos) (λ ρ=>(f ρ).bind λ d=>(g ρ).bind λ k=>iX d k):=by
 obtain⟨ta,a1,a2⟩:=ha;obtain⟨tb,b1,b2⟩:=hb;refine⟨_,Yo nM (PH (Bu a1 CD aE)) b1,λ P0 P σ H Q ρ E h=>?_⟩;dsimp only at h;refine a2 P0 P σ H _ ρ E ?_;refine YO h λ d h=>?_;intro v H1 s1 hv;have E1:=E.same s1;refine⟨zbf (AA (by simp)),λ p hp=>?_⟩;have s2:Ae H1 (upd H1 p (.lst [v])):=AQ hp _;have E2:=E1.same s2;refine b2 P0 P σ _ _ ρ E2 ?_;cases q2:g ρ with
 |bad=>rw[q2] at h;exact h
 |ex x=>rw[q2] at h;exact λ H' s3=>h H' ((s1.trans s2).trans s3)
 |ok k =>
  rw[q2] at h;simp only[M.A8] at h;unfold iX at h;intro w H3 s3 hw;cases k with
  |int j =>
   dsimp only at h;by_cases hj:0<=j/\j.toNat<=1000
   ·rw[if_pos hj] at h;cases hw;refine⟨p,j,[v],rfl,rfl,s3 _ _ Aq,by omega,by omega,zbf (AA (by simp;omega)),?_⟩;rw[OH];exact h.Ib ((s1.trans s2).trans s3) (RM ((hv.mono s2.del).mono s3.del) j.toNat)
   ·rw[if_neg hj] at h;exact h.elim
  |_=>exact h.elim
end
abbrev iY (f:Str):List Str->List D->Option D
 |n::ns,d::ds=>if f==n then some d else iY f ns ds
 |_,_=>none
def S7 {K:za0}{H:Hp}{f:Str}:∀ {fs:List (Str×V)}{ds:List D}{d:D},Ag K H (fs.map zc7) ds->iY f (fs.map zba) ds=some d->∃v,fs.lookup f=some v/\BR K H v d
 |[],ds,d,_,h=>by simp[iY] at h
 |(n,v)::fs,_,d,.cons hv ht,h=>by
  rw[za6,iY] at h;rw[zc9];cases q:f==n with
  |true=>rw[q,if_pos rfl] at h;cases h;exact⟨v,rfl,hv⟩
  |false=>rw[q,if_neg (by simp)] at h;exact S7 ht h
def MQ {K:za0}{H:Hp}{f:Str}:∀ {fs:List (Str×V)}{ds:List D},Ag K H (fs.map zc7) ds->iY f (fs.map zba) ds=none->fs.lookup f=none
 |[],ds,_,h=>rfl
 |(n,v)::fs,_,.cons hv ht,h=>by
  rw[za6,iY] at h;rw[zc9];cases q:f==n with
  |true=>rw[q,if_pos rfl] at h;cases h
  |false=>rw[q,if_neg (by simp)] at h;exact MQ ht h
structure HD (K:za0)(x f:Str):Prop where
 ex:∃C,zaw K mainGlobals x=some (some (.ref C))/\WG K C/\HQ K C f
abbrev NY (cs:List Str)(f:Str)(d:D):M D:=match d with
 | .ins x ns ds=>if x∈cs then (match iY f ns ds with|some e=>.ok e|none=>.bad) else .bad
 |_=>.bad
section
variable {E:XK}{f:Ac->M D}{fs:Ac->M (List D)}{te:TE}
def EV (cs:List Str){fl}(pk:∀x∈cs,HD X.K x fl)(ha:DE X WX c a f)(hb: ~~~(attributeBase a fl X.env (eval a X.env)=eval a X.env)):DE X WX c (.Attribute a fl pos) (λ ρ=>(f ρ).bind (NY cs fl)):=by
 obtain⟨ta,a1,a2⟩:=ha;refine⟨_,mX a1 hb,λ P0 P σ H Q ρ E h=>?_⟩;dsimp only at h;refine a2 P0 P σ H _ ρ E ?_;cases e:f ρ with
 |bad|ex x=>rw[e] at h;exact h
 |ok d =>
  rw[e] at h;simp only[M.A8] at h;intro v H1 s1 hv;unfold NY at h;split at h
  ·rename_i x ns ds;split at h
   ·rename_i hx;split at h
    ·rename_i d' el;cases hv with
     |ins hn ha hl =>
      obtain⟨C,bm,hc,d0⟩:=(pk x hx).ex;rw[hn] at bm;cases bm;obtain⟨v',l1,l2⟩:=S7 hl el;exact⟨_,_,_,_,v',rfl,(Am ha).2,hc,d0,l1,h v' H1 s1 l2⟩
    ·exact h.elim
   ·exact h.elim
  ·exact h.elim
structure OQ (K:za0)(x m qual:Str)(st:Stmt)(ps:List Str):Prop where
 ex:∃C f fd,zaw K mainGlobals x=some (some (.ref C))/\WG K C/\Meth K C m f/\Y4 K m qual st f fd/\Binds K fd ps []
structure Ik (P:Program)(w:World)(K:za0)(mg:Str->Option Value)(base:Heap)(x m:Str)(k n:Nat)(F:List D->M OT):Prop where
 ex:∃C fa fd ps,zaw K mainGlobals x=some (some (.ref C))/\WG K C/\Meth K C m fa/\D5 P w K mg base (U2 P w base) k fa fd ps (spT K n F)/\Binds K fd ps []
def M4 {P}{K}{st}(T:OQ K x m qual st ps)(S:Ad N ps (A4 st))(g:Ac->M Out)(hb:∀(f:Addr) (B2:Value) (A:Around) (outer:List Env) (s:Shared) (H:Hp) (E:XK),Bp k (A.deeper (envOfC qual (A4 st) s.heap.objs.size f B2))->R7 (eG P w K mg base N qual (A4 st) f B2 A outer s H E) (CQ K E) (Aw st) g)(hn: ~~~(ps.length=n)):
 Ik P w K mg base x m (k+1) n (λ ds=>RU (g (AB N ds))):=by
 obtain⟨C,f,fd,h1,h2,h3,F,hB⟩:=T.ex;subst hn;exact⟨⟨C,f,fd,ps,h1,h2,h3,tE F S g (hb f),hB⟩⟩
abbrev uV (x:Str):List (Str×(List D->M OT))->Option (List D->M OT)
 |[]=>none
 |(y,F)::r=>if x=y then some F else uV x r
def VP:∀ {ms:List (Str×(List D->M OT))},uV x ms=some F->(x,F)∈ms
 |[],h=>by cases h
 |(y,G)::r,h=>by
  unfold uV at h;split at h
  ·rename_i e;cases h;subst e;exact za3
  ·exact za4 _ (VP h)
abbrev Ls (ms:List (Str×(List D->M OT)))(m:Str)(d:D):M (List D->M OT):=match d with
 | .ins x ns es=>(match uV x ms with
  |some F=>(match iY m ns es with|none=>.ok F|some _=>.bad)
  |none=>.bad)
 |_=>.bad
def S8 (h:Ls ms m d=.ok F):∃x ns es,d=.ins x ns es/\(x,F)∈ms/\iY m ns es=none:=by
 unfold Ls at h;split at h
 ·rename_i x ns es;split at h
  ·rename_i G e;split at h
   ·rename_i e2;cases h;exact⟨x,ns,es,rfl,VP e,e2⟩
   ·cases h
  ·cases h
 ·cases h
def OR:Ls ms m d≠.ex x:=λ h=>by
 unfold Ls at h;split at h
 ·split at h
  ·split at h<;>cases h
  ·cases h
 ·cases h
abbrev Zx (X:Cx)(m:Str)(k:Nat)(E:XK)(ta:TE)(t:TA):TE:=λ σ H Q=>ta σ H λ x H1=>∃a C dx fs f fd ps n F,x=.ref a/\H1 a=some (.ins C dx fs)/\fs.lookup m=none/\WG X.K C/\Meth X.K C m f/\D5 X.prog X.w X.K X.mg X.base (U2 X.prog X.w X.base) k f fd ps (spT X.K n F)/\Binds X.K fd ps []/\
 t σ H1 λ vs H2=>spT X.K n F (x::vs) H2 Q E
def Zy (he:PE X o ta)(hr:Bp k X.A)(hx:Gb (U2 X.prog X.w X.base) X E)(ha:PA X (e::es) t)(aE: ~~~(starEach (e::es) X.env=(false,eval e X.env)::starEach es X.env))(hpl: ~~~((backTo pos (starEach es X.env)).any (·.1)=false))(ht: ~~~(eval (.Call (.Attribute o m apos) (e::es) [] pos) X.env=(do
  let ov <-eval o X.env
  standAt apos.atName
  let (f,first) <-holding [ov] (getMethod ov m pl)
  callWith pos f first (backTo pos (starEach (e::es) X.env)) (backToKw pos (keywordEach [] X.env))))):
 PE X (.Call (.Attribute o m apos) (e::es) [] pos) (Zx X m k E ta t):=by
 intro pins s σ H Q I h;refine PySem.W.methodCall_KW (pl:=pl) (Bh (he pins s σ H _ I h) λ u s1 zz=>?_) ht;obtain⟨x,H1,I1,rx,a,C,dx,fs,f,fd,ps,n,F,ex,ea,l,c,hm,hF,hb,q⟩:=zz;subst ex;obtain rfl:u=zbh a:=rx;refine Me I1 ea c hm l ?_;refine PySem.W.callWith_K (first:=[.ref a]) (h₀:=X.base) I.ok.mod.Y8 hm.kp (Bh (ha pos pins s1 σ H1 _ I1 q) λ us s2 ⟨vs,H2,I2,r,q2⟩=>⟨I2.LB,?_⟩) aE hpl;exact TK (us:=.ref a::us) (vs:=.ref a::vs) hF hr hb .nil hx I2 (.cons rfl r) (by rw[zbk];exact q2)
def Xi (he:PE X o ta)(hr:Bp k X.A)(hx:Gb (U2 X.prog X.w X.base) X E)(ht: ~~~(eval (.Call (.Attribute o m apos) [] [] pos) X.env=(do
  let ov <-eval o X.env
  standAt apos.atName
  let (f,first) <-holding [ov] (getMethod ov m pl)
  callWith pos f first (backTo pos (starEach [] X.env)) (backToKw pos (keywordEach [] X.env))))):
 PE X (.Call (.Attribute o m apos) [] [] pos) (Zx X m k E ta mZ):=by
 intro pins s σ H Q I h;refine PySem.W.methodCall_KW (pl:=pl) (Bh (he pins s σ H _ I h) λ u s1 zz=>?_) ht;obtain⟨x,H1,I1,rx,a,C,dx,fs,f,fd,ps,n,F,ex,ea,l,c,hm,hF,hb,q⟩:=zz;subst ex;obtain rfl:u=zbh a:=rx;refine Me I1 ea c hm l ?_;exact PySem.W.callWith_K0 (first:=[.ref a]) I1.LB hm.kp (TK (us:=[.ref a]) (vs:=[.ref a]) hF hr hb .nil hx I1 (.cons rfl .nil) q)
def VQ {P}{K}{f}(h:k<=k')(F:D5 P w K mg base CX k f fd ps sp):D5 P w K mg base CX k' f fd ps sp:=
 ⟨F.len,λ A stack s H args us vs Q E hr=>F.run A stack s H args us vs Q E (hr.mono h)⟩
def VR (ms:List (Str×(List D->M OT)))(xo:F6 X E)(pq:∀p∈ms,∃k',k'<=k/\Ik X.prog X.w X.K X.mg X.base p.1 m k' n p.2)(hr:Bp k X.A)(ho:DE X (CQ X.K E) true o fo)(ha:DA X (CQ X.K E) true (e::es) fs)(db:(e::es).length+1=n)(aE: ~~~(starEach (e::es) X.env=(false,eval e X.env)::starEach es X.env))(hpl: ~~~((backTo pos (starEach es X.env)).any (·.1)=false))(ht: ~~~(eval (.Call (.Attribute o m apos) (e::es) [] pos) X.env=(do
  let ov <-eval o X.env
  standAt apos.atName
  let (f,first) <-holding [ov] (getMethod ov m pl)
  callWith pos f first (backTo pos (starEach (e::es) X.env)) (backToKw pos (keywordEach [] X.env))))):
 DN X (CQ X.K E) (.Call (.Attribute o m apos) (e::es) [] pos) (λ ρ=>(fo ρ).bind λ d=>(Ls ms m d).bind λ F=>(fs ρ).bind λ ds=>F (d::ds)):=by
 obtain⟨ta,a1,a2⟩:=ho;obtain⟨tb,b1,b2,b3⟩:=ha;refine⟨_,Zy (pl:=pl) a1 hr xo.call b1 aE hpl ht,λ P0 P σ H Q ρ Ev h=>?_⟩;dsimp only at h;refine a2 P0 P σ H _ ρ Ev ?_;refine YO h λ d h=>?_;intro v H1 s1 hv;cases q2:Ls ms m d with
 |bad=>rw[q2] at h;exact h.elim
 |ex y=>exact (OR q2).elim
 |ok F =>
  rw[q2] at h;simp only[M.A8] at h;obtain⟨x,ns,wy,rfl,aH,im⟩:=S8 q2;obtain⟨k',bZ,M0⟩:=pq _ aH;obtain⟨C,fa,fd,ps,h1,h2,h3,h4,h5⟩:=M0.ex;cases hv with
  |ins hn hH hl =>
   rw[hn] at h1;cases h1;refine⟨_,_,_,_,fa,fd,ps,n,F,rfl,(Am hH).2,MQ hl im,h2,h3,VQ bZ h4,h5,?_⟩;refine b2 P0 P σ H1 _ ρ (Ev.same s1) ?_;cases q3:fs ρ with
   |bad=>rw[q3] at h;exact h
   |ex y=>rw[q3] at h;exact λ H' s=>h H' (s1.trans s)
   |ok ds =>
    rw[q3] at h;simp only[M.A8] at h;intro vs H2 s2 a6;have ju:=(BR.ins hn hH hl).mono s2.del;exact⟨by rw[za9,a6.length,b3 ρ ds q3];exact db,P,_,((Ev.same s1).same s2).Cp,.cons ju a6,h.same (s1.trans s2)⟩
def S9 (ms:List (Str×(List D->M OT)))(xo:F6 X E)(pq:∀p∈ms,∃k',k'<=k/\Ik X.prog X.w X.K X.mg X.base p.1 m k' 1 p.2)(hr:Bp k X.A)(ho:DE X (CQ X.K E) true o fo)(ht: ~~~(eval (.Call (.Attribute o m apos) [] [] pos) X.env=(do
  let ov <-eval o X.env
  standAt apos.atName
  let (f,first) <-holding [ov] (getMethod ov m pl)
  callWith pos f first (backTo pos (starEach [] X.env)) (backToKw pos (keywordEach [] X.env))))):
 DN X (CQ X.K E) (.Call (.Attribute o m apos) [] [] pos) (λ ρ=>(fo ρ).bind λ d=>(Ls ms m d).bind λ F=>F [d]):=by
 obtain⟨ta,a1,a2⟩:=ho;refine⟨_,Xi (pl:=pl) a1 hr xo.call ht,λ P0 P σ H Q ρ Ev h=>?_⟩;dsimp only at h;refine a2 P0 P σ H _ ρ Ev ?_;refine YO h λ d h=>?_;intro v H1 s1 hv;cases q2:Ls ms m d with
 |bad=>rw[q2] at h;exact h.elim
 |ex y=>exact (OR q2).elim
 |ok F =>
  rw[q2] at h;simp only[M.A8] at h;obtain⟨x,ns,wy,rfl,aH,im⟩:=S8 q2;obtain⟨k',bZ,M0⟩:=pq _ aH;obtain⟨C,fa,fd,ps,h1,h2,h3,h4,h5⟩:=M0.ex;cases hv with
  |ins hn hH hl =>
   rw[hn] at h1;cases h1;refine⟨_,_,_,_,fa,fd,ps,1,F,rfl,(Am hH).2,MQ hl im,h2,h3,VQ bZ h4,h5,?_⟩;exact⟨rfl,P,_,(Ev.same s1).Cp,.cons (BR.ins hn hH hl) .nil,h.same s1⟩
end
section
variable {E:XK}{f:Ac->M D}{fs:Ac->M (List D)}{te:TE}
structure oT (K:za0)(mg:Str->Option Value)(x:Str)(C:Addr):Prop where
 ns:zaw K mainGlobals x=some (some (.ref C))
 yD:mg x=some (.ref C)
def OS (hp:H p=none)(hd:H dx=none):Ae H (upd (upd H dx (.own p)) p (.ins C dx [])):=λ b u q=>by
 rw[Ai (Ax q hp),Ai (Ax q hd)];exact q
structure tN (P:Program)(w:World)(K:za0)(mg:Str->Option Value)(base:Heap)(x:Str)(k n:Nat)(F:OT->List D->M (OT×OT)):Prop where
 ex:∃C fa fd ps,oT K mg x C/\Mk K C fa/\D5 P w K mg base (U2 P w base) k fa fd ps (ON K n F)/\Binds K fd ps []
abbrev OU (m:M (OT×OT)):M OT:=match m with
 | .ok (t,.sh .AE)=>.ok t
 |_=>.bad
def iZ (xo:F6 X E)(G:tN X.prog X.w X.K X.mg X.base x k n F)(hr:Bp (k+1) X.A)(hg:Gl X x)(ha:DA X (CQ X.K E) true (e::es) fs)(db:(e::es).length+1=n)(aK:(x==("__debug__" : Str))=false:=by decide)(he: ~~~(starEach (e::es) X.env=(false,eval e X.env)::starEach es X.env))(hpl: ~~~((backTo pos (starEach es X.env)).any (·.1)=false)):
 DN X (CQ X.K E) (.Call (.Name x p) (e::es) [] pos) (λ ρ=>(fs ρ).bind λ ds=>OU (F (.ins x [] []) ds)):=by
 obtain⟨C,fa,fd,ps,hT,hM,hF,hb⟩:=G.ex;obtain⟨ta,a1,a2,a3⟩:=ha;refine⟨_,V5 hM hF hr hg hT.yD hb .nil xo.call a1 aK he hpl,λ P0 P σ H Q ρ Ev h=>?_⟩;dsimp only at h;refine a2 P0 P σ H _ ρ Ev ?_;cases q:fs ρ with
 |bad|ex x=>rw[q] at h;exact h
 |ok ds =>
  rw[q] at h;simp only[M.A8] at h;intro vs H1 s1 a6 y dx hy hd ae;rw[zbk];have E1:=Ev.same s1;have sm:=OS (C:=C) hy hd;have bI:∀a∈[y],H1 a=none:=λ a ha=>by rw[za7.mp ha];exact hy
  refine⟨by rw[za9,a6.length,a3 ρ ds q];exact db,PU P [y],y,.ins x [] [],[y],vs,ds,rfl,λ a ha=>?_,λ a ha=>.inr ha,by simp,C9.ins (fs:=[]) hT.ns Aq .nil,a6.mono (Dr sm bI),?_⟩
  ·rcases ha with ha|ha
   ·exact (E1.Cp a ha).same sm
   ·rw[za7.mp ha];exact⟨_,Aq,λ xs=>⟨(λ z=>by cases z),(λ z w=>by cases w)⟩⟩
  ·cases q2:F (.ins x [] []) ds with
   |bad|ex z=>rw[q2] at h;exact h
   |ok tr =>
    obtain⟨t,r⟩:=tr;rw[q2] at h;simp only[OU] at h;intro v H' P' ah fr k1 k2 k3 k4 k5 k6 k7 k8 k9 pf;cases r with
    |sh d =>
     cases d with
     |AE =>
      cases k6 with
      |sh hv =>
       cases hv;refine⟨rfl,h _ ah H' ?_ ?_ k5 ?_⟩
       ·intro b u eb;have e1:=s1 b u eb;have bK:b≠y:=λ z=>by rw[z,hy] at e1;cases e1
        have e2:=sm b u e1;by_cases hP:P b
        ·exact (k1 b (.inl hP) (by simp[bK])).2.trans e2
        ·exact (Am (k3 b u (by rw[Au λ z=>z.elim hP λ w=>bK (za7.mp w)];exact e2))).2
       ·intro b jv;cases eb:H b with
        |none=>rfl
        |some u =>
         exfalso;have e1:=s1 b u eb;have bK:b≠y:=λ z=>by rw[z,hy] at e1;cases e1
         have e2:=sm b u e1;have hn:=λ z=>bK (za7.mp ((k9 b jv).2 z));exact (Am (k3 b u (by rw[Au hn];exact e2))).1 (k9 b jv).1
       ·refine k4.move (λ b u eb=>?_) λ _ _=>rfl;obtain⟨g1,g2⟩:=Am eb;rw[Au]
        ·exact g2
        ·rintro (z|z)
         ·have bK:b≠y:=λ w=>by
           obtain⟨o,e1,_⟩:=E1.Cp b z;rw[w,hy] at e1;cases e1
          exact g1 (k1 b (.inl z) (by simp[bK])).1
         ·exact g1 (k9 b z).1
     |_=>exact h.elim
    |_=>exact h.elim
end
abbrev OV (i:Nat)(ρ:Ac)(π:List Nat):M (Str×List Str×List D):=match Vy i ρ π with
 |some (.ins x ns ts)=>(match Ej ts with|some vs=>.ok (x,ns,vs)|none=>.bad)
 |_=>.bad
def Zz (h:OV i ρ π=.ex x):False:=by
 unfold OV at h;split at h
 ·split at h<;>cases h
 ·cases h
abbrev ZA (f:Str):List Str->List Str
 |[]=>[f]
 |g::r=>if g=f then g::r else g::ZA f r
abbrev ZC (f:Str)(d:D):List Str->List D->List D
 |[],_=>[d]
 |g::r,e::t=>if g=f then d::t else e::ZC f d r t
 |_::_,[]=>[]
def Sa (f:Str)(v:V):∀fs:List (Str×V),(Ee f v fs).map zba=ZA f (fs.map zba)
 |[]=>rfl
 |(g,x)::r=>by
  rw[za6,ZA,Ee];split
  ·rfl
  ·rw[za6,Sa f v r]
def Sb {K}(hv:BR K H v d):∀ {fs:List (Str×V)}{ds:List D},Ag K H (fs.map zc7) ds->Ag K H ((Ee f v fs).map zc7) (ZC f d (fs.map zba) ds)
 |[],_,.nil=>.cons hv .nil
 |(g,x)::r,_,.cons hx ht=>by
  rw[za6,ZC,Ee];split
  ·exact .cons hv ht
  ·exact .cons hx (Sb hv ht)
section
variable {E:XK}{f:Ac->M D}{fp:Ac->M (List Nat)}{i:Nat}{fs:Ac->M (List D)}
def Br.ins {K}(pl:Br K P H σ ρ i π v t1)(E:Al K P0 P H σ ρ)(h:OV i ρ π=.ok (x,ns,vs)):
 t1=.ins x ns (vs.map .sh)/\∃l C dx fs,v=.ref l/\Ag K (del H P) (fs.map zc7) vs/\C9 K H P (.ref l) (.ins x ns (vs.map .sh)) [l]/\zaw K mainGlobals x=some (some (.ref C))/\H l=some (.ins C dx fs)/\ns=fs.map zba:=by
 unfold OV at h;rw[pl.at] at h;split at h
 ·rename_i x' bR t9 e;split at h
  ·rename_i aV e';cases e;cases h;have z:=Dj e';subst z;obtain⟨ay,o1,hp,nd⟩:=pl.own E;generalize ht:OT.ins x ns (vs.map .sh)=t at o1;cases o1 with
   |ins hn hh hr =>
    injection ht with h1 h2 h3
    subst h1 h2 h3;obtain⟨rfl,hs⟩:=hr.oJ;exact⟨rfl,_,_,_,_,rfl,hs,.ins hn hh hr,hn,hh,rfl⟩
   |_=>cases ht
  ·cases h
 ·cases h
def M5 (cs:List Str){fl}(pk:∀x∈cs,HD X.K x fl)(ha:DP X WX a i fp)(hv:DE X WX true e f)(hs: ~~~(swapsWith e (some (.Attribute a fl pos')) pos.line X.env=pure false)):
 DS X WX (.Assign [.Attribute a fl pos'] e pos) (λ ρ=>(f ρ).bind λ v=>(fp ρ).bind λ π=>(OV i ρ π).bind λ z=>if z.1∈cs/\z.2.1.length<1000 then Ih i ρ π (.ins z.1 (ZA fl z.2.1) ((ZC fl v z.2.1 z.2.2).map .sh)) else .bad):=by
 obtain⟨ta,a1,a2⟩:=ha;obtain⟨tv,v1,v2⟩:=hv;refine⟨_,mY a1 v1 hs,λ P0 P σ H Z ρ E h=>?_⟩;dsimp only at h;refine v2 P0 P σ H _ ρ E ?_;refine fZ h E λ d h=>?_;intro w H0 s0 hw;have E0:=E.same s0;refine a2 P0 P σ H0 _ ρ E0 ?_;cases q:fp ρ with
 |bad=>rw[q] at h;exact h
 |ex x=>rw[q] at h;exact λ H' s=>h H' P ((E.tr s0).trans (E0.tr s))
 |ok π =>
  rw[q] at h;simp only[M.A8] at h;intro v t1 H1 s1 pl;have E1:=E0.same s1;have wz:=(E.tr s0).trans (E0.tr s1);cases q3:OV i ρ π with
  |bad=>rw[q3] at h;exact h.elim
  |ex x=>exact (Zz q3).elim
  |ok z =>
   obtain⟨x,ns,vs⟩:=z;rw[q3] at h;simp only[M.A8] at h;by_cases hc:x∈cs/\ns.length<1000
   ·rw[if_pos hc] at h;obtain⟨rfl,l,C,dx,fs,rfl,cn,ot,hn,hH,rfl⟩:=pl.ins E1 q3;obtain⟨C',bm,bT,d0⟩:=(pk x hc.1).ex;rw[hn] at bm;cases bm;have w4:=hw.mono s1.del;obtain⟨c,p,t0,g1,g2,E3,t3⟩:=E1.oP (o':=.ins C dx (Ee fl w fs)) (u:=.ins x (ZA fl (fs.map zba)) ((ZC fl d (fs.map zba) vs).map .sh)) pl ot (λ _=>⟨λ z=>(by cases z),λ _ z=>by cases z⟩) (λ mv=>by
     have:=C9.ins (K:=X.K) (H:=upd H1 l (.ins C dx (Ee fl w fs))) (P:=P) (p:=l) (fs:=Ee fl w fs) (x:=x) hn Aq (((Sb w4 cn).mono mv).ows);rw[Sa] at this;exact this)
    rw[Jb g1 g2] at h;exact⟨l,C,dx,fs,rfl,hH,bT,d0,by have:=hc.2;rw[za2] at this;exact this,h _ _ _ (wz.trans t3) E3⟩
   ·rw[if_neg hc] at h;exact h.elim
end
def C7 {K}:∀y∈([]:List Str),HD K y f:=λ y h=>by cases h
def Bw {K}(h:HD K x f)(t:∀y∈xs,HD K y f):∀y∈x::xs,HD K y f:=λ y hy=>by
 rcases zab.mp hy with rfl|hy
 ·exact h
 ·exact t y hy
def M6 {P}{K}:∀p∈([]:List (Str×(List D->M OT))),∃k',k'<=k/\Ik P w K mg base p.1 m k' n p.2:=λ p h=>by cases h
def JF {P}{K}(hk:k'<=k)(h:Ik P w K mg base x m k' n F)(t:∀p∈ms,∃k',k'<=k/\Ik P w K mg base p.1 m k' n p.2):
 ∀p∈(x,F)::ms,∃k',k'<=k/\Ik P w K mg base p.1 m k' n p.2:=λ p hp=>by
 rcases zab.mp hp with rfl|hp
 ·exact⟨k',hk,h⟩
 ·exact t p hp
end L2
set_option maxRecDepth 1000000
set_option autoImplicit true
set_option relaxedAutoImplicit true
set_option maxHeartbeats 0
namespace L2
open PySem
def OW:entryFor table "dict.update.loop" = some Builtin.«dict.update.loop»:=by unfold entryFor;rfl
open PySem PySem.Spec PySem.Calls PyProof.Rows PySem.W PySem.Builtin PySem.Builtin.ObjectAttr
variable {E:Value->Shared->Prop}{X:Cx}{WX:Str->Hp->Prop}{P0:DR}{σ:St}{ρ:Ac}{e:Expr}{fn:Ac->M OT}{pos:Pos}{te:TE}{mg:Str->Option Value}{base:Heap}{es:Array (Int×Value)}{led:Bool}{ns:List Int}{S it:Addr}{ep:Nat}{key:Str}
section
variable {prog:Program}{w:World}{A:Around}{s:Shared}
def call_meets {id}{rest}{Sp}(SL:Slot T nm id)(hB:entryFor table id=some B)(ht:s.TypeIs self T)(ha:argsOk id ⟨self::rest,[]⟩)(m:Meets (B ⟨self::rest,[]⟩) Sp)(h:Sp A (λ r s'=>match r with | .ok (.ret v)=>Q v s' | .ok _=>False | .error e=>E e s') s):wpAny (model prog w) A (call (.builtin id) (self::rest)) Q E s:=
 wpAny_call (codeAny_call_builtin SL.plain hB (SL.check _ _ _ _ _ _ _ _ ht ha (m prog w A _ s h)))
def Sd (hh:A.handled=none)(hl:s.heap.get? l=some {cls:=.type "list",data:=.seq xs k,slots:=sl})(h:∀h' tk,(∀b o,s.heap.get? b=some o->h'.get? b=some o)->Q none {s with heap:=h',toks:=tk}):wpAny (model prog w) A (getAttr? (.ref l) "keys") Q E s:=by
 have miss:typeLookup (.type "list") "keys" = pure none:=am_miss_of_fast (by decide +kernel);have T0:∀hp:Heap,hp.get? l=some {cls:=.type "list",data:=.seq xs k,slots:=sl}->Looks (model prog w) hp (typeOf (.ref l)) (.type "list"):=λ hp e=>(Looks.ld e).andThen .now;have SL:=PySem.F.slot_list_getattribute;have aG:(onTheHeap (zcm "list")&&Value.builtin "list.__getattribute__" == Value.builtin "object.__getattribute__")=false:=rfl;have pw:(false&&onTheHeap (Value.builtin "list.__getattribute__"))=false:=rfl;unfold getAttr? getAttrBy?;refine wpAny_bind (wpAny_mkText (wpAny_bind (wpAny_attempt ?_)));unfold getAttrBy;refine wpAny_holding (wpAny_bind ((T0 _ hl).at (wpAny_bind ?_)));rw[SL.lookup];refine wpAny_pure ?_;dsimp only;rw[aG,if_neg zao];unfold getAttrByItsOwn hookBefore;rw[if_neg (show ¬ onTheHeap (zcm "list")=true from zao)];refine wpAny_bind (wpAny_pure (wpAny_bind (wpAny_attempt (wpAny_holding ?_))));unfold callGetattribute;rw[pw,if_neg zao];unfold boundAndCalled;rw[SL.bind];refine wpAny_bind (wpAny_pure ?_);dsimp only;refine call_meets SL am_entry_list_getattribute ⟨_,hl,rfl⟩ (PySem.F.args_list_getattribute_2 _ _) (meets_getattribute_miss_list l xs k sl "keys" s.toks miss rfl (by decide)) ⟨hl,hh,λ h' tk e ne=>?_⟩;dsimp only;obtain⟨kp,nw,t,u,he⟩:=ne;have T1:Looks (model prog w) h' (typeOf (.ref e)) (.type "AttributeError"):=(Looks.ld he).andThen .now;unfold getattributeRaised isInstance;refine wpAny_bind (wpAny_bind (T1.at ?_));rw[sub_AttributeError];refine wpAny_pure ?_;rw[if_pos rfl];unfold hookBehind;rw[if_neg (show ¬ onTheHeap (zcm "list")=true from zao),am_list_getattr_none];refine wpAny_bind (wpAny_pure ?_);unfold hookOrError attributeErrorLeaves;dsimp only;rw[if_pos (show (!false)=true from rfl)];refine wpAny_bind (wpAny_throw ?_);refine wpAny_bind (wpAny_bind (T1.at ?_));rw[sub_AttributeError];refine wpAny_pure ?_;rw[if_pos rfl];exact wpAny_pure (h h' tk kp)
def Xj (ht:IsTup s.heap t aa)(h:Q aa.toList s):wpAny (model prog w) A (Dict.pairItems (.ref t)) Q E s:=by
 obtain⟨o,h1,h2,n,h3⟩:=ht;have T0:Looks (model prog w) s.heap (typeOf (.ref t)) (.type "tuple"):=h2▸(Looks.ld h1).andThen .now;unfold Dict.pairItems;refine wpAny_bind (T0.at ?_);have hx:(zcm "tuple" == zcm "list" || zcm "tuple" == zcm "tuple")=true:=by decide
 rw[if_pos hx];exact wpAny_bind (wpAny_seqItems h1 h3 (wpAny_pure h))
def Hr:plainId "dict.update.loop" = true:=by decide +kernel
def MR {K:Type}[DecidableEq K]{knd:KeyKind prog w K}{h h':Heap}{d I l:Addr}{i:Nat}{xs:List (List K×Addr×Value)}(hd:h.DictOfH (tupleKind knd) d xs)(hit:h.IsListIter I l i)(sb:∀b o,b≠I->h.get? b=some o->h'.get? b=some o):
 h'.DictOfH (tupleKind knd) d xs:=by
 obtain⟨o,es,ep,h1,h2,h3,h4,h5,h6⟩:=hd;obtain⟨oi,i1,i2,i3⟩:=hit;refine⟨o,es,ep,sb d o (λ z=>?_) h1,h2,h3,h4,λ x hx=>?_,h6⟩
 ·subst z;rw[i1] at h1;cases h1;rw[i3] at h3;cases h3
 ·obtain⟨ok,aa,n,k1,k2,k3,k4⟩:=h5 x hx;refine⟨ok,aa,n,sb _ _ (λ z=>?_) k1,k2,k3,k4⟩;rw[z,i1] at k1;cases k1;rw[i3] at k3;cases k3
def Uc {K:Type}[DecidableEq K]{knd:KeyKind prog w K}{R:Result->Shared->Prop}{d I l:Addr}{items:Array Value}{h0:Heap}(ps:List (List K×Addr×Value))(hh:A.handled=none)(cp:A.in1.units<cLine)(l6:l≠I)(w5:d≠I)(ug:l≠d)
 (uh:ps.length=items.size) (hsz:items.size+1<=sizeLine) (hl:h0.IsList l items)
 (hp:∀(j:Nat) p,ps[j]?=some p->(p.2.1≠d/\p.2.1≠I/\(tupleKind knd).is h0 p.1 p.2.1)/\∃t,items[j]?=some (.ref t)/\t≠d/\t≠I/\IsTup h0 t #[.ref p.2.1,p.2.2]):
 ∀(m i:Nat) (xs:List (List K×Addr×Value)) (s:Shared),items.size-i=m->i<=items.size->xs.length<=i->s.heap.IsListIter I l i->s.heap.DictOfH (tupleKind knd) d xs->(∀b o,b≠d->b≠I->h0.get? b=some o->s.heap.get? b=some o)->
  (∀h' tk,h'.DictOfH (tupleKind knd) d ((ps.drop i).foldl (λ acc p=>storedH acc p.1 p.2.1 p.2.2) xs)->(∀b o,b≠d->b≠I->h0.get? b=some o->h'.get? b=some o)->R (.ok (.ret .none)) {s with heap:=h',toks:=tk})->
  codeAny (model prog w) A (.builtin "dict.update.loop" ⟨[.ref d,.ref I,rawInt i,.none],[]⟩) R s:=by
 intro m;induction m with
 |zero =>
  intro i xs s hm hi w6 hit hd hf h;have bd:i=items.size:=by omega
  refine codeAny_builtin OW ?_;rw[zbv Hr _];show wpAny _ A.in1 (pyNext (.ref I) >>= _) _ _ s;refine wpAny_bind (wpAny_pyNext_list_end (A:=A.in1) hh hit (hl.at λ o e=>hf l o ug l6 e) (by simp[bd]) λ h' eb=>?_);have hd2:=MR hd hit λ b o hb e=>eb b o hb e;show wpAny _ A.in1 (Dict.addKeywords d [] >>= _) _ _ _;unfold Dict.addKeywords;refine wpAny_bind (wpAny_bind ?_);refine wpAny_pure (wpAny_pure (wpAny_pure ?_));have ed:ps.drop i=[]:=by rw[List.drop_eq_nil_iff];omega
  rw[ed] at h;exact h h' s.toks hd2 λ b o h1 h2 e=>eb b o h2 (hf b o h1 h2 e)
 |succ m ih =>
  intro i xs s hm hi w6 hit hd hf h;have ag:i<items.size:=by omega
  obtain⟨p,pz⟩:∃p,ps[i]?=some p:=⟨ps[i]'(by omega),zaa _⟩;obtain⟨⟨p1,p2,p3⟩,t,ht,t1,t2,t3⟩:=hp i p pz;refine codeAny_builtin OW ?_;rw[zbv Hr _];show wpAny _ A.in1 (pyNext (.ref I) >>= _) _ _ s;refine wpAny_bind (wpAny_pyNext_list_item (A:=A.in1) hit (hl.at λ o e=>hf l o ug l6 e) ht λ h' bX sb=>?_);have hd2:h'.DictOfH (tupleKind knd) d xs:=MR hd hit λ b o hb e=>(sb.2 b hb).trans e;have p6:∀b o,b≠d->b≠I->h0.get? b=some o->h'.get? b=some o:=λ b o h1 h2 e=>(sb.2 b h2).trans (hf b o h1 h2 e);have t4:IsTup h' t #[.ref p.2.1,p.2.2]:=by
   obtain⟨o,e1,e2⟩:=t3;exact⟨o,p6 t o t1 t2 e1,e2⟩
  have p4:(tupleKind knd).is h' p.1 p.2.1:=by
   obtain⟨o,aa,n,e1,e2⟩:=p3;exact⟨o,aa,n,p6 _ o p1 p2 e1,e2⟩
  dsimp only;refine wpAny_bind (wpAny_holding (wpAny_bind (wpAny_tryCatch (Xj t4 ?_))));show wpAny _ A.in1 (holding [.ref p.2.1,p.2.2] (dictSet d (.ref p.2.1) p.2.2)) _ _ _;refine wpAny_holding (wpAny_dictSet_heap (knd:=tupleKind knd) (hsz:=by omega) cp p4 hd2 λ h3 p7 ui=>?_);refine wpAny_pure ⟨plainId_quiet Hr _,?_⟩;have p8:h3.IsListIter I l (i+1):=by
   obtain⟨o,e1,e2⟩:=bX;exact⟨o,(ui.2 I (zbn w5)).trans e1,e2⟩
  have ed:ps.drop i=p::ps.drop (i+1):=by
   rw[zcz (by omega:i<ps.length)];rw[zaa (by omega:i<ps.length)] at pz;rw[zat pz]
  rw[ed,zb9] at h;have il:(storedH xs p.1 p.2.1 p.2.2).length<=i+1:=by
   unfold storedH;split
   ·rw[za2];omega
   ·rw[zav,zcg];omega
  have q:=ih (i+1) (storedH xs p.1 p.2.1 p.2.2) {s with heap:=h3,toks:=s.toks+(tupleKind knd).draws p.1} (by omega) (by omega) il p8 p7 (λ b o h1 h2 e=>(ui.2 b h1).trans (p6 b o h1 h2 e)) h;exact q
def Lu {K:Type}[DecidableEq K]{knd:KeyKind prog w K}{Q:Value->Shared->Prop}{l:Addr}{items:Array Value}{n:Nat}{sl:Array (Option Value)}(ps:List (List K×Addr×Value))(hh:A.handled=none)(cp:A.units+2<cLine)
 (uh:ps.length=items.size) (hsz:items.size+1<=sizeLine) (hl:s.heap.get? l=some {cls:=.type "list",data:=.seq items n,slots:=sl})
 (hp:∀(j:Nat) p,ps[j]?=some p->(tupleKind knd).is s.heap p.1 p.2.1/\∃t,items[j]?=some (.ref t)/\IsTup s.heap t #[.ref p.2.1,p.2.2])
 (h:∀h' tk,h'.DictOfH (tupleKind knd) s.heap.objs.size (ps.foldl (λ acc p=>storedH acc p.1 p.2.1 p.2.2) [])->(∀b o,s.heap.get? b=some o->h'.get? b=some o)->Q (.ref s.heap.objs.size) {s with heap:=h',toks:=tk}):
 wpAny (model prog w) A (call (.type "dict") [.ref l]) Q E s:=by
 refine callType_codes (Q₁:=λ obj s₁=>obj=.ref s.heap.objs.size/\s₁={s with heap:=s.heap.push {cls:=.type "dict",data:=.dict #[]} }) PySem.F.kt_called_dict (PySem.F.kt_typeCall_dict_1 _) PySem.F.entry_dict_init
  (kt_code_dict_new _ ⟨rfl,rfl⟩) λ obj s₁ h₁=>?_
 obtain⟨rfl,rfl⟩:=h₁;have hS:(s.heap.push {cls:=.type "dict",data:=.dict #[]}).get? s.heap.objs.size=some {cls:=.type "dict",data:=.dict #[]}:=zaj _ rfl;have ll:l<s.heap.objs.size:=zaf hl;have gn:(s.heap.push {cls:=.type "dict",data:=.dict #[]}).get? l=some {cls:=.type "list",data:=.seq items n,slots:=sl}:=za5 _ hl;refine⟨⟨_,hS,rfl⟩,PySem.F.args_dict_init_2 _ _,?_⟩;have TD:Looks (model prog w) (s.heap.push {cls:=.type "dict",data:=.dict #[]}) (typeOf (.ref s.heap.objs.size)) (.type "dict"):=(Looks.ld hS).andThen .now;have TL:Looks (model prog w) (s.heap.push {cls:=.type "dict",data:=.dict #[]}) (typeOf (.ref l)) (.type "list"):=(Looks.ld gn).andThen .now;unfold Builtin.«dict.__init__» Dict.selfAndRest Dict.notOrdered;dsimp only;rw[if_pos (by decide)];refine wpAny_bind (wpAny_bind (wpAny_bind (TD.at ?_)));rw[if_neg (by decide)];refine wpAny_pure ?_;unfold Dict.addrOf;refine wpAny_bind (wpAny_pure (wpAny_pure ?_));unfold Dict.updateCommon Dict.updateFrom;dsimp only;refine wpAny_bind (TL.at ?_);rw[if_pos (by decide)];refine wpAny_bind (Sd (A:=A.in1.in1) hh gn λ h2 uj cq=>?_);rw[if_pos (show (none:Option Value).isNone=true from rfl)];refine wpAny_bind (wpAny_rule ?_);have ar:h2.IsList l items:=⟨_,cq _ _ gn,rfl,n,rfl⟩;have uk:=cq _ _ hS;refine wpAny_bind (wpAny_pyIter_list ar ?_);refine wpAny_pure ⟨plainId_quiet Hr _,?_⟩;have lz:s.heap.objs.size<h2.objs.size:=zaf uk;have w9:∀b o,s.heap.get? b=some o->(h2.push {cls:=.type "list_iterator",data:=.fields #[.ref l,.int 0 0]}).get? b=some o:=λ b o e=>za5 _ (cq _ _ (za5 _ e));have p7:(h2.push {cls:=.type "list_iterator",data:=.fields #[.ref l,.int 0 0]}).DictOfH (tupleKind knd) s.heap.objs.size []:=
  ⟨_,#[],0,za5 _ uk,⟨rfl,rfl,rfl⟩,rfl,rfl,λ x hx=>absurd hx List.not_mem_nil,zbz⟩
 have ag:∀b o,s.heap.get? b=some o->b≠s.heap.objs.size/\b≠h2.objs.size:=λ b o e=>by
  have:=zaf e;exact⟨zap this,zap (Nat.lt_trans this lz)⟩
 refine Uc (A:=A.in1) (knd:=knd) (l:=l) (h0:=s.heap) ps hh cp (zap (Nat.lt_trans ll lz)) (zap lz) (zap ll) uh hsz ⟨_,hl,rfl,n,rfl⟩ (λ j p hj=>?_) items.size 0 [] _ (by omega) (by omega) (by simp) ⟨_,zaj _ rfl,rfl,rfl⟩ p7 (λ b o h1 f7 e=>w9 b o e) λ h' tk aS p9=>?_
 ·obtain⟨q1,t,q2,q3⟩:=hp j p hj;obtain⟨o1,_,_,e1,_⟩:=id q1;obtain⟨o2,e2,_⟩:=id q3;exact⟨⟨(ag _ _ e1).1,(ag _ _ e1).2,q1⟩,t,q2,(ag _ _ e2).1,(ag _ _ e2).2,q3⟩
 ·exact⟨rfl,h h' tk aS λ b o e=>p9 b o (ag _ _ e).1 (ag _ _ e).2 e⟩
end
structure Xk where
 (t:Addr) (κ:List Key) (b:Addr) (v:V)
abbrev jA (H:Hp)(p:Xk):Prop:=H p.t=some (.tup [.ref p.b,p.v])/\H p.b=some (.tup (p.κ.map kV))
abbrev uW (ps:List Xk):List (List Key×V):=ps.foldl (λ acc p=>putK acc p.κ p.v) []
abbrev yX (X:Cx)(te:TE):TE:=λ σ H Q=>te σ H λ x H1=>∃(l:Addr) (ps:List Xk),x=.ref l/\Du X.K H1 l (ps.map λ p=>V.ref p.t)/\(∀p∈ps,jA H1 p)/\ps.length<=1000/\∀r,H1 r=none->Q (.ref r) (upd H1 r (.dT (uW ps)))
def Se:∀ {ps:List Xk}{us:List Value},Vals (ps.map λ p=>V.ref p.t) us->us=ps.map λ p=>zbh p.t
 |[],_,.nil=>rfl
 |p::ps,_,.cons h t=>by
  cases h;rw[za6,<-Se t]
def lF {H:Hp}:∀ {ps:List Xk}{qs:List (List Key×Addr×Value)}{kvs:List (List Key×V)}{xs:List (List Key×Addr×Value)},(∀p∈ps,jA H p)->Paired (λ(p:Xk) (q:List Key×Addr×Value)=>p.κ=q.1/\p.b=q.2.1/\RelV p.v q.2.2) ps qs->KT H kvs xs->KT H (ps.foldl (λ acc p=>putK acc p.κ p.v) kvs) (qs.foldl (λ acc p=>storedH acc p.1 p.2.1 p.2.2) xs)
 |[],_,_,_,_,.nil,h=>h
 |p::ps,_,_,_,ho,.cons (b:=q) hq t,h=>by
  obtain⟨q1,q2,q3⟩:=q;obtain⟨e1,e2,e3⟩:=hq;dsimp only at e1 e2 e3;subst e1 e2;have r:=lF (ps:=ps) (λ p' hp=>ho p' (za4 _ hp)) t (h.put p.κ (ho p za3).2 e3);exact r
def ZD:∀(ps:List Xk) (kvs:List (List Key×V)),(ps.foldl (λ acc p=>putK acc p.κ p.v) kvs).length<=kvs.length+ps.length
 |[],kvs=>zag _
 |p::ps,kvs=>by
  have h1:=ZD ps (putK kvs p.κ p.v);have h2:=EF kvs p.κ p.v;rw[zb9,za9];omega
def VS (ok:G5 P w H h):∀ {ps:List Xk},(∀p∈ps,jA H p)->∃qs:List (List Key×Addr×Value),Paired (λ(p:Xk) (q:List Key×Addr×Value)=>p.κ=q.1/\p.b=q.2.1/\RelV p.v q.2.2) ps qs/\
 ∀(j:Nat) q,qs[j]?=some q->(tupleKind (Ba P w)).is h q.1 q.2.1/\∃t,(ps.map λ p=>zbh p.t)[j]?=some (.ref t)/\IsTup h t #[.ref q.2.1,q.2.2]
 |[],_=>⟨[],.nil,λ j q e=>by simp at e⟩
 |p::ps,ho=>by
  obtain⟨qs,h1,h2⟩:=VS ok λ p hp=>ho p (za4 _ hp);obtain⟨o1,o2⟩:=ho p za3;obtain⟨_,aa,r,it⟩:=(show BQ P w H h p.t (.tup [.ref p.b,p.v]) from ok p.t _ o1);obtain⟨u,v,rfl,ru,rv⟩:=r.two;cases ru;refine⟨(p.κ,p.b,v)::qs,.cons ⟨rfl,rfl,rv⟩ h1,λ j q e=>?_⟩;cases j with
  |zero =>
   rw[zda] at e;cases e;exact⟨HS ok o2,p.t,by simp,it⟩
  |succ j =>
   rw[zb7] at e;obtain⟨a1,t,a2,a3⟩:=h2 j q e;exact⟨a1,t,by simpa using a2,a3⟩
section
variable {c:Bool}{P:Addr->Prop}{H:Hp}{a b:Expr}{f g:Ac->M D}
def ZE (hc:X.calm=true)(hu:X.A.units+n<cLine)(hg:Gl X "dict")(hm:X.mg "dict" = none)(he:PE X e te)(hv:bootBuiltins "dict" = some (.type "dict"):=by decide +kernel)(hs: ~~~(starEach [e] X.env=[(false,eval e X.env)]))(hn:2<=n:=by decide):
 PE X (.Call (.Name "dict" p) [e] [] pos) (yX X te):=by
 intro pins s σ H Q I h;refine wpAny_Call_Name_kw (CS I hg hm hv ?_);refine zbm ?_ hs;rw[hs];refine zc6 (Bh (he pins s σ H _ I h) λ u s1 zz=>?_);obtain⟨x,H1,I1,r1,q1⟩:=zz;obtain⟨l,ps,rfl,hq,ho,hlen,q⟩:=q1;cases r1;refine zcc ?_;obtain⟨aa,r',pl,hz⟩:=I1.list hq;have hits:=Se r';subst hits;obtain⟨⟨wE,ul,um,qd⟩,n0,o1,o2,o3,o4⟩:=pl;dsimp only at o2 o3 o4;subst o2 o3 o4;obtain⟨qs,h1,h2⟩:=VS I1.Ar ho;refine Lu (knd:=Ba X.prog X.w) qs (I1.ok.hd hc) (by omega) (by rw[zae,za2,<-h1.length]) (AA (by rw[zae,za2];omega)) o1 (λ j p hj=>?_) λ h' tk hd kp=>?_
 ·obtain⟨a1,t,a2,a3⟩:=h2 j p hj;exact⟨a1,t,by rw[List.getElem?_toArray];exact a2,a3⟩
 ·have wP:=lF ho h1 (show KT H1 [] [] from .nil);have jt:s1.heap.objs.size<=s1.heap.objs.size:=zag _;have d8:=I1.Ar.fresh jt;have wS:=ZD ps [];obtain⟨o,es,ep,g1,g2,g3,g4,g5,g6⟩:=hd;refine⟨.ref _,_,I1.laid (t':=tk) (o:=.dT (uW ps)) kp jt ⟨zbf (AA (by unfold uW;simp at wS;omega)),beq_eq_false_iff_ne.mpr (zbn (zap I1.big)),_,wP.keeps (λ b ys eb=>by rw[Ai (λ z=>by rw[z,d8] at eb;cases eb)];exact eb),o,es,ep,g1,g2,g3,g4,g6⟩,rfl,q _ d8⟩
abbrev Xl:List D->Option (List (D×D))
 |[]=>some []
 | .tup [k,v]::r=>(Xl r).map ((k,v)::·)
 |_=>none
abbrev uX (l:List (D×D)):List D×List D:=l.foldl (λ z kv=>putD z.1 z.2 kv.1 kv.2) ([],[])
abbrev jB (d:D):M OT:=match d with
 | .lst xs=>(match Xl xs with|some l=>if l.length<=1000/\(l.all λ kv=>keyOk true kv.1)=true then .ok (.Bm true (uX l).1 ((uX l).2.map .sh)) else .bad|none=>.bad)
 |_=>.bad
def VT {K:za0}{H:Hp}{P:Addr->Prop}:∀ {xs:List V}{ds:List D}{l:List (D×D)},Ag K (del H P) xs ds->Xl ds=some l->(l.all λ kv=>keyOk true kv.1)=true->
 ∃ps:List Xk,xs=ps.map (λ p=>V.ref p.t)/\(∀p∈ps,jA H p)/\Paired (λ(p:Xk) (kv:D×D)=>kv.1=.tup (p.κ.map Dv)/\BR K (del H P) p.v kv.2) ps l
 |_,[],l,.nil,e,_=>by cases e;exact⟨[],rfl,λ p hp=>(by cases hp),.nil⟩
 |_,d::ds,l,.cons hd ht,e,hk=>by
  unfold Xl at e;split at e
  ·rename_i bH;cases bH
  ·rename_i k v r bH;cases bH;obtain⟨l',e1,e2⟩:=Option.map_eq_some_iff.mp e;subst e2;rw[List.all_cons,zb2] at hk;obtain⟨ps,q1,q2,q3⟩:=VT ht e1 hk.2;have hK:=F9 hk.1;cases hK with
   |t κ =>
    cases hd with
    |tup h1 h2 =>
     obtain⟨x,y,rfl,hx,hy⟩:=h2.two;cases hx with
     |tup g1 g2 =>
      rename_i tt bb du;have ey:=Ag.keys κ g2;subst ey;refine⟨⟨tt,κ,bb,y⟩::ps,by rw[za6,q1],λ p hp=>?_,.cons ⟨rfl,hy⟩ q3⟩;rcases zab.mp hp with rfl|hp
      ·exact⟨(Am h1).2,(Am g1).2⟩
      ·exact q2 p hp
  ·cases e
def ZF {K:za0}{H:Hp}{P:Addr->Prop}:∀ {ps:List Xk}{l:List (D×D)}{kvs:List (List Key×V)}{vs:List D},Paired (λ(p:Xk) (kv:D×D)=>kv.1=.tup (p.κ.map Dv)/\BR K (del H P) p.v kv.2) ps l->Ag K (del H P) (kvs.map zc7) vs->
 ∃aV,l.foldl (λ z kv=>putD z.1 z.2 kv.1 kv.2) (kvs.map (λ kv=>D.tup (kv.1.map Dv)),vs)=((ps.foldl (λ acc p=>putK acc p.κ p.v) kvs).map (λ kv=>D.tup (kv.1.map Dv)),aV)/\Ag K (del H P) ((ps.foldl (λ acc p=>putK acc p.κ p.v) kvs).map zc7) aV
 |[],_,kvs,vs,.nil,h=>⟨vs,rfl,h⟩
 |p::ps,_,kvs,vs,.cons (b:=kv) hq t,h=>by
  obtain⟨k,d⟩:=kv;obtain⟨e1,e2⟩:=hq;dsimp only at e1 e2;subst e1;have hf:∀a b:List Key,Bk (.tup (a.map Dv)) (.tup (b.map Dv))=decide (a=b):=λ a b=>by simp only[Bk];exact LJ a b
  have bu:∃aV,(putD (kvs.map λ kv=>.tup (kv.1.map Dv)) vs (.tup (p.κ.map Dv)) d)=((putK kvs p.κ p.v).map (λ kv=>.tup (kv.1.map Dv)),aV)/\Ag K (del H P) ((putK kvs p.κ p.v).map zc7) aV:=by
   unfold putD putK;rw[MK (fk:=λ κ:List Key=>D.tup (κ.map Dv)) hf];by_cases hh:(kvs.any λ kv=>decide (kv.1=p.κ))=true
   ·rw[if_pos hh,if_pos hh];refine⟨_,by rw[J5 (fk:=λ κ:List Key=>D.tup (κ.map Dv)) hf],?_⟩;rw[<-J4 (fk:=λ κ:List Key=>D.tup (κ.map Dv)) hf];exact J6 e2 h
   ·rw[if_neg hh,if_neg hh];refine⟨_,by rw[zaz];rfl,?_⟩;rw[zaz];exact h.snoc e2
  obtain⟨vs1,g1,g2⟩:=bu;obtain⟨wT,g3,g4⟩:=ZF t g2;refine⟨wT,?_,g4⟩;rw[zb9];dsimp only;rw[g1];exact g3
def ZG (hc:X.calm=true)(hu:X.A.units+n<cLine)(hg:Gl X "dict")(hm:X.mg "dict" = none)(he:DE X WX true e f)(hv:bootBuiltins "dict" = some (.type "dict"):=by decide +kernel)(hs: ~~~(starEach [e] X.env=[(false,eval e X.env)]))(hn:2<=n:=by decide):
 DN X WX (.Call (.Name "dict" p) [e] [] pos) (λ ρ=>(f ρ).bind jB):=by
 obtain⟨te,e1,e2⟩:=he;refine⟨_,ZE hc hu hg hm e1 hv hs hn,λ P0 P σ H Q ρ E h=>?_⟩;refine e2 P0 P σ H _ ρ E ?_;dsimp only at h;refine YO h λ d h=>?_;intro v H1 s1 hv;unfold jB at h;split at h
 ·rename_i xs;split at h
  ·rename_i l eb;split at h
   ·rename_i hl;cases hv with
    |lst hs hh =>
     obtain⟨ps,q1,q2,q3⟩:=VT hh eb hl.2;subst q1;obtain⟨aV,g1,g2⟩:=ZF (kvs:=[]) q3 .nil;refine⟨_,ps,rfl,hs.B3,q2,by rw[q3.length];exact hl.1,λ r hr=>?_⟩;have e3:uX l=((uW ps).map (λ kv=>D.tup (kv.1.map Dv)),aV):=g1;rw[e3] at h;have bm:∀a∈[r],H1 a=none:=λ a ha=>by rw[za7.mp ha];exact hr
     exact h _ [r] _ (s1.trans (AQ hr _)) (λ a ha=>F8 s1 (bm a ha)) (by simp) (.dT Aq (g2.mono (Dr (AQ hr _) bm)).ows)
   ·exact h.elim
  ·exact h.elim
 ·exact h.elim
end
open PySem PySem.Spec PyProof.Rows
section
variable {c:Bool}{P:Addr->Prop}{H:Hp}{a b:Expr}{f g:Ac->M D}
abbrev ZH (x y:D):M D:=match x,y with
 | .tup xs,.tup ys=>(match CK xs,CK ys with|some ns,some ms=>.ok (.bl (HT.lexLt ns ms))|_,_=>.bad)
 |_,_=>.bad
def VU:Vl X.K WX (rS X.K) ZH:=by
 intro P H x y v w Q ht hx hy h;unfold ZH at h;split at h
 ·rename_i xs ys;split at h
  ·rename_i ns ms e1 e2;have:=Ea e1;subst this;have:=Ea e2;subst this;cases hx with
   |tup h1 h2 =>
    cases hy with
    |tup h3 h4 =>
     have:=Di h2;subst this;have:=Di h4;subst this;exact⟨_,_,ns,ms,rfl,rfl,EQ.of (Am h1).2,EQ.of (Am h3).2,h _ H (Ae.refl H) (.bl _)⟩
  ·exact h.elim
 ·exact h.elim
def xB (hu:X.A.units+n<cLine)(ha:DE X WX c a f)(hb:DE X WX c b g):DE X WX c (.Compare a [.Lt] [b] pos) (λ ρ=>(f ρ).bind λ x=>(g ρ).bind λ y=>ZH x y):=YR (YB (by omega)) VU ha hb (Ga _)
def oU (hu:X.A.units+n<cLine)(ha:DE X WX c a f)(hb:DE X WX c b g):DT X WX (.Compare a [.Lt] [b] pos) (λ ρ=>((f ρ).bind λ x=>(g ρ).bind λ y=>ZH x y).bind NW):=EG (YB (by omega)) VU ha hb (Ga _)
def ZI (hk:DE X WX true a f)(hv:DE X WX true b g):DN X WX (.Dict [some a] [b] pos) (λ ρ=>(f ρ).bind λ k=>(g ρ).bind λ v=>if keyOk false k=true then .ok (.Bm false [k] [.sh v]) else .bad):=by
 obtain⟨tk,k1,k2⟩:=hk;obtain⟨tv,v1,v2⟩:=hv;refine⟨_,fO (YH k1 v1 fN) rfl rfl (by simp) (by simp),λ P0 P σ H Q ρ E h p hp=>?_⟩;dsimp only at h;have hn:∀a∈[p],H a=none:=λ a ha=>by rw[za7.mp ha];exact hp
 have s0:Ae H (upd H p (.dK [])):=AQ hp _;have E1:Al X.K P0 (PU P [p]) (upd H p (.dK [])) σ ρ:=E.more s0 MH (λ a ha=>ha.elim (λ z=>(E.Cp a z).same s0) λ z=>by
  rw[za7.mp z];exact⟨_,Aq,λ _=>⟨λ z=>(by cases z),λ _ z=>by cases z⟩⟩) (Dr s0 hn)
 refine k2 P0 (PU P [p]) σ _ _ ρ E1 ?_;cases q:f ρ with
 |bad=>rw[q] at h;exact h
 |ex x=>rw[q] at h;exact λ H' s=>h H' (s0.trans s)
 |ok k =>
  rw[q] at h;simp only[M.A8] at h;intro y H2 s2 hy;have E2:=E1.same s2;refine v2 P0 (PU P [p]) σ H2 _ ρ E2 ?_;cases q2:g ρ with
  |bad=>rw[q2] at h;exact h
  |ex x=>rw[q2] at h;exact λ H' s=>h H' ((s0.trans s2).trans s)
  |ok d =>
   rw[q2] at h;simp only[M.A8] at h;intro w H3 s3 hw;by_cases hc:keyOk false k=true
   ·rw[if_pos hc] at h;have hK:=F9 hc;cases hK with
    |k κ =>
     have ey:=hy.oM;subst ey;refine⟨s3 _ _ (s2 _ _ Aq),[(κ,w)],rfl,by simp,?_⟩;have s4:Ae H (upd H3 p (.dK (Ge [] [(κ,w)]))):=λ a o ha=>by
      rw[Ai (λ z=>by rw[z,hp] at ha;cases ha)];exact s3 _ _ (s2 _ _ (s0 _ _ ha))
     have s5:Ae (del H3 (PU P [p])) (del (upd H3 p (.dK (Ge [] [(κ,w)]))) (PU P [p])):=λ a o ha=>by
      obtain⟨n1,n2⟩:=Am ha;rw[Au n1,Ai (λ z=>n1 (.inr (by rw[z];exact za7.mpr rfl)))];exact n2
     refine h _ [p] _ s4 hn (by simp) ?_;have e1:Ge [] [(κ,w)]=[(κ,w)]:=rfl;rw[e1] at s5 ⊢;exact .dK (kvs:=[(κ,w)]) Aq (.cons (.sh (hw.mono s5)) .nil)
   ·rw[if_neg hc] at h;exact h.elim
abbrev OX (x:D)(m:M D):M D:=match x with
 | .Bm b ks vs=>m.bind λ y=>if keyOk b y=true then .ok ((G2 ks vs y).getD .AE) else .bad
 |_=>.bad
def jC {K}(h:BR K (del H P) v (.Bm bb ks vs)):∃a,v=.ref a/\wK H a:=by
 cases h with
 |Vd h1 h2=>exact⟨_,rfl,.inl ⟨_,h1.B3⟩⟩
 |Ve h1 h2=>exact⟨_,rfl,.inr ⟨_,h1.B3⟩⟩
def MS (hu:X.A.units+n<cLine)(ha:DE X WX c o f)(hb:DE X WX c k g)(m:M1 X o "get" apos k af:=by exact⟨rfl,rfl,rfl,rfl⟩)(hn:1<=n:=by decide):
 DE X WX c (.Call (.Attribute o "get" apos) [k] [] af) (λ ρ=>(f ρ).bind λ x=>OX x (g ρ)):=by
 obtain⟨ta,a1,a2⟩:=ha;obtain⟨tb,b1,b2⟩:=hb;refine⟨_,YI (by omega) a1 b1 m,λ P0 P σ H Q ρ E h=>?_⟩;dsimp only at h;refine a2 P0 P σ H _ ρ E ?_;refine YO h λ x h=>?_;intro v H1 s1 hv;unfold OX at h;split at h
 ·rename_i bb ks vs;obtain⟨a,rfl,hD⟩:=jC hv;refine⟨a,rfl,hD,b2 P0 P σ H1 _ ρ (E.same s1) ?_⟩;cases e2:g ρ with
  |bad=>rw[e2] at h;exact h
  |ex y=>rw[e2] at h;exact gV.same (m:=.ex y) h s1
  |ok y =>
   rw[e2] at h;simp only[M.A8] at h;intro w H2 s2 hw;by_cases hk:keyOk bb y=true
   ·rw[if_pos hk] at h;obtain⟨a',xs,ea,g',hl,bm⟩:=Qd (hv.mono s2.del) hw (F9 hk);cases ea;refine⟨_,g',?_⟩;refine gV.same (gV.same h s1) s2 _ H2 (Ae.refl _) ?_;cases eg:G2 ks vs y with
    |none =>
     have:G2 ks xs y=none:=by
      cases xa:G2 ks xs y with
      |none=>rfl
      |some z =>
       have h1:=Hb (xs:=xs) (y:=y) bm;have h2:=Hb (ks:=ks) (xs:=vs) (y:=y) (by rw[<-hl.length,bm]);rw[h1,xa,eg] at h2;cases h2
     rw[this];exact .AE
    |some d =>
     obtain⟨x,e3,e4⟩:=ML hl eg;rw[e3];exact e4
   ·rw[if_neg hk] at h;exact h.elim
 ·exact h.elim
end
abbrev yE (K:za0)(a:Addr)(n:Nat):It:=
 ⟨λ i H=>∃xs x,Du K H a xs/\xs.length=n/\i<n/\xs[n-1-i]?=some x,λ i H x H'=>H'=H/\∀xs,Du K H a xs->xs[n-1-i]?=some x,λ i H=>∃xs,Du K H a xs/\xs.length=n/\n<=i⟩
def ZJ {h:Heap}(h1:h.IsRevIter it a i)(h2:h.IsList a xs):a≠it:=λ z=>by
 subst z;obtain⟨o,e1,e2,_⟩:=h1;obtain⟨o2,e3,e4,_⟩:=h2;rw[e1] at e3;cases e3;rw[e2] at e4;exact absurd (Value.type.inj e4) (by decide)
def ZK {K}(a it:Addr)(n:Nat):Turn P w K tg (yE K a n) [it] it (λ i h=>i<=n/\h.IsRevIter it a ((n:Int)-1-i)) where
 mem:=by simp
 obj:=λ i h st b hb=>by
  have e:b=it:=by simpa using hb
  subst e;obtain⟨_,o,e,c,d⟩:=st;exact⟨o,e,λ v z=>by rw[d] at z;cases z⟩
 keep:=λ i h h' st k=>⟨st.1,st.2.at λ o e=>k it (by simp) o e⟩
 item:=by
  intro X hP hw hK hc i pins s σ H E I hf st hg;subst hP hw hK;obtain⟨xs,x,hq,qe,bd,hx⟩:=hg;obtain⟨aa,rv,p,hz⟩:=I.list hq;obtain⟨u,hu,ru⟩:=rv.get hx;obtain⟨f0,f1,f2,f3,f4,f5⟩:=hf it (by simp);have hl:=rv.length;have qg:aa.toArray.size=n:=by rw[zae,<-hl,qe]
  have W:=Walks.listRev (prog:=X.prog) (w:=X.w) (A:=X.A) (I.ok.hd hc) it a (ZJ st.2 p.isList) aa.toArray;rw[qg] at W;refine W.item i s _ _ bd ⟨st.1,st.2,p.isList⟩ λ v h' tk hv bn kp=>?_;have ev:v=u:=by
   rw[List.getElem?_toArray,hu] at hv;exact (zat hv).symm
  subst ev;have I1:Inv X pins σ H {s with heap:=h',toks:=tk}:=I.turned (t':=tk) (λ b o hb e=>kp b o (by simpa using hb) e) f0 f1 f3 f4 f5;obtain⟨o,e,c,d⟩:=id bn.2.1;exact⟨v,rfl,Ym (s:={s with heap:=h',toks:=tk}) e c d (by decide) ⟨x,H,I1,ru,⟨rfl,λ ys hy=>by rw[I.G7 hy hq];exact hx⟩,⟨bn.1,bn.2.1⟩,λ b hb=>(hf b hb).1⟩⟩
 done:=by
  intro X hP hw hK hc i pins s σ H E I hf st hg;subst hP hw hK;obtain⟨xs,hq,qe,bd⟩:=hg;obtain⟨aa,rv,p,hz⟩:=I.list hq;obtain⟨f0,f1,f2,f3,f4,f5⟩:=hf it (by simp);have hl:=rv.length;have qg:aa.toArray.size=n:=by rw[zae,<-hl,qe]
  have W:=Walks.listRev (prog:=X.prog) (w:=X.w) (A:=X.A) (I.ok.hd hc) it a (ZJ st.2 p.isList) aa.toArray;rw[qg] at W;have xb:i=n:=Nat.le_antisymm st.1 bd;subst xb;exact W.done s _ _ ⟨st.1,st.2,p.isList⟩ λ h' tk kp=>⟨rfl,I.turned (t':=tk) (λ b o hb e=>kp b o (by simpa using hb) e) f0 f1 f3 f4 f5⟩
 self:=λ _ _ _ _ _ st h=>wpAny_pyIter_revIter st.2 h
section
variable {tg a:Expr}{f:Ac->M D}{p:Pos}
abbrev xC (K:za0)(ta:TA):TI:=λ σ H R=>ta σ H λ vs H1=>∃a xs,vs=[.ref a]/\Du K H1 a xs/\R (yE K a xs.length) H1
def oV (hg:Gl X "reversed")(hm:X.mg "reversed" = none)(ha:PA X [a] ta)(hb:bootBuiltins "reversed" = some (.type "reversed"):=by decide +kernel)(hs: ~~~(starEach [a] X.env=[(false,eval a X.env)])):
 PI X tg (.Call (.Name "reversed" p) [a] [] pos) (xC X.K ta):=by
 intro pins s σ H R I h;refine Call_ (CS I hg hm hb (zbm (Bh (ha pos pins s σ H _ I h) λ us s1 zz=>?_) hs rfl));obtain⟨vs,H1,I1,r1,q1⟩:=zz;obtain⟨j,xs,e,hq,q⟩:=q1;subst e;cases r1 with
 |cons r rr =>
  cases rr;cases r;obtain⟨aa,rv,p,hz⟩:=I1.list hq;have hl:=rv.length;refine call_reversed_list p.isList ?_;have hit:(s1.heap.push (revObj j ((aa.toArray.size:Int)-1))).IsRevIter s1.heap.objs.size j ((xs.length:Int)-1-(0:Nat)):=by
   rw[zae,<-hl];exact⟨_,zaj _ rfl,rfl,by simp[revObj]⟩
  refine wpAny_pyIter_revIter (s:={s1 with heap:=s1.heap.push (revObj j ((aa.toArray.size:Int)-1))}) hit ?_;refine⟨s1.heap.objs.size,[s1.heap.objs.size],_,_,H1,rfl,I1.kept (t':=s1.toks) λ b o e=>za5 _ e,ZK j _ xs.length,⟨zb0 _,hit⟩,λ b hb=>?_,q⟩;have e:b=s1.heap.objs.size:=by simpa using hb
  subst e;exact I1.Yl (zag _) (I1.Ar.fresh (zag _))
def oW (hg:Gl X "reversed")(hm:X.mg "reversed" = none)(ha:DE X WX true a f)(hb:bootBuiltins "reversed" = some (.type "reversed"):=by decide +kernel)(hs: ~~~(starEach [a] X.env=[(false,eval a X.env)])):
 DI X WX tg (.Call (.Name "reversed" p) [a] [] pos) (λ ρ=>(f ρ).bind λ d=>match d with | .lst ds=>.ok ds.reverse|_=>.bad):=by
 obtain⟨ta,a1,a2⟩:=ha;refine⟨_,oV hg hm (Bu a1 CD hs) hb hs,λ P0 P σ H R ρ E h=>?_⟩;dsimp only at h;refine a2 P0 P σ H _ ρ E ?_;cases q:f ρ with
 |bad|ex x=>rw[q] at h;exact h
 |ok d =>
  rw[q] at h;cases d with
  |lst ds =>
   intro v H1 s1 hv;cases hv with
   | @lst a xs _ hs hl =>
    have hlen:=hl.length;refine⟨a,xs,rfl,hs.B3,h _ H1 s1 ⟨λ i P' H' s hi=>?_,λ i P' H' s hi=>?_,λ i P' H' v f9 d s ht hd y=>?_⟩⟩
    ·rw[zc3] at hi;obtain⟨x,hx,_⟩:=hl.get (zaa (show xs.length-1-i<ds.length by omega));exact⟨xs,x,(s.seq hs).B3,rfl,by omega,hx⟩
    ·rw[zc3] at hi;exact⟨xs,(s.seq hs).B3,rfl,by omega⟩
    ·obtain⟨rfl,y⟩:=y;have ag:=(zak.mp hd).1;rw[zc3] at ag;rw[List.getElem?_reverse ag] at hd;obtain⟨x,hx,aS⟩:=hl.get hd;have e:=y xs (s.seq hs).B3;rw[hlen,hx] at e;cases e;exact⟨Ae.refl _,aS.mono s⟩
  |_=>exact h.elim
end
structure ZL (K:za0)(x qual:Str)(st:Stmt)(f:Addr)(fd:FuncData):Prop where
 ex:∃(oc:Value) (od:Option Addr) (dV kV doc pm:Value) (an:Option Addr) (B2 ct:Value) (Rp:Array (Option Value)),
  fd=zb8 x qual (AV st) (Aw st) (A4 st) dV kV doc pm an B2 ct/\K.lookup f=some ⟨oc,od,.func fd,Rp⟩/\zby K B2 qual=true
 kp:zbd K (.ref f)=true
section
variable {P:Program}{w:World}{K:za0}
def jD {st}(F:ZL K x qual st f fd)(S:Ad N ps (A4 st))(g:Ac->M Out)(hb:∀(B2:Value) (A:Around) (outer:List Env) (s:Shared) (H:Hp) (E:XK),Bp k (A.deeper (envOfC qual (A4 st) s.heap.objs.size f B2))->R7 (eG P w K mg base N qual (A4 st) f B2 A outer s H E) (CQ K E) (Aw st) g):
 D5 P w K mg base (U2 P w base) (k+1) f fd ps (ON K ps.length λ t au=>Ek (g (D7 N t au))):=by
 obtain⟨oc,od,dV,kV,doc,pm,an,B2,ct,Rp,rfl,lk,aR⟩:=F.ex;refine Ro lk aR S (λ vs H Q E h=>h.1) λ A outer s H vs Q E hr h=>?_;obtain⟨hl,P',p,t,fp,rest,au,rfl,ht,hp,nd,ho,hv,hq⟩:=h;obtain⟨tt,h1,h2⟩:=hb B2 A outer s H E hr;refine⟨tt,h1,h2 ⟨λ a=>P' a/\a∉fp,λ _=>p⟩ P' _ H _ _ (Ja ht hp nd ho hv) ?_⟩;dsimp only at hq;revert hq;cases g (D7 N t au) with
 |bad|ex x=>exact λ h=>h.elim
 |ok o =>
  have sub:∀ {P2:Addr->Prop} {H2:Hp} {σ2:St} {ρ:Ac},Al K ⟨λ a=>P' a/\a∉fp,λ _=>p⟩ P2 H2 σ2 ρ->∀a,P2 a/\¬ (P' a/\a∉fp)->P2 a/\(P' a->a∈fp):=λ E a ha=>⟨ha.1,λ z=>zcb λ w=>ha.2 ⟨z,w⟩⟩;cases o with
  |ret d|CF d=>exact λ h=>h.elim
  |next ρ =>
   intro hq σ' H' P2 t2 E2;unfold Ek at hq;dsimp only at hq;split at hq
   ·rename_i t' e;obtain⟨c,ah,k1,k2,k3,k4,k5,k6⟩:=LL E2 e;exact hq .AE H' P2 ah [] (λ a ha hn=>⟨E2.sub a ⟨ha,hn⟩,t2.2 a ⟨ha,hn⟩⟩) E2.Cp t2.1 k4 k5 (.sh .AE) zbz (λ a ha=>by cases ha) (λ a ha=>sub E2 a (k6 a ha)) (λ a ha=>by cases ha)
   ·exact hq.elim
  |ES r ρ =>
   intro hq v fr σ' H' P2 t2 E2 o2 bf hf;unfold Ek at hq;dsimp only at hq;split at hq
   ·rename_i t' e;obtain⟨c,ah,k1,k2,k3,k4,k5,k6⟩:=LL E2 e;exact hq v H' P2 ah fr (λ a ha hn=>⟨E2.sub a ⟨ha,hn⟩,t2.2 a ⟨ha,hn⟩⟩) E2.Cp t2.1 k4 k5 o2 bf (λ a ha=>(hf a ha).2.2 0 c _ ah k1 k2 k3) (λ a ha=>sub E2 a (k6 a ha)) (λ a ha=>sub E2 a ⟨(hf a ha).1,(hf a ha).2.1⟩)
   ·exact hq.elim
  |brk ρ|cont ρ=>exact λ h=>h.elim
end
def VW {K}{st}{kV}(l:K.lookup f=some ⟨oc,od,.func (zb8 x qual (AV st) (Aw st) (A4 st) dV kV doc pm an B2 ct),Rp⟩)(c:zby K B2 qual=true)(k:zbd K (.ref f)=true):ZL K x qual st f (zb8 x qual (AV st) (Aw st) (A4 st) dV kV doc pm an B2 ct):=⟨⟨oc,od,dV,kV,doc,pm,an,B2,ct,Rp,rfl,l,c⟩,k⟩
structure OY (P:Program)(w:World)(K:za0)(mg:Str->Option Value)(base:Heap)(x:Str)(k n:Nat)(F:OT->List D->M (OT×OT)):Prop where
 ex:∃C fa fd ps,oT K mg x C/\Mk K C fa/\D5 P w K mg base (U2 P w base) k fa fd ps (ON K n F)/\Binds K fd ps []/\Binds K fd ps [.none]
def OY.yY {K}(G:OY P w K mg base x k n F):tN P w K mg base x k n F:=by
 obtain⟨C,fa,fd,ps,h1,h2,h3,h4,_⟩:=G.ex;exact⟨⟨C,fa,fd,ps,h1,h2,h3,h4⟩⟩
structure Ud (K:za0)(mg:Str->Option Value)(x qual:Str)(st:Stmt)(ps:List Str):Prop where
 ex:∃C f fd,oT K mg x C/\Mk K C f/\ZL K "__init__" qual st f fd/\Binds K fd ps []/\Binds K fd ps [.none]
def ZM {K}{st}(T:Ud K mg x qual st ps)(S:Ad N ps (A4 st))(g:Ac->M Out)(hb:∀(f:Addr) (B2:Value) (A:Around) (outer:List Env) (s:Shared) (H:Hp) (E:XK),Bp k (A.deeper (envOfC qual (A4 st) s.heap.objs.size f B2))->R7 (eG P w K mg base N qual (A4 st) f B2 A outer s H E) (CQ K E) (Aw st) g)(hn: ~~~(ps.length=n)):
 OY P w K mg base x (k+1) n (λ t au=>Ek (g (D7 N t au))):=by
 obtain⟨C,f,fd,h1,h2,F,hB⟩:=T.ex;subst hn;exact⟨⟨C,f,fd,ps,h1,h2,jD F S g (hb f),hB⟩⟩
section
variable {E:XK}{c:Bool}{es:List Expr}{fs:Ac->M (List D)}{H:Hp}
def ZN (xo:F6 X E)(G:OY X.prog X.w X.K X.mg X.base x k n F)(hr:Bp (k+1) X.A)(hg:Gl X x)(ha:DA X (CQ X.K E) true (e::es) fs)(db:(e::es).length+2=n)(aK:(x==("__debug__" : Str))=false:=by decide)(he: ~~~(starEach (e::es) X.env=(false,eval e X.env)::starEach es X.env))(hpl: ~~~((backTo pos (starEach es X.env)).any (·.1)=false)):
 DN X (CQ X.K E) (.Call (.Name x p) (e::es) [] pos) (λ ρ=>(fs ρ).bind λ ds=>OU (F (.ins x [] []) (ds++[.AE]))):=by
 obtain⟨C,fa,fd,ps,hT,hM,hF,_,hb⟩:=G.ex;obtain⟨ta,a1,a2,a3⟩:=ha;refine⟨_,V5 hM hF hr hg hT.yD hb (show Vals [.AE] [.none] from .cons (show RelV .AE .none from rfl) .nil) xo.call a1 aK he hpl,λ P0 P σ H Q ρ Ev h=>?_⟩;dsimp only at h;refine a2 P0 P σ H _ ρ Ev ?_;cases q:fs ρ with
 |bad|ex x=>rw[q] at h;exact h
 |ok ds =>
  rw[q] at h;simp only[M.A8] at h;intro vs H1 s1 a6 y dx hy hd ae;have E1:=Ev.same s1;have sm:=OS (C:=C) hy hd;have bI:∀a∈[y],H1 a=none:=λ a ha=>by rw[za7.mp ha];exact hy
  refine⟨by rw[za9,zav,a6.length,a3 ρ ds q];exact db,PU P [y],y,.ins x [] [],[y],vs++[.AE],ds++[.AE],rfl,λ a ha=>?_,λ a ha=>.inr ha,by simp,C9.ins (fs:=[]) hT.ns Aq .nil,(a6.mono (Dr sm bI)).append (.cons .AE .nil),?_⟩
  ·rcases ha with ha|ha
   ·exact (E1.Cp a ha).same sm
   ·rw[za7.mp ha];exact⟨_,Aq,λ xs=>⟨(λ z=>by cases z),(λ z w=>by cases w)⟩⟩
  ·cases q2:F (.ins x [] []) (ds++[.AE]) with
   |bad|ex z=>rw[q2] at h;exact h
   |ok tr =>
    obtain⟨t,r⟩:=tr;rw[q2] at h;simp only[OU] at h;intro v H' P' ah fr k1 k2 k3 k4 k5 k6 k7 k8 k9 pf;cases r with
    |sh d =>
     cases d with
     |AE =>
      cases k6 with
      |sh hv =>
       cases hv;refine⟨rfl,h _ ah H' ?_ ?_ k5 ?_⟩
       ·intro b u eb;have e1:=s1 b u eb;have bK:b≠y:=λ z=>by rw[z,hy] at e1;cases e1
        have e2:=sm b u e1;by_cases hP:P b
        ·exact (k1 b (.inl hP) (by simp[bK])).2.trans e2
        ·exact (Am (k3 b u (by rw[Au λ z=>z.elim hP λ w=>bK (za7.mp w)];exact e2))).2
       ·intro b jv;cases eb:H b with
        |none=>rfl
        |some u =>
         exfalso;have e1:=s1 b u eb;have bK:b≠y:=λ z=>by rw[z,hy] at e1;cases e1
         have e2:=sm b u e1;have hn:=λ z=>bK (za7.mp ((k9 b jv).2 z));exact (Am (k3 b u (by rw[Au hn];exact e2))).1 (k9 b jv).1
       ·refine k4.move (λ b u eb=>?_) λ _ _=>rfl;obtain⟨g1,g2⟩:=Am eb;rw[Au]
        ·exact g2
        ·rintro (z|z)
         ·have bK:b≠y:=λ w=>by
           obtain⟨o,e1,_⟩:=E1.Cp b z;rw[w,hy] at e1;cases e1
          exact g1 (k1 b (.inl z) (by simp[bK])).1
         ·exact g1 (k9 b z).1
     |_=>exact h.elim
    |_=>exact h.elim
end
def yZ {P:List Value->Prop}(h:P [])(us:List Value)(hl:us.length=0):P us:=by
 cases us with
 |nil=>exact h
 |cons _ _=>cases hl
def uY {P:List Value->Prop}(h:∀a,P [a])(us:List Value)(hl:us.length=1):P us:=by
 cases us with
 |nil=>cases hl
 |cons a us=>exact yZ (P:=λ l=>P (a::l)) (h a) us (Nat.succ.inj hl)
def ln2 {P:List Value->Prop}(h:∀a b,P [a,b])(us:List Value)(hl:us.length=2):P us:=by
 cases us with
 |nil=>cases hl
 |cons a us=>exact uY (P:=λ l=>P (a::l)) (λ b=>h a b) us (Nat.succ.inj hl)
def xD {P:List Value->Prop}(h:∀a b c,P [a,b,c])(us:List Value)(hl:us.length=3):P us:=by
 cases us with
 |nil=>cases hl
 |cons a us=>exact ln2 (P:=λ l=>P (a::l)) (λ b c=>h a b c) us (Nat.succ.inj hl)
def yF {P:List Value->Prop}(h:∀a b c d,P [a,b,c,d])(us:List Value)(hl:us.length=4):P us:=by
 cases us with
 |nil=>cases hl
 |cons a us=>exact xD (P:=λ l=>P (a::l)) (λ b c d=>h a b c d) us (Nat.succ.inj hl)
def AZ {K}{st}(X:K.In h)(G:h.Ns mainGlobals mg)(p:FP K x st)(hb:∀(kV dc pm:Value) (an:Option Addr) (cd ct:Value) (us:List Value),us.length=ps.length->bindArgs (zb8 x x (AV st) (Aw st) (A4 st) .none kV dc pm an cd ct) ⟨us,[]⟩=pure (ps.zip us):=by first | exact (λ _ _ _ _ _ _=>uY λ _=>rfl) | exact (λ _ _ _ _ _ _=>ln2 λ _ _=>rfl) | exact (λ _ _ _ _ _ _=>xD λ _ _ _=>rfl) | exact (λ _ _ _ _ _ _=>yF λ _ _ _ _=>rfl)):AK K mg x st ps:=by
 obtain⟨f,oc,od,an,sl,kV,dc,pm,cd,ct,a,l,c,k⟩:=p.ex;have F:=TQ (st:=st) l c k;exact⟨⟨_,_,F,PySem.W.mg_of X G a,F.binds hb⟩⟩
def VX {K}{st}(aC:zaw K mainGlobals x=some (some (.ref C)))(cl:WG K C)(p:MP K C m qual st)(hb:∀(kV dc pm:Value) (an:Option Addr) (cd ct:Value) (us:List Value),us.length=ps.length->bindArgs (zb8 m qual (AV st) (Aw st) (A4 st) .none kV dc pm an cd ct) ⟨us,[]⟩=pure (ps.zip us):=by first | exact (λ _ _ _ _ _ _=>uY λ _=>rfl) | exact (λ _ _ _ _ _ _=>ln2 λ _ _=>rfl) | exact (λ _ _ _ _ _ _=>xD λ _ _ _=>rfl) | exact (λ _ _ _ _ _ _=>yF λ _ _ _ _=>rfl)):OQ K x m qual st ps:=by
 obtain⟨f,oc,od,an,sl,kV,dc,pm,cd,ct,a,i,l,c,k⟩:=p.ex;have F:=TQ (st:=st) l c k;exact⟨⟨_,_,_,aC,cl,⟨a,i,k⟩,F,F.binds hb⟩⟩
open PySem PySem.W PySem.Calls PyProof.Rows
abbrev R0:Rn:=⟨topRun,Heap.nsMap,importEnds,fenceModules?,PySem.start,treeTable⟩
def tP:R0=R1:=by
 unfold R0 R1;rw[PySem.W.Fast.te14082659384304107361,PySem.W.Fast.te8920871248978507458,PySem.W.Fast.te10274390034422433532,PySem.W.Fast.te14289696077712309145,PySem.W.Fast.te1435165496053646825,PySem.W.Fast.te14364793385576792824]
def VY (p:Program)(w:World)(N:Nat):openEnds treeTable p w N=V1 R0 p w N:=by
 unfold openEnds fencedOpening V1;rfl
def MT:∀ {as:List Addr},(uD h as).lookup a=some o->h.get? a=some o
 |[],e=>by cases e
 |b::r,e=>by
  unfold uD at e;rw[zcs] at e;cases q:h.get? b with
  |none=>rw[q] at e;exact MT (as:=r) e
  |some u =>
   rw[q] at e;dsimp only [zcp] at e;rw[zc9] at e;cases c:a==b with
   |true=>rw[c] at e;cases e;rw[eq_of_beq c];exact q
   |false=>rw[c] at e;exact MT (as:=r) e
abbrev tQ (h h':Heap):Prop:=∀(b:Addr) (o:Obj),h.get? b=some o->h'.get? b=some o
def oX (s:tQ h h'):(uD h as).In h':=λ a o e=>s a o (MT e)
def jE {lo}(h:∀w:World,(openEnds treeTable p w N).map (λ s=>openSeen q lo (importedModules p.main.body) Xt true s)=some (openGood q lo)):LeftO p q lo Xt (λ s=>s.heap) (λ w=>Y6 R0 p w N) N:=λ w=>by
 have e:=h w;unfold Y6;dsimp only;rw[<-VY];cases q':openEnds treeTable p w N with
 |none=>rw[q'] at e;cases e
 |some s =>
  rw[q'] at e;rw[zcp] at e ⊢;dsimp only;rw[zat e]
def L0 {α β γ:Type}{o:Option γ}{f:γ->α}{g:γ->β}{a:α}{b:β}(h:o.map f=some a)(k:o.map g=some b):o.map (λ s=>(f s,g s))=some (a,b):=by
 cases o with
 |none=>cases h
 |some s =>
  rw[zcp] at h k ⊢;rw[zat h,zat k]
def L1 {α β γ:Type}{o:Option γ}{f}{g:γ->β}{a:α}{b}(h:o.map (λ s=>(f s,g s))=some (a,b)):o.map f=some a:=by
 cases o with
 |none=>cases h
 |some s=>exact congrArg some (congrArg zba (zat h))
def B7 {α β γ:Type}{o:Option γ}{f:γ->α}{g}{a}{b:β}(h:o.map (λ s=>(f s,g s))=some (a,b)):o.map g=some b:=by
 cases o with
 |none=>cases h
 |some s=>exact congrArg some (congrArg zc7 (zat h))
def tR {l:PySem.W.OpenLaw}{K:World->za0}{CX:World->TH}{sp:World->Sp}(hn:l.most=some n)(aF:n<=sizeLine)(ge:d.params.defaults=[])(hr:Bp k callerA)(hY:∀(w:World) (h:Heap),YP w h->(K w).In h)(F:∀(w:World) (mg:Str->Option Value) (fa:Addr) (h:Heap),(K w).In h->h.Ns mainGlobals mg->mg d.name=some (.ref fa)->∃fd:FuncData,(∀(s:Shared) (u:Value),BindsTo s fd ⟨[u],[]⟩ [(x,u)])/\
  ∀base:Heap,(K w).In base->base.Ns mainGlobals mg->D5 l.prog w (K w) mg base (CX w) k fa fd [x] (sp w))(bE:∀(w:World) (H:Hp) (a:Addr) (ns:List Int),(∀n∈ns,Sm n)->ns.length<=n->fJ H->Du (K w) H a (ns.map V.int)->sp w [.ref a] H (λ v _=>v=.bl true) λ _ _ _=>False)(jc:∀(w:World) (H:Hp) (s:Shared) (e:Value) (s':Shared),CX w [] H s (λ _ _ _=>False) e s'->False):PySem.W.WalkO q loose XP YP l.row.toRowW d [] (λ f vs=>PySem.call f vs):=by
 refine HT.OI hn ge λ w s₀ s₁ mg mb fa o pm cd doc a vs ns bq G Y ho hd aR gf cc be hlen hg=>?_;have KX:=hY w _ Y;obtain⟨fd,hb,hF⟩:=F w mg fa _ KX G.T.g gf;exact Rx KX G.T.g G.T.b G.T.builtins G.T.nolimit hg cc be (zbl hlen aF) hr hF hb (λ H hO hS=>bE w H a ns bq hlen hO hS) λ H e s'=>jc w H s₁ e s'
abbrev cst:Option (Int×Int)->D
 |none=>.AE
 |some p=>.tup [.int p.1,.int p.2]
abbrev Ao:Option (Int×Int)->Option (Int×Int)->Option (Int×Int)
 |some p,some q=>some (p.1+q.1,p.2+q.2)
 |_,_=>none
abbrev lG (p q:Int×Int):Int×Int:=if p.1<q.1\/(p.1=q.1/\p.2<=q.2) then p else q
abbrev DZ:Option (Int×Int)->Option (Int×Int)->Option (Int×Int)
 |none,b=>b
 |some p,none=>some p
 |some p,some q=>some (lG p q)
abbrev Fv (cs:List (Option (Int×Int))):Option (Int×Int):=cs.foldl DZ none
def Gu (cs:List (Option (Int×Int))):Bi (λ d ρ=>.ok (ρ.set 0 (some (.val d)))) (λ ρ=>(rv 0 ρ).bind λ x=>.ok (!C1 x)) (rv 0) (cs.map cst) [none]=.ok ((cs.filterMap id).map λ p=>cst (some p)):=by
 induction cs with
 |nil=>rfl
 |cons c r ih =>
  rw[za6,Bi];cases c with
  |none =>
   show Bi _ _ _ (r.map cst) [none]=_;rw[ih];rfl
  |some p =>
   show (match Bi _ _ _ (r.map cst) [none] with | .ok ys=>M.ok (cst (some p)::ys)|_=>.bad)=_;rw[ih];rfl
def Xm (ps:List (Int×Int)):Gj (ps.map λ p=>cst (some p))=some (ps.map λ p=>(cst (some p),[p.1,p.2])):=by
 induction ps with
 |nil=>rfl
 |cons p r ih=>rw[za6,Gj,ih];rfl
def ZO (cs:List (Option (Int×Int))):Bb ((cs.filterMap id).map λ p=>(cst (some p),[p.1,p.2]))=(Fv cs).map λ p=>(cst (some p),[p.1,p.2]):=by
 have key:∀(cs:List (Option (Int×Int))) (z:Option (Int×Int)),((cs.filterMap id).map λ p=>(cst (some p),[p.1,p.2])).foldl BK (z.map λ p=>(cst (some p),[p.1,p.2]))=(cs.foldl DZ z).map λ p=>(cst (some p),[p.1,p.2]):=by
  intro cs;induction cs with
  |nil=>intro z;rfl
  |cons c r ih =>
   intro z;cases c with
   |none =>
    rw[show List.filterMap id (none::r)=List.filterMap id r from rfl,zb9,ih z];cases z<;>rfl
   |some q =>
    rw[show List.filterMap id (some q::r)=q::List.filterMap id r from rfl,za6,zb9,zb9,<-ih (DZ z (some q))];congr 1;cases z with
    |none=>rfl
    |some p =>
     simp only[zcp,BK,HT.Ef,HT.Dp,DZ,lG];by_cases h1:q.1=p.1
     ·by_cases h2:q.2=p.2
      ·rw[if_pos (show p.1<q.1\/(p.1=q.1/\p.2<=q.2) by omega)];simp[h1,h2]
      ·by_cases h3:q.2<p.2
       ·rw[if_neg (show ¬ (p.1<q.1\/(p.1=q.1/\p.2<=q.2)) by omega)];simp[h1,h2,h3]
       ·rw[if_pos (show p.1<q.1\/(p.1=q.1/\p.2<=q.2) by omega)];simp[h1,h2,h3]
     ·by_cases h3:q.1<p.1
      ·rw[if_neg (show ¬ (p.1<q.1\/(p.1=q.1/\p.2<=q.2)) by omega)];simp[h1,h3]
      ·rw[if_pos (show p.1<q.1\/(p.1=q.1/\p.2<=q.2) by omega)];simp[h1,h3]
 exact key cs none
def VZ (cs:List (Option (Int×Int))):Vo (.lst ((cs.filterMap id).map λ p=>cst (some p))) .AE=.ok (cst (Fv cs)):=by
 simp only[Vo,Xm,ZO];cases Fv cs<;>rfl
def Sf (cs:List (Option (Int×Int))):IX (Bi (λ d ρ=>.ok (ρ.set 0 (some (.val d)))) (λ ρ=>(rv 0 ρ).bind λ x=>.ok (!C1 x)) (rv 0) (cs.map cst) [none])=.ok (.lst ((cs.filterMap id).map λ p=>cst (some p))):=by
 rw[Gu];rfl
noncomputable abbrev Co:=Option (Int×Int)
abbrev BL:Co->Co->Prop
 |_,none=>True
 |none,some _=>False
 |some p,some q=>p.1<q.1\/(p.1=q.1/\p.2<=q.2)
def Cc:∀a:Co,BL a a
 |none=>trivial
 |some p=>.inr ⟨rfl,Int.le_refl _⟩
def An:∀ {a b c:Co},BL a b->BL b c->BL a c
 |_,_,none,_,_=>trivial
 |none,none,some _,_,h|some _,none,some _,_,h|none,some _,some _,h,_=>h.elim
 |some p,some q,some r,h1,h2=>by simp only[BL] at *;omega
def MU:∀ {a b:Co},BL a b->BL b a->a=b
 |none,none,_,_=>rfl
 |none,some _,h,_|some _,none,_,h=>h.elim
 |some p,some q,h1,h2=>by
  obtain⟨p1,p2⟩:=p;obtain⟨q1,q2⟩:=q;simp only[BL] at h1 h2;have e1:p1=q1:=by omega
  have e2:p2=q2:=by omega
  rw[e1,e2]
def Bs:∀a b:Co,(DZ a b=a/\BL a b)\/(DZ a b=b/\BL b a/\a≠b)
 |none,none=>.inl ⟨rfl,trivial⟩
 |none,some q=>.inr ⟨rfl,trivial,λ h=>by cases h⟩
 |some p,none=>.inl ⟨rfl,trivial⟩
 |some p,some q=>by
  unfold DZ lG;by_cases h:p.1<q.1\/(p.1=q.1/\p.2<=q.2)
  ·dsimp only;rw[if_pos h];exact .inl ⟨rfl,h⟩
  ·dsimp only;rw[if_neg h];refine .inr ⟨rfl,?_,λ e=>?_⟩
   ·simp only[BL];omega
   ·cases e;exact h (.inr ⟨rfl,Int.le_refl _⟩)
def EJ (a b:Co):BL (DZ a b) a:=by
 rcases Bs a b with ⟨e,h⟩|⟨e,h,_⟩
 ·rw[e];exact Cc a
 ·rw[e];exact h
def EK (a b:Co):BL (DZ a b) b:=by
 rcases Bs a b with ⟨e,h⟩|⟨e,h,_⟩
 ·rw[e];exact h
 ·rw[e];exact Cc b
def Sg (cs:List Co):∀z:Co,BL (cs.foldl DZ z) z/\(∀x∈cs,BL (cs.foldl DZ z) x)/\(cs.foldl DZ z=z\/cs.foldl DZ z∈cs):=by
 induction cs with
 |nil=>intro z;exact⟨Cc z,(λ x h=>by cases h),.inl rfl⟩
 |cons c r ih =>
  intro z;obtain⟨h1,h2,h3⟩:=ih (DZ z c);rw[zb9];refine⟨An h1 (EJ z c),λ x hx=>?_,?_⟩
  ·rcases zab.mp hx with rfl|hx
   ·exact An h1 (EK z x)
   ·exact h2 x hx
  ·rcases h3 with h3|h3
   ·rw[h3];rcases Bs z c with ⟨e,_⟩|⟨e,_⟩
    ·exact .inl e
    ·rw[e];exact .inr za3
   ·exact .inr (za4 _ h3)
def M7 (h:x∈cs):BL (Fv cs) x:=(Sg cs none).2.1 x h
def JG (cs:List Co):Fv cs=none\/Fv cs∈cs:=(Sg cs none).2.2
def jF (h1:∀x∈cs,BL v x)(h2:v≠none->∃x∈cs,BL x v):Fv cs=v:=by
 refine MU ?_ ?_
 ·cases v with
  |none=>cases Fv cs<;>exact trivial
  |some p =>
   obtain⟨x,hx,hl⟩:=h2 (by intro z;cases z);exact An (M7 hx) hl
 ·rcases JG cs with h|h
  ·rw[h];cases v<;>exact trivial
  ·exact h1 _ h
def CO:∀a b:Co,Ao a b=Ao b a
 |none,none=>rfl
 |none,some _|some _,none=>rfl
 |some p,some q=>by simp only[Ao];rw[Int.add_comm,Int.add_comm p.2]
def Ci:∀ {a b:Co}(c:Co),BL a b->BL (Ao a c) (Ao b c)
 |_,none,c,_=>by cases c<;>exact trivial
 |none,some _,c,h=>h.elim
 |some p,some q,none,h=>trivial
 |some p,some q,some r,h=>by simp only[Ao,BL] at *;omega
abbrev NN:Co->Prop
 |none=>True
 |some p=>0<=p.1/\0<=p.2
def MV:∀ {a b:Co},NN a->NN b->NN (Ao a b)
 |none,none,_,_=>trivial
 |none,some _,_,_|some _,none,_,_=>trivial
 |some p,some q,h1,h2=>by simp only[Ao,NN] at *;omega
def ZP (h1:NN a)(h2:NN b):NN (DZ a b):=by
 rcases Bs a b with ⟨e,_⟩|⟨e,_⟩
 ·rw[e];exact h1
 ·rw[e];exact h2
abbrev ltN (a b:Co):Prop:=NN a/\BL a b/\a≠b
def Xn (a b c:Co)(h1:ltN a b)(h2:ltN b c):ltN a c:=
 ⟨h1.1,An h1.2.1 h2.2.1,λ e=>by subst e;exact h1.2.2 (MU h1.2.1 h2.2.1)⟩
abbrev rank:Co->Nat×Nat×Nat
 |none=>(1,0,0)
 |some p=>(0,p.1.toNat,p.2.toNat)
def oY:∀a:Co,NN a->Acc ltN a:=by
 have wf:WellFounded (InvImage (Prod.Lex (· < ·) (Prod.Lex (· < ·) (· < ·))) rank):=InvImage.wf rank (Prod.lex Nat.lt_wfRel (Prod.lex Nat.lt_wfRel Nat.lt_wfRel)).wf;intro a;induction a using wf.induction with
 |h a ih =>
  intro ha;refine .intro _ λ b ⟨hb,hl,ae⟩=>ih b ?_ hb;cases b with
  |none=>cases a with
   |none=>exact (ae rfl).elim
   |some p=>exact hl.elim
  |some q=>cases a with
   |none=>exact Prod.Lex.left _ _ (by decide)
   |some p =>
    obtain⟨p1,p2⟩:=p;obtain⟨q1,q2⟩:=q;simp only[BL,NN] at hl ha hb;show Prod.Lex _ _ (0,q1.toNat,q2.toNat) (0,p1.toNat,p2.toNat);refine Prod.Lex.right _ ?_;by_cases h:q1<p1
    ·exact Prod.Lex.left _ _ (by omega)
    ·have e:q1=p1:=by omega
     subst e;have h2:q2≠p2:=λ e=>ae (by rw[e]);exact Prod.Lex.right _ (by omega)
def jG (a:Co):Acc ltN a:=.intro _ λ b h=>oY b h.1
def Xo (cs:List Co):Acc (NO ltN) cs:=MG ltN jG cs.length cs rfl
structure Road where
 a:Int
 b:Int
 l:Option Int
 w:Int
abbrev Gv:Option Int->D
 |none=>.AE
 |some i=>.int i
abbrev Bl (r:Road):D:=.tup [.int r.a,.int r.b,Gv r.l,.int r.w]
abbrev Ap (m:Int)(rs:List Road):D:=.tup [.int m,.lst (rs.map Bl)]
abbrev Cd (r:Road):Co:=match r.l with | none=>none | some l=>some (l,1)
structure G6 (m:Nat)(r:Road):Prop where
 a0:0<=r.a
 a1:r.a<m
 b0:0<=r.b
 b1:r.b<m
 l0:∀l,r.l=some l->0<=l
def W0 (h:G6 m r):NN (Cd r):=by
 unfold Cd;split
 ·trivial
 ·rename_i l e;exact⟨h.l0 l e,by show (0:Int)<=1;decide⟩
abbrev atC (cs:List Co)(i:Int):Co:=cs.getD i.toNat none
def Ds (h0:0<=i)(h1:i<cs.length):cs[i.toNat]?=some (atC cs i):=by
 unfold atC;rw[zal,zaa (show i.toNat<cs.length by omega)];rfl
def set_same {α:Type}:∀ {l:List α}{i:Nat}{x:α},l[i]?=some x->l.set i x=l
 |[],_,_,h=>by cases h
 |y::r,0,x,h=>by cases h;rfl
 |y::r,i+1,x,h=>by rw[zac,set_same (by simpa using h)]
abbrev Dl (r:Road)(cs:List Co):List Co:=cs.set r.b.toNat (DZ (atC cs r.b) (Ao (atC cs r.a) (Cd r)))
def Hs (hi:0<=i)(hj:0<=j)(h1:i<cs.length):atC (cs.set i.toNat v) j=if j=i then v else atC cs j:=by
 unfold atC;rw[zal,zal];by_cases h:j=i
 ·subst h;rw[if_pos rfl,zb3 (by omega)];rfl
 ·rw[if_neg h,zbs (by omega)]
structure Good (m s:Nat)(rs:List Road)(cs:List Co):Prop where
 len:cs.length=m
 st:atC cs s=some (0,0)
 nn:∀c∈cs,NN c
 sup:∀p:Int,0<=p->p<m->p≠s->atC cs p≠none->∃r∈rs,r.b=p/\BL (Ao (atC cs r.a) (Cd r)) (atC cs p)
def Good.lH (g:Good m s rs cs){i:Int}(h0:0<=i)(h1:i<m):NN (atC cs i):=
 g.nn _ (zam (Ds h0 (by rw[g.len];exact h1)))
def Xp (g:Good m s rs cs)(hr:r∈rs)(Ar:∀r∈rs,G6 m r):
 Good m s rs (Dl r cs)/\(∀i:Int,0<=i->BL (atC (Dl r cs) i) (atC cs i))/\(DZ (atC cs r.b) (Ao (atC cs r.a) (Cd r))=atC cs r.b->Dl r cs=cs)/\
 (DZ (atC cs r.b) (Ao (atC cs r.a) (Cd r))≠atC cs r.b->NO ltN (Dl r cs) cs):=by
 have ok:=Ar r hr;have bO:r.b<cs.length:=by rw[g.len];exact ok.b1
 have hx:NN (Ao (atC cs r.a) (Cd r)):=MV (g.lH ok.a0 ok.a1) (W0 ok);have hv:NN (DZ (atC cs r.b) (Ao (atC cs r.a) (Cd r))):=ZP (g.lH ok.b0 ok.b1) hx;have aW:∀i:Int,0<=i->atC (Dl r cs) i=if i=r.b then DZ (atC cs r.b) (Ao (atC cs r.a) (Cd r)) else atC cs i:=λ i hi=>Hs ok.b0 hi bO
 have le:∀i:Int,0<=i->BL (atC (Dl r cs) i) (atC cs i):=λ i hi=>by
  rw[aW i hi];by_cases h:i=r.b
  ·rw[if_pos h,h];exact EJ _ _
  ·rw[if_neg h];exact Cc _
 refine⟨⟨by unfold Dl;rw[zbr];exact g.len,?_,λ c hc=>?_,λ p h0 h1 hp hn=>?_⟩,le,λ h=>?_,λ h=>?_⟩
 ·rw[aW s (by omega)];by_cases h:(s:Int)=r.b
  ·rw[if_pos h,<-h,g.st];cases q:Ao (atC cs r.a) (Cd r) with
   |none=>rfl
   |some x =>
    rw[q] at hx;unfold DZ lG;dsimp only;rw[if_pos (by simp only[NN] at hx;omega)]
  ·rw[if_neg h];exact g.st
 ·unfold Dl at hc;rcases zdr hc with h|h
  ·exact g.nn c h
  ·rw[h];exact hv
 ·rw[aW p h0] at hn ⊢;by_cases h:p=r.b
  ·rw[if_pos h] at hn ⊢;rcases Bs (atC cs r.b) (Ao (atC cs r.a) (Cd r)) with ⟨e,_⟩|⟨e,_⟩
   ·rw[e] at hn ⊢;subst h;obtain⟨r',h2,h3,h4⟩:=g.sup r.b h0 h1 hp hn;exact⟨r',h2,h3,An (Ci _ (le r'.a (Ar r' h2).a0)) h4⟩
   ·rw[e];exact⟨r,hr,h.symm,Ci _ (le r.a ok.a0)⟩
  ·rw[if_neg h] at hn ⊢;obtain⟨r',h2,h3,h4⟩:=g.sup p h0 h1 hp hn;exact⟨r',h2,h3,An (Ci _ (le r'.a (Ar r' h2).a0)) h4⟩
 ·unfold Dl;rw[h];exact set_same (Ds ok.b0 bO)
 ·unfold Dl;exact Vs ltN (Ds ok.b0 bO) ⟨hv,EJ _ _,h⟩
abbrev Right (m s:Nat)(rs:List Road)(cs:List Co):Prop:=
 cs.length=m/\atC cs s=some (0,0)/\(∀c∈cs,NN c)/\∀p:Int,0<=p->p<m->p≠s->atC cs p=Fv ((rs.filter λ r=>decide (r.b=p)).map λ r=>Ao (Cd r) (atC cs r.a))
def right_of (g:Good m s rs cs)(h:∀r∈rs,DZ (atC cs r.b) (Ao (atC cs r.a) (Cd r))=atC cs r.b):Right m s rs cs:=by
 refine⟨g.len,g.st,g.nn,λ p h0 h1 hp=>?_⟩;symm;refine jF (λ x hx=>?_) λ hn=>?_
 ·obtain⟨r,hr,rfl⟩:=zau.mp hx;obtain⟨h2,h3⟩:=zbp.mp hr;have e:r.b=p:=by simpa using h3
  have:=EK (atC cs r.b) (Ao (atC cs r.a) (Cd r));rw[h r h2,e] at this;rw[CO];exact this
 ·obtain⟨r,h2,h3,h4⟩:=g.sup p h0 h1 hp hn;refine⟨_,zau.mpr ⟨r,zbp.mpr ⟨h2,by simpa using h3⟩,rfl⟩,?_⟩;rw[CO];exact h4
def MW (rs:List Road)(h:s<m):Good m s rs ((zai m none).set s (some (0,0))):=by
 have hl:(zai m (none:Co)).length=m:=zdj;have aW:∀i:Int,0<=i->atC ((zai m none).set s (some (0,0))) i=if i=s then some (0,0) else none:=λ i hi=>by
  have:=Hs (cs:=zai m none) (i:=(s:Int)) (j:=i) (v:=some (0,0)) (by omega) hi (by rw[hl];omega);rw[zb4] at this;rw[this];by_cases h:i=s
  ·rw[if_pos h,if_pos h]
  ·rw[if_neg h,if_neg h];unfold atC;rw[zal,zcl];split<;>rfl
 refine⟨by rw[zbr,hl],?_,λ c hc=>?_,λ p h0 h1 hp hn=>?_⟩
 ·rw[aW s (by omega),if_pos rfl]
 ·rcases zdr hc with h|h
  ·rw[List.eq_of_mem_replicate h];trivial
  ·rw[h];exact⟨Int.le_refl _,Int.le_refl _⟩
 ·rw[aW p h0,if_neg hp] at hn;exact (hn rfl).elim
def oZ {α:Type}{l:List α}{n:Int}(h:0<=n/\n<l.length):Ru l n=l[n.toNat]? :=by
 unfold Ru Ov;obtain⟨h1,h2⟩:=h;simp[h1,h2]
def M8 {n:Nat}{j:Int}(h:0<=j/\j<n):Ov n j=some j.toNat:=by
 unfold Ov;obtain⟨h1,h2⟩:=h;simp[h1,h2]
def JH {α:Type}{f}{l:List α}{x}(h0:0<=n)(h:l[n.toNat]?=some x):fY (.lst (l.map f)) (.int n)=.ok (f x):=by
 have h1:=(zak.mp h).1;unfold fY;dsimp only;rw[oZ (by rw[za2];omega),zan,h];rfl
def Ce (h0:0<=i)(h1:i<cs.length):fY (.lst (cs.map cst)) (.int i)=.ok (cst (atC cs i)):=JH h0 (Ds h0 h1)
def Qj (c:Co):Pl (n+1) (cst c):=by
 cases c with
 |none=>exact oB
 |some p=>exact U4 (GY (ET _) (GY (ET _) oC))
def W2 (a b:Co):Bk (cst a) (cst b)=decide (a=b):=by
 rcases a with _|⟨a1,a2⟩<;>rcases b with _|⟨b1,b2⟩
 ·simp[cst,Bk]
 ·simp[cst,Bk]
 ·simp[cst,Bk]
 ·rw[zd5];simp[cst,Bk,Cr]
def jH (a b:Co):YU 16 (cst a) (cst b)=.ok (.bl (!decide (a=b))):=by rw[U5 (Qj (n:=15) a) (Qj (n:=15) b),W2]
def jI (a b:Co):eF 16 (cst a) (cst b)=.ok (.bl (decide (a=b))):=by rw[Q8 (Qj (n:=15) a) (Qj (n:=15) b),W2]
def W3 (c:Co):J0 (cst c)=true:=by
 cases c<;>simp[cst,J0,J1]
def Qk (c:Co):dp (.ok (cst c))=.ok (cst c):=by
 unfold dp;rw[M.A8,if_pos (W3 c)]
def Az (h:0<b):CP (.int a) (.int b)=.ok (.int (a%b)):=by
 unfold CP By;dsimp only;rw[if_pos h]
def BZ (h:Yp a b):F5 (.int a) (.int b)=.ok (.int (a / b)):=by
 unfold F5 By;dsimp only;rw[if_pos h]
inductive Wk (rs:List Road):Int->Int->Int×Int->Prop
 |nil (u:Int):Wk rs u u (0,0)
 |cons {r:Road} {l:Int} {w:Int} {c:Int×Int}:r∈rs->r.l=some l->Wk rs r.b w c->Wk rs r.a w (l+c.1,1+c.2)
def Wk.trans (h:Wk rs u v c)(k:Wk rs v w d):Wk rs u w (c.1+d.1,c.2+d.2):=by
 induction h with
 |nil u=>simpa using k
 |cons hr hl _ ih =>
  have:=Wk.cons hr hl (ih k);simpa [zdo] using this
def Wk.one (hr:r∈rs)(hl:r.l=some l):Wk rs r.a r.b (l,1):=by
 have:=Wk.cons hr hl (Wk.nil (rs:=rs) r.b);simpa using this
abbrev BM (rs:List Road)(u w:Int)(x:Co):Prop:=(∀c,Wk rs u w c->BL x (some c))/\∀p,x=some p->Wk rs u w p
def BM.Cs (h:BM rs u w x)(k:BM rs u w y):x=y:=by
 refine MU ?_ ?_
 ·cases y with
  |none=>cases x<;>exact trivial
  |some q=>exact h.1 q (k.2 q rfl)
 ·cases x with
  |none=>cases y<;>exact trivial
  |some q=>exact k.1 q (h.2 q rfl)
def JI (h:Cd r=some c):∃l,r.l=some l/\c=(l,1):=by
 unfold Cd at h;split at h
 ·cases h
 ·rename_i l e;cases h;exact⟨l,e,rfl⟩
def Fb (h:Ao a b=some c):∃p q,a=some p/\b=some q/\c=(p.1+q.1,p.2+q.2):=by
 cases a with
 |none=>cases h
 |some p=>cases b with
  |none=>cases h
  |some q=>cases h;exact⟨p,q,rfl,rfl,rfl⟩
def Right.min_le (h:Right m s rs cs)(hr:r∈rs)(Ar:G6 m r):BL (atC cs r.b) (Ao (Cd r) (atC cs r.a)):=by
 obtain⟨h1,h2,h3,h4⟩:=h;by_cases hs:r.b=s
 ·rw[hs,h2];have hn:NN (Ao (Cd r) (atC cs r.a)):=MV (W0 Ar) (h3 _ (zam (Ds Ar.a0 (by rw[h1];exact Ar.a1))));cases q:Ao (Cd r) (atC cs r.a) with
  |none=>exact trivial
  |some p=>rw[q] at hn;simp only[NN] at hn;simp only[BL];omega
 ·rw[h4 r.b Ar.b0 Ar.b1 hs];exact M7 (zau.mpr ⟨r,zbp.mpr ⟨hr,by simp⟩,rfl⟩)
def Xq (h:Right m s rs cs)(Ar:∀r∈rs,G6 m r)(k:Wk rs u w c):BL (atC cs w) (Ao (atC cs u) (some c)):=by
 induction k with
 |nil u =>
  cases atC cs u with
  |none=>exact trivial
  |some p=>simp only[Ao,BL];omega
 | @cons r l w c hr hl _ ih =>
  refine An ih ?_;have h1:=h.min_le hr (Ar r hr);have e:Cd r=some (l,1):=by unfold Cd;rw[hl]
  rw[e] at h1;cases q:atC cs r.a with
  |none=>exact trivial
  |some p =>
   rw[q] at h1;cases q2:atC cs r.b with
   |none=>rw[q2] at h1;exact h1.elim
   |some p2=>rw[q2] at h1;simp only[Ao,BL] at *;omega
def Xr {m s:Nat}{rs:List Road}{cs:List Co}(h:Right m s rs cs)(Ar:∀r∈rs,G6 m r):∀(n:Nat) (w:Int) (p:Int×Int),0<=w->w<m->atC cs w=some p->p.2.toNat=n->Wk rs s w p:=by
 obtain⟨h1,h2,h3,h4⟩:=h;intro n;induction n with
 |zero =>
  intro w p h0 hw hp hn;by_cases hs:w=s
  ·rw[hs,h2] at hp;cases hp;rw[hs];exact .nil _
  ·exfalso;have e:=h4 w h0 hw hs;rw[hp] at e;rcases JG ((rs.filter λ r=>decide (r.b=w)).map λ r=>Ao (Cd r) (atC cs r.a)) with z|z
   ·rw[z] at e;cases e
   ·rw[<-e] at z;obtain⟨r,hr,e2⟩:=zau.mp z;have cp:=(zbp.mp hr).1;obtain⟨p1,p2,e3,e4,e5⟩:=Fb e2;obtain⟨l,hl,rfl⟩:=JI e3;have ok:=Ar r cp;have nn:=h3 _ (zam (Ds ok.a0 (by rw[h1];exact ok.a1)));rw[e4] at nn;simp only[NN] at nn;rw[e5] at hn;simp only at hn;omega
 |succ n ih =>
  intro w p h0 hw hp hn;by_cases hs:w=s
  ·rw[hs,h2] at hp;cases hp;rw[hs];exact .nil _
  ·have e:=h4 w h0 hw hs;rw[hp] at e;rcases JG ((rs.filter λ r=>decide (r.b=w)).map λ r=>Ao (Cd r) (atC cs r.a)) with z|z
   ·rw[z] at e;cases e
   ·rw[<-e] at z;obtain⟨r,hr,e2⟩:=zau.mp z;obtain⟨cp,qh⟩:=zbp.mp hr;have qh:r.b=w:=by simpa using qh
    obtain⟨p1,p2,e3,e4,e5⟩:=Fb e2;obtain⟨l,hl,rfl⟩:=JI e3;have ok:=Ar r cp;have nn:=h3 _ (zam (Ds ok.a0 (by rw[h1];exact ok.a1)));rw[e4] at nn;simp only[NN] at nn;subst e5;simp only at hn;have w1:=ih r.a p2 ok.a0 ok.a1 e4 (by omega);have w2:=w1.trans (Wk.one cp hl);rw[qh] at w2;have e6:((l+p2.1,1+p2.2):Int×Int)=(p2.1+l,p2.2+1):=by rw[Int.add_comm l,Int.add_comm 1]
    show Wk rs s w (l+p2.1,1+p2.2);rw[e6];exact w2
def Right.lI (h:Right m s rs cs)(Ar:∀r∈rs,G6 m r){w:Int}(h0:0<=w)(hw:w<m):BM rs s w (atC cs w):=by
 refine⟨λ c k=>?_,λ p hp=>Xr h Ar _ w p h0 hw hp rfl⟩;have:=Xq h Ar k;rw[h.2.1] at this;have e:Ao (some (0,0)) (some c)=some c:=by simp[Ao]
 rw[e] at this;exact this
def Ue (h:BL a b)(k:BL c d):BL (Ao a c) (Ao b d):=by
 refine An (Ci c h) ?_;rw[CO b c,CO b d];exact Ci b k
def El:∀a b c:Co,Ao (Ao a b) c=Ao a (Ao b c)
 |none,b,c=>by cases b<;>cases c<;>rfl
 |some p,none,c=>by cases c<;>rfl
 |some p,some q,none=>rfl
 |some p,some q,some r=>by simp only[Ao];rw[zdo,zdo]
def OZ:∀a:Co,Ao a (some (0,0))=a
 |none=>rfl
 |some p=>by simp[Ao]
def Xs (a:Co):Ao (some (0,0)) a=a:=by rw[CO];exact OZ a
def Sh (a:Co):DZ a a=a:=by rcases Bs a a with ⟨e,_⟩ | ⟨e,_⟩<;>exact e
def ZQ (h:NN b):BL a (Ao a b):=by
 cases a with
 |none=>exact trivial
 |some p=>cases b with
  |none=>exact trivial
  |some q=>simp only[NN] at h;simp only[Ao,BL];omega
structure FW (m k:Nat)(rs:List Road)(A:Int->Int->Co):Prop where
 dg:∀x:Int,0<=x->x<m->A x x=some (0,0)
 nn:∀x y:Int,0<=x->x<m->0<=y->y<m->NN (A x y)
 sd:∀x y:Int,0<=x->x<m->0<=y->y<m->∀p,A x y=some p->Wk rs x y p
 ed:∀r∈rs,BL (A r.a r.b) (Cd r)
 tr:∀v x y:Int,0<=v->v<k->0<=x->x<m->0<=y->y<m->BL (A x y) (Ao (A x v) (A v y))
abbrev over (k:Int)(A:Int->Int->Co):Int->Int->Co:=λ x y=>DZ (A x y) (Ao (A x k) (A k y))
def Si (F:FW m k rs A)(hk:k<m)(x:Int):over k A x k=A x k:=by
 unfold over;rw[F.dg k (by omega) (by omega),OZ,Sh]
def Sj (F:FW m k rs A)(hk:k<m)(y:Int):over k A k y=A k y:=by
 unfold over;rw[F.dg k (by omega) (by omega),Xs,Sh]
def ZR (F:FW m k rs A)(hk:k<m):FW m (k+1) rs (over k A):=by
 have k0:(0:Int)<=k:=by omega
 have k1:(k:Int)<m:=by omega
 refine⟨λ x h0 h1=>?_,λ x y h0 h1 h2 h3=>ZP (F.nn x y h0 h1 h2 h3) (MV (F.nn x k h0 h1 k0 k1) (F.nn k y k0 k1 h2 h3)),λ x y h0 h1 h2 h3 p hp=>?_,λ r hr=>An (EJ _ _) (F.ed r hr),λ v x y v0 v1 h0 h1 h2 h3=>?_⟩
 ·unfold over;rw[F.dg x h0 h1];have hn:NN (Ao (A x k) (A k x)):=MV (F.nn x k h0 h1 k0 k1) (F.nn k x k0 k1 h0 h1);cases q:Ao (A x k) (A k x) with
  |none=>rfl
  |some z =>
   rw[q] at hn;simp only[NN] at hn;unfold DZ lG;dsimp only;rw[if_pos (by omega)]
 ·unfold over at hp;rcases Bs (A x y) (Ao (A x k) (A k y)) with ⟨e,_⟩|⟨e,_⟩
  ·rw[e] at hp;exact F.sd x y h0 h1 h2 h3 p hp
  ·rw[e] at hp;obtain⟨p1,p2,e1,e2,rfl⟩:=Fb hp;exact (F.sd x k h0 h1 k0 k1 p1 e1).trans (F.sd k y k0 k1 h2 h3 p2 e2)
 ·by_cases hv:v=k
  ·subst hv;rw[Si F hk,Sj F hk];exact EK _ _
  ·have vk:v<k:=by omega
   have vm:v<m:=by omega
   have xc:=F.tr v x y v0 vk h0 h1 h2 h3;have xf:=F.tr v k y v0 vk k0 k1 h2 h3;have xg:=F.tr v x k v0 vk h0 h1 k0 k1;have g1:BL (over k A x y) (A x y):=EJ _ _;have g2:BL (over k A x y) (Ao (A x k) (A k y)):=EK _ _;have xh:=F.nn k v k0 k1 v0 vm;have xi:=F.nn v k v0 vm k0 k1;have e1:over k A x v=DZ (A x v) (Ao (A x k) (A k v)):=rfl;have e2:over k A v y=DZ (A v y) (Ao (A v k) (A k y)):=rfl;rw[e1,e2];rcases Bs (A x v) (Ao (A x k) (A k v)) with ⟨e,_⟩|⟨e,_⟩<;>rcases Bs (A v y) (Ao (A v k) (A k y)) with ⟨e',_⟩|⟨e',_⟩<;>rw[e,e']
   ·exact An g1 xc
   ·refine An g2 ?_;rw[<-El];exact Ci _ xg
   ·refine An g2 ?_;rw[El,CO (A x k),CO (A x k)];exact Ci _ xf
   ·refine An g2 ?_;have e3:Ao (Ao (A x k) (A k v)) (Ao (A v k) (A k y))=Ao (Ao (A x k) (A k y)) (Ao (A k v) (A v k)):=by
     rw[El,El,<-El (A k v),CO (Ao (A k v) (A v k))]
    rw[e3];exact ZQ (MV xh xi)
def pA (F:FW m m rs A)(Ar:∀r∈rs,G6 m r){x y:Int}(h0:0<=x)(h1:x<m)(h2:0<=y)(h3:y<m):BM rs x y (A x y):=by
 refine⟨λ c k=>?_,F.sd x y h0 h1 h2 h3⟩;induction k with
 |nil u=>rw[F.dg u h0 h1];exact Cc _
 | @cons r l w c hr hl k' ih =>
  have ok:=Ar r hr;have i1:=ih ok.b0 ok.b1 h2 h3;have t:=F.tr r.b r.a w ok.b0 (by have:=ok.b1;omega) h0 h1 h2 h3;have e:=F.ed r hr;have e':Cd r=some (l,1):=by unfold Cd;rw[hl]
  rw[e'] at e;refine An t (An (Ue e i1) ?_);exact Cc _
structure MX (m:Nat)(rs:List Road)(u:Int)(n:Nat)(R:List Co):Prop where
 len:R.length=m
 st:atC R u=some (0,0)
 nn:∀c∈R,NN c
 sd:∀y:Int,0<=y->y<m->∀p,atC R y=some p->Wk rs u y p
 ed:∀r∈rs.take n,r.a=u->BL (atC R r.b) (Cd r)
def Xu (rs:List Road)(h:u<m):MX m rs u 0 ((zai m none).set u (some (0,0))):=by
 have g:=MW (m:=m) (s:=u) rs h;refine⟨g.len,g.st,g.nn,λ y h0 h1 p hp=>?_,λ r hr=>by rw[List.take_zero] at hr;cases hr⟩;by_cases hy:y=u
 ·rw[hy,g.st] at hp;cases hp;rw[hy];exact .nil _
 ·have:=Hs (cs:=zai m none) (i:=(u:Int)) (j:=y) (v:=some (0,0)) (by omega) h0 (by rw[zdj];omega);rw[zb4,if_neg hy] at this;rw[this] at hp;unfold atC at hp;rw[zal,zcl] at hp;split at hp<;>cases hp
def ZS (g:MX m rs u n R)(hr:rs[n]?=some r)(hu:r.a≠u):MX m rs u (n+1) R:=
 ⟨g.len,g.st,g.nn,g.sd,λ r' bg aj=>by
  rw[zc4,hr] at bg;rcases zaq.mp bg with h|h
  ·exact g.ed r' h aj
  ·have:r'=r:=by simpa using h
   rw[this] at aj;exact (hu aj).elim⟩
def ZT (g:MX m rs u n R)(hr:rs[n]?=some r)(hu:r.a=u)(Ar:∀r∈rs,G6 m r):MX m rs u (n+1) (R.set r.b.toNat (DZ (atC R r.b) (Cd r))):=by
 have hm:=zam hr;have ok:=Ar r hm;have bO:r.b<R.length:=by rw[g.len];exact ok.b1
 have aW:∀i:Int,0<=i->atC (R.set r.b.toNat (DZ (atC R r.b) (Cd r))) i=if i=r.b then DZ (atC R r.b) (Cd r) else atC R i:=λ i hi=>Hs ok.b0 hi bO
 have nb:NN (atC R r.b):=g.nn _ (zam (Ds ok.b0 bO));refine⟨by rw[zbr];exact g.len,?_,λ c hc=>?_,λ y h0 h1 p hp=>?_,λ r' bg aj=>?_⟩
 ·rw[aW u (by rw[<-hu];exact ok.a0)];by_cases h:u=r.b
  ·rw[if_pos h,<-h,g.st];have hx:=W0 ok;cases q:Cd r with
   |none=>rfl
   |some z =>
    rw[q] at hx;simp only[NN] at hx;unfold DZ lG;dsimp only;rw[if_pos (by omega)]
  ·rw[if_neg h];exact g.st
 ·rcases zdr hc with h|h
  ·exact g.nn c h
  ·rw[h];exact ZP nb (W0 ok)
 ·rw[aW y h0] at hp;by_cases h:y=r.b
  ·rw[if_pos h] at hp;rcases Bs (atC R r.b) (Cd r) with ⟨e,_⟩|⟨e,_⟩
   ·rw[e] at hp;rw[h];exact g.sd r.b ok.b0 ok.b1 p hp
   ·rw[e] at hp;obtain⟨l,hl,rfl⟩:=JI hp;rw[h,<-hu];exact Wk.one hm hl
  ·rw[if_neg h] at hp;exact g.sd y h0 h1 p hp
 ·have qi:r'∈rs:=zbw bg;rw[aW r'.b (Ar r' qi).b0];rw[zc4,hr] at bg;rcases zaq.mp bg with h|h
  ·by_cases hb:r'.b=r.b
   ·rw[if_pos hb];have:=g.ed r' h aj;rw[hb] at this;exact An (EJ _ _) this
   ·rw[if_neg hb];exact g.ed r' h aj
  ·have e:r'=r:=by simpa using h
   rw[e,if_pos rfl];exact EK _ _
abbrev at2 (ac:List (List Co))(x y:Int):Co:=atC (ac.getD x.toNat []) y
abbrev AR (ac:List (List Co)):List (List D):=ac.map λ R=>R.map cst
structure Ql (m:Nat)(ac:List (List Co)):Prop where
 len:ac.length=m
 row:∀R∈ac,R.length=m
def Ql.get (h:Ql m ac){x:Int}(h0:0<=x)(h1:x<m):ac[x.toNat]?=some (ac.getD x.toNat [])/\(ac.getD x.toNat []).length=m:=by
 have hl:x.toNat<ac.length:=by rw[h.len];omega
 have e:ac[x.toNat]?=some (ac.getD x.toNat []):=by rw[zal,zaa hl];rfl
 exact⟨e,h.row _ (zam e)⟩
abbrev put2 (ac:List (List Co))(x y:Int)(v:Co):List (List Co):=ac.set x.toNat ((ac.getD x.toNat []).set y.toNat v)
def Ql.put (h:Ql m ac){x y:Int}(h0:0<=x)(h1:x<m)(h2:0<=y)(h3:y<m)(v:Co):Ql m (put2 ac x y v)/\∀x' y':Int,0<=x'->0<=y'->at2 (put2 ac x y v) x' y'=if x'=x/\y'=y then v else at2 ac x' y':=by
 obtain⟨e,hl⟩:=h.get h0 h1;refine⟨⟨by unfold put2;rw[zbr];exact h.len,λ R hR=>?_⟩,λ x' y' hx hy=>?_⟩
 ·unfold put2 at hR;rcases zdr hR with z|z
  ·exact h.row R z
  ·rw[z,zbr];exact hl
 ·unfold at2 put2;by_cases uo:x'=x
  ·subst uo;have e2:(ac.set x'.toNat ((ac.getD x'.toNat []).set y.toNat v)).getD x'.toNat []=(ac.getD x'.toNat []).set y.toNat v:=by
    rw[zal (l:=ac.set _ _),zb3 (by rw[h.len];omega)];rfl
   rw[e2,Hs h2 hy (by rw[hl];exact h3)];by_cases me:y'=y
   ·rw[if_pos me,if_pos ⟨rfl,me⟩]
   ·rw[if_neg me,if_neg (λ z=>me z.2)]
  ·have e2:(ac.set x.toNat ((ac.getD x.toNat []).set y.toNat v)).getD x'.toNat []=ac.getD x'.toNat []:=by
    rw[zal,zbs (by omega),zal]
   rw[e2,if_neg (λ z=>uo z.1)]
def Sk (h:Ql m ac){x:Int}(h0:0<=x)(h1:x<m):rowAt (AR ac) (.int x)=.ok ((ac.getD x.toNat []).map cst):=by
 obtain⟨e,hl⟩:=h.get h0 h1;have e1:Ov (AR ac).length x=some x.toNat:=M8 ⟨h0,by unfold AR;rw[za2,h.len];exact h1⟩;have e2:(AR ac)[x.toNat]?=some ((ac.getD x.toNat []).map cst):=by unfold AR;rw[zan,e];rfl
 unfold rowAt;simp only[e1,e2]
def jJ (h:Ql m ac){x y:Int}(h0:0<=x)(h1:x<m)(h2:0<=y)(h3:y<m):fY (.lst ((ac.getD x.toNat []).map cst)) (.int y)=.ok (cst (at2 ac x y)):=
 Ce h2 (by rw[(h.get h0 h1).2];exact h3)
def jK (h:Ql m ac){x y:Int}(h0:0<=x)(h1:x<m)(h2:0<=y)(h3:y<m)(i:Nat)(ρ:Ac)(v:Co):gR i ρ (AR ac) (cst v) (.int x) ((ac.getD x.toNat []).map cst) (.int y)=.ok (.next (ρ.set i (some (.ow (.rows (AR (put2 ac x y v))))))):=by
 have e1:Ov (AR ac).length x=some x.toNat:=M8 ⟨h0,by unfold AR;rw[za2,h.len];exact h1⟩;have e2:Ov ((ac.getD x.toNat []).map cst).length y=some y.toNat:=M8 ⟨h2,by rw[za2,(h.get h0 h1).2];exact h3⟩;unfold gR;simp only[e1,e2];unfold AR put2;rw[List.map_set,List.map_set]
def FW.congr (F:FW m k rs A)(hk:k<=m)(Ar:∀r∈rs,G6 m r)(h:∀x y:Int,0<=x->x<m->0<=y->y<m->B x y=A x y):FW m k rs B:=by
 refine⟨λ x h0 h1=>?_,λ x y h0 h1 h2 h3=>?_,λ x y h0 h1 h2 h3 p hp=>?_,λ r hr=>?_,λ v x y v0 v1 h0 h1 h2 h3=>?_⟩
 ·rw[h x x h0 h1 h0 h1];exact F.dg x h0 h1
 ·rw[h x y h0 h1 h2 h3];exact F.nn x y h0 h1 h2 h3
 ·rw[h x y h0 h1 h2 h3] at hp;exact F.sd x y h0 h1 h2 h3 p hp
 ·have ok:=Ar r hr;rw[h r.a r.b ok.a0 ok.a1 ok.b0 ok.b1];exact F.ed r hr
 ·rw[h x y h0 h1 h2 h3,h x v h0 h1 v0 (by omega),h v y v0 (by omega) h2 h3];exact F.tr v x y v0 v1 h0 h1 h2 h3
def ZU (hM:Ql m ac)(Ar:∀r∈rs,G6 m r)(h:∀u:Nat,u<m->MX m rs u rs.length (ac.getD u [])):FW m 0 rs (at2 ac):=by
 have key:∀x:Int,0<=x->x<m->MX m rs x rs.length (ac.getD x.toNat []):=λ x h0 h1=>by
  have:=h x.toNat (by omega);rw[Int.toNat_of_nonneg h0] at this;exact this
 refine⟨λ x h0 h1=>(key x h0 h1).st,λ x y h0 h1 h2 h3=>(key x h0 h1).nn _ (zam (Ds h2 (by rw[(key x h0 h1).len];exact h3))),λ x y h0 h1 h2 h3 p hp=>(key x h0 h1).sd y h2 h3 p hp,λ r hr=>?_,λ v x y v0 v1=>by omega⟩;have ok:=Ar r hr;exact (key r.a ok.a0 ok.a1).ed r (by rw[zc1];exact hr) rfl
abbrev hit (rs:List Road)(cs:List Co)(p:Nat)(k:Nat):Bool:=match rs[k]? with
 |some r=>decide (r.b=(p:Int))&&decide (Ao (atC cs r.a) (Cd r)≠none)&&decide (Ao (atC cs r.a) (Cd r)=atC cs (p:Int))
 |none=>false
def Wk.nn (Ar:∀r∈rs,G6 m r)(h:Wk rs u w c):0<=c.1/\0<=c.2:=by
 induction h with
 |nil=>exact⟨Int.le_refl _,Int.le_refl _⟩
 |cons hr hl _ ih =>
  have:=(Ar _ hr).l0 _ hl;simp only;omega
abbrev pD (p:Int×Int):D:=.tup [.int p.1,.int p.2]
def Gw (p q:Int×Int):Bk (pD p) (pD q)=decide (p=q):=by
 obtain⟨a,b⟩:=p;obtain⟨c,d⟩:=q;unfold pD;simp only[Bk,Cr,Bool.and_true];rw[zd5];simp
def Gx (p:Int×Int):keyOk true (pD p)=true:=rfl
def W4 (B:List (Int×Int))(p:Int×Int):Lr (B.map pD) (pD p)=decide (p∈B):=by
 unfold Lr;rw[List.any_map,zd5];simp only[List.any_eq_true,Function.comp,Gw,decide_eq_true_eq];constructor
 ·rintro ⟨x,hx,rfl⟩;exact hx
 ·intro h;exact⟨p,h,rfl⟩
def Qm (B:List (Int×Int))(vs:List D)(neg:Bool)(a b:Int):J7 neg (.tup [.int a,.int b]) (.Bm true (B.map pD) vs)=.ok (.bl (if neg=true then !decide ((a,b)∈B) else decide ((a,b)∈B))):=by
 unfold J7;dsimp only;have h1:keyOk true (D.tup [D.int a,D.int b])=true:=rfl;have h2:Lr (B.map pD) (D.tup [D.int a,D.int b])=decide ((a,b)∈B):=W4 B (a,b);rw[if_pos h1,h2]
abbrev Ku (B:List (Int×Int))(p:Int×Int):List (Int×Int):=if p∈B then B else B++[p]
abbrev D9 {α:Type}(B:List α):List D:=B.map λ _=>.bl true
def P5 {α:Type}(f:α->D)(y:D):∀B:List α,Ig (B.map f) (D9 B) y (.bl true)=D9 B
 |[]=>rfl
 |b::r=>by
  show Ig (f b::r.map f) (.bl true::D9 r) y (.bl true)=.bl true::D9 r;rw[Ig,P5 f y r];split<;>rfl
def W5 (B:List (Int×Int))(p:Int×Int):putD (B.map pD) (D9 B) (pD p) (.bl true)=((Ku B p).map pD,D9 (Ku B p)):=by
 unfold putD Ku;rw[W4];by_cases h:p∈B
 ·rw[decide_eq_true h,if_pos rfl,if_pos h,P5]
 ·rw[decide_eq_false h,if_neg (by simp),if_neg h];unfold D9;simp
def Sl:q∈Ku B p↔q∈B\/q=p:=by
 unfold Ku;split
 ·constructor
  ·exact .inl
  ·rintro (h|rfl)
   ·exact h
   ·assumption
 ·simp
def Ug (h:B.Nodup):(Ku B p).Nodup:=by
 unfold Ku;split
 ·exact h
 ·rename_i hn;exact zax.mpr ⟨h,by simp,λ a ha b hb z=>by simp at hb;subst hb;subst z;exact hn ha⟩
def Ht {α:Type}[DecidableEq α]:∀ {l u:List α},l.Nodup->(∀x∈l,x∈u)->l.length<=u.length
 |[],_,_,_=>zb0 _
 |x::r,u,nd,h=>by
  have bf:=zbg.mp nd;have hx:=h x za3;have ih:=Ht (l:=r) (u:=u.erase x) bf.2 λ y hy=>(List.mem_erase_of_ne (λ z=>bf.1 (by rw[<-z];exact hy))).mpr (h y (za4 _ hy));have e:=List.length_erase_of_mem hx;have:0<u.length:=List.length_pos_of_mem hx;rw[za9];omega
def ZV (p:Int×Int):J0 (pD p)=true:=by simp[pD,J0,J1]
abbrev AI (m:Nat):List Int:=(zb1 m).map λ i:Nat=>(i:Int)
def MY (m:Nat):((zb1 m).map λ i:Nat=>D.int (i:Int))=(AI m).map D.int:=by unfold AI;rw[zbq];rfl
def BV (m:Nat):(AI m).length=m:=by unfold AI;simp
def CY:p∈AI m↔0<=p/\p<m:=by
 unfold AI;constructor
 ·intro h;obtain⟨i,hi,rfl⟩:=zau.mp h;have:=zcy.mp hi;omega
 ·rintro ⟨h0,h1⟩;exact zau.mpr ⟨p.toNat,zcy.mpr (by omega),by omega⟩
abbrev B8 (B:List (Int×Int))(L:List Int)(v:Int):List (Int×Int):=(L.filter λ u=>decide ((u,v)∈B)).flatMap λ u=>((L.filter λ w=>decide ((v,w)∈B)).filter λ w=>decide (u≠w) && !decide ((u,w)∈B)).map λ w=>(u,w)
abbrev pB (B:List (Int×Int)):Prop:=∀x,(x,x)∉B
def Xv (B:List (Int×Int))(L:List Int)(v:Int):(B8 B L v).length<=L.length*L.length:=by
 unfold B8;rw[List.length_flatMap];have key:∀l:List Int,(l.map λ u=>(((L.filter λ w=>decide ((v,w)∈B)).filter λ w=>decide (u≠w) && !decide ((u,w)∈B)).map λ w=>(u,w)).length).sum<=l.length*L.length:=by
  intro l;induction l with
  |nil=>simp
  |cons u r ih =>
   rw[za6,List.sum_cons,za9,Nat.succ_mul];have:(((L.filter λ w=>decide ((v,w)∈B)).filter λ w=>decide (u≠w) && !decide ((u,w)∈B)).map λ w=>(u,w)).length<=L.length:=by
    rw[za2];exact zbl (zcw _ _) (zcw _ _)
   omega
 exact zbl (key _) (Nat.mul_le_mul_right _ (zcw _ _))
def P6 {α:Type}(f:α->List Int):∀l:List α,Gj (l.map λ x=>D.tup ((f x).map D.int))=some (l.map λ x=>(D.tup ((f x).map D.int),f x))
 |[]=>rfl
 |x::r=>by
  rw[za6,Gj,P6 f r];simp[Z4,E9]
def P7 (h:p∈B8 B L v):p.1∈L/\p.2∈L/\p.1≠p.2:=by
 unfold B8 at h;obtain⟨u,hu,h⟩:=List.mem_flatMap.mp h;obtain⟨w,hw,rfl⟩:=zau.mp h;have h1:=zbp.mp hw;have h2:=zbp.mp h1.1;have h3:=zbp.mp hu;simp at h1;exact⟨h3.1,h2.1,h1.2.1⟩
abbrev Ct (B ps:List (Int×Int)):List (Int×Int):=ps.foldl Ku B
structure Cu (m:Nat)(B:List (Int×Int)):Prop where
 nd:B.Nodup
 no:pB B
 yG:∀p∈B,(0<=p.1/\p.1<m)/\(0<=p.2/\p.2<m)
def Cu.add {m:Nat}{B:List (Int×Int)}(h:Cu m B){p:Int×Int}(hp:p.1≠p.2)(h1:0<=p.1/\p.1<m)(h2:0<=p.2/\p.2<m):Cu m (Ku B p):=by
 refine⟨Ug h.nd,λ x hx=>?_,λ q hq=>?_⟩
 ·rcases Sl.mp hx with z|z
  ·exact h.no x z
  ·subst z;exact hp rfl
 ·rcases Sl.mp hq with z|z
  ·exact h.yG q z
  ·subst z;exact⟨h1,h2⟩
def Cu.Ct (h:Cu m B):∀ {ps:List (Int×Int)},(∀p∈ps,p.1≠p.2/\(0<=p.1/\p.1<m)/\(0<=p.2/\p.2<m))->Cu m (L2.Ct B ps):=by
 intro ps;induction ps generalizing B with
 |nil=>intro _;exact h
 |cons p r ih =>
  intro hp;have:=hp p za3;exact ih (h.add this.1 this.2.1 this.2.2) λ q hq=>hp q (za4 _ hq)
def Cu.len (h:Cu m B)(hm:m<=20):B.length<1000:=by
 have key:=Ht (l:=B) (u:=(zb1 m).flatMap λ i:Nat=>(zb1 m).map λ j:Nat=>((i:Int),(j:Int))) h.nd λ p hp=>by
  obtain⟨h1,h2⟩:=h.yG p hp;refine List.mem_flatMap.mpr ⟨p.1.toNat,zcy.mpr (by omega),zau.mpr ⟨p.2.toNat,zcy.mpr (by omega),?_⟩⟩;rw[Int.toNat_of_nonneg h1.1,Int.toNat_of_nonneg h2.1]
 have e:((zb1 m).flatMap λ i:Nat=>(zb1 m).map λ j:Nat=>((i:Int),(j:Int))).length=m*m:=by
  rw[List.length_flatMap];simp[List.map_const',List.sum_replicate_nat]
 rw[e] at key;have:m*m<=20*20:=Nat.mul_le_mul hm hm;omega
def EW (a b c d:Int):HT.lexLt [a,b] [c,d]=decide (a<c\/(a=c/\b<d)):=by
 rw[HT.Ef,HT.Ef,HT.Dp,zd5];by_cases h1:a=c
 ·subst h1;by_cases h2:b=d
  ·subst h2;simp
  ·simp[h2]
 ·simp[h1]
def Xw {α β:Type}(f:α->β):∀bs:List (α×List Int),Bb (bs.map λ b=>(f b.1,b.2))=(Bb bs).map λ b=>(f b.1,b.2):=by
 intro bs;unfold Bb
 suffices z:∀o:Option (α×List Int),(bs.map λ b=>(f b.1,b.2)).foldl BK (o.map λ b=>(f b.1,b.2))=(bs.foldl BK o).map λ b=>(f b.1,b.2) from z none
 induction bs with
 |nil=>intro o;rfl
 |cons b r ih =>
  intro o;rw[za6,zb9,zb9,<-ih];congr 1;cases o with
  |none=>rfl
  |some c =>
   unfold BK;dsimp only [zcp];split<;>rfl
def ZW {α:Type}:∀(bs:List (α×List Int)) (o:Option (α×List Int)) (b:α×List Int),bs.foldl BK o=some b->b∈bs\/o=some b:=by
 intro bs;induction bs with
 |nil=>intro o b h;exact .inr h
 |cons x r ih =>
  intro o b h;rw[zb9] at h;rcases ih _ _ h with q|q
  ·exact .inl (za4 _ q)
  ·cases o with
   |none=>cases q;exact .inl za3
   |some c =>
    unfold BK at q;dsimp only at q;split at q
    ·cases q;exact .inl za3
    ·exact .inr q
def Xx {α:Type}{bs}(h2:∀b∈bs,∃x y:Int,b.2=[x,y]){b:α×List Int}(hb:Bb bs=some b):∀c∈bs,HT.lexLt c.2 b.2=false:=by
 unfold Bb at hb
 suffices z:∀(bs:List (α×List Int)) (o:Option (α×List Int)),(∀b∈bs,∃x y:Int,b.2=[x,y])->(∀b,o=some b->∃x y:Int,b.2=[x,y])->∀b,bs.foldl BK o=some b->(∀c∈bs,HT.lexLt c.2 b.2=false)/\(∀c,o=some c->HT.lexLt c.2 b.2=false) from (z bs none h2 (λ b h=>by cases h) b hb).1
 intro bs;induction bs with
 |nil =>
  intro o _ ho b h;refine⟨λ c hc=>(by cases hc),λ c hc=>?_⟩;have e:o=some b:=h;rw[hc] at e;cases e;obtain⟨x,y,e⟩:=ho _ hc;rw[e,EW];simp
 |cons d r ih =>
  intro o h2 ho b h;rw[zb9] at h;have hd:=h2 d za3;have aE:∀b,BK o d=some b->∃x y:Int,b.2=[x,y]:=λ b hb=>by
   unfold BK at hb;cases o with
   |none=>cases hb;exact hd
   |some c =>
    dsimp only at hb;split at hb
    ·cases hb;exact hd
    ·cases hb;exact ho _ rfl
  obtain⟨i1,i2⟩:=ih (BK o d) (λ c hc=>h2 c (za4 _ hc)) aE b h;have xj:=HW o d;obtain⟨k,hk⟩:∃k,BK o d=some k:=by
   cases q:BK o d with
   |none=>exact (xj q).elim
   |some k=>exact⟨k,rfl⟩
  have xk:=i2 k hk;obtain⟨kx,ky,ek⟩:=aE k hk;have fb:∃x y:Int,b.2=[x,y]:=by
   have:=ZW r (BK o d) b h;rcases this with z|z
   ·exact h2 b (za4 _ z)
   ·exact aE b z
  obtain⟨bx,by',eb⟩:=fb;obtain⟨dx,dy,ed⟩:=hd;rw[ek,eb,EW,decide_eq_false_iff_not] at xk;have cf:HT.lexLt d.2 b.2=false/\∀c,o=some c->HT.lexLt c.2 b.2=false:=by
   unfold BK at hk;cases o with
   |none =>
    cases hk;rw[ed] at ek;injection ek with e1 e2
    injection e2 with e2 _
    refine⟨?_,λ c hc=>by cases hc⟩;rw[ed,eb,EW,decide_eq_false_iff_not];omega
   |some c =>
    obtain⟨cx,cy,ec⟩:=ho c rfl;dsimp only at hk;rw[ed,ec,EW] at hk;by_cases hl:dx<cx\/(dx=cx/\dy<cy)
    ·rw[if_pos (decide_eq_true hl)] at hk;cases hk;rw[ed] at ek;injection ek with e1 e2
     injection e2 with e2 _
     refine⟨?_,λ c' aQ=>?_⟩
     ·rw[ed,eb,EW,decide_eq_false_iff_not];omega
     ·cases aQ;rw[ec,eb,EW,decide_eq_false_iff_not];omega
    ·rw[if_neg (by simpa using hl)] at hk;cases hk;rw[ec] at ek;injection ek with e1 e2
     injection e2 with e2 _
     refine⟨?_,λ c' aQ=>?_⟩
     ·rw[ed,eb,EW,decide_eq_false_iff_not];omega
     ·cases aQ;rw[ec,eb,EW,decide_eq_false_iff_not];omega
  refine⟨λ c hc=>?_,cf.2⟩;rcases zab.mp hc with z|z
  ·rw[z];exact cf.1
  ·exact i1 c z
abbrev Bo (B:List (Int×Int))(L:List Int):Int:=match Bb (L.map λ p=>(p,[((B8 B L p).length:Int),p])) with
 |some k=>k.1
 |none=>0
def P8 (h:L≠[]):Bo B L∈L/\∀p∈L,¬ (((B8 B L p).length:Int)<(B8 B L (Bo B L)).length\/(((B8 B L p).length:Int)=(B8 B L (Bo B L)).length/\p<Bo B L)):=by
 unfold Bo;cases q:Bb (L.map λ p=>(p,[((B8 B L p).length:Int),p])) with
 |none=>exact (Ms (λ z=>h (List.map_eq_nil_iff.mp z)) q).elim
 |some k =>
  obtain⟨p,hp,rfl⟩:=zau.mp (OB _ _ q);refine⟨hp,λ p' jg=>?_⟩;have:=Xx (λ b hb=>by obtain⟨x,_,rfl⟩:=zau.mp hb;exact⟨_,_,rfl⟩) q _ (zau.mpr ⟨p',jg,rfl⟩);rw[EW,decide_eq_false_iff_not] at this;exact this
abbrev Tp:Nat->List (Int×Int)->List Int->List Int
 |0,_,_=>[]
 |n+1,B,L=>if L=[] then [] else Bo B L::Tp n (Ct B (B8 B L (Bo B L))) (L.erase (Bo B L))
abbrev BC (rs:List Road):List (Int×Int):=rs.foldl (λ B r=>match r.l with | none=>B | some _=>Ku B (r.a,r.b)) []
def Sn:∀ {rs:List Road},(∀r∈rs,G6 m r/\r.a≠r.b)->Cu m (BC rs):=by
 intro rs
 suffices z:∀(rs:List Road) (B:List (Int×Int)),Cu m B->(∀r∈rs,G6 m r/\r.a≠r.b)->Cu m (rs.foldl (λ B r=>match r.l with|none=>B|some _=>Ku B (r.a,r.b)) B) from λ h=>z rs [] ⟨zbz,λ x h=>(by cases h),λ p h=>(by cases h)⟩ h
 intro rs;induction rs with
 |nil=>intro B h _;exact h
 |cons r t ih =>
  intro B h hr;rw[zb9];refine ih _ ?_ λ r' h'=>hr r' (za4 _ h');have:=hr r za3;cases r.l with
  |none=>exact h
  |some l=>exact h.add this.2 ⟨this.1.a0,this.1.a1⟩ ⟨this.1.b0,this.1.b1⟩
def Fc:By f (.int a) (.int b)=f a b:=rfl
def Gy {bs:List Bool}:X2 [.lst (bs.map D.bl)]=.ok (.bl (bs.all id)):=by unfold X2;dsimp only;rw[MB]
def JJ {bs:List Bool}:sW [.lst (bs.map D.bl)]=.ok (.bl (bs.any id)):=by unfold sW;dsimp only;rw[MB]
def jL (h:a.length+b.length<=1000):RT (.lst a) (.lst b)=.ok (.lst ((a++b).map .sh)):=if_pos h
def So (m:Nat):(AI m).Pairwise (·<=·):=by
 unfold AI;rw[zdm];exact (List.pairwise_lt_range (n:=m)).imp λ h=>by omega
def MZ (m:Nat):(AI m).Nodup:=by
 unfold AI List.Nodup;rw[zdm];exact (List.pairwise_lt_range (n:=m)).imp λ h=>by omega
def Xy:D8 L=AI m↔L.Perm (AI m):=
 ⟨λ h=>by rw[<-h];exact (Cb L).symm,λ h=>Dw ((Cb L).trans h) (CW L) (So m)⟩
def JK {L:List Int}(h:L.Perm (AI m)):L.length=m:=by rw[h.length_eq,BV]
def BW {L:List Int}(h:L.Perm (AI m)):p∈L↔0<=p/\p<m:=by rw[h.mem_iff,CY]
def Il {L:List Int}(h:L.Perm (AI m)):L.Nodup:=h.nodup_iff.mpr (MZ m)
def P9:∀ {a b:List Int},Cr (a.map D.int) (b.map D.int)=decide (a=b)
 |[],[]=>by simp[Cr]
 |[],y::t=>by simp[Cr]
 |x::r,[]=>by simp[Cr]
 |x::r,y::t=>by
  rw[za6,za6,Cr,P9,Bk];by_cases h:x=y<;>by_cases k:r=t<;>simp[h,k]
def ZX {a:List Int}:Bk (.lst (a.map D.int)) (.lst (b.map D.int))=decide (a=b):=by rw[Bk];exact P9
def ZY {a:List Int}:eF 16 (.lst (a.map D.int)) (.lst (b.map D.int))=.ok (.bl (decide (a=b))):=by rw[Q8 (LH (n:=15) a) (LH (n:=15) b),ZX]
def Xz {L:List Int}(h:L.Perm (AI i))(n:Nat):(L.take n++(i:Int)::L.drop n).Perm (AI (i+1)):=by
 have e:AI (i+1)=AI i++[(i:Int)]:=by unfold AI;rw[List.range_succ,zaz];rfl
 rw[e];refine List.perm_middle.trans ?_;rw[zcf];exact ((h.cons _).trans (List.perm_append_singleton _ _).symm)
def JL (hi:ρ[i]?=some (some (.own ds)))(h0:0<=p)(h1:p<ds.length):gF i ρ (.ok (.int p)) d=.ok (.next (ρ.set i (some (.own (ds.set p.toNat d))))):=by
 unfold gF;rw[hi];dsimp only;rw[M.A8];unfold oE;dsimp only;rw[M8 ⟨h0,h1⟩]
def jM:Zi 0 (none::ρ)=none::ρ:=rfl
def ZZ:∃T Q:Int,WS (.int 10) (.int 60)=.ok (.int T)/\WS (.int 982451653) (.int 7)=.ok (.int Q)/\1000000<T/\T.natAbs<2^200/\0<Q/\Q.natAbs<2^250:=⟨10^60,982451653^7,rfl,rfl,by decide,by decide,by decide,by decide⟩
abbrev NP:Int:=za8 ZZ
def lJ:∃Q:Int,WS (.int 10) (.int 60)=.ok (.int NP)/\WS (.int 982451653) (.int 7)=.ok (.int Q)/\1000000<NP/\NP.natAbs<2^200/\0<Q/\Q.natAbs<2^250:=za1 ZZ
def lK:WS (.int 10) (.int 60)=.ok (.int NP):=(za1 lJ).1
def Qn:1000000<NP:=(za1 lJ).2.2.1
def jN:CP (.int i) (.int NP)=.ok (.int (i%NP)):=Az (by have:=Qn;omega)
abbrev cl:Nat->D->Prop
 |0,d=>sP d=false
 |n+1,d=>sP d=false/\∀ds,(d=.tup ds\/d=.lst ds)->∀e∈ds,cl n e
structure Im (m:Nat)(r:Road):Prop where
 a0:0<=r.a
 a1:r.a<m
 b0:0<=r.b
 b1:r.b<m
 ab:r.a≠r.b
 l0:∀l,r.l=some l->0<=l/\l<NP
 w0:0<=r.w
 w1:r.w<NP
def cB {S}(h:0<S.length)(h0:0<=q):CP (.int q) (.int (S.length:Int))=.ok (.int (q%S.length))/\∃y,y∈S/\AO (.lst S) (.int (q%(S.length:Int)))=.ok y:=by
 have bE:(0:Int)<(S.length:Int):=by omega
 have b0:0<=q%(S.length:Int):=zci _ (by omega);have b1:q%(S.length:Int)<S.length:=zc8 _ bE;refine⟨Az bE,S[(q%(S.length:Int)).toNat]'(by omega),zdd _,?_⟩;have:=JH (f:=λ d:D=>d) (l:=S) b0 (zaa (by omega));rw[List.map_id'] at this;exact this
def jO:er (.tup [a,b])=.tup [er a,er b]:=by simp[er,Vj]
section
variable {α β:Type}{a b c d e f g:α}{x y:β}
def jP:(if [a,b,c,d,e].length<=1000 then x else y)=x:=rfl
def jQ:(if [a,b,c,d,e,f].length<=1000 then x else y)=x:=rfl
def jR:(if [a,b,c,d,e,f,g].length<=1000 then x else y)=x:=rfl
def M9:er (.Bm t [] [])=.Bm t [] []:=by simp[er,Vj]
end
def tS {α:Type}(l:List α):X2 [.lst (l.map λ _=>D.bl true)]=.ok (.bl true):=by
 have e:(l.map λ _=>D.bl true)=(l.map λ _=>true).map D.bl:=by rw[zbq];rfl
 rw[e,Gy];simp
structure XA (m:Nat)(rs:List Road)(rk:Int->Nat)(Af:Int->Int->Co):Prop where
 snd:∀x y c,Af x y=some c->Wk rs x y c/\x≠y/\(0<=x/\x<m)/\0<=y/\y<m
 road:∀r∈rs,BL (Af r.a r.b) (Cd r)
 zA:∀p x y,x≠y->rk p<rk x->rk p<rk y->BL (Af x y) (Ao (Af x p) (Af p y))
 inj:∀x y:Int,0<=x->x<m->0<=y->y<m->rk x=rk y->x=y
 nn:∀x y c,Wk rs x y c->0<=c.1/\0<=c.2
inductive NZ (Af:Int->Int->Co) (rk:Int->Nat) (s:Int):Int->Int×Int->Prop
 |nil:NZ Af rk s s (0,0)
 |snoc {x y:Int} {c d:Int×Int}:NZ Af rk s x c->rk x<rk y->Af x y=some d->NZ Af rk s y (c.1+d.1,c.2+d.2)
inductive Sq (Af:Int->Int->Co) (rk:Int->Nat) (t:Int):Nat->Int->Int×Int->Prop
 |nil:Sq Af rk t 0 t (0,0)
 |snoc {n:Nat} {x y:Int} {c d:Int×Int}:Sq Af rk t n x c->rk y<rk x->Af x y=some d->Sq Af rk t (n+1) y (c.1+d.1,c.2+d.2)
abbrev Tq (p q:Int×Int):Prop:=p.1<q.1\/(p.1=q.1/\p.2<=q.2)
def cC (h:BL a (some q)):∃p,a=some p/\Tq p q:=by
 cases a with
 |none=>exact h.elim
 |some p=>exact⟨p,rfl,h⟩
abbrev UD (Af:Int->Int->Co)(rk:Int->Nat)(s w:Int)(c:Int×Int):Prop:=∃t n c1 c2,NZ Af rk s t c1/\Sq Af rk t n w c2/\Tq (c1.1+c2.1,c1.2+c2.2) c
section
variable {m:Nat}{rs:List Road}{rk:Int->Nat}{Af Cf:Int->Int->Co}{s w:Int}
def NZ.walk (L:XA m rs rk Af)(h:NZ Af rk s t c):Wk rs s t c:=by
 induction h with
 |nil=>exact .nil s
 |snoc _ _ ha ih=>exact ih.trans (L.snd _ _ _ ha).1
def Sq.walk (L:XA m rs rk Af)(h:Sq Af rk t n x c):Wk rs t x c:=by
 induction h with
 |nil=>exact .nil t
 |snoc _ _ ha ih=>exact ih.trans (L.snd _ _ _ ha).1
def pC (L:XA m rs rk Af):∀(n:Nat){t x y:Int}{c1 c2 d:Int×Int},NZ Af rk s t c1->Sq Af rk t n x c2->Af x y=some d->UD Af rk s y (c1.1+c2.1+d.1,c1.2+c2.2+d.2):=by
 intro n;induction n with
 |zero =>
  intro t x y c1 c2 d hu hd ha;obtain⟨_,ae,hx,hy⟩:=L.snd _ _ _ ha;cases hd with
  |nil =>
   by_cases h:rk y<rk t
   ·exact⟨t,1,c1,_,hu,.snoc .nil h ha,by simp only[Tq];omega⟩
   ·have h2:rk t<rk y:=by
     have hq:rk t≠rk y:=λ e=>ae (L.inj t y hx.1 hx.2 hy.1 hy.2 e);omega
    exact⟨y,0,_,_,.snoc hu h2 ha,.nil,by simp only[Tq];omega⟩
 |succ n ih =>
  intro t x y c1 c2 d hu hd ha;obtain⟨hw,ae,hx,hy⟩:=L.snd _ _ _ ha;by_cases h:rk y<rk x
  ·exact⟨t,n+2,c1,_,hu,.snoc hd h ha,by simp only[Tq];omega⟩
  ·have h2:rk x<rk y:=by
    have hq:rk x≠rk y:=λ e=>ae (L.inj x y hx.1 hx.2 hy.1 hy.2 e);omega
   cases hd with
   | @snoc _ z _ c e aS hr bC =>
    have n1:=L.nn _ _ _ hw;have n2:=L.nn _ _ _ (L.snd _ _ _ bC).1;by_cases hz:z=y
    ·subst hz;exact⟨t,n,c1,c,hu,aS,by simp only[Tq];omega⟩
    ·have q:=L.zA x z y hz hr h2;rw[bC,ha] at q;obtain⟨f,hf,hle⟩:=cC q;obtain⟨t',n',qj,qk,g1,g2,g3⟩:=ih hu aS hf;refine⟨t',n',qj,qk,g1,g2,?_⟩;simp only[Tq] at *;omega
def jS (L:XA m rs rk Af)(h:Wk rs u w c):∀ {c0:Int×Int},UD Af rk s u c0->UD Af rk s w (c0.1+c.1,c0.2+c.2):=by
 induction h with
 |nil u =>
  intro c0 h;simpa using h
 | @cons r l w c hr hl _ ih =>
  intro c0 h0;obtain⟨t,n,c1,c2,g1,g2,g3⟩:=h0;have q:=L.road r hr;unfold Cd at q;rw[hl] at q;obtain⟨d,hd,hle⟩:=cC q;obtain⟨t',n',qj,qk,k1,k2,k3⟩:=pC L n g1 g2 hd;have r1:=@ih (c0.1+l,c0.2+1) ⟨t',n',qj,qk,k1,k2,by simp only[Tq] at *;omega⟩;simpa [zdo] using r1
abbrev Kept (rs:List Road)(Af Cf:Int->Int->Co):Prop:=∀x y c,Cf x y=some c↔(Af x y=some c/\BM rs x y (some c))
def jT (L:XA m rs rk Af)(K:Kept rs Af Cf){t:Int}{c1:Int×Int}(h:NZ Af rk s t c1):∀ {c2:Int×Int},Wk rs t w c2->(∀c,Wk rs s w c->Tq (c1.1+c2.1,c1.2+c2.2) c)->NZ Cf rk s t c1:=by
 induction h with
 |nil=>exact λ _ _=>.nil
 | @snoc x y c d hu hr ha ih =>
  intro c2 hw hm;have bC:=(L.snd _ _ _ ha).1;refine .snoc (ih (c2:=(d.1+c2.1,d.2+c2.2)) (bC.trans hw) λ c' aQ=>?_) hr ((K x y d).mpr ⟨ha,λ e he=>?_,λ p hp=>by cases hp;exact bC⟩)
  ·have:=hm c' aQ;simp only[Tq] at *;omega
  ·have:=hm _ (((hu.walk L).trans he).trans hw);simp only[Tq,BL] at *;omega
def jU (L:XA m rs rk Af)(K:Kept rs Af Cf)(hs:Wk rs s t c1)(h:Sq Af rk t n x c2):(∀c,Wk rs s x c->Tq (c1.1+c2.1,c1.2+c2.2) c)->Sq Cf rk t n x c2:=by
 induction h with
 |nil=>exact λ _=>.nil
 | @snoc n x y c d hd hr ha ih =>
  intro hm;have bC:=(L.snd _ _ _ ha).1;refine .snoc (ih λ c' aQ=>?_) hr ((K x y d).mpr ⟨ha,λ e he=>?_,λ p hp=>by cases hp;exact bC⟩)
  ·have:=hm _ (aQ.trans bC);simp only[Tq] at *;omega
  ·have:=hm _ ((hs.trans (hd.walk L)).trans he);simp only[Tq,BL] at *;omega
def cD (L:XA m rs rk Af)(K:Kept rs Af Cf)(h:BM rs s w (some c)):∃t n c1 c2,NZ Cf rk s t c1/\Sq Cf rk t n w c2/\c=(c1.1+c2.1,c1.2+c2.2):=by
 obtain⟨t,n,c1,c2,g1,g2,g3⟩:=jS L (h.2 c rfl) (c0:=(0,0)) ⟨s,0,_,_,.nil,.nil,by simp[Tq]⟩;have hw:=(g1.walk L).trans (g2.walk L);have q:=h.1 _ hw;have e:c=(c1.1+c2.1,c1.2+c2.2):=by
  obtain⟨a,b⟩:=c;simp only[Tq,BL] at *;refine Prod.ext ?_ ?_<;>dsimp only<;>omega
 refine⟨t,n,c1,c2,jT L K g1 (g2.walk L) λ c' aQ=>?_,jU L K (g1.walk L) g2 λ c' aQ=>?_,e⟩
 ·have:=h.1 _ aQ;rw[e] at this;exact this
 ·have:=h.1 _ aQ;rw[e] at this;exact this
structure uZ (rk:Int->Nat)(Cf:Int->Int->Co)(s:Int)(R:Int->Co):Prop where
 st:BL (R s) (some (0,0))
 cl:∀x y,rk x<rk y->BL (R y) (Ao (R x) (Cf x y))
 sd:∀x c,R x=some c->NZ Cf rk s x c
def uZ.le (h:uZ rk Cf s R)(u:NZ Cf rk s t c):BL (R t) (some c):=by
 induction u with
 |nil=>exact h.st
 | @snoc x y c d hu hr ha ih =>
  refine An (h.cl x y hr) ?_;rw[ha];exact Ci (some d) ih
structure vA (rk:Int->Nat)(Cf:Int->Int->Co)(s:Int)(R T:Int->Co)(m:Nat):Prop where
 top:∀x:Int,0<=x->x<m->BL (T x) (R x)
 cl:∀x y:Int,0<=x->x<m->0<=y->y<m->rk y<rk x->BL (T y) (Ao (T x) (Cf x y))
 sd:∀x c,T x=some c->∃t n c1 c2,NZ Cf rk s t c1/\Sq Cf rk t n x c2/\c=(c1.1+c2.1,c1.2+c2.2)
def Kept.pE (K:Kept rs Af Cf)(h:Cf x y=some c):Af x y=some c:=((K x y c).mp h).1
def NZ.of_kept (K:Kept rs Af Cf)(h:NZ Cf rk s t c):NZ Af rk s t c:=by
 induction h with
 |nil=>exact .nil
 |snoc _ hr ha ih=>exact .snoc ih hr (K.pE ha)
def Sq.of_kept (K:Kept rs Af Cf)(h:Sq Cf rk t n x c):Sq Af rk t n x c:=by
 induction h with
 |nil=>exact .nil
 |snoc _ hr ha ih=>exact .snoc ih hr (K.pE ha)
def tT (L:XA m rs rk Af)(K:Kept rs Af Cf)(h:Sq Cf rk t n x c)(ht:0<=t/\t<m):0<=x/\x<m:=by
 cases h with
 |nil=>exact ht
 |snoc _ hr ha=>exact (L.snd _ _ _ (K.pE ha)).2.2.2
def tU (L:XA m rs rk Af)(K:Kept rs Af Cf)(h:NZ Cf rk s t c)(ht:0<=s/\s<m):0<=t/\t<m:=by
 cases h with
 |nil=>exact ht
 |snoc _ hr ha=>exact (L.snd _ _ _ (K.pE ha)).2.2.2
def vA.le (L:XA m rs rk Af)(K:Kept rs Af Cf)(h:vA rk Cf s R T m){t:Int}(ht:0<=t/\t<m)(hT:BL (T t) (some c1))(u:Sq Cf rk t n x c2):BL (T x) (some (c1.1+c2.1,c1.2+c2.2)):=by
 induction u with
 |nil=>simpa using hT
 | @snoc n x y c d hd hr ha ih =>
  have hx:=tT L K hd ht;have hy:=(L.snd _ _ _ (K.pE ha)).2.2.2;refine An (h.cl x y hx.1 hx.2 hy.1 hy.2 hr) ?_;rw[ha];have:=Ci (some d) ih;simp only[Ao,zdo] at this;exact this
def XB (L:XA m rs rk Af)(K:Kept rs Af Cf)(hs:0<=s/\s<m)(hR:uZ rk Cf s R)(hT:vA rk Cf s R T m)(hx:BM rs s w x):BM rs s w (T w):=by
 have key:BL (T w) x:=by
  cases x with
  |none=>cases T w<;>exact trivial
  |some c =>
   obtain⟨t,n,c1,c2,g1,g2,e⟩:=cD L K hx;have ht:=tU L K g1 hs;rw[e];exact hT.le L K ht (An (hT.top t ht.1 ht.2) (hR.le g1)) g2
 refine⟨λ c hc=>An key (hx.1 c hc),λ p hp=>?_⟩;obtain⟨t,n,c1,c2,g1,g2,rfl⟩:=hT.sd w p hp;exact ((g1.of_kept K).walk L).trans ((g2.of_kept K).walk L)
end
section
variable {κ β:Type} [DecidableEq κ]
abbrev AJ:List (κ×β)->κ->Option β
 |[],_=>none
 |(k,v)::r,x=>if k=x then some v else AJ r x
abbrev DH (A:List (κ×β))(k:κ)(v:β):List (κ×β):=if (AJ A k).isSome=true then A.map λ kv=>if kv.1=k then (kv.1,v) else kv else A++[(k,v)]
def Qo (k j:κ)(v:β):∀A:List (κ×β),AJ (A.map λ kv=>if kv.1=k then (kv.1,v) else kv) j=if j=k then (AJ A j).map λ _=>v else AJ A j
 |[]=>by simp[AJ]
 |(k',v')::r=>by
  rw[za6];by_cases h1:k'=k
  ·rw[if_pos h1];subst h1;simp only[AJ];by_cases h2:k'=j
   ·subst h2;simp
   ·rw[if_neg h2,if_neg h2,Qo k' j v r]
  ·rw[if_neg h1];simp only[AJ];by_cases h2:k'=j
   ·subst h2;rw[if_pos rfl,if_pos rfl,if_neg h1]
   ·rw[if_neg h2,if_neg h2,Qo k j v r]
def Sr (k j:κ)(v:β):∀A:List (κ×β),AJ A k=none->AJ (A++[(k,v)]) j=if j=k then some v else AJ A j
 |[],_=>by
  simp only[List.nil_append,AJ];by_cases h:k=j
  ·subst h;simp
  ·rw[if_neg h,if_neg (zbn h)]
 |(k',v')::r,h=>by
  simp only[AJ] at h;by_cases h1:k'=k
  ·rw[if_pos h1] at h;cases h
  ·rw[if_neg h1] at h;rw[zdu];simp only[AJ];rw[Sr k j v r h];by_cases h2:k'=j
   ·subst h2;rw[if_pos rfl,if_pos rfl,if_neg h1]
   ·rw[if_neg h2,if_neg h2]
def Hu (A:List (κ×β))(k j:κ)(v:β):AJ (DH A k v) j=if j=k then some v else AJ A j:=by
 unfold DH;by_cases h:(AJ A k).isSome=true
 ·rw[if_pos h,Qo];by_cases hj:j=k
  ·subst hj;rw[if_pos rfl,if_pos rfl];obtain⟨x,hx⟩:=zdt.mp h;rw[hx];rfl
  ·rw[if_neg hj,if_neg hj]
 ·rw[if_neg h];exact Sr k j v A (by cases e:AJ A k with|none=>rfl|some x=>rw[e] at h;exact (h rfl).elim)
def Hv:∀ {A:List (κ×β)}{k:κ},(AJ A k).isSome=true↔k∈A.map zba
 |[],k=>by simp[AJ]
 |(k',v')::r,k=>by
  simp only[AJ,za6,zab];by_cases h:k'=k
  ·rw[if_pos h];simp[h]
  ·rw[if_neg h,Hv];simp[zbn h]
def cE {A:List (κ×β)}{k:κ}:AJ A k=none↔k∉A.map zba:=by
 rw[<-Hv];cases AJ A k<;>simp
def Ss (A:List (κ×β))(k:κ)(v:β):(DH A k v).map zba=if (AJ A k).isSome=true then A.map zba else A.map zba++[k]:=by
 unfold DH;split
 ·rw[zbq];refine List.map_congr_left λ kv _=>?_;dsimp only [Function.comp];split<;>rfl
 ·rw[zaz];rfl
def Kv {A:List (κ×β)}{k:κ}{v:β}(h:(A.map zba).Nodup):((DH A k v).map zba).Nodup:=by
 rw[Ss];split
 ·exact h
 ·rename_i hn;rw[Hv] at hn;rw[zax];exact⟨h,by simp,λ x hx y hy=>by rw[za7.mp hy];exact λ e=>hn (e▸hx)⟩
def N0 {A:List (κ×β)}{k x:κ}{v:β}(h:x∈(DH A k v).map zba):x∈A.map zba\/x=k:=by
 rw[Ss] at h;split at h
 ·exact .inl h
 ·rcases zaq.mp h with h|h
  ·exact .inl h
  ·exact .inr (za7.mp h)
def Uh:∀ {A:List (κ×β)}{k:κ}{v:β},AJ A k=some v->(k,v)∈A
 |(k',v')::r,k,v,h=>by
  simp only[AJ] at h;split at h
  ·rename_i e;cases h;subst e;exact za3
  ·exact za4 _ (Uh h)
def cF:∀ {A:List (κ×β)}{k:κ}{v:β},(A.map zba).Nodup->(k,v)∈A->AJ A k=some v
 |(k',v')::r,k,v,hn,h=>by
  rw[za6,zbg] at hn;simp only[AJ];rcases zab.mp h with e|h
  ·cases e;rw[if_pos rfl]
  ·have:k'≠k:=λ e=>hn.1 (e▸zau.mpr ⟨_,h,rfl⟩);rw[if_neg this];exact cF hn.2 h
variable {kf:κ->D}{vf:β->D}(he:∀a b,Bk (kf a) (kf b)=decide (a=b))
include he
def JM (A:List (κ×β))(k:κ):Lr (A.map λ kv=>kf kv.1) (kf k)=(AJ A k).isSome:=by
 induction A with
 |nil=>rfl
 |cons kv r ih =>
  obtain⟨k',v'⟩:=kv;unfold Lr at ih ⊢;rw[za6,zdn,ih,he];simp only[AJ];by_cases h:k'=k
  ·rw[if_pos h,decide_eq_true h];rfl
  ·rw[if_neg h,decide_eq_false h];rfl
def Gz (A:List (κ×β))(k:κ):G2 (A.map λ kv=>kf kv.1) (A.map λ kv=>vf kv.2) (kf k)=(AJ A k).map vf:=by
 induction A with
 |nil=>rfl
 |cons kv r ih =>
  obtain⟨k',v'⟩:=kv;rw[za6,za6,G2,he,ih];simp only[AJ];by_cases h:k'=k
  ·rw[decide_eq_true h,if_pos rfl,if_pos h];rfl
  ·rw[decide_eq_false h,if_neg zao,if_neg h]
def cG (k:κ)(v:β)(A:List (κ×β)):Ig (A.map λ kv=>kf kv.1) (A.map λ kv=>vf kv.2) (kf k) (vf v)=(A.map λ kv=>if kv.1=k then (kv.1,v) else kv).map λ kv=>vf kv.2:=by
 induction A with
 |nil=>rfl
 |cons kv r ih =>
  obtain⟨k',v'⟩:=kv;rw[za6,za6,Ig,he,ih,za6,za6];by_cases h:k'=k
  ·rw[decide_eq_true h,if_pos rfl,if_pos h]
  ·rw[decide_eq_false h,if_neg zao,if_neg h]
def N1 (A:List (κ×β))(k:κ)(v:β):putD (A.map λ kv=>kf kv.1) (A.map λ kv=>vf kv.2) (kf k) (vf v)=((DH A k v).map (λ kv=>kf kv.1),(DH A k v).map λ kv=>vf kv.2):=by
 unfold putD DH;rw[JM he];by_cases h:(AJ A k).isSome=true
 ·rw[if_pos h,if_pos h,cG he];refine Prod.ext ?_ rfl;dsimp only;rw[zbq];refine List.map_congr_left λ kv _=>?_;dsimp only [Function.comp];split<;>rfl
 ·rw[if_neg h,if_neg h,zaz,zaz];rfl
end
def JN (a b:Int):Bk (.int a) (.int b)=decide (a=b):=by
 simp only[Bk];by_cases h:a=b
 ·subst h;simp
 ·simp[h]
noncomputable abbrev LA:=List ((Int×Int)×((Int×Int)×Option Int))
abbrev XC (v:(Int×Int)×Option Int):D:=.tup [cst (some v.1),Gv v.2]
abbrev L3 (A:LA):D:=.Bm true (A.map λ kv=>pD kv.1) (A.map λ kv=>XC kv.2)
abbrev ID (A:LA):OT:=.Bm true (A.map λ kv=>pD kv.1) ((A.map λ kv=>XC kv.2).map .sh)
abbrev Ak (A:LA)(p:Int×Int):Co:=(AJ A p).map zba
abbrev layA (A:LA)(p:Int×Int)(c:Co)(mid:Option Int):LA:=match c with
 |none=>A
 |some c=>(match AJ A p with
  |none=>DH A p (c,mid)
  |some z=>if c.1<z.1.1\/(c.1=z.1.1/\c.2<z.1.2) then DH A p (c,mid) else A)
def GA (A:LA)(p q:Int×Int)(c:Co)(mid:Option Int):Ak (layA A p c mid) q=if q=p then DZ (Ak A p) c else Ak A q:=by
 unfold layA Ak;cases c with
 |none =>
  by_cases h:q=p
  ·subst h;rw[if_pos rfl];cases AJ A q<;>rfl
  ·rw[if_neg h]
 |some c =>
  cases e:AJ A p with
  |none =>
   dsimp only;rw[Hu];by_cases h:q=p
   ·rw[if_pos h,if_pos h];rfl
   ·rw[if_neg h,if_neg h]
  |some z =>
   dsimp only;by_cases hc:c.1<z.1.1\/(c.1=z.1.1/\c.2<z.1.2)
   ·rw[if_pos hc,Hu];by_cases h:q=p
    ·rw[if_pos h,if_pos h];simp only[zcp,DZ,lG];rw[if_neg (by omega)]
    ·rw[if_neg h,if_neg h]
   ·rw[if_neg hc];by_cases h:q=p
    ·subst h;rw[if_pos rfl,e];simp only[zcp,DZ,lG];rw[if_pos (by omega)]
    ·rw[if_neg h]
def Ui (A:LA)(p q:Int×Int)(c:Co)(mid:Option Int):BL (Ak (layA A p c mid) q) (Ak A q):=by
 rw[GA];split
 ·rename_i h;subst h;exact EJ _ _
 ·exact Cc _
def cH (h:x∈(layA A p c mid).map zba):x∈A.map zba\/x=p:=by
 unfold layA at h;split at h
 ·exact .inl h
 ·split at h
  ·exact N0 h
  ·split at h
   ·exact N0 h
   ·exact .inl h
def XD (h:(A.map zba).Nodup):((layA A p c mid).map zba).Nodup:=by
 unfold layA;split
 ·exact h
 ·split
  ·exact Kv h
  ·split
   ·exact Kv h
   ·exact h
abbrev Qp (p u:Int)(A:LA)(w:Int):LA:=if u=w then A else layA A (u,w) (Ao (Ak A (u,p)) (Ak A (p,w))) (some p)
abbrev jV (p:Int)(H:List Int)(A:LA)(u:Int):LA:=H.foldl (Qp p u) A
abbrev pF (A:LA)(p:Int)(H:List Int):LA:=H.foldl (jV p H) A
abbrev Uj:LA->List Int->LA
 |A,[]=>A
 |A,p::r=>Uj (pF A p r) r
abbrev lay0 (rs:List Road):LA:=rs.foldl (λ A r=>layA A (r.a,r.b) (Cd r) none) []
abbrev BX (rs:List Road)(L:List Int):LA:=Uj (lay0 rs) L
structure Fj (m:Nat)(A:LA):Prop where
 nd:(A.map zba).Nodup
 rg:∀p∈A.map zba,p.1≠p.2/\(0<=p.1/\p.1<m)/\0<=p.2/\p.2<m
def Fj.lay {m:Nat}{A:LA}(h:Fj m A){p:Int×Int}{c:Co}{mid:Option Int}(hp:p.1≠p.2/\(0<=p.1/\p.1<m)/\0<=p.2/\p.2<m):Fj m (layA A p c mid):=
 ⟨XD h.nd,λ q hq=>(cH hq).elim (h.rg q) λ e=>e▸hp⟩
def Fj.len (h:Fj m A)(hm:m<=20):A.length<1000:=by
 have:=Cu.len (B:=A.map zba) (m:=m) ⟨h.nd,λ x hx=>(h.rg _ hx).1 rfl,λ q hq=>⟨(h.rg q hq).2.1,(h.rg q hq).2.2⟩⟩ hm;rwa[za2] at this
def JO {α β:Type}{f:β->α->β}(P:List α->β->Prop):∀ {L pre:List α}{b:β},P pre b->(∀a∈L,∀pre b,P pre b->P (pre++[a]) (f b a))->P (pre++L) (L.foldl f b)
 |[],pre,b,h,_=>by rw[zbk];exact h
 |a::L,pre,b,h,hs=>by
  have:=JO P (L:=L) (hs a za3 pre b h) λ x hx=>hs x (za4 _ hx);rw[zcr] at this;exact this
abbrev jW (rs:List Road)(A:LA):Prop:=∀x y c,Ak A (x,y)=some c->Wk rs x y c
def jW.lay (h:jW rs A)(hc:∀p,c=some p->Wk rs x y p):jW rs (layA A (x,y) c mid):=λ u w d hd=>by
 rw[GA] at hd;split at hd
 ·rename_i e;cases e;rcases Bs (Ak A (x,y)) c with ⟨e,_⟩|⟨e,_⟩
  ·rw[e] at hd;exact h _ _ _ hd
  ·rw[e] at hd;exact hc d hd
 ·exact h _ _ _ hd
structure Over (m:Nat)(rs:List Road)(p:Int)(H:List Int)(A0 A:LA):Prop where
 ok:Fj m A
 sd:jW rs A
 le:∀q,BL (Ak A q) (Ak A0 q)
 sm:∀x y,(x∉H\/y∉H)->Ak A (x,y)=Ak A0 (x,y)
def XE {m:Nat}{H:List Int}(hp:p∉H)(hH:∀x∈H,0<=x/\x<m)(h:Over m rs p H A0 A)(hu:u∈H)(hw:w∈H):Over m rs p H A0 (Qp p u A w)/\(u≠w->BL (Ak (Qp p u A w) (u,w)) (Ao (Ak A0 (u,p)) (Ak A0 (p,w)))):=by
 unfold Qp;by_cases e:u=w
 ·rw[if_pos e];exact⟨h,λ z=>(z e).elim⟩
 ·rw[if_neg e];have e1:=h.sm u p (.inr hp);have e2:=h.sm p w (.inl hp);refine⟨⟨h.ok.lay ⟨e,hH u hu,hH w hw⟩,h.sd.lay λ c hc=>?_,λ q=>An (Ui _ _ _ _ _) (h.le q),λ x y bB=>?_⟩,λ _=>?_⟩
  ·obtain⟨a,b,ha,hb,rfl⟩:=Fb hc;exact (h.sd _ _ _ ha).trans (h.sd _ _ _ hb)
  ·rw[GA,if_neg (λ z=>by cases z;exact bB.elim (λ q=>q hu) λ q=>q hw)];exact h.sm x y bB
  ·rw[GA,if_pos rfl,e1,e2];exact EK _ _
def lL (q:Int×Int):BL (Ak (Qp p u A w) q) (Ak A q):=by
 unfold Qp;split
 ·exact Cc _
 ·exact Ui _ _ _ _ _
def lM (q:Int×Int):∀(H:List Int) (A:LA),BL (Ak (H.foldl (Qp p u) A) q) (Ak A q)
 |[],A=>Cc _
 |w::H,A=>An (lM q H (Qp p u A w)) (lL q)
def pG {m:Nat}{H:List Int}(hp:p∉H)(hH:∀x∈H,0<=x/\x<m)(h:Over m rs p H A0 A)(hu:u∈H):Over m rs p H A0 (jV p H A u)/\∀w∈H,u≠w->BL (Ak (jV p H A u) (u,w)) (Ao (Ak A0 (u,p)) (Ak A0 (p,w))):=by
 unfold jV;have:=JO (L:=H) (pre:=[]) (f:=Qp p u) (b:=A) (λ W A=>Over m rs p H A0 A/\∀w∈W,u≠w->BL (Ak A (u,w)) (Ao (Ak A0 (u,p)) (Ak A0 (p,w)))) ⟨h,λ w hw=>by cases hw⟩ λ w hw W B hB=>by
  obtain⟨b1,b2⟩:=hB;obtain⟨c1,c2⟩:=XE hp hH b1 hu hw;refine⟨c1,λ x hx ae=>?_⟩;rcases zaq.mp hx with hx|hx
  ·exact An (lL _) (b2 x hx ae)
  ·rw[za7.mp hx] at ae ⊢;exact c2 ae
 exact this
def cI {m:Nat}{H:List Int}(hp:p∉H)(hH:∀x∈H,0<=x/\x<m)(h1:Fj m A)(h2:jW rs A):Over m rs p H A (pF A p H)/\∀u∈H,∀w∈H,u≠w->BL (Ak (pF A p H) (u,w)) (Ao (Ak A (u,p)) (Ak A (p,w))):=by
 unfold pF;have:=JO (L:=H) (pre:=[]) (f:=jV p H) (b:=A) (λ U B=>Over m rs p H A B/\∀u∈U,∀w∈H,u≠w->BL (Ak B (u,w)) (Ao (Ak A (u,p)) (Ak A (p,w)))) ⟨⟨h1,h2,λ q=>Cc _,λ x y _=>rfl⟩,λ u hu=>by cases hu⟩ λ u hu U B hB=>by
  obtain⟨b1,b2⟩:=hB;obtain⟨c1,c2⟩:=pG hp hH b1 hu;refine⟨c1,λ x hx w hw ae=>?_⟩;rcases zaq.mp hx with hx|hx
  ·exact An (lM _ H B) (b2 x hx w hw ae)
  ·rw[za7.mp hx] at ae ⊢;exact c2 w hw ae
 exact this
def Qq (Ar:∀r∈rs,G6 m r/\r.a≠r.b):Fj m (lay0 rs)/\jW rs (lay0 rs)/\∀r∈rs,BL (Ak (lay0 rs) (r.a,r.b)) (Cd r):=by
 unfold lay0;have:=JO (L:=rs) (pre:=[]) (f:=λ A r=>layA A (r.a,r.b) (Cd r) none) (b:=[]) (λ W A=>Fj m A/\jW rs A/\∀r∈W,BL (Ak A (r.a,r.b)) (Cd r)) ⟨⟨by simp,λ p hp=>by cases hp⟩,⟨(λ _ _ _ h=>by cases h),λ r hr=>by cases hr⟩⟩ λ r hr W B hB=>by
  obtain⟨b1,b2,b3⟩:=hB;obtain⟨o1,o2⟩:=Ar r hr;refine⟨b1.lay ⟨o2,⟨o1.a0,o1.a1⟩,o1.b0,o1.b1⟩,b2.lay λ c hc=>?_,λ x hx=>?_⟩
  ·obtain⟨l,hl,rfl⟩:=JI hc;exact Wk.one hr hl
  ·rcases zaq.mp hx with hx|hx
   ·exact An (Ui _ _ _ _ _) (b3 x hx)
   ·rw[za7.mp hx,GA,if_pos rfl];exact EK _ _
 exact this
abbrev Eb:List Int->Int->Nat
 |[],_=>0
 |a::l,x=>if a=x then 0 else Eb l x+1
def W6:∀ {pre post:List Int}{p:Int},p∉pre->Eb (pre++p::post) p=pre.length
 |[],post,p,_=>by simp[Eb]
 |a::pre,post,p,h=>by
  rw[zab,not_or] at h;rw[zdu,Eb,if_neg (zbn h.1),W6 h.2];rfl
def Uk:∀ {pre post:List Int}{x:Int},x∈pre->Eb (pre++post) x<pre.length
 |a::pre,post,x,h=>by
  rw[zdu,Eb];by_cases e:a=x
  ·rw[if_pos e];simp
  ·rw[if_neg e,za9];have:=Uk (post:=post) ((zab.mp h).resolve_left (zbn e));omega
def Qr:∀ {pre post:List Int}{x:Int},x∉pre->pre.length<=Eb (pre++post) x
 |[],post,x,_=>zb0 _
 |a::pre,post,x,h=>by
  rw[zab,not_or] at h;rw[zdu,Eb,if_neg (zbn h.1),za9];have:=Qr (post:=post) h.2;omega
def Qs:∀ {L:List Int}{x y:Int},x∈L->y∈L->Eb L x=Eb L y->x=y
 |a::l,x,y,hx,hy,e=>by
  rw[Eb,Eb] at e;by_cases h1:a=x
  ·by_cases h2:a=y
   ·rw[<-h1,<-h2]
   ·rw[if_pos h1,if_neg h2] at e;omega
  ·by_cases h2:a=y
   ·rw[if_neg h1,if_pos h2] at e;omega
   ·rw[if_neg h1,if_neg h2] at e;exact Qs ((zab.mp hx).resolve_left (zbn h1)) ((zab.mp hy).resolve_left (zbn h2)) (by omega)
def Ul (h:Eb L x<L.length):x∈L:=by
 refine zcb λ hn=>?_;have:=Qr (pre:=L) (post:=[]) hn;rw[zbk] at this;omega
def cJ:∀(L:List Int) (x:Int),Eb L x<=L.length
 |[],_=>zag _
 |a::l,x=>by
  rw[Eb,za9];split
  ·omega
  ·have:=cJ l x;omega
def L4:∀ {L:List Int}{p:Int},p∈L->∃pre post,L=pre++p::post/\p∉pre
 |a::l,p,h=>by
  by_cases ha:a=p
  ·subst ha;exact⟨[],l,rfl,by simp⟩
  ·obtain⟨pre,post,e2,hn⟩:=L4 ((zab.mp h).resolve_left (zbn ha));exact⟨a::pre,post,by rw[zdu,<-e2],by simp[zbn ha,hn]⟩
def cL (h:Eb L p<L.length):∃pre post,L=pre++p::post/\p∉pre/\∀x,Eb L p<Eb L x->x∈L->x∈post:=by
 obtain⟨pre,post,e,hn⟩:=L4 (Ul h);refine⟨pre,post,e,hn,λ x hr hx=>?_⟩;subst e;rw[W6 hn] at hr;rcases zaq.mp hx with hx|hx
 ·have:=Uk (post:=p::post) hx;omega
 ·rcases zab.mp hx with rfl|hx
  ·rw[W6 hn] at hr;omega
  ·exact hx
def pH {m:Nat}{rs:List Road}{L:List Int}(hL:L.Nodup)(hr:∀x∈L,0<=x/\x<m):∀(post pre:List Int) (A:LA),L=pre++post->Fj m A->jW rs A->(∀r∈rs,BL (Ak A (r.a,r.b)) (Cd r))->
 (∀pa p pb,L=pa++p::pb->pa.length<pre.length->∀x∈pb,∀y∈pb,x≠y->BL (Ak A (x,y)) (Ao (Ak A (x,p)) (Ak A (p,y))))->
 Fj m (Uj A post)/\jW rs (Uj A post)/\(∀r∈rs,BL (Ak (Uj A post) (r.a,r.b)) (Cd r))/\∀pa p pb,L=pa++p::pb->∀x∈pb,∀y∈pb,x≠y->BL (Ak (Uj A post) (x,y)) (Ao (Ak (Uj A post) (x,p)) (Ak (Uj A post) (p,y))):=by
 intro post;induction post with
 |nil =>
  intro pre A e h1 h2 h3 h4;rw[zbk] at e;refine⟨h1,h2,h3,λ pa p pb e2=>h4 pa p pb e2 ?_⟩;rw[<-e,e2,zav,za9];omega
 |cons p post ih =>
  intro pre A e h1 h2 h3 h4;rw[Uj];have hn:(pre++p::post).Nodup:=e▸hL;rw[zax,zbg] at hn;have bd:∀x∈post,0<=x/\x<m:=λ x hx=>hr x (by rw[e];simp[hx]);obtain⟨o,ov⟩:=cI (p:=p) hn.2.1.1 bd h1 h2;refine ih (pre++[p]) (pF A p post) (by rw[e];simp) o.ok o.sd (λ r bg=>An (o.le _) (h3 r bg)) λ pa q pb e2 ag x hx y hy ae=>?_;rw[zav,zcg] at ag;by_cases hq:pa.length<pre.length
  ·-- an mf one
   have uq:q∉post:=λ e9=>by
    have e3:pre++p::post=pa++q::pb:=by rw[<-e,e2]
    have q1:q∈pre:=by
     have:=congrArg (λ l=>l[pa.length]?) e3;rw[zc0 hq,zcu (zag _),Nat.sub_self] at this;exact zam this
    exact hn.2.2 q q1 q (za4 _ e9) rfl
   rw[o.sm x q (.inr uq),o.sm q y (.inl uq)];exact An (o.le _) (h4 pa q pb e2 hq x hx y hy ae)
  ·have hpl:pa.length=pre.length:=by omega
   have e3:pa++q::pb=pre++p::post:=by rw[<-e2,e]
   obtain⟨rfl,e4⟩:=List.append_inj e3 hpl;cases e4;rw[o.sm x p (.inr hn.2.1.1),o.sm p y (.inl hn.2.1.1)];exact ov x hx y hy ae
def N2 (hL:L.Perm (AI m))(Ar:∀r∈rs,G6 m r/\r.a≠r.b):Fj m (BX rs L)/\XA m rs (Eb L) (λ x y=>Ak (BX rs L) (x,y)):=by
 have jr:L.Nodup:=Il hL;obtain⟨a1,a2,a3⟩:=Qq Ar;obtain⟨b1,b2,b3,b4⟩:=pH jr (λ x hx=>(BW hL).mp hx) L [] (lay0 rs) rfl a1 a2 a3 (λ pa p pb _ h=>by simp at h);refine⟨b1,λ x y c h=>?_,b3,λ p x y ae h1 h2=>?_,λ x y x0 x1 y0 y1 e=>Qs ((BW hL).mpr ⟨x0,x1⟩) ((BW hL).mpr ⟨y0,y1⟩) e,λ x y c h=>Wk.nn (λ r hr=>(Ar r hr).1) h⟩
 ·have hm:(x,y)∈(Uj (lay0 rs) L).map zba:=by
   rw[<-Hv];unfold Ak at h;cases q:AJ (BX rs L) (x,y) with
   |none=>rw[q] at h;cases h
   |some z=>unfold BX at q;rw[q];rfl
  have:=b1.rg _ hm;exact⟨b2 _ _ _ h,this.1,this.2.1,this.2.2⟩
 ·have aH:∀ {x y:Int} {c:Int×Int},Ak (BX rs L) (x,y)=some c->x∈L/\y∈L:=fun {x y c} h=>by
   have hm:(x,y)∈(Uj (lay0 rs) L).map zba:=by
    rw[<-Hv];unfold Ak at h;cases q:AJ (BX rs L) (x,y) with
    |none=>rw[q] at h;cases h
    |some z=>unfold BX at q;rw[q];rfl
   have:=b1.rg _ hm;exact⟨(BW hL).mpr this.2.1,(BW hL).mpr this.2.2⟩
  have hpl:Eb L p<L.length:=zar h1 (cJ L x);obtain⟨pre,post,e,hn,d9⟩:=cL hpl;cases q1:Ak (BX rs L) (x,p) with
  |none=>cases Ak (BX rs L) (x,y)<;>exact trivial
  |some c1 =>
   cases q2:Ak (BX rs L) (p,y) with
   |none=>cases Ak (BX rs L) (x,y)<;>exact trivial
   |some c2 =>
    have r:=b4 pre p post e x (d9 x h1 (aH q1).1) y (d9 y h2 (aH q2).2) ae;rw[<-q1,<-q2];exact r
noncomputable abbrev CA:=List ((Int×Int)×(Int×Int))
abbrev Ma (C:CA):D:=.Bm true (C.map λ kv=>pD kv.1) (C.map λ kv=>cst (some kv.2))
abbrev vB (C:CA):OT:=.Bm true (C.map λ kv=>pD kv.1) ((C.map λ kv=>cst (some kv.2)).map .sh)
noncomputable abbrev RA:=List (Int×(Int×Int))
abbrev cM (R:RA):D:=.Bm false (R.map λ kv=>D.int kv.1) (R.map λ kv=>cst (some kv.2))
abbrev eI (R:RA):OT:=.Bm false (R.map λ kv=>D.int kv.1) ((R.map λ kv=>cst (some kv.2)).map .sh)
def Qt (A:LA):er (ID A)=L3 A:=Ii
def Qu (C:CA):er (vB C)=Ma C:=Ii
def Qv (R:RA):er (eI R)=cM R:=Ii
def Kw (i:Int):keyOk false (.int i)=true:=rfl
def Qw (A:LA)(p:Int×Int)(neg:Bool):J7 neg (pD p) (L3 A)=.ok (.bl (if neg=true then !(AJ A p).isSome else (AJ A p).isSome)):=by
 unfold L3 J7;dsimp only;rw[if_pos (Gx p),JM Gw]
def Qx (h:AJ A p=some v):AO (L3 A) (pD p)=.ok (XC v):=by
 unfold L3 AO;dsimp only;rw[if_pos (Gx p),Gz Gw,h];rfl
def pI (C:CA)(p:Int×Int)(neg:Bool):J7 neg (pD p) (Ma C)=.ok (.bl (if neg=true then !(AJ C p).isSome else (AJ C p).isSome)):=by
 unfold Ma J7;dsimp only;rw[if_pos (Gx p),JM Gw]
def pJ (h:AJ C p=some c):AO (Ma C) (pD p)=.ok (cst (some c)):=by
 unfold Ma AO;dsimp only;rw[if_pos (Gx p),Gz (vf:=λ c=>cst (some c)) Gw,h];rfl
def pK (C:CA)(p:Int×Int):OX (Ma C) (.ok (pD p))=.ok (cst (AJ C p)):=by
 unfold Ma OX;simp only[M.A8];rw[if_pos (Gx p),Gz (vf:=λ c=>cst (some c)) Gw];cases AJ C p<;>rfl
def pL (R:RA)(p:Int)(neg:Bool):J7 neg (.int p) (cM R)=.ok (.bl (if neg=true then !(AJ R p).isSome else (AJ R p).isSome)):=by
 unfold cM J7;dsimp only;rw[if_pos (Kw p),JM (kf:=D.int) JN]
def pM (h:AJ R p=some c):AO (cM R) (.int p)=.ok (cst (some c)):=by
 unfold cM AO;dsimp only;rw[if_pos (Kw p),Gz (kf:=D.int) (vf:=λ c=>cst (some c)) JN,h];rfl
def cN (R:RA)(p:Int):OX (cM R) (.ok (.int p))=.ok (cst (AJ R p)):=by
 unfold cM OX;simp only[M.A8];rw[if_pos (Kw p),Gz (kf:=D.int) (vf:=λ c=>cst (some c)) JN];cases AJ R p<;>rfl
def cO (A:LA)(p:Int×Int)(v:(Int×Int)×Option Int):putD (A.map λ kv=>pD kv.1) (A.map λ kv=>XC kv.2) (pD p) (XC v)=((DH A p v).map (λ kv=>pD kv.1),(DH A p v).map λ kv=>XC kv.2):=N1 Gw A p v
def pN (R:RA)(p:Int)(c:Int×Int):putD (R.map λ kv=>D.int kv.1) (R.map λ kv=>cst (some kv.2)) (.int p) (cst (some c))=((DH R p c).map (λ kv=>D.int kv.1),(DH R p c).map λ kv=>cst (some kv.2)):=N1 (kf:=D.int) (vf:=λ c=>cst (some c)) JN R p c
def W7 {α:Type}(k v:α->D):∀l:List α,Xl (l.map λ x=>.tup [k x,v x])=some (l.map λ x=>(k x,v x))
 |[]=>rfl
 |x::l=>by rw[za6,Xl,W7 k v l];rfl
def lN:∀(C C0:CA),((C0++C).map zba).Nodup->(C.map λ kv=>(pD kv.1,cst (some kv.2))).foldl (λ z kv=>putD z.1 z.2 kv.1 kv.2) (C0.map (λ kv=>pD kv.1),C0.map λ kv=>cst (some kv.2))=((C0++C).map (λ kv=>pD kv.1),(C0++C).map λ kv=>cst (some kv.2))
 |[],C0,_=>by simp
 |kv::C,C0,hn=>by
  obtain⟨p,c⟩:=kv;rw[za6,zb9];dsimp only;have h0:AJ C0 p=none:=by
   rw[cE];intro hm;rw[zaz,zax] at hn;exact hn.2.2 p hm p (by simp) rfl
  have e:DH C0 p c=C0++[(p,c)]:=by unfold DH;rw[h0];rfl
  rw[N1 (vf:=λ c=>cst (some c)) Gw,e,lN C (C0++[(p,c)]) (by rw[zcr];exact hn),zcr];rfl
def pO (hn:(C.map zba).Nodup)(hl:C.length<=1000):jB (.lst (C.map λ kv=>.tup [pD kv.1,cst (some kv.2)]))=.ok (vB C):=by
 unfold jB;dsimp only;rw[W7 (λ kv:(Int×Int)×(Int×Int)=>pD kv.1) (λ kv=>cst (some kv.2))];dsimp only;have e:=lN C [] hn;rw[if_pos ⟨by rw[za2];exact hl,by rw[List.all_map];exact List.all_eq_true.mpr λ x _=>rfl⟩];have e2:uX (C.map λ kv=>(pD kv.1,cst (some kv.2)))=(C.map (λ kv=>pD kv.1),C.map λ kv=>cst (some kv.2)):=e;rw[e2];rfl
abbrev AU (m:Nat)(rs:List Road)(L:List Int)(A:LA)(K:List (Int×Int)):D:=.ins "Ladder" ["own_map","own_order","laid","kept_ones"] [Ap m rs,.lst (L.map D.int),L3 A,.lst (K.map pD)]
structure Cw (m:Nat)(rs:List Road)(L:List Int)(A:LA)(K:List (Int×Int)):Prop where
 m1:1<=m
 m2:m<=16
 rl:rs.length<=60
 ok:∀r∈rs,G6 m r/\r.a≠r.b
 pm:L.Perm (AI m)
 la:A=BX rs L
 kn:K.Nodup
 km:∀p,p∈K↔∃c,Ak A p=some c/\BM rs p.1 p.2 (some c)
def Cw.yH {K}(h:Cw m rs L A K):Fj m A:=by
 rw[h.la];exact (N2 h.pm h.ok).1
def Cw.pE {K}(h:Cw m rs L A K):XA m rs (Eb L) (λ x y=>Ak A (x,y)):=by
 rw[h.la];exact (N2 h.pm h.ok).2
def Fd (h:Ak A p=some c):p∈A.map zba:=by
 rw[<-Hv];unfold Ak at h;cases q:AJ A p with
 |none=>rw[q] at h;cases h
 |some z=>rfl
def Cw.Y8 {K}(h:Cw m rs L A K)(hp:p∈K):p.1≠p.2/\(0<=p.1/\p.1<m)/\0<=p.2/\p.2<m:=by
 obtain⟨c,hc,_⟩:=(h.km p).mp hp;exact h.yH.rg p (Fd hc)
def Cw.kl {K}(h:Cw m rs L A K):K.length<1000:=
 Cu.len (m:=m) ⟨h.kn,λ x hx=>(h.Y8 hx).1 rfl,λ q hq=>⟨(h.Y8 hq).2.1,(h.Y8 hq).2.2⟩⟩ (by have:=h.m2;omega)
abbrev R8 (A:LA)(K:List (Int×Int)):CA:=K.map λ p=>(p,(Ak A p).getD (0,0))
def Su (A:LA)(K:List (Int×Int)):(R8 A K).map zba=K:=by
 unfold R8;rw[zbq];exact (List.map_congr_left λ p _=>rfl).trans (List.map_id K)
def Cw.kept {K}(h:Cw m rs L A K):Kept rs (λ x y=>Ak A (x,y)) (λ x y=>AJ (R8 A K) (x,y)):=λ x y c=>by
 have hn:((R8 A K).map zba).Nodup:=by rw[Su];exact h.kn
 constructor
 ·intro hf;have hm:=Uh hf;unfold R8 at hm;obtain⟨p,hp,e⟩:=zau.mp hm;obtain⟨c',hc,gp⟩:=(h.km p).mp hp;rw[hc] at e;cases e;exact⟨hc,gp⟩
 ·rintro ⟨h1,h2⟩;refine cF hn ?_;unfold R8;exact zau.mpr ⟨(x,y),(h.km (x,y)).mpr ⟨c,h1,h2⟩,by rw[show Ak A (x,y)=some c from h1];rfl⟩
abbrev zB (C:CA):CA:=C.map λ kv=>((kv.1.2,kv.1.1),kv.2)
def xE (p q:Int×Int):ZH (cst (some p)) (cst (some q))=.ok (.bl (decide (p.1<q.1\/(p.1=q.1/\p.2<q.2)))):=by
 rw[<-EW];rfl
def Um (h:WP m (λ ρ=>Gr ρ=some t/\OT.sh .AE=r) (λ o=>match o with | .ES r' ρ=>Gr ρ=some t/\r'=r | _=>False) (λ _=>False)):Ek m=.ok (t,r):=by
 cases m with
 |bad|ex x=>exact h.elim
 |ok o =>
  cases o with
  |next ρ=>obtain⟨h1,h2⟩:=(show Gr ρ=some t/\OT.sh .AE=r from h);unfold Ek;dsimp only;rw[h1,<-h2]
  |ES r' ρ=>obtain⟨h1,h2⟩:=(show Gr ρ=some t/\r'=r from h);unfold Ek;dsimp only;rw[h1,<-h2]
  |ret d|CF d|brk d|cont d=>exact h.elim
def Kx (h:ρ[i]?=some (some (.ow (.tree p t))))(hN:Zo t=true)(hF:F t au=.ok (t2,r)):RY i F ρ [] au=.ok (ρ.set i (some (toCl p t2)),r):=by
 rw[Zp h rfl rfl hN hF,F7]
def Ec:FV 0 (some (.ow (.tree p (ID A)))::ρ) []=.ok (true,A.map (λ kv=>pD kv.1),A.map λ kv=>XC kv.2):=Dk
def Hw:FV 0 (some (.ow (.tree p (eI R)))::ρ) []=.ok (false,R.map (λ kv=>D.int kv.1),R.map λ kv=>cst (some kv.2)):=Dk
def Fj.ov (h:Fj m A){u w:Int}(hu:0<=u/\u<m)(hw:0<=w/\w<m):Fj m (Qp p u A w):=by
 unfold Qp;split
 ·exact h
 ·rename_i e;exact h.lay ⟨e,hu,hw⟩
def Fj.ou {m:Nat}{p u:Int}(hu:0<=u/\u<m):∀ {H:List Int}{A:LA},Fj m A->(∀x∈H,0<=x/\x<m)->Fj m (H.foldl (Qp p u) A)
 |[],A,h,_=>h
 |w::H,A,h,hH=>by
  have r:=Fj.ou (A:=Qp p u A w) (H:=H) (p:=p) hu (h.ov hu (hH w za3)) λ x hx=>hH x (za4 _ hx);exact r
def Em {α β:Type}{f}{l:List α}{x}{b:β}(h:l[i]?=some x):(l.take (i+1)).foldl f b=f ((l.take i).foldl f b) x:=by
 rw[zc4,h,Option.toList_some,List.foldl_append];rfl
def Fj.lo {m:Nat}{p:Int}{H0:List Int}(h0:∀x∈H0,0<=x/\x<m):∀ {H:List Int}{A:LA},Fj m A->(∀x∈H,0<=x/\x<m)->Fj m (H.foldl (jV p H0) A)
 |[],A,h,_=>h
 |w::H,A,h,hH=>by
  have r:=Fj.lo (p:=p) (A:=jV p H0 A w) (H:=H) h0 (Fj.ou (hH w za3) h h0) λ x hx=>hH x (za4 _ hx);exact r
def Mb (c:Co):RS (.ok (.sh (cst c)))=.ok (.sh (cst c)):=by
 cases c<;>rfl
abbrev xF (a b:List Co×Bool):Prop:=b.2=true/\(a.2=false\/(a.2=true/\NO ltN a.1 b.1))
def pQ (x:List Co):Acc xF (x,false):=.intro _ λ y h=>by cases h.1
def pR (x:List Co):Acc xF (x,true):=by
 have:=Xo x;induction this with
 |intro x _ ih =>
  refine .intro _ λ y h=>?_;obtain⟨y,b⟩:=y;rcases h.2 with e|⟨e,h2⟩
  ·dsimp only at e;subst e;exact pQ y
  ·dsimp only at e;subst e;exact ih y h2
def Uo (n:Nat):BD 0 n=(AI n).map D.int:=by rw[Fq,MY]
def Im.xG (h:Im m r):G6 m r/\r.a≠r.b:=⟨⟨h.a0,h.a1,h.b0,h.b1,λ l hl=>(h.l0 l hl).1⟩,h.ab⟩
abbrev KP (rs:List Road)(A:LA)(p:Int×Int):Prop:=∃c,Ak A p=some c/\BM rs p.1 p.2 (some c)
abbrev tV (A:LA)(cs:List Co)(u w:Int):Bool:=match Ak A (u,w) with
 |none=>false
 |some c=>decide (some c=atC cs w)
def cP (hR:Right m s rs cs)(Ar:∀r∈rs,G6 m r){w:Int}(h0:0<=w)(h1:w<m):tV A cs s w=true↔KP rs A (s,w):=by
 have hm:=hR.lI Ar h0 h1;unfold tV KP;cases q:Ak A ((s:Int),w) with
 |none=>simp
 |some c =>
  dsimp only;constructor
  ·intro h;have e:=of_decide_eq_true h;exact⟨c,rfl,e▸hm⟩
  ·rintro ⟨c',e,h⟩;cases e;exact decide_eq_true (h.Cs hm)
def pS {K:List (Int×Int)}(hA:Fj m A)(hm:m<=20)(hn:K.Nodup)(hK:∀p∈K,KP rs A p):K.length<1000:=by
 have hr:∀p∈K,p.1≠p.2/\(0<=p.1/\p.1<m)/\0<=p.2/\p.2<m:=λ p hp=>by
  obtain⟨c,hc,_⟩:=hK p hp;exact hA.rg p (Fd hc)
 exact Cu.len (m:=m) ⟨hn,λ x hx=>(hr _ hx).1 rfl,λ q hq=>⟨(hr q hq).2.1,(hr q hq).2.2⟩⟩ hm
def Ky:∀ds:List D,(∀d∈ds,J0 d=true)->FU (ds.map .sh)=true
 |[],_=>rfl
 |d::ds,h=>by
  rw[za6,FU,Gp,h d za3,Ky ds λ x hx=>h x (za4 _ hx)];rfl
def JP {ds:List D}(h:∀d∈ds,J0 d=true):RS (.ok (.lst (ds.map .sh)))=.ok (.lst (ds.map .sh)):=by
 unfold RS;simp only[M.A8];rw[Gp,Ky ds h];rfl
def cQ (L:List Int):RS (.ok (.lst ((L.map D.int).map .sh)))=.ok (.lst ((L.map D.int).map .sh)):=JP λ d hd=>by
 obtain⟨x,_,rfl⟩:=zau.mp hd;rfl
def jX (K:List (Int×Int)):RS (.ok (.lst ((K.map pD).map .sh)))=.ok (.lst ((K.map pD).map .sh)):=JP λ d hd=>by
 obtain⟨x,_,rfl⟩:=zau.mp hd;exact ZV x
def cR (cs:List Co):RS (.ok (.lst ((cs.map cst).map .sh)))=.ok (.lst ((cs.map cst).map .sh)):=JP λ d hd=>by
 obtain⟨x,_,rfl⟩:=zau.mp hd;exact W3 x
def pT (v:(Int×Int)×Option Int):J0 (XC v)=true:=by
 obtain⟨c,l⟩:=v;cases l<;>rfl
def jY (A:LA):RS (.ok (ID A))=.ok (ID A):=by
 unfold RS ID;simp only[M.A8];rw[Gp,Ky _ λ d hd=>by
  obtain⟨x,_,rfl⟩:=zau.mp hd;exact pT x.2]
 rfl
def Qy (hn:L.Nodup)(h:L[i]?=some x):Eb L x=i:=by
 have ag:=(zak.mp h).1;have e:L=L.take i++x::L.drop (i+1):=by
  have h2:L.drop i=x::L.drop (i+1):=by
   rw[zcz ag];rw[zaa ag] at h;rw[zat h]
  rw[<-h2,zcf]
 have hx:x∉L.take i:=λ hm=>by
  rw[e,zax] at hn;exact hn.2.2 x hm x za3 rfl
 rw[e,W6 hx,zbo];omega
def W8 (hn:L.Nodup)(h:y∈L.drop i):i<=Eb L y:=by
 have hy:y∉L.take i:=λ hm=>by
  rw[<-zcf i L,zax] at hn;exact hn.2.2 y hm y h rfl
 have h1:=Qr (pre:=L.take i) (post:=L.drop i) hy;rw[zcf,zbo] at h1;have h2:L.drop i≠[]:=λ e=>by rw[e] at h;cases h
 have h3:i<L.length:=by
  rw[Ne,List.drop_eq_nil_iff] at h2;omega
 omega
def jZ (h:y∈L)(hr:i<=Eb L y):y∈L.drop i:=by
 rw[<-zcf i L] at h;rcases zaq.mp h with h|h
 ·have h1:=Uk (post:=L.drop i) h;rw[zcf,zbo] at h1;omega
 ·exact h
structure R9 (L:List Int)(C:CA)(s:Int)(i:Nat)(R:RA):Prop where
 nd:(R.map zba).Nodup
 rg:∀k∈R.map zba,k∈L
 st:BL (AJ R s) (some (0,0))
 sd:∀y c,AJ R y=some c->NZ (λ x y=>AJ C (x,y)) (Eb L) s y c
 cl:∀x y,Eb L x<i->Eb L x<Eb L y->BL (AJ R y) (Ao (AJ R x) (AJ C (x,y)))
structure lO (L:List Int)(C:CA)(s:Int)(i:Nat)(x:Int)(c0:Int×Int)(W:List Int)(R0 R:RA):Prop where
 nd:(R.map zba).Nodup
 rg:∀k∈R.map zba,k∈L
 sd:∀y c,AJ R y=some c->NZ (λ x y=>AJ C (x,y)) (Eb L) s y c
 le:∀y,BL (AJ R y) (AJ R0 y)
 sm:∀y,Eb L y<=i->AJ R y=AJ R0 y
 cw:∀y∈W,BL (AJ R y) (Ao (some c0) (AJ C (x,y)))
def lO.put {R0}(h:lO L C s i x c0 W R0 R)(hy:y∈L)(hr:i<Eb L y)(hx:Eb L x=i)(pw:AJ R0 x=some c0)(hd:AJ C (x,y)=some d)(hv:DZ (AJ R y) (some (c0.1+d.1,c0.2+d.2))=some v):lO L C s i x c0 (W++[y]) R0 (DH R y v):=by
 have hle:BL (some v) (AJ R y):=hv▸EJ _ _;refine⟨Kv h.nd,λ k hk=>(N0 hk).elim (h.rg k) λ e=>e▸hy,λ z c hz=>?_,λ z=>?_,λ z hz=>?_,λ z hz=>?_⟩
 ·rw[Hu] at hz;split at hz
  ·rename_i e;subst e;cases hz;rcases Bs (AJ R z) (some (c0.1+d.1,c0.2+d.2)) with ⟨e,_⟩|⟨e,_⟩
   ·rw[hv] at e;exact h.sd z _ e.symm
   ·rw[hv] at e;cases e;have aG:=h.sd x c0 (by rw[h.sm x (by omega)];exact pw);exact .snoc aG (by omega) hd
  ·exact h.sd z c hz
 ·rw[Hu];split
  ·rename_i e;subst e;exact An hle (h.le z)
  ·exact h.le z
 ·rw[Hu,if_neg (λ e=>by subst e;omega)];exact h.sm z hz
 ·rw[Hu];split
  ·rename_i e;subst e;rw[hd];exact hv▸EK _ _
  ·rename_i e;rcases zaq.mp hz with hz|hz
   ·exact h.cw z hz
   ·exact (e (za7.mp hz)).elim
def lO.skip {R0}(h:lO L C s i x c0 W R0 R)(hd:AJ C (x,y)=none):lO L C s i x c0 (W++[y]) R0 R:=
 ⟨h.nd,h.rg,h.sd,h.le,h.sm,λ z hz=>by
  rcases zaq.mp hz with hz|hz
  ·exact h.cw z hz
  ·rw[za7.mp hz,hd];cases AJ R y<;>exact trivial⟩
def R9.go {R0}(hC:∀p c,AJ C p=some c->p.2∈L)(h0:R9 L C s i R0)(hx:L[i]?=some x)(hn:L.Nodup)(hc:AJ R0 x=some c0)(h:lO L C s i x c0 (L.drop (i+1)) R0 R):R9 L C s (i+1) R:=by
 have ql:=Qy hn hx;refine⟨h.nd,h.rg,An (h.le s) h0.st,h.sd,λ u y hu hy=>?_⟩;by_cases e:Eb L u<i
 ·rw[h.sm u (by omega)];exact An (h.le y) (h0.cl u y e hy)
 ·have e2:Eb L u=i:=by omega
  have hi:=(zak.mp hx).1;have qm:u∈L:=Ul (by omega);have eu:u=x:=Qs qm (zam hx) (by omega);subst eu;rw[h.sm u (by omega),hc];cases q:AJ C (u,y) with
  |none=>cases AJ R y<;>exact trivial
  |some d =>
   have:=h.cw y (jZ (hC _ _ q) (by omega));rw[q] at this;exact this
def R9.skip (h0:R9 L C s i R)(hx:L[i]?=some x)(hn:L.Nodup)(hc:AJ R x=none):R9 L C s (i+1) R:=by
 have ql:=Qy hn hx;refine⟨h0.nd,h0.rg,h0.st,h0.sd,λ u y hu hy=>?_⟩;by_cases e:Eb L u<i
 ·exact h0.cl u y e hy
 ·have hi:=(zak.mp hx).1;have eu:u=x:=Qs (Ul (by omega)) (zam hx) (by omega);subst eu;rw[hc];cases AJ C (u,y)<;>cases AJ R y<;>exact trivial
def R9.start (hs:s∈L):R9 L C s 0 [(s,(0,0))]:=by
 refine⟨by simp,λ k hk=>by simp at hk;rw[hk];exact hs,by simp[AJ,BL],λ y c h=>?_,λ x y h=>by omega⟩;simp only[AJ] at h;split at h
 ·rename_i e;subst e;cases h;exact .nil
 ·cases h
def R9.zC {m:Nat}(h:R9 L C s L.length R)(hC:∀p c,AJ C p=some c->p.1∈L/\p.2∈L):uZ (Eb L) (λ x y=>AJ C (x,y)) s (AJ R):=by
 refine⟨h.st,λ x y hr=>?_,h.sd⟩;cases q:AJ C (x,y) with
 |none=>cases AJ R x<;>cases AJ R y<;>exact trivial
 |some d =>
  have hx:Eb L x<L.length:=zar hr (cJ L y);have:=h.cl x y hx hr;rw[q] at this;exact this
structure cS (m:Nat)(L:List Int)(C:CA)(s:Int)(R:RA)(W:List Int)(T:List Co):Prop where
 len:T.length=m
 no:∀x:Int,0<=x->x<m->x∉W->atC T x=none
 top:∀x∈W,BL (atC T x) (AJ R x)
 cl:∀x∈W,∀y∈W,Eb L y<Eb L x->BL (atC T y) (Ao (atC T x) (AJ C (x,y)))
 sd:∀(x:Int) c,0<=x->x<m->atC T x=some c->∃t n c1 c2,NZ (λ x y=>AJ C (x,y)) (Eb L) s t c1/\Sq (λ x y=>AJ C (x,y)) (Eb L) t n x c2/\c=(c1.1+c2.1,c1.2+c2.2)
def cS.step (hR:∀y c,AJ R y=some c->NZ (λ x y=>AJ C (x,y)) (Eb L) s y c)(h:cS m L C s R W T){y:Int}(qo:0<=y)(xl:y<m)(qr:y∉W)(hW:∀x∈W,(0<=x/\x<m)/\Eb L y<Eb L x):
 cS m L C s R (W++[y]) (T.set y.toNat (Fv (AJ R y::W.map λ x=>Ao (atC T x) (AJ C (x,y))))):=by
 obtain⟨v,hv⟩:∃v,v=Fv (AJ R y::W.map λ x=>Ao (atC T x) (AJ C (x,y))):=⟨_,rfl⟩;rw[<-hv];have aW:∀i:Int,0<=i->atC (T.set y.toNat v) i=if i=y then v else atC T i:=λ i hi=>Hs qo hi (by rw[h.len];exact xl)
 have bB:∀x∈W,x≠y:=λ x hx e=>qr (e▸hx);refine⟨by rw[zbr];exact h.len,λ x h0 h1 hx=>?_,λ x hx=>?_,λ x hx z hz hr=>?_,λ x c h0 h1 hx=>?_⟩
 ·rw[zaq,not_or] at hx;rw[aW x h0,if_neg (λ e=>hx.2 (za7.mpr e))];exact h.no x h0 h1 hx.1
 ·rcases zaq.mp hx with hx|hx
  ·rw[aW x (hW x hx).1.1,if_neg (bB x hx)];exact h.top x hx
  ·have e:=za7.mp hx;subst e;rw[aW x qo,if_pos rfl,hv];exact M7 za3
 ·rcases zaq.mp hx with aG|aG
  ·rcases zaq.mp hz with bp|bp
   ·rw[aW x (hW x aG).1.1,if_neg (bB x aG),aW z (hW z bp).1.1,if_neg (bB z bp)];exact h.cl x aG z bp hr
   ·have e:=za7.mp bp;rw[e] at hr ⊢;rw[aW x (hW x aG).1.1,if_neg (bB x aG),aW y qo,if_pos rfl,hv];exact M7 (za4 _ (zau.mpr ⟨x,aG,rfl⟩))
  ·have e:=za7.mp aG;rw[e] at hr;rcases zaq.mp hz with bp|bp
   ·have:=(hW z bp).2;omega
   ·rw[za7.mp bp] at hr;omega
 ·rw[aW x h0] at hx;split at hx
  ·rename_i e;subst e;rw[hv] at hx;rcases JG (AJ R x::W.map λ z=>Ao (atC T z) (AJ C (z,x))) with e|e
   ·rw[e] at hx;cases hx
   ·rw[hx] at e;rcases zab.mp e with e|e
    ·exact⟨x,0,c,(0,0),hR x c e.symm,.nil,by simp⟩
    ·obtain⟨z,hz,e⟩:=zau.mp e;obtain⟨p,q,e1,e2,rfl⟩:=Fb e;obtain⟨t,n,c1,c2,g1,g2,rfl⟩:=h.sd z p (hW z hz).1.1 (hW z hz).1.2 e1;exact⟨t,n+1,c1,_,g1,.snoc g2 (hW z hz).2 e2,by simp only[zdo]⟩
  ·exact h.sd x c h0 h1 hx
def cS.start:cS m L C s R [] (zai m none):=by
 have d0:∀x:Int,atC (zai m none) x=none:=λ x=>by
  unfold atC;rw[zal,zcl];split<;>rfl
 exact⟨by simp,λ x _ _ _=>d0 x,(λ x hx=>by cases hx),(λ x hx=>by cases hx),λ x c _ _ h=>by rw[d0] at h;cases h⟩
def pU (ha:0<=a/\a<NP)(hb:0<=b/\b<NP)(hg:0<=g/\g<NP)(h0:0<=i)(h1:i<8):∃l:Option Int,AO (.lst [.AE,.int 0,.int 0,.int 1,.int a,.int b,.int g,.int g]) (.int i)=.ok (Gv l)/\∀z,l=some z->0<=z/\z<NP:=by
 have ht:=Qn;have hi:i=0\/i=1\/i=2\/i=3\/i=4\/i=5\/i=6\/i=7:=by omega
 rcases hi with rfl|rfl|rfl|rfl|rfl|rfl|rfl|rfl
 ·exact⟨none,rfl,λ z e=>by cases e⟩
 ·exact⟨some 0,rfl,λ z e=>by cases e;omega⟩
 ·exact⟨some 0,rfl,λ z e=>by cases e;omega⟩
 ·exact⟨some 1,rfl,λ z e=>by cases e;omega⟩
 ·exact⟨some a,rfl,λ z e=>by cases e;exact ha⟩
 ·exact⟨some b,rfl,λ z e=>by cases e;exact hb⟩
 ·exact⟨some g,rfl,λ z e=>by cases e;exact hg⟩
 ·exact⟨some g,rfl,λ z e=>by cases e;exact hg⟩
def pV (ha:0<=a/\a<NP)(hb:0<=b/\b<NP)(h0:0<=i)(h1:i<2):∃w:Int,AO (.lst [.int a,.int b]) (.int i)=.ok (.int w)/\0<=w/\w<NP:=by
 have hi:i=0\/i=1:=by omega
 rcases hi with rfl|rfl
 ·exact⟨a,rfl,ha⟩
 ·exact⟨b,rfl,hb⟩
def kA {α:Type}{a b c d e f g h:D}{x y:α}:(if [a,b,c,d,e,f,g,h].length<=1000 then x else y)=x:=if_pos (by simp)
def W9 (r:Road):dp (.ok (Bl r))=.ok (Bl r):=by
 obtain⟨a,b,l,w⟩:=r;cases l<;>rfl
def Qz (i:Int):dp (.ok (.int i))=.ok (.int i):=rfl
def Up {x y:Int}(h:ρ[i]?=some (some (.ow (.rows (AR ac)))))(hM:Ql m ac)(h0:0<=x)(h1:x<m)(h2:0<=y)(h3:y<m):gQ i ρ (.ok (.int x)) (.ok (.int y))=.ok (cst (at2 ac x y)):=by
 unfold gQ;rw[h];simp only[M.A8];rw[Sk hM h0 h1];exact jJ hM h0 h1 h2 h3
def kB {x y:Int}(h:ρ[i]?=some (some (.ow (.rows (AR ac)))))(hM:Ql m ac)(h0:0<=x)(h1:x<m)(h2:0<=y)(h3:y<m):Vu i ρ (.ok (.int x)) (.ok (.int y)) (cst v)=.ok (.next (ρ.set i (some (.ow (.rows (AR (put2 ac x y v))))))):=by
 unfold Vu;rw[h];simp only[M.A8];rw[Sk hM h0 h1];exact jK hM h0 h1 h2 h3 i ρ v
def Sv:∀(n:Nat) (B:List (Int×Int)) (L:List Int),L.length=n->(Tp n B L).Perm L
 |0,B,L,h=>by rw[List.length_eq_zero_iff.mp h];exact .refl _
 |n+1,B,L,h=>by
  have ae:L≠[]:=λ e=>by rw[e] at h;cases h
  have hm:=(P8 (B:=B) ae).1;rw[Tp,if_neg ae];refine List.Perm.trans ?_ (List.perm_cons_erase hm).symm;exact (Sv n _ _ (by rw[List.length_erase_of_mem hm,h];rfl)).cons _
def Uq (T:List Co)(k:Nat):HB k (T.map cst)=(zb1 T.length).map λ i=>D.tup [.int ((k+i:Nat):Int),cst (atC T (i:Int))]:=by
 apply List.ext_getElem?;intro i;rw[zan];by_cases hi:i<T.length
 ·obtain⟨e,he⟩:∃e,(HB k (T.map cst))[i]?=some e:=⟨_,zaa (by rw[E8,za2];exact hi)⟩;obtain⟨d,hd,rfl⟩:=GW he;rw[he,zd9 hi];have e1:=Ds (cs:=T) (i:=(i:Int)) (by omega) (by omega);rw[zb4] at e1;rw[zan,e1] at hd;cases hd;rfl
 ·rw[zbj (by rw[E8,za2];omega),zbj (by rw[zcq];omega)];rfl
open PySem PySem.Spec PyProof.Rows PySem.W
abbrev Wa {α:Type}(c:Nat->Nat->Bool)(n:Nat):KasT α->(α->Prop)->Prop
 | .ret a,Q=>Q a
 | .ask i j k,Q=>i<n/\j<n/\Wa c n (k (c i j)) Q
section
variable {c:Nat->Nat->Bool}{n:Nat}
def Fe {α β:Type}{f}{Q:β->Prop}:∀t:KasT α,Wa c n t (λ a=>Wa c n (f a) Q)->Wa c n (t.bind f) Q
 | .ret a,h=>h
 | .ask i j k,h=>⟨h.1,h.2.1,Fe (k (c i j)) h.2.2⟩
def Dx {α:Type}{Q Q'}(hq:∀a,Q a->Q' a):∀t:KasT α,Wa c n t Q->Wa c n t Q'
 | .ret a,h=>hq a h
 | .ask i j k,h=>⟨h.1,h.2.1,Dx hq (k (c i j)) h.2.2⟩
def cT {α:Type}(hc:∀i j C,i<n->j<n->C (c i j) s->cmp i j C s){Q}{G}(hG:∀a,Q a->G a s):∀t:KasT α,Wa c n t Q->t.kasWp cmp G s
 | .ret a,h=>hG a h
 | .ask i j k,h=>hc i j _ h.1 h.2.1 (cT hc hG (k (c i j)) h.2.2)
end
section
variable {f:Nat->Int}{n:Nat}
abbrev gK (f:Nat->Int)(p:Array Nat)(i:Nat):Int:=f (p.getD i 0)
abbrev cK (f:Nat->Int)(i j:Nat):Bool:=decide (f i<f j)
structure IE (n:Nat)(p:Array Nat):Prop where
 pm:p.toList.Perm (zb1 n)
abbrev Inj (f:Nat->Int)(n:Nat):Prop:=∀i j,i<n->j<n->f i=f j->i=j
def IE.size (h:IE n p):p.size=n:=by
 have:=h.pm.length_eq;simpa using this
def pW {p:Array Nat}(h:p[i]?=some x):p.getD i 0=x:=by
 rw[zbu,h];rfl
def IE.at' (h:IE n p)(hi:i<n):p[i]?=some (p.getD i 0):=by
 have hs:i<p.size:=by rw[h.size];exact hi
 rw[zay hs,pW (zay hs)]
def IE.lt (h:IE n p)(hn:0<n)(i:Nat):p.getD i 0<n:=by
 by_cases hi:i<n
 ·have:=Array.mem_of_getElem? (h.at' hi);have:=h.pm.mem_iff.mp (Array.mem_toList_iff.mpr this);simpa using this
 ·rw[zbu,zdg (by rw[h.size];omega)];exact hn
def IE.ne (h:IE n p)(hf:Inj f n)(hi:i<n)(hj:j<n)(ae:i≠j):gK f p i≠gK f p j:=λ e=>by
 have e2:=hf _ _ (h.lt (by omega) i) (h.lt (by omega) j) e;have jr:p.toList.Nodup:=h.pm.nodup_iff.mpr List.nodup_range;have a1:=h.at' hi;have a2:=h.at' hj;rw[e2] at a1;rw[<-zce] at a1 a2;have xm:i<p.toList.length:=by rw[zc2,h.size];exact hi
 exact ae ((List.getElem?_inj xm jr).mp (a1.trans a2.symm))
def IE.zD (h:IE n p)(s d:Nat):IE n (bubble p s d):=⟨(Array.perm_iff_toList_perm.mp (bubble_perm p s d)).trans h.pm⟩
def IE.zE (h:IE n p)(i j d:Nat):IE n (mirror p i j d):=⟨(Array.perm_iff_toList_perm.mp (mirror_perm p i j d)).trans h.pm⟩
abbrev Y5 (f:Nat->Int)(p:Array Nat)(k:Nat):Prop:=∀i j,i<j->j<k->gK f p i<gK f p j
abbrev vC (f:Nat->Int)(p:Array Nat)(k:Nat):Prop:=∀i j,i<j->j<k->gK f p j<gK f p i
def Ur {p:Array Nat}(h:IE n p)(hf:Inj f n):∀(u m:Nat),1<=m->m+u<=n->Y5 f p m->Wa (cK f) n (kas_asc p u m) λ m'=>m<=m'/\m'<=m+u/\Y5 f p m'/\(m'<m+u->gK f p m'<gK f p (m'-1))
 |0,m,h1,h2,hs=>⟨zag _,zag _,hs,λ z=>absurd z (zdb _)⟩
 |u+1,m,h1,h2,hs=>by
  refine⟨h.lt (by omega) _,h.lt (by omega) _,?_⟩;by_cases e:gK f p m<gK f p (m-1)
  ·rw[show cK f (p.getD m 0) (p.getD (m-1) 0)=true from decide_eq_true e];dsimp only;rw[if_pos rfl];exact⟨zag _,by omega,hs,λ _=>e⟩
  ·rw[show cK f (p.getD m 0) (p.getD (m-1) 0)=false from decide_eq_false e];dsimp only;rw[if_neg zao];have ne:=h.ne hf (i:=m) (j:=m-1) (by omega) (by omega) (by omega);have a8:Y5 f p (m+1):=λ i j b8 hj=>by
    by_cases ej:j=m
    ·subst ej;by_cases ei:i=j-1
     ·subst ei;omega
     ·have:=hs i (j-1) (by omega) (by omega);omega
    ·exact hs i j b8 (by omega)
   refine Dx (λ m' hm=>⟨by omega,by omega,hm.2.2.1,λ z=>hm.2.2.2 (by omega)⟩) _ (Ur h hf u (m+1) (by omega) (by omega) a8)
def Wb {p:Array Nat}(h:IE n p)(hf:Inj f n):∀(u m:Nat),1<=m->m+u<=n->vC f p m->Wa (cK f) n (kas_desc u p m 0) λ r=>r.1=p/\r.2.2=0/\m<=r.2.1/\r.2.1<=m+u/\vC f p r.2.1
 |0,m,h1,h2,hs=>⟨rfl,rfl,zag _,zag _,hs⟩
 |u+1,m,h1,h2,hs=>by
  refine⟨h.lt (by omega) _,h.lt (by omega) _,?_⟩;by_cases e:gK f p m<gK f p (m-1)
  ·rw[show cK f (p.getD m 0) (p.getD (m-1) 0)=true from decide_eq_true e];dsimp only;rw[if_pos rfl,if_neg (by omega)];have a8:vC f p (m+1):=λ i j b8 hj=>by
    by_cases ej:j=m
    ·subst ej;by_cases ei:i=j-1
     ·subst ei;exact e
     ·have:=hs i (j-1) (by omega) (by omega);omega
    ·exact hs i j b8 (by omega)
   exact Dx (λ r hm=>⟨hm.1,hm.2.1,by omega,by omega,hm.2.2.2.2⟩) _ (Wb h hf u (m+1) (by omega) (by omega) a8)
  ·rw[show cK f (p.getD m 0) (p.getD (m-1) 0)=false from decide_eq_false e];dsimp only;rw[if_neg zao];have ne:=h.ne hf (i:=m) (j:=m-1) (by omega) (by omega) (by omega);have e2:gK f p (m-1)<gK f p m:=by omega
   refine⟨h.lt (by omega) _,h.lt (by omega) _,?_⟩;rw[show cK f (p.getD (m-1) 0) (p.getD m 0)=true from decide_eq_true e2];dsimp only;rw[if_pos rfl];exact⟨rfl,rfl,zag _,Nat.le_add_right _ _,hs⟩
def Wc (h:IE n p)(hm:m<=n)(hk:k<m):gK f (kas_rev p 0 m) k=gK f p (m-1-k):=by
 unfold gK kas_rev;have:=getElem?_mirror_all (xs:=p) (i:=0) (j:=m) (by rw[h.size];exact hm) k;rw[if_pos ⟨zb0 _,hk⟩,Nat.zero_add] at this;rw[zbu,this,<-zbu]
def kC (h:IE n p)(hf:Inj f n)(h1:1<=m)(h2:m<=n)(hs:vC f p m):Wa (cK f) n (kas_tail3 m n p) λ r=>IE n r.2/\1<=r.1/\r.1<=n/\Y5 f r.2 r.1:=by
 unfold kas_tail3;have hp:IE n (kas_rev p 0 m):=h.zE _ _ _;have a8:Y5 f (kas_rev p 0 m) m:=λ i j b8 hj=>by
  rw[Wc h h2 (by omega),Wc h h2 hj];exact hs _ _ (by omega) (by omega)
 refine Fe _ (Dx (λ m' hm=>?_) _ (Ur hp hf (n-m) m h1 (by omega) a8));exact⟨hp,by omega,by omega,hm.2.2.1⟩
def cU (h:IE n p)(hf:Inj f n)(h2:2<=n):Wa (cK f) n (kas_count n p) λ r=>IE n r.2/\1<=r.1/\r.1<=n/\Y5 f r.2 r.1:=by
 unfold kas_count;refine Fe _ (Dx (λ m hm=>?_) _ (Ur h hf (n-1) 1 (zag _) (by omega) λ i j b8 hj=>by omega));by_cases e:m=n
 ·rw[if_pos (by simp[e])];exact⟨h,by omega,by omega,hm.2.2.1⟩
 ·rw[if_neg (by simp[e])];by_cases e1:m > 1
  ·rw[if_pos e1];refine⟨h.lt (by omega) _,h.lt (by omega) _,?_⟩;rw[show cK f (p.getD 0 0) (p.getD (m-1) 0)=true from decide_eq_true (hm.2.2.1 0 (m-1) (by omega) (by omega))];dsimp only;rw[if_pos rfl];exact⟨h,by omega,by omega,hm.2.2.1⟩
  ·rw[if_neg e1];have em:m=1:=by omega
   subst em;have hd:gK f p 1<gK f p 0:=hm.2.2.2 (by omega);unfold kas_descPart;refine Fe _ (Dx (λ r hr=>?_) _ (Wb h hf (n-(1+1)) (1+1) (by omega) (by omega) λ i j b8 hj=>?_))
   ·obtain⟨r1,r2,r3,r4,r5⟩:=hr;rw[if_neg (by omega),r1];exact kC h hf (by omega) (by omega) r5
   ·have ei:i=0:=by omega
    have ej:j=1:=by omega
    subst ei ej;exact hd
def N3 {p:Array Nat}(h:IE n p){k:Nat}(hk:k<n)(hs:Y5 f p k):∀(u l r:Nat),l<=r->r<=k->r-l<=u->(∀i,i<l->¬ gK f p k<gK f p i)->(∀i,r<=i->i<k->gK f p k<gK f p i)->
 Wa (cK f) n (kas_place p k u l r) λ l'=>l'<=k/\(∀i,i<l'->¬ gK f p k<gK f p i)/\∀i,l'<=i->i<k->gK f p k<gK f p i
 |0,l,r,h1,h2,h3,ha,hb=>by
  have:l=r:=by omega
  subst this;exact⟨h2,ha,hb⟩
 |u+1,l,r,h1,h2,h3,ha,hb=>by
  unfold kas_place;by_cases e:l >= r
  ·rw[if_pos e];have:l=r:=by omega
   subst this;exact⟨h2,ha,hb⟩
  ·rw[if_neg e];have bL:l<=(l+r) / 2:=by omega
   have aZ:(l+r) / 2<r:=by omega
   refine⟨h.lt (by omega) _,h.lt (by omega) _,?_⟩;by_cases q:gK f p k<gK f p ((l+r) / 2)
   ·rw[show cK f (p.getD k 0) (p.getD ((l+r) / 2) 0)=true from decide_eq_true q];dsimp only;rw[if_pos rfl];refine N3 h hk hs u l _ bL (by omega) (by omega) ha λ i hi1 ur=>?_;by_cases ei:i=(l+r) / 2
    ·subst ei;exact q
    ·have:=hs ((l+r) / 2) i (by omega) ur;omega
   ·rw[show cK f (p.getD k 0) (p.getD ((l+r) / 2) 0)=false from decide_eq_false q];dsimp only;rw[if_neg zao];refine N3 h hk hs u _ r (by omega) h2 (by omega) (λ i hi=>?_) hb;by_cases ei:i=(l+r) / 2
    ·subst ei;exact q
    ·have:=hs i ((l+r) / 2) (by omega) (by omega);omega
def Wd (h:IE n p)(hk:k<n)(hl:l<=k)(i:Nat):gK f (bubble p k (k-l)) i=if i=l then gK f p k else if l<i/\i<=k then gK f p (i-1) else gK f p i:=by
 unfold gK;have:=getElem?_bubble (xs:=p) (src:=k) (by rw[h.size];exact hk) (k-l) (by omega) i;have e:k-(k-l)=l:=by omega
 rw[e] at this;rw[zbu,this];split
 ·rw[<-zbu]
 ·split<;>rw[<-zbu]
def cV (hf:Inj f n):∀(u k:Nat){p:Array Nat},k+u=n->IE n p->Y5 f p k->Wa (cK f) n (kas_bin u p k) λ p'=>IE n p'/\Y5 f p' n
 |0,k,p,e,h,hs=>by
  have:k=n:=by omega
  subst this;exact⟨h,hs⟩
 |u+1,k,p,e,h,hs=>by
  unfold kas_bin;refine Fe _ (Dx (λ l hl=>?_) _ (N3 h (by omega) hs k 0 k (zb0 _) (zag _) (by omega) (λ i hi=>absurd hi (by omega)) λ i h1 h2=>absurd h2 (by omega)));obtain⟨im,ha,hb⟩:=hl;refine cV hf u (k+1) (by omega) (h.zD _ _) λ i j b8 hj=>?_;rw[Wd h (by omega) im,Wd h (by omega) im];have lo:∀i,i<l->gK f p i<gK f p k:=λ i hi=>by
   have:=ha i hi;have:=h.ne hf (i:=i) (j:=k) (by omega) (by omega) (by omega);omega
  by_cases ei:i=l
  ·rw[if_pos ei,if_neg (by omega),if_pos (by omega)];exact hb _ (by omega) (by omega)
  ·rw[if_neg ei];by_cases ej:j=l
   ·rw[if_pos ej,if_neg (by omega)];exact lo i (by omega)
   ·rw[if_neg ej];by_cases bi:l<i/\i<=k
    ·rw[if_pos bi,if_pos (by omega)];exact hs _ _ (by omega) (by omega)
    ·rw[if_neg bi];by_cases bj:l<j/\j<=k
     ·rw[if_pos bj];exact hs _ _ (by omega) (by omega)
     ·rw[if_neg bj];exact hs _ _ b8 (by omega)
def kD (hf:Inj f n)(h2:2<=n):Wa (cK f) n (kas_sort n) λ p'=>IE n p'/\Y5 f p' n:=by
 unfold kas_sort;have h0:IE n (List.toArray (zb1 n)):=⟨by simp⟩;refine Fe _ (Dx (λ r hr=>?_) _ (cU h0 hf h2));obtain⟨r1,r2,r3,r4⟩:=hr;by_cases e:r.1<n
 ·rw[if_pos e];have em:max r.1 1=r.1:=by omega
  rw[em];exact cV hf (n-r.1) r.1 (by omega) r1 r4
 ·rw[if_neg e];have en:r.1=n:=by omega
  rw[en] at r4;exact⟨r1,r4⟩
end
abbrev kE (p q:Int×Int):Bool:=decide (p.1<q.1\/(p.1=q.1/\p.2<q.2))
section
variable {P:Program}{w:World}{A:Around}{s:Shared}
abbrev IF (q:Int×Int):Int:=q.1*1000+q.2
def pX (hp:0<=p.2/\p.2<1000)(hq:0<=q.2/\q.2<1000):kE p q=decide (IF p<IF q):=by
 unfold kE IF;congr 1;apply propext;constructor<;>intro h<;>omega
def We (hp:0<=p.2/\p.2<1000)(hq:0<=q.2/\q.2<1000)(h:IF p=IF q):p=q:=by
 unfold IF at h;exact Prod.ext (by omega) (by omega)
structure pY (P:Program)(w:World)(A:Around)(κ:SortKind)(Pr:Heap->Value->Int×Int->Prop):Prop where
 keep:∀(h h':Heap) v q,Pr h v q->(∀b o,o.cls≠.type "list" -> h.get? b=some o->h'.get? b=some o)->Pr h' v q
 lt:∀(E:Value->Shared->Prop) (s:Shared) v v' p q (C:Bool->Shared->Prop),Pr s.heap v p->Pr s.heap v' q->C (kE p q) s->wpAny (model P w) A (keyLt' κ v v') C E s
 kind:∀(E:Value->Shared->Prop) (s:Shared) (vs:List Value) (Q:SortKind->Shared->Prop),0<vs.length->(∀v∈vs,∃q,Pr s.heap v q)->Q κ s->wpAny (model P w) A (keyKind' vs.toArray) Q E s
def Us {κ:SortKind}(SK:pY P w A κ Pr){ps:List (Int×Int)}(ho:s.heap.get? a=some (seqObj "list" vs.toArray n))(gq:vs.length<64)(hl:ps.length=vs.length)(hv:∀(i:Nat) v q,vs[i]?=some v->ps[i]?=some q->Pr s.heap v q)(hb:∀q∈ps,0<=q.2/\q.2<1000)(hn:ps.Nodup)(h:∀(I:List Nat),I.Perm (zb1 vs.length)->(I.map λ i=>ps.getD i (0,0)).Pairwise (λ p q=>IF p<IF q)->Q (.done (.ret .none)) {s with heap:=sortedHeap s.heap a vs (I.map λ i=>vs.getD i zdc).toArray}):
 wpAny (model P w) A (Builtin.«list.sort» ⟨[.ref a],[]⟩) Q E s:=by
 rw[list_sort_plain];have ha:a<s.heap.objs.size:=zaf ho;apply wpAny_bind;apply listItems_at ho rfl;apply wpAny_bind;refine listUpdate_at ho rfl ?_ (by rw[zae,sizeLine_eq];omega) (zb0 _);obtain⟨e1,ut⟩:∃e1,(s.heap.update a (zc5 λ _=>(#[]:Array Value))).get? a=some (seqObj "list" #[] e1):=⟨_,get?_update_seq ho λ _=>#[]⟩;apply wpAny_bind;apply seqEpoch_at ut rfl;apply wpAny_bind;refine wpAny_newTuple ?_ (by show vs.length<=_;rw[sizeLine_eq];omega);apply wpAny_bind;refine wpAny_newList ?_ (zb0 _);apply wpAny_holding;have jw:(((s.heap.update a (zc5 λ _=>(#[]:Array Value))).push (seqObj "tuple" vs.toArray 0)).push (seqObj "list" #[] 0)).get? a=some (seqObj "list" #[] e1):=za5 _ (za5 _ ut);show wpAny (model P w) A _ Q E {s with heap:=((s.heap.update a (zc5 λ _=>(#[]:Array Value))).push (seqObj "tuple" vs.toArray 0)).push (seqObj "list" #[] 0)};dsimp only;obtain⟨h6,qt⟩:∃h6,h6=((s.heap.update a (zc5 λ _=>(#[]:Array Value))).push (seqObj "tuple" vs.toArray 0)).push (seqObj "list" #[] 0):=⟨_,rfl⟩;have fin:∀(I:List Nat),I.Perm (zb1 vs.length)->(I.map λ i=>ps.getD i (0,0)).Pairwise (λ p q=>IF p<IF q)->∀(z:Array Value),z=(I.map λ i=>vs.getD i zdc).toArray->Q (.done (.ret .none)) {s with heap:=h6.update a (zc5 λ _=>z)}:=λ I i1 i2 z hz=>by
  rw[hz,qt];exact h I i1 i2
 rw[<-qt] at jw ⊢;have kp:∀b o,b≠a->s.heap.get? b=some o->h6.get? b=some o:=λ b o hb e=>by
  rw[qt];exact za5 _ (za5 _ ((Heap.get?_update_ne _ _ _ _ hb).trans e))
 have xn:∀(i:Nat) v q,vs[i]?=some v->ps[i]?=some q->Pr h6 v q:=λ i v q hi hq=>SK.keep _ _ _ _ (hv i v q hi hq) λ b o hc e=>kp b o (λ z=>by rw[z,ho] at e;cases e;exact hc rfl) e;by_cases h2:vs.toArray.size<2
 ·rw[if_pos h2,if_pos h2];refine wpAny_bind (wpAny_pure ?_);rw[StateT.run_pure];refine wpAny_bind (wpAny_pure ?_);dsimp only;have ez:(arrOf (SortSt.mk' general' (vs.toArray.zip vs.toArray) #[] 7 none)).map (·.2)=((zb1 vs.length).map λ i=>vs.getD i zdc).toArray:=by
   show (vs.toArray.zip vs.toArray).map (·.2)=_;apply Array.ext_getElem?;intro i;simp only[Array.getElem?_map,List.getElem?_toArray,zan];by_cases hi:i<vs.length
   ·rw[zd9 hi];simp[Array.getElem?_zip_eq_some,hi,zal]
   ·rw[zbj (by simp;omega),zdg (by simp;omega)];rfl
  apply wpAny_bind;apply seqEpoch_at jw rfl;apply wpAny_bind;refine listUpdate_at jw rfl ?_ (zb0 _) (by rw[ez];simp;rw[sizeLine_eq];omega);simp only[bne_self_eq_false,zas,if_false];refine wpAny_pure (fin _ (.refl _) ?_ _ ez);rw[zae] at h2;have ar:((zb1 vs.length).map λ i=>ps.getD i (0,0)).length<2:=by simpa using h2
  match hq:(zb1 vs.length).map λ i=>ps.getD i (0,0),ar with
  |[],_=>exact .nil
  |[x],_=>exact List.pairwise_singleton _ _
  |x::y::r,z=>exact absurd z (by simp only[za9];omega)
 ·rw[if_neg h2,if_neg h2];rw[zae] at h2;have f0:∀i,i<vs.length->∃v q,vs[i]?=some v/\ps[i]?=some q/\vs.getD i zdc=v/\ps.getD i (0,0)=q/\Pr h6 v q/\0<=q.2/\q.2<1000:=λ i hi=>by
   have a1:vs[i]?=some vs[i]:=zaa hi;have a2:ps[i]?=some (ps[i]'(by omega)):=zaa _;exact⟨_,_,a1,a2,by rw[zal,a1];rfl,by rw[zal,a2];rfl,xn i _ _ a1 a2,hb _ (zam a2)⟩
  apply wpAny_bind;refine SK.kind _ {s with heap:=h6} _ _ (by omega) (λ v hv=>?_) ?_
  ·obtain⟨i,hi⟩:=List.mem_iff_getElem?.mp hv;obtain⟨v',q,b1,_,_,_,b5,_⟩:=f0 i (zak.mp hi).1;rw[hi] at b1;cases b1;exact⟨q,b5⟩
  have qu:Inj (λ i=>IF (ps.getD i (0,0))) vs.length:=λ i j hi hj e=>by
   obtain⟨_,q,_,b2,_,b4,_,b6⟩:=f0 i hi;obtain⟨_,q',_,d2,_,d4,_,d6⟩:=f0 j hj;dsimp only at e;rw[b4,d4] at e;have:=We b6 d6 e;subst this;exact (List.getElem?_inj (by omega) hn).mp (b2.trans d2.symm)
  have qv:∀(i j:Nat) (C:Bool->Shared->Prop),i<vs.length->j<vs.length->C (cK (λ i=>IF (ps.getD i (0,0))) i j) {s with heap:=h6}->kas_ask P w A κ vs i j C {s with heap:=h6}:=λ i j C hi hj hC=>by
   obtain⟨v,q,_,_,b3,b4,b5,b6⟩:=f0 i hi;obtain⟨v',q',_,_,d3,d4,d5,d6⟩:=f0 j hj;unfold kas_ask;rw[b3,d3];refine SK.lt _ {s with heap:=h6} _ _ _ _ _ b5 d5 ?_;subst b4 d4;rw[pX b6 d6];exact hC
  refine wpAny_bind (wpAny_mono (kat_run (ks:=vs) (vs:=vs) (κ:=κ) (s:={s with heap:=h6}) (Q:=λ bn s'=>∃p:Array Nat,arrOf bn=p.map (kas_item (vs.toArray.zip vs.toArray))/\failedOf bn=none/\IE vs.length p/\Y5 (λ i=>IF (ps.getD i (0,0))) p vs.length/\s'={s with heap:=h6}) (G:=λ p s'=>IE vs.length p/\Y5 (λ i=>IF (ps.getD i (0,0))) p vs.length/\s'={s with heap:=h6})
   rfl (by omega) gq (λ p bn s' _ a2 a3 a4=>⟨p,a2,a3,a4⟩) (cT qv (λ p hp=>⟨hp.1,hp.2,rfl⟩) _ (kD qu (by omega)))) ?_ λ _ _ e=>e)
  rintro ⟨⟨⟩,bn⟩ s' ⟨p,xp,hf,hp,xq,rfl⟩;dsimp only;have jx:=kat_snds rfl xp;apply wpAny_bind;apply seqEpoch_at jw rfl;apply wpAny_bind;refine listUpdate_at jw rfl ?_ (zb0 _) (by rw[jx];simp;rw[hp.size,sizeLine_eq];omega);rw[hf];simp only[bne_self_eq_false,zas,if_false];refine wpAny_pure (fin p.toList hp.pm ?_ _ jx);rw[zdm,List.pairwise_iff_getElem];intro i j hi hj b8;rw[zc2,hp.size] at hi hj;have:=xq i j b8 hj;unfold gK at this;have g1:=hp.at' hi;have g2:=hp.at' hj;rw[<-zce,zak] at g1 g2;obtain⟨_,g1⟩:=g1;obtain⟨_,g2⟩:=g2;rw[g1,g2];exact this
end
abbrev XF (x:Int×Int):List (Int×Int)->List (Int×Int)
 |[]=>[x]
 |y::r=>if IF x<IF y then x::y::r else y::XF x r
abbrev HE:List (Int×Int)->List (Int×Int)
 |[]=>[]
 |x::r=>XF x (HE r)
def Kz (x:Int×Int):∀l,(XF x l).Perm (x::l)
 |[]=>.refl _
 |y::r=>by
  unfold XF;split
  ·exact .refl _
  ·exact ((Kz x r).cons y).trans (.swap x y r)
def Fw:∀l,(HE l).Perm l
 |[]=>.refl _
 |x::r=>(Kz x (HE r)).trans ((Fw r).cons x)
def Wf {x:Int×Int}:∀ {l:List (Int×Int)},(∀y∈l,IF x≠IF y)->l.Pairwise (λ p q=>IF p<IF q)->(XF x l).Pairwise λ p q=>IF p<IF q
 |[],_,_=>List.pairwise_singleton _ _
 |y::r,hx,h=>by
  unfold XF;have hy:=zbt.mp h;split
  ·rename_i bB;exact zbt.mpr ⟨λ z hz=>by
    rcases zab.mp hz with rfl|hz
    ·exact bB
    ·have:=hy.1 z hz;omega,h⟩
  ·rename_i bB;have:=hx y za3;exact zbt.mpr ⟨λ z hz=>by
    rcases zab.mp ((Kz x r).mem_iff.mp hz) with rfl|hz
    ·omega
    ·exact hy.1 z hz,Wf (λ z hz=>hx z (za4 _ hz)) hy.2⟩
def Sw:∀ {l:List (Int×Int)},(∀q∈l,0<=q.2/\q.2<1000)->l.Nodup->(HE l).Pairwise λ p q=>IF p<IF q
 |[],_,_=>.nil
 |x::r,hb,hn=>by
  have bm:=zbg.mp hn;refine Wf (λ y hy e=>?_) (Sw (λ q hq=>hb q (za4 _ hq)) bm.2);have uu:=(Fw r).mem_iff.mp hy;have:=We (hb x za3) (hb y (za4 _ uu)) e;subst this;exact bm.1 uu
def Wg:∀ {a b:List (Int×Int)},a.Perm b->a.Pairwise (λ p q=>IF p<IF q)->b.Pairwise (λ p q=>IF p<IF q)->a=b
 |[],b,hp,_,_=>(List.nil_perm.mp hp).symm
 |x::r,[],hp,_,_=>by have:=hp.length_eq;simp at this
 |x::r,y::t,hp,ha,hb=>by
  have bC:=zbt.mp ha;have a7:=zbt.mp hb;have e:x=y:=by
   have h1:x∈y::t:=hp.mem_iff.mp za3;have h2:y∈x::r:=hp.mem_iff.mpr za3;rcases zab.mp h1 with e|h1
   ·exact e
   rcases zab.mp h2 with e|h2
   ·exact e.symm
   have:=bC.1 _ h2;have:=a7.1 _ h1;omega
  subst e;rw[Wg (List.Perm.cons_inv hp) bC.2 a7.2]
section
variable {c:Bool}{P:Addr->Prop}{H:Hp}{a b:Expr}{f g:Ac->M D}
def Sx:∀l:List Addr,Vals (l.map V.ref) (l.map zbh)
 |[]=>.nil
 |t::r=>.cons rfl (Sx r)
end
def Wh (m:Nat):(AI m).Pairwise (· < ·):=by
 unfold AI;exact zdm.mpr (List.pairwise_lt_range.imp fun {a b} de=>by show (a:Int)<b;omega)
def Ut (hr:r∈rs)(hl:r.l=some l)(w:Wk rs r.b g c)(h:BM rs r.a g (some (l+c.1,1+c.2))):BM rs r.b g (some c):=by
 refine⟨λ d hd=>?_,λ p hp=>by cases hp;exact w⟩;have:=h.1 _ (.cons hr hl hd);simp only[BL] at this ⊢;omega
def QA (Ar:∀r∈rs,G6 m r/\r.a≠r.b)(h:Wk rs u g c)(hu:0<=u/\u<m):BM rs u g (some c)->∃V:List Int,V.Nodup/\(V.length:Int)=c.2+1/\∀v∈V,(0<=v/\v<m)/\∃d,BM rs v g (some d)/\d.2<=c.2:=by
 induction h with
 |nil u=>exact λ hm=>⟨[u],by simp,rfl,λ v hv=>by rw[za7.mp hv];exact⟨hu,_,hm,Int.le_refl _⟩⟩
 | @cons r l g c hr hl w ih =>
  intro hm;have ok:=(Ar r hr).1;obtain⟨V,h1,h2,h3⟩:=ih ⟨ok.b0,ok.b1⟩ (Ut hr hl w hm);refine⟨r.a::V,zbg.mpr ⟨λ z=>?_,h1⟩,by rw[za9];omega,λ v hv=>?_⟩
  ·obtain⟨_,d,hd,ar⟩:=h3 _ z;have:=hd.Cs hm;cases this;omega
  ·rcases zab.mp hv with rfl|hv
   ·exact⟨hu,_,hm,Int.le_refl _⟩
   ·obtain⟨a,d,hd,ar⟩:=h3 _ hv;exact⟨a,d,hd,by omega⟩
def Sy (Ar:∀r∈rs,G6 m r/\r.a≠r.b){u:Int}(hu:0<=u/\u<m)(h:BM rs u g (some c)):c.2<m:=by
 obtain⟨V,h1,h2,h3⟩:=QA Ar (h.2 c rfl) hu h;have:=Ht h1 (u:=AI m) λ v hv=>by
  obtain⟨⟨a,b⟩,_⟩:=h3 v hv;exact zau.mpr ⟨v.toNat,zcy.mpr (by omega),by omega⟩
 rw[BV] at this;omega
abbrev vD (K:za0)(fd:FuncData)(ps:List Str)(key:Str):Prop:=∀(s:Shared) (us:List Value) (w:Value),K.In s.heap->us.length+1=ps.length->BindsTo s fd ⟨us,[(key,w)]⟩ (ps.zip (us++[w]))
section
variable {P:Program}{w:World}{K:za0}
def tW {st}(F:ZL K x qual st f fd)(S:Ad N ps (A4 st))(g:Ac->M Out)(hb:∀(B2:Value) (A:Around) (outer:List Env) (s:Shared) (H:Hp) (E:XK),Bp k (A.deeper (envOfC qual (A4 st) s.heap.objs.size f B2))->R7 (eG P w K mg base N qual (A4 st) f B2 A outer s H E) (CQ K E) (Aw st) g):
 D5 P w K mg base (U2 P w base) (k+1) f fd ps (spT K ps.length λ ds=>RU (g (AB N ds))):=by
 obtain⟨oc,od,dV,kV,doc,pm,an,B2,ct,Rp,rfl,lk,aR⟩:=F.ex;refine Ro lk aR S (λ vs H Q E h=>h.1) λ A outer s H vs Q E hr h=>?_;obtain⟨hl,P',ds,ht,hv,hq⟩:=h;obtain⟨t,h1,h2⟩:=hb B2 A outer s H E hr;refine⟨t,h1,h2 ⟨P',λ _=>0⟩ P' _ H _ _ (Km ht hv) ?_⟩;dsimp only at hq;revert hq;cases g (AB N ds) with
 |bad=>exact λ h=>h.elim
 |ex x=>exact λ h H' P2 t=>h H' (CB t)
 |ok o =>
  cases o with
  |ret d=>exact λ h v H' P2 t hv=>h v [] H' (CB t) (λ a ha=>by cases ha) zbz (.sh (by rw[Qb];exact hv))
  |next ρ=>exact λ h σ' H' P2 t E=>h .AE [] H' (CB t) (λ a ha=>by cases ha) zbz (.sh .AE)
  |brk ρ|cont ρ=>exact λ h=>h.elim
  |CF c=>exact λ h v fp H' P2 t hs ht ho hp nd=>Vx h t hs ho hp nd
  |ES d ρ=>exact λ h=>h.elim
end
abbrev eJ (xs:Array Nat):Prop:=∀i j:Nat,i<j->(hj:j<xs.size)->xs.getD i 0<xs.getD j 0
def Sz {xs:Array Nat}(h:i<xs.size)(a b:Nat):xs.getD i a=xs.getD i b:=by simp[Array.getD,h]
def cW {xs:Array Nat}{j:Nat}(R:eJ xs):∀(ax lo hi:Nat),hi-lo<=ax->lo<=hi->hi<=xs.size->(∀i,i<lo->xs.getD i 0<j)->(∀i,hi<=i->i<xs.size->j<=xs.getD i 0)->
 lo<=zd8 xs j ax lo hi/\zd8 xs j ax lo hi<=hi/\(∀i,i<zd8 xs j ax lo hi->xs.getD i 0<j)/\∀i,zd8 xs j ax lo hi<=i->i<xs.size->j<=xs.getD i 0:=by
 intro ax;induction ax with
 |zero =>
  intro lo hi hf hl hs h1 h2;have e:lo=hi:=by omega
  subst e;unfold zd8;exact⟨zag _,zag _,h1,h2⟩
 |succ ax ih =>
  intro lo hi hf hl hs h1 h2;unfold zd8;by_cases c:lo<hi
  ·rw[if_pos c];dsimp only;have hm:(lo+hi) / 2<xs.size:=by omega
   by_cases d:xs.getD ((lo+hi) / 2) j<j
   ·rw[if_pos d];rw[Sz hm j 0] at d;have:=ih ((lo+hi) / 2+1) hi (by omega) (by omega) hs (λ i qw=>by
     by_cases e:i=(lo+hi) / 2
     ·rw[e];exact d
     ·exact Nat.lt_trans (R i ((lo+hi) / 2) (by omega) hm) d) h2
    exact⟨by omega,this.2⟩
   ·rw[if_neg d];rw[Sz hm j 0] at d;have:=ih lo ((lo+hi) / 2) (by omega) (by omega) (by omega) h1 (λ i qw xr=>by
     by_cases e:i=(lo+hi) / 2
     ·rw[e];omega
     ·have:=R ((lo+hi) / 2) i (by omega) xr;omega)
    exact⟨this.1,by omega,this.2.2⟩
  ·rw[if_neg c];have e:lo=hi:=by omega
   subst e;exact⟨zag _,zag _,h1,h2⟩
def JQ (R:eJ xs)(j:Nat):zbi xs j<=xs.size/\(∀i,i<zbi xs j->xs.getD i 0<j)/\∀i,zbi xs j<=i->i<xs.size->j<=xs.getD i 0:=by
 have:=cW (j:=j) R xs.size 0 xs.size (by omega) (by omega) (zag _) (λ i hi=>absurd hi (by omega)) λ i h1 h2=>absurd h1 (by omega);exact this.2
def Uu (R:eJ xs)(hi:i<xs.size):zbi xs (xs.getD i 0+1)=i+1:=by
 obtain⟨h1,h2,h3⟩:=JQ R (xs.getD i 0+1);have a:i<zbi xs (xs.getD i 0+1):=by
  apply zcb;intro z;have:=h3 i (by omega) hi;omega
 have b:¬ i+1<zbi xs (xs.getD i 0+1):=λ z=>by
  have hs:i+1<xs.size:=by omega
  have:=h2 (i+1) z;have:=R i (i+1) (by omega) hs;omega
 omega
def Uv (R:eJ xs):zbi xs 0=0:=by
 obtain⟨h1,h2,h3⟩:=JQ R 0;cases h:zbi xs 0 with
 |zero=>rfl
 |succ n=>have:=h2 n (by omega);omega
def O0 {α:Type}(xs:Array α)(p:Nat)(x:α):(SetTable.insertAt xs p x).toList=xs.toList.take p++x::xs.toList.drop p:=by
 unfold SetTable.insertAt;simp[Array.toList_extract,List.extract_eq_drop_take,zdh]
def Wi:eJ xs↔xs.toList.Pairwise (· < ·):=by
 rw[List.pairwise_iff_getElem];constructor
 ·intro R i j hi hj b8;have:=R i j b8 (by simpa using hj);simp only[Array.getD,zc2] at this hi hj ⊢;rw[dif_pos (by omega),dif_pos hj] at this;simpa using this
 ·intro R i j b8 hj;have:=R i j (by simp;omega) (by simpa using hj) b8;simp only[Array.getD];rw[dif_pos (by omega),dif_pos hj];simpa using this
def kF (R:eJ xs)(hn:∀i,i<xs.size->xs.getD i 0≠j):eJ (SetTable.insertAt xs (zbi xs j) j):=by
 obtain⟨h1,h2,h3⟩:=JQ R j;have at':∀(i:Nat) (hi:i<xs.toList.length),xs.toList[i]=xs.getD i 0:=λ i hi=>by
  have qw:i<xs.size:=by simpa using hi
  simp[Array.getD,qw]
 rw[Wi] at R ⊢;rw[O0,List.pairwise_append];refine⟨R.sublist (List.take_sublist _ _),zbt.mpr ⟨λ y hy=>?_,R.sublist (List.drop_sublist _ _)⟩,λ y hy z hz=>?_⟩
 ·obtain⟨k,hk,e⟩:=List.getElem_of_mem hy;rw[List.getElem_drop] at e;rw[zcv] at hk;have bZ:zbi xs j+k<xs.toList.length:=by omega
  rw[at' _ bZ] at e;have a:=h3 (zbi xs j+k) (by omega) (by simpa using bZ);have b:=hn (zbi xs j+k) (by simpa using bZ);omega
 ·obtain⟨k,hk,e⟩:=List.getElem_of_mem hy;rw[List.getElem_take] at e;rw[zbo] at hk;have bZ:k<xs.toList.length:=by omega
  rw[at' _ bZ] at e;have a:=h2 k (by omega);rcases zab.mp hz with rfl|hz
  ·omega
  ·obtain⟨k2,mh,e2⟩:=List.getElem_of_mem hz;rw[List.getElem_drop] at e2;rw[zcv] at mh;have jy:zbi xs j+k2<xs.toList.length:=by omega
   rw[at' _ jy] at e2;have b:=h3 (zbi xs j+k2) (by omega) (by simpa using jy);omega
def Uw {t:SetTable}(R:eJ t.place)(h:t.slot j=.empty):∀i,i<t.place.size->t.place.getD i 0≠j:=by
 intro i hi e;obtain⟨h1,h2,h3⟩:=JQ R j;have a:zbi t.place j=i:=by
  apply zcb;intro z;rcases Nat.lt_or_gt_of_ne z with z|z
  ·have:=h3 _ (zag _) (by omega);have:=R (zbi t.place j) i z hi;omega
  ·have:=h2 i z;omega
 unfold SetTable.slot at h;rw[a] at h;have b:t.place[i]?=some j:=by
  rw[zay hi];congr 1;have:t.place.getD i 0=t.place[i]:=by simp[Array.getD,hi]
  rw[<-this];exact e
 dsimp only at h;rw[b] at h;simp at h
def SA {t:SetTable}{ha:Nat->Int}{h:Int}:∀(ax:Nat) (p:SetTable.Probe) (j:Nat) (d:Option Nat),p.dummy=none->t.dummies=#[]->SetTable.probe.go t ha h ax p=some (.empty j d)->d=none/\t.slot j=.empty:=by
 intro ax;induction ax with
 |zero=>intro p j d _ _ e;unfold SetTable.probe.go at e;cases e
 |succ ax ih =>
  intro p j d hd hn e;unfold SetTable.probe.go at e;have ad:∀q:SetTable.Probe,(t.advance q).dummy=q.dummy:=λ q=>by
   unfold SetTable.advance;split
   ·rfl
   ·rfl
  cases q:t.slot p.j with
  |empty =>
   rw[q] at e;cases e;exact⟨hd,q⟩
  |dummy =>
   exfalso;unfold SetTable.slot at q;dsimp only at q;have:SetTable.has t.dummies p.j=false:=by rw[hn];unfold SetTable.has;simp
   rw[this] at q;split at q<;>cases q
  |live i =>
   rw[q] at e;dsimp only at e;split at e
   ·cases e
   ·exact ih _ j d (by rw[ad];exact hd) hn e
def N4 {t:SetTable}(hn:t.dummies=#[])(e:t.freeSlot h=some (j,b)):t.slot j=.empty/\b=false:=by
 unfold SetTable.freeSlot at e;split at e
 ·rename_i j' d q;obtain⟨rfl,h2⟩:=SA _ _ _ _ rfl hn q;cases e;exact⟨h2,rfl⟩
 ·cases e
structure DQ (led:Bool)(t:SetTable):Prop where
 nd:t.dummies=#[]
 ld:t.led=led
 rs:t.plain=true->eJ t.place
def XG (f m:Nat)(led:Bool):DQ led (.fresh f m led):=⟨rfl,rfl,λ _ i j _ hj=>absurd hj (by simp[SetTable.fresh])⟩
def EL (T:DQ led t)(n:Nat):DQ led (t.standIn n):=⟨rfl,T.ld,λ h=>by cases h⟩
def O1 (T:DQ led t)(n:Nat):DQ led (t.orStandIn n):=by
 unfold SetTable.orStandIn;split
 ·exact T
 ·exact EL T n
def kG (T:DQ led t)(h:t.slot j=.empty):DQ led (t.put j).1:=by
 have e:SetTable.has t.dummies j=false:=by rw[T.nd];unfold SetTable.has;simp
 refine⟨?_,T.ld,λ hp=>kF (T.rs hp) (Uw (T.rs hp) h)⟩;show (if SetTable.has t.dummies j then _ else t.dummies)=_;rw[e];exact T.nd
def Ux (T:DQ led t)(es:Array (Int×Value))(h:Int)(x:Value):DQ led (layNew t es h x).2.1:=by
 unfold layNew;split
 ·rename_i slot wd q;obtain⟨h1,_⟩:=N4 T.nd q;dsimp only;exact O1 (kG T h1) _
 ·exact EL T _
def cX {plain}(e:SetTable.laid mask finger moves led plain hs=some (t,o)):DQ led t:=by
 unfold SetTable.laid at e;cases q:SetTable.layClean mask hs with
 |none=>rw[q] at e;cases e
 |some owner =>
  rw[q] at e;cases e;refine⟨rfl,rfl,λ _=>?_⟩;rw[Wi];have sub:∀l:List Nat,((l.filterMap λ j=>(owner.getD j none).map λ k=>(j,k)).map zba).Sublist l:=by
   intro l;induction l with
   |nil=>exact .slnil
   |cons a r ih =>
    rw[zcs];cases owner.getD a none with
    |none=>exact ih.cons _
    |some k=>exact ih.cons₂ _
  exact List.pairwise_lt_range.sublist (sub _)
def QB (T:DQ led t)(es:Array (Int×Value))(w:Nat):DQ led (relayAll t es w).2.1:=by
 unfold relayAll;split
 ·rename_i t' order q;have h:DQ t.led t':=cX q;rw[T.ld] at h;dsimp only;split
  ·exact h
  ·exact EL T _
 ·exact EL T _
abbrev sO (es:Array (Int×Value))(ep:Nat)(t:SetTable):Obj:={cls:=.type "set",dict:=none,data:=.set es ep t,slots:=#[]}
abbrev tX (e:Int×Value):Int:=match e.2 with | .int k _=>k | _=>0
structure Wj (P:Program)(w:World)(es:Array (Int×Value))(ns:List Int):Prop where
 el:∀e∈es.toList,∃k t,e=((intKind P w).hash k,.int k t)
 pm:(es.toList.map tX).Perm ns
abbrev N5 (P:Program)(w:World)(led:Bool)(h:Heap)(a:Addr)(ns:List Int):Prop:=∃es ep t,h.get? a=some (sO es ep t)/\Wj P w es ns/\t.fits es.size=true/\DQ led t
section
variable {P:Program}{w:World}{A:Around}{s:Shared}{a:Addr}{k:Int}{tk:Nat}
def Wj.size (z:Wj P w es ns):es.size=ns.length:=by have:=z.pm.length_eq;simpa using this
def Wj.lP (z:Wj P w es ns):ElemsOf (intKind P w) es.toList:=λ e he=>by
 obtain⟨k,t,rfl⟩:=z.el e he;exact⟨⟨k,intKind_is _ _ _ _,rfl⟩,rfl⟩
def Wj.perm (z:Wj P w es ns)(p:bD.toList.Perm es.toList):Wj P w bD ns:=⟨λ e he=>z.el e (p.mem_iff.mp he),(p.map _).trans z.pm⟩
def Wj.more (z:Wj P w es ns)(p:bD.toList.Perm (es.push ((intKind P w).hash k,.int k tk)).toList):Wj P w bD (k::ns):=by
 rw[Array.toList_push] at p;have p2:=p.trans List.perm_append_comm;refine⟨λ e he=>?_,(p2.map _).trans (z.pm.cons k)⟩;rcases zab.mp (p2.mem_iff.mp he) with rfl|he
 ·exact⟨k,tk,rfl⟩
 ·exact z.el e he
def Wj.met (z:Wj P w es ns):(es.toList.findIdx? λ e=>(intKind P w).is k e.2).isSome=decide (k∈ns):=by
 cases q:es.toList.findIdx? λ e=>(intKind P w).is k e.2 with
 |none =>
  refine (decide_eq_false λ hk=>?_).symm;obtain⟨e,he,e2⟩:=zau.mp (z.pm.mem_iff.mpr hk);obtain⟨k',t,rfl⟩:=z.el e he;have e3:k'=k:=e2;subst e3;have:=List.findIdx?_eq_none_iff.mp q _ he;dsimp only at this;rw[intKind_is] at this;cases this
 |some j =>
  refine (decide_eq_true ?_).symm;obtain⟨hj,h2,_⟩:=List.findIdx?_eq_some_iff_getElem.mp q;obtain⟨k',t,e⟩:=z.el _ (zdd hj);rw[e] at h2;have e3:k=k':=(intKind P w).inj _ _ _ h2 (intKind_is P w k' t);subst e3;exact z.pm.mem_iff.mp (zau.mpr ⟨_,zdd hj,by rw[e];rfl⟩)
def Pa (g:s.heap.get? a=some (sO es ep t))(hz:bD.size<scanBound)(h:∀h',zcn a s.heap h'->h'.get? a=some (sO bD (ep+1) t')->Q () {s with heap:=h' }):wpAny (model P w) A (storeSet a bD t') Q E s:=
 wpAny_storeSet_of g rfl (h _ (zbx ..) (zch _ g rfl)) (fits_of_scanBound hz)
def kH (x:N5 P w led s.heap a ns)(hl:ns.length<1000)(h:∀h',zcn a s.heap h'->N5 P w led h' a (if k∈ns then ns else k::ns)->Q (!decide (k∈ns)) {s with heap:=h' }):
 wpAny (model P w) A (setAddHashed a (.int k tk) ((intKind P w).hash k)) Q E s:=by
 obtain⟨es,ep,t,g,z,f,T⟩:=x;have zs:=z.size;have sb:scanBound=4096:=rfl;rw[setAddHashed];apply wpAny_holding;rw[setAddHashedIn];apply wpAny_bind;apply wpAny_setState_of g rfl f;show wpAny _ _ (if byScan (.int k tk) es=true then _ else _) _ _ _;rw[if_pos (byScan_of (knd:=intKind P w) rfl (by omega) z.lP)];apply wpAny_bind;rw[setAddByScan];apply wpAny_bind;apply wpAny_rule;apply wpAny_bind;apply wpAny_setScan_of (knd:=intKind P w) (intKind_is _ _ _ _) g rfl f z.lP;have hm:=z.met (k:=k);cases q:es.toList.findIdx? λ e=>(intKind P w).is k e.2 with
 |some j =>
  rw[q] at hm;have hk:k∈ns:=of_decide_eq_true hm.symm;rw[if_pos hk,decide_eq_true hk] at h;exact wpAny_pure (wpAny_pure (h s.heap (Heap.SameBut.refl ..) ⟨es,ep,t,g,z,f,T⟩))
 |none =>
  rw[q] at hm;have hk:k∉ns:=of_decide_eq_false hm.symm;rw[if_neg hk,decide_eq_false hk] at h;have u1:=layNew_perm t es ((intKind P w).hash k) (.int k tk);have u2:=layNew_fits t es ((intKind P w).hash k) (.int k tk);have u3:=Ux T es ((intKind P w).hash k) (.int k tk);dsimp only;generalize layNew t es ((intKind P w).hash k) (.int k tk)=r at u1 u2 u3 ⊢;obtain⟨e1,t1,d,gv⟩:=r;dsimp only at u1 u2 u3 ⊢;have z1:=z.more u1;have s1:e1.size=ns.length+1:=z1.size;apply wpAny_bind;have gw:∀(b:Bool) (s1:Shared) (Q':Unit->Shared->Prop),Q' () s1->wpAny (model P w) A (match b with|true=>rule "set.scan.the-table-gave-way" |false=>pure ()) Q' E s1:=λ b s1 Q' q=>by cases b<;>first|exact wpAny_pure q|exact wpAny_rule q
  refine gw gv _ _ ?_;split;all_goals
   apply wpAny_bind;refine wpAny_of_eq (a:=true) rfl ?_;rw[if_pos rfl];apply wpAny_bind;refine Pa g (by omega) λ h1 b1 g1=>?_;split
   ·have v1:=relayAll_perm t1 e1 (SetTable.grown e1.size);have v2:=relayAll_fits t1 e1 (SetTable.grown e1.size);have v3:=QB u3 e1 (SetTable.grown e1.size);generalize relayAll t1 e1 (SetTable.grown e1.size)=r at v1 v2 v3 ⊢;obtain⟨e2,t2,xt⟩:=r;dsimp only at v1 v2 v3 ⊢;have z2:=z1.perm v1;apply wpAny_bind;refine gw xt _ _ ?_;apply wpAny_bind;refine Pa g1 (by rw[z2.size,za9];omega) λ h2 b2 g2=>?_;exact wpAny_pure (wpAny_pure (h h2 (b1.trans b2) ⟨e2,_,t2,g2,z2,v2,v3⟩))
   ·exact wpAny_pure (wpAny_pure (h h1 b1 ⟨e1,_,t1,g1,z1,u2,u3⟩))
end
abbrev Ra:List Int->List Int->List Int
 |ns,[]=>ns
 |ns,k::r=>Ra (if k∈ns then ns else k::ns) r
section
variable {P:Program}{w:World}{A:Around}{s:Shared}{a l:Addr}
def N5.at' (x:N5 P w led h a ns)(k:∀o,h.get? a=some o->h'.get? a=some o):N5 P w led h' a ns:=let ⟨e,p,t,g,r⟩:=x;⟨e,p,t,k _ g,r⟩
def cY {items:Array Value}{R:Result->Shared->Prop}(hh:A.in1.handled=none)(ae:l≠it)(n1:S≠it)(n2:S≠l):∀(r:List Int) (i:Nat) (ns:List Int) (s:Shared),IntsAre (items.toList.drop i) r->i+r.length=items.size->ns.length+r.length<1000->
 s.heap.IsListIter it l i->s.heap.IsList l items->N5 P w led s.heap S ns->
 (∀h' tk,(∀b o,b≠S->b≠it->s.heap.get? b=some o->h'.get? b=some o)->N5 P w led h' S (Ra ns r)->R (.ok (.ret .none)) {s with heap:=h',toks:=tk})->
 codeAny (model P w) A (.builtin "set.update.loop" ⟨[.ref S,.ref it],[]⟩) R s:=by
 have W:=Walks.list (prog:=P) (w:=w) hh it l ae items;intro r;induction r with
 |nil =>
  intro i ns s _ hi _ h1 h2 x q;apply codeAny_builtin F.entry_set_update_loop;rw[zbv F.plain_set_update_loop _];have ei:i=items.size:=by simpa using hi
  subst ei;refine wpAny_bind (m:=pyNext (.ref it)) (W.done s _ _ ⟨h1,h2⟩ λ h' tk kp=>?_);exact wpAny_pure (q h' tk (λ b o _ hb e=>kp b o (λ z=>hb (za7.mp z)) e) (x.at' λ o e=>kp S o (λ z=>n1 (za7.mp z)) e))
 |cons k r ih =>
  intro i ns s hr hi hl h1 h2 x q;rw[za9] at hi hl;have ag:i<items.size:=by omega
  have hd:items.toList.drop i=items[i]::items.toList.drop (i+1):=by
   rw[zcz (by simpa using ag)];simp
  rw[hd] at hr;apply codeAny_builtin F.entry_set_update_loop;rw[zbv F.plain_set_update_loop _];refine wpAny_bind (m:=pyNext (.ref it)) (W.item i s _ _ ag ⟨h1,h2⟩ λ v cb tk hv st kp=>?_);rw[zay ag] at hv;cases hv;generalize items[i]=v at hr;cases hr with
  |cons _ t hr =>
   apply wpAny_bind;apply wpAny_holding;rw[setAdd];apply wpAny_holding;apply wpAny_bind;apply (intKind P w).pyHash (k:=k) (intKind_is _ _ _ _);have x1:N5 P w led cb S ns:=x.at' λ o e=>kp S o (λ z=>n1 (za7.mp z)) e;refine kH (s:={s with heap:=cb,toks:=_}) (led:=led) x1 (by omega) λ f7 sb x2=>?_;refine wpAny_pure ⟨plainId_quiet F.plain_set_update_loop _,?_⟩;refine ih (i+1) _ _ hr (by omega) ?_ (st.1.at λ o e=>sb.extBut it o n1.symm e) (st.2.at λ o e=>sb.extBut l o n2.symm e) x2 λ h' xu p9 x'=>?_
   ·split<;>(try simp only[za9])<;>omega
   ·exact q h' xu (λ b o hb l8 e=>p9 b o hb l8 (sb.extBut b o hb (kp b o (λ z=>l8 (za7.mp z)) e))) x'
def XH (v:Value)(h:Q (.ref s.heap.objs.size) {s with heap:=s.heap.push (sO #[] 0 (.fresh 0 0 (!w.params.followText "set-order")))}):
 codeAny (model P w) A (.call (.builtin "set.__new__") ⟨[.type "set",v],[]⟩) (wants Q E) s:=by
 apply codeAny_of_tree;refine wpAny_bind (m:=checkBuiltinCall "set.__new__" ⟨[.type "set",v],[]⟩) (wpAny_of_eq (F.newCall_set_1 v) (wpAny_pure ⟨plainId_quiet F.plain_set_new _,codeAny_builtin F.entry_set_new ?_⟩));rw[zbv F.plain_set_new _];have xv:=sub_set_self;rw[Builtin.«set.__new__»,Builtin.Frozenset.newClass];cases s
 wp_walk
 refine wpAny_askSetting (wpAny_pure ?_);simp only[newObj];apply wpAny_bind;apply wpAny_alloc;exact wpAny_pure (wpAny_pure h)
def cZ (hh:A.handled=none)(n2:S≠l)(hl:s.heap.IsList l items)(hi:IntsAre items.toList ns)(hz:ns.length<1000)(led:Bool)(g:s.heap.get? S=some (sO #[] 0 (.fresh 0 0 led)))(h:∀h' tk,N5 P w led h' S (Ra [] ns)->(∀b o,b≠S->s.heap.get? b=some o->h'.get? b=some o)->Q .none {s with heap:=h',toks:=tk}):
 codeAny (model P w) A (.call (.builtin "set.__init__") ⟨[.ref S,.ref l],[]⟩) (wants Q E) s:=by
 have hT:s.TypeIs (.ref S) "set" := ⟨_,g,rfl⟩;refine codeAny_call_builtin F.called_set.init.plain F.entry_set_init (check_set_init_1 hT ?_);have xw:=F.sub_list_set;have xx:=F.sub_list_frozenset;have nd:(zcm "list" == zcm "dict")=false:=by decide
 obtain⟨⟨oc,od,ot,os⟩,e1,e2,c,e3⟩:=id hl;simp only at e2 e3;cases e2;cases e3;have g0:=g;unfold sO at g;unfold Builtin.«set.__init__» noKeywords Builtin.Frozenset.updateFrom;generalize u:pyIter=U
 wp_walk
 subst u;apply wpAny_pyIter_list hl;apply wpAny_bind;apply wpAny_runValue;have hS:=zaf g;have hL:=zaf e1;refine cY (A:=A.in1) (led:=led) (items:=items) hh (zap hL) (zap hS) n2 ns 0 [] _ hi (by have:=IntsAre.length hi;simpa using this.symm) (by simpa using hz) ?_ ?_ ?_ λ h' tk kp x=>?_
 ·exact⟨_,zaj _ rfl,rfl,rfl⟩
 ·exact hl.push _
 ·exact⟨#[],0,_,za5 _ g0,⟨nofun,.refl _⟩,rfl,XG ..⟩
 refine wpAny_pure ?_;exact wpAny_pure (h h' tk x λ b o hb e=>kp b o hb (zap (zaf e)) (za5 _ e))
def pZ (hh:A.handled=none)(hl:s.heap.IsList l items)(hi:IntsAre items.toList ns)(hz:ns.length<1000)(h:∀h' tk,N5 P w (!w.params.followText "set-order") h' s.heap.objs.size (Ra [] ns)->(∀b o,s.heap.get? b=some o->h'.get? b=some o)->Q (.ref s.heap.objs.size) {s with heap:=h',toks:=tk}):
 wpAny (model P w) A (call (.type "set") [.ref l]) Q E s:=by
 have ⟨c,tl,hm⟩:=F.called_set.mro;have q1:=F.called_set.made;have q2:=F.called_set.sub;have q3:=F.called_set.notType;have q4:=F.called_set.canCreate;have q5:=F.typeCall_set_1 (.ref l);have q6:=F.called_set.init.lookup;have q7:=F.called_set.init.bind (.ref s.heap.objs.size);have ag:l<s.heap.objs.size:=let ⟨_,e,_⟩:=hl;zaf e;apply wpAny_call;apply codeAny_of_tree;refine wpAny_pure ⟨Code.quiet_builtin _ (by decide +kernel),codeAny_builtin F.entry_type_call ?_⟩;rw[Around.under_plain (weight_type_call_type "set" [.ref l] []) rfl];repeat (any_goals (first|assumption|wp_step))
 refine codeAny_mono (XH (E:=E) (Q:=λ o s1=>o=.ref s.heap.objs.size/\s1={s with heap:=s.heap.push (sO #[] 0 (.fresh 0 0 (!w.params.followText "set-order")))}) (.ref l) ⟨rfl,rfl⟩) λ r s1 hr=>?_;cases r with
 |error e=>exact hr
 |ok f =>
  cases f with
  |ret o =>
   obtain⟨rfl,rfl⟩:=hr;have g:(s.heap.push (sO #[] 0 (.fresh 0 0 (!w.params.followText "set-order")))).get? s.heap.objs.size=some (sO #[] 0 (.fresh 0 0 (!w.params.followText "set-order"))):=zaj _ rfl;have hT:Shared.TypeIs {s with heap:=s.heap.push (sO #[] 0 (.fresh 0 0 (!w.params.followText "set-order")))} (.ref s.heap.objs.size) "set" := ⟨_,g,rfl⟩;repeat (any_goals (first|assumption|wp_step))
   refine codeAny_mono (cZ (E:=E) (Q:=λ r s2=>r=.none/\Q (.ref s.heap.objs.size) s2) hh (Nat.ne_of_gt ag) (hl.push _) hi hz _ g λ h' tk x kp=>⟨rfl,h h' tk x λ b o e=>kp b o (zap (zaf e)) (za5 _ e)⟩) λ r s2 hr=>?_;cases r with
   |error e=>exact hr
   |ok f =>
    cases f with
    |ret r =>
     obtain⟨rfl,hq⟩:=hr;repeat (any_goals (first|assumption|wp_step))
    |_=>exact hr.elim
  |_=>exact hr.elim
end
def N6 {α:Type}:∀ {l:List α}{n:Nat}(h:n<l.length),(l[n]::l.eraseIdx n).Perm l
 |_::_,0,_=>.refl _
 |x::r,n+1,h=>(List.Perm.swap ..).trans ((N6 (l:=r) (n:=n) (Nat.lt_of_succ_lt_succ h)).cons x)
def XI {α:Type}(next:Nat->Nat):∀(ax k:Nat) (left:List α) (out:Array α),left.length<=ax->(pickOrder.go next ax k left out).toList.Perm (out.toList++left):=by
 intro ax;induction ax with
 |zero =>
  intro k left out h;have e:left=[]:=zde (by omega);subst e;unfold pickOrder.go;rw[zbk]
 |succ n ih =>
  intro k left out h;unfold pickOrder.go;cases left with
  |nil=>rw[zbk];simp
  |cons x r =>
   have hl:next k%(x::r).length<(x::r).length:=Nat.mod_lt _ (by simp)
   rw[zaa hl];dsimp only;refine (ih (k+1) _ _ (by rw[List.length_eraseIdx,if_pos hl];omega)).trans ?_;rw[Array.toList_push,zcr];exact (N6 hl).append_left _
section
variable {P:Program}{w:World}{A:Around}{s:Shared}{tp:Addr}{i:Nat}{t:SetTable}
def QC {M}(hn:n≠0)(h:∀i,i<n->∀d,Q i {s with drawn:=d}):wpAny M A (choose src n) Q E s:=λ Γ p _=>by
 unfold choose;rw[Sem.wp_choose];exact⟨hn,h _ (Nat.mod_lt _ (by omega)) _⟩
def N7 {α:Type}:∀(n:Nat) (xs:List α) (s:Shared){Q:List α->Shared->Prop},xs.length=n->(∀ys d,ys.Perm xs->Q ys {s with drawn:=d})->wpAny (model P w) A (drawOrder n xs) Q E s
 |0,xs,s,Q,e,h=>by
  have:=zde e;subst this;unfold drawOrder;exact wpAny_pure (h [] s.drawn (.refl _))
 |n+1,[],s,Q,e,h=>by cases e
 |n+1,x::r,s,Q,e,h=>by
  unfold drawOrder;apply wpAny_bind;refine QC (by simp) λ i hi d=>?_;rw[zaa hi];dsimp only;apply wpAny_bind;refine N7 n _ _ (by rw[List.length_eraseIdx,if_pos hi];omega) λ ys d' hp=>wpAny_pure ?_;exact h _ d' ((hp.cons _).trans (N6 hi))
abbrev vE (f:Value)(i:Nat)(S:Addr)(n ep:Nat):Obj:={cls:=.type "set_iterator",data:=.fields #[f,.int i 0,.ref S,.int n 0,.int ep 0]}
abbrev JR (es:Array (Int×Value))(t:SetTable):Bool := !t.plain&&decide (es.size > 1)
abbrev tO (pl:List Nat):Obj:={cls:=.type "tuple",data:=.seq (pl.map λ(i:Nat)=>zck i 0).toArray}
inductive XJ (w:World) (S tp:Addr) (es:Array (Int×Value)) (ep:Nat) (t:SetTable) (h:Heap):(Nat->Value)->List Value->Prop
 |text:w.params.followText "set-order" = true->XJ w S tp es ep t h (λ _=>.int 0 0) ((pickOrder (w.params.setOrder S ep) es).toList.map (·.2))
 |drawn (pl:List Nat):pl.Perm (zb1 es.size)->h.get? tp=some (tO pl)->XJ w S tp es ep t h (λ _=>.ref tp) (pl.map λ i=>(es.getD i (0,.none)).2)
 |place:w.params.followText "set-order" = false->JR es t=false->t.led=true->eJ t.place->XJ w S tp es ep t h (λ i=>.int (if i=0 then 0 else (t.place.getD (i-1) 0+1:Nat)) 0) (es.toList.map (·.2))
def XJ.perm (R:XJ w S tp es ep t h f vs):vs.Perm (es.toList.map (·.2)):=by
 cases R with
 |text _ =>
  refine List.Perm.map _ ?_;have:=XI (w.params.setOrder S ep) es.size 0 es.toList #[] (by simp);simpa [pickOrder] using this
 |drawn pl hp _ =>
  refine (hp.map _).trans (.of_eq ?_);apply List.ext_getElem?;intro i;rw[zan,zan];by_cases hi:i<es.size
  ·rw[zd9 hi,zce,zay hi];simp[Array.getD,hi]
  ·rw[zbj (by simp;omega),zbj (by simp;omega)];rfl
 |place _ _ _ _=>exact .refl _
def XJ.len (R:XJ w S tp es ep t h f vs):vs.length=es.size:=by
 rw[R.perm.length_eq,za2,zc2]
def XJ.frame (R:XJ w S tp es ep t h f vs)(k:∀o,h.get? tp=some o->h'.get? tp=some o):XJ w S tp es ep t h' f vs:=by
 cases R with
 |text a=>exact .text a
 |drawn pl hp g=>exact .drawn pl hp (k _ g)
 |place a b c d=>exact .place a b c d
def Cj:Slot "set_iterator" "__next__" "set_iterator.__next__":=
 .of (owner := "set_iterator") (n := "__next__") (by rw[typeLookup_type,builtinLookup_eq_fast];kernel_rfl) (by decide +kernel) (by decide +kernel) (by decide +kernel)
  (by first|exact .inl (by decide +kernel)|exact .inr (by decide +kernel)) (by rw[isSubtype_type];kernel_rfl)
def O2:entryFor table "set_iterator.__next__" = some Builtin.«set_iterator.__next__»:=entryFor_of_tree (by kernel_rfl)
def SD:Manifest.owners.lookup (String.ofList ['r','o','t','a','r','e','t','i','_','t','e','s'].reverse)=some Manifest.sig_set_iterator:=by kernel_rfl
def QD (a:Value):argsOk "set_iterator.__next__" ⟨[a],[]⟩:=by
 unfold argsOk;rw[signature?_of (id := "set_iterator.__next__") (n:=['_','_','t','x','e','n','_','_']) (o:=['r','o','t','a','r','e','t','i','_','t','e','s']) (by kernel_rfl) SD];kernel_rfl
def N8:entryFor table "set.__iter__" = some Builtin.«frozenset.__iter__»:=entryFor_alias (id' := "frozenset.__iter__") (by kernel_rfl) rfl (by decide +kernel) (by kernel_rfl)
def dB (hl:led = !w.params.followText "set-order")(g:s.heap.get? S=some (sO es ep t))(hf:t.fits es.size=true)(T:DQ led t)(hz:es.size<=1000)(h:∀(it tp:Addr) (h':Heap) d f vs,(∀b o,s.heap.get? b=some o->h'.get? b=some o)->s.heap.objs.size<=it->s.heap.objs.size<=tp->it≠tp->XJ w S tp es ep t h' f vs->h'.get? it=some (vE (f 0) 0 S es.size ep)->Q (.ref it) {s with heap:=h',drawn:=d}):wpAny (model P w) A (pyIter (.ref S)) Q E s:=by
 have ty:s.TypeIs (.ref S) "set" := ⟨_,g,rfl⟩;apply wpAny_pyIter_slot ty F.slot_set_iter;apply wpAny_call_entry F.slot_set_iter ty N8 _ (F.args_set_iter_1 _);rw[Builtin.«frozenset.__iter__»];refine wpAny_bind (m:=Builtin.Frozenset.slot0 "__iter__" ⟨[.ref S],[]⟩) (wpAny_of_eq (a:=S) rfl ?_);apply wpAny_bind;rw[Builtin.Frozenset.sizeOf];apply wpAny_bind;rw[setEntries];refine wpAny_bind (wpAny_setState_of g rfl hf (wpAny_pure (wpAny_pure ?_)));dsimp only;refine wpAny_bind (m:=setDrawn S) ?_;rw[setDrawn];refine wpAny_bind (wpAny_setState_of g rfl hf ?_);dsimp only;refine wpAny_bind (m:=setsByText) ?_;rw[setsByText];refine wpAny_bind (wpAny_askSetting (wpAny_pure ?_));refine wpAny_pure (a := !w.params.followText "set-order" && JR es t) ?_;cases hb:w.params.followText "set-order" with
 |true =>
  refine wpAny_bind (wpAny_pure (a:=zck 0 0) ?_);apply wpAny_bind;refine wpAny_setEpoch_of g rfl hf ?_;apply wpAny_bind;refine wpAny_newObj_type (wpAny_pure ⟨_,rfl,"set_iterator",_,⟨_,zaj _ rfl,rfl⟩,Cj.lookup,?_⟩);exact h s.heap.objs.size (s.heap.objs.size+1) _ s.drawn _ _ (λ b o e=>za5 _ e) (zag _) (zd3 _) (zap (Nat.lt_succ_self _)) (.text hb) (zaj _ rfl)
 |false =>
  have mi:t.led=true:=by rw[T.ld,hl,hb];rfl
  cases hd:JR es t with
  |false =>
   refine wpAny_bind (wpAny_pure (a:=zck 0 0) ?_);apply wpAny_bind;refine wpAny_setEpoch_of g rfl hf ?_;apply wpAny_bind;refine wpAny_newObj_type (wpAny_pure ⟨_,rfl,"set_iterator",_,⟨_,zaj _ rfl,rfl⟩,Cj.lookup,?_⟩);refine h s.heap.objs.size (s.heap.objs.size+1) _ s.drawn _ _ (λ b o e=>za5 _ e) (zag _) (zd3 _) (zap (Nat.lt_succ_self _)) (.place hb hd mi ?_) (zaj _ rfl);have hsz:t.place.size=es.size:=by
    simp only[SetTable.fits,zb2,beq_iff_eq,decide_eq_true_eq] at hf;exact hf.1
   by_cases hp:t.plain=true
   ·exact T.rs hp
   ·intro i j b8 hj;unfold JR at hd;simp[hp] at hd;omega
  |true =>
   apply wpAny_bind;refine N7 _ _ _ (zcq) λ ys d hp=>?_;have hy:ys.length=es.size:=by rw[hp.length_eq,zcq]
   apply wpAny_bind;refine wpAny_newTuple ?_ (by rw[za2,hy,sizeLine_eq];omega);apply wpAny_bind;refine wpAny_setEpoch_of (za5 _ g) rfl hf ?_;apply wpAny_bind;refine wpAny_newObj_type (wpAny_pure ⟨_,rfl,"set_iterator",_,⟨_,zaj _ rfl,rfl⟩,Cj.lookup,?_⟩);refine h _ s.heap.objs.size _ d _ _ (λ b o e=>za5 _ (za5 _ e)) (by rw[zd0];exact zd3 _) (zag _) (by rw[zd0];exact Nat.succ_ne_self _) (.drawn ys hp ?_) (zaj _ rfl);exact za5 _ (zaj _ rfl)
def SE (hh:A.handled=none)(R:XJ w S tp es ep t s.heap f vs)(hi:s.heap.get? it=some (vE (f i) i S es.size ep))(g:s.heap.get? S=some (sO es ep t))(hf:t.fits es.size=true)(go:∀v h',vs[i]?=some v->h'.get? it=some (vE (f (i+1)) (i+1) S es.size ep)->zcn it s.heap h'->Q (some v) {s with heap:=h' })(no:vs.length=i->∀h',Heap.ExtBut it s.heap h'->Q none {s with heap:=h' })(hle:i<=vs.length):wpAny (model P w) A (pyNext (.ref it)) Q E s:=by
 have ty:s.TypeIs (.ref it) "set_iterator" := ⟨_,hi,rfl⟩;rw[pyNext];apply wpAny_bind;apply wpAny_attempt;apply wpAny_callSpecial?_slot (name:=Str.ofString "__next__") ty Cj;apply wpAny_call_entry Cj ty O2 _ (QD _);rw[Builtin.«set_iterator.__next__»];refine wpAny_bind (m:=slotArgs "__next__" 0 ⟨[.ref it],[]⟩) (wpAny_of_eq (a:=(.ref it,[])) rfl ?_);apply wpAny_bind;refine wpAny_fieldsOf hi rfl ?_;dsimp only;apply wpAny_bind;rw[setEntries];refine wpAny_bind (wpAny_setState_of g rfl hf (wpAny_pure ?_));dsimp only;rw[if_neg (by simp)];have ag:i<vs.length\/vs.length=i:=by omega
 have il:=R.len;have bG:∀(x:Value) (h1:Heap) (fs:Array Value) (k:Nat),h1.get? it=some {cls:=.type "set_iterator",data:=.fields fs}->(h1.update it (Obj.mapFields (·.setIfInBounds k x))).get? it=some {cls:=.type "set_iterator",data:=.fields (fs.setIfInBounds k x)}:=λ x h1 fs k e=>zch _ e rfl;have stop:∀(s1:Shared),zcn it s.heap s1.heap->(∀h',Heap.ExtBut it s.heap h'->Q none {s1 with heap:=h' })->wpAny (model P w) A.in1 (newExc (.type "StopIteration") [] >>= λ e=>raiseNew (α:=PySem.Fin) e) (λ fin s'=>∃v,fin=.done (.ret v)/\wpAny (model P w) A (pure (some v)) Q E s') (λ e s'=>wpAny (model P w) A (isInstance e (.type "StopIteration") >>= λ b=>if b=true then pure none else throw e) Q E s') s1:=λ s1 sb hq=>by
  apply wpAny_bind;rw[newExc];apply wpAny_bind;rw[newTuple];refine wpAny_newObj_type ?_ (by size_fits);apply wpAny_bind;refine wpAny_of_eq (a:=zdc) (by simp only[firstArgMember];rfl) ?_;refine wpAny_newObj_type ?_ (by size_fits);simp only[raiseNew];apply wpAny_bind;apply wpAny_handled;rw[show A.in1.handled=none from hh];refine wpAny_bind (wpAny_pure (wpAny_throw ?_));refine wpAny_bind (wpAny_isInstance (T := "StopIteration") (b:=true) ⟨_,zaj _ rfl,rfl⟩ isSubtype_stop ?_);exact wpAny_pure (hq _ ((sb.extBut.push _).push _))
 have give:∀(x:Value) (n:Nat),vs[i]?=some x->f (i+1)=.int n 0->wpAny (model P w) A.in1 (do
  setField (.ref it) 0 (rawInt n)
  setField (.ref it) 1 (rawInt ((i:Int)+1))
  ret x) (λ fin s'=>∃v,fin=.done (.ret v)/\wpAny (model P w) A (pure (some v)) Q E s') (λ e s'=>wpAny (model P w) A (isInstance e (.type "StopIteration") >>= λ b=>if b=true then pure none else throw e) Q E s') s:=λ x n hx hn=>by
  apply wpAny_bind;refine wpAny_setField hi rfl (by simp) ?_;have u1:=bG (rawInt n) _ _ 0 hi;apply wpAny_bind;refine wpAny_setField u1 rfl (by simp) ?_;have u2:=bG (rawInt ((i:Int)+1)) _ _ 1 u1;refine wpAny_pure ⟨x,rfl,wpAny_pure (go x _ hx ?_ ((zbx ..).trans (zbx ..)))⟩;rw[hn];exact u2
 have halt:vs.length=i->wpAny (model P w) A.in1 (do
  setField (.ref it) 2 .none
  let e <-newExc (.type "StopIteration") []
  raiseNew (α:=PySem.Fin) e) (λ fin s'=>∃v,fin=.done (.ret v)/\wpAny (model P w) A (pure (some v)) Q E s') (λ e s'=>wpAny (model P w) A (isInstance e (.type "StopIteration") >>= λ b=>if b=true then pure none else throw e) Q E s') s:=λ hv=>by
  apply wpAny_bind;refine wpAny_setField hi rfl (by simp) ?_;exact stop _ (zbx ..) (no hv)
 cases R with
 |text hb =>
  dsimp only;apply wpAny_bind;rw[setNext];refine wpAny_bind (wpAny_setState_of g rfl hf ?_);dsimp only;refine wpAny_bind (m:=setsByText) ?_;rw[setsByText];refine wpAny_bind (wpAny_askSetting (wpAny_pure ?_));show wpAny _ _ (if w.params.followText "set-order" = true then _ else _) _ _ _;rw[if_pos hb];rw[if_neg (by simp)];refine wpAny_bind (m:=setWalk S) ?_;rw[setWalk];refine wpAny_bind (wpAny_setState_of g rfl hf ?_);dsimp only;refine wpAny_bind (m:=setsByText) ?_;rw[setsByText];refine wpAny_bind (wpAny_askSetting (wpAny_pure ?_));show wpAny _ _ (if w.params.followText "set-order" = true then _ else _) _ _ _;rw[if_pos hb];refine wpAny_bind (wpAny_askSetting (wpAny_pure (wpAny_pure ?_)));dsimp only;rw[show (model P w).w=w from rfl];rcases ag with ag|ag
  ·have hx:i<(pickOrder (w.params.setOrder S ep) es).size:=by simpa using ag
   rw[zb4,zay hx];refine give _ 0 ?_ rfl;rw[zan,zce,zay hx];rfl
  ·have hx:(pickOrder (w.params.setOrder S ep) es).size<=i:=by simp at ag;omega
   rw[zb4,zdg hx];exact halt ag
 |drawn pl hp ht =>
  dsimp only;apply wpAny_bind;refine wpAny_seqItems ht rfl ?_;dsimp only;rw[zb4];rcases ag with ag|ag
  ·have hx:i<pl.length:=by simpa using ag
   rw[show ((pl.map λ(i:Nat)=>zck i 0).toArray)[i]?=some (.int (pl[i]:Nat) 0) by simp[hx]];dsimp only;rw[zb4];have hj:pl[i]<es.size:=by
    have:=hp.mem_iff.mp (zdd hx);simpa using this
   apply wpAny_bind;rw[setNextDrawn];refine wpAny_bind (wpAny_setState_of g rfl hf ?_);dsimp only;rw[if_neg (by simp),zay hj];dsimp only;refine wpAny_pure ?_;apply wpAny_bind;refine wpAny_setField hi rfl (by simp) ?_;have u1:=bG (rawInt ((i:Int)+1)) _ _ 1 hi;refine wpAny_pure ⟨_,rfl,wpAny_pure (go _ _ ?_ u1 (zbx ..))⟩;rw[zan,zaa hx];simp[Array.getD,hj]
  ·have hx:pl.length<=i:=by simp at ag;omega
   rw[show ((pl.map λ(i:Nat)=>zck i 0).toArray)[i]?=none by simp[hx]];dsimp only;apply wpAny_bind;refine wpAny_setField hi rfl (by simp) ?_;have u1:=bG (rawInt 0) _ _ 0 hi;apply wpAny_bind;refine wpAny_setField u1 rfl (by simp) ?_;exact stop _ ((zbx ..).trans (zbx ..)) (no ag)
 |place hb hd hl uv =>
  dsimp only;have hsz:t.place.size=es.size:=by
   simp only[SetTable.fits,zb2,beq_iff_eq,decide_eq_true_eq] at hf;exact hf.1
  have xy:zbi t.place (Int.toNat (if i=0 then 0 else (t.place.getD (i-1) 0+1:Nat)))=i:=by
   by_cases h0:i=0
   ·rw[if_pos h0,h0];exact Uv uv
   ·rw[if_neg h0,zb4,Uu uv (by simp at hle;omega)];omega
  apply wpAny_bind;rw[setNext];refine wpAny_bind (wpAny_setState_of g rfl hf ?_);dsimp only;refine wpAny_bind (m:=setsByText) ?_;rw[setsByText];refine wpAny_bind (wpAny_askSetting (wpAny_pure ?_));show wpAny _ _ (if w.params.followText "set-order" = true then _ else _) _ _ _;rw[if_neg (by rw[hb];exact zao)];show wpAny _ _ (if JR es t=true then _ else _) _ _ _;rw[if_neg (by rw[hd];exact zao)];refine wpAny_bind (wpAny_of_eq (a:=()) ?_ ?_)
  ·show (if (!t.led && !es.isEmpty)=true then _ else _)=_;rw[if_neg (by rw[hl];exact zao)]
  rw[xy];rcases ag with ag|ag
  ·have hx:i<es.size:=by simpa using ag
   have hy:i<t.place.size:=by omega
   rw[zay hx,zay hy];refine wpAny_pure (give _ _ ?_ ?_)
   ·rw[zan,zce,zay hx];rfl
   ·simp[Array.getD,hy]
  ·have hx:es.size<=i:=by simp at ag;omega
   rw[zdg hx];exact wpAny_pure (halt ag)
def JS:Slot "set_iterator" "__iter__" "set_iterator.__iter__":=
 .of (owner := "set_iterator") (n := "__iter__") (by rw[typeLookup_type,builtinLookup_eq_fast];kernel_rfl) (by decide +kernel) (by decide +kernel) (by decide +kernel)
  (by first|exact .inl (by decide +kernel)|exact .inr (by decide +kernel)) (by rw[isSubtype_type];kernel_rfl)
def QE (a:Value):argsOk "set_iterator.__iter__" ⟨[a],[]⟩:=by
 unfold argsOk;rw[signature?_of (id := "set_iterator.__iter__") (n:=['_','_','r','e','t','i','_','_']) (o:=['r','o','t','a','r','e','t','i','_','t','e','s']) (by kernel_rfl) SD];kernel_rfl
def XM (hh:A.handled=none)(n1:S≠it)(n2:tp≠it)(hf:t.fits es.size=true):Walks P w A it [it,S,tp] [it] vs.length (λ i v=>vs[i]?=some v) (λ i h=>h.get? it=some (vE (f i) i S es.size ep)/\h.get? S=some (sO es ep t)/\XJ w S tp es ep t h f vs) where
 sub:=λ b hb=>by simp at hb;simp[hb]
 frame:=λ _ _ _ st hk=>⟨hk it (by simp) _ st.1,hk S (by simp) _ st.2.1,st.2.2.frame λ o e=>hk tp (by simp) o e⟩
 item:=λ i s Q E hi st hQ=>SE hh st.2.2 st.1 st.2.1 hf (λ v h' hv g sb=>hQ v h' s.toks hv ⟨g,(sb.2 S n1).trans st.2.1,st.2.2.frame λ o e=>(sb.2 tp n2).trans e⟩ λ b o hb e=>(sb.2 b λ z=>hb (by simp[z])).trans e) (λ z=>absurd z (by omega)) (zbf hi)
 done:=λ s Q E st hQ=>SE hh st.2.2 st.1 st.2.1 hf (λ v h' hv=>by rw[zbj (zag _)] at hv;cases hv) (λ _ h' eb=>hQ h' s.toks λ b o hb e=>eb b o (λ z=>hb (by simp[z])) e) (zag _)
 self:=λ i s Q E st hQ=>by
  have ty:s.TypeIs (.ref it) "set_iterator" := ⟨_,st.1,rfl⟩;apply wpAny_pyIter_slot ty JS;have en:entryFor table "set_iterator.__iter__" = some Builtin.«dict_keyiterator.__iter__»:=entryFor_alias (id' := "dict_keyiterator.__iter__") (by kernel_rfl) rfl (by decide +kernel) (by kernel_rfl);refine wpAny_call_entry JS ty en ?_ (QE _);show wpAny _ _ (ret (.ref it)) _ _ s;exact wpAny_pure ⟨_,rfl,"set_iterator",_,ty,Cj.lookup,hQ⟩
end
section
variable {P:Program}{w:World}{A:Around}{s:Shared}{t:SetTable}
def dC (hT:s.TypeIs (.ref S) "set")(h:Q false s):wpAny (model P w) A (Builtin.List.listLengthHint (.ref S)) Q E s:=by
 unfold Builtin.List.listLengthHint;refine wpAny_bind (wpAny_specialOf hT PySem.F.slot_set_len.lookup ?_);generalize uw:("set.__len__" : String)=xz
 wp_delta
 rw[show splitId xz=some ("set","__len__") from by subst uw;decide +kernel];subst uw;refine wpAny_bind (wpAny_isInstance (T := "set") (b:=true) hT (by rw[isSubtype_type];kernel_rfl) ?_);refine wpAny_ite_split (λ de=>absurd de (by decide)) (λ _=>?_);refine wpAny_ite_split (λ _=>?_) (λ de=>absurd (by decide +kernel) de);refine wpAny_bind (wpAny_typeOf hT ?_);exact wpAny_pure h
def SF (hh:A.handled=none)(hl:led = !w.params.followText "set-order")(g:s.heap.get? S=some (sO es ep t))(hf:t.fits es.size=true)(T:DQ led t)(hz:es.size<=1000)(q:∀(h':Heap) (tk:Nat) d (vs:List Value),(∀b o,s.heap.get? b=some o->h'.get? b=some o)->s.heap.objs.size<h'.objs.size->vs.Perm (es.toList.map (·.2))->R vs {s with heap:=h',toks:=tk,drawn:=d}):wpAny (model P w) A (collect (.ref S)) R E s:=by
 rw[collect];apply wpAny_bind;apply wpAny_runValue;apply codeAny_builtin entry_proto_collect';rw[zbv PySem.F.plain_proto_collect _];refine wpAny_bind (m:=newList []) ?_;refine wpAny_newObj_type (wpAny_pure ⟨plainId_quiet PySem.F.plain_list_iadd _,codeAny_builtin entry_list_iadd' ?_⟩);rw[zbv PySem.F.plain_list_iadd _];have g0:(s.heap.push {cls:=.type "list",data:=.seq ([]:List Value).toArray}).get? s.heap.objs.size=some {cls:=.type "list",data:=.seq #[]}:=zaj _ rfl;have hS:S<s.heap.objs.size:=zaf g;have g1:=za5 {cls:=.type "list",data:=.seq ([]:List Value).toArray} g;show wpAny _ A.in1 (Builtin.List.listExtendWith (.ref s.heap.objs.size) (.ref S) (.ref s.heap.objs.size)) _ _ _;unfold Builtin.List.listExtendWith;refine wpAny_bind (wpAny_typeOf (T := "set") ⟨_,g1,rfl⟩ ?_);have h1:Builtin.List.listSameRef (.ref s.heap.objs.size) (.ref S)=false:=by simp[Builtin.List.listSameRef];exact Nat.ne_of_gt hS
 simp only[h1,show (zcm "set" == zcm "list")=false by decide,show (zcm "set" == zcm "tuple")=false by decide,Bool.or_false,zas,if_false];refine wpAny_bind (dB hl g1 hf T hz λ it tp h2 d f vs kp hit ux ne R2 g2=>?_);rw[zd0] at hit ux;have qx:∀b o,s.heap.get? b=some o->h2.get? b=some o:=λ b o e=>kp b o (za5 _ e);have n1:s.heap.objs.size≠it:=zap hit;have n2:s.heap.objs.size≠S:=Nat.ne_of_gt hS;have n3:s.heap.objs.size≠tp:=zap ux;have n4:S≠it:=zap (Nat.lt_trans hS hit);have x5:s.heap.objs.size∉[it,S,tp]:=by simp only[zab,List.not_mem_nil,or_false,not_or];exact⟨n1,n2,n3⟩
 have W:=XM (P:=P) (w:=w) (A:=A.in1) (it:=it) (S:=S) (tp:=tp) (es:=es) (ep:=ep) (t:=t) (f:=f) (vs:=vs) hh n4 ne.symm hf;have qy:vs.length<=sizeLine:=by rw[R2.len,sizeLine_eq];omega
 have last:∀(h3:Heap) (c tk:Nat),(∀b o,b≠s.heap.objs.size->h2.get? b=some o->h3.get? b=some o)->h3.get? s.heap.objs.size=some {cls:=.type "list",data:=.seq #[] c} ->
  codeAny (model P w) A (.builtin "list.extend.loop" ⟨[.ref s.heap.objs.size,.ref it,.ref s.heap.objs.size],[]⟩) (λ r s'=>∃h' tk acc c,r=.ok (.ret (.ref s.heap.objs.size))/\s'={s with heap:=h',toks:=tk,drawn:=d}/\(∀b o,s.heap.get? b=some o->h'.get? b=some o)/\h'.get? s.heap.objs.size=some {cls:=.type "list",dict:=none,data:=.seq acc c,slots:=#[]}/\ItemsOf (λ i v=>vs[i]?=some v) acc vs.length) {s with heap:=h3,toks:=tk,drawn:=d}:=λ h3 c tk k3 gl=>by
  refine codeAny_extend_loopS W.toS qy _ x5 _ vs.length 0 _ #[] c rfl (zb0 _) ⟨k3 _ _ n1.symm g2,k3 _ _ n2.symm (qx _ _ g),R2.frame λ o e=>k3 _ _ n3.symm e⟩ gl (ItemsOf.nil _) λ s' gm c' hm aT bJ=>?_;rw[Moved.eq_with hm];refine⟨_,_,gm,c',rfl,rfl,λ b o e=>hm.heap b o (λ aH=>?_) (k3 b o (zap (zaf e)) (qx b o e)),aT,bJ⟩;have:=zaf e;simp only[zab,List.not_mem_nil,or_false] at aH;rcases aH with rfl|rfl
  ·exact zdb _ this
  ·exact zdb _ (Nat.lt_trans this hit)
 refine wpAny_bind (wpAny_holding (dC ⟨_,qx _ _ g,rfl⟩ ?_));have gl:=kp _ _ g0;have fin:∀(r:Result) (s':Shared),(∃h' tk acc c,r=.ok (.ret (.ref s.heap.objs.size))/\s'={s with heap:=h',toks:=tk,drawn:=d}/\(∀b o,s.heap.get? b=some o->h'.get? b=some o)/\h'.get? s.heap.objs.size=some {cls:=.type "list",dict:=none,data:=.seq acc c,slots:=#[]}/\ItemsOf (λ i v=>vs[i]?=some v) acc vs.length)->
  (match r with | .ok (.ret v)=>wpAny (model P w) A (match v with | .ref a=>(do match (<-load a).data with | .seq xs _=>pure xs.toList|_=>unsupported "internal:collect")|_=>unsupported "internal:collect") R E s' | .ok _=>False | .error e=>E e s'):=λ r s' z=>by
  obtain⟨h',tk,acc,c,rfl,rfl,k,gS,bJ⟩:=z;refine wpAny_bind (wpAny_load gS (wpAny_pure ?_));have ea:acc.toList=vs:=by
   apply List.ext_getElem?;intro i;rw[zce];by_cases hi:i<acc.size
   ·rw[zay hi];exact (bJ.2 i _ (zay hi)).symm
   ·rw[zdg (by omega),zbj (by have:=bJ.1;omega)]
  rw[ea];exact q h' tk d vs k (zaf gS) R2.perm
 refine wpAny_ite_split (λ _=>?_) (λ _=>wpAny_pure ⟨plainId_quiet PySem.F.plain_extend_loop _,codeAny_mono (last h2 0 s.toks (λ b o _ e=>e) gl) λ r s' z=>fin r s' z⟩);refine wpAny_bind (wpAny_rule ?_);refine wpAny_bind ?_;show wpAny _ _ (updateSeq s.heap.objs.size (·.push .none) >>= λ _=>updateSeq s.heap.objs.size (·.pop)) _ _ _;refine wpAny_bind (wpAny_updateSeq gl rfl ?_);have u2:=zch (zc5 (·.push zdc)) gl rfl;refine wpAny_updateSeq (hz:=by seq_fits) u2 rfl ?_;have u3:=zch (zc5 (·.pop)) u2 rfl;refine wpAny_pure ⟨plainId_quiet PySem.F.plain_extend_loop _,codeAny_mono (last _ _ s.toks (λ b o hb e=>?_) u3) λ r s' z=>fin r s' z⟩;exact (zct _ _ (zbn hb)).trans ((zct _ _ (zbn hb)).trans e)
end
def Wl:∀ {r ns:List Int}{k:Int},k∈Ra ns r↔k∈ns\/k∈r
 |[],ns,k=>by simp[Ra]
 |x::r,ns,k=>by
  rw[Ra,Wl];split
  ·rename_i h;constructor
   ·rintro (a|a)
    ·exact .inl a
    ·exact .inr (za4 _ a)
   ·rintro (a|a)
    ·exact .inl a
    ·rcases zab.mp a with rfl|a
     ·exact .inl h
     ·exact .inr a
  ·simp only[zab];constructor
   ·rintro ((a|a)|a)<;>simp[a]
   ·rintro (a|a|a)<;>simp[a]
def KA:∀ {r ns:List Int},ns.Nodup->(Ra ns r).Nodup
 |[],ns,h=>h
 |x::r,ns,h=>by
  rw[Ra];split
  ·exact KA h
  ·rename_i hx;exact KA (zbg.mpr ⟨hx,h⟩)
def Wm:∀(r ns:List Int),(Ra ns r).length<=ns.length+r.length
 |[],ns=>by simp[Ra]
 |x::r,ns=>by
  rw[Ra];refine zbl (Wm r _) ?_;split<;>simp<;>omega
section
variable {P:Program}{w:World}{A:Around}{s:Shared}
def ints_of (z:Wj P w es ns)(hp:vs.Perm (es.toList.map (·.2))):∃ms,IntsAre vs ms/\ms.Perm ns:=by
 have key:∀l:List Value,(∀v∈l,∃k t,v=zck k t)->∃ms,IntsAre l ms/\ms=l.map λ v=>tX (0,v):=by
  intro l;induction l with
  |nil=>exact λ _=>⟨[],.nil,rfl⟩
  |cons v r ih =>
   intro hl;obtain⟨k,t,rfl⟩:=hl v za3;obtain⟨ms,a,b⟩:=ih λ v hv=>hl v (za4 _ hv);exact⟨k::ms,.cons k t a,by rw[b];rfl⟩
 obtain⟨ms,a,b⟩:=key vs λ v hv=>by
  obtain⟨e,he,e2⟩:=zau.mp (hp.mem_iff.mp hv);obtain⟨k,t,rfl⟩:=z.el e he;exact⟨k,t,e2.symm⟩
 refine⟨ms,a,?_⟩;rw[b];refine (hp.map _).trans ?_;rw[zbq];exact z.pm
def Uy (hh:A.handled=none)(x:N5 P w (!w.params.followText "set-order") s.heap S ns)(gq:ns.length<64)(h:∀(h':Heap) (tk:Nat) d (D:Addr) (c:Nat) (out:Array Value),(∀b o,s.heap.get? b=some o->h'.get? b=some o)->s.heap.objs.size<=D->IntsAre out.toList (D8 ns)->h'.get? D=some (seqObj "list" out c)->Q (.ref D) {s with heap:=h',toks:=tk,drawn:=d}):
 wpAny (model P w) A (call (.builtin "sorted") [.ref S]) Q E s:=by
 obtain⟨es,ep,t,g,z,hf,T⟩:=x;have zs:=z.size;apply Calls.call_function_entry kind_sorted plain_sorted entry_sorted (args_sorted1 _);rw[Builtin.«sorted»];refine wpAny_bind (m:=checkCount "sorted" 1 1 _) (wpAny_pure ?_);apply wpAny_bind;refine SF hh rfl g hf T (by omega) λ h1 tk d vs kp uz hp=>?_;obtain⟨ms,hi,hm⟩:=ints_of z hp;have qy:vs.length=ns.length:=by rw[hp.length_eq,za2,zc2,zs]
 apply wpAny_bind;refine wpAny_newList ?_ (by rw[qy,sizeLine_eq];omega);have cr:(h1.push (seqObj "list" vs.toArray 0)).get? h1.objs.size=some (seqObj "list" vs.toArray 0):=zaj _ rfl;have cq:∀b o,s.heap.get? b=some o->(h1.push (seqObj "list" vs.toArray 0)).get? b=some o:=λ b o e=>za5 _ (kp b o e);show wpAny _ _ _ _ _ {s with heap:=h1.push (seqObj "list" vs.toArray 0),toks:=tk,drawn:=d};refine wpAny_bind (wpAny_holding (wpAny_call_entry slot_list_sort ⟨_,cr,rfl⟩ entry_list_sort ?_ (args_list_sort _)));refine list_sort_tree (s:={s with heap:=h1.push (seqObj "list" vs.toArray 0),toks:=tk,drawn:=d}) cr hi (by omega) λ out bR b1 b2 b3=>⟨_,rfl,wpAny_pure ⟨_,rfl,?_⟩⟩;have e:bR=D8 ns:=Dw ((b2.trans hm).trans (Cb ns).symm) b3 (CW ns);subst e;obtain⟨c,hc⟩:=sortedHeap_at (out:=out) cr;refine h _ tk d _ c out (λ b o e=>?_) (zbf uz) b1 hc;have ag:b<s.heap.objs.size:=zaf e;exact (sortedHeap_old (zap (Nat.lt_trans ag uz)) (zaf (cq b o e))).trans (cq b o e)
end
def Inv.drew (I:Inv X pins σ H s)(d:Drawn):Inv X pins σ H {s with drawn:=d}:=⟨I.ok,I.os,I.bare,I.base,I.loc,I.cell,I.free,I.FR,I.pin,I.Ar,I.len⟩
section
variable {c:Bool}{P:Addr->Prop}{H:Hp}{a b:Expr}{f g:Ac->M D}{aD:Pos}
abbrev xH (X:Cx)(te:TE):TE:=λ σ H Q=>te σ H λ x H1=>∃p ns,x=.ref p/\Du X.K H1 p (List.map V.int ns)/\ns.length<64/\∀r,H1 r=none->Q (.ref r) (upd H1 r (.lst ((D8 (Ra [] ns)).map V.int)))
def Uz (hc:X.calm=true)(hg:Gl X "sorted")(hm:X.mg "sorted" = none)(bN:Gl X "set")(aZ:X.mg "set" = none)(he:PE X e te)(hv:bootBuiltins "sorted" = some (.builtin "sorted"):=by decide +kernel)(jk:bootBuiltins "set" = some (.type "set"):=by decide +kernel)(hs: ~~~(starEach [e] X.env=[(false,eval e X.env)]))(a8: ~~~(starEach [.Call (.Name "set" p2) [e] [] aD] X.env=[(false,eval (.Call (.Name "set" p2) [e] [] aD) X.env)])):
 PE X (.Call (.Name "sorted" p) [.Call (.Name "set" p2) [e] [] aD] [] pos) (xH X te):=by
 intro pins s σ H Q I h;refine wpAny_Call_Name_kw (CS I hg hm hv ?_);refine zcx ?_ a8;rw[a8];refine zc6 ?_;refine wpAny_Call_Name_kw (CS I bN aZ jk ?_);refine zbm ?_ hs;rw[hs];refine zc6 (Bh (he pins s σ H _ I h) λ u s1 zz=>?_);obtain⟨x,H1,I1,r1,q,ns,rfl,hq,pi,h⟩:=zz;cases r1;refine zcc ?_;obtain⟨aa,r',pl,hz⟩:=I1.list hq;have hi:=intsAre_of r';have il:=r'.length;rw[za2] at il;refine pZ (I1.ok.hd hc) pl.isList (by simpa using hi) (by omega) λ h' tk hS hk=>?_;refine zcc ?_;have ar:(Ra [] ns).length<64:=by have:=Wm ns [];simp at this;omega
 refine Uy (I1.ok.hd hc) hS ar λ h2 uj d D c out kp hD x6 x8=>?_;have ag:s1.heap.objs.size<h'.objs.size:=let ⟨_,_,_,g,_⟩:=hS;zaf g;refine⟨.ref _,_,(I1.laid (t':=uj) (o:=.lst ((D8 (Ra [] ns)).map V.int)) (λ b o e=>kp b o (hk b o e)) (zbl (zbf ag) hD) ⟨?_,out.toList,c,Fu x6,by simpa using x8⟩).drew d,rfl,h _ (I1.Ar.fresh (zbl (zbf ag) hD))⟩;rw[za2,(Cb _).length_eq];exact zbf (AA (by omega))
abbrev dD (d:D):M OT:=match d with
 | .lst xs=>(match CK xs with|some ns=>if ns.length<64 then .ok (.lst (((D8 (Ra [] ns)).map .int).map .sh)) else .bad|none=>.bad)
 |_=>.bad
def XN (h:ns.length<64):dD (.lst (ns.map .int))=.ok (.lst (((D8 (Ra [] ns)).map .int).map .sh)):=by
 unfold dD;dsimp only;rw[E9];dsimp only;rw[if_pos h]
def UA (hc:X.calm=true)(hg:Gl X "sorted")(hm:X.mg "sorted" = none)(bN:Gl X "set")(aZ:X.mg "set" = none)(he:DE X WX true e f)(hv:bootBuiltins "sorted" = some (.builtin "sorted"):=by decide +kernel)(jk:bootBuiltins "set" = some (.type "set"):=by decide +kernel)(hs: ~~~(starEach [e] X.env=[(false,eval e X.env)]))(a8: ~~~(starEach [.Call (.Name "set" p2) [e] [] aD] X.env=[(false,eval (.Call (.Name "set" p2) [e] [] aD) X.env)])):
 DN X WX (.Call (.Name "sorted" p) [.Call (.Name "set" p2) [e] [] aD] [] pos) (λ ρ=>(f ρ).bind dD):=by
 obtain⟨te,e1,e2⟩:=he;refine⟨_,Uz hc hg hm bN aZ e1 hv jk hs a8,λ P0 P σ H Q ρ E h=>?_⟩;refine e2 P0 P σ H _ ρ E ?_;dsimp only at h;cases q:f ρ with
 |bad|ex x=>rw[q] at h;exact h
 |ok d =>
  rw[q] at h;simp only[M.A8] at h;intro v H1 s1 hv;unfold dD at h;split at h
  ·rename_i xs;split at h
   ·rename_i ns eb;have:=Ea eb;subst this;split at h
    ·rename_i hl;cases hv with
     |lst hs hh =>
      have:=Di hh;subst this;exact⟨_,ns,rfl,hs.B3,hl,h.Ib s1 (Ij _)⟩
    ·exact h.elim
   ·exact h.elim
  ·exact h.elim
end
structure dE (h:Heap)(v:Value)(q:Int×Int):Prop where
 at':∃a b x y k t t1 t2,v=.ref a/\q=(x*1000+y,k)/\0<=y/\y<1000/\IsTup h a #[.ref b,.int k t]/\IsTup h b #[.int x t1,.int y t2]
section
variable {P:Program}{w:World}{A:Around}{s:Shared}
def kI (hu:A.units+4<cLine)(h:IsTup s.heap b #[.int x t1,.int y t2])(h':IsTup s.heap b' #[.int x' ml,.int y' mn]):SeqAt.EqAt A s (.ref b) (.ref b') (decide (x=x'/\y=y')):=by
 by_cases hq:b=b'
 ·subst hq;obtain⟨o,ho,_,n,hd⟩:=h;obtain⟨o',aJ,_,n',aS⟩:=h';rw[ho] at aJ;cases aJ;rw[hd] at aS;cases aS;rw[decide_eq_true ⟨rfl,rfl⟩];exact .same _
 ·refine .of_refs hq ?_;have:=SeqAt.RcAt.tuples (A:=A) (s:=s) (e:=λ j=>if j=0 then x==x' else y==y') h h' (by omega) λ j h1 h2=>by
   have hj:j<2:=h1;rcases (by omega:j=0\/j=1) with rfl|rfl
   ·exact zdq _ _ _ _
   ·exact zdq _ _ _ _
  have e4:((zb1 (min (#[zck x t1,.int y t2]).size (#[zck x' ml,.int y' mn]).size)).all (λ j=>if j=0 then x==x' else y==y')&&(#[zck x t1,.int y t2]).size==(#[zck x' ml,.int y' mn]).size)=decide (x=x'/\y=y'):=by
   show ((zb1 2).all _&&(2==2))=_;rw[show zb1 2=[0,1] from rfl];simp only[List.all_cons,List.all_nil,if_true,Nat.one_ne_zero,if_false,Bool.and_true,beq_self_eq_true];by_cases a1:x=x'<;>by_cases a2:y=y'<;>simp[a1,a2]
  rw[e4] at this;exact this
def XO (hu:A.units+4<cLine):pY P w A (tuples' false) dE where
 keep:=λ h h' v q z k=>by
  obtain⟨a,b,x,y,j,t,t1,t2,e1,e2,e3,e4,⟨o,ho,hc,r⟩,⟨o',aJ,aQ,r'⟩⟩:=z.at';exact⟨a,b,x,y,j,t,t1,t2,e1,e2,e3,e4,⟨o,k _ _ (by rw[hc];decide) ho,hc,r⟩,⟨o',k _ _ (by rw[aQ];decide) aJ,aQ,r'⟩⟩
 lt:=λ E s v v' p q C hv ng h=>by
  obtain⟨a,b,x,y,j,t,t1,t2,rfl,rfl,e3,e4,⟨o,ho,hc,n,hd⟩,g1⟩:=hv.at';obtain⟨a',b',x',y',j',t',ml,mn,rfl,rfl,e3',e4',⟨o',aJ,aQ,n',aS⟩,u4⟩:=ng.at';refine kat_lt ho hd aJ aS ?_;refine kat_cons (kI hu g1 u4 _ _ _ _ ?_);refine kat_go (λ e=>kat_yes (kat_cons (zdq j t j' t' _ _ _ _ (kat_go (λ e2=>kat_yes (kat_nil ?_)) λ e2=>kat_no ?_)))) λ e=>kat_no ?_
  ·have e1:x=x'/\y=y':=by simpa using e
   have e5:j=j':=by simpa using e2
   have:kE (x*1000+y,j) (x'*1000+y',j')=false:=by unfold kE;simp;omega
   rw[this] at h;exact h
  ·have e1:x=x'/\y=y':=by simpa using e
   have:kE (x*1000+y,j) (x'*1000+y',j')=decide (j<j'):=by unfold kE;rw[e1.1,e1.2];simp
   rw[this] at h;show wpAny _ _ (oneLt' false (.int j t) (.int j' t')) _ _ _;exact kat_one _ _ (lt_int h)
  ·have e1:¬ (x=x'/\y=y'):=by simpa using e
   show wpAny _ _ (oneLt' false (.ref b) (.ref b')) _ _ _;refine kat_one _ _ (HT.HR g1 u4 (.cons _ _ (.cons _ _ .nil)) (.cons _ _ (.cons _ _ .nil)) (by omega) ?_);have:kE (x*1000+y,j) (x'*1000+y',j')=HT.lexLt [x,y] [x',y']:=by
    simp only[HT.Ef,HT.Dp];unfold kE;by_cases a1:x=x'
    ·rw[if_pos a1,if_neg (λ z=>e1 ⟨a1,z⟩)];apply decide_eq_decide.mpr;have:y≠y':=λ z=>e1 ⟨a1,z⟩;omega
    ·rw[if_neg a1];apply decide_eq_decide.mpr;omega
   rw[this] at h;exact h
 kind:=λ E s vs Q ae hv h=>by
  have key:∀l:List Value,(∀v∈l,∃q,dE s.heap v q)->∃fs,KatTups s.heap l fs/\fs.length=l.length/\∀f∈fs,∃b o,f=zbh b/\s.heap.get? b=some o/\o.cls=.type "tuple" := by
   intro l;induction l with
   |nil=>exact λ _=>⟨[],.nil,rfl,λ f hf=>by cases hf⟩
   |cons v r ih =>
    intro hl;obtain⟨q,hq⟩:=hl v za3;obtain⟨a,b,x,y,j,t,t1,t2,rfl,rfl,e3,e4,⟨o,ho,hc,n,hd⟩,⟨o',aJ,aQ,_⟩⟩:=hq.at';obtain⟨fs,k1,k2,k3⟩:=ih λ v hv=>hl v (za4 _ hv);refine⟨.ref b::fs,.cons ho hc hd rfl k1,by rw[za9,za9,k2],λ f hf=>?_⟩;rcases zab.mp hf with rfl|hf
    ·exact⟨_,_,rfl,aJ,aQ⟩
    ·exact k3 f hf
  obtain⟨fs,k1,k2,k3⟩:=key vs hv;refine kat_kind (T:=.type "tuple") k1 (by omega) (λ f hf=>?_) rfl h;obtain⟨b,o,rfl,ho,hc⟩:=k3 f hf;rw[<-hc];exact (Looks.ld ho).andThen .now
def QF {κ:SortKind}{vs:List Value}{ps:List (Int×Int)}(SK:pY P w A.in1.in1 κ Pr)(hl:s.heap.IsList l vs.toArray)(gq:vs.length<64)(hlen:ps.length=vs.length)(hv:∀(i:Nat) v q,vs[i]?=some v->ps[i]?=some q->Pr s.heap v q)(hb:∀q∈ps,0<=q.2/\q.2<1000)(hn:ps.Nodup)(h:∀(h':Heap) (D:Addr) (c:Nat) (I:List Nat),(∀b o,s.heap.get? b=some o->h'.get? b=some o)->s.heap.objs.size<=D->h'.get? D=some (seqObj "list" (I.map λ i=>vs.getD i zdc).toArray c)->I.Perm (zb1 vs.length)->(I.map λ i=>ps.getD i (0,0)).Pairwise (λ p q=>IF p<IF q)->Q (.ref D) {s with heap:=h' }):
 wpAny (model P w) A (call (.builtin "sorted") [.ref l]) Q E s:=by
 apply Calls.call_function_entry kind_sorted plain_sorted entry_sorted (args_sorted1 _);rw[Builtin.«sorted»];refine wpAny_bind (m:=checkCount "sorted" 1 1 _) (wpAny_pure ?_);refine wpAny_bind (collect_list hl ?_);refine wpAny_bind (wpAny_newList ?_ (by rw[sizeLine_eq];omega));obtain⟨h1,eh⟩:∃h1,h1=(s.heap.push (seqObj "list" #[] 0)).update s.heap.objs.size (zc5 (·++vs.toArray)):=⟨_,rfl⟩;have hsz:h1.objs.size=s.heap.objs.size+1:=by rw[eh,Heap.size_update,size_push']
 have kp:∀b o,s.heap.get? b=some o->h1.get? b=some o:=λ b o e=>by
  rw[eh];exact (Heap.get?_update_ne _ _ _ _ (zap (zaf e))).trans (za5 _ e)
 have cr:(h1.push (seqObj "list" vs.toArray 0)).get? h1.objs.size=some (seqObj "list" vs.toArray 0):=zaj _ rfl;have cq:∀b o,s.heap.get? b=some o->(h1.push (seqObj "list" vs.toArray 0)).get? b=some o:=λ b o e=>za5 _ (kp b o e);show wpAny _ _ _ _ _ {s with heap:=((s.heap.push (seqObj "list" #[] 0)).update s.heap.objs.size (zc5 (·++vs.toArray))).push (seqObj "list" vs.toArray 0)};rw[<-eh];refine wpAny_bind (wpAny_holding (wpAny_call_entry slot_list_sort ⟨_,cr,rfl⟩ entry_list_sort ?_ (args_list_sort _)));refine Us SK (s:={s with heap:=h1.push (seqObj "list" vs.toArray 0)}) (ps:=ps) cr (by omega) (by omega) (λ i v q hi hq=>SK.keep _ _ _ _ (hv i v q hi hq) λ b o _ e=>cq b o e) hb hn λ I i1 i2=>⟨_,rfl,wpAny_pure ⟨_,rfl,?_⟩⟩;obtain⟨c,hc⟩:=sortedHeap_at (out:=(I.map λ i=>vs.getD i zdc).toArray) cr;refine h _ _ c I (λ b o e=>?_) (by rw[hsz];exact zd3 _) hc i1 i2;exact (sortedHeap_old (zap (by rw[hsz];exact Nat.lt_succ_of_lt (zaf e))) (zaf (cq b o e))).trans (cq b o e)
end
def Pb {α:Type}{g:α->Addr}:∀ {l:List α}{us:List Value},Vals (l.map λ b=>V.ref (g b)) us->us=l.map λ b=>zbh (g b)
 |[],_,.nil=>rfl
 |_::_,_,.cons h r=>by rw[Pb r,za6];cases h;rfl
abbrev BI (q:Int×Int):D:=.tup [.tup [.int (q.1 / 1000),.int (q.1%1000)],.int q.2]
section
variable {f:Ac->M D}
abbrev tY (K:za0)(H:Hp)(b:Addr×Int×Int):Prop:=∃q,EQ K H b.1 [.ref q,.int b.2.2]/\EQ K H q [.int (b.2.1 / 1000),.int (b.2.1%1000)]
abbrev xI (X:Cx)(te:TE):TE:=λ σ H Q=>te σ H λ x H1=>∃(a:Addr) (bs:List (Addr×Int×Int)),x=.ref a/\Du X.K H1 a (bs.map λ b=>V.ref b.1)/\(∀b∈bs,tY X.K H1 b/\0<=b.2.2/\b.2.2<1000)/\(bs.map (·.2)).Nodup/\bs.length<64/\
 ∀cs:List (Addr×Int×Int),cs.Perm bs->cs.map (·.2)=HE (bs.map (·.2))->∀r,H1 r=none->Q (.ref r) (upd H1 r (.lst (cs.map λ b=>V.ref b.1)))
def UB (hc:X.calm=true)(hu:X.A.units+n<cLine)(hg:Gl X "sorted")(hm:X.mg "sorted" = none)(he:PE X e te)(hv:bootBuiltins "sorted" = some (.builtin "sorted"):=by decide +kernel)(hs: ~~~(starEach [e] X.env=[(false,eval e X.env)]))(h8:8<=n:=by decide):
 PE X (.Call (.Name "sorted" p) [e] [] pos) (xI X te):=by
 intro pins s σ H Q I h;refine wpAny_Call_Name_kw (CS I hg hm hv ?_);refine zcx ?_ hs;rw[hs];refine zc6 (Bh (he pins s σ H _ I h) λ u s1 ⟨x,H1,I1,r1,q1⟩=>?_);obtain⟨a,bs,rfl,hl,hb,hn,gq,h⟩:=q1;cases r1;refine zcc ?_;obtain⟨aa,rv,pl,hz⟩:=I1.list hl;have ei:=Pb rv;subst ei;have u5:∀q∈bs.map (·.2),0<=q.2/\q.2<1000:=λ q hq=>by
  obtain⟨b,a7,rfl⟩:=zau.mp hq;exact (hb b a7).2
 have x9:X.A.in1.in1.units+4<cLine:=by show X.A.units+1+1+4<cLine;omega
 refine QF (vs:=bs.map λ b=>zbh b.1) (ps:=bs.map (·.2)) (XO x9) pl.isList (by simpa using gq) (by simp) (λ i v q hi hq=>?_) u5 hn λ h' D c J kp hD bN j1 j2=>?_
 ·rw[zan] at hi hq;cases eb:bs[i]? with
  |none=>rw[eb] at hi;cases hi
  |some b =>
   rw[eb] at hi hq;cases hi;cases hq;obtain⟨⟨q,g1,g2⟩,_⟩:=hb b (zam eb);obtain⟨ts,rt,pt,_⟩:=I1.tuple g1;obtain⟨us,ru,pu,_⟩:=I1.tuple g2;obtain⟨v1,v2,rfl,r1,r2⟩:=rt.two;obtain⟨w1,w2,rfl,s1,s2⟩:=ru.two;cases r1;obtain⟨t,rfl⟩:=r2;obtain⟨t1,rfl⟩:=s1;obtain⟨t2,rfl⟩:=s2;exact⟨_,q,_,_,_,t,t1,t2,rfl,Prod.ext (by dsimp only;omega) rfl,by omega,by omega,pt,pu⟩
 ·have hlen:(bs.map λ b=>zbh b.1).length=bs.length:=za2 _;rw[hlen] at j1;have hJ:∀i∈J,i<bs.length:=λ i hi=>by simpa using j1.mem_iff.mp hi
  let cs:=J.map λ i=>bs.getD i (0,0,0);have u6:∀ {α:Type} (g:Addr×Int×Int->α) (d:α),(J.map λ i=>(bs.map g).getD i d)=cs.map g:=λ g d=>by
   rw[zbq];refine List.map_congr_left λ i hi=>?_;have:=hJ i hi;simp[zal,this]
  have hp:cs.Perm bs:=by
   refine (j1.map _).trans (.of_eq ?_);apply List.ext_getElem?;intro i;rw[zan];by_cases hi:i<bs.length
   ·rw[zd9 hi];simp[zal,hi]
   ·rw[zbj (by simp;omega),zbj (by omega)];rfl
  have es:cs.map (·.2)=HE (bs.map (·.2)):=by
   rw[u6] at j2;exact Wg ((hp.map _).trans (Fw _).symm) j2 (Sw u5 hn)
  rw[u6] at bN;refine⟨.ref D,_,I1.laid (t':=s1.toks) (o:=.lst (cs.map λ b=>V.ref b.1)) kp hD ⟨?_,cs.map (λ b=>zbh b.1),c,?_,bN⟩,rfl,h cs hp es _ (I1.Ar.fresh hD)⟩
  ·rw[za2,hp.length_eq];exact zbf (AA (by omega))
  ·have:=Sx (cs.map (·.1));simpa [zbq,Function.comp_def] using this
abbrev N9:D->Option (Int×Int)
 | .tup [.tup [.int x,.int y],.int k]=>if 0<=y/\y<1000/\0<=k/\k<1000 then some (x*1000+y,k) else none
 |_=>none
abbrev Pc:List D->Option (List (Int×Int))
 |[]=>some []
 |d::r=>(N9 d).bind λ q=>(Pc r).map (q::·)
def UC (h:N9 d=some q):d=BI q/\0<=q.2/\q.2<1000:=by
 unfold N9 at h;split at h
 ·rename_i x y k;split at h
  ·cases h;refine⟨?_,by dsimp only;omega,by dsimp only;omega⟩;unfold BI;dsimp only;rw[show (x*1000+y) / 1000=x by omega,show (x*1000+y)%1000=y by omega]
  ·cases h
 ·cases h
def SG {K:za0}{H:Hp}:∀ {ds:List D}{xs:List V}{ps:List (Int×Int)},Ag K H xs ds->Pc ds=some ps->∃bs:List (Addr×Int×Int),xs=bs.map (λ b=>V.ref b.1)/\bs.map (·.2)=ps/\(∀b∈bs,tY K H b/\(0<=b.2.2/\b.2.2<1000)/\BR K H (.ref b.1) (BI b.2)):=by
 intro ds;induction ds with
 |nil=>intro xs ks h e;cases h;cases e;exact⟨[],rfl,rfl,by simp⟩
 |cons d r ih =>
  intro xs ks h e;rw[Pc] at e;obtain⟨q,e1,e⟩:=Option.bind_eq_some_iff.mp e;obtain⟨t6,q2,rfl⟩:=Option.map_eq_some_iff.mp e;obtain⟨rfl,hq⟩:=UC e1;cases h with
  |cons h t =>
   obtain⟨bs,h1,h2,h3⟩:=ih t q2;have h':=h;unfold BI at h;cases h with
   | @tup a vs _ hs hl =>
    cases hl with
    |cons g hl =>
     cases hl with
     |cons g2 hl =>
      cases hl;cases g2;cases g with
      | @tup a2 ws _ a8 ar =>
       cases ar with
       |cons u1 ar =>
        cases ar with
        |cons u2 ar =>
         cases ar;cases u1;cases u2;refine⟨(a,q)::bs,by rw[h1];rfl,by rw[za6,h2],λ b hb=>?_⟩;rcases zab.mp hb with w|w
         ·subst w;exact⟨⟨a2,EQ.of hs,EQ.of a8⟩,hq,h'⟩
         ·exact h3 b w
abbrev kJ (d:D):M OT:=match d with
 | .lst xs=>(match Pc xs with|some ps=>haveI:=zd4 (ps.Nodup);if ps.Nodup/\ps.length<64 then .ok (.lst (((HE ps).map BI).map .sh)) else .bad|none=>.bad)
 |_=>.bad
def Na (hc:X.calm=true)(hu:X.A.units+n<cLine)(hg:Gl X "sorted")(hm:X.mg "sorted" = none)(he:DE X WX true e f)(hv:bootBuiltins "sorted" = some (.builtin "sorted"):=by decide +kernel)(hs: ~~~(starEach [e] X.env=[(false,eval e X.env)]))(h8:8<=n:=by decide):
 DN X WX (.Call (.Name "sorted" p) [e] [] pos) (λ ρ=>(f ρ).bind kJ):=by
 obtain⟨te,e1,e2⟩:=he;refine⟨_,UB hc hu hg hm e1 hv hs h8,λ P0 P σ H Q ρ E h=>?_⟩;refine e2 P0 P σ H _ ρ E ?_;dsimp only at h;cases q:f ρ with
 |bad|ex x=>rw[q] at h;exact h
 |ok d =>
  rw[q] at h;simp only[M.A8] at h;intro v H1 s1 hv;unfold kJ at h;split at h
  ·rename_i xs;split at h
   ·rename_i ps eb;split at h
    ·rename_i hl;cases hv with
     |lst hs hh =>
      obtain⟨bs,rfl,rfl,h3⟩:=SG hh eb;refine⟨_,bs,rfl,hs.B3,λ b hb=>?_,hl.1,by simpa using hl.2,λ cs hp es r hr=>?_⟩
      ·obtain⟨⟨q,g1,g2⟩,hk,_⟩:=h3 b hb;exact⟨⟨q,g1.B3,g2.B3⟩,hk⟩
      ·refine h.Ib s1 ?_ r hr;rw[<-es];have:∀l:List (Addr×Int×Int),(∀b∈l,b∈bs)->Ag X.K (del H1 P) (l.map λ b=>V.ref b.1) ((l.map (·.2)).map BI):=by
        intro l;induction l with
        |nil=>exact λ _=>.nil
        |cons b r ih=>exact λ hm=>.cons (h3 b (hm b za3)).2.2 (ih λ c hc=>hm c (za4 _ hc))
       exact this cs λ b hb=>hp.mem_iff.mp hb
    ·exact h.elim
   ·exact h.elim
  ·exact h.elim
end
structure UE (K:za0)(mg:Str->Option Value)(x key:Str)(j:Int)(st:Stmt)(ps:List Str):Prop where
 ex:∃f fd,ZL K x x st f fd/\mg x=some (.ref f)/\(Binds K fd ps []/\∃t,Binds K fd ps [.int j t])/\vD K fd ps key
structure UG (P:Program)(w:World)(K:za0)(mg:Str->Option Value)(base:Heap)(x key:Str)(j:Int)(k n:Nat)(F:List D->M OT):Prop where
 ex:∃fa fd ps,D5 P w K mg base (U2 P w base) k fa fd ps (spT K n F)/\mg x=some (.ref fa)/\zbd K (.ref fa)=true/\(Binds K fd ps []/\∃t,Binds K fd ps [.int j t])/\vD K fd ps key
section
variable {P:Program}{w:World}{K:za0}{x:Str}{j:Int}
def kK {st}(T:UE K mg x key j st ps)(S:Ad N ps (A4 st))(g:Ac->M Out)(hb:∀(f:Addr) (B2:Value) (A:Around) (outer:List Env) (s:Shared) (H:Hp) (E:XK),Bp k (A.deeper (envOfC x (A4 st) s.heap.objs.size f B2))->R7 (eG P w K mg base N x (A4 st) f B2 A outer s H E) (CQ K E) (Aw st) g)(hn: ~~~(ps.length=n)):
 UG P w K mg base x key j (k+1) n (λ ds=>RU (g (AB N ds))):=by
 obtain⟨f,fd,F,hm,hB⟩:=T.ex;subst hn;exact⟨⟨f,fd,ps,tW F S g (hb f),hm,F.kp,hB⟩⟩
def UG.f (G:UG P w K mg base x key j k n F):BS P w K mg base x k n F:=by
 obtain⟨fa,fd,ps,h1,h2,h3,h4,_⟩:=G.ex;exact⟨⟨fa,fd,ps,h1,h2,h3,h4.1⟩⟩
end
section
variable {E:XK}{ek:Expr}{es:List Expr}{fs:Ac->M (List D)}{fk:Ac->M D}{aN:Pos}{x:Str}{j:Int}
def dG (xo:F6 X E)(G:UG X.prog X.w X.K X.mg X.base x key j k n F)(hr:Bp k X.A)(hg:Gl X x)(ha:DA X (CQ X.K E) true (e::es) fs)(hn:(e::es).length+1=n)(aK:(x==("__debug__" : Str))=false:=by decide)(he: ~~~(starEach (e::es) X.env=(false,eval e X.env)::starEach es X.env))(hpl: ~~~((backTo pos (starEach es X.env)).any (·.1)=false)):
 DN X (CQ X.K E) (.Call (.Name x p) (e::es) [] pos) (λ ρ=>(fs ρ).bind λ ds=>F (ds++[.int j])):=by
 obtain⟨fa,fd,ps,hF,hm,hk,⟨_,t,hb⟩,_⟩:=G.ex;obtain⟨ta,a1,a2,a3⟩:=ha;refine⟨_,PJ (dvs:=[.int j]) hF hr hg hm hk hb (.cons ⟨t,rfl⟩ .nil) xo.call a1 aK he hpl,λ P0 P σ H Q ρ E h=>?_⟩;dsimp only at h;refine a2 P0 P σ H _ ρ E ?_;cases q:fs ρ with
 |bad|ex x=>rw[q] at h;exact h
 |ok ds =>
  rw[q] at h;simp only[M.A8] at h;intro vs H1 s1 a6;exact⟨by rw[zav,a6.length,a3 ρ ds q];exact hn,P,_,(E.same s1).Cp,a6.append (.cons (.int _) .nil),h.same s1⟩
abbrev qA (sp:Sp)(E:XK)(t:TA)(tk:TE):TE:=λ σ H Q=>t σ H λ vs H1=>tk σ H1 λ v H2=>sp (vs++[v]) H2 Q E
def dH (hF:D5 X.prog X.w X.K X.mg X.base CX k f fd ps sp)(hr:Bp k X.A)(hg:Gl X x)(hm:X.mg x=some (.ref f))(qz:zbd X.K (.ref f)=true)(hb:vD X.K fd ps key)(hx:Gb CX X E)(ha:PA X (e::es) t)(hk:PE X ek tk)(aB: ~~~((backToKw pos (keywordEach [⟨some key,ek,aN⟩] X.env)).all (·.1.isSome)=true))(f6: ~~~((backToKw pos (keywordEach [⟨some key,ek,aN⟩] X.env)).filterMap (·.1)=[key]))(aK:(x==("__debug__" : Str))=false:=by decide)(he: ~~~(starEach (e::es) X.env=(false,eval e X.env)::starEach es X.env))(hpl: ~~~(((backTo pos (starEach (e::es) X.env)).any (·.1)||(backToKw pos (keywordEach [⟨some key,ek,aN⟩] X.env)).any (·.1.isNone))=false)):
 PE X (.Call (.Name x p) (e::es) [⟨some key,ek,aN⟩] pos) (qA sp E t tk):=by
 intro pins s σ H Q I h;refine wpAny_Call_Name_kw (PB I hg hm ?_ aK);refine PySem.W.callWith_KW (h₀:=X.base) I.ok.mod.Y8 qz aB (Bh (ha pos pins s σ H _ I h) λ us s1 ⟨vs,H1,I1,r,q⟩=>?_) hpl he;show wpAny _ _ (evalAll [(do let v <-eval ek X.env;standAt pos;pure v)]) _ _ s1;refine wpAny_evalAll_cons (wpAny_bind (Bh (hk pins s1 σ H1 _ I1 q) λ u s2 ⟨v,H2,I2,rv,q2⟩=>wpAny_bind (wpAny_standAt (wpAny_pure (wpAny_evalAll_nil ⟨I2.LB,?_⟩)))));rw[f6];have r2:Vals (vs++[v]) (us++[u]):=r.append (.cons rv .nil);have hl:us.length+1=ps.length:=by
  have e:=r2.length;rw[hF.len _ _ _ _ q2] at e;rw[e];simp
 refine wpAny_call (codeAny_mono (hF.run X.A X.stack s2 H2 ⟨us,[(key,u)]⟩ (us++[u]) _ Q E hr I2.nA (hb s2 us u I2.LB hl) r2 q2) λ r s' hq=>?_);cases r with
 |error e=>exact hx pins σ H2 s2 e s' I2 hq
 |ok fl =>
  cases fl with
  |ret u=>exact I2.after hq
  |next|brk|cont=>exact zcj hq
def dI (xo:F6 X E)(G:UG X.prog X.w X.K X.mg X.base x key j k n F)(hr:Bp k X.A)(hg:Gl X x)(ha:DA X (CQ X.K E) true (e::es) fs)(hk:DE X (CQ X.K E) true ek fk)(hn:(e::es).length+1=n)(aB: ~~~((backToKw pos (keywordEach [⟨some key,ek,aN⟩] X.env)).all (·.1.isSome)=true))(f6: ~~~((backToKw pos (keywordEach [⟨some key,ek,aN⟩] X.env)).filterMap (·.1)=[key]))(aK:(x==("__debug__" : Str))=false:=by decide)(he: ~~~(starEach (e::es) X.env=(false,eval e X.env)::starEach es X.env))(hpl: ~~~(((backTo pos (starEach (e::es) X.env)).any (·.1)||(backToKw pos (keywordEach [⟨some key,ek,aN⟩] X.env)).any (·.1.isNone))=false)):
 DN X (CQ X.K E) (.Call (.Name x p) (e::es) [⟨some key,ek,aN⟩] pos) (λ ρ=>(fs ρ).bind λ ds=>(fk ρ).bind λ d=>F (ds++[d])):=by
 obtain⟨fa,fd,ps,hF,hm,qz,_,hb⟩:=G.ex;obtain⟨ta,a1,a2,a3⟩:=ha;obtain⟨tk,k1,k2⟩:=hk;refine⟨_,dH hF hr hg hm qz hb xo.call a1 k1 aB f6 aK he hpl,λ P0 P σ H Q ρ Ev h=>?_⟩;dsimp only at h;refine a2 P0 P σ H _ ρ Ev ?_;cases q:fs ρ with
 |bad|ex x=>rw[q] at h;exact h
 |ok ds =>
  rw[q] at h;simp only[M.A8] at h;intro vs H1 s1 a6;refine k2 P0 P σ H1 _ ρ (Ev.same s1) ?_;cases q2:fk ρ with
  |bad=>rw[q2] at h;exact h
  |ex y=>rw[q2] at h;exact λ H' s=>h H' (s1.trans s)
  |ok d =>
   rw[q2] at h;simp only[M.A8] at h;intro v H2 s2 hv;exact⟨by rw[zav,a6.length,a3 ρ ds q];exact hn,P,_,((Ev.same s1).same s2).Cp,(a6.mono s2.del).append (.cons hv .nil),h.same (s1.trans s2)⟩
end
abbrev Cq (C:Int->Co)(gs:List Int):List (Int×Int):=gs.filterMap λ g=>(C g).map λ c=>(c.1*1000+c.2,g)
abbrev AS (m:Nat)(gs:List Int):List Int:=(AI m).filter λ g=>decide (g∈gs)
def UH {m:Nat}{gs:List Int}(h:∀g∈gs,0<=g/\g<m):D8 (Ra [] gs)=AS m gs:=by
 have up:(AS m gs).Pairwise (· < ·):=(Wh m).sublist List.filter_sublist;refine Dw ?_ (CW _) (up.imp λ h=>Int.le_of_lt h);refine (Cb _).trans ?_;refine (List.perm_ext_iff_of_nodup (KA .nil) (up.imp λ h=>Int.ne_of_lt h)).mpr λ g=>?_;rw[Wl];unfold AS;rw[zbp,CY];simp only[List.not_mem_nil,false_or,decide_eq_true_eq];exact⟨λ hg=>⟨h g hg,hg⟩,λ hg=>hg.2⟩
def Ff:∀ {gs:List Int},((Cq C gs).map (·.2)).Sublist gs
 |[]=>.slnil
 |g::r=>by
  unfold Cq;rw[zcs];cases C g with
  |none=>exact (Ff (gs:=r)).cons _
  |some c=>exact (Ff (gs:=r)).cons₂ _
def SH {m:Nat}(hm:m<=60)(hc:∀(g:Int) (c:Int×Int),0<=g->g<m->C g=some c->0<=c.2/\c.2<1000):
 (Cq C (AS m gs)).Nodup/\(Cq C (AS m gs)).length<64/\∀q∈Cq C (AS m gs),(0<=q.2/\q.2<1000):=by
 have s1:=Ff (C:=C) (gs:=AS m gs);have s2:(AS m gs).Sublist (AI m):=List.filter_sublist;have s3:=s1.trans s2;refine⟨?_,?_,λ q hq=>?_⟩
 ·have:=(Wh m).sublist s3;exact (zdm.mp this).imp λ h e=>by rw[e] at h;exact absurd h (Int.lt_irrefl _)
 ·have:=s3.length_le;rw[za2,BV] at this;omega
 ·have:=CY.mp (s3.subset (List.mem_map_of_mem hq));omega
def SI (h:0<=c.2/\c.2<1000):D.tup [cst (some c),.int g]=BI (c.1*1000+c.2,g):=by
 unfold BI;dsimp only;rw[show (c.1*1000+c.2) / 1000=c.1 by omega,show (c.1*1000+c.2)%1000=c.2 by omega];rfl
def Pd:∀ {ps:List (Int×Int)},(∀q∈ps,0<=q.2/\q.2<1000)->Pc (ps.map BI)=some ps
 |[],_=>rfl
 |q::r,h=>by
  have hq:=h q za3;have e:N9 (BI q)=some q:=by
   unfold BI N9;dsimp only;rw[if_pos ⟨by omega,by omega,hq⟩];exact congrArg some (Prod.ext (by dsimp only;omega) rfl)
  rw[za6,Pc,e,Pd λ q hq=>h q (za4 _ hq)];rfl
def Wn (hn:ps.Nodup)(gq:ps.length<64)(h:∀q∈ps,0<=q.2/\q.2<1000):kJ (.lst (ps.map BI))=.ok (.lst (((HE ps).map BI).map .sh)):=by
 unfold kJ;dsimp only;rw[Pd h];dsimp only;rw[if_pos ⟨hn,gq⟩]
def dJ (xs:List D)(h:0<=w):Zs none (some w) (.lst xs)=.ok (.lst ((xs.take w.toNat).map .sh)):=by
 unfold Zs;dsimp only;have e:HT.LC xs.length xs.length (some w)=min w.toNat xs.length:=if_neg (by omega);rw[e,HT.Rr,List.drop_zero,Nat.sub_zero];congr 2;congr 1;rw[List.take_eq_take_iff];omega
abbrev AN (C:Int->Co)(m:Nat)(gs:List Int)(w:Int):List D:=((HE (Cq C (AS m gs))).take w.toNat).map BI
abbrev EE (C:Int->Co)(m:Nat)(l:Int):List Int:=(AI m).filter λ i=>match C i with | some c=>decide (c.1<=l) | none=>false
def UI {m:Nat}(h:∀g:Int,0<=g->g<m->C g=C' g):EE C m l=EE C' m l:=by
 unfold EE;refine List.filter_congr λ g hg=>?_;have:=CY.mp hg;rw[h g this.1 this.2]
def KC (h:d∈AN C m gs w):∃q,d=BI q:=by
 obtain⟨q,_,e⟩:=zau.mp h;exact⟨q,e.symm⟩
def Pe:(AN C m gs w).length<=m:=by
 unfold AN;rw[za2,zbo,(Fw _).length_eq];have:=((Ff (C:=C) (gs:=AS m gs)).trans List.filter_sublist).length_le;rw[za2,BV] at this;omega
end L2
set_option maxHeartbeats 4000000
namespace dk
open PySem L2
abbrev top (i:Nat):Stmt:=PySem.Challenge.pw_nodeladder_k53_nearest_and_within.main.body.getD i (.Pass ⟨0,0,0,0⟩)
noncomputable abbrev Fg:Stmt:=top 7
def JT:Ad ["thing","bound"] ["thing","bound"] (A4 Fg):=⟨rfl,rfl,rfl,by decide +kernel,rfl,by decide +kernel,by decide +kernel⟩
noncomputable abbrev JU:Stmt:=top 8
def O3:Ad ["thing"] ["thing"] (A4 JU):=⟨rfl,rfl,rfl,by decide +kernel,rfl,by decide +kernel,by decide +kernel⟩
noncomputable abbrev Pf:Stmt:=top 9
def UJ:Ad ["thing","many"] ["thing","many"] (A4 Pf):=⟨rfl,rfl,rfl,by decide +kernel,rfl,by decide +kernel,by decide +kernel⟩
noncomputable abbrev SJ:Stmt:=top 10
def KD:Ad ["thing","many","roads"] ["thing"] (A4 SJ):=⟨rfl,rfl,rfl,by decide +kernel,rfl,by decide +kernel,by decide +kernel⟩
noncomputable abbrev Pg:Stmt:=top 11
def UK:Ad ["thing"] ["thing"] (A4 Pg):=⟨rfl,rfl,rfl,by decide +kernel,rfl,by decide +kernel,by decide +kernel⟩
noncomputable abbrev Wo:Stmt:=top 12
def dM:Ad ["one","other"] ["one","other"] (A4 Wo):=⟨rfl,rfl,rfl,by decide +kernel,rfl,by decide +kernel,by decide +kernel⟩
noncomputable abbrev Wq:Stmt:=top 13
def dN:Ad ["some"] ["some"] (A4 Wq):=⟨rfl,rfl,rfl,by decide +kernel,rfl,by decide +kernel,by decide +kernel⟩
noncomputable abbrev L5:Stmt:=top 14
def QG:Ad ["road"] ["road"] (A4 L5):=⟨rfl,rfl,rfl,by decide +kernel,rfl,by decide +kernel,by decide +kernel⟩
noncomputable abbrev JV:Stmt:=top 16
def O4:Ad ["ladder"] ["ladder"] (A4 JV):=⟨rfl,rfl,rfl,by decide +kernel,rfl,by decide +kernel,by decide +kernel⟩
noncomputable abbrev Ph:Stmt:=top 17
def Dm:Ad ["order","costs","place","reached","rank","lower","higher","cost"] ["order","costs","place"] (A4 Ph):=⟨rfl,rfl,rfl,by decide +kernel,rfl,by decide +kernel,by decide +kernel⟩
noncomputable abbrev Wr:Stmt:=top 19
def Fh:Ad ["order","costs","place","reached","told","higher","lower","over"] ["order","costs","place"] (A4 Wr):=⟨rfl,rfl,rfl,by decide +kernel,rfl,by decide +kernel,by decide +kernel⟩
noncomputable abbrev L6:Stmt:=top 20
def QH:Ad ["ladder","start"] ["ladder","start"] (A4 L6):=⟨rfl,rfl,rfl,by decide +kernel,rfl,by decide +kernel,by decide +kernel⟩
noncomputable abbrev Bj:Stmt:=top 21
def Io:Ad ["ladder","start","goals","most","costs","found"] ["ladder","start","goals","most"] (A4 Bj):=⟨rfl,rfl,rfl,by decide +kernel,rfl,by decide +kernel,by decide +kernel⟩
noncomputable abbrev SM:Stmt:=top 22
def Pj:Ad ["ladder","start","length","costs"] ["ladder","start","length"] (A4 SM):=⟨rfl,rfl,rfl,by decide +kernel,rfl,by decide +kernel,by decide +kernel⟩
noncomputable abbrev HF:Stmt:=top 24
def Nb:Ad ["laid","pair"] ["laid","pair"] (A4 HF):=⟨rfl,rfl,rfl,by decide +kernel,rfl,by decide +kernel,by decide +kernel⟩
noncomputable abbrev lQ:Stmt:=top 25
def qB:Ad ["laid","pair","cost","middle"] ["laid","pair","cost","middle"] (A4 lQ):=⟨rfl,rfl,rfl,by decide +kernel,rfl,by decide +kernel,by decide +kernel⟩
noncomputable abbrev Nc:Stmt:=top 26
def EM:Ad ["laid","place","higher","u","w","cost"] ["laid","place","higher"] (A4 Nc):=⟨rfl,rfl,rfl,by decide +kernel,rfl,by decide +kernel,by decide +kernel⟩
noncomputable abbrev L7:Stmt:=top 27
def CZ:Ad ["net","order","laid","road","rank","place"] ["net","order"] (A4 L7):=⟨rfl,rfl,rfl,by decide +kernel,rfl,by decide +kernel,by decide +kernel⟩
noncomputable abbrev Nd:Stmt:=top 29
def SN:Ad ["net","thing"] ["net","thing"] (A4 Nd):=⟨rfl,rfl,rfl,by decide +kernel,rfl,by decide +kernel,by decide +kernel⟩
noncomputable abbrev FX:Stmt:=top 30
def KG:Ad ["net","thing"] ["net","thing"] (A4 FX):=⟨rfl,rfl,rfl,by decide +kernel,rfl,by decide +kernel,by decide +kernel⟩
noncomputable abbrev JW:Stmt:=top 31
def EX:Ad ["net","bows","road"] ["net"] (A4 JW):=⟨rfl,rfl,rfl,by decide +kernel,rfl,by decide +kernel,by decide +kernel⟩
noncomputable abbrev GB:Stmt:=top 32
def BY:Ad ["bows","left","place","ahead","behind","missing","u"] ["bows","left","place"] (A4 GB):=⟨rfl,rfl,rfl,by decide +kernel,rfl,by decide +kernel,by decide +kernel⟩
noncomputable abbrev Nf:Stmt:=top 33
def SO:Ad ["bows","left"] ["bows","left"] (A4 Nf):=⟨rfl,rfl,rfl,by decide +kernel,rfl,by decide +kernel,by decide +kernel⟩
noncomputable abbrev SQ:Stmt:=top 34
def Ed:Ad ["net","bows","left","order","place","bow"] ["net"] (A4 SQ):=⟨rfl,rfl,rfl,by decide +kernel,rfl,by decide +kernel,by decide +kernel⟩
noncomputable abbrev JX:Stmt:=top 36
def Bz:Ad ["net","start","costs","changed","road","cost"] ["net","start"] (A4 JX):=⟨rfl,rfl,rfl,by decide +kernel,rfl,by decide +kernel,by decide +kernel⟩
noncomputable abbrev EN:Stmt:=top 38
def Ip:Ad ["net","order"] ["net","order"] (A4 EN):=⟨rfl,rfl,rfl,by decide +kernel,rfl,by decide +kernel,by decide +kernel⟩
noncomputable abbrev L8:Stmt:=top 39
def E5:Ad ["net","laid","kept","u","costs"] ["net","laid"] (A4 L8):=⟨rfl,rfl,rfl,by decide +kernel,rfl,by decide +kernel,by decide +kernel⟩
noncomputable abbrev Ay:Stmt:=inClass (top 40) 0
def Iq:Ad ["self","net","order"] ["self","net","order"] (A4 Ay):=⟨rfl,rfl,rfl,by decide +kernel,rfl,by decide +kernel,by decide +kernel⟩
noncomputable abbrev GC:Stmt:=inClass (top 40) 2
def Lw:Ad ["self"] ["self"] (A4 GC):=⟨rfl,rfl,rfl,by decide +kernel,rfl,by decide +kernel,by decide +kernel⟩
noncomputable abbrev Dy:Stmt:=inClass (top 40) 4
def Dc:Ad ["self","u","w","many"] ["self","u","w"] (A4 Dy):=⟨rfl,rfl,rfl,by decide +kernel,rfl,by decide +kernel,by decide +kernel⟩
noncomputable abbrev HG:Stmt:=inClass (top 40) 5
def Ng:Ad ["self","u","w"] ["self","u","w"] (A4 HG):=⟨rfl,rfl,rfl,by decide +kernel,rfl,by decide +kernel,by decide +kernel⟩
noncomputable abbrev HH:Stmt:=inClass (top 40) 8
def Nh:Ad ["self"] ["self"] (A4 HH):=⟨rfl,rfl,rfl,by decide +kernel,rfl,by decide +kernel,by decide +kernel⟩
noncomputable abbrev HI:Stmt:=top 42
def Ni:Ad ["_law_script","_law_k"] ["_law_script","_law_k"] (A4 HI):=⟨rfl,rfl,rfl,by decide +kernel,rfl,by decide +kernel,by decide +kernel⟩
noncomputable abbrev Pk:Stmt:=top 43
def Nj:Ad ["_law_cell","_law_k","_law_number"] ["_law_cell","_law_k"] (A4 Pk):=⟨rfl,rfl,rfl,by decide +kernel,rfl,by decide +kernel,by decide +kernel⟩
noncomputable abbrev L9:Stmt:=top 44
def QI:Ad ["_law_cell","_law_k"] ["_law_cell","_law_k"] (A4 L9):=⟨rfl,rfl,rfl,by decide +kernel,rfl,by decide +kernel,by decide +kernel⟩
noncomputable abbrev La:Stmt:=top 45
def QJ:Ad ["_law_found"] ["_law_found"] (A4 La):=⟨rfl,rfl,rfl,by decide +kernel,rfl,by decide +kernel,by decide +kernel⟩
noncomputable abbrev HJ:Stmt:=top 46
def Nk:Ad ["_law_found"] ["_law_found"] (A4 HJ):=⟨rfl,rfl,rfl,by decide +kernel,rfl,by decide +kernel,by decide +kernel⟩
noncomputable abbrev Lb:Stmt:=top 47
def Bg:Ad ["_law_cells","_law_many","_law_roads_here","_law_k","_law_mixed","_law_great_here","_law_one","_law_other","_law_small","_law_length_here"] ["_law_cells","_law_many"] (A4 Lb):=⟨rfl,rfl,rfl,by decide +kernel,rfl,by decide +kernel,by decide +kernel⟩
noncomputable abbrev Lc:Stmt:=top 48
def Fx:Ad ["_law_cell","_law_many","_law_order_here","_law_place"] ["_law_cell","_law_many"] (A4 Lc):=⟨rfl,rfl,rfl,by decide +kernel,rfl,by decide +kernel,by decide +kernel⟩
noncomputable abbrev Ld:Stmt:=top 49
def QK:Ad ["_law_one","_law_other"] ["_law_one","_law_other"] (A4 Ld):=⟨rfl,rfl,rfl,by decide +kernel,rfl,by decide +kernel,by decide +kernel⟩
noncomputable abbrev Le:Stmt:=top 50
def QL:Ad ["_law_some"] ["_law_some"] (A4 Le):=⟨rfl,rfl,rfl,by decide +kernel,rfl,by decide +kernel,by decide +kernel⟩
noncomputable abbrev Nl:Stmt:=top 51
def SR:Ad ["_law_road"] ["_law_road"] (A4 Nl):=⟨rfl,rfl,rfl,by decide +kernel,rfl,by decide +kernel,by decide +kernel⟩
noncomputable abbrev Lf:Stmt:=top 52
def Bx:Ad ["_law_roads_here","_law_many","_law_costs_here","_law_u","_law_v","_law_row","_law_road","_law_w"] ["_law_roads_here","_law_many"] (A4 Lf):=⟨rfl,rfl,rfl,by decide +kernel,rfl,by decide +kernel,by decide +kernel⟩
noncomputable abbrev Nm:Stmt:=top 53
def EO:Ad ["_law_found","_law_costs_here","_law_goals","_law_room","_law_due","_law_goal"] ["_law_found","_law_costs_here","_law_goals","_law_room"] (A4 Nm):=⟨rfl,rfl,rfl,by decide +kernel,rfl,by decide +kernel,by decide +kernel⟩
noncomputable abbrev JY:Stmt:=top 54
def EY:Ad ["_law_costs_here","_law_cell","_law_mixed","_law_cost"] ["_law_costs_here","_law_cell"] (A4 JY):=⟨rfl,rfl,rfl,by decide +kernel,rfl,by decide +kernel,by decide +kernel⟩
noncomputable abbrev Pm:Stmt:=top 55
def C4:Ad ["_law_script","_law_first","_law_many","_law_start","_law_roads_here","_law_ladder","_law_costs_here","_law_goals","_law_handed","_law_wanted","_law_length_here","_law_due","_law_found"] ["_law_script"] (A4 Pm):=⟨rfl,rfl,rfl,by decide +kernel,rfl,by decide +kernel,by decide +kernel⟩
structure Txt (K:za0)(mg:Str->Option Value):Prop where
 KH:AK K mg "is_whole_below" Fg ["thing","bound"]
 QM:AK K mg "is_measure" JU ["thing"]
 XQ:AK K mg "is_road" Pf ["thing","many"]
 dO:AK K mg "is_map" SJ ["thing"]
 XR:AK K mg "checked" Pg ["thing"]
 kL:AK K mg "added" Wo ["one","other"]
 kM:AK K mg "least" Wq ["some"]
 SS:AK K mg "road_cost" L5 ["road"]
 QN:AK K mg "kept_costs" JV ["ladder"]
 XS:AK K mg "climbed" Ph ["order","costs","place"]
 kN:AK K mg "swept" Wr ["order","costs","place"]
 SU:AK K mg "costs_out" L6 ["ladder","start"]
 XT:UE K mg "nearest" "most" 1 Bj ["ladder","start","goals","most"]
 dP:AK K mg "within" SM ["ladder","start","length"]
 O5:AK K mg "cost_so_far" HF ["laid","pair"]
 tZ:AK K mg "lay" lQ ["laid","pair","cost","middle"]
 UL:AK K mg "lay_over" Nc ["laid","place","higher"]
 SV:AK K mg "laid_arcs" L7 ["net","order"]
 UM:AK K mg "is_order" Nd ["net","thing"]
 Lx:AK K mg "checked_order" FX ["net","thing"]
 QO:AK K mg "first_bows" JW ["net"]
 Nn:AK K mg "missing_bows" GB ["bows","left","place"]
 UN:AK K mg "lightest" Nf ["bows","left"]
 dQ:AK K mg "ranked" SQ ["net"]
 QP:AK K mg "costs_from" JX ["net","start"]
 JZ:AK K mg "order_or_ranked" EN ["net","order"]
 SW:AK K mg "kept_arcs" L8 ["net","laid"]
 K1:Ud K mg "Ladder" "Ladder.__init__" Ay ["self","net","order"]
 Np:OQ K "Ladder" "order" "Ladder.order" GC ["self"]
 GD:OQ K "Ladder" "checked_arc" "Ladder.checked_arc" Dy ["self","u","w"]
 O6:OQ K "Ladder" "cost" "Ladder.cost" HG ["self","u","w"]
 O7:OQ K "Ladder" "kept" "Ladder.kept" HH ["self"]
 O8:AK K mg "_law_cell_at" HI ["_law_script","_law_k"]
 XU:AK K mg "_law_mix" Pk ["_law_cell","_law_k"]
 SX:AK K mg "_law_great" L9 ["_law_cell","_law_k"]
 SY:AK K mg "_law_whole" La ["_law_found"]
 O9:AK K mg "_law_is_cost" HJ ["_law_found"]
 T4:AK K mg "_law_roads" Lb ["_law_cells","_law_many"]
 T5:AK K mg "_law_order" Lc ["_law_cell","_law_many"]
 T6:AK K mg "_law_added" Ld ["_law_one","_law_other"]
 T7:AK K mg "_law_least" Le ["_law_some"]
 UO:AK K mg "_law_open" Nl ["_law_road"]
 T8:AK K mg "_law_costs" Lf ["_law_roads_here","_law_many"]
 UP:AK K mg "_law_near" Nm ["_law_found","_law_costs_here","_law_goals","_law_room"]
 QQ:AK K mg "_law_length" JY ["_law_costs_here","_law_cell"]
 yI:AK K mg "law" Pm ["_law_script"]
 Ws:mg "all" = none
 dR:mg "bool" = none
 qC:mg "dict" = none
 GF:mg "enumerate" = none
 dS:mg "int" = none
 AM:mg "isinstance" = none
 Fi:mg "len" = none
 DJ:mg "list" = none
 uA:mg "max" = none
 dU:mg "min" = none
 Ck:mg "range" = none
 UQ:mg "reversed" = none
 uB:mg "set" = none
 K2:mg "sorted" = none
 K3:mg "tuple" = none
 En:HD K "Ladder" "kept_ones"
 Dt:HD K "Ladder" "laid"
 BJ:HD K "Ladder" "own_map"
 CG:HD K "Ladder" "own_order"
local macro_rules|`(tactic|simp_arith[$xs,*])=>do `(tactic|simp only[$[$(("uQ uR M3 List.set_cons_zero List.set_cons_succ M.A8 H9 GZ J3 Jo Jp Jq LQ Ii Ks S3 Jf Jg Hd VC LN LO Jh iK He Hf Ft Qg Dk Qh Ji Jj Hg VF Je F7 toCl_list toCl_listP toCl_dct LR Jr Js Jt Ju LS Jv Jw Jx qL sY Jk VG Jl VH Jm Jn LP VI uS uU iN iO iP iQ iR iS toCl_nil IX J9 NW Qi Hh LU LV Jy Jz LW LX LY LZ M2 JA JB JC JD Hi Hj Hk Hl Hm JE Hn Ho VJ VL VM VN VO Hq ite_tt ite_ff Bool.not_true Bool.not_false List.getElem?_cons_zero List.getElem?_cons_succ Fc Gy JJ iM jM iL jP jQ jR M9 Qt Qu Qv Ec Hw Mb Qk kA W9 Qz".splitOn " ").toArray.map λ x=>Lean.mkIdent x.toName):term],*,$xs,*])
variable {P:Program}{w:World}{K:za0}{mg:Str->Option Value}{base:Heap}
def D1:∃F:List D->M OT,(∀ {P w K mg base},Txt K mg->BS P w K mg base "is_whole_below" 1 2 F)/\(∀i n:Int,0<=i->i<n->F [.int i,.int n]=.ok (.sh (.bl true))):=by
 refine⟨_,λ T=>AD (k:=0) T.KH JT _ (λ f B2 A outer s H E hr=>(A6 (Aj (AY (I0 (DD (RJ _) rfl T.AM rfl T.dS (by decide +kernel) (A1 0 (pv 0))) (I0 (YX (DD (OF _) rfl T.AM rfl T.dR (by decide +kernel) (A1 0 (pv 0)))) (Kk (WT kQ kP A5 (A1 0 (pv 0)) (A1 1 (pv 1)))))))))),?_⟩;intro i n h0 h1;have e0:AB ["thing","bound"] [.int i,.int n]=[some (.val (.int i)),some (.val (.int n))]:=rfl;rw[e0];refine Bv ?_;have a:=decide_eq_true h0;have b:=decide_eq_true h1;simp_arith[Fc,a,b,Gq];rfl
abbrev FY:List D->M OT:=za8 D1
def B0:Txt K mg->BS P w K mg base "is_whole_below" 1 2 FY:=(za1 D1).1
def B1:∀i n:Int,0<=i->i<n->FY [.int i,.int n]=.ok (.sh (.bl true)):=(za1 D1).2
def EZ:∃F:List D->M OT,(∀ {P w K mg base},Txt K mg->BS P w K mg base "is_measure" 2 1 F)/\(∀i:Int,0<=i->i<NP->F [.int i]=.ok (.sh (.bl true))):=by
 refine⟨_,λ T=>AD (k:=1) T.QM O3 _ (λ f B2 A outer s H E hr=>(A6 (Aj (Aa A9.toXCall (B0 T) (hr.mono (by decide)) rfl (A2 (A1 0 (pv 0)) (A2 (YT A5 A5) A7)) rfl)))),?_⟩;intro i h0 h1;have e0:AB ["thing"] [.int i]=[some (.val (.int i))]:=rfl;rw[e0];have h:=B1 i NP h0 h1;refine Bv ?_;simp_arith[lK,h];rfl
abbrev Lg:List D->M OT:=za8 EZ
def HK:Txt K mg->BS P w K mg base "is_measure" 2 1 Lg:=(za1 EZ).1
def HL:∀i:Int,0<=i->i<NP->Lg [.int i]=.ok (.sh (.bl true)):=(za1 EZ).2
def Ir:∃F:List D->M OT,(∀ {P w K mg base},Txt K mg->BS P w K mg base "is_road" 3 2 F)/\(∀(m:Nat) (r:Road),Im m r->F [Bl r,.int m]=.ok (.sh (.bl true))):=by
 refine⟨_,λ T=>AD (k:=2) T.XQ UJ _ (λ f B2 A outer s H E hr=>(A3 (B5 (DW.dt (DM (C2 (BG (c:=true) (DD (Fp _) rfl T.AM rfl T.K3 (by decide +kernel) (A1 0 (pv 0))))) (CU (Hz (c:=true) (AL hr 16 (by decide)) (Dg rfl T.Fi (A1 0 (pv 0))) A5)))) (A6 (Aj (AY D6))) As) (A3 (B5 (DW.dt (DM (C2 (BG (c:=true) (Ah (Aa A9.toXCall (B0 T) (hr.mono (by decide)) rfl (A2 (Ab (AL hr 16 (by decide)) (A1 0 (pv 0)) A5) (A2 (A1 1 (pv 1)) A7)) rfl)))) (CU (C2 (BG (c:=true) (Ah (Aa A9.toXCall (B0 T) (hr.mono (by decide)) rfl (A2 (Ab (AL hr 16 (by decide)) (A1 0 (pv 0)) A5) (A2 (A1 1 (pv 1)) A7)) rfl))))))) (A6 (Aj (AY D6))) As) (A3 (B5 (KU (c:=true) (AL hr 16 (by decide)) (Ab (AL hr 16 (by decide)) (A1 0 (pv 0)) A5) (Ab (AL hr 16 (by decide)) (A1 0 (pv 0)) A5)) (A6 (Aj (AY D6))) As) (A6 (Aj (AY (I0 (sN (nX (Ab (AL hr 16 (by decide)) (A1 0 (pv 0)) A5)) (Kk (Ah (Aa A9.toXCall (HK T) (hr.mono (by decide)) rfl (A2 (Ab (AL hr 16 (by decide)) (A1 0 (pv 0)) A5) A7) rfl)))) (Kk (Ah (Aa A9.toXCall (HK T) (hr.mono (by decide)) rfl (A2 (Ab (AL hr 16 (by decide)) (A1 0 (pv 0)) A5) A7) rfl))))))))))),?_⟩;intro m r ok;have e0:AB ["thing","many"] [Bl r,.int m]=[some (.val (Bl r)),some (.val (.int m))]:=rfl;rw[e0];refine Bv ?_;have i0:AO (Bl r) (.int 0)=.ok (.int r.a):=rfl;have i1:AO (Bl r) (.int 1)=.ok (.int r.b):=rfl;have i2:AO (Bl r) (.int 2)=.ok (Gv r.l):=rfl;have i3:AO (Bl r) (.int 3)=.ok (.int r.w):=rfl;have ha:=B1 r.a m ok.a0 ok.a1;have hb:=B1 r.b m ok.b0 ok.b1;have hw:=HL r.w ok.w0 ok.w1;apply wp_step
 ·rfl
 apply wp_step
 ·simp_arith[i0,i1,ha,hb,Gq];rfl
 apply wp_step
 ·simp_arith[i0,i1,decide_eq_false ok.ab];rfl
 simp_arith[i2,i3,hw];cases q:r.l with
 |none=>rfl
 |some z =>
  have hl:=HL z (ok.l0 z q).1 (ok.l0 z q).2;have e:Gv (some z)=.int z:=rfl;simp_arith[e,hl];rfl
abbrev T9:List D->M OT:=za8 Ir
def UR:Txt K mg->BS P w K mg base "is_road" 3 2 T9:=(za1 Ir).1
def US:∀(m:Nat) (r:Road),Im m r->T9 [Bl r,.int m]=.ok (.sh (.bl true)):=(za1 Ir).2
def KI:∃F:List D->M OT,(∀ {P w K mg base},Txt K mg->BS P w K mg base "is_map" 4 1 F)/\(∀(m:Nat) (rs:List Road),1<=m->m<=16->rs.length<=60->(∀r∈rs,Im m r)->F [Ap m rs]=.ok (.sh (.bl true))):=by
 refine⟨_,λ T=>AD (k:=3) T.dO KD _ (λ f B2 A outer s H E hr=>(A3 (B5 (DW.dt (DM (C2 (BG (c:=true) (DD (Fp _) rfl T.AM rfl T.K3 (by decide +kernel) (A1 0 (pv 0))))) (CU (Hz (c:=true) (AL hr 16 (by decide)) (Dg rfl T.Fi (A1 0 (pv 0))) A5)))) (A6 (Aj (AY D6))) As) (A3 (AG 1 KD.nd rfl (Or.inr rfl) (Ab (AL hr 16 (by decide)) (A1 0 (pv 0)) A5)) (A3 (AG 2 KD.nd rfl (zb6 rfl) (Ab (AL hr 16 (by decide)) (A1 0 (pv 0)) A5)) (A3 (B5 (DW.dt (DM (C2 (BG (c:=true) (Ah (Aa A9.toXCall (B0 T) (hr.mono (by decide)) rfl (A2 (A1 1 (pv 1)) (A2 A5 A7)) rfl)))) (CU (KU (c:=true) (AL hr 16 (by decide)) (A1 1 (pv 1)) A5)))) (A6 (Aj (AY D6))) As) (A3 (B5 (DW.dt (DM (C2 (BG (c:=true) (DD (GU _) rfl T.AM rfl T.DJ (by decide +kernel) (A1 2 (pv 2))))) (CU (Vm (c:=true) (Dg rfl T.Fi (A1 2 (pv 2))) A5)))) (A6 (Aj (AY D6))) As) (A6 (Aj (AY (Q9 rfl rfl T.Ws (Ah (CC (NB:=["road","many"]) [none,some 1] rfl (AW (A1 2 (pv 2))) rfl rfl (Bd 0 (by decide) rfl rfl rfl) (λ _ _ _ _=>DV) (λ _ _ _ _=>(Ah (Bq (Aa (AX rfl).toXCall (UR T) (hr.mono (by decide)) rfl (A2 (A1 0 (pv 0)) (A2 (A1 1 (pv 1)) A7)) rfl)))))))))))))))),?_⟩;intro m rs h1 h2 hl Ar;have e0:AB ["thing","many","roads"] [Ap m rs]=[some (.val (Ap m rs)),none,none]:=rfl;rw[e0];refine Bv ?_;have i0:AO (Ap m rs) (.int 0)=.ok (.int m):=rfl;have i1:AO (Ap m rs) (.int 1)=.ok (.lst (rs.map Bl)):=rfl;have hn:=B1 m 17 (by omega) (by omega);have hm:decide ((m:Int)=0)=false:=decide_eq_false (by omega);have gn:decide ((60:Int)<((rs.map Bl).length:Int))=false:=decide_eq_false (by rw[za2];omega);have ar:(rs.map Bl).length<=1000:=by rw[za2];omega
 apply wp_step
 ·rfl
 apply wp_step
 ·simp_arith[i0];rfl
 apply wp_step
 ·simp_arith[i1];rfl
 apply wp_step
 ·simp_arith[hn,hm,Gq];rfl
 apply wp_step
 ·simp_arith[gn,Gq];rfl
 simp_arith[if_pos ar];rw[Ca (λ _:Road=>D.bl true) (λ r hr=>⟨_,rfl,rfl,by
  have:=US m r (Ar r hr);simp_arith[this]⟩)]
 simp_arith[tS];rfl
abbrev Wt:List D->M OT:=za8 KI
def XW:Txt K mg->BS P w K mg base "is_map" 4 1 Wt:=(za1 KI).1
def XX:∀(m:Nat) (rs:List Road),1<=m->m<=16->rs.length<=60->(∀r∈rs,Im m r)->Wt [Ap m rs]=.ok (.sh (.bl true)):=(za1 KI).2
def Iv:∃F:List D->M OT,(∀ {P w K mg base},Txt K mg->BS P w K mg base "checked" 5 1 F)/\(∀(m:Nat) (rs:List Road),1<=m->m<=16->rs.length<=60->(∀r∈rs,Im m r)->F [Ap m rs]=.ok (.tup [.sh (.int m),.lst ((rs.map Bl).map .sh)])):=by
 refine⟨_,λ T=>AD (k:=4) T.XR UK _ (λ f B2 A outer s H E hr=>(A3 (B5 (C2 (BG (c:=true) (Ah (Aa A9.toXCall (XW T) (hr.mono (by decide)) rfl (A2 (A1 0 (pv 0)) A7) rfl)))) (A6 U3) As) (A6 (Aj (oI (RQ (AY (Ab (AL hr 16 (by decide)) (A1 0 (pv 0)) A5)) (RQ (CC (NB:=["road"]) [none] rfl (AW (Ab (AL hr 16 (by decide)) (A1 0 (pv 0)) A5)) rfl rfl (Bd 0 (by decide) rfl rfl rfl) (λ _ _ _ _=>DV) (λ _ _ _ _=>(Z0 rfl T.K3 (A1 0 (pv 0))))) EI))))))),?_⟩;intro m rs h1 h2 hl Ar;have e0:AB ["thing"] [Ap m rs]=[some (.val (Ap m rs))]:=rfl;rw[e0];have h1:=XX m rs h1 h2 hl Ar;have n0:AO (Ap m rs) (.int 0)=.ok (.int m):=rfl;have n1:AO (Ap m rs) (.int 1)=.ok (.lst (rs.map Bl)):=rfl;have ar:(rs.map Bl).length<=1000:=by rw[za2];omega
 refine Bv ?_;apply wp_step
 ·simp_arith[h1,Gq];rfl
 simp_arith[n0,n1,if_pos ar];rw[Ca Bl (λ r hr=>⟨_,rfl,rfl,rfl⟩)];simp_arith[];exact⟨_,rfl,rfl⟩
abbrev Ta:List D->M OT:=za8 Iv
def UT:Txt K mg->BS P w K mg base "checked" 5 1 Ta:=(za1 Iv).1
def UU:∀(m:Nat) (rs:List Road),1<=m->m<=16->rs.length<=60->(∀r∈rs,Im m r)->Ta [Ap m rs]=.ok (.tup [.sh (.int m),.lst ((rs.map Bl).map .sh)]):=(za1 Iv).2
def Nq:∃F:List D->M OT,(∀ {P w K mg base},Txt K mg->BS P w K mg base "added" 1 2 F)/\(∀a b:Co,F [cst a,cst b]=.ok (.sh (cst (Ao a b)))):=by
 refine⟨_,λ T=>AD (k:=0) T.kL dM _ (λ f B2 A outer s H E hr=>(A3 (B5 (DW.dt (DM (HZ (c:=true) (A1 0 (pv 0))) (CU (HZ (c:=true) (A1 1 (pv 1)))))) (A6 (Aj (AY Df))) As) (A6 (Aj (AY (AH (A2 (BN (Ab (AL hr 16 (by decide)) (A1 0 (pv 0)) A5) (Ab (AL hr 16 (by decide)) (A1 1 (pv 1)) A5)) (A2 (BN (Ab (AL hr 16 (by decide)) (A1 0 (pv 0)) A5) (Ab (AL hr 16 (by decide)) (A1 1 (pv 1)) A5)) A7)))))))),?_⟩;intro a b;rcases a with _|⟨a1,a2⟩<;>rcases b with _|⟨b1,b2⟩<;>rfl
abbrev dW:List D->M OT:=za8 Nq
def K4:Txt K mg->BS P w K mg base "added" 1 2 dW:=(za1 Nq).1
def K5:∀a b:Co,dW [cst a,cst b]=.ok (.sh (cst (Ao a b))):=(za1 Nq).2
def Nr:∃F:List D->M OT,(∀ {P w K mg base},Txt K mg->BS P w K mg base "least" 1 1 F)/\(∀cs:List Co,cs.length<=1000->F [.lst (cs.map cst)]=.ok (.sh (cst (Fv cs)))):=by
 refine⟨_,λ T=>AD (k:=0) T.kM dN _ (λ f B2 A outer s H E hr=>(A6 (Aj (AY (Vp rfl (AL hr 1 (by decide)) rfl T.dU (Ah (CC (NB:=["cost"]) [none] rfl (AW (A1 0 (pv 0))) rfl rfl (Bd 0 (by decide) rfl rfl rfl) (λ _ _ _ _=>DY (DU (c:=true) (A1 0 (pv 0)))) (λ _ _ _ _=>(A1 0 (pv 0))))) Df))))),?_⟩;intro cs hc;have e0:∀x:D,AB ["some"] [x]=[some (.val x)]:=λ x=>rfl;rw[e0];refine Bv ?_;have hl:(cs.map cst).length<=1000:=by rw[za2];exact hc
 have xL:=Sf cs;have q0:=VZ cs;simp_arith[if_pos hl];rw[Gu];simp_arith[q0];rfl
abbrev QR:List D->M OT:=za8 Nr
def Nt:Txt K mg->BS P w K mg base "least" 1 1 QR:=(za1 Nr).1
def Nu:∀cs:List Co,cs.length<=1000->QR [.lst (cs.map cst)]=.ok (.sh (cst (Fv cs))):=(za1 Nr).2
def Fy:∃F:List D->M OT,(∀ {P w K mg base},Txt K mg->BS P w K mg base "road_cost" 1 1 F)/\(∀r:Road,F [Bl r]=.ok (.sh (cst (Cd r)))):=by
 refine⟨_,λ T=>AD (k:=0) T.SS QG _ (λ f B2 A outer s H E hr=>(A3 (B5 (HZ (c:=true) (Ab (AL hr 16 (by decide)) (A1 0 (pv 0)) A5)) (A6 (Aj (AY Df))) As) (A6 (Aj (AY (AH (A2 (Ab (AL hr 16 (by decide)) (A1 0 (pv 0)) A5) (A2 A5 A7)))))))),?_⟩;intro r;obtain⟨a,b,l,w⟩:=r;cases l<;>rfl
abbrev Nv:List D->M OT:=za8 Fy
def Fz:Txt K mg->BS P w K mg base "road_cost" 1 1 Nv:=(za1 Fy).1
def FA:∀r:Road,Nv [Bl r]=.ok (.sh (cst (Cd r))):=(za1 Fy).2
def C5:∃F:List D->M OT,(∀ {P w K mg base},Txt K mg->Ik P w K mg base "Ladder" "checked_arc" 2 3 F)/\(∀(m:Nat) (rs:List Road) (L:List Int) (A:LA) (K:List (Int×Int)) (u w:Int),0<=u->u<m->0<=w->w<m->(AJ A (u,w)).isSome=true->F [AU m rs L A K,.int u,.int w]=.ok (.sh (pD (u,w)))):=by
 refine⟨_,λ T=>M4 (k:=1) T.GD Dc _ (λ f B2 A outer s H E hr=>(A3 (AG 3 Dc.nd rfl (zb6 rfl) (Ab (AL hr 16 (by decide)) (EV ["Ladder"] (Bw T.BJ C7) (A1 0 (pv 0))) A5)) (A3 (B5 (DW.dt (DM (C2 (BG (c:=true) (Ah (Aa A9.toXCall (B0 T) (hr.mono (by decide)) rfl (A2 (A1 1 (pv 1)) (A2 (A1 3 (pv 3)) A7)) rfl)))) (DM (C2 (BG (c:=true) (Ah (Aa A9.toXCall (B0 T) (hr.mono (by decide)) rfl (A2 (A1 2 (pv 2)) (A2 (A1 3 (pv 3)) A7)) rfl)))) (CU (LK (c:=true) (AL hr 16 (by decide)) (AH (A2 (A1 1 (pv 1)) (A2 (A1 2 (pv 2)) A7))) (EV ["Ladder"] (Bw T.Dt C7) (A1 0 (pv 0)))))))) (A6 U3) As) (A6 (Aj (AY (AH (A2 (A1 1 (pv 1)) (A2 (A1 2 (pv 2)) A7))))))))),?_⟩;intro m rs L A K u w u0 u1 w0 w1 hf;have e0:AB ["self","u","w","many"] [AU m rs L A K,.int u,.int w]=[some (.val (AU m rs L A K)),some (.val (.int u)),some (.val (.int w)),none]:=rfl;rw[e0];refine Bv ?_;have f1:NY ["Ladder"] "own_map" (AU m rs L A K)=.ok (Ap m rs):=rfl;have f2:NY ["Ladder"] "laid" (AU m rs L A K)=.ok (L3 A):=rfl;have n0:AO (Ap m rs) (.int 0)=.ok (.int m):=rfl;have h1:=B1 u m u0 u1;have h2:=B1 w m w0 w1;have hp:D.tup [.int u,.int w]=pD (u,w):=rfl;have hm:=Qw A (u,w) true;rw[hf] at hm;apply wp_step
 ·simp_arith[f1,n0];rfl
 apply wp_step
 ·simp_arith[h1,h2,f2,hp,hm,Gq];rfl
 rfl
abbrev Be:List D->M OT:=za8 C5
def G3:Txt K mg->Ik P w K mg base "Ladder" "checked_arc" 2 3 Be:=(za1 C5).1
def G4:∀(m:Nat) (rs:List Road) (L:List Int) (A:LA) (K:List (Int×Int)) (u w:Int),0<=u->u<m->0<=w->w<m->(AJ A (u,w)).isSome=true->Be [AU m rs L A K,.int u,.int w]=.ok (.sh (pD (u,w))):=(za1 C5).2
def Eo:∃F:List D->M OT,(∀ {P w K mg base},Txt K mg->Ik P w K mg base "Ladder" "cost" 3 3 F)/\(∀(m:Nat) (rs:List Road) (L:List Int) (A:LA) (K:List (Int×Int)) (u w:Int) (c:Int×Int),Fj m A->Ak A (u,w)=some c->F [AU m rs L A K,.int u,.int w]=.ok (.sh (cst (some c)))):=by
 refine⟨_,λ T=>M4 (k:=2) T.O6 Ng _ (λ f B2 A outer s H E hr=>(A6 (Aj (AY (Ab (AL hr 16 (by decide)) (Ab (AL hr 16 (by decide)) (EV ["Ladder"] (Bw T.Dt C7) (A1 0 (pv 0))) (Ah (VR (k:=2) [("Ladder",Be)] A9.toXCall (JF (by decide) (G3 T) M6) (hr.mono (by decide)) (A1 0 (pv 0)) (A2 (A1 1 (pv 1)) (A2 (A1 2 (pv 2)) A7)) rfl))) A5))))),?_⟩;intro m rs L A K u w c hA hc;have e0:AB ["self","u","w"] [AU m rs L A K,.int u,.int w]=[some (.val (AU m rs L A K)),some (.val (.int u)),some (.val (.int w))]:=rfl;rw[e0];refine Bv ?_;have f2:NY ["Ladder"] "laid" (AU m rs L A K)=.ok (L3 A):=rfl;have hk:=hA.rg _ (Fd hc);obtain⟨v,hv⟩:∃v,AJ A (u,w)=some (c,v):=by
  unfold Ak at hc;cases q:AJ A (u,w) with
  |none=>rw[q] at hc;cases hc
  |some z=>rw[q] at hc;obtain⟨z1,z2⟩:=z;cases hc;exact⟨z2,rfl⟩
 have h1:=G4 m rs L A K u w hk.2.1.1 hk.2.1.2 hk.2.2.1 hk.2.2.2 (by rw[hv];rfl);have hi:=Qx hv;have h0:AO (XC (c,v)) (.int 0)=.ok (cst (some c)):=rfl;have hs:Ls [("Ladder",Be)] "checked_arc" (AU m rs L A K)=.ok Be:=rfl;simp_arith[f2,hs,h1,hi,h0];rfl
abbrev D2:List D->M OT:=za8 Eo
def Nw:Txt K mg->Ik P w K mg base "Ladder" "cost" 3 3 D2:=(za1 Eo).1
def Nx:∀(m:Nat) (rs:List Road) (L:List Int) (A:LA) (K:List (Int×Int)) (u w:Int) (c:Int×Int),Fj m A->Ak A (u,w)=some c->D2 [AU m rs L A K,.int u,.int w]=.ok (.sh (cst (some c))):=(za1 Eo).2
def Ep:∃F:List D->M OT,(∀ {P w K mg base},Txt K mg->Ik P w K mg base "Ladder" "kept" 1 1 F)/\(∀(m:Nat) (rs:List Road) (L:List Int) (A:LA) (K:List (Int×Int)),F [AU m rs L A K]=.ok (.lst ((K.map pD).map .sh))):=by
 refine⟨_,λ T=>M4 (k:=0) T.O7 Nh _ (λ f B2 A outer s H E hr=>(A6 (Aj (Ha rfl T.DJ (EV ["Ladder"] (Bw T.En C7) (A1 0 (pv 0))))))),?_⟩;intro m rs L A K;rfl
abbrev D3:List D->M OT:=za8 Ep
def Ny:Txt K mg->Ik P w K mg base "Ladder" "kept" 1 1 D3:=(za1 Ep).1
def Nz:∀(m:Nat) (rs:List Road) (L:List Int) (A:LA) (K:List (Int×Int)),D3 [AU m rs L A K]=.ok (.lst ((K.map pD).map .sh)):=(za1 Ep).2
def F0:∃F:List D->M OT,(∀ {P w K mg base},Txt K mg->BS P w K mg base "kept_costs" 4 1 F)/\(∀(m:Nat) (rs:List Road) (L:List Int) (A:LA) (K:List (Int×Int)),Cw m rs L A K->F [AU m rs L A K]=.ok (vB (R8 A K))):=by
 refine⟨_,λ T=>AD (k:=3) T.QN O4 _ (λ f B2 A outer s H E hr=>(A6 (Aj (ZG rfl (AL hr 16 (by decide)) rfl T.qC (Ah (CC (NB:=["u","w","ladder"]) [none,none,some 0] rfl (AW (Ah (S9 (k:=1) [("Ladder",D3)] A9.toXCall (JF (by decide) (Ny T) M6) (hr.mono (by decide)) (A1 0 (pv 0))))) rfl rfl (VB (n:=2) rfl (Hc 0 (by decide) rfl rfl rfl (Hc 1 (by decide) rfl rfl rfl S0))) (λ _ _ _ _=>DV) (λ _ _ _ _=>(AH (A2 (AH (A2 (A1 0 (pv 0)) (A2 (A1 1 (pv 1)) A7))) (A2 (Ah (Bq (VR (k:=3) [("Ladder",D2)] (AX rfl).toXCall (JF (by decide) (Nw T) M6) (hr.mono (by decide)) (A1 2 (pv 2)) (A2 (A1 0 (pv 0)) (A2 (A1 1 (pv 1)) A7)) rfl))) A7)))))))))),?_⟩;intro m rs L A K ok;have e0:AB ["ladder"] [AU m rs L A K]=[some (.val (AU m rs L A K))]:=rfl;rw[e0];refine Bv ?_;have hs:Ls [("Ladder",D3)] "kept" (AU m rs L A K)=.ok D3:=rfl;have a8:Ls [("Ladder",D2)] "cost" (AU m rs L A K)=.ok D2:=rfl;have hk:=Nz m rs L A K;have hl:(K.map pD).length<=1000:=by rw[za2];have:=ok.kl;omega
 have hn:((R8 A K).map zba).Nodup:=by rw[Su];exact ok.kn
 have hd:=pO (C:=R8 A K) hn (by simp only[R8,za2];have:=ok.kl;omega);simp_arith[hs,hk,if_pos hl];rw[Ca (λ p=>D.tup [pD p,cst (some ((Ak A p).getD (0,0)))]) (λ p hp=>⟨_,rfl,rfl,by
  obtain⟨c,hc,_⟩:=(ok.km p).mp hp;have h1:=Nx m rs L A K p.1 p.2 c ok.yH hc;simp_arith[a8,h1];rw[hc];rfl⟩)]
 have e1:(K.map λ p=>D.tup [pD p,cst (some ((Ak A p).getD (0,0)))])=(R8 A K).map λ kv=>D.tup [pD kv.1,cst (some kv.2)]:=by
  simp only[zB,R8,zbq];rfl
 rw[e1];simp_arith[hd];exact⟨_,rfl,rfl⟩
abbrev Lh:List D->M OT:=za8 F0
def Oa:Txt K mg->BS P w K mg base "kept_costs" 4 1 Lh:=(za1 F0).1
def Ob:∀(m:Nat) (rs:List Road) (L:List Int) (A:LA) (K:List (Int×Int)),Cw m rs L A K->Lh [AU m rs L A K]=.ok (vB (R8 A K)):=(za1 F0).2
def Iw:∃F:List D->M OT,(∀ {P w K mg base},Txt K mg->BS P w K mg base "climbed" 2 3 F)/\(∀(m:Nat) (L:List Int) (C:CA) (s:Int),m<=20->L.Perm (AI m)->s∈L->(∀p c,AJ C p=some c->p.1∈L/\p.2∈L)->∃R:RA,F [.lst (L.map D.int),Ma C,.int s]=.ok (eI R)/\R9 L C s L.length R):=by
 refine⟨_,λ T=>AD (k:=1) T.XS Dm _ (λ f B2 A outer s H E hr=>(A3 (Bf 3 Dm.nd rfl (zb6 rfl) (ZI (A1 2 (pv 2)) (AH (A2 A5 (A2 A5 A7))))) (A3 (BF A9.toXCall.own rfl (Q5 rfl T.GF (A1 0 (pv 0))) (Z3 (n:=2) rfl (IV (B4 4 Dm.nd rfl (zb6 rfl)) (IV (B4 5 Dm.nd rfl (zb6 rfl)) Vn))) (A6 (B5 (Gn (Kr (c:=true) (AL hr 16 (by decide)) (A1 5 (pv 5)) (A1 3 (pv 3)))) (A6 (BF A9.toXCall.own rfl (AW (Ah (Gs (A1 0 (pv 0)) (GV (BN (A1 4 (pv 4)) A5)) LG))) (B4 6 Dm.nd rfl (zb6 rfl)) (A6 (B5 (Kr (c:=true) (AL hr 16 (by decide)) (AH (A2 (A1 5 (pv 5)) (A2 (A1 6 (pv 6)) A7))) (A1 1 (pv 1))) (A3 (AG 7 Dm.nd rfl (zb6 rfl) (Ah (DF (Aa A9.toXCall (K4 T) (hr.mono (by decide)) rfl (A2 (Ab (AL hr 16 (by decide)) (A1 3 (pv 3)) (A1 5 (pv 5))) (A2 (Ab (AL hr 16 (by decide)) (A1 1 (pv 1)) (AH (A2 (A1 5 (pv 5)) (A2 (A1 6 (pv 6)) A7)))) A7)) rfl)))) (A6 (LM (AL hr 16 (by decide)) (C6 3 (pv 3)) (A1 6 (pv 6)) (Ah (DF (Aa A9.toXCall (Nt T) (hr.mono (by decide)) rfl (A2 (Fn (A2 (MS (AL hr 16 (by decide)) (A1 3 (pv 3)) (A1 6 (pv 6))) (A2 (A1 7 (pv 7)) A7))) A7) rfl)))))) As)))) As))) (A6 (CV 3 (pv 3)))))),?_⟩;intro m L C s hm hL hs hC;have hn:=Il hL;have hlen:=JK hL;have e0:AB ["order","costs","place","reached","rank","lower","higher","cost"] [.lst (L.map D.int),Ma C,.int s]=[some (.val (.lst (L.map D.int))),some (.val (Ma C)),some (.val (.int s)),none,none,none,none,none]:=rfl;rw[e0];refine (λ h:∃t,_/\∃R:RA,t=eI R/\R9 L C s L.length R=>by
  obtain⟨t,h1,R,rfl,h2⟩:=h;exact⟨R,h1,h2⟩) (Jd ?_)
 refine wp_step (ρ':=[some (.val (.lst (L.map D.int))),some (.val (Ma C)),some (.val (.int s)),some (.ow (.tree none (eI [(s,(0,0))]))),none,none,none,none]) (by rfl) ?_;refine C3 (I:=λ ρ=>∃(R:RA) (s4 s5 s6 s7:Option Cl),ρ=[some (.val (.lst (L.map D.int))),some (.val (Ma C)),some (.val (.int s)),some (.ow (.tree none (eI R))),s4,s5,s6,s7]/\R9 L C s L.length R) ?_ ?_
 ·simp_arith[];refine BH (λ i ρ=>i<=L.length/\∃(R:RA) (s4 s5 s6 s7:Option Cl),ρ=[some (.val (.lst (L.map D.int))),some (.val (Ma C)),some (.val (.int s)),some (.ow (.tree none (eI R))),s4,s5,s6,s7]/\R9 L C s i R) ⟨zb0 _,_,none,none,none,none,rfl,R9.start hs⟩ ?_ ?_
  ·rintro i d ρ hd ⟨hi,R,s4,s5,s6,s7,rfl,hR⟩;obtain⟨d',aI,rfl⟩:=GW hd;obtain⟨x,hx,rfl⟩:=BU aI;have ag:=(zak.mp hx).1;rw[Nat.zero_add];refine⟨_,rfl,?_⟩;have df:=pL R x false;have ql:=Qy hn hx;cases q:AJ R x with
   |none =>
    rw[q] at df;refine B9 (ρ':=_) (by simp_arith[df];rfl) ⟨ag,R,_,_,_,_,rfl,hR.skip hx hn q⟩
   |some c0 =>
    rw[q] at df;have sl:Zs (some ((i:Int)+1)) none (.lst (L.map D.int))=.ok (.lst (((L.drop (i+1)).map D.int).map .sh)):=by rw[List.map_drop];exact S6 _ (i+1)
    simp_arith[df,sl,if_true,Option.isSome_some,zas,if_false];refine BH (λ j ρ=>j<=(L.drop (i+1)).length/\∃(R':RA) (s6 s7:Option Cl),ρ=[some (.val (.lst (L.map D.int))),some (.val (Ma C)),some (.val (.int s)),some (.ow (.tree none (eI R'))),some (.val (.int i)),some (.val (.int x)),s6,s7]/\lO L C s i x c0 ((L.drop (i+1)).take j) R R') ⟨zb0 _,R,s6,s7,rfl,hR.nd,hR.rg,hR.sd,λ y=>Cc _,λ y _=>rfl,λ y hy=>by rw[List.take_zero] at hy;cases hy⟩ ?_ ?_
    ·rintro j d ρ hd ⟨hj,R',s6,s7,rfl,hI⟩;obtain⟨y,hy,rfl⟩:=BU hd;have jz:=(zak.mp hy).1;have u7:=zam hy;have ya:y∈L:=List.mem_of_mem_drop u7;have ip:i<Eb L y:=W8 hn u7;have et:(L.drop (i+1)).take (j+1)=(L.drop (i+1)).take j++[y]:=by rw[zc4,hy];rfl
     refine⟨_,rfl,?_⟩;rw[et];have t1:∀a b:Int,D.tup [.int a,.int b]=pD (a,b):=λ a b=>rfl;have mo:=pI C (x,y) false;cases q2:AJ C (x,y) with
     |none =>
      rw[q2] at mo;refine B9 (ρ':=_) (by simp_arith[t1,mo];rfl) ⟨jz,R',_,_,rfl,hI.skip q2⟩
     |some dd =>
      rw[q2] at mo;have aG:AJ R' x=some c0:=by rw[hI.sm x (by omega)];exact q
      have i1:=pM aG;have i2:=pJ q2;have h1:=K5 (some c0) (some dd);have g1:=cN R' y;obtain⟨v,hv⟩:∃v,DZ (AJ R' y) (some (c0.1+dd.1,c0.2+dd.2))=some v:=by
       cases AJ R' y with
       |none|some z=>exact⟨_,rfl⟩
      have h2:QR [.lst [cst (AJ R' y),cst (some (c0.1+dd.1,c0.2+dd.2))]]=.ok (.sh (cst (DZ (AJ R' y) (some (c0.1+dd.1,c0.2+dd.2))))):=Nu [AJ R' y,some (c0.1+dd.1,c0.2+dd.2)] (by simp);rw[hv] at h2;have aA:=hI.put ya ip ql q q2 hv;have hl:(R'.map λ kv=>D.int kv.1).length<1000:=by
       have:=Ht hI.nd hI.rg;rw[za2] at this ⊢;omega
      have iq:∀z:Int,keyOk false (.int z)=true:=λ z=>rfl;have ha:Ao (some c0) (some dd)=some (c0.1+dd.1,c0.2+dd.2):=rfl;rw[ha] at h1;simp_arith[t1,mo,if_true,Option.isSome_some,zas,if_false];apply wp_step
      ·simp_arith[t1,i1,i2,h1];rfl
      refine B9 (ρ':=[some (.val (.lst (L.map D.int))),some (.val (Ma C)),some (.val (.int s)),some (.ow (.tree none (eI (DH R' y v)))),some (.val (.int i)),some (.val (.int x)),some (.val (.int y)),some (.val (cst (some (c0.1+dd.1,c0.2+dd.2))))]) (by
       simp_arith[g1,h2,iq,hl,and_self,if_true,pN];rfl) ⟨jz,_,_,_,rfl,aA⟩
    ·rintro ρ ⟨_,R',s6,s7,rfl,hI⟩;rw[za2,zc1] at hI;exact⟨ag,R',_,_,s6,s7,rfl,hR.go (λ p c h=>(hC p c h).2) hx hn q hI⟩
  ·rintro ρ ⟨_,R,s4,s5,s6,s7,rfl,hR⟩;rw[E8,za2] at hR;exact⟨R,s4,s5,s6,s7,rfl,hR⟩
 ·rintro ρ ⟨R,s4,s5,s6,s7,rfl,hR⟩;exact⟨_,rfl,R,rfl,hR⟩
abbrev Tb:List D->M OT:=za8 Iw
def UW:Txt K mg->BS P w K mg base "climbed" 2 3 Tb:=(za1 Iw).1
def UX:∀(m:Nat) (L:List Int) (C:CA) (s:Int),m<=20->L.Perm (AI m)->s∈L->(∀p c,AJ C p=some c->p.1∈L/\p.2∈L)->∃R:RA,Tb [.lst (L.map D.int),Ma C,.int s]=.ok (eI R)/\R9 L C s L.length R:=(za1 Iw).2
def NA:∃F:List D->M OT,(∀ {P w K mg base},Txt K mg->BS P w K mg base "swept" 3 3 F)/\(∀(m:Nat) (L:List Int) (C:CA) (s:Int),m<=20->L.Perm (AI m)->s∈L->(∀p c,AJ C p=some c->p.1∈L/\p.2∈L)->∃(R:RA) (T:List Co),F [.lst (L.map D.int),Ma C,.int s]=.ok (.lst ((T.map cst).map .sh))/\R9 L C s L.length R/\cS m L C s R L.reverse T):=by
 refine⟨_,λ T=>AD (k:=2) T.kN Fh _ (λ f B2 A outer s H E hr=>(A3 (AG 3 Fh.nd rfl (zb6 rfl) (Ah (Aa A9.toXCall (UW T) (hr.mono (by decide)) rfl (A2 (A1 0 (pv 0)) (A2 (A1 1 (pv 1)) (A2 (A1 2 (pv 2)) A7))) rfl))) (A3 (Bf 4 Fh.nd rfl (Or.inr rfl) (Ub Df (Dg rfl T.Fi (A1 0 (pv 0))))) (A3 (Bf 5 Fh.nd rfl (zb6 rfl) (Ia EI)) (A3 (BF A9.toXCall.own rfl (oW rfl T.UQ (A1 0 (pv 0))) (B4 6 Fh.nd rfl (Or.inr rfl)) (A3 (Zl (NB:=["high","told","costs","lower"]) 7 [none,some 4,some 1,some 6] Fh.nd rfl (zb6 rfl) rfl (AW (A1 5 (pv 5))) rfl rfl (Bd 0 (by decide) rfl rfl rfl) (λ _ _ _ _=>DV) (λ _ _ _ _=>(Ah (Bq (Aa (AX rfl).toXCall (K4 T) (hr.mono (by decide)) rfl (A2 (Ab (AL hr 16 (by decide)) (A1 1 (pv 1)) (A1 0 (pv 0))) (A2 (MS (AL hr 16 (by decide)) (A1 2 (pv 2)) (AH (A2 (A1 0 (pv 0)) (A2 (A1 3 (pv 3)) A7)))) A7)) rfl))))) (A3 (MA 4 (pv 4) (Ah (DF (Aa A9.toXCall (Nt T) (hr.mono (by decide)) rfl (A2 (Ah (iG (Fn (A2 (MS (AL hr 16 (by decide)) (A1 3 (pv 3)) (A1 6 (pv 6))) A7)) (A1 7 (pv 7)))) A7) rfl))) (A1 6 (pv 6))) (A6 (Dh 5 (pv 5) (A1 6 (pv 6))))))) (A6 (CV 4 (pv 4)))))))),?_⟩;intro m L C s hm hL hs hC;have hn:=Il hL;have hlen:=JK hL;obtain⟨R,hF,hR⟩:=UX m L C s hm hL hs hC;have e0:AB ["order","costs","place","reached","told","higher","lower","over"] [.lst (L.map D.int),Ma C,.int s]=[some (.val (.lst (L.map D.int))),some (.val (Ma C)),some (.val (.int s)),none,none,none,none,none]:=rfl;rw[e0];refine (λ h:∃t,_/\∃T:List Co,t=.lst ((T.map cst).map .sh)/\cS m L C s R L.reverse T=>by
  obtain⟨t,h1,T,rfl,h2⟩:=h;exact⟨R,T,h1,hR,h2⟩) (Jd ?_)
 have rb:((L.map D.int).length:Int)=(m:Int):=by rw[za2,hlen]
 have bh:=MO (d:=.AE) (n:=m) (by omega);have cg:zai m D.AE=(zai m (none:Co)).map cst:=by rw[List.map_replicate];rfl
 rw[cg] at bh;apply wp_step
 ·simp_arith[hF];rfl
 try simp only[zah,zac]
 apply wp_step
 ·simp_arith[rb,bh];rfl
 try simp only[zah,zac]
 apply wp_step
 ·rfl
 try simp only[zah,zac]
 refine C3 (I:=λ ρ=>∃(T:List Co) (s5 s6 s7:Option Cl),ρ=[some (.val (.lst (L.map D.int))),some (.val (Ma C)),some (.val (.int s)),some (.val (cM R)),some (.own (T.map cst)),s5,s6,s7]/\cS m L C s R L.reverse T) ?_ ?_
 ·have rc:(L.map D.int).reverse=L.reverse.map D.int:=by rw[List.map_reverse]
  simp_arith[rc];refine BH (λ i ρ=>i<=L.reverse.length/\∃(T:List Co) (s6 s7:Option Cl),ρ=[some (.val (.lst (L.map D.int))),some (.val (Ma C)),some (.val (.int s)),some (.val (cM R)),some (.own (T.map cst)),some (.own ((L.reverse.take i).map D.int)),s6,s7]/\cS m L C s R (L.reverse.take i) T) ⟨zb0 _,_,none,none,rfl,cS.start⟩ ?_ ?_
  ·rintro i d ρ hd ⟨hi,T,s6,s7,rfl,hT⟩;obtain⟨y,hy,rfl⟩:=BU hd;have ag:=(zak.mp hy).1;have ip:=(BW hL).mp (List.mem_reverse.mp (zam hy));have et:L.reverse.take (i+1)=L.reverse.take i++[y]:=by rw[zc4,hy];rfl
   rw[zc3] at ag;have yb:L[L.length-1-i]?=some y:=by rw[List.getElem?_reverse ag] at hy;exact hy
   have hrk:=Qy hn yb;have re:∀x∈L.reverse.take i,(0<=x/\x<m)/\Eb L y<Eb L x:=λ x hx=>by
    have yc:=List.mem_reverse.mp (zbw hx);refine⟨(BW hL).mp yc,?_⟩;rw[List.take_reverse,List.mem_reverse] at hx;have:=W8 hn hx;omega
   have qr:y∉L.reverse.take i:=λ hx=>by have:=(re y hx).2;omega
   have u8:=hT.len;refine⟨_,rfl,?_⟩;have gn:((L.reverse.take i).map D.int).length<=1000:=by rw[za2,zbo,zc3];omega
   have t1:∀a b:Int,D.tup [.int a,.int b]=pD (a,b):=λ a b=>rfl;have g1:=cN R y;obtain⟨vs,a6⟩:∃vs:List Co,vs=(L.reverse.take i).map λ x=>Ao (atC T x) (AJ C (x,y)):=⟨_,rfl⟩;apply wp_step
   ·simp_arith[if_pos gn];rw[Ca (λ x=>cst (Ao (atC T x) (AJ C (x,y)))) (λ x hx=>⟨_,rfl,rfl,by
     have u9:=(re x hx).1;have x1:AO (.lst (T.map cst)) (.int x)=.ok (cst (atC T x)):=Ce u9.1 (by rw[u8];exact u9.2);have g2:=pK C (x,y);have h1:=K5 (atC T x) (AJ C (x,y));simp_arith[t1,x1,g2,h1]⟩)]
    have ev:(L.reverse.take i).map (λ x=>cst (Ao (atC T x) (AJ C (x,y))))=vs.map cst:=by rw[a6,zbq];rfl
    rw[ev];have dv:=cR vs;simp_arith[dv];rfl
   try simp only[zah,zac]
   have hpl:RT (.lst [cst (AJ R y)]) (.lst (vs.map cst))=.ok (.lst (((AJ R y::vs).map cst).map .sh)):=jL (by rw[a6,za2,za2,zbo,zc3,zcg];omega);have h3:=Nu (AJ R y::vs) (by rw[a6,za9,za2,zbo,zc3];omega);have aA:=JL (i:=4) (ρ:=[some (.val (.lst (L.map D.int))),some (.val (Ma C)),some (.val (.int s)),some (.val (cM R)),some (.own (T.map cst)),some (.own ((L.reverse.take i).map D.int)),some (.val (.int y)),some (.own (vs.map cst))]) (d:=cst (Fv (AJ R y::vs))) (p:=y) rfl ip.1 (by rw[za2,u8];exact ip.2);have aX:(T.map cst).set y.toNat (cst (Fv (AJ R y::vs)))=(T.set y.toNat (Fv (AJ R y::vs))).map cst:=by rw[List.map_set]
   rw[aX] at aA;apply wp_step
   ·simp_arith[g1,hpl,h3,aA];rfl
   try simp only[zah,zac]
   have yd:((L.reverse.take i).map D.int).length<1000:=by rw[za2,zbo,zc3];omega
   refine B9 (ρ':=[some (.val (.lst (L.map D.int))),some (.val (Ma C)),some (.val (.int s)),some (.val (cM R)),some (.own ((T.set y.toNat (Fv (AJ R y::vs))).map cst)),some (.own ((L.reverse.take (i+1)).map D.int)),some (.val (.int y)),some (.own (vs.map cst))]) (by simp_arith[if_pos yd,et,zaz,za6,zd7]) ⟨by rw[zc3];exact ag,_,_,_,rfl,?_⟩;rw[et,a6];exact hT.step hR.sd ip.1 ip.2 qr re
  ·rintro ρ ⟨_,T,s6,s7,rfl,hT⟩;rw[za2,zc1] at hT;exact⟨T,_,s6,s7,rfl,hT⟩
 ·rintro ρ ⟨T,s5,s6,s7,rfl,hT⟩;exact⟨_,rfl,T,rfl,hT⟩
abbrev dX:List D->M OT:=za8 NA
def dY:Txt K mg->BS P w K mg base "swept" 3 3 dX:=(za1 NA).1
def dZ:∀(m:Nat) (L:List Int) (C:CA) (s:Int),m<=20->L.Perm (AI m)->s∈L->(∀p c,AJ C p=some c->p.1∈L/\p.2∈L)->∃(R:RA) (T:List Co),dX [.lst (L.map D.int),Ma C,.int s]=.ok (.lst ((T.map cst).map .sh))/\R9 L C s L.length R/\cS m L C s R L.reverse T:=(za1 NA).2
def F1:∃F:List D->M OT,(∀ {P w K mg base},Txt K mg->BS P w K mg base "costs_from" 2 2 F)/\(∀(m s:Nat) (rs:List Road),s<m->m<=900->(∀r∈rs,G6 m r)->∃cs:List Co,Right m s rs cs/\F [Ap m rs,.int s]=.ok (.lst ((cs.map cst).map .sh))):=by
 refine⟨_,λ T=>AD (k:=1) T.QP Bz _ (λ f B2 A outer s H E hr=>(A3 (Bf 2 Bz.nd rfl (zb6 rfl) (Ub Df (Ab (AL hr 16 (by decide)) (A1 0 (pv 0)) A5))) (A3 (MA 2 (pv 2) (AH (A2 A5 (A2 A5 A7))) (A1 1 (pv 1))) (A3 (AG 3 Bz.nd rfl (zb6 rfl) D6) (A3 (RN A9.toXCall.own (BG (c:=true) (A1 3 (pv 3))) (A3 (AG 3 Bz.nd rfl (zb6 rfl) D6) (A6 (BF A9.toXCall.own rfl (AW (Ab (AL hr 16 (by decide)) (A1 0 (pv 0)) A5)) (B4 4 Bz.nd rfl (zb6 rfl)) (A3 (AG 5 Bz.nd rfl (zb6 rfl) (Ah (DF (Aa A9.toXCall (Nt T) (hr.mono (by decide)) rfl (A2 (Fn (A2 (Ab (AL hr 16 (by decide)) (A1 2 (pv 2)) (Ab (AL hr 16 (by decide)) (A1 4 (pv 4)) A5)) (A2 (Ah (Aa A9.toXCall (K4 T) (hr.mono (by decide)) rfl (A2 (Ab (AL hr 16 (by decide)) (A1 2 (pv 2)) (Ab (AL hr 16 (by decide)) (A1 4 (pv 4)) A5)) (A2 (Ah (Aa A9.toXCall (Fz T) (hr.mono (by decide)) rfl (A2 (A1 4 (pv 4)) A7) rfl)) A7)) rfl)) A7))) A7) rfl)))) (A6 (B5 (Gn (Hz (c:=true) (AL hr 16 (by decide)) (A1 5 (pv 5)) (Ab (AL hr 16 (by decide)) (A1 2 (pv 2)) (Ab (AL hr 16 (by decide)) (A1 4 (pv 4)) A5)))) (A3 (MA 2 (pv 2) (A1 5 (pv 5)) (Ab (AL hr 16 (by decide)) (A1 4 (pv 4)) A5)) (A6 (AG 3 Bz.nd rfl (zb6 rfl) D6))) As))))))) (A6 (CV 2 (pv 2)))))))),?_⟩;intro m s rs hs hm Ar;have e0:AB ["net","start","costs","changed","road","cost"] [Ap m rs,.int s]=[some (.val (Ap m rs)),some (.val (.int s)),none,none,none,none]:=rfl;rw[e0];refine (λ h:∃t,_/\∃cs:List Co,Right m s rs cs/\t=.lst ((cs.map cst).map .sh)=>by
  obtain⟨t,h1,cs,h2,rfl⟩:=h;exact⟨cs,h2,h1⟩) (Jd ?_)
 have n0:AO (Ap m rs) (.int 0)=.ok (.int m):=rfl;have n1:AO (Ap m rs) (.int 1)=.ok (.lst (rs.map Bl)):=rfl;have bh:=MO (d:=.AE) (n:=m) (by omega);have cg:zai m D.AE=(zai m (none:Co)).map cst:=by rw[List.map_replicate];rfl
 rw[cg] at bh;apply wp_step
 ·simp_arith[n0,bh];rfl
 try simp only[zah,zac]
 have aA:=JL (i:=2) (ρ:=[some (.val (Ap m rs)),some (.val (.int s)),some (.own ((zai m (none:Co)).map cst)),none,none,none]) (d:=.tup [.int 0,.int 0]) (p:=(s:Int)) rfl (by omega) (by rw[za2,zdj];omega);have aX:((zai m (none:Co)).map cst).set (s:Int).toNat (.tup [.int 0,.int 0])=((zai m none).set s (some (0,0))).map cst:=by rw[zb4,List.map_set];rfl
 rw[aX] at aA;apply wp_step
 ·simp_arith[aA];rfl
 try simp only[zah,zac]
 apply wp_step
 ·rfl
 try simp only[zah,zac]
 refine C3 (I:=λ ρ=>∃(cs:List Co) (s3 s4 s5:Option Cl),ρ=[some (.val (Ap m rs)),some (.val (.int s)),some (.own (cs.map cst)),s3,s4,s5]/\Right m s rs cs) ?_ ?_
 ·refine S1 (lt:=xF) (λ z ρ=>∃(s4 s5:Option Cl),ρ=[some (.val (Ap m rs)),some (.val (.int s)),some (.own (z.1.map cst)),some (.val (.bl z.2)),s4,s5]/\Good m s rs z.1/\(z.2=false->Right m s rs z.1)) (pR _) ⟨none,none,rfl,MW rs hs,λ e=>by cases e⟩ ?_;rintro ⟨cs,b⟩ ρ ⟨s4,s5,rfl,g,hR⟩;cases b with
  |false=>exact .inl ⟨rfl,cs,_,s4,s5,rfl,hR rfl⟩
  |true =>
   refine .inr ⟨rfl,?_⟩;apply wp_step
   ·rfl
   try simp only[zah,zac]
   simp_arith[n1];refine BH (λ i ρ=>∃(av:List Co) (ch:Bool) (s4 s5:Option Cl),ρ=[some (.val (Ap m rs)),some (.val (.int s)),some (.own (av.map cst)),some (.val (.bl ch)),s4,s5]/\Good m s rs av/\(ch=true->NO ltN av cs)/\(ch=false->av=cs/\∀r∈rs.take i,DZ (atC cs r.b) (Ao (atC cs r.a) (Cd r))=atC cs r.b)) ⟨cs,false,s4,s5,rfl,g,(λ h=>by cases h),λ _=>⟨rfl,λ r hr=>by rw[List.take_zero] at hr;cases hr⟩⟩ ?_ ?_
   ·rintro i d ρ hd ⟨av,ch,s4,s5,rfl,g1,h1,h2⟩;obtain⟨r,hq,rfl⟩:=BU hd;have hr:=zam hq;have ok:=Ar r hr;obtain⟨g2,_,g4,g5⟩:=Xp g1 hr Ar;have bO:r.b<av.length:=by rw[g1.len];exact ok.b1
    have ye:r.a<av.length:=by rw[g1.len];exact ok.a1
    have r0:AO (Bl r) (.int 0)=.ok (.int r.a):=rfl;have r1:AO (Bl r) (.int 1)=.ok (.int r.b):=rfl;have x0:AO (.lst (av.map cst)) (.int r.a)=.ok (cst (atC av r.a)):=Ce ok.a0 ye;have x1:AO (.lst (av.map cst)) (.int r.b)=.ok (cst (atC av r.b)):=Ce ok.b0 bO;have yf:=FA r;have rf:=K5 (atC av r.a) (Cd r);have hle:QR [.lst [cst (atC av r.b),cst (Ao (atC av r.a) (Cd r))]]=.ok (.sh (cst (DZ (atC av r.b) (Ao (atC av r.a) (Cd r))))):=Nu [atC av r.b,Ao (atC av r.a) (Cd r)] (by simp);have ae:=jH (DZ (atC av r.b) (Ao (atC av r.a) (Cd r))) (atC av r.b);refine⟨_,rfl,?_⟩;apply wp_step
    ·simp_arith[r0,r1,x0,x1,yf,rf,hle];rfl
    try simp only[zah,zac]
    by_cases hc:DZ (atC av r.b) (Ao (atC av r.a) (Cd r))=atC av r.b
    ·rw[decide_eq_true hc] at ae;refine B9 (ρ':=_) (by simp_arith[r1,x1,ae];rfl) ⟨av,ch,_,_,rfl,g1,h1,λ hf=>?_⟩;obtain⟨e1,e2⟩:=h2 hf;subst e1;refine⟨rfl,λ r' bg=>?_⟩;rw[zc4,hq] at bg;rcases zaq.mp bg with bg|bg
     ·exact e2 r' bg
     ·have:r'=r:=by simpa using bg
      rw[this];exact hc
    ·rw[decide_eq_false hc] at ae;have aA:=JL (i:=2) (ρ:=[some (.val (Ap m rs)),some (.val (.int s)),some (.own (av.map cst)),some (.val (.bl ch)),some (.val (Bl r)),some (.val (cst (DZ (atC av r.b) (Ao (atC av r.a) (Cd r)))))]) (d:=cst (DZ (atC av r.b) (Ao (atC av r.a) (Cd r)))) (p:=r.b) rfl ok.b0 (by rw[za2];exact bO);have aX:(av.map cst).set r.b.toNat (cst (DZ (atC av r.b) (Ao (atC av r.a) (Cd r))))=(Dl r av).map cst:=by unfold Dl;rw[List.map_set]
     rw[aX] at aA;simp_arith[r1,x1,ae,if_true];apply wp_step
     ·simp_arith[r1,aA];rfl
     refine B9 (ρ':=_) rfl ⟨Dl r av,true,_,_,rfl,g2,λ _=>?_,λ hf=>by cases hf⟩;cases ch with
     |false=>obtain⟨e1,_⟩:=h2 rfl;subst e1;exact g5 hc
     |true=>exact NO.trans ltN Xn (g5 hc) (h1 rfl)
   ·rintro ρ' ⟨av,ch,s4,s5,rfl,g1,h1,h2⟩;cases ch with
    |true=>exact⟨(av,true),⟨rfl,.inr ⟨rfl,h1 rfl⟩⟩,s4,s5,rfl,g1,λ e=>by cases e⟩
    |false =>
     obtain⟨e1,e2⟩:=h2 rfl;subst e1;rw[za2,zc1] at e2;exact⟨(av,false),⟨rfl,.inl rfl⟩,s4,s5,rfl,g1,λ _=>right_of g1 e2⟩
 ·rintro ρ' ⟨cs,s3,s4,s5,rfl,hR⟩;exact⟨_,rfl,cs,hR,rfl⟩
abbrev Li:List D->M OT:=za8 F1
def Oc:Txt K mg->BS P w K mg base "costs_from" 2 2 Li:=(za1 F1).1
def HM:∀(m s:Nat) (rs:List Road),s<m->m<=900->(∀r∈rs,G6 m r)->∃cs:List Co,Right m s rs cs/\Li [Ap m rs,.int s]=.ok (.lst ((cs.map cst).map .sh)):=(za1 F1).2
def DK:∃F:List D->M OT,(∀ {P w K mg base},Txt K mg->Ik P w K mg base "Ladder" "order" 1 1 F)/\(∀(m:Nat) (rs:List Road) (L:List Int) (A:LA) (K:List (Int×Int)),F [AU m rs L A K]=.ok (.lst ((L.map D.int).map .sh))):=by
 refine⟨_,λ T=>M4 (k:=0) T.Np Lw _ (λ f B2 A outer s H E hr=>(A6 (Aj (Ha rfl T.DJ (EV ["Ladder"] (Bw T.CG C7) (A1 0 (pv 0))))))),?_⟩;intro m rs L A K;rfl
abbrev Cy:List D->M OT:=za8 DK
def Ly:Txt K mg->Ik P w K mg base "Ladder" "order" 1 1 Cy:=(za1 DK).1
def Lz:∀(m:Nat) (rs:List Road) (L:List Int) (A:LA) (K:List (Int×Int)),Cy [AU m rs L A K]=.ok (.lst ((L.map D.int).map .sh)):=(za1 DK).2
def FC:∃F:List D->M OT,(∀ {P w K mg base},Txt K mg->BS P w K mg base "costs_out" 5 2 F)/\(∀(m:Nat) (rs:List Road) (L:List Int) (A:LA) (K:List (Int×Int)) (s:Nat),Cw m rs L A K->s<m->∃T:List Co,F [AU m rs L A K,.int s]=.ok (.lst ((T.map cst).map .sh))/\T.length=m/\∀w:Int,0<=w->w<m->BM rs s w (atC T w)):=by
 refine⟨_,λ T=>AD (k:=4) T.SU QH _ (λ f B2 A outer s H E hr=>(A6 (Aj (Aa A9.toXCall (dY T) (hr.mono (by decide)) rfl (A2 (Ah (S9 (k:=1) [("Ladder",Cy)] A9.toXCall (JF (by decide) (Ly T) M6) (hr.mono (by decide)) (A1 0 (pv 0)))) (A2 (Ah (Aa A9.toXCall (Oa T) (hr.mono (by decide)) rfl (A2 (A1 0 (pv 0)) A7) rfl)) (A2 (A1 1 (pv 1)) A7))) rfl)))),?_⟩;intro m rs L A K s ok hs;have hm:=ok.m2;have e0:AB ["ladder","start"] [AU m rs L A K,.int s]=[some (.val (AU m rs L A K)),some (.val (.int s))]:=rfl;rw[e0];have h1:=Ob m rs L A K ok;have h2:=Lz m rs L A K;have rh:Ls [("Ladder",Cy)] "order" (AU m rs L A K)=.ok Cy:=rfl;have yg:(s:Int)∈L:=(BW ok.pm).mpr ⟨by omega,by omega⟩;have rj:∀p c,AJ (R8 A K) p=some c->p.1∈L/\p.2∈L:=λ p c h=>by
  have hm:=Uh h;unfold R8 at hm;obtain⟨q,hq,e⟩:=zau.mp hm;cases e;have:=ok.Y8 hq;exact⟨(BW ok.pm).mpr this.2.1,(BW ok.pm).mpr this.2.2⟩
 have hC:∀p c,AJ (R8 A K) p=some c->p.1∈L/\p.2∈L:=λ p c h=>by
  exact rj p c h
 obtain⟨R,T,hF,hR,hT⟩:=dZ m L (R8 A K) s (by omega) ok.pm yg hC;refine⟨T,Bv ?_,hT.len,λ w h0 h1=>?_⟩
 ·simp_arith[rh,h2,h1,hF];exact⟨_,rfl,rfl⟩
 ·have hU:=hR.zC (m:=m) hC;have aB:∀x:Int,0<=x->x<m->x∈L.reverse:=λ x a b=>List.mem_reverse.mpr ((BW ok.pm).mpr ⟨a,b⟩);obtain⟨T',va⟩:∃T':Int->Co,T'=λ x:Int=>if 0<=x/\x<(m:Int) then atC T x else none:=⟨_,rfl⟩
  have j0:∀x:Int,0<=x->x<m->T' x=atC T x:=λ x a b=>by rw[va];exact if_pos ⟨a,b⟩
  have hS:vA (Eb L) (λ x y=>AJ (R8 A K) (x,y)) s (AJ R) T' m:=⟨λ x a b=>by rw[j0 x a b];exact hT.top x (aB x a b),λ x y a b c d hr=>by rw[j0 x a b,j0 y c d];exact hT.cl x (aB x a b) y (aB y c d) hr,λ x c hx=>by
   have aw:0<=x/\x<m:=by
    refine zcb λ hn=>?_;rw[va] at hx;dsimp only at hx;rw[if_neg hn] at hx;cases hx
   rw[j0 x aw.1 aw.2] at hx;exact hT.sd x c aw.1 aw.2 hx⟩
  obtain⟨cs,yh,_⟩:=HM m s rs hs (by omega) (λ r hr=>(ok.ok r hr).1);have gp:=yh.lI (λ r hr=>(ok.ok r hr).1) h0 h1;have q:=XB (s:=(s:Int)) (w:=w) ok.pE ok.kept ⟨by omega,by omega⟩ hU hS gp;rw[j0 w h0 h1] at q;exact q
abbrev NC:List D->M OT:=za8 FC
def K6:Txt K mg->BS P w K mg base "costs_out" 5 2 NC:=(za1 FC).1
def K7:∀(m:Nat) (rs:List Road) (L:List Int) (A:LA) (K:List (Int×Int)) (s:Nat),Cw m rs L A K->s<m->∃T:List Co,NC [AU m rs L A K,.int s]=.ok (.lst ((T.map cst).map .sh))/\T.length=m/\∀w:Int,0<=w->w<m->BM rs s w (atC T w):=(za1 FC).2
def Iy:∃F:List D->M OT,(∀ {P w K mg base},Txt K mg->UG P w K mg base "nearest" "most" 1 6 4 F)/\(∀(m:Nat) (rs:List Road) (L:List Int) (A:LA) (K:List (Int×Int)) (C:Int->Co) (s:Nat) (gs:List Int) (w:Int),Cw m rs L A K->s<m->gs.length<=60->(∀g∈gs,0<=g/\g<(m:Int))->0<=w->(∀g:Int,0<=g->g<m->BM rs s g (C g))->(∀(g:Int) (c:Int×Int),0<=g->g<m->C g=some c->0<=c.2/\c.2<1000)->F [AU m rs L A K,.int s,.lst (gs.map D.int),.int w]=.ok (.lst ((AN C m gs w).map .sh))):=by
 refine⟨_,λ T=>kK (k:=5) T.XT Io _ (λ f B2 A outer s H E hr=>(A3 (AG 4 Io.nd rfl (Or.inr rfl) (Ah (Aa A9.toXCall (K6 T) (hr.mono (by decide)) rfl (A2 (A1 0 (pv 0)) (A2 (A1 1 (pv 1)) A7)) rfl))) (A3 (IY (NB:=["goal","costs"]) 5 [none,some 4] Io.nd rfl (zb6 rfl) rfl (AW (Ah (UA rfl rfl T.K2 rfl T.uB (A1 2 (pv 2))))) rfl rfl (Bd 0 (by decide) rfl rfl rfl) (λ _ _ _ _=>DY (DU (c:=true) (Ab (AL hr 16 (by decide)) (A1 1 (pv 1)) (A1 0 (pv 0))))) (λ _ _ _ _=>(AH (A2 (Ab (AL hr 16 (by decide)) (A1 1 (pv 1)) (A1 0 (pv 0))) (A2 (A1 0 (pv 0)) A7))))) (A6 (Aj (Gs (Ah (Na rfl (AL hr 16 (by decide)) rfl T.K2 (A1 5 (pv 5)))) LG (GV (A1 3 (pv 3))))))))),?_⟩;intro m rs L A K C s gs w ok hs mq hg hw hC hc;have hm:=ok.m2;obtain⟨T,g1,l1,t1⟩:=K7 m rs L A K s ok hs;have uT:∀g:Int,0<=g->g<m->atC T g=C g:=λ g a b=>(t1 g a b).Cs (hC g a b);have e0:AB ["ladder","start","goals","most","costs","found"] [AU m rs L A K,.int s,.lst (gs.map D.int),.int w]=[some (.val (AU m rs L A K)),some (.val (.int s)),some (.val (.lst (gs.map D.int))),some (.val (.int w)),none,none]:=rfl;rw[e0];refine Bv ?_;apply wp_step
 ·simp_arith[g1];rfl
 try simp only[zah,zac]
 have h1:dD (.lst (gs.map .int))=.ok (.lst (((AS m gs).map .int).map .sh)):=by rw[XN (by omega),UH hg]
 have hl:((AS m gs).map D.int).length<=1000:=by
  have:(AS m gs).length<=(AI m).length:=zcw _ _;rw[BV] at this;rw[za2];omega
 obtain⟨n1,n2,n3⟩:=SH (gs:=gs) (by omega) hc;have j3:∀l:List Int,(∀g∈l,0<=g/\g<(m:Int))->((l.filter λ g=>(atC T g).isSome).map λ g=>D.tup [cst (atC T g),.int g])=(Cq C l).map BI:=by
  intro l;induction l with
  |nil=>exact λ _=>rfl
  |cons g r ih =>
   intro hl;obtain⟨a,b⟩:=hl g za3;have vb:=ih λ g hg=>hl g (za4 _ hg);rw[List.filter_cons,uT g a b];unfold Cq;rw[zcs];cases e:C g with
   |none=>exact vb
   |some c =>
    dsimp only [Option.isSome,Option.map];rw[if_pos rfl,za6,za6,uT g a b,e,SI (hc g c a b e)];exact congrArg _ vb
 have bd:∀g∈AS m gs,0<=g/\g<(m:Int):=λ g hg=>CY.mp (zbp.mp hg).1;refine wp_step (ρ':=[some (.val (AU m rs L A K)),some (.val (.int s)),some (.val (.lst (gs.map D.int))),some (.val (.int w)),some (.val (.lst (T.map cst))),some (.val (.lst ((Cq C (AS m gs)).map BI)))]) ?_ ?_
 ·simp_arith[h1,if_pos hl];rw[BP (λ g:Int=>(atC T g).isSome) (λ g:Int=>D.tup [cst (atC T g),.int g]) (λ g hg=>⟨_,rfl,by
   obtain⟨a,b⟩:=bd g hg;have x1:AO (.lst (T.map cst)) (.int g)=.ok (cst (atC T g)):=Ce a (by omega);simp_arith[x1];cases atC T g<;>rfl,λ _=>by
   obtain⟨a,b⟩:=bd g hg;have x1:AO (.lst (T.map cst)) (.int g)=.ok (cst (atC T g)):=Ce a (by omega);simp_arith[x1]⟩),j3 _ bd]
  rfl
 have h2:=Wn n1 n2 n3;simp_arith[h2,dJ _ hw];refine⟨_,rfl,?_⟩;unfold AN;rw[List.map_take]
abbrev GG:List D->M OT:=za8 Iy
def Iz:Txt K mg->UG P w K mg base "nearest" "most" 1 6 4 GG:=(za1 Iy).1
def UY:∀(m:Nat) (rs:List Road) (L:List Int) (A:LA) (K:List (Int×Int)) (C:Int->Co) (s:Nat) (gs:List Int) (w:Int),Cw m rs L A K->s<m->gs.length<=60->(∀g∈gs,0<=g/\g<(m:Int))->0<=w->(∀g:Int,0<=g->g<m->BM rs s g (C g))->(∀(g:Int) (c:Int×Int),0<=g->g<m->C g=some c->0<=c.2/\c.2<1000)->GG [AU m rs L A K,.int s,.lst (gs.map D.int),.int w]=.ok (.lst ((AN C m gs w).map .sh)):=(za1 Iy).2
def KJ:∃F:List D->M OT,(∀ {P w K mg base},Txt K mg->BS P w K mg base "within" 6 3 F)/\(∀(m:Nat) (rs:List Road) (L:List Int) (A:LA) (K:List (Int×Int)) (C:Int->Co) (s:Nat) (l:Int),Cw m rs L A K->s<m->(∀g:Int,0<=g->g<m->BM rs s g (C g))->F [AU m rs L A K,.int s,.int l]=.ok (.lst (((EE C m l).map D.int).map .sh))):=by
 refine⟨_,λ T=>AD (k:=5) T.dP Pj _ (λ f B2 A outer s H E hr=>(A3 (AG 3 Pj.nd rfl (zb6 rfl) (Ah (Aa A9.toXCall (K6 T) (hr.mono (by decide)) rfl (A2 (A1 0 (pv 0)) (A2 (A1 1 (pv 1)) A7)) rfl))) (A6 (Aj (CC (NB:=["place","cost","length"]) [none,none,some 2] rfl (Q5 rfl T.GF (A1 3 (pv 3))) rfl rfl (VB (n:=2) rfl (Hc 0 (by decide) rfl rfl rfl (Hc 1 (by decide) rfl rfl rfl S0))) (λ _ _ _ _=>DY (DW.dt (Fo (DU (c:=true) (A1 1 (pv 1))) (EH (kY (c:=true) (Ab (AL hr 16 (by decide)) (A1 1 (pv 1)) A5) (A1 2 (pv 2))))))) (λ _ _ _ _=>(A1 0 (pv 0)))))))),?_⟩;intro m rs L A K C s l ok hs hC;have hm:=ok.m2;obtain⟨T,g1,l1,t1⟩:=K7 m rs L A K s ok hs;have uT:∀g:Int,0<=g->g<m->atC T g=C g:=λ g a b=>(t1 g a b).Cs (hC g a b);have e0:AB ["ladder","start","length","costs"] [AU m rs L A K,.int s,.int l]=[some (.val (AU m rs L A K)),some (.val (.int s)),some (.val (.int l)),none]:=rfl;rw[e0];refine Bv ?_;apply wp_step
 ·simp_arith[g1];rfl
 try simp only[zah,zac]
 simp_arith[Uq,l1,Nat.zero_add];have hl:(List.map (λ i:Nat=>D.tup [.int (i:Int),cst (atC T (i:Int))]) (zb1 m)).length<=1000:=by rw[za2,zcq];omega
 rw[BP (λ i:Nat=>match atC T (i:Int) with|some c=>decide (c.1<=l)|none=>false) (λ i:Nat=>D.int (i:Int)) (λ i hi=>⟨_,rfl,by
  simp_arith[];cases atC T (i:Int) with
  |none=>rfl
  |some c =>
   have x1:AO (cst (some c)) (.int 0)=.ok (.int c.1):=rfl;have x2:C1 (cst (some c))=false:=rfl;simp_arith[x1,x2];rw[if_pos trivial],λ _=>rfl⟩),if_pos hl]
 refine⟨_,rfl,?_⟩;rw[<-UI uT];unfold EE AI;simp only[List.filter_map,zbq,Function.comp_def];try rfl
abbrev Wu:List D->M OT:=za8 KJ
def Pn:Txt K mg->BS P w K mg base "within" 6 3 Wu:=(za1 KJ).1
def XY:∀(m:Nat) (rs:List Road) (L:List Int) (A:LA) (K:List (Int×Int)) (C:Int->Co) (s:Nat) (l:Int),Cw m rs L A K->s<m->(∀g:Int,0<=g->g<m->BM rs s g (C g))->Wu [AU m rs L A K,.int s,.int l]=.ok (.lst (((EE C m l).map D.int).map .sh)):=(za1 KJ).2
def Er:∃F:List D->M OT,(∀ {P w K mg base},Txt K mg->BS P w K mg base "cost_so_far" 1 2 F)/\(∀(A:LA) (p:Int×Int),F [L3 A,pD p]=.ok (.sh (cst (Ak A p)))):=by
 refine⟨_,λ T=>AD (k:=0) T.O5 Nb _ (λ f B2 A outer s H E hr=>(A3 (B5 (LK (c:=true) (AL hr 16 (by decide)) (A1 1 (pv 1)) (A1 0 (pv 0))) (A6 (Aj (AY Df))) As) (A6 (Aj (AY (Ab (AL hr 16 (by decide)) (Ab (AL hr 16 (by decide)) (A1 0 (pv 0)) (A1 1 (pv 1))) A5)))))),?_⟩;intro A p;have e0:AB ["laid","pair"] [L3 A,pD p]=[some (.val (L3 A)),some (.val (pD p))]:=rfl;rw[e0];refine Bv ?_;have hm:=Qw A p true;unfold Ak;cases q:AJ A p with
 |none =>
  rw[q] at hm;simp_arith[hm,Gq];rfl
 |some v =>
  rw[q] at hm;have hi:=Qx q;have h0:AO (XC v) (.int 0)=.ok (cst (some v.1)):=rfl;apply wp_step
  ·simp_arith[hm,Gq];rfl
  simp_arith[hi,h0];rfl
abbrev K8:List D->M OT:=za8 Er
def GH:Txt K mg->BS P w K mg base "cost_so_far" 1 2 K8:=(za1 Er).1
def GI:∀(A:LA) (p:Int×Int),K8 [L3 A,pD p]=.ok (.sh (cst (Ak A p))):=(za1 Er).2
def UZ:∃F:OT->List D->M (OT×OT),(∀ {P w K mg base},Txt K mg->OO P w K mg base "lay" 1 4 F)/\(∀(A:LA) (p:Int×Int) (c:Co) (mid:Option Int),A.length<1000->F (ID A) [pD p,cst c,Gv mid]=.ok (ID (layA A p c mid),.sh .AE)):=by
 refine⟨_,λ T=>RX (k:=0) T.tZ qB _ (λ f B2 A outer s H E hr=>(A6 (B5 (Gn (DW.dt (Fo (DU (c:=true) (A1 2 (pv 2))) (EH (DW.dt (DM (LK (c:=true) (AL hr 16 (by decide)) (A1 1 (pv 1)) (A1 0 (pv 0))) (CU (oU (c:=true) (AL hr 16 (by decide)) (A1 2 (pv 2)) (Ab (AL hr 16 (by decide)) (Ab (AL hr 16 (by decide)) (A1 0 (pv 0)) (A1 1 (pv 1))) A5))))))))) (A6 (LM (AL hr 16 (by decide)) (C6 0 (pv 0)) (A1 1 (pv 1)) (AH (A2 (A1 2 (pv 2)) (A2 (A1 3 (pv 3)) A7))))) As))),?_⟩;intro A p c mid hA;have e0:D7 ["laid","pair","cost","middle"] (ID A) [pD p,cst c,Gv mid]=[some (.ow (.tree (some 0) (ID A))),some (.val (pD p)),some (.val (cst c)),some (.val (Gv mid))]:=rfl;rw[e0];refine Um ?_;have hm:=Qw A p true;have mi:∀c:Int×Int,D.tup [cst (some c),Gv mid]=XC (c,mid):=λ c=>rfl;have hl:(A.map λ kv=>pD kv.1).length<1000:=by rw[za2];exact hA
 have iq:keyOk true (pD p)=true:=rfl;have ag:∀v,(List.map (λ kv=>pD kv.1) (DH A p v))=(List.map (λ kv=>pD kv.1) (DH A p v)):=λ _=>rfl;cases c with
 |none =>
  refine B9 (ρ':=_) (by simp_arith[cst,C1];rfl) ⟨rfl,rfl⟩
 |some c =>
  have db:C1 (cst (some c))=false:=rfl;cases q:AJ A p with
  |none =>
   rw[q] at hm;have el:layA A p (some c) mid=DH A p (c,mid):=by unfold layA;dsimp only;rw[q]
   rw[el];refine B9 (ρ':=[some (.ow (.tree (some 0) (ID (DH A p (c,mid))))),some (.val (pD p)),some (.val (cst (some c))),some (.val (Gv mid))]) (by
    simp_arith[db,hm,Gq,Ec,mi,if_pos (And.intro iq hl),cO,iq,hl,and_self,if_true];rfl) ⟨rfl,rfl⟩
  |some z =>
   rw[q] at hm;have hi:=Qx q;have h0:AO (XC z) (.int 0)=.ok (cst (some z.1)):=rfl;have hx:=xE c z.1;by_cases hc:c.1<z.1.1\/(c.1=z.1.1/\c.2<z.1.2)
   ·have el:layA A p (some c) mid=DH A p (c,mid):=by unfold layA;dsimp only;rw[q];dsimp only;rw[if_pos hc]
    rw[decide_eq_true hc] at hx;rw[el];refine B9 (ρ':=[some (.ow (.tree (some 0) (ID (DH A p (c,mid))))),some (.val (pD p)),some (.val (cst (some c))),some (.val (Gv mid))]) (by
     simp_arith[db,hm,hi,h0,hx,Gq,Ec,mi,if_pos (And.intro iq hl),cO,iq,hl,and_self,if_true];rfl) ⟨rfl,rfl⟩
   ·have el:layA A p (some c) mid=A:=by unfold layA;dsimp only;rw[q];dsimp only;rw[if_neg hc]
    rw[decide_eq_false hc] at hx;rw[el];refine B9 (ρ':=_) (by simp_arith[db,hm,hi,h0,hx,Gq];rfl) ⟨rfl,rfl⟩
abbrev uC:OT->List D->M (OT×OT):=za8 UZ
def eA:Txt K mg->OO P w K mg base "lay" 1 4 uC:=(za1 UZ).1
def eB:∀(A:LA) (p:Int×Int) (c:Co) (mid:Option Int),A.length<1000->uC (ID A) [pD p,cst c,Gv mid]=.ok (ID (layA A p c mid),.sh .AE):=(za1 UZ).2
def GJ:∃F:OT->List D->M (OT×OT),(∀ {P w K mg base},Txt K mg->OO P w K mg base "lay_over" 2 3 F)/\(∀(m:Nat) (A:LA) (p:Int) (H:List Int),m<=20->Fj m A->(∀x∈H,0<=x/\x<m)->F (ID A) [.int p,.lst (H.map D.int)]=.ok (ID (pF A p H),.sh .AE)):=by
 refine⟨_,λ T=>RX (k:=1) T.UL EM _ (λ f B2 A outer s H E hr=>(A6 (BF A9.toXCall.own rfl (AW (A1 2 (pv 2))) (B4 3 EM.nd rfl (zb6 rfl)) (A6 (BF A9.toXCall.own rfl (AW (A1 2 (pv 2))) (B4 4 EM.nd rfl (zb6 rfl)) (A6 (B5 (Hz (c:=true) (AL hr 16 (by decide)) (A1 3 (pv 3)) (A1 4 (pv 4))) (A3 (AG 5 EM.nd rfl (zb6 rfl) (Ah (DF (Aa A9.toXCall (K4 T) (hr.mono (by decide)) rfl (A2 (Ah (Aa A9.toXCall (GH T) (hr.mono (by decide)) rfl (A2 (A1 0 (pv 0)) (A2 (AH (A2 (A1 3 (pv 3)) (A2 (A1 1 (pv 1)) A7))) A7)) rfl)) (A2 (Ah (Aa A9.toXCall (GH T) (hr.mono (by decide)) rfl (A2 (A1 0 (pv 0)) (A2 (AH (A2 (A1 1 (pv 1)) (A2 (A1 4 (pv 4)) A7))) A7)) rfl)) A7)) rfl)))) (A6 (MM (Zq A9.toXCall (eA T) (hr.mono (by decide)) rfl (C6 0 (pv 0)) (A2 (AH (A2 (A1 3 (pv 3)) (A2 (A1 4 (pv 4)) A7))) (A2 (A1 5 (pv 5)) (A2 (A1 1 (pv 1)) A7))) rfl)))) As))))))),?_⟩;intro m A p H hm hA hH;have e0:D7 ["laid","place","higher","u","w","cost"] (ID A) [.int p,.lst (H.map D.int)]=[some (.ow (.tree (some 0) (ID A))),some (.val (.int p)),some (.val (.lst (H.map D.int))),none,none,none]:=rfl;rw[e0];refine Um ?_;simp_arith[];refine BH (λ i ρ=>∃s3 s4 s5:Option Cl,ρ=[some (.ow (.tree (some 0) (ID ((H.take i).foldl (jV p H) A)))),some (.val (.int p)),some (.val (.lst (H.map D.int))),s3,s4,s5]) ⟨none,none,none,rfl⟩ ?_ ?_
 ·rintro i d ρ hd ⟨s3,s4,s5,rfl⟩;obtain⟨u,hu,rfl⟩:=BU hd;have qm:=hH u (zam hu);refine⟨_,rfl,?_⟩;obtain⟨B,hB⟩:∃B,B=(H.take i).foldl (jV p H) A:=⟨_,rfl⟩;have gu:Fj m B:=by rw[hB];exact Fj.lo hH hA λ x hx=>hH x (zbw hx)
  rw[<-hB,Em hu,<-hB];simp_arith[];refine BH (λ j ρ=>∃s4 s5:Option Cl,ρ=[some (.ow (.tree (some 0) (ID ((H.take j).foldl (Qp p u) B)))),some (.val (.int p)),some (.val (.lst (H.map D.int))),some (.val (.int u)),s4,s5]) ⟨s4,s5,rfl⟩ ?_ ?_
  ·rintro j d ρ hd ⟨s4,s5,rfl⟩;obtain⟨w,hw,rfl⟩:=BU hd;have hwm:=hH w (zam hw);refine⟨_,rfl,?_⟩;obtain⟨C,hC⟩:∃C,C=(H.take j).foldl (Qp p u) B:=⟨_,rfl⟩;have rn:Fj m C:=by rw[hC];exact Fj.ou qm gu λ x hx=>hH x (zbw hx)
   rw[Em hw,<-hC];by_cases e:u=w
   ·have ev:Qp p u C w=C:=by unfold Qp;rw[if_pos e]
    rw[ev];refine B9 (ρ':=_) (by simp_arith[decide_eq_true e];rfl) ⟨_,_,rfl⟩
   ·have ev:Qp p u C w=layA C (u,w) (Ao (Ak C (u,p)) (Ak C (p,w))) (some p):=by unfold Qp;rw[if_neg e]
    rw[ev];have h1:=GI C (u,p);have h2:=GI C (p,w);have h3:=K5 (Ak C (u,p)) (Ak C (p,w));have h4:=eB C (u,w) (Ao (Ak C (u,p)) (Ak C (p,w))) (some p) (rn.len hm);have t1:∀a b:Int,D.tup [.int a,.int b]=pD (a,b):=λ a b=>rfl;have t2:Gv (some p)=.int p:=rfl;rw[t2] at h4;have h5:=Kx (ρ:=[some (.ow (.tree (some 0) (ID C))),some (.val (.int p)),some (.val (.lst (H.map D.int))),some (.val (.int u)),some (.val (.int w)),some (.val (cst (Ao (Ak C (u,p)) (Ak C (p,w)))))]) (i:=0) rfl rfl h4;simp_arith[decide_eq_false e,if_true];apply wp_step
    ·simp_arith[t1,h1,h2,h3];rfl
    refine B9 (ρ':=_) (by simp_arith[t1,h5];rfl) ⟨_,_,rfl⟩
  ·rintro ρ ⟨s4,s5,rfl⟩;rw[za2,zc1];exact⟨_,s4,s5,rfl⟩
 ·rintro ρ ⟨s3,s4,s5,rfl⟩;rw[za2,zc1];exact⟨rfl,trivial⟩
abbrev Po:OT->List D->M (OT×OT):=za8 GJ
def Tc:Txt K mg->OO P w K mg base "lay_over" 2 3 Po:=(za1 GJ).1
def Td:∀(m:Nat) (A:LA) (p:Int) (H:List Int),m<=20->Fj m A->(∀x∈H,0<=x/\x<m)->Po (ID A) [.int p,.lst (H.map D.int)]=.ok (ID (pF A p H),.sh .AE):=(za1 GJ).2
def FD:∃F:List D->M OT,(∀ {P w K mg base},Txt K mg->BS P w K mg base "laid_arcs" 3 2 F)/\(∀(m:Nat) (rs:List Road) (L:List Int),m<=20->L.Perm (AI m)->(∀r∈rs,G6 m r/\r.a≠r.b)->F [Ap m rs,.lst (L.map D.int)]=.ok (ID (BX rs L))):=by
 refine⟨_,λ T=>AD (k:=2) T.SV CZ _ (λ f B2 A outer s H E hr=>(A3 (Bf 2 CZ.nd rfl (zb6 rfl) (RZ true)) (A3 (BF A9.toXCall.own rfl (AW (Ab (AL hr 16 (by decide)) (A1 0 (pv 0)) A5)) (B4 3 CZ.nd rfl (zb6 rfl)) (A6 (MM (Zq A9.toXCall (eA T) (hr.mono (by decide)) rfl (C6 2 (pv 2)) (A2 (AH (A2 (Ab (AL hr 16 (by decide)) (A1 3 (pv 3)) A5) (A2 (Ab (AL hr 16 (by decide)) (A1 3 (pv 3)) A5) A7))) (A2 (Ah (Aa A9.toXCall (Fz T) (hr.mono (by decide)) rfl (A2 (A1 3 (pv 3)) A7) rfl)) (A2 Df A7))) rfl)))) (A3 (BF A9.toXCall.own rfl (Q5 rfl T.GF (A1 1 (pv 1))) (Z3 (n:=2) rfl (IV (B4 4 CZ.nd rfl (zb6 rfl)) (IV (B4 5 CZ.nd rfl (zb6 rfl)) Vn))) (A6 (MM (Zq A9.toXCall (Tc T) (hr.mono (by decide)) rfl (C6 2 (pv 2)) (A2 (A1 5 (pv 5)) (A2 (Ah (Gs (A1 1 (pv 1)) (GV (BN (A1 4 (pv 4)) A5)) LG)) A7)) rfl)))) (A6 (CV 2 (pv 2))))))),?_⟩;intro m rs L hm hL Ar;have e0:AB ["net","order","laid","road","rank","place"] [Ap m rs,.lst (L.map D.int)]=[some (.val (Ap m rs)),some (.val (.lst (L.map D.int))),none,none,none,none]:=rfl;rw[e0];refine Bv ?_;have n1:AO (Ap m rs) (.int 1)=.ok (.lst (rs.map Bl)):=rfl;apply wp_step
 ·rfl
 try simp only[zah,zac]
 have gx:∀i,i<=rs.length->Fj m ((rs.take i).foldl (λ A r=>layA A (r.a,r.b) (Cd r) none) []):=λ i hi=>by
  have:=(Qq (m:=m) (rs:=rs.take i) λ r hr=>Ar r (zbw hr)).1;exact this
 refine C3 (I:=λ ρ=>∃s3 s4 s5:Option Cl,ρ=[some (.val (Ap m rs)),some (.val (.lst (L.map D.int))),some (.ow (.tree none (ID (lay0 rs)))),s3,s4,s5]) ?_ ?_
 ·simp_arith[n1];refine BH (λ i ρ=>i<=rs.length/\∃s3 s4 s5:Option Cl,ρ=[some (.val (Ap m rs)),some (.val (.lst (L.map D.int))),some (.ow (.tree none (ID ((rs.take i).foldl (λ A r=>layA A (r.a,r.b) (Cd r) none) [])))),s3,s4,s5]) ⟨zb0 _,none,none,none,rfl⟩ ?_ ?_
  ·rintro i d ρ hd ⟨hi,s3,s4,s5,rfl⟩;obtain⟨r,hr,rfl⟩:=BU hd;have ag:=(zak.mp hr).1;refine⟨_,rfl,?_⟩;rw[Em hr];obtain⟨B,hB⟩:∃B,B=(rs.take i).foldl (λ A r=>layA A (r.a,r.b) (Cd r) none) []:=⟨_,rfl⟩;have gu:Fj m B:=by rw[hB];exact gx i hi
   rw[<-hB];have i0:AO (Bl r) (.int 0)=.ok (.int r.a):=rfl;have i1:AO (Bl r) (.int 1)=.ok (.int r.b):=rfl;have h1:=FA r;have h2:=eB B (r.a,r.b) (Cd r) none (gu.len hm);have t1:∀a b:Int,D.tup [.int a,.int b]=pD (a,b):=λ a b=>rfl;have t2:Gv none=.AE:=rfl;rw[t2] at h2;have h5:=Kx (ρ:=[some (.val (Ap m rs)),some (.val (.lst (L.map D.int))),some (.ow (.tree none (ID B))),some (.val (Bl r)),s4,s5]) (i:=2) rfl rfl h2;refine B9 (ρ':=_) (by simp_arith[i0,i1,h1,t1,h5];rfl) ⟨ag,_,_,_,rfl⟩
  ·rintro ρ ⟨_,s3,s4,s5,rfl⟩;rw[za2,zc1];exact⟨s3,s4,s5,rfl⟩
 ·rintro ρ ⟨s3,s4,s5,rfl⟩;have rb:=Qq Ar;refine C3 (I:=λ ρ=>∃s3 s4 s5:Option Cl,ρ=[some (.val (Ap m rs)),some (.val (.lst (L.map D.int))),some (.ow (.tree none (ID (BX rs L)))),s3,s4,s5]) ?_ ?_
  ·simp_arith[];refine BH (λ i ρ=>i<=L.length/\∃(G:LA) (s3 s4 s5:Option Cl),ρ=[some (.val (Ap m rs)),some (.val (.lst (L.map D.int))),some (.ow (.tree none (ID G))),s3,s4,s5]/\Fj m G/\Uj G (L.drop i)=Uj (lay0 rs) L) ⟨zb0 _,lay0 rs,s3,s4,s5,rfl,rb.1,rfl⟩ ?_ ?_
   ·rintro i d ρ hd ⟨hi,G,s3,s4,s5,rfl,hG,j4⟩;obtain⟨d',aI,rfl⟩:=GW hd;obtain⟨p,hp,rfl⟩:=BU aI;have ag:=(zak.mp hp).1;rw[Nat.zero_add];refine⟨_,rfl,?_⟩;have bd:∀x∈L.drop (i+1),0<=x/\x<m:=λ x hx=>(BW hL).mp (List.mem_of_mem_drop hx);have ed:L.drop i=p::L.drop (i+1):=by
     rw[zcz ag];rw[zaa ag] at hp;rw[zat hp]
    rw[ed,Uj] at j4;have h2:=Td m G p (L.drop (i+1)) hm hG bd;have sl:Zs (some ((i:Int)+1)) none (.lst (L.map D.int))=.ok (.lst (((L.drop (i+1)).map D.int).map .sh)):=by rw[List.map_drop];exact S6 _ (i+1)
    have h5:=Kx (ρ:=[some (.val (Ap m rs)),some (.val (.lst (L.map D.int))),some (.ow (.tree none (ID G))),s3,some (.val (.int i)),some (.val (.int p))]) (i:=2) rfl rfl h2;refine B9 (ρ':=_) (by simp_arith[sl,h5];rfl) ⟨ag,_,_,_,_,rfl,Fj.lo bd hG bd,j4⟩
   ·rintro ρ ⟨_,G,s3,s4,s5,rfl,hG,j4⟩;rw[E8,za2,List.drop_length,Uj] at j4;exact⟨s3,s4,s5,by rw[j4];rfl⟩
  ·rintro ρ ⟨s3,s4,s5,rfl⟩;exact⟨_,rfl,rfl⟩
abbrev ND:List D->M OT:=za8 FD
def QS:Txt K mg->BS P w K mg base "laid_arcs" 3 2 ND:=(za1 FD).1
def QT:∀(m:Nat) (rs:List Road) (L:List Int),m<=20->L.Perm (AI m)->(∀r∈rs,G6 m r/\r.a≠r.b)->ND [Ap m rs,.lst (L.map D.int)]=.ok (ID (BX rs L)):=(za1 FD).2
def GL:∃F:List D->M OT,(∀ {P w K mg base},Txt K mg->BS P w K mg base "is_order" 2 2 F)/\(∀(m:Nat) (x:D) (L:List Int),m<=60->L.Perm (AI m)->F [.tup [.int m,x],.lst (L.map .int)]=.ok (.sh (.bl true))):=by
 refine⟨_,λ T=>AD (k:=1) T.UM SN _ (λ f B2 A outer s H E hr=>(A3 (B5 (DW.dt (DM (C2 (BG (c:=true) (DD (GU _) rfl T.AM rfl T.DJ (by decide +kernel) (A1 1 (pv 1))))) (CU (Hz (c:=true) (AL hr 16 (by decide)) (Dg rfl T.Fi (A1 1 (pv 1))) (Ab (AL hr 16 (by decide)) (A1 0 (pv 0)) A5))))) (A6 (Aj (AY D6))) As) (A3 (B5 (C2 (BG (c:=true) (Q9 rfl rfl T.Ws (Ah (CC (NB:=["place","net"]) [none,some 0] rfl (AW (A1 1 (pv 1))) rfl rfl (Bd 0 (by decide) rfl rfl rfl) (λ _ _ _ _=>DV) (λ _ _ _ _=>(Ah (Bq (Aa (AX rfl).toXCall (B0 T) (hr.mono (by decide)) rfl (A2 (A1 0 (pv 0)) (A2 (Ab (AL hr 16 (by decide)) (A1 1 (pv 1)) A5) A7)) rfl))))))))) (A6 (Aj (AY D6))) As) (A6 (Aj (AY (YW (AL hr 16 (by decide)) (Ah (Xh rfl rfl T.K2 (A1 1 (pv 1)))) (Ah (Jc rfl rfl T.DJ rfl T.Ck (Ab (AL hr 16 (by decide)) (A1 0 (pv 0)) A5)))))))))),?_⟩;intro m x L hm hL;have e0:AB ["net","thing"] [.tup [.int m,x],.lst (L.map .int)]=[some (.val (.tup [.int m,x])),some (.val (.lst (L.map .int)))]:=rfl;rw[e0];have n0:AO (.tup [.int m,x]) (.int 0)=.ok (.int m):=rfl;refine Bv ?_;have hlen:=JK hL;have h1:decide (((L.map D.int).length:Int)=(m:Int))=true:=decide_eq_true (by rw[za2];omega);have hl:(L.map D.int).length<=1000:=by rw[za2];omega
 have hs:=Xg (ns:=L) (by omega);have h3:=Qf (n:=m) (by omega);rw[MY] at h3;have e:decide (D8 L=AI m)=true:=decide_eq_true (Xy.mpr hL);apply wp_step
 ·simp_arith[n0,h1];rfl
 apply wp_step
 ·simp_arith[if_pos hl];rw[Ca (λ _:Int=>D.bl true) (λ j hj=>⟨_,rfl,rfl,by
   have hj2:=CY.mp (hL.mem_iff.mp hj);have:=B1 j m (by omega) (by omega);simp_arith[n0,this]⟩)]
  simp_arith[tS];rfl
 simp_arith[n0,hs,h3,ZY,e];rfl
abbrev Pp:List D->M OT:=za8 GL
def Te:Txt K mg->BS P w K mg base "is_order" 2 2 Pp:=(za1 GL).1
def Tf:∀(m:Nat) (x:D) (L:List Int),m<=60->L.Perm (AI m)->Pp [.tup [.int m,x],.lst (L.map .int)]=.ok (.sh (.bl true)):=(za1 GL).2
def Dn:∃F:List D->M OT,(∀ {P w K mg base},Txt K mg->BS P w K mg base "checked_order" 3 2 F)/\(∀(m:Nat) (x:D) (L:List Int),m<=60->L.Perm (AI m)->F [.tup [.int m,x],.lst (L.map .int)]=.ok (.lst ((L.map D.int).map .sh))):=by
 refine⟨_,λ T=>AD (k:=2) T.Lx KG _ (λ f B2 A outer s H E hr=>(A3 (B5 (C2 (BG (c:=true) (Ah (Aa A9.toXCall (Te T) (hr.mono (by decide)) rfl (A2 (A1 0 (pv 0)) (A2 (A1 1 (pv 1)) A7)) rfl)))) (A6 U3) As) (A6 (Aj (Ha rfl T.DJ (A1 1 (pv 1))))))),?_⟩;intro m x L hm hL;have e0:AB ["net","thing"] [.tup [.int m,x],.lst (L.map .int)]=[some (.val (.tup [.int m,x])),some (.val (.lst (L.map .int)))]:=rfl;rw[e0];have h1:=Tf m x L hm hL;refine Bv ?_;apply wp_step
 ·simp_arith[h1];rfl
 simp_arith[];exact⟨_,rfl,rfl⟩
abbrev Es:List D->M OT:=za8 Dn
def KL:Txt K mg->BS P w K mg base "checked_order" 3 2 Es:=(za1 Dn).1
def KN:∀(m:Nat) (x:D) (L:List Int),m<=60->L.Perm (AI m)->Es [.tup [.int m,x],.lst (L.map .int)]=.ok (.lst ((L.map D.int).map .sh)):=(za1 Dn).2
def F2:∃F:List D->M OT,(∀ {P w K mg base},Txt K mg->BS P w K mg base "first_bows" 2 1 F)/\(∀(m:Nat) (rs:List Road),m<=20->(∀r∈rs,G6 m r/\r.a≠r.b)->F [Ap m rs]=.ok (.Bm true ((BC rs).map pD) ((D9 (BC rs)).map .sh))):=by
 refine⟨_,λ T=>AD (k:=1) T.QO EX _ (λ f B2 A outer s H E hr=>(A3 (Bf 1 EX.nd rfl (zb6 rfl) (RZ true)) (A3 (BF A9.toXCall.own rfl (AW (Ab (AL hr 16 (by decide)) (A1 0 (pv 0)) A5)) (B4 2 EX.nd rfl (zb6 rfl)) (A6 (B5 (DU (c:=true) (Ah (Aa A9.toXCall (Fz T) (hr.mono (by decide)) rfl (A2 (A1 2 (pv 2)) A7) rfl))) (A6 (LM (AL hr 16 (by decide)) (C6 1 (pv 1)) (AH (A2 (Ab (AL hr 16 (by decide)) (A1 2 (pv 2)) A5) (A2 (Ab (AL hr 16 (by decide)) (A1 2 (pv 2)) A5) A7))) D6)) As))) (A6 (CV 1 (pv 1)))))),?_⟩;intro m rs hm Ar;have e0:AB ["net","bows","road"] [Ap m rs]=[some (.val (Ap m rs)),none,none]:=rfl;rw[e0];refine Bv ?_;apply wp_step
 ·rfl
 have n1:AO (Ap m rs) (.int 1)=.ok (.lst (rs.map Bl)):=rfl;refine C3 (I:=λ ρ=>∃s2,ρ=[some (.val (Ap m rs)),some (.ow (.tree none (.Bm true ((BC rs).map pD) ((D9 (BC rs)).map .sh)))),s2]) ?_ ?_
 ·simp_arith[n1];refine BH (λ i ρ=>∃s2,ρ=[some (.val (Ap m rs)),some (.ow (.tree none (.Bm true ((BC (rs.take i)).map pD) ((D9 (BC (rs.take i))).map .sh)))),s2]) ⟨none,rfl⟩ ?_ ?_
  ·rintro i d ρ hd ⟨s2,rfl⟩;rw[zan] at hd;cases hq:rs[i]? with
   |none=>rw[hq] at hd;cases hd
   |some r =>
    rw[hq] at hd;cases hd;have hr:=zam hq;have et:rs.take (i+1)=rs.take i++[r]:=by rw[zc4,hq];rfl
    have eb:BC (rs.take (i+1))=(match r.l with|none=>BC (rs.take i)|some _=>Ku (BC (rs.take i)) (r.a,r.b)):=by
     unfold BC;rw[et,List.foldl_append];rfl
    have yi:=Sn (m:=m) (rs:=rs.take i) λ r' h'=>Ar r' (zbw h');have hlen:=yi.len hm;have h1:=FA r;refine⟨_,rfl,?_⟩;cases hl:r.l with
    |none =>
     have e1:Cd r=none:=by unfold Cd;rw[hl]
     rw[hl] at eb;rw[e1] at h1;simp_arith[h1,cst,C1];exact⟨_,by rw[eb]⟩
    |some l =>
     have e1:Cd r=some (l,1):=by unfold Cd;rw[hl]
     rw[hl] at eb;rw[e1] at h1;have i0:AO (Bl r) (.int 0)=.ok (.int r.a):=rfl;have i1:AO (Bl r) (.int 1)=.ok (.int r.b):=rfl;have kk:keyOk true (D.tup [.int r.a,.int r.b])=true/\((BC (rs.take i)).map pD).length<1000:=⟨rfl,by rw[za2];exact hlen⟩;have pp:putD ((BC (rs.take i)).map pD) (D9 (BC (rs.take i))) (D.tup [.int r.a,.int r.b]) (.bl true)=_:=W5 (BC (rs.take i)) (r.a,r.b);simp_arith[h1,cst,C1,Bool.not_false,if_true,i0,i1,if_pos kk,pp];exact⟨_,by rw[eb]⟩
  ·rintro ρ ⟨s2,rfl⟩;rw[za2,zc1];exact⟨s2,rfl⟩
 ·rintro ρ ⟨s2,rfl⟩;exact⟨_,rfl,rfl⟩
abbrev Lj:List D->M OT:=za8 F2
def Od:Txt K mg->BS P w K mg base "first_bows" 2 1 Lj:=(za1 F2).1
def Oe:∀(m:Nat) (rs:List Road),m<=20->(∀r∈rs,G6 m r/\r.a≠r.b)->Lj [Ap m rs]=.ok (.Bm true ((BC rs).map pD) ((D9 (BC rs)).map .sh)):=(za1 F2).2
def DL:∃F:List D->M OT,(∀ {P w K mg base},Txt K mg->BS P w K mg base "missing_bows" 1 3 F)/\(∀(B:List (Int×Int)) (vs:List D) (L:List Int) (v:Int),L.length<=30->F [.Bm true (B.map pD) vs,.lst (L.map .int),.int v]=.ok (.lst (((B8 B L v).map pD).map .sh))):=by
 refine⟨_,λ T=>AD (k:=0) T.Nn BY _ (λ f B2 A outer s H E hr=>(A3 (IY (NB:=["u","bows","place"]) 3 [none,some 0,some 2] BY.nd rfl (zb6 rfl) rfl (AW (A1 1 (pv 1))) rfl rfl (Bd 0 (by decide) rfl rfl rfl) (λ _ _ _ _=>DY (Kr (c:=true) (AL hr 16 (by decide)) (AH (A2 (A1 0 (pv 0)) (A2 (A1 2 (pv 2)) A7))) (A1 1 (pv 1)))) (λ _ _ _ _=>(A1 0 (pv 0)))) (A3 (IY (NB:=["w","bows","place"]) 4 [none,some 0,some 2] BY.nd rfl (zb6 rfl) rfl (AW (A1 1 (pv 1))) rfl rfl (Bd 0 (by decide) rfl rfl rfl) (λ _ _ _ _=>DY (Kr (c:=true) (AL hr 16 (by decide)) (AH (A2 (A1 2 (pv 2)) (A2 (A1 0 (pv 0)) A7))) (A1 1 (pv 1)))) (λ _ _ _ _=>(A1 0 (pv 0)))) (A3 (Bf 5 BY.nd rfl (zb6 rfl) (Ia EI)) (A3 (BF A9.toXCall.own rfl (AW (A1 3 (pv 3))) (B4 6 BY.nd rfl (Or.inr rfl)) (A6 (Zn (C6 5 (pv 5)) (by exact (CC (NB:=["w","u","bows"]) [none,some 6,some 0] rfl (AW (A1 4 (pv 4))) rfl rfl (Bd 0 (by decide) rfl rfl rfl) (λ _ _ _ _=>DY (DW.dt (Fo (Hz (c:=true) (AL hr 16 (by decide)) (A1 1 (pv 1)) (A1 0 (pv 0))) (EH (LK (c:=true) (AL hr 16 (by decide)) (AH (A2 (A1 1 (pv 1)) (A2 (A1 0 (pv 0)) A7))) (A1 2 (pv 2))))))) (λ _ _ _ _=>(AH (A2 (A1 1 (pv 1)) (A2 (A1 0 (pv 0)) A7))))))))) (A6 (CV 5 (pv 5)))))))),?_⟩;intro B vs L v hl;have e0:AB ["bows","left","place","ahead","behind","missing","u"] [.Bm true (B.map pD) vs,.lst (L.map .int),.int v]=[some (.val (.Bm true (B.map pD) vs)),some (.val (.lst (L.map .int))),some (.val (.int v)),none,none,none,none]:=rfl;rw[e0];refine Bv ?_;have hL:(L.map D.int).length<=1000:=by rw[za2];omega
 apply wp_step
 ·simp_arith[if_pos hL];rw[BP (λ u=>decide ((u,v)∈B)) D.int (λ u hu=>⟨_,rfl,by simp[uQ,uR,M3,zah,zac,M.A8,H9,GZ,J3,Jo,Jp,Jq,LQ,Ii,Ks,S3,Jf,Jg,Hd,VC,LN,LO,Jh,iK,He,Hf,Ft,Qg,Dk,Qh,Ji,Jj,Hg,VF,Je,F7,toCl_list,toCl_listP,toCl_dct,LR,Jr,Js,Jt,Ju,LS,Jv,Jw,Jx,qL,sY,Jk,VG,Jl,VH,Jm,Jn,LP,VI,uS,uU,iN,iO,iP,iQ,iR,iS,toCl_nil,IX,J9,NW,Qi,Hh,LU,LV,Jy,Jz,LW,LX,LY,LZ,M2,JA,JB,JC,JD,Hi,Hj,Hk,Hl,Hm,JE,Hn,Ho,VJ,VL,VM,VN,VO,Hq,ite_tt,ite_ff,Bool.not_true,Bool.not_false,zda,zb7,Fc,Gy,JJ,iM,jM,iL,jP,jQ,jR,M9,Qt,Qu,Qv,Ec,Hw,Mb,Qk,kA,W9,Qz,Qm],λ _=>by simp_arith[]⟩)];simp_arith[];rfl
 apply wp_step
 ·simp_arith[if_pos hL];rw[BP (λ w=>decide ((v,w)∈B)) D.int (λ u hu=>⟨_,rfl,by simp[uQ,uR,M3,zah,zac,M.A8,H9,GZ,J3,Jo,Jp,Jq,LQ,Ii,Ks,S3,Jf,Jg,Hd,VC,LN,LO,Jh,iK,He,Hf,Ft,Qg,Dk,Qh,Ji,Jj,Hg,VF,Je,F7,toCl_list,toCl_listP,toCl_dct,LR,Jr,Js,Jt,Ju,LS,Jv,Jw,Jx,qL,sY,Jk,VG,Jl,VH,Jm,Jn,LP,VI,uS,uU,iN,iO,iP,iQ,iR,iS,toCl_nil,IX,J9,NW,Qi,Hh,LU,LV,Jy,Jz,LW,LX,LY,LZ,M2,JA,JB,JC,JD,Hi,Hj,Hk,Hl,Hm,JE,Hn,Ho,VJ,VL,VM,VN,VO,Hq,ite_tt,ite_ff,Bool.not_true,Bool.not_false,zda,zb7,Fc,Gy,JJ,iM,jM,iL,jP,jQ,jR,M9,Qt,Qu,Qv,Ec,Hw,Mb,Qk,kA,W9,Qz,Qm],λ _=>by simp_arith[]⟩)];simp_arith[];rfl
 apply wp_step
 ·rfl
 try simp only[zah,zac]
 have vc:((L.filter λ w=>decide ((v,w)∈B)).map D.int).length<=1000:=by rw[za2];exact zbl (zcw _ _) (by omega)
 have hlen:=Xv B L v;have hsq:L.length*L.length<=30*30:=Nat.mul_le_mul hl hl;generalize hA:L.filter (λ u=>decide ((u,v)∈B))=A;generalize hW:L.filter (λ w=>decide ((v,w)∈B))=W at vc ⊢;obtain⟨G,hG⟩:∃G:Int->List (Int×Int),G=λ u=>((W.filter λ w=>decide (u≠w) && !decide ((u,w)∈B)).map λ w=>(u,w)):=⟨_,rfl⟩;have dL:B8 B L v=A.flatMap G:=by unfold B8;rw[hA,hW,hG]
 refine C3 (I:=λ ρ=>∃s6,ρ=[some (.val (.Bm true (B.map pD) vs)),some (.val (.lst (L.map .int))),some (.val (.int v)),some (.val (.lst (A.map .int))),some (.val (.lst (W.map .int))),some (.own ((A.flatMap G).map pD)),s6]) ?_ ?_
 ·simp_arith[];refine BH (λ i ρ=>∃s6,ρ=[some (.val (.Bm true (B.map pD) vs)),some (.val (.lst (L.map .int))),some (.val (.int v)),some (.val (.lst (A.map .int))),some (.val (.lst (W.map .int))),some (.own (((A.take i).flatMap G).map pD)),s6]) ⟨none,rfl⟩ ?_ ?_
  ·rintro i d ρ hd ⟨s6,rfl⟩;obtain⟨u,hu,rfl⟩:=BU hd;have et:A.take (i+1)=A.take i++[u]:=by rw[zc4,hu];rfl
   refine⟨_,rfl,?_⟩;have hb:(((A.take i).flatMap G).map pD).length+((G u).map pD).length<=1000:=by
    have h1:((A.take (i+1)).flatMap G).length<=(A.flatMap G).length:=by
     conv=>rhs;rw[<-zcf (i+1) A,List.flatMap_append,zav]
     omega
    rw[et,List.flatMap_append,zav] at h1;rw[dL] at hlen;simp only[List.flatMap_cons,List.flatMap_nil,zbk] at h1;rw[za2,za2];omega
   have cm:(((W.filter λ w=>decide (u≠w) && !decide ((u,w)∈B)).map λ w=>(u,w)).map pD)=(W.filter λ w=>decide (u≠w) && !decide ((u,w)∈B)).map λ w=>D.tup [.int u,.int w]:=by rw[zbq];rfl
   refine B9 (ρ':=[some (.val (.Bm true (B.map pD) vs)),some (.val (.lst (L.map .int))),some (.val (.int v)),some (.val (.lst (A.map .int))),some (.val (.lst (W.map .int))),some (.own (((A.take (i+1)).flatMap G).map pD)),some (.val (.int u))]) ?_ ⟨_,rfl⟩;simp_arith[if_pos vc];rw[BP (λ w=>decide (u≠w) && !decide ((u,w)∈B)) (λ w=>D.tup [.int u,.int w]) (λ w hw=>⟨_,rfl,by
    simp[uQ,uR,M3,zah,zac,M.A8,H9,GZ,J3,Jo,Jp,Jq,LQ,Ii,Ks,S3,Jf,Jg,Hd,VC,LN,LO,Jh,iK,He,Hf,Ft,Qg,Dk,Qh,Ji,Jj,Hg,VF,Je,F7,toCl_list,toCl_listP,toCl_dct,LR,Jr,Js,Jt,Ju,LS,Jv,Jw,Jx,qL,sY,Jk,VG,Jl,VH,Jm,Jn,LP,VI,uS,uU,iN,iO,iP,iQ,iR,iS,toCl_nil,IX,J9,NW,Qi,Hh,LU,LV,Jy,Jz,LW,LX,LY,LZ,M2,JA,JB,JC,JD,Hi,Hj,Hk,Hl,Hm,JE,Hn,Ho,VJ,VL,VM,VN,VO,Hq,ite_tt,ite_ff,Bool.not_true,Bool.not_false,zda,zb7,Fc,Gy,JJ,iM,jM,iL,jP,jQ,jR,M9,Qt,Qu,Qv,Ec,Hw,Mb,Qk,kA,W9,Qz,Qm,YU,Q0,Cv,Bk];by_cases h:u=w<;>simp[h],λ _=>by simp_arith[]⟩)]
   rw[<-cm];have yj:((W.filter λ w=>decide (u≠w) && !decide ((u,w)∈B)).map λ w=>(u,w))=G u:=by rw[hG]
   rw[yj];simp_arith[if_pos hb];rw[et,List.flatMap_append,List.flatMap_cons,List.flatMap_nil,zbk,<-zaz]
  ·rintro ρ ⟨s6,rfl⟩;rw[za2,zc1];exact⟨s6,rfl⟩
 ·rintro ρ ⟨s6,rfl⟩;rw[dL];exact⟨_,rfl,rfl⟩
abbrev HN:List D->M OT:=za8 DL
def FZ:Txt K mg->BS P w K mg base "missing_bows" 1 3 HN:=(za1 DL).1
def G0:∀(B:List (Int×Int)) (vs:List D) (L:List Int) (v:Int),L.length<=30->HN [.Bm true (B.map pD) vs,.lst (L.map .int),.int v]=.ok (.lst (((B8 B L v).map pD).map .sh)):=(za1 DL).2
def GN:∃F:List D->M OT,(∀ {P w K mg base},Txt K mg->BS P w K mg base "lightest" 2 2 F)/\(∀(B:List (Int×Int)) (vs:List D) (L:List Int),L≠[]->L.length<=30->F [.Bm true (B.map pD) vs,.lst (L.map .int)]=.ok (.sh (.int (Bo B L)))):=by
 refine⟨_,λ T=>AD (k:=1) T.UN SO _ (λ f B2 A outer s H E hr=>(A6 (Aj (AY (Ab (AL hr 16 (by decide)) (iE rfl (AL hr 16 (by decide)) rfl T.dU (Ah (CC (NB:=["place","bows","left"]) [none,some 0,some 1] rfl (AW (A1 1 (pv 1))) rfl rfl (Bd 0 (by decide) rfl rfl rfl) (λ _ _ _ _=>DV) (λ _ _ _ _=>(AH (A2 (Dg rfl T.Fi (Ah (Bq (Aa (AX rfl).toXCall (FZ T) (hr.mono (by decide)) rfl (A2 (A1 1 (pv 1)) (A2 (A1 2 (pv 2)) (A2 (A1 0 (pv 0)) A7))) rfl)))) (A2 (A1 0 (pv 0)) A7))))))) A5))))),?_⟩;intro B vs L ae hl;have e0:AB ["bows","left"] [.Bm true (B.map pD) vs,.lst (L.map .int)]=[some (.val (.Bm true (B.map pD) vs)),some (.val (.lst (L.map .int)))]:=rfl;rw[e0];refine Bv ?_;have hL:(L.map D.int).length<=1000:=by rw[za2];omega
 simp_arith[if_pos hL];rw[Ca (λ p=>D.tup ([((B8 B L p).length:Int),p].map D.int)) (λ p hp=>⟨_,rfl,rfl,by
  have h1:=G0 B vs L p hl;simp_arith[h1,WU,za2,za6,zd7]⟩)]
 simp_arith[VA];rw[P6];have hb:=Xw (λ p=>D.tup ([((B8 B L p).length:Int),p].map D.int)) (L.map λ p=>(p,[((B8 B L p).length:Int),p]));rw[zbq] at hb;have e2:((λ b:Int×List Int=>(D.tup ([((B8 B L b.1).length:Int),b.1].map D.int),b.2)) ∘ λ p=>(p,[((B8 B L p).length:Int),p]))=λ p=>(D.tup ([((B8 B L p).length:Int),p].map D.int),[((B8 B L p).length:Int),p]):=rfl;rw[e2] at hb;dsimp only;rw[hb];unfold Bo;cases q:Bb (L.map λ p=>(p,[((B8 B L p).length:Int),p])) with
 |none=>exact (Ms (λ z=>ae (List.map_eq_nil_iff.mp z)) q).elim
 |some k =>
  simp only[zcp,M.A8];rfl
abbrev Pq:List D->M OT:=za8 GN
def Tg:Txt K mg->BS P w K mg base "lightest" 2 2 Pq:=(za1 GN).1
def Th:∀(B:List (Int×Int)) (vs:List D) (L:List Int),L≠[]->L.length<=30->Pq [.Bm true (B.map pD) vs,.lst (L.map .int)]=.ok (.sh (.int (Bo B L))):=(za1 GN).2
def KO:∃F:List D->M OT,(∀ {P w K mg base},Txt K mg->BS P w K mg base "ranked" 3 1 F)/\(∀(m:Nat) (rs:List Road),m<=20->(∀r∈rs,G6 m r/\r.a≠r.b)->F [Ap m rs]=.ok (.lst (((Tp m (BC rs) (AI m)).map D.int).map .sh))):=by
 refine⟨_,λ T=>AD (k:=2) T.dQ Ed _ (λ f B2 A outer s H E hr=>(A3 (Bf 1 Ed.nd rfl (zb6 rfl) (Aa A9.toXCall (Od T) (hr.mono (by decide)) rfl (A2 (A1 0 (pv 0)) A7) rfl)) (A3 (Bf 2 Ed.nd rfl (zb6 rfl) (Jc rfl rfl T.DJ rfl T.Ck (Ab (AL hr 16 (by decide)) (A1 0 (pv 0)) A5))) (A3 (Bf 3 Ed.nd rfl (zb6 rfl) (Ia EI)) (A3 (RN A9.toXCall.own (Gn (BG (c:=true) (A1 2 (pv 2)))) (A3 (AG 4 Ed.nd rfl (zb6 rfl) (Ah (DF (Aa A9.toXCall (Tg T) (hr.mono (by decide)) rfl (A2 (A1 1 (pv 1)) (A2 (A1 2 (pv 2)) A7)) rfl)))) (A3 (BF A9.toXCall.own rfl (AW (Ah (DF (Aa A9.toXCall (FZ T) (hr.mono (by decide)) rfl (A2 (A1 1 (pv 1)) (A2 (A1 2 (pv 2)) (A2 (A1 4 (pv 4)) A7))) rfl)))) (B4 5 Ed.nd rfl (zb6 rfl)) (A6 (LM (AL hr 16 (by decide)) (C6 1 (pv 1)) (A1 5 (pv 5)) D6))) (A3 (Xd (C6 2 (pv 2)) (A1 4 (pv 4))) (A6 (Dh 3 (pv 3) (A1 4 (pv 4)))))))) (A6 (CV 3 (pv 3)))))))),?_⟩;intro m rs hm Ar;have e0:AB ["net","bows","left","order","place","bow"] [Ap m rs]=[some (.val (Ap m rs)),none,none,none,none,none]:=rfl;rw[e0];refine Bv ?_;have h1:=Oe m rs hm Ar;have n0:AO (Ap m rs) (.int 0)=.ok (.int m):=rfl;have h2:=Qf (n:=m) (by omega);rw[MY] at h2;apply wp_step
 ·simp_arith[h1];rfl
 apply wp_step
 ·simp_arith[n0,h2];rfl
 apply wp_step
 ·rfl
 try simp only[zah,zac]
 refine C3 (I:=λ ρ=>∃s1 s2 s4 s5,ρ=[some (.val (Ap m rs)),s1,s2,some (.own ((Tp m (BC rs) (AI m)).map D.int)),s4,s5]) ?_ ?_
 ·refine S1 (lt:=λ a b:Nat=>a<b) (λ n ρ=>∃(B:List (Int×Int)) (L O:List Int) (s4 s5:Option Cl),ρ=[some (.val (Ap m rs)),some (.ow (.tree none (.Bm true (B.map pD) ((D9 B).map .sh)))),some (.own (L.map D.int)),some (.own (O.map D.int)),s4,s5]/\L.length=n/\n+O.length=m/\Cu m B/\(∀p∈L,0<=p/\p<(m:Int))/\O++Tp n B L=Tp m (BC rs) (AI m)) (Nat.lt_wfRel.wf.apply m) ⟨BC rs,AI m,[],none,none,rfl,BV m,by simp,Sn Ar,λ p hp=>CY.mp hp,rfl⟩ ?_;rintro n ρ ⟨B,L,O,s4,s5,rfl,hn,hO,hB,hL,dh⟩;by_cases j5:L=[]
  ·subst j5;left;have:n=0:=by simpa using hn.symm
   subst this;rw[Tp,zbk] at dh;exact⟨rfl,⟨_,_,_,_,by rw[dh]⟩⟩
  ·right;have j6:L.length<=30:=by omega
   have q1:=Th B (D9 B) L j5 j6;have q2:=G0 B (D9 B) L (Bo B L) j6;obtain⟨aH,_⟩:=P8 (B:=B) j5;have yk:0<L.length:=List.length_pos_of_mem aH;obtain⟨n',rfl⟩:∃n',n=n'+1:=⟨n-1,by omega⟩;rw[Tp,if_neg j5] at dh;constructor
   ·simp_arith[Zv];cases L with
    |nil=>exact (j5 rfl).elim
    |cons x r=>rfl
   apply wp_step
   ·simp_arith[q1,oR iU];rfl
   try simp only[zah,zac]
   have d0:J1 ((B8 B L (Bo B L)).map pD)=true:=S4 ZV _;refine C3 (I:=λ ρ=>∃s5,ρ=[some (.val (Ap m rs)),some (.ow (.tree none (.Bm true ((Ct B (B8 B L (Bo B L))).map pD) ((D9 (Ct B (B8 B L (Bo B L)))).map .sh)))),some (.own (L.map D.int)),some (.own (O.map D.int)),some (.val (.int (Bo B L))),s5]) ?_ ?_
   ·simp_arith[q2,iT d0];refine BH (λ i ρ=>∃s5,ρ=[some (.val (Ap m rs)),some (.ow (.tree none (.Bm true ((Ct B ((B8 B L (Bo B L)).take i)).map pD) ((D9 (Ct B ((B8 B L (Bo B L)).take i))).map .sh)))),some (.own (L.map D.int)),some (.own (O.map D.int)),some (.val (.int (Bo B L))),s5]) ⟨s5,rfl⟩ ?_ ?_
    ·rintro i d ρ hd ⟨s5,rfl⟩;obtain⟨p,hp,rfl⟩:=BU hd;refine⟨_,rfl,?_⟩;have yl:Cu m (Ct B ((B8 B L (Bo B L)).take i)):=hB.Ct λ q hq=>by
      have:=P7 (zbw hq);exact⟨this.2.2,hL _ this.1,hL _ this.2.1⟩
     have kk:keyOk true (pD p)=true/\((Ct B ((B8 B L (Bo B L)).take i)).map pD).length<1000:=⟨rfl,by rw[za2];exact yl.len hm⟩;have et:(B8 B L (Bo B L)).take (i+1)=(B8 B L (Bo B L)).take i++[p]:=by rw[zc4,hp];rfl
     have ea:Ct B ((B8 B L (Bo B L)).take (i+1))=Ku (Ct B ((B8 B L (Bo B L)).take i)) p:=by
      unfold Ct;rw[et,List.foldl_append];rfl
     simp_arith[if_pos kk,W5];exact⟨_,by rw[ea]⟩
    ·rintro ρ ⟨s5,rfl⟩;rw[za2,zc1];exact⟨s5,rfl⟩
   ·rintro ρ ⟨s5,rfl⟩;have ym:(O.map D.int).length<1000:=by rw[za2];omega
    apply wp_step
    ·simp_arith[E9,if_pos aH];rfl
    refine B9 (ρ':=[some (.val (Ap m rs)),some (.ow (.tree none (.Bm true ((Ct B (B8 B L (Bo B L))).map pD) ((D9 (Ct B (B8 B L (Bo B L)))).map .sh)))),some (.own ((L.erase (Bo B L)).map D.int)),some (.own ((O++[Bo B L]).map D.int)),some (.val (.int (Bo B L))),s5]) ?_ ?_
    ·simp_arith[if_pos ym,zaz,za6,zd7]
    ·have hlen:=List.length_erase_of_mem aH;refine⟨n',by omega,_,_,_,_,_,rfl,by omega,by rw[zav];simp;omega,hB.Ct λ q hq=>?_,λ p hp=>hL p (List.mem_of_mem_erase hp),?_⟩
     ·have:=P7 hq;exact⟨this.2.2,hL _ this.1,hL _ this.2.1⟩
     ·rw[zcr];exact dh
 ·rintro ρ ⟨s1,s2,s4,s5,rfl⟩;exact⟨_,rfl,rfl⟩
abbrev Wv:List D->M OT:=za8 KO
def XZ:Txt K mg->BS P w K mg base "ranked" 3 1 Wv:=(za1 KO).1
def Y0:∀(m:Nat) (rs:List Road),m<=20->(∀r∈rs,G6 m r/\r.a≠r.b)->Wv [Ap m rs]=.ok (.lst (((Tp m (BC rs) (AI m)).map D.int).map .sh)):=(za1 KO).2
def CH:∃F:List D->M OT,(∀ {P w K mg base},Txt K mg->BS P w K mg base "order_or_ranked" 4 2 F)/\(∀(m:Nat) (rs:List Road),m<=20->(∀r∈rs,G6 m r/\r.a≠r.b)->(∀L:List Int,L.Perm (AI m)->F [Ap m rs,.lst (L.map .int)]=.ok (.lst ((L.map D.int).map .sh)))/\F [Ap m rs,.AE]=.ok (.lst (((Tp m (BC rs) (AI m)).map D.int).map .sh))):=by
 refine⟨_,λ T=>AD (k:=3) T.JZ Ip _ (λ f B2 A outer s H E hr=>(A3 (B5 (HZ (c:=true) (A1 1 (pv 1))) (A6 (Aj (Aa A9.toXCall (XZ T) (hr.mono (by decide)) rfl (A2 (A1 0 (pv 0)) A7) rfl))) As) (A6 (Aj (Aa A9.toXCall (KL T) (hr.mono (by decide)) rfl (A2 (A1 0 (pv 0)) (A2 (A1 1 (pv 1)) A7)) rfl))))),?_⟩;intro m rs hm Ar;have h1:=Y0 m rs hm Ar;refine⟨λ L hL=>?_,?_⟩
 ·have h2:Es [Ap m rs,.lst (L.map .int)]=.ok (.lst ((L.map D.int).map .sh)):=KN m (.lst (rs.map Bl)) L (by omega) hL;have e0:AB ["net","order"] [Ap m rs,.lst (L.map .int)]=[some (.val (Ap m rs)),some (.val (.lst (L.map .int)))]:=rfl;rw[e0];refine Bv ?_;apply wp_step
  ·rfl
  simp_arith[h2];exact⟨_,rfl,rfl⟩
 ·have e0:AB ["net","order"] [Ap m rs,.AE]=[some (.val (Ap m rs)),some (.val .AE)]:=rfl;rw[e0];refine Bv ?_;simp_arith[C1,h1];exact⟨_,rfl,rfl⟩
abbrev Cm:List D->M OT:=za8 CH
def IA:Txt K mg->BS P w K mg base "order_or_ranked" 4 2 Cm:=(za1 CH).1
def Et:∀(m:Nat) (rs:List Road),m<=20->(∀r∈rs,G6 m r/\r.a≠r.b)->(∀L:List Int,L.Perm (AI m)->Cm [Ap m rs,.lst (L.map .int)]=.ok (.lst ((L.map D.int).map .sh)))/\Cm [Ap m rs,.AE]=.ok (.lst (((Tp m (BC rs) (AI m)).map D.int).map .sh)):=(za1 CH).2
def FE:∃F:List D->M OT,(∀ {P w K mg base},Txt K mg->BS P w K mg base "kept_arcs" 3 2 F)/\(∀(m:Nat) (rs:List Road) (A:LA),m<=20->(∀r∈rs,G6 m r)->Fj m A->∃K:List (Int×Int),F [Ap m rs,L3 A]=.ok (.lst ((K.map pD).map .sh))/\K.Nodup/\∀p,p∈K↔KP rs A p):=by
 refine⟨_,λ T=>AD (k:=2) T.SW E5 _ (λ f B2 A outer s H E hr=>(A3 (Bf 2 E5.nd rfl (zb6 rfl) (Ia EI)) (A3 (BF A9.toXCall.own rfl (BE (c:=true) rfl T.Ck (Ab (AL hr 16 (by decide)) (A1 0 (pv 0)) A5)) (B4 3 E5.nd rfl (Or.inr rfl)) (A3 (AG 4 E5.nd rfl (Or.inr rfl) (Ah (Aa A9.toXCall (Oc T) (hr.mono (by decide)) rfl (A2 (A1 0 (pv 0)) (A2 (A1 3 (pv 3)) A7)) rfl))) (A6 (Zn (C6 2 (pv 2)) (by exact (CC (NB:=["w","u","laid","costs"]) [none,some 3,some 1,some 4] rfl (BE (c:=true) rfl T.Ck (Ab (AL hr 16 (by decide)) (A1 0 (pv 0)) A5)) rfl rfl (Bd 0 (by decide) rfl rfl rfl) (λ _ _ _ _=>DY (DW.dt (Fo (Kr (c:=true) (AL hr 16 (by decide)) (AH (A2 (A1 1 (pv 1)) (A2 (A1 0 (pv 0)) A7))) (A1 2 (pv 2))) (EH (KU (c:=true) (AL hr 16 (by decide)) (Ab (AL hr 16 (by decide)) (Ab (AL hr 16 (by decide)) (A1 2 (pv 2)) (AH (A2 (A1 1 (pv 1)) (A2 (A1 0 (pv 0)) A7)))) A5) (Ab (AL hr 16 (by decide)) (A1 3 (pv 3)) (A1 0 (pv 0)))))))) (λ _ _ _ _=>(AH (A2 (A1 1 (pv 1)) (A2 (A1 0 (pv 0)) A7)))))))))) (A6 (CV 2 (pv 2)))))),?_⟩;intro m rs A hm Ar hA;have e0:AB ["net","laid","kept","u","costs"] [Ap m rs,L3 A]=[some (.val (Ap m rs)),some (.val (L3 A)),none,none,none]:=rfl;rw[e0];refine (λ h:∃t,_/\∃K:List (Int×Int),t=.lst ((K.map pD).map .sh)/\K.Nodup/\∀p,p∈K↔KP rs A p=>by
  obtain⟨t,h1,K,rfl,h2⟩:=h;exact⟨K,h1,h2⟩) (Jd ?_)
 have n0:AO (Ap m rs) (.int 0)=.ok (.int m):=rfl;have hr:Q4 (.int (m:Int))=.ok ((AI m).map D.int):=by rw[Eh (by omega),Uo]
 have hl:((AI m).map D.int).length<=1000:=by rw[za2,BV];omega
 apply wp_step
 ·rfl
 try simp only[zah,zac]
 refine C3 (I:=λ ρ=>∃(K:List (Int×Int)) (s3 s4:Option Cl),ρ=[some (.val (Ap m rs)),some (.val (L3 A)),some (.own (K.map pD)),s3,s4]/\K.Nodup/\∀p,p∈K↔KP rs A p) ?_ ?_
 ·simp_arith[n0,hr];refine BH (λ i ρ=>i<=m/\∃(K:List (Int×Int)) (s3 s4:Option Cl),ρ=[some (.val (Ap m rs)),some (.val (L3 A)),some (.own (K.map pD)),s3,s4]/\K.Nodup/\∀p,p∈K↔(p.1<i/\KP rs A p)) ⟨zb0 _,[],none,none,rfl,zbz,λ p=>⟨(λ h=>by cases h),λ h=>by
   obtain⟨c,hc,_⟩:=h.2;have:=(hA.rg p (Fd hc)).2.1;omega⟩⟩ ?_ ?_
  ·rintro i d ρ hd ⟨hi,K,s3,s4,rfl,hn,hK⟩;obtain⟨u,hu,rfl⟩:=BU hd;have ag:i<m:=by have:=(zak.mp hu).1;rw[BV] at this;exact this
   have eu:u=(i:Int):=by
    unfold AI at hu;rw[zan,zd9 ag] at hu;exact (zat hu).symm
   subst eu;obtain⟨cs,hR,hF⟩:=HM m i rs ag (by omega) Ar;refine⟨_,rfl,?_⟩;apply wp_step
   ·simp_arith[hF];rfl
   try simp only[zah,zac]
   obtain⟨W,hW⟩:∃W,W=(AI m).filter λ w=>tV A cs i w:=⟨_,rfl⟩;have vd:∀w,w∈W↔KP rs A ((i:Int),w):=λ w=>by
    rw[hW,zbp,CY];constructor
    ·rintro ⟨hw,h⟩;exact (cP hR Ar hw.1 hw.2).mp h
    ·intro h;obtain⟨c,hc,_⟩:=id h;have:=(hA.rg _ (Fd hc)).2.2;exact⟨this,(cP hR Ar this.1 this.2).mpr h⟩
   have yn:W.Nodup:=by rw[hW];exact (MZ m).filter _
   have aF:(K++W.map λ w=>((i:Int),w)).Nodup:=by
    rw[zax];refine⟨hn,zdm.mpr (yn.imp fun {a b} de e=>de (by cases e;rfl)),λ x hx y hy e=>?_⟩;subst e;obtain⟨w,_,rfl⟩:=zau.mp hy;have:=(hK _).mp hx;simp at this
   have ve:∀p,p∈K++W.map (λ w=>((i:Int),w))↔(p.1<((i+1:Nat):Int)/\KP rs A p):=λ p=>by
    rw[zaq,hK];constructor
    ·rintro (h|h)
     ·exact⟨by have:=h.1;omega,h.2⟩
     ·obtain⟨w,hw,rfl⟩:=zau.mp h;exact⟨by dsimp only;omega,(vd w).mp hw⟩
    ·rintro ⟨h1,h2⟩;by_cases e:p.1<(i:Int)
     ·exact .inl ⟨e,h2⟩
     ·have e2:p.1=(i:Int):=by omega
      obtain⟨p1,p2⟩:=p;dsimp only at e2;subst e2;exact .inr (zau.mpr ⟨p2,(vd p2).mpr h2,rfl⟩)
   have hlen:=pS hA hm aF λ p hp=>((ve p).mp hp).2;have hb:(K.map pD).length+((W.map λ w=>((i:Int),w)).map pD).length<=1000:=by
    rw[zav] at hlen;rw[za2,za2];omega
   refine B9 (ρ':=[some (.val (Ap m rs)),some (.val (L3 A)),some (.own ((K++W.map λ w=>((i:Int),w)).map pD)),some (.val (.int i)),some (.val (.lst (cs.map cst)))]) ?_ ⟨ag,_,_,_,rfl,aF,ve⟩;have t1:∀a b:Int,D.tup [.int a,.int b]=pD (a,b):=λ a b=>rfl;simp_arith[n0,hr,if_pos hl];rw[BP (λ w=>tV A cs i w) (λ w=>pD ((i:Int),w)) (λ w hw=>⟨_,rfl,by
    have vg:=CY.mp hw;have x1:AO (.lst (cs.map cst)) (.int w)=.ok (cst (atC cs w)):=Ce vg.1 (by rw[hR.1];exact vg.2);have df:=Qw A ((i:Int),w) false;unfold tV Ak;cases q:AJ A ((i:Int),w) with
    |none =>
     rw[q] at df;simp_arith[t1,df];rfl
    |some v =>
     rw[q] at df;have hit:=Qx q;have h0:AO (XC v) (.int 0)=.ok (cst (some v.1)):=rfl;have he:=jI (some v.1) (atC cs w);simp_arith[t1,df,hit,h0,x1,he];rfl,λ _=>by simp_arith[t1]⟩)]
   rw[<-hW];have ew:W.map (λ w=>pD ((i:Int),w))=(W.map λ w=>((i:Int),w)).map pD:=by rw[zbq];rfl
   rw[ew];simp_arith[if_pos hb];rw[<-zaz]
  ·rintro ρ ⟨_,K,s3,s4,rfl,hn,hK⟩;refine⟨K,s3,s4,rfl,hn,λ p=>(hK p).trans ⟨λ h=>h.2,λ h=>⟨?_,h⟩⟩⟩;obtain⟨c,hc,_⟩:=h;have:=(hA.rg p (Fd hc)).2.1;rw[za2,BV];omega
 ·rintro ρ ⟨K,s3,s4,rfl,hn,hK⟩;exact⟨_,rfl,K,rfl,hn,hK⟩
abbrev NE:List D->M OT:=za8 FE
def QU:Txt K mg->BS P w K mg base "kept_arcs" 3 2 NE:=(za1 FE).1
def QV:∀(m:Nat) (rs:List Road) (A:LA),m<=20->(∀r∈rs,G6 m r)->Fj m A->∃K:List (Int×Int),NE [Ap m rs,L3 A]=.ok (.lst ((K.map pD).map .sh))/\K.Nodup/\∀p,p∈K↔KP rs A p:=(za1 FE).2
def CI:∃F:OT->List D->M (OT×OT),(∀ {P w K mg base},Txt K mg->OY P w K mg base "Ladder" 6 3 F)/\(∀(m:Nat) (rs:List Road) (o:D) (L:List Int),1<=m->m<=16->rs.length<=60->(∀r∈rs,Im m r)->L.Perm (AI m)->(o=.lst (L.map D.int)\/(o=.AE/\L=Tp m (BC rs) (AI m)))->∃(A:LA) (K:List (Int×Int)),Cw m rs L A K/\∃t,F (.ins "Ladder" [] []) [Ap m rs,o]=.ok (t,.sh .AE)/\er t=AU m rs L A K):=by
 refine⟨_,λ T=>ZM (k:=5) T.K1 Iq _ (λ f B2 A outer s H E hr=>(A3 (M5 ["Ladder"] (Bw T.BJ C7) (C6 0 (pv 0)) (Ah (Aa A9.toXCall (UT T) (hr.mono (by decide)) rfl (A2 (A1 1 (pv 1)) A7) rfl))) (A3 (M5 ["Ladder"] (Bw T.CG C7) (C6 0 (pv 0)) (Ah (DF (Aa A9.toXCall (IA T) (hr.mono (by decide)) rfl (A2 (EV ["Ladder"] (Bw T.BJ C7) (A1 0 (pv 0))) (A2 (A1 2 (pv 2)) A7)) rfl)))) (A3 (M5 ["Ladder"] (Bw T.Dt C7) (C6 0 (pv 0)) (Ah (DF (Aa A9.toXCall (QS T) (hr.mono (by decide)) rfl (A2 (EV ["Ladder"] (Bw T.BJ C7) (A1 0 (pv 0))) (A2 (EV ["Ladder"] (Bw T.CG C7) (A1 0 (pv 0))) A7)) rfl)))) (A6 (M5 ["Ladder"] (Bw T.En C7) (C6 0 (pv 0)) (Ah (DF (Aa A9.toXCall (QU T) (hr.mono (by decide)) rfl (A2 (EV ["Ladder"] (Bw T.BJ C7) (A1 0 (pv 0))) (A2 (EV ["Ladder"] (Bw T.Dt C7) (A1 0 (pv 0))) A7)) rfl))))))))),?_⟩;intro m rs o L bL aZ ci dw hL ho;have Ar:∀r∈rs,G6 m r/\r.a≠r.b:=λ r hr=>(dw r hr).xG;have h1:=UU m rs bL aZ ci dw;have h2:Cm [Ap m rs,o]=.ok (.lst ((L.map D.int).map .sh)):=by
  rcases ho with rfl|⟨rfl,rfl⟩
  ·exact (Et m rs (by omega) Ar).1 L hL
  ·exact (Et m rs (by omega) Ar).2
 have h3:=QT m rs L (by omega) hL Ar;have hA:=(N2 hL Ar).1;obtain⟨K,h4,hn,hK⟩:=QV m rs (BX rs L) (by omega) (λ r hr=>(Ar r hr).1) hA;refine⟨BX rs L,K,⟨bL,aZ,ci,Ar,hL,rfl,hn,hK⟩,.ins "Ladder" ["own_map","own_order","laid","kept_ones"] [.sh (Ap m rs),.sh (.lst (L.map D.int)),.sh (L3 (BX rs L)),.sh (.lst (K.map pD))],?_,rfl⟩;have e0:D7 ["self","net","order"] (.ins "Ladder" [] []) [Ap m rs,o]=[some (.ow (.tree (some 0) (.ins "Ladder" [] []))),some (.val (Ap m rs)),some (.val o)]:=rfl;rw[e0];refine Um ?_;have e1:er (.tup [.sh (.int m),.lst ((rs.map Bl).map .sh)])=Ap m rs:=by rw[jO,S3,Ks];rfl
 have T:∀(ns:List Str) (ds:List D),er (.ins "Ladder" ns (ds.map .sh))=.ins "Ladder" ns ds:=λ ns ds=>by rw[er,Qc]
 have T1:=T ["own_map"] [Ap m rs];have T2:=T ["own_map","own_order"] [Ap m rs,.lst (L.map D.int)];have T3:=T ["own_map","own_order","laid"] [Ap m rs,.lst (L.map D.int),L3 (BX rs L)];simp only[za6,zd7] at T1 T2 T3;have d1:=cQ L;have d2:=jY (BX rs L);have d3:=jX K;have f1:NY ["Ladder"] "own_map" (.ins "Ladder" ["own_map"] [Ap m rs])=.ok (Ap m rs):=rfl;have f2:NY ["Ladder"] "own_map" (.ins "Ladder" ["own_map","own_order"] [Ap m rs,.lst (L.map D.int)])=.ok (Ap m rs):=rfl;have f3:NY ["Ladder"] "own_order" (.ins "Ladder" ["own_map","own_order"] [Ap m rs,.lst (L.map D.int)])=.ok (.lst (L.map D.int)):=rfl;have f4:NY ["Ladder"] "own_map" (.ins "Ladder" ["own_map","own_order","laid"] [Ap m rs,.lst (L.map D.int),L3 (BX rs L)])=.ok (Ap m rs):=rfl;have f5:NY ["Ladder"] "laid" (.ins "Ladder" ["own_map","own_order","laid"] [Ap m rs,.lst (L.map D.int),L3 (BX rs L)])=.ok (L3 (BX rs L)):=rfl;refine wp_step (ρ':=[some (.ow (.tree (some 0) (.ins "Ladder" ["own_map"] [.sh (Ap m rs)]))),some (.val (Ap m rs)),some (.val o)]) (by simp_arith[h1,e1];rfl) ?_;refine wp_step (ρ':=[some (.ow (.tree (some 0) (.ins "Ladder" ["own_map","own_order"] [.sh (Ap m rs),.sh (.lst (L.map D.int))]))),some (.val (Ap m rs)),some (.val o)]) (by simp_arith[T1,f1,h2,d1];rfl) ?_;refine wp_step (ρ':=[some (.ow (.tree (some 0) (.ins "Ladder" ["own_map","own_order","laid"] [.sh (Ap m rs),.sh (.lst (L.map D.int)),.sh (L3 (BX rs L))]))),some (.val (Ap m rs)),some (.val o)]) (by simp_arith[T2,f2,f3,h3,d2];rfl) ?_;refine B9 (ρ':=[some (.ow (.tree (some 0) (.ins "Ladder" ["own_map","own_order","laid","kept_ones"] [.sh (Ap m rs),.sh (.lst (L.map D.int)),.sh (L3 (BX rs L)),.sh (.lst (K.map pD))]))),some (.val (Ap m rs)),some (.val o)]) (by simp_arith[T3,f4,f5,h4,d3];rfl) ⟨rfl,rfl⟩
abbrev Cn:OT->List D->M (OT×OT):=za8 CI
def Eu:Txt K mg->OY P w K mg base "Ladder" 6 3 Cn:=(za1 CI).1
def Ew:∀(m:Nat) (rs:List Road) (o:D) (L:List Int),1<=m->m<=16->rs.length<=60->(∀r∈rs,Im m r)->L.Perm (AI m)->(o=.lst (L.map D.int)\/(o=.AE/\L=Tp m (BC rs) (AI m)))->∃(A:LA) (K:List (Int×Int)),Cw m rs L A K/\∃t,Cn (.ins "Ladder" [] []) [Ap m rs,o]=.ok (t,.sh .AE)/\er t=AU m rs L A K:=(za1 CI).2
def Ex:∃F:List D->M OT,(∀ {P w K mg base},Txt K mg->BS P w K mg base "_law_cell_at" 1 2 F)/\(∀(ns:List Int) (k:Nat),(∀n∈ns,Sm n)->∃v:Int,Sm v/\F [.lst (ns.map D.int),.int k]=.ok (.sh (.int v))):=by
 refine⟨_,λ T=>AD (k:=0) T.O8 Ni _ (λ f B2 A outer s H E hr=>(A3 (B5 (kX (c:=true) (A1 1 (pv 1)) (Dg rfl T.Fi (A1 0 (pv 0)))) (A6 (Aj (AY (Ab (AL hr 16 (by decide)) (A1 0 (pv 0)) (A1 1 (pv 1)))))) As) (A6 (Aj (AY A5))))),?_⟩;intro ns k bq;have e0:AB ["_law_script","_law_k"] [.lst (ns.map D.int),.int k]=[some (.val (.lst (ns.map D.int))),some (.val (.int k))]:=rfl;rw[e0];by_cases hk:(k:Int)<((ns.map D.int).length:Int)
 ·have mh:=hk;rw[za2] at mh;have i1:AO (.lst (ns.map D.int)) (.int k)=.ok (.int (ns[k]'(by omega))):=JH (by omega) (by rw[zb4];exact zaa _);refine⟨ns[k]'(by omega),bq _ (zdd _),Bv ?_⟩;simp_arith[decide_eq_true hk,i1];rfl
 ·refine⟨0,by unfold Sm;decide,Bv ?_⟩;simp_arith[decide_eq_false hk];rfl
abbrev D4:List D->M OT:=za8 Ex
def Cg:Txt K mg->BS P w K mg base "_law_cell_at" 1 2 D4:=(za1 Ex).1
def Ey:∀(ns:List Int) (k:Nat),(∀n∈ns,Sm n)->∃v:Int,Sm v/\D4 [.lst (ns.map D.int),.int k]=.ok (.sh (.int v)):=(za1 Ex).2
def IB:∃F:List D->M OT,(∀ {P w K mg base},Txt K mg->BS P w K mg base "_law_mix" 1 2 F)/\(∀c k:Int,0<=k->k<=1000->∃v:Int,0<=v/\F [.int c,.int k]=.ok (.sh (.int v))):=by
 refine⟨_,λ T=>AD (k:=0) T.XU Nj _ (λ f B2 A outer s H E hr=>(A3 (AG 2 Nj.nd rfl (zb6 rfl) (B6 (BN (BN (BN (Fs (A1 0 (pv 0)) A5) (Fs (Fs (A1 1 (pv 1)) (A1 1 (pv 1))) A5)) (Fs A5 (A1 1 (pv 1)))) A5) A5)) (A6 (Aj (AY (B6 (Fs (A1 2 (pv 2)) (A1 2 (pv 2))) A5)))))),?_⟩;intro c k h0 h1;have e0:AB ["_law_cell","_law_k","_law_number"] [.int c,.int k]=[some (.val (.int c)),some (.val (.int k)),none]:=rfl;rw[e0];have m1:HC (.int c) (.int 48271)=.ok (.int (c*48271)):=Ei (.inr (.inr (.inr (by decide))));have m2:HC (.int k) (.int k)=.ok (.int (k*k)):=Ei (.inr (.inr (.inr ⟨by omega,by omega⟩)));have m3:HC (.int (k*k)) (.int 69621)=.ok (.int (k*k*69621)):=Ei (.inr (.inr (.inr (by decide))));have m4:HC (.int 11) (.int k)=.ok (.int (11*k)):=Ei (.inr (.inr (.inr ⟨by omega,by omega⟩)));have q1:CP (.int (c*48271+k*k*69621+11*k+1)) (.int 2147483647)=.ok (.int ((c*48271+k*k*69621+11*k+1)%2147483647)):=Az (by decide);obtain⟨x,hx⟩:∃x,x=(c*48271+k*k*69621+11*k+1)%2147483647:=⟨_,rfl⟩;have x0:0<=x:=by omega
 have x1:x<2147483647:=by omega
 have m5:HC (.int x) (.int x)=.ok (.int (x*x)):=Ei (.inr (.inr (.inr ⟨by omega,by omega⟩)));have q2:CP (.int (x*x)) (.int 2147483629)=.ok (.int (x*x%2147483629)):=Az (by decide);refine⟨x*x%2147483629,zci _ (by decide),Bv ?_⟩;rw[<-hx] at q1;apply wp_step
 ·simp_arith[m1,m2,m3,m4,q1];rfl
 simp_arith[m5,q2];rfl
abbrev K9:List D->M OT:=za8 IB
def Ez:Txt K mg->BS P w K mg base "_law_mix" 1 2 K9:=(za1 IB).1
def EA:∀c k:Int,0<=k->k<=1000->∃v:Int,0<=v/\K9 [.int c,.int k]=.ok (.sh (.int v)):=(za1 IB).2
def FF:∃F:List D->M OT,(∀ {P w K mg base},Txt K mg->BS P w K mg base "_law_great" 1 2 F)/\(∀c k:Int,Sm c->0<=k->k<=100->∃v:Int,(0<=v/\v<NP)/\F [.int c,.int k]=.ok (.sh (.int v))):=by
 refine⟨_,λ T=>AD (k:=0) T.SX QI _ (λ f B2 A outer s H E hr=>(A6 (Aj (AY (B6 (Fs (BN (BN (A1 0 (pv 0)) (Fs (A1 1 (pv 1)) (A1 1 (pv 1)))) A5) A5) (YT A5 A5)))))),?_⟩;intro c k hs h0 h1;have ht:=Qn;have e0:AB ["_law_cell","_law_k"] [.int c,.int k]=[some (.val (.int c)),some (.val (.int k))]:=rfl;rw[e0];have m2:HC (.int k) (.int k)=.ok (.int (k*k)):=Ei (.inr (.inr (.inr ⟨by omega,by omega⟩)));have hk:0<=k*k:=Int.mul_nonneg h0 h0;have mh:k*k<=100*100:=Int.mul_le_mul h1 h1 h0 (by decide);have hb:PySem.Builtin.Int.intBits (c+(k*k+1))<=2^20+1:=X4 hs (by omega);have m3:HC (.int (c+(k*k+1))) (.int 5172390846617502938471650293846571029384756102938477)=.ok (.int ((c+(k*k+1))*5172390846617502938471650293846571029384756102938477)):=Ei (.inl ⟨hb,bits_le (by decide)⟩);rw[<-zdo] at m3;refine⟨(c+k*k+1)*5172390846617502938471650293846571029384756102938477%NP,⟨zci _ (by omega),zc8 _ (by omega)⟩,Bv ?_⟩;simp_arith[m2,m3,lK,jN];rfl
abbrev NF:List D->M OT:=za8 FF
def FG:Txt K mg->BS P w K mg base "_law_great" 1 2 NF:=(za1 FF).1
def FH:∀c k:Int,Sm c->0<=k->k<=100->∃v:Int,(0<=v/\v<NP)/\NF [.int c,.int k]=.ok (.sh (.int v)):=(za1 FF).2
def FI:∃F:List D->M OT,(∀ {P w K mg base},Txt K mg->BS P w K mg base "_law_whole" 1 1 F)/\(∀i:Int,F [.int i]=.ok (.sh (.bl true))):=by
 refine⟨_,λ T=>AD (k:=0) T.SY QJ _ (λ f B2 A outer s H E hr=>(A6 (Aj (AY (I0 (DD (RJ _) rfl T.AM rfl T.dS (by decide +kernel) (A1 0 (pv 0))) (Kk (YX (DD (OF _) rfl T.AM rfl T.dR (by decide +kernel) (A1 0 (pv 0)))))))))),?_⟩;intro i;rfl
abbrev NG:List D->M OT:=za8 FI
def E6:Txt K mg->BS P w K mg base "_law_whole" 1 1 NG:=(za1 FI).1
def E7:∀i:Int,NG [.int i]=.ok (.sh (.bl true)):=(za1 FI).2
def EB:∃F:List D->M OT,(∀ {P w K mg base},Txt K mg->BS P w K mg base "_law_is_cost" 2 1 F)/\(∀a b:Int,F [.tup [.int a,.int b]]=.ok (.sh (.bl true))):=by
 refine⟨_,λ T=>AD (k:=1) T.O9 Nk _ (λ f B2 A outer s H E hr=>(A3 (B5 (DW.dt (DM (C2 (BG (c:=true) (DD (Fp _) rfl T.AM rfl T.K3 (by decide +kernel) (A1 0 (pv 0))))) (CU (Hz (c:=true) (AL hr 16 (by decide)) (Dg rfl T.Fi (A1 0 (pv 0))) A5)))) (A6 (Aj (AY D6))) As) (A6 (Aj (AY (I0 (Ah (Aa A9.toXCall (E6 T) (hr.mono (by decide)) rfl (A2 (Ab (AL hr 16 (by decide)) (A1 0 (pv 0)) A5) A7) rfl)) (Kk (Ah (Aa A9.toXCall (E6 T) (hr.mono (by decide)) rfl (A2 (Ab (AL hr 16 (by decide)) (A1 0 (pv 0)) A5) A7) rfl))))))))),?_⟩;intro a b;have e0:AB ["_law_found"] [.tup [.int a,.int b]]=[some (.val (.tup [.int a,.int b]))]:=rfl;rw[e0];refine Bv ?_;have h1:=E7 a;have h2:=E7 b;have i0:AO (.tup [.int a,.int b]) (.int 0)=.ok (.int a):=rfl;have i1:AO (.tup [.int a,.int b]) (.int 1)=.ok (.int b):=rfl;apply wp_step
 ·rfl
 simp_arith[i0,i1,h1,h2,Gq];rfl
abbrev Ka:List D->M OT:=za8 EB
def NH:Txt K mg->BS P w K mg base "_law_is_cost" 2 1 Ka:=(za1 EB).1
def NI:∀a b:Int,Ka [.tup [.int a,.int b]]=.ok (.sh (.bl true)):=(za1 EB).2
def FJ:∃F:List D->M OT,(∀ {P w K mg base},Txt K mg->BS P w K mg base "_law_roads" 2 2 F)/\(∀(cells:List Int) (m:Nat),1<=m->m<=16->cells.length<=60->(∀c∈cells,Sm c)->∃rs:List Road,rs.length<=cells.length/\(∀r∈rs,Im m r)/\F [.lst (cells.map D.int),.int m]=.ok (.lst ((rs.map Bl).map .sh))):=by
 refine⟨_,λ T=>AD (k:=1) T.T4 Bg _ (λ f B2 A outer s H E hr=>(A3 (Bf 2 Bg.nd rfl (zb6 rfl) (Ia EI)) (A3 (BF A9.toXCall.own rfl (BE (c:=true) rfl T.Ck (Dg rfl T.Fi (A1 0 (pv 0)))) (B4 3 Bg.nd rfl (zb6 rfl)) (A3 (AG 4 Bg.nd rfl (zb6 rfl) (Ah (Aa A9.toXCall (Ez T) (hr.mono (by decide)) rfl (A2 (Ab (AL hr 16 (by decide)) (A1 0 (pv 0)) (A1 3 (pv 3))) (A2 (A1 3 (pv 3)) A7)) rfl))) (A3 (AG 5 Bg.nd rfl (zb6 rfl) (Ah (Aa A9.toXCall (FG T) (hr.mono (by decide)) rfl (A2 (Ab (AL hr 16 (by decide)) (A1 0 (pv 0)) (A1 3 (pv 3))) (A2 (A1 3 (pv 3)) A7)) rfl))) (A6 (B5 (Gn (DW.dt (Fo (Vm (c:=true) (A1 1 (pv 1)) A5) (Fo (Vm (c:=true) (Dg rfl T.Fi (A1 2 (pv 2))) A5) (EH (KU (c:=true) (AL hr 16 (by decide)) (B6 (A1 4 (pv 4)) A5) A5)))))) (A6 (Dh 2 (pv 2) (gM (oK (c:=true) (Ab (AL hr 16 (by decide)) (A1 2 (pv 2)) (B6 (Cz (A1 4 (pv 4)) A5) (Dg rfl T.Fi (A1 2 (pv 2))))))))) (A6 (B5 (Vm (c:=true) (A1 1 (pv 1)) A5) (A3 (AG 6 Bg.nd rfl (zb6 rfl) (B6 (Cz (A1 4 (pv 4)) A5) (A1 1 (pv 1)))) (A3 (AG 7 Bg.nd rfl (zb6 rfl) (B6 (BN (BN (A1 6 (pv 6)) A5) (B6 (Cz (A1 4 (pv 4)) A5) (YS (A1 1 (pv 1)) A5))) (A1 1 (pv 1)))) (A3 (AG 8 Bg.nd rfl (zb6 rfl) (Cz (A1 4 (pv 4)) A5)) (A3 (AG 9 Bg.nd rfl (zb6 rfl) (Ab (AL hr 16 (by decide)) (Fn (A2 Df (A2 A5 (A2 A5 (A2 A5 (A2 (B6 (A1 8 (pv 8)) A5) (A2 (B6 (A1 8 (pv 8)) A5) (A2 (A1 5 (pv 5)) (A2 (A1 5 (pv 5)) A7))))))))) (B6 (Cz (A1 4 (pv 4)) A5) A5))) (A6 (Dh 2 (pv 2) (AH (A2 (A1 6 (pv 6)) (A2 (A1 7 (pv 7)) (A2 (A1 9 (pv 9)) (A2 (Ab (AL hr 16 (by decide)) (Fn (A2 (B6 (A1 8 (pv 8)) A5) (A2 (A1 5 (pv 5)) A7))) (B6 (A1 4 (pv 4)) A5)) A7))))))))))) As))))))) (A6 (CV 2 (pv 2)))))),?_⟩;intro cells m bL aZ hl bq;have ht:=Qn;have e0:AB ["_law_cells","_law_many","_law_roads_here","_law_k","_law_mixed","_law_great_here","_law_one","_law_other","_law_small","_law_length_here"] [.lst (cells.map D.int),.int m]=[some (.val (.lst (cells.map D.int))),some (.val (.int m)),none,none,none,none,none,none,none,none]:=rfl;rw[e0];refine (λ h:∃t,_/\∃rs:List Road,t=.lst ((rs.map Bl).map .sh)/\rs.length<=cells.length/\(∀r∈rs,Im m r)=>by
  obtain⟨t,h1,rs,rfl,h2,h3⟩:=h;exact⟨rs,h2,h3,h1⟩) (Jd ?_)
 have hr:Q4 (.int ((cells.map D.int).length:Int))=.ok (BD 0 cells.length):=by rw[za2];exact Eh (by omega)
 apply wp_step
 ·rfl
 try simp only[zah,zac]
 refine C3 (I:=λ ρ=>∃(rs:List Road) (s3 s4 s5 s6 s7 s8 s9:Option Cl),ρ=[some (.val (.lst (cells.map D.int))),some (.val (.int m)),some (.own (rs.map Bl)),s3,s4,s5,s6,s7,s8,s9]/\rs.length<=cells.length/\∀r∈rs,Im m r) ?_ ?_
 ·simp_arith[hr];refine BH (λ i ρ=>i<=60/\∃(rs:List Road) (s3 s4 s5 s6 s7 s8 s9:Option Cl),ρ=[some (.val (.lst (cells.map D.int))),some (.val (.int m)),some (.own (rs.map Bl)),s3,s4,s5,s6,s7,s8,s9]/\rs.length<=i/\∀r∈rs,Im m r) ⟨by omega,[],none,none,none,none,none,none,none,rfl,by simp,λ r hr=>by cases hr⟩ ?_ ?_
  ·rintro i d ρ hd ⟨_,rs,s3,s4,s5,s6,s7,s8,s9,rfl,ci,Ar⟩;obtain⟨aI,hi⟩:=BO hd;rw[Int.zero_add] at aI;subst aI;have hq:cells[i]?=some cells[i]:=zaa hi;have ak:=bq _ (zdd hi);have x1:AO (.lst (cells.map D.int)) (.int (i:Int))=.ok (.int cells[i]):=JH (by omega) (by rw[zb4];exact hq);obtain⟨v,v0,hv⟩:=EA cells[i] i (by omega) (by omega);obtain⟨g,g0,hg⟩:=FH cells[i] i ak (by omega) (by omega);have cj:(rs.map Bl).length<1000:=by rw[za2];omega
   refine⟨_,rfl,?_⟩;apply wp_step
   ·simp_arith[x1,hv];rfl
   try simp only[zah,zac]
   apply wp_step
   ·simp_arith[x1,hg];rfl
   try simp only[zah,zac]
   have d7:F5 (.int v) (.int 7)=.ok (.int (v / 7)):=BZ ⟨by decide,by decide⟩;have q7:CP (.int v) (.int 7)=.ok (.int (v%7)):=Az (by decide);by_cases hm:(1:Int)<(m:Int)
   ·have gy:(0:Int)<(m:Int):=by omega
    have j7:(0:Int)<(m:Int)-1:=by omega
    by_cases hz:(0:Int)<((rs.map Bl).length:Int)/\v%7=3
    ·have hlen:0<(rs.map Bl).length:=by omega
     obtain⟨p1,y,hy,p2⟩:=cB hlen (show 0<=v / 7 by omega);obtain⟨r,bg,rfl⟩:=zau.mp hy;refine B9 (ρ':=[some (.val (.lst (cells.map D.int))),some (.val (.int m)),some (.own ((rs++[r]).map Bl)),some (.val (.int i)),some (.val (.int v)),some (.val (.int g)),s6,s7,s8,s9]) ?_ ⟨by omega,rs++[r],_,_,_,_,_,_,_,rfl,by simp;omega,λ r2 j8=>by
      rcases zaq.mp j8 with h|h
      ·exact Ar r2 h
      ·rw[za7.mp h];exact Ar r bg⟩
     simp_arith[decide_eq_true hm,decide_eq_true hz.1,q7,decide_eq_true hz.2,d7,p1,p2,if_pos cj,if_true];rw[zaz];rfl
    ·obtain⟨o,ho⟩:∃o,o=v / 7%(m:Int):=⟨_,rfl⟩;obtain⟨o',aJ⟩:∃o',o'=(o+1+v / 112%((m:Int)-1))%(m:Int):=⟨_,rfl⟩;have o0:0<=o:=by rw[ho];exact zci _ (by omega)
     have o1:o<m:=by rw[ho];exact zc8 _ gy
     have p0:0<=o':=by rw[aJ];exact zci _ (by omega)
     have p1:o'<m:=by rw[aJ];exact zc8 _ gy
     have s0:0<=v / 112%((m:Int)-1):=zci _ (by omega);have s1:v / 112%((m:Int)-1)<(m:Int)-1:=zc8 _ j7;have de:o≠o':=by
      have:=oS (a:=o) (s:=1+v / 112%((m:Int)-1)) (m:=m) o0 o1 (by omega) (by omega);rw[aJ,zdo];exact λ z=>this z.symm
     have j9:F5 (.int v) (.int 112)=.ok (.int (v / 112)):=BZ ⟨by decide,by decide⟩;have ee:F5 (.int v) (.int 8064)=.ok (.int (v / 8064)):=BZ ⟨by decide,by decide⟩;have ef:F5 (.int v) (.int 1008)=.ok (.int (v / 1008)):=BZ ⟨by decide,by decide⟩;have q1:CP (.int (v / 7)) (.int (m:Int))=.ok (.int o):=by rw[ho];exact Az gy
     have q2:CP (.int (v / 112)) (.int ((m:Int)-1))=.ok (.int (v / 112%((m:Int)-1))):=Az j7;have q3:CP (.int (o+1+v / 112%((m:Int)-1))) (.int (m:Int))=.ok (.int o'):=by rw[aJ];exact Az gy
     have q4:CP (.int (v / 8064)) (.int 3)=.ok (.int (v / 8064%3)):=Az (by decide);have q5:CP (.int (v / 8064)) (.int 100)=.ok (.int (v / 8064%100)):=Az (by decide);have q6:CP (.int (v / 1008)) (.int 8)=.ok (.int (v / 1008%8)):=Az (by decide);have q8:CP (.int (v / 8064)) (.int 5)=.ok (.int (v / 8064%5)):=Az (by decide);have q9:CP (.int v) (.int 2)=.ok (.int (v%2)):=Az (by decide);obtain⟨l,hpl,l0⟩:=pU (a:=v / 8064%3) (b:=v / 8064%100) (g:=g) (i:=v / 1008%8) (by omega) (by omega) g0 (by omega) (by omega);obtain⟨w,vh,w0⟩:=pV (a:=v / 8064%5) (b:=g) (i:=v%2) (by omega) g0 (by omega) (by omega);have vi:D.tup [.int o,.int o',Gv l,.int w]=Bl ⟨o,o',l,w⟩:=rfl;rcases Classical.em ((0:Int)<((rs.map Bl).length:Int)) with bp|bp
     ·have jm:¬ v%7=3:=λ z=>hz ⟨bp,z⟩;simp_arith[decide_eq_true hm,decide_eq_true bp,q7,decide_eq_false jm,zas,if_false,if_true];apply wp_step
      ·simp_arith[d7,q1];rfl
      apply wp_step
      ·simp_arith[j9,q2,q3];rfl
      apply wp_step
      ·simp_arith[ee];rfl
      apply wp_step
      ·simp_arith[q4,q5,ef,q6,hpl];rfl
      refine B9 (ρ':=[some (.val (.lst (cells.map D.int))),some (.val (.int m)),some (.own ((rs++[(⟨o,o',l,w⟩:Road)]).map Bl)),some (.val (.int i)),some (.val (.int v)),some (.val (.int g)),some (.val (.int o)),some (.val (.int o')),some (.val (.int (v / 8064))),some (.val (Gv l))]) (by simp_arith[q8,q9,vh,vi,if_pos cj,zaz,za6,zd7]) ⟨by omega,_,_,_,_,_,_,_,_,rfl,by simp;omega,λ r2 j8=>by
       rcases zaq.mp j8 with h|h
       ·exact Ar r2 h
       ·rw[za7.mp h];exact⟨o0,o1,p0,p1,de,l0,w0.1,w0.2⟩⟩
     ·simp_arith[decide_eq_true hm,decide_eq_false bp,zas,if_false,if_true];apply wp_step
      ·simp_arith[d7,q1];rfl
      apply wp_step
      ·simp_arith[j9,q2,q3];rfl
      apply wp_step
      ·simp_arith[ee];rfl
      apply wp_step
      ·simp_arith[q4,q5,ef,q6,hpl];rfl
      refine B9 (ρ':=[some (.val (.lst (cells.map D.int))),some (.val (.int m)),some (.own ((rs++[(⟨o,o',l,w⟩:Road)]).map Bl)),some (.val (.int i)),some (.val (.int v)),some (.val (.int g)),some (.val (.int o)),some (.val (.int o')),some (.val (.int (v / 8064))),some (.val (Gv l))]) (by simp_arith[q8,q9,vh,vi,if_pos cj,zaz,za6,zd7]) ⟨by omega,_,_,_,_,_,_,_,_,rfl,by simp;omega,λ r2 j8=>by
       rcases zaq.mp j8 with h|h
       ·exact Ar r2 h
       ·rw[za7.mp h];exact⟨o0,o1,p0,p1,de,l0,w0.1,w0.2⟩⟩
   ·refine B9 (ρ':=_) (by simp_arith[decide_eq_false hm];rfl) ⟨by omega,rs,_,_,_,_,_,_,_,rfl,by omega,Ar⟩
  ·rintro ρ ⟨_,rs,s3,s4,s5,s6,s7,s8,s9,rfl,ci,Ar⟩;rw[Bc] at ci;exact⟨rs,s3,s4,s5,s6,s7,s8,s9,rfl,ci,Ar⟩
 ·rintro ρ ⟨rs,s3,s4,s5,s6,s7,s8,s9,rfl,ci,Ar⟩;exact⟨_,rfl,rs,rfl,ci,Ar⟩
abbrev NJ:List D->M OT:=za8 FJ
def QW:Txt K mg->BS P w K mg base "_law_roads" 2 2 NJ:=(za1 FJ).1
def QX:∀(cells:List Int) (m:Nat),1<=m->m<=16->cells.length<=60->(∀c∈cells,Sm c)->∃rs:List Road,rs.length<=cells.length/\(∀r∈rs,Im m r)/\NJ [.lst (cells.map D.int),.int m]=.ok (.lst ((rs.map Bl).map .sh)):=(za1 FJ).2
def FK:∃F:List D->M OT,(∀ {P w K mg base},Txt K mg->BS P w K mg base "_law_order" 2 2 F)/\(∀(c:Int) (m:Nat),m<=60->∃L:List Int,L.Perm (AI m)/\F [.int c,.int m]=.ok (.lst ((L.map D.int).map .sh))):=by
 refine⟨_,λ T=>AD (k:=1) T.T5 Fx _ (λ f B2 A outer s H E hr=>(A3 (Bf 2 Fx.nd rfl (zb6 rfl) (Ia EI)) (A3 (BF A9.toXCall.own rfl (BE (c:=true) rfl T.Ck (A1 1 (pv 1))) (B4 3 Fx.nd rfl (zb6 rfl)) (A6 (X7 2 (pv 2) (B6 (Ah (Aa A9.toXCall (Ez T) (hr.mono (by decide)) rfl (A2 (A1 0 (pv 0)) (A2 (BN A5 (A1 3 (pv 3))) A7)) rfl)) (BN (A1 3 (pv 3)) A5)) (A1 3 (pv 3))))) (A6 (CV 2 (pv 2)))))),?_⟩;intro c m hm;have e0:AB ["_law_cell","_law_many","_law_order_here","_law_place"] [.int c,.int m]=[some (.val (.int c)),some (.val (.int m)),none,none]:=rfl;rw[e0];refine (λ h:∃t,_/\∃L:List Int,t=OT.lst ((L.map D.int).map .sh)/\L.Perm (AI m)=>by
  obtain⟨t,h1,L,rfl,h2⟩:=h;exact⟨L,h2,h1⟩) (Jd ?_)
 have hr:=Eh (n:=m) (by omega);apply wp_step
 ·rfl
 try simp only[zah,zac]
 refine C3 (I:=λ ρ=>∃(L:List Int) (s3:Option Cl),ρ=[some (.val (.int c)),some (.val (.int m)),some (.own (L.map D.int)),s3]/\L.Perm (AI m)) ?_ ?_
 ·simp_arith[hr];refine BH (λ i ρ=>i<=m/\∃(L:List Int) (s3:Option Cl),ρ=[some (.val (.int c)),some (.val (.int m)),some (.own (L.map D.int)),s3]/\L.Perm (AI i)) ⟨zb0 _,[],none,rfl,.refl _⟩ ?_ ?_
  ·rintro i d ρ hd ⟨_,L,s3,rfl,hL⟩;obtain⟨aI,hi⟩:=BO hd;rw[Int.zero_add] at aI;subst aI;have hlen:=JK hL;refine⟨_,rfl,?_⟩;obtain⟨v,v0,hv⟩:=EA c (40+i) (by omega) (by omega);have bL:CP (.int v) (.int ((i:Int)+1))=.ok (.int (v%((i:Int)+1))):=Az (by omega);have b0:0<=v%((i:Int)+1):=zci _ (by omega);have b1:v%((i:Int)+1)<(i:Int)+1:=zc8 _ (by omega);refine B9 (ρ':=[some (.val (.int c)),some (.val (.int m)),some (.own ((L.take (v%((i:Int)+1)).toNat++(i:Int)::L.drop (v%((i:Int)+1)).toNat).map D.int)),some (.val (.int i))]) ?_ ⟨by omega,_,_,rfl,Xz hL _⟩;simp_arith[hv,bL];rw[if_pos ⟨b0,by rw[za2];omega,by rw[za2];omega⟩];simp only[zaz,za6,List.map_take,List.map_drop];rfl
  ·rintro ρ ⟨_,L,s3,rfl,hL⟩;exact⟨L,s3,rfl,by rw[Bc] at hL;exact hL⟩
 ·rintro ρ ⟨L,s3,rfl,hL⟩;exact⟨_,rfl,L,rfl,hL⟩
abbrev NK:List D->M OT:=za8 FK
def QY:Txt K mg->BS P w K mg base "_law_order" 2 2 NK:=(za1 FK).1
def QZ:∀(c:Int) (m:Nat),m<=60->∃L:List Int,L.Perm (AI m)/\NK [.int c,.int m]=.ok (.lst ((L.map D.int).map .sh)):=(za1 FK).2
def FL:∃F:List D->M OT,(∀ {P w K mg base},Txt K mg->BS P w K mg base "_law_added" 1 2 F)/\(∀a b:Co,F [cst a,cst b]=.ok (.sh (cst (Ao a b)))):=by
 refine⟨_,λ T=>AD (k:=0) T.T6 QK _ (λ f B2 A outer s H E hr=>(A3 (B5 (DW.dt (DM (HZ (c:=true) (A1 0 (pv 0))) (CU (HZ (c:=true) (A1 1 (pv 1)))))) (A6 (Aj (AY Df))) As) (A6 (Aj (AY (AH (A2 (BN (Ab (AL hr 16 (by decide)) (A1 0 (pv 0)) A5) (Ab (AL hr 16 (by decide)) (A1 1 (pv 1)) A5)) (A2 (BN (Ab (AL hr 16 (by decide)) (A1 0 (pv 0)) A5) (Ab (AL hr 16 (by decide)) (A1 1 (pv 1)) A5)) A7)))))))),?_⟩;intro a b;rcases a with _|⟨a1,a2⟩<;>rcases b with _|⟨b1,b2⟩<;>rfl
abbrev NL:List D->M OT:=za8 FL
def R3:Txt K mg->BS P w K mg base "_law_added" 1 2 NL:=(za1 FL).1
def R4:∀a b:Co,NL [cst a,cst b]=.ok (.sh (cst (Ao a b))):=(za1 FL).2
def FN:∃F:List D->M OT,(∀ {P w K mg base},Txt K mg->BS P w K mg base "_law_least" 1 1 F)/\(∀cs:List Co,cs.length<=1000->F [.lst (cs.map cst)]=.ok (.sh (cst (Fv cs)))):=by
 refine⟨_,λ T=>AD (k:=0) T.T7 QL _ (λ f B2 A outer s H E hr=>(A6 (Aj (AY (Vp rfl (AL hr 1 (by decide)) rfl T.dU (Ah (CC (NB:=["_law_cost"]) [none] rfl (AW (A1 0 (pv 0))) rfl rfl (Bd 0 (by decide) rfl rfl rfl) (λ _ _ _ _=>DY (DU (c:=true) (A1 0 (pv 0)))) (λ _ _ _ _=>(A1 0 (pv 0))))) Df))))),?_⟩;intro cs hc;have e0:∀x:D,AB ["_law_some"] [x]=[some (.val x)]:=λ x=>rfl;rw[e0];refine Bv ?_;have hl:(cs.map cst).length<=1000:=by rw[za2];exact hc
 have xL:=Sf cs;have q0:=VZ cs;simp_arith[if_pos hl];rw[Gu];simp_arith[q0];rfl
abbrev FO:List D->M OT:=za8 FN
def Kb:Txt K mg->BS P w K mg base "_law_least" 1 1 FO:=(za1 FN).1
def Kc:∀cs:List Co,cs.length<=1000->FO [.lst (cs.map cst)]=.ok (.sh (cst (Fv cs))):=(za1 FN).2
def GO:∃F:List D->M OT,(∀ {P w K mg base},Txt K mg->BS P w K mg base "_law_open" 1 1 F)/\(∀r:Road,F [Bl r]=.ok (.sh (cst (Cd r)))):=by
 refine⟨_,λ T=>AD (k:=0) T.UO SR _ (λ f B2 A outer s H E hr=>(A3 (B5 (HZ (c:=true) (Ab (AL hr 16 (by decide)) (A1 0 (pv 0)) A5)) (A6 (Aj (AY Df))) As) (A6 (Aj (AY (AH (A2 (Ab (AL hr 16 (by decide)) (A1 0 (pv 0)) A5) (A2 A5 A7)))))))),?_⟩;intro r;obtain⟨a,b,l,w⟩:=r;cases l<;>rfl
abbrev Pt:List D->M OT:=za8 GO
def Ti:Txt K mg->BS P w K mg base "_law_open" 1 1 Pt:=(za1 GO).1
def Tj:∀r:Road,Pt [Bl r]=.ok (.sh (cst (Cd r))):=(za1 GO).2
def FQ:∃F:List D->M OT,(∀ {P w K mg base},Txt K mg->BS P w K mg base "_law_costs" 2 2 F)/\(∀(m:Nat) (rs:List Road),m<=900->rs.length<=900->(∀r∈rs,G6 m r)->∃ac:List (List Co),Ql m ac/\(∀x y:Int,0<=x->x<m->0<=y->y<m->BM rs x y (at2 ac x y))/\∃t,F [.lst (rs.map Bl),.int m]=.ok t/\er t=.lst ((AR ac).map D.lst)):=by
 refine⟨_,λ T=>AD (k:=1) T.T8 Bx _ (λ f B2 A outer s H E hr=>(A3 (gN 2 Bx.nd rfl (zb6 rfl)) (A3 (BF A9.toXCall.own rfl (BE (c:=true) rfl T.Ck (A1 1 (pv 1))) (B4 3 Bx.nd rfl (zb6 rfl)) (A3 (Bf 5 Bx.nd rfl (zb6 rfl) (Ub Df (A1 1 (pv 1)))) (A3 (MA 5 (pv 5) (AH (A2 A5 (A2 A5 A7))) (A1 3 (pv 3))) (A3 (BF A9.toXCall.own rfl (AW (A1 0 (pv 0))) (B4 6 Bx.nd rfl (zb6 rfl)) (A6 (B5 (KU (c:=true) (AL hr 16 (by decide)) (Ab (AL hr 16 (by decide)) (A1 6 (pv 6)) A5) (A1 3 (pv 3))) (A6 (MA 5 (pv 5) (Ah (DF (Aa A9.toXCall (Kb T) (hr.mono (by decide)) rfl (A2 (Fn (A2 (Ab (AL hr 16 (by decide)) (A1 5 (pv 5)) (Ab (AL hr 16 (by decide)) (A1 6 (pv 6)) A5)) (A2 (Ah (Aa A9.toXCall (Ti T) (hr.mono (by decide)) rfl (A2 (A1 6 (pv 6)) A7) rfl)) A7))) A7) rfl))) (Ab (AL hr 16 (by decide)) (A1 6 (pv 6)) A5))) As))) (A6 (gO 2 5 (pv 2) (pv 5))))))) (A3 (BF A9.toXCall.own rfl (BE (c:=true) rfl T.Ck (A1 1 (pv 1))) (B4 4 Bx.nd rfl (zb6 rfl)) (A6 (BF A9.toXCall.own rfl (BE (c:=true) rfl T.Ck (A1 1 (pv 1))) (B4 3 Bx.nd rfl (zb6 rfl)) (A6 (BF A9.toXCall.own rfl (BE (c:=true) rfl T.Ck (A1 1 (pv 1))) (B4 7 Bx.nd rfl (zb6 rfl)) (A6 (gU 2 (pv 2) (Ah (Aa A9.toXCall (Kb T) (hr.mono (by decide)) rfl (A2 (Fn (A2 (U6 2 (pv 2) (A1 3 (pv 3)) (A1 7 (pv 7))) (A2 (Ah (Aa A9.toXCall (R3 T) (hr.mono (by decide)) rfl (A2 (U6 2 (pv 2) (A1 3 (pv 3)) (A1 4 (pv 4))) (A2 (U6 2 (pv 2) (A1 4 (pv 4)) (A1 7 (pv 7))) A7)) rfl)) A7))) A7) rfl)) (A1 3 (pv 3)) (A1 7 (pv 7))))))))) (A6 (CV 2 (pv 2))))))),?_⟩;intro m rs hm ci Ar;have e0:AB ["_law_roads_here","_law_many","_law_costs_here","_law_u","_law_v","_law_row","_law_road","_law_w"] [.lst (rs.map Bl),.int m]=[some (.val (.lst (rs.map Bl))),some (.val (.int m)),none,none,none,none,none,none]:=rfl;rw[e0];refine (λ h:∃t,_/\∃ac:List (List Co),Ql m ac/\(∀x y:Int,0<=x->x<m->0<=y->y<m->BM rs x y (at2 ac x y))/\er t=.lst ((AR ac).map D.lst)=>by
  obtain⟨t,h1,ac,h2,h3,h4⟩:=h;exact⟨ac,h2,h3,t,h1,h4⟩) (Jd ?_)
 have di:=Eh (n:=m) (by omega);refine wp_step (ρ':=[some (.val (.lst (rs.map Bl))),some (.val (.int m)),some (.ow (.rows [])),none,none,none,none,none]) rfl ?_;refine C3 (I:=λ ρ=>∃(ac:List (List Co)) (s3 s5 s6:Option Cl),ρ=[some (.val (.lst (rs.map Bl))),some (.val (.int m)),some (.ow (.rows (AR ac))),s3,none,s5,s6,none]/\ac.length=m/\∀u:Nat,u<m->MX m rs u rs.length (ac.getD u [])) ?_ ?_
 ·simp_arith[di];refine BH (λ i ρ=>∃(ac:List (List Co)) (s3 s5 s6:Option Cl),ρ=[some (.val (.lst (rs.map Bl))),some (.val (.int m)),some (.ow (.rows (AR ac))),s3,none,s5,s6,none]/\ac.length=i/\∀u:Nat,u<i->MX m rs u rs.length (ac.getD u [])) ⟨[],none,none,none,rfl,rfl,λ u h=>by omega⟩ ?_ ?_
  ·rintro i d ρ hd ⟨ac,s3,s5,s6,rfl,bT,aY⟩;obtain⟨aI,hi⟩:=BO hd;rw[Int.zero_add] at aI;subst aI;refine⟨_,rfl,?_⟩;have bh:=MO (d:=.AE) (n:=m) (by omega);have cg:zai m D.AE=(zai m (none:Co)).map cst:=by rw[List.map_replicate];rfl
   rw[cg] at bh;apply wp_step
   ·simp_arith[bh];rfl
   try simp only[zah,zac]
   have aA:=JL (i:=5) (ρ:=[some (.val (.lst (rs.map Bl))),some (.val (.int m)),some (.ow (.rows (AR ac))),some (.val (.int i)),none,some (.own ((zai m (none:Co)).map cst)),s6,none]) (d:=.tup [.int 0,.int 0]) (p:=(i:Int)) rfl (by omega) (by rw[za2,zdj];omega);have aX:((zai m (none:Co)).map cst).set (i:Int).toNat (.tup [.int 0,.int 0])=((zai m none).set i (some (0,0))).map cst:=by rw[zb4,List.map_set];rfl
   rw[aX] at aA;apply wp_step
   ·simp_arith[aA];rfl
   try simp only[zah,zac]
   refine C3 (I:=λ ρ=>∃(R:List Co) (s6:Option Cl),ρ=[some (.val (.lst (rs.map Bl))),some (.val (.int m)),some (.ow (.rows (AR ac))),some (.val (.int i)),none,some (.own (R.map cst)),s6,none]/\MX m rs i rs.length R) ?_ ?_
   ·simp_arith[];refine BH (λ j ρ=>∃(R:List Co) (s6:Option Cl),ρ=[some (.val (.lst (rs.map Bl))),some (.val (.int m)),some (.ow (.rows (AR ac))),some (.val (.int i)),none,some (.own (R.map cst)),s6,none]/\MX m rs i j R) ⟨_,s6,rfl,Xu rs hi⟩ ?_ ?_
    ·rintro j d ρ hd ⟨R,s6,rfl,g⟩;obtain⟨r,hq,rfl⟩:=BU hd;have hr:=zam hq;have ok:=Ar r hr;have r0:AO (Bl r) (.int 0)=.ok (.int r.a):=rfl;have r1:AO (Bl r) (.int 1)=.ok (.int r.b):=rfl;have bO:r.b<R.length:=by rw[g.len];exact ok.b1
     have x1:AO (.lst (R.map cst)) (.int r.b)=.ok (cst (atC R r.b)):=Ce ok.b0 bO;have yo:=Tj r;have hle:FO [.lst [cst (atC R r.b),cst (Cd r)]]=.ok (.sh (cst (DZ (atC R r.b) (Cd r)))):=Kc [atC R r.b,Cd r] (by simp);refine⟨_,rfl,?_⟩;by_cases hu:r.a=(i:Int)
     ·have aA:=JL (i:=5) (ρ:=[some (.val (.lst (rs.map Bl))),some (.val (.int m)),some (.ow (.rows (AR ac))),some (.val (.int i)),none,some (.own (R.map cst)),some (.val (Bl r)),none]) (d:=cst (DZ (atC R r.b) (Cd r))) (p:=r.b) rfl ok.b0 (by rw[za2];exact bO);have aX:(R.map cst).set r.b.toNat (cst (DZ (atC R r.b) (Cd r)))=(R.set r.b.toNat (DZ (atC R r.b) (Cd r))).map cst:=by rw[List.map_set]
      rw[aX] at aA;refine B9 (ρ':=[some (.val (.lst (rs.map Bl))),some (.val (.int m)),some (.ow (.rows (AR ac))),some (.val (.int i)),none,some (.own ((R.set r.b.toNat (DZ (atC R r.b) (Cd r))).map cst)),some (.val (Bl r)),none]) (by simp_arith[r0,r1,decide_eq_true hu,x1,yo,hle,aA];rfl) ⟨_,_,rfl,ZT g hq hu Ar⟩
     ·refine B9 (ρ':=_) (by simp_arith[r0,decide_eq_false hu];rfl) ⟨_,_,rfl,ZS g hq hu⟩
    ·rintro ρ ⟨R,s6,rfl,g⟩;rw[za2] at g;exact⟨R,s6,rfl,g⟩
   ·rintro ρ ⟨R,s6,rfl,g⟩;have hl:(AR ac).length<1000/\2≠5:=⟨by unfold AR;rw[za2];omega,by decide⟩;refine B9 (ρ':=[some (.val (.lst (rs.map Bl))),some (.val (.int m)),some (.ow (.rows (AR (ac++[R])))),some (.val (.int i)),none,none,s6,none]) ?_ ⟨_,_,_,_,rfl,by simp[bT],λ u hu=>?_⟩
    ·simp only[Zc,zda,zb7,if_pos hl,zah,zac];unfold AR;rw[zaz];rfl
    ·by_cases h:u=i
     ·subst h;have e:(ac++[R]).getD u []=R:=by rw[zal,zcu (by omega)];simp[bT]
      rw[e];exact g
     ·have e:(ac++[R]).getD u []=ac.getD u []:=by rw[zal,zc0 (by omega),zal]
      rw[e];exact aY u (by omega)
  ·rintro ρ ⟨ac,s3,s5,s6,rfl,bT,aY⟩;rw[Bc] at bT aY;exact⟨ac,s3,s5,s6,rfl,bT,aY⟩
 rintro ρ ⟨ac,s3,s5,s6,rfl,bT,aY⟩;have hM:Ql m ac:=⟨bT,λ R hR=>by
  obtain⟨u,hu,e⟩:=List.getElem_of_mem hR;have:=(aY u (by omega)).len;rw[zal,zaa hu] at this;rw[<-e];exact this⟩
 have hF:=ZU hM Ar aY;refine C3 (I:=λ ρ=>∃(ac:List (List Co)) (s3 s4 s5 s6 s7:Option Cl),ρ=[some (.val (.lst (rs.map Bl))),some (.val (.int m)),some (.ow (.rows (AR ac))),s3,s4,s5,s6,s7]/\Ql m ac/\FW m m rs (at2 ac)) ?_ ?_
 ·simp_arith[di];refine BH (λ k ρ=>∃(ac:List (List Co)) (s3 s4 s5 s6 s7:Option Cl),ρ=[some (.val (.lst (rs.map Bl))),some (.val (.int m)),some (.ow (.rows (AR ac))),s3,s4,s5,s6,s7]/\Ql m ac/\FW m k rs (at2 ac)) ⟨ac,s3,none,s5,s6,none,rfl,hM,hF⟩ ?_ ?_
  ·rintro k d ρ hd ⟨aq,s3,s4,s5,s6,s7,rfl,yp,kc⟩;obtain⟨aI,hk⟩:=BO hd;rw[Int.zero_add] at aI;subst aI;refine⟨_,rfl,?_⟩;have k0:(0:Int)<=k:=by omega
   have k1:(k:Int)<m:=by omega
   have oc:=Si kc hk;have orr:=Sj kc hk;simp_arith[di];refine BH (λ u ρ=>∃(ac:List (List Co)) (s3 s5 s6 s7:Option Cl),ρ=[some (.val (.lst (rs.map Bl))),some (.val (.int m)),some (.ow (.rows (AR ac))),s3,some (.val (.int k)),s5,s6,s7]/\Ql m ac/\∀x y:Int,0<=x->x<m->0<=y->y<m->at2 ac x y=if x<u then over k (at2 aq) x y else at2 aq x y) ⟨aq,s3,s5,s6,s7,rfl,yp,λ x y h0 h1 h2 h3=>by rw[if_neg (by omega)]⟩ ?_ ?_
   ·rintro u d ρ hd ⟨b9,s3,s5,s6,s7,rfl,gz,mr⟩;obtain⟨aI,hu⟩:=BO hd;rw[Int.zero_add] at aI;subst aI;have u0:(0:Int)<=u:=by omega
    have u1:(u:Int)<m:=by omega
    refine⟨_,rfl,?_⟩;simp_arith[di];refine BH (λ w ρ=>∃(ac:List (List Co)) (s5 s6 s7:Option Cl),ρ=[some (.val (.lst (rs.map Bl))),some (.val (.int m)),some (.ow (.rows (AR ac))),some (.val (.int u)),some (.val (.int k)),s5,s6,s7]/\Ql m ac/\∀x y:Int,0<=x->x<m->0<=y->y<m->at2 ac x y=if x<u\/(x=u/\y<w) then over k (at2 aq) x y else at2 aq x y) ⟨b9,s5,s6,s7,rfl,gz,λ x y h0 h1 h2 h3=>by
     rw[mr x y h0 h1 h2 h3];by_cases h:x<u
     ·rw[if_pos h,if_pos (.inl h)]
     ·rw[if_neg h,if_neg (by omega)]⟩ ?_ ?_
    ·rintro w d ρ hd ⟨aM,s5,s6,s7,rfl,g7,g8⟩;obtain⟨aI,hw⟩:=BO hd;rw[Int.zero_add] at aI;subst aI;have w0:(0:Int)<=w:=by omega
     have w1:(w:Int)<m:=by omega
     have a1:at2 aM u w=at2 aq u w:=by rw[g8 u w u0 u1 w0 w1,if_neg (by omega)]
     have a2:at2 aM u k=at2 aq u k:=by
      rw[g8 u k u0 u1 k0 k1];split
      ·exact oc u
      ·rfl
     have a3:at2 aM k w=at2 aq k w:=by
      rw[g8 k w k0 k1 w0 w1];split
      ·exact orr w
      ·rfl
     obtain⟨yq,hP⟩:=g7.put u0 u1 w0 w1 (over k (at2 aq) u w);obtain⟨R0,hR0⟩:∃R0:Ac,R0=[some (.val (.lst (rs.map Bl))),some (.val (.int m)),some (.ow (.rows (AR aM))),some (.val (.int u)),some (.val (.int k)),s5,s6,some (.val (.int w))]:=⟨_,rfl⟩;have c1:=Up (ρ:=[some (.val (.lst (rs.map Bl))),some (.val (.int m)),some (.ow (.rows (AR aM))),some (.val (.int u)),some (.val (.int k)),s5,s6,some (.val (.int w))]) (i:=2) rfl g7 u0 u1 w0 w1;have c2:=Up (ρ:=[some (.val (.lst (rs.map Bl))),some (.val (.int m)),some (.ow (.rows (AR aM))),some (.val (.int u)),some (.val (.int k)),s5,s6,some (.val (.int w))]) (i:=2) rfl g7 u0 u1 k0 k1;have c3:=Up (ρ:=[some (.val (.lst (rs.map Bl))),some (.val (.int m)),some (.ow (.rows (AR aM))),some (.val (.int u)),some (.val (.int k)),s5,s6,some (.val (.int w))]) (i:=2) rfl g7 k0 k1 w0 w1;rw[a1] at c1;rw[a2] at c2;rw[a3] at c3;have rf:=R4 (at2 aq u k) (at2 aq k w);have hle:FO [.lst [cst (at2 aq u w),cst (Ao (at2 aq u k) (at2 aq k w))]]=.ok (.sh (cst (over k (at2 aq) u w))):=Kc [at2 aq u w,Ao (at2 aq u k) (at2 aq k w)] (by simp);have pj:=kB (ρ:=[some (.val (.lst (rs.map Bl))),some (.val (.int m)),some (.ow (.rows (AR aM))),some (.val (.int u)),some (.val (.int k)),s5,s6,some (.val (.int w))]) (i:=2) (v:=over k (at2 aq) u w) rfl g7 u0 u1 w0 w1;refine⟨_,rfl,?_⟩;refine B9 (ρ':=[some (.val (.lst (rs.map Bl))),some (.val (.int m)),some (.ow (.rows (AR (put2 aM u w (over k (at2 aq) u w))))),some (.val (.int u)),some (.val (.int k)),s5,s6,some (.val (.int w))]) (by simp_arith[c1,c2,c3,rf,hle,pj]) ⟨_,_,_,_,rfl,yq,λ x y h0 h1 h2 h3=>?_⟩;rw[hP x y h0 h2];by_cases h:x=u/\y=w
     ·rw[if_pos h,if_pos (by omega),h.1,h.2]
     ·rw[if_neg h,g8 x y h0 h1 h2 h3];by_cases h':x<u\/(x=u/\y<w)
      ·rw[if_pos h',if_pos (by omega)]
      ·rw[if_neg h',if_neg (by omega)]
    ·rintro ρ ⟨aM,s5,s6,s7,rfl,g7,g8⟩;rw[Bc] at g8;refine⟨aM,_,_,_,_,rfl,g7,λ x y h0 h1 h2 h3=>?_⟩;rw[g8 x y h0 h1 h2 h3];by_cases h:x<u\/(x=u/\y<m)
     ·rw[if_pos h,if_pos (by omega)]
     ·rw[if_neg h,if_neg (by omega)]
   ·rintro ρ ⟨b9,s3,s5,s6,s7,rfl,gz,mr⟩;rw[Bc] at mr;refine⟨b9,_,_,_,_,_,rfl,gz,(ZR kc hk).congr (by omega) Ar λ x y h0 h1 h2 h3=>?_⟩;rw[mr x y h0 h1 h2 h3,if_pos h1]
  ·rintro ρ ⟨b9,s3,s4,s5,s6,s7,rfl,gz,ir⟩;rw[Bc] at ir;exact⟨b9,s3,s4,s5,s6,s7,rfl,gz,ir⟩
 ·rintro ρ ⟨b9,s3,s4,s5,s6,s7,rfl,gz,ir⟩;refine⟨_,rfl,b9,gz,λ x y h0 h1 h2 h3=>pA ir Ar h0 h1 h2 h3,?_⟩;rw[er,Vk,zbq];congr 1;refine List.map_congr_left λ R _=>?_;dsimp only [Function.comp];rw[Ks]
abbrev NM:List D->M OT:=za8 FQ
def R5:Txt K mg->BS P w K mg base "_law_costs" 2 2 NM:=(za1 FQ).1
def R6:∀(m:Nat) (rs:List Road),m<=900->rs.length<=900->(∀r∈rs,G6 m r)->∃ac:List (List Co),Ql m ac/\(∀x y:Int,0<=x->x<m->0<=y->y<m->BM rs x y (at2 ac x y))/\∃t,NM [.lst (rs.map Bl),.int m]=.ok t/\er t=.lst ((AR ac).map D.lst):=(za1 FQ).2
def GP:∃F:List D->M OT,(∀ {P w K mg base},Txt K mg->BS P w K mg base "_law_near" 3 4 F)/\(∀(m:Nat) (T:List Co) (gs:List Int) (w:Int),T.length=m->m<=60->gs.length<=60->0<=w->(∀(g:Int) (c:Int×Int),0<=g->g<m->atC T g=some c->0<=c.2/\c.2<1000)->F [.lst (AN (atC T) m gs w),.lst (T.map cst),.lst (gs.map D.int),.int w]=.ok (.sh (.bl true))):=by
 refine⟨_,λ T=>AD (k:=2) T.UP EO _ (λ f B2 A outer s H E hr=>(A3 (Bf 4 EO.nd rfl (zb6 rfl) (Ia EI)) (A3 (BF A9.toXCall.own rfl (BE (c:=true) rfl T.Ck (Dg rfl T.Fi (A1 1 (pv 1)))) (B4 5 EO.nd rfl (zb6 rfl)) (A6 (B5 (DW.dt (Fo (Kr (c:=true) (AL hr 16 (by decide)) (A1 5 (pv 5)) (A1 2 (pv 2))) (EH (DU (c:=true) (Ab (AL hr 16 (by decide)) (A1 1 (pv 1)) (A1 5 (pv 5))))))) (A6 (Dh 4 (pv 4) (AH (A2 (Ab (AL hr 16 (by decide)) (A1 1 (pv 1)) (A1 5 (pv 5))) (A2 (A1 5 (pv 5)) A7))))) As))) (A3 (Bf 4 EO.nd rfl (zb6 rfl) (DF (Gs (Ah (Na rfl (AL hr 16 (by decide)) rfl T.K2 (A1 4 (pv 4)))) LG (GV (A1 3 (pv 3)))))) (A3 (B5 (Gn (DW.dt (DM (C2 (BG (c:=true) (DD (GU _) rfl T.AM rfl T.DJ (by decide +kernel) (A1 0 (pv 0))))) (CU (Hz (c:=true) (AL hr 16 (by decide)) (A1 0 (pv 0)) (A1 4 (pv 4))))))) (A6 (Aj (AY D6))) As) (A6 (Aj (AY (Q9 rfl rfl T.Ws (Ah (CC (NB:=["_law_row"]) [none] rfl (AW (A1 0 (pv 0))) rfl rfl (Bd 0 (by decide) rfl rfl rfl) (λ _ _ _ _=>DV) (λ _ _ _ _=>(I0 (DD (Fp _) rfl T.AM rfl T.K3 (by decide +kernel) (A1 0 (pv 0))) (I0 (Ah (Bq (Aa (AX rfl).toXCall (NH T) (hr.mono (by decide)) rfl (A2 (Ab (AL hr 16 (by decide)) (A1 0 (pv 0)) A5) A7) rfl))) (Kk (Ah (Bq (Aa (AX rfl).toXCall (E6 T) (hr.mono (by decide)) rfl (A2 (Ab (AL hr 16 (by decide)) (A1 0 (pv 0)) A5) A7) rfl)))))))))))))))))),?_⟩;intro m T gs w hT hm mq hw hc;have e0:AB ["_law_found","_law_costs_here","_law_goals","_law_room","_law_due","_law_goal"] [.lst (AN (atC T) m gs w),.lst (T.map cst),.lst (gs.map D.int),.int w]=[some (.val (.lst (AN (atC T) m gs w))),some (.val (.lst (T.map cst))),some (.val (.lst (gs.map D.int))),some (.val (.int w)),none,none]:=rfl;rw[e0];refine Bv ?_;refine wp_step (ρ':=[some (.val (.lst (AN (atC T) m gs w))),some (.val (.lst (T.map cst))),some (.val (.lst (gs.map D.int))),some (.val (.int w)),some (.own []),none]) (by simp_arith[];try rfl) ?_;have hr:Q4 (.int ((T.map cst).length:Int))=.ok (BD 0 m):=by rw[za2,hT];exact Eh (by omega)
 refine C3 (I:=λ ρ=>∃(o5:Option D),ρ=[some (.val (.lst (AN (atC T) m gs w))),some (.val (.lst (T.map cst))),some (.val (.lst (gs.map D.int))),some (.val (.int w)),some (.own ((Cq (atC T) (AS m gs)).map BI)),vO o5]) ?_ ?_
 ·simp_arith[hr];refine BH (λ i ρ=>∃(o5:Option D),ρ=[some (.val (.lst (AN (atC T) m gs w))),some (.val (.lst (T.map cst))),some (.val (.lst (gs.map D.int))),some (.val (.int w)),some (.own ((Cq (atC T) (AS i gs)).map BI)),vO o5]) ⟨none,rfl⟩ ?_ ?_
  ·rintro i d ρ hd ⟨o5,rfl⟩;obtain⟨aI,hi⟩:=BO hd;rw[Int.zero_add] at aI;subst aI;refine⟨_,rfl,?_⟩;have x1:AO (.lst (T.map cst)) (.int (i:Int))=.ok (cst (atC T i)):=Ce (by omega) (by omega);have aE:AS (i+1) gs=AS i gs++(if (i:Int)∈gs then [(i:Int)] else []):=by
    unfold AS AI;rw[List.range_succ,zaz,List.filter_append];congr 1;by_cases hg:(i:Int)∈gs<;>simp[hg]
   have hlen:((Cq (atC T) (AS i gs)).map BI).length<1000:=by
    have:=((Ff (C:=atC T) (gs:=AS i gs)).trans List.filter_sublist).length_le;rw[za2,BV] at this;rw[za2];omega
   by_cases hg:(i:Int)∈gs
   ·have mt:gs.contains (i:Int)=true:=by simpa using hg
    rw[if_pos hg] at aE;cases cm:atC T i with
    |none =>
     rw[cm] at x1;have e1:Cq (atC T) (AS (i+1) gs)=Cq (atC T) (AS i gs):=by
      rw[aE];unfold Cq;rw[List.filterMap_append];simp[cm]
     refine B9 (ρ':=[some (.val (.lst (AN (atC T) m gs w))),some (.val (.lst (T.map cst))),some (.val (.lst (gs.map D.int))),some (.val (.int w)),some (.own ((Cq (atC T) (AS i gs)).map BI)),some (.val (.int (i:Int)))]) (by
      have x2:C1 (cst none)=true:=rfl;simp_arith[x1,x2,mt,if_true];try rfl) ⟨some (.int i),by rw[e1];rfl⟩
    |some c =>
     rw[cm] at x1;have e1:Cq (atC T) (AS (i+1) gs)=Cq (atC T) (AS i gs)++[(c.1*1000+c.2,(i:Int))]:=by
      rw[aE];unfold Cq;rw[List.filterMap_append];simp[cm]
     have e2:=SI (g:=(i:Int)) (hc i c (by omega) (by omega) cm);refine B9 (ρ':=[some (.val (.lst (AN (atC T) m gs w))),some (.val (.lst (T.map cst))),some (.val (.lst (gs.map D.int))),some (.val (.int w)),some (.own ((Cq (atC T) (AS i gs)).map BI++[D.tup [cst (some c),.int i]])),some (.val (.int (i:Int)))]) (by
      have x2:C1 (cst (some c))=false:=rfl;simp_arith[x1,x2,mt,if_true,if_pos hlen];try rfl) ⟨some (.int i),by rw[e1,e2,zaz];rfl⟩
   ·have mt:gs.contains (i:Int)=false:=by simpa using hg
    rw[if_neg hg,zbk] at aE;refine B9 (ρ':=[some (.val (.lst (AN (atC T) m gs w))),some (.val (.lst (T.map cst))),some (.val (.lst (gs.map D.int))),some (.val (.int w)),some (.own ((Cq (atC T) (AS i gs)).map BI)),some (.val (.int (i:Int)))]) (by
     simp_arith[x1,mt,zas,if_false];try rfl) ⟨some (.int i),by rw[aE];rfl⟩
  ·rintro ρ ⟨o5,rfl⟩;rw[Bc];exact⟨o5,rfl⟩
 rintro ρ ⟨o5,rfl⟩;obtain⟨n1,n2,n3⟩:=SH (gs:=gs) (by omega) hc;have h2:=Wn n1 n2 n3;have yr:RS (.ok (.lst ((AN (atC T) m gs w).map .sh)))=.ok (.lst ((AN (atC T) m gs w).map .sh)):=JP λ d hd=>by
  obtain⟨q,rfl⟩:=KC hd;rfl
 have e4:((HE (Cq (atC T) (AS m gs))).map BI).take w.toNat=AN (atC T) m gs w:=by unfold AN;rw[List.map_take]
 refine wp_step (ρ':=[some (.val (.lst (AN (atC T) m gs w))),some (.val (.lst (T.map cst))),some (.val (.lst (gs.map D.int))),some (.val (.int w)),some (.own (AN (atC T) m gs w)),vO o5]) (by simp_arith[h2,dJ _ hw,e4,yr];try rfl) ?_;have ae:YU 16 (.lst (AN (atC T) m gs w)) (.lst (AN (atC T) m gs w))=.ok (.bl false):=My (Z7 (n:=15) λ d hd=>by
  obtain⟨q,rfl⟩:=KC hd;exact U4 (n:=14) (GY (U4 (n:=13) (GY (ET _) (GY (ET _) λ _ z=>nomatch z))) (GY (ET _) λ _ z=>nomatch z)))
 refine wp_step (ρ':=[some (.val (.lst (AN (atC T) m gs w))),some (.val (.lst (T.map cst))),some (.val (.lst (gs.map D.int))),some (.val (.int w)),some (.own (AN (atC T) m gs w)),vO o5]) (by simp_arith[ae];try rfl) ?_;have hl:(AN (atC T) m gs w).length<=1000:=by have:=Pe (C:=atC T) (m:=m) (gs:=gs) (w:=w);omega
 simp_arith[if_pos hl];rw[X0 (λ _=>.bl true) _ (λ d hd=>by
  obtain⟨q,rfl⟩:=KC hd;refine⟨_,rfl,rfl,?_⟩;have x1:AO (BI q) (.int 0)=.ok (.tup [.int (q.1 / 1000),.int (q.1%1000)]):=rfl;have x2:AO (BI q) (.int 1)=.ok (.int q.2):=rfl;have x3:HA "tuple" (BI q)=.ok (.bl true):=rfl;simp_arith[x1,x2,x3,NI,E7];try rfl)]
 have e5:(AN (atC T) m gs w).map (λ _=>D.bl true)=((AN (atC T) m gs w).map λ _=>true).map D.bl:=by rw[zbq];rfl
 simp_arith[e5];show OT.sh (D.bl _)=OT.sh (D.bl true);congr 2;simp
abbrev Pu:List D->M OT:=za8 GP
def Lk:Txt K mg->BS P w K mg base "_law_near" 3 4 Pu:=(za1 GP).1
def Tn:∀(m:Nat) (T:List Co) (gs:List Int) (w:Int),T.length=m->m<=60->gs.length<=60->0<=w->(∀(g:Int) (c:Int×Int),0<=g->g<m->atC T g=some c->0<=c.2/\c.2<1000)->Pu [.lst (AN (atC T) m gs w),.lst (T.map cst),.lst (gs.map D.int),.int w]=.ok (.sh (.bl true)):=(za1 GP).2
def F3:∃F:List D->M OT,(∀ {P w K mg base},Txt K mg->BS P w K mg base "_law_length" 2 2 F)/\(∀(m:Nat) (T:List Co) (c:Int),T.length=m->1<=m->m<=60->Sm c->∃v:Int,F [.lst (T.map cst),.int c]=.ok (.sh (.int v))):=by
 refine⟨_,λ T=>AD (k:=1) T.QQ EY _ (λ f B2 A outer s H E hr=>(A3 (AG 2 EY.nd rfl (zb6 rfl) (Ah (Aa A9.toXCall (Ez T) (hr.mono (by decide)) rfl (A2 (A1 1 (pv 1)) (A2 A5 A7)) rfl))) (A3 (AG 3 EY.nd rfl (zb6 rfl) (Ab (AL hr 16 (by decide)) (A1 0 (pv 0)) (B6 (Cz (A1 2 (pv 2)) A5) (Dg rfl T.Fi (A1 0 (pv 0)))))) (A3 (B5 (DW.dt (Fo (kX (c:=true) (B6 (A1 2 (pv 2)) A5) A5) (EH (DU (c:=true) (A1 3 (pv 3)))))) (A6 (Aj (AY (gY rfl rfl T.uA A5 (YS (BN (Ab (AL hr 16 (by decide)) (A1 3 (pv 3)) A5) (B6 (A1 2 (pv 2)) A5)) A5))))) As) (A6 (Aj (AY (Ab (AL hr 16 (by decide)) (Fn (A2 (B6 (Cz (A1 2 (pv 2)) A5) A5) (A2 (Ah (Aa A9.toXCall (FG T) (hr.mono (by decide)) rfl (A2 (A1 1 (pv 1)) (A2 A5 A7)) rfl)) A7))) (B6 (A1 2 (pv 2)) A5))))))))),?_⟩;intro m T c hT bL hm a9;have e0:AB ["_law_costs_here","_law_cell","_law_mixed","_law_cost"] [.lst (T.map cst),.int c]=[some (.val (.lst (T.map cst))),some (.val (.int c)),none,none]:=rfl;rw[e0];obtain⟨v,v0,hv⟩:=EA c 60 (by decide) (by decide);obtain⟨g,g0,hg⟩:=FH c 61 a9 (by decide) (by decide);have q1:F5 (.int v) (.int 5)=.ok (.int (v / 5)):=BZ ⟨by decide,by decide⟩;have q2:CP (.int (v / 5)) (.int ((T.map cst).length:Int))=.ok (.int (v / 5%m)):=by rw[za2,hT];exact Az (by omega)
 have q3:CP (.int v) (.int 5)=.ok (.int (v%5)):=Az (by decide);have q4:CP (.int (v / 5)) (.int 7)=.ok (.int (v / 5%7)):=Az (by decide);have q5:CP (.int v) (.int 2)=.ok (.int (v%2)):=Az (by decide);have n0:=zci (v / 5) (b:=(m:Int)) (by omega);have n1:=zc8 (v / 5) (b:=(m:Int)) (by omega);have x1:AO (.lst (T.map cst)) (.int (v / 5%m))=.ok (cst (atC T (v / 5%m))):=Ce n0 (by omega);have key:∀mm,WP mm (λ _=>∃w:Int,OT.sh .AE=.sh (.int w)) (wZ λ t=>∃w:Int,t=.sh (.int w)) (λ _=>False)->∃w:Int,RU mm=.ok (.sh (.int w)):=λ mm h=>by
  obtain⟨u,h1,w,rfl⟩:=Jd (Q:=λ t=>∃w:Int,t=.sh (.int w)) h;exact⟨w,h1⟩
 refine key _ ?_;apply wp_step
 ·simp_arith[hv];rfl
 try simp only[zah,zac]
 apply wp_step
 ·simp_arith[q1,q2,x1];rfl
 try simp only[zah,zac]
 obtain⟨w,hw⟩:∃w,AO (.lst [.int (v / 5%7),.int g]) (.int (v%2))=.ok (.int w):=by
  rcases (by omega:v%2=0\/v%2=1) with e|e<;>rw[e]<;>exact⟨_,rfl⟩
 by_cases c1:v%5<3
 ·cases hc:atC T (v / 5%m) with
  |none =>
   have x2:C1 (cst none)=true:=rfl;apply wp_step
   ·simp_arith[q3,decide_eq_true c1,x2];rfl
   simp_arith[q1,q4,q5,hg,hw];exact⟨w,rfl⟩
  |some k =>
   have x2:C1 (cst (some k))=false:=rfl;have x3:AO (cst (some k)) (.int 0)=.ok (.int k.1):=rfl;have x4:∀i:Int,Vv [.int 0,.int i]=.ok (.int (if i > 0 then i else 0)):=λ _=>rfl;simp_arith[q3,decide_eq_true c1,x2,x3,x4];exact⟨_,rfl⟩
 ·apply wp_step
  ·simp_arith[q3,decide_eq_false c1];rfl
  simp_arith[q1,q4,q5,hg,hw];exact⟨w,rfl⟩
abbrev Ll:List D->M OT:=za8 F3
def Of:Txt K mg->BS P w K mg base "_law_length" 2 2 Ll:=(za1 F3).1
def Og:∀(m:Nat) (T:List Co) (c:Int),T.length=m->1<=m->m<=60->Sm c->∃v:Int,Ll [.lst (T.map cst),.int c]=.ok (.sh (.int v)):=(za1 F3).2
def V0:∃F:List D->M D,(∀ {P w K mg base f fd},Txt K mg->Y4 K "law" "law" Pm f fd->D5 P w K mg base fK 8 f fd ["_law_script"] (U1 K 1 F))/\(∀ns:List Int,ns.length<=63->(∀n∈ns,Sm n)->F [.lst (ns.map D.int)]=.ok (.bl true)):=by
 refine⟨_,fun {P w K mg base f fd} T F=>sR (k:=7) F C4 _ (λ B2 A outer s H E hr=>(A3 (AG 1 C4.nd rfl (zb6 rfl) (Ah (Bq (Aa (AX rfl).toXCall (Ez T) (hr.mono (by decide)) rfl (A2 (Ah (Aa (AX rfl).toXCall (Cg T) (hr.mono (by decide)) rfl (A2 (A1 0 (pv 0)) (A2 A5 A7)) rfl)) (A2 A5 A7)) rfl)))) (A3 (AG 2 C4.nd rfl (Or.inr rfl) (Ab (AL hr 16 (by decide)) (Fn (A2 (BN A5 (B6 (A1 1 (pv 1)) A5)) (A2 (BN A5 (B6 (A1 1 (pv 1)) A5)) A7))) (gI rfl T.dS (YW (AL hr 16 (by decide)) (B6 (Cz (A1 1 (pv 1)) A5) A5) A5)))) (A3 (AG 3 C4.nd rfl (zb6 rfl) (B6 (Cz (A1 1 (pv 1)) A5) (A1 2 (pv 2)))) (A3 (AG 4 C4.nd rfl (zb6 rfl) (Ah (Bq (Aa (AX rfl).toXCall (QW T) (hr.mono (by decide)) rfl (A2 (Ah (Gs (A1 0 (pv 0)) (GV A5) (GV A5))) (A2 (A1 2 (pv 2)) A7)) rfl)))) (A3 (AG 5 C4.nd rfl (zb6 rfl) (Ah (Bq (iZ (AX rfl).toXCall (Eu T).yY (hr.mono (by decide)) rfl (A2 (AH (A2 (A1 2 (pv 2)) (A2 (Ah (Ha rfl T.DJ (A1 4 (pv 4)))) A7))) (A2 (Ah (Aa (AX rfl).toXCall (QY T) (hr.mono (by decide)) rfl (A2 (Ah (Aa (AX rfl).toXCall (Cg T) (hr.mono (by decide)) rfl (A2 (A1 0 (pv 0)) (A2 A5 A7)) rfl)) (A2 (A1 2 (pv 2)) A7)) rfl)) A7)) rfl)))) (A3 (B5 (KU (c:=true) (AL hr 16 (by decide)) (B6 (Cz (A1 1 (pv 1)) A5) A5) A5) (A6 (AG 5 C4.nd rfl (zb6 rfl) (Ah (Bq (ZN (AX rfl).toXCall (Eu T) (hr.mono (by decide)) rfl (A2 (AH (A2 (A1 2 (pv 2)) (A2 (Ah (Ha rfl T.DJ (A1 4 (pv 4)))) A7))) A7) rfl))))) As) (A3 (AG 6 C4.nd rfl (Or.inr rfl) (Ab (AL hr 16 (by decide)) (Ah (Bq (Aa (AX rfl).toXCall (R5 T) (hr.mono (by decide)) rfl (A2 (A1 4 (pv 4)) (A2 (A1 2 (pv 2)) A7)) rfl))) (A1 3 (pv 3)))) (A3 (IY (NB:=["_law_j","_law_many","_law_script"]) 7 [none,some 2,some 0] C4.nd rfl (zb6 rfl) rfl (BE (c:=true) rfl T.Ck (B6 (Cz (A1 1 (pv 1)) A5) A5)) rfl rfl (Bd 0 (by decide) rfl rfl rfl) (λ _ _ _ _=>DV) (λ _ _ _ _=>(B6 (Ah (Bq (Aa (AX rfl).toXCall (Ez T) (hr.mono (by decide)) rfl (A2 (Ah (Aa (AX rfl).toXCall (Cg T) (hr.mono (by decide)) rfl (A2 (A1 2 (pv 2)) (A2 A5 A7)) rfl)) (A2 (BN A5 (A1 0 (pv 0))) A7)) rfl))) (A1 1 (pv 1))))) (A3 (AG 8 C4.nd rfl (zb6 rfl) (Ah (Ha rfl T.DJ (A1 7 (pv 7))))) (A3 (AG 9 C4.nd rfl (zb6 rfl) (B6 (Cz (A1 1 (pv 1)) A5) A5)) (A3 (B5 (KU (c:=true) (AL hr 16 (by decide)) (A1 9 (pv 9)) A5) (A3 (Bf 12 C4.nd rfl (zb6 rfl) (Bq (dG (AX rfl).toXCall (Iz T) (hr.mono (by decide)) rfl (A2 (A1 5 (pv 5)) (A2 (A1 3 (pv 3)) (A2 (A1 8 (pv 8)) A7))) rfl))) (A6 (AG 9 C4.nd rfl (zb6 rfl) A5))) (A3 (B5 (KU (c:=true) (AL hr 16 (by decide)) (A1 9 (pv 9)) A5) (A6 (AG 9 C4.nd rfl (zb6 rfl) (Ah (Bq (Aa (AX rfl).toXCall (FG T) (hr.mono (by decide)) rfl (A2 (Ah (Aa (AX rfl).toXCall (Cg T) (hr.mono (by decide)) rfl (A2 (A1 0 (pv 0)) (A2 A5 A7)) rfl)) (A2 A5 A7)) rfl))))) As) (A6 (Bf 12 C4.nd rfl (zb6 rfl) (Bq (Aa (AX rfl).toXCall (Iz T).f (hr.mono (by decide)) rfl (A2 (A1 5 (pv 5)) (A2 (A1 3 (pv 3)) (A2 (A1 8 (pv 8)) (A2 (A1 9 (pv 9)) A7)))) rfl)))))) (A3 (B5 (Gn (DW.dt (DM (C2 (BG (c:=true) (Ah (Bq (Aa (AX rfl).toXCall (Lk T) (hr.mono (by decide)) rfl (A2 (A1 12 (pv 12)) (A2 (A1 6 (pv 6)) (A2 (A1 7 (pv 7)) (A2 (A1 9 (pv 9)) A7)))) rfl))))) (CU (Hz (c:=true) (AL hr 16 (by decide)) (A1 8 (pv 8)) (A1 7 (pv 7))))))) (A6 (Q3 (Mv D6))) As) (A3 (Dh 12 (pv 12) (AH (A2 Df (A2 (A1 3 (pv 3)) A7)))) (A3 (B5 (C2 (BG (c:=true) (Ah (Bq (Aa (AX rfl).toXCall (Lk T) (hr.mono (by decide)) rfl (A2 (Ah (dI (AX rfl).toXCall (Iz T) (hr.mono (by decide)) rfl (A2 (A1 5 (pv 5)) (A2 (A1 3 (pv 3)) (A2 (A1 8 (pv 8)) A7))) (A1 9 (pv 9)) rfl)) (A2 (A1 6 (pv 6)) (A2 (A1 7 (pv 7)) (A2 (A1 9 (pv 9)) A7)))) rfl))))) (A6 (Q3 (Mv D6))) As) (A3 (AG 10 C4.nd rfl (Or.inr rfl) (Ah (Bq (Aa (AX rfl).toXCall (Of T) (hr.mono (by decide)) rfl (A2 (A1 6 (pv 6)) (A2 (Ah (Aa (AX rfl).toXCall (Cg T) (hr.mono (by decide)) rfl (A2 (A1 0 (pv 0)) (A2 A5 A7)) rfl)) A7)) rfl)))) (A3 (IY (NB:=["_law_place","_law_length_here","_law_costs_here"]) 11 [none,some 10,some 6] C4.nd rfl (zb6 rfl) rfl (BE (c:=true) rfl T.Ck (A1 2 (pv 2))) rfl rfl (Bd 0 (by decide) rfl rfl rfl) (λ _ _ _ _=>DY (DW.dt (Fo (DU (c:=true) (Ab (AL hr 16 (by decide)) (A1 2 (pv 2)) (A1 0 (pv 0)))) (EH (kY (c:=true) (Ab (AL hr 16 (by decide)) (Ab (AL hr 16 (by decide)) (A1 2 (pv 2)) (A1 0 (pv 0))) A5) (A1 1 (pv 1))))))) (λ _ _ _ _=>(A1 0 (pv 0)))) (A3 (Bf 12 C4.nd rfl (zb6 rfl) (Bq (Aa (AX rfl).toXCall (Pn T) (hr.mono (by decide)) rfl (A2 (A1 5 (pv 5)) (A2 (A1 3 (pv 3)) (A2 (A1 10 (pv 10)) A7))) rfl))) (A3 (B5 (Gn (DW.dt (DM (C2 (BG (c:=true) (DD (GU _) rfl T.AM rfl T.DJ (by decide +kernel) (A1 12 (pv 12))))) (DM (C2 (BG (c:=true) (Q9 rfl rfl T.Ws (Ah (CC (NB:=["_law_place"]) [none] rfl (AW (A1 12 (pv 12))) rfl rfl (Bd 0 (by decide) rfl rfl rfl) (λ _ _ _ _=>DV) (λ _ _ _ _=>(Ah (Bq (Aa (AX rfl).toXCall (E6 T) (hr.mono (by decide)) rfl (A2 (A1 0 (pv 0)) A7) rfl))))))))) (CU (Hz (c:=true) (AL hr 16 (by decide)) (A1 12 (pv 12)) (A1 11 (pv 11)))))))) (A6 (Q3 (Mv D6))) As) (A3 (Dh 12 (pv 12) (A1 3 (pv 3))) (A6 (Q3 (Mv (YW (AL hr 16 (by decide)) (Ah (Bq (Aa (AX rfl).toXCall (Pn T) (hr.mono (by decide)) rfl (A2 (A1 5 (pv 5)) (A2 (A1 3 (pv 3)) (A2 (A1 10 (pv 10)) A7))) rfl))) (A1 11 (pv 11)))))))))))))))))))))))))),?_⟩;intro ns np bq;have e0:AB ["_law_script","_law_first","_law_many","_law_start","_law_roads_here","_law_ladder","_law_costs_here","_law_goals","_law_handed","_law_wanted","_law_length_here","_law_due","_law_found"] [.lst (ns.map D.int)]=[some (.val (.lst (ns.map D.int))),none,none,none,none,none,none,none,none,none,none,none,none]:=rfl;rw[e0];refine tM ?_;obtain⟨z0,hz0,kc⟩:=Ey ns 0 bq;obtain⟨z1,bp,ir⟩:=Ey ns 1 bq;obtain⟨z2,jm,yt⟩:=Ey ns 2 bq;have rq:D4 [.lst (ns.map D.int),.int 0]=.ok (.sh (.int z0)):=kc;have ke:D4 [.lst (ns.map D.int),.int 1]=.ok (.sh (.int z1)):=ir;have kg:D4 [.lst (ns.map D.int),.int 2]=.ok (.sh (.int z2)):=yt;obtain⟨v,v0,hv⟩:=EA z0 0 (by decide) (by decide);have q1:CP (.int v) (.int 7)=.ok (.int (v%7)):=Az (by decide);have q2:CP (.int v) (.int 10)=.ok (.int (v%10)):=Az (by decide);have q3:F5 (.int v) (.int 31360)=.ok (.int (v / 31360)):=BZ ⟨by decide,by decide⟩;have q4:CP (.int (v / 31360)) (.int 8)=.ok (.int (v / 31360%8)):=Az (by decide);have q5:F5 (.int v) (.int 3920)=.ok (.int (v / 3920)):=BZ ⟨by decide,by decide⟩;have q6:CP (.int (v / 3920)) (.int 4)=.ok (.int (v / 3920%4)):=Az (by decide);have q7:F5 (.int v) (.int 7)=.ok (.int (v / 7)):=BZ ⟨by decide,by decide⟩;have q8:F5 (.int v) (.int 49)=.ok (.int (v / 49)):=BZ ⟨by decide,by decide⟩;have q9:CP (.int (v / 49)) (.int 10)=.ok (.int (v / 49%10)):=Az (by decide);have qa:F5 (.int v) (.int 490)=.ok (.int (v / 490)):=BZ ⟨by decide,by decide⟩;have qb:CP (.int (v / 490)) (.int 8)=.ok (.int (v / 490%8)):=Az (by decide);obtain⟨m,bL,aZ,kh⟩:∃m:Nat,1<=m/\m<=16/\((Vq [.bl (decide (v / 31360%8=3))]).bind λ y=>AO (.lst [.int (1+v%7),.int (7+v%10)]) y)=.ok (.int m):=by
  by_cases h:v / 31360%8=3
  ·refine⟨(7+v%10).toNat,by omega,by omega,?_⟩;rw[decide_eq_true h,show (((7+v%10).toNat:Nat):Int)=7+v%10 by omega];rfl
  ·refine⟨(1+v%7).toNat,by omega,by omega,?_⟩;rw[decide_eq_false h,show (((1+v%7).toNat:Nat):Int)=1+v%7 by omega];rfl
 have gy:(0:Int)<(m:Int):=by omega
 apply wp_step
 ·simp_arith[rq,hv];rfl
 try simp only[zah,zac]
 apply wp_step
 ·simp_arith[q1,q2,q3,q4,kh];rfl
 try simp only[zah,zac]
 have qs:CP (.int (v / 7)) (.int (m:Int))=.ok (.int (v / 7%m)):=Az gy;obtain⟨s,hs⟩:∃s:Nat,(s:Int)=v / 7%m:=⟨(v / 7%m).toNat,by have:=zci (v / 7) (b:=(m:Int)) (by omega);omega⟩;have ko:s<m:=by have:=zc8 (v / 7) gy;omega
 rw[<-hs] at qs;apply wp_step
 ·simp_arith[q7,qs];rfl
 try simp only[zah,zac]
 have sl:Zs (some 3) (some 27) (.lst (ns.map D.int))=.ok (.lst ((((ns.drop 3).take 24).map D.int).map .sh)):=by rw[List.map_take,List.map_drop];exact iV _ 3 27
 obtain⟨rs,ci,dw,yu⟩:=QX ((ns.drop 3).take 24) m bL aZ (by rw[zbo];omega) λ c hc=>bq c (List.mem_of_mem_drop (zbw hc));have kr:rs.length<=60:=by rw[zbo] at ci;omega
 have kt:∀r∈rs,G6 m r:=λ r hr=>(dw r hr).xG.1;apply wp_step
 ·simp_arith[sl,yu];rfl
 try simp only[zah,zac]
 obtain⟨Lo,yv,yw⟩:=QZ z1 m (by omega);have nn:D.tup [.int m,.lst (rs.map Bl)]=Ap m rs:=rfl;obtain⟨A0,K0,yx,t0,yy,yz⟩:=Ew m rs (.lst (Lo.map D.int)) Lo bL aZ kr dw yv (.inl rfl);have rz:OU (Cn (.ins "Ladder" [] []) [Ap m rs,.lst (Lo.map D.int)])=.ok t0:=by rw[yy];rfl
 refine wp_step (ρ':=[some (.val (.lst (ns.map D.int))),some (.val (.int v)),some (.val (.int m)),some (.val (.int (s:Int))),some (.val (.lst (rs.map Bl))),some (.val (AU m rs Lo A0 K0)),none,none,none,none,none,none,none]) (by simp_arith[ke,yw,nn,rz,yz];try rfl) ?_;refine C3 (I:=λ ρ=>∃(L:List Int) (A:LA) (K:List (Int×Int)),ρ=[some (.val (.lst (ns.map D.int))),some (.val (.int v)),some (.val (.int m)),some (.val (.int (s:Int))),some (.val (.lst (rs.map Bl))),some (.val (AU m rs L A K)),none,none,none,none,none,none,none]/\Cw m rs L A K) ?_ ?_
 ·by_cases c1:v / 3920%4=1
  ·obtain⟨A,K,ok,t,hI,hE⟩:=Ew m rs .AE (Tp m (BC rs) (AI m)) bL aZ kr dw (Sv m _ _ (BV m)) (.inr ⟨rfl,rfl⟩);have y2:OU (Cn (.ins "Ladder" [] []) ([Ap m rs]++[.AE]))=.ok t:=by
    rw[show [Ap m rs]++[D.AE]=[Ap m rs,.AE] from rfl,hI];rfl
   refine B9 (ρ':=[some (.val (.lst (ns.map D.int))),some (.val (.int v)),some (.val (.int m)),some (.val (.int (s:Int))),some (.val (.lst (rs.map Bl))),some (.val (AU m rs (Tp m (BC rs) (AI m)) A K)),none,none,none,none,none,none,none]) (by simp_arith[q5,q6,decide_eq_true c1,nn,y2,hE];try rfl) ⟨_,A,K,rfl,ok⟩
  ·refine B9 (ρ':=[some (.val (.lst (ns.map D.int))),some (.val (.int v)),some (.val (.int m)),some (.val (.int (s:Int))),some (.val (.lst (rs.map Bl))),some (.val (AU m rs Lo A0 K0)),none,none,none,none,none,none,none]) (by simp_arith[q5,q6,decide_eq_false c1];try rfl) ⟨_,A0,K0,rfl,yx⟩
 rintro ρ ⟨L,A,K,rfl,ok⟩;obtain⟨ac,hM,hA,tc,y3,y4⟩:=R6 m rs (by omega) (by omega) kt;obtain⟨y6,r6⟩:=hM.get (x:=(s:Int)) (by omega) (by omega);obtain⟨T,hT⟩:∃T,T=ac.getD (s:Int).toNat []:=⟨_,rfl⟩;rw[<-hT] at y6 r6;have r9:∀g:Int,0<=g->g<m->BM rs s g (atC T g):=λ g a b=>by rw[hT];exact hA s g (by omega) (by omega) a b
 have aY:∀s:Int,0<=s->s<m->AO (.lst ((AR ac).map D.lst)) (.int s)=.ok (.lst ((ac.getD s.toNat []).map cst)):=λ s h0 h1=>by
  have e:=(hM.get h0 h1).1;have e2:(AR ac)[s.toNat]?=some ((ac.getD s.toNat []).map cst):=by unfold AR;rw[zan,e];rfl
  exact JH h0 e2
 have x0:AO (.lst ((AR ac).map D.lst)) (.int (s:Int))=.ok (.lst (T.map cst)):=by rw[hT];exact aY s (by omega) (by omega)
 have ku:∀(g:Int) (c:Int×Int),0<=g->g<m->atC T g=some c->0<=c.2/\c.2<1000:=λ g c a b e=>by
  have h1:=r9 g a b;rw[e] at h1;have h2:=Sy (λ r hr=>(dw r hr).xG) (by omega) h1;have h3:=((h1.2 c rfl).nn kt).2;omega
 apply wp_step
 ·simp_arith[y3,y4,x0];rfl
 try simp only[zah,zac]
 obtain⟨n,hn⟩:∃n:Nat,(n:Int)=v / 49%10:=⟨(v / 49%10).toNat,by omega⟩;rw[<-hn] at q9;have hr:Q4 (.int (n:Int))=.ok (BD 0 n):=Eh (by omega);have vj:∀j:Nat,j<n->∃p:Int,(0<=p/\p<m)/\∃u:Int,K9 [.int z1,.int (20+j)]=.ok (.sh (.int u))/\CP (.int u) (.int (m:Int))=.ok (.int p):=λ j hj=>by
  obtain⟨u,u0,hu⟩:=EA z1 (20+j) (by omega) (by omega);exact⟨u%m,⟨zci _ (by omega),zc8 _ (by omega)⟩,u,hu,Az (by omega)⟩
 obtain⟨f,hf⟩:∃f:Nat->Int,∀j:Nat,j<n->(0<=f j/\f j<m)/\∃u:Int,K9 [.int z1,.int (20+j)]=.ok (.sh (.int u))/\CP (.int u) (.int (m:Int))=.ok (.int (f j)):=⟨λ j=>if h:j<n then za8 (vj j h) else 0,λ j hj=>by
  dsimp only;rw[dif_pos hj];exact za1 (vj j hj)⟩
 obtain⟨gs,se⟩:∃gs,gs=(zb1 n).map f:=⟨_,rfl⟩;have mq:gs.length<=60:=by rw[se,za2,zcq];omega
 have hg:∀g∈gs,0<=g/\g<(m:Int):=λ p hp=>by
  rw[se] at hp;obtain⟨j,hj,rfl⟩:=zau.mp hp;exact (hf j (zcy.mp hj)).1
 have y7:BD 0 n=(zb1 n).map λ j:Nat=>D.int (j:Int):=Fq n;have ar:((zb1 n).map λ j:Nat=>D.int (j:Int)).length<=1000:=by rw[za2,zcq];omega
 refine wp_step (ρ':=[some (.val (.lst (ns.map D.int))),some (.val (.int v)),some (.val (.int m)),some (.val (.int (s:Int))),some (.val (.lst (rs.map Bl))),some (.val (AU m rs L A K)),some (.val (.lst (T.map cst))),some (.val (.lst (gs.map D.int))),none,none,none,none,none]) (by
  simp_arith[q8,q9,hr,y7,if_pos ar];rw[Ca (λ j:Nat=>D.int (f j)) (λ j hj=>⟨_,rfl,rfl,by
   obtain⟨_,u,h1,h2⟩:=hf j (zcy.mp hj);simp_arith[ke,h1,h2]⟩)]
  rw[se,zbq];rfl) ?_
 refine wp_step (ρ':=[some (.val (.lst (ns.map D.int))),some (.val (.int v)),some (.val (.int m)),some (.val (.int (s:Int))),some (.val (.lst (rs.map Bl))),some (.val (AU m rs L A K)),some (.val (.lst (T.map cst))),some (.val (.lst (gs.map D.int))),some (.val (.lst (gs.map D.int))),none,none,none,none]) (by simp_arith[];try rfl) ?_;refine wp_step (ρ':=[some (.val (.lst (ns.map D.int))),some (.val (.int v)),some (.val (.int m)),some (.val (.int (s:Int))),some (.val (.lst (rs.map Bl))),some (.val (AU m rs L A K)),some (.val (.lst (T.map cst))),some (.val (.lst (gs.map D.int))),some (.val (.lst (gs.map D.int))),some (.val (.int (v / 490%8))),none,none,none]) (by simp_arith[qa,qb];try rfl) ?_;have mw:∀w:Int,0<=w->GG [AU m rs L A K,.int s,.lst (gs.map D.int),.int w]=.ok (.lst ((AN (atC T) m gs w).map .sh)):=λ w hw=>UY m rs L A K (atC T) s gs w ok ko mq hg hw r9 ku;refine C3 (I:=λ ρ=>∃w:Int,0<=w/\ρ=[some (.val (.lst (ns.map D.int))),some (.val (.int v)),some (.val (.int m)),some (.val (.int (s:Int))),some (.val (.lst (rs.map Bl))),some (.val (AU m rs L A K)),some (.val (.lst (T.map cst))),some (.val (.lst (gs.map D.int))),some (.val (.lst (gs.map D.int))),some (.val (.int w)),none,none,some (.own (AN (atC T) m gs w))]) ?_ ?_
 ·by_cases c6:v / 490%8=6
  ·have h1:=mw 1 (by decide);refine B9 (ρ':=[some (.val (.lst (ns.map D.int))),some (.val (.int v)),some (.val (.int m)),some (.val (.int (s:Int))),some (.val (.lst (rs.map Bl))),some (.val (AU m rs L A K)),some (.val (.lst (T.map cst))),some (.val (.lst (gs.map D.int))),some (.val (.lst (gs.map D.int))),some (.val (.int 1)),none,none,some (.own (AN (atC T) m gs 1))]) (by
    have cb:GG ([AU m rs L A K,.int s,.lst (gs.map D.int)]++[.int 1])=.ok (.lst ((AN (atC T) m gs 1).map .sh)):=h1;simp_arith[decide_eq_true c6,cb,TZ];try rfl) ⟨1,by decide,rfl⟩
  ·by_cases c7:v / 490%8=7
   ·obtain⟨w,⟨w0,w1⟩,hw⟩:=FH z2 62 jm (by decide) (by decide);have h1:=mw w w0;refine B9 (ρ':=[some (.val (.lst (ns.map D.int))),some (.val (.int v)),some (.val (.int m)),some (.val (.int (s:Int))),some (.val (.lst (rs.map Bl))),some (.val (AU m rs L A K)),some (.val (.lst (T.map cst))),some (.val (.lst (gs.map D.int))),some (.val (.lst (gs.map D.int))),some (.val (.int w)),none,none,some (.own (AN (atC T) m gs w))]) (by
     simp_arith[decide_eq_false c6,decide_eq_true c7,kg,hw,h1,TZ,if_true];try rfl) ⟨w,w0,rfl⟩
   ·have h1:=mw (v / 490%8) (by omega);refine B9 (ρ':=[some (.val (.lst (ns.map D.int))),some (.val (.int v)),some (.val (.int m)),some (.val (.int (s:Int))),some (.val (.lst (rs.map Bl))),some (.val (AU m rs L A K)),some (.val (.lst (T.map cst))),some (.val (.lst (gs.map D.int))),some (.val (.lst (gs.map D.int))),some (.val (.int (v / 490%8))),none,none,some (.own (AN (atC T) m gs (v / 490%8)))]) (by
     simp_arith[decide_eq_false c6,decide_eq_false c7,h1,TZ];try rfl) ⟨_,by omega,rfl⟩
 rintro ρ ⟨w,hw,rfl⟩;have hN:=Tn m T gs w r6 (by omega) mq hw ku;have ae:YU 16 (.lst (gs.map D.int)) (.lst (gs.map D.int))=.ok (.bl false):=My ((LH (n:=0) gs).le (by decide));have h1:=mw w hw;refine wp_step (ρ':=[some (.val (.lst (ns.map D.int))),some (.val (.int v)),some (.val (.int m)),some (.val (.int (s:Int))),some (.val (.lst (rs.map Bl))),some (.val (AU m rs L A K)),some (.val (.lst (T.map cst))),some (.val (.lst (gs.map D.int))),some (.val (.lst (gs.map D.int))),some (.val (.int w)),none,none,some (.own (AN (atC T) m gs w))]) (by simp_arith[hN,ae,Gq];try rfl) ?_;have y8:(AN (atC T) m gs w).length<1000:=by have:=Pe (C:=atC T) (m:=m) (gs:=gs) (w:=w);omega
 refine wp_step (ρ':=[some (.val (.lst (ns.map D.int))),some (.val (.int v)),some (.val (.int m)),some (.val (.int (s:Int))),some (.val (.lst (rs.map Bl))),some (.val (AU m rs L A K)),some (.val (.lst (T.map cst))),some (.val (.lst (gs.map D.int))),some (.val (.lst (gs.map D.int))),some (.val (.int w)),none,none,some (.own (AN (atC T) m gs w++[D.tup [.AE,.int s]]))]) (by simp_arith[if_pos y8];try rfl) ?_;refine wp_step (ρ':=[some (.val (.lst (ns.map D.int))),some (.val (.int v)),some (.val (.int m)),some (.val (.int (s:Int))),some (.val (.lst (rs.map Bl))),some (.val (AU m rs L A K)),some (.val (.lst (T.map cst))),some (.val (.lst (gs.map D.int))),some (.val (.lst (gs.map D.int))),some (.val (.int w)),none,none,some (.own (AN (atC T) m gs w++[D.tup [.AE,.int s]]))]) (by
  have cb:GG ([AU m rs L A K,.int s,.lst (gs.map D.int)]++[.int w])=.ok (.lst ((AN (atC T) m gs w).map .sh)):=h1;simp_arith[cb,hN,Gq];try rfl) ?_
 obtain⟨l,hl⟩:=Og m T z2 r6 bL (by omega) jm;refine wp_step (ρ':=[some (.val (.lst (ns.map D.int))),some (.val (.int v)),some (.val (.int m)),some (.val (.int (s:Int))),some (.val (.lst (rs.map Bl))),some (.val (AU m rs L A K)),some (.val (.lst (T.map cst))),some (.val (.lst (gs.map D.int))),some (.val (.lst (gs.map D.int))),some (.val (.int w)),some (.val (.int l)),none,some (.own (AN (atC T) m gs w++[D.tup [.AE,.int s]]))]) (by simp_arith[kg,hl];try rfl) ?_;have cp:Q4 (.int (m:Int))=.ok (BD 0 m):=Eh (by omega);have y9:BD 0 m=(zb1 m).map λ j:Nat=>D.int (j:Int):=Fq m;have za:((zb1 m).map λ j:Nat=>D.int (j:Int)).length<=1000:=by rw[za2,zcq];omega
 refine wp_step (ρ':=[some (.val (.lst (ns.map D.int))),some (.val (.int v)),some (.val (.int m)),some (.val (.int (s:Int))),some (.val (.lst (rs.map Bl))),some (.val (AU m rs L A K)),some (.val (.lst (T.map cst))),some (.val (.lst (gs.map D.int))),some (.val (.lst (gs.map D.int))),some (.val (.int w)),some (.val (.int l)),some (.val (.lst ((EE (atC T) m l).map D.int))),some (.own (AN (atC T) m gs w++[D.tup [.AE,.int s]]))]) (by
  simp_arith[cp,y9,if_pos za];rw[BP (λ i:Nat=>match atC T (i:Int) with|some c=>decide (c.1<=l)|none=>false) (λ i:Nat=>D.int (i:Int)) (λ i hi=>⟨_,rfl,by
   have ur:=zcy.mp hi;have x1:AO (.lst (T.map cst)) (.int (i:Int))=.ok (cst (atC T i)):=Ce (by omega) (by omega);simp_arith[x1];cases atC T (i:Int) with
   |none=>rfl
   |some c =>
    have x2:AO (cst (some c)) (.int 0)=.ok (.int c.1):=rfl;have x3:C1 (cst (some c))=false:=rfl;simp_arith[x2,x3];rw[if_pos trivial],λ _=>rfl⟩)]
  unfold EE AI;simp only[List.filter_map,zbq,Function.comp_def];rfl) ?_
 have fc:=XY m rs L A K (atC T) s l ok ko r9;refine wp_step (ρ':=[some (.val (.lst (ns.map D.int))),some (.val (.int v)),some (.val (.int m)),some (.val (.int (s:Int))),some (.val (.lst (rs.map Bl))),some (.val (AU m rs L A K)),some (.val (.lst (T.map cst))),some (.val (.lst (gs.map D.int))),some (.val (.lst (gs.map D.int))),some (.val (.int w)),some (.val (.int l)),some (.val (.lst ((EE (atC T) m l).map D.int))),some (.own ((EE (atC T) m l).map D.int))]) (by simp_arith[fc];try rfl) ?_;have lq:(EE (atC T) m l).length<=60:=by
  have:(EE (atC T) m l).length<=(AI m).length:=zcw _ _;rw[BV] at this;omega
 have sf:((EE (atC T) m l).map D.int).length<=1000:=by rw[za2];omega
 have sg:((EE (atC T) m l).map D.int).length<1000:=by rw[za2];omega
 have hpl:Pl 16 (.lst ((EE (atC T) m l).map D.int)):=(LH (n:=0) _).le (by decide);have sn:=My hpl;have so:=Z8 hpl;refine wp_step (ρ':=[some (.val (.lst (ns.map D.int))),some (.val (.int v)),some (.val (.int m)),some (.val (.int (s:Int))),some (.val (.lst (rs.map Bl))),some (.val (AU m rs L A K)),some (.val (.lst (T.map cst))),some (.val (.lst (gs.map D.int))),some (.val (.lst (gs.map D.int))),some (.val (.int w)),some (.val (.int l)),some (.val (.lst ((EE (atC T) m l).map D.int))),some (.own ((EE (atC T) m l).map D.int))]) (by
  simp_arith[if_pos sf,sn];rw[Ca (λ _:Int=>D.bl true) (λ i hi=>⟨_,rfl,rfl,by simp_arith[E7]⟩)];have e5:(EE (atC T) m l).map (λ _=>D.bl true)=((EE (atC T) m l).map λ _=>true).map D.bl:=by rw[zbq];rfl
  have e6:(((EE (atC T) m l).map λ _=>true).all id)=true:=by simp
  simp_arith[e5,e6,Gq];try rfl) ?_
 refine wp_step (ρ':=[some (.val (.lst (ns.map D.int))),some (.val (.int v)),some (.val (.int m)),some (.val (.int (s:Int))),some (.val (.lst (rs.map Bl))),some (.val (AU m rs L A K)),some (.val (.lst (T.map cst))),some (.val (.lst (gs.map D.int))),some (.val (.lst (gs.map D.int))),some (.val (.int w)),some (.val (.int l)),some (.val (.lst ((EE (atC T) m l).map D.int))),some (.own ((EE (atC T) m l).map D.int++[D.int s]))]) (by simp_arith[if_pos sg];try rfl) ?_;simp_arith[fc,so];exact rfl
abbrev eC:List D->M D:=za8 V0
def qD {P w K mg base f fd}:Txt K mg->Y4 K "law" "law" Pm f fd->D5 P w K mg base fK 8 f fd ["_law_script"] (U1 K 1 eC):=(za1 V0).1
def qE:∀ns:List Int,ns.length<=63->(∀n∈ns,Sm n)->eC [.lst (ns.map D.int)]=.ok (.bl true):=(za1 V0).2
set_option maxHeartbeats 0 in
def left (w:World):(PySem.W.openEnds treeTable PySem.Challenge.pw_nodeladder_k53_nearest_and_within w 6300).map (λ s=>PySem.W.openSeen (Bn PySem.Challenge.pw_nodeladder_k53_nearest_and_within) (Mc PySem.Challenge.pw_nodeladder_k53_nearest_and_within) (importedModules PySem.Challenge.pw_nodeladder_k53_nearest_and_within.main.body) (λ s=>PySem.W.xlAt (Bn PySem.Challenge.pw_nodeladder_k53_nearest_and_within) [] s&&PySem.W.recOk [] s) true s)=some (PySem.W.openGood (Bn PySem.Challenge.pw_nodeladder_k53_nearest_and_within) (Mc PySem.Challenge.pw_nodeladder_k53_nearest_and_within)):=by
 rw[VY,tP,PySem.W.Fast.te4187177175401517315,PySem.W.Fast.te5923862056798008813,PySem.W.Fast.te1330080210386587153];exact (L0 (L1 (IG w)) (L0 (L1 (B7 (B7 (IG w)))) (L0 (L1 (B7 (IG w))) (L0 (L1 (B7 (B7 (B7 (IG w))))) (L0 (L1 (B7 (B7 (B7 (B7 (IG w)))))) (L0 (L1 (B7 (B7 (B7 (B7 (B7 (IG w))))))) (L0 (L1 (B7 (B7 (B7 (B7 (B7 (B7 (IG w)))))))) (L0 (L1 (B7 (B7 (B7 (B7 (B7 (B7 (B7 (IG w))))))))) (B7 (B7 (B7 (B7 (B7 (B7 (B7 (B7 (IG w)))))))))))))))))
set_option maxHeartbeats 0 in
def qG (w:World):Pw (Kp R0 PySem.Challenge.pw_nodeladder_k53_nearest_and_within w) PySem.Challenge.pw_nodeladder_k53_nearest_and_within:=by
 rw[tP,PySem.W.Fast.te1330080210386587153];exact eK w
def all_mk {l:PySem.W.OpenLaw}(X:K.In h)(G:h.Ns mainGlobals mg)(zb:mg "law" = some (.ref fa))(u0:Pw K PySem.Challenge.pw_nodeladder_k53_nearest_and_within):
 ∃fd:FuncData,(∀(s:Shared) (v:Value),BindsTo s fd ⟨[v],[]⟩ [("_law_script",v)])/\∀base:Heap,K.In base->base.Ns mainGlobals mg->D5 l.prog w K mg base fK 8 fa fd ["_law_script"] (U1 K 1 eC):=by
 have ai:WG K _:=⟨u0.1.1.1.1.1.1.2,u0.1.1.1.1.1.2,u0.1.1.1.1.2.1,u0.1.1.1.1.2.2⟩;obtain⟨f13,g9,zc,to13,zd,h7,ze,zf,zg,zh,sq,h9,ia,ib,ic,ie,zi,zj,zk,zl,ig⟩:=u0.2.2.2.2.1.2.ex;have zm:=VW (st:=Bj) zj zk zl;have zn:Binds K (zb8 "nearest" "nearest" (AV Bj) (Aw Bj) (A4 Bj) (.ref g9) h9 ia ib h7 ic ie) ["ladder","start","goals","most"] []:=λ s us hK hl=>by
  have ar:us.length=4:=by simpa using hl
  rcases us with _|⟨_,_|⟨_,_|⟨_,_|⟨_,_|⟨_,us⟩⟩⟩⟩⟩<;>first|exact PySem.W.binds_K hK rfl ig rfl rfl rfl|(simp at ar)
 have zo:Binds K (zb8 "nearest" "nearest" (AV Bj) (Aw Bj) (A4 Bj) (.ref g9) h9 ia ib h7 ic ie) ["ladder","start","goals","most"] [.int 1 sq]:=λ s us hK hl=>by
  have ar:us.length=3:=by simpa using hl
  rcases us with _|⟨_,_|⟨_,_|⟨_,_|⟨_,_|⟨_,us⟩⟩⟩⟩⟩<;>first|exact PySem.W.binds_K hK rfl ig rfl rfl rfl|(simp at ar)
 have zp:vD K (zb8 "nearest" "nearest" (AV Bj) (Aw Bj) (A4 Bj) (.ref g9) h9 ia ib h7 ic ie) ["ladder","start","goals","most"] "most" := λ s us u hK hl=>by
  have ar:us.length=3:=by simpa using hl
  rcases us with _|⟨_,_|⟨_,_|⟨_,_|⟨_,_|⟨_,us⟩⟩⟩⟩⟩<;>first|exact PySem.W.binds_K hK rfl ig rfl rfl rfl|(simp at ar)
 have zq:UE K mg "nearest" "most" 1 Bj ["ladder","start","goals","most"]:=⟨_,_,zm,PySem.W.mg_of X G zi,⟨zn,_,zo⟩,zp⟩;obtain⟨f28,lb,zr,to28,zt,lc,zu,zv,zw,zx,lf,lg,lh,li,lj,zy,z3,z4,z5,z6,lm⟩:=u0.2.2.2.2.2.1.ex;have z7:=VW (st:=Ay) z4 z5 z6;have z8:Binds K (zb8 "__init__" "Ladder.__init__" (AV Ay) (Aw Ay) (A4 Ay) (.ref lb) lf lg lh lc li lj) ["self","net","order"] []:=λ s us hK hl=>by
  have ar:us.length=3:=by simpa using hl
  rcases us with _|⟨_,_|⟨_,_|⟨_,_|⟨_,us⟩⟩⟩⟩<;>first|exact PySem.W.binds_K hK rfl lm rfl rfl rfl|(simp at ar)
 have z9:Binds K (zb8 "__init__" "Ladder.__init__" (AV Ay) (Aw Ay) (A4 Ay) (.ref lb) lf lg lh lc li lj) ["self","net","order"] [.none]:=λ s us hK hl=>by
  have ar:us.length=2:=by simpa using hl
  rcases us with _|⟨_,_|⟨_,_|⟨_,_|⟨_,us⟩⟩⟩⟩<;>first|exact PySem.W.binds_K hK rfl lm rfl rfl rfl|(simp at ar)
 have zF:Ud K mg "Ladder" "Ladder.__init__" Ay ["self","net","order"]:=⟨_,_,_,⟨u0.1.1.1.1.1.1.1,PySem.W.mg_of X G u0.1.1.1.1.1.1.1⟩,⟨u0.1.1.1.2.1.1,zy,z3,u0.1.1.1.2.1.2⟩,z7,z8,z9⟩;obtain⟨f46,zG,zH,zI,zJ,zK,zL,zM,zN,zO,vn,zP,zQ,zR⟩:=u0.2.2.2.2.2.2.ex;cases zb.symm.trans (PySem.W.mg_of X G vn);have sr:=TQ (st:=Pm) zP zQ zR;have zS:AK K mg "law" Pm ["_law_script"]:=⟨_,_,sr,PySem.W.mg_of X G vn,sr.binds (λ _ _ _ _ _ _=>uY λ _=>rfl)⟩;have T:Txt K mg:=⟨AZ X G u0.1.1.1.2.2.1,AZ X G u0.1.1.1.2.2.2,AZ X G u0.1.1.2.1.1.1.1,AZ X G u0.1.1.2.1.1.1.2,AZ X G u0.1.1.2.1.1.2,AZ X G u0.1.1.2.1.2.1,AZ X G u0.1.1.2.1.2.2,AZ X G u0.1.1.2.2.1.1,AZ X G u0.1.1.2.2.1.2,AZ X G u0.1.1.2.2.2.1,AZ X G u0.1.1.2.2.2.2,AZ X G u0.1.2.1.1.1.1.1,zq,AZ X G u0.1.2.1.1.1.1.2,AZ X G u0.1.2.1.1.1.2,AZ X G u0.1.2.1.1.2.1,AZ X G u0.1.2.1.1.2.2,AZ X G u0.1.2.1.2.1.1,AZ X G u0.1.2.1.2.1.2,AZ X G u0.1.2.1.2.2.1,AZ X G u0.1.2.1.2.2.2,AZ X G u0.1.2.2.1.1.1.1,AZ X G u0.1.2.2.1.1.1.2,AZ X G u0.1.2.2.1.1.2,AZ X G u0.1.2.2.1.2.1,AZ X G u0.1.2.2.1.2.2,AZ X G u0.1.2.2.2.1.1,zF,VX u0.1.1.1.1.1.1.1 ai u0.1.2.2.2.1.2,VX u0.1.1.1.1.1.1.1 ai u0.1.2.2.2.2.1,VX u0.1.1.1.1.1.1.1 ai u0.1.2.2.2.2.2,VX u0.1.1.1.1.1.1.1 ai u0.2.1.1.1.1.1.1,AZ X G u0.2.1.1.1.1.1.2,AZ X G u0.2.1.1.1.1.2,AZ X G u0.2.1.1.1.2.1,AZ X G u0.2.1.1.1.2.2,AZ X G u0.2.1.1.2.1.1,AZ X G u0.2.1.1.2.1.2,AZ X G u0.2.1.1.2.2.1,AZ X G u0.2.1.1.2.2.2,AZ X G u0.2.1.2.1.1.1.1,AZ X G u0.2.1.2.1.1.1.2,AZ X G u0.2.1.2.1.1.2,AZ X G u0.2.1.2.1.2.1,AZ X G u0.2.1.2.1.2.2,zS,zbc X G u0.2.1.2.2.1.1,zbc X G u0.2.1.2.2.1.2,zbc X G u0.2.1.2.2.2.1,zbc X G u0.2.1.2.2.2.2,zbc X G u0.2.2.1.1.1.1.1,zbc X G u0.2.2.1.1.1.1.2,zbc X G u0.2.2.1.1.1.2,zbc X G u0.2.2.1.1.2.1,zbc X G u0.2.2.1.1.2.2,zbc X G u0.2.2.1.2.1.1,zbc X G u0.2.2.1.2.1.2,zbc X G u0.2.2.1.2.2.1,zbc X G u0.2.2.1.2.2.2,zbc X G u0.2.2.2.1.1.1.1,zbc X G u0.2.2.2.1.1.1.2,⟨_,u0.1.1.1.1.1.1.1,ai,u0.2.2.2.1.1.2⟩,⟨_,u0.1.1.1.1.1.1.1,ai,u0.2.2.2.1.2.1⟩,⟨_,u0.1.1.1.1.1.1.1,ai,u0.2.2.2.1.2.2⟩,⟨_,u0.1.1.1.1.1.1.1,ai,u0.2.2.2.2.1.1⟩⟩;refine⟨_,?_,λ base _ _=>qD T sr⟩;exact λ s v=>.of_eq rfl
def walk {l:PySem.W.OpenLaw}{K:World->za0}(hn:l.most=some 63)(ge:d.params.defaults=[])(hY:∀(w:World) (h:Heap),YP w h->(K w).In h)(F:∀(w:World) (mg:Str->Option Value) (fa:Addr) (h:Heap),(K w).In h->h.Ns mainGlobals mg->mg d.name=some (.ref fa)->
  ∃fd:FuncData,(∀(s:Shared) (u:Value),BindsTo s fd ⟨[u],[]⟩ [("_law_script",u)])/\∀base:Heap,(K w).In base->base.Ns mainGlobals mg->D5 l.prog w (K w) mg base fK 8 fa fd ["_law_script"] (U1 (K w) 1 eC)):
 PySem.W.WalkO q loose XP YP l.row.toRowW d [] (λ f vs=>PySem.call f vs):=
 L2.tR (n:=63) (k:=8) (x := "_law_script") (CX:=λ _=>fK) (sp:=λ w=>U1 (K w) 1 eC) hn (by decide) ge ⟨rfl,by decide,by decide⟩ hY F (λ w H a ns bq hl _ hS=>gJ qE (K w) H a ns bq hl hS) λ _ _ _ _ _ z=>z
end dk
open PySem PySem.W PyProof.Rows L2
set_option maxRecDepth 100000 in
set_option autoImplicit true
set_option relaxedAutoImplicit true
set_option maxHeartbeats 0 in
theorem PySem.Challenge.cw_nodeladder_k53_nearest_and_within_holds : PySem.Challenge.rw_nodeladder_k53_nearest_and_within.Holds := by
 w_on;o_law
 refine holds_open (q:=Bn PySem.Challenge.pw_nodeladder_k53_nearest_and_within) (loose:=(Mc PySem.Challenge.pw_nodeladder_k53_nearest_and_within)) (Xt:=λ s=>xlAt (Bn PySem.Challenge.pw_nodeladder_k53_nearest_and_within) [] s&&recOk [] s) (XP:=XL (Bn PySem.Challenge.pw_nodeladder_k53_nearest_and_within) []) (Yf:=λ s=>s.heap) (Ya:=λ w=>Y6 R0 PySem.Challenge.pw_nodeladder_k53_nearest_and_within w 6300) (YP:=λ w h=>tQ (Y6 R0 PySem.Challenge.pw_nodeladder_k53_nearest_and_within w 6300) h) (N:=6300) (jE dk.left) (λ w s e b o q=>by rw[<-e] at q;exact q) (λ w h h' a b c o q=>b c o (a c o q)) (λ s e=>xl_of s (Bool.and_eq_true_iff.mp e).1) XL.keeps (by rfl) (by rfl) (by rfl) (λ s e=>recFacts_of (Bool.and_eq_true_iff.mp e).2) (by rfl) (by first|assumption|decide +kernel) (by decide +kernel) ⟨rfl,rfl,rfl,rfl,rfl,by decide +kernel⟩ ?hw ?hc;case hw=>w_witness2
 case hc =>
  refine dk.walk (l:=PySem.Challenge.rw_nodeladder_k53_nearest_and_within) (K:=dk.Kp R0 PySem.Challenge.pw_nodeladder_k53_nearest_and_within) rfl rfl (λ w h Y=>oX Y) ?F;intro w mg fa h KX G gf;exact dk.all_mk KX G gf (dk.qG w)

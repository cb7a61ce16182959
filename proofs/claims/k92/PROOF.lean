import PyProof.Rows.All
import Wide.All
import OpenK.AllK
import Wide.FinOn
import Lean
import PyProof.EqAt
import PyProof.EqKinds
import PyProof.TupleCall
import PyProof.NeKinds
import KE.KRevSl
import KE.KIsAll
import PyProof.FitsBits
import KE.LcSums
import KE.KRevIter
import PyProof.ListRange
import PyProof.Rows.SumAny
import PyProof.Rows.SortWalk
import PyProof.AttrMissHeap
import KE.KDictOf
import PyProof.ZipIter
import PyProof.DictWalks
import KE.KDictList
import KE.KFind
import KE.KDictSum
import KE.KSortTup
import PyProof.Rows.SetFrom
import PyProof.SetRoads
import PyProof.Rows.Range3
import PySem.Challenge.RW_nodeladder_k92_whole_all_tell_alike
set_option bootstrap.genMatcherCode false
set_option Elab.async false
set_option linter.all false
set_option maxRecDepth 1000000
set_option autoImplicit true
set_option relaxedAutoImplicit true
local macro_rules|`(~~~$t)=>`(autoParam $t PySem.W.name_B._auto_1)
local macro_rules|`(nofun)=>`(⟨rfl,rfl,rfl,by decide +kernel,rfl,by decide +kernel,by decide +kernel⟩)
local macro_rules|`(def $i $b* :$t $v:declVal)=>Lean.MonadRef.withRef .missing `(theorem $i $b* :$t $v:declVal)
local macro_rules|`(abbrev $i $b* :$t $v:declVal)=>Lean.MonadRef.withRef .missing `(noncomputable def $i $b* :$t $v:declVal)|`(abbrev $i $b* $v:declVal)=>Lean.MonadRef.withRef .missing `(noncomputable def $i $b* $v:declVal)
abbrev zP0:=PySem.Challenge.pw_nodeladder_k92_whole_all_tell_alike
open Classical renaming choose_spec→za0,choose→za5,byContradiction→zcm,propDecidable→zdi
open PySem.W renaming Frag→za1,nsIn→zas,findIn→zb7,fnOf→zbb,mg_none_of→zbg,keepIn→zbk,emptyDict→zc9,codeIn→zca,kia_one→zcr,instObj→zcs,binds_K→zd1,mg_of→zd4,plainGet→zdc
open List renaming length_map→za2,mem_cons_self→za3,mem_cons_of_mem→za4,map_cons→za6,getElem?_eq_getElem→za7,set_cons_succ→za8,mem_singleton→za9,length_cons→zaa,mem_cons→zab,mem_append_right→zac,size_toArray→zad,set_cons_zero→zae,replicate→zag,getD_eq_getElem?_getD→zai,range→zaj,length_append→zal,getElem?_eq_some_iff→zam,mem_of_getElem?→zan,mem_append→zao,getElem?_map→zap,mem_map→zar,nodup_append→zau,map_append→zav,append_nil→zb1,getElem?_set_self→zb2,append_assoc→zb3,foldl_cons→zb4,mem_append_left→zb5,nodup_cons→zb8,getElem?_cons_succ→zba,mem_filter→zbc,length_singleton→zbd,map_map→zbf,getElem?_eq_none→zbh,length_reverse→zbi,filterMap_cons→zbj,getElem?_set_ne→zbm,length_take→zbt,length_set→zbu,nodup_nil→zbv,take_length→zby,mem_range→zbz,take_add_one→zc0,length_range→zc1,getElem?_append_left→zc2,getElem?_range→zc3,getElem?_cons_zero→zc6,mem_of_mem_take→zc7,lookup_cons→zc8,replicate_succ→zcb,map_congr_left→zcc,mem_reverse→zce,getElem?_replicate→zcg,any_cons→zch,getElem?_append_right→zcn,cons_append→zco,take_append_drop→zcp,filter_cons_of_pos→zcv,filter_cons_of_neg→zcw,drop_length→zcx,take_of_length_le→zd0,mem_filterMap→zd2,length_replicate→zd6,find?_cons→zd7,ext_getElem?→zdb,mem_or_eq_of_mem_set→zdd,drop_eq_getElem_cons→zde,length_drop→zdg
open Nat renaming le_refl→zaf,lt_of_lt_of_le→zaq,ne_of_lt→zax,zero_le→zbe,le_of_lt→zbs,le_trans→zc4
open PySem.Heap renaming get?_push_of_some→zah,lt_size→zak,get?_push_size→zat,SameBut→zd8
open Bool renaming false_ne_true→zaw,false_eq_true→zaz,and_eq_true→zb6,eq_iff_iff→zd9
open Prod renaming fst→zay,snd→zbx
open Option.some renaming inj→zb0
open Or renaming inl→zb9
open PySem.Value renaming ref→zbl
open Ne renaming symm→zbn
open PyProof.Rows renaming callWith_type1→zbo
open Option renaming map_eq_some_iff→zbp,isSome_iff_exists→zbq,map_some→zck
open Int renaming toNat_natCast→zbr,emod_nonneg→zcd,emod_lt_of_pos→zcf,add_assoc→zcq
open PySem.Builtin.Int renaming intBits→zbw
open PySem.Calls renaming spliced_cons→zc5,spliced_nil→zci,callWith_builtin→zcz
open PySem.F renaming plain_min_loop→zcj,slot_dict_get→zcl,plainAttrs_list→zcu
open False renaming elim→zct
open True renaming intro→zcy
open PySem.NameKind renaming free→zd3
open PySem.Paired renaming length→zd5
open PySem.Builtin.List renaming listTooLong→zda
open PySem renaming mem_of_lookup→zdf
open ForInStep renaming yield→zdh
open Array renaming length_toList→zdj
section
set_option maxHeartbeats 0
namespace L2
open PySem PySem.Spec PyProof.Rows PySem.W PySem.Calls
abbrev inClass (s:Stmt)(j:Nat):Stmt:=match s with
 | .ClassDef _ _ _ body _ _ _ _ _ _ _=>body.getD j (.Pass ⟨0,0,0,0⟩)
 |_=>.Pass ⟨0,0,0,0⟩
abbrev B8 (s:Stmt):Arguments:=match s with
 | .FunctionDef _ a _ _ _ _ _ _ _ _=>a
 |_=>{posonlyargs:=[],args:=[],vararg:=none,kwonlyargs:=[],kw_defaults:=[],kwarg:=none,defaults:=[]}
abbrev AF (s:Stmt):List Stmt:=match s with
 | .FunctionDef _ _ b _ _ _ _ _ _ _=>b
 |_=>[]
abbrev A2 (s:Stmt):Scope:=match s with
 | .FunctionDef _ _ _ _ _ _ sc _ _ _=>sc
 |_=>{kind:=.function,names:=[],isGenerator:=false,isCoroutine:=false}
structure FP (K:za1)(x:Str)(st:Stmt):Prop where
 ex:∃(f:Addr) (oc:Value) (od an:Option Addr) (sl:Array (Option Value)) (kV dc pm cd ct:Value),zas K mainGlobals x=some (some (.ref f))/\K.lookup f=some ⟨oc,od,.func (zbb x x (B8 st) (AF st) (A2 st) .none kV dc pm an cd ct),sl⟩/\zca K cd x=true/\zbk K (.ref f)=true
structure MP (K:za1)(C:Addr)(m qual:Str)(st:Stmt):Prop where
 ex:∃(f:Addr) (oc:Value) (od an:Option Addr) (sl:Array (Option Value)) (kV dc pm cd ct:Value),zb7 K (.ref C) m=some (some (.ref f))/\PySem.W.isFn K (.ref f)=true/\K.lookup f=some ⟨oc,od,.func (zbb m qual (B8 st) (AF st) (A2 st) .none kV dc pm an cd ct),sl⟩/\zca K cd qual=true/\zbk K (.ref f)=true
abbrev Kf (p:Program):Program:={p with main:={p.main with body:=p.main.body.filter λ s=>match s with | .FunctionDef n .. =>n == "law" |_=>false} }
abbrev nmO:Stmt->List Str
 | .FunctionDef n ..| .ClassDef n ..=>[n]
 | .Assign [.Name x _] .. =>[x]
 |_=>[]
abbrev dS (p:Program):List Str:=(p.main.body.flatMap nmO).filter λ x => !(x == "law")
structure Rn where
 run:(String->Option Builtin)->Program->World->Nat->Option Value->Nat->Shared->Thread->Option Shared
 ns:Heap->Addr->Str->Option Value
 imp:(String->Option Builtin)->Program->World->Nat->Shared->Thread->Option Shared
 fen:Program->Shared->Option Shared
 st:Program->Shared×Thread
 tb:String->Option Builtin
abbrev XW (R:Rn)(p:Program)(w:World)(N:Nat):Option Shared:=
 ((R.imp R.tb (opening p) w N (R.st (opening p)).fst (R.st (opening p)).snd).bind (R.fen p)).bind λ s₀ =>
 match s₀.heap.isNs mainGlobals&&s₀.gens.size==0 with
 |true=>(R.run R.tb p w s₀.heap.objs.size (R.ns s₀.heap mainGlobals (Str.ofString "__annotations__")) N s₀ (topStub p)).bind λ s₁ =>
  match staticsOk (importedModules p.main.body) s₀.heap s₁.heap&&namesBound p s₁.heap&&gensDone s₁&&laidKept s₀.heap s₁.heap with
  |true=>some s₁
  |false=>none
 |false=>none
abbrev R1:Rn:=⟨PySem.W.Fast.tw14082659384304107361,PySem.W.Fast.tw8920871248978507458,PySem.W.Fast.tw10274390034422433532,PySem.W.Fast.tw14289696077712309145,PySem.W.Fast.tw1435165496053646825,PySem.W.Fast.tw14364793385576792824⟩
abbrev dU (R:Rn)(p:Program)(w:World)(N:Nat):Heap:=match XW R p w N with | some s=>s.heap | none=>⟨#[],default⟩
abbrev frO (h:Heap)(as:List Addr):za1:=as.filterMap λ a=>(h.get? a).map λ o=>(a,o)
abbrev adN (v:Option (Option Value)):Addr:=match v with | some (some (.ref f))=>f | _=>0
abbrev HF (K:za1)(f:Addr):Obj:=(K.lookup f).getD ⟨.none,none,.plain,#[]⟩
abbrev Qo (d:Data)(st:Stmt):FuncData:=match d with | .func fd=>fd | _=>zbb Str.empty Str.empty (B8 st) [] (A2 st) .none .none .none .none none .none .none
abbrev acg (v:Value):Addr:=match v with | .ref a=>a | _=>0
abbrev ach (d:Data):Nat:=match d with | .seq _ n=>n | _=>0
abbrev cA (K:za1)(x:Str):Addr:=adN (zas K mainGlobals x)
abbrev mA (K:za1)(C:Addr)(m:Str):Addr:=adN (zb7 K (.ref C) m)
def zZ {K}{st}(a:zas K mainGlobals x=some (some (.ref (cA K x))):=by kernel_rfl)(l:K.lookup (cA K x)=some ⟨(HF K (cA K x)).cls,(HF K (cA K x)).dict,.func (zbb x x (B8 st) (AF st) (A2 st) .none (Qo (HF K (cA K x)).data st).kwdefaults (Qo (HF K (cA K x)).data st).doc (Qo (HF K (cA K x)).data st).pyModule (Qo (HF K (cA K x)).data st).annotations (Qo (HF K (cA K x)).data st).code (Qo (HF K (cA K x)).data st).closureTuple),(HF K (cA K x)).slots⟩:=by kernel_rfl)(c:zca K (Qo (HF K (cA K x)).data st).code x=true:=by kernel_rfl)(k:zbk K (.ref (cA K x))=true:=by kernel_rfl):FP K x st:=⟨⟨_,_,_,_,_,_,_,_,_,_,a,l,c,k⟩⟩
def aaa {K}{st}(a:zb7 K (.ref C) m=some (some (.ref (mA K C m))):=by kernel_rfl)(i:PySem.W.isFn K (.ref (mA K C m))=true:=by kernel_rfl)(l:K.lookup (mA K C m)=some ⟨(HF K (mA K C m)).cls,(HF K (mA K C m)).dict,.func (zbb m qual (B8 st) (AF st) (A2 st) .none (Qo (HF K (mA K C m)).data st).kwdefaults (Qo (HF K (mA K C m)).data st).doc (Qo (HF K (mA K C m)).data st).pyModule (Qo (HF K (mA K C m)).data st).annotations (Qo (HF K (mA K C m)).data st).code (Qo (HF K (mA K C m)).data st).closureTuple),(HF K (mA K C m)).slots⟩:=by kernel_rfl)(c:zca K (Qo (HF K (mA K C m)).data st).code qual=true:=by kernel_rfl)(k:zbk K (.ref (mA K C m))=true:=by kernel_rfl):MP K C m qual st:=⟨⟨_,_,_,_,_,_,_,_,_,_,a,i,l,c,k⟩⟩
structure IP (K:za1)(C:Addr)(m qual:Str)(st:Stmt):Prop where
 ex:∃(f td:Addr) (oc to:Value) (od an tq:Option Addr) (sl ts:Array (Option Value)) (tn:Nat) (kV dc pm cd ct:Value),zb7 K (.ref C) m=some (some (.ref f))/\PySem.W.isFn K (.ref f)=true/\K.lookup f=some ⟨oc,od,.func (zbb m qual (B8 st) (AF st) (A2 st) (.ref td) kV dc pm an cd ct),sl⟩/\zca K cd qual=true/\zbk K (.ref f)=true/\K.lookup td=some ⟨to,tq,.seq #[.none] tn,ts⟩
abbrev tA (K:za1)(C:Addr)(m:Str)(st:Stmt):Addr:=acg (Qo (HF K (mA K C m)).data st).defaults
def aab {K}{st}(a:zb7 K (.ref C) m=some (some (.ref (mA K C m))):=by kernel_rfl)(i:PySem.W.isFn K (.ref (mA K C m))=true:=by kernel_rfl)(l:K.lookup (mA K C m)=some ⟨(HF K (mA K C m)).cls,(HF K (mA K C m)).dict,.func (zbb m qual (B8 st) (AF st) (A2 st) (.ref (tA K C m st)) (Qo (HF K (mA K C m)).data st).kwdefaults (Qo (HF K (mA K C m)).data st).doc (Qo (HF K (mA K C m)).data st).pyModule (Qo (HF K (mA K C m)).data st).annotations (Qo (HF K (mA K C m)).data st).code (Qo (HF K (mA K C m)).data st).closureTuple),(HF K (mA K C m)).slots⟩:=by kernel_rfl)(c:zca K (Qo (HF K (mA K C m)).data st).code qual=true:=by kernel_rfl)(k:zbk K (.ref (mA K C m))=true:=by kernel_rfl)(d:K.lookup (tA K C m st)=some ⟨(HF K (tA K C m st)).cls,(HF K (tA K C m st)).dict,.seq #[.none] (ach (HF K (tA K C m st)).data),(HF K (tA K C m st)).slots⟩:=by kernel_rfl):IP K C m qual st:=⟨⟨_,_,_,_,_,_,_,_,_,_,_,_,_,_,_,a,i,l,c,k,d⟩⟩
end L2
namespace dq
open PySem L2
def aac (w:World):(XW R1 zP0 w 10500).map (λ s=>PySem.W.Fast.tw4187177175401517315 (Kf zP0) (dS zP0) (PySem.W.Fast.tw5923862056798008813 zP0.main.body) (λ s=>PySem.W.xlAt (Kf zP0) [] s&&PySem.W.recOk [] s) true s)=some (PySem.W.openGood (Kf zP0) (dS zP0)):=by kernel_rfl
abbrev topP (p:Program)(i:Nat):Stmt:=p.main.body.getD i (.Pass ⟨0,0,0,0⟩)
abbrev Kp (R:Rn)(p:Program)(w:World):za1:=frO (dU R p w 10500) [3,100,101,107,108,114,115,119,120,124,125,131,132,136,137,143,144,148,149,153,154,158,159,165,166,172,173,179,180,184,185,189,190,196,197,203,204,208,209,213,214,220,221,225,226,232,233,239,240,246,247,253,254,260,261,267,268,272,273,279,280,286,287,291,292,296,297,303,304,310,311,317,318,324,325,329,330,334,335,343,349,350,363,364,377,378,384,385,398,399,405,406,408,409,419,420,426,427,433,434,438,439,443,444,452,458,459,479,480,516,522,523,525,526,534,535,541,542,548,549,555,556,560,561,567,568,574,575,581,582,586,587,593,594,600,601,607,608,612,613,619,620,626,627,633,634,640,641,647,648,652,653]
abbrev S6a (K:za1)(p:Program):Prop:=
 ((((((zas K mainGlobals "Ladder" = some (some (.ref (cA K "Ladder"))))/\(zdc K (cA K "Ladder") Str.empty=true))/\((PySem.W.hasDictIn K (cA K "Ladder")=true)/\(PySem.W.plainOver K (cA K "Ladder")=true)))/\(((zb7 K (.ref (cA K "Ladder")) "__setattr__" = some (some (.builtin "object.__setattr__")))/\(PySem.W.makesIn K (cA K "Ladder")=true))/\(zbk K (.ref (cA K "Ladder"))=true)))/\((((zas K mainGlobals "House" = some (some (.ref (cA K "House"))))/\(zdc K (cA K "House") Str.empty=true))/\(PySem.W.hasDictIn K (cA K "House")=true))/\(((PySem.W.plainOver K (cA K "House")=true)/\(zb7 K (.ref (cA K "House")) "__setattr__" = some (some (.builtin "object.__setattr__"))))/\(PySem.W.makesIn K (cA K "House")=true))))/\(((((zbk K (.ref (cA K "House"))=true)/\(FP K "is_whole_below" (topP p 9)))/\((FP K "is_measure" (topP p 10))/\(FP K "is_road" (topP p 11))))/\(((FP K "is_map" (topP p 12))/\(FP K "checked" (topP p 13)))/\(FP K "added" (topP p 14))))/\((((FP K "least" (topP p 15))/\(FP K "road_cost" (topP p 16)))/\(FP K "turned" (topP p 17)))/\(((FP K "kept_costs" (topP p 19))/\(FP K "kept_costs_turned" (topP p 20)))/\(FP K "climbed" (topP p 21))))))
abbrev S6b (K:za1)(p:Program):Prop:=
 ((((((FP K "climbed_from" (topP p 22))/\(FP K "climbing_to" (topP p 23)))/\((FP K "sums_at_tops" (topP p 24))/\(FP K "swept" (topP p 26))))/\(((FP K "costs_out" (topP p 27))/\(FP K "costs_in" (topP p 28)))/\(FP K "costs_at" (topP p 29))))/\((((FP K "table" (topP p 30))/\(FP K "cost_between" (topP p 32)))/\(FP K "arcs_by_prices" (topP p 33)))/\(((FP K "way_by_prices" (topP p 34))/\(FP K "ask" (topP p 35)))/\(FP K "cost_so_far" (topP p 38)))))/\(((((FP K "lay" (topP p 39))/\(FP K "lay_over" (topP p 40)))/\((FP K "laid_arcs" (topP p 41))/\(FP K "is_order" (topP p 43))))/\(((FP K "checked_order" (topP p 44))/\(FP K "costs_from" (topP p 50)))/\(FP K "costs_to" (topP p 51))))/\((((FP K "order_or_ranked" (topP p 53))/\(FP K "kept_arcs" (topP p 54)))/\(FP K "road_under" (topP p 55)))/\(((MP K (cA K "Ladder") "order" "Ladder.order" (inClass (topP p 56) 2))/\(MP K (cA K "Ladder") "checked_arc" "Ladder.checked_arc" (inClass (topP p 56) 4)))/\(MP K (cA K "Ladder") "cost" "Ladder.cost" (inClass (topP p 56) 5))))))
abbrev S6 (K:za1)(p:Program):Prop:=S6a K p/\S6b K p
def mWa (w:World):S6a (Kp R1 zP0 w) zP0:=by
 unfold S6a
 and_intros<;>first|exact zZ|exact aaa|exact aab|kernel_rfl
def mWb (w:World):S6b (Kp R1 zP0 w) zP0:=by
 unfold S6b
 and_intros<;>first|exact zZ|exact aaa|exact aab|kernel_rfl
def mW (w:World):S6 (Kp R1 zP0 w) zP0:=⟨mWa w,mWb w⟩
abbrev S7a (K:za1)(p:Program):Prop:=
 ((((((MP K (cA K "Ladder") "unpacked" "Ladder.unpacked" (inClass (topP p 56) 7))/\(MP K (cA K "Ladder") "kept" "Ladder.kept" (inClass (topP p 56) 8)))/\((FP K "with_length" (topP p 58))/\(FP K "checked_place" (topP p 60))))/\(((FP K "with_lengths" (topP p 62))/\(FP K "shut_lengths" (topP p 63)))/\(MP K (cA K "House") "ladder" "House.ladder" (inClass (topP p 64) 3))))/\((((FP K "lies_over" (topP p 66))/\(FP K "label_by" (topP p 67)))/\(FP K "label_out" (topP p 68)))/\(((FP K "label_into" (topP p 69))/\(FP K "met" (topP p 70)))/\(FP K "_law_cell_at" (topP p 72)))))/\(((((FP K "_law_mixed" (topP p 73))/\(FP K "_law_road" (topP p 74)))/\((FP K "_law_map" (topP p 75))/\(FP K "_law_order" (topP p 76))))/\(((FP K "_law_plus" (topP p 77))/\(FP K "_law_least" (topP p 78)))/\(FP K "_law_all" (topP p 79))))/\((((FP K "_law_cost" (topP p 80))/\(FP K "_law_copy" (topP p 81)))/\(FP K "_law_first" (topP p 82)))/\(((FP K "_law_rows" (topP p 83))/\(FP K "_law_columns" (topP p 84)))/\(zas K mainGlobals "all" = some none)))))
abbrev S7b (K:za1)(p:Program):Prop:=
 ((((((zas K mainGlobals "any" = some none)/\(zas K mainGlobals "bool" = some none))/\((zas K mainGlobals "dict" = some none)/\(zas K mainGlobals "enumerate" = some none)))/\(((zas K mainGlobals "int" = some none)/\(zas K mainGlobals "isinstance" = some none))/\(zas K mainGlobals "len" = some none)))/\((((zas K mainGlobals "list" = some none)/\(zas K mainGlobals "min" = some none))/\(zas K mainGlobals "range" = some none))/\(((zas K mainGlobals "reversed" = some none)/\(zas K mainGlobals "sorted" = some none))/\(zas K mainGlobals "tuple" = some none))))/\(((((zas K mainGlobals "ask_asks" = zas K mainGlobals "ask")/\(zb7 K (.ref (cA K "House")) "done" = some none))/\(zb7 K (.ref (cA K "House")) "own_map" = some none))/\(((zb7 K (.ref (cA K "House")) "own_order" = some none)/\(zb7 K (.ref (cA K "Ladder")) "kept_ones" = some none))/\(zb7 K (.ref (cA K "Ladder")) "laid" = some none)))/\((((zb7 K (.ref (cA K "Ladder")) "own_map" = some none)/\(zb7 K (.ref (cA K "Ladder")) "own_order" = some none))/\(IP K (cA K "Ladder") "__init__" "Ladder.__init__" (inClass (topP p 56) 0)))/\(((IP K (cA K "House") "__init__" "House.__init__" (inClass (topP p 64) 0))/\(IP K (cA K "House") "ask" "House.ask" (inClass (topP p 64) 9)))/\(FP K "law" (topP p 85))))))
abbrev S7 (K:za1)(p:Program):Prop:=S7a K p/\S7b K p
def mXa (w:World):S7a (Kp R1 zP0 w) zP0:=by
 unfold S7a
 and_intros<;>first|exact zZ|exact aaa|exact aab|kernel_rfl
def mXb (w:World):S7b (Kp R1 zP0 w) zP0:=by
 unfold S7b
 and_intros<;>first|exact zZ|exact aaa|exact aab|kernel_rfl
def mX (w:World):S7 (Kp R1 zP0 w) zP0:=⟨mXa w,mXb w⟩
end dq
end
set_option Elab.async false
set_option linter.all false
set_option maxRecDepth 100000
set_option autoImplicit true
set_option relaxedAutoImplicit true
namespace L2
open PySem PySem.Spec PyProof.Rows
noncomputable abbrev Key:=Sum Int Str
variable {w:World}{h h':Heap}{a dx C:Addr}{e c:Expr}{pins:List (Addr×Obj)}{s:Shared}{pos apos:Pos}{E:Value->Shared->Prop}{A:Around}{es:List Expr}{fd:FuncData}{ps:List Str}
abbrev O4:Key->Value->Bool
 | .inl k,v=>Value.isInt k v
 | .inr x,v=>Value.isStrOf x v
abbrev aci (w:World):Key->Int
 | .inl k=>hashInt k
 | .inr x=>hashStr w x
def BI:∀ {k:Key}{v:Value},O4 k v=true->(∃i t,k=Sum.inl i/\v=Value.int i t)\/(∃x t,k=Sum.inr x/\v=Value.str x t)
 | .inl i,v,h=>by
  obtain⟨t,e⟩:=Value.isInt_shape (k:=i) (v:=v) h;exact .inl ⟨i,t,rfl,e⟩
 | .inr x,v,h=>by
  obtain⟨t,e⟩:=Value.isStrOf_shape (x:=x) (v:=v) h;exact .inr ⟨x,t,rfl,e⟩
def Z9 (i:Int)(t:Tok):O4 (.inl i) (.int i t)=true:=by simp[O4,Value.isInt]
def Za (x:Str)(t:Tok):O4 (.inr x) (.str x t)=true:=by simp[O4,Value.isStrOf]
def uF (a b:Int):decide ((Sum.inl a:Key)=Sum.inl b)=(a==b):=by
 by_cases e:a=b
 ·subst e;simp
 ·have h:¬ (Sum.inl a:Key)=Sum.inl b:=λ q=>e (Sum.inl.inj q);rw[decide_eq_false h];exact (beq_eq_false_iff_ne.mpr e).symm
def uG (a b:Str):decide ((Sum.inr a:Key)=Sum.inr b)=decide (a=b):=by
 by_cases e:a=b
 ·subst e;simp
 ·have h:¬ (Sum.inr a:Key)=Sum.inr b:=λ q=>e (Sum.inr.inj q);rw[decide_eq_false h,decide_eq_false e]
def uH (a:Int)(b:Str):decide ((Sum.inl a:Key)=Sum.inr b)=false:=decide_eq_false (λ q=>nomatch q)
def uI (a:Str)(b:Int):decide ((Sum.inr a:Key)=Sum.inl b)=false:=decide_eq_false (λ q=>nomatch q)
abbrev AM (prog:Program)(w:World):PySem.KeyKind prog w Key where
 is:=O4
 hash:=aci w
 inj:=λ v a b ha hb=>by
  rcases BI ha with ⟨i,t,rfl,rfl⟩|⟨x,t,rfl,rfl⟩
  ·rcases BI hb with ⟨j,u,rfl,e⟩|⟨y,u,rfl,e⟩
   ·injection e with e1 _;rw[e1]
   ·exact nomatch e
  ·rcases BI hb with ⟨j,u,rfl,e⟩|⟨y,u,rfl,e⟩
   ·exact nomatch e
   ·injection e with e1 _;rw[e1]
 byValue:=λ k v h=>by
  rcases BI h with ⟨i,t,rfl,rfl⟩|⟨x,t,rfl,rfl⟩<;>rfl
 pyHash:=λ hv h=>by
  rcases BI hv with ⟨i,t,rfl,rfl⟩|⟨x,t,rfl,rfl⟩
  ·exact wpAny_pyHash_int h
  ·exact wpAny_pyHash_str h
 eqBool:=λ hu hv h=>by
  rcases BI hu with ⟨i,t,rfl,rfl⟩|⟨x,t,rfl,rfl⟩
  ·rcases BI hv with ⟨j,u,rfl,rfl⟩|⟨y,u,rfl,rfl⟩
   ·rw[uF] at h;exact wpAny_eqBool_int h
   ·rw[uH] at h;exact SeqAt.EqAt.int_str i t y u _ _ _ _ h
  ·rcases BI hv with ⟨j,u,rfl,rfl⟩|⟨y,u,rfl,rfl⟩
   ·rw[uI] at h;exact SeqAt.EqAt.str_int x t j u _ _ _ _ h
   ·rw[uG] at h;exact wpAny_eqBool_str h
 «strs»:=λ k x t v h=>by
  rcases BI h with ⟨i,u,rfl,e⟩|⟨y,u,rfl,e⟩
  ·exact nomatch e
  ·injection e with e1 _
   subst e1;cases v<;>rfl
def U1 (prog:Program)(w:World)(i:Int)(t:Tok):(AM prog w).is (.inl i) (.int i t)=true:=Z9 i t
def U2 (prog:Program)(w:World)(x:Str)(t:Tok):(AM prog w).is (.inr x) (.str x t)=true:=Za x t
inductive V where
 |AV|bl (b:Bool)|int (i:Int)|str (x:Str)|uJ (b:Array UInt8)|flt (b:UInt64)|ref (a:Addr)|ty (n:String)
 deriving DecidableEq
abbrev RelV:V->Value->Prop
 | .AV,u=>u=Value.none
 | .bl b,u=>u=Value.bool b
 | .int i,u=>∃t,u=Value.int i t
 | .str x,u=>∃t,u=Value.str x t
 | .uJ b,u=>∃t,u=Value.bytes b t
 | .flt b,u=>∃t,u=Value.float b t
 | .ref a,u=>u=zbl a
 | .ty n,u=>u=Value.type n
noncomputable abbrev Vals:List V->List Value->Prop:=Paired RelV
def Vals.length (r:Vals xs us):xs.length=us.length:=zd5 r
def Vals.get:∀ {xs:List V}{us:List Value}{i:Nat}{x:V},Vals xs us->xs[i]?=some x->∃u,us[i]?=some u/\RelV x u
 |_,_,_,_,.nil,e=>by simp at e
 |_,_,0,_,.cons r _,e=>by simp at e;subst e;exact⟨_,rfl,r⟩
 |_,_,i+1,x,.cons _ t,e=>by
  obtain⟨u,h1,h2⟩:=Vals.get (i:=i) (x:=x) t (by simpa using e);exact⟨u,by simpa using h1,h2⟩
def Vals.set (r:RelV x u):∀ {xs:List V}{us:List Value}(i:Nat),Vals xs us->Vals (xs.set i x) (us.set i u)
 |_,_,_,.nil=>.nil
 |_,_,0,.cons _ t=>.cons r t
 |_,_,i+1,.cons q t=>.cons q (Vals.set r i t)
def Vals.append:∀ {xs ys:List V}{us ws:List Value},Vals xs us->Vals ys ws->Vals (xs++ys) (us++ws)
 |_,_,_,_,.nil,s=>s
 |_,_,_,_,.cons r t,s=>.cons r (Vals.append t s)
def Vals.take:∀ {xs:List V}{us:List Value}(n:Nat),Vals xs us->Vals (xs.take n) (us.take n)
 |_,_,0,_|_,_,_+1,.nil=>.nil
 |_,_,n+1,.cons r t=>.cons r (Vals.take n t)
def Vals.drop:∀ {xs:List V}{us:List Value}(n:Nat),Vals xs us->Vals (xs.drop n) (us.drop n)
 |_,_,0,r=>r
 |_,_,_+1,.nil=>.nil
 |_,_,n+1,.cons _ t=>Vals.drop n t
abbrev Hz:Option V->Option Value->Prop
 |some v,some u=>RelV v u
 |none,none=>True
 |_,_=>False
abbrev KV {κ:Type}:List (κ×V)->List (κ×Value)->Prop:=Paired λ(p:κ×V) (q:κ×Value)=>p.1=q.1/\RelV p.2 q.2
abbrev kV:Key->V
 | .inl i=>.int i
 | .inr x=>.str x
inductive HO where
 |lst (xs:List V)
 |tup (xs:List V)
 |dK (kvs:List (Key×V))|dT (kvs:List (List Key×V))
 |set (S:Int->Bool) (n:Nat)
 |ins (C dx:Addr) (fs:List (Str×V))
 |own (x:Addr)
 |xd (fs:List (Str×V))
 |met (f x:Addr)
 |rng (lo hi:Int)
 |Hg (o:Obj) (u:HO)
 |uK (ps:Array Value)
 |ext (φ:Heap->Prop)
noncomputable abbrev Hp:=Addr->Option HO
variable {H H':Hp}
abbrev upd (H:Hp)(a:Addr)(o:HO):Hp:=λ b=>if b=a then some o else H b
def Am:upd H a o a=some o:=by unfold upd;rw[if_pos rfl]
def Ag (h:b≠a):upd H a o b=H b:=by unfold upd;rw[if_neg h]
def aae (h:H a=some o)(h':H b=some u)(d:o≠u):a≠b:=by
 intro e;subst e;rw[h] at h';exact d (zb0 h')
def AQ (h:H a=some o)(h':H b=none):a≠b:=by
 intro e;subst e;rw[h] at h';cases h'
section
variable (P:Program) (w:World)
abbrev Br (H:Hp)(h:Heap)(a:Addr):HO->Prop
 | .lst xs=>xs.length<=sizeLine/\∃(aa:List Value) (n:Nat),Vals xs aa/\h.get? a=some {cls:=.type "list",data:=.seq aa.toArray n}
 | .tup xs=>xs.length<=sizeLine/\∃aa:List Value,Vals xs aa/\IsTup h a aa.toArray
 | .dK kvs=>kvs.length<=sizeLine/\(a==sysModules)=false/\∃vs,KV kvs vs/\h.DictOf (AM P w) a vs
 | .dT kvs=>kvs.length<=sizeLine/\(a==sysModules)=false/\∃xs:List (List Key×Addr×Value),
  Paired (λ(p:List Key×V) (q:List Key×Addr×Value)=>p.1=q.1/\H q.2.1=some (.tup (p.1.map kV))/\RelV p.2 q.2.2) kvs xs/\
  ∃o es ep,h.get? a=some o/\o.ExactDict/\o.data=.dict es ep/\es.toList=xs.map (entryOfKey (tupleKind (AM P w)))/\(xs.map (·.1)).Nodup
 | .set S n=>h.SetOf (intKind P w) a S n
 | .ins C dx fs=>H dx=some (.own a)/\fs.length<=1000/\dx≠a/\h.get? a=some (zcs C dx)/\
  ∃mA,h.Ns1 dx mA/\(∀f,Hz (fs.lookup f) (mA f))/\PySem.Within mA (fs.map (·.1))
 | .own _=>∃o,h.get? a=some o
 | .xd fs=>∃mA,h.Ns1 a mA/\∀f,Hz (fs.lookup f) (mA f)
 | .rng lo hi=>∃t u v,h.get? a=some {cls:=.type "range",data:=.fields #[.int lo t,.int hi u,.int 1 v]}
 | .Hg o u=>h.get? a=some o/\Br H h a u
 | .uK ps=>h.get? a=some {cls:=.none,data:=.fields ps}
 | .met f x=>h.get? a=some (PySem.W.methodObj (.ref f) (.ref x))
 | .ext φ=>φ h/\(∃o,h.get? a=some o)/\∀h1 h2:Heap,φ h1->(∀o,h1.get? a=some o->h2.get? a=some o)->φ h2
abbrev Hh (H:Hp)(h:Heap):Prop:=∀a o,H a=some o->Br P w H h a o
end
section
variable {P:Program}{o:HO}
def Br.lt (x:Br P w H h a o):a<h.objs.size:=by
 cases o with
 |lst xs=>obtain⟨_,_,_,_,e⟩:=x;exact zak e
 |tup xs=>obtain⟨_,_,_,p⟩:=x;exact p.lt
 |dK kvs|dT kvs=>obtain⟨_,_,_,_,o,_,_,e,_⟩:=x;exact zak e
 |set S n=>obtain⟨o,_,_,_,e,_⟩:=x;exact zak e
 |ins C dx fs=>obtain⟨_,_,_,e,_⟩:=x;exact zak e
 |own y=>obtain⟨_,e⟩:=x;exact zak e
 |xd fs=>obtain⟨_,⟨_,_,_,e,_⟩,_⟩:=x;exact zak e
 |rng lo hi=>obtain⟨_,_,_,e⟩:=x;exact zak e
 |Hg ob u=>obtain⟨e,_⟩:=x;exact zak e
 |uK ps|met f y=>exact zak (show h.get? a=some _ from x)
 |ext φ=>obtain⟨_,⟨_,e⟩,_⟩:=x;exact zak e
def Paired.uL {α β:Type}{F G:α->β->Prop}:∀ {l₁:List α}{l₂:List β},Paired F l₁ l₂->(∀a b,F a b->G a b)->Paired G l₁ l₂
 |_,_,.nil,_=>.nil
 |_,_,.cons r t,f=>.cons (f _ _ r) (Paired.uL t f)
def Br.Nc (x:Br P w H h a o)(k:∀b u,(b=a\/H b=some (.own a))->h.get? b=some u->h'.get? b=some u)
 (ho:∀b,H b=some (.own a)->H' b=some (.own a)) (ht:∀b xs,H b=some (.tup xs)->H' b=some (.tup xs)):Br P w H' h' a o:=by
 induction o with
 |lst xs=>obtain⟨z,aa,n,r,e⟩:=x;exact⟨z,aa,n,r,k _ _ (.inl rfl) e⟩
 |tup xs=>obtain⟨z,aa,r,ob,e,c⟩:=x;exact⟨z,aa,r,ob,k _ _ (.inl rfl) e,c⟩
 |dK kvs=>obtain⟨z,y,vs,r,ob,es,ep,e,c⟩:=x;exact⟨z,y,vs,r,ob,es,ep,k _ _ (.inl rfl) e,c⟩
 |dT kvs =>
  obtain⟨z,y,xs,r,ob,es,ep,e,c⟩:=x;exact⟨z,y,xs,Paired.uL r λ p q z=>⟨z.1,ht _ _ z.2.1,z.2.2⟩,ob,es,ep,k _ _ (.inl rfl) e,c⟩
 |set S n=>obtain⟨ob,es,ep,t,e,c⟩:=x;exact⟨ob,es,ep,t,k _ _ (.inl rfl) e,c⟩
 |ins C dx fs =>
  obtain⟨d,z,ne,e,mA,⟨od,es,ep,e2,c⟩,r⟩:=x;exact⟨ho _ d,z,ne,k _ _ (.inl rfl) e,mA,⟨od,es,ep,k _ _ (.inr d) e2,c⟩,r⟩
 |own y=>obtain⟨ob,e⟩:=x;exact⟨ob,k _ _ (.inl rfl) e⟩
 |xd fs=>obtain⟨mA,⟨od,es,ep,e,c⟩,r⟩:=x;exact⟨mA,⟨od,es,ep,k _ _ (.inl rfl) e,c⟩,r⟩
 |rng lo hi=>obtain⟨t,u,v,e⟩:=x;exact⟨t,u,v,k _ _ (.inl rfl) e⟩
 |Hg ob u ih=>obtain⟨e,q⟩:=x;exact⟨k _ _ (.inl rfl) e,ih q⟩
 |uK ps =>
  have e:h.get? a=some {cls:=.none,data:=.fields ps}:=x;show h'.get? a=some {cls:=.none,data:=.fields ps};exact k a _ (.inl rfl) e
 |met f y =>
  have e:h.get? a=some (PySem.W.methodObj (.ref f) (.ref y)):=x;show h'.get? a=some (PySem.W.methodObj (.ref f) (.ref y));exact k a _ (.inl rfl) e
 |ext φ=>obtain⟨p,⟨o,e⟩,st⟩:=x;exact⟨st _ _ p λ o q=>k _ _ (.inl rfl) q,⟨o,k _ _ (.inl rfl) e⟩,st⟩
def Hh.lt (x:Hh P w H h)(e:H a=some o):a<h.objs.size:=(x a o e).lt
def Hh.fresh (x:Hh P w H h)(e:h.objs.size<=a):H a=none:=by
 cases q:H a with
 |none=>rfl
 |some u=>exact absurd (zaq (x.lt q) e) (Nat.lt_irrefl _)
def Hh.kept (x:Hh P w H h)(k:∀b u,h.get? b=some u->h'.get? b=some u):Hh P w H h':=λ a o e =>
 (x a o e).Nc (λ b u _ q=>k b u q) (λ _ q=>q) λ _ _ q=>q
def Hh.laid (x:Hh P w H h)(k:∀b u,h.get? b=some u->h'.get? b=some u)(hp:h.objs.size<=a)(new:Br P w (upd H a o) h' a o):Hh P w (upd H a o) h':=λ b u e=>by
 have hn:=x.fresh hp;by_cases hb:b=a
 ·subst hb;rw[Am] at e;cases e;exact new
 ·rw[Ag hb] at e;exact (x b u e).Nc (λ c v _ q=>k c v q) (λ c q=>by rw[Ag (AQ q hn)];exact q) λ c xs q=>by rw[Ag (AQ q hn)];exact q
end
abbrev Rd (H:Hp)(a:Addr)(u:HO):Prop:=H a=some u\/∃o,H a=some (.Hg o u)
def Rd.ok (r:Rd H a u)(x:Hh P w H h):Br P w H h a u:=by
 rcases r with r|⟨o,r⟩
 ·exact x a u r
 ·obtain⟨_,q⟩:=x a _ r;exact q
abbrev Mut:Option HO->Prop
 |some (.lst _)|some (.dK _)|some (.dT _)|some (.set _ _)|some (.ins _ _ _)|some (.ext _)=>True
 |_=>False
section
variable {P:Program}{x e:Addr}{o':HO}
def Hh.write (ok:Hh P w H h)(mu:Mut (H x))(he:e=x\/H e=some (.own x))(k:∀b u,b≠e->h.get? b=some u->h'.get? b=some u)(e9:∃u,h'.get? e=some u)
 (new:Br P w (upd H x o') h' x o'):Hh P w (upd H x o') h':=λ b u q=>by
 have jf:∀c y,H c=some (.own y)->c≠x:=λ c y r z=>by subst z;rw[r] at mu;exact mu
 have oy:∀c xs,H c=some (.tup xs)->c≠x:=λ c xs r z=>by subst z;rw[r] at mu;exact mu
 by_cases hb:b=x
 ·subst hb;rw[Am] at q;cases q;exact new
 ·rw[Ag hb] at q;by_cases ga:b=e
  ·have q':H b=some (.own x):=by
    rcases he with z|z
    ·exact absurd (ga.trans z) hb
    ·rw[ga];exact z
   rw[q] at q';cases q';obtain⟨v,hv⟩:=e9;exact⟨v,by rw[ga];exact hv⟩
  ·refine (ok b u q).Nc (λ c v hc r=>k c v ?_ r) (λ c r=>by rw[Ag (jf c b r)];exact r) λ c xs r=>by rw[Ag (oy c xs r)];exact r
   rcases hc with rfl|hc
   ·exact ga
   ·rintro rfl;rcases he with z|z
    ·exact jf c b hc z
    ·rw[hc] at z;cases z;exact hb rfl
end
structure Un (fs ex:List Addr)(H H':Hp)(h h':Heap):Prop where
 keep:∀b o,h.get? b=some o->H b=none->b∉fs->b∉ex->h'.get? b=some o
 slot:∀b o,h.get? b=some o->H b=none->b∈fs->b∉ex->∃sl,h'.get? b=some {o with slots:=sl}
 free:∀b o,h.get? b=some o->H b=none->b∉ex->H' b=none
 there:∀b o,h.get? b=some o->b∉ex->∃o',h'.get? b=some o'
 Qs:∀b xs,H b=some (.tup xs)->H' b=some (.tup xs)
 Nd:∀b o u,H b=some (.Hg o u)->H' b=some (.Hg o u)
 Qt:∀b ps,H b=some (.uK ps)->∃more,H' b=some (.uK (ps++more))
section
variable {fs ci ex o7:List Addr}{H1 H2:Hp}{h1 h2:Heap}{x e:Addr}{o:HO}
def Un.any (u:Un fs ex H H1 h h1)(q:h.get? b=some ob)(n:H b=none)(hx:b∉ex):∃sl,h1.get? b=some {ob with slots:=sl}:=by
 by_cases hb:b∈fs
 ·exact u.slot b ob q n hb hx
 ·exact⟨ob.slots,u.keep b ob q n hb hx⟩
def Un.kept (k:∀b u,h.get? b=some u->h'.get? b=some u):Un fs ex H H h h':=
 ⟨λ b ob q _ _ _=>k b ob q,λ b ob q _ _ _=>⟨ob.slots,k b ob q⟩,λ _ _ _ n _=>n,λ b ob q _=>⟨ob,k b ob q⟩,λ _ _ q=>q,λ _ _ _ q=>q,λ _ ps q=>⟨#[],by rw[q];simp⟩⟩
def Un.refl:Un fs ex H H h h:=Un.kept λ _ _ q=>q
def Un.laid (k:∀b u,h.get? b=some u->h'.get? b=some u)(hp:h.objs.size<=a)(hn:H a=none):Un fs ex H (upd H a o) h h' where
 keep:=λ b u q _ _ _=>k b u q
 slot:=λ b u q _ _ _=>⟨u.slots,k b u q⟩
 free:=λ b u q n _=>by rw[Ag (zax (zaq (zak q) hp))];exact n
 there:=λ b u q _=>⟨u,k b u q⟩
 Qs:=λ b xs q=>by rw[Ag (AQ q hn)];exact q
 Nd:=λ b u xs q=>by rw[Ag (AQ q hn)];exact q
 Qt:=λ b ps q=>⟨#[],by rw[Ag (AQ q hn),q];simp⟩
def Un.write (mu:Mut (H x))(he:e=x\/H e=some (.own x))(k:∀b u,b≠e->h.get? b=some u->h'.get? b=some u)(e9:∃u,h'.get? e=some u):Un fs ex H (upd H x o) h h':=by
 have hx:∀b,H b=none->b≠x:=λ b n z=>by subst z;rw[n] at mu;exact mu
 have hb:∀b,H b=none->b≠e:=λ b n z=>by
  subst z;rcases he with r|r
  ·exact hx b n r
  ·rw[n] at r;cases r
 have hm:∀b u,H b=some u->¬ Mut (some u)->b≠x:=λ b u q nm z=>by subst z;rw[q] at mu;exact nm mu
 refine⟨λ b u q n _ _=>k b u (hb b n) q,λ b u q n _ _=>⟨u.slots,k b u (hb b n) q⟩,λ b u q n _=>by rw[Ag (hx b n)];exact n,λ b u q _=>?_,
  λ b xs q=>by rw[Ag (hm b _ q λ z=>z)];exact q,λ b u xs q=>by rw[Ag (hm b _ q λ z=>z)];exact q,λ b ps q=>⟨#[],by rw[Ag (hm b _ q λ z=>z),q];simp⟩⟩
 by_cases ga:b=e
 ·subst ga;exact e9
 ·exact⟨u,k b u ga q⟩
end
abbrev BQ (h:Heap)(H:Hp):List Addr:=(zaj h.objs.size).filter λ a=>(H a).isSome
abbrev S8 (h:Heap)(H:Hp):Heap:=PySem.W.hideAll h (BQ h H)
def Zb (h:Heap)(H:Hp):(S8 h H).objs.size=h.objs.size:=PySem.W.hideAll_size _ _
def dW (e:h.get? b=some o)(n:H b=none):(S8 h H).get? b=some o:=
 PySem.W.hideAll_get _ e λ hm=>by
  have q:(H b).isSome=true:=(zbc.mp hm).2;rw[n] at q;simp at q
def mY (e:(S8 h H).get? b=some o):h.get? b=some o/\H b=none:=by
 have e':h.get? b=some o:=PySem.W.of_hideAll (BQ h H) e;refine⟨e',?_⟩;cases q:H b with
 |none=>rfl
 |some x =>
  have hm:b∈BQ h H:=zbc.mpr ⟨zbz.mpr (zak e'),by simp[q]⟩;have z:(S8 h H).get? b=none:=PySem.W.hideAll_none (BQ h H) hm;rw[z] at e;cases e
abbrev mZ (g h:Heap)(L:Addr):List (Addr×Obj):=(zaj h.objs.size).filterMap λ a=>if a=L\/(g.get? a).isSome=true then none else (h.get? a).map λ o=>(a,o)
abbrev rest (g h:Heap)(L d:Addr):List (Addr×Obj):=(mZ g h L).filter λ p=>decide (p.1≠d)
structure Mod (K:za1)(mg:Str->Option Value)(base:Heap):Prop where
 Wl:K.In base
 glob:base.Ns mainGlobals mg
 blt:∃mb,base.Ns builtinsNs mb/\∀x:Str,x ≠ "__name__" -> mb x=bootBuiltins x
 nolimit:base.NoLimit
structure Cx where
 prog:Program
 w:World
 K:za1
 mg:Str->Option Value
 base:Heap
 A:Around
 N:List Str
 s₀:Shared
 H₀:Hp
 env:Env
 outer:List Env
 stack:List Env
 ex:List Addr
 fn:Str->Bool
 calm:Bool
 pn:List (Addr×Obj)
 xe:Value->Shared->Prop
variable {X:Cx}
abbrev dP (l:List Env):List Addr:=l.filterMap (·.frame)
noncomputable abbrev Cx.fs (X:Cx):List Addr:=dP X.outer
abbrev Vis (sc:Scope)(x:Str):Prop:=sc.names.lookup x=some .local\/sc.names.lookup x=some .cell\/sc.names.lookup x=some .free
abbrev Loc (sc:Scope)(x:Str):Prop:=sc.names.lookup x=some .local\/sc.names.lookup x=some .cell
abbrev Look (env:Env)(h:Heap)(m:Str->Option Value)(x:Str)(u:Value):Prop:=
 (env.kindOf x=some .local/\m x=some u)\/((env.kindOf x=some .cell\/env.kindOf x=some .free)/\∃c,env.cells.lookup x=some c/\h.IsCell c (some u))
structure Cx.Ok (X:Cx):Prop where
 mod:Mod X.K X.mg X.base
 kind:X.env.scope.kind=.function
 glob:X.env.globals=mainGlobals
 blt:X.env.builtins=builtinsNs
 above:X.s₀.heap.objs.size<=X.env.locals
 inj:∀x y c,X.env.cells.lookup x=some c->X.env.cells.lookup y=some c->x=y
 has:∀x,(X.env.kindOf x=some .cell\/X.env.kindOf x=some .free)->∃c,X.env.cells.lookup x=some c
 cab:∀x c,X.fn x=true->X.env.cells.lookup x=some c->X.s₀.heap.objs.size<=c
 hd:X.calm=true->X.A.handled=none
 frames:X.A.frames=some X.stack
 stk:X.stack=X.outer\/(X.stack=X.env::X.outer/\X.env.frame=some X.env.locals)
 exf:∀b∈X.ex,b≠X.env.locals/\∀x c,X.env.cells.lookup x=some c->c≠b
 bs:∀b o,X.base.get? b=some o->X.s₀.heap.get? b=some o/\X.H₀ b=none
 sM:X.base.objs.size<=X.s₀.heap.objs.size
 dX:∀b o,X.base.get? b=some o->b∉X.ex
 dY:∀b∈X.ex,b∉X.fs
 LH:X.s₀.heap.FunFrames X.base X.outer
 uM:∀b∈X.fs,X.H₀ b=none
structure Inv (X:Cx)(pins:List (Addr×Obj))(σ:List (Option V))(H:Hp)(s:Shared):Prop where
 ok:X.Ok
 os:s.os=X.s₀.os
 bare:AllBare s.gens
 base:Un X.fs X.ex X.H₀ H X.s₀.heap s.heap
 loc:∃m,s.heap.Ns X.env.locals m/\∀(i:Nat) (x:Str) (v:V),X.N[i]?=some x->σ[i]?=some (some v)->Vis X.env.scope x->∃u,RelV v u/\Look X.env s.heap m x u
 cell:∀x c,X.env.cells.lookup x=some c->∃v,s.heap.IsCell c v
 free:H X.env.locals=none
 FX:∀x c,X.env.cells.lookup x=some c->H c=none
 pin:∀p∈X.pn++pins,s.heap.get? p.1=some p.2/\H p.1=none/\p.1≠X.env.locals/\p.1∉X.fs/\∀v,p.2.data≠.cell v
 Aw:Hh X.prog X.w H s.heap
 len:σ.length=X.N.length
section
variable {σ:List (Option V)}
def Cx.Ok.acm (ok:X.Ok)(e:X.base.get? b=some o):b∉X.fs:=λ hb=>by
 have:=(ok.LH.mem hb).1;rw[e] at this;cases this
def Inv.bs (I:Inv X pins σ H s):∀b o,X.base.get? b=some o->s.heap.get? b=some o/\H b=none:=λ b o e =>
 ⟨I.base.keep b o (I.ok.bs b o e).1 (I.ok.bs b o e).2 (I.ok.acm e) (I.ok.dX b o e),I.base.free b o (I.ok.bs b o e).1 (I.ok.bs b o e).2 (I.ok.dX b o e)⟩
def Inv.bk (I:Inv X pins σ H s):∀b o,X.base.get? b=some o->s.heap.get? b=some o:=λ b o e=>(I.bs b o e).1
def Inv.mod (I:Inv X pins σ H s):Mod X.K X.mg X.base:=I.ok.mod
def Inv.NL (I:Inv X pins σ H s):X.K.In s.heap:=I.ok.mod.Wl.keeps I.bk
def Inv.lt (I:Inv X pins σ H s):X.env.locals<s.heap.objs.size:=let ⟨_,hn,_⟩:=I.loc;hn.lt
def Inv.sz (I:Inv X pins σ H s):X.s₀.heap.objs.size<=s.heap.objs.size:=zc4 I.ok.above (zbs I.lt)
def Inv.acn (I:Inv X pins σ H s)(h:s.heap.objs.size<=a):a∉X.fs:=λ hb=>by
 obtain⟨_,o,ho,_⟩:=I.ok.LH.mem hb;exact absurd (zaq (zak ho) (zc4 I.sz h)) (Nat.lt_irrefl _)
def Inv.uN (I:Inv X pins σ H s):∀x c,X.env.cells.lookup x=some c->c≠X.env.locals:=λ x c e z=>by
 obtain⟨v,o,ho,hd⟩:=I.cell x c e;obtain⟨m,⟨o',es,ep,ba,bp,_⟩,_⟩:=I.loc;rw[z,ba] at ho;cases ho;rw[bp] at hd;cases hd
def Inv.LH (I:Inv X pins σ H s):s.heap.FunFrames X.base X.outer:=by
 have all:∀(l:List Env),(∀b∈dP l,b∈X.fs)->X.s₀.heap.FunFrames X.base l->s.heap.FunFrames X.base l:=by
  intro l;induction l with
  |nil=>intro _ _;trivial
  |cons env r ih =>
   intro hs hl;obtain⟨hk,⟨L,o,hf,hn,ho,hd⟩,hr⟩:=hl;have hL:L∈X.fs:=hs L (by unfold dP;rw[zbj,hf];exact za3);obtain⟨sl,e⟩:=I.base.slot L o ho (I.ok.uM L hL) hL λ z=>I.ok.dY L z hL;exact⟨hk,⟨L,_,hf,hn,e,hd⟩,ih (λ b hb=>hs b (by unfold dP;rw[zbj,hf];exact za4 _ hb)) hr⟩
 exact all X.outer (λ _ hb=>hb) I.ok.LH
def Inv.stack (I:Inv X pins σ H s):s.heap.FunFrames X.base X.stack:=by
 rcases I.ok.stk with e|⟨e,hf⟩
 ·rw[e];exact I.LH
 ·rw[e];obtain⟨m,hn,_⟩:=I.loc;refine .cons (by rw[I.ok.kind];decide) hf hn ?_ I.LH;exact Heap.get?_none_of_le (zc4 I.ok.sM I.ok.above)
def Inv.Wr (I:Inv X pins σ H s):∀b∈dP X.stack,b∈X.env.locals::X.fs:=λ b hb=>by
 rcases I.ok.stk with e|⟨e,hf⟩
 ·rw[e] at hb;exact za4 _ hb
 ·rw[e] at hb;unfold dP at hb;rw[zbj,hf] at hb;exact hb
def Inv.XX (I:Inv X pins σ H s):∀b∈dP X.stack,H b=none:=λ b hb=>by
 rcases zab.mp (I.Wr b hb) with e|hb
 ·rw[e];exact I.free
 ·obtain⟨_,o,ho,_⟩:=I.ok.LH.mem hb;exact I.base.free b o ho (I.ok.uM b hb) λ z=>I.ok.dY b z hb
def Inv.step {ch:List Addr}(I:Inv X pins σ H s)(br:∀b∈ch,(b∈X.ex\/X.s₀.heap.objs.size<=b)/\b≠X.env.locals/\(∀x c,X.env.cells.lookup x=some c->c≠b)/\∀p∈X.pn++pins,p.1≠b)(keep:∀b o,b≠X.env.locals->b∉X.fs->b∉ch->s.heap.get? b=some o->H b=none->h'.get? b=some o)(slot:∀b o,b≠X.env.locals->b∈X.fs->b∉ch->s.heap.get? b=some o->H b=none->∃sl,h'.get? b=some {o with slots:=sl})(free:∀b o,b∉ch->s.heap.get? b=some o->H b=none->H' b=none)(there:∀b o,b∉ch->s.heap.get? b=some o->∃o',h'.get? b=some o')(Qs:∀b xs,H b=some (.tup xs)->H' b=some (.tup xs))(Nd:∀b o u,H b=some (.Hg o u)->H' b=some (.Hg o u))(Qt:∀b ps,H b=some (.uK ps)->∃more,H' b=some (.uK (ps++more)))(ns:∀m,s.heap.Ns X.env.locals m->h'.Ns X.env.locals m)(Aw:Hh X.prog X.w H' h')(hg:AllBare g'):
 Inv X pins σ H' {s with heap:=h',gens:=g',drawn:=d',toks:=t' }:=by
 have uv:∀b o,X.s₀.heap.get? b=some o->b≠X.env.locals:=λ b o e=>zax (zaq (zak e) I.ok.above);have iw:∀b o,X.s₀.heap.get? b=some o->b∉X.ex->b∉ch:=λ b o e hx hb=>by
  rcases (br b hb).1 with z|z
  ·exact hx z
  ·exact absurd (zaq (zak e) z) (Nat.lt_irrefl _)
 have cellK:∀x c,X.env.cells.lookup x=some c->∀v,s.heap.IsCell c v->h'.IsCell c v:=λ x c e v ⟨o,ho,hd⟩=>by
  have jg:c∉ch:=λ z=>(br c z).2.2.1 x c e rfl;by_cases hc:c∈X.fs
  ·obtain⟨sl,q⟩:=slot c o (I.uN x c e) hc jg ho (I.FX x c e);exact⟨_,q,hd⟩
  ·exact⟨o,keep c o (I.uN x c e) hc jg ho (I.FX x c e),hd⟩
 refine⟨I.ok,I.os,hg,⟨λ b o e n hb hx=>?_,λ b o e n hb hx=>?_,λ b o e n hx=>?_,λ b o e hx=>?_,λ b xs e=>Qs b xs (I.base.Qs b xs e),λ b o xs e=>Nd b o xs (I.base.Nd b o xs e),λ b ps e=>?_⟩,?_,λ x c e=>?_,?_,λ x c e=>?_,λ p hp=>?_,Aw,I.len⟩
 ·exact keep b o (uv b o e) hb (iw b o e hx) (I.base.keep b o e n hb hx) (I.base.free b o e n hx)
 ·obtain⟨sl,e1⟩:=I.base.slot b o e n hb hx;obtain⟨wE,e2⟩:=slot b _ (uv b o e) hb (iw b o e hx) e1 (I.base.free b o e n hx);exact⟨wE,e2⟩
 ·obtain⟨o',e1⟩:=I.base.there b o e hx;exact free b o' (iw b o e hx) e1 (I.base.free b o e n hx)
 ·obtain⟨o',e1⟩:=I.base.there b o e hx;exact there b o' (iw b o e hx) e1
 ·obtain⟨m1,e1⟩:=I.base.Qt b ps e;obtain⟨m2,e2⟩:=Qt b _ e1;exact⟨m1++m2,by rw[e2,Array.append_assoc]⟩
 ·obtain⟨m,hn,hl⟩:=I.loc;refine⟨m,ns m hn,λ i x v e1 e2 e3=>?_⟩;obtain⟨u,r,l⟩:=hl i x v e1 e2 e3;refine⟨u,r,?_⟩;rcases l with l|⟨k,c,e,z⟩
  ·exact .inl l
  ·exact .inr ⟨k,c,e,cellK x c e _ z⟩
 ·obtain⟨v,z⟩:=I.cell x c e;exact⟨v,cellK x c e v z⟩
 ·obtain⟨m,⟨o,_,_,ho,_⟩,_⟩:=I.loc;exact free _ o (λ z=>(br _ z).2.1 rfl) ho I.free
 ·obtain⟨v,o,ho,hd⟩:=I.cell x c e;exact free c o (λ z=>(br c z).2.2.1 x c e rfl) ho (I.FX x c e)
 ·obtain⟨e,n,ne,nf,d⟩:=I.pin p hp;have jg:p.1∉ch:=λ z=>(br p.1 z).2.2.2 p hp rfl;exact⟨keep p.1 p.2 ne nf jg e n,free p.1 p.2 jg e n,ne,nf,d⟩
def Inv.un (I:Inv X pins σ H s)(u:Un X.fs [] H H' s.heap h')(Aw:Hh X.prog X.w H' h'):Inv X pins σ H' {s with heap:=h',toks:=t' }:=by
 obtain⟨m,⟨o,es,ep,ho,r⟩,_⟩:=id I.loc;obtain⟨sl,hL⟩:=u.any ho I.free (by simp);exact I.step (g':=s.gens) (d':=s.drawn) (ch:=[]) (λ _ z=>nomatch z) (λ b o _ hb _ e n=>u.keep b o e n hb (by simp)) (λ b o _ hb _ e n=>u.slot b o e n hb (by simp)) (λ b o _ e n=>u.free b o e n (by simp)) (λ b o _ e=>u.there b o e (by simp)) u.Qs u.Nd u.Qt (λ m' hm=>by
  obtain⟨o',o8,o9,ba,r'⟩:=hm;rw[ho] at ba;cases ba;exact⟨_,o8,o9,hL,r'⟩) Aw I.bare
def Inv.call (I:Inv X pins σ H s)(u:Un (dP X.stack) ch H H' s.heap h')(Aw:Hh X.prog X.w H' h')(hg:AllBare g')(br:∀b∈ch,(b∈X.ex\/X.s₀.heap.objs.size<=b)/\b≠X.env.locals/\(∀x c,X.env.cells.lookup x=some c->c≠b)/\∀p∈X.pn++pins,p.1≠b):
 Inv X pins σ H' {s with heap:=h',gens:=g',drawn:=d',toks:=t' }:=by
 obtain⟨m,⟨o,es,ep,ho,r⟩,_⟩:=id I.loc;obtain⟨sl,hL⟩:=u.any ho I.free λ z=>(br _ z).2.1 rfl;exact I.step (ch:=ch) br (λ b o hL hb hc e n=>u.keep b o e n (λ z=>(zab.mp (I.Wr b z)).elim hL hb) hc) (λ b o _ _ hc e n=>u.any e n hc) (λ b o hc e n=>u.free b o e n hc) (λ b o hc e=>u.there b o e hc) u.Qs u.Nd u.Qt (λ m' hm=>by
  obtain⟨o',o8,o9,ba,r'⟩:=hm;rw[ho] at ba;cases ba;exact⟨_,o8,o9,hL,r'⟩) Aw hg
def Inv.turned (I:Inv X pins σ H s)(k:∀b o,b≠it->s.heap.get? b=some o->h'.get? b=some o)(hn:H it=none)(hL:it≠X.env.locals)(h1:it∈X.ex\/X.s₀.heap.objs.size<=it)(h2:∀x c,X.env.cells.lookup x=some c->c≠it)(h3:∀p∈X.pn++pins,p.1≠it):Inv X pins σ H {s with heap:=h',toks:=t' }:=by
 have uw:∀b u,H b=some u->b≠it:=λ b u e z=>by rw[z,hn] at e;cases e
 refine I.step (g':=s.gens) (d':=s.drawn) (ch:=[it]) (λ b hb=>?_) (λ b o _ _ hc e _=>k b o (λ z=>hc (by simp[z])) e) (λ b o _ _ hc e _=>⟨o.slots,k b o (λ z=>hc (by simp[z])) e⟩) (λ _ _ _ _ n=>n)
  (λ b o hc e=>⟨o,k b o (λ z=>hc (by simp[z])) e⟩) (λ _ _ e=>e) (λ _ _ _ e=>e) (λ b ps e=>⟨#[],by rw[e];simp⟩) (λ m hm=>?_) (λ b u e=>?_) I.bare
 ·have e:b=it:=by simpa using hb
  subst e;exact⟨h1,hL,h2,h3⟩
 ·obtain⟨o,es,ep,ho,r⟩:=hm;exact⟨o,es,ep,k _ o (zbn hL) ho,r⟩
 ·refine (I.Aw b u e).Nc (λ c v hc q=>k c v ?_ q) (λ _ q=>q) λ _ _ q=>q;rcases hc with z|z
  ·rw[z];exact uw b u e
  ·exact uw c _ z
def Inv.tok (I:Inv X pins σ H s)(t:Nat):Inv X pins σ H {s with toks:=t}:=I.un (h':=s.heap) (t':=t) Un.refl I.Aw
def Inv.kept (I:Inv X pins σ H s)(k:∀b u,s.heap.get? b=some u->h'.get? b=some u):Inv X pins σ H {s with heap:=h',toks:=t' }:=I.un (Un.kept k) (I.Aw.kept k)
def Inv.laid (I:Inv X pins σ H s)(k:∀b u,s.heap.get? b=some u->h'.get? b=some u)(hp:s.heap.objs.size<=a)(new:Br X.prog X.w (upd H a o) h' a o):
 Inv X pins σ (upd H a o) {s with heap:=h',toks:=t' }:=I.un (Un.laid k hp (I.Aw.fresh hp)) (I.Aw.laid k hp new)
def Inv.write {e}(I:Inv X pins σ H s)(mu:Mut (H x))(he:e=x\/H e=some (.own x))(k:∀b u,b≠e->s.heap.get? b=some u->h'.get? b=some u)(e9:∃u,h'.get? e=some u)(new:Br X.prog X.w (upd H x o) h' x o):Inv X pins σ (upd H x o) {s with heap:=h',toks:=t' }:=I.un (Un.write mu he k e9) (I.Aw.write mu he k e9 new)
def Inv.weak (I:Inv X pins σ H s)(hl:σ'.length=σ.length)(w:∀(i:Nat) v,σ'[i]?=some (some v)->σ[i]?=some (some v)):Inv X pins σ' H s:=
 ⟨I.ok,I.os,I.bare,I.base,let ⟨m,hn,jh⟩:=I.loc;⟨m,hn,λ i x v e1 e2 e3=>jh i x v e1 (w i v e2) e3⟩,I.cell,I.free,I.FX,I.pin,I.Aw,hl.trans I.len⟩
def Inv.Kg (I:Inv X pins σ H s)(h:∀p∈fb,s.heap.get? p.1=some p.2/\H p.1=none/\p.1≠X.env.locals/\p.1∉X.fs/\∀v,p.2.data≠.cell v):Inv X fb σ H s:=
 ⟨I.ok,I.os,I.bare,I.base,I.loc,I.cell,I.free,I.FX,λ p hp=>(zao.mp hp).elim (λ z=>I.pin p (zb5 _ z)) (h p),I.Aw,I.len⟩
def U3 {N:List Str}(hN:N.Nodup){i:Nat}(a:N[i]?=some x)(b:N[j]?=some x):i=j:=by
 obtain⟨h1,e1⟩:=zam.mp a;obtain⟨h2,e2⟩:=zam.mp b;exact (List.getElem_inj hN).mp (e1.trans e2.symm)
def QV (I:Inv X pins σ H s)(hN:X.N.Nodup)(hi:X.N[i]?=some x)(hx:Loc X.env.scope x)(r:RelV v u)(h:∀s',Inv X pins (σ.set i (some v)) H s'->(∃a,zd8 a s.heap s'.heap/\(a=X.env.locals\/X.env.cells.lookup x=some a))->Q () s')(hf:X.fn x=true\/X.env.scope.names.lookup x=some .local:=by first|exact .inl rfl|exact .inr rfl|assumption):wpAny M A (storeName X.env x u) Q E s:=by
 obtain⟨m,hn,hl⟩:=id I.loc;have pc:(X.env.scope.kind==.class||(X.env.scope.kind==.module&&X.env.locals != X.env.globals))=false:=by rw[I.ok.kind];rfl
 have hiσ:i<σ.length:=by rw[I.len];exact (zam.mp hi).1
 have uN:=I.uN;have tracked:∀ {a:Addr} {h':Heap},(∃o,s.heap.get? a=some o/\H a=none)->zd8 a s.heap h'->Hh X.prog X.w H h':=fun {a h'} ha hs b ob e=>by
  obtain⟨_,_,fc⟩:=ha;refine (I.Aw b ob e).Nc (λ c w' hc q=>(hs.2 c ?_).trans q) (λ _ q=>q) λ _ _ q=>q;rintro rfl;rcases hc with rfl|hc
  ·rw[fc] at e;cases e
  ·rw[fc] at hc;cases hc
 rcases hx with hk|hk
 ·refine wpAny_storeName_local hk hn (λ h' aU hs=>?_) pc;obtain⟨oL,_,_,wP,_⟩:=id hn;refine h _ ⟨I.ok,I.os,I.bare,⟨λ b o e n hb hx=>?_,λ b o e n hb hx=>?_,I.base.free,λ b o e hx=>?_,I.base.Qs,I.base.Nd,I.base.Qt⟩,⟨_,aU,λ j y v' e1 e2 e3=>?_⟩,λ y c e=>?_,I.free,I.FX,λ p hp=>?_,tracked ⟨oL,wP,I.free⟩ hs,by simpa using I.len⟩ ⟨_,hs,.inl rfl⟩
  ·exact (hs.2 b (zax (zaq (zak e) I.ok.above))).trans (I.base.keep b o e n hb hx)
  ·obtain⟨sl,e1⟩:=I.base.slot b o e n hb hx;exact⟨sl,(hs.2 b (zax (zaq (zak e) I.ok.above))).trans e1⟩
  ·obtain⟨o',e1⟩:=I.base.there b o e hx;exact⟨o',(hs.2 b (zax (zaq (zak e) I.ok.above))).trans e1⟩
  ·by_cases hj:j=i
   ·subst hj;rw[hi] at e1;cases e1;rw[zb2 hiσ] at e2;cases e2;exact⟨u,r,.inl ⟨hk,by simp⟩⟩
   ·rw[zbm (zbn hj)] at e2;obtain⟨u',r',q⟩:=hl j y v' e1 e2 e3;refine⟨u',r',?_⟩;rcases q with ⟨k,e⟩|⟨k,c,e,z⟩
    ·refine .inl ⟨k,?_⟩;have:y≠x:=λ e=>hj (U3 hN e1 (e▸hi));simp[this,e]
    ·exact .inr ⟨k,c,e,z.sameBut hs (uN y c e)⟩
  ·obtain⟨w',z⟩:=I.cell y c e;exact⟨w',z.sameBut hs (uN y c e)⟩
  ·obtain⟨e,n,ne,nf,d⟩:=I.pin p hp;exact⟨(hs.2 p.1 ne).trans e,n,ne,nf,d⟩
 ·have pd:X.fn x=true:=by
   rcases hf with z|z
   ·exact z
   ·rw[z] at hk;cases hk
  obtain⟨c,hc⟩:=I.ok.has x (.inl hk);obtain⟨w',z⟩:=I.cell x c hc;refine wpAny_storeName_cell I.ok.kind hk hc z (λ h' bC hs=>?_);obtain⟨oc,ux,pe⟩:=id z;refine h {s with heap:=h' } ⟨I.ok,I.os,I.bare,⟨λ b o e n hb hx=>?_,λ b o e n hb hx=>?_,I.base.free,λ b o e hx=>?_,I.base.Qs,I.base.Nd,I.base.Qt⟩,⟨m,hn.sameBut hs (zbn (uN x c hc)),λ j y v' e1 e2 e3=>?_⟩,λ y c' e=>?_,I.free,I.FX,λ p hp=>?_,tracked ⟨oc,ux,I.FX x c hc⟩ hs,by simpa using I.len⟩ ⟨c,hs,.inr hc⟩
  ·exact (hs.2 b (zax (zaq (zak e) (I.ok.cab x c pd hc)))).trans (I.base.keep b o e n hb hx)
  ·obtain⟨sl,e1⟩:=I.base.slot b o e n hb hx;exact⟨sl,(hs.2 b (zax (zaq (zak e) (I.ok.cab x c pd hc)))).trans e1⟩
  ·obtain⟨o',e1⟩:=I.base.there b o e hx;exact⟨o',(hs.2 b (zax (zaq (zak e) (I.ok.cab x c pd hc)))).trans e1⟩
  ·by_cases hj:j=i
   ·subst hj;rw[hi] at e1;cases e1;rw[zb2 hiσ] at e2;cases e2;exact⟨u,r,.inr ⟨.inl hk,c,hc,bC⟩⟩
   ·rw[zbm (zbn hj)] at e2;obtain⟨u',r',q⟩:=hl j y v' e1 e2 e3;refine⟨u',r',?_⟩;rcases q with q|⟨k,c',e,z'⟩
    ·exact .inl q
    ·refine .inr ⟨k,c',e,z'.sameBut hs ?_⟩;rintro rfl;exact hj (U3 hN e1 (I.ok.inj _ _ _ e hc▸hi))
  ·by_cases u3:c'=c
   ·subst u3;exact⟨_,bC⟩
   ·obtain⟨w2,z2⟩:=I.cell y c' e;exact⟨w2,z2.sameBut hs u3⟩
  ·obtain⟨e,n,ne,nf,d⟩:=I.pin p hp;refine⟨(hs.2 p.1 ?_).trans e,n,ne,nf,d⟩;intro q;rw[q,ux] at e;have q':oc=p.2:=zb0 e;exact d w' (by rw[<-q'];exact pe)
def U4 (I:Inv X pins σ H s)(hN:X.N.Nodup)(hi:X.N[i]?=some x)(hx:Loc X.env.scope x)(r:RelV v u)(h:∀s',Inv X pins (σ.set i (some v)) H s'->Q () s')(hf:X.fn x=true\/X.env.scope.names.lookup x=some .local:=by first|exact .inl rfl|exact .inr rfl|assumption):wpAny M A (storeName X.env x u) Q E s:=
 QV I hN hi hx r (λ s' I' _=>h s' I') hf
def Inv.aah (I:Inv X pins σ H s)(ho:s'.os=s.os)(u:Un (dP X.stack) ch H H' s.heap s'.heap)(Aw:Hh X.prog X.w H' s'.heap)(hg:AllBare s'.gens)(br:∀b∈ch,(b∈X.ex\/X.s₀.heap.objs.size<=b)/\b≠X.env.locals/\(∀x c,X.env.cells.lookup x=some c->c≠b)/\∀p∈X.pn++pins,p.1≠b):Inv X pins σ H' s':=by
 obtain⟨h',g',d',t',o'⟩:=s';have e:o'=s.os:=ho;subst e;exact I.call (g':=g') (t':=t') (d':=d') u Aw hg br
end
noncomputable abbrev XK:=Value->Option Addr->Hp->Prop
noncomputable abbrev St:=List (Option V)
variable {σ:St}
noncomputable abbrev VK:=V->Hp->Prop
noncomputable abbrev TE:=St->Hp->VK->Prop
variable {ta te:TE}
noncomputable abbrev TT:=St->Hp->(Bool->Hp->Prop)->Prop
noncomputable abbrev TA:=St->Hp->(List V->Hp->Prop)->Prop
structure Ends where
 nx:St->Hp->Prop
 rt:VK
 bk:St->Hp->Prop:=λ _ _=>False
 ct:St->Hp->Prop:=λ _ _=>False
noncomputable abbrev TS:=Ends->St->Hp->Prop
abbrev EP (X:Cx)(pins:List (Addr×Obj))(σ:St)(Q:VK)(u:Value)(s':Shared):Prop:=∃v H',Inv X pins σ H' s'/\RelV v u/\Q v H'
abbrev TP (X:Cx)(pins:List (Addr×Obj))(σ:St)(Q:Bool->Hp->Prop)(b:Bool)(s':Shared):Prop:=∃H',Inv X pins σ H' s'/\Q b H'
abbrev AP (X:Cx)(pins:List (Addr×Obj))(σ:St)(Q:List V->Hp->Prop)(us:List Value)(s':Shared):Prop:=∃vs H',Inv X pins σ H' s'/\Vals vs us/\Q vs H'
abbrev SP (X:Cx)(pins:List (Addr×Obj))(D:Ends)(f:Flow)(s':Shared):Prop:=
 match f with
 | .next=>∃σ' H',Inv X pins σ' H' s'/\D.nx σ' H'
 | .brk=>∃σ' H',Inv X pins σ' H' s'/\D.bk σ' H'
 | .cont=>∃σ' H',Inv X pins σ' H' s'/\D.ct σ' H'
 | .ret u=>∃v σ' H',Inv X pins σ' H' s'/\RelV v u/\D.rt v H'
abbrev PE (X:Cx)(e:Expr)(t:TE):Prop:=
 ∀(pins:List (Addr×Obj)) (s:Shared) (σ:St) (H:Hp) (Q:VK),Inv X pins σ H s->t σ H Q->wpAny (model X.prog X.w) X.A (eval e X.env) (EP X pins σ Q) X.xe s
abbrev PT (X:Cx)(e:Expr)(t:TT):Prop:=
 ∀(pins:List (Addr×Obj)) (s:Shared) (σ:St) (H:Hp) (Q:Bool->Hp->Prop),Inv X pins σ H s->t σ H Q->wpAny (model X.prog X.w) X.A (isTrue e X.env (eval e X.env)) (TP X pins σ Q) X.xe s
abbrev PW (X:Cx)(e:Expr)(t:TT):Prop:=
 ∀(whole:Sem Value) (pins:List (Addr×Obj)) (s:Shared) (σ:St) (H:Hp) (Q:Bool->Hp->Prop),Inv X pins σ H s->t σ H Q->wpAny (model X.prog X.w) X.A (isTrue e X.env whole) (TP X pins σ Q) X.xe s
def PW.pt (h:PW X e t):PT X e t:=h _
abbrev PA (X:Cx)(es:List Expr)(t:TA):Prop:=
 ∀(pos:Pos) (pins:List (Addr×Obj)) (s:Shared) (σ:St) (H:Hp) (Q:List V->Hp->Prop),Inv X pins σ H s->t σ H Q->wpAny (model X.prog X.w) X.A (spliced (backTo pos (starEach es X.env))) (AP X pins σ Q) X.xe s
abbrev PS (X:Cx)(st:Stmt)(t:TS):Prop:=
 ∀(pins:List (Addr×Obj)) (s:Shared) (σ:St) (H:Hp) (D:Ends),Inv X pins σ H s->t D σ H->wpAny (model X.prog X.w) X.A (exec st X.env) (SP X pins D) X.xe s
abbrev XY (X:Cx)(st:List Stmt)(t:TS):Prop:=
 ∀(pins:List (Addr×Obj)) (s:Shared) (σ:St) (H:Hp) (D:Ends),Inv X pins σ H s->t D σ H->wpAny (model X.prog X.w) X.A (execs st X.env) (SP X pins D) X.xe s
def Bl {α:Type}{t:Sem α}{Q Q'}(h:wpAny M A t Q E s)(hQ:∀a s,Q a s->Q' a s):wpAny M A t Q' E s:=wpAny_mono h hQ λ _ _ x=>x
section
abbrev O5 (i:Nat):TE:=λ σ H Q=>∃v,σ[i]?=some (some v)/\Q v H
abbrev tC (v:V):TE:=λ _ H Q=>Q v H
def uO (hN:X.N[i]?=some x)(hv:Vis X.env.scope x)(hd:(x==("__debug__" : Str))=false:=by decide)(aT:(x==("__classdict__" : Str))=false:=by decide):PE X (.Name x pos) (O5 i):=by
 intro pins s σ H Q I h;obtain⟨v,e,h⟩:=h;obtain⟨m,hn,hl⟩:=I.loc;obtain⟨u,r,l⟩:=hl i x v hN e hv;have fin:EP X pins σ Q u s:=⟨v,H,I,r,h⟩;rcases l with ⟨hk,hm⟩|⟨hk,c,hc,ff⟩
 ·exact wpAny_Name (wpAny_loadName_local I.ok.kind hk hn hm fin) hd
 ·rcases hk with hk|hk
  ·exact wpAny_Name (wpAny_loadName_cell I.ok.kind hk hc ff fin) hd
  ·exact wpAny_Name (wpAny_loadName_free I.ok.kind hk hc ff fin aT) hd
def uP {i j pos}:PE X (.Constant (.int i) j pos) (tC (.int i)):=λ _ _ _ H _ I h=>wpAny_Constant_int ⟨.int i,H,I.tok _,⟨_,rfl⟩,h⟩
def aai {b j pos}:PE X (.Constant (.bool b) j pos) (tC (.bl b)):=λ _ _ _ H _ I h=>Constant_bool ⟨.bl b,H,I,rfl,h⟩
def uQ {j pos}:PE X (.Constant .none j pos) (tC .AV):=λ _ _ _ H _ I h=>Constant_none ⟨.AV,H,I,rfl,h⟩
abbrev Gl (X:Cx)(x:Str):Prop:=X.env.kindOf x=some .globalImplicit
def S9 (I:Inv X pins σ H s)(hg:Gl X x)(hm:X.mg x=some u)(h:Q u s)(hd:(x==("__debug__" : Str))=false:=by decide):wpAny (model X.prog X.w) X.A (eval (.Name x pos) X.env) Q E s:=
 Calls.Name_function_global I.ok.kind hg (Calls.loadGlobal_global (by rw[I.ok.glob];exact I.mod.glob.keeps I.bk) hm h) hd
def Eg (I:Inv X pins σ H s)(hg:Gl X x)(hm:X.mg x=none)(hv:bootBuiltins x=some u)(h:Q u s)(hn:x ≠ "__name__" := by decide)(hd:(x==("__debug__" : Str))=false:=by decide):wpAny (model X.prog X.w) X.A (eval (.Name x pos) X.env) Q E s:=by
 obtain⟨mb,h1,h2⟩:=I.mod.blt;exact Calls.Name_function_global I.ok.kind hg (Calls.loadGlobal_builtin (by rw[I.ok.glob];exact I.mod.glob.keeps I.bk) hm (by rw[I.ok.blt];exact h1.keeps I.bk) ((h2 x hn).trans hv) h) hd
def nA (hg:Gl X x)(hm:X.mg x=some u)(r:RelV v u)(hd:(x==("__debug__" : Str))=false:=by decide):PE X (.Name x pos) (tC v):=
 λ _ _ _ H _ I h=>S9 I hg hm ⟨v,H,I,r,h⟩ hd
def nB (hg:Gl X x)(hm:X.mg x=none)(hv:bootBuiltins x=some u)(r:RelV v u)(hn:x ≠ "__name__" := by decide)(hd:(x==("__debug__" : Str))=false:=by decide):PE X (.Name x pos) (tC v):=
 λ _ _ _ H _ I h=>Eg I hg hm hv ⟨v,H,I,r,h⟩ hn hd
variable {a b:Expr}{tb:TE}
abbrev PC (X:Cx)(op:CmpOp)(a b:Expr)(t:TE):Prop:=
 ∀(pins:List (Addr×Obj)) (s:Shared) (σ:St) (H:Hp) (Q:VK),Inv X pins σ H s->t σ H Q->
  wpAny (model X.prog X.w) X.A (eval a X.env) (λ v s₁=>wpAny (model X.prog X.w) X.A (eval b X.env) (λ u s₂=>wpAny (model X.prog X.w) X.A (compareOp op v u) (EP X pins σ Q) X.xe s₂) X.xe s₁) X.xe s
def U5 (b:Expr)(h:op≠.In)(h2:op≠.NotIn):behindInMarks op b=false:=by
 have e1:(op==CmpOp.In)=false:=by cases op<;>first|rfl|exact absurd rfl h
 have e2:(op==CmpOp.NotIn)=false:=by cases op<;>first|rfl|exact absurd rfl h2
 cases b<;>simp[behindInMarks,e1,e2]
abbrev aco (ta:TE):TE:=λ σ H Q=>ta σ H λ x H1=>Q (.bl (decide (x=.AV))) H1
abbrev aaj (ta:TE):TE:=λ σ H Q=>ta σ H λ x H1=>Q (.bl (!decide (x=.AV))) H1
def RelV.U6 (r:RelV x v):(v==Value.none)=decide (x=.AV):=by
 cases x with
 |AV|bl _=>cases r;rfl
 |int _|str _|uJ _|flt _=>obtain⟨t,rfl⟩:=r;rfl
 |ref _|ty _=>cases r;rfl
def dZ {j pos'}(ha:PE X a ta):PC X .Is a (.Constant .none j pos') (aco ta):=by
 intro pins s σ H Q I h;refine Bl (ha pins s σ H _ I h) λ v s1 zz=>?_;obtain⟨x,H1,I1,r1,q1⟩:=zz;exact Constant_none (is_none_gen ⟨.bl _,H1,I1,by rw[r1.U6];rfl,q1⟩)
def nE {j pos'}(ha:PE X a ta):PC X .IsNot a (.Constant .none j pos') (aaj ta):=by
 intro pins s σ H Q I h;refine Bl (ha pins s σ H _ I h) λ v s1 zz=>?_;obtain⟨x,H1,I1,r1,q1⟩:=zz;exact Constant_none (isnot_none_gen ⟨.bl _,H1,I1,by rw[r1.U6];rfl,q1⟩)
abbrev tB (t:TE):TT:=λ σ H Q=>t σ H λ x H1=>∃c,x=.bl c/\Q c H1
def uR (h:PC X op a b t)(h1:behindInMarks op b=false:=by first | exact U5 _ (by decide) (by decide) | rfl):PE X (.Compare a [op] [b] pos) t:=λ pins s σ H Q I hw=>wpAny_Compare1 (h pins s σ H Q I hw) h1
def eA (h:PC X op a b t)(h1:behindInMarks op b=false:=by first | exact U5 _ (by decide) (by decide) | rfl):PT X (.Compare a [op] [b] pos) (tB t):=by
 intro pins s σ H Q I hw;refine wpAny_isTrue_Compare1 (Bl (h pins s σ H _ I hw) λ v s1 h1=>Bl h1 λ u s2 h2=>Bl h2 λ c s3 zz=>?_) h1;obtain⟨x,H1,I1,r1,q1⟩:=zz;obtain⟨d,rfl,q⟩:=q1;cases r1;exact wpAny_truthy_bool ⟨H1,I1,q⟩
variable {tA mz:TT}{rest:List Expr}
abbrev acp (t u:TT):TT:=λ σ H Q=>t σ H λ c H1=>if c=true then u σ H1 Q else Q false H1
abbrev tOr (t u:TT):TT:=λ σ H Q=>t σ H λ c H1=>if c=true then Q true H1 else u σ H1 Q
abbrev acq (t:TT):TT:=λ σ H Q=>t σ H λ c H1=>Q (!c) H1
def pw_and1 (ha:PT X a tA):PW X (.BoolOp .And [a] pos) tA:=by
 intro wh pins s σ H Q I h;refine isTrue_and (Bl (ha pins s σ H Q I h) λ c s1 e=>?_);cases c with
 |true=>exact isTrue_and_nil e
 |false=>exact e
def pw_or1 (ha:PT X a tA):PW X (.BoolOp .Or [a] pos) tA:=by
 intro wh pins s σ H Q I h;refine isTrue_or (Bl (ha pins s σ H Q I h) λ c s1 e=>?_);cases c with
 |false=>exact isTrue_or_nil e
 |true=>exact e
def pw_and (ha:PT X a tA)(hb:PW X (.BoolOp .And (b::rest) pos) mz):PW X (.BoolOp .And (a::b::rest) pos) (acp tA mz):=by
 intro wh pins s σ H Q I h;refine isTrue_and (Bl (ha pins s σ H _ I h) λ c s1 zz=>?_);obtain⟨H1,I1,q1⟩:=zz;cases c with
 |true=>exact hb wh pins s1 σ H1 Q I1 q1
 |false=>exact⟨H1,I1,q1⟩
def pw_or (ha:PT X a tA)(hb:PW X (.BoolOp .Or (b::rest) pos) mz):PW X (.BoolOp .Or (a::b::rest) pos) (tOr tA mz):=by
 intro wh pins s σ H Q I h;refine isTrue_or (Bl (ha pins s σ H _ I h) λ c s1 zz=>?_);obtain⟨H1,I1,q1⟩:=zz;cases c with
 |true=>exact⟨H1,I1,q1⟩
 |false=>exact hb wh pins s1 σ H1 Q I1 q1
def uS (ha:PT X a tA):PT X (.UnaryOp .Not a pos) (acq tA):=by
 intro pins s σ H Q I h;exact isTrue_not (ha pins s σ H (λ c H1=>Q (!c) H1) I h)
abbrev aak (ta tb:TE):TE:=λ σ H Q=>ta σ H λ x H1=>∃c,x=.bl c/\if c=true then tb σ H1 Q else Q (.bl false) H1
abbrev acr (ta tb:TE):TE:=λ σ H Q=>ta σ H λ x H1=>∃c,x=.bl c/\if c=true then Q (.bl true) H1 else tb σ H1 Q
abbrev aal (ta:TE):TE:=λ σ H Q=>ta σ H λ x H1=>∃c,x=.bl c/\Q (.bl (!c)) H1
def uT {op}(h:PE X a t):PE X (.BoolOp op [a] pos) t:=λ pins s σ H Q I hw=>BoolOp_one (h pins s σ H Q I hw)
def uU (ha:PE X a ta)(hb:PE X (.BoolOp .And (b::rest) pos) tb):PE X (.BoolOp .And (a::b::rest) pos) (aak ta tb):=by
 intro pins s σ H Q I h;refine BoolOp_and (Bl (ha pins s σ H _ I h) λ v s1 zz=>?_);obtain⟨x,H1,I1,r1,q1⟩:=zz;obtain⟨c,rfl,q1⟩:=q1;cases r1;refine wpAny_truthy_bool ?_;cases c with
 |true=>exact hb pins s1 σ H1 Q I1 q1
 |false=>exact⟨.bl false,H1,I1,rfl,q1⟩
def aam (ha:PE X a ta)(hb:PE X (.BoolOp .Or (b::rest) pos) tb):PE X (.BoolOp .Or (a::b::rest) pos) (acr ta tb):=by
 intro pins s σ H Q I h;refine BoolOp_or (Bl (ha pins s σ H _ I h) λ v s1 zz=>?_);obtain⟨x,H1,I1,r1,q1⟩:=zz;obtain⟨c,rfl,q1⟩:=q1;cases r1;refine wpAny_truthy_bool ?_;cases c with
 |false=>exact hb pins s1 σ H1 Q I1 q1
 |true=>exact⟨.bl true,H1,I1,rfl,q1⟩
def uV (ha:PE X a ta):PE X (.UnaryOp .Not a pos) (aal ta):=by
 intro pins s σ H Q I h;refine UnaryOp_ (Bl (ha pins s σ H _ I h) λ v s1 zz=>?_);obtain⟨x,H1,I1,r1,q1⟩:=zz;obtain⟨c,rfl,q1⟩:=q1;cases r1;exact not_of (wpAny_truthy_bool ⟨.bl (!c),H1,I1,rfl,q1⟩)
end
abbrev Ds (K:za1)(H:Hp)(a:Addr)(xs:List V):Prop:=
 Rd H a (.lst xs) \/
  ∃(o:Obj) (aa:Array Value) (n:Nat),K.lookup a=some o/\o.cls=.type "list" /\ o.dict=none/\o.data=.seq aa n/\aa.size<=sizeLine/\Vals xs aa.toList
abbrev FF (K:za1)(H:Hp)(a:Addr)(xs:List V):Prop:=
 Rd H a (.tup xs) \/
  ∃(o:Obj) (aa:Array Value) (n:Nat),K.lookup a=some o/\o.cls=.type "tuple" /\ o.data=.seq aa n/\aa.size<=sizeLine/\Vals xs aa.toList
abbrev acs:Value->Option V
 | .none=>some .AV
 | .bool b=>some (.bl b)
 | .int i _=>some (.int i)
 | .str x _=>some (.str x)
 | .bytes b _=>some (.uJ b)
 | .float b _=>some (.flt b)
 | .ref a=>some (.ref a)
 | .type n=>some (.ty n)
 |_=>none
def RelV.abs (r:RelV x u):acs u=some x:=by
 cases x with
 |AV|bl _=>cases r;rfl
 |int _|str _|uJ _|flt _=>obtain⟨t,rfl⟩:=r;rfl
 |ref _|ty _=>cases r;rfl
def RelV.inj (r:RelV x u)(q:RelV y u):x=y:=zb0 (r.abs.symm.trans q.abs)
def Vals.inj:∀ {xs ys:List V}{us:List Value},Vals xs us->Vals ys us->xs=ys
 |_,_,_,.nil,.nil=>rfl
 |_,_,_,.cons r t,.cons r' t'=>by rw[r.inj r',Vals.inj t t']
section
variable {xs ys:List V}
def Ds.of {K}(h:H a=some (.lst xs)):Ds K H a xs:=.inl (.inl h)
def FF.of {K}(h:H a=some (.tup xs)):FF K H a xs:=.inl (.inl h)
def Inv.list (I:Inv X pins σ H s)(h:Ds X.K H a xs):∃aa:List Value,Vals xs aa/\PlainL s.heap a aa.toArray/\xs.length<=sizeLine:=by
 rcases h with h|⟨o,aa,n,hk,hc,hd,hs,hz,r⟩
 ·obtain⟨z,aa,n,r,e⟩:=h.ok I.Aw;exact⟨aa,r,⟨_,n,e,rfl,rfl,rfl⟩,z⟩
 ·refine⟨aa.toList,r,⟨o,n,I.NL a o hk,hc,hd,by simpa using hs⟩,?_⟩;have e:=r.length;simp only[zdj] at e;omega
def Inv.tuple (I:Inv X pins σ H s)(h:FF X.K H a xs):∃aa:List Value,Vals xs aa/\IsTup s.heap a aa.toArray/\xs.length<=sizeLine:=by
 rcases h with h|⟨o,aa,n,hk,hc,hs,hz,r⟩
 ·obtain⟨z,aa,r,p⟩:=h.ok I.Aw;exact⟨aa,r,p,z⟩
 ·refine⟨aa.toList,r,⟨o,I.NL a o hk,hc,n,by simpa using hs⟩,?_⟩;have e:=r.length;simp only[zdj] at e;omega
def Inv.HG (I:Inv X pins σ H s)(h:Ds X.K H a xs)(h':Ds X.K H a ys):xs=ys:=by
 obtain⟨aa,r,⟨o,n,e,_,_,d⟩,_⟩:=I.list h;obtain⟨its',r',⟨o',n',e',_,_,d'⟩,_⟩:=I.list h';rw[e] at e';cases e';rw[d] at d';injection d' with d1 _
 have:aa=its':=by simpa using congrArg Array.toList d1
 subst this;exact r.inj r'
def Inv.J7 (I:Inv X pins σ H s)(h:FF X.K H a xs)(h':FF X.K H a ys):xs=ys:=by
 obtain⟨aa,r,⟨o,e,_,n,d⟩,_⟩:=I.tuple h;obtain⟨its',r',⟨o',e',_,n',d'⟩,_⟩:=I.tuple h';rw[e] at e';cases e';rw[d] at d';injection d' with d1 _
 have:aa=its':=by simpa using congrArg Array.toList d1
 subst this;exact r.inj r'
end
noncomputable abbrev Cx.Qu (X:Cx)(E:Value->Shared->Prop):Cx:={X with xe:=E}
noncomputable abbrev Cx.nox (X:Cx):Cx:=X.Qu λ _ _=>False
def Cx.Ok.Qu (ok:X.Ok)(E:Value->Shared->Prop):(X.Qu E).Ok:=
 ⟨ok.mod,ok.kind,ok.glob,ok.blt,ok.above,ok.inj,ok.has,ok.cab,ok.hd,ok.frames,ok.stk,ok.exf,ok.bs,ok.sM,ok.dX,ok.dY,ok.LH,ok.uM⟩
def Cx.Ok.HH (ok:(X.Qu E).Ok):X.Ok:=
 ⟨ok.mod,ok.kind,ok.glob,ok.blt,ok.above,ok.inj,ok.has,ok.cab,ok.hd,ok.frames,ok.stk,ok.exf,ok.bs,ok.sM,ok.dX,ok.dY,ok.LH,ok.uM⟩
def Inv.Qu (I:Inv X pins σ H s)(E:Value->Shared->Prop):Inv (X.Qu E) pins σ H s:=⟨I.ok.Qu E,I.os,I.bare,I.base,I.loc,I.cell,I.free,I.FX,I.pin,I.Aw,I.len⟩
def Inv.HH (I:Inv (X.Qu E) pins σ H s):Inv X pins σ H s:=⟨I.ok.HH,I.os,I.bare,I.base,I.loc,I.cell,I.free,I.FX,I.pin,I.Aw,I.len⟩
def SP.HH (h:SP (X.Qu E) pins D f s'):SP X pins D f s':=by
 cases f with
 |next|brk|cont=>obtain⟨σ',H',I,q⟩:=h;exact⟨σ',H',I.HH,q⟩
 |ret u=>obtain⟨v,σ',H',I,r,q⟩:=h;exact⟨v,σ',H',I.HH,r,q⟩
def XY.nox {st}(h:XY X.nox st t):XY X st t:=λ pins s σ H D I hw =>
 wpAny_mono (h pins s σ H D (I.Qu _) hw) (λ _ _ q=>q.HH) λ _ _ z=>zct z
section
variable {st:Stmt}{rest:List Stmt}{t u:TS}
abbrev aao:TS:=λ D σ H=>D.nx σ H
abbrev acu (t u:TS):TS:=λ D σ H=>t {D with nx:=u D} σ H
def nF:XY X [] aao:=λ _ _ σ H _ I h=>wpAny_execs_nil ⟨σ,H,I,h⟩
def eB (h1:PS X st t)(h2:XY X rest u):XY X (st::rest) (acu t u):=by
 intro pins s σ H D I h;refine wpAny_execs_cons (Bl (h1 pins s σ H {D with nx:=u D} I h) λ f s1 q=>?_);cases f with
 |next =>
  obtain⟨σ',H',I',q⟩:=q;exact h2 pins s1 σ' H' D I' q
 |ret v|brk|cont=>exact q
def nG (h1:PS X st t):XY X [st] t:=by
 intro pins s σ H D I h;refine wpAny_execs_cons (Bl (h1 pins s σ H D I h) λ f s1 q=>?_);cases f with
 |next=>exact wpAny_execs_nil q
 |ret v|brk|cont=>exact q
def Inv.quiet (I:Inv X pins σ H s):interactive X.env=false:=by simp[interactive,I.ok.kind]
abbrev aap (te:TE):TS:=λ D σ H=>te σ H λ _ H1=>D.nx σ H1
def J8 (he:PE X e te)(hs: ~~~(swapsWith e none pos.line X.env=pure false)):PS X (.Expr e pos) (aap te):=by
 intro pins s σ H D I h;exact wpAny_Expr_any (Bl (he pins s σ H _ I h) λ v s1 ⟨x,H1,I1,r1,q1⟩=>⟨σ,H1,I1,q1⟩) I.quiet hs
abbrev acv (te:TE):TS:=λ D σ H=>te σ H D.rt
def Sa (he:PE X e te):PS X (.Return (some e) pos) (acv te):=by
 intro pins s σ H D I h;exact wpAny_Return_some (Bl (he pins s σ H _ I h) λ v s1 ⟨x,H1,I1,r1,q1⟩=>⟨x,σ,H1,I1,r1,q1⟩)
abbrev acw (c:TT)(t u:TS):TS:=λ D σ H=>c σ H λ b H1=>if b=true then t D σ H1 else u D σ H1
def aaq {a}(hc:PT X c tc)(ha:XY X a t)(hb:XY X b u):PS X (.If c a b pos) (acw tc t u):=by
 intro pins s σ H D I h;refine wpAny_If (Bl (hc pins s σ H _ I h) λ d s1 zz=>?_);obtain⟨H1,I1,q1⟩:=zz;cases d with
 |true=>exact ha pins s1 σ H1 D I1 q1
 |false=>exact hb pins s1 σ H1 D I1 q1
end
noncomputable abbrev TG:=V->St->Hp->(St->Hp->Prop)->Prop
noncomputable abbrev dQ:=List V->St->Hp->(St->Hp->Prop)->Prop
abbrev PG (X:Cx)(target:Expr)(t:TG):Prop:=
 ∀(pins:List (Addr×Obj)) (s:Shared) (σ:St) (H:Hp) (v:V) (u:Value) (Q:St->Hp->Prop),Inv X pins σ H s->RelV v u->t v σ H Q->
  wpAny (model X.prog X.w) X.A (assign target X.env u) (λ _ s'=>∃σ' H',Inv X pins σ' H' s'/\Q σ' H') X.xe s
abbrev zS (X:Cx)(ts:List Expr)(t:dQ):Prop:=
 ∀(pins:List (Addr×Obj)) (s:Shared) (σ:St) (H:Hp) (vs:List V) (us:List Value) (Q:St->Hp->Prop),Inv X pins σ H s->Vals vs us->t vs σ H Q->
  wpAny (model X.prog X.w) X.A (assignInOrder ((assignEach ts X.env).map (·.2)) us) (λ _ s'=>∃σ' H',Inv X pins σ' H' s'/\Q σ' H') X.xe s
noncomputable abbrev uW:=V->V->V->Hp->(Hp->Prop)->Prop
abbrev aar (X:Cx)(t:uW):Prop:=
 ∀(pins:List (Addr×Obj)) (s:Shared) (σ:St) (H:Hp) (o i v:V) (ov iv u:Value) (Q:Hp->Prop),Inv X pins σ H s->RelV o ov->RelV i iv->RelV v u->t o i v H Q->
  wpAny (model X.prog X.w) X.A (setItem ov iv u) (λ _ s'=>∃H',Inv X pins σ H' s'/\Q H') X.xe s
abbrev QW (i:Nat):TG:=λ v σ H Q=>Q (σ.set i (some v)) H
def Sb (hN:X.N.Nodup)(hi:X.N[i]?=some x)(hx:Loc X.env.scope x)(hf:X.fn x=true\/X.env.scope.names.lookup x=some .local:=by first | exact .inl rfl | exact .inr rfl | assumption):PG X (.Name x pos) (QW i):=by
 intro pins s σ H v u Q I r h;exact wpAny_assign_Name (U4 I hN hi hx r (λ s' I'=>⟨_,H,I',h⟩) hf)
abbrev uX:dQ:=λ vs σ H Q=>vs=[]/\Q σ H
abbrev eC (t:TG)(u:dQ):dQ:=λ vs σ H Q=>∃v r,vs=v::r/\t v σ H λ σ' H'=>u r σ' H' Q
def XZ:zS X [] uX:=by
 intro pins s σ H vs us Q I r h;obtain⟨e,h⟩:=h;subst e;cases r;exact assignInOrder_nil ⟨σ,H,I,h⟩
def U7 (h1:PG X e t)(h2:zS X es u)(hs: ~~~((assignEach (e::es) X.env).map (·.2)=assign e X.env::(assignEach es X.env).map (·.2))):zS X (e::es) (eC t u):=by
 intro pins s σ H vs us Q I r h;obtain⟨v,vr,e1,h⟩:=h;subst e1;cases r with
 |cons r rr =>
  rw[hs];refine assignInOrder_cons (Bl (h1 pins s σ H _ _ _ I r h) λ _ s1 zz=>?_);obtain⟨σ1,H1,I1,q1⟩:=zz;exact h2 pins s1 σ1 H1 _ _ Q I1 rr q1
abbrev uY (K:za1)(n:Nat)(t:dQ):TG:=λ v σ H Q=>∃a xs,v=.ref a/\FF K H a xs/\xs.length=n/\t xs σ H Q
def eE (hc:X.calm=true)(h:zS X es t)(hn: ~~~((assignEach es X.env).length=n))(aF: ~~~((assignEach es X.env).findIdx? (·.1)=none)):PG X (.Tuple es k pos) (uY X.K n t):=by
 intro pins s σ H v u Q I r hw;obtain⟨a,xs,e1,hq,hl,hw⟩:=hw;subst e1;cases r;obtain⟨aa,rv,ht,hz⟩:=I.tuple hq;refine assign_Tuple_tuple (I.ok.hd hc) ht (by simp[hn,<-hl,rv.length]) aF λ h' hx=>?_;have I1:Inv X pins σ H {s with heap:=h' }:=I.kept (t':=s.toks) λ b o e=>hx b o (zax (zak e)) e;exact h pins _ σ H xs _ Q I1 (by simpa using rv) hw
abbrev acx (to ti:TE)(t:uW):TG:=λ v σ H Q=>to σ H λ o H1=>ti σ H1 λ i H2=>t o i v H2 λ H3=>Q σ H3
def eF (ho:PE X o to)(hi:PE X i ti)(hs:aar X t)(ha:∀v,assign (.Subscript o i pos) X.env v=(do
  let ov <-holding [v] (eval o X.env);let iv <-holding [v,ov] (eval i X.env)
  standAt pos
  holding [v,ov,iv] (setItem ov iv v)
  release [v,ov,iv] []):=by intro _;rfl):PG X (.Subscript o i pos) (acx to ti t):=by
 intro pins s σ H v u Q I r h;rw[ha];refine wpAny_bind (wpAny_holding (Bl (ho pins s σ H _ I h) λ ov s1 zz=>?_));obtain⟨x,H1,I1,r1,q1⟩:=zz;refine wpAny_bind (wpAny_holding (Bl (hi pins s1 σ H1 _ I1 q1) λ iv s2 zz=>?_));obtain⟨y,H2,I2,r2,q2⟩:=zz;refine wpAny_bind (wpAny_standAt (wpAny_bind (wpAny_holding (Bl (hs pins s2 σ H2 x y v ov iv u _ I2 r1 r2 r q2) λ _ s3 zz=>?_))));obtain⟨H3,I3,q3⟩:=zz;exact wpAny_release ⟨σ,H3,I3,q3⟩
abbrev aas (te:TE)(g:TG):TS:=λ D σ H=>te σ H λ x H1=>g x σ H1 D.nx
def Ws (he:PE X e te)(hg:PG X tg g)(hs: ~~~(swapsWithSole [tg] e pos.line X.env=pure false))(hw: ~~~(swappedStores [tg] e X.env=pure none))(h1: ~~~((assignEach [tg] X.env).map (·.2)=[assign tg X.env])):PS X (.Assign [tg] e pos) (aas te g):=by
 intro pins s σ H D I h;refine wpAny_Assign_stores (Bl (he pins s σ H _ I h) λ v s1 zz=>?_) hs hw;obtain⟨x,H1,I1,r1,q1⟩:=zz;rw[h1];exact Bl (hg pins s1 σ H1 x v _ I1 r1 q1) λ _ s2 q=>q
def Wt (hN:X.N.Nodup)(hi:X.N[i]?=some x)(hx:Loc X.env.scope x)(he:PE X e te)(hs: ~~~(swapsWith e (some (.Name x pos')) pos.line X.env=pure false))(hf:X.fn x=true\/X.env.scope.names.lookup x=some .local:=by first | exact .inl rfl | exact .inr rfl | assumption):
 PS X (.Assign [.Name x pos'] e pos) (aas te (QW i)):=by
 intro pins s σ H D I h;refine wpAny_Assign_Name (Bl (he pins s σ H _ I h) λ v s1 zz=>?_) hs;obtain⟨y,H1,I1,r1,q1⟩:=zz;exact U4 I1 hN hi hx r1 (λ s2 I2=>⟨_,H1,I2,q1⟩) hf
abbrev uZ (c:TT)(tb:TS):TS:=λ D σ H=>∃W:Nat->St->Hp->Prop,(∃m,W m σ H)/\∀m σ H,W m σ H->
 c σ H λ b H1=>if b=true then ∃N:St->Hp->Prop,(∀σ' H',N σ' H'->∃m',m'<m/\W m' σ' H')/\tb {D with nx:=N,ct:=N,bk:=D.nx} σ H1 else D.nx σ H1
def eG (hp:PassesOwn (model X.prog X.w) X.A X.env X.xe)(hc:PT X c tc)(hb:XY X body tb):PS X (.While c body [] pos) (uZ tc tb):=by
 intro pins s σ H D I h;obtain⟨W,⟨m0,w0⟩,turn⟩:=h;refine wpAny_While (codeAny_whileLoop (λ n s'=>∃σ' H',Inv X pins σ' H' s'/\W n σ' H') ?_ m0 ⟨σ,H,I,w0⟩);rintro n s1 ⟨σ1,H1,I1,w1⟩;refine wpAny_passesOwn hp (Bl (hc pins s1 σ1 H1 _ I1 (turn n σ1 H1 w1)) λ b s2 zz=>?_);obtain⟨H2,I2,q2⟩:=zz;cases b with
 |true =>
  obtain⟨N,hN,q2⟩:=q2;rw[if_pos rfl];refine wpAny_passesOwn hp (Bl (hb pins s2 σ1 H2 _ I2 q2) λ f s3 q3=>?_);cases f with
  |next =>
   obtain⟨σ3,H3,I3,n3⟩:=q3;obtain⟨m',hm,w3⟩:=hN σ3 H3 n3;exact⟨m',hm,σ3,H3,I3,w3⟩
  |cont =>
   obtain⟨σ3,H3,I3,n3⟩:=q3;obtain⟨m',hm,w3⟩:=hN σ3 H3 n3;exact⟨m',hm,σ3,H3,I3,w3⟩
  |brk|ret v=>exact q3
 |false =>
  rw[if_neg zaw];exact wpAny_execs_nil ⟨σ1,H2,I2,q2⟩
structure It where
 go:Nat->Hp->Prop
 mQ:Nat->Hp->V->Hp->Prop
 stop:Nat->Hp->Prop
abbrev Nf (X:Cx)(pins:List (Addr×Obj))(H:Hp)(b:Addr):Prop:=
 H b=none/\b≠X.env.locals/\b∉X.fs/\(b∈X.ex\/X.s₀.heap.objs.size<=b)/\(∀x c,X.env.cells.lookup x=some c->c≠b)/\∀p∈X.pn++pins,p.1≠b
def Inv.Wu (I:Inv X pins σ H s)(hb:s.heap.objs.size<=b)(hn:H' b=none):Nf X pins H' b:=by
 refine⟨hn,Nat.ne_of_gt (zaq I.lt hb),I.acn hb,.inr (zc4 I.sz hb),λ x c e z=>?_,λ p hp z=>?_⟩
 ·obtain⟨v,q⟩:=I.cell x c e;exact absurd (zaq q.lt (by rw[z];exact hb)) (Nat.lt_irrefl _)
 ·exact absurd (zaq (zak (I.pin p hp).1) (by rw[z];exact hb)) (Nat.lt_irrefl _)
structure Turn (P:Program)(w:World)(K:za1)(tg:Expr)(J:It)(fp:List Addr)(it:Addr)(tn:Nat->Heap->Prop):Prop where
 mem:it∈fp
 obj:∀i h,tn i h->∀b∈fp,∃o,h.get? b=some o/\∀v,o.data≠.cell v
 keep:∀i h h',tn i h->(∀b∈fp,∀o,h.get? b=some o->h'.get? b=some o)->tn i h'
 item:∀(X:Cx),X.prog=P->X.w=w->X.K=K->X.calm=true->∀(i:Nat) (pins:List (Addr×Obj)) (s:Shared) (σ:St) (H:Hp) (E:Value->Shared->Prop),Inv X pins σ H s->(∀b∈fp,Nf X pins H b)->tn i s.heap->J.go i H->
  wpAny (model P w) X.A (pyNext (.ref it)) (λ r s1=>∃u,r=some u/\
   wpAny (model P w) X.A (letOwnedTupleGo tg (.ref it) u) (λ _ s2=>∃x H',Inv X pins σ H' s2/\RelV x u/\J.mQ i H x H'/\tn (i+1) s2.heap/\∀b∈fp,H' b=none) E s1) E s
 done:∀(X:Cx),X.prog=P->X.w=w->X.K=K->X.calm=true->∀(i:Nat) (pins:List (Addr×Obj)) (s:Shared) (σ:St) (H:Hp) (E:Value->Shared->Prop),Inv X pins σ H s->(∀b∈fp,Nf X pins H b)->tn i s.heap->J.stop i H->
  wpAny (model P w) X.A (pyNext (.ref it)) (λ r s1=>r=none/\Inv X pins σ H s1) E s
 self:∀(A:Around) (i:Nat) (s:Shared) (Q:Value->Shared->Prop) (E:Value->Shared->Prop),tn i s.heap->Q (.ref it) s->wpAny (model P w) A (pyIter (.ref it)) Q E s
noncomputable abbrev TI:=St->Hp->(It->Hp->Prop)->Prop
abbrev PIE (X:Cx)(pins:List (Addr×Obj))(σ:St)(tg:Expr)(R:It->Hp->Prop)(m6:Value)(s2:Shared):Prop:=
 ∃(it:Addr) (fp:List Addr) (tn:Nat->Heap->Prop) (J:It) (H':Hp),m6=.ref it/\Inv X pins σ H' s2/\Turn X.prog X.w X.K tg J fp it tn/\tn 0 s2.heap/\(∀b∈fp,Nf X pins H' b)/\R J H'
abbrev PI (X:Cx)(tg iter:Expr)(wi:TI):Prop:=
 ∀(pins:List (Addr×Obj)) (s:Shared) (σ:St) (H:Hp) (R:It->Hp->Prop),Inv X pins σ H s->wi σ H R->
  wpAny (model X.prog X.w) X.A (eval iter X.env) (λ v s1=>wpAny (model X.prog X.w) X.A (pyIter v) (PIE X pins σ tg R) X.xe s1) X.xe s
def U8 (ho:s.heap.get? it=some o)(hc:o.cls=.type n)(hd:o.data=.fields vs)(hn:["enumerate","zip","dict_itemiterator","dict_reverseitemiterator","odict_iterator","itertools.zip_longest","itertools.pairwise"].contains n=false)(hQ:Q () s):wpAny M A (letOwnedTupleGo tg (.ref it) u) Q E s:=by
 unfold letOwnedTupleGo;cases tg<;>first
  |exact wpAny_pure hQ
  |(cases u<;>first
   |exact wpAny_pure hQ
   |(
    refine wpAny_bind (wpAny_load ho ?_);rw[hc,hd];show wpAny M A (if (["enumerate","zip","dict_itemiterator","dict_reverseitemiterator","odict_iterator","itertools.zip_longest","itertools.pairwise"].contains n&&vs[0]?== some (rawInt _))=true then _ else _) Q E s;rw[if_neg (by intro h;rw[hn,Bool.false_and] at h;cases h)];exact wpAny_pure hQ))
abbrev Itl (K:za1)(a:Addr):It:=
 ⟨λ i H=>∃xs x,Ds K H a xs/\xs[i]?=some x,λ i H x H'=>H'=H/\∀xs,Ds K H a xs->xs[i]?=some x,λ i H=>∃xs,Ds K H a xs/\xs.length<=i⟩
abbrev Itt (K:za1)(a:Addr):It:=
 ⟨λ i H=>∃xs x,FF K H a xs/\xs[i]?=some x,λ i H x H'=>H'=H/\∀xs,FF K H a xs->xs[i]?=some x,λ i H=>∃xs,FF K H a xs/\xs.length<=i⟩
abbrev Itr (lo:Int)(n:Nat):It:=⟨λ i _=>i<n,λ i H x H'=>H'=H/\x=.int (lo+i),λ i _=>n<=i⟩
def Zc {K}(a it:Addr):Turn P w K tg (Itl K a) [it] it (λ i h=>h.IsListIter it a i) where
 mem:=by simp
 obj:=λ i h st b hb=>by
  have e:b=it:=by simpa using hb
  subst e;obtain⟨o,e,c,d⟩:=st;exact⟨o,e,λ v z=>by rw[d] at z;cases z⟩
 keep:=λ i h h' st k=>st.at λ o e=>k it (by simp) o e
 item:=by
  intro X hP hw hK hc i pins s σ H E I hf st hg;subst hP hw hK;obtain⟨xs,x,hq,hx⟩:=hg;obtain⟨aa,rv,p,hz⟩:=I.list hq;obtain⟨u,hu,ru⟩:=rv.get hx;obtain⟨f0,f1,f2,f3,f4,f5⟩:=hf it (by simp);refine wpAny_pyNext_list_item st p.isList (x:=u) (by simpa using hu) λ h' bd sb=>?_;have I1:Inv X pins σ H {s with heap:=h' }:=I.turned (t':=s.toks) (λ b o hb e=>(sb.2 b hb).trans e) f0 f1 f3 f4 f5;obtain⟨o,e,c,d⟩:=id bd;exact⟨u,rfl,U8 (s:={s with heap:=h' }) e c d (by decide) ⟨x,H,I1,ru,⟨rfl,λ ys hy=>by rw[I.HG hy hq];exact hx⟩,bd,λ b hb=>(hf b hb).1⟩⟩
 done:=by
  intro X hP hw hK hc i pins s σ H E I hf st hg;subst hP hw hK;obtain⟨xs,hq,hx⟩:=hg;obtain⟨aa,rv,p,hz⟩:=I.list hq;obtain⟨f0,f1,f2,f3,f4,f5⟩:=hf it (by simp);have hl:=rv.length;exact wpAny_pyNext_list_end (I.ok.hd hc) st p.isList (by simp;omega) λ h' eb=>⟨rfl,I.turned (t':=s.toks) (λ b o hb e=>eb b o hb e) f0 f1 f3 f4 f5⟩
 self:=λ _ _ _ _ _ st h=>wpAny_pyIter_listiter st h
def Wv {K}(a it:Addr):Turn P w K tg (Itt K a) [it] it (λ i h=>h.IsTupleIter it a i) where
 mem:=by simp
 obj:=λ i h st b hb=>by
  have e:b=it:=by simpa using hb
  subst e;obtain⟨o,e,c,d⟩:=st;exact⟨o,e,λ v z=>by rw[d] at z;cases z⟩
 keep:=λ i h h' st k=>st.at λ o e=>k it (by simp) o e
 item:=by
  intro X hP hw hK hc i pins s σ H E I hf st hg;subst hP hw hK;obtain⟨xs,x,hq,hx⟩:=hg;obtain⟨aa,rv,p,hz⟩:=I.tuple hq;obtain⟨u,hu,ru⟩:=rv.get hx;obtain⟨f0,f1,f2,f3,f4,f5⟩:=hf it (by simp);refine wpAny_pyNext_tuple_item st (show s.heap.IsTuple a aa.toArray from p) (x:=u) (by simpa using hu) λ h' bd sb=>?_;have I1:Inv X pins σ H {s with heap:=h' }:=I.turned (t':=s.toks) (λ b o hb e=>(sb.2 b hb).trans e) f0 f1 f3 f4 f5;obtain⟨o,e,c,d⟩:=id bd;exact⟨u,rfl,U8 (s:={s with heap:=h' }) e c d (by decide) ⟨x,H,I1,ru,⟨rfl,λ ys hy=>by rw[I.J7 hy hq];exact hx⟩,bd,λ b hb=>(hf b hb).1⟩⟩
 done:=by
  intro X hP hw hK hc i pins s σ H E I hf st hg;subst hP hw hK;obtain⟨xs,hq,hx⟩:=hg;obtain⟨aa,rv,p,hz⟩:=I.tuple hq;obtain⟨f0,f1,f2,f3,f4,f5⟩:=hf it (by simp);have hl:=rv.length;exact wpAny_pyNext_tuple_end (I.ok.hd hc) st (show s.heap.IsTuple a aa.toArray from p) (by simp;omega) λ h' eb=>⟨rfl,I.turned (t':=s.toks) (λ b o hb e=>eb b o hb e) f0 f1 f3 f4 f5⟩
 self:=λ _ _ _ _ _ st h=>wpAny_pyIter_tupleiter st h
def Ww {K}(it:Addr)(lo:Int)(n:Nat):Turn P w K tg (Itr lo n) [it] it (λ i h=>IsRangeIter h it (lo+(i:Nat)*1) ((n:Int)-(i:Nat)) 1) where
 mem:=by simp
 obj:=λ i h st b hb=>by
  have e:b=it:=by simpa using hb
  subst e;exact⟨_,st,λ v z=>by
   have z':Data.fields _=Data.cell v:=z;cases z'⟩
 keep:=λ i h h' st k=>k it (by simp) _ st
 item:=by
  intro X hP hw hK hc i pins s σ H E I hf st hg;subst hP hw hK;obtain⟨f0,f1,f2,f3,f4,f5⟩:=hf it (by simp);have W:=Walks.range (prog:=X.prog) (w:=X.w) (I.ok.hd hc) it lo 1 n;refine W.item i s _ _ hg st λ v h' tk hv bd kk=>?_;obtain⟨t,rfl⟩:=hv;have I1:Inv X pins σ H {s with heap:=h',toks:=tk}:=I.turned (λ b o hb e=>kk b o (by simpa using hb) e) f0 f1 f3 f4 f5;refine⟨_,rfl,U8 (s:={s with heap:=h',toks:=tk}) (n := "range_iterator") bd rfl rfl (by decide) ⟨.int (lo+i),H,I1,⟨t,?_⟩,⟨rfl,rfl⟩,bd,λ b hb=>(hf b hb).1⟩⟩;rw[Int.mul_one]
 done:=by
  intro X hP hw hK hc i pins s σ H E I hf st hg;subst hP hw hK;obtain⟨f0,f1,f2,f3,f4,f5⟩:=hf it (by simp);exact wpAny_pyNext_range_end (I.ok.hd hc) st (by have:n<=i:=hg;omega) λ h' eb=>⟨rfl,I.turned (t':=s.toks) (λ b o hb e=>eb b o hb e) f0 f1 f3 f4 f5⟩
 self:=λ _ _ _ _ _ st h=>wpAny_pyIter_rangeiter st h
section
variable {tg:Expr}
abbrev aat (K:za1)(tl:TE):TI:=λ σ H R=>tl σ H λ x H1=>∃a,x=.ref a/\(∃xs,Ds K H1 a xs)/\R (Itl K a) H1
abbrev acz (K:za1)(tl:TE):TI:=λ σ H R=>tl σ H λ x H1=>∃a,x=.ref a/\(∃xs,FF K H1 a xs)/\R (Itt K a) H1
def nI (hl:PE X l tl):PI X tg l (aat X.K tl):=by
 intro pins s σ H R I h;refine Bl (hl pins s σ H _ I h) λ v s1 zz=>?_;obtain⟨x,H1,I1,r1,q1⟩:=zz;obtain⟨a,e,⟨xs,hq⟩,q⟩:=q1;subst e;cases r1;obtain⟨aa,rv,p,hz⟩:=I1.list hq;refine wpAny_pyIter_list p.isList ?_;refine⟨s1.heap.objs.size,[s1.heap.objs.size],_,_,H1,rfl,I1.kept (t':=s1.toks) λ b o e=>zah _ e,Zc a _,⟨_,zat _ rfl,rfl,rfl⟩,λ b hb=>?_,q⟩;have e:b=s1.heap.objs.size:=by simpa using hb
 subst e;exact I1.Wu (zaf _) (I1.Aw.fresh (zaf _))
def vA (hl:PE X l tl):PI X tg l (acz X.K tl):=by
 intro pins s σ H R I h;refine Bl (hl pins s σ H _ I h) λ v s1 zz=>?_;obtain⟨x,H1,I1,r1,q1⟩:=zz;obtain⟨a,e,⟨xs,hq⟩,q⟩:=q1;subst e;cases r1;obtain⟨aa,rv,p,hz⟩:=I1.tuple hq;refine wpAny_pyIter_tuple (show s1.heap.IsTuple a aa.toArray from p) ?_;refine⟨s1.heap.objs.size,[s1.heap.objs.size],_,_,H1,rfl,I1.kept (t':=s1.toks) λ b o e=>zah _ e,Wv a _,⟨_,zat _ rfl,rfl,rfl⟩,λ b hb=>?_,q⟩;have e:b=s1.heap.objs.size:=by simpa using hb
 subst e;exact I1.Wu (zaf _) (I1.Aw.fresh (zaf _))
def eI {lo}(I:Inv X pins σ H s)(h1 : -(2^62)<=lo)(h2:lo<2^62)(h3 : -(2^62)<=hi)(h4:hi<2^62)(q:R (Itr lo (hi-lo).toNat) H):wpAny (model X.prog X.w) X.A (pyIter (.ref s.heap.objs.size)) (PIE X pins σ tg R) E {s with heap:=s.heap.push {cls:=.type "range",data:=.fields #[.int lo t,.int hi u,.int 1 v]},toks:=tk}:=by
 refine wpAny_pyIter_range (IsRange.new ..) (small_one h1 h2 h3 h4) ?_;have I1:Inv X pins σ H {s with heap:=s.heap.push {cls:=.type "range",data:=.fields #[.int lo t,.int hi u,.int 1 v]},toks:=tk}:=I.kept λ b o e=>zah _ e;refine⟨(s.heap.push {cls:=.type "range",data:=.fields #[.int lo t,.int hi u,.int 1 v]}).objs.size,[(s.heap.push {cls:=.type "range",data:=.fields #[.int lo t,.int hi u,.int 1 v]}).objs.size],_,_,H,rfl,
  I1.kept (t':=tk) λ b o e=>zah _ e,Ww _ lo (hi-lo).toNat,?_,λ b hb=>?_,q⟩
 ·have e1:lo+((0:Nat):Int)*1=lo:=by simp
  have e2:(((hi-lo).toNat:Nat):Int)-((0:Nat):Int)=Builtin.Range.rangeSize lo hi 1:=by rw[rangeSize_one];split<;>omega
  show IsRangeIter _ _ (lo+((0:Nat):Int)*1) ((((hi-lo).toNat:Nat):Int)-((0:Nat):Int)) 1;rw[e1,e2];exact zat _ rfl
 ·have e:b=(s.heap.push {cls:=.type "range",data:=.fields #[.int lo t,.int hi u,.int 1 v]}).objs.size:=by simpa using hb
  subst e;exact I1.Wu (zaf _) (I1.Aw.fresh (zaf _))
abbrev aau (ta:TA):TI:=λ σ H R=>ta σ H λ vs H1=>∃j:Int,vs=[.int j]/\-(2^62)<=j/\j<2^62/\R (Itr 0 j.toNat) H1
def Zd {a}{ta}(hg:Gl X "range")(hm:X.mg "range" = none)(ha:PA X [a] ta)(hs: ~~~(starEach [a] X.env=[(false,eval a X.env)])):PI X tg (.Call (.Name "range" p) [a] [] pos) (aau ta):=by
 intro pins s σ H R I h;refine Call_ (Eg I hg hm boot_range (zbo (Bl (ha pos pins s σ H _ I h) λ us s1 zz=>?_) hs rfl));obtain⟨vs,H1,I1,r1,q1⟩:=zz;obtain⟨j,e,q1,q2,q⟩:=q1;subst e;cases r1 with
 |cons r rr =>
  cases rr;obtain⟨t,rfl⟩:=r;exact call_range_1 (eI I1 (by omega) (by omega) q1 q2 (by simpa using q))
abbrev acA (wi:TI)(g:TG)(tb:TS):TS:=λ D σ H=>wi σ H λ J H1=>∃W:Nat->Nat->St->Hp->Prop,(∃m,W 0 m σ H1)/\∀i m σ H,W i m σ H->
 (J.stop i H/\D.nx σ H)\/(J.go i H/\∃N:St->Hp->Prop,(∀σ' H',N σ' H'->∃m',m'<m/\W (i+1) m' σ' H')/\∀x H',J.mQ i H x H'->g x σ H' λ σ2 H2=>tb {D with nx:=N,ct:=N,bk:=D.nx} σ2 H2)
abbrev JO (fp:List Addr)(h:Heap):List (Addr×Obj):=fp.filterMap λ b=>(h.get? b).map λ o=>(b,o)
def Gn (hb:b∈fp)(e:h.get? b=some o):(b,o)∈JO fp h:=zd2.mpr ⟨b,hb,by rw[e];rfl⟩
def QX (hp:p∈JO fp h):p.1∈fp/\h.get? p.1=some p.2:=by
 obtain⟨b,hb,e⟩:=zd2.mp hp;cases q:h.get? b with
 |none=>rw[q] at e;cases e
 |some o =>
  rw[q] at e;have e':(b,o)=p:=zb0 e;subst e';exact⟨hb,q⟩
def Inv.pinned (I:Inv X pins σ H s)(hf:∀b∈fp,Nf X pins H b)(ho:∀b∈fp,∃o,s.heap.get? b=some o/\∀v,o.data≠.cell v):Inv X (pins++JO fp s.heap) σ H s:=
 I.Kg λ p hp=>(zao.mp hp).elim (λ z=>I.pin p (zac _ z)) λ z=>by
  obtain⟨hb,e⟩:=QX z;obtain⟨f0,f1,f2,_⟩:=hf p.1 hb;obtain⟨o,e',d⟩:=ho p.1 hb;rw[e] at e';cases e';exact⟨e,f0,f1,f2,d⟩
def Inv.Kh (I:Inv X (pins++pl) σ H s):Inv X pins σ H s:=I.Kg λ p hp=>I.pin p (zac _ (zb5 _ hp))
def vB (hp:PassesOwn (model X.prog X.w) X.A X.env X.xe)(hc:X.calm=true)(hi:PI X tg iter wi)(hg:PG X tg g)(hb:XY X body tb)(hs:∀x,foldedSetIterable iter X.env x=pure x:=by intro _;rfl):PS X (.For tg iter body [] pos) (acA wi g tb):=by
 intro pins s σ H D I h;refine wpAny_For (Bl (hi pins s σ H _ I h) λ v s1 h1=>Bl h1 λ m6 s2 h2=>?_) hs;obtain⟨it,fp,tn,J,H2,e,I2,T,dr,f2,W,⟨m0,w0⟩,turn⟩:=h2;subst e;have bt:∀ {H':Hp},(∀b∈fp,H' b=none)->∀b∈fp,Nf X pins H' b:=λ hn b hb=>⟨hn b hb,(f2 b hb).2⟩;refine codeAny_forLoop_any (λ n s'=>∃i σ' H',Inv X pins σ' H' s'/\tn i s'.heap/\(∀b∈fp,H' b=none)/\W i n σ' H') ?_ m0 ⟨0,σ,H2,I2,dr,λ b hb=>(f2 b hb).1,w0⟩;rintro n s3 ⟨i,σ3,H3,I3,ji,jj,w3⟩;rcases turn i n σ3 H3 w3 with ⟨stop,qn⟩|⟨go,N,hN,step⟩
 ·refine wpAny_passesOwn hp (Bl (T.done X rfl rfl rfl hc i pins s3 σ3 H3 X.xe I3 (bt jj) ji stop) λ r s4 zz=>?_);obtain⟨hr,I4⟩:=zz;subst hr;exact wpAny_execs_nil ⟨σ3,H3,I4,qn⟩
 ·refine wpAny_passesOwn hp (Bl (T.item X rfl rfl rfl hc i pins s3 σ3 H3 X.xe I3 (bt jj) ji go) λ r s4 zz=>?_);obtain⟨u,hr,h4⟩:=zz;subst hr;refine wpAny_passesOwn hp (Bl h4 λ _ s5 zz=>?_);obtain⟨x,H5,I5,r5,y5,gc,pf⟩:=zz;have ph:=I5.pinned (bt pf) (T.obj _ _ gc);refine wpAny_passesOwn hp (Bl (hg _ s5 σ3 H5 x u _ ph r5 (step x H5 y5)) λ _ s6 zz=>?_);obtain⟨σ6,H6,I6,q6⟩:=zz;refine wpAny_passesOwn hp (Bl (hb _ s6 σ6 H6 _ I6 q6) λ f s7 q7=>?_);have again:∀ {σ7:St} {H7:Hp},Inv X (pins++JO fp s5.heap) σ7 H7 s7->N σ7 H7->∃m,m<n/\∃i σ' H',Inv X pins σ' H' s7/\tn i s7.heap/\(∀b∈fp,H' b=none)/\W i m σ' H':=fun {σ7 H7} I7 n7=>by
   obtain⟨m',hm,w7⟩:=hN σ7 H7 n7;refine⟨m',hm,i+1,σ7,H7,I7.Kh,T.keep _ _ _ gc λ b hb o e=>(I7.pin (b,o) (zac _ (zac _ (Gn hb e)))).1,λ b hb=>?_,w7⟩;obtain⟨o,e,d⟩:=T.obj _ _ gc b hb;exact (I7.pin (b,o) (zac _ (zac _ (Gn hb e)))).2.1
  cases f with
  |next|cont=>obtain⟨σ7,H7,I7,n7⟩:=q7;exact again I7 n7
  |brk=>obtain⟨σ7,H7,I7,q7⟩:=q7;exact⟨σ7,H7,I7.Kh,q7⟩
  |ret v=>obtain⟨x7,σ7,H7,I7,r7,q7⟩:=q7;exact⟨x7,σ7,H7,I7.Kh,r7,q7⟩
end
noncomputable abbrev R2:=V->V->Hp->VK->Prop
abbrev HI (X:Cx)(f:Value->Value->Sem Value)(r:R2):Prop:=
 ∀(pins:List (Addr×Obj)) (s:Shared) (σ:St) (H:Hp) (x y:V) (v u:Value) (Q:VK),Inv X pins σ H s->RelV x v->RelV y u->r x y H Q->
  wpAny (model X.prog X.w) X.A (f v u) (EP X pins σ Q) X.xe s
abbrev UnR (X:Cx)(f:Value->Sem Value)(r:V->Hp->VK->Prop):Prop:=
 ∀(pins:List (Addr×Obj)) (s:Shared) (σ:St) (H:Hp) (x:V) (v:Value) (Q:VK),Inv X pins σ H s->RelV x v->r x H Q->
  wpAny (model X.prog X.w) X.A (f v) (EP X pins σ Q) X.xe s
abbrev Hi (X:Cx)(f:Value)(r:List V->Hp->VK->Prop):Prop:=
 ∀(pins:List (Addr×Obj)) (s:Shared) (σ:St) (H:Hp) (xs:List V) (us:List Value) (Q:VK),Inv X pins σ H s->Vals xs us->r xs H Q->
  wpAny (model X.prog X.w) X.A (call f us) (EP X pins σ Q) X.xe s
abbrev acC (X:Cx)(r:V->Hp->(Bool->Hp->Prop)->Prop):Prop:=
 ∀(pins:List (Addr×Obj)) (s:Shared) (σ:St) (H:Hp) (x:V) (v:Value) (Q:Bool->Hp->Prop),Inv X pins σ H s->RelV x v->r x H Q->
  wpAny (model X.prog X.w) X.A (truthy v) (TP X pins σ Q) X.xe s
abbrev zT (r:R2)(ta tb:TE):TE:=λ σ H Q=>ta σ H λ x H1=>tb σ H1 λ y H2=>r x y H2 Q
abbrev tUn (r:V->Hp->VK->Prop)(ta:TE):TE:=λ σ H Q=>ta σ H λ x H1=>r x H1 Q
abbrev rI (C:Int->Int->Prop)(g:Int->Int->V):R2:=λ x y H Q=>∃i j,x=.int i/\y=.int j/\C i j/\Q (g i j) H
abbrev mR (g:Int->Int->V):R2:=λ x y H Q=>∃i j,x=.int i/\y=.int j/\Q (g i j) H
abbrev rU (g:Int->V):V->Hp->VK->Prop:=λ x H Q=>∃i,x=.int i/\Q (g i) H
section
variable {a b:Expr}{tb tc:TE}
def vC (ha:PE X a ta)(hb:PE X b tb){R:V->V->Hp->Prop}(I:Inv X pins σ H s)(h:ta σ H λ x H1=>tb σ H1 λ y H2=>R x y H2){f:Value->Value->Sem Value}(hf:∀v u s2 x y H2,Inv X pins σ H2 s2->RelV x v->RelV y u->R x y H2->wpAny (model X.prog X.w) X.A (f v u) Q X.xe s2):
 wpAny (model X.prog X.w) X.A (eval a X.env) (λ v s₁=>wpAny (model X.prog X.w) X.A (eval b X.env) (λ u s₂=>wpAny (model X.prog X.w) X.A (f v u) Q X.xe s₂) X.xe s₁) X.xe s:=by
 refine Bl (ha pins s σ H _ I h) λ v s1 zz=>?_;obtain⟨x,H1,I1,r1,q1⟩:=zz;refine Bl (hb pins s1 σ H1 _ I1 q1) λ u s2 zz=>?_;obtain⟨y,H2,I2,r2,q2⟩:=zz;exact hf v u s2 x y H2 I2 r1 r2 q2
def eJ (ho:HI X (binaryOp op) r)(ha:PE X a ta)(hb:PE X b tb):PE X (.BinOp a op b pos) (zT r ta tb):=by
 intro pins s σ H Q I h;exact wpAny_BinOp (vC ha hb I h λ v u s2 x y H2 I2 rx ry q=>ho pins s2 σ H2 x y v u Q I2 rx ry q)
def aav (ho:UnR X (unaryOp op) r)(ha:PE X a ta):PE X (.UnaryOp op a pos) (tUn r ta):=by
 intro pins s σ H Q I h;exact UnaryOp_ (Bl (ha pins s σ H _ I h) λ v s1 ⟨x,H1,I1,r1,q1⟩=>ho pins s1 σ H1 x v Q I1 r1 q1)
def opI {C}{g:Int->Int->Int}(rule:∀(i j:Int) (t u:Tok) (s:Shared) (Q:Value->Shared->Prop) (E:Value->Shared->Prop),C i j->Q (.int (g i j) s.toks) {s with toks:=s.toks+1}->wpAny (model X.prog X.w) X.A (f (.int i t) (.int j u)) Q E s):
 HI X f (rI C λ i j=>.int (g i j)):=by
 intro pins s σ H x y v u Q I rx ry h;obtain⟨i,j,rfl,rfl,hc,q⟩:=h;obtain⟨t,rfl⟩:=rx;obtain⟨t',rfl⟩:=ry;exact rule i j t t' s _ _ hc ⟨.int (g i j),H,I.tok _,⟨_,rfl⟩,q⟩
def aaw {g:Int->Int->Int}(rule:∀(i j:Int) (t u:Tok) (s:Shared) (Q:Value->Shared->Prop) (E:Value->Shared->Prop),Q (.int (g i j) s.toks) {s with toks:=s.toks+1}->wpAny (model X.prog X.w) X.A (f (.int i t) (.int j u)) Q E s):
 HI X f (mR λ i j=>.int (g i j)):=by
 intro pins s σ H x y v u Q I rx ry h;obtain⟨i,j,rfl,rfl,q⟩:=h;obtain⟨t,rfl⟩:=rx;obtain⟨t',rfl⟩:=ry;exact rule i j t t' s _ _ ⟨.int (g i j),H,I.tok _,⟨_,rfl⟩,q⟩
def vD {g:Int->Int->Bool}(rule:∀(i j:Int) (t u:Tok) (s:Shared) (Q:Value->Shared->Prop) (E:Value->Shared->Prop),Q (.bool (g i j)) s->wpAny (model X.prog X.w) X.A (f (.int i t) (.int j u)) Q E s):
 HI X f (mR λ i j=>.bl (g i j)):=by
 intro pins s σ H x y v u Q I rx ry h;obtain⟨i,j,rfl,rfl,q⟩:=h;obtain⟨t,rfl⟩:=rx;obtain⟨t',rfl⟩:=ry;exact rule i j t t' s _ _ ⟨.bl (g i j),H,I,rfl,q⟩
abbrev eK (i j:Int):Prop:=0<j/\j<1073741824
abbrev nJ (i j:Int):Prop:=0<=j/\j<=1000000/\i.natAbs<2^64
abbrev eL (i j:Int):Prop:=(-(2^64)<i/\i<2^64)\/(-(2^64)<j/\j<2^64)
def eL.ok (h:eL i j):IntMulOk i j:=by
 rcases h with ⟨h1,h2⟩|⟨h1,h2⟩
 ·exact .of_left (intBits_le_64 h1 h2)
 ·exact .of_right (intBits_le_64 h1 h2)
def vE:HI X (binaryOp .Add) (mR λ i j=>.int (i+j)):=aaw λ _ _ _ _ _ _ _ q=>add_int q
def vF:HI X (binaryOp .Sub) (mR λ i j=>.int (i-j)):=aaw λ _ _ _ _ _ _ _ q=>sub_int q
def nK:HI X (binaryOp .FloorDiv) (rI eK λ i j=>.int (i / j)):=opI λ i j _ _ _ _ _ hc q=>by
 have h1:(0:Int)<j:=hc.1;have h2:j<1073741824:=hc.2;exact floordiv_int (by omega) (by rw[Int.fdiv_eq_ediv_of_nonneg i (by omega)];exact q) (.inl (PyProof.noPylong_small (by omega)))
def vG:HI X (binaryOp .Mod) (rI (λ _ j=>0<j) λ i j=>.int (i%j)):=opI λ i j _ _ _ _ _ hc q=>by
 have h1:(0:Int)<j:=hc;exact mod_int' (by omega) (by rw[Int.fmod_eq_emod_of_nonneg i (by omega)];exact q)
def vH:HI X (binaryOp .Pow) (rI nJ λ i j=>.int (i^j.toNat)):=opI λ _ _ _ _ _ _ _ hc q=>pow_int_small hc.1 hc.2.1 hc.2.2 q
def unI {g:Int->Int}(rule:∀(i:Int) (t:Tok) (s:Shared) (Q:Value->Shared->Prop) (E:Value->Shared->Prop),Q (.int (g i) s.toks) {s with toks:=s.toks+1}->wpAny (model X.prog X.w) X.A (f (.int i t)) Q E s):
 UnR X f (rU λ i=>.int (g i)):=by
 intro pins s σ H x v Q I rx h;obtain⟨i,rfl,q⟩:=h;obtain⟨t,rfl⟩:=rx;exact rule i t s _ _ ⟨.int (g i),H,I.tok _,⟨_,rfl⟩,q⟩
def vI:UnR X (unaryOp .USub) (rU λ i=>.int (-i)):=unI λ _ _ _ _ _ q=>neg_int q
end
section
variable {a b:Expr}{tb tc:TE}
def sN:HI X (compareOp .Lt) (mR λ i j=>.bl (decide (i<j))):=vD λ _ _ _ _ _ _ _ q=>lt_int q
def aax:HI X (compareOp .LtE) (mR λ i j=>.bl (decide (i<=j))):=vD λ _ _ _ _ _ _ _ q=>le_int q
def aay:HI X (compareOp .Gt) (mR λ i j=>.bl (decide (j<i))):=vD λ _ _ _ _ _ _ _ q=>gt_int q
def HI.or (h:HI X f r)(h':HI X f r'):HI X f (λ x y H Q=>r x y H Q\/r' x y H Q):=by
 intro pins s σ H x y v u Q I rx ry q;rcases q with q|q
 ·exact h pins s σ H x y v u Q I rx ry q
 ·exact h' pins s σ H x y v u Q I rx ry q
def LI (b:Expr)(h:op≠.In:=by decide)(h2:op≠.NotIn:=by decide):behindInMarks op b=false:=by
 have e1:(op==CmpOp.In)=false:=by cases op<;>first|rfl|exact absurd rfl h
 have e2:(op==CmpOp.NotIn)=false:=by cases op<;>first|rfl|exact absurd rfl h2
 cases b<;>simp[behindInMarks,e1,e2]
def nL (ho:HI X (compareOp op) r)(ha:PE X a ta)(hb:PE X b tb)(hm:behindInMarks op b=false):PE X (.Compare a [op] [b] pos) (zT r ta tb):=by
 intro pins s σ H Q I h;exact wpAny_Compare1 (vC ha hb I h λ v u s2 x y H2 I2 rx ry q=>ho pins s2 σ H2 x y v u Q I2 rx ry q) hm
abbrev aaz (t:TE):TT:=λ σ H Q=>t σ H λ x H'=>∃k,x=.bl k/\Q k H'
def nM (ho:HI X (compareOp op) r)(ha:PE X a ta)(hb:PE X b tb)(hm:behindInMarks op b=false):PT X (.Compare a [op] [b] pos) (aaz (zT r ta tb)):=by
 intro pins s σ H Q I h;refine wpAny_isTrue_Compare1 (Bl (ha pins s σ H _ I h) λ v s1 ⟨x,H1,I1,r1,q1⟩=>Bl (hb pins s1 σ H1 _ I1 q1) λ u s2 ⟨y,H2,I2,r2,q2⟩ =>
  Bl (ho pins s2 σ H2 x y v u _ I2 r1 r2 q2) λ c s3 ⟨z,H3,I3,r3,k,e,q3⟩=>?_) hm
 subst e;cases r3;exact wpAny_truthy_bool ⟨H3,I3,q3⟩
abbrev vJ (r r':R2)(ta tb tc:TE):TE:=λ σ H Q=>ta σ H λ x H1=>tb σ H1 λ y H2=>r x y H2 λ z H3=>∃k,z=.bl k/\
 (if k=true then tc σ H3 λ w' H4=>r' y w' H4 Q else Q (.bl false) H3)
def eM (ho:HI X (compareOp op) r)(ba:HI X (compareOp ge) r')(ha:PE X a ta)(hb:PE X b tb)(hc:PE X c tc)(hm:lastMarks [op,ge] [b,c]=false:=by with_unfolding_all rfl):PE X (.Compare a [op,ge] [b,c] pos) (vJ r r' ta tb tc):=by
 intro pins s σ H Q I h;refine Compare_chain (Bl (ha pins s σ H _ I h) λ v s1 ⟨x,H1,I1,r1,q1⟩=>chain_link (Bl (hb pins s1 σ H1 _ I1 q1) λ u s2 ⟨y,H2,I2,r2,q2⟩ =>
  Bl (ho pins s2 σ H2 x y v u _ I2 r1 r2 q2) λ d s3 ⟨z,H3,I3,r3,k,e,q3⟩=>?_)) hm
 subst e;cases r3;refine wpAny_truthy_bool ?_;cases k with
 |false=>exact ite_ff ⟨.bl false,H3,I3,rfl,q3⟩
 |true=>exact ite_tt (chain_last (Bl (hc pins s3 σ H3 _ I3 q3) λ w' s4 ⟨z',H4,I4,r4,q4⟩=>ba pins s4 σ H4 y z' u w' Q I4 r2 r4 q4))
abbrev aaA (K:za1)(x:V)(H:Hp)(k:Bool):Prop:=
 match x with
 | .AV=>k=false
 | .bl b=>k=b
 | .int i=>k=(i != 0)
 | .str y=>y.length<=sizeLine/\k=((y.length:Int) != 0)
 | .uJ y=>y.size<=sizeLine/\k=((y.size:Int) != 0)
 | .ref p=>(∃xs,Ds K H p xs/\k = !xs.isEmpty)\/(∃xs,FF K H p xs/\k = !xs.isEmpty)\/∃kvs,H p=some (.dK kvs)/\k = !kvs.isEmpty
 |_=>False
def Wx {κ:Type}{kvs:List (κ×V)}{vs}(r:KV kvs vs):(!vs.isEmpty) = !kvs.isEmpty:=by
 cases r<;>rfl
def O6 (r:Vals xs aa):(!aa.toArray.isEmpty) = !xs.isEmpty:=by
 cases r<;>simp
def LJ:(sizeLine:Nat)<2^63:=by rw[sizeLine_eq];decide
def vK:acC X (λ x H Q=>∃k,aaA X.K x H k/\Q k H):=by
 intro pins s σ H x v Q I rx h;obtain⟨k,e,q⟩:=h;have hl:=LJ;have hs:sizeLine=16777216:=sizeLine_eq;cases x with
 |AV =>
  cases rx;have e':k=false:=e;subst e';exact truthy_none ⟨H,I,q⟩
 |bl b =>
  cases rx;have e':k=b:=e;subst e';exact wpAny_truthy_bool ⟨H,I,q⟩
 |int i =>
  obtain⟨t,rfl⟩:=rx;have e':k=(i != 0):=e;subst e';exact PySem.P.truthy_int ⟨H,I,q⟩
 |str y =>
  obtain⟨t,rfl⟩:=rx;obtain⟨hy,e'⟩:y.length<=sizeLine/\k=((y.length:Int) != 0):=e;subst e';exact PySem.P.truthy_str (by omega) ⟨H,I.tok _,q⟩
 |uJ y =>
  obtain⟨t,rfl⟩:=rx;obtain⟨hy,e'⟩:y.size<=sizeLine/\k=((y.size:Int) != 0):=e;subst e';exact PySem.W.truthy_bytes (by omega) ⟨H,I.tok _,q⟩
 |ref p =>
  cases rx;have e':(∃xs,Ds X.K H p xs/\k = !xs.isEmpty)\/(∃xs,FF X.K H p xs/\k = !xs.isEmpty)\/∃kvs,H p=some (.dK kvs)/\k = !kvs.isEmpty:=e;rcases e' with ⟨xs,hx,e'⟩|⟨xs,hx,e'⟩|⟨kvs,hx,e'⟩
  ·subst e';obtain⟨aa,r,pl,hz⟩:=I.list hx;have hlen:=r.length;exact wpAny_truthy_list pl.isList (by simp only[zad];omega) ⟨H,I.tok _,by rw[O6 r];exact q⟩
  ·subst e';obtain⟨aa,r,pl,hz⟩:=I.tuple hx;have hlen:=r.length;exact truthy_tuple pl (by simp only[zad];omega) ⟨H,I.tok _,by rw[O6 r];exact q⟩
  ·subst e';obtain⟨hz,hS,vs,r,m⟩:kvs.length<=sizeLine/\(p==sysModules)=false/\∃vs,KV kvs vs/\s.heap.DictOf (AM X.prog X.w) p vs:=I.Aw p _ hx;have hlen:kvs.length=vs.length:=zd5 r;exact wpAny_truthy_dict hS m (by omega) ⟨H,I.tok _,by rw[Wx r];exact q⟩
 |_=>exact (show False from e).elim
def eN (ha:PE X a ta)(he:∀whole,isTrue a X.env whole=(do let v <-whole;standAt a.pos;holding [v] (truthy v))):
 PT X a (λ σ H Q=>ta σ H λ x H'=>∃k,aaA X.K x H' k/\Q k H'):=by
 intro pins s σ H Q I h;exact isTrue_plain (Bl (ha pins s σ H _ I h) λ v s1 ⟨x,H1,I1,r1,q1⟩=>vK pins s1 σ H1 x v Q I1 r1 q1) (he _)
def vals1 (r:Vals [x] us):∃u,us=[u]/\RelV x u:=by
 cases r with
 |cons r1 r2=>cases r2;exact⟨_,rfl,r1⟩
def vals2 (r:Vals [x,y] us):∃u w',us=[u,w']/\RelV x u/\RelV y w':=by
 cases r with
 |cons r1 r2 =>
  cases r2 with
  |cons r3 r4=>cases r4;exact⟨_,_,rfl,r1,r3⟩
def Ze (hc:X.calm=true):Hi X (.builtin "min") (λ xs H Q=>∃i j,xs=[.int i,.int j]/\Q (.int (if j<i then j else i)) H):=by
 intro pins s σ H xs us Q I r h;obtain⟨i,j,rfl,q⟩:=h;obtain⟨u,w',rfl,⟨t,rfl⟩,⟨t',rfl⟩⟩:=vals2 r;refine min_two_ints (I.ok.hd hc) λ h' tk k=>⟨_,H,I.kept k,?_,q⟩;by_cases hj:j<i
 ·rw[if_pos hj,if_pos hj];exact⟨_,rfl⟩
 ·rw[if_neg hj,if_neg hj];exact⟨_,rfl⟩
end
structure Wy (h:Heap)(x dx C:Addr)(mA:Str->Option Value):Prop where
 obj:h.get? x=some (zcs C dx)
 ns:h.Ns1 dx mA
 ne:dx≠x
def Zf {mA}(n:h.Ns1 dx mA):∃od,h.get? dx=some od/\∀name,PySem.W.lookIn name od=some (mA name):=by
 obtain⟨o,es,ep,ho,hd,hk,_,hm⟩:=n;refine⟨o,ho,λ name=>?_⟩;have e:=hm name;unfold nsFind findBy at e;rw[<-Array.find?_toList] at e;unfold PySem.W.lookIn;rw[hd];dsimp only;split
 ·rename_i y q;rw[q] at e;exact congrArg some e
 ·rename_i q;rw[q] at e;have a:es.toList.any (·.refKey)=false:=by
   rw[List.any_eq_false];intro y hy;obtain⟨z,t,pi⟩:=hk y (Array.mem_toList_iff.mp hy);simp[DictEntry.refKey,pi]
  have a':¬ es.toList.any (·.refKey)=true:=by rw[a];exact zaw
  rw[if_neg a'];exact congrArg some e
def Wy.look {mA}(I:Wy h x dx C mA):∃od,PySem.W.InstAt h x (zcs C dx) C (some od)/\∀name,PySem.W.lookIn name od=some (mA name):=
 let ⟨od,ho,hl⟩:=Zf I.ns
 ⟨od,⟨I.obj,rfl,rfl,ho⟩,hl⟩
section
variable {prog:Program}{K:za1}{x f:Addr}{mA:Str->Option Value}{name:Str}{v:Value}
def get_map (X:K.In s.heap)(I:Wy s.heap x dx C mA)(hg:zdc K C name=true)(hh:PySem.W.hasDictIn K C=true)(ha:zb7 K (.ref C) name=some none)(hv:mA name=some v)(jk:PySem.W.handedIn v=true)(h:Q v {s with toks:=s.toks+1}):
 wpAny (model prog w) A (getAttr (.ref x) name expr) Q E s:=by
 obtain⟨od,J,hl⟩:=I.look;exact PySem.W.get_value X J (PySem.W.plainGet_of hg).1 (PySem.W.findObj_own hh ha rfl (by rw[hl,hv])) jk h
def eO (X:K.In s.heap)(I:Wy s.heap x dx C mA)(hg:zdc K C name=true)(hf:zb7 K (.ref C) name=some (some (.ref f)))(ht:PySem.W.isFn K (.ref f)=true)(hv:mA name=none)(h:Q (.ref f,[.ref x]) s):
 wpAny (model prog w) A (getMethod (.ref x) name pl) Q E s:=by
 obtain⟨od,J,hl⟩:=I.look;exact PySem.W.method_fn X J (PySem.W.plainGet_of hg).1 (PySem.W.plainGet_of hg).2 hf (beq_iff_eq.mp ht) (by show (PySem.W.lookIn name od).map (·.isSome)=some false;rw[hl,hv];rfl) h
def nN (X:K.In s.heap)(I:Wy s.heap x dx C mA)(hs:zb7 K (.ref C) "__setattr__" = some (some (.builtin "object.__setattr__")))(hp:PySem.W.plainOver K C=true)(ht:PySem.W.takerIn K C name=some none)(hh:PySem.W.hasDictIn K C=true)(hw:PySem.Within mA ns)(hsz:ns.length<=sizeLine)(h:∀h',Wy h' x dx C (λ y=>if y=name then some v else mA y)->zd8 dx s.heap h'->Q () {s with heap:=h',toks:=s.toks+2}):
 wpAny (model prog w) A (setAttr (.ref x) name v) Q E s:=by
 obtain⟨od,J,hl⟩:=I.look;refine PySem.W.set_plain X J hs (PySem.W.osa_open (s:={s with toks:=s.toks+1}) (r:=none) X J hp ht λ b=>?_);obtain⟨cd,hc,bp⟩:=PySem.W.any_some hh;have hx:s.heap.get? x=some ⟨.ref C,some dx,.plain,#[]⟩:=I.obj;refine wpAny_bind (wpAny_pure (wpAny_bind (wpAny_bind (wpAny_loadPart hx (wpAny_bind (PySem.W.Looks.here (s:={s with toks:=s.toks+1}) (PySem.W.looks_clsIn X hc) ?_))))));rw[bp];refine wpAny_pure (a:=some dx) (wpAny_bind (wpAny_pure (wpAny_bind ?_)));refine wpAny_nsSet1 (s:={s with toks:=s.toks+1}) I.ns λ h' a7 a9=>?_;obtain⟨oD,esD,epD,wS,wT,xa⟩:=a7.count (PySem.Within.cons name v hw);refine wpAny_bind (wpAny_lookBehind wS (by rw[wT];exact pastItsLine_dict (zc4 xa (by rw[zaa];omega))) ?_);exact wpAny_pure (h _ ⟨(a9.2 _ (zbn I.ne)).trans I.obj,a7,I.ne⟩ a9)
def eQ (X:K.In s.heap)(hm:PySem.W.makesIn K C=true)(hi:zb7 K (.ref C) "__init__" = some (some (.ref f)))(hf:PySem.W.typeIn K (.ref f)=some (.type "function"))(h:codeAny (model prog w) (A.under (.builtin "type.__call__" ⟨.ref C::vs,kw⟩)) (.call (.ref f) ⟨.ref (s.heap.objs.size+1)::vs,kw⟩) (PySem.W.InitBack (s.heap.objs.size+1) R)
  {s with heap:=(s.heap.push zc9).push (zcs C s.heap.objs.size)}):
 codeAny (model prog w) A (.call (.ref C) ⟨vs,kw⟩) R s:=by
 obtain⟨hh,g,d,t,os⟩:=s;exact PySem.W.make_core (PySem.W.makes_of X hm) (PySem.W.looks_findIn X hi) (λ self=>PySem.W.bind_fn X self hf) (.inl rfl) h
end
abbrev EI (f:Str)(v:V):List (Str×V)->List (Str×V)
 |[]=>[(f,v)]
 |(g,x)::r=>if g=f then (g,v)::r else (g,x)::EI f v r
def Mt (f g:Str)(v:V):∀fs:List (Str×V),(EI f v fs).lookup g=if g=f then some v else fs.lookup g
 |[]=>by
  show List.lookup g [(f,v)]=_;by_cases h:g=f
  ·have hb:(g==f)=true:=beq_iff_eq.mpr h;simp only[List.lookup,hb,if_pos h]
  ·have hb:(g==f)=false:=beq_eq_false_iff_ne.mpr h;simp only[List.lookup,hb,if_neg h]
 |(k,x)::r=>by
  have ih:=Mt f g v r;rw[show EI f v ((k,x)::r)=(if k=f then (k,v)::r else (k,x)::EI f v r) from rfl];by_cases hk:k=f
  ·rw[if_pos hk];by_cases h:g=k
   ·have hb:(g==k)=true:=beq_iff_eq.mpr h;simp only[List.lookup,hb,if_pos (h.trans hk)]
   ·have hb:(g==k)=false:=beq_eq_false_iff_ne.mpr h;simp only[List.lookup,hb,if_neg (λ e:g=f=>h (e.trans hk.symm))]
  ·rw[if_neg hk];by_cases h:g=k
   ·have hb:(g==k)=true:=beq_iff_eq.mpr h;simp only[List.lookup,hb,if_neg (λ e:g=f=>hk (h.symm.trans e))]
   ·have hb:(g==k)=false:=beq_eq_false_iff_ne.mpr h;simp only[List.lookup,hb];exact ih
def LK (f:Str)(v:V):∀fs:List (Str×V),f∈(EI f v fs).map (·.1)/\∀g,g∈fs.map (·.1)->g∈(EI f v fs).map (·.1)
 |[]=>⟨by simp[EI],λ g h=>by simp at h⟩
 |(k,x)::r=>by
  obtain⟨i1,i2⟩:=LK f v r;rw[show EI f v ((k,x)::r)=(if k=f then (k,v)::r else (k,x)::EI f v r) from rfl];by_cases hk:k=f
  ·rw[if_pos hk];subst hk;exact⟨by simp,λ g h=>by simpa using h⟩
  ·rw[if_neg hk];refine⟨?_,λ g h=>?_⟩
   ·rw[za6];exact za4 _ i1
   ·rw[za6] at h ⊢;rcases zab.mp h with e|e
    ·exact zab.mpr (.inl e)
    ·exact za4 _ (i2 g e)
def Mu (f:Str)(v:V):∀fs:List (Str×V),(EI f v fs).length<=fs.length+1
 |[]=>by simp[EI]
 |(k,x)::r=>by
  have ih:=Mu f v r;rw[show EI f v ((k,x)::r)=(if k=f then (k,v)::r else (k,x)::EI f v r) from rfl];by_cases hk:k=f
  ·rw[if_pos hk,zaa,zaa];omega
  ·rw[if_neg hk,zaa,zaa];omega
def Hz.some_of (r:Hz (some v) o):∃u,o=some u/\RelV v u:=by
 cases o with
 |none=>exact (show False from r).elim
 |some u=>exact⟨u,rfl,r⟩
def Hz.none_of (r:Hz none o):o=none:=by
 cases o with
 |none=>rfl
 |some u=>exact (show False from r).elim
def Zg (r:RelV v u):PySem.W.handedIn u=true:=by
 cases v with
 |AV=>cases (show u=Value.none from r);rfl
 |bl b=>cases (show u=Value.bool b from r);rfl
 |int i=>obtain⟨t,e⟩:=(show ∃t,u=Value.int i t from r);cases e;rfl
 |str x=>obtain⟨t,e⟩:=(show ∃t,u=Value.str x t from r);cases e;rfl
 |uJ b=>obtain⟨t,e⟩:=(show ∃t,u=Value.bytes b t from r);cases e;rfl
 |flt b=>obtain⟨t,e⟩:=(show ∃t,u=Value.float b t from r);cases e;rfl
 |ref a=>cases (show u=zbl a from r);rfl
 |ty n=>cases (show u=Value.type n from r);rfl
section
variable {P:Program}{fs ci:List (Str×V)}
def Sd (Aw:Hh P w H h)(e:H a=some (.ins C dx fs)):∃mA,Wy h a dx C mA/\(∀f,Hz (fs.lookup f) (mA f))/\PySem.Within mA (fs.map (·.1))/\fs.length<=1000/\H dx=some (.own a):=by
 obtain⟨d,z,ne,ob,mA,n,r,q⟩:=(show Br P w H h a (.ins C dx fs) from Aw a _ e);exact⟨mA,⟨ob,n,ne⟩,r,q,z,d⟩
end
structure U9 (K:za1)(C:Addr):Prop where
 pg:zdc K C Str.empty=true
 hd:PySem.W.hasDictIn K C=true
 po:PySem.W.plainOver K C=true
 sa:zb7 K (.ref C) "__setattr__" = some (some (.builtin "object.__setattr__"))
def U9.get {K}(c:U9 K C)(f:Str):zdc K C f=true:=c.pg
abbrev JP (K:za1)(C:Addr)(f:Str):Prop:=zb7 K (.ref C) f=some none
def JP.aaB {K}(n:JP K C f):PySem.W.takerIn K C f=some none:=by
 unfold PySem.W.takerIn;rw[show zb7 K (.ref C) f=some none from n];rfl
structure Meth (K:za1)(C:Addr)(m:Str)(f:Addr):Prop where
 at_:zb7 K (.ref C) m=some (some (.ref f))
 fn:PySem.W.isFn K (.ref f)=true
 kp:zbk K (.ref f)=true
section
variable {fs:List (Str×V)}{f:Str}{v:V}
def Wz (I:Inv X pins σ H s)(e:H a=some (.ins C dx fs))(c:U9 X.K C)(n:JP X.K C f)(l:fs.lookup f=some v)(h:∀u s',Inv X pins σ H s'->RelV v u->Q u s'):wpAny (model X.prog X.w) A (getAttr (.ref a) f b) Q E s:=by
 obtain⟨mA,O,r,_,_,_⟩:=Sd I.Aw e;obtain⟨u,hu,ru⟩:=Hz.some_of (v:=v) (o:=mA f) (by rw[<-l];exact r f);exact get_map I.NL O (c.get f) c.hd n hu (Zg ru) (h u _ (I.tok _) ru)
def JQ (I:Inv X pins σ H s)(e:H a=some (.ins C dx fs))(c:U9 X.K C)(k:Meth X.K C m g)(l:fs.lookup m=none)(h:Q (.ref g,[.ref a]) s):wpAny (model X.prog X.w) A (getMethod (.ref a) m pl) Q E s:=by
 obtain⟨mA,O,r,_,_,_⟩:=Sd I.Aw e;have hn:mA m=none:=Hz.none_of (by rw[<-l];exact r m);exact eO I.NL O (c.get m) k.at_ k.fn hn h
def WA (I:Inv X pins σ H s)(e:H a=some (.ins C dx fs))(c:U9 X.K C)(n:JP X.K C f)(hl:fs.length<1000)(ry:RelV y u)(h:∀s',Inv X pins σ (upd H a (.ins C dx (EI f y fs))) s'->Q () s'):wpAny (model X.prog X.w) A (setAttr (.ref a) f u) Q E s:=by
 obtain⟨mA,O,r,wi,_,ho⟩:=Sd I.Aw e;have hz:(fs.map (·.1)).length<=sizeLine:=by rw[za2,sizeLine_eq];omega
 refine nN I.NL O c.sa c.po n.aaB c.hd wi hz λ h' O' sb=>h _ ?_;have hd:∃o,h'.get? dx=some o:=let ⟨o,_,_,e',_⟩:=O'.ns;⟨o,e'⟩;refine I.write (x:=a) (e:=dx) (by rw[e];exact zcy) (.inr ho) (λ b q hb z=>(sb.2 b hb).trans z) hd ?_;refine⟨by rw[Ag O.ne];exact ho,?_,O.ne,O'.obj,_,O'.ns,λ g=>?_,λ g hg=>?_⟩
 ·have:=Mu f y fs;omega
 ·show Hz ((EI f y fs).lookup g) (if g=f then some u else mA g);rw[Mt];by_cases q:g=f
  ·rw[if_pos q,if_pos q];exact ry
  ·rw[if_neg q,if_neg q];exact r g
 ·by_cases q:g=f
  ·rw[q];exact (LK f y fs).1
  ·refine (LK f y fs).2 g (wi g λ z=>hg ?_);show (if g=f then some u else mA g)=none;rw[if_neg q];exact z
def Inv.made (I:Inv X pins σ H s):Inv X pins σ (upd (upd H s.heap.objs.size (.own (s.heap.objs.size+1))) (s.heap.objs.size+1) (.ins C s.heap.objs.size []))
 {s with heap:=(s.heap.push zc9).push (zcs C s.heap.objs.size)}:=by
 have e1:(s.heap.push zc9).get? s.heap.objs.size=some zc9:=zat s.heap rfl;have e2:((s.heap.push zc9).push (zcs C s.heap.objs.size)).get? (s.heap.objs.size+1)=some (zcs C s.heap.objs.size):=by
  have:=zat (s.heap.push zc9) (o:=zcs C s.heap.objs.size) rfl;rwa[Heap.size_push] at this
 have e3:(s.heap.push zc9).Ns s.heap.objs.size (λ _=>none):=⟨zc9,#[],_,e1,rfl,(λ e he=>absurd he (by simp)),λ _=>rfl⟩;have I1:=I.laid (a:=s.heap.objs.size) (o:=.own (s.heap.objs.size+1)) (h':=s.heap.push zc9) (t':=s.toks) (λ b u q=>zah _ q) (zaf _) ⟨_,e1⟩;refine I1.laid (a:=s.heap.objs.size+1) (o:=.ins C s.heap.objs.size []) (t':=s.toks) (λ b u q=>zah _ q) (Nat.le_of_eq (Heap.size_push _ _)) ?_;have ne:s.heap.objs.size≠s.heap.objs.size+1:=zax (Nat.lt_succ_self _);refine⟨by rw[Ag ne,Am],zbe _,ne,e2,λ _=>none,(Heap.Ns1.of_empty e3).at λ o q=>zah _ q,λ _=>zcy,λ y hy=>absurd rfl hy⟩
def nO (hb:attributeBase e f env (eval e env)=eval e env)(h:wpAny (model prog w) A (eval e env) (λ o s₁=>wpAny (model prog w) A (getAttr o f true) Q E s₁) E s):wpAny (model prog w) A (eval (.Attribute e f pos) env) Q E s:=
 Attribute_any_ h (by rw[arm_eval_Attribute,hb])
end
abbrev acD (K:za1)(ta:TE)(f:Str):TE:=λ σ H Q=>ta σ H λ x H1=>∃a C dx fs v,x=.ref a/\H1 a=some (.ins C dx fs)/\U9 K C/\JP K C f/\fs.lookup f=some v/\Q v H1
abbrev acE (K:za1)(ta tv:TE)(f:Str):TS:=λ D σ H=>tv σ H λ y H1=>ta σ H1 λ x H2=>∃a C dx fs,x=.ref a/\H2 a=some (.ins C dx fs)/\U9 K C/\JP K C f/\fs.length<1000/\
 D.nx σ (upd H2 a (.ins C dx (EI f y fs)))
section
variable {o value:Expr}{f:Str}{pos' aV:Pos}{tv:TE}
def vL (he:PE X e ta)(hb:attributeBase e f X.env (eval e X.env)=eval e X.env):PE X (.Attribute e f pos) (acD X.K ta f):=by
 intro pins s σ H Q I h;refine nO hb (Bl (he pins s σ H _ I h) λ u s1 zz=>?_);obtain⟨x,H1,I1,rx,a,C,dx,fs,v,ex,ea,c,n,l,q⟩:=zz;subst ex;obtain rfl:u=zbl a:=rx;exact Wz I1 ea c n l λ u' s2 I2 ru=>⟨v,H1,I2,ru,q⟩
def vM (ha:PE X o ta)(hv:PE X value tv)(hs:swapsWith value (some (.Attribute o f pos')) pos.line X.env=pure false):PS X (.Assign [.Attribute o f pos'] value pos) (acE X.K ta tv f):=by
 intro pins s σ H D I h;refine plainObj_wpAny_Assign_Attribute (Bl (hv pins s σ H _ I h) λ u s1 ⟨y,H1,I1,ry,q⟩=>Bl (ha pins s1 σ H1 _ I1 q) λ ov s2 zz=>?_) hs;obtain⟨x,H2,I2,rx,a,C,dx,fs,ex,ea,c,n,l,q2⟩:=zz;subst ex;obtain rfl:ov=zbl a:=rx;exact WA I2 ea c n l ry λ s3 I3=>⟨σ,_,I3,q2⟩
end
structure BE (k:Nat)(A:Around):Prop where
 hd:A.handled=none
 dp:A.depth+3*k+5<recursionLimit
 un:A.units+16*k+200<cLine
def BE.mono (r:BE k A)(h:j<=k):BE j A:=⟨r.hd,by have:=r.dp;omega,by have:=r.un;omega⟩
def BE.deeper (r:BE (k+1) A)(env:Env):BE k (A.deeper env):=
 ⟨r.hd,by have:=r.dp;show A.depth+1+3*k+5<_;omega,by have:=r.un;show A.units+3+16*k+200<_;omega⟩
def WB:(A.under (.builtin "type.__call__" ⟨.ref C::us,kw⟩)).depth=A.depth+1:=by
 first|rfl|simp[Around.under,Code.weight,Code.isCreation,Code.isGuard,Code.isCaller,Code.frames,Code.isFrame,guardIds]
def WC:(A.under (.builtin "type.__call__" ⟨.ref C::us,kw⟩)).units=A.units+1:=by
 first|rfl|simp[Around.under,Code.cUnits,Code.frames,Code.isFrame]
def BE.make (r:BE (k+1) A)(C:Addr)(us:List Value)(kw:List (Str×Value)):BE k (A.under (.builtin "type.__call__" ⟨.ref C::us,kw⟩)):=
 ⟨r.hd,by have:=r.dp;rw[WB];omega,by have:=r.un;rw[WC];omega⟩
def BE.depth (r:BE k A):A.depth<recursionLimit:=by have:=r.dp;omega
def BE.units (r:BE k A):A.units+64<cLine:=by have:=r.un;omega
abbrev vN:TA:=λ _ H Q=>Q [] H
abbrev sO (ta:TE)(tr:TA):TA:=λ σ H Q=>ta σ H λ x H1=>tr σ H1 λ xs H2=>Q (x::xs) H2
section
variable {t:TA}
def CJ:PA X [] vN:=λ _ _ _ _ H Q I h=>zci ⟨[],H,I,.nil,h⟩
def Bm (ha:PE X e te)(hr:PA X es t)(hs: ~~~(starEach (e::es) X.env=(false,eval e X.env)::starEach es X.env)):PA X (e::es) (sO te t):=by
 intro pos pins s σ H Q I h;rw[hs];show wpAny _ _ (spliced ((false,eval e X.env)::backTo pos (starEach es X.env))) _ _ s;refine zc5 (Bl (ha pins s σ H _ I h) λ u s1 zz=>?_);obtain⟨x,H1,I1,r1,q1⟩:=zz;exact Bl (hr pos pins s1 σ H1 _ I1 q1) λ us s2 ⟨xs,H2,I2,r2,q2⟩=>⟨x::xs,H2,I2,.cons r1 r2,q2⟩
abbrev acF (t:TA):TE:=λ σ H Q=>t σ H λ xs H1=>xs.length<=sizeLine/\∀p,H1 p=none->Q (.ref p) (upd H1 p (.tup xs))
abbrev acG (t:TA):TE:=λ σ H Q=>t σ H λ xs H1=>xs.length<=sizeLine/\∀p,H1 p=none->Q (.ref p) (upd H1 p (.lst xs))
def WD {x1}(h:PA X es t):PE X (.Tuple es x1 pos) (acF t):=by
 intro pins s σ H Q I hq;refine wpAny_Tuple_spliced (Bl (h pos pins s σ H _ I hq) λ us s1 ⟨xs,H1,I1,r,z,q⟩=>⟨by rw[<-r.length];exact z,?_⟩);have hf:H1 s1.heap.objs.size=none:=I1.Aw.fresh (zaf _);refine⟨.ref s1.heap.objs.size,upd H1 s1.heap.objs.size (.tup xs),I1.laid (t':=s1.toks) (λ b u e=>zah _ e) (zaf _) ?_,rfl,q _ hf⟩;exact⟨z,us,r,⟨_,zat _ rfl,rfl,_,rfl⟩⟩
def WE (h:PA X es t):PE X (.List es pos) (acG t):=by
 intro pins s σ H Q I hq;refine wpAny_List_spliced (Bl (h pos pins s σ H _ I hq) λ us s1 ⟨xs,H1,I1,r,z,q⟩=>⟨by rw[<-r.length];exact z,?_⟩);have hf:H1 s1.heap.objs.size=none:=I1.Aw.fresh (zaf _);refine⟨.ref s1.heap.objs.size,upd H1 s1.heap.objs.size (.lst xs),I1.laid (t':=s1.toks) (λ b u e=>zah _ e) (zaf _) ?_,rfl,q _ hf⟩;exact⟨z,us,0,r,zat _ rfl⟩
end
noncomputable abbrev Sp:=List V->Hp->VK->XK->Prop
variable {sp:Sp}
noncomputable abbrev Y0:=List Env->Hp->Shared->XK->Value->Shared->Prop
structure WG (P:Program)(w:World)(K:za1)(mg:Str->Option Value)(base:Heap)(A:Around)(outer:List Env)(s:Shared)(H:Hp):Prop where
 frames:A.frames=some outer
 mod:Mod K mg base
 bs:∀b o,base.get? b=some o->s.heap.get? b=some o/\H b=none
 sM:base.objs.size<=s.heap.objs.size
 LH:s.heap.FunFrames base outer
 uM:∀b∈dP outer,H b=none
 Aw:Hh P w H s.heap
 bare:AllBare s.gens
variable {CX:Y0}
abbrev CE (outer:List Env)(P:Program)(w:World)(H:Hp)(s:Shared)(Q:VK)(u:Value)(s':Shared):Prop:=
 ∃v H',s'.os=s.os/\AllBare s'.gens/\Un (dP outer) [] H H' s.heap s'.heap/\Hh P w H' s'.heap/\RelV v u/\Q v H'
abbrev CR (CX:Y0)(outer:List Env)(P:Program)(w:World)(H:Hp)(s:Shared)(Q:VK)(E:XK)(r:Result)(s':Shared):Prop:=
 match r with
 | .ok (.ret u)=>CE outer P w H s Q u s'
 | .ok _=>False
 | .error e=>CX outer H s E e s'
structure D4 (P:Program)(w:World)(K:za1)(mg:Str->Option Value)(base:Heap)(CX:Y0)(k:Nat)(f:Addr)(fd:FuncData)(ps:List Str)(sp:Sp):Prop where
 len:∀vs H Q E,sp vs H Q E->vs.length=ps.length
 run:∀(A:Around) (outer:List Env) (s:Shared) (H:Hp) (args:Args) (us:List Value) (vs:List V) (Q:VK) (E:XK),BE k A->WG P w K mg base A outer s H->BindsTo s fd args (ps.zip us)->Vals vs us->sp vs H Q E->
  codeAny (model P w) A (.call (.ref f) args) (CR CX outer P w H s Q E) s
def WG.make {K}(e:WG P w K mg base A outer s H)(C:Addr)(us:List Value)(kw:List (Str×Value)):
 WG P w K mg base (A.under (.builtin "type.__call__" ⟨.ref C::us,kw⟩)) outer s H:=⟨by first|exact e.frames|(simpa [Around.under,Code.envs,Code.isFrame,pushEnvs] using e.frames),e.mod,e.bs,e.sM,e.LH,e.uM,e.Aw,e.bare⟩
section
variable {s':Shared}
def Inv.aaC (I:Inv X pins σ H s):WG X.prog X.w X.K X.mg X.base X.A X.stack s H:=
 ⟨I.ok.frames,I.ok.mod,I.bs,zc4 I.ok.sM I.sz,I.stack,I.XX,I.Aw,I.bare⟩
def Inv.after (I:Inv X pins σ H s)(h:CE X.stack X.prog X.w H s Q u s'):EP X pins σ Q u s':=by
 obtain⟨v,H',os,bare,un,Aw,r,q⟩:=h;obtain⟨hh,g,d,t,xb⟩:=s';obtain rfl:xb=s.os:=os;exact⟨v,H',I.call (h':=hh) (g':=g) (d':=d) (t':=t) (ch:=[]) un Aw bare (λ b z=>absurd z (by simp)),r,q⟩
end
abbrev aaD (sp:Sp)(bu:List V)(E:XK)(t:TA):TE:=λ σ H Q=>t σ H λ vs H1=>sp (vs++bu) H1 Q E
abbrev aaE (C:Addr)(sp:Sp)(bu:List V)(E:XK)(t:TA):TE:=λ σ H Q=>t σ H λ vs H1=>∀x dx,H1 x=none->H1 dx=none->dx≠x->
 sp (.ref x::(vs++bu)) (upd (upd H1 dx (.own x)) x (.ins C dx [])) (λ v H2=>v=.AV/\Q (.ref x) H2) E
abbrev Binds (K:za1)(fd:FuncData)(ps:List Str)(ds:List Value):Prop:=
 ∀(s:Shared) (us:List Value),K.In s.heap->(us++ds).length=ps.length->BindsTo s fd ⟨us,[]⟩ (ps.zip (us++ds))
def Binds.all {K}(h:∀us:List Value,us.length=ps.length->bindArgs fd ⟨us,[]⟩=pure (ps.zip us)):Binds K fd ps []:=λ s us _ hl=>by
 rw[zb1] at hl ⊢;exact .of_eq (h us hl)
abbrev Gp (CX:Y0)(X:Cx)(E:XK):Prop:=∀(pins:List (Addr×Obj)) (σ:St) (H:Hp) (s:Shared) (e:Value) (s':Shared),Inv X pins σ H s->CX X.stack H s E e s'->X.xe e s'
section
variable {k:Nat}{f:Addr}{bu:List V}{ds:List Value}{E:XK}{x m:Str}{p:Pos}{o:Expr}{t:TA}
def O7 (F:D4 X.prog X.w X.K X.mg X.base CX k f fd ps sp)(hr:BE k X.A)(hb:Binds X.K fd ps ds)(hd:Vals bu ds)(hx:Gp CX X E)(I:Inv X pins σ H s)(r:Vals vs us)(h:sp (vs++bu) H Q E):wpAny (model X.prog X.w) X.A (call (.ref f) us) (EP X pins σ Q) X.xe s:=by
 have r2:Vals (vs++bu) (us++ds):=r.append hd;have hl:(us++ds).length=ps.length:=by rw[<-r2.length];exact F.len _ _ _ _ h
 refine wpAny_call (codeAny_mono (F.run X.A X.stack s H ⟨us,[]⟩ (us++ds) (vs++bu) Q E hr I.aaC (hb s us I.NL hl) r2 h) λ r s' hq=>?_);cases r with
 |error e=>exact hx pins σ H s e s' I hq
 |ok fl =>
  cases fl with
  |ret u=>exact I.after hq
  |next|brk|cont=>exact zct hq
def Y1 (F:D4 X.prog X.w X.K X.mg X.base CX k f fd ps sp)(hr:BE k X.A)(hg:Gl X x)(hm:X.mg x=some (.ref f))(hk:zbk X.K (.ref f)=true)(hb:Binds X.K fd ps ds)(hd:Vals bu ds)(hx:Gp CX X E)(ha:PA X (e::es) t)(be:(x==("__debug__" : Str))=false:=by decide)(he: ~~~(starEach (e::es) X.env=(false,eval e X.env)::starEach es X.env))(hpl: ~~~((backTo pos (starEach es X.env)).any (·.1)=false)):
 PE X (.Call (.Name x p) (e::es) [] pos) (aaD sp bu E t):=by
 intro pins s σ H Q I h;refine wpAny_Call_Name_kw (S9 I hg hm ?_ be);refine PySem.W.callWith_K (h₀:=X.base) I.ok.mod.Wl hk (Bl (ha pos pins s σ H _ I h) λ us s1 ⟨vs,H1,I1,r,q⟩=>⟨I1.NL,?_⟩) he hpl;exact O7 F hr hb hd hx I1 r q
structure Mk (K:za1)(C f:Addr):Prop where
 makes:PySem.W.makesIn K C=true
 init:zb7 K (.ref C) "__init__" = some (some (.ref f))
 fn:PySem.W.isFn K (.ref f)=true
 kp:zbk K (.ref C)=true
def eS (M:Mk X.K C f)(F:D4 X.prog X.w X.K X.mg X.base CX k f fd ps sp)(hr:BE (k+1) X.A)(hb:Binds X.K fd ps ds)(hd:Vals bu ds)(hx:Gp CX X E)(I:Inv X pins σ H s)(r:Vals vs us)(h:∀x dx,H x=none->H dx=none->dx≠x->sp (.ref x::(vs++bu)) (upd (upd H dx (.own x)) x (.ins C dx [])) (λ v H2=>v=.AV/\Q (.ref x) H2) E):
 wpAny (model X.prog X.w) X.A (call (.ref C) us) (EP X pins σ Q) X.xe s:=by
 have hq:=h (s.heap.objs.size+1) s.heap.objs.size (I.Aw.fresh (Nat.le_succ _)) (I.Aw.fresh (zaf _)) (zax (Nat.lt_succ_self _));have I2:=Inv.made (C:=C) I;have r2:Vals (V.ref (s.heap.objs.size+1)::(vs++bu)) (zbl (s.heap.objs.size+1)::(us++ds)):=.cons rfl (r.append hd);have hl:(zbl (s.heap.objs.size+1)::us++ds).length=ps.length:=by
  have e:=r2.length;rw[F.len _ _ _ _ hq] at e;exact e.symm
 refine wpAny_call (eQ (f:=f) I.NL M.makes M.init (beq_iff_eq.mp M.fn) (codeAny_mono (F.run _ X.stack _ _ ⟨zbl (s.heap.objs.size+1)::us,[]⟩ (zbl (s.heap.objs.size+1)::(us++ds)) _ _ E (hr.make C us [])
  (I2.aaC.make C us []) (hb _ (zbl (s.heap.objs.size+1)::us) I2.NL hl) r2 hq) λ r s' gf=>?_))
 cases r with
 |error e=>exact hx pins σ _ _ e s' I2 gf
 |ok fl =>
  cases fl with
  |ret u =>
   obtain⟨v,H',I3,rv,ev,q3⟩:=I2.after gf;subst ev;exact⟨rv,⟨V.ref (s.heap.objs.size+1),H',I3,rfl,q3⟩⟩
  |next|brk|cont=>exact zct gf
def nQ (M:Mk X.K C f)(F:D4 X.prog X.w X.K X.mg X.base CX k f fd ps sp)(hr:BE (k+1) X.A)(hg:Gl X x)(hm:X.mg x=some (.ref C))(hb:Binds X.K fd ps ds)(hd:Vals bu ds)(hx:Gp CX X E)(ha:PA X (e::es) t)(be:(x==("__debug__" : Str))=false:=by decide)(he: ~~~(starEach (e::es) X.env=(false,eval e X.env)::starEach es X.env))(hpl: ~~~((backTo pos (starEach es X.env)).any (·.1)=false)):
 PE X (.Call (.Name x p) (e::es) [] pos) (aaE C sp bu E t):=by
 intro pins s σ H Q I h;refine wpAny_Call_Name_kw (S9 I hg hm ?_ be);refine PySem.W.callWith_K (h₀:=X.base) I.ok.mod.Wl M.kp (Bl (ha pos pins s σ H _ I h) λ us s1 ⟨vs,H1,I1,r,q⟩=>⟨I1.NL,?_⟩) he hpl;exact eS M F hr hb hd hx I1 r q
end
abbrev PK (X:Cx)(jl:List Keyword)(t:TA):Prop:=
 ∀(pos:Pos) (pins:List (Addr×Obj)) (s:Shared) (σ:St) (H:Hp) (Q:List V->Hp->Prop),Inv X pins σ H s->t σ H Q->wpAny (model X.prog X.w) X.A (evalAll ((backToKw pos (keywordEach jl X.env)).map (·.2))) (AP X pins σ Q) X.xe s
section
variable {k:Nat}{f:Addr}{ks:List Str}{E:XK}{x m:Str}{p jm:Pos}{o:Expr}{jl:List Keyword}{t tk:TA}{nm:Option Str}
def vP:PK X [] vN:=λ _ _ _ _ H Q I h=>wpAny_evalAll_nil ⟨[],H,I,.nil,h⟩
def nR (ha:PE X e te)(hr:PK X jl t):PK X (⟨nm,e,jm⟩::jl) (sO te t):=by
 intro pos pins s σ H Q I h;show wpAny _ _ (evalAll ((do let v <-eval e X.env;standAt pos;pure v)::(backToKw pos (keywordEach jl X.env)).map (·.2))) _ _ s;refine wpAny_evalAll_cons (wpAny_bind (Bl (ha pins s σ H _ I h) λ u s1 ⟨x,H1,I1,r1,q1⟩=>wpAny_bind (wpAny_standAt (wpAny_pure ?_))));exact Bl (hr pos pins s1 σ H1 _ I1 q1) λ us s2 ⟨xs,H2,I2,r2,q2⟩=>⟨x::xs,H2,I2,.cons r1 r2,q2⟩
variable {g:List Value->List Value->List Value}{gV:List V->List V->List V}
end
structure Ab (N P:List Str)(sc:Scope):Prop where
 kind:sc.kind=.function
 co:sc.isCoroutine=false
 gen:sc.isGenerator=false
 nd:N.Nodup
 pre:N.take P.length=P
 par:∀x∈P,sc.names.lookup x=some .local\/sc.names.lookup x=some .cell
 vQ:∀y∈sc.names,y.2≠.free
def QY {kindOf}:∀ {binds:List (Str×Value)}{m:Str->Option Value},(∀v,(x,v)∉binds)->bindL kindOf binds m x=m x
 |[],_,_=>rfl
 |(n,v)::r,m,h=>by
  unfold bindL;rw[QY λ w hw=>h w (za4 _ hw)];split
  ·have:x≠n:=by rintro rfl;exact h v za3
   simp[this]
  ·rfl
def QZ {kindOf}:∀ {binds:List (Str×Value)}{m:Str->Option Value},(∀v,(x,v)∉binds)->bindC kindOf binds m x=m x
 |[],_,_=>rfl
 |(n,v)::r,m,h=>by
  unfold bindC;rw[QZ λ w hw=>h w (za4 _ hw)];split
  ·rfl
  ·have:x≠n:=by rintro rfl;exact h v za3
   simp[this]
def R3 {kindOf:Str->Option NameKind}{x:Str}{v:Value}:∀ {P:List Str}{vs:List Value}{i:Nat}{m:Str->Option Value},P.Nodup->P[i]?=some x->vs[i]?=some v->kindOf x=some .local->
 bindL kindOf (P.zip vs) m x=some v
 |[],_,_,_,_,h,_,_|_::_,[],_,_,_,_,h,_=>by simp at h
 |p::P,w::vs,0,m,nd,h1,h2,hk=>by
  simp at h1 h2;subst h1;subst h2;show bindL kindOf ((p,w)::P.zip vs) m p=_;unfold bindL;rw[QY λ v hv=>(zb8.mp nd).1 (List.of_mem_zip hv).1,if_pos hk];simp
 |p::P,w::vs,i+1,m,nd,h1,h2,hk=>by
  show bindL kindOf ((p,w)::P.zip vs) m x=_;unfold bindL;exact R3 (i:=i) (zb8.mp nd).2 (by simpa using h1) (by simpa using h2) hk
def R4 {kindOf:Str->Option NameKind}{x:Str}{v:Value}:∀ {P:List Str}{vs:List Value}{i:Nat}{m:Str->Option Value},P.Nodup->P[i]?=some x->vs[i]?=some v->kindOf x≠some .local->
 bindC kindOf (P.zip vs) m x=some v
 |[],_,_,_,_,h,_,_|_::_,[],_,_,_,_,h,_=>by simp at h
 |p::P,w::vs,0,m,nd,h1,h2,hk=>by
  simp at h1 h2;subst h1;subst h2;show bindC kindOf ((p,w)::P.zip vs) m p=_;unfold bindC;rw[QZ λ v hv=>(zb8.mp nd).1 (List.of_mem_zip hv).1,if_neg hk];simp
 |p::P,w::vs,i+1,m,nd,h1,h2,hk=>by
  show bindC kindOf ((p,w)::P.zip vs) m x=_;unfold bindC;exact R4 (i:=i) (zb8.mp nd).2 (by simpa using h1) (by simpa using h2) hk
abbrev start (N:List Str)(vs:List V):St:=vs.map some++zag (N.length-vs.length) none
abbrev Ua (CX:Y0)(P:Program)(w:World)(K:za1)(mg:Str->Option Value)(base:Heap)(N:List Str)(qual:Str)(scope:Scope)(f:Addr)(cd:Value)(A:Around)(outer:List Env)(s:Shared)(H:Hp)(E:XK):Cx where
 prog:=P
 w:=w
 K:=K
 mg:=mg
 base:=base
 A:=A.deeper (envOfC qual scope s.heap.objs.size f cd)
 N:=N
 s₀:=s
 H₀:=H
 env:=envOfC qual scope s.heap.objs.size f cd
 outer:=outer
 stack:=envOfC qual scope s.heap.objs.size f cd::outer
 ex:=[]
 calm:=true
 fn:=λ _=>true
 pn:=[]
 xe:=λ e s'=>wpAny (model P w) (A.deeper (envOfC qual scope s.heap.objs.size f cd)) (leaving (envOfC qual scope s.heap.objs.size f cd) e) (λ _ jn=>CX outer H s E e jn) (λ e' jn=>CX outer H s E e' jn) s'
def Ub {sc:Scope}(h:sc.names.lookup x=some .cell):∃c,(cellsFrom n sc.names []).lookup x=some c:=by
 have q:=PySem.W.cellsFrom_some sc.names n [] (.inl h);exact zbq.mp q
def Zh {K}{E}(S:Ab N ps scope)(hd:A.handled=none)(e0:WG P w K mg base A outer s H)(hl:vs.length=ps.length)(r:Vals vs us)(x:InCallC s s.heap.objs.size (bindL (envOfC qual scope s.heap.objs.size f cd).kindOf (ps.zip us) λ _=>none) (cellsFrom (s.heap.objs.size+1) scope.names []) (bindC (envOfC qual scope s.heap.objs.size f cd).kindOf (ps.zip us) λ _=>none) s1):
 Inv (Ua CX P w K mg base N qual scope f cd A outer s H E) [] (start N vs) H s1:=by
 have hpl:ps.length<=N.length:=by have:=congrArg List.length S.pre;rw[zbt] at this;omega
 obtain⟨h1,tk,rfl,hk⟩:=x.done;have jo:∀b:Addr,b∉(Ua CX P w K mg base N qual scope f cd A outer s H E).ex:=λ b z=>absurd (show b∈([]:List Addr) from z) (by simp);refine⟨⟨e0.mod,S.kind,rfl,rfl,zaf _,λ y z c h1 h2=>?_,λ y hy=>?_,λ y c _ h=>?_,λ _=>hd,Around.frames_deeper e0.frames,.inr ⟨rfl,rfl⟩,λ b z=>absurd z (jo b),e0.bs,e0.sM,λ b _ _=>jo b,λ b z=>absurd z (jo b),e0.LH,e0.uM⟩,
  rfl,e0.bare,Un.kept hk,⟨_,x.toInCall.ns,λ i y v h1 h2 h3=>?_⟩,λ y c h=>⟨_,x.cell y c h⟩,e0.Aw.fresh (zaf _),λ y c h=>?_,λ p hp=>absurd (show p∈([]:List (Addr×Obj)) from hp) (by simp),e0.Aw.kept hk,?_⟩
 ·exact name_of_addr x.apart (zdf h1) (zdf h2)
 ·have hy:scope.names.lookup y=some .cell\/scope.names.lookup y=some .free:=hy;rcases hy with hy|hy
  ·exact Ub hy
  ·exact absurd rfl (S.vQ _ (zdf hy))
 ·exact zbs (x.above y c (zdf h))
 ·have hi:i<vs.length:=by
   unfold start at h2;by_cases hi:i<vs.length
   ·exact hi
   ·rw[zcn (by simpa using hi)] at h2;rw[zcg] at h2;split at h2<;>cases h2
  have ha:vs[i]?=some v:=by
   unfold start at h2;rw[zc2 (by simpa using hi),zap] at h2;cases e:vs[i]? with
   |none=>rw[e] at h2;cases h2
   |some a=>rw[e] at h2;cases h2;rfl
  obtain⟨u,hu,rv⟩:=r.get ha;have hp:ps[i]?=some y:=by
   rw[<-S.pre,List.getElem?_take_of_lt (by omega)];exact h1
  have u4:ps.Nodup:=by rw[<-S.pre];exact S.nd.sublist (List.take_sublist _ _)
  refine⟨u,rv,?_⟩;rcases S.par y (zan hp) with k|k
  ·exact .inl ⟨k,R3 u4 hp hu k⟩
  ·obtain⟨c,e⟩:=Ub (n:=s.heap.objs.size+1) k;refine .inr ⟨.inl k,c,e,?_⟩;have q:=x.cell y c e;rw[R4 u4 hp hu (by show scope.names.lookup y≠_;rw[k];decide)] at q;exact q
 ·exact e0.Aw.fresh (zbs (x.above y c (zdf h)))
 ·unfold start;show _=N.length;rw[zal,za2,zd6];omega
def Uc {K}{kV}(lk:K.lookup f=some ⟨oc,od,.func (zbb name qual params body scope dV kV doc pm an B0 ct),Ud⟩)(aT:zca K B0 qual=true)(S:Ab N ps scope)(len:∀vs H Q E,sp vs H Q E->vs.length=ps.length)(cj:∀(A:Around) (outer:List Env) (s:Shared) (H:Hp) (vs:List V) (Q:VK) (E:XK),BE k (A.deeper (envOfC qual scope s.heap.objs.size f B0))->sp vs H Q E->
  ∃t,XY (Ua CX P w K mg base N qual scope f B0 A outer s H E) body t/\t {nx:=λ _ H'=>Q .AV H',rt:=Q} (start N vs) H):
 D4 P w K mg base CX (k+1) f (zbb name qual params body scope dV kV doc pm an B0 ct) ps sp:=by
 refine⟨len,λ A outer s H args us vs Q E hr e0 hb r bD=>?_⟩;have hl:=len _ _ _ _ bD;have KX:K.In s.heap:=e0.mod.Wl.keeps λ b o e=>(e0.bs b o e).1;have lim:s.heap.NoLimit:=e0.mod.nolimit.keeps λ b o e=>(e0.bs b o e).1;have jp:∀y∈ps.zip us,scope.names.lookup y.1=some .local\/(scope.names.lookup y.1=some .cell/\((cellsFrom (s.heap.objs.size+1) scope.names []).lookup y.1).isSome=true):=λ⟨n,v⟩ hy=>by
  rcases S.par n (List.of_mem_zip hy).1 with q|q
  ·exact .inl q
  ·exact .inr ⟨q,PySem.W.cellsFrom_some _ _ _ (.inl q)⟩
 refine codeAny_call_function hr.depth (KX _ _ lk) rfl S.co S.gen rfl (PySem.W.codeRec_of KX aT) (hb _ _ _ _ ?_);refine wpAny_newFunctionEnv_cells S.kind jp λ env he s1 x=>?_;subst he;refine⟨lim.keeps x.toInCall.keep,codeAny_func ?_⟩;obtain⟨t,ht,hq⟩:=cj A outer s H vs Q E (hr.deeper _) bD;have I:Inv (Ua CX P w K mg base N qual scope f B0 A outer s H E) [] (start N vs) H s1:=Zh S hr.hd e0 hl r x;refine wpAny_mono (ht [] s1 (start N vs) H _ I hq) (λ fl s' hs=>?_) λ e s' hs=>hs;have fin:∀ {σ':St} {H':Hp} {v:V} {u:Value},Inv (Ua CX P w K mg base N qual scope f B0 A outer s H E) [] σ' H' s'->RelV v u->Q v H'->CE outer P w H s Q u s':=
  fun {σ' H' v u} J rv q=>⟨v,H',J.os,J.bare,J.base,J.Aw,rv,q⟩
 cases fl with
 |ret u =>
  obtain⟨v,σ',H',J,rv,q⟩:=hs;exact fin J rv q
 |next =>
  obtain⟨σ',H',J,q⟩:=hs;exact fin (v:=V.AV) (u:=Value.none) J rfl q
 |brk =>
  obtain⟨_,_,_,q⟩:=hs;exact zct q
 |cont =>
  obtain⟨_,_,_,q⟩:=hs;exact zct q
section
variable {x:Str}{p:Pos}{t:TA}{id T:String}{r:List V->Hp->VK->Prop}
abbrev tCB (r:List V->Hp->VK->Prop)(t:TA):TE:=λ σ H Q=>t σ H λ vs H1=>r vs H1 Q
def Ue (hc:Hi X (.builtin id) r)(hg:Gl X x)(hm:X.mg x=none)(hv:bootBuiltins x=some (.builtin id))(ha:PA X (e::es) t)(hn:x ≠ "__name__" := by decide)(be:(x==("__debug__" : Str))=false:=by decide)(he: ~~~(starEach (e::es) X.env=(false,eval e X.env)::starEach es X.env))(hpl: ~~~((backTo pos (starEach es X.env)).any (·.1)=false)):PE X (.Call (.Name x p) (e::es) [] pos) (tCB r t):=by
 intro pins s σ H Q I h;refine wpAny_Call_Name_kw (Eg I hg hm hv ?_ hn be);exact PyProof.Rows.callWith_builtin1 (Bl (ha pos pins s σ H _ I h) λ us s1 ⟨vs,H1,I1,r1,q1⟩=>hc pins s1 σ H1 vs us Q I1 r1 q1) he hpl
def LL (hc:Hi X (.type T) r)(hg:Gl X x)(hm:X.mg x=none)(hv:bootBuiltins x=some (.type T))(ha:PA X (e::es) t)(hn:x ≠ "__name__" := by decide)(be:(x==("__debug__" : Str))=false:=by decide)(he: ~~~(starEach (e::es) X.env=(false,eval e X.env)::starEach es X.env))(hpl: ~~~((backTo pos (starEach es X.env)).any (·.1)=false)):PE X (.Call (.Name x p) (e::es) [] pos) (tCB r t):=by
 intro pins s σ H Q I h;refine wpAny_Call_Name_kw (Eg I hg hm hv ?_ hn be);exact zbo (Bl (ha pos pins s σ H _ I h) λ us s1 ⟨vs,H1,I1,r1,q1⟩=>hc pins s1 σ H1 vs us Q I1 r1 q1) he hpl
end
end L2
namespace HT
open PySem PyProof.Rows
abbrev lexLt:List Int->List Int->Bool
 |[],[]=>false
 |[],_::_=>true
 |_::_,[]=>false
 |x::xs,y::ys=>if x=y then lexLt xs ys else decide (x<y)
def Gq (x y:Int)(xs ys:List Int):lexLt (x::xs) (y::ys)=if x=y then lexLt xs ys else decide (x<y):=rfl
def FG:lexLt [] []=false:=rfl
def O8 (y:Int)(ys:List Int):lexLt [] (y::ys)=true:=rfl
def O9 (x:Int)(xs:List Int):lexLt (x::xs) []=false:=rfl
def eT (A:Around)(s:Shared)(a:Int)(t:Tok)(c:Int)(u:Tok):∃e,SeqAt.EqAt A s (.int a t) (.int c u) e/\(e=true↔a=c):=
 ⟨(a==c),SeqAt.EqAt.int_int a t c u,by simp⟩
def eV (A:Around)(s:Shared)(a:Int)(t:Tok)(c:Int)(u:Tok)(prog:Program)(w:World)(E:Value->Shared->Prop)(Q:Value->Shared->Prop)(h:Q (.bool (decide (a<c))) s):
 wpAny (model prog w) A (richCompare .Lt (.int a t) (.int c u)) Q E s:=
 (PyProof.Rows.lt_int h:wpAny (model prog w) A (compareOp .Lt (.int a t) (.int c u)) Q E s)
section
open PySem.SeqAt
open PySem.AutoSeq1 (wpAny_loadPart')
open PySem.MeetsSeq PySem.MeetsSeq2 PySem.MeetsSeq3
def Qv (l b:Addr)(items aq:Array Value)(n n2:Nat)(dd pk:Option Addr)(sl jq:Array (Option Value))(ns ms:List Int)(hi:IntsAre items.toList ns)(hj:IntsAre aq.toList ms):
 Meets (Builtin.«tuple.__lt__» ⟨[.ref l,.ref b],[]⟩)
  (λ _ R s=>s.heap.get? l=some {cls:=.type "tuple",dict:=dd,data:=.seq items n,slots:=sl}/\s.heap.get? b=some {cls:=.type "tuple",dict:=pk,data:=.seq aq n2,slots:=jq}/\
   R (.ok (.ret (.bool (lexLt ns ms)))) s):=
 .of_wp λ prog w A R s h=>by
  obtain⟨hp,g,d,tk,os⟩:=s;obtain⟨hl,hb,h⟩:=h;have f2:=AutoSeq1.sub_tuple_tuple;have z1:items.size=ns.length:=by rw[<-hi.length];simp
  have z2:aq.size=ms.length:=by rw[<-hj.length];simp
  wp_walk using wpAny_loadPart' hl,wpAny_loadPart' hb,wpAny_forIn_list _ (λ rest b s'=>b.1=none/\s'=⟨hp,g,d,tk,os⟩/\∃(vs ws:List Value) (du ix:List Int),rest=vs.zip ws/\
   IntsAre vs du/\IntsAre ws ix/\du.length+aq.size=ix.length+items.size/\R (.ok (.ret (.bool (lexLt du ix)))) ⟨hp,g,d,tk,os⟩) _
  case turn =>
   rintro ⟨y,x⟩ rest b s' ⟨aH,rfl,vs,ws,du,ix,hz,pq,m7,hlen,hR⟩;cases pq with
   |nil=>rw[List.zip_nil_left] at hz;cases hz
   |cons a t pw =>
    cases m7 with
    |nil=>rw[List.zip_nil_right] at hz;cases hz
    |cons c u pz =>
     rw[List.zip_cons_cons] at hz;injection hz with xc fg
     injection xc with hy hx
     subst hy hx;rw[Gq] at hR;simp only[zaa] at hlen;obtain⟨e,he,jr⟩:=eT A.in1 ⟨hp,g,d,tk,os⟩ a t c u;refine wpAny_bind (he prog w _ _ ?_);cases e with
     |true =>
      rw[if_pos (jr.mp rfl)] at hR
      wp_walk
      exact⟨rfl,rfl,_,_,_,_,fg,pw,pz,by omega,hR⟩
     |false =>
      rw[if_neg (λ q=>absurd (jr.mpr q) zaw)] at hR;have xf:=eV A.in1 ⟨hp,g,d,tk,os⟩ a t c u prog w
      wp_walk using xf
      exact⟨_,rfl,by simpa using hR⟩
  case fin =>
   rintro ⟨b1,b2⟩ s' ⟨aH,rfl,vs,ws,du,ix,hz,pq,m7,hlen,hR⟩;simp only at aH;subst aH;have hv:lexLt du ix=decide (items.size<aq.size):=by
    cases pq with
    |nil =>
     cases m7 with
     |nil =>
      simp only[List.length_nil] at hlen;rw[FG];exact (decide_eq_false (by omega)).symm
     |cons c u hw =>
      simp only[List.length_nil,zaa] at hlen;rw[O8];exact (decide_eq_true (by omega)).symm
    |cons a t hv =>
     cases m7 with
     |nil =>
      simp only[List.length_nil,zaa] at hlen;rw[O9];exact (decide_eq_false (by omega)).symm
     |cons c u hw =>
      rw[List.zip_cons_cons] at hz;cases hz
   rw[hv] at hR
   wp_walk
   exact⟨_,rfl,by simpa [Builtin.Tuple.tupleCompareSizes] using hR⟩
  case h =>
   exact⟨rfl,rfl,items.toList,aq.toList,ns,ms,rfl,hi,hj,by omega,h⟩
end
section
variable {prog:Program}{w:World}{A:Around}{E:Value->Shared->Prop}{s:Shared}
def Oa (hl:IsTup s.heap l items)(hb:IsTup s.heap b aq)(hi:IntsAre items.toList ns)(hj:IntsAre aq.toList ms)(hu:A.units<cLine)(h:Q (.bool (lexLt ns ms)) s):wpAny (model prog w) A (compareOp .Lt (.ref l) (.ref b)) Q E s:=by
 obtain⟨⟨cls,dd,data,sl⟩,ho,hc,n,hd⟩:=id hl;obtain⟨⟨xg,pk,data2,jq⟩,u5,u6,n2,hd2⟩:=id hb;simp only at hc hd u6 hd2;subst hc hd u6 hd2;exact richCompare_meets_room (op:=.Lt) ⟨_,ho,rfl⟩ ⟨_,u5,rfl⟩ PySem.F.slot_tuple_lt PySem.F.entry_tuple_lt (PySem.F.args_tuple_lt_2 _ _) (Qv l b items aq n n2 dd pk sl jq ns ms hi hj)
  ⟨ho,u5,show Value.bool (lexLt ns ms)≠Value.notImplemented/\Q (.bool (lexLt ns ms)) s from ⟨(λ x=>nomatch x),h⟩⟩ hu
abbrev Ob (n d:Nat):Option Int->Nat
 |none=>d
 |some v=>if v<0 then (v+(n:Int)).toNat else min v.toNat n
def eW (n d:Nat):Ob n d none=d:=rfl
def Se (n d k:Nat):Ob n d (some (k:Int))=min k n:=by
 show (if (k:Int)<0 then ((k:Int)+(n:Int)).toNat else min (k:Int).toNat n)=min k n;rw[if_neg (by omega),zbr]
end
end HT
namespace L2
open PySem PySem.Spec PyProof.Rows
noncomputable abbrev TO:=St->Hp->(Option Int->Hp->Prop)->Prop
abbrev PO (X:Cx)(e:Option Expr)(t:TO):Prop:=
 ∀(pins:List (Addr×Obj)) (s:Shared) (σ:St) (H:Hp) (Q:Option Int->Hp->Prop),Inv X pins σ H s->t σ H Q->
  wpAny (model X.prog X.w) X.A (evalPart e X.env) (λ u s'=>∃o H',Inv X pins σ H' s'/\IsPart u o/\Q o H') X.xe s
abbrev nS:TO:=λ _ H Q=>Q none H
abbrev aaF (t:TE):TO:=λ σ H Q=>t σ H λ x H1=>∃i,x=.int i/\Q (some i) H1
def intsAre_of:∀ {us:List Value},Vals (ns.map V.int) us->IntsAre us ns:=by
 induction ns with
 |nil=>intro us r;rw[List.map_nil] at r;cases r;exact .nil
 |cons n ns ih =>
  intro us r;rw[za6] at r;cases r with
  |cons r1 r2 =>
   obtain⟨t,e⟩:=r1;subst e;exact .cons n t (ih r2)
section
variable {X:Cx}{e:Expr}{te:TE}{lo hi:Option Expr}{tl th:TO}{pos p2:Pos}
def nT:PO X none nS:=by
 intro pins s σ H Q I h;rw[evalPart_none];exact wpAny_pure ⟨none,H,I,.none,h⟩
def nU (h:PE X e te):PO X (some e) (aaF te):=by
 intro pins s σ H Q I hw;rw[evalPart_some];refine Bl (h pins s σ H _ I hw) λ u s1 zz=>?_;obtain⟨x,H1,I1,r1,q1⟩:=zz;obtain⟨i,rfl,q⟩:=q1;obtain⟨t,rfl⟩:=r1;exact⟨some i,H1,I1,.int i t,q⟩
abbrev SlR (X:Cx)(r:V->Option Int->Option Int->Hp->VK->Prop):Prop:=
 ∀(pins:List (Addr×Obj)) (s:Shared) (σ:St) (H:Hp) (x:V) (v vl vu:Value) (lo hi:Option Int) (sl:Addr) (Q:VK),Inv X pins σ H s->RelV x v->s.heap.IsSliceOf sl vl vu .none->IsPart vl lo->IsPart vu hi->r x lo hi H Q->
  ∃T id,typeLookup (.type T) "__getitem__" = pure (some (.builtin id))/\s.TypeIs v T/\wpAny (model X.prog X.w) X.A (getItem v (.ref sl)) (EP X pins σ Q) X.xe s
abbrev tSl (r:V->Option Int->Option Int->Hp->VK->Prop)(te:TE)(tl th:TO):TE:=λ σ H Q=>te σ H λ x H1=>tl σ H1 λ l H2=>th σ H2 λ u H3=>r x l u H3 Q
def eX (hr:SlR X r)(he:PE X e te)(hl:PO X lo tl)(hu:PO X hi th):PE X (.Subscript e (.Slice lo hi none p2) pos) (tSl r te tl th):=by
 intro pins s σ H Q I h;refine Subscript_ (Bl (he pins s σ H _ I h) λ v s1 zz=>?_);obtain⟨x,H1,I1,r1,q1⟩:=zz;refine wpAny_Slice (Bl (hl pins s1 σ H1 _ I1 q1) λ vl s2 ⟨l,H2,I2,pl,q2⟩=>Bl (hu pins s2 σ H2 _ I2 q2) λ vu s3 zz=>?_);obtain⟨u,H3,I3,pu,q3⟩:=zz;rw[evalPart_none];refine wpAny_pure ?_;have I4:Inv X pins σ H3 {s3 with heap:=s3.heap.push {cls:=.type "slice",data:=.fields #[vl,vu,.none]} }:=I3.kept (t':=s3.toks) λ b ob q=>zah _ q;obtain⟨T,id,hT,ht,hg⟩:=hr pins {s3 with heap:=s3.heap.push {cls:=.type "slice",data:=.fields #[vl,vu,.none]} } σ H3 x v vl vu l u s3.heap.objs.size Q I4 r1 (Heap.IsSliceOf.new ..) pl pu q3;show wpAny (model X.prog X.w) X.A (subscriptTail e (.Slice lo hi none p2) v (.ref s3.heap.objs.size)) (EP X pins σ Q) X.xe {s3 with heap:=s3.heap.push {cls:=.type "slice",data:=.fields #[vl,vu,.none]} };exact tail_any (ops:=[.ref s3.heap.objs.size,v]) ht hT hg (by with_unfolding_all rfl)
abbrev eY (xs:List V)(lo hi:Option Int):List V:=(xs.drop (HT.Ob xs.length 0 lo)).take (HT.Ob xs.length xs.length hi-HT.Ob xs.length 0 lo)
def Ug (xs:List V)(lo hi:Option Int):(eY xs lo hi).length<=xs.length:=by
 unfold eY;rw[zbt,zdg];omega
abbrev aaG (K:za1):R2:=λ x y H Q=>∃a b ns ms,x=.ref a/\y=.ref b/\FF K H a (ns.map V.int)/\FF K H b (ms.map V.int)/\Q (.bl (HT.lexLt ns ms)) H
def vR (hu:X.A.units<cLine):HI X (compareOp .Lt) (aaG X.K):=by
 intro pins s σ H x y v u Q I rx ry h;obtain⟨a,b,ns,ms,rfl,rfl,ha,hb,q⟩:=h;cases rx;cases ry;obtain⟨aa,r1,p1,_⟩:=I.tuple ha;obtain⟨aL,r2,p2,_⟩:=I.tuple hb;have i1:IntsAre aa.toArray.toList ns:=intsAre_of r1;have i2:IntsAre aL.toArray.toList ms:=intsAre_of r2;exact HT.Oa p1 p2 i1 i2 hu ⟨.bl (HT.lexLt ns ms),H,I,rfl,q⟩
end
abbrev Qw (n:Nat)(i:Int):Option Nat:=if 0<=i then (if i<n then some i.toNat else none) else if -(n:Int)<=i then some (i+n).toNat else none
abbrev R5 {α:Type}(xs:List α)(i:Int):Option α:=(Qw xs.length i).bind λ j=>xs[j]?
def Y2 (h:Qw n i=some j):seqIndex? i n=some j/\j<n/\-(n:Int)<=i/\i<n:=by
 unfold Qw at h;by_cases h0:0<=i
 ·rw[if_pos h0] at h;by_cases h1:i<n
  ·rw[if_pos h1] at h;have e:i.toNat=j:=zb0 h;exact⟨by rw[seqIndex_of h0 h1,e],by omega,by omega,h1⟩
  ·rw[if_neg h1] at h;cases h
 ·rw[if_neg h0] at h;by_cases h1 : -(n:Int)<=i
  ·rw[if_pos h1] at h;have e:(i+n).toNat=j:=zb0 h;exact⟨by rw[seqIndex_neg (by omega) h1,e],by omega,h1,by omega⟩
  ·rw[if_neg h1] at h;cases h
def Y3 {α:Type}{xs}{v:α}(h:R5 xs i=some v):∃j,seqIndex? i xs.length=some j/\xs[j]?=some v/\j<xs.length/\-(xs.length:Int)<=i/\i<xs.length:=by
 unfold R5 at h;cases e:Qw xs.length i with
 |none=>rw[e] at h;cases h
 |some j =>
  rw[e] at h;obtain⟨h1,h2,h3,h4⟩:=Y2 e;exact⟨j,h1,h,h2,h3,h4⟩
abbrev J9 (b:Expr):Prop:=∀o i,subscripted b false o i=operate [o,i] (getItem o i)
abbrev nV (X:Cx)(r:R2):Prop:=
 ∀(value slice:Expr) (pins:List (Addr×Obj)) (s:Shared) (σ:St) (H:Hp) (x y:V) (v u:Value) (Q:VK),Inv X pins σ H s->RelV x v->RelV y u->r x y H Q->
  subscripted slice false v u=operate [v,u] (getItem v u)->wpAny (model X.prog X.w) X.A (subscriptTail value slice v u) (EP X pins σ Q) X.xe s
abbrev MtR (X:Cx)(id:String)(r:V->List V->Hp->VK->Prop):Prop:=
 ∀(pins:List (Addr×Obj)) (s:Shared) (σ:St) (H:Hp) (x:V) (xs:List V) (v:Value) (us:List Value) (Q:VK),Inv X pins σ H s->RelV x v->Vals xs us->r x xs H Q->
  wpAny (model X.prog X.w) X.A (call (.builtin id) (v::us)) (EP X pins σ Q) X.xe s
section
variable {X:Cx}{a b:Expr}{ta tb:TE}{pos:Pos}
def nV.or (h:nV X r)(h':nV X r'):nV X (λ x y H Q=>r x y H Q\/r' x y H Q):=by
 intro value slice pins s σ H x y v u Q I rx ry q hs;rcases q with q|q
 ·exact h value slice pins s σ H x y v u Q I rx ry q hs
 ·exact h' value slice pins s σ H x y v u Q I rx ry q hs
def Y4 (hr:nV X r)(ha:PE X a ta)(hb:PE X b tb)(hs:J9 b):PE X (.Subscript a b pos) (zT r ta tb):=by
 intro pins s σ H Q I h;exact Subscript_ (vC ha hb I h λ v u s2 x y H2 I2 rx ry q=>hr a b pins s2 σ H2 x y v u Q I2 rx ry q (hs _ _))
abbrev vS (K:za1):R2:=λ x y H Q=>∃p xs i v,x=.ref p/\y=.int i/\Ds K H p xs/\R5 xs i=some v/\Q v H
abbrev vT (K:za1):R2:=λ x y H Q=>∃p xs i v,x=.ref p/\y=.int i/\FF K H p xs/\R5 xs i=some v/\Q v H
def NM:nV X (vS X.K):=by
 intro value slice pins s σ H x y v u Q I rx ry h hs;obtain⟨p,xs,i,z,rfl,rfl,hq,he,q⟩:=h;cases rx;obtain⟨t,rfl⟩:=ry;obtain⟨aa,r,pl,hz⟩:=I.list hq;obtain⟨j,h1,h2,h3,h4,h5⟩:=Y3 he;obtain⟨w,ew,bf⟩:=r.get h2;have hl:=r.length;have hn:=LJ;have fin:EP X pins σ Q w s:=⟨z,H,I,bf,q⟩;by_cases h0:0<=i
 ·have hj:i.toNat=j:=by
   rw[seqIndex_of h0 h5] at h1;exact zb0 h1
  exact item_listR pl.isList h0 (by omega) (by rw[hj];simpa using ew) fin hs
 ·have hj:(i+(aa.toArray.size:Int)).toNat=j:=by
   rw[seqIndex_neg (by omega) h4] at h1;rw[zad,<-hl];exact zb0 h1
  exact subscriptTail_builtinR (x:=w) pl.isList.typeIs slot_list_getitem.lookup
   (wpAny_getItem_list_neg (Q:=λ r s'=>r=w/\EP X pins σ Q r s') pl.isList (by omega) (by rw[zad]<;>omega) (by omega) (by rw[hj];simpa using ew) ⟨rfl,fin⟩) hs
def vU:nV X (vT X.K):=by
 intro value slice pins s σ H x y v u Q I rx ry h hs;obtain⟨p,xs,i,z,rfl,rfl,hq,he,q⟩:=h;cases rx;obtain⟨t,rfl⟩:=ry;obtain⟨aa,r,pl,hz⟩:=I.tuple hq;obtain⟨j,h1,h2,h3,h4,h5⟩:=Y3 he;obtain⟨w,ew,bf⟩:=r.get h2;have hl:=r.length;have hn:=LJ;have fin:EP X pins σ Q w s:=⟨z,H,I,bf,q⟩;exact subscriptTail_builtinR (x:=w) pl.typeIs slot_tuple_getitem.lookup
  (getItem_tuple (j:=j) (Q:=λ r s'=>r=w/\EP X pins σ Q r s') pl (by omega) (by omega) (by rw[zad,<-hl];exact h1) (by simpa using ew) ⟨rfl,fin⟩) hs
def WH (aa:List Value)(n j:Nat)(u:Value):Obj.mapSeq (·.setIfInBounds j u) {cls:=.type "list",data:=.seq aa.toArray n}={cls:=.type "list",data:=.seq (aa.set j u).toArray n}:=by
 simp[Obj.mapSeq]
def Inv.lst (I:Inv X pins σ H s)(h:H p=some (.lst xs)):
 ∃(aa:List Value) (n:Nat),Vals xs aa/\s.heap.get? p=some {cls:=.type "list",data:=.seq aa.toArray n}/\xs.length<=sizeLine:=by
 obtain⟨z,aa,n,r,e⟩:=I.Aw p _ h;exact⟨aa,n,r,e,z⟩
def Inv.vV {aa:List Value}(I:Inv X pins σ H s)(h:H p=some (.lst xs))(ho:s.heap.get? p=some {cls:=.type "list",data:=.seq aa.toArray n})(hf:f {cls:=.type "list",data:=.seq aa.toArray n}={cls:=.type "list",data:=.seq its'.toArray n' })(r:Vals ys its')(hz:ys.length<=sizeLine)(t:Nat):
 Inv X pins σ (upd H p (.lst ys)) {s with heap:=s.heap.update p f,toks:=t}:=by
 have e:(s.heap.update p f).get? p=some {cls:=.type "list",data:=.seq its'.toArray n' }:=by
  rw[Heap.get?_update_self f ho (by rw[hf]<;>rfl),hf]
 refine I.write (x:=p) (e:=p) (by rw[h];trivial) (.inl rfl) (λ b u hb q=>(Heap.get?_update_other _ _ (zbn hb)).trans q) ⟨_,e⟩ ?_;exact⟨hz,its',n',r,e⟩
abbrev aaH:V->V->V->Hp->(Hp->Prop)->Prop:=λ o i v H Q=>∃p xs k j,o=.ref p/\i=.int k/\H p=some (.lst xs)/\Qw xs.length k=some j/\Q (upd H p (.lst (xs.set j v)))
def set_list:aar X aaH:=by
 intro pins s σ H o i v ov iv u Q I ro ri rv h;obtain⟨p,xs,k,j,rfl,rfl,hp,hj,q⟩:=h;cases ro;obtain⟨t,rfl⟩:=ri;obtain⟨aa,n,r,ho,hz⟩:=I.lst hp;obtain⟨h1,h2,h3,h4⟩:=Y2 hj;have hl:=r.length;have hn:=LJ;have I':Inv X pins σ (upd H p (.lst (xs.set j v))) {s with heap:=s.heap.update p (Obj.mapSeq (·.setIfInBounds j u))}:=
  I.vV hp ho (WH aa n j u) (r.set rv j) (by rw[zbu];exact hz) s.toks
 by_cases h0:0<=k
 ·have hk:k.toNat=j:=by
   rw[seqIndex_of h0 h4] at h1;exact zb0 h1
  exact PySem.W.ki_setAt ho h0 (by omega) (by rw[zad,<-hl];exact h4) (by rw[hk];exact⟨_,I',q⟩)
 ·have hk:(k+(aa.toArray.size:Int)).toNat=j:=by
   rw[seqIndex_neg (by omega) h3] at h1;rw[zad,<-hl];exact zb0 h1
  exact PySem.W.ki_setBack ho (by omega) (by rw[zad,<-hl];exact h3) (by omega) (by rw[hk];exact⟨_,I',q⟩)
def Sf (lo hi:Option Int)(n:Nat):(sliceBounds lo hi none n).1=((HT.Ob n 0 lo:Nat):Int)/\(sliceBounds lo hi none n).2.1=((HT.Ob n n hi:Nat):Int)/\(sliceBounds lo hi none n).2.2=1:=by
 refine⟨?_,?_,rfl⟩
 ·cases lo with
  |none=>simp[sliceBounds,HT.Ob]
  |some i =>
   simp only[sliceBounds,HT.Ob,Option.getD_none,show (1:Int) > 0 by decide,if_true];by_cases h:i<0
   ·simp only[h,if_true]<;>omega
   ·simp only[h,if_false]<;>omega
 ·cases hi with
  |none=>simp[sliceBounds,HT.Ob]
  |some i =>
   simp only[sliceBounds,HT.Ob,Option.getD_none,show (1:Int) > 0 by decide,if_true];by_cases h:i<0
   ·simp only[h,if_true]<;>omega
   ·simp only[h,if_false]<;>omega
def Qx (aa:List Value)(lo hi:Option Int):slicePick aa.toArray lo hi none=((aa.drop (HT.Ob aa.length 0 lo)).take (HT.Ob aa.length aa.length hi-HT.Ob aa.length 0 lo)).toArray:=by
 obtain⟨h1,h2,h3⟩:=Sf lo hi aa.toArray.size;unfold slicePick;rw[h1,h2,h3];simp only[sliceRange_one,pick_run,zad]<;>rfl
abbrev acI (K:za1):V->Option Int->Option Int->Hp->VK->Prop:=λ x lo hi H Q=>∃a xs,x=.ref a/\Ds K H a xs/\∀p,H p=none->Q (.ref p) (upd H p (.lst (eY xs lo hi)))
def nW:SlR X (acI X.K):=by
 intro pins s σ H x v vl vu lo hi sl Q I rx hs pl pu h;obtain⟨a,xs,rfl,hx,q⟩:=h;cases rx;obtain⟨aa,r,ht,hz⟩:=I.list hx;have hlen:=r.length;refine⟨"list",_,slot_list_getitem.lookup,ht.isList.typeIs,?_⟩;refine wpAny_getItem_list_slice ht.isList hs pl pu .none (by simp) ?_ (by rw[zad]<;>omega);rw[Qx,<-hlen];refine⟨.ref s.heap.objs.size,_,I.laid (t':=s.toks) (o:=.lst (eY xs lo hi)) (λ b ob q=>zah _ q) (zaf _) ?_,rfl,q _ (I.Aw.fresh (zaf _))⟩;exact⟨zc4 (Ug xs lo hi) hz,_,0,(r.drop (HT.Ob xs.length 0 lo)).take (HT.Ob xs.length xs.length hi-HT.Ob xs.length 0 lo),zat _ rfl⟩
abbrev Ki:V->Bool
 | .AV| .bl _| .int _| .str _=>true
 |_=>false
abbrev sP:V->V->Bool
 | .AV,.AV=>true
 | .bl a,.bl b=>a==b
 | .bl a,.int b=>(if a then 1 else 0)==b
 | .int a,.bl b=>a==(if b then 1 else 0)
 | .int a,.int b| .str a,.str b=>a==b
 |_,_=>false
def vW (ry:RelV y u)(rx:RelV x v)(fy:Ki y=true)(fx:Ki x=true):SeqAt.EqAt A s u v (sP y x):=by
 cases y with
 |AV =>
  cases ry;cases x with
  |AV=>cases rx;exact SeqAt.EqAt.same _
  |bl b=>cases rx;exact SeqAt.EqAt.none_bool b
  |int b=>obtain⟨t,rfl⟩:=rx;exact SeqAt.EqAt.none_int b t
  |str b=>obtain⟨t,rfl⟩:=rx;exact SeqAt.EqAt.none_str b t
  |_=>exact absurd (show false=true from fx) zaw
 |bl a =>
  cases ry;cases x with
  |AV=>cases rx;exact SeqAt.EqAt.bool_none a
  |bl b=>cases rx;exact SeqAt.EqAt.bool_bool a b
  |int b=>obtain⟨t,rfl⟩:=rx;exact SeqAt.EqAt.bool_int a b t
  |str b=>obtain⟨t,rfl⟩:=rx;exact SeqAt.EqAt.bool_str a b t
  |_=>exact absurd (show false=true from fx) zaw
 |int a =>
  obtain⟨t',rfl⟩:=ry;cases x with
  |AV=>cases rx;exact SeqAt.EqAt.int_none a t'
  |bl b=>cases rx;exact SeqAt.EqAt.int_bool a t' b
  |int b=>obtain⟨t,rfl⟩:=rx;exact SeqAt.EqAt.int_int a t' b t
  |str b=>obtain⟨t,rfl⟩:=rx;exact SeqAt.EqAt.int_str a t' b t
  |_=>exact absurd (show false=true from fx) zaw
 |str a =>
  obtain⟨t',rfl⟩:=ry;cases x with
  |AV=>cases rx;exact SeqAt.EqAt.str_none a t'
  |bl b=>cases rx;exact SeqAt.EqAt.str_bool a t' b
  |int b=>obtain⟨t,rfl⟩:=rx;exact SeqAt.EqAt.str_int a t' b t
  |str b=>obtain⟨t,rfl⟩:=rx;exact SeqAt.EqAt.str_str a t' b t
  |_=>exact absurd (show false=true from fx) zaw
 |_=>exact absurd (show false=true from fy) zaw
abbrev WI (x:V)(u:Value):Bool:=match u with
 | .none=>sP .AV x
 | .bool b=>sP (.bl b) x
 | .int i _=>sP (.int i) x
 | .str z _=>sP (.str z) x
 |_=>false
def eZ (r:RelV y u)(f:Ki y=true):WI x u=sP y x:=by
 cases y with
 |AV|bl b=>cases r;rfl
 |int i|str z=>obtain⟨t,rfl⟩:=r;rfl
 |_=>exact absurd (show false=true from f) zaw
def Kj {x:V}:∀ {xs:List V}{us:List Value},Vals xs us->xs.all Ki=true->us.any (WI x)=xs.any λ y=>sP y x
 |_,_,.nil,_=>rfl
 |y::xs,u::us,.cons r t,f=>by
  rw[List.all_cons,zb6] at f;rw[zch,zch,eZ r f.1,Kj t f.2]
def HJ {A:Around}{s:Shared}{x:V}{v:Value}(rx:RelV x v)(fx:Ki x=true):∀ {xs:List V}{us:List Value},Vals xs us->xs.all Ki=true->∀u∈us,SeqAt.EqAt A s u v (WI x u)
 |_,_,.nil,_=>λ u hu=>by cases hu
 |y::xs,u::us,.cons r t,f=>λ u' hu=>by
  rw[List.all_cons,zb6] at f;rcases zab.mp hu with rfl|hu
  ·rw[eZ r f.1];exact vW r rx f.1 fx
  ·exact HJ rx fx t f.2 u' hu
abbrev inV (x:V)(xs:List V):Bool:=xs.any λ y=>sP y x
abbrev rIn (K:za1)(neg:Bool):R2:=λ x y H Q=>∃p xs,y=.ref p/\(Ds K H p xs\/FF K H p xs)/\Ki x=true/\xs.all Ki=true/\Q (.bl (if neg then !inV x xs else inV x xs)) H
def Zi:HI X (compareOp .In) (rIn X.K false):=by
 intro pins s σ H x y v u Q I rx ry h;obtain⟨p,xs,rfl,hq,fx,fs,q⟩:=h;cases ry;rcases hq with hq|hq
 ·obtain⟨aa,r,pl,hz⟩:=I.list hq;refine SeqAt.in_listAt (WI x) pl.isList (λ w hw=>HJ rx fx r fs w (by simpa using hw)) ⟨.bl _,H,I,rfl,?_⟩;rw[show aa.toArray.any (WI x)=aa.any (WI x) by simp,Kj r fs];exact q
 ·obtain⟨aa,r,pl,hz⟩:=I.tuple hq;refine SeqAt.in_tupleAt (WI x) pl (λ w hw=>HJ rx fx r fs w (by simpa using hw)) ⟨.bl _,H,I,rfl,?_⟩;rw[show aa.toArray.any (WI x)=aa.any (WI x) by simp,Kj r fs];exact q
def Sg:HI X (compareOp .NotIn) (rIn X.K true):=by
 intro pins s σ H x y v u Q I rx ry h;obtain⟨p,xs,rfl,hq,fx,fs,q⟩:=h;cases ry;rcases hq with hq|hq
 ·obtain⟨aa,r,pl,hz⟩:=I.list hq;refine SeqAt.notIn_listAt (WI x) pl.isList (λ w hw=>HJ rx fx r fs w (by simpa using hw)) ⟨.bl _,H,I,rfl,?_⟩;rw[show aa.toArray.any (WI x)=aa.any (WI x) by simp,Kj r fs];exact q
 ·obtain⟨aa,r,pl,hz⟩:=I.tuple hq;refine SeqAt.notIn_tupleAt (WI x) pl (λ w hw=>HJ rx fx r fs w (by simpa using hw)) ⟨.bl _,H,I,rfl,?_⟩;rw[show aa.toArray.any (WI x)=aa.any (WI x) by simp,Kj r fs];exact q
def Sh:Hi X (.builtin "len") (λ xs H Q=>∃p ys,xs=[.ref p]/\(Ds X.K H p ys\/FF X.K H p ys)/\Q (.int ys.length) H):=by
 intro pins s σ H xs us Q I r h;obtain⟨p,ys,rfl,hq,q⟩:=h;obtain⟨u,rfl,rx⟩:=vals1 r;cases rx;have hn:=LJ;rcases hq with hq|hq
 ·obtain⟨aa,r',pl,hz⟩:=I.list hq;have hlen:=r'.length;exact Calls.call_len_list pl.isList (by simp only[zad]<;>omega) ⟨.int ys.length,H,I.tok _,⟨s.toks+1,by rw[zad,hlen]⟩,q⟩
 ·obtain⟨aa,r',pl,hz⟩:=I.tuple hq;have hlen:=r'.length;exact len_tuple pl (by simp only[zad]<;>omega) ⟨.int ys.length,H,I.tok _,⟨s.toks+1,by rw[zad,hlen]⟩,q⟩
def Si:Hi X (.type "list") (λ xs H Q=>∃p ys,xs=[.ref p]/\(Ds X.K H p ys\/FF X.K H p ys)/\∀l,H l=none->Q (.ref l) (upd H l (.lst ys))):=by
 intro pins s σ H xs us Q I r h;obtain⟨p,ys,rfl,hq,q⟩:=h;obtain⟨u,rfl,rx⟩:=vals1 r;cases rx;have fin:∀(aa:List Value),Vals ys aa->ys.length<=sizeLine->∀(h':Heap) (c':Nat),(∀b o',s.heap.get? b=some o'->h'.get? b=some o')->
  h'.get? s.heap.objs.size=some {cls:=.type "list",dict:=none,data:=.seq aa.toArray c',slots:=#[]}->EP X pins σ Q (.ref s.heap.objs.size) {s with heap:=h' }:=λ aa r' hz h' c' kp e =>
  ⟨.ref s.heap.objs.size,_,I.laid (t':=s.toks) kp (zaf _) (show Br X.prog X.w _ h' _ (.lst ys) from ⟨hz,aa,c',r',e⟩),rfl,q _ (I.Aw.fresh (zaf _))⟩
 rcases hq with hq|hq
 ·obtain⟨aa,r',pl,hz⟩:=I.list hq;have hlen:=r'.length;obtain⟨o,ho,hc,n,hd⟩:=pl.isList;exact call_list_seq p (.inl rfl) ho hc hd (λ h' c' kp e=>fin aa r' hz h' c' kp e) (by simp only[zad]<;>omega)
 ·obtain⟨aa,r',pl,hz⟩:=I.tuple hq;have hlen:=r'.length;obtain⟨o,ho,hc,n,hd⟩:=pl;exact call_list_seq p (.inr rfl) ho hc hd (λ h' c' kp e=>fin aa r' hz h' c' kp e) (by simp only[zad]<;>omega)
def Qy:Hi X (.type "tuple") (λ xs H Q=>∃p ys,xs=[.ref p]/\((Ds X.K H p ys/\∀l,H l=none->Q (.ref l) (upd H l (.tup ys)))\/(FF X.K H p ys/\Q (.ref p) H))):=by
 intro pins s σ H xs us Q I r h;obtain⟨p,ys,rfl,h⟩:=h;obtain⟨u,rfl,rx⟩:=vals1 r;cases rx;rcases h with ⟨hq,q⟩|⟨hq,q⟩
 ·obtain⟨aa,r',pl,hz⟩:=I.list hq;have hlen:=r'.length;refine call_tuple_list pl.isList (λ h' kp=>?_) (by simp only[zad]<;>omega);have I1:Inv X pins σ H {s with heap:=h' }:=I.kept (t':=s.toks) kp;have I2:Inv X pins σ (upd H h'.objs.size (.tup ys)) {s with heap:=h'.push {cls:=.type "tuple",data:=.seq aa.toArray} }:=
   I1.laid (t':=s.toks) (λ b o e=>zah _ e) (zaf _) (show Br X.prog X.w _ _ _ (.tup ys) from ⟨hz,aa,r',IsTup.new _ _⟩)
  exact⟨.ref h'.objs.size,_,I2,rfl,q _ (I1.Aw.fresh (zaf _))⟩
 ·obtain⟨aa,r',pl,hz⟩:=I.tuple hq;exact call_tuple_same pl ⟨.ref p,H,I,rfl,q⟩
abbrev tyV (K:za1)(T:String)(x:V)(H:Hp):Prop:=match x with
 | .str _=>T = "str"
 | .int _=>T = "int"
 | .ref p=>(T = "list" /\ ∃xs,Ds K H p xs)\/(T = "tuple" /\ ∃o,K.lookup p=some o/\o.cls=.type "tuple" /\ o.dict=none) \/
  (T = "dict" /\ ((∃kvs,H p=some (.dK kvs))\/∃kvs,H p=some (.dT kvs)))\/(T = "set" /\ ∃S n,H p=some (.set S n))
 |_=>False
def fA (I:Inv X pins σ H s)(r:RelV x v)(ty:tyV X.K T x H):
 s.TypeIs v T/\∀a,v=.ref a->∃ob,s.heap.get? a=some ob/\ob.dict=none:=by
 cases x with
 |str z =>
  obtain⟨t,rfl⟩:=r;cases (show T = "str" from ty);exact⟨typeIs_str s z t,λ _ e=>nomatch e⟩
 |int i =>
  obtain⟨t,rfl⟩:=r;cases (show T = "int" from ty);exact⟨typeIs_int s i t,λ _ e=>nomatch e⟩
 |ref p =>
  cases r;rcases ty with ⟨rfl,xs,hq⟩|⟨rfl,o,hk,hc,hd⟩|⟨rfl,hk⟩|⟨rfl,S,n,hk⟩
  ·obtain⟨aa,_,pl,_⟩:=I.list hq;refine⟨pl.isList.typeIs,λ a e=>?_⟩;cases e;obtain⟨o,n,e,c,hd,_⟩:=pl;exact⟨o,e,hd⟩
  ·refine⟨⟨o,I.NL p o hk,hc⟩,λ a e=>?_⟩;cases e;exact⟨o,I.NL _ o hk,hd⟩
  ·have z:∃o,s.heap.get? p=some o/\o.ExactDict:=by
    rcases hk with ⟨kvs,hk⟩|⟨kvs,hk⟩
    ·obtain⟨_,_,_,_,o,_,_,e,ex,_⟩:=I.Aw p _ hk;exact⟨o,e,ex⟩
    ·obtain⟨_,_,_,_,o,_,_,e,ex,_⟩:=I.Aw p _ hk;exact⟨o,e,ex⟩
   obtain⟨o,e,ex⟩:=z;refine⟨⟨o,e,ex.1⟩,λ a e2=>?_⟩;cases e2;exact⟨o,e,ex.2.1⟩
  ·obtain⟨o,_,_,_,e,ex,_⟩:=I.Aw p _ hk;refine⟨⟨o,e,ex.1⟩,λ a e2=>?_⟩;cases e2;exact⟨o,e,ex.2.1⟩
 |_=>exact zct ty
abbrev acK (K:za1)(T:String)(r:V->List V->Hp->VK->Prop)(to:TE):TE:=λ σ H Q=>to σ H λ x H1=>tyV K T x H1/\r x [] H1 Q
abbrev tBM (K:za1)(T:String)(r:V->List V->Hp->VK->Prop)(to:TE)(t:TA):TE:=λ σ H Q=>to σ H λ x H1=>tyV K T x H1/\t σ H1 λ xs H2=>r x xs H2 Q
variable {o e:Expr}{es:List Expr}{to:TE}{t:TA}{name:Str}{apos ad:Pos}{T id:String}{r:V->List V->Hp->VK->Prop}
def vX (pa:PlainAttrs T)(slot:Slot T name id)(p6:typeOf (.builtin id)=pure (.type "method_descriptor"))(hm:MtR X id r)(ho:PE X o to)(al: ~~~(attributeBase o name X.env (eval o X.env)=eval o X.env))(am: ~~~((apos.endLine==ad.line)=true)):PE X (.Call (.Attribute o name apos) [] [] ad) (acK X.K T r to):=by
 intro pins s σ H Q I h;refine wpAny_Call_method0_late al am (Bl (ho pins s σ H _ I h) λ v s1 zz=>?_);obtain⟨x,H1,I1,r1,ty,q1⟩:=zz;obtain⟨h1,h2⟩:=fA I1 r1 ty;exact⟨T,id,pa,slot,p6,h1,h2,zcz rfl (PySem.evalArgs_none (hm pins s1 σ H1 x [] v [] Q I1 r1 .nil q1))⟩
def Y5 (pa:PlainAttrs T)(slot:Slot T name id)(p6:typeOf (.builtin id)=pure (.type "method_descriptor"))(hm:MtR X id r)(ho:PE X o to)(ha:PA X (e::es) t)(al: ~~~(attributeBase o name X.env (eval o X.env)=eval o X.env))(aW: ~~~(((backTo ad (starEach (e::es) X.env)).all (λ x => !x.1)&&(backToKw ad (keywordEach [] X.env)).all (λ x=>x.1.isSome)
  && decide ((e::es).length+([]:List Keyword).length+(if ([]:List Keyword).isEmpty then 0 else 1)<30))=true))(am: ~~~((apos.endLine==ad.line)=true))(hs: ~~~(starEach (e::es) X.env=(false,eval e X.env)::starEach es X.env))(au: ~~~((backTo ad (starEach es X.env)).any (·.1)=false)):
 PE X (.Call (.Attribute o name apos) (e::es) [] ad) (tBM X.K T r to t):=by
 intro pins s σ H Q I h;refine wpAny_Call_method_late al aW am rfl (Bl (ho pins s σ H _ I h) λ v s1 zz=>?_);obtain⟨x,H1,I1,r1,ty,q1⟩:=zz;obtain⟨h1,h2⟩:=fA I1 r1 ty;refine⟨T,id,pa,slot,p6,h1,h2,?_⟩;have hA:=ha ad pins s1 σ H1 _ I1 q1;rw[hs] at hA ⊢;refine zcz (by show (false||(backTo ad (starEach es X.env)).any (·.1))=false;rw[au]<;>rfl) (Calls.evalArgs_plain ?_);exact Bl hA λ us s2 ⟨vs,H2,I2,r2,q2⟩=>hm pins s2 σ H2 x vs v us Q I2 r1 r2 q2
end
abbrev MtM (X:Cx)(id:String)(r:V->List V->Hp->VK->Prop):Prop:=
 ∀(pins:List (Addr×Obj)) (s:Shared) (σ:St) (H:Hp) (x:V) (xs:List V) (v:Value) (us:List Value) (Q:VK),Inv X pins σ H s->RelV x v->Vals xs us->r x xs H Q->
  wpAny (model X.prog X.w) X.A (call (.builtin id) (v::us)) (EP X pins σ Q) X.xe s
def Vals.one (h:Vals [x] us):∃u,us=[u]/\RelV x u:=by
 cases h with
 |cons r q=>cases q;exact⟨_,rfl,r⟩
def Vals.two (h:Vals [x,y] us):∃u v,us=[u,v]/\RelV x u/\RelV y v:=by
 cases h with
 |cons r q=>obtain⟨u,rfl,h⟩:=Vals.one q;exact⟨_,_,rfl,r,h⟩
def Vals.zero:∀ {us:List Value},Vals [] us->us=[]
 |_,.nil=>rfl
def Vals.dropLast (h:Vals xs us):Vals xs.dropLast us.dropLast:=by
 induction h with
 |nil=>exact .nil
 |cons r t ih =>
  cases t with
  |nil=>exact .nil
  |cons q t'=>exact .cons r ih
def Vals.rep (h:Vals xs us):∀k:Nat,Vals (zag k xs).flatten (zag k us).flatten
 |0=>.nil
 |k+1=>by
  rw[zcb,zcb,List.flatten_cons,List.flatten_cons];exact Vals.append h (Vals.rep h k)
def WJ {α:Type}(l:List α):l.eraseIdx (l.length-1)=l.dropLast:=by
 induction l with
 |nil=>rfl
 |cons a r ih =>
  cases r with
  |nil=>rfl
  |cons b r =>
   have e:(a::b::r).length-1=((b::r).length-1)+1:=by
    have h1:(a::b::r).length=r.length+2:=rfl;have h2:(b::r).length=r.length+1:=rfl;omega
   rw[e,List.eraseIdx_cons_succ,ih];all_goals rfl
def foldl_rep (aa:List Value):∀(k:Nat) (acc:List Value),
 List.foldl (λ x1 x2=>x1++x2) acc.toArray (zag k aa.toArray)=(acc++(zag k aa).flatten).toArray
 |0,acc=>by simp
 |k+1,acc=>by
  have e:acc.toArray++aa.toArray=(acc++aa).toArray:=by simp
  have e2:(acc++aa)++(zag k aa).flatten=acc++(zag (k+1) aa).flatten:=by
   rw[zcb,List.flatten_cons,zb3]
  rw[<-e2,<-foldl_rep aa k (acc++aa),<-e,zcb,zb4]
section
variable {X:Cx}{pins:List (Addr×Obj)}{σ:St}{H:Hp}{s:Shared}{l b:Addr}{xs ys zs:List V}
def Inv.nX {aa:List Value}(I:Inv X pins σ H s)(hH:H l=some (.lst xs))(e:s.heap.get? l=some {cls:=.type "list",data:=.seq aa.toArray n})(hf:f aa.toArray=its'.toArray)(hv:Vals ys its')(hz:ys.length<=sizeLine):
 Inv X pins σ (upd H l (.lst ys)) {s with heap:=s.heap.update l (Obj.mapSeq f),toks:=t' }:=by
 have q:=PySem.IsL.update e f;rw[hf] at q;refine I.write (x:=l) (e:=l) (by rw[hH];exact trivial) (.inl rfl) (λ b' u hb hu=>(Heap.get?_update_other s.heap (Obj.mapSeq f) (zbn hb)).trans hu) ⟨_,q⟩ ?_;exact⟨hz,its',_,hv,q⟩
def Inv.aaI (I:Inv X pins σ H s)(hv:Vals ys aa)(hz:ys.length<=sizeLine):
 Inv X pins σ (upd H s.heap.objs.size (.lst ys)) {s with heap:=s.heap.push {cls:=.type "list",data:=.seq aa.toArray},toks:=t' }:=
 I.laid (λ _ _ q=>zah _ q) (zaf _) ⟨hz,aa,0,hv,zat _ rfl⟩
def Inv.fresh (I:Inv X pins σ H s):H s.heap.objs.size=none:=I.Aw.fresh (zaf _)
def Inv.Zj (I:Inv X pins σ H s)(hH:H l=some (.lst xs)):xs.length<=sizeLine/\∃(aa:List Value) (n:Nat),Vals xs aa/\xs.length=aa.length/\s.heap.get? l=some {cls:=.type "list",data:=.seq aa.toArray n}:=by
 obtain⟨z,aa,n,r,e⟩:=I.Aw l _ hH;exact⟨z,aa,n,r,r.length,e⟩
def Uh (h:n<=sizeLine):zda n=false:=by
 unfold zda;exact decide_eq_false (by omega)
end
section
variable {X:Cx}
abbrev nY:V->List V->Hp->VK->Prop:=λ x vs H Q=>∃l xs y,x=.ref l/\vs=[y]/\H l=some (.lst xs)/\xs.length<sizeLine/\Q .AV (upd H l (.lst (xs++[y])))
def R6:MtM X "list.append" nY:=by
 intro pins s σ H x vs v us Q I rx rv h;obtain⟨l,xs,y,rfl,rfl,hH,hz,q⟩:=h;cases rx;obtain⟨u,rfl,ru⟩:=rv.one;obtain⟨z,aa,n,r,hl,e⟩:=I.Zj hH;refine call_meets F.slot_list_append ⟨_,e,rfl⟩ F.entry_list_append (F.args_list_append_2 _ _) (PySem.list_append l aa.toArray n u (by rw[zad];omega)) ⟨e,?_⟩;refine⟨.AV,_,I.nX (its':=aa++[u]) hH e (by simp) (r.append (.cons ru .nil)) ?_,rfl,q⟩;rw[zal,zbd];omega
abbrev nZ:V->List V->Hp->VK->Prop:=λ x vs H Q=>∃l b xs zs,x=.ref l/\vs=[.ref b]/\H l=some (.lst xs)/\H b=some (.lst zs)/\xs.length+zs.length<=sizeLine/\Q .AV (upd H l (.lst (xs++zs)))
def Zk:MtM X "list.extend" nZ:=by
 intro pins s σ H x vs v us Q I rx rv h;obtain⟨l,b,xs,zs,rfl,rfl,hH,hB,hz,q⟩:=h;cases rx;obtain⟨u,rfl,ru⟩:=rv.one;cases ru;obtain⟨z,aa,n,r,hl,e⟩:=I.Zj hH;obtain⟨z2,aL,n2,r2,ao,e2⟩:=I.Zj hB;have hsz:aa.toArray.size+aL.toArray.size<=sizeLine:=by rw[zad,zad];omega
 have ck:¬ (!aa.toArray.isEmpty&&zda (aa.toArray.size+aL.toArray.size))=true:=by
  rw[Uh hsz,Bool.and_false];exact zaw
 refine call_meets F.slot_list_extend ⟨_,e,rfl⟩ F.entry_list_extend (F.args_list_extend_2 _ _)
  (AutoSeq1.list_extend_list_list_0 l aa.toArray n b aL.toArray n2 ck (by rw[zad];omega) (by omega)) ⟨e,e2,?_⟩
 refine⟨.AV,_,I.nX (its':=aa++aL) hH e (by simp) (r.append r2) ?_,rfl,q⟩;rw[zal];omega
abbrev acL:V->List V->Hp->VK->Prop:=λ x vs H Q=>∃l xs y,x=.ref l/\vs=[]/\H l=some (.lst xs)/\xs[xs.length-1]?=some y/\Q y (upd H l (.lst xs.dropLast))
def vY:MtM X "list.pop" acL:=by
 intro pins s σ H x vs v us Q I rx rv h;obtain⟨l,xs,y,rfl,rfl,hH,hy,q⟩:=h;cases rx;have xh:=rv.zero;subst xh;obtain⟨z,aa,n,r,hl,e⟩:=I.Zj hH;obtain⟨u,hu,ru⟩:=r.get hy;have m8:aa.toArray[aa.toArray.size-1]?=some u:=by
  show aa.toArray[aa.length-1]?=some u;rw[<-Array.getElem?_toList,<-hl];exact hu
 refine call_meets F.slot_list_pop ⟨_,e,rfl⟩ F.entry_list_pop (F.args_list_pop_1 _) (MeetsSeq.list_pop_last l aa.toArray n u m8 (by rw[zad];omega)) ⟨e,?_⟩;refine⟨y,_,I.nX (its':=aa.dropLast) hH e ?_ r.dropLast ?_,ru,q⟩
 ·show aa.toArray.eraseIdxIfInBounds (aa.toArray.size-1)=aa.dropLast.toArray;rw[zad,List.eraseIdxIfInBounds_toArray,WJ]
 ·rw[List.length_dropLast];omega
abbrev acM:R2:=λ x y H Q=>∃l k xs,x=.ref l/\y=.int k/\H l=some (.lst xs)/\-(2^63)<=k/\k<2^63/\xs.length*k.toNat<=sizeLine/\
 ∀p,H p=none->Q (.ref p) (upd H p (.lst (zag k.toNat xs).flatten))
def len_rep {α:Type}(xs:List α)(k:Nat):(zag k xs).flatten.length=k*xs.length:=by
 induction k with
 |zero=>simp
 |succ k ih=>rw[zcb,List.flatten_cons,zal,ih,Nat.succ_mul,Nat.add_comm]
def vZ:HI X (binaryOp .Mult) acM:=by
 intro pins s σ H x y v u Q I rx ry h;obtain⟨l,k,xs,rfl,rfl,hH,h1,h2,hz,q⟩:=h;cases rx;obtain⟨t,rfl⟩:=ry;obtain⟨z,aa,n,r,hl,e⟩:=I.Zj hH;have hlen:aa.toArray.size*k.toNat<=sizeLine:=by rw[zad,<-hl];exact hz
 have p7:¬ aa.toArray.size*k.toNat > (2^63-1) / 8:=by
  have:(sizeLine:Nat)<=(2^63-1) / 8:=by decide
  omega
 have gh:¬ (!Builtin.List.listFitsIndex k)=true:=by
  rw[fitsIndex_both h1 h2];exact zaw
 have ck:¬ zda (aa.toArray.size*k.toNat)=true:=by
  rw[Uh hlen];exact zaw
 have aX:List.foldl (λ x1 x2=>x1++x2) #[] (zag (if aa.toArray.isEmpty=true then 0 else k.toNat) aa.toArray)=(zag k.toNat aa).flatten.toArray:=by
  have f0:∀m:Nat,List.foldl (λ x1 x2=>x1++x2) #[] (zag m aa.toArray)=(zag m aa).flatten.toArray:=λ m=>by
   have:=foldl_rep aa m [];rw[List.nil_append] at this;exact this
  rw[f0];cases aa with
  |nil=>simp
  |cons a r'=>rw[if_neg (by simp)]
 refine wpAny_binaryOp_repeat_ref (T := "list") (U := "int") (by decide) ⟨_,e,rfl⟩ (λ s'=>typeIs_int s' k t) noFill_list_mul F.fills_int_mul F.slot_int_rmul repeat_list F.slot_int_index.lookup
  (call_meets F.slot_int_rmul (typeIs_int s k t) F.entry_int_rmul (F.args_int_rmul_2 _ _) (int___rmul___int_list k t l aa.toArray n)
   ⟨e,rfl,⟨_,e,rfl⟩,call_meets F.slot_list_mul ⟨_,e,rfl⟩ F.entry_list_mul (F.args_list_mul_2 _ _) (AutoListH.list___mul___list_int_3 l aa.toArray n k t gh p7 ck) ⟨e,?_⟩⟩)
 rw[aX];exact⟨.ref _,_,I.aaI (t':=s.toks) (r.rep k.toNat) (by rw[len_rep,Nat.mul_comm];exact hz),rfl,q _ I.fresh⟩
end
end L2
namespace u7
open PySem PySem.W PySem.Calls PyProof.Rows
def Ng:∀(ns:List Int) (vs:List Value),WellAll P h vs (ns.map WData.int)->IntsAre vs ns:=by
 intro ns;induction ns with
 |nil =>
  intro vs w;rw[List.map_nil] at w;cases w;exact .nil
 |cons n ns ih =>
  intro vs w;rw[za6] at w;cases w with
  |cons a b =>
   cases a;exact .cons _ _ (ih _ b)
def Zl {l:OpenLaw}(hn:l.most=some n)(dw:l.row.toRowW.claim.pre args=true)(iy:WellAll P h vals args):
 ∃a vs ns,vals=[zbl a]/\args=[WData.list (ns.map WData.int)]/\h.get? a=some {cls:=.type "list",data:=.seq vs.toArray}/\IntsAre vs ns/\ns.length<=n:=by
 have xi:WShape.hasAll [] args [.list .int]=true:=(pre_splitW dw).1;have hc:l.pre.holds [] {args:=args}=true:=(pre_splitW dw).2;obtain⟨d,r,rfl,h1,h2⟩:=hasAllW_cons xi;obtain rfl:=hasAllW_nil h2;obtain⟨xs,rfl,h3⟩:=hasW_list h1;obtain⟨ns,rfl⟩:=items_int h3;have hlen:ns.length<=n:=by
  unfold OpenLaw.pre at hc;have h4:(WTm.not (.lt (.lit (.int (n:Int))) (.len (.arg 0)))).holds [] {args:=[.list (ns.map .int)]}=true:=by
   have h4:=(holds_andW hc).1;rw[hn] at h4;exact h4
  have h5:=condW_of h4 (w_not (w_lt w_lit (w_len_list (w_arg rfl))));rw[za2] at h5;refine Nat.le_of_not_lt λ q=>?_;have q':(n:Int)<((ns.length:Nat):Int):=by omega
  first
   |(rw[decide_eq_true q'] at h5;exact absurd h5 (by decide))
   |(simp at h5;omega)
 cases iy with
 |cons w1 w2 =>
  cases w2;cases w1 with
  |list ho a8=>exact⟨_,_,ns,rfl,rfl,ho,Ng ns _ a8,hlen⟩
def Zm (l:OpenLaw)(args:List WData):l.row.toRowW.claim.post args (.bool true) args=true:=
 postW_of (r:=l.row.toRowW) (X:=(true==true))
  (show WShape.has [] (.bool true) .bool=true by first|rfl|decide|simp[WShape.has,WShape.arms,WShape.armsAll])
  (show (WTm.eq .res (.lit (.bool true))).value [] {args:=args,res:=some (.bool true),after:=args}=some (.bool (true==true)) from w_eq_bool (w_res rfl) w_lit) rfl
end u7
namespace L2
open PySem PySem.Spec PyProof.Rows
def R7:∀ {vs:List Value}{ns:List Int},IntsAre vs ns->Vals (ns.map V.int) vs
 |_,_,.nil=>.nil
 |_,_,.cons n t h=>.cons ⟨t,rfl⟩ (R7 h)
variable {w:World}{mg:Str->Option Value}{base:Heap}{X:Cx}{H:Hp}{pins:List (Addr×Obj)}{σ:St}{s:Shared}{A:Around}{E:Value->Shared->Prop}{e tg iter:Expr}{pos:Pos}{td ty:TE}{scope:Scope}{NB:List Str}{μ:List (Option Nat)}{fp:List Addr}{WX:Str->Hp->Prop}
abbrev oA (H:Hp):Prop:=∀b,H b=none\/∃o xs,H b=some (.Hg o (.lst xs))
def Ui {K}(KX:K.In s₁.heap)(js:s₁.heap.Ns mainGlobals mg)(hb:s₁.heap.Ns builtinsNs mb)(xj:∀x:Str,x ≠ "__name__" -> mb x=bootBuiltins x)(p8:s₁.heap.NoLimit)(hg:s₁.gens=#[])(ha:s₁.heap.get? a=some {cls:=.type "list",data:=.seq vs.toArray})(hi:IntsAre vs ns)(hl:ns.length<=sizeLine)(hr:BE k callerA)(F:∀base:Heap,K.In base->base.Ns mainGlobals mg->D4 P w K mg base CX k fa fd [x] sp)(jt:∀(s:Shared) (u:Value),BindsTo s fd ⟨[u],[]⟩ [(x,u)])(bD:∀H:Hp,oA H->Ds K H a (ns.map V.int)->sp [.ref a] H (λ v _=>v=.bl true) λ _ _ _=>False)(ju:∀H e s',CX [] H s₁ (λ _ _ _=>False) e s'->False):
 codeAny (model P w) callerA (.call (.ref fa) ⟨[.ref a],[]⟩) (λ r s'=>r=.ok (.ret (.bool true))/\OldK s₁.heap s'.heap/\s'.os=s₁.os/\AllBare s'.gens) s₁:=by
 have rv:=R7 hi;have p9:=hi.length;have core:∀H:Hp,oA H->Ds K H a (ns.map V.int)->Hh P w H s₁.heap->(∀b,H b≠none->b=a)->(H a≠none->K.lookup a=none)->
  codeAny (model P w) callerA (.call (.ref fa) ⟨[.ref a],[]⟩) (λ r s'=>r=.ok (.ret (.bool true))/\OldK s₁.heap s'.heap/\s'.os=s₁.os/\AllBare s'.gens) s₁:=by
  intro H hO hS Aw hA hK;have b9:∀ {b:Addr} {o:Obj},s₁.heap.get? b=some o->H b=none->(S8 s₁.heap H).get? b=some o:=λ e n=>dW e n;have jo:∀ {b:Addr} {o:Obj} {es:Array DictEntry} {ep:Nat},s₁.heap.get? b=some o->o.data=.dict es ep->H b=none:=fun {b o es ep} e d=>by
   cases q:H b with
   |none=>rfl
   |some u =>
    have e':b=a:=hA b (by rw[q];simp);subst e';rw[ha] at e;cases e;have d':Data.seq vs.toArray _=Data.dict es ep:=d;cases d'
  have m9:∀ {b:Addr} {m:Str->Option Value},s₁.heap.Ns b m->(S8 s₁.heap H).Ns b m:=fun {b m} ⟨o,es,ep,e,d,r⟩=>⟨o,es,ep,b9 e (jo e d),d,r⟩;have u8:K.In (S8 s₁.heap H):=λ b o e=>b9 (KX b o e) (by
   cases q:H b with
   |none=>rfl
   |some u =>
    have e':b=a:=hA b (by rw[q];simp);subst e';rw[hK (by rw[q];simp)] at e;cases e)
  have hM:Mod K mg (S8 s₁.heap H):=⟨u8,m9 js,⟨mb,m9 hb,xj⟩,let ⟨mc,h1,h2⟩:=p8;⟨mc,m9 h1,h2⟩⟩;have e0:WG P w K mg (S8 s₁.heap H) callerA [] s₁ H:=⟨rfl,hM,λ b o e=>mY e,Nat.le_of_eq (Zb _ _),trivial,λ b hb=>absurd (show b∈([]:List Addr) from hb) (by simp),Aw,.of_eq hg⟩;refine codeAny_mono ((F _ u8 (m9 js)).run callerA [] s₁ H ⟨[.ref a],[]⟩ [.ref a] [.ref a] _ _ hr e0 (jt s₁ (.ref a)) (.cons rfl .nil) (bD H hO hS)) λ r s' h=>?_;cases r with
  |error e=>exact (ju H e s' h).elim
  |ok fl =>
   cases fl with
   |next|brk|cont=>exact zct h
   |ret u =>
    obtain⟨v,H',os,bare,un,gi,r',q⟩:=h;have q':v=.bl true:=q;subst q';obtain rfl:u=Value.bool true:=r';refine⟨rfl,OldK.of_keep λ b o e=>?_,os,bare⟩;cases q:H b with
    |none=>exact un.keep b o e q (by intro z;exact absurd (show b∈([]:List Addr) from z) (by simp)) (by simp)
    |some u =>
     rcases hO b with z|⟨ob,xs,z⟩
     ·rw[q] at z;cases z
     ·have z2:=un.Nd b ob _ z;obtain⟨e1,_⟩:=Aw b _ z;obtain⟨e2,_⟩:=gi b _ z2;rw[e] at e1;cases e1;exact e2
 cases hk:K.lookup a with
 |some o =>
  have e:=KX a o hk;rw[ha] at e;cases e;refine core (λ _=>none) (λ _=>.inl rfl) (.inr ⟨_,vs.toArray,_,hk,rfl,rfl,rfl,by rw[zad,p9];exact hl,by simpa using rv⟩) (λ b u z=>by have z':(none:Option HO)=some u:=z;cases z') (λ b z=>absurd rfl z) λ z=>absurd rfl z
 |none =>
  refine core (λ b=>if b=a then some (.Hg {cls:=.type "list",data:=.seq vs.toArray} (.lst (ns.map V.int))) else none) (λ b=>?_) (.inl (.inr ⟨{cls:=.type "list",data:=.seq vs.toArray},if_pos rfl⟩)) (λ b u z=>?_) (λ b z=>?_) λ _=>hk
  ·by_cases hb:b=a
   ·exact .inr ⟨_,_,if_pos hb⟩
   ·exact .inl (if_neg hb)
  ·by_cases hb:b=a
   ·have z':=(if_pos hb).symm.trans z;cases z';subst hb;exact⟨ha,by rw[za2];exact hl,vs,_,rv,ha⟩
   ·have z':=(if_neg hb).symm.trans z;cases z'
  ·by_cases hb:b=a
   ·exact hb
   ·exact absurd (if_neg hb) z
noncomputable abbrev oB:Y0:=λ _ _ _ _ _ _=>False
noncomputable abbrev E0:XK:=λ _ _ _=>False
structure dR (K:za1)(x qual:Str)(st:Stmt)(f:Addr)(fd:FuncData):Prop where
 ex:∃(oc:Value) (od:Option Addr) (kV doc pm:Value) (an:Option Addr) (B0 ct:Value) (Ud:Array (Option Value)),
  fd=zbb x qual (B8 st) (AF st) (A2 st) .none kV doc pm an B0 ct/\K.lookup f=some ⟨oc,od,.func fd,Ud⟩/\zca K B0 qual=true
 kp:zbk K (.ref f)=true
section
variable {P:Program}{K:za1}
def dR.ok {st}(F:dR K x qual st f fd)(S:Ab N ps (A2 st))(len:∀vs H Q E,sp vs H Q E->vs.length=ps.length)(cj:∀(B0:Value) (A:Around) (outer:List Env) (s:Shared) (H:Hp) (vs:List V) (Q:VK) (E:XK),BE k (A.deeper (envOfC qual (A2 st) s.heap.objs.size f B0))->sp vs H Q E->
  ∃t,XY (Ua oB P w K mg base N qual (A2 st) f B0 A outer s H E).nox (AF st) t/\t {nx:=λ _ H'=>Q .AV H',rt:=Q} (start N vs) H):D4 P w K mg base oB (k+1) f fd ps sp:=by
 obtain⟨oc,od,kV,doc,pm,an,B0,ct,Ud,rfl,lk,aT⟩:=F.ex;refine Uc lk aT S len λ A outer s H vs Q E hr bD=>?_;obtain⟨t,h,q⟩:=cj B0 A outer s H vs Q E hr bD;exact⟨t,h.nox,q⟩
def dR.binds {st}(F:dR K x qual st f fd)(h:∀(kV doc pm:Value) (an:Option Addr) (B0 ct:Value) (us:List Value),us.length=ps.length->bindArgs (zbb x qual (B8 st) (AF st) (A2 st) .none kV doc pm an B0 ct) ⟨us,[]⟩=pure (ps.zip us)):Binds K fd ps []:=by
 obtain⟨oc,od,kV,doc,pm,an,B0,ct,Ud,rfl,lk,aT⟩:=F.ex;exact .all (h kV doc pm an B0 ct)
def WK {st}{kV}(l:K.lookup f=some ⟨oc,od,.func (zbb x qual (B8 st) (AF st) (A2 st) .none kV doc pm an B0 ct),Ud⟩)(c:zca K B0 qual=true)(k:zbk K (.ref f)=true):dR K x qual st f (zbb x qual (B8 st) (AF st) (A2 st) .none kV doc pm an B0 ct):=⟨⟨oc,od,kV,doc,pm,an,B0,ct,Ud,rfl,l,c⟩,k⟩
end
def AA (h:n<=1000):n<sizeLine:=Nat.lt_of_le_of_lt h (by decide)
def pv (i:Nat)(hN: ~~~(X.N[i]?=some x))(hv:Vis X.env.scope x:=by first | exact zb9 rfl | exact Or.inr (zb9 rfl) | exact Or.inr (Or.inr rfl))(hd:(x==("__debug__" : Str))=false:=by decide)(aT:(x==("__classdict__" : Str))=false:=by decide):PE X (.Name x pos) (O5 i):=uO hN hv hd aT
abbrev Ah (H H':Hp):Prop:=∀b o,H b=some o->H' b=some o
def Ah.refl (H:Hp):Ah H H:=λ _ _ h=>h
def Ah.trans (a:Ah H H1)(b:Ah H1 H2):Ah H H2:=λ c o h=>b c o (a c o h)
def Ah.seq {K}(e:Ah H H')(h:Ds K H a xs):Ds K H' a xs:=by
 rcases h with (h|⟨o,h⟩)|h
 ·exact .inl (.inl (e _ _ h))
 ·exact .inl (.inr ⟨o,e _ _ h⟩)
 ·exact .inr h
section
variable {κ:Type} [DecidableEq κ]
abbrev Qz (kvs:List (κ×V))(k:κ):Option V:=(kvs.find? λ kv=>decide (kv.1=k)).map (·.2)
abbrev putK (kvs:List (κ×V))(k:κ)(v:V):List (κ×V):=
 if (kvs.any λ kv=>decide (kv.1=k))=true then kvs.map (λ kv=>if kv.1=k then (kv.1,v) else kv) else kvs++[(k,v)]
def Oc {p:κ×V}{r:List (κ×V)}{k:κ}(e:p.1=k):Qz (p::r) k=some p.2:=by simp[Qz,zd7,e]
def Od {p:κ×V}{r:List (κ×V)}{k:κ}(e:¬ p.1=k):Qz (p::r) k=Qz r k:=by simp[Qz,zd7,e]
def Uj (k:κ):∀kvs:List (κ×V),(kvs.any λ kv=>decide (kv.1=k))=(Qz kvs k).isSome
 |[]=>rfl
 |p::r=>by
  rw[zch];by_cases e:p.1=k
  ·simp only[Oc e,decide_eq_true e,Bool.true_or,Option.isSome_some]
  ·rw[Od e,decide_eq_false e,Bool.false_or];exact Uj k r
def DY (kvs:List (κ×V))(k:κ)(v:V):(putK kvs k v).length<=kvs.length+1:=by
 unfold putK;split
 ·rw[za2];omega
 ·rw[zal,zaa,List.length_nil];omega
def Hz.FY (r:Hz o u):o.isSome=u.isSome:=by
 cases o with
 |none=>cases u with
  |none=>rfl
  |some _=>exact (show False from r).elim
 |some _=>cases u with
  |none=>exact (show False from r).elim
  |some _=>rfl
def Hz.getD (r:Hz o u)(rd:RelV d d'):RelV (o.getD d) (u.getD d'):=by
 cases o with
 |none=>cases u with
  |none=>exact rd
  |some _=>exact (show False from r).elim
 |some _=>cases u with
  |none=>exact (show False from r).elim
  |some _=>exact r
def KV.val {kvs:List (κ×V)}{vs:List (κ×Value)}(r:KV kvs vs)(k:κ):Hz (Qz kvs k) (valueAt vs k):=by
 unfold KV at r;induction r with
 |nil=>exact zcy
 | @cons p q ps qs h t ih =>
  obtain⟨h1,h2⟩:=h;by_cases e:p.1=k
  ·have e':q.1=k:=h1.symm.trans e;have b:valueAt (q::qs) k=some q.2:=by simp[valueAt,zd7,e']
   rw[Oc e,b];exact h2
  ·have e':¬ q.1=k:=λ z=>e (h1.trans z);have b:valueAt (q::qs) k=valueAt qs k:=by simp[valueAt,zd7,e']
   rw[Od e,b];exact ih
def KV.any {kvs:List (κ×V)}{vs:List (κ×Value)}(r:KV kvs vs)(k:κ):(kvs.any λ kv=>decide (kv.1=k))=vs.any λ kv=>decide (kv.1=k):=by
 unfold KV at r;induction r with
 |nil=>rfl
 |cons h t ih=>rw[zch,zch,ih,h.1]
def KV.wA {kvs:List (κ×V)}{vs:List (κ×Value)}(r:KV kvs vs)(k:κ){y:V}{u:Value}(ry:RelV y u):
 KV (kvs.map λ kv=>if kv.1=k then (kv.1,y) else kv) (vs.map λ kv=>if kv.1=k then (kv.1,u) else kv):=by
 unfold KV at r ⊢;induction r with
 |nil=>exact .nil
 | @cons p q ps qs h t ih =>
  rw[za6,za6];refine .cons ?_ ih;obtain⟨h1,h2⟩:=h;by_cases e:p.1=k
  ·rw[if_pos e,if_pos (h1.symm.trans e)];exact⟨h1,ry⟩
  ·rw[if_neg e,if_neg (λ z=>e (h1.trans z))];exact⟨h1,h2⟩
def KV.put {kvs:List (κ×V)}{vs:List (κ×Value)}(r:KV kvs vs)(k:κ){y:V}{u:Value}(ry:RelV y u):KV (putK kvs k y) (stored vs k u):=by
 unfold putK stored;rw[r.any k];by_cases e:(vs.any λ kv=>decide (kv.1=k))=true
 ·rw[if_pos e,if_pos e];exact r.wA k ry
 ·rw[if_neg e,if_neg e];exact Paired.snoc r ⟨rfl,ry⟩
def KV.length {kvs:List (κ×V)}{vs:List (κ×Value)}(r:KV kvs vs):kvs.length=vs.length:=zd5 r
end
def Kk (r:RelV (kV k) u):(AM P w).is k u=true:=by
 cases k with
 |inl i=>obtain⟨t,e⟩:=(show ∃t,u=Value.int i t from r);subst e;exact U1 P w i t
 |inr x=>obtain⟨t,e⟩:=(show ∃t,u=Value.str x t from r);subst e;exact U2 P w x t
def R8:∀ {ks:List Key}{us:List Value},Vals (ks.map kV) us->ItemsAre (AM P w) ks us
 |[],_,r=>by rw[List.map_nil] at r;cases r;exact .nil
 |k::ks,_,r=>by
  rw[za6] at r;cases r with
  |cons h t=>exact .cons (Kk h) (R8 t)
noncomputable abbrev KT (H:Hp):List (List Key×V)->List (List Key×Addr×Value)->Prop:=Paired λ p q=>p.1=q.1/\H q.2.1=some (.tup (p.1.map kV))/\RelV p.2 q.2.2
def KT.val (r:KT H kvs xs)(k:List Key):Hz (Qz kvs k) ((atKey xs k).map (·.2)):=by
 induction r with
 |nil=>exact zcy
 | @cons p q ps qs h t ih =>
  obtain⟨h1,_,h2⟩:=h;by_cases e:p.1=k
  ·have e':q.1=k:=h1.symm.trans e;have b:atKey (q::qs) k=some q.2:=by simp[atKey,zd7,e']
   rw[Oc e,b];exact h2
  ·have e':¬ q.1=k:=λ z=>e (h1.trans z);have b:atKey (q::qs) k=atKey qs k:=by simp[atKey,zd7,e']
   rw[Od e,b];exact ih
def KT.wA (r:KT H kvs xs)(k:List Key)(ry:RelV y u):
 KT H (kvs.map λ kv=>if kv.1=k then (kv.1,y) else kv) (xs.map (putAt k u)):=by
 induction r with
 |nil=>exact .nil
 | @cons p q ps qs h t ih =>
  rw[za6,za6];refine .cons ?_ ih;obtain⟨h1,h2,h3⟩:=h;unfold putAt;by_cases e:p.1=k
  ·rw[if_pos e,if_pos (h1.symm.trans e)];exact⟨h1,h2,ry⟩
  ·rw[if_neg e,if_neg (λ z=>e (h1.trans z))];exact⟨h1,h2,h3⟩
def KT.put (r:KT H kvs xs)(k:List Key)(hb:H b=some (.tup (k.map kV)))(ry:RelV y u):
 KT H (putK kvs k y) (storedH xs k b u):=by
 have e:(kvs.any λ kv=>decide (kv.1=k))=(atKey xs k).isSome:=by
  rw[Uj,(r.val k).FY,Option.isSome_map]
 unfold putK storedH;rw[e];by_cases q:(atKey xs k).isSome=true
 ·rw[if_pos q,if_pos q];exact r.wA k ry
 ·rw[if_neg q,if_neg q];exact Paired.snoc r ⟨rfl,hb,ry⟩
def KT.keeps (r:KT H kvs xs)(ht:∀b ys,H b=some (.tup ys)->H' b=some (.tup ys)):KT H' kvs xs:=
 Paired.uL r λ _ _ z=>⟨z.1,ht _ _ z.2.1,z.2.2⟩
section
variable {P:Program}{h:Heap}{a:Addr}
def sQ (ok:Hh P w H h)(e:Rd H a u):Br P w H h a u:=e.ok ok
def Jo (ok:Hh P w H h)(e:Rd H a (.dK kvs)):kvs.length<=sizeLine/\(a==sysModules)=false/\∃vs,KV kvs vs/\h.DictOf (AM P w) a vs:=
 show Br P w H h a (.dK kvs) from sQ ok e
def sR (ok:Hh P w H h)(e:H a=some (.dK kvs)):kvs.length<=sizeLine/\(a==sysModules)=false/\∃vs,KV kvs vs/\h.DictOf (AM P w) a vs:=Jo ok (.inl e)
def HK (ok:Hh P w H h)(e:H a=some (.tup (ks.map kV))):(tupleKind (AM P w)).is h ks a:=by
 obtain⟨_,aa,r,o,h1,h2,n,h3⟩:=(show Br P w H h a (.tup (ks.map kV)) from ok a _ e);exact⟨o,aa.toArray,n,h1,h2,h3,by simpa using R8 r⟩
def Mv (ok:Hh P w H h)(e:Rd H a (.dT kvs)):kvs.length<=sizeLine/\(a==sysModules)=false/\
 ∃xs,KT H kvs xs/\h.DictOfH (tupleKind (AM P w)) a xs:=by
 obtain⟨z,y,xs,r,o,es,ep,h1,h2,h3,h4,h5⟩:=(show Br P w H h a (.dT kvs) from sQ ok e);refine⟨z,y,xs,r,o,es,ep,h1,h2,h3,h4,λ x hx=>?_,h5⟩;have all:∀ {l:List (List Key×V)} {m:List (List Key×Addr×Value)},KT H l m->∀x∈m,(tupleKind (AM P w)).is h x.1 x.2.1:=by
  intro l m q;induction q with
  |nil=>intro x hx;exact nomatch hx
  | @cons p q ps qs hq t ih =>
   intro x hx;rcases zab.mp hx with e|hx
   ·subst e;exact HK ok (by rw[<-hq.1];exact hq.2.1)
   ·exact ih x hx
 exact all r x hx
def aaJ (ok:Hh P w H h)(e:H a=some (.dT kvs)):kvs.length<=sizeLine/\(a==sysModules)=false/\
 ∃xs,KT H kvs xs/\h.DictOfH (tupleKind (AM P w)) a xs:=Mv ok (.inl e)
end
abbrev Oe (H:Hp)(a:Addr)(y:V)(r:Option V):Prop:=
 (∃kvs k,Rd H a (.dK kvs)/\y=kV k/\r=Qz kvs k)\/∃kvs k b,Rd H a (.dT kvs)/\y=.ref b/\H b=some (.tup (k.map kV))/\r=Qz kvs k
abbrev aaK (H:Hp)(a:Addr)(y v:V)(H':Hp):Prop:=
 (∃kvs k,H a=some (.dK kvs)/\y=kV k/\kvs.length<sizeLine/\H'=upd H a (.dK (putK kvs k v))) \/
 ∃kvs k b,H a=some (.dT kvs)/\y=.ref b/\H b=some (.tup (k.map kV))/\kvs.length<sizeLine/\H'=upd H a (.dT (putK kvs k v))
section
variable {a:Addr}{y v:V}{u r:Value}{o:Option V}
def Inv.big (I:Inv X pins σ H s):sysModules<s.heap.objs.size:=by
 have h:mainGlobals<s.heap.objs.size:=(I.mod.glob.keeps I.bk).lt;exact Nat.lt_trans (by decide) h
def Zn (hu:A.units+1<cLine)(I:Inv X pins σ H s)(g:Oe H a y (some v))(ry:RelV y u)(h:∀w' s',Inv X pins σ H s'->RelV v w'->Q w' s'):
 wpAny (model X.prog X.w) A (getItem (.ref a) u) Q E s:=by
 rcases g with ⟨kvs,k,e,ey,l⟩|⟨kvs,k,b,e,ey,eb,l⟩
 ·subst ey;obtain⟨z,hd,vs,rel,dd⟩:=Jo I.Aw e;obtain⟨w',hw,bf⟩:=Hz.some_of (v:=v) (o:=valueAt vs k) (by rw[l];exact rel.val k);exact wpAny_getItem_of (Kk ry) dd.mapOf hw (h w' _ (I.tok _) bf)
 ·subst ey;cases (show u=zbl b from ry);obtain⟨z,hd,xs,rel,dd⟩:=Mv I.Aw e;obtain⟨w',hw,bf⟩:=Hz.some_of (v:=v) (o:=(atKey xs k).map (·.2)) (by rw[l];exact rel.val k);obtain⟨p,hp,xk⟩:=zbp.mp hw;refine wpAny_getItem_heap (tupleKind_room_in1 hu) (HK I.Aw eb) dd hp ?_;rw[xk];exact h w' _ (I.tok _) bf
def acN (hu:A.units+1<cLine)(I:Inv X pins σ H s)(g:Oe H a y o)(ry:RelV y u)(h:∀s',Inv X pins σ H s'->Q (.bool o.isSome) s'):
 wpAny (model X.prog X.w) A (compareOp .In u (.ref a)) Q E s:=by
 rcases g with ⟨kvs,k,e,ey,l⟩|⟨kvs,k,b,e,ey,eb,l⟩
 ·subst ey;obtain⟨z,hd,vs,rel,dd⟩:=Jo I.Aw e;refine wpAny_in_of (Kk ry) hd dd.mapOf ?_;rw[<-(rel.val k).FY,<-l];exact h _ (I.tok _)
 ·subst ey;cases (show u=zbl b from ry);obtain⟨z,hd,xs,rel,dd⟩:=Mv I.Aw e;refine wpAny_in_heap (tupleKind_room_in1 hu) (HK I.Aw eb) hd dd ?_;have q:=(rel.val k).FY;rw[Option.isSome_map] at q;rw[<-q,<-l];exact h _ (I.tok _)
def oC (hu:A.units+1<cLine)(I:Inv X pins σ H s)(g:Oe H a y o)(ry:RelV y u)(h:∀s',Inv X pins σ H s'->Q (.bool (!o.isSome)) s'):
 wpAny (model X.prog X.w) A (compareOp .NotIn u (.ref a)) Q E s:=by
 rcases g with ⟨kvs,k,e,ey,l⟩|⟨kvs,k,b,e,ey,eb,l⟩
 ·subst ey;obtain⟨z,hd,vs,rel,dd⟩:=Jo I.Aw e;refine wpAny_notIn_of (Kk ry) hd dd.mapOf ?_;rw[<-(rel.val k).FY,<-l];exact h _ (I.tok _)
 ·subst ey;cases (show u=zbl b from ry);obtain⟨z,hd,xs,rel,dd⟩:=Mv I.Aw e;refine wpAny_notIn_heap (tupleKind_room_in1 hu) (HK I.Aw eb) hd dd ?_;have q:=(rel.val k).FY;rw[Option.isSome_map] at q;rw[<-q,<-l];exact h _ (I.tok _)
def Sj (I:Inv X pins σ H s)(mu:Mut (H a))(hs:zd8 a s.heap h')(he:∃q,h'.get? a=some q)(new:Br X.prog X.w (upd H a ob) h' a ob):
 Inv X pins σ (upd H a ob) {s with heap:=h',toks:=t' }:=
 I.write (x:=a) (e:=a) mu (.inl rfl) (λ b q hb z=>(hs.2 b hb).trans z) he new
def fB (z:kvs.length<=sizeLine)(hd:(a==sysModules)=false)(rel:KV kvs vs)(dd:h'.DictOf (AM P w) a vs):
 Br P w H' h' a (.dK kvs):=⟨z,hd,vs,rel,dd⟩
def Zo (hu:A.units+1<cLine)(I:Inv X pins σ H s)(g:aaK H a y v H')(ry:RelV y u)(rv:RelV v r)(h:∀s',Inv X pins σ H' s'->Q () s'):
 wpAny (model X.prog X.w) A (setItem (.ref a) u r) Q E s:=by
 rcases g with ⟨kvs,k,e,ey,l,eH⟩|⟨kvs,k,b,e,ey,eb,l,eH⟩
 ·subst ey eH;obtain⟨z,hd,vs,rel,dd⟩:=sR I.Aw e;have hz:vs.length<=sizeLine:=by rw[<-rel.length];exact z
  have hl:(putK kvs k v).length<=sizeLine:=by have:=DY kvs k v;omega
  refine wpAny_setItem_pairs (hsz:=hz) (Kk ry) dd λ h' gj hs=>h _ ?_;have he:∃q,h'.get? a=some q:=let ⟨q,_,_,hq,_⟩:=gj;⟨q,hq⟩;exact Sj I (by rw[e];exact zcy) hs he (fB hl hd (rel.put k rv) gj)
 ·subst ey eH;cases (show u=zbl b from ry);obtain⟨z,hd,xs,rel,dd⟩:=aaJ I.Aw e;have hz:xs.length<=sizeLine:=by rw[<-zd5 rel];exact z
  have hl:(putK kvs k v).length<=sizeLine:=by have:=DY kvs k v;omega
  refine wpAny_setItem_heap (hsz:=hz) (tupleKind_room_in1 hu) (HK I.Aw eb) dd λ h' gj hs=>h _ ?_;obtain⟨q,es,ep,hq,h2,h3,h4,_,h5⟩:=gj;refine Sj I (by rw[e];exact zcy) hs ⟨q,hq⟩ ⟨hl,hd,_,(rel.put k eb rv).keeps λ c ys ec=>?_,q,es,ep,hq,h2,h3,h4,h5⟩;rw[Ag (aae ec e (λ z=>nomatch z))];exact ec
end
def Uk (I:Inv X pins σ H s)(g:Oe H a y o):s.TypeIs (.ref a) "dict" := by
 rcases g with ⟨kvs,k,e,_,_⟩|⟨kvs,k,b,e,_,_,_⟩
 ·obtain⟨_,_,vs,_,dd⟩:=Jo I.Aw e;exact dd.typeIs
 ·obtain⟨_,_,xs,_,dd⟩:=Mv I.Aw e;exact dd.typeIs
abbrev aaL (td ty tv:TE):TS:=λ D σ H=>tv σ H λ v H1=>td σ H1 λ x H2=>ty σ H2 λ y H3=>∃a H4,x=.ref a/\aaK H3 a y v H4/\D.nx σ H4
section
variable {o i value:Expr}{pos' aV:Pos}{tv:TE}
def oE (hu:X.A.units+1<cLine)(ho:PE X o td)(hi:PE X i ty)(hv:PE X value tv)(hs:swapsWith value (some (.Subscript o i pos')) pos.line X.env=pure false):
 PS X (.Assign [.Subscript o i pos'] value pos) (aaL td ty tv):=by
 intro pins s σ H D I h;refine wpAny_Assign_Subscript (Bl (hv pins s σ H _ I h) λ r s1 ⟨v,H1,I1,rv,q1⟩=>Bl (ho pins s1 σ H1 _ I1 q1) λ u s2 ⟨x,H2,I2,rx,q2⟩=>Bl (hi pins s2 σ H2 _ I2 q2) λ iv s3 zz=>?_) hs;obtain⟨y,H3,I3,ry,a,H4,ex,g,q3⟩:=zz;subst ex;obtain rfl:u=zbl a:=rx;exact Zo hu I3 g ry rv λ s4 I4=>⟨σ,H4,I4,q3⟩
end
def Ul (h:Heap)(hb:sysModules<h.objs.size):Br P w H (h.push {cls:=.type "dict",data:=.dict #[]}) h.objs.size (.dK []):=
 ⟨zbe _,beq_eq_false_iff_ne.mpr (zbn (zax hb)),[],.nil,Heap.DictOf.new h⟩
def fC (h:Heap)(hb:sysModules<h.objs.size):Br P w H (h.push {cls:=.type "dict",data:=.dict #[]}) h.objs.size (.dT []):=
 ⟨zbe _,beq_eq_false_iff_ne.mpr (zbn (zax hb)),[],.nil,_,#[],0,zat _ rfl,⟨rfl,rfl,rfl⟩,rfl,rfl,zbv⟩
abbrev wB:TE:=λ _ H Q=>∀p,H p=none->Q (.ref p) (upd H p (.dK []))
abbrev wC:TE:=λ _ H Q=>∀p,H p=none->Q (.ref p) (upd H p (.dT []))
def fD:PE X (.Dict [] [] pos) wB:=λ pins s σ H Q I h =>
 wpAny_Dict_empty ⟨.ref s.heap.objs.size,_,I.laid (a:=s.heap.objs.size) (o:=.dK []) (t':=s.toks) (λ _ _ q=>zah _ q) (zaf _) (Ul s.heap I.big),rfl,h _ (I.Aw.fresh (zaf _))⟩
def fE:PE X (.Dict [] [] pos) wC:=λ pins s σ H Q I h =>
 wpAny_Dict_empty ⟨.ref s.heap.objs.size,_,I.laid (a:=s.heap.objs.size) (o:=.dT []) (t':=s.toks) (λ _ _ q=>zah _ q) (zaf _) (fC s.heap I.big),rfl,h _ (I.Aw.fresh (zaf _))⟩
abbrev WL:List (TE×TE)->St->Hp->(List (V×V)->Hp->Prop)->Prop
 |[],_,H,Q=>Q [] H
 |(tk,tv)::r,σ,H,Q=>tk σ H λ x H1=>tv σ H1 λ y H2=>WL r σ H2 λ ps H3=>Q ((x,y)::ps) H3
noncomputable abbrev VV:List (V×V)->List (Value×Value)->Prop:=Paired λ p q=>RelV p.1 q.1/\RelV p.2 q.2
abbrev PPs (X:Cx)(pos:Pos)(keys:List (Option Expr))(values:List Expr)(dz:List (TE×TE)):Prop:=
 ∀(pins:List (Addr×Obj)) (s:Shared) (σ:St) (H:Hp) (Q:List (V×V)->Hp->Prop),Inv X pins σ H s->WL dz σ H Q->
  wpAny (model X.prog X.w) X.A (evalPairs (pairTrees keys values X.env pos)) (λ vs s'=>∃ps H',Inv X pins σ H' s'/\VV ps vs/\Q ps H') X.xe s
def oF:PPs X pos [] [] []:=λ pins s σ H Q I h=>pairTrees_nil_walk ⟨[],H,I,.nil,h⟩
def fF (hk:PE X k tk)(hv:PE X v tv)(hr:PPs X pos ks vs dz):
 PPs X pos (some k::ks) (v::vs) ((tk,tv)::dz):=λ pins s σ H Q I h =>
 pairTrees_cons_walk (Bl (hk pins s σ H _ I h) λ u s1 ⟨x,H1,I1,rx,q1⟩=>Bl (hv pins s1 σ H1 _ I1 q1) λ w2 s2 ⟨y,H2,I2,ry,q2⟩ =>
  Bl (hr pins s2 σ H2 _ I2 q2) λ ws s3 ⟨ps,H3,I3,rel,q3⟩=>⟨(x,y)::ps,H3,I3,.cons ⟨rx,ry⟩ rel,q3⟩)
abbrev HL (kvs more:List (Key×V)):List (Key×V):=more.foldl (λ acc kv=>putK acc kv.1 kv.2) kvs
def KV.merge:∀ {more:List (Key×V)}{rs:List (Key×Value)}{kvs:List (Key×V)}{vs:List (Key×Value)},KV more rs->KV kvs vs->KV (HL kvs more) (merged vs rs):=by
 intro more rs kvs vs r;unfold KV at r;induction r generalizing kvs vs with
 |nil=>intro q;exact q
 | @cons p q ps qs h t ih =>
  intro r0;have e:KV (putK kvs p.1 p.2) (stored vs q.1 q.2):=by
   have:=r0.put p.1 h.2;rw[<-h.1];exact this
  exact ih e
def Jp:∀(more kvs:List (Key×V)),(HL kvs more).length<=kvs.length+more.length
 |[],kvs=>by show kvs.length<=kvs.length+0;omega
 |p::r,kvs=>by
  have h1:=Jp r (putK kvs p.1 p.2);have h2:=DY kvs p.1 p.2;show (HL (putK kvs p.1 p.2) r).length<=_;rw[zaa];omega
def Of {P:Program}{w:World}:∀ {kvs:List (Key×V)}{ws:List (Value×Value)},VV (kvs.map λ kv=>(kV kv.1,kv.2)) ws->∃rs,Carries (AM P w) ws rs/\KV kvs rs
 |[],_,r=>by rw[List.map_nil] at r;cases r;exact⟨[],zcy,.nil⟩
 |p::kvs,_,r=>by
  rw[za6] at r;cases r with
  | @cons a b as bs h t =>
   obtain⟨rs,c,q⟩:=Of (P:=P) (w:=w) t;obtain⟨b1,b2⟩:=b;exact⟨(p.1,b2)::rs,⟨Kk h.1,rfl,c⟩,.cons ⟨rfl,h.2⟩ q⟩
abbrev aaM (dz:List (TE×TE)):TE:=λ σ H Q=>∀p,H p=none->WL dz σ (upd H p (.dK [])) λ ps H2=>H2 p=some (.dK [])/\∃kvs:List (Key×V),ps=kvs.map (λ kv=>(kV kv.1,kv.2))/\kvs.length<=15/\Q (.ref p) (upd H2 p (.dK (HL [] kvs)))
def oG (h:PPs X pos keys values dz)(a8:keys.all (·.isSome)=true)(hl:keys.length=values.length)(h0:keys≠[])(xl:keys.length<=15):PE X (.Dict keys values pos) (aaM dz):=by
 intro pins s σ H Q I q;have hn:=I.Aw.fresh (zaf s.heap.objs.size);have I1:=I.laid (a:=s.heap.objs.size) (o:=.dK []) (h':=s.heap.push {cls:=.type "dict",data:=.dict #[]}) (t':=s.toks) (λ _ _ q=>zah _ q) (zaf _) (Ul s.heap I.big);refine wpAny_Dict_walk (knd:=AM X.prog X.w) a8 hl h0 xl (Bl (h pins _ σ _ _ I1 (q _ hn)) λ ws s2 zz=>?_);obtain⟨ps,H2,I2,rel,e,kvs,ep,lk,q2⟩:=zz;subst ep;obtain⟨rs,c,rk⟩:=Of (P:=X.prog) (w:=X.w) rel;obtain⟨z,hd,u9,r0,dd⟩:=sR I2.Aw e;cases r0;refine⟨rs,c,dd,λ h' gj hs=>⟨.ref s.heap.objs.size,_,?_,rfl,q2⟩⟩;have hz:(HL [] kvs).length<=sizeLine:=by
  have h1:=Jp kvs [];rw[List.length_nil] at h1;rw[sizeLine_eq];omega
 have he:∃q,h'.get? s.heap.objs.size=some q:=let ⟨q,_,_,hq,_⟩:=gj;⟨q,hq⟩;exact Sj I2 (by rw[e];exact zcy) hs he (fB hz hd (rk.merge .nil) gj)
structure M1 (X:Cx)(o:Expr)(m:Str)(apos:Pos)(e:Expr)(ad:Pos):Prop where
 base:attributeBase o m X.env (eval o X.env)=eval o X.env
 few:((backTo ad (starEach [e] X.env)).all (λ x => !x.1)&&(backToKw ad (keywordEach [] X.env)).all (λ x=>x.1.isSome)
  && decide (([e]:List Expr).length+([]:List Keyword).length+(if ([]:List Keyword).isEmpty then 0 else 1)<30))=true
 line:(apos.endLine==ad.line)=true
 fG:backTo ad (starEach [e] X.env)=[(false,eval e X.env)]
structure M2 (X:Cx)(o:Expr)(m:Str)(apos:Pos)(e f:Expr)(ad:Pos):Prop where
 base:attributeBase o m X.env (eval o X.env)=eval o X.env
 few:((backTo ad (starEach [e,f] X.env)).all (λ x => !x.1)&&(backToKw ad (keywordEach [] X.env)).all (λ x=>x.1.isSome)
  && decide (([e,f]:List Expr).length+([]:List Keyword).length+(if ([]:List Keyword).isEmpty then 0 else 1)<30))=true
 line:(apos.endLine==ad.line)=true
 fG:backTo ad (starEach [e,f] X.env)=[(false,eval e X.env),(false,eval f X.env)]
abbrev IsD (H:Hp)(a:Addr):Prop:=(∃kvs,Rd H a (.dK kvs))\/∃kvs,Rd H a (.dT kvs)
def Sk (I:Inv X pins σ H s)(d:IsD H a):
 s.TypeIs (.ref a) "dict" /\ (∀b,zbl a=.ref b->∃ob,s.heap.get? b=some ob/\ob.dict=none)/\(a==sysModules)=false:=by
 rcases d with ⟨kvs,e⟩|⟨kvs,e⟩
 ·obtain⟨_,hd,vs,_,dd⟩:=Jo I.Aw e;refine⟨dd.typeIs,λ b q=>?_,hd⟩;cases q;obtain⟨ob,_,_,h1,h2,_⟩:=dd;exact⟨ob,h1,h2.2.1⟩
 ·obtain⟨_,hd,xs,_,dd⟩:=Mv I.Aw e;refine⟨dd.typeIs,λ b q=>?_,hd⟩;cases q;obtain⟨ob,_,_,h1,h2,_⟩:=dd;exact⟨ob,h1,h2.2.1⟩
section
variable {a:Addr}{y d:V}{u r:Value}{o:Option V}
def wD (hu:A.units+1<cLine)(I:Inv X pins σ H s)(g:Oe H a y o)(ry:RelV y u)(h:∀w' s',Inv X pins σ H s'->RelV (o.getD .AV) w'->Q w' s'):
 wpAny (model X.prog X.w) A (call (.builtin "dict.get") [.ref a,u]) Q E s:=by
 rcases g with ⟨kvs,k,e,ey,l⟩|⟨kvs,k,b,e,ey,eb,l⟩
 ·subst ey;obtain⟨z,hd,vs,rel,dd⟩:=Jo I.Aw e;refine call_meetsIn zcl dd.typeIs PySem.F.entry_dict_get (PySem.F.args_dict_get_2 _ _) (meets_dict_get (AM X.prog X.w) a (Kk ry) hd) ⟨_,dd.mapOf,h _ _ (I.tok _) ?_⟩;rw[l];exact (rel.val k).getD rfl
 ·subst ey;cases (show u=zbl b from ry);obtain⟨z,hd,xs,rel,dd⟩:=Mv I.Aw e;refine call_meetsIn zcl dd.typeIs PySem.F.entry_dict_get (PySem.F.args_dict_get_2 _ _) (meetsH_dict_get (tupleKind (AM X.prog X.w)) a b hd) ⟨tupleKind_room_in1 hu,k,xs,HK I.Aw eb,dd,h _ _ (I.tok _) ?_⟩;rw[l];exact (rel.val k).getD rfl
def wF (hu:A.units+1<cLine)(I:Inv X pins σ H s)(g:Oe H a y o)(ry:RelV y u)(rd:RelV d r)(h:∀w' s',Inv X pins σ H s'->RelV (o.getD d) w'->Q w' s'):
 wpAny (model X.prog X.w) A (call (.builtin "dict.get") [.ref a,u,r]) Q E s:=by
 rcases g with ⟨kvs,k,e,ey,l⟩|⟨kvs,k,b,e,ey,eb,l⟩
 ·subst ey;obtain⟨z,hd,vs,rel,dd⟩:=Jo I.Aw e;refine call_meetsIn zcl dd.typeIs PySem.F.entry_dict_get (PySem.F.args_dict_get_3 _ _ _) (meets_dict_get_default (AM X.prog X.w) a (Kk ry) hd r) ⟨_,dd.mapOf,h _ _ (I.tok _) ?_⟩;rw[l];exact (rel.val k).getD rd
 ·subst ey;cases (show u=zbl b from ry);obtain⟨z,hd,xs,rel,dd⟩:=Mv I.Aw e;refine call_meetsIn zcl dd.typeIs PySem.F.entry_dict_get (PySem.F.args_dict_get_3 _ _ _) (meetsH_dict_get_default (tupleKind (AM X.prog X.w)) a b hd r) ⟨tupleKind_room_in1 hu,k,xs,HK I.Aw eb,dd,h _ _ (I.tok _) ?_⟩;rw[l];exact (rel.val k).getD rd
end
abbrev wG (td ty:TE):TE:=λ σ H Q=>td σ H λ x H1=>∃a,x=.ref a/\IsD H1 a/\ty σ H1 λ y H2=>∃o,Oe H2 a y o/\Q (o.getD .AV) H2
abbrev wH (td ty tx:TE):TE:=λ σ H Q=>td σ H λ x H1=>∃a,x=.ref a/\IsD H1 a/\ty σ H1 λ y H2=>tx σ H2 λ z H3=>∃o,Oe H3 a y o/\Q (o.getD z) H3
section
variable {o f:Expr}{apos ad:Pos}{tx:TE}
def fH (hu:X.A.units+1<cLine)(ho:PE X o td)(he:PE X e ty)(m:M1 X o "get" apos e ad):PE X (.Call (.Attribute o "get" apos) [e] [] ad) (wG td ty):=by
 intro pins s σ H Q I h;refine wpAny_Call_method m.base m.few m.line PySem.F.plainAttrs_dict zcl PySem.F.type_dict_get (Bl (ho pins s σ H _ I h) λ u s1 zz=>?_);obtain⟨x,H1,I1,rx,a,ex,d,q1⟩:=zz;subst ex;obtain rfl:u=zbl a:=rx;obtain⟨t1,t2,_⟩:=Sk I1 d;refine⟨t1,t2,?_⟩;rw[m.fG];refine zcz rfl (Calls.evalArgs_plain (zc5 (Bl (he pins s1 σ H1 _ I1 q1) λ iv s2 ⟨y,H2,I2,ry,ov,g,q2⟩=>zci ?_)));exact wD hu I2 g ry λ w' s3 I3 bf=>⟨_,H2,I3,bf,q2⟩
def fI (hu:X.A.units+1<cLine)(ho:PE X o td)(he:PE X e ty)(hf:PE X f tx)(m:M2 X o "get" apos e f ad):PE X (.Call (.Attribute o "get" apos) [e,f] [] ad) (wH td ty tx):=by
 intro pins s σ H Q I h;refine wpAny_Call_method m.base m.few m.line PySem.F.plainAttrs_dict zcl PySem.F.type_dict_get (Bl (ho pins s σ H _ I h) λ u s1 zz=>?_);obtain⟨x,H1,I1,rx,a,ex,d,q1⟩:=zz;subst ex;obtain rfl:u=zbl a:=rx;obtain⟨t1,t2,_⟩:=Sk I1 d;refine⟨t1,t2,?_⟩;rw[m.fG];refine zcz rfl (Calls.evalArgs_plain (zc5 (Bl (he pins s1 σ H1 _ I1 q1) λ iv s2 ⟨y,H2,I2,ry,q2⟩ =>
  zc5 (Bl (hf pins s2 σ H2 _ I2 q2) λ fv s3 ⟨z,H3,I3,rz,ov,g,q3⟩=>zci ?_))))
 exact wF hu I3 g ry rz λ w' s4 I4 bf=>⟨_,H3,I4,bf,q3⟩
end
abbrev Y6 (y:Str×NameKind):Bool:=y.2==.cell
abbrev FZ (sc outer:Scope):Bool:=
 decide (sc.kind=.function)&&(decide ((sc.names.filter Y6).length<=1)&&sc.names.all λ y=>(decide (y.2≠.cell)||decide (sc.names.lookup y.1=some .cell))&&(decide (y.2≠.free)||decide (outer.names.lookup y.1=some .cell)||decide (outer.names.lookup y.1=some .free))&&(decide (y.2≠.local)||decide (sc.names.lookup y.1=some .local)))
abbrev HM (names:List (Str×NameKind)):Option Str:=(names.find? Y6).map (·.1)
abbrev Y7 (C:Addr)(names:List (Str×NameKind))(cs:List (Str×Addr)):List (Str×Addr):=match HM names with
 |some x=>(x,C+1)::cs
 |none=>cs
def Um (h:HM names=some x):(x,.cell)∈names:=by
 unfold HM at h;obtain⟨y,h1,rfl⟩:=zbp.mp h;have h2:=List.find?_some h1;have e:y.2=.cell:=by unfold Y6 at h2;simpa using h2
 have:=List.mem_of_find?_eq_some h1;rw[<-e];exact this
def wI (h:(names.filter Y6).length<=1)(hx:(x,.cell)∈names):HM names=some x:=by
 induction names with
 |nil=>cases hx
 |cons y r ih =>
  unfold HM;cases e:Y6 y with
  |true =>
   rw[zcv e,zaa] at h;rw[List.find?_cons_of_pos e];rcases zab.mp hx with rfl|hx
   ·rfl
   ·have:(x,NameKind.cell)∈r.filter Y6:=zbc.mpr ⟨hx,rfl⟩;rw[List.eq_nil_of_length_eq_zero (l:=r.filter Y6) (by omega)] at this;cases this
  |false =>
   rw[zcw (by rw[e];exact zaw)] at h;rw[List.find?_cons_of_neg (by rw[e];exact zaw)];rcases zab.mp hx with rfl|hx
   ·cases e
   ·exact ih h hx
def WM:∀ {names:List (Str×NameKind)}{n:Nat}{acc:List (Str×Addr)},(names.filter Y6).length<=1->cellsFrom n names acc=match HM names with | some x=>(x,n)::acc | none=>acc
 |[],_,_,_=>rfl
 |(x,k)::r,n,acc,h=>by
  unfold cellsFrom HM;cases e:Y6 (x,k) with
  |true =>
   rw[zcv e,zaa] at h;rw[List.find?_cons_of_pos e,if_pos (show (k==NameKind.cell)=true from e),WM (by omega)];cases q:HM r with
   |none=>rfl
   |some y =>
    have:(y,NameKind.cell)∈r.filter Y6:=zbc.mpr ⟨Um q,rfl⟩;rw[List.eq_nil_of_length_eq_zero (l:=r.filter Y6) (by omega)] at this;cases this
  |false =>
   have e':¬ Y6 (x,k)=true:=by rw[e];exact zaw
   rw[zcw e'] at h;rw[List.find?_cons_of_neg e',if_neg (show ¬ (k==NameKind.cell)=true from e'),WM h];rfl
abbrev Nh (N NB:List Str)(sc:Scope)(μ:List (Option Nat)):Bool:=
 decide (NB.length=μ.length)&&(NB.zip μ).all λ p=>match p.2 with
  |none=>true
  |some i=>decide (N[i]?=some p.1)&&decide (sc.names.lookup p.1=some .free)
abbrev FH (μ:List (Option Nat))(σ:St):St:=μ.map λ o=>o.bind λ i=>(σ[i]?).join
abbrev Gr (cells:List (Str×Addr)):List (Str×NameKind)->List (Str×Addr)->List (Str×Addr)
 |[],cs=>cs
 |(n,k)::r,cs=>Gr cells r (if (k==.free)=true then (n,(cells.lookup n).getD 0)::cs else cs)
def Jq (h:∀y∈scope.names,y.2=.free->∃c,env.cells.lookup y.1=some c):closureFor scope env=pure (Gr env.cells scope.names []):=by
 unfold closureFor;have key:∀(names:List (Str×NameKind)) (cs:List (Str×Addr)),(∀y∈names,y.2=.free->∃c,env.cells.lookup y.1=some c)->
  (forIn names cs λ(x:Str×NameKind) r=>match x with
   |(name,kind)=>if (kind==zd3)=true then do
    let __do_lift <-cellOf env name
    pure (zdh ((name,__do_lift)::r))
    else pure (zdh r):Sem _)=pure (Gr env.cells names cs):=by
  intro names;induction names with
  |nil=>intro cs _;rfl
  |cons y r ih =>
   intro cs hy;obtain⟨n,k⟩:=y;rw[List.forIn_cons];by_cases hk:k=.free
   ·subst hk;obtain⟨c,hc⟩:=hy (n,.free) za3 rfl;have e:cellOf env n=pure c:=by unfold cellOf;rw[show env.cells.lookup n=some c from hc]
    simp only[e,beq_self_eq_true,if_true,pure_bind];rw[ih _ λ z hz=>hy z (za4 _ hz)];simp only[Gr,beq_self_eq_true,if_true];rw[show env.cells.lookup n=some c from hc];rfl
   ·have hb:(k==zd3)=false:=by simpa using hk
    simp only[hb,zaz,if_false,pure_bind];rw[ih _ λ z hz=>hy z (za4 _ hz)];simp only[Gr,hb,zaz,if_false]
 have q:=key scope.names [] h;simp only[bind_pure];exact q
def Uo:∀ {names:List (Str×NameKind)}{cs:List (Str×Addr)}{x:Str}{c:Addr},(x,c)∈Gr cells names cs->(x,c)∈cs\/((x,.free)∈names/\c=(cells.lookup x).getD 0)
 |[],cs,x,c,h=>.inl h
 |(n,k)::r,cs,x,c,h=>by
  rcases Uo (names:=r) h with q|⟨q,e⟩
  ·by_cases hk:k=.free
   ·subst hk;simp only[beq_self_eq_true,if_true] at q;rcases zab.mp q with z|z
    ·cases z;exact .inr ⟨za3,rfl⟩
    ·exact .inl z
   ·have hb:(k==zd3)=false:=by simpa using hk
    simp only[hb,zaz,if_false] at q;exact .inl q
  ·exact .inr ⟨za4 _ q,e⟩
def Og:∀ {names:List (Str×NameKind)}{cs:List (Str×Addr)}{p:Str×Addr},p∈cs->p∈Gr cells names cs
 |[],_,_,h=>h
 |(n,k)::r,cs,p,h=>by
  show p∈Gr cells r _;refine Og ?_;by_cases hk:(k==zd3)=true
  ·rw[if_pos hk];exact za4 _ h
  ·rw[if_neg hk];exact h
def Oh:∀ {names:List (Str×NameKind)}{cs:List (Str×Addr)}{x:Str},(x,.free)∈names->∃c,(x,c)∈Gr cells names cs
 |(n,k)::r,cs,x,h=>by
  rcases zab.mp h with z|z
  ·cases z;refine⟨(cells.lookup n).getD 0,?_⟩;show _∈Gr cells r (if (zd3==zd3)=true then _ else _);exact Og (by rw[if_pos (beq_self_eq_true _)];exact za3)
  ·exact Oh (names:=r) z
def DQ:∀ {l:List (Str×Addr)},(x,c)∈l->∃c',l.lookup x=some c'
 |(y,d)::r,h=>by
  rw[zc8];by_cases e:(x==y)=true
  ·rw[e];exact⟨d,rfl⟩
  ·rw[Bool.eq_false_iff.mpr e];rcases zab.mp h with z|z
   ·cases z;exact absurd (beq_self_eq_true x) e
   ·exact DQ z
def Kl (h:(relabel scope env).names.lookup x=some k):∃k',scope.names.lookup x=some k'/\(k=k'\/(k'=.free/\k=.cell)):=by
 unfold relabel at h;dsimp only at h;revert h;induction scope.names with
 |nil=>intro h;cases h
 |cons y r ih =>
  obtain⟨n,k'⟩:=y;intro h;rw[za6,zc8] at h;rw[zc8];by_cases hc:(k'==zd3&&env.scope.kind==.function&&env.kindOf n==some .cell)=true
  ·dsimp only at h;rw[if_pos hc] at h;dsimp only at h;cases e:x==n with
   |true =>
    rw[e] at h;have hf:k'=.free:=by
     have:=hc;simp only[zb6] at this;simpa using this.1.1
    exact⟨k',rfl,.inr ⟨hf,(zb0 h).symm⟩⟩
   |false=>rw[e] at h;exact ih h
  ·dsimp only at h;rw[if_neg hc] at h;dsimp only at h;cases e:x==n with
   |true=>rw[e] at h;exact⟨k',rfl,.inl (zb0 h).symm⟩
   |false=>rw[e] at h;exact ih h
def lookup_mem {α:Type}{k}:∀ {l:List (Str×α)},l.lookup x=some k->(x,k)∈l
 |(y,d)::r,h=>by
  rw[zc8] at h;cases e:x==y with
  |true =>
   rw[e] at h;cases h;have:x=y:=by simpa using e
   subst this;exact za3
  |false=>rw[e] at h;exact za4 _ (lookup_mem h)
abbrev blockOf (X:Cx)(s:Shared)(H:Hp)(scope:Scope)(C:Addr)(NB:List Str)(ex:List Addr):Cx:=
 {X with N:=NB,s₀:=s,H₀:=H,env:=compEnvC scope (Y7 C scope.names (Gr X.env.cells scope.names [])) C X.env,outer:=X.stack,stack:=X.stack,ex:=ex,fn:=λ y=>HM scope.names==some y,pn:=[],xe:=λ _ _=>False}
section
variable {s4:Shared}{C:Addr}
def LM (h:FZ scope X.env.scope=true):scope.kind=.function:=by
 unfold FZ at h;simp only[zb6,decide_eq_true_eq] at h;exact h.1
def Up (h:FZ sc outer=true):(sc.names.filter Y6).length<=1:=by
 unfold FZ at h;rw[zb6,zb6,decide_eq_true_eq,decide_eq_true_eq] at h;exact h.2.1
def Km (h:FZ sc outer=true)(hy:y∈sc.names):(y.2=.cell->sc.names.lookup y.1=some .cell)/\(y.2=.free->outer.names.lookup y.1=some .cell\/outer.names.lookup y.1=some .free)/\(y.2=.local->sc.names.lookup y.1=some .local):=by
 unfold FZ at h;simp only[zb6,decide_eq_true_eq,List.all_eq_true,Bool.or_eq_true] at h;obtain⟨⟨h1,h2⟩,h3⟩:=h.2.2 y hy;exact⟨λ e=>h1.elim (λ q=>absurd e q) id,λ e=>by
  rcases h2 with (q|q)|q
  ·exact absurd e q
  ·exact .inl q
  ·exact .inr q,λ e=>h3.elim (λ q=>absurd e q) id⟩
def JR (I:Inv X pins σ H s)(h:FZ scope X.env.scope=true)(hx:(x,.free)∈scope.names):∃c,X.env.cells.lookup x=some c:=I.ok.has x ((Km h hx).2.1 rfl)
def Oi (I:Inv X pins σ H s)(h:FZ scope X.env.scope=true)(e:(Gr X.env.cells scope.names []).lookup x=some c):X.env.cells.lookup x=some c:=by
 rcases Uo (lookup_mem e) with q|⟨q,r⟩
 ·cases q
 ·obtain⟨c',e'⟩:=JR I h q;rw[e'] at r;rw[e',r];rfl
def Dt (I:Inv X pins σ H s)(h:FZ scope X.env.scope=true)(e:(Y7 C scope.names (Gr X.env.cells scope.names [])).lookup x=some c):(HM scope.names=some x/\c=C+1)\/X.env.cells.lookup x=some c:=by
 unfold Y7 at e;cases q:HM scope.names with
 |none=>rw[q] at e;exact .inr (Oi I h e)
 |some y =>
  rw[q] at e;dsimp only at e;rw[zc8] at e;cases b:x==y with
  |true=>rw[b] at e;cases e;exact .inl ⟨by rw[eq_of_beq b],rfl⟩
  |false=>rw[b] at e;exact .inr (Oi I h e)
def Oj (h:FZ scope env.scope=true)(hk:(relabel scope env).names.lookup x=some k)(hc:k=.cell\/k=.free):(x,.free)∈scope.names\/HM scope.names=some x:=by
 obtain⟨k',e,q⟩:=Kl hk;have m:=lookup_mem e;rcases q with q|⟨q,_⟩
 ·subst q;rcases hc with z|z
  ·subst z;exact .inr (wI (Up h) m)
  ·subst z;exact .inl m
 ·subst q;exact .inl m
def oH (h:Nh X.N NB scope μ=true):NB.length=μ.length/\∀(j i:Nat),μ[j]?=some (some i)->∃x,NB[j]?=some x/\X.N[i]?=some x/\scope.names.lookup x=some .free:=by
 unfold Nh at h;simp only[zb6,decide_eq_true_eq,List.all_eq_true] at h;refine⟨h.1,λ j i e=>?_⟩;have hj:j<NB.length:=by rw[h.1];exact (zam.mp e).1
 have m:(NB[j],some i)∈NB.zip μ:=by
  refine List.mem_iff_getElem?.mpr ⟨j,?_⟩;rw[List.getElem?_zip_eq_some];exact⟨za7 hj,e⟩
 have q:=h.2 _ m;dsimp only at q;simp only[zb6,decide_eq_true_eq] at q;exact⟨NB[j],za7 hj,q.1,q.2⟩
def Uq (I:Inv X pins σ H s)(av:FZ scope X.env.scope=true)(aM:Nh X.N NB scope μ=true)(iz:∀b∈fp,Nf X pins H b)(na:∀b∈fp,∃o,s.heap.get? b=some o)(hC:s.heap.objs.size<=C)(ns:h4.Ns C λ _=>none)(k:∀b o,s.heap.get? b=some o->h4.get? b=some o)(jv:∀x,HM scope.names=some x->h4.IsCell (C+1) none):
 Inv (blockOf X s H scope C NB fp) [] (FH μ σ) H {s with heap:=h4,toks:=t4}:=by
 obtain⟨hlen,aM⟩:=oH aM;have va:∀b o,s.heap.get? b=some o->b≠C:=λ b o e=>zax (zaq (zak e) hC);have vb:∀x c,X.env.cells.lookup x=some c->c≠C+1:=λ x c e z=>by
  obtain⟨v,o,ho,_⟩:=I.cell x c e;exact absurd (zaq (zak ho) hC) (by rw[z];exact Nat.not_lt.mpr (Nat.le_succ C))
 have nc:∀x c,X.env.cells.lookup x=some c->c≠C:=λ x c e=>by
  obtain⟨v,o,ho,_⟩:=I.cell x c e;exact va c o ho
 refine⟨⟨I.ok.mod,(show scope.kind=_ from LM av),I.ok.glob,I.ok.blt,hC,λ x y c h1 h2=>?_,λ x hx=>?_,λ x c hf e=>?_,I.ok.hd,I.ok.frames,.inl rfl,λ b hb=>?_,I.bs,zc4 I.ok.sM I.sz,λ b o e hb=>?_,λ b hb hz=>?_,I.stack,I.XX⟩,
  rfl,I.bare,Un.kept k,⟨_,ns,λ j x v e1 e2 e3=>?_⟩,λ x c e=>?_,I.Aw.fresh hC,λ x c e=>?_,λ p hp=>(by cases hp),I.Aw.kept k,?_⟩
 ·rcases Dt I av h1 with ⟨a1,a2⟩|a<;>rcases Dt I av h2 with ⟨b1,b2⟩|b
  ·rw[a1] at b1;exact zb0 b1
  ·exact absurd a2 (vb y c b)
  ·exact absurd b2 (vb x c a)
  ·exact I.ok.inj x y c a b
 ·have q:(x,zd3)∈scope.names\/HM scope.names=some x:=by
   rcases hx with hx|hx
   ·exact Oj av hx (.inl rfl)
   ·exact Oj av hx (.inr rfl)
  rcases q with q|q
  ·obtain⟨c,m⟩:=Oh (cells:=X.env.cells) (cs:=[]) q;refine DQ (c:=c) ?_;show (x,c)∈Y7 C scope.names _;unfold Y7;split
   ·exact za4 _ m
   ·exact m
  ·refine DQ (c:=C+1) ?_;show (x,C+1)∈Y7 C scope.names _;unfold Y7;rw[q];exact za3
 ·have hq:HM scope.names=some x:=by simpa [blockOf] using hf
  have e':(Y7 C scope.names (Gr X.env.cells scope.names [])).lookup x=some c:=e;unfold Y7 at e';rw[hq] at e';dsimp only at e';rw[zc8,beq_self_eq_true] at e';cases e';exact Nat.le_succ_of_le hC
 ·obtain⟨o,ho⟩:=na b hb;refine⟨va b o ho,λ x c e z=>?_⟩;rcases Dt I av e with ⟨_,a2⟩|e
  ·exact absurd (zaq (zak ho) hC) (by rw[<-z,a2];exact Nat.not_lt.mpr (Nat.le_succ C))
  ·exact (iz b hb).2.2.2.2.1 x c e z
 ·rcases (iz b hb).2.2.2.1 with z|z
  ·exact I.ok.dX b o e z
  ·exact absurd (zaq (zak (I.ok.bs b o e).1) z) (Nat.lt_irrefl _)
 ·rcases zab.mp (I.Wr b hz) with e|e
  ·exact (iz b hb).2.1 e
  ·exact (iz b hb).2.2.1 e
 ·have jw:(μ[j]?).map (λ o=>o.bind λ i=>(σ[i]?).join)=some (some v):=by
   rw[<-zap];exact e2
  cases q:μ[j]? with
  |none=>rw[q] at jw;cases jw
  |some o =>
   rw[q] at jw;cases o with
   |none=>cases jw
   |some i =>
    have e4:(σ[i]?).join=some v:=by simpa using jw
    have e5:σ[i]?=some (some v):=by
     cases z:σ[i]? with
     |none=>rw[z] at e4;cases e4
     |some w=>rw[z] at e4;simp at e4;rw[e4]
    obtain⟨x',n1,n2,n3⟩:=aM j i q;have ex:x'=x:=zb0 (n1.symm.trans e1);subst ex;have m:=lookup_mem n3;have ov:=(Km av m).2.1 rfl;obtain⟨mm,hn,hl⟩:=I.loc;obtain⟨u,r,l⟩:=hl i x' v n2 e5 (ov.elim (λ z=>.inr (.inl z)) λ z=>.inr (.inr z));refine⟨u,r,.inr ⟨?_,?_⟩⟩
    ·rcases e3 with z|z|z
     ·obtain⟨k',z1,z2⟩:=Kl (k:=.local) z;rw[n3] at z1;cases z1;rcases z2 with z2|⟨_,z2⟩<;>cases z2
     ·exact .inl z
     ·exact .inr z
    ·rcases l with ⟨l,_⟩|⟨_,c,l1,l2⟩
     ·rcases ov with z|z<;>(rw[show X.env.kindOf x'=_ from z] at l;cases l)
     ·obtain⟨c',m'⟩:=Oh (cells:=X.env.cells) (cs:=[]) m;obtain⟨c'',l3⟩:=DQ m';have l4:=Oi I av l3;rw[l1] at l4;cases l4;have l5:(Y7 C scope.names (Gr X.env.cells scope.names [])).lookup x'=some c:=by
       unfold Y7;cases q9:HM scope.names with
       |none=>exact l3
       |some y =>
        have ne:(x'==y)=false:=by
         cases b:x'==y with
         |false=>rfl
         |true =>
          have z:=(Km av (Um q9)).1 rfl;rw[<-eq_of_beq b] at z;rw[show scope.names.lookup x'=some .cell from z] at n3;cases n3
        dsimp only;rw[zc8,ne];exact l3
      refine⟨c,l5,?_⟩;obtain⟨o,ho,hd⟩:=l2;exact⟨o,k _ _ ho,hd⟩
 ·rcases Dt I av e with ⟨a1,rfl⟩|e
  ·exact⟨_,jv x a1⟩
  ·obtain⟨v,o,ho,hd⟩:=I.cell x c e;exact⟨v,o,k _ _ ho,hd⟩
 ·rcases Dt I av e with ⟨a1,rfl⟩|e
  ·exact I.Aw.fresh (Nat.le_succ_of_le hC)
  ·exact I.FX x c e
 ·show (FH μ σ).length=NB.length;unfold FH;rw[za2,hlen]
def Hh.adopt (x:Hh P w H h)(hn:H a=none)(new:Br P w (upd H a o) h a o):Hh P w (upd H a o) h:=λ b u e=>by
 by_cases hb:b=a
 ·subst hb;rw[Am] at e;cases e;exact new
 ·rw[Ag hb] at e;exact (x b u e).Nc (λ c v _ q=>q) (λ c q=>by rw[Ag (AQ q hn)];exact q) λ c xs q=>by rw[Ag (AQ q hn)];exact q
def Zp (I:Inv X pins σ H s)(iz:∀b∈fp,Nf X pins H b)(J:Inv (blockOf X s H scope C NB fp) pl σ' H' s')(hC:s.heap.objs.size<=C)(hD:s.heap.objs.size<=D)(d0:D≠C)(eD:s'.heap.get? D=some {cls:=.type "list",data:=.seq aa.toArray n})(nD:H' D=none)(r:Vals ys aa)(hz:ys.length<=sizeLine)(sb:zd8 C s'.heap h'):Inv X pins σ (upd H' D (.lst ys)) {s' with heap:=h' }:=by
 have gl:∀b o,s.heap.get? b=some o->b≠C:=λ b o e=>zax (zaq (zak e) hC);have qd:∀b o,s.heap.get? b=some o->b≠D:=λ b o e=>zax (zaq (zak e) hD);have freshD:H D=none:=I.Aw.fresh hD;have nC:H' C=none:=J.free;have u:Un (dP X.stack) fp H H' s.heap s'.heap:=J.base;have gi:Hh X.prog X.w H' h':=λ b ob e=>(J.Aw b ob e).Nc (λ c v hc q=>(sb.2 c (by
  intro z;subst z;rcases hc with rfl|hc
  ·rw[nC] at e;cases e
  ·rw[nC] at hc;cases hc)).trans q) (λ _ q=>q) λ _ _ q=>q
 refine I.aah (ch:=fp) J.os ⟨λ b o e n hb hx=>?_,λ b o e n hb hx=>?_,λ b o e n hx=>?_,λ b o e hx=>?_,λ b xs e=>?_,λ b o u' e=>?_,λ b ps e=>?_⟩ (gi.adopt nD ⟨hz,aa,n,r,(sb.2 D d0).trans eD⟩) J.bare λ b hb=>?_
 ·exact (sb.2 b (gl b o e)).trans (u.keep b o e n hb hx)
 ·obtain⟨sl,q⟩:=u.slot b o e n hb hx;exact⟨sl,(sb.2 b (gl b o e)).trans q⟩
 ·rw[Ag (qd b o e)];exact u.free b o e n hx
 ·obtain⟨o',q⟩:=u.there b o e hx;exact⟨o',(sb.2 b (gl b o e)).trans q⟩
 ·rw[Ag (AQ e freshD)];exact u.Qs b xs e
 ·rw[Ag (AQ e freshD)];exact u.Nd b o u' e
 ·rw[Ag (AQ e freshD)];exact u.Qt b ps e
 ·obtain⟨_,f1,_,f3,f4,f5⟩:=iz b hb;exact⟨f3,f1,f4,f5⟩
end
def fJ (h1:(scope.names.filter Y6).length<=1)(hQ:∀h',h'.Ns s.heap.objs.size (λ _=>none)->(∀b o,s.heap.get? b=some o->h'.get? b=some o)->(∀x,HM scope.names=some x->h'.IsCell (s.heap.objs.size+1) none)->
  Q {scope:=scope,locals:=s.heap.objs.size,globals:=g,cells:=Y7 s.heap.objs.size scope.names cl,qual:=qual,func:=none,code:=outer.code,frame:=outer.frame,builtins:=outer.builtins} {s with heap:=h' }):
 wpAny M A (newFunctionEnv scope g cl [] qual none .none (some outer)) Q E s:=by
 unfold newFunctionEnv;simp only[Option.isSome_some,if_true];refine wpAny_bind (wpAny_alloc (wpAny_bind (wpAny_layCells _ (λ x k cs=>by cases e:k==NameKind.cell<;>simp[e]) _ _ _ _ ?_)));have ok:=cellsFrom_ok scope.names (s.heap.push {cls:=.type "dict",data:=.dict #[]}) 0 [] ⟨λ _ _ z=>(by cases z),.nil⟩ (zbe _);rw[WM h1] at ok ⊢;rw[Heap.size_push] at ok;rw[List.forIn_nil];refine wpAny_bind (wpAny_pure (wpAny_pure ?_));have key:=hQ (pushCells (s.heap.push {cls:=.type "dict",data:=.dict #[]}) scope.names) ((Heap.Ns.new s.heap (.type "dict")).keeps (pushCells_keeps _ _)) (λ b o e=>pushCells_keeps _ _ b o (zah _ e)) (λ x hx=>(ok.empty x (s.heap.objs.size+1) (by rw[hx];exact za3)).1);unfold Y7 at key;rw[<-Heap.size_push s.heap {cls:=.type "dict",data:=.dict #[]}] at key;exact key
def Sl (I:Nat->Shared->Prop)(turn:∀n s,I n s->wpAny (model prog w) A (pyNext it) (λ r s₁=>match r with
  |none=>R (.ok .next) s₁
  |some v=>wpAny (model prog w) A (letOwnedTupleGo target it v) (λ _ s₁'=>wpAny (model prog w) A (assign target env v) (λ _ s₂ =>
   wpAny (model prog w) A (forIn ifs true λ c r=>if r=true then do let ok <-isTrue c env (eval c env);pure (zdh ok) else pure (zdh r)) (λ ok s₃ =>
    if ok=true then wpAny (model prog w) A (eval elt env) (λ x s₄ =>
     wpAny (model prog w) A (call (.builtin "list.append") [acc,x]) (λ _ s₅=>∃m,m<n/\I m s₅) (λ _ _=>False) s₄) (λ _ _=>False) s₃
    else ∃m,m<n/\I m s₃) (λ _ _=>False) s₂) (λ _ _=>False) s₁') (λ _ _=>False) s₁) (λ _ _=>False) s)(n:Nat)(h:I n s):
 codeAny (model prog w) A (.compLoop (.ListComp elt [⟨target,iter,ifs,0⟩] scope pos) 0 it acc env) R s:=by
 refine codeAny_loop rfl I (λ n s hI=>?_) n h;show wpAny _ A ((compTurn (.ListComp elt [⟨target,iter,ifs,0⟩] scope pos) 0 it acc env).onRaise (λ x=>do noteFrame x env;theTreesLotGoes x)) _ _ s;refine wpAny_noted ?_;rw[compTurn_list];refine wpAny_bind (wpAny_standAt (wpAny_bind (wpAny_mono (turn n s hI) (λ r s₁ h₁=>?_) λ _ _ h'=>h'.elim)));cases r with
 |none=>exact wpAny_pure h₁
 |some v =>
  refine wpAny_bind (wpAny_mono h₁ (λ _ s₁' h₁'=>?_) λ _ _ h'=>h'.elim);refine wpAny_bind (wpAny_mono h₁' (λ _ s₂ h₂=>wpAny_bind (wpAny_mono h₂ (λ ok s₃ h₃=>?_) λ _ _ h'=>h'.elim)) λ _ _ h'=>h'.elim);cases ok with
  |false=>exact wpAny_pure ⟨rfl,h₃⟩
  |true =>
   exact wpAny_bind (wpAny_bind (wpAny_mono h₃ (λ x s₄ h₄=>wpAny_bind (wpAny_mono h₄ (λ _ s₅ h₅=>wpAny_pure (wpAny_pure ⟨rfl,h₅⟩)) λ _ _ h'=>h'.elim)) λ _ _ h'=>h'.elim))
abbrev zU (X:Cx)(cs:List Expr)(t:TT):Prop:=
 ∀(pins:List (Addr×Obj)) (s:Shared) (σ:St) (H:Hp) (Q:Bool->Hp->Prop),Inv X pins σ H s->t σ H Q->
  wpAny (model X.prog X.w) X.A (forIn cs true λ c r=>if r=true then do let ok <-isTrue c X.env (eval c X.env);pure (zdh ok) else pure (zdh r)) (TP X pins σ Q) X.xe s
abbrev acP:TT:=λ _ H Q=>Q true H
def oI:zU X [] acP:=λ _ _ _ H _ I h=>wpAny_tests_nil ⟨H,I,h⟩
def oJ (h:PT X c t):zU X [c] t:=λ pins s σ H Q I q=>wpAny_tests_one (h pins s σ H Q I q)
abbrev LN (μ:List (Option Nat))(g:TG):Prop:=∀σ x H Q,g x (FH μ σ) H Q->g x (FH μ σ) H λ σ' H'=>Q σ' H'/\∀(j:Nat) v,(FH μ σ)[j]?=some (some v)->σ'[j]?=some (some v)
def oK (h:μ[i]?=some none):LN μ (QW i):=λ σ x H Q q=>by
 refine⟨q,λ j v e=>?_⟩;have ae:j≠i:=λ z=>by
  subst z;unfold FH at e;rw[zap,h] at e;cases e
 rw[zbm (zbn ae)];exact e
abbrev cBy (J:It)(H1:Hp)(Q:VK)(st:V->Hp->(St->Hp->Prop)->Prop)(tc:TT)(te:TE):Prop:=
 ∃W:Nat->Nat->List V->Hp->Prop,(∃m,W 0 m [] H1)/\∀i m ys H2,W i m ys H2->
  (J.stop i H2/\∀D,H2 D=none->Q (.ref D) (upd H2 D (.lst ys))) \/
  (J.go i H2/\ys.length<sizeLine/\∃N:List V->Hp->Prop,(∀aG H',N aG H'->∃m',m'<m/\W (i+1) m' aG H')/\∀x H3,J.mQ i H2 x H3->st x H3 λ σ4 H4=>tc σ4 H4 λ b H5=>if b=true then te σ4 H5 λ y H6=>N (ys++[y]) H6 else N ys H5)
abbrev R9 (wi:TI)(μ:List (Option Nat))(g:TG)(tc:Shared->Hp->Addr->List Addr->TT)(te:Shared->Hp->Addr->List Addr->TE):TE:=λ σ H Q=>wi σ H λ J H1=>∀s C ex,cBy J H1 Q (λ x H K=>g x (FH μ σ) H K) (tc s H1 C ex) (te s H1 C ex)
section
variable {H2:Hp}{s2:Shared}{elt:Expr}{ifs:List Expr}{g:TG}{tc:Shared->Hp->Addr->List Addr->TT}{te:Shared->Hp->Addr->List Addr->TE}{it:Addr}{tn:Nat->Heap->Prop}{J:It}{Q:VK}
def Ra (hc:X.calm=true)(I2:Inv X pins σ H2 s2)(T:Turn X.prog X.w X.K tg J fp it tn)(dr:tn 0 s2.heap)(f2:∀b∈fp,Nf X pins H2 b)(av:FZ scope X.env.scope=true)(aM:Nh X.N NB scope μ=true)(jx:LN μ g)(hb:∀(s:Shared) (H:Hp) (C:Addr) (ex:List Addr),PG (blockOf X s H scope C NB ex) tg g/\zU (blockOf X s H scope C NB ex) ifs (tc s H C ex)/\PE (blockOf X s H scope C NB ex) elt (te s H C ex))(q:∀C,cBy J H2 Q (λ x H K=>g x (FH μ σ) H K) (tc s2 H2 C fp) (te s2 H2 C fp)){RR:Value->Addr->Result->Shared->Prop}(fin:∀(D C:Addr) (s':Shared) (H':Hp) (ys:List V) (m:Str->Option Value),s2.heap.objs.size<=D->s2.heap.objs.size<=C->D≠C->s'.heap.Ns C m->H' C=none->(∀h',zd8 C s'.heap h'->Inv X pins σ (upd H' D (.lst ys)) {s' with heap:=h' })->Q (.ref D) (upd H' D (.lst ys))->RR (.ref D) C (.ok .next) s'):
 wpAny (model X.prog X.w) X.A (newList []) (λ acc s₃=>wpAny (model X.prog X.w) X.A (newFunctionEnv scope X.env.globals (Gr X.env.cells scope.names []) [] X.env.qual none .none (some X.env)) (λ jy s₄ =>
  codeAny (model X.prog X.w) X.A (.compStart (.ListComp elt [⟨tg,iter,ifs,0⟩] scope pos) 0 (.ref it) acc {jy with scope:=relabel scope X.env}) (RR acc jy.locals) s₄) E s₃) E s2:=by
 refine wpAny_newObj_type (fJ (Up av) λ h₁ hns₁ hk₁ hcl₁=>?_);dsimp only at hns₁ hk₁ hcl₁ ⊢;generalize qe:s2.heap.push {cls:=.type "list",dict:=none,data:=.seq ([]:List Value).toArray}=ng at hns₁ hk₁ hcl₁ ⊢;have hC:ng.objs.size=s2.heap.objs.size+1:=by rw[<-qe,Heap.size_push]
 have d0:s2.heap.objs.size≠ng.objs.size:=by rw[hC];exact zax (Nat.lt_succ_self _)
 have gm:s2.heap.objs.size<=ng.objs.size:=by rw[hC];exact Nat.le_succ _
 have old:∀b o,s2.heap.get? b=some o->h₁.get? b=some o:=λ b o e=>hk₁ b o (qe▸zah _ e);have eD:h₁.get? s2.heap.objs.size=some {cls:=.type "list",data:=.seq ([]:List Value).toArray}:=hk₁ _ _ (qe▸zat _ rfl);have na:∀b∈fp,∃o,s2.heap.get? b=some o:=λ b hb=>let ⟨o,e,_⟩:=T.obj _ _ dr b hb;⟨o,e⟩;have qg:∀b∈fp,b≠s2.heap.objs.size:=λ b hb=>let ⟨o,e⟩:=na b hb;zax (zak e);generalize vc:s2.heap.objs.size=D at gm d0 eD qg ⊢;generalize hCC:ng.objs.size=C at *;have bE:s2.heap.objs.size<=D:=by rw[vc];exact zaf _
 have cm:s2.heap.objs.size<=C:=by rw[vc];exact gm
 have I4:Inv (blockOf X s2 H2 scope C NB fp) [] (FH μ σ) H2 {s2 with heap:=h₁}:=Uq (t4:=s2.toks) I2 av aM f2 na cm hns₁ old hcl₁;have bt:∀ {H':Hp} {pl:List (Addr×Obj)},(∀b∈fp,H' b=none)->(∀p∈pl,p.1=D)->∀b∈fp,Nf (blockOf X s2 H2 scope C NB fp) pl H' b:=fun {H' pl} hn hp b hb=>by
  refine⟨hn b hb,(I4.ok.exf b hb).1,I4.ok.dY b hb,.inl hb,λ x c e z=>(I4.ok.exf b hb).2 x c e z,λ p qh z=>?_⟩;have qi:p∈pl:=by simpa [blockOf] using qh
  exact qg b hb (z▸hp p qi)
 have xm:D∉(blockOf X s2 H2 scope C NB fp).fs:=λ z=>by
  obtain⟨_,o,ho,_⟩:=I4.ok.LH.mem z;exact absurd (zak ho) (Nat.not_lt.mpr bE)
 obtain⟨W,⟨m0,w0⟩,turn⟩:=q C;have loop:∀s₃:Shared,s₃={s2 with heap:=h₁} ->
  codeAny (model X.prog X.w) X.A (.compLoop (.ListComp elt [⟨tg,iter,ifs,0⟩] scope pos) 0 (.ref it) (.ref D) (compEnvC scope (Y7 C scope.names (Gr X.env.cells scope.names [])) C X.env)) (RR (.ref D) C) s₃:=by
  rintro s₃ rfl;refine Sl (λ n s'=>∃i ys aa k H',Inv (blockOf X s2 H2 scope C NB fp) [(D,{cls:=.type "list",data:=.seq aa k})] (FH μ σ) H' s'/\tn i s'.heap/\(∀b∈fp,H' b=none)/\Vals ys aa.toList/\ys.length<=sizeLine/\W i n ys H') ?_ m0
   ⟨0,[],#[],0,H2,I4.Kg λ p hp=>?_,T.keep _ _ _ dr λ b hb o e=>old b o e,λ b hb=>(f2 b hb).1,.nil,zbe _,w0⟩
  rotate_left
  ·have e:=za9.mp hp;subst e;exact⟨eD,I2.Aw.fresh bE,d0,xm,λ v=>by simp⟩
  rintro n s3 ⟨i,ys,aa,k,H3,I3,ji,jj,rv,hz,w3⟩;rcases turn i n ys H3 w3 with ⟨stop,qn⟩|⟨go,ag,N,hN,step⟩
  ·refine wpAny_mono (T.done (blockOf X s2 H2 scope C NB fp) rfl rfl rfl hc i _ s3 _ H3 (λ _ _=>False) I3 (bt jj (by simp)) ji stop) (λ r s4 zz=>?_) λ _ _ e=>e;obtain⟨hr,nh⟩:=zz;subst hr;obtain⟨p1,p2,p3,p4,p5⟩:=nh.pin _ (zac _ za3);obtain⟨m,hn,_⟩:=id nh.loc;have e1:s4.heap.get? D=some {cls:=.type "list",data:=.seq aa.toList.toArray k}:=by simpa using p1
   exact fin D C s4 H3 ys m bE cm d0 hn nh.free (λ h' sb=>Zp I2 f2 nh cm bE d0 e1 p2 rv hz sb) (qn D p2)
  ·refine wpAny_mono (T.item (blockOf X s2 H2 scope C NB fp) rfl rfl rfl hc i _ s3 _ H3 (λ _ _=>False) I3 (bt jj (by simp)) ji go) (λ r s4 zz=>?_) λ _ _ e=>e;obtain⟨u,hr,h4⟩:=zz;subst hr;refine Bl h4 λ _ s5 zz=>?_;obtain⟨x,H5,I5,r5,y5,gc,pf⟩:=zz;have ph:=I5.pinned (bt pf (by simp)) (T.obj _ _ gc);have bd:=jx σ x H5 _ (step x H5 y5);obtain⟨hg,ht,he⟩:=hb s2 H2 C fp;refine Bl (hg _ s5 _ H5 x u _ ph r5 bd) λ _ s6 zz=>?_;obtain⟨σ6,H6,I6,q6,k6⟩:=zz;refine Bl (ht _ s6 σ6 H6 _ I6 q6) λ ok s7 zz=>?_;obtain⟨H7,I7,q7⟩:=zz;have again:∀ {H8:Hp} {s8:Shared} {its':Array Value} {k':Nat} {aG:List V},Inv (blockOf X s2 H2 scope C NB fp) ([(D,{cls:=.type "list",data:=.seq its' k' })]++JO fp s5.heap) σ6 H8 s8->Vals aG its'.toList->aG.length<=sizeLine->(∃m,m<n/\W (i+1) m aG H8)->
    ∃m,m<n/\∃i ys aa k H',Inv (blockOf X s2 H2 scope C NB fp) [(D,{cls:=.type "list",data:=.seq aa k})] (FH μ σ) H' s8/\tn i s8.heap/\(∀b∈fp,H' b=none)/\Vals ys aa.toList/\ys.length<=sizeLine/\W i m ys H':=fun {H8 s8 its' k' aG} I8 d4 xn n8=>by
    obtain⟨m',hm,w8⟩:=n8;refine⟨m',hm,i+1,aG,its',k',H8,(I8.Kh.weak ?_ k6),T.keep _ _ _ gc λ b hb o e=>(I8.pin (b,o) (zac _ (zac _ (Gn hb e)))).1,λ b hb=>?_,d4,xn,w8⟩
    ·rw[I8.len];exact I4.len
    ·obtain⟨o,e,d⟩:=T.obj _ _ gc b hb;exact (I8.pin (b,o) (zac _ (zac _ (Gn hb e)))).2.1
   cases ok with
   |false =>
    simp only[zaz,if_false] at q7 ⊢;exact again I7 rv hz (hN _ _ q7)
   |true =>
    simp only[if_true] at q7 ⊢;refine Bl (he _ s7 σ6 H7 _ I7 q7) λ uy s8 zz=>?_;obtain⟨y,H8,I8,r8,q8⟩:=zz;obtain⟨p1,p2,p3,p4,p5⟩:=I8.pin (D,_) (zac _ (zb5 _ za3));have e1:s8.heap.get? D=some {cls:=.type "list",data:=.seq aa k}:=p1;have hsz:aa.size=ys.length:=by rw[<-zdj];exact rv.length.symm
    refine call_meets F.slot_list_append ⟨_,e1,rfl⟩ F.entry_list_append (F.args_list_append_2 _ _) (PySem.list_append D aa k uy (by rw[hsz];omega)) ⟨e1,?_⟩;have qj:=PySem.IsL.update e1 (·.push uy);have Iu:Inv (blockOf X s2 H2 scope C NB fp) (JO fp s5.heap) σ6 H8 s8:=I8.Kg λ p hp=>I8.pin p (zac _ (zac _ hp));have It:=Iu.turned (it:=D) (h':=s8.heap.update D (Obj.mapSeq (·.push uy))) (t':=s8.toks) (λ b o hb e=>(Heap.get?_update_other _ _ (zbn hb)).trans e) p2 p3 (.inr bE) (λ x c e z=>?_) (λ p hp z=>?_)
    ·refine again (its':=aa.push uy) (k':=if (aa.push uy).size==aa.size then k else k+1) (It.Kg λ p hp=>?_) (by simpa using rv.append (.cons r8 .nil)) (by rw[zal,zbd];omega) (hN _ _ q8);rcases zao.mp hp with hp|hp
     ·have e:=za9.mp hp;subst e;exact⟨qj,p2,p3,p4,λ v=>by simp⟩
     ·exact It.pin p (zac _ hp)
    ·rcases Dt I2 av e with ⟨_,a2⟩|e'
     ·exact absurd (a2.symm.trans z) (Nat.ne_of_gt (Nat.lt_succ_of_le gm))
     ·obtain⟨v,o,ho,_⟩:=I2.cell x c e';exact absurd (zak ho) (by rw[z];exact Nat.not_lt.mpr bE)
    ·have qh:p∈JO fp s5.heap:=by simpa [blockOf] using hp
     exact qg p.1 (QX qh).1 z
 exact codeAny_compStart_list (loop _ rfl) (T.self _ 0 _ _ _ (T.keep _ _ _ dr λ b hb o e=>old b o e) (loop _ rfl))
def Sn (hc:X.calm=true)(hi:PI X tg iter wi)(av:FZ scope X.env.scope=true)(aM:Nh X.N NB scope μ=true)(jx:LN μ g)(hb:∀(s:Shared) (H:Hp) (C:Addr) (ex:List Addr),PG (blockOf X s H scope C NB ex) tg g/\zU (blockOf X s H scope C NB ex) ifs (tc s H C ex)/\PE (blockOf X s H scope C NB ex) elt (te s H C ex))(hs:∀x,foldedSetIterable iter X.env x=pure x:=by intro _;rfl):PE X (.ListComp elt [⟨tg,iter,ifs,0⟩] scope pos) (R9 wi μ g tc te):=by
 intro pins s σ H Q I h;have bv:∀y∈scope.names,y.2=.local->scope.names.lookup y.1=some .local:=λ y hy=>(Km av hy).2.2;have cn:closureFor scope X.env=pure (Gr X.env.cells scope.names []):=Jq λ y hy e=>JR I av (x:=y.1) (by rw[<-e];exact hy);rw[eval_ListComp];refine wpAny_comprehension_free (use:=none) rfl hs cn (LM av) bv (Bl (hi pins s σ H _ I h) λ v s1 h1=>Bl h1 λ m6 s2 h2=>?_);obtain⟨it,fp,tn,J,H2,e,I2,T,dr,f2,q⟩:=h2;subst e;refine Ra (RR:=λ acc C=>compPost (model X.prog X.w) X.A X.xe none (EP X pins σ Q) acc C) hc I2 T dr f2 av aM jx hb (λ C=>q s2 C fp) ?_;intro D C s' H' ys m hD hC d0 hn nC hI hq;exact⟨m,hn,λ h' sb=>⟨.ref D,_,hI h' sb,rfl,hq⟩⟩
abbrev aaN (i:Nat)(te:TE):TS:=λ D σ H=>te σ H λ x H1=>D.nx (σ.set i (some x)) H1
def So (hN:X.N.Nodup)(gn:X.N[i]?=some y)(hy:Loc X.env.scope y)(hc:X.calm=true)(hi:PI X tg iter wi)(av:FZ scope X.env.scope=true)(aM:Nh X.N NB scope μ=true)(jx:LN μ g)(hb:∀(s:Shared) (H:Hp) (C:Addr) (ex:List Addr),PG (blockOf X s H scope C NB ex) tg g/\zU (blockOf X s H scope C NB ex) ifs (tc s H C ex)/\PE (blockOf X s H scope C NB ex) elt (te s H C ex))(bw: ~~~(swapsWith (.ListComp elt [⟨tg,iter,ifs,0⟩] scope pos) (some (.Name y py)) ak.line X.env=pure true))(hs:∀x,foldedSetIterable iter X.env x=pure x:=by intro _;rfl)(hf:X.fn y=true\/X.env.scope.names.lookup y=some .local:=by first|exact .inl rfl|exact .inr rfl|assumption):
 PS X (.Assign [.Name y py] (.ListComp elt [⟨tg,iter,ifs,0⟩] scope pos) ak) (aaN i (R9 wi μ g tc te)):=by
 intro pins s σ H D' I h;have bv:∀y∈scope.names,y.2=.local->scope.names.lookup y.1=some .local:=λ y hy=>(Km av hy).2.2;have cn:closureFor scope X.env=pure (Gr X.env.cells scope.names []):=Jq λ y hy e=>JR I av (x:=y.1) (by rw[<-e];exact hy);rw[exec_Assign_Name_used _ _ _ _ bw];refine wpAny_bind (wpAny_standAt (wpAny_bind ?_));show wpAny _ X.A (do let _ <-comprehension (.ListComp elt [⟨tg,iter,ifs,0⟩] scope pos) scope X.env _ (newList []) false (eval iter X.env) (some (assign (.Name y py) X.env))) _ _ s;refine wpAny_bind (wpAny_mono (wpAny_comprehension_free (use:=some (assign (.Name y py) X.env)) (Q:=λ _ s'=>SP X pins D' .next s') rfl hs cn (LM av) bv (Bl (hi pins s σ H _ I h) λ v s1 h1=>Bl h1 λ m6 s2 h2=>?_)) (λ _ s' hq=>wpAny_pure (wpAny_pure hq)) λ _ _ e=>e);obtain⟨it,fp,tn,J,H2,e,I2,T,dr,f2,q⟩:=h2;subst e;refine Ra (RR:=λ acc C=>compPost (model X.prog X.w) X.A X.xe (some (assign (.Name y py) X.env)) (λ _ s'=>SP X pins D' .next s') acc C) hc I2 T dr f2 av aM jx hb (λ C=>q s2 C fp) ?_;intro D C s' H' ys m hD hC d0 hn nC hI hq;have I':=hI s'.heap (.refl ..);show wpAny _ X.A (assign (.Name y py) X.env (.ref D)) _ _ _;refine wpAny_assign_Name (QV (i:=i) (v:=.ref D) I' hN gn hy rfl (λ jn xp qk=>?_) hf);obtain⟨a,sb,ha⟩:=qk;have iw:a≠C:=by
  rcases ha with z|z
  ·rw[z];exact zax (zaq I2.lt hC)
  ·obtain⟨v,o,ho,_⟩:=I2.cell y a z;exact zax (zaq (zak ho) hC)
 refine⟨m,hn.sameBut sb (zbn iw),λ h' fj=>?_⟩;refine⟨_,_,xp.turned (it:=C) (t':=jn.toks) (λ b o hb e=>(fj.2 b hb).trans e) (by rw[Ag (zbn d0)];exact nC) (Nat.ne_of_gt (zaq I2.lt hC)) (.inr (zc4 I2.sz hC)) (λ x c e z=>?_) (λ p hp z=>?_),hq⟩
 ·obtain⟨v,o,ho,_⟩:=I2.cell x c e;exact absurd (zak ho) (by rw[z];exact Nat.not_lt.mpr hC)
 ·exact absurd (zak (I2.pin p hp).1) (by rw[z];exact Nat.not_lt.mpr hC)
end
abbrev Ite (K:za1)(a:Addr):It:=
 ⟨λ i H=>∃xs x,Ds K H a xs/\xs[i]?=some x,λ i H v H'=>∃p x,H p=none/\v=.ref p/\(∀xs,Ds K H a xs->xs[i]?=some x)/\H'=upd H p (.tup [.int i,x]),λ i H=>∃xs,Ds K H a xs/\xs.length<=i⟩
def WN {e}(I:Inv X pins σ H s)(he:Nf X pins H e)(hi:Nf X pins H it)(k:∀b o,b≠e->b≠it->s.heap.get? b=some o->h'.get? b=some o):Inv X pins σ H {s with heap:=h',toks:=t' }:=by
 obtain⟨e0,e1,e2,e3,e4,e5⟩:=he;obtain⟨f0,f1,f2,f3,f4,f5⟩:=hi;have ne:∀b u,H b=some u->b≠e/\b≠it:=λ b u q=>⟨λ z=>(by rw[z,e0] at q;cases q),λ z=>(by rw[z,f0] at q;cases q)⟩;refine I.step (g':=s.gens) (d':=s.drawn) (ch:=[e,it]) (λ b hb=>?_) (λ b o _ _ hc q _=>k b o (λ z=>hc (by simp[z])) (λ z=>hc (by simp[z])) q) (λ b o _ _ hc q _=>⟨o.slots,k b o (λ z=>hc (by simp[z])) (λ z=>hc (by simp[z])) q⟩) (λ _ _ _ _ n=>n)
  (λ b o hc q=>⟨o,k b o (λ z=>hc (by simp[z])) (λ z=>hc (by simp[z])) q⟩) (λ _ _ q=>q) (λ _ _ _ q=>q) (λ b ps q=>⟨#[],by rw[q];simp⟩) (λ m hm=>?_) (λ b u q=>?_) I.bare
 ·rcases zab.mp hb with z|z
  ·subst z;exact⟨e3,e1,e4,e5⟩
  ·have z:=za9.mp z;subst z;exact⟨f3,f1,f4,f5⟩
 ·obtain⟨o,es,ep,ho,r⟩:=hm;exact⟨o,es,ep,k _ o (zbn e1) (zbn f1) ho,r⟩
 ·refine (I.Aw b u q).Nc (λ c v hc z=>k c v ?_ ?_ z) (λ _ z=>z) λ _ _ z=>z
  ·rcases hc with z|z
   ·rw[z];exact (ne b u q).1
   ·exact (ne c _ z).1
  ·rcases hc with z|z
   ·rw[z];exact (ne b u q).2
   ·exact (ne c _ z).2
def Zq {K}{x1}(a e it:Addr)(ae:e≠it):
 Turn P w K (.Tuple cr x1 aV) (Ite K a) [e,it] e (λ i h=>(∃old,IsEnum h e it i old)/\h.IsListIter it a i) where
 mem:=by simp
 obj:=λ i h st b hb=>by
  obtain⟨⟨old,h1⟩,o,h2,c,d⟩:=st;rcases zab.mp hb with z|z
  ·subst z;exact⟨_,h1,λ v z=>by cases z⟩
  ·have z:=za9.mp z;subst z;exact⟨o,h2,λ v z=>by rw[d] at z;cases z⟩
 keep:=λ i h h' st k=>⟨let ⟨old,h1⟩:=st.1;⟨old,k e (by simp) _ h1⟩,st.2.at λ o e=>k it (by simp) o e⟩
 item:=by
  intro X hP hw hK hc i pins s σ H E I hf st hg;subst hP hw hK;obtain⟨xs,x,hq,hx⟩:=hg;obtain⟨⟨old,he⟩,hit⟩:=st;obtain⟨aa,rv,p,hz⟩:=I.list hq;obtain⟨u,hu,ru⟩:=rv.get hx;have fe:=hf e (by simp);have fi:=hf it (by simp);refine wpAny_pyNext_enum_item he hit p.isList (x:=u) (by simpa using hu) ae λ h1 e9 ql ht hsz hk=>?_;refine⟨_,rfl,wpAny_letOwnedTupleGo_enum (s:={s with heap:=h1,toks:=s.toks+1}) e9 λ h2 xq a9=>?_⟩;have bx:zd8 e h1 h2:=a9;have nt:s.heap.objs.size≠e:=Nat.ne_of_gt (zak he);have xr:s.heap.objs.size≠it:=by
   obtain⟨o,ho,_⟩:=hit;exact Nat.ne_of_gt (zak ho)
  have I1:Inv X pins σ H {s with heap:=h2,toks:=s.toks+1}:=WN I fe fi λ b o hb aH q=>(bx.2 b hb).trans (hk b o hb aH q);have tup:h2.get? s.heap.objs.size=some {cls:=.type "tuple",data:=.seq #[.int i s.toks,u]}:=(bx.2 _ nt).trans ht;have nH:H s.heap.objs.size=none:=I.Aw.fresh (zaf _);have vv:Vals [.int i,x] [.int i s.toks,u]:=.cons ⟨_,rfl⟩ (.cons ru .nil);have d5:Hh X.prog X.w (upd H s.heap.objs.size (.tup [.int i,x])) h2:=I1.Aw.adopt nH ⟨by show 2<=sizeLine;decide,_,vv,⟨_,tup,rfl,_,rfl⟩⟩;have I2:Inv X pins σ (upd H s.heap.objs.size (.tup [.int i,x])) {s with heap:=h2,toks:=s.toks+1}:=by
   refine I.step (g':=s.gens) (d':=s.drawn) (ch:=[e,it]) (λ b hb=>?_) (λ b o _ _ hc q _=>(bx.2 b (λ z=>hc (by simp[z]))).trans (hk b o (λ z=>hc (by simp[z])) (λ z=>hc (by simp[z])) q)) (λ b o _ _ hc q _=>⟨o.slots,(bx.2 b (λ z=>hc (by simp[z]))).trans (hk b o (λ z=>hc (by simp[z])) (λ z=>hc (by simp[z])) q)⟩)
    (λ b o hc q n=>by rw[Ag (zax (zak q))];exact n) (λ b o hc q=>⟨o,(bx.2 b (λ z=>hc (by simp[z]))).trans (hk b o (λ z=>hc (by simp[z])) (λ z=>hc (by simp[z])) q)⟩)
    (λ b xs q=>by rw[Ag (AQ q nH)];exact q) (λ b o u q=>by rw[Ag (AQ q nH)];exact q) (λ b ps q=>⟨#[],by rw[Ag (AQ q nH),q];simp⟩) (λ m hm=>?_) d5 I.bare
   ·rcases zab.mp hb with z|z
    ·subst z;exact⟨fe.2.2.2.1,fe.2.1,fe.2.2.2.2.1,fe.2.2.2.2.2⟩
    ·have z:=za9.mp z;subst z;exact⟨fi.2.2.2.1,fi.2.1,fi.2.2.2.2.1,fi.2.2.2.2.2⟩
   ·obtain⟨o,es,ep,ho,r⟩:=hm;exact⟨o,es,ep,(bx.2 _ (zbn fe.2.1)).trans (hk _ o (zbn fe.2.1) (zbn fi.2.1) ho),r⟩
  refine⟨.ref s.heap.objs.size,_,I2,rfl,⟨_,x,nH,rfl,λ ys hy=>by rw[I.HG hy hq];exact hx,rfl⟩,⟨⟨u,xq⟩,ql.at λ o q=>(bx.2 it (zbn ae)).trans q⟩,λ b hb=>?_⟩;have aH:b≠s.heap.objs.size:=by
   rcases zab.mp hb with z|z
   ·rw[z];exact zbn nt
   ·rw[za9.mp z];exact zbn xr
  rw[Ag aH];exact (hf b hb).1
 done:=by
  intro X hP hw hK hc i pins s σ H E I hf st hg;subst hP hw hK;obtain⟨xs,hq,hx⟩:=hg;obtain⟨⟨old,he⟩,hit⟩:=st;obtain⟨aa,rv,p,hz⟩:=I.list hq;have hl:=rv.length;obtain⟨f0,f1,f2,f3,f4,f5⟩:=hf it (by simp);exact wpAny_pyNext_enum_end (I.ok.hd hc) he hit p.isList (by simp;omega) λ h' eb=>⟨rfl,I.turned (t':=s.toks) (λ b o hb e=>eb b o hb e) f0 f1 f3 f4 f5⟩
 self:=λ _ _ _ _ _ st h=>let ⟨_,he⟩:=st.1;wpAny_pyIter_enum he h
abbrev aaO (K:za1)(ta:TA):TI:=λ σ H R=>ta σ H λ vs H1=>∃a,vs=[.ref a]/\(∃xs,Ds K H1 a xs)/\R (Ite K a) H1
def oM {x1}(hg:Gl X "enumerate")(hm:X.mg "enumerate" = none)(ha:PA X [a] ta)(hb:bootBuiltins "enumerate" = some (.type "enumerate"):=by decide +kernel)(hs: ~~~(starEach [a] X.env=[(false,eval a X.env)])):
 PI X (.Tuple cr x1 aV) (.Call (.Name "enumerate" p) [a] [] pos) (aaO X.K ta):=by
 intro pins s σ H R I h;refine Call_ (Eg I hg hm hb (zbo (Bl (ha pos pins s σ H _ I h) λ us s1 zz=>?_) hs rfl));obtain⟨vs,H1,I1,r1,q1⟩:=zz;obtain⟨j,e,⟨xs,hq⟩,q⟩:=q1;subst e;cases r1 with
 |cons r rr =>
  cases rr;cases r;obtain⟨aa,rv,p,hz⟩:=I1.list hq;refine call_enumerate_list p.isList λ h' he hit hsz hk=>?_;refine wpAny_pyIter_enum (s:={s1 with heap:=h' }) he ?_;have I2:Inv X pins σ H1 {s1 with heap:=h' }:=I1.kept (t':=s1.toks) hk;refine⟨_,[s1.heap.objs.size+1,s1.heap.objs.size],_,_,H1,rfl,I2,Zq j _ _ (Nat.succ_ne_self _),⟨⟨_,he⟩,hit⟩,λ b hb=>?_,q⟩;rcases zab.mp hb with z|z
  ·rw[z];exact I1.Wu (Nat.le_succ _) (I1.Aw.fresh (Nat.le_succ _))
  ·rw[za9.mp z];exact I1.Wu (zaf _) (I1.Aw.fresh (zaf _))
abbrev G0 {α:Type}(o:Option (α×List Int))(b:α×List Int):Option (α×List Int):=match o with | none=>some b | some c=>if HT.lexLt b.2 c.2=true then some b else some c
abbrev Cm {α:Type}(bs:List (α×List Int)):Option (α×List Int):=bs.foldl G0 none
abbrev Kn (bs:List (Addr×List Int)):Array Value:=match Cm bs with | none=>#[] | some b=>#[.ref b.1,.ref b.1]
def JS {α:Type}(bs:List (α×List Int))(b:α×List Int):Cm (bs++[b])=match Cm bs with | none=>some b | some c=>if HT.lexLt b.2 c.2=true then some b else some c:=by
 unfold Cm;rw[List.foldl_append];rfl
def Zr {α:Type}:∀(bs:List (α×List Int)) (b:α×List Int),Cm bs=some b->b∈bs:=by
 intro bs
 suffices h:∀(bs:List (α×List Int)) (o:Option (α×List Int)) (b:α×List Int),bs.foldl G0 o=some b->b∈bs\/o=some b by
  intro b hb;rcases h bs none b hb with q|q
  ·exact q
  ·cases q
 intro bs;induction bs with
 |nil=>intro o b h;exact .inr h
 |cons x r ih =>
  intro o b h;rw[zb4] at h;rcases ih _ _ h with q|q
  ·exact .inl (za4 _ q)
  ·cases o with
   |none=>cases q;exact .inl za3
   |some c =>
    unfold G0 at q;dsimp only at q;split at q
    ·cases q;exact .inl za3
    ·exact .inr q
def Ol {α:Type}(o:Option (α×List Int))(b:α×List Int):G0 o b≠none:=by
 unfold G0;split
 ·intro z;cases z
 ·split<;>(intro z;cases z)
def fK {α:Type}:∀ {bs:List (α×List Int)},bs≠[]->Cm bs≠none:=by
 intro bs h;unfold Cm
 suffices z:∀(bs:List (α×List Int)) (o:Option (α×List Int)),o≠none->bs.foldl G0 o≠none by
  cases bs with
  |nil=>exact (h rfl).elim
  |cons b r=>rw[zb4];exact z r _ (Ol _ _)
 intro bs;induction bs with
 |nil=>intro o h;exact h
 |cons b r ih=>intro o h;rw[zb4];exact ih _ (Ol _ _)
abbrev kwD (o:Option Value):List (Str×Value):=o.toList.map λ d=>(Str.ofString "default",d)
def fL (a:Value)(o:Option Value):argsOk "min" ⟨[a],kwD o⟩:=by cases o<;>(unfold argsOk;kernel_rfl)
section
variable {prog:Program}{R:Result->Shared->Prop}
def fM (bs:List (Addr×List Int))(tv:Addr->Array Value)(l I S:Addr)(o:Option Value)(qm:o=none->bs≠[])(hh:A.handled=none)(hu:A.in1.units<cLine)(ni:S≠I)(nj:l≠I)(vd:l≠S)(qp:∀b∈bs,b.1≠I/\b.1≠S)
 (hk:∀b∈bs,IntsAre (tv b.1).toList b.2):∀(k j:Nat) (s:Shared) (c:Nat),bs.length-j=k->j<=bs.length->s.heap.IsListIter I l j->s.heap.IsList l (bs.map λ b=>zbl b.1).toArray->(∀b∈bs,IsTup s.heap b.1 (tv b.1))->
  s.heap.get? S=some {cls:=.type "list",dict:=none,data:=.seq (Kn (bs.take j)) c,slots:=#[]} ->
  (∀h' tk,(∀b o,b≠I->b≠S->s.heap.get? b=some o->h'.get? b=some o)->R (.ok (.ret (match Cm bs with|none=>o.getD .none|some b=>.ref b.1))) {s with heap:=h',toks:=tk})->
  codeAny (model prog w) A (.builtin "min.loop" ⟨[.ref I,.none,.ref S],kwD o⟩) R s:=by
 have bg:(toString "min" ++ toString ".loop" : String) = "min.loop" := by decide
 intro k;induction k with
 |zero =>
  intro j s c hr hj hit hl ht hS hR;have bF:j=bs.length:=by omega
  subst bF;rw[zby] at hS;refine codeAny_builtin PySem.F.entry_min_loop ?_;rw[Around.under_plainId zcj _];show wpAny _ A.in1 (seqItems? (.ref S) >>= _) _ _ s;refine wpAny_bind (wpAny_seqItems hS rfl ?_);show wpAny _ A.in1 (tryCatch (pyNext (.ref I)) _ >>= _) _ _ s;refine wpAny_bind (wpAny_tryCatch (wpAny_pyNext_list_end (A:=A.in1) hh hit hl (by simp) λ h' eb=>?_));have bh:h'.get? S=_:=eb S _ ni hS;unfold Kn at bh;cases hb:Cm bs with
  |none =>
   unfold Kn;rw[hb];cases o with
   |none=>exact (fK (qm rfl) hb).elim
   |some d =>
   show wpAny _ A.in1 (rule _ >>= _) _ _ _;refine wpAny_bind (wpAny_rule (wpAny_pure ?_));have q:=hR h' s.toks λ b o h1 h2 e=>eb b o h1 e;rw[hb] at q;exact q
  |some b =>
   rw[hb] at bh;unfold Kn;rw[hb];show wpAny _ A.in1 (updateSeq S (λ _=>#[]) >>= _) _ _ _;refine wpAny_bind ?_;refine wpAny_updateSeq bh rfl (wpAny_bind (wpAny_letGo (wpAny_pure ?_)));have q:=hR (h'.update S (Obj.mapSeq λ _=>#[])) s.toks λ b o h1 h2 e=>(Heap.get?_update_other _ _ (zbn h2)).trans (eb b o h1 e);rw[hb] at q;exact q
 |succ k ih =>
  intro j s c hr hj hit hl ht hS hR;have ag:j<bs.length:=by omega
  have ej:bs.take (j+1)=bs.take j++[bs[j]]:=by rw[zc0,za7 ag];rfl
  have mj:bs[j]∈bs:=List.getElem_mem ag;refine codeAny_builtin PySem.F.entry_min_loop ?_;rw[Around.under_plainId zcj _];show wpAny _ A.in1 (seqItems? (.ref S) >>= _) _ _ s;refine wpAny_bind (wpAny_seqItems hS rfl ?_);show wpAny _ A.in1 (tryCatch (pyNext (.ref I)) _ >>= _) _ _ s;refine wpAny_bind (wpAny_tryCatch (wpAny_pyNext_list_item (A:=A.in1) hit hl (x:=.ref bs[j].1) (by simp[ag]) λ h' cu sb=>?_));have fj:zd8 I s.heap h':=sb;have bh:h'.get? S=_:=(fj.2 S ni).trans hS;have jh:h'.IsList l (bs.map λ b=>zbl b.1).toArray:=hl.at λ o e=>(fj.2 l nj).trans e;have jz:∀b∈bs,IsTup h' b.1 (tv b.1):=λ b hb=>by
   obtain⟨o,ho,r⟩:=ht b hb;exact⟨o,(fj.2 b.1 (qp b hb).1).trans ho,r⟩
  cases hb:Cm (bs.take j) with
  |none =>
   unfold Kn at bh ⊢;rw[hb] at bh ⊢;show wpAny _ A.in1 (updateSeq S (λ _=>#[.ref bs[j].1,.ref bs[j].1]) >>= _) _ _ _;refine wpAny_bind ?_;refine wpAny_updateSeq bh rfl ?_;rw[bg];have s1:=Heap.SameBut.update h' S (Obj.mapSeq λ _=>(#[.ref bs[j].1,.ref bs[j].1]:Array Value));refine wpAny_pure ⟨plainId_quiet zcj _,ih (j+1) _ (c+1) (by omega) ag (cu.at λ o e=>(s1.2 I (zbn ni)).trans e) (jh.at λ o e=>(s1.2 l vd).trans e) (λ b hb=>?_) ?_ λ j0 tk cv=>?_⟩
   ·obtain⟨o,ho,r⟩:=jz b hb;exact⟨o,(s1.2 b.1 (qp b hb).2).trans ho,r⟩
   ·refine (Heap.get?_update_self _ bh rfl).trans ?_;unfold Kn;rw[ej,JS,hb];rfl
   ·exact hR j0 tk λ b o h1 h2 e=>cv b o h1 h2 ((s1.2 b h2).trans ((fj.2 b h1).trans e))
  |some m =>
   have mm:m∈bs:=zc7 (Zr _ _ hb);unfold Kn at bh ⊢;rw[hb] at bh ⊢;show wpAny _ A.in1 (tryCatch (holding [.ref bs[j].1,.ref bs[j].1] (richCompare .Lt (.ref bs[j].1) (.ref m.1) >>= _)) _ >>= _) _ _ _;refine wpAny_bind (wpAny_tryCatch (wpAny_holding (wpAny_bind (HT.Oa (jz _ mj) (jz _ mm) (hk _ mj) (hk _ mm) hu ?_))));refine wpAny_bind (wpAny_holding (wpAny_truthy_bool ?_));refine wpAny_bind (wpAny_letGo (wpAny_pure ?_));cases hc:HT.lexLt bs[j].2 m.2 with
   |true =>
    simp only[if_true];have s1:=Heap.SameBut.update h' S (Obj.mapSeq λ _=>(#[.ref bs[j].1,.ref bs[j].1]:Array Value));refine wpAny_bind ?_;refine wpAny_updateSeq bh rfl (wpAny_bind (wpAny_letGo ?_));rw[bg];refine wpAny_pure ⟨plainId_quiet zcj _,ih (j+1) _ c (by omega) ag (cu.at λ o e=>(s1.2 I (zbn ni)).trans e) (jh.at λ o e=>(s1.2 l vd).trans e) (λ b hb=>?_) ?_ λ j0 tk cv=>?_⟩
    ·obtain⟨o,ho,r⟩:=jz b hb;exact⟨o,(s1.2 b.1 (qp b hb).2).trans ho,r⟩
    ·refine (Heap.get?_update_self _ bh rfl).trans ?_;unfold Kn;rw[ej,JS,hb];simp only[hc,if_true];rfl
    ·exact hR j0 tk λ b o h1 h2 e=>cv b o h1 h2 ((s1.2 b h2).trans ((fj.2 b h1).trans e))
   |false =>
    simp only[zaz,if_false];refine wpAny_bind (wpAny_letGo ?_);rw[bg];refine wpAny_pure ⟨plainId_quiet zcj _,ih (j+1) _ c (by omega) ag cu jh jz ?_ λ j0 tk cv=>?_⟩
    ·refine bh.trans ?_;unfold Kn;rw[ej,JS,hb];simp only[hc,zaz,if_false]
    ·exact hR j0 tk λ b o h1 h2 e=>cv b o h1 h2 ((fj.2 b h1).trans e)
def WO (bs:List (Addr×List Int))(tv:Addr->Array Value)(l:Addr)(o:Option Value)(qm:o=none->bs≠[])(hh:A.handled=none)(hu:A.in1.units<cLine)(hl:s.heap.IsList l (bs.map λ b=>zbl b.1).toArray)(ht:∀b∈bs,IsTup s.heap b.1 (tv b.1))(hk:∀b∈bs,IntsAre (tv b.1).toList b.2)(hQ:∀h' tk,(∀b o,s.heap.get? b=some o->h'.get? b=some o)->Q (match Cm bs with|none=>o.getD .none|some b=>.ref b.1) {s with heap:=h',toks:=tk}):
 wpAny (model prog w) A (call (.builtin "min") [.ref l] (kwD o)) Q E s:=by
 have bg:(toString "min" ++ toString ".loop" : String) = "min.loop" := by decide
 obtain⟨ol,qr,_⟩:=id hl;have ve:l<s.heap.objs.size:=zak qr;refine kmk_tree PySem.F.kind_min PySem.F.plain_min PySem.F.entry_min (fL _ _) ?_;show wpAny _ A.in1 (Builtin.Builtins.bindParams "min" ["key","default"] 0 ⟨[],kwD o⟩ >>= _) _ _ s;refine wpAny_bind (wpAny_of_eq (show Builtin.Builtins.bindParams "min" ["key","default"] 0 ⟨[],kwD o⟩=pure [none,o] by cases o<;>rfl) ?_);refine wpAny_bind (wpAny_pure ?_);refine wpAny_bind (wpAny_pyIter_list hl ?_);refine wpAny_bind (wpAny_newList ?_ (zbe _));rw[bg];have hS:(s.heap.push {cls:=.type "list_iterator",data:=.fields #[.ref l,.int 0 0]}).objs.size=s.heap.objs.size+1:=Heap.size_push ..;have old:∀b o,s.heap.get? b=some o->b≠s.heap.objs.size/\b≠(s.heap.push {cls:=.type "list_iterator",data:=.fields #[.ref l,.int 0 0]}).objs.size:=λ b o e=>⟨zax (zak e),by rw[hS];exact zax (Nat.lt_succ_of_lt (zak e))⟩;have grow:∀b o,s.heap.get? b=some o->((s.heap.push {cls:=.type "list_iterator",data:=.fields #[.ref l,.int 0 0]}).push {cls:=.type "list",data:=.seq #[]}).get? b=some o:=λ b o e=>zah _ (zah _ e);refine wpAny_pure ⟨plainId_quiet zcj _,?_⟩;refine fM bs tv l s.heap.objs.size (s.heap.push {cls:=.type "list_iterator",data:=.fields #[.ref l,.int 0 0]}).objs.size o qm hh hu (by rw[hS];exact Nat.succ_ne_self _) (old l ol qr).1 (old l ol qr).2 (λ b hb=>?_) hk _ 0 _ 0 rfl (zbe _) ?_ ?_ (λ b hb=>?_) ?_ ?_
 ·obtain⟨o,ho,_⟩:=ht b hb;exact old b.1 o ho
 ·exact⟨_,zah _ (zat _ rfl),rfl,rfl⟩
 ·exact hl.at λ o e=>grow l o e
 ·obtain⟨o,ho,r⟩:=ht b hb;exact⟨o,grow b.1 o ho,r⟩
 ·exact zat _ rfl
 ·intro h' tk gp;exact hQ h' tk λ b o e=>gp b o (old b o e).1 (old b o e).2 (grow b o e)
end
section
variable {e2:Expr}{te:TE}{p kp:Pos}
abbrev aaQ (K:za1)(te td:TE):TE:=λ σ H Q=>te σ H λ x H1=>td σ H1 λ d H2=>∃(a:Addr) (bs:List (Addr×List Int)),x=.ref a/\Ds K H2 a (bs.map λ b=>V.ref b.1)/\(∀b∈bs,FF K H2 b.1 (b.2.map V.int))/\Q (match Cm bs with | none=>d | some b=>.ref b.1) H2
def Rb:∀ {bs:List (Addr×List Int)}{us:List Value},Vals (bs.map λ b=>V.ref b.1) us->us=bs.map λ b=>zbl b.1
 |[],_,.nil=>rfl
 |b::r,_,.cons h t=>by cases h;rw[Rb t];rfl
def oN (hc:X.calm=true)(hu:X.A.units+1<cLine)(hg:Gl X "min")(hm:X.mg "min" = none)(he:PE X e te)(hd:PE X e2 td)(aF: ~~~(starEach [e] X.env=[(false,eval e X.env)]))(a8: ~~~((backToKw pos (keywordEach [⟨some "default",e2,kp⟩] X.env)).all (·.1.isSome)=true))(qt: ~~~((backToKw pos (keywordEach [⟨some "default",e2,kp⟩] X.env)).filterMap (·.1)=([("default" : Str)]:List Str)))(qu: ~~~((backToKw pos (keywordEach [⟨some "default",e2,kp⟩] X.env)).any (·.1.isNone)=false))(bi: ~~~(backTo pos (starEach [e] X.env)=(false,eval e X.env)::backTo pos (starEach [] X.env)))(hpl: ~~~((backTo pos (starEach [e] X.env)).any (·.1)=false)):
 PE X (.Call (.Name "min" p) [e] [⟨some "default",e2,kp⟩] pos) (aaQ X.K te td):=by
 intro pins s σ H Q I h;refine wpAny_Call_Name_kw (Eg I hg hm boot_min ?_ (by decide) (by decide));refine callWith_kw (Bl ((Bm he CJ (hs:=aF)) pos pins s σ H (λ vs H1=>match vs with|[x]=>td σ H1 λ d H2=>∃(a:Addr) (bs:List (Addr×List Int)),x=.ref a/\Ds X.K H2 a (bs.map λ b=>V.ref b.1)/\(∀b∈bs,FF X.K H2 b.1 (b.2.map V.int))/\Q (match Cm bs with|none=>d|some b=>.ref b.1) H2|_=>False) I h) λ us s1 zz=>?_) bi hpl a8 qu;obtain⟨vs,H1,I1,r1,q1⟩:=zz;obtain⟨x,rfl⟩:∃x,vs=[x]:=by
  match vs,q1 with
  |[x],_=>exact⟨x,rfl⟩
 refine Bl ((nR hd vP) pos pins s1 σ H1 (λ zs H2=>match zs with|[d]=>∃(a:Addr) (bs:List (Addr×List Int)),x=.ref a/\Ds X.K H2 a (bs.map λ b=>V.ref b.1)/\(∀b∈bs,FF X.K H2 b.1 (b.2.map V.int))/\Q (match Cm bs with|none=>d|some b=>.ref b.1) H2|_=>False) I1 q1) λ ws s2 zz=>?_;obtain⟨zs,H2,I2,r2,q2⟩:=zz;obtain⟨d,rfl⟩:∃d,zs=[d]:=by
  match zs,q2 with
  |[d],_=>exact⟨d,rfl⟩
 obtain⟨a,bs,rfl,hl,hb,q⟩:=q2;obtain⟨ua,rfl,ra⟩:=r1.one;obtain⟨ud,rfl,rd⟩:=r2.one;cases ra;rw[qt];obtain⟨aa,rv,pl,hz⟩:=I2.list hl;have ei:=Rb rv;subst ei;have tv:∀a:Addr,∃t:Array Value,∀b∈bs,b.1=a->IsTup s2.heap a t/\IntsAre t.toList b.2:=λ a=>by
  by_cases j1:∃b∈bs,b.1=a
  ·obtain⟨b,j1,rfl⟩:=j1;obtain⟨ts,rt,pt,_⟩:=I2.tuple (hb b j1);refine⟨ts.toArray,λ b' aH e=>⟨pt,?_⟩⟩;have q2:=hb b' aH;rw[e] at q2;have e2:=I2.J7 q2 (hb b j1);rw[<-e2] at rt;simpa using intsAre_of rt
  ·exact⟨#[],λ b aH e=>absurd ⟨b,aH,e⟩ j1⟩
 refine WO bs (λ b=>za5 (tv b)) a (some ud) (λ h=>by cases h) (I2.ok.hd hc) hu pl.isList (λ b aH=>(za0 (tv b.1) b aH rfl).1) (λ b aH=>(za0 (tv b.1) b aH rfl).2) λ h' tk hk=>?_;refine⟨match Cm bs with|none=>d|some b=>.ref b.1,H2,I2.kept (t':=tk) hk,?_,q⟩;cases Cm bs with
 |none=>exact rd
 |some b=>rfl
end
inductive D where
 |AV|bl (b:Bool)|int (i:Int)|str (x:Str)|tup (ds:List D)|lst (ds:List D)|Gm (x:Str)|BR (t:Bool) (ks vs:List D)|ins (x:Str) (ns:List Str) (ds:List D)
abbrev CB:Key->D
 | .inl i=>.int i
 | .inr x=>.str x
def Rd.same (r:Rd H a u)(e:Ah H H'):Rd H' a u:=r.elim (λ h=>.inl (e _ _ h)) λ⟨o,h⟩=>.inr ⟨o,e _ _ h⟩
mutual
inductive BS (K:za1) (H:Hp):V->D->Prop
 |AV:BS K H .AV .AV
 |bl (b):BS K H (.bl b) (.bl b)
 |int (i):BS K H (.int i) (.int i)
 |str (x):BS K H (.str x) (.str x)
 |tup {a xs ds}:H a=some (.tup xs)->Aj K H xs ds->BS K H (.ref a) (.tup ds)
 |lst {a xs ds}:Ds K H a xs->Aj K H xs ds->BS K H (.ref a) (.lst ds)
 |TU {a kvs ds}:Rd H a (.dK kvs)->Aj K H (kvs.map zbx) ds->BS K H (.ref a) (.BR false (kvs.map λ kv=>CB kv.1) ds)
 |Ur {a kvs ds}:Rd H a (.dT kvs)->Aj K H (kvs.map zbx) ds->BS K H (.ref a) (.BR true (kvs.map λ kv=>.tup (kv.1.map CB)) ds)
 |ins {a C dx fs x ds}:zas K mainGlobals x=some (some (.ref C))->H a=some (.ins C dx fs)->Aj K H (fs.map zbx) ds->BS K H (.ref a) (.ins x (fs.map zay) ds)
 |Gm {a x}:zas K mainGlobals x=some (some (.ref a))->True->BS K H (.ref a) (.Gm x)
inductive Aj (K:za1) (H:Hp):List V->List D->Prop
 |nil:Aj K H [] []
 |cons {x d xs ds}:BS K H x d->Aj K H xs ds->Aj K H (x::xs) (d::ds)
end
def Aj.length {K}:∀ {xs:List V}{ds:List D},Aj K H xs ds->xs.length=ds.length
 |_,_,.nil=>rfl
 |_,_,.cons _ t=>by rw[zaa,zaa,Aj.length t]
def Aj.get {K:za1}{H:Hp}:∀ {xs:List V}{ds:List D}{i:Nat}{d:D},Aj K H xs ds->ds[i]?=some d->∃x,xs[i]?=some x/\BS K H x d
 |_,_,_,_,.nil,e=>by simp at e
 |_,_,0,_,.cons r _,e=>by simp at e;subst e;exact⟨_,rfl,r⟩
 |_,_,i+1,d,.cons _ t,e=>by
  obtain⟨u,h1,h2⟩:=Aj.get (i:=i) (d:=d) t (by simpa using e);exact⟨u,by simpa using h1,h2⟩
def Aj.wJ {K:za1}{H:Hp}:∀ {xs:List V}{ds:List D}{i:Nat}{x:V},Aj K H xs ds->xs[i]?=some x->∃d,ds[i]?=some d/\BS K H x d
 |_,_,_,_,.nil,e=>by simp at e
 |_,_,0,_,.cons r _,e=>by simp at e;subst e;exact⟨_,rfl,r⟩
 |_,_,i+1,d,.cons _ t,e=>by
  obtain⟨u,h1,h2⟩:=Aj.wJ (i:=i) (x:=d) t (by simpa using e);exact⟨u,by simpa using h1,h2⟩
def Aj.append {K:za1}{H:Hp}:∀ {xs ys:List V}{ds es:List D},Aj K H xs ds->Aj K H ys es->Aj K H (xs++ys) (ds++es):=by
 intro _ _ _ _ x_ h;cases x_ with
 |nil=>exact h
 |cons r t=>exact .cons r (Aj.append t h)
def Aj.snoc {K}(h:Aj K H xs ds)(r:BS K H x d):Aj K H (xs++[x]) (ds++[d]):=h.append (.cons r .nil)
def Aj.take {K}:∀ {xs:List V}{ds:List D}(n:Nat),Aj K H xs ds->Aj K H (xs.take n) (ds.take n)
 |_,_,0,_|_,_,_+1,.nil=>.nil
 |_,_,n+1,.cons r t=>.cons r (Aj.take n t)
def Aj.drop {K}:∀ {xs:List V}{ds:List D}(n:Nat),Aj K H xs ds->Aj K H (xs.drop n) (ds.drop n)
 |_,_,0,r=>r
 |_,_,_+1,.nil=>.nil
 |_,_,n+1,.cons _ t=>Aj.drop n t
def Aj.ints {K}:∀(ns:List Int),Aj K H (ns.map V.int) (ns.map D.int)
 |[]=>.nil
 |n::r=>.cons (.int n) (Aj.ints r)
def Ah.acQ {K}(e:Ah H H')(h:FF K H a xs):FF K H' a xs:=by
 rcases h with (h|⟨o,h⟩)|h
 ·exact .inl (.inl (e _ _ h))
 ·exact .inl (.inr ⟨o,e _ _ h⟩)
 ·exact .inr h
mutual
theorem BS.mono {K:za1}{H H':Hp}(e:Ah H H'):∀ {v:V}{d:D},BS K H v d->BS K H' v d:=by
 intro _ _ x_;cases x_ with
 |AV=>exact .AV
 |bl b=>exact .bl b
 |int i=>exact .int i
 |str x=>exact .str x
 |tup h r=>exact .tup (e _ _ h) (Aj.mono e r)
 |lst h r=>exact .lst (e.seq h) (Aj.mono e r)
 |TU h r=>exact .TU (h.same e) (Aj.mono e r)
 |Ur h r=>exact .Ur (h.same e) (Aj.mono e r)
 |ins n h r=>exact .ins n (e _ _ h) (Aj.mono e r)
 |Gm h r=>exact .Gm h r
theorem Aj.mono {K:za1}{H H':Hp}(e:Ah H H'):∀ {vs:List V}{ds:List D},Aj K H vs ds->Aj K H' vs ds:=by
 intro _ _ x_;cases x_ with
 |nil=>exact .nil
 |cons h t=>exact .cons (BS.mono e h) (Aj.mono e t)
end
def AJ (h:H p=none)(o:HO):Ah H (upd H p o):=λ b u q=>by rw[Ag (AQ q h)];exact q
mutual
noncomputable def By:D->D->Bool
 | .AV,.AV=>true
 | .bl a,.bl b| .int a,.int b| .str a,.str b=>a==b
 | .bl a,.int b=>(if a then 1 else 0)==b
 | .int a,.bl b=>a==(if b then 1 else 0)
 | .tup a,.tup b| .lst a,.lst b=>Cw a b
 | .Gm a,.Gm b=>a==b
 | .BR s a b,.BR t c d=>(s==t)&&(Cw a c&&Cw b d)
 | .ins x n a,.ins y m b=>(x==y)&&((n==m)&&Cw a b)
 |_,_=>false
noncomputable def Cw:List D->List D->Bool
 |[],[]=>true
 |a::r,b::t=>By a b&&Cw r t
 |_,_=>false
end
mutual
theorem fN:∀d:D,By d d=true
 | .AV=>by simp[By]
 | .bl b| .int b| .str b=>by simp[By]
 | .tup b| .lst b=>by simp only[By];exact CU b
 | .Gm b=>by simp[By]
 | .BR s a b=>by simp only[By];rw[CU a,CU b];simp
 | .ins x n a=>by simp only[By];rw[CU a];simp
theorem CU:∀d:List D,Cw d d=true
 |[]=>by simp[Cw]
 |a::r=>by simp only[Cw,fN a,CU r,Bool.and_true]
end
mutual
noncomputable def CC:D->Bool
 | .tup a| .lst a=>LO a
 | .Gm _| .BR _ _ _| .ins _ _ _=>false
 |_=>true
noncomputable def LO:List D->Bool
 |[]=>true
 |a::r=>CC a&&LO r
end
def Sq:∀ {ds:List D}{d:D},d∈ds->LO ds=true->CC d=true
 |a::r,d,h,q=>by
  rw[LO,zb6] at q;rcases zab.mp h with z|z
  ·subst z;exact q.1
  ·exact Sq z q.2
mutual
noncomputable def TV:D->Nat
 | .tup a| .lst a=>Sr a+1
 |_=>0
noncomputable def Sr:List D->Nat
 |[]=>0
 |a::r=>max (TV a) (Sr r)
end
def Y8:∀ {ds:List D}{d:D},d∈ds->TV d<=Sr ds
 |a::r,d,h=>by
  rw[Sr];rcases zab.mp h with z|z
  ·subst z;exact Nat.le_max_left _ _
  ·exact zc4 (Y8 z) (Nat.le_max_right _ _)
def Us:∀ {a b:List D},Cw a b=true->a.length=b.length
 |[],[],_=>rfl
 |[],_::_,h|_::_,[],h=>by simp[Cw] at h
 |a::r,b::t,h=>by
  simp only[Cw,zb6] at h;rw[zaa,zaa,Us h.2]
def JT:∀(a b:List D),a.length=b.length->(zaj a.length).all (λ j=>By (a.getD j .AV) (b.getD j .AV))=Cw a b
 |[],[],_=>by simp[Cw]
 |a::r,b::t,h=>by
  have ih:=JT r t (by simpa using h);rw[zaa,List.range_succ_eq_map,List.all_cons,List.all_map,Cw,<-ih];simp[Function.comp_def]
 |[],_::_,h|_::_,[],h=>by cases h
def Y9 (h:a.length≠b.length):Cw a b=false:=by
 cases e:Cw a b with
 |false=>rfl
 |true=>exact absurd (Us e) h
def fO (a b:List D):((zaj (min a.length b.length)).all (λ j=>By (a.getD j .AV) (b.getD j .AV))&&(a.length==b.length))=Cw a b:=by
 by_cases h:a.length=b.length
 ·rw[<-JT a b h,h];simp
 ·rw[Y9 h,beq_false_of_ne h,Bool.and_false]
def Yb (I:Inv X pins σ H s)(h:Ds X.K H a xs)(h':FF X.K H a ys):False:=by
 obtain⟨aa,_,⟨o,n,e,c,_,_⟩,_⟩:=I.list h;obtain⟨its',_,⟨o',e',c',_⟩,_⟩:=I.tuple h';rw[e] at e';cases e';rw[c] at c';revert c';decide
mutual
theorem oO (I:Inv X pins σ H s){v:V}{d d':D}(n1:CC d=true)(n2:CC d'=true)(h:BS X.K H v d)(h':BS X.K H v d'):d=d':=by
 cases h with
 |tup h r =>
  cases h' with
  |tup h' r' =>
   have e:=I.J7 (.of h) (.of h');subst e;rw[HN I (by rw[CC] at n1;exact n1) (by rw[CC] at n2;exact n2) r r']
  |lst h' _=>exact (Yb I h' (.of h)).elim
  |_=>rw[CC] at n2;cases n2
 |lst h r =>
  cases h' with
  |lst h' r' =>
   have e:=I.HG h h';subst e;rw[HN I (by rw[CC] at n1;exact n1) (by rw[CC] at n2;exact n2) r r']
  |tup h' _=>exact (Yb I h (.of h')).elim
  |_=>rw[CC] at n2;cases n2
 |AV|bl _|int _|str _=>cases h';rfl
 |_=>rw[CC] at n1;cases n1
theorem HN (I:Inv X pins σ H s){v:List V}{d d':List D}(n1:LO d=true)(n2:LO d'=true)(h:Aj X.K H v d)(h':Aj X.K H v d'):d=d':=by
 cases h with
 |nil=>cases h';rfl
 |cons h r =>
  cases h' with
  |cons h' r' =>
   rw[LO,zb6] at n1 n2;rw[oO I n1.1 n2.1 h h',HN I n1.2 n2.2 r r']
end
def vat (r:Vals xs aa)(j:Nat)(h:j<aa.toArray.size):∃x,xs[j]?=some x/\RelV x aa.toArray[j]:=by
 have h':j<aa.length:=by simpa using h
 have hx:j<xs.length:=by rw[r.length];exact h'
 obtain⟨u,hu,ru⟩:=r.get (za7 hx);rw[za7 h'] at hu;refine⟨xs[j],za7 hx,?_⟩;have e:aa.toArray[j]=u:=by simpa using hu
 rw[e];exact ru
def Yc {ds:List D}(h:ds[j]?=some d):ds.getD j .AV=d:=by rw[zai,h];rfl
def sS (I:Inv X pins σ H s)(n:Nat):∀(A:Around) (d e:D) (v w:V) (u1 u2:Value),TV d<=n->CC d=true->CC e=true->A.units+n<cLine->BS X.K H v d->BS X.K H w e->RelV v u1->RelV w u2->SeqAt.EqAt A s u1 u2 (By d e)/\SeqAt.RcAt A s u1 u2 (By d e)/\SeqAt.RcNeAt A s u1 u2 (!By d e):=by
 induction n using Nat.strongRecOn with
 |ind n ih =>
  intro A d e v w u1 u2 hd aA ap hu h1 h2 r1 r2;have aj:A.units<cLine:=by omega
  have el:∀ {xs ys:List V} {ds es:List D} {aa its':List Value},Vals xs aa->Vals ys its'->Aj X.K H xs ds->Aj X.K H ys es->LO ds=true->LO es=true->Sr ds<n->∀(j:Nat) (h1:j<aa.toArray.size) (h2:j<its'.toArray.size),SeqAt.EqAt A.in1 s aa.toArray[j] its'.toArray[j] (By (ds.getD j .AV) (es.getD j .AV)):=λ rv d4 r r' n1 n2 hn j h1 h2=>by
   obtain⟨x,hx,rx⟩:=vat rv j h1;obtain⟨y,hy,ry⟩:=vat d4 j h2;obtain⟨dx,ex,xt⟩:=r.wJ hx;obtain⟨dy,ey,xu⟩:=r'.wJ hy;rw[Yc ex,Yc ey];exact (ih _ hn A.in1 dx dy x y _ _ (Y8 (zan ex)) (Sq (zan ex) n1) (Sq (zan ey) n2) (by show A.units+1+_<cLine;omega) xt xu rx ry).1
  cases h1 with
  |Gm _ _|TU _ _|Ur _ _|ins _ _ _=>simp[CC] at aA
  |AV =>
   cases r1;cases h2 with
   |Gm _ _|TU _ _|Ur _ _|ins _ _ _=>simp[CC] at ap
   |AV=>cases r2;simp only[By];exact⟨.same _,.none_none,.none_none⟩
   |bl b=>cases r2;simp only[By];exact⟨.none_bool _,.none_bool _,.none_bool _⟩
   |int b=>obtain⟨t,rfl⟩:=r2;simp only[By];exact⟨.none_int _ _,.none_int _ _,.none_int _ _⟩
   |str b=>obtain⟨t,rfl⟩:=r2;simp only[By];exact⟨.none_str _ _,.none_str _ _,.none_str _ _⟩
   |tup h r=>cases r2;simp only[By];obtain⟨_,_,p,_⟩:=I.tuple (.of h);exact⟨.none_tuple p aj,.none_tuple p aj,.none_tuple p aj⟩
   |lst h r=>cases r2;simp only[By];obtain⟨_,_,p,_⟩:=I.list h;exact⟨.none_list p.isList aj,.none_list p.isList aj,.none_list p.isList aj⟩
  |bl a =>
   cases r1;cases h2 with
   |Gm _ _|TU _ _|Ur _ _|ins _ _ _=>simp[CC] at ap
   |AV=>cases r2;simp only[By];exact⟨.bool_none _,.bool_none _,.bool_none _⟩
   |bl b=>cases r2;simp only[By];exact⟨.bool_bool _ _,.bool_bool _ _,.bool_bool _ _⟩
   |int b=>obtain⟨t,rfl⟩:=r2;simp only[By];exact⟨.bool_int _ _ _,.bool_int _ _ _,.bool_int _ _ _⟩
   |str b=>obtain⟨t,rfl⟩:=r2;simp only[By];exact⟨.bool_str _ _ _,.bool_str _ _ _,.bool_str _ _ _⟩
   |tup h r=>cases r2;simp only[By];obtain⟨_,_,p,_⟩:=I.tuple (.of h);exact⟨.bool_tuple _ p aj,.bool_tuple _ p aj,.bool_tuple _ p aj⟩
   |lst h r=>cases r2;simp only[By];obtain⟨_,_,p,_⟩:=I.list h;exact⟨.bool_list _ p.isList aj,.bool_list _ p.isList aj,.bool_list _ p.isList aj⟩
  |int a =>
   obtain⟨t',rfl⟩:=r1;cases h2 with
   |Gm _ _|TU _ _|Ur _ _|ins _ _ _=>simp[CC] at ap
   |AV=>cases r2;simp only[By];exact⟨.int_none _ _,.int_none _ _,.int_none _ _⟩
   |bl b=>cases r2;simp only[By];exact⟨.int_bool _ _ _,.int_bool _ _ _,.int_bool _ _ _⟩
   |int b=>obtain⟨t,rfl⟩:=r2;simp only[By];exact⟨.int_int _ _ _ _,.int_int _ _ _ _,.int_int _ _ _ _⟩
   |str b=>obtain⟨t,rfl⟩:=r2;simp only[By];exact⟨.int_str _ _ _ _,.int_str _ _ _ _,.int_str _ _ _ _⟩
   |tup h r=>cases r2;simp only[By];obtain⟨_,_,p,_⟩:=I.tuple (.of h);exact⟨.int_tuple _ _ p aj,.int_tuple _ _ p aj,.int_tuple _ _ p aj⟩
   |lst h r=>cases r2;simp only[By];obtain⟨_,_,p,_⟩:=I.list h;exact⟨.int_list _ _ p.isList aj,.int_list _ _ p.isList aj,.int_list _ _ p.isList aj⟩
  |str a =>
   obtain⟨t',rfl⟩:=r1;cases h2 with
   |Gm _ _|TU _ _|Ur _ _|ins _ _ _=>simp[CC] at ap
   |AV=>cases r2;simp only[By];exact⟨.str_none _ _,.str_none _ _,.str_none _ _⟩
   |bl b=>cases r2;simp only[By];exact⟨.str_bool _ _ _,.str_bool _ _ _,.str_bool _ _ _⟩
   |int b=>obtain⟨t,rfl⟩:=r2;simp only[By];exact⟨.str_int _ _ _ _,.str_int _ _ _ _,.str_int _ _ _ _⟩
   |str b=>obtain⟨t,rfl⟩:=r2;simp only[By];exact⟨.str_str _ _ _ _,.str_str _ _ _ _,.str_str _ _ _ _⟩
   |tup h r=>cases r2;simp only[By];obtain⟨_,_,p,_⟩:=I.tuple (.of h);exact⟨.str_tuple _ _ p aj,.str_tuple _ _ p aj,.str_tuple _ _ p aj⟩
   |lst h r=>cases r2;simp only[By];obtain⟨_,_,p,_⟩:=I.list h;exact⟨.str_list _ _ p.isList aj,.str_list _ _ p.isList aj,.str_list _ _ p.isList aj⟩
  | @tup a xs ds h r =>
   cases r1;obtain⟨aa,rv,p,_⟩:=I.tuple (.of h);cases h2 with
   |Gm _ _|TU _ _|Ur _ _|ins _ _ _=>simp[CC] at ap
   |AV=>cases r2;simp only[By];exact⟨.tuple_none p aj,.tuple_none p aj,.tuple_none p aj⟩
   |bl b=>cases r2;simp only[By];exact⟨.tuple_bool _ p aj,.tuple_bool _ p aj,.tuple_bool _ p aj⟩
   |int b=>obtain⟨t,rfl⟩:=r2;simp only[By];exact⟨.tuple_int _ _ p aj,.tuple_int _ _ p aj,.tuple_int _ _ p aj⟩
   |str b=>obtain⟨t,rfl⟩:=r2;simp only[By];exact⟨.tuple_str _ _ p aj,.tuple_str _ _ p aj,.tuple_str _ _ p aj⟩
   | @lst a2 qv es h' r'=>cases r2;simp only[By];obtain⟨_,_,p',_⟩:=I.list h';exact⟨.tuple_list p p'.isList aj,.tuple_list p p'.isList aj,.tuple_list p p'.isList aj⟩
   | @tup a2 qv es h' r' =>
    cases r2;obtain⟨its',d4,p',_⟩:=I.tuple (.of h');have z1:aa.toArray.size=ds.length:=by rw[zad,<-rv.length,r.length]
    have z2:its'.toArray.size=es.length:=by rw[zad,<-d4.length,r'.length]
    have hj:=el rv d4 r r' (by rw[CC] at aA;exact aA) (by rw[CC] at ap;exact ap) (by rw[TV] at hd;omega);have q:=SeqAt.RcAt.tuples (A:=A) (e:=λ j=>By (ds.getD j .AV) (es.getD j .AV)) p p' aj hj;have q':=SeqAt.RcNeAt.tuples (A:=A) (e:=λ j=>By (ds.getD j .AV) (es.getD j .AV)) p p' aj hj;rw[z1,z2,fO] at q q';simp only[By];by_cases ha:a=a2
    ·subst ha;have e':=I.J7 (.of h) (.of h');subst e';have e2:=HN I (by rw[CC] at aA;exact aA) (by rw[CC] at ap;exact ap) r r';subst e2;rw[CU] at q q' ⊢;exact⟨.same _,q,q'⟩
    ·exact⟨.of_refs ha q,q,q'⟩
  | @lst a xs ds h r =>
   cases r1;obtain⟨aa,rv,p,_⟩:=I.list h;cases h2 with
   |Gm _ _|TU _ _|Ur _ _|ins _ _ _=>simp[CC] at ap
   |AV=>cases r2;simp only[By];exact⟨.list_none p.isList aj,.list_none p.isList aj,.list_none p.isList aj⟩
   |bl b=>cases r2;simp only[By];exact⟨.list_bool _ p.isList aj,.list_bool _ p.isList aj,.list_bool _ p.isList aj⟩
   |int b=>obtain⟨t,rfl⟩:=r2;simp only[By];exact⟨.list_int _ _ p.isList aj,.list_int _ _ p.isList aj,.list_int _ _ p.isList aj⟩
   |str b=>obtain⟨t,rfl⟩:=r2;simp only[By];exact⟨.list_str _ _ p.isList aj,.list_str _ _ p.isList aj,.list_str _ _ p.isList aj⟩
   | @tup a2 qv es h' r'=>cases r2;simp only[By];obtain⟨_,_,p',_⟩:=I.tuple (.of h');exact⟨.list_tuple p.isList p' aj,.list_tuple p.isList p' aj,.list_tuple p.isList p' aj⟩
   | @lst a2 qv es h' r' =>
    cases r2;obtain⟨its',d4,p',_⟩:=I.list h';have z1:aa.toArray.size=ds.length:=by rw[zad,<-rv.length,r.length]
    have z2:its'.toArray.size=es.length:=by rw[zad,<-d4.length,r'.length]
    have hj:=el rv d4 r r' (by rw[CC] at aA;exact aA) (by rw[CC] at ap;exact ap) (by rw[TV] at hd;omega);have qq:SeqAt.RcAt A s (.ref a) (.ref a2) (Cw ds es)/\SeqAt.RcNeAt A s (.ref a) (.ref a2) (!Cw ds es):=by
     by_cases hz:aa.toArray.size=its'.toArray.size
     ·have q:=SeqAt.RcAt.lists (A:=A) (e:=λ j=>By (ds.getD j .AV) (es.getD j .AV)) p.isList p'.isList hz aj hj;have q':=SeqAt.RcNeAt.lists (A:=A) (e:=λ j=>By (ds.getD j .AV) (es.getD j .AV)) p.isList p'.isList hz aj hj;rw[z1,JT ds es (by rw[<-z1,<-z2,hz])] at q q';exact⟨q,q'⟩
     ·rw[Y9 (by rw[<-z1,<-z2];exact hz)];exact⟨.lists_lengths p.isList p'.isList (by simpa using hz) aj,.lists_lengths p.isList p'.isList (by simpa using hz) aj⟩
    obtain⟨q,q'⟩:=qq;simp only[By];by_cases ha:a=a2
    ·subst ha;have e':=I.HG h h';subst e';have e2:=HN I (by rw[CC] at aA;exact aA) (by rw[CC] at ap;exact ap) r r';subst e2;rw[CU] at q q' ⊢;exact⟨.same _,q,q'⟩
    ·exact⟨.of_refs ha q,q,q'⟩
abbrev oP (K:za1)(A:Around)(neg:Bool):R2:=λ x y H Q=>∃d e,BS K H x d/\BS K H y e/\A.units+TV d<cLine/\CC d=true/\CC e=true/\Q (.bl (if neg=true then !By d e else By d e)) H
def fP:HI X (compareOp .Eq) (oP X.K X.A false):=by
 intro pins s σ H x y v u Q I rx ry h;obtain⟨d,e,hd,he,hu,n1,n2,q⟩:=h;exact (sS I (TV d) X.A d e x y v u (zaf _) n1 n2 hu hd he rx ry).2.1 X.prog X.w X.xe _ ⟨.bl _,H,I,rfl,q⟩
def wK:HI X (compareOp .NotEq) (oP X.K X.A true):=by
 intro pins s σ H x y v u Q I rx ry h;obtain⟨d,e,hd,he,hu,n1,n2,q⟩:=h;exact (sS I (TV d) X.A d e x y v u (zaf _) n1 n2 hu hd he rx ry).2.2 X.prog X.w X.xe _ ⟨.bl _,H,I,rfl,q⟩
inductive OT where
 |sh (d:D)|lst (ts:List OT)|tup (ts:List OT)|BR (t:Bool) (ks:List D) (ts:List OT)|ins (x:Str) (ns:List Str) (ts:List OT)
inductive Ow where
 |rows (C2:List (List D))
 |Ni (p:Nat) (ds:List D)
 |tree (p:Option Nat) (t:OT)
inductive Cl where
 |val (d:D)|own (ds:List D)|ow (o:Ow)
noncomputable abbrev Ad:=List (Option Cl)
inductive M (α:Type) where
 |ok (a:α)|ex (c:Str)|bad
variable {ρ:Ad}{g:Ad->M D}{ft:Ad->M Bool}{fi:Ad->M (List D)}
abbrev M.bind {α β:Type}(m:M α)(k:α->M β):M β:=match m with
 | .ok a=>k a
 | .ex c=>.ex c
 | .bad=>.bad
@[simp] theorem M.Aa {α β:Type}(a:α) (k:α->M β):(M.ok a).bind k=k a:=rfl
def Yd {α β:Type}{m}{k}{G:M β->Prop}{R:M α->Prop}(h:G (m.bind k))(hk:∀a,G (k a)->R (.ok a))(hb:G .bad->R .bad:=by exact λ h=>h)(hx:∀x,G (.ex x)->R (.ex x):=by exact λ _ h=>h):R m:=by
 cases m with
 |ok a=>exact hk a h
 |ex x=>exact hx x h
 |bad=>exact hb h
abbrev del (H:Hp)(P:Addr->Prop):Hp:=λ a=>open Classical in if P a then none else H a
def Az (h:¬ P a):del H P a=H a:=by unfold del;rw[if_neg h]
def EJ (h:P a):del H P a=none:=by unfold del;rw[if_pos h]
def Ao (h:del H P a=some o):¬ P a/\H a=some o:=by
 by_cases hp:P a
 ·rw[EJ hp] at h;cases h
 ·rw[Az hp] at h;exact⟨hp,h⟩
def Rd.Bh (r:Rd (del H P) a u):Rd H a u:=r.elim (λ h=>.inl (Ao h).2) λ⟨o,h⟩=>.inr ⟨o,(Ao h).2⟩
def Ah.del {H H':Hp}{P:Addr->Prop}(e:Ah H H'):Ah (del H P) (del H' P):=λ b o h=>by
 obtain⟨h1,h2⟩:=Ao h;rw[Az h1];exact e b o h2
def D5 (h:∀a,P' a->P a):Ah (L2.del H P) (L2.del H P'):=λ b o e=>by
 obtain⟨h1,h2⟩:=Ao e;rw[Az λ z=>h1 (h b z)];exact h2
def EK:Ah (L2.del H P) H:=λ b o e=>(Ao e).2
abbrev ED (H:Hp)(a:Addr):Prop:=∃o,H a=some o/\∀xs,o≠.tup xs/\∀z,o≠.Hg z (.tup xs)
def ED.same (h:ED H a)(e:Ah H H'):ED H' a:=let ⟨o,q,r⟩:=h;⟨o,e a o q,r⟩
def ED.no (h:ED H a)(e:H a=none):False:=by
 obtain⟨o,q,r⟩:=h;rw[e] at q;cases q
def ED.lst (h:H a=some (.lst xs)):ED H a:=⟨_,h,λ _=>⟨λ z=>(by cases z),λ _ z=>by cases z⟩⟩
mutual
inductive C3 (K:za1) (H:Hp) (P:Addr->Prop):V->OT->List Addr->Prop
 |sh {v d}:BS K (del H P) v d->C3 K H P v (.sh d) []
 |lst {p xs ts fp}:H p=some (.lst xs)->Av K H P xs ts fp->C3 K H P (.ref p) (.lst ts) (p::fp)
 |tup {p xs ts fp}:del H P p=some (.tup xs)->Av K H P xs ts fp->C3 K H P (.ref p) (.tup ts) fp
 |dK {p kvs ts fp}:H p=some (.dK kvs)->Av K H P (kvs.map zbx) ts fp->C3 K H P (.ref p) (.BR false (kvs.map λ kv=>CB kv.1) ts) (p::fp)
 |dT {p kvs ts fp}:H p=some (.dT kvs)->Av K H P (kvs.map zbx) ts fp->C3 K H P (.ref p) (.BR true (kvs.map λ kv=>.tup (kv.1.map CB)) ts) (p::fp)
 |ins {p C dx fs ts fp x}:zas K mainGlobals x=some (some (.ref C))->H p=some (.ins C dx fs)->Av K H P (fs.map zbx) ts fp->C3 K H P (.ref p) (.ins x (fs.map zay) ts) (p::fp)
inductive Av (K:za1) (H:Hp) (P:Addr->Prop):List V->List OT->List Addr->Prop
 |nil:Av K H P [] [] []
 |cons {v t fp vs ts fq}:C3 K H P v t fp->Av K H P vs ts fq->Av K H P (v::vs) (t::ts) (fp++fq)
end
mutual
noncomputable def er:OT->D
 | .sh d=>d
 | .lst ts=>.lst (QA ts)
 | .tup ts=>.tup (QA ts)
 | .BR t ks ts=>.BR t ks (QA ts)
 | .ins x ns ts=>.ins x ns (QA ts)
noncomputable def QA:List OT->List D
 |[]=>[]
 |t::r=>er t::QA r
end
def Ss:∀ts:List OT,QA ts=ts.map er
 |[]=>rfl
 |t::r=>by rw[QA,Ss r,za6]
mutual
theorem C3.move {K:za1}{H H':Hp}{P P':Addr->Prop}(sm:Ah (del H P) (del H' P')):∀ {v:V}{t:OT}{fp:List Addr},(∀a∈fp,H' a=H a)->C3 K H P v t fp->C3 K H' P' v t fp:=by
 intro _ _ _ k x_;cases x_ with
 |sh h=>exact .sh (h.mono sm)
 |lst h r=>exact .lst ((k _ za3).trans h) (Av.move sm (λ a ha=>k a (za4 _ ha)) r)
 |tup h r=>exact .tup (sm _ _ h) (Av.move sm k r)
 |dK h r=>exact .dK ((k _ za3).trans h) (Av.move sm (λ a ha=>k a (za4 _ ha)) r)
 |dT h r=>exact .dT ((k _ za3).trans h) (Av.move sm (λ a ha=>k a (za4 _ ha)) r)
 |ins n h r=>exact .ins n ((k _ za3).trans h) (Av.move sm (λ a ha=>k a (za4 _ ha)) r)
theorem Av.move {K:za1}{H H':Hp}{P P':Addr->Prop}(sm:Ah (del H P) (del H' P')):∀ {v:List V}{t:List OT}{fp:List Addr},(∀a∈fp,H' a=H a)->Av K H P v t fp->Av K H' P' v t fp:=by
 intro _ _ _ k x_;cases x_ with
 |nil=>exact .nil
 |cons h r=>exact .cons (C3.move sm (λ a ha=>k a (zb5 _ ha)) h) (Av.move sm (λ a ha=>k a (zac _ ha)) r)
end
mutual
theorem C3.BQ {K:za1}{H:Hp}{P:Addr->Prop}:∀ {v:V}{t:OT}{fp:List Addr},C3 K H P v t fp->∀a∈fp,ED H a:=by
 intro _ _ _ x_ a ha;cases x_ with
 |sh h=>cases ha
 |lst h r =>
  rcases zab.mp ha with rfl|ha
  ·exact .lst h
  ·exact Av.BQ r a ha
 |tup h r=>exact Av.BQ r a ha
 |dK h r =>
  rcases zab.mp ha with rfl|ha
  ·exact⟨_,h,λ _=>⟨λ z=>(by cases z),λ _ z=>by cases z⟩⟩
  ·exact Av.BQ r a ha
 |dT h r =>
  rcases zab.mp ha with rfl|ha
  ·exact⟨_,h,λ _=>⟨λ z=>(by cases z),λ _ z=>by cases z⟩⟩
  ·exact Av.BQ r a ha
 |ins n h r =>
  rcases zab.mp ha with rfl|ha
  ·exact⟨_,h,λ _=>⟨λ z=>(by cases z),λ _ z=>by cases z⟩⟩
  ·exact Av.BQ r a ha
theorem Av.BQ {K:za1}{H:Hp}{P:Addr->Prop}:∀ {v:List V}{t:List OT}{fp:List Addr},Av K H P v t fp->∀a∈fp,ED H a:=by
 intro _ _ _ x_ a ha;cases x_ with
 |nil=>cases ha
 |cons h r =>
  rcases zao.mp ha with ha|ha
  ·exact C3.BQ h a ha
  ·exact Av.BQ r a ha
end
mutual
theorem C3.BM {K:za1}{H:Hp}{P P':Addr->Prop}{v:V}{t:OT}{fp ah:List Addr}(z:C3 K H P v t fp)(x:C3 K H P' v t ah):fp=ah:=by
 cases z with
 |sh _=>cases x;rfl
 |lst h r =>
  cases x with
  |lst h' r' =>
   rw[h] at h';cases h';rw[Av.BM r r']
 |tup h r =>
  cases x with
  |tup h' r' =>
   have e:=(Ao h).2.symm.trans (Ao h').2;cases e;exact Av.BM r r'
 | @dK _ kvs ts _ h r =>
  generalize ht:OT.BR false (kvs.map λ kv=>CB kv.1) ts=t at x;cases x with
  |dK h' r' =>
   rw[h] at h';cases h';injection ht with _ _ e
   subst e;rw[Av.BM r r']
  |dT h' r'=>rw[h] at h';cases h'
  |_=>cases ht
 | @dT _ kvs ts _ h r =>
  generalize ht:OT.BR true (kvs.map λ kv=>D.tup (kv.1.map CB)) ts=t at x;cases x with
  |dT h' r' =>
   rw[h] at h';cases h';injection ht with _ _ e
   subst e;rw[Av.BM r r']
  |dK h' r'=>rw[h] at h';cases h'
  |_=>cases ht
 | @ins _ _ _ fs ts _ y n h r =>
  generalize ht:OT.ins y (fs.map zay) ts=t at x;cases x with
  |ins n' h' r' =>
   rw[h] at h';cases h';injection ht with _ _ e
   subst e;rw[Av.BM r r']
  |_=>cases ht
theorem Av.BM {K:za1}{H:Hp}{P P':Addr->Prop}{v:List V}{t:List OT}{fp ah:List Addr}(z:Av K H P v t fp)(x:Av K H P' v t ah):fp=ah:=by
 cases z with
 |nil=>cases x;rfl
 |cons h r =>
  cases x with
  |cons h' r'=>rw[C3.BM h h',Av.BM r r']
end
mutual
theorem C3.has {K:za1}{H:Hp}{P P0:Addr->Prop}(hs:∀a,P0 a->P a):∀ {v:V}{t:OT}{fp:List Addr},(∀a∈fp,¬ P0 a)->C3 K H P v t fp->BS K (del H P0) v (er t):=by
 intro _ _ _ k x_;cases x_ with
 |sh h=>rw[er];exact h.mono (D5 hs)
 |lst h r=>rw[er];exact .lst (.of (show del H P0 _=_ by rw[Az (k _ za3)];exact h)) (Av.has hs (λ a ha=>k a (za4 _ ha)) r)
 |tup h r=>rw[er];exact .tup (D5 hs _ _ h) (Av.has hs k r)
 |dK h r=>rw[er];exact .TU (.inl (show del H P0 _=_ by rw[Az (k _ za3)];exact h)) (Av.has hs (λ a ha=>k a (za4 _ ha)) r)
 |dT h r=>rw[er];exact .Ur (.inl (show del H P0 _=_ by rw[Az (k _ za3)];exact h)) (Av.has hs (λ a ha=>k a (za4 _ ha)) r)
 |ins n h r=>rw[er];exact .ins n (show del H P0 _=_ by rw[Az (k _ za3)];exact h) (Av.has hs (λ a ha=>k a (za4 _ ha)) r)
theorem Av.has {K:za1}{H:Hp}{P P0:Addr->Prop}(hs:∀a,P0 a->P a):∀ {v:List V}{t:List OT}{fp:List Addr},(∀a∈fp,¬ P0 a)->Av K H P v t fp->Aj K (del H P0) v (QA t):=by
 intro _ _ _ k x_;cases x_ with
 |nil=>rw[QA];exact .nil
 |cons h r=>rw[QA];exact .cons (C3.has hs (λ a ha=>k a (zb5 _ ha)) h) (Av.has hs (λ a ha=>k a (zac _ ha)) r)
end
inductive BJ (K:za1) (H:Hp) (P:Addr->Prop):List Addr->List (List D)->Prop
 |nil:BJ K H P [] []
 |cons {q:Addr} {xs:List V} {ds:List D} {ps:List Addr} {C2:List (List D)}:H q=some (.lst xs)->Aj K (del H P) xs ds->BJ K H P ps C2->BJ K H P (q::ps) (ds::C2)
abbrev D6 (K:za1)(H:Hp)(P:Addr->Prop):Cl->V->List Addr->Prop
 | .own ds,v,fp=>∃p xs,v=.ref p/\fp=[p]/\H p=some (.lst xs)/\Aj K (del H P) xs ds
 | .ow (.rows C2),v,fp=>∃p ps,v=.ref p/\fp=p::ps/\H p=some (.lst (ps.map V.ref))/\BJ K H P ps C2
 | .ow (.Ni _ ds),v,fp=>∃p xs,v=.ref p/\fp=[p]/\H p=some (.lst xs)/\Aj K (del H P) xs ds
 | .ow (.tree _ t),v,fp=>C3 K H P v t fp
 | .val _,_,_=>False
abbrev HA:Cl->Bool
 | .val _=>false
 |_=>true
def BJ.move {K:za1}{H H':Hp}{P P':Addr->Prop}(sm:Ah (del H P) (del H' P')):∀ {ps:List Addr}{C2:List (List D)},(∀a∈ps,H' a=H a)->BJ K H P ps C2->BJ K H' P' ps C2:=by
 intro _ _ k x_;cases x_ with
 |nil=>exact .nil
 |cons h r t=>exact .cons ((k _ za3).trans h) (r.mono sm) (BJ.move sm (λ a ha=>k a (za4 _ ha)) t)
def BJ.at {K:za1}{H:Hp}{P:Addr->Prop}:∀ {ps:List Addr}{C2:List (List D)},BJ K H P ps C2->∀a∈ps,∃xs,H a=some (.lst xs)
 |_,_,.nil,a,h=>by cases h
 |_,_,.cons h r t,a,ha=>by
  rcases zab.mp ha with rfl|ha
  ·exact⟨_,h⟩
  ·exact t.at a ha
def BJ.length {K}:∀ {ps:List Addr}{C2:List (List D)},BJ K H P ps C2->ps.length=C2.length:=by
 intro _ _ x_;cases x_ with
 |nil=>exact rfl
 |cons h r t=>rw[zaa,zaa,t.length]
def BJ.get {K:za1}{H:Hp}{P:Addr->Prop}:∀ {ps:List Addr}{C2:List (List D)}{i:Nat}{ds:List D},BJ K H P ps C2->C2[i]?=some ds->∃q xs,ps[i]?=some q/\H q=some (.lst xs)/\Aj K (del H P) xs ds
 |_,_,_,_,.nil,e=>by simp at e
 |_,_,0,_,.cons h r _,e=>by simp at e;subst e;exact⟨_,_,rfl,h,r⟩
 |_,_,i+1,ds,.cons _ _ t,e=>by
  obtain⟨q,xs,h1,h2⟩:=BJ.get (i:=i) (ds:=ds) t (by simpa using e);exact⟨q,xs,by simpa using h1,h2⟩
def Ut:∀ {ps qs:List Addr},ps.map V.ref=qs.map V.ref->ps=qs
 |[],[],_=>rfl
 |[],_::_,h|_::_,[],h=>by cases h
 |p::ps,q::qs,h=>by
  rw[za6,za6] at h;injection h with h1 h2
  injection h1 with h1
  rw[h1,Ut h2]
def D6.move {K}(sm:Ah (del H P) (del H' P'))(k:∀a∈fp,H' a=H a)(h:D6 K H P c v fp):D6 K H' P' c v fp:=by
 cases c with
 |val d=>exact h
 |own ds =>
  obtain⟨p,xs,rfl,rfl,h1,h2⟩:=h;exact⟨p,xs,rfl,rfl,(k p za3).trans h1,h2.mono sm⟩
 |ow o =>
  cases o with
  |rows C2 =>
   obtain⟨p,ps,rfl,rfl,h1,h2⟩:=h;exact⟨p,ps,rfl,rfl,(k p za3).trans h1,h2.move sm λ a ha=>k a (za4 _ ha)⟩
  |Ni p ds =>
   obtain⟨p,xs,rfl,rfl,h1,h2⟩:=h;exact⟨p,xs,rfl,rfl,(k p za3).trans h1,h2.mono sm⟩
  |tree p t=>exact C3.move sm k h
def D6.at {K}(h:D6 K H P c v fp):∀a∈fp,∃o,H a=some o:=by
 cases c with
 |val d=>exact h.elim
 |own ds =>
  obtain⟨p,xs,rfl,rfl,h1,h2⟩:=h;exact λ a ha=>⟨.lst xs,by rw[za9.mp ha];exact h1⟩
 |ow o =>
  cases o with
  |rows C2 =>
   obtain⟨p,ps,rfl,rfl,h1,h2⟩:=h;intro a ha;rcases zab.mp ha with rfl|ha
   ·exact⟨_,h1⟩
   ·obtain⟨xs,q⟩:=h2.at a ha;exact⟨_,q⟩
  |Ni p ds =>
   obtain⟨p,xs,rfl,rfl,h1,h2⟩:=h;exact λ a ha=>⟨.lst xs,by rw[za9.mp ha];exact h1⟩
  |tree p t =>
   intro a ha;obtain⟨o,q,_⟩:=C3.BQ h a ha;exact⟨o,q⟩
def D6.same {K}(e:Ah H H')(h:D6 K H P c v fp):D6 K H' P c v fp:=
 h.move e.del λ a ha=>by obtain⟨xs,q⟩:=h.at a ha;rw[q];exact e _ _ q
def D6.BM {K}(h:D6 K H P c v fp)(h':D6 K H P' c v ah):fp=ah:=by
 cases c with
 |val d=>exact h.elim
 |own ds =>
  obtain⟨p,xs,rfl,rfl,h1,h2⟩:=h;obtain⟨p',fm,e,rfl,nk,i7⟩:=h';cases e;rfl
 |ow o =>
  cases o with
  |rows C2 =>
   obtain⟨p,ps,rfl,rfl,h1,h2⟩:=h;obtain⟨p',ps',e,rfl,nk,i7⟩:=h';cases e;rw[h1] at nk;injection nk with e
   injection e with e
   rw[Ut e]
  |Ni p ds =>
   obtain⟨p,xs,rfl,rfl,h1,h2⟩:=h;obtain⟨p',fm,e,rfl,nk,i7⟩:=h';cases e;rfl
  |tree p t=>exact C3.BM h h'
structure Ef where
 pr:Addr->Prop
 g:Nat->Addr
instance:CoeFun Ef (λ _=>Addr->Prop):=⟨Ef.pr⟩
instance:Coe Ef (Addr->Prop):=⟨Ef.pr⟩
abbrev Rc:Cl->Option Nat
 | .ow (.Ni n _)=>some n
 | .ow (.tree (some n) _)=>some n
 |_=>none
structure An (K:za1)(P0:Ef)(P:Addr->Prop)(H:Hp)(σ:St)(ρ:Ad):Prop where
 sub:∀a,P0 a->P a
 BQ:∀a,P a->ED H a
 val:∀(i:Nat) d,ρ[i]?=some (some (.val d))->∃v,σ[i]?=some (some v)/\BS K (del H P) v d
 ows:∀(i:Nat) c,ρ[i]?=some (some c)->HA c=true->∃v fp,σ[i]?=some (some v)/\D6 K H P c v fp/\(∀a∈fp,P a/\¬ P0 a)/\fp.Nodup
 apart:∀(i j:Nat) c c' v v' fp ah,ρ[i]?=some (some c)->ρ[j]?=some (some c')->σ[i]?=some (some v)->σ[j]?=some (some v')->D6 K H P c v fp->D6 K H P c' v' ah->i≠j->∀a∈fp,a∉ah
 len:σ.length=ρ.length
 pin:∀(i:Nat) c n,ρ[i]?=some (some c)->Rc c=some n->σ[i]?=some (some (.ref (P0.g n)))
def An.own {K}(E:An K P0 P H σ ρ)(i:Nat)(ds:List D)(h:ρ[i]?=some (some (.own ds))):
 ∃p xs,σ[i]?=some (some (.ref p))/\H p=some (.lst xs)/\P p/\¬ P0 p/\Aj K (del H P) xs ds:=by
 obtain⟨v,fp,h1,⟨p,xs,rfl,rfl,h2,h3⟩,h4,_⟩:=E.ows i _ h rfl;exact⟨p,xs,h1,h2,(h4 p za3).1,(h4 p za3).2,h3⟩
def An.fQ {K}(E:An K P0 P H σ ρ)(sm:Ah (del H P) (del H' P')){i:Nat}(ki:∀v fp,σ[i]?=some (some v)->D6 K H P c v fp->∀a∈fp,H' a=H a)(kj:∀v fp,σ[j]?=some (some v)->D6 K H P c' v fp->∀a∈fp,H' a=H a)(hi:ρ[i]?=some (some c))(hj:ρ[j]?=some (some c'))(si:σ[i]?=some (some v))(sj:σ[j]?=some (some v'))(h:D6 K H' P' c v fp)(h':D6 K H' P' c' v' ah)(ae:i≠j):∀a∈fp,a∉ah:=by
 have key:∀(k:Nat) (d:Cl) (w:V) (fq:List Addr),ρ[k]?=some (some d)->σ[k]?=some (some w)->(∀v fp,σ[k]?=some (some v)->D6 K H P d v fp->∀a∈fp,H' a=H a)->D6 K H' P' d w fq->D6 K H P d w fq:=λ k d w fq hk sk kk ho=>by
  have io:HA d=true:=by cases d<;>first|rfl|exact ho.elim
  obtain⟨w',bG,s2,o2,_⟩:=E.ows k d hk io;rw[sk] at s2;cases s2;have o3:=o2.move sm (kk _ _ sk o2);rw[ho.BM o3];exact o2
 exact E.apart i j c c' v v' fp ah hi hj si sj (key i c v fp hi si ki h) (key j c' v' ah hj sj kj h') ae
def An.same {K}(E:An K P0 P H σ ρ)(e:Ah H H'):An K P0 P H' σ ρ:=
 ⟨E.sub,λ a h=>(E.BQ a h).same e,λ i d h=>let ⟨v,h1,h2⟩:=E.val i d h;⟨v,h1,h2.mono e.del⟩,
  λ i c h io=>let ⟨v,fp,h1,h2,h3,h4⟩:=E.ows i c h io;⟨v,fp,h1,h2.same e,h3,h4⟩,
  λ i j c c' v v' fp ah hi hj si sj h h' ae=>E.fQ e.del (λ v fp _ o a ha=>by obtain⟨xs,q⟩:=o.at a ha;rw[q];exact e _ _ q) (λ v fp _ o a ha=>by obtain⟨xs,q⟩:=o.at a ha;rw[q];exact e _ _ q) hi hj si sj h h' ae,E.len,E.pin⟩
abbrev gV (K:za1)(WX:Str->Hp->Prop)(P:Addr->Prop)(H:Hp)(Q:VK):M D->Prop
 | .ok d=>∀v H',Ah H H'->BS K (del H' P) v d->Q v H'
 | .ex x=>∀H',Ah H H'->WX x H'
 | .bad=>False
abbrev gA (K:za1)(WX:Str->Hp->Prop)(P:Addr->Prop)(H:Hp)(Q:List V->Hp->Prop):M (List D)->Prop
 | .ok d=>∀v H',Ah H H'->Aj K (del H' P) v d->Q v H'
 | .ex x=>∀H',Ah H H'->WX x H'
 | .bad=>False
abbrev gT (WX:Str->Hp->Prop)(H:Hp)(Q:Bool->Hp->Prop):M Bool->Prop
 | .ok b=>∀H',Ah H H'->Q b H'
 | .ex x=>∀H',Ah H H'->WX x H'
 | .bad=>False
section
variable {K:za1}{P:Addr->Prop}{H':Hp}
def gV.same (h:gV K WX P H Q m)(e:Ah H H'):gV K WX P H' Q m:=by
 cases m with
 |ok d=>exact λ v H2 q hv=>h v H2 (e.trans q) hv
 |ex x=>exact λ H2 q=>h H2 (e.trans q)
 |bad=>exact h
def gA.same (h:gA K WX P H Q m)(e:Ah H H'):gA K WX P H' Q m:=by
 cases m with
 |ok d=>exact λ v H2 q hv=>h v H2 (e.trans q) hv
 |ex x=>exact λ H2 q=>h H2 (e.trans q)
 |bad=>exact h
def gT.same (h:gT WX H Q m)(e:Ah H H'):gT WX H' Q m:=by
 cases m with
 |ok d|ex x=>exact λ H2 q=>h H2 (e.trans q)
 |bad=>exact h
end
abbrev Lv (c:Bool)(P0:Ef)(P:Addr->Prop):Addr->Prop:=if c=true then P else P0.pr
abbrev DE (X:Cx)(WX:Str->Hp->Prop)(c:Bool)(e:Expr)(f:Ad->M D):Prop:=
 ∃t,PE X e t/\∀P0 P σ H Q ρ,An X.K P0 P H σ ρ->gV X.K WX (Lv c P0 P) H Q (f ρ)->t σ H Q
abbrev DA (X:Cx)(WX:Str->Hp->Prop)(c:Bool)(es:List Expr)(f:Ad->M (List D)):Prop:=
 ∃t,PA X es t/\(∀P0 P σ H Q ρ,An X.K P0 P H σ ρ->gA X.K WX (Lv c P0 P) H Q (f ρ)->t σ H Q)/\∀ρ ds,f ρ=.ok ds->ds.length=es.length
abbrev DT (X:Cx)(WX:Str->Hp->Prop)(e:Expr)(f:Ad->M Bool):Prop:=
 ∃t,PT X e t/\∀P0 P σ H Q ρ,An X.K P0 P H σ ρ->gT WX H Q (f ρ)->t σ H Q
abbrev DW (X:Cx)(WX:Str->Hp->Prop)(e:Expr)(f:Ad->M Bool):Prop:=
 ∃t,PW X e t/\∀P0 P σ H Q ρ,An X.K P0 P H σ ρ->gT WX H Q (f ρ)->t σ H Q
def DW.dt (h:DW X WX e f):DT X WX e f:=let ⟨t,h1,h2⟩:=h;⟨t,h1.pt,h2⟩
section
variable {c:Bool}{P0:Ef}{P:Addr->Prop}
def An.lv (E:An X.K P0 P H σ ρ)(c:Bool):∀a,Lv c P0 P a->P a:=λ a h=>by
 cases c with
 |true=>exact h
 |false=>exact E.sub a h
def An.lvt (E:An X.K P0 P H σ ρ)(c:Bool):∀a,Lv c P0 P a->ED H a:=λ a h=>E.BQ a (E.lv c a h)
def WQ (h:DE X WX true e f):DE X WX false e f:=by
 obtain⟨t,h1,h2⟩:=h;refine⟨t,h1,λ P0 P σ H Q ρ E g=>h2 P0 P σ H Q ρ E ?_⟩;cases e:f ρ with
 |ok d=>rw[e] at g;exact λ v H' s hv=>g v H' s (hv.mono (D5 E.sub))
 |ex x|bad=>rw[e] at g;exact g
abbrev aaS:D->Bool
 | .tup _ | .lst _ | .Gm _ | .BR _ _ _ | .ins _ _ _=>false
 |_=>true
abbrev fl (m:M D):M D:=m.bind λ d=>if aaS d=true then .ok d else .bad
abbrev rv (i:Nat)(ρ:Ad):M D:=match ρ[i]? with | some (some (.val d))=>.ok d | _=>.bad
def wL (i:Nat)(h:PE X (.Name x pos) (O5 i)):DE X WX true (.Name x pos) (rv i):=by
 refine⟨_,h,λ P0 P σ H Q ρ E g=>?_⟩;unfold rv at g;split at g
 ·rename_i d e;obtain⟨v,h1,h2⟩:=E.val i d e;exact⟨v,h1,g v H (Ah.refl H) h2⟩
 ·exact g.elim
def A6 {i j pos}:DE X WX c (.Constant (.int i) j pos) (λ _=>.ok (.int i)):=⟨_,uP,λ P0 P σ H Q ρ E g=>g _ H (Ah.refl H) (.int i)⟩
def EL {b j pos}:DE X WX c (.Constant (.bool b) j pos) (λ _=>.ok (.bl b)):=⟨_,aai,λ P0 P σ H Q ρ E g=>g _ H (Ah.refl H) (.bl b)⟩
def Du {j pos}:DE X WX c (.Constant .none j pos) (λ _=>.ok .AV):=⟨_,uQ,λ P0 P σ H Q ρ E g=>g _ H (Ah.refl H) .AV⟩
abbrev Ye (K:za1)(WX:Str->Hp->Prop)(r:R2)(aN:D->D->M D):Prop:=
 ∀(P:Addr->Prop) (H:Hp) (x y:D) (v w:V) (Q:VK),(∀a,P a->ED H a)->BS K (del H P) v x->BS K (del H P) w y->gV K WX P H Q (aN x y)->r v w H Q
variable {a b:Expr}{f:Ad->M D}
def Uu (ha:∀P0 P σ H Q ρ,An X.K P0 P H σ ρ->gV X.K WX (Lv c P0 P) H Q (f ρ)->ta σ H Q)(hb:∀P0 P σ H Q ρ,An X.K P0 P H σ ρ->gV X.K WX (Lv c P0 P) H Q (g ρ)->tb σ H Q)(hr:Ye X.K WX r aN)(E:An X.K P0 P H σ ρ)(h:gV X.K WX (Lv c P0 P) H Q ((f ρ).bind λ x=>(g ρ).bind λ y=>aN x y)):zT r ta tb σ H Q:=by
 refine ha P0 P σ H _ ρ E ?_;cases e:f ρ with
 |bad|ex x=>rw[e] at h;exact h
 |ok x =>
  rw[e] at h;intro v H1 s1 hv;refine hb P0 P σ H1 _ ρ (E.same s1) ?_;cases e2:g ρ with
  |bad=>rw[e2] at h;exact h
  |ex y=>rw[e2] at h;exact gV.same (m:=.ex y) h s1
  |ok y =>
   rw[e2] at h;intro w H2 s2 hw;exact hr _ H2 x y v w Q (λ a q=>((E.same s1).same s2).lvt c a q) (hv.mono s2.del) hw ((gV.same h s1).same s2)
def Rf (ho:HI X (binaryOp op) r)(hr:Ye X.K WX r aN)(ha:DE X WX c a f)(hb:DE X WX c b g):DE X WX c (.BinOp a op b pos) (λ ρ=>(f ρ).bind λ x=>(g ρ).bind λ y=>aN x y):=by
 obtain⟨ta,a1,a2⟩:=ha;obtain⟨tb,b1,b2⟩:=hb;exact⟨_,eJ ho a1 b1,λ P0 P σ H Q ρ E h=>Uu a2 b2 hr E h⟩
def wM (ho:HI X (compareOp op) r)(hr:Ye X.K WX r aN)(ha:DE X WX c a f)(hb:DE X WX c b g)(hm:behindInMarks op b=false):DE X WX c (.Compare a [op] [b] pos) (λ ρ=>(f ρ).bind λ x=>(g ρ).bind λ y=>aN x y):=by
 obtain⟨ta,a1,a2⟩:=ha;obtain⟨tb,b1,b2⟩:=hb;exact⟨_,nL ho a1 b1 hm,λ P0 P σ H Q ρ E h=>Uu a2 b2 hr E h⟩
def aaT (ho:nV X r)(hr:Ye X.K WX r aN)(ha:DE X WX c a f)(hb:DE X WX c b g)(hs:J9 b):DE X WX c (.Subscript a b pos) (λ ρ=>(f ρ).bind λ x=>(g ρ).bind λ y=>aN x y):=by
 obtain⟨ta,a1,a2⟩:=ha;obtain⟨tb,b1,b2⟩:=hb;exact⟨_,Y4 ho a1 b1 hs,λ P0 P σ H Q ρ E h=>Uu a2 b2 hr E h⟩
abbrev BF (k:Int->Int->M D)(x y:D):M D:=match x,y with | .int i,.int j=>k i j | _,_=>.bad
def BS.int_inv {K}(h:BS K H v (.int i)):v=.int i:=by cases h;rfl
def BS.Om {K}(h:BS K H v (.bl i)):v=.bl i:=by cases h;rfl
def Su {C:Int->Int->Prop}{gv:Int->Int->V}{gd:Int->Int->D}[∀i j,Decidable (C i j)](hg:∀i j K H,BS K H (gv i j) (gd i j)):Ye X.K WX (rI C gv) (BF λ i j=>if C i j then .ok (gd i j) else .bad):=by
 intro P H x y v w Q ht hx hy h;unfold BF at h;split at h
 ·rename_i i j;rw[hx.int_inv,hy.int_inv];dsimp only at h;by_cases hc:C i j
  ·rw[if_pos hc] at h;exact⟨i,j,rfl,rfl,hc,h _ H (Ah.refl H) (hg i j _ _)⟩
  ·rw[if_neg hc] at h;exact h.elim
 ·exact h.elim
def NO {gd:Int->Int->D}(hg:∀i j K H,BS K H (gv i j) (gd i j)):Ye X.K WX (mR gv) (BF λ i j=>.ok (gd i j)):=by
 intro P H x y v w Q ht hx hy h;unfold BF at h;split at h
 ·rename_i i j;rw[hx.int_inv,hy.int_inv];exact⟨i,j,rfl,rfl,h _ H (Ah.refl H) (hg i j _ _)⟩
 ·exact h.elim
instance (i j:Int):Decidable (eK i j):=by unfold eK;infer_instance
instance (i j:Int):Decidable (nJ i j):=by unfold nJ;infer_instance
instance (i j:Int):Decidable (eL i j):=by unfold eL;infer_instance
abbrev wN:=BF λ i j=>.ok (.int (i+j))
abbrev aaU:=BF λ i j=>.ok (.int (i-j))
abbrev HP:=BF λ i j=>if 0<j then .ok (.int (i%j)) else .bad
abbrev Hj:=BF λ i j=>if eK i j then .ok (.int (i / j)) else .bad
abbrev Zs:=BF λ i j=>if nJ i j then .ok (.int (i^j.toNat)) else .bad
abbrev dLt:=BF λ i j=>.ok (.bl (decide (i<j)))
abbrev dLe:=BF λ i j=>.ok (.bl (decide (i<=j)))
abbrev dGt:=BF λ i j=>.ok (.bl (decide (j<i)))
abbrev dGe:=BF λ i j=>.ok (.bl (decide (j<=i)))
def Cq (ha:DE X WX c a f)(hb:DE X WX c b g):DE X WX c (.BinOp a .Add b pos) (λ ρ=>(f ρ).bind λ x=>(g ρ).bind λ y=>wN x y):=Rf vE (NO λ _ _ _ _=>.int _) ha hb
def wO (ha:DE X WX c a f)(hb:DE X WX c b g):DE X WX c (.BinOp a .Sub b pos) (λ ρ=>(f ρ).bind λ x=>(g ρ).bind λ y=>aaU x y):=Rf vF (NO λ _ _ _ _=>.int _) ha hb
def Cj (ha:DE X WX c a f)(hb:DE X WX c b g):DE X WX c (.BinOp a .Mod b pos) (λ ρ=>(f ρ).bind λ x=>(g ρ).bind λ y=>HP x y):=Rf vG (Su λ _ _ _ _=>.int _) ha hb
def D7 (ha:DE X WX c a f)(hb:DE X WX c b g):DE X WX c (.BinOp a .FloorDiv b pos) (λ ρ=>(f ρ).bind λ x=>(g ρ).bind λ y=>Hj x y):=Rf nK (Su λ _ _ _ _=>.int _) ha hb
def fR (ha:DE X WX c a f)(hb:DE X WX c b g):DE X WX c (.BinOp a .Pow b pos) (λ ρ=>(f ρ).bind λ x=>(g ρ).bind λ y=>Zs x y):=Rf vH (Su λ _ _ _ _=>.int _) ha hb
abbrev mS (n:Nat)(x y:D):M D:=if TV x<=n/\CC x=true/\CC y=true then .ok (.bl (By x y)) else .bad
abbrev sT (n:Nat)(x y:D):M D:=if TV x<=n/\CC x=true/\CC y=true then .ok (.bl (!By x y)) else .bad
def fS (hu:X.A.units+n<cLine):Ye X.K WX (oP X.K X.A false) (mS n):=by
 intro P H x y v w Q ht hx hy h;unfold mS at h;by_cases hd:TV x<=n/\CC x=true/\CC y=true
 ·rw[if_pos hd] at h;exact⟨x,y,hx.mono EK,hy.mono EK,by omega,hd.2.1,hd.2.2,h _ H (Ah.refl H) (.bl _)⟩
 ·rw[if_neg hd] at h;exact h.elim
def wQ (hu:X.A.units+n<cLine):Ye X.K WX (oP X.K X.A true) (sT n):=by
 intro P H x y v w Q ht hx hy h;unfold sT at h;by_cases hd:TV x<=n/\CC x=true/\CC y=true
 ·rw[if_pos hd] at h;exact⟨x,y,hx.mono EK,hy.mono EK,by omega,hd.2.1,hd.2.2,h _ H (Ah.refl H) (.bl _)⟩
 ·rw[if_neg hd] at h;exact h.elim
def fT (hu:X.A.units+n<cLine)(ha:DE X WX c a f)(hb:DE X WX c b g):DE X WX c (.Compare a [.Eq] [b] pos) (λ ρ=>(f ρ).bind λ x=>(g ρ).bind λ y=>mS n x y):=wM fP (fS hu) ha hb (LI _)
abbrev Bi:D->Bool
 | .AV=>true
 |_=>false
def BS.isN {K}(h:BS K H v d):decide (v=.AV)=Bi d:=by
 cases h<;>simp[Bi]
def fU {j pos'}(ha:DE X WX c a f):DE X WX c (.Compare a [.Is] [.Constant .none j pos'] pos) (λ ρ=>(f ρ).bind λ x=>.ok (.bl (Bi x))):=by
 obtain⟨ta,a1,a2⟩:=ha;refine⟨_,uR (dZ a1),λ P0 P σ H Q ρ E h=>?_⟩;dsimp only at h;refine a2 P0 P σ H _ ρ E ?_;cases e:f ρ with
 |bad|ex x=>rw[e] at h;exact h
 |ok x=>rw[e] at h;exact λ v H1 s1 hv=>h _ H1 s1 (by rw[hv.isN];exact .bl _)
abbrev oQ (x y:D):M D:=match x,y with
 | .tup ds,.int i| .lst ds,.int i=>(match R5 ds i with|some d=>.ok d|none=>.bad)
 |_,_=>.bad
def Aj.R5 {K}(h:Aj K H xs ds)(e:L2.R5 ds i=some d):∃v,L2.R5 xs i=some v/\BS K H v d:=by
 unfold L2.R5 at e ⊢;rw[<-h.length] at e;cases q:Qw xs.length i with
 |none=>rw[q] at e;cases e
 |some j =>
  rw[q] at e;exact h.get e
def Ds.Bh {K}{a}(h:Ds K (del H P) a xs):Ds K H a xs:=EK.seq h
def FF.Bh {K}{a}(h:FF K (del H P) a xs):FF K H a xs:=EK.acQ h
def HQ:Ye X.K WX (λ x y H Q=>vS X.K x y H Q\/vT X.K x y H Q) oQ:=by
 intro P H x y v w Q ht hx hy h;unfold oQ at h;split at h
 ·rename_i ds i;split at h
  ·rename_i d e;cases hy;cases hx with
   |tup hs hl =>
    obtain⟨u,h1,h2⟩:=hl.R5 e;exact .inr ⟨_,_,i,u,rfl,rfl,FF.of (Ao hs).2,h1,h _ H (Ah.refl H) h2⟩
  ·exact h.elim
 ·rename_i ds i;split at h
  ·rename_i d e;cases hy;cases hx with
   |lst hs hl =>
    obtain⟨u,h1,h2⟩:=hl.R5 e;exact .inl ⟨_,_,i,u,rfl,rfl,hs.Bh,h1,h _ H (Ah.refl H) h2⟩
  ·exact h.elim
 ·exact h.elim
def A5:DA X WX c [] (λ _=>.ok []):=⟨_,CJ,λ P0 P σ H Q ρ E h=>h [] H (Ah.refl H) .nil,λ ρ ds h=>by cases h;rfl⟩
def A1 (he:DE X WX c e f)(hr:DA X WX c es fs)(hs: ~~~(starEach (e::es) X.env=(false,eval e X.env)::starEach es X.env)):
 DA X WX c (e::es) (λ ρ=>(f ρ).bind λ d=>(fs ρ).bind λ ds=>.ok (d::ds)):=by
 obtain⟨te,e1,e2⟩:=he;obtain⟨tr,r1,r2,r3⟩:=hr;refine⟨_,Bm e1 r1 hs,λ P0 P σ H Q ρ E h=>?_,λ ρ ds h=>?_⟩
 rotate_left
 ·dsimp only at h;cases q:f ρ with
  |bad|ex x=>rw[q] at h;cases h
  |ok x =>
   rw[q] at h;cases q2:fs ρ with
   |bad|ex x=>rw[q2] at h;cases h
   |ok xs =>
    rw[q2] at h;cases h;rw[zaa,zaa,r3 ρ xs q2]
 dsimp only at h;refine e2 P0 P σ H _ ρ E ?_;cases q:f ρ with
 |bad|ex x=>rw[q] at h;exact h
 |ok x =>
  rw[q] at h;intro v H1 s1 hv;refine r2 P0 P σ H1 _ ρ (E.same s1) ?_;cases q2:fs ρ with
  |bad=>rw[q2] at h;exact h
  |ex y=>rw[q2] at h;exact gA.same (m:=.ex y) h s1
  |ok ds =>
   rw[q2] at h;exact λ vs H2 s2 a6=>h _ H2 (s1.trans s2) (.cons (hv.mono s2.del) a6)
def Ko (hn:H p=none)(ht:∀a,P a->ED H a):del (upd H p o) P p=some o:=by
 rw[Az λ z=>(ht p z).no hn];exact Am
def AY {x1}(ha:DA X WX c es fs)(hz:es.length<=1000:=by decide):DE X WX c (.Tuple es x1 pos) (λ ρ=>(fs ρ).bind λ ds=>if ds.length<=1000 then .ok (.tup ds) else .bad):=by
 obtain⟨ta,a1,a2,a3⟩:=ha;refine⟨_,WD a1,λ P0 P σ H Q ρ E h=>?_⟩;dsimp only at h;refine a2 P0 P σ H _ ρ E ?_;cases q:fs ρ with
 |bad|ex y=>rw[q] at h;exact h
 |ok ds =>
  rw[q] at h;simp only[M.Aa] at h;by_cases hd:ds.length<=1000
  ·rw[if_pos hd] at h;intro vs H1 s1 a6;refine⟨zbs (AA (by rw[a6.length];exact hd)),λ p hp=>h _ _ (s1.trans (AJ hp _)) (.tup (Ko hp λ a q=>(E.same s1).lvt c a q) (a6.mono (AJ hp _).del))⟩
  ·rw[if_neg hd] at h;exact h.elim
def FI (ha:DA X WX c es fs):DE X WX c (.List es pos) (λ ρ=>(fs ρ).bind λ ds=>if ds.length<=1000 then .ok (.lst ds) else .bad):=by
 obtain⟨ta,a1,a2,a3⟩:=ha;refine⟨_,WE a1,λ P0 P σ H Q ρ E h=>?_⟩;dsimp only at h;refine a2 P0 P σ H _ ρ E ?_;cases q:fs ρ with
 |bad|ex y=>rw[q] at h;exact h
 |ok ds =>
  rw[q] at h;simp only[M.Aa] at h;by_cases hd:ds.length<=1000
  ·rw[if_pos hd] at h;intro vs H1 s1 a6;refine⟨zbs (AA (by rw[a6.length];exact hd)),λ p hp=>h _ _ (s1.trans (AJ hp _)) (.lst (.of (Ko hp λ a q=>(E.same s1).lvt c a q)) (a6.mono (AJ hp _).del))⟩
  ·rw[if_neg hd] at h;exact h.elim
end
abbrev Uv (d:D):M Bool:=match d with | .bl b=>.ok b | _=>.bad
section
variable {c:Bool}{P0:Ef}{P:Addr->Prop}{a b:Expr}{f:Ad->M D}{gt:Ad->M Bool}
def aaV {K}(h:gT WX H Q (m.bind Uv)):gV K WX P H (λ x H'=>∃k,x=.bl k/\Q k H') m:=by
 cases m with
 |bad|ex x=>exact h
 |ok d =>
  intro v H' s hv;simp only[M.Aa] at h;unfold Uv at h;split at h
  ·rename_i b;exact⟨b,hv.Om,h H' s⟩
  ·exact h.elim
def Gs (ho:HI X (compareOp op) r)(hr:Ye X.K WX r aN)(ha:DE X WX c a f)(hb:DE X WX c b g)(hm:behindInMarks op b=false):DT X WX (.Compare a [op] [b] pos) (λ ρ=>((f ρ).bind λ x=>(g ρ).bind λ y=>aN x y).bind Uv):=by
 obtain⟨ta,a1,a2⟩:=ha;obtain⟨tb,b1,b2⟩:=hb;exact⟨_,nM ho a1 b1 hm,λ P0 P σ H Q ρ E h=>Uu a2 b2 hr E (aaV h)⟩
def aaW (ha:DE X WX c a f)(hb:DE X WX c b g):DT X WX (.Compare a [.Lt] [b] pos) (λ ρ=>((f ρ).bind λ x=>(g ρ).bind λ y=>dLt x y).bind Uv):=Gs sN (NO λ _ _ _ _=>.bl _) ha hb (LI _)
def aaX (ha:DE X WX c a f)(hb:DE X WX c b g):DT X WX (.Compare a [.Gt] [b] pos) (λ ρ=>((f ρ).bind λ x=>(g ρ).bind λ y=>dGt x y).bind Uv):=Gs aay (NO λ _ _ _ _=>.bl _) ha hb (LI _)
def Kq (hu:X.A.units+n<cLine)(ha:DE X WX c a f)(hb:DE X WX c b g):DT X WX (.Compare a [.Eq] [b] pos) (λ ρ=>((f ρ).bind λ x=>(g ρ).bind λ y=>mS n x y).bind Uv):=Gs fP (fS hu) ha hb (LI _)
def Mw (hu:X.A.units+n<cLine)(ha:DE X WX c a f)(hb:DE X WX c b g):DT X WX (.Compare a [.NotEq] [b] pos) (λ ρ=>((f ρ).bind λ x=>(g ρ).bind λ y=>sT n x y).bind Uv):=Gs wK (wQ hu) ha hb (LI _)
def Dv {j pos'}(ha:DE X WX c a f):DT X WX (.Compare a [.Is] [.Constant .none j pos'] pos) (λ ρ=>(f ρ).bind λ x=>.ok (Bi x)):=by
 obtain⟨ta,a1,a2⟩:=ha;refine⟨_,eA (dZ a1),λ P0 P σ H Q ρ E h=>?_⟩;dsimp only at h;refine a2 P0 P σ H _ ρ E ?_;cases e:f ρ with
 |bad|ex x=>rw[e] at h;exact h
 |ok x=>rw[e] at h;exact λ v H1 s1 hv=>⟨_,rfl,by rw[hv.isN];exact h H1 s1⟩
def Kr {j pos'}(ha:DE X WX c a f):DT X WX (.Compare a [.IsNot] [.Constant .none j pos'] pos) (λ ρ=>(f ρ).bind λ x=>.ok (!Bi x)):=by
 obtain⟨ta,a1,a2⟩:=ha;refine⟨_,eA (nE a1),λ P0 P σ H Q ρ E h=>?_⟩;dsimp only at h;refine a2 P0 P σ H _ ρ E ?_;cases e:f ρ with
 |bad|ex x=>rw[e] at h;exact h
 |ok x=>rw[e] at h;exact λ v H1 s1 hv=>⟨_,rfl,by rw[hv.isN];exact h H1 s1⟩
def Cr (ha:DT X WX a ft):DT X WX (.UnaryOp .Not a pos) (λ ρ=>(ft ρ).bind λ b=>.ok (!b)):=by
 obtain⟨ta,a1,a2⟩:=ha;refine⟨_,uS a1,λ P0 P σ H Q ρ E h=>?_⟩;dsimp only at h;refine a2 P0 P σ H _ ρ E ?_;cases e:ft ρ with
 |bad|ex x=>rw[e] at h;exact h
 |ok x=>rw[e] at h;exact λ H1 s1=>h H1 s1
def Ja (ha:DT X WX a ft):DW X WX (.BoolOp .And [a] pos) ft:=let ⟨ta,a1,a2⟩:=ha;⟨_,pw_and1 a1,a2⟩
def D8 (ha:DT X WX a ft):DW X WX (.BoolOp .Or [a] pos) ft:=let ⟨ta,a1,a2⟩:=ha;⟨_,pw_or1 a1,a2⟩
def LP {rest}(ha:DT X WX a ft)(hb:DW X WX (.BoolOp .And (b::rest) pos) gt):DW X WX (.BoolOp .And (a::b::rest) pos) (λ ρ=>(ft ρ).bind λ k=>if k=true then gt ρ else .ok false):=by
 obtain⟨ta,a1,a2⟩:=ha;obtain⟨tb,b1,b2⟩:=hb;refine⟨_,pw_and a1 b1,λ P0 P σ H Q ρ E h=>?_⟩;dsimp only at h;refine a2 P0 P σ H _ ρ E ?_;cases e:ft ρ with
 |bad|ex x=>rw[e] at h;exact h
 |ok k =>
  rw[e] at h;intro H1 s1;cases k with
  |true =>
   simp only[M.Aa,if_true] at h ⊢;exact b2 P0 P σ H1 _ ρ (E.same s1) (h.same s1)
  |false =>
   simp only[M.Aa,zaz,if_false] at h ⊢;exact h H1 s1
def EM {rest}(ha:DT X WX a ft)(hb:DW X WX (.BoolOp .Or (b::rest) pos) gt):DW X WX (.BoolOp .Or (a::b::rest) pos) (λ ρ=>(ft ρ).bind λ k=>if k=true then .ok true else gt ρ):=by
 obtain⟨ta,a1,a2⟩:=ha;obtain⟨tb,b1,b2⟩:=hb;refine⟨_,pw_or a1 b1,λ P0 P σ H Q ρ E h=>?_⟩;dsimp only at h;refine a2 P0 P σ H _ ρ E ?_;cases e:ft ρ with
 |bad|ex x=>rw[e] at h;exact h
 |ok k =>
  rw[e] at h;intro H1 s1;cases k with
  |true =>
   simp only[M.Aa,if_true] at h ⊢;exact h H1 s1
  |false =>
   simp only[M.Aa,zaz,if_false] at h ⊢;exact b2 P0 P σ H1 _ ρ (E.same s1) (h.same s1)
def WR {op}(ha:DE X WX c a f):DE X WX c (.BoolOp op [a] pos) f:=let ⟨ta,a1,a2⟩:=ha;⟨_,uT a1,a2⟩
def WS {rest}(ha:DE X WX c a f)(hb:DE X WX c (.BoolOp .And (b::rest) pos) g):DE X WX c (.BoolOp .And (a::b::rest) pos) (λ ρ=>((f ρ).bind Uv).bind λ k=>if k=true then g ρ else .ok (.bl false)):=by
 obtain⟨ta,a1,a2⟩:=ha;obtain⟨tb,b1,b2⟩:=hb;refine⟨_,uU a1 b1,λ P0 P σ H Q ρ E h=>?_⟩;dsimp only at h;refine a2 P0 P σ H _ ρ E ?_;cases e:f ρ with
 |bad|ex x=>rw[e] at h;exact h
 |ok d =>
  rw[e] at h;simp only[M.Aa] at h;unfold Uv at h;split at h
  ·rename_i k;intro v H1 s1 hv;refine⟨k,hv.Om,?_⟩;cases k with
   |true =>
    simp only[M.Aa,if_true] at h ⊢;exact b2 P0 P σ H1 _ ρ (E.same s1) (h.same s1)
   |false =>
    simp only[M.Aa,zaz,if_false] at h ⊢;exact h _ H1 s1 (.bl _)
  ·exact h.elim
def aaY {rest}(ha:DE X WX c a f)(hb:DE X WX c (.BoolOp .Or (b::rest) pos) g):DE X WX c (.BoolOp .Or (a::b::rest) pos) (λ ρ=>((f ρ).bind Uv).bind λ k=>if k=true then .ok (.bl true) else g ρ):=by
 obtain⟨ta,a1,a2⟩:=ha;obtain⟨tb,b1,b2⟩:=hb;refine⟨_,aam a1 b1,λ P0 P σ H Q ρ E h=>?_⟩;dsimp only at h;refine a2 P0 P σ H _ ρ E ?_;cases e:f ρ with
 |bad|ex x=>rw[e] at h;exact h
 |ok d =>
  rw[e] at h;simp only[M.Aa] at h;unfold Uv at h;split at h
  ·rename_i k;intro v H1 s1 hv;refine⟨k,hv.Om,?_⟩;cases k with
   |true =>
    simp only[M.Aa,if_true] at h ⊢;exact h _ H1 s1 (.bl _)
   |false =>
    simp only[M.Aa,zaz,if_false] at h ⊢;exact b2 P0 P σ H1 _ ρ (E.same s1) (h.same s1)
  ·exact h.elim
def wR (ha:DE X WX c a f):DE X WX c (.UnaryOp .Not a pos) (λ ρ=>((f ρ).bind Uv).bind λ k=>.ok (.bl (!k))):=by
 obtain⟨ta,a1,a2⟩:=ha;refine⟨_,uV a1,λ P0 P σ H Q ρ E h=>?_⟩;dsimp only at h;refine a2 P0 P σ H _ ρ E ?_;cases e:f ρ with
 |bad|ex x=>rw[e] at h;exact h
 |ok d =>
  rw[e] at h;simp only[M.Aa] at h;unfold Uv at h;split at h
  ·rename_i k;exact λ v H1 s1 hv=>⟨k,hv.Om,h _ H1 s1 (.bl _)⟩
  ·exact h.elim
def acS (ha:DE X WX c a f):DE X WX c (.UnaryOp .USub a pos) (λ ρ=>(f ρ).bind λ d=>match d with | .int i=>.ok (.int (-i)) | _=>.bad):=by
 obtain⟨ta,a1,a2⟩:=ha;refine⟨_,aav vI a1,λ P0 P σ H Q ρ E h=>?_⟩;dsimp only at h;refine a2 P0 P σ H _ ρ E ?_;cases e:f ρ with
 |bad|ex x=>rw[e] at h;exact h
 |ok d =>
  rw[e] at h;simp only[M.Aa] at h;split at h
  ·rename_i i;exact λ v H1 s1 hv=>⟨i,hv.int_inv,h _ H1 s1 (.int _)⟩
  ·exact h.elim
def Zt {p q:Int->Int->Bool}(ho:HI X (compareOp op) (mR λ i j=>.bl (p i j)))(ba:HI X (compareOp ge) (mR λ i j=>.bl (q i j)))(ha:DE X WX c a f)(hb:DE X WX c b g)(hd:DE X WX c d h)(hm:lastMarks [op,ge] [b,d]=false:=by with_unfolding_all rfl):DE X WX c (.Compare a [op,ge] [b,d] pos) (λ ρ=>(f ρ).bind λ x=>(g ρ).bind λ y=>BF (λ i j=>if p i j=true then (h ρ).bind λ z=>BF (λ _ k=>.ok (.bl (q j k))) (.int 0) z else .ok (.bl false)) x y):=by
 obtain⟨ta,a1,a2⟩:=ha;obtain⟨tb,b1,b2⟩:=hb;obtain⟨td,d1,d2⟩:=hd;refine⟨_,eM ho ba a1 b1 d1 hm,λ P0 P σ H Q ρ E hh=>?_⟩;dsimp only at hh;refine a2 P0 P σ H _ ρ E ?_;cases e:f ρ with
 |bad|ex x=>rw[e] at hh;exact hh
 |ok x =>
  rw[e] at hh;intro v H1 s1 hv;refine b2 P0 P σ H1 _ ρ (E.same s1) ?_;cases e2:g ρ with
  |bad=>rw[e2] at hh;exact hh
  |ex y=>rw[e2] at hh;exact gV.same (m:=.ex y) hh s1
  |ok y =>
   rw[e2] at hh;simp only[M.Aa] at hh;unfold BF at hh;split at hh
   ·rename_i i j;intro w H2 s2 hw;refine⟨i,j,hv.int_inv,hw.int_inv,p i j,rfl,?_⟩;dsimp only at hh;by_cases hp:p i j=true
    ·rw[if_pos hp] at hh ⊢;refine d2 P0 P σ H2 _ ρ ((E.same s1).same s2) ?_;cases e3:h ρ with
     |bad=>rw[e3] at hh;exact hh
     |ex z=>rw[e3] at hh;exact gV.same (gV.same (m:=.ex z) hh s1) s2
     |ok z =>
      rw[e3] at hh;simp only[M.Aa] at hh;cases z with
      |int k=>exact λ u H3 s3 hu=>⟨j,k,hw.int_inv,hu.int_inv,hh _ H3 ((s1.trans s2).trans s3) (.bl _)⟩
      |_=>exact hh.elim
    ·rw[if_neg hp] at hh ⊢;exact hh _ H2 (s1.trans s2) (.bl _)
   ·exact hh.elim
abbrev Mx (K:za1)(WX:Str->Hp->Prop)(r:List V->Hp->VK->Prop)(dF:List D->M D):Prop:=
 ∀(P:Addr->Prop) (H:Hp) (ds:List D) (vs:List V) (Q:VK),(∀a,P a->ED H a)->Aj K (del H P) vs ds->gV K WX P H Q (dF ds)->r vs H Q
variable {x:Str}{p:Pos}{es:List Expr}{fs:Ad->M (List D)}{id T:String}{r:List V->Hp->VK->Prop}{dF:List D->M D}
def fV (ha:∀P0 P σ H Q ρ,An X.K P0 P H σ ρ->gA X.K WX (Lv c P0 P) H Q (fs ρ)->ta σ H Q)(hr:Mx X.K WX r dF)(E:An X.K P0 P H σ ρ)(h:gV X.K WX (Lv c P0 P) H Q ((fs ρ).bind dF)):tCB r ta σ H Q:=by
 refine ha P0 P σ H _ ρ E ?_;cases e:fs ρ with
 |bad|ex x=>rw[e] at h;exact h
 |ok ds =>
  rw[e] at h;exact λ vs H1 s1 a6=>hr _ H1 ds vs Q (λ a q=>(E.same s1).lvt c a q) a6 (h.same s1)
def Ks (hc:Hi X (.builtin id) r)(hr:Mx X.K WX r dF)(hg:Gl X x)(hm:X.mg x=none)(hv:bootBuiltins x=some (.builtin id))(ha:DA X WX c (e::es) fs)(hn:x ≠ "__name__" := by decide)(be:(x==("__debug__" : Str))=false:=by decide)(he: ~~~(starEach (e::es) X.env=(false,eval e X.env)::starEach es X.env))(hpl: ~~~((backTo pos (starEach es X.env)).any (·.1)=false)):DE X WX c (.Call (.Name x p) (e::es) [] pos) (λ ρ=>(fs ρ).bind dF):=by
 obtain⟨ta,a1,a2,a3⟩:=ha;exact⟨_,Ue hc hg hm hv a1 hn be he hpl,λ P0 P σ H Q ρ E h=>fV a2 hr E h⟩
def Zu (hc:Hi X (.type T) r)(hr:Mx X.K WX r dF)(hg:Gl X x)(hm:X.mg x=none)(hv:bootBuiltins x=some (.type T))(ha:DA X WX c (e::es) fs)(hn:x ≠ "__name__" := by decide)(be:(x==("__debug__" : Str))=false:=by decide)(he: ~~~(starEach (e::es) X.env=(false,eval e X.env)::starEach es X.env))(hpl: ~~~((backTo pos (starEach es X.env)).any (·.1)=false)):DE X WX c (.Call (.Name x p) (e::es) [] pos) (λ ρ=>(fs ρ).bind dF):=by
 obtain⟨ta,a1,a2,a3⟩:=ha;exact⟨_,LL hc hg hm hv a1 hn be he hpl,λ P0 P σ H Q ρ E h=>fV a2 hr E h⟩
abbrev fW (ds:List D):M D:=match ds with
 |[.lst xs]|[.tup xs]=>.ok (.int xs.length)
 |_=>.bad
def Aj.one {K}(h:Aj K H vs [d]):∃v,vs=[v]/\BS K H v d:=by
 cases h with
 |cons h t=>cases t;exact⟨_,rfl,h⟩
def Aj.two {K}{e}(h:Aj K H vs [d,e]):∃v w,vs=[v,w]/\BS K H v d/\BS K H w e:=by
 cases h with
 |cons h t =>
  obtain⟨w,rfl,hw⟩:=t.one;exact⟨_,w,rfl,h,hw⟩
def wU:Mx X.K WX (λ xs H Q=>∃p ys,xs=[.ref p]/\(Ds X.K H p ys\/FF X.K H p ys)/\Q (.int ys.length) H) fW:=by
 intro P H ds vs Q ht hl h;unfold fW at h;split at h
 ·obtain⟨v,rfl,hv⟩:=hl.one;cases hv with
  |lst hs hh=>exact⟨_,_,rfl,.inl hs.Bh,by rw[hh.length];exact h _ H (Ah.refl H) (.int _)⟩
 ·obtain⟨v,rfl,hv⟩:=hl.one;cases hv with
  |tup hs hh=>exact⟨_,_,rfl,.inr (FF.of (Ao hs).2),by rw[hh.length];exact h _ H (Ah.refl H) (.int _)⟩
 ·exact h.elim
def Gu (hg:Gl X "len")(hm:X.mg "len" = none)(ha:DE X WX c e f)(hs: ~~~(starEach [e] X.env=[(false,eval e X.env)])):DE X WX c (.Call (.Name "len" p) [e] [] pos) (λ ρ=>((f ρ).bind λ d=>(M.ok []).bind λ ds=>.ok (d::ds)).bind fW):=
 Ks Sh wU hg hm PySem.boot_len (A1 ha A5 hs) (he:=hs)
abbrev WT (ds:List D):M D:=match ds with
 |[.lst xs]|[.tup xs]=>.ok (.tup xs)
 |_=>.bad
def fX:Mx X.K WX (λ xs H Q=>∃p ys,xs=[.ref p]/\((Ds X.K H p ys/\∀l,H l=none->Q (.ref l) (upd H l (.tup ys)))\/(FF X.K H p ys/\Q (.ref p) H))) WT:=by
 intro P H ds vs Q ht hl h;unfold WT at h;split at h
 ·obtain⟨v,rfl,hv⟩:=hl.one;cases hv with
  |lst hs hh=>exact⟨_,_,rfl,.inl ⟨hs.Bh,λ l hn=>h _ _ (AJ hn _) (.tup (Ko hn ht) (hh.mono (AJ hn _).del))⟩⟩
 ·obtain⟨v,rfl,hv⟩:=hl.one;cases hv with
  |tup hs hh=>exact⟨_,_,rfl,.inr ⟨FF.of (Ao hs).2,h _ H (Ah.refl H) (.tup hs hh)⟩⟩
 ·exact h.elim
def fY (hg:Gl X "tuple")(hm:X.mg "tuple" = none)(ha:DE X WX c e f)(hb:bootBuiltins "tuple" = some (.type "tuple"):=by decide +kernel)(hs: ~~~(starEach [e] X.env=[(false,eval e X.env)])):DE X WX c (.Call (.Name "tuple" p) [e] [] pos) (λ ρ=>((f ρ).bind λ d=>(M.ok []).bind λ ds=>.ok (d::ds)).bind WT):=
 Zu Qy fX hg hm hb (A1 ha A5 hs) (he:=hs)
abbrev sU:D->String
 | .AV => "NoneType"
 | .bl _ => "bool"
 | .int _ => "int"
 | .str _ => "str"
 | .tup _ => "tuple"
 | .lst _ => "list"
 | .Gm _ => "NoneType"
 | .BR _ _ _ => "dict"
 | .ins _ _ _ => "NoneType"
abbrev Fo (T:String)(d:D):Bool:=(sU d==T)||(sU d == "bool" && T == "int")
abbrev Kt (T:String)(d:D):M D:=match d with
 | .Gm _| .ins _ _ _=>.bad
 |d=>.ok (.bl (Fo T d))
abbrev isX:D->Bool
 | .Gm _| .ins _ _ _=>true
 |_=>false
def fZ (h:isX d=false):Kt T d=.ok (.bl (Fo T d)):=by cases d<;>first | rfl | cases h
abbrev acT (K:za1)(T:String):List V->Hp->VK->Prop:=λ xs H Q=>∃x d,xs=[x,.ty T]/\BS K H x d/\isX d=false/\Q (.bl (Fo T d)) H
def gB (hk:∀d:D,PySem.W.kitOne X.K (.type (sU d)) (.type T)=some (Fo T d)):Hi X (.builtin "isinstance") (acT X.K T):=by
 intro pins s σ H xs us Q I r h;obtain⟨x,d,rfl,hd,hx,q⟩:=h;obtain⟨u,w,rfl,rx,bf⟩:=r.two;cases bf;have fin:∀tk,EP X pins σ Q (.bool (Fo T d)) {s with toks:=tk}:=λ tk=>⟨.bl _,H,I.tok tk,rfl,q⟩;have e:=hk d;cases hd with
 |Gm _ _|ins _ _ _=>cases hx
 |TU hs hl =>
  cases rx;obtain⟨⟨o,h1,h2⟩,_,_⟩:=Sk I (.inl ⟨_,hs⟩);exact zcr PySem.W.kitx_dict I.NL ⟨o,h1,h2⟩ e (λ z=>nomatch z) fin
 |Ur hs hl =>
  cases rx;obtain⟨⟨o,h1,h2⟩,_,_⟩:=Sk I (.inr ⟨_,hs⟩);exact zcr PySem.W.kitx_dict I.NL ⟨o,h1,h2⟩ e (λ z=>nomatch z) fin
 |AV=>cases rx;exact zcr PySem.W.kitx_none I.NL zcy e (λ z=>nomatch z) fin
 |bl b=>cases rx;exact zcr PySem.W.kitx_bool I.NL zcy e (λ z=>nomatch z) fin
 |int b=>obtain⟨t,rfl⟩:=rx;exact zcr PySem.W.kitx_int I.NL zcy e (λ z=>nomatch z) fin
 |str b=>obtain⟨t,rfl⟩:=rx;exact zcr PySem.W.kitx_str I.NL zcy e (λ z=>nomatch z) fin
 |tup hs hl =>
  cases rx;obtain⟨_,_,⟨o,h1,h2,_⟩,_⟩:=I.tuple (.of hs);exact zcr PySem.W.kitx_tuple I.NL ⟨o,h1,h2⟩ e (λ z=>nomatch z) fin
 |lst hs hl =>
  cases rx;obtain⟨_,_,⟨o,n,h1,h2,_⟩,_⟩:=I.list hs;exact zcr PySem.W.kitx_list I.NL ⟨o,h1,h2⟩ e (λ z=>nomatch z) fin
def Gv (hk:∀d:D,PySem.W.kitOne X.K (.type (sU d)) (.type T)=some (Fo T d))(hg:Gl X "isinstance")(hm:X.mg "isinstance" = none)(j3:Gl X x2)(aO:X.mg x2=none)(xv:bootBuiltins x2=some (.type T))(ha:DE X WX c e f)(hb:bootBuiltins "isinstance" = some (.builtin "isinstance"):=by decide +kernel)(a7:x2 ≠ "__name__" := by decide)(qw:(x2==("__debug__" : Str))=false:=by decide)(hs: ~~~(starEach [e,.Name x2 p2] X.env=(false,eval e X.env)::starEach [.Name x2 p2] X.env))(a9: ~~~(starEach [.Name x2 p2] X.env=[(false,eval (.Name x2 p2) X.env)]))(hpl: ~~~((backTo pos (starEach [.Name x2 p2] X.env)).any (·.1)=false)):
 DE X WX c (.Call (.Name "isinstance" p) [e,.Name x2 p2] [] pos) (λ ρ=>(f ρ).bind λ d=>Kt T d):=by
 obtain⟨ta,a1,a2⟩:=ha;refine⟨_,Ue (gB hk) hg hm hb (Bm a1 (Bm (nB (v:=.ty T) j3 aO xv rfl a7 qw) CJ a9) hs) (by decide) (by decide) hs hpl,λ P0 P σ H Q ρ E h=>?_⟩;dsimp only at h;refine a2 P0 P σ H _ ρ E ?_;refine Yd h λ d h=>?_;cases hx:isX d with
 |true=>cases d<;>first|exact h.elim|cases hx
 |false =>
  rw[fZ hx] at h;exact λ v H1 s1 hv=>⟨v,d,rfl,hv.mono EK,hx,h _ H1 s1 (.bl _)⟩
def JU (K:za1)(d:D):PySem.W.kitOne K (.type (sU d)) (.type "tuple")=some (Fo "tuple" d):=by cases d<;>rfl
def Rg (K:za1)(d:D):PySem.W.kitOne K (.type (sU d)) (.type "list")=some (Fo "list" d):=by cases d<;>rfl
def Rh (K:za1)(d:D):PySem.W.kitOne K (.type (sU d)) (.type "bool")=some (Fo "bool" d):=by cases d<;>rfl
def Uw (K:za1)(d:D):PySem.W.kitOne K (.type (sU d)) (.type "int")=some (Fo "int" d):=by cases d<;>rfl
abbrev zV (lo hi:Option Int)(d:D):M D:=match d with
 | .lst ds=>.ok (.lst ((ds.drop (HT.Ob ds.length 0 lo)).take (HT.Ob ds.length ds.length hi-HT.Ob ds.length 0 lo)))
 |_=>.bad
abbrev DO (X:Cx)(WX:Str->Hp->Prop)(c:Bool)(e:Option Expr)(f:Ad->M (Option Int)):Prop:=
 ∃t,PO X e t/\∀P0 P σ H Q ρ,An X.K P0 P H σ ρ->(match f ρ with | .ok o=>∀H',Ah H H'->Q o H' | .ex x=>∀H',Ah H H'->WX x H' | .bad=>False)->t σ H Q
def Yg:DO X WX c none (λ _=>.ok none):=⟨_,nT,λ P0 P σ H Q ρ E h=>h H (Ah.refl H)⟩
abbrev asI (d:D):M (Option Int):=match d with | .int i=>.ok (some i) | _=>.bad
def NP (ha:DE X WX c e f):DO X WX c (some e) (λ ρ=>(f ρ).bind asI):=by
 obtain⟨ta,a1,a2⟩:=ha;refine⟨_,nU a1,λ P0 P σ H Q ρ E h=>?_⟩;dsimp only at h;refine a2 P0 P σ H _ ρ E ?_;cases q:f ρ with
 |bad|ex x=>rw[q] at h;exact h
 |ok d =>
  rw[q] at h;cases d with
  |int i=>exact λ v H1 s1 hv=>⟨i,hv.int_inv,h H1 s1⟩
  |_=>exact h.elim
end
inductive Out where
 |ret (d:D)|next (ρ:Ad)|brk (ρ:Ad)|cont (ρ:Ad)|CD (c:Cl)|FJ (t:OT) (ρ:Ad)
variable {g1 g2:Ad->M Out}
abbrev Tr (P0 P:Addr->Prop)(H:Hp)(P':Addr->Prop)(H':Hp):Prop:=Ah (del H P) (del H' P')/\∀a,P0 a->H' a=H a
def Tr.refl:Tr P0 P H P H:=⟨Ah.refl _,λ _ _=>rfl⟩
def Tr.trans (a:Tr P0 P H P1 H1)(b:Tr P0 P1 H1 P2 H2):Tr P0 P H P2 H2:=⟨a.1.trans b.1,λ x h=>(b.2 x h).trans (a.2 x h)⟩
def An.tr {K}(E:An K P0 P H σ ρ)(e:Ah H H'):Tr P0 P H P H':=
 ⟨e.del,λ a h=>by obtain⟨o,q,_⟩:=E.BQ a (E.sub a h);rw[e a o q,q]⟩
abbrev gS (K:za1)(WX:Str->Hp->Prop)(P0:Ef)(P:Addr->Prop)(H:Hp)(Z:Ends):M Out->Prop
 | .ok (.ret d)=>∀v H' P',Tr P0 P H P' H'->BS K (del H' P0) v d->Z.rt v H'
 | .ok (.next ρ)=>∀σ' H' P',Tr P0 P H P' H'->An K P0 P' H' σ' ρ->Z.nx σ' H'
 | .ok (.brk ρ)=>∀σ' H' P',Tr P0 P H P' H'->An K P0 P' H' σ' ρ->Z.bk σ' H'
 | .ok (.cont ρ)=>∀σ' H' P',Tr P0 P H P' H'->An K P0 P' H' σ' ρ->Z.ct σ' H'
 | .ok (.CD c)=>∀v fp H' P',Tr P0 P H P' H'->(∀a,P0 a->P' a)->(∀a,P' a->ED H' a)->D6 K H' P' c v fp->(∀a∈fp,P' a/\¬ P0 a)->fp.Nodup->Z.rt v H'
 | .ok (.FJ t ρ)=>∀v fp σ' H' P',Tr P0 P H P' H'->An K P0 P' H' σ' ρ->C3 K H' P' v t fp->fp.Nodup->(∀a∈fp,P' a/\¬ P0 a/\∀(j:Nat) c v' fq,ρ[j]?=some (some c)->σ'[j]?=some (some v')->D6 K H' P' c v' fq->a∉fq)->Z.rt v H'
 | .ex x=>∀H' P',Tr P0 P H P' H'->WX x H'
 | .bad=>False
def gS.tr {K}(h:gS K WX P0 P H Z m)(t:Tr P0 P H P' H'):gS K WX P0 P' H' Z m:=by
 cases m with
 |bad=>exact h
 |ex x=>exact λ H2 P2 t2=>h H2 P2 (t.trans t2)
 |ok o =>
  cases o with
  |ret d=>exact λ v H2 P2 t2 hv=>h v H2 P2 (t.trans t2) hv
  |next ρ|brk ρ|cont ρ=>exact λ σ2 H2 P2 t2 hv=>h σ2 H2 P2 (t.trans t2) hv
  |CD c=>exact λ v fp H2 P2 t2=>h v fp H2 P2 (t.trans t2)
  |FJ c ρ=>exact λ v fp σ2 H2 P2 t2=>h v fp σ2 H2 P2 (t.trans t2)
abbrev DS (X:Cx)(WX:Str->Hp->Prop)(st:Stmt)(g:Ad->M Out):Prop:=
 ∃t,PS X st t/\∀P0 P σ H Z ρ,An X.K P0 P H σ ρ->gS X.K WX P0 P H Z (g ρ)->t Z σ H
abbrev TX (X:Cx)(WX:Str->Hp->Prop)(st:List Stmt)(g:Ad->M Out):Prop:=
 ∃t,XY X st t/\∀P0 P σ H Z ρ,An X.K P0 P H σ ρ->gS X.K WX P0 P H Z (g ρ)->t Z σ H
abbrev WU (m:M Out)(k:Ad->M Out):M Out:=match m with
 | .ok (.next ρ)=>k ρ
 |m=>m
section
variable {c:Bool}{P0:Ef}{P:Addr->Prop}{a b:Expr}{f:Ad->M D}{gt:Ad->M Bool}{st:Stmt}{rest:List Stmt}
def Ay:TX X WX [] (λ ρ=>.ok (.next ρ)):=⟨_,nF,λ P0 P σ H Z ρ E h=>h σ H P Tr.refl E⟩
def A4 (h:DS X WX st g1):TX X WX [st] g1:=let ⟨t,h1,h2⟩:=h;⟨_,nG h1,h2⟩
def A3 (h:DS X WX st g1)(hr:TX X WX rest g2):TX X WX (st::rest) (λ ρ=>WU (g1 ρ) g2):=by
 obtain⟨t,h1,h2⟩:=h;obtain⟨u,r1,r2⟩:=hr;refine⟨_,eB h1 r1,λ P0 P σ H Z ρ E h=>?_⟩;dsimp only at h;refine h2 P0 P σ H {Z with nx:=u Z} ρ E ?_;cases q:g1 ρ with
 |bad|ex x=>rw[q] at h;exact h
 |ok o =>
  rw[q] at h;cases o with
  |ret d|brk d|cont d|CD d|FJ d ρ2=>exact h
  |next ρ'=>exact λ σ' H' P' t E'=>r2 P0 P' σ' H' Z ρ' E' (gS.tr h t)
def gC (ha:DE X WX false e f):DS X WX (.Return (some e) pos) (λ ρ=>(f ρ).bind λ d=>.ok (.ret d)):=by
 obtain⟨ta,a1,a2⟩:=ha;refine⟨_,Sa a1,λ P0 P σ H Z ρ E h=>?_⟩;dsimp only at h;refine a2 P0 P σ H _ ρ E ?_;cases q:f ρ with
 |bad=>rw[q] at h;exact h
 |ex x=>rw[q] at h;exact λ H' s=>h H' P (E.tr s)
 |ok d=>rw[q] at h;exact λ v H' s hv=>h v H' P (E.tr s) hv
def Bc {c}(hc:DT X WX c ft)(ha:TX X WX sa g1)(hb:TX X WX sb g2):DS X WX (.If c sa sb pos) (λ ρ=>(ft ρ).bind λ k=>if k=true then g1 ρ else g2 ρ):=by
 obtain⟨tc,c1,c2⟩:=hc;obtain⟨ta,a1,a2⟩:=ha;obtain⟨tb,b1,b2⟩:=hb;refine⟨_,aaq c1 a1 b1,λ P0 P σ H Z ρ E h=>?_⟩;dsimp only at h;refine c2 P0 P σ H _ ρ E ?_;cases q:ft ρ with
 |bad=>rw[q] at h;exact h
 |ex x=>rw[q] at h;exact λ H' s=>h H' P (E.tr s)
 |ok k =>
  rw[q] at h;intro H1 s1;cases k with
  |true =>
   simp only[M.Aa,if_true] at h ⊢;exact a2 P0 P σ H1 Z ρ (E.same s1) (h.tr (E.tr s1))
  |false =>
   simp only[M.Aa,zaz,if_false] at h ⊢;exact b2 P0 P σ H1 Z ρ (E.same s1) (h.tr (E.tr s1))
def get_set {α:Type}{l:List α}{x y}(h:(l.set i x)[j]?=some y):(i=j/\i<l.length/\x=y)\/(i≠j/\l[j]?=some y):=by
 by_cases e:i=j
 ·subst e;rw[List.getElem?_set_self'] at h;cases q:l[i]? with
  |none=>rw[q] at h;cases h
  |some z =>
   rw[q] at h;exact .inl ⟨rfl,(zam.mp q).1,by simpa using h⟩
 ·rw[zbm e] at h;exact .inr ⟨e,h⟩
def An.WV {K}(E:An K P0 P H σ ρ)(hv:BS K (del H P) v d):An K P0 P H (σ.set i (some v)) (ρ.set i (some (.val d))):=by
 have gs:∀ {j:Nat},i≠j->(σ.set i (some v))[j]?=σ[j]? :=λ h=>zbm h;refine⟨E.sub,E.BQ,λ j e h=>?_,λ j c h io=>?_,λ j k c c' u u' fp ah h1 h2 h3 h4 h5 h6 ae=>?_,by rw[zbu,zbu];exact E.len,λ j c n h hp=>?_⟩
 rotate_left 3
 ·rcases get_set h with ⟨rfl,hl,e1⟩|⟨ae,h⟩
  ·cases e1;cases hp
  ·rw[gs ae];exact E.pin j c n h hp
 ·rcases get_set h with ⟨rfl,hl,e1⟩|⟨ae,h⟩
  ·cases e1;exact⟨v,zb2 (by rw[E.len];exact hl),hv⟩
  ·obtain⟨w,h1,h2⟩:=E.val j e h;exact⟨w,by rw[gs ae];exact h1,h2⟩
 ·rcases get_set h with ⟨rfl,hl,e1⟩|⟨ae,h⟩
  ·cases e1;cases io
  ·obtain⟨w,fp,h1,h2⟩:=E.ows j c h io;exact⟨w,fp,by rw[gs ae];exact h1,h2⟩
 ·rcases get_set h1 with ⟨rfl,hl,e1⟩|⟨cx,h1⟩
  ·cases e1;exact h5.elim
  ·rcases get_set h2 with ⟨rfl,hl,e1⟩|⟨a7,h2⟩
   ·cases e1;exact h6.elim
   ·rw[gs cx] at h3;rw[gs a7] at h4;exact E.apart j k c c' u u' fp ah h1 h2 h3 h4 h5 h6 ae
def An.Zv {K}(E:An K P0 P H σ ρ){c}(hs:∀a,P a->P' a)(ht:∀a,P' a->ED H' a)(sm:Ah (del H P) (del H' P'))(keep:∀(j:Nat) c' v' ah,i≠j->ρ[j]?=some (some c')->σ[j]?=some (some v')->D6 K H P c' v' ah->∀a∈ah,H' a=H a/\a∉fp)(new:D6 K H' P' c v fp)(hp:∀a∈fp,P' a/\¬ P0 a)(nd:fp.Nodup)(gq:∀n,Rc c=some n->v=.ref (P0.g n):=by intro n z;cases z):An K P0 P' H' (σ.set i (some v)) (ρ.set i (some c)):=by
 have gs:∀ {j:Nat},i≠j->(σ.set i (some v))[j]?=σ[j]? :=λ h=>zbm h;refine⟨λ a h=>hs a (E.sub a h),ht,λ j e h=>?_,λ j c' h io=>?_,λ j k c1 c2 u u' a5 bG h1 h2 h3 h4 h5 h6 ae=>?_,by rw[zbu,zbu];exact E.len,λ j c' n h hp=>?_⟩
 rotate_left 3
 ·rcases get_set h with ⟨rfl,hl,e1⟩|⟨ae,h⟩
  ·cases e1;rw[zb2 (by rw[E.len];exact hl),gq n hp]
  ·rw[gs ae];exact E.pin j c' n h hp
 ·rcases get_set h with ⟨rfl,hl,e1⟩|⟨ae,h⟩
  ·cases e1;exact new.elim
  ·obtain⟨w,h1,h2⟩:=E.val j e h;exact⟨w,by rw[gs ae];exact h1,h2.mono sm⟩
 ·rcases get_set h with ⟨rfl,hl,e1⟩|⟨ae,h⟩
  ·cases e1;exact⟨v,fp,zb2 (by rw[E.len];exact hl),new,hp,nd⟩
  ·obtain⟨w,fq,h1,h2,h3,h4⟩:=E.ows j c' h io;exact⟨w,fq,by rw[gs ae];exact h1,h2.move sm λ a ha=>(keep j c' w fq ae h h1 h2 a ha).1,λ a ha=>⟨hs a (h3 a ha).1,(h3 a ha).2⟩,h4⟩
 ·have back:∀(l:Nat) (d:Cl) (w:V) (fq:List Addr),i≠l->ρ[l]?=some (some d)->σ[l]?=some (some w)->D6 K H' P' d w fq->∃fr,D6 K H P d w fr/\fr=fq:=λ l d w fq hn hk sk ho=>by
   have io:HA d=true:=by cases d<;>first|rfl|exact ho.elim
   obtain⟨w',bG,s2,o2,_⟩:=E.ows l d hk io;rw[sk] at s2;cases s2;exact⟨bG,o2,(o2.move sm λ a ha=>(keep l d w bG hn hk sk o2 a ha).1).BM ho⟩
  rcases get_set h1 with ⟨rfl,hl,e1⟩|⟨cx,h1⟩
  ·cases e1;rw[zb2 (by rw[E.len];exact hl)] at h3;cases h3;rcases get_set h2 with ⟨e,_⟩|⟨a7,h2⟩
   ·exact (ae e).elim
   ·rw[gs a7] at h4;obtain⟨fr,o,rfl⟩:=back k c2 u' bG a7 h2 h4 h6;intro a ha hb;rw[new.BM h5] at keep;exact (keep k c2 u' fr a7 h2 h4 o a hb).2 ha
  ·rw[gs cx] at h3;obtain⟨fr,o,rfl⟩:=back j c1 u a5 cx h1 h3 h5;rcases get_set h2 with ⟨rfl,hl,e1⟩|⟨a7,h2⟩
   ·cases e1;rw[zb2 (by rw[E.len];exact hl)] at h4;cases h4;intro a ha;rw[new.BM h6] at keep;exact (keep j c1 u fr cx h1 h3 o a ha).2
   ·rw[gs a7] at h4;obtain⟨qx,o2,rfl⟩:=back k c2 u' bG a7 h2 h4 h6;exact E.apart j k c1 c2 u u' fr qx h1 h2 h3 h4 o o2 ae
def An.aa0 {K}(E:An K P0 P H σ ρ){c}(hs:∀a,P0 a->P' a)(ht:∀a,P' a->ED H' a)(sm:Ah (del H P) (del H' P'))(keep:∀(j:Nat) c' v' ah,i≠j->ρ[j]?=some (some c')->σ[j]?=some (some v')->D6 K H P c' v' ah->∀a∈ah,H' a=H a/\a∉fp/\P' a)(new:D6 K H' P' c v fp)(hp:∀a∈fp,P' a/\¬ P0 a)(nd:fp.Nodup)(gq:∀n,Rc c=some n->v=.ref (P0.g n):=by intro n z;cases z):An K P0 P' H' (σ.set i (some v)) (ρ.set i (some c)):=by
 have gs:∀ {j:Nat},i≠j->(σ.set i (some v))[j]?=σ[j]? :=λ h=>zbm h;refine⟨hs,ht,λ j e h=>?_,λ j c' h io=>?_,λ j k c1 c2 u u' a5 bG h1 h2 h3 h4 h5 h6 ae=>?_,by rw[zbu,zbu];exact E.len,λ j c' n h hp=>?_⟩
 rotate_left 3
 ·rcases get_set h with ⟨rfl,hl,e1⟩|⟨ae,h⟩
  ·cases e1;rw[zb2 (by rw[E.len];exact hl),gq n hp]
  ·rw[gs ae];exact E.pin j c' n h hp
 ·rcases get_set h with ⟨rfl,hl,e1⟩|⟨ae,h⟩
  ·cases e1;exact new.elim
  ·obtain⟨w,h1,h2⟩:=E.val j e h;exact⟨w,by rw[gs ae];exact h1,h2.mono sm⟩
 ·rcases get_set h with ⟨rfl,hl,e1⟩|⟨ae,h⟩
  ·cases e1;exact⟨v,fp,zb2 (by rw[E.len];exact hl),new,hp,nd⟩
  ·obtain⟨w,fq,h1,h2,h3,h4⟩:=E.ows j c' h io;exact⟨w,fq,by rw[gs ae];exact h1,h2.move sm λ a ha=>(keep j c' w fq ae h h1 h2 a ha).1,λ a ha=>⟨(keep j c' w fq ae h h1 h2 a ha).2.2,(h3 a ha).2⟩,h4⟩
 ·have back:∀(l:Nat) (d:Cl) (w:V) (fq:List Addr),i≠l->ρ[l]?=some (some d)->σ[l]?=some (some w)->D6 K H' P' d w fq->∃fr,D6 K H P d w fr/\fr=fq:=λ l d w fq hn hk sk ho=>by
   have io:HA d=true:=by cases d<;>first|rfl|exact ho.elim
   obtain⟨w',bG,s2,o2,_⟩:=E.ows l d hk io;rw[sk] at s2;cases s2;exact⟨bG,o2,(o2.move sm λ a ha=>(keep l d w bG hn hk sk o2 a ha).1).BM ho⟩
  rcases get_set h1 with ⟨rfl,hl,e1⟩|⟨cx,h1⟩
  ·cases e1;rw[zb2 (by rw[E.len];exact hl)] at h3;cases h3;rcases get_set h2 with ⟨e,_⟩|⟨a7,h2⟩
   ·exact (ae e).elim
   ·rw[gs a7] at h4;obtain⟨fr,o,rfl⟩:=back k c2 u' bG a7 h2 h4 h6;intro a ha hb;rw[new.BM h5] at keep;exact (keep k c2 u' fr a7 h2 h4 o a hb).2.1 ha
  ·rw[gs cx] at h3;obtain⟨fr,o,rfl⟩:=back j c1 u a5 cx h1 h3 h5;rcases get_set h2 with ⟨rfl,hl,e1⟩|⟨a7,h2⟩
   ·cases e1;rw[zb2 (by rw[E.len];exact hl)] at h4;cases h4;intro a ha;rw[new.BM h6] at keep;exact (keep j c1 u fr cx h1 h3 o a ha).2.1
   ·rw[gs a7] at h4;obtain⟨qx,o2,rfl⟩:=back k c2 u' bG a7 h2 h4 h6;exact E.apart j k c1 c2 u u' fr qx h1 h2 h3 h4 o o2 ae
def Oo {α:Type}:∀ {l:List α}{i:Nat}{x:α},l[i]?=some x->l.set i x=l
 |[],_,_,h=>by cases h
 |y::r,0,x,h=>by cases h;rfl
 |y::r,i+1,x,h=>by rw[za8,Oo (by simpa using h)]
def An.mut {K}(E:An K P0 P H σ ρ)(ho:ρ[i]?=some (some (.own ds)))(hs:σ[i]?=some (some (.ref p)))(pP:P p)(np:¬ P0 p)(hx:Aj K (del H P) xs j4):
 An K P0 P (upd H p (.lst xs)) σ (ρ.set i (some (.own j4)))/\Tr P0 P H P (upd H p (.lst xs)):=by
 have sd:del (upd H p (.lst xs)) P=del H P:=by
  funext b;by_cases hb:P b
  ·rw[EJ hb,EJ hb]
  ·rw[Az hb,Az hb,Ag (λ z=>hb (by rw[z];exact pP))]
 have sm:Ah (del H P) (del (upd H p (.lst xs)) P):=by rw[sd];exact Ah.refl _
 obtain⟨v,fp,s1,o1,_⟩:=E.ows i _ ho rfl;rw[hs] at s1;cases s1;have key:=E.Zv (P':=P) (H':=upd H p (.lst xs)) (i:=i) (v:=.ref p) (c:=.own j4) (fp:=[p]) (λ a h=>h) (λ a h=>?_) sm (λ j c' v' ah ae h1 h2 h3 a ha=>?_) ⟨p,xs,rfl,rfl,Am,by rw[sd];exact hx⟩ (λ a ha=>by rw[za9.mp ha];exact⟨pP,np⟩) (by simp)
 ·rw[Oo hs] at key;exact⟨key,sm,λ a h=>by rw[Ag (λ z=>np (by rw[<-z];exact h))]⟩
 ·by_cases ha:a=p
  ·subst ha;exact ED.lst Am
  ·unfold ED;rw[Ag ha];exact E.BQ a h
 ·obtain⟨p',fm,e,rfl,_⟩:=o1;cases e;have hn:a≠p:=λ z=>E.apart j i c' _ v' _ ah [p] h1 ho h2 hs h3 ⟨p,fm,rfl,rfl,by assumption⟩ (zbn ae) a ha (by rw[z];exact za9.mpr rfl);exact⟨Ag hn,λ z=>hn (za9.mp z)⟩
def An.grow {K}(E:An K P0 P H σ ρ)(ho:ρ[i]?=some (some (.own ds)))(hs:σ[i]?=some (some (.ref p)))(hp:H p=some (.lst xs))(pP:P p)(np:¬ P0 p)(hx:Aj K (del H P) xs ds)(hv:BS K (del H P) v d):
 An K P0 P (upd H p (.lst (xs++[v]))) σ (ρ.set i (some (.own (ds++[d]))))/\Tr P0 P H P (upd H p (.lst (xs++[v]))):=E.mut ho hs pP np (hx.snoc hv)
def AH (i:Nat)(hN:X.N.Nodup)(hi:X.N[i]?=some x)(hx:Loc X.env.scope x)(ha:DE X WX true e f)(hs: ~~~(swapsWith e (some (.Name x pos')) pos.line X.env=pure false))(hf:X.fn x=true\/X.env.scope.names.lookup x=some .local:=by first | exact .inl rfl | exact .inr rfl | assumption):
 DS X WX (.Assign [.Name x pos'] e pos) (λ ρ=>(f ρ).bind λ d=>.ok (.next (ρ.set i (some (.val d))))):=by
 obtain⟨ta,a1,a2⟩:=ha;refine⟨_,Wt hN hi hx a1 hs hf,λ P0 P σ H Z ρ E h=>?_⟩;dsimp only at h;refine a2 P0 P σ H _ ρ E ?_;cases q:f ρ with
 |bad=>rw[q] at h;exact h
 |ex x=>rw[q] at h;exact λ H' s=>h H' P (E.tr s)
 |ok d=>rw[q] at h;exact λ v H' s hv=>h _ H' P (E.tr s) ((E.same s).WV hv)
def mT {K}{α:Type}{m}{k}{R:M α->Prop}(h:gS K WX P0 P H Z (m.bind k))(E:An K P0 P H σ ρ)(hk:∀a,gS K WX P0 P H Z (k a)->R (.ok a))(hb:False->R .bad:=by exact λ h=>h)(hx:∀x,(∀H',Ah H H'->WX x H')->R (.ex x):=by exact λ _ h=>h):R m:=by
 cases m with
 |ok a=>exact hk a h
 |ex x=>exact hx x λ H' s=>h H' P (E.tr s)
 |bad=>exact hb h
abbrev Zw (i:Nat)(ρ:Ad)(m:M D):M Out:=match ρ[i]? with
 |some (some (.own ds))=>m.bind λ d=>if ds.length<1000 then .ok (.next (ρ.set i (some (.own (ds++[d]))))) else .bad
 |_=>.bad
def G3 (i:Nat){ad}(hv:PE X (.Name x p1) (O5 i))(ha:DE X WX true e f)(hs: ~~~(starEach [e] X.env=[(false,eval e X.env)]))(bw: ~~~(swapsWith (.Call (.Attribute (.Name x p1) "append" apos) [e] [] ad) none pos.line X.env=pure false))(al: ~~~(attributeBase (.Name x p1) "append" X.env (eval (.Name x p1) X.env)=eval (.Name x p1) X.env))(aW: ~~~(((backTo ad (starEach [e] X.env)).all (λ x => !x.1)&&(backToKw ad (keywordEach [] X.env)).all (λ x=>x.1.isSome)&&decide (([e]:List Expr).length+([]:List Keyword).length+(if ([]:List Keyword).isEmpty then 0 else 1)<30))=true))(am: ~~~((apos.endLine==ad.line)=true))(au: ~~~((backTo ad (starEach [] X.env)).any (·.1)=false)):
 DS X WX (.Expr (.Call (.Attribute (.Name x p1) "append" apos) [e] [] ad) pos) (λ ρ=>Zw i ρ (f ρ)):=by
 obtain⟨ta,a1,a2⟩:=ha;refine⟨_,J8 (Y5 zcu PySem.F.slot_list_append PySem.F.type_list_append R6 hv (Bm a1 CJ hs) al aW am hs au) bw,λ P0 P σ H Z ρ E h=>?_⟩;dsimp only at h;unfold Zw at h;split at h
 ·rename_i ds e1;obtain⟨p,xs,h1,h2,h3,h4,h5⟩:=E.own i ds e1;refine⟨_,h1,.inl ⟨rfl,xs,.of h2⟩,?_⟩;refine a2 P0 P σ H _ ρ E ?_;refine mT h E λ d h=>?_;by_cases hl:ds.length<1000
  ·rw[if_pos hl] at h;intro v H1 s1 hv;have E1:=E.same s1;have i7:H1 p=some (.lst xs):=s1 _ _ h2;refine⟨p,xs,v,rfl,rfl,i7,AA (by rw[h5.length];omega),?_⟩;obtain⟨E2,t2⟩:=E1.grow e1 h1 i7 h3 h4 (h5.mono s1.del) hv;exact h _ _ _ ((E.tr s1).trans t2) E2
  ·rw[if_neg hl] at h;exact h.elim
 ·exact h.elim
def Yh (ha:DE X WX c e f)(hs: ~~~(swapsWith e none pos.line X.env=pure false)):DS X WX (.Expr e pos) (λ ρ=>(f ρ).bind λ _=>.ok (.next ρ)):=by
 obtain⟨ta,a1,a2⟩:=ha;refine⟨_,J8 a1 hs,λ P0 P σ H Z ρ E h=>?_⟩;dsimp only at h;refine a2 P0 P σ H _ ρ E ?_;cases q:f ρ with
 |bad=>rw[q] at h;exact h
 |ex x=>rw[q] at h;exact λ H' s=>h H' P (E.tr s)
 |ok d=>rw[q] at h;exact λ v H' s hv=>h _ H' P (E.tr s) (E.same s)
end
abbrev gG (K:za1)(P0:Ef)(P:Addr->Prop)(H:Hp)(Q:St->Hp->Prop):M Ad->Prop
 | .ok ρ=>∀σ',An K P0 P H σ' ρ->Q σ' H
 |_=>False
abbrev DG (X:Cx)(tg:Expr)(gt:D->Ad->M Ad):Prop:=
 ∃g:TG,PG X tg g/\∀P0 P σ H Q ρ v d,An X.K P0 P H σ ρ->BS X.K (del H P) v d->gG X.K P0 P H Q (gt d ρ)->g v σ H Q
abbrev DGs (X:Cx)(xw:List Expr)(gt:List D->Ad->M Ad):Prop:=
 ∃g:dQ,zS X xw g/\∀P0 P σ H Q ρ v d,An X.K P0 P H σ ρ->Aj X.K (del H P) v d->gG X.K P0 P H Q (gt d ρ)->g v σ H Q
structure Ux (K:za1)(J:It)(P:Addr->Prop)(H:Hp)(ds:List D):Prop where
 go:∀(i:Nat) P' H',Ah (del H P) (del H' P')->i<ds.length->J.go i H'
 stop:∀(i:Nat) P' H',Ah (del H P) (del H' P')->ds.length<=i->J.stop i H'
 mQ:∀(i:Nat) P' H' v d6 d,Ah (del H P) (del H' P')->(∀a,P' a->ED H' a)->ds[i]?=some d->J.mQ i H' v d6->Ah H' d6/\BS K (del d6 P') v d
abbrev DI (X:Cx)(WX:Str->Hp->Prop)(tg iter:Expr)(f:Ad->M (List D)):Prop:=
 ∃wi,PI X tg iter wi/\∀P0 P σ H R ρ,An X.K P0 P H σ ρ->(match f ρ with | .ok ds=>∀J H',Ah H H'->Ux X.K J P H' ds->R J H' | .ex x=>∀H',Ah H H'->WX x H' | .bad=>False)->wi σ H R
abbrev forM (gt:D->Ad->M Ad)(body:Ad->M Out):List D->Ad->M Out
 |[],ρ=>.ok (.next ρ)
 |d::r,ρ=>match gt d ρ with
  | .ok ρ1=>(match body ρ1 with
   | .ok (.next ρ2)| .ok (.cont ρ2)=>forM gt body r ρ2
   | .ok (.brk ρ2)=>.ok (.next ρ2)
   |m=>m)
  |_=>.bad
section
variable {c:Bool}{P0:Ef}{P:Addr->Prop}{a b:Expr}{f:Ad->M D}{gt:D->Ad->M Ad}{d8:List D->Ad->M Ad}{gb:Ad->M Out}
def AW (i:Nat)(hN:X.N.Nodup)(hi:X.N[i]?=some x)(hx:Loc X.env.scope x)(hf:X.fn x=true\/X.env.scope.names.lookup x=some .local:=by first | exact .inl rfl | exact .inr rfl | assumption):DG X (.Name x pos) (λ d ρ=>.ok (ρ.set i (some (.val d)))):=
 ⟨_,Sb hN hi hx hf,λ P0 P σ H Q ρ v d E hv h=>h _ (E.WV hv)⟩
def Ku:DGs X [] (λ ds ρ=>match ds with | []=>.ok ρ | _=>.bad):=⟨_,XZ,λ P0 P σ H Q ρ v d E hv h=>by
 cases hv with
 |nil=>exact⟨rfl,h σ E⟩
 |cons _ _=>exact h.elim⟩
def C9 (h1:DG X e gt)(h2:DGs X es d8)(hs: ~~~((assignEach (e::es) X.env).map (·.2)=assign e X.env::(assignEach es X.env).map (·.2))):
 DGs X (e::es) (λ ds ρ=>match ds with|d::r=>(gt d ρ).bind (d8 r)|[]=>.bad):=by
 obtain⟨t,a1,a2⟩:=h1;obtain⟨u,b1,b2⟩:=h2;refine⟨_,U7 a1 b1 hs,λ P0 P σ H Q ρ v d E hv h=>?_⟩;cases hv with
 |nil=>exact h.elim
 | @cons x d xs ds hx dh =>
  refine⟨x,xs,rfl,a2 P0 P σ H _ ρ x d E hx ?_⟩;dsimp only at h;cases q:gt d ρ with
  |bad|ex y=>rw[q] at h;exact h
  |ok ρ1=>rw[q] at h;exact λ σ' E'=>b2 P0 P σ' H Q ρ1 xs ds E' dh h
def Oq (hc:X.calm=true)(h:DGs X es d8)(hn: ~~~((assignEach es X.env).length=n))(aF: ~~~((assignEach es X.env).findIdx? (·.1)=none)):
 DG X (.Tuple es k pos) (λ d ρ=>match d with | .tup ds=>if ds.length=n then d8 ds ρ else .bad|_=>.bad):=by
 obtain⟨t,a1,a2⟩:=h;refine⟨_,eE hc a1 hn aF,λ P0 P σ H Q ρ v d E hv h=>?_⟩;cases hv with
 | @tup a xs ds hs hl =>
  dsimp only at h;by_cases hd:ds.length=n
  ·rw[if_pos hd] at h;exact⟨a,xs,rfl,FF.of (Ao hs).2,by rw[hl.length];exact hd,a2 P0 P σ H Q ρ xs ds E hl h⟩
  ·rw[if_neg hd] at h;exact h.elim
 |_=>exact h.elim
def wV (ha:DE X WX true e f)(hg:DG X tg gt)(hs: ~~~(swapsWithSole [tg] e pos.line X.env=pure false))(hw: ~~~(swappedStores [tg] e X.env=pure none))(h1: ~~~((assignEach [tg] X.env).map (·.2)=[assign tg X.env])):
 DS X WX (.Assign [tg] e pos) (λ ρ=>(f ρ).bind λ d=>match gt d ρ with | .ok ρ'=>.ok (.next ρ')|_=>.bad):=by
 obtain⟨ta,a1,a2⟩:=ha;obtain⟨t,b1,b2⟩:=hg;refine⟨_,Ws a1 b1 hs hw h1,λ P0 P σ H Z ρ E h=>?_⟩;dsimp only at h;refine a2 P0 P σ H _ ρ E ?_;refine mT h E λ d h=>?_;intro v H' s hv;refine b2 P0 P σ H' _ ρ v d (E.same s) hv ?_;cases q2:gt d ρ with
 |ok ρ'=>rw[q2] at h;exact λ σ' E'=>h σ' H' P (E.tr s) E'
 |_=>rw[q2] at h;exact h.elim
def B6 (ha:DE X WX true e f):DI X WX tg e (λ ρ=>(f ρ).bind λ d=>match d with | .lst ds=>.ok ds | _=>.bad):=by
 obtain⟨ta,a1,a2⟩:=ha;refine⟨_,nI a1,λ P0 P σ H R ρ E h=>?_⟩;dsimp only at h;refine a2 P0 P σ H _ ρ E ?_;cases q:f ρ with
 |bad|ex x=>rw[q] at h;exact h
 |ok d =>
  rw[q] at h;cases d with
  |lst ds =>
   intro v H1 s1 hv;cases hv with
   | @lst a xs _ hs hl =>
    refine⟨a,rfl,⟨xs,hs.Bh⟩,h _ H1 s1 ⟨λ i P' H' s hi=>?_,λ i P' H' s hi=>?_,λ i P' H' v d6 d s ht hd y=>?_⟩⟩
    ·obtain⟨x,hx,_⟩:=hl.get (za7 hi);exact⟨xs,x,(s.seq hs).Bh,hx⟩
    ·exact⟨xs,(s.seq hs).Bh,by rw[hl.length];exact hi⟩
    ·obtain⟨rfl,y⟩:=y;obtain⟨x,hx,bp⟩:=hl.get hd;have e:=y xs (s.seq hs).Bh;rw[hx] at e;cases e;exact⟨Ah.refl _,bp.mono s⟩
  |_=>exact h.elim
abbrev CK (lo:Int):Nat->List D
 |0=>[]
 |n+1=>.int lo::CK (lo+1) n
def BN (lo:Int):∀n:Nat,(CK lo n).length=n:=by
 intro n;induction n generalizing lo with
 |zero=>rfl
 |succ n ih=>rw[CK,zaa,ih]
def C4 {lo}{i:Nat}(h:(CK lo n)[i]?=some d):d=.int (lo+i)/\i<n:=by
 have hi:i<n:=by
  have:=(zam.mp h).1;rw[BN] at this;exact this
 refine⟨?_,hi⟩;induction n generalizing lo i with
 |zero=>omega
 |succ n ih =>
  cases i with
  |zero=>rw[CK] at h;simp at h;rw[<-h];simp
  |succ i =>
   rw[CK,zba] at h;rw[ih h (by omega)];congr 1;omega
def WW {K}(lo:Int)(n:Nat):Ux K (Itr lo n) P H (CK lo n):=
 ⟨λ i P' H' _ hi=>by rw[BN] at hi;exact hi,λ i P' H' _ hi=>by rw[BN] at hi;exact hi,λ i P' H' v d6 d _ _ hd y=>by
  obtain⟨rfl,rfl⟩:=y;obtain⟨rfl,_⟩:=C4 hd;exact⟨Ah.refl _,.int _⟩⟩
abbrev Zx:D->M (List D)
 | .int j=>@ite _ (-(2^62)<=j/\j<2^62) (zdi _) (.ok (CK 0 j.toNat)) .bad
 |_=>.bad
def Uy (h1 : -(2^62)<=j)(h2:j<2^62):Zx (.int j)=.ok (CK 0 j.toNat):=if_pos ⟨h1,h2⟩
def Kv {n:Nat}(h:n<=1000):Zx (.int (n:Int))=.ok (CK 0 n):=by
 rw[Uy (by omega) (by omega),zbr]
def BG (hg:Gl X "range")(hm:X.mg "range" = none)(ha:DE X WX c a f)(hs: ~~~(starEach [a] X.env=[(false,eval a X.env)])):
 DI X WX tg (.Call (.Name "range" p) [a] [] pos) (λ ρ=>(f ρ).bind Zx):=by
 obtain⟨ta,a1,a2⟩:=ha;refine⟨_,Zd hg hm (Bm a1 CJ hs) hs,λ P0 P σ H R ρ E h=>?_⟩;dsimp only at h;refine a2 P0 P σ H _ ρ E ?_;cases q:f ρ with
 |bad|ex x=>rw[q] at h;exact h
 |ok d =>
  rw[q] at h;cases d with
  |int j =>
   simp only[M.Aa] at h;by_cases hj : -(2^62)<=j/\j<2^62
   ·rw[Uy hj.1 hj.2] at h;exact λ v H1 s1 hv=>⟨j,by rw[hv.int_inv],hj.1,hj.2,h _ H1 s1 (WW 0 _)⟩
   ·have e:Zx (.int j)=.bad:=if_neg hj;rw[e] at h;exact h.elim
  |_=>exact h.elim
abbrev Hk (k:Nat):List D->List D
 |[]=>[]
 |d::r=>.tup [.int k,d]::Hk (k+1) r
def CV (k:Nat)(ds:List D):(Hk k ds).length=ds.length:=by
 induction ds generalizing k with
 |nil=>rfl
 |cons d r ih=>rw[Hk,zaa,zaa,ih]
def G4 {e:D}(h:(Hk k ds)[i]?=some e):∃d,ds[i]?=some d/\e=.tup [.int ((k+i:Nat):Int),d]:=by
 induction ds generalizing k i with
 |nil=>rw[Hk] at h;simp at h
 |cons d r ih =>
  cases i with
  |zero=>rw[Hk] at h;simp at h;exact⟨d,rfl,by rw[<-h];rfl⟩
  |succ i =>
   rw[Hk,zba] at h;obtain⟨d',h1,h2⟩:=ih h;refine⟨d',by simpa using h1,?_⟩;rw[h2];congr 3;omega
def Kw {x1}(hg:Gl X "enumerate")(hm:X.mg "enumerate" = none)(ha:DE X WX true a f)(hb:bootBuiltins "enumerate" = some (.type "enumerate"):=by decide +kernel)(hs: ~~~(starEach [a] X.env=[(false,eval a X.env)])):
 DI X WX (.Tuple cr x1 aV) (.Call (.Name "enumerate" p) [a] [] pos) (λ ρ=>(f ρ).bind λ d=>match d with | .lst ds=>.ok (Hk 0 ds)|_=>.bad):=by
 obtain⟨ta,a1,a2⟩:=ha;refine⟨_,oM hg hm (Bm a1 CJ hs) hb hs,λ P0 P σ H R ρ E h=>?_⟩;dsimp only at h;refine a2 P0 P σ H _ ρ E ?_;cases q:f ρ with
 |bad|ex x=>rw[q] at h;exact h
 |ok d =>
  rw[q] at h;cases d with
  |lst ds =>
   intro v H1 s1 hv;cases hv with
   | @lst a xs _ hs hl =>
    refine⟨a,rfl,⟨xs,hs.Bh⟩,h _ H1 s1 ⟨λ i P' H' s hi=>?_,λ i P' H' s hi=>?_,λ i P' H' v d6 d s ht hd y=>?_⟩⟩
    ·rw[CV] at hi;obtain⟨x,hx,_⟩:=hl.get (za7 hi);exact⟨xs,x,(s.seq hs).Bh,hx⟩
    ·rw[CV] at hi;exact⟨xs,(s.seq hs).Bh,by rw[hl.length];exact hi⟩
    ·obtain⟨p,x,hn,rfl,y,rfl⟩:=y;obtain⟨d',aD,rfl⟩:=G4 hd;obtain⟨x',hx,bp⟩:=hl.get aD;have e:=y xs (s.seq hs).Bh;rw[hx] at e;cases e;refine⟨AJ hn _,.tup (Ko hn ht) (.cons ?_ (.cons ((bp.mono s).mono (AJ hn _).del) .nil))⟩;rw[Nat.zero_add];exact .int _
  |_=>exact h.elim
def G5 {α:Type}{l:List α}(h:i<l.length):l.drop i=l[i]::l.drop (i+1):=zde h
def BU (hp:PassesOwn (model X.prog X.w) X.A X.env X.xe)(hc:X.calm=true)(hi:DI X WX tg iter fi)(hg:DG X tg gt)(hb:TX X WX body gb)(hs:∀x,foldedSetIterable iter X.env x=pure x:=by intro _;rfl):
 DS X WX (.For tg iter body [] pos) (λ ρ=>(fi ρ).bind λ ds=>forM gt gb ds ρ):=by
 obtain⟨wi,i1,i2⟩:=hi;obtain⟨t,a1,a2⟩:=hg;obtain⟨tb,b1,b2⟩:=hb;refine⟨_,vB hp hc i1 a1 b1 hs,λ P0 P σ H Z ρ E h=>?_⟩;dsimp only at h;refine i2 P0 P σ H _ ρ E ?_;cases q:fi ρ with
 |bad=>rw[q] at h;exact h
 |ex x=>rw[q] at h;exact λ H' s=>h H' P (E.tr s)
 |ok ds =>
  rw[q] at h;simp only[M.Aa] at h;intro J H1 s1 ok;refine⟨λ i m σ' H'=>m=ds.length-i/\i<=ds.length/\∃P' ρ',Tr P0 P H1 P' H'/\An X.K P0 P' H' σ' ρ'/\gS X.K WX P0 P' H' Z (forM gt gb (ds.drop i) ρ'),
   ⟨ds.length,by simp,zbe _,P,ρ,Tr.refl,E.same s1,by rw[List.drop_zero];exact h.tr (E.tr s1)⟩,?_⟩
  rintro i m σ' H' ⟨rfl,hi,P',ρ',t',E',g'⟩;by_cases ag:i<ds.length
  ·refine .inr ⟨ok.go i P' H' t'.1 ag,λ σ2 H2=>i+1<=ds.length/\∃P2 ρ2,Tr P0 P H1 P2 H2/\An X.K P0 P2 H2 σ2 ρ2/\gS X.K WX P0 P2 H2 Z (forM gt gb (ds.drop (i+1)) ρ2),λ σ2 H2 hq=>⟨ds.length-(i+1),by omega,rfl,hq.1,hq.2⟩,λ v H2 y=>?_⟩;obtain⟨s2,hv⟩:=ok.mQ i P' H' v H2 ds[i] t'.1 E'.BQ (za7 ag) y;rw[G5 ag,forM] at g';have E2:=E'.same s2;refine a2 P0 P' σ' H2 _ ρ' v ds[i] E2 hv ?_;cases q1:gt ds[i] ρ' with
   |bad=>rw[q1] at g';exact g'
   |ex x=>rw[q1] at g';exact g'.elim
   |ok ρ1 =>
    rw[q1] at g';dsimp only at g';intro σ3 E3;refine b2 P0 P' σ3 H2 _ ρ1 E3 ?_;have tt:Tr P0 P H1 P' H2:=t'.trans (E'.tr s2);cases q2:gb ρ1 with
    |bad=>rw[q2] at g';exact g'
    |ex x=>rw[q2] at g';exact gS.tr (m:=.ex x) g' (E'.tr s2)
    |ok o =>
     rw[q2] at g';cases o with
     |ret d=>exact gS.tr (m:=.ok (.ret d)) g' (E'.tr s2)
     |CD d=>exact gS.tr (m:=.ok (.CD d)) g' (E'.tr s2)
     |FJ d ρ2=>exact gS.tr (m:=.ok (.FJ d ρ2)) g' (E'.tr s2)
     |next ρ2|cont ρ2=>exact λ σ4 H4 P4 t4 E4=>⟨ag,P4,ρ2,tt.trans t4,E4,gS.tr g' ((E'.tr s2).trans t4)⟩
     |brk ρ2=>exact λ σ4 H4 P4 t4 E4=>g' σ4 H4 P4 ((E'.tr s2).trans t4) E4
  ·have e:i=ds.length:=by omega
   subst e;refine .inl ⟨ok.stop _ P' H' t'.1 (zaf _),?_⟩;rw[zcx,forM] at g';exact g' σ' H' P' Tr.refl E'
end
abbrev WY (K:za1)(n:Nat)(F:List D->M D):Sp:=λ vs H Q _=>vs.length=n/\∃P ds,(∀a,P a->ED H a)/\Aj K (del H P) vs ds/\gV K (λ _ _=>False) P H Q (F ds)
abbrev CW (N:List Str)(ds:List D):Ad:=ds.map (λ d=>some (.val d))++zag (N.length-ds.length) none
abbrev clD:Cl->M D
 | .val d=>.ok d
 | .own ds=>.ok (.lst ds)
 | .ow (.rows C2)=>.ok (.lst (C2.map D.lst))
 | .ow (.Ni _ _)=>.bad
 | .ow (.tree _ t)=>.ok (er t)
abbrev fin (m:M Out):M D:=match m with
 | .ok (.ret d)=>.ok d
 | .ok (.CD c)=>clD c
 | .ok (.next _)=>.ok .AV
 |_=>.bad
def LQ {K}(ht:∀a,P a->ED H a)(h:Aj K (del H P) vs ds):An K ⟨P,λ _=>0⟩ P H (start N vs) (CW N ds):=by
 have hl:=h.length;have key:∀(i:Nat) (c:Cl),(CW N ds)[i]?=some (some c)->∃d,ds[i]?=some d/\c=.val d:=λ i c e=>by
  unfold CW at e;by_cases hi:i<ds.length
  ·rw[zc2 (by simpa using hi),zap] at e;cases q:ds[i]? with
   |none=>rw[q] at e;cases e
   |some d=>rw[q] at e;cases e;exact⟨d,rfl,rfl⟩
  ·rw[zcn (by simpa using hi),zcg] at e;split at e<;>cases e
 refine⟨λ _ h=>h,ht,λ i d e=>?_,λ i es e io=>?_,λ i j c c' v v' fp ah e _ _ _ ho _ _=>?_,?_,λ i c n e hp=>?_⟩
 rotate_left 4
 ·obtain⟨d',q,z⟩:=key i _ e;cases z;cases hp
 ·obtain⟨d',q,z⟩:=key i _ e;cases z;obtain⟨v,hv,hd⟩:=h.get q;refine⟨v,?_,hd⟩;unfold start;rw[zc2 (by rw[za2];exact (zam.mp hv).1),zap,hv];rfl
 ·obtain⟨d',q,z⟩:=key i _ e;cases z;cases io
 ·obtain⟨d',q,z⟩:=key i _ e;cases z;exact ho.elim
 ·unfold start CW;simp[hl]
def CI (t:Tr P P H P' H'):Ah H H':=λ b o e=>by
 by_cases hb:P b
 ·rw[t.2 b hb];exact e
 ·exact (Ao (t.1 b o (by rw[Az hb];exact e))).2
def BJ.wW {K:za1}{H:Hp}{P P0:Addr->Prop}(hs:∀a,P0 a->P a):∀ {ps:List Addr}{C2:List (List D)},(∀a∈ps,¬ P0 a)->BJ K H P ps C2->Aj K (del H P0) (ps.map V.ref) (C2.map D.lst):=by
 intro _ _ k x_;cases x_ with
 |nil=>exact .nil
 |cons h r t=>exact .cons (.lst (.of (show del H P0 _=_ by rw[Az (k _ za3)];exact h)) (r.mono (D5 hs))) (BJ.wW hs (λ a ha=>k a (za4 _ ha)) t)
def oR {K}(h:gV K WX P H Q (clD c))(t':Tr P P H P2 H')(hs:∀a,P a->P2 a)(ht:∀a,P2 a->ED H' a)(ho:D6 K H' P2 c v fp)(hp:∀a∈fp,P2 a/\¬ P a):Q v H':=by
 cases c with
 |val d=>exact ho.elim
 |own ds =>
  obtain⟨p,xs,rfl,rfl,h1,h2⟩:=ho;exact h _ H' (CI t') (.lst (.of (show del H' P p=_ by rw[Az (hp p za3).2];exact h1)) (h2.mono (D5 hs)))
 |ow o =>
  cases o with
  |rows C2 =>
   obtain⟨p,ps,rfl,rfl,h1,h2⟩:=ho;exact h _ H' (CI t') (.lst (.of (show del H' P p=_ by rw[Az (hp p za3).2];exact h1)) (h2.wW hs λ a ha=>(hp a (za4 _ ha)).2))
  |Ni p ds=>exact h.elim
  |tree p t=>exact h _ H' (CI t') (C3.has hs (λ a ha=>(hp a ha).2) ho)
section
variable {P:Program}{K:za1}
def aa1 {st}(F:dR K x qual st f fd)(S:Ab N ps (A2 st))(g:Ad->M Out)(hb:∀(B0:Value) (A:Around) (outer:List Env) (s:Shared) (H:Hp) (E:XK),BE k (A.deeper (envOfC qual (A2 st) s.heap.objs.size f B0))->TX (Ua oB P w K mg base N qual (A2 st) f B0 A outer s H E).nox (λ _ _=>False) (AF st) g):
 D4 P w K mg base oB (k+1) f fd ps (WY K ps.length λ ds=>fin (g (CW N ds))):=by
 refine F.ok S (λ vs H Q E h=>h.1) λ B0 A outer s H vs Q E hr h=>?_;obtain⟨hl,P',ds,ht,hv,hq⟩:=h;obtain⟨t,h1,h2⟩:=hb B0 A outer s H E hr;refine⟨t,h1,h2 ⟨P',λ _=>0⟩ P' _ H _ _ (LQ ht hv) ?_⟩;dsimp only at hq;revert hq;cases g (CW N ds) with
 |bad|ex x=>exact λ h=>h.elim
 |ok o =>
  cases o with
  |ret d=>exact λ h v H' P2 t hv=>h v H' (CI t) hv
  |next ρ=>exact λ h σ' H' P2 t E=>h .AV H' (CI t) .AV
  |brk ρ|cont ρ=>exact λ h=>h.elim
  |CD c=>exact λ h v fp H' P2 t hs ht ho hp nd=>oR h t hs ht ho hp
  |FJ d ρ=>exact λ h=>h.elim
end
section
variable {c:Bool}{P0:Ef}{P:Addr->Prop}{a b:Expr}{f:Ad->M D}{gt:D->Ad->M Ad}{es:List Expr}{fs:Ad->M (List D)}
abbrev AZ (μ:List (Option Nat))(ρ:Ad):Ad:=μ.map λ o=>o.bind λ i=>match ρ[i]? with | some (some (.val d))=>some (.val d) | _=>none
def Jb {j:Nat}(h:(AZ μ ρ)[j]?=some (some cl)):∃i d,μ[j]?=some (some i)/\ρ[i]?=some (some (.val d))/\cl=.val d:=by
 unfold AZ at h;rw[zap] at h;cases q:μ[j]? with
 |none=>rw[q] at h;cases h
 |some o =>
  rw[q] at h;cases o with
  |none=>cases h
  |some i =>
   simp only[zck,Option.bind_some,Option.some.injEq] at h;split at h
   ·rename_i d e;cases h;exact⟨i,d,rfl,e,rfl⟩
   ·cases h
def An.block {K}(E:An K P0 P H σ ρ)(μ:List (Option Nat)):An K P0 P H (FH μ σ) (AZ μ ρ):=by
 refine⟨E.sub,E.BQ,λ j d h=>?_,λ j ds h io=>?_,λ j k c c' v v' fp ah h _ _ _ ho _ _=>?_,by unfold FH AZ;simp,λ j c n h hp=>by obtain⟨i,d',h1,h2,h3⟩:=Jb h;subst h3;cases hp⟩
 ·obtain⟨i,d',h1,h2,h3⟩:=Jb h;cases h3;obtain⟨v,h4,h5⟩:=E.val i d h2;refine⟨v,?_,h5⟩;unfold FH;rw[zap,h1];simp[h4]
 ·obtain⟨i,d',h1,h2,h3⟩:=Jb h;cases h3;cases io
 ·obtain⟨i,d',h1,h2,h3⟩:=Jb h;cases h3;exact ho.elim
abbrev B7 (gt:D->Ad->M Ad)(ft:Ad->M Bool)(fe:Ad->M D):List D->Ad->M (List D)
 |[],_=>.ok []
 |d::r,ρ=>match gt d ρ with
  | .ok ρ1=>(match ft ρ1 with
   | .ok k=>if k=true then (match fe ρ1 with
    | .ok y=>(match B7 gt ft fe r ρ with | .ok ys=>.ok (y::ys)|_=>.bad)
    |_=>.bad) else B7 gt ft fe r ρ
   |_=>.bad)
  |_=>.bad
abbrev sV (X:Cx)(scope:Scope)(NB:List Str)(μ:List (Option Nat))(tg:Expr)(gt:D->Ad->M Ad):Prop:=
 ∃g:TG,(∀s H C ex,PG (blockOf X s H scope C NB ex) tg g)/\LN μ g/\∀P0 P σ H Q ρ v d,An X.K P0 P H σ ρ->BS X.K (del H P) v d->gG X.K P0 P H Q (gt d ρ)->g v σ H Q
def Bd (i:Nat)(hN:NB.Nodup)(hi:NB[i]?=some x)(hx:(relabel scope X.env).names.lookup x=some .local)(hm:μ[i]?=some none):sV X scope NB μ (.Name x pos) (λ d ρ=>.ok (ρ.set i (some (.val d)))):=
 ⟨QW i,λ s H C ex=>Sb (X:=blockOf X s H scope C NB ex) hN hi (.inl hx) (.inr hx),oK hm,λ P0 P σ H Q ρ v d E hv h=>h _ (E.WV hv)⟩
abbrev sW (X:Cx)(cs:List Expr)(f:Ad->M Bool):Prop:=
 ∃t,zU X cs t/\∀P0 P σ H Q ρ,An X.K P0 P H σ ρ->gT (λ _ _=>False) H Q (f ρ)->t σ H Q
def BD:sW X [] (λ _=>.ok true):=⟨_,oI,λ P0 P σ H Q ρ E h=>h H (Ah.refl H)⟩
def Gw (h:DT X (λ _ _=>False) a ft):sW X [a] ft:=let ⟨t,h1,h2⟩:=h;⟨_,oJ h1,h2⟩
abbrev Ri (m:M (List D)):M D:=match m with | .ok ys=>.ok (.lst ys) | _=>.bad
def wX (i2:∀P0 P σ H R ρ,An X.K P0 P H σ ρ->(match fi ρ with | .ok ds=>∀J H',Ah H H'->Ux X.K J P H' ds->R J H' | .ex x=>∀H',Ah H H'->WX x H' | .bad=>False)->wi σ H R)(g2:∀P0 P σ H Q ρ v d,An X.K P0 P H σ ρ->BS X.K (del H P) v d->gG X.K P0 P H Q (gt d ρ)->gg v σ H Q)(t2:∀s H' C ex P0 P σ H Q ρ,An X.K P0 P H σ ρ->gT (λ _ _=>False) H Q (ft ρ)->tc s H' C ex σ H Q)(e2:∀s H' C ex P0 P σ H Q ρ,An X.K P0 P H σ ρ->gV X.K (λ _ _=>False) (Lv c P0 P) H Q (fe ρ)->te s H' C ex σ H Q)(E:An X.K P0 P H σ ρ)(h:gV X.K WX (Lv c P0 P) H Q ((fi ρ).bind λ ds=>if ds.length<=1000 then Ri (B7 gt ft fe ds (AZ μ ρ)) else .bad)):R9 wi μ gg tc te σ H Q:=by
 refine i2 P0 P σ H _ ρ E ?_;cases q:fi ρ with
 |bad|ex x=>rw[q] at h;exact h
 |ok ds =>
  rw[q] at h;simp only[M.Aa] at h;by_cases hd:¬ ds.length<=1000
  ·rw[if_neg hd] at h;exact h.elim
  have hd:ds.length<=1000:=by omega
  rw[if_pos hd] at h;intro J H1 s1 ok s C ex;cases qc:B7 gt ft fe ds (AZ μ ρ) with
  |bad|ex x=>rw[qc] at h;exact h.elim
  |ok total =>
   rw[qc] at h;unfold Ri at h;dsimp only at h;have E1:=E.same s1;refine⟨λ i m ys H2=>m=ds.length-i/\i<=ds.length/\ys.length<=i/\Ah H1 H2/\∃es rest,Aj X.K (del H2 (Lv c P0 P)) ys es/\B7 gt ft fe (ds.drop i) (AZ μ ρ)=.ok rest/\es++rest=total,
    ⟨ds.length,by simp,zbe _,zaf _,Ah.refl _,[],total,.nil,by rw[List.drop_zero];exact qc,rfl⟩,?_⟩
   rintro i m ys H2 ⟨rfl,hi,hy,s2,es,rest,bj,af,aw⟩;by_cases ag:i<ds.length
   ·refine .inr ⟨ok.go i P H2 s2.del ag,Nat.lt_of_le_of_lt hy (AA (by omega)),λ aG H'=>i+1<=ds.length/\aG.length<=i+1/\Ah H1 H'/\∃es rest,Aj X.K (del H' (Lv c P0 P)) aG es/\B7 gt ft fe (ds.drop (i+1)) (AZ μ ρ)=.ok rest/\es++rest=total,λ aG H' hq=>⟨ds.length-(i+1),by omega,rfl,hq.1,hq.2.1,hq.2.2.1,hq.2.2.2⟩,λ v H3 y=>?_⟩;have E2:=E1.same s2;obtain⟨s3,hv⟩:=ok.mQ i P H2 v H3 ds[i] s2.del E2.BQ (za7 ag) y;rw[G5 ag,B7] at af;have E3:=(E2.same s3).block μ;refine g2 P0 P _ H3 _ (AZ μ ρ) v ds[i] E3 hv ?_;cases q1:gt ds[i] (AZ μ ρ) with
    |bad|ex x=>rw[q1] at af;cases af
    |ok ρ1 =>
     rw[q1] at af;dsimp only at af;intro σ4 E4;refine t2 s H1 C ex P0 P σ4 H3 _ ρ1 E4 ?_;cases q2:ft ρ1 with
     |bad|ex x=>rw[q2] at af;cases af
     |ok k =>
      rw[q2] at af;dsimp only at af;intro H5 s5;cases k with
      |false =>
       simp only[zaz,if_false] at af ⊢;exact⟨ag,by omega,(s2.trans s3).trans s5,es,rest,(bj.mono s3.del).mono s5.del,af,aw⟩
      |true =>
       simp only[if_true] at af ⊢;refine e2 s H1 C ex P0 P σ4 H5 _ ρ1 (E4.same s5) ?_;cases q3:fe ρ1 with
       |bad|ex x=>rw[q3] at af;cases af
       |ok y' =>
        rw[q3] at af;dsimp only at af;cases q4:B7 gt ft fe (ds.drop (i+1)) (AZ μ ρ) with
        |bad|ex x=>rw[q4] at af;cases af
        |ok gu =>
         rw[q4] at af;cases af;intro w H6 s6 hw;refine⟨ag,by rw[zal,zbd];omega,((s2.trans s3).trans s5).trans s6,es++[y'],gu,(((bj.mono s3.del).mono s5.del).mono s6.del).snoc hw,rfl,?_⟩;rw[zb3];exact aw
   ·have e:i=ds.length:=by omega
    subst e;rw[zcx,B7] at af;cases af;rw[zb1] at aw;subst aw;refine .inl ⟨ok.stop _ P H2 s2.del (zaf _),λ D0 hn=>h _ _ ((s1.trans s2).trans (AJ hn _)) (.lst (.of (Ko hn λ a q=>(E1.same s2).lvt c a q)) (bj.mono (AJ hn _).del))⟩
def Jc (i:Nat)(μ:List (Option Nat))(hN:X.N.Nodup)(gn:X.N[i]?=some x)(hx:Loc X.env.scope x)(hc:X.calm=true)(hi:DI X WX tg iter fi)(av:FZ scope X.env.scope=true)(aM:Nh X.N NB scope μ=true)(hg:sV X scope NB μ tg gt)(ht:∀s H C ex,sW (blockOf X s H scope C NB ex) ifs ft)(he:∀s H C ex,DE (blockOf X s H scope C NB ex) (λ _ _=>False) true elt fe)(bw: ~~~(swapsWith (.ListComp elt [⟨tg,iter,ifs,0⟩] scope pos) (some (.Name x px)) ak.line X.env=pure true))(hs:∀x,foldedSetIterable iter X.env x=pure x:=by intro _;rfl)(hf:X.fn x=true\/X.env.scope.names.lookup x=some .local:=by first|exact .inl rfl|exact .inr rfl|assumption):
 DS X WX (.Assign [.Name x px] (.ListComp elt [⟨tg,iter,ifs,0⟩] scope pos) ak) (λ ρ=>((fi ρ).bind λ ds=>if ds.length<=1000 then Ri (B7 gt ft fe ds (AZ μ ρ)) else .bad).bind λ d=>.ok (.next (ρ.set i (some (.val d))))):=by
 obtain⟨wi,i1,i2⟩:=hi;obtain⟨gg,g1,gk,g2⟩:=hg;refine⟨_,So hN gn hx hc i1 av aM gk (λ s H C ex=>⟨g1 s H C ex,(za0 (ht s H C ex)).1,(za0 (he s H C ex)).1⟩) bw hs hf,λ P0 P σ H Z ρ E h=>?_⟩;refine wX (c:=true) i2 g2 (λ s H' C ex P0 P σ H Q ρ E h=>(za0 (ht s H' C ex)).2 P0 P σ H Q ρ E h) (λ s H' C ex P0 P σ H Q ρ E h=>(za0 (he s H' C ex)).2 P0 P σ H Q ρ E h) E ?_;dsimp only at h;revert h;cases ((fi ρ).bind λ ds=>if ds.length<=1000 then Ri (B7 gt ft fe ds (AZ μ ρ)) else .bad) with
 |bad=>exact λ h=>h
 |ex y=>exact λ h H' s=>h H' P (E.tr s)
 |ok d=>exact λ h v H' s hv=>h _ H' P (E.tr s) ((E.same s).WV hv)
end
section
variable {c:Bool}{P0:Ef}{P:Addr->Prop}{a b k:Expr}{f:Ad->M D}{te tk:TE}{p2:Pos}
abbrev ad9 (x y:D):M D:=match x,y with | .lst ds,.int i=>if i = -1 then .ok (.lst ds.reverse) else .bad | _,_=>.bad
abbrev DZ:List D->Option (List Int)
 |[]=>some []
 | .int i::r=>(DZ r).map (i::·)
 |_=>none
abbrev oS:D->Option (List Int)
 | .tup ds=>DZ ds
 |_=>none
abbrev My:List D->Option (List (D×List Int))
 |[]=>some []
 |d::r=>(oS d).bind λ k=>(My r).map ((d,k)::·)
abbrev Yi (l d:D):M D:=match l with
 | .lst ds=>(match My ds with|some ks=>.ok (match Cm ks with|none=>d|some b=>b.1)|none=>.bad)
 |_=>.bad
def LR {K:za1}{H:Hp}:∀ {xs:List V}{ds:List D}{ns:List Int},Aj K H xs ds->DZ ds=some ns->xs=ns.map V.int
 |_,_,_,.nil,e=>by simp only[DZ] at e;cases e;rfl
 |_,_,_,.cons (d:=d) h t,e=>by
  cases d with
  |int i =>
   simp only[DZ] at e;cases q:DZ _ with
   |none=>rw[q] at e;cases e
   |some ns =>
    rw[q] at e;cases e;rw[h.int_inv,LR t q];rfl
  |_=>simp[DZ] at e
noncomputable abbrev Alike (K:za1)(H:Hp):List (Addr×List Int)->List (D×List Int)->Prop:=Paired λ p q=>p.2=q.2/\BS K H (.ref p.1) q.1
def Ot {K:za1}{H:Hp}:∀ {xs:List V}{ds:List D}{ks:List (D×List Int)},Aj K H xs ds->My ds=some ks->∃bs:List (Addr×List Int),xs=bs.map (λ b=>V.ref b.1)/\(∀b∈bs,FF K H b.1 (b.2.map V.int))/\Alike K H bs ks
 |_,_,_,.nil,e=>by simp only[My] at e;cases e;exact⟨[],rfl,by simp,.nil⟩
 |_,_,_,.cons (d:=d) h t,e=>by
  simp only[My] at e;cases q:oS d with
  |none=>rw[q] at e;cases e
  |some k =>
   rw[q] at e;simp only[Option.bind_some] at e;cases q2:My _ with
   |none=>rw[q2] at e;cases e
   |some ks =>
    rw[q2] at e;cases e;obtain⟨bs,h1,h2,h3⟩:=Ot t q2;cases d with
    |tup es =>
     have h':=h;cases h with
     | @tup a xs _ hs hl =>
      simp only[oS] at q;have e1:=LR hl q;subst e1;refine⟨(a,k)::bs,by rw[h1];rfl,λ b hb=>?_,.cons ⟨rfl,h'⟩ h3⟩;rcases zab.mp hb with z|z
      ·subst z;exact FF.of hs
      ·exact h2 b z
    |_=>simp[oS] at q
def WZ {K}(h:Alike K H bs ks):(Cm bs=none/\Cm ks=none)\/∃b k,Cm bs=some b/\Cm ks=some k/\b.2=k.2/\BS K H (.ref b.1) k.1:=by
 unfold Cm
 suffices z:∀(o:Option (Addr×List Int)) (o':Option (D×List Int)),((o=none/\o'=none)\/∃b k,o=some b/\o'=some k/\b.2=k.2/\BS K H (.ref b.1) k.1)->
  ((bs.foldl G0 o=none/\ks.foldl G0 o'=none) \/
   ∃b k,bs.foldl G0 o=some b/\ks.foldl G0 o'=some k/\b.2=k.2/\BS K H (.ref b.1) k.1) from z none none (.inl ⟨rfl,rfl⟩)
 induction h with
 |nil=>intro o o' h;exact h
 | @cons b k bs ks hh t ih =>
  intro o o' h;rw[zb4,zb4];refine ih _ _ ?_;rcases h with ⟨rfl,rfl⟩|⟨b',k',rfl,rfl,e1,e2⟩
  ·exact .inr ⟨b,k,rfl,rfl,hh⟩
  ·unfold G0;dsimp only;rw[hh.1,e1];by_cases hl:HT.lexLt k.2 k'.2=true
   ·rw[if_pos hl,if_pos hl];exact .inr ⟨b,k,rfl,rfl,hh⟩
   ·rw[if_neg hl,if_neg hl];exact .inr ⟨b',k',rfl,rfl,e1,e2⟩
def oT (hc:X.calm=true)(hu:X.A.units+1<cLine)(hg:Gl X "min")(hm:X.mg "min" = none)(ha:DE X WX c e f)(hb:DE X WX c e2 g)(aF: ~~~(starEach [e] X.env=[(false,eval e X.env)]))(a8: ~~~((backToKw pos (keywordEach [⟨some "default",e2,kp⟩] X.env)).all (·.1.isSome)=true))(qt: ~~~((backToKw pos (keywordEach [⟨some "default",e2,kp⟩] X.env)).filterMap (·.1)=([("default" : Str)]:List Str)))(qu: ~~~((backToKw pos (keywordEach [⟨some "default",e2,kp⟩] X.env)).any (·.1.isNone)=false))(bi: ~~~(backTo pos (starEach [e] X.env)=(false,eval e X.env)::backTo pos (starEach [] X.env)))(hpl: ~~~((backTo pos (starEach [e] X.env)).any (·.1)=false)):
 DE X WX c (.Call (.Name "min" p) [e] [⟨some "default",e2,kp⟩] pos) (λ ρ=>(f ρ).bind λ x=>(g ρ).bind λ y=>Yi x y):=by
 obtain⟨ta,a1,a2⟩:=ha;obtain⟨tb,b1,b2⟩:=hb;refine⟨_,oN hc hu hg hm a1 b1 aF a8 qt qu bi hpl,λ P0 P σ H Q ρ E h=>Uu (r:=λ x d H2 Q=>∃(a:Addr) (bs:List (Addr×List Int)),x=.ref a/\Ds X.K H2 a (bs.map λ b=>V.ref b.1)/\(∀b∈bs,FF X.K H2 b.1 (b.2.map V.int))/\Q (match Cm bs with|none=>d|some b=>.ref b.1) H2) a2 b2 ?_ E h⟩;intro P H x y v w Q ht hx hy h;unfold Yi at h;split at h
 ·rename_i ds;split at h
  ·rename_i ks e1;cases hx with
   | @lst a xs _ hs hl =>
    obtain⟨bs,rfl,h2,h3⟩:=Ot hl e1;refine⟨a,bs,rfl,hs.Bh,λ b hb=>(h2 b hb).Bh,?_⟩;rcases WZ h3 with ⟨q1,q2⟩|⟨b,k,q1,q2,_,q3⟩
    ·rw[q1];rw[q2] at h;exact h _ H (Ah.refl H) hy
    ·rw[q1];rw[q2] at h;exact h _ H (Ah.refl H) q3
  ·exact h.elim
 ·exact h.elim
end
def huR (hr:BE k A)(n:Nat)(hn:n<=64):A.units+n<cLine:=by have:=hr.units;omega
structure Ax (K:za1)(mg:Str->Option Value)(x:Str)(st:Stmt)(ps:List Str):Prop where
 ex:∃f fd,dR K x x st f fd/\mg x=some (.ref f)/\Binds K fd ps []
abbrev Sv (P:Program)(w:World)(base:Heap):Y0:=λ _ _ _ _ _ _=>False
noncomputable abbrev mU (P:Program)(w:World)(K:za1)(mg:Str->Option Value)(base:Heap)(N:List Str)(qual:Str)(scope:Scope)(f:Addr)(cd:Value)(A:Around)(outer:List Env)(s:Shared)(H:Hp)(E:XK):Cx:=
 Ua (Sv P w base) P w K mg base N qual scope f cd A outer s H E
structure Hl (X:Cx)(E:XK):Prop where
 call:Gp (Sv X.prog X.w X.base) X E
 own:PassesOwn (model X.prog X.w) X.A X.env X.xe
def A7 {K}{E}:
 Hl (mU P w K mg base N qual scope f cd A outer s H E) E:=⟨λ _ _ _ _ _ _ _ h=>h.elim,PassesOwn.leaving⟩
def B3 (h:X.xe=λ _ _=>False):Hl X E0:=⟨λ _ _ _ _ _ _ _ h=>h.elim,by rw[h];exact PassesOwn.never⟩
def Hl.toXCall {E}(h:Hl X E):Hl X E:=h
abbrev CL (K:za1)(E:XK):Str->Hp->Prop:=λ x H=>∃c,zas K mainGlobals x=some (some (.ref c))/\E (.ref c) none H
section
variable {c:Bool}{a b:Expr}{f:Ad->M D}{p:Pos}
abbrev sX (K:za1):R2:=λ x y H Q=>∃l b xs zs,x=.ref l/\y=.ref b/\Ds K H l xs/\Ds K H b zs/\xs.length+zs.length<=sizeLine/\∀p,H p=none->Q (.ref p) (upd H p (.lst (xs++zs)))
def oU:HI X (binaryOp .Add) (sX X.K):=by
 intro pins s σ H x y v u Q I rx ry h;obtain⟨l,b,xs,zs,rfl,rfl,h1,h2,hz,q⟩:=h;cases rx;cases ry;obtain⟨aa,r,⟨⟨c1,d1,t1,xx⟩,n,e1,q1,q2,q3⟩,cy⟩:=I.list h1;obtain⟨aL,r2,⟨⟨c2,d2,t2,jq⟩,n2,e2,q4,q5,q6⟩,hz2⟩:=I.list h2;dsimp only at q1 q2 q3 q4 q5 q6;subst q1 q2 q3 q4 q5 q6;have l1:=r.length;have l2:=r2.length;refine concat_meets ⟨_,e1,rfl⟩ ⟨_,e2,rfl⟩ noFill_list_add seq_list_add PySem.F.slot_list_add PySem.F.entry_list_add (PySem.F.args_list_add_2 _ _) (list_addW l b aa.toArray aL.toArray n n2 none none xx jq (by rw[zad,zad];omega)) ⟨e1,e2,?_⟩;rw[show aa.toArray++aL.toArray=(aa++aL).toArray by simp];exact⟨.ref _,_,I.aaI (t':=s.toks) (r.append r2) (by rw[zal];omega),rfl,q _ I.fresh⟩
abbrev adH (x y:D):M D:=match x,y with
 | .int i,.int j=>.ok (.int (i+j))
 | .lst ds,.lst es=>if ds.length+es.length<=1000 then .ok (.lst (ds++es)) else .bad
 |_,_=>.bad
def Aj.app {K:za1}{H:Hp}:∀ {xs ys:List V}{ds es:List D},Aj K H xs ds->Aj K H ys es->Aj K H (xs++ys) (ds++es):=by
 intro _ _ _ _ x_ h;cases x_ with
 |nil=>exact h
 |cons a t=>exact .cons a (t.app h)
abbrev dIn (neg:Bool)(x y:D):M D:=match x,y with
 | .int i,.lst ds=>(match DZ ds with|some ns=>.ok (.bl (if neg then !ns.contains i else ns.contains i))|none=>.bad)
 |_,_=>.bad
def gD (i:Int)(ns:List Int):inV (.int i) (ns.map V.int)=ns.contains i:=by
 unfold inV;induction ns with
 |nil=>rfl
 |cons n r ih =>
  rw[za6,zch,ih,List.contains_cons];congr 1;show (n==i)=(i==n);rw[zd9,beq_iff_eq,beq_iff_eq];exact eq_comm
def Zy (ns:List Int):(ns.map V.int).all Ki=true:=by
 induction ns with
 |nil=>rfl
 |cons n r ih=>rw[za6,List.all_cons,ih];rfl
def HR:Ye X.K WX (rIn X.K neg) (dIn neg):=by
 intro P H x y v w Q ht hx hy h;unfold dIn at h;split at h
 ·rename_i i ds;split at h
  ·rename_i ns hn;cases hx;cases hy with
   |lst h1 h2 =>
    have e:=LR h2 hn;subst e;refine⟨_,_,rfl,.inl h1.Bh,rfl,Zy ns,?_⟩;rw[gD];exact h _ H (Ah.refl H) (.bl _)
  ·exact h.elim
 ·exact h.elim
end
def LS {st}:DS X WX st (λ _=>.bad):=⟨λ _ _ _=>False,λ _ _ _ _ _ _ h=>h.elim,λ _ _ _ _ _ _ _ h=>h.elim⟩
abbrev UA (i j:Int):Prop:=(i.natAbs<2^1000/\j.natAbs<2^1000)\/eL i j
instance (i j:Int):Decidable (UA i j):=by unfold UA;infer_instance
def Rj (h:i.natAbs<2^1000):zbw i<=2^20:=by
 unfold zbw;split
 ·exact zbe _
 ·rename_i z;have h0:i.natAbs≠0:=λ q=>z (by rw[Int.natAbs_eq_zero.mp q];rfl);have:=(Nat.log2_lt h0).mpr h;have h3:(1000:Nat)<=2^20:=by decide
  exact zc4 this h3
def UA.ok (h:UA i j):IntMulOk i j:=by
 rcases h with ⟨h1,h2⟩|h
 ·exact IntMulOk.of_bits (Rj h1) (Rj h2)
 ·exact h.ok
def Kx (p:D->Bool)(f:D->D):∀(ds:List D),(∀d∈ds,∃ρ1,gt d ρ=.ok ρ1/\ft ρ1=.ok (p d)/\(p d=true->fe ρ1=.ok (f d)))->B7 gt ft fe ds ρ=.ok ((ds.filter p).map f)
 |[],_=>rfl
 |d::r,h=>by
  obtain⟨ρ1,h1,h2,h3⟩:=h d za3;have ih:=Kx p f r λ d hd=>h d (za4 _ hd);rw[B7,h1];dsimp only;rw[h2];dsimp only;by_cases hp:p d=true
  ·rw[if_pos hp,h3 hp];dsimp only;rw[ih,zcv hp];rfl
  ·rw[if_neg hp,ih,zcw hp]
def EN (n:Nat):CK 0 n=(zaj n).map λ i:Nat=>D.int (i:Int):=by
 apply zdb;intro i;rw[zap];by_cases h:i<n
 ·have hi:i<(CK 0 n).length:=by rw[BN];exact h
  have e:=za7 hi;obtain⟨h1,_⟩:=C4 e;rw[e,h1,zc3 h,Int.zero_add];rfl
 ·rw[zbh (by rw[BN];omega),zbh (by simp;omega)];rfl
def LU (ns:List Int):DZ (ns.map D.int)=some ns:=by
 induction ns with
 |nil=>rfl
 |cons n r ih=>rw[za6,DZ,ih];rfl
def gE (ds:List D)(n:Nat):zV (some (n:Int)) none (.lst ds)=.ok (.lst (ds.drop n)):=by
 unfold zV;dsimp only;rw[HT.eW,HT.Se];congr 2;by_cases h:n<=ds.length
 ·rw[Nat.min_eq_left h,zd0 (by rw[zdg];exact zaf _)]
 ·rw[Nat.min_eq_right (by omega),List.drop_of_length_le (zaf _),List.drop_of_length_le (by omega),List.take_nil]
abbrev Pl (n:Nat)(d:D):Prop:=TV d<=n/\CC d=true
def Sw:∀ {ds:List D},(∀d∈ds,TV d<=n)->Sr ds<=n
 |[],_=>by rw[Sr];exact zbe _
 |d::r,h=>by
  rw[Sr];exact Nat.max_le.mpr ⟨h d za3,Sw λ d hd=>h d (za4 _ hd)⟩
def Sx:∀ {ds:List D},(∀d∈ds,CC d=true)->LO ds=true
 |[],_=>by rw[LO]
 |d::r,h=>by
  rw[LO,h d za3,Sx λ d hd=>h d (za4 _ hd)];rfl
def Dw (i:Int):Pl n (.int i):=⟨by rw[TV];exact zbe _;all_goals simp,by rw[CC];all_goals simp⟩
def gF:Pl n .AV:=⟨by rw[TV];exact zbe _;all_goals simp,by rw[CC];all_goals simp⟩
def X0 (h:∀d∈ds,Pl n d):Pl (n+1) (.tup ds):=
 ⟨by rw[TV];exact Nat.succ_le_succ (Sw λ d hd=>(h d hd).1),by rw[CC];exact Sx λ d hd=>(h d hd).2⟩
def X1 (h:∀d∈ds,Pl n d):Pl (n+1) (.lst ds):=
 ⟨by rw[TV];exact Nat.succ_le_succ (Sw λ d hd=>(h d hd).1),by rw[CC];exact Sx λ d hd=>(h d hd).2⟩
def Yj (ns:List Int):Pl (n+1) (.lst (ns.map D.int)):=X1 λ d hd=>by
 obtain⟨i,_,rfl⟩:=zar.mp hd;exact Dw i
def Pl.le (h:Pl n d)(k:n<=m):Pl m d:=⟨zc4 h.1 k,h.2⟩
def X2:∀d∈([]:List D),Pl n d:=λ d h=>by cases h
def Fs (h:Pl n d)(t:∀d∈ds,Pl n d):∀e∈d::ds,Pl n e:=λ e he=>by
 rcases zab.mp he with rfl|he
 ·exact h
 ·exact t e he
def Sy (h:Pl n x)(k:Pl n y):mS n x y=.ok (.bl (By x y)):=by
 unfold mS;rw[if_pos ⟨h.1,h.2,k.2⟩]
def X3 (h:Pl n x)(k:Pl n y):sT n x y=.ok (.bl (!By x y)):=by
 unfold sT;rw[if_pos ⟨h.1,h.2,k.2⟩]
def LV (f:D->D)(ds:List D)(h:∀d∈ds,∃ρ1,gt d ρ=.ok ρ1/\ft ρ1=.ok true/\fe ρ1=.ok (f d)):B7 gt ft fe ds ρ=.ok (ds.map f):=by
 rw[Kx (λ _=>true) f ds λ d hd=>by
  obtain⟨ρ1,h1,h2,h3⟩:=h d hd;exact⟨ρ1,h1,h2,λ _=>h3⟩]
 rw[List.filter_eq_self.mpr λ _ _=>rfl]
def oV (ds:List D)(a b:Nat):zV (some (a:Int)) (some (b:Int)) (.lst ds)=.ok (.lst ((ds.drop a).take (b-a))):=by
 unfold zV;dsimp only;rw[HT.Se,HT.Se];congr 2;by_cases h:a<=ds.length
 ·rw[Nat.min_eq_left h];by_cases h2:b<=ds.length
  ·rw[Nat.min_eq_left h2]
  ·rw[Nat.min_eq_right (by omega),zd0 (by rw[zdg];exact zaf _),zd0 (by rw[zdg];omega)]
 ·rw[Nat.min_eq_right (show ds.length<=a by omega),List.drop_of_length_le (zaf _),List.drop_of_length_le (show ds.length<=a by omega),List.take_nil,List.take_nil]
section
variable {c:Bool}{P0:Ef}{P:Addr->Prop}{a b:Expr}{f:Ad->M D}{gt:Ad->M Bool}{st:Stmt}{rest:List Stmt}
def UB {K}(h:BS K H v d):∀n:Nat,Aj K H (zag n v) (zag n d)
 |0=>.nil
 |n+1=>by rw[zcb,zcb];exact .cons h (UB h n)
def Ou {K}(h:BS K H v d):∀ {vs:List V}{ds:List D}(n:Nat),Aj K H vs ds->Aj K H (vs.set n v) (ds.set n d)
 |_,_,_,.nil=>.nil
 |_,_,0,.cons _ t=>.cons h t
 |_,_,n+1,.cons a t=>.cons a (Ou h n t)
abbrev aea (i:Nat)(ρ:Ad)(d k:D):M Out:=match k with
 | .int j=>if 0<=j/\j.toNat<=1000 then .ok (.next (ρ.set i (some (.own (zag j.toNat d))))) else .bad
 |_=>.bad
def Rk {α:Type}(v:α):∀n:Nat,(zag n [v]).flatten=zag n v
 |0=>rfl
 |n+1=>by rw[zcb,List.flatten_cons,Rk v n];rfl
abbrev wY (i:Nat)(ρ:Ad)(ds:List D)(d k:D):M Out:=match k with
 | .int j=>(match Qw ds.length j with|some n=>.ok (.next (ρ.set i (some (.own (ds.set n d)))))|none=>.bad)
 |_=>.bad
abbrev oW (i:Nat)(ρ:Ad)(m:M D)(d:D):M Out:=match ρ[i]? with
 |some (some (.own ds))=>m.bind (wY i ρ ds d)
 |_=>.bad
def X4 (i:Nat)(hv:PE X (.Name x p1) (O5 i))(ha:DE X WX true a f)(hk:DE X WX true b g)(hs: ~~~(swapsWithSole [.Subscript (.Name x p1) b ak] a pos.line X.env=pure false))(hw: ~~~(swappedStores [.Subscript (.Name x p1) b ak] a X.env=pure none))(h1: ~~~((assignEach [.Subscript (.Name x p1) b ak] X.env).map (·.2)=[assign (.Subscript (.Name x p1) b ak) X.env]))(gw:∀v,assign (.Subscript (.Name x p1) b ak) X.env v=(do
  let ov <-holding [v] (eval (.Name x p1) X.env);let iv <-holding [v,ov] (eval b X.env)
  standAt ak
  holding [v,ov,iv] (setItem ov iv v)
  release [v,ov,iv] []):=by intro _;rfl):
 DS X WX (.Assign [.Subscript (.Name x p1) b ak] a pos) (λ ρ=>(f ρ).bind (oW i ρ (g ρ))):=by
 obtain⟨ta,a1,a2⟩:=ha;obtain⟨tb,b1,b2⟩:=hk;refine⟨_,Ws a1 (eF hv b1 set_list gw) hs hw h1,λ P0 P σ H Z ρ E h=>?_⟩;dsimp only at h;refine a2 P0 P σ H _ ρ E ?_;refine mT h E λ d h=>?_;intro v H1 s1 hv;have E1:=E.same s1;unfold oW at h;split at h
 ·rename_i ds e1;obtain⟨p,xs,h1,h2,h3,h4,h5⟩:=E1.own i ds e1;refine⟨_,h1,b2 P0 P σ H1 _ ρ E1 ?_⟩;cases q2:g ρ with
  |bad=>rw[q2] at h;exact h.elim
  |ex x=>rw[q2] at h;exact λ H' s2=>h H' P ((E.tr s1).trans (E1.tr s2))
  |ok k =>
   rw[q2] at h;simp only[M.Aa] at h;unfold wY at h;intro w H2 s2 hw;split at h
   ·rename_i j;cases hw;split at h
    ·rename_i n en;have E2:=E1.same s2;refine⟨p,xs,j,n,rfl,rfl,s2 _ _ h2,by rw[h5.length];exact en,?_⟩;obtain⟨E3,t3⟩:=E2.mut e1 h1 h3 h4 (Ou (hv.mono s2.del) n (h5.mono s2.del));exact h _ _ _ ((E.tr s1).trans ((E1.tr s2).trans t3)) E3
    ·exact h.elim
   ·exact h.elim
 ·exact h.elim
abbrev AE (c:Ad->M Bool)(b:Ad->M Out):Nat->Ad->M Out
 |0,_=>.bad
 |n+1,ρ=>match c ρ with
  | .ok true=>(match b ρ with
   | .ok (.next ρ')| .ok (.cont ρ')=>AE c b n ρ'
   | .ok (.brk ρ')=>.ok (.next ρ')
   |r=>r)
  | .ok false=>.ok (.next ρ)
  | .ex x=>.ex x
  | .bad=>.bad
abbrev Mz (c:Ad->M Bool)(b:Ad->M Out)(ρ:Ad):M Out:=
 @dite _ (∃n,AE c b n ρ≠.bad) (zdi _) (λ h=>AE c b (za5 h) ρ) (λ _=>.bad)
def CY {c}{b}:∀ {n:Nat}{ρ:Ad},AE c b n ρ≠.bad->∀m,AE c b (n+m) ρ=AE c b n ρ
 |0,ρ,h,m=>(h rfl).elim
 |n+1,ρ,h,m=>by
  rw[show n+1+m=(n+m)+1 by omega];rw[AE] at h;rw[AE,AE];cases q:c ρ with
  |bad|ex x=>rfl
  |ok k =>
   rw[q] at h;cases k with
   |false=>rfl
   |true =>
    dsimp only at h ⊢;cases q2:b ρ with
    |bad|ex x=>rfl
    |ok o =>
     rw[q2] at h;cases o with
     |next ρ'=>dsimp only at h ⊢;exact CY h m
     |cont ρ'=>dsimp only at h ⊢;exact CY h m
     |brk ρ'=>rfl
     |ret d|CD d|FJ d ρ2=>rfl
def gH {c}{b}(h:AE c b n ρ≠.bad):Mz c b ρ=AE c b n ρ:=by
 unfold Mz;have hx:∃n,AE c b n ρ≠.bad:=⟨n,h⟩;rw[dif_pos hx];have hc:=za0 hx;have e1:=CY h (za5 hx);have e2:=CY hc n;rw[Nat.add_comm] at e2;rw[<-e1,e2]
def Zz {c}{b}(h:Mz c b ρ≠.bad):∃n,AE c b n ρ≠.bad/\Mz c b ρ=AE c b n ρ:=by
 by_cases hx:∃n,AE c b n ρ≠.bad
 ·obtain⟨n,hn⟩:=hx;exact⟨n,hn,gH hn⟩
 ·exact (h (by unfold Mz;rw[dif_neg hx])).elim
def sY {K}(h:gS K WX P0 P H Z m):m≠.bad:=λ e=>by rw[e] at h;exact h
def Ov (hp:PassesOwn (model X.prog X.w) X.A X.env X.xe)(hc:DT X WX a ft)(hb:TX X WX body g1):DS X WX (.While a body [] pos) (Mz ft g1):=by
 obtain⟨tc,c1,c2⟩:=hc;obtain⟨tb,b1,b2⟩:=hb;refine⟨_,eG hp c1 b1,λ P0 P σ H Z ρ E h=>?_⟩;obtain⟨n,hn,en⟩:=Zz (sY h);rw[en] at h;refine⟨λ m σ' H'=>∃ρ' P',An X.K P0 P' H' σ' ρ'/\Tr P0 P H P' H'/\gS X.K WX P0 P' H' Z (AE ft g1 m ρ'),⟨n,ρ,P,E,Tr.refl,h⟩,?_⟩;rintro m σ1 H1 ⟨ρ1,P1,E1,t1,h1⟩;cases m with
 |zero=>exact h1.elim
 |succ m =>
  rw[AE] at h1;refine c2 P0 P1 σ1 H1 _ ρ1 E1 ?_;cases q:ft ρ1 with
  |bad=>rw[q] at h1;exact h1
  |ex x=>rw[q] at h1;exact λ H2 s2=>h1 H2 P1 (E1.tr s2)
  |ok k =>
   rw[q] at h1;intro H2 s2;have E2:=E1.same s2;cases k with
   |false =>
    rw[if_neg (by simp)];exact h1 σ1 H2 P1 (E1.tr s2) E2
   |true =>
    rw[if_pos rfl];dsimp only at h1;refine⟨λ σ' H'=>∃ρ' P',An X.K P0 P' H' σ' ρ'/\Tr P0 P H P' H'/\gS X.K WX P0 P' H' Z (AE ft g1 m ρ'),λ σ' H' z=>⟨m,Nat.lt_succ_self m,z⟩,?_⟩;refine b2 P0 P1 σ1 H2 _ ρ1 E2 ?_;cases q2:g1 ρ1 with
    |bad=>rw[q2] at h1;exact h1
    |ex x=>rw[q2] at h1;exact λ H3 P3 t3=>h1 H3 P3 ((E1.tr s2).trans t3)
    |ok o =>
     rw[q2] at h1;have t2:=t1.trans (E1.tr s2);cases o with
     |next ρ'=>exact λ σ3 H3 P3 t3 E3=>⟨ρ',P3,E3,t2.trans t3,h1.tr ((E1.tr s2).trans t3)⟩
     |cont ρ'=>exact λ σ3 H3 P3 t3 E3=>⟨ρ',P3,E3,t2.trans t3,h1.tr ((E1.tr s2).trans t3)⟩
     |brk ρ'=>exact λ σ3 H3 P3 t3 E3=>h1 σ3 H3 P3 ((E1.tr s2).trans t3) E3
     |ret d=>exact λ v H3 P3 t3 hv=>h1 v H3 P3 ((E1.tr s2).trans t3) hv
     |CD d=>exact λ v fp H3 P3 t3=>h1 v fp H3 P3 ((E1.tr s2).trans t3)
     |FJ d ρ2=>exact λ v fp σ3 H3 P3 t3=>h1 v fp σ3 H3 P3 ((E1.tr s2).trans t3)
abbrev adI (ds:List D):M D:=match ds with
 |[.int i]=>.ok (.int i)
 |[.bl b]=>.ok (.int (if b then 1 else 0))
 |_=>.bad
abbrev HS:List D->Option (List Bool)
 |[]=>some []
 | .bl b::r=>(HS r).map (b::·)
 |_=>none
def Ox (bs:List Bool):HS (bs.map D.bl)=some bs:=by
 induction bs with
 |nil=>rfl
 |cons b r ih=>rw[za6,HS,ih];rfl
def JV:∀ {ds:List D}{bs:List Bool},HS ds=some bs->ds=bs.map D.bl
 |[],bs,h=>by cases h;rfl
 | .bl b::r,bs,h=>by
  rw[HS] at h;cases q:HS r with
  |none=>rw[q] at h;cases h
  |some xy=>rw[q] at h;cases h;rw[JV q];rfl
 | .AV::r,bs,h| .int _::r,bs,h| .str _::r,bs,h| .tup _::r,bs,h| .lst _::r,bs,h| .Gm _::r,bs,h| .BR _ _ _::r,bs,h| .ins _ _ _::r,bs,h=>by cases h
def JW {K}:∀ {vs:List V}{bs:List Bool},Aj K H vs (bs.map D.bl)->vs=bs.map V.bl
 |_,[],.nil=>rfl
 |_,b::r,.cons h t=>by cases h;rw[JW t];rfl
def JX:∀ {bs:List Bool}{us:List Value},Vals (bs.map V.bl) us->LSm.BoolsAre us bs
 |[],_,.nil=>.nil
 |b::r,_,.cons h t=>by cases h;exact .cons b (JX t)
def Oy (hc:X.calm=true):Hi X (.builtin "all") (λ xs H Q=>∃p bs,xs=[.ref p]/\Ds X.K H p (List.map V.bl bs)/\Q (.bl (bs.all id)) H):=by
 intro pins s σ H xs us Q I r h;obtain⟨p,bs,rfl,hq,q⟩:=h;obtain⟨u,rfl,rx⟩:=vals1 r;cases rx;obtain⟨aa,r',pl,hz⟩:=I.list hq;have hl:=pl.isList;have hb:=JX r';have ag:p<s.heap.objs.size:=by obtain⟨_,e,_⟩:=hl;exact zak e
 refine call_all_walk (wpAny_pyIter_list hl ?_);refine⟨s.heap.objs.size,[s.heap.objs.size,p],[s.heap.objs.size],aa.toArray.size,_,_,λ i=>(bs[i]?).getD true,rfl,Walks.list (A:=X.A.in1) (I.ok.hd hc) _ p (zax ag) aa.toArray,
  ⟨⟨_,zat _ rfl,rfl,rfl⟩,hl.push _⟩,λ i v s' Q' E' hP hQ=>?_,λ h' tk hk=>?_⟩
 ·obtain⟨b,e,rfl⟩:=hb.get i v (by simpa using hP);simp only[e,Option.getD_some] at hQ;exact wpAny_truthy_bool hQ
 ·have e:((zaj aa.toArray.size).all λ i=>(bs[i]?).getD true)=bs.all id:=by
   rw[zad,hb.length];exact LSm.range_all bs
  rw[e];exact⟨.bl _,H,I.kept (t':=tk) (LSm.kept_iter hk),rfl,q⟩
abbrev ZA (ds:List D):M D:=match ds with
 |[.lst xs]=>(match HS xs with|some bs=>.ok (.bl (bs.all id))|none=>.bad)
 |_=>.bad
def wZ:Mx X.K WX (λ xs H Q=>∃p bs,xs=[.ref p]/\Ds X.K H p (List.map V.bl bs)/\Q (.bl (bs.all id)) H) ZA:=by
 intro P H ds vs Q ht hl h;unfold ZA at h;split at h
 ·rename_i xs;obtain⟨v,rfl,hv⟩:=hl.one;split at h
  ·rename_i bs eb;have:=JV eb;subst this;cases hv with
   |lst hs hh =>
    have:=JW hh;subst this;exact⟨_,bs,rfl,hs.Bh,h _ H (Ah.refl H) (.bl _)⟩
  ·exact h.elim
 ·exact h.elim
def X5 (hc:X.calm=true)(hg:Gl X "all")(hm:X.mg "all" = none)(ha:DE X WX c e f)(hb:bootBuiltins "all" = some (.builtin "all"):=by decide +kernel)(hs: ~~~(starEach [e] X.env=[(false,eval e X.env)])):DE X WX c (.Call (.Name "all" p) [e] [] pos) (λ ρ=>((f ρ).bind λ d=>(M.ok []).bind λ ds=>.ok (d::ds)).bind ZA):=
 Ks (Oy hc) wZ hg hm hb (A1 ha A5 hs) (he:=hs)
end
abbrev Sm (n:Int):Prop:=zbw n<=2^20
def gI:∀ {ns:List Int},W.WData.weightAll (ns.map W.WData.int)<=2^20->∀n∈ns,Sm n
 |m::r,h,n,hn=>by
  rw[za6,W.WData.weightAll,W.WData.weight] at h;rcases zab.mp hn with rfl|hn
  ·unfold Sm zbw;omega
  ·exact gI (by omega) n hn
def aa3 {ns:List Int}(h:W.WData.layableAll [W.WData.list (ns.map W.WData.int)]=true):∀n∈ns,Sm n:=by
 unfold W.WData.layableAll at h;rw[List.all_cons,zb6] at h;have h1:=h.1;unfold W.WData.layable at h1;rw[zb6,decide_eq_true_eq,W.WData.weight] at h1;exact gI h1.2
end L2
namespace HT
open PySem PySem.W PyProof.Rows Spec Calls u7
def Rl {l:OpenLaw}(hn:l.most=some n)(gx:d.params.defaults=[])(run:∀(w:World) (s₀ s₁:Shared) (mg mb:Str->Option Value) (fa:Addr) (o:Obj) (pm cd doc:Value) (a:Addr) (vs:List Value) (ns:List Int),(∀n∈ns,L2.Sm n)->
  Ground q loose [] XP w s₀ mg mb s₁.heap->YP w s₁.heap->s₁.heap.get? fa=some o->o.data=.func (docDef d.name d.params d.body d.scope pm cd doc)->s₁.heap.CodeRec cd d.name->mg d.name=some (.ref fa)->
  s₁.heap.get? a=some {cls:=.type "list",data:=.seq vs.toArray}->IntsAre vs ns->ns.length<=n->s₁.gens=#[]->
  codeAny (model l.prog w) callerA (.call (.ref fa) ⟨[.ref a],[]⟩) (λ r s'=>r=.ok (.ret (.bool true))/\OldK s₁.heap s'.heap/\s'.os=s₁.os/\AllBare s'.gens) s₁):
 WalkO q loose XP YP l.row.toRowW d [] (λ f vs=>PySem.call f vs):=by
 intro w s₀ s₁ mg mb G Y fa o pm cd doc dV kV ho hd aT hD gy hg args vals as dw qy bA iy f6;obtain rfl:dV=.none:=Dflts.none hD gx;obtain rfl:kV=.none:=Dflts.noKw hD;obtain⟨a,vs,ns,rfl,rfl,cz,bm,hlen⟩:=Zl hn dw iy;refine enter_call (codeAny_mono (run w s₀ s₁ mg mb fa o pm cd doc a vs ns (L2.aa3 qy) G Y ho (fd_plain hd) aT gy cz bm hlen hg) λ r s' hq=>?_);obtain⟨rfl,h2,h3,h4⟩:=hq;exact⟨.inl ⟨.bool true,.bool true,[],rfl,λ _=>rfl,.bool true,Zm l _,λ _=>⟨List.Pairwise.nil,λ _ hm=>(nomatch hm)⟩⟩,h2,h3,h4⟩
end HT
namespace L2
open PySem PySem.Spec PyProof.Rows
def ab7 {l:PySem.W.OpenLaw}{K:Params->za1}{CX:World->Y0}{sp:World->Sp}(hn:l.most=some n)(a7:n<=sizeLine)(gx:d.params.defaults=[])(hr:BE k callerA)(hY:∀(w:World) (h:Heap),YP w h->(K w.params).In h)(F:∀(w:World) (mg:Str->Option Value) (fa:Addr) (h:Heap),(K w.params).In h->h.Ns mainGlobals mg->mg d.name=some (.ref fa)->∃fd:FuncData,(∀(s:Shared) (u:Value),BindsTo s fd ⟨[u],[]⟩ [(x,u)])/\
  ∀base:Heap,(K w.params).In base->base.Ns mainGlobals mg->D4 l.prog w (K w.params) mg base (CX w) k fa fd [x] (sp w))(bD:∀(w:World) (H:Hp) (a:Addr) (ns:List Int),(∀n∈ns,Sm n)->ns.length<=n->oA H->Ds (K w.params) H a (ns.map V.int)->sp w [.ref a] H (λ v _=>v=.bl true) λ _ _ _=>False)(ju:∀(w:World) (H:Hp) (s:Shared) (e:Value) (s':Shared),CX w [] H s (λ _ _ _=>False) e s'->False):PySem.W.WalkO q loose XP YP l.row.toRowW d [] (λ f vs=>PySem.call f vs):=by
 refine HT.Rl hn gx λ w s₀ s₁ mg mb fa o pm cd doc a vs ns bc G Y ho hd aT gy cz bm hlen hg=>?_;have KX:=hY w _ Y;obtain⟨fd,hb,hF⟩:=F w mg fa _ KX G.T.g gy;exact Ui KX G.T.g G.T.b G.T.builtins G.T.nolimit hg cz bm (zc4 hlen a7) hr hF hb (λ H hO hS=>bD w H a ns bc hlen hO hS) λ H e s'=>ju w H s₁ e s'
variable {X:Cx}{WX:Str->Hp->Prop}{c:Bool}{P0:Ef}{P P':Addr->Prop}{H H':Hp}{σ:St}{ρ ρ':Ad}{a b e:Expr}{f g g2:Ad->M D}{pos:Pos}{fn:Ad->M OT}{es:List Expr}{mg:Str->Option Value}{base:Heap}{E:XK}{ft:Ad->M Bool}{gt:D->Ad->M Ad}{fx:Ad->M (Ad×OT)}
def oX (h:∀ns:List Int,ns.length<=63->(∀n∈ns,Sm n)->F [.lst (ns.map D.int)]=.ok (.bl true))(K:za1)(H:Hp)(a:Addr)(ns:List Int)(bc:∀n∈ns,Sm n)(hl:ns.length<=63)(hS:Ds K H a (ns.map V.int)):WY K 1 F [.ref a] H (λ v _=>v=.bl true) λ _ _ _=>False:=by
 refine⟨rfl,λ _=>False,[.lst (ns.map D.int)],λ _ z=>z.elim,.cons (.lst ?_ (Aj.ints ns)) .nil,?_⟩
 ·have e:del H (λ _=>False)=H:=by funext b;exact Az (λ z=>z)
  rw[e];exact hS
 ·rw[h ns hl bc];exact λ v H' s hv=>hv.Om
abbrev Rm (i j:Int):Prop:=(zbw i<=2^20+1/\zbw j<=2^10)\/UA i j
def ZC {a b}(h:zbw a+zbw b<=2^21):IntMulOk a b:=by
 have e:(2:Nat)^21=2097152:=by decide
 have h2:Builtin.Int.intTooBig (zbw a+zbw b)=false:=by
  unfold Builtin.Int.intTooBig bitsLine;exact decide_eq_false (by omega)
 unfold IntMulOk;rw[h2];simp
def Rm.ok (h:Rm i j):IntMulOk i j:=by
 rcases h with ⟨h1,h2⟩|h
 ·exact ZC (by omega)
 ·exact h.ok
def oY:HI X (binaryOp .Mult) (rI Rm λ i j=>.int (i*j)):=opI λ _ _ _ _ _ _ _ hc q=>mul_int q hc.ok
noncomputable instance (i j:Int):Decidable (Rm i j):=zdi _
abbrev Oz:=BF λ i j=>if Rm i j then .ok (.int (i*j)) else .bad
def Ky (h:Rm i j):Oz (.int i) (.int j)=.ok (.int (i*j)):=by
 unfold Oz BF;dsimp only;rw[if_pos h]
def NQ (ha:DE X WX c a f)(hb:DE X WX c b g):DE X WX c (.BinOp a .Mult b pos) (λ ρ=>(f ρ).bind λ x=>(g ρ).bind λ y=>Oz x y):=Rf oY (Su λ _ _ _ _=>.int _) ha hb
mutual
noncomputable def Nj:D->Bool
 | .tup a=>ZD a
 | .lst _| .Gm _| .BR _ _ _| .ins _ _ _=>false
 |_=>true
noncomputable def ZD:List D->Bool
 |[]=>true
 |a::r=>Nj a&&ZD r
end
def Yk {P0}{a}(ht:∀a,P a->ED H a)(h:del H P0 a=some (.tup xs)):del H P a=some (.tup xs):=by
 obtain⟨h1,h2⟩:=Ao h;rw[Az λ z=>by
  obtain⟨o',q,r⟩:=ht a z;rw[h2] at q;cases q;exact (r xs).1 rfl]
 exact h2
mutual
theorem BS.Nj {K:za1}{H:Hp}{P0 P:Addr->Prop}(ht:∀a,P a->ED H a):∀ {v:V}{d:D},Nj d=true->BS K (del H P0) v d->BS K (del H P) v d
 |_,_,_,.AV=>.AV
 |_,_,_,.bl b=>.bl b
 |_,_,_,.int i=>.int i
 |_,_,_,.str x=>.str x
 |_,_,n,.tup h r=>.tup (Yk ht h) (Aj.Nj ht (by rw[L2.Nj] at n;exact n) r)
 |_,_,n,.lst h r|_,_,n,.Gm h r|_,_,n,.TU h r|_,_,n,.Ur h r|_,_,n,.ins _ h r=>by rw[L2.Nj] at n;cases n
theorem Aj.Nj {K:za1}{H:Hp}{P0 P:Addr->Prop}(ht:∀a,P a->ED H a):∀ {vs:List V}{ds:List D},ZD ds=true->Aj K (del H P0) vs ds->Aj K (del H P) vs ds:=by
 intro _ _ n x_;cases x_ with
 |nil=>exact .nil
 |cons h t =>
  rw[ZD,zb6] at n;exact .cons (BS.Nj ht n.1 h) (Aj.Nj ht n.2 t)
end
abbrev dp (m:M D):M D:=m.bind λ d=>if Nj d=true then .ok d else .bad
def oZ (h:DE X WX false e f):DE X WX true e (λ ρ=>dp (f ρ)):=by
 obtain⟨t,h1,h2⟩:=h;refine⟨t,h1,λ P0 P σ H Q ρ E g=>h2 P0 P σ H Q ρ E ?_⟩;unfold dp at g;dsimp only at g;cases e:f ρ with
 |ok d =>
  rw[e] at g;simp only[M.Aa] at g;by_cases hf:Nj d=true
  ·rw[if_pos hf] at g;exact λ v H' s hv=>g v H' s (hv.Nj (E.same s).BQ hf)
  ·rw[if_neg hf] at g;exact g.elim
 |ex x|bad=>rw[e] at g;exact g
section
variable {α:Type}(lt:α->α->Prop)
abbrev Qp:List α->List α->Prop
 |y::ys,x::xs=>(lt y x/\ys.length=xs.length)\/(y=x/\Qp ys xs)
 |_,_=>False
def Qp.len:∀ {ys xs:List α},Qp lt ys xs->ys.length=xs.length
 |y::ys,x::xs,h=>by
  rcases h with ⟨_,h⟩|⟨_,h⟩
  ·rw[zaa,zaa,h]
  ·rw[zaa,zaa,Qp.len h]
 |[],[],h|[],_::_,h|_::_,[],h=>h.elim
def gJ (n:Nat)(ih:∀xs:List α,xs.length=n->Acc (Qp lt) xs){x:α}(hx:Acc lt x):∀ {xs:List α},xs.length=n->Acc (Qp lt) xs->Acc (Qp lt) (x::xs):=by
 induction hx with
 |intro x _ xz =>
  intro xs hl dh;induction dh with
  |intro xs _ qz =>
   refine .intro _ λ zs h=>?_;cases zs with
   |nil=>exact h.elim
   |cons y ys =>
    rcases h with ⟨h1,h2⟩|⟨h1,h2⟩
    ·exact xz y h1 (h2.trans hl) (ih ys (h2.trans hl))
    ·subst h1;exact qz ys h2 ((Qp.len lt h2).trans hl)
def OA (h:∀x,Acc lt x):∀(n:Nat) (xs:List α),xs.length=n->Acc (Qp lt) xs
 |0,[],_=>.intro _ λ zs h=>by cases zs<;>exact h.elim
 |n+1,x::xs,e=>gJ lt n (OA h n) (h x) (by simpa using e) (OA h n xs (by simpa using e))
def Yl:∀ {xs:List α}{i:Nat}{y:α}{x:α},xs[i]?=some x->lt y x->Qp lt (xs.set i y) xs
 |[],_,_,_,h,_=>by cases h
 |z::zs,0,y,x,h,hl=>by
  cases h;exact .inl ⟨hl,rfl⟩
 |z::zs,i+1,y,x,h,hl=>.inr ⟨rfl,Yl (by simpa using h) hl⟩
def Qp.trans (ht:∀a b c,lt a b->lt b c->lt a c):∀ {xs ys zs:List α},Qp lt xs ys->Qp lt ys zs->Qp lt xs zs
 |x::xs,y::ys,z::zs,h1,h2=>by
  rcases h1 with ⟨a,b⟩|⟨rfl,b⟩
  ·rcases h2 with ⟨c,d⟩|⟨rfl,d⟩
   ·exact .inl ⟨ht _ _ _ a c,b.trans d⟩
   ·exact .inl ⟨a,b.trans (Qp.len lt d)⟩
  ·rcases h2 with ⟨c,d⟩|⟨rfl,d⟩
   ·exact .inl ⟨c,(Qp.len lt b).trans d⟩
   ·exact .inr ⟨rfl,Qp.trans ht b d⟩
 |[],_,_,h,_|_::_,[],_,h,_|_::_,_::_,[],_,h=>by cases h
end
abbrev adJ (i k:Nat)(ρ:Ad):M Out:=match ρ[i]?,ρ[k]? with
 |some (some (.ow (.rows C2))),some (some (.own ds))=>if C2.length<1000/\i≠k then .ok (.next ((ρ.set k none).set i (some (.ow (.rows (C2++[ds])))))) else .bad
 |_,_=>.bad
def gK {α:Type}{l:List α}(h:Qw l.length k=some n):R5 l k=l[n]? :=by
 unfold R5;rw[h];rfl
abbrev rowAt (C2:List (List D))(ka:D):M (List D):=match ka with
 | .int j=>(match Qw C2.length j with|some n=>(match C2[n]? with|some ds=>.ok ds|none=>.bad)|none=>.bad)
 |_=>.bad
def Ro (h:rowAt C2 ka=m)(hb:m≠.bad):∃j n ds,ka=.int j/\Qw C2.length j=some n/\C2[n]?=some ds/\m=.ok ds:=by
 subst h;unfold rowAt at hb ⊢;split at hb
 ·rename_i j;split at hb
  ·rename_i n en;split at hb
   ·rename_i ds ed;exact⟨j,n,ds,rfl,en,ed,by simp only[en,ed]⟩
   ·exact (hb rfl).elim
  ·exact (hb rfl).elim
 ·exact (hb rfl).elim
abbrev pA (i:Nat)(ρ:Ad)(ma mb:M D):M D:=match ρ[i]? with
 |some (some (.ow (.rows C2)))=>ma.bind λ ka=>(rowAt C2 ka).bind λ ds=>mb.bind λ kb=>oQ (.lst ds) kb
 |_=>.bad
def aa4 {K}(h:gV K WX P H Q m):m≠.bad:=λ e=>by rw[e] at h;exact h
def Ym {α β:Type}{m:M α}{k:α->M β}(h:m.bind k≠.bad):m≠.bad:=λ e=>by rw[e] at h;exact h rfl
def Sz (i:Nat)(hv:PE X (.Name x p1) (O5 i))(ha:DE X WX true a f)(hb:DE X WX true b g)(hs:J9 a:=by exact λ _ _=>rfl)(a9:J9 b:=by exact λ _ _=>rfl):
 DE X WX true (.Subscript (.Subscript (.Name x p1) a p2) b pos) (λ ρ=>pA i ρ (f ρ) (g ρ)):=by
 obtain⟨ta,a1,a2⟩:=ha;obtain⟨tb,b1,b2⟩:=hb;refine⟨_,Y4 NM (Y4 NM hv a1 hs) b1 a9,λ P0 P σ H Q ρ E h=>?_⟩;dsimp only at h;unfold pA at h;split at h
 ·rename_i C2 e1;obtain⟨v,fp,h1,⟨p,ps,rfl,rfl,h2,h3⟩,h4,nd⟩:=E.ows i _ e1 rfl;refine⟨_,h1,a2 P0 P σ H _ ρ E ?_⟩;refine Yd h λ ka h=>?_;intro w H1 s1 hw;obtain⟨j,n,ds,rfl,en,ed,em⟩:=Ro rfl (Ym (aa4 h));rw[em] at h;simp only[M.Aa] at h;cases hw;obtain⟨r,xs,r1,r2,r3⟩:=h3.get ed;have hl:Qw (ps.map V.ref).length j=some n:=by rw[za2,h3.length];exact en
  refine⟨p,_,j,.ref r,rfl,rfl,.of (s1 _ _ h2),by rw[gK hl,zap,r1];rfl,?_⟩;refine b2 P0 P σ H1 _ ρ (E.same s1) ?_;cases q2:g ρ with
  |bad=>rw[q2] at h;exact h.elim
  |ex x=>rw[q2] at h;exact λ H' s'=>h H' (s1.trans s')
  |ok kb =>
   rw[q2] at h;simp only[M.Aa] at h;intro u H2 s2 hu;unfold oQ at h;split at h
   ·rename_i bi;cases bi
   ·rename_i j4 j' bi;cases bi;split at h
    ·rename_i d e;cases hu;obtain⟨z,k1,k2⟩:=(r3.mono (s1.trans s2).del).R5 e;exact⟨r,xs,j',z,rfl,rfl,.of (s2 _ _ (s1 _ _ r2)),k1,h _ H2 (s1.trans s2) k2⟩
    ·exact h.elim
   ·exact h.elim
 ·exact h.elim
def BJ.set {K:za1}{H H':Hp}{P:Addr->Prop}(sm:Ah (del H P) (del H' P)){r:Addr}{xs:List V}{ds:List D}(hr:H' r=some (.lst xs))(hx:Aj K (del H' P) xs ds)(k:∀a,a≠r->H' a=H a):∀ {ps:List Addr}{C2:List (List D)}{n:Nat},ps.Nodup->ps[n]?=some r->BJ K H P ps C2->BJ K H' P ps (C2.set n ds)
 |_,_,_,_,e,.nil=>by simp at e
 |_,_,0,nd,e,.cons h1 h2 t=>by
  simp at e;subst e;rw[zb8] at nd;exact .cons hr hx (t.move sm λ a ha=>k a λ z=>nd.1 (by rw[<-z];exact ha))
 |q::ps,d::C2,n+1,nd,e,.cons h1 h2 t=>by
  rw[zb8] at nd;have e':ps[n]?=some r:=by simpa using e
  refine .cons ((k q λ z=>nd.1 (by rw[z];exact zan e')).trans h1) (h2.mono sm) (t.set sm hr hx k nd.2 e')
abbrev pB (i:Nat)(ρ:Ad)(C2:List (List D))(d ka:D)(ds:List D)(kb:D):M Out:=match ka,kb with
 | .int j,.int l=>(match Qw C2.length j,Qw ds.length l with|some n,some m=>.ok (.next (ρ.set i (some (.ow (.rows (C2.set n (ds.set m d)))))))|_,_=>.bad)
 |_,_=>.bad
abbrev UC (i:Nat)(ρ:Ad)(ma mb:M D)(d:D):M Out:=match ρ[i]? with
 |some (some (.ow (.rows C2)))=>ma.bind λ ka=>(rowAt C2 ka).bind λ ds=>mb.bind λ kb=>pB i ρ C2 d ka ds kb
 |_=>.bad
def SA (i:Nat)(hv:PE X (.Name x p1) (O5 i))(he:DE X WX true e g2)(ha:DE X WX true a f)(hb:DE X WX true b g)(x4:J9 a:=by exact λ _ _=>rfl)(hs: ~~~(swapsWithSole [.Subscript (.Subscript (.Name x p1) a p2) b ak] e pos.line X.env=pure false))(hw: ~~~(swappedStores [.Subscript (.Subscript (.Name x p1) a p2) b ak] e X.env=pure none))(h1: ~~~((assignEach [.Subscript (.Subscript (.Name x p1) a p2) b ak] X.env).map (·.2)=[assign (.Subscript (.Subscript (.Name x p1) a p2) b ak) X.env]))(gw:∀v,assign (.Subscript (.Subscript (.Name x p1) a p2) b ak) X.env v=(do
  let ov <-holding [v] (eval (.Subscript (.Name x p1) a p2) X.env);let iv <-holding [v,ov] (eval b X.env)
  standAt ak
  holding [v,ov,iv] (setItem ov iv v)
  release [v,ov,iv] []):=by intro _;rfl):
 DS X WX (.Assign [.Subscript (.Subscript (.Name x p1) a p2) b ak] e pos) (λ ρ=>(g2 ρ).bind (UC i ρ (f ρ) (g ρ))):=by
 obtain⟨te,e1,e2⟩:=he;obtain⟨ta,a1,a2⟩:=ha;obtain⟨tb,b1,b2⟩:=hb;refine⟨_,Ws e1 (eF (Y4 NM hv a1 x4) b1 set_list gw) hs hw h1,λ P0 P σ H Z ρ E h=>?_⟩;dsimp only at h;refine e2 P0 P σ H _ ρ E ?_;refine mT h E λ d h=>?_;intro v H0 s0 q0;have E0:=E.same s0;unfold UC at h;split at h
 ·rename_i C2 vg;obtain⟨v',fp,h1,o1,h4,nd⟩:=E0.ows i _ vg rfl;have oa:=o1;obtain⟨p,ps,rfl,rfl,h2,h3⟩:=o1;refine⟨_,h1,a2 P0 P σ H0 _ ρ E0 ?_⟩;cases q:f ρ with
  |bad=>rw[q] at h;exact h.elim
  |ex x=>rw[q] at h;exact λ H' s=>h H' P ((E.tr s0).trans (E0.tr s))
  |ok ka =>
   rw[q] at h;simp only[M.Aa] at h;intro w H1 s1 hw;obtain⟨j,n,ds,rfl,en,ed,em⟩:=Ro rfl (Ym (sY h));rw[em] at h;simp only[M.Aa] at h;cases hw;obtain⟨r,xs,r1,r2,r3⟩:=h3.get ed;have hl:Qw (ps.map V.ref).length j=some n:=by rw[za2,h3.length];exact en
   refine⟨p,_,j,.ref r,rfl,rfl,.of (s1 _ _ h2),by rw[gK hl,zap,r1];rfl,?_⟩;have E1:=E0.same s1;refine b2 P0 P σ H1 _ ρ E1 ?_;cases q2:g ρ with
   |bad=>rw[q2] at h;exact h.elim
   |ex x=>rw[q2] at h;exact λ H' s'=>h H' P ((E.tr s0).trans ((E0.tr s1).trans (E1.tr s')))
   |ok kb =>
    rw[q2] at h;simp only[M.Aa] at h;intro u H2 s2 hu;unfold pB at h;split at h
    ·rename_i j' l bi;cases bi;cases hu;split at h
     ·rename_i n' m em x5;rw[en] at em;cases em;have E2:=E1.same s2;have aK:=s1.trans s2;have rm:r∈ps:=zan r1;have rP:=h4 r (za4 _ rm);have f7:=zb8.mp nd;have rp:r≠p:=λ z=>f7.1 (by rw[<-z];exact rm);have sd:del (upd H2 r (.lst (xs.set m v))) P=del H2 P:=by
       funext b;by_cases hb:P b
       ·rw[EJ hb,EJ hb]
       ·rw[Az hb,Az hb,Ag (λ z=>hb (by rw[z];exact rP.1))]
      have sm:Ah (del H2 P) (del (upd H2 r (.lst (xs.set m v))) P):=by rw[sd];exact Ah.refl _
      have ob:=oa.same aK;refine⟨r,xs,l,m,rfl,rfl,aK _ _ r2,by rw[r3.length];exact x5,?_⟩;have key:=E2.Zv (P':=P) (H':=upd H2 r (.lst (xs.set m v))) (i:=i) (v:=.ref p) (c:=.ow (.rows (C2.set n (ds.set m d)))) (fp:=p::ps) (λ a h=>h) (λ a h=>?_) sm (λ j2 c' v' ah ae g1 g2 g3 a ha=>?_)
       ⟨p,ps,rfl,rfl,by rw[Ag (zbn rp)];exact aK _ _ h2,?_⟩ h4 nd
      ·rw[Oo h1] at key;exact h _ _ _ ((E.tr s0).trans ((E0.tr aK).trans ⟨sm,λ a h=>by rw[Ag (λ z=>rP.2 (by rw[<-z];exact h))]⟩)) key
      ·by_cases ha:a=r
       ·subst ha;exact ED.lst Am
       ·unfold ED;rw[Ag ha];exact E2.BQ a h
      ·have n1:=E2.apart j2 i _ _ _ _ _ _ g1 vg g2 h1 g3 ob (zbn ae) a ha;exact⟨Ag λ z=>n1 (by rw[z];exact za4 _ rm),n1⟩
      ·have x6:BJ X.K H2 P ps C2:=h3.move aK.del λ a ha=>by obtain⟨ys,z⟩:=h3.at a ha;rw[z];exact aK _ _ z
       refine x6.set sm Am ?_ (λ a ha=>Ag ha) f7.2 r1;rw[sd];exact Ou ((q0.mono s1.del).mono s2.del) m (r3.mono aK.del)
     ·exact h.elim
    ·exact h.elim
 ·exact h.elim
def Jd:∀ {ds:List D}{ns:List Int},DZ ds=some ns->ds=ns.map D.int
 |[],ns,h=>by cases h;rfl
 | .int b::r,bs,h=>by
  rw[DZ] at h;cases q:DZ r with
  |none=>rw[q] at h;cases h
  |some xy=>rw[q] at h;cases h;rw[Jd q];rfl
 | .AV::r,bs,h| .bl _::r,bs,h| .str _::r,bs,h| .tup _::r,bs,h| .lst _::r,bs,h| .Gm _::r,bs,h| .BR _ _ _::r,bs,h| .ins _ _ _::r,bs,h=>by cases h
def Gx {K}:∀ {vs:List V}{bs:List Int},Aj K H vs (bs.map D.int)->vs=bs.map V.int
 |_,[],.nil=>rfl
 |_,b::r,.cons h t=>by cases h;rw[Gx t];rfl
def xA (t:Tr P P H P2 H'){a}(h:P2 a)(hn:¬ P a):H a=none:=by
 cases q:H a with
 |none=>rfl
 |some o =>
  have:=t.1 a o (by rw[Az hn];exact q);exact ((Ao this).1 h).elim
abbrev pC:V->List V->Hp->VK->Prop:=λ x vs H Q=>∃(l:Addr) (xs:List V) (k:Nat) (y:V),x=.ref l/\vs=[.int (k:Int),y]/\H l=some (.lst xs)/\k<=xs.length/\xs.length<sizeLine/\Q .AV (upd H l (.lst (xs.take k++y::xs.drop k)))
def UE:∀ {xs:List V}{us:List Value}{y:V}{w:Value},Vals xs us->∀k:Nat,RelV y w->Vals (xs.take k++y::xs.drop k) (us.take k++w::us.drop k)
 |_,_,_,_,r,0,h=>.cons h r
 |_,_,_,_,.nil,k+1,h=>.cons h .nil
 |_,_,_,_,.cons a t,k+1,h=>.cons a (UE t k h)
def gL {E}(x:Int)(u:Tok)(y:Value)(hc:¬(!Builtin.List.listFitsIndex x)=true)(hs:items.size<=sizeLine)(e:s.heap.get? l=some {cls:=.type "list",data:=.seq items n})(h:Q .none {s with heap:=s.heap.update l (Obj.mapSeq λ xs=>(xs.extract 0 (if x<0 then (x+(xs.size:Int)).toNat else min x.toNat xs.size)).push y++xs.extract (if x<0 then (x+(xs.size:Int)).toNat else min x.toNat xs.size)),toks:=s.toks}):wpAny (model prog wd) A (call (.builtin "list.insert") [.ref l,.int x u,y]) Q E s:=by
 have hm:=PySem.AutoSeq1.list_insert_list_int_val_1 l items n x u y hc hs;have ha:=PySem.F.args_list_insert_3 (.ref l) (.int x u) y;exact call_meets PySem.F.slot_list_insert ⟨_,e,rfl⟩ PySem.F.entry_list_insert ha hm ⟨e,h⟩
def ZE:MtM X "list.insert" pC:=by
 intro pins s σ H x vs v us Q I rx rv h;obtain⟨l,xs,k,y,rfl,rfl,hH,hk,hz,q⟩:=h;cases rx;obtain⟨u,w,rfl,ru,bf⟩:=rv.two;obtain⟨tk,rfl⟩:=ru;obtain⟨z,aa,n,r,hl,e⟩:=I.Zj hH;have hlen:=r.length;have h63:=LJ;have gh:¬ (!Builtin.List.listFitsIndex (k:Int))=true:=by
  unfold Builtin.List.listFitsIndex;simp;omega
 have hsz:aa.toArray.size<=sizeLine:=by rw[zad,<-hl];exact zbs hz
 refine gL (k:Int) tk w gh hsz e ?_;refine⟨.AV,_,I.nX (its':=aa.take k++w::aa.drop k) hH e ?_ ?_ ?_,rfl,q⟩
 ·have e1:¬ ((k:Int)<0):=by omega
  have e2:min (k:Int).toNat aa.toArray.size=k:=by rw[zbr,zad];omega
  simp only[e1,if_false,e2];apply Array.toList_inj.mp;simp;rw[zd0 (by rw[zdg];exact zaf _)]
 ·exact UE r k bf
 ·rw[zal,zaa,zbt,zdg];omega
abbrev ZF (i:Nat)(ρ:Ad)(mk md:M D):M Out:=match ρ[i]? with
 |some (some (.own ds))=>mk.bind λ k=>md.bind λ d=>match k with
  | .int j=>if 0<=j/\j.toNat<=ds.length/\ds.length<1000 then .ok (.next (ρ.set i (some (.own (ds.take j.toNat++d::ds.drop j.toNat))))) else .bad
  |_=>.bad
 |_=>.bad
def LW {K}:∀ {vs:List V}{ds:List D}(n:Nat),Aj K H vs ds->Aj K H (vs.take n) (ds.take n)
 |_,_,0,_=>by rw[List.take_zero,List.take_zero];exact .nil
 |_,_,_+1,.nil=>.nil
 |_,_,n+1,.cons h t=>by rw[List.take_succ_cons,List.take_succ_cons];exact .cons h (LW n t)
def Rp {K}:∀ {vs:List V}{ds:List D}(n:Nat),Aj K H vs ds->Aj K H (vs.drop n) (ds.drop n)
 |_,_,0,h=>h
 |_,_,_+1,.nil=>.nil
 |_,_,n+1,.cons h t=>by rw[List.drop_succ_cons,List.drop_succ_cons];exact Rp n t
def UG {K:za1}{H:Hp}:∀ {vs ws:List V}{ds es:List D},Aj K H vs ds->Aj K H ws es->Aj K H (vs++ws) (ds++es):=by
 intro _ _ _ _ x_ k;cases x_ with
 |nil=>exact k
 |cons h t=>exact .cons h (UG t k)
def ZG (i:Nat){ad}(hv:PE X (.Name x p1) (O5 i))(hk:DE X WX true a f)(hd:DE X WX true b g)(hs: ~~~(starEach [a,b] X.env=(false,eval a X.env)::starEach [b] X.env))(a9: ~~~(starEach [b] X.env=[(false,eval b X.env)]))(bw: ~~~(swapsWith (.Call (.Attribute (.Name x p1) "insert" apos) [a,b] [] ad) none pos.line X.env=pure false))(al: ~~~(attributeBase (.Name x p1) "insert" X.env (eval (.Name x p1) X.env)=eval (.Name x p1) X.env))(aW: ~~~(((backTo ad (starEach [a,b] X.env)).all (λ x => !x.1)&&(backToKw ad (keywordEach [] X.env)).all (λ x=>x.1.isSome)&&decide (([a,b]:List Expr).length+([]:List Keyword).length+(if ([]:List Keyword).isEmpty then 0 else 1)<30))=true))(am: ~~~((apos.endLine==ad.line)=true))(au: ~~~((backTo ad (starEach [b] X.env)).any (·.1)=false)):
 DS X WX (.Expr (.Call (.Attribute (.Name x p1) "insert" apos) [a,b] [] ad) pos) (λ ρ=>ZF i ρ (f ρ) (g ρ)):=by
 obtain⟨ta,a1,a2⟩:=hk;obtain⟨tb,b1,b2⟩:=hd;refine⟨_,J8 (Y5 zcu PySem.F.slot_list_insert PySem.F.type_list_insert ZE hv (Bm a1 (Bm b1 CJ a9) hs) al aW am hs au) bw,λ P0 P σ H Z ρ E h=>?_⟩;dsimp only at h;unfold ZF at h;split at h
 ·rename_i ds e1;obtain⟨p,xs,h1,h2,h3,h4,h5⟩:=E.own i ds e1;refine⟨_,h1,.inl ⟨rfl,xs,.of h2⟩,a2 P0 P σ H _ ρ E ?_⟩;refine mT h E λ k h=>?_;intro w H1 s1 hw;have E1:=E.same s1;refine b2 P0 P σ H1 _ ρ E1 ?_;cases q2:g ρ with
  |bad=>rw[q2] at h;exact h
  |ex y=>rw[q2] at h;exact λ H' s=>h H' P ((E.tr s1).trans (E1.tr s))
  |ok d =>
   rw[q2] at h;simp only[M.Aa] at h;intro v H2 s2 q0;have E2:=E1.same s2;have aK:=s1.trans s2;split at h
   ·rename_i j;cases hw;by_cases hj:0<=j/\j.toNat<=ds.length/\ds.length<1000
    ·rw[if_pos hj] at h;have x8:((j.toNat:Nat):Int)=j:=Int.toNat_of_nonneg hj.1;have vh:=h5.mono aK.del;refine⟨p,xs,j.toNat,v,rfl,by rw[x8],aK _ _ h2,by rw[h5.length];exact hj.2.1,AA (by rw[h5.length];exact zbs hj.2.2),?_⟩;obtain⟨E3,t3⟩:=E2.mut e1 h1 h3 h4 (UG (LW j.toNat vh) (.cons q0 (Rp j.toNat vh)));exact h _ _ _ ((E.tr aK).trans t3) E3
    ·rw[if_neg hj] at h;exact h.elim
   ·exact h.elim
 ·exact h.elim
abbrev adK (ds:List D):M D:=match ds with
 |[.int i]=>if i.natAbs.log2<1920 then .ok (.str (toString i)) else .bad
 |_=>.bad
def OB (hc:X.calm=true):Hi X (.builtin "any") (λ xs H Q=>∃p bs,xs=[.ref p]/\Ds X.K H p (List.map V.bl bs)/\Q (.bl (bs.any id)) H):=by
 intro pins s σ H xs us Q I r h;obtain⟨p,bs,rfl,hq,q⟩:=h;obtain⟨u,rfl,rx⟩:=vals1 r;cases rx;obtain⟨aa,r',pl,hz⟩:=I.list hq;have hl:=pl.isList;have hb:=JX r';have ag:p<s.heap.objs.size:=by obtain⟨_,e,_⟩:=hl;exact zak e
 refine call_any_walk (wpAny_pyIter_list hl ?_);refine⟨s.heap.objs.size,[s.heap.objs.size,p],[s.heap.objs.size],aa.toArray.size,_,_,λ i=>(bs[i]?).getD false,rfl,Walks.list (A:=X.A.in1) (I.ok.hd hc) _ p (zax ag) aa.toArray,
  ⟨⟨_,zat _ rfl,rfl,rfl⟩,hl.push _⟩,λ i v s' Q' E' hP hQ=>?_,λ h' tk hk=>?_⟩
 ·obtain⟨b,e,rfl⟩:=hb.get i v (by simpa using hP);simp only[e,Option.getD_some] at hQ;exact wpAny_truthy_bool hQ
 ·have e:((zaj aa.toArray.size).any λ i=>(bs[i]?).getD false)=bs.any id:=by
   rw[zad,hb.length];exact LSm.range_any bs
  rw[e];exact⟨.bl _,H,I.kept (t':=tk) (LSm.kept_iter hk),rfl,q⟩
abbrev gM (ds:List D):M D:=match ds with
 |[.lst xs]=>(match HS xs with|some bs=>.ok (.bl (bs.any id))|none=>.bad)
 |_=>.bad
def xB:Mx X.K WX (λ xs H Q=>∃p bs,xs=[.ref p]/\Ds X.K H p (List.map V.bl bs)/\Q (.bl (bs.any id)) H) gM:=by
 intro P H ds vs Q ht hl h;unfold gM at h;split at h
 ·rename_i xs;obtain⟨v,rfl,hv⟩:=hl.one;split at h
  ·rename_i bs eb;have:=JV eb;subst this;cases hv with
   |lst hs hh =>
    have:=JW hh;subst this;exact⟨_,bs,rfl,hs.Bh,h _ H (Ah.refl H) (.bl _)⟩
  ·exact h.elim
 ·exact h.elim
def pE (hc:X.calm=true)(hg:Gl X "any")(hm:X.mg "any" = none)(ha:DE X WX c e f)(hb:bootBuiltins "any" = some (.builtin "any"):=by decide +kernel)(hs: ~~~(starEach [e] X.env=[(false,eval e X.env)])):DE X WX c (.Call (.Name "any" p) [e] [] pos) (λ ρ=>((f ρ).bind λ d=>(M.ok []).bind λ ds=>.ok (d::ds)).bind gM):=
 Ks (OB hc) xB hg hm hb (A1 ha A5 hs) (he:=hs)
abbrev kids:OT->List OT
 | .sh _=>[]
 | .lst ts| .tup ts| .BR _ _ ts| .ins _ _ ts=>ts
abbrev NR:OT->List OT->OT
 | .sh d,_=>.sh d
 | .lst _,ts=>.lst ts
 | .tup _,ts=>.tup ts
 | .BR b ks _,ts=>.BR b ks ts
 | .ins x ns _,ts=>.ins x ns ts
abbrev LX:OT->List Nat->Option OT
 |t,[]=>some t
 |t,j::π=>match (kids t)[j]? with|some s=>LX s π|none=>none
abbrev EO:OT->List Nat->OT->OT
 |_,[],u=>u
 |t,j::π,u=>match (kids t)[j]? with|some s=>NR t ((kids t).set j (EO s π u))|none=>t
@[simp] theorem UH (t:OT):LX t []=some t:=by unfold LX;rfl
@[simp] theorem HU (t u:OT):EO t [] u=u:=by unfold EO;rfl
def ZH (h:(kids t)[j]?=some s):LX t (j::π)=LX s π:=by rw[LX,h]
def ZI (h:(kids t)[j]?=some s):EO t (j::π) u=NR t ((kids t).set j (EO s π u)):=by rw[EO,h]
section
variable {K:za1}
abbrev CZ (K:za1)(H:Hp)(P:Addr->Prop)(v:V)(t:OT)(q:List Addr)(xs:List V):Prop:=match t with
 | .sh _=>False
 | .lst ts=>∃p,v=.ref p/\q=[p]/\H p=some (.lst xs)
 | .tup ts=>∃p,v=.ref p/\q=[]/\del H P p=some (.tup xs)
 | .BR false ks ts=>∃p kvs,v=.ref p/\q=[p]/\H p=some (.dK kvs)/\ks=(kvs.map λ kv=>CB kv.1)/\xs=kvs.map zbx
 | .BR true ks ts=>∃p kvs,v=.ref p/\q=[p]/\H p=some (.dT kvs)/\ks=(kvs.map λ kv=>.tup (kv.1.map CB))/\xs=kvs.map zbx
 | .ins x ns ts=>∃p C dx fs,v=.ref p/\q=[p]/\zas K mainGlobals x=some (some (.ref C))/\H p=some (.ins C dx fs)/\ns=fs.map zay/\xs=fs.map zbx
def CZ.own (h:CZ K H P v t q xs)(r:Av K H P xs (kids t) fp):C3 K H P v t (q++fp):=by
 cases t with
 |sh d=>exact h.elim
 |lst ts=>obtain⟨p,rfl,rfl,h⟩:=h;exact .lst h r
 |tup ts=>obtain⟨p,rfl,rfl,h⟩:=h;exact .tup h r
 |BR b ks ts =>
  cases b with
  |false=>obtain⟨p,kvs,rfl,rfl,h,rfl,rfl⟩:=h;exact .dK h r
  |true=>obtain⟨p,kvs,rfl,rfl,h,rfl,rfl⟩:=h;exact .dT h r
 |ins x ns ts=>obtain⟨p,C,dx,fs,rfl,rfl,n,h,rfl,rfl⟩:=h;exact .ins n h r
def C3.node (h:C3 K H P v t fp)(hk:kids t≠[]\/∀d,t≠.sh d):∃q xs fq,fp=q++fq/\CZ K H P v t q xs/\Av K H P xs (kids t) fq:=by
 cases h with
 |sh h=>rcases hk with hk|hk;exact (hk rfl).elim;exact (hk _ rfl).elim
 |lst h r=>exact⟨[_],_,_,rfl,⟨_,rfl,rfl,h⟩,r⟩
 |tup h r=>exact⟨[],_,_,rfl,⟨_,rfl,rfl,h⟩,r⟩
 |dK h r|dT h r=>exact⟨[_],_,_,rfl,⟨_,_,rfl,rfl,h,rfl,rfl⟩,r⟩
 |ins n h r=>exact⟨[_],_,_,rfl,⟨_,_,_,_,rfl,rfl,n,h,rfl,rfl⟩,r⟩
def CZ.move (sm:Ah (del H P) (del H' P'))(k:∀a∈q,H' a=H a)(h:CZ K H P v t q xs):CZ K H' P' v t q xs:=by
 cases t with
 |sh d=>exact h.elim
 |lst ts=>obtain⟨p,rfl,rfl,h⟩:=h;exact⟨p,rfl,rfl,(k p za3).trans h⟩
 |tup ts=>obtain⟨p,rfl,rfl,h⟩:=h;exact⟨p,rfl,rfl,sm _ _ h⟩
 |BR b ks ts =>
  cases b with
  |false|true=>obtain⟨p,kvs,rfl,rfl,h,rfl,rfl⟩:=h;exact⟨p,kvs,rfl,rfl,(k p za3).trans h,rfl,rfl⟩
 |ins x ns ts=>obtain⟨p,C,dx,fs,rfl,rfl,n,h,rfl,rfl⟩:=h;exact⟨p,C,dx,fs,rfl,rfl,n,(k p za3).trans h,rfl,rfl⟩
def CZ.kids (h:CZ K H P v t q xs)(ts:List OT):CZ K H P v (NR t ts) q xs:=by
 cases t with
 |sh d=>exact h.elim
 |lst us|tup us=>exact h
 |BR b ks us=>cases b<;>exact h
 |ins x ns us=>exact h
def SD (h:CZ K H P v t q xs)(ts:List OT):L2.kids (NR t ts)=ts:=by
 cases t with
 |sh d=>exact h.elim
 |lst us|tup us|BR b ks us|ins x ns us=>rfl
def CZ.inj (h:CZ K H P v t q xs)(h':CZ K H P v t q' fm):q=q'/\xs=fm:=by
 cases t with
 |sh d=>exact h.elim
 |lst ts|tup ts=>obtain⟨p,rfl,rfl,h⟩:=h;obtain⟨p',e,rfl,h'⟩:=h';cases e;rw[h] at h';cases h';exact⟨rfl,rfl⟩
 |BR b ks ts =>
  cases b with
  |false|true=>obtain⟨p,kvs,rfl,rfl,h,_,rfl⟩:=h;obtain⟨p',rb,e,rfl,h',_,rfl⟩:=h';cases e;rw[h] at h';cases h';exact⟨rfl,rfl⟩
 |ins x ns ts=>obtain⟨p,C,dx,fs,rfl,rfl,n,h,_,rfl⟩:=h;obtain⟨p',C',dx',ci,e,rfl,n',h',_,rfl⟩:=h';cases e;rw[h] at h';cases h';exact⟨rfl,rfl⟩
inductive Kz (K:za1) (H:Hp) (P:Addr->Prop):V->OT->List Nat->V->OT->Prop
 |nil {v t}:Kz K H P v t [] v t
 |cons {v t q xs j x s π v1 t1}:CZ K H P v t q xs->xs[j]?=some x->(kids t)[j]?=some s->Kz K H P x s π v1 t1->Kz K H P v t (j::π) v1 t1
def Kz.sub (h:Kz K H P v t π v1 t1):LX t π=some t1:=by
 induction h with
 |nil=>exact UH _
 |cons _ _ hs _ ih=>rw[ZH hs];exact ih
def Av.get:∀ {xs:List V}{ts:List OT}{fp:List Addr}{j:Nat}{x:V}{s:OT},Av K H P xs ts fp->xs[j]?=some x->ts[j]?=some s->∃pre fs post,fp=pre++fs++post/\C3 K H P x s fs
 |_,_,_,_,_,_,.nil,e,_=>by simp at e
 |_,_,_,0,_,_,.cons h r,e,e'=>by
  simp at e e';subst e;subst e';exact⟨[],_,_,rfl,h⟩
 |_,_,_,j+1,_,_,.cons (fp:=f1) h r,e,e'=>by
  obtain⟨pre,fs,post,z,q⟩:=Av.get r (by simpa using e) (by simpa using e');exact⟨f1++pre,fs,post,by rw[z];simp,q⟩
def Av.len:∀ {xs:List V}{ts:List OT}{fp:List Addr},Av K H P xs ts fp->xs.length=ts.length
 |_,_,_,.nil=>rfl
 |_,_,_,.cons _ r=>by rw[zaa,zaa,r.len]
def C3.part (h:C3 K H P v t fp)(s:Kz K H P v t π v1 t1):∃a5,C3 K H P v1 t1 a5/\(∀a∈a5,a∈fp)/\(fp.Nodup->a5.Nodup):=by
 induction s generalizing fp with
 |nil=>exact⟨fp,h,λ _ h=>h,λ h=>h⟩
 |cons n hx hs _ ih =>
  obtain⟨q,xs,fq,rfl,n',r⟩:=h.node (.inl λ z=>by rw[z] at hs;cases hs);obtain⟨rfl,rfl⟩:=n.inj n';obtain⟨pre,fs,post,rfl,o⟩:=r.get hx hs;obtain⟨a5,o1,k,kn⟩:=ih o;exact⟨a5,o1,λ a ha=>zac _ (zb5 _ (zac _ (k a ha))),λ nd=>kn (zau.mp (zau.mp (zau.mp nd).2.1).1).2.1⟩
def Av.put (sm:Ah (del H P) (del H' P')):∀ {xs:List V}{ts:List OT}{fp:List Addr}{j:Nat}{x:V}{s s':OT}{fs ci:List Addr},Av K H P xs ts fp->xs[j]?=some x->ts[j]?=some s->C3 K H P x s fs->C3 K H' P' x s' ci->(∀a∈fp,a∉fs->H' a=H a)->fp.Nodup->ci.Nodup->(∀a∈ci,a∈fp->a∈fs)->
 ∃ah,Av K H' P' xs (ts.set j s') ah/\ah.Nodup/\∀a∈ah,a∈ci\/(a∈fp/\a∉fs)
 |_,_,_,_,_,_,_,_,_,.nil,e,_,_,_,_,_,_,_=>by simp at e
 |_,_,_,0,x,s,s',fs,ci,.cons (fp:=f1) (fq:=f2) h r,e,e',o,o',k,nd,f7,dj=>by
  simp at e e';subst e;subst e';have:=h.BM o;subst this;have aP:=zau.mp nd;have k2:∀a∈f2,a∉f1:=λ a ha hb=>aP.2.2 a hb a ha rfl;refine⟨ci++f2,.cons o' (r.move sm λ a ha=>k a (zac _ ha) (k2 a ha)),zau.mpr ⟨f7,aP.2.1,λ a ha b hb z=>?_⟩,λ a ha=>?_⟩
  ·subst z;exact k2 a hb (dj a ha (zac _ hb))
  ·rcases zao.mp ha with ha|ha
   ·exact .inl ha
   ·exact .inr ⟨zac _ ha,k2 a ha⟩
 |_,_,_,j+1,x,s,s',fs,ci,.cons (vs:=u9) (ts:=x9) (fp:=f1) (fq:=f2) h r,e,e',o,o',k,nd,f7,dj=>by
  have aP:=zau.mp nd;have e2:u9[j]?=some x:=by simpa using e
  have e3:x9[j]?=some s:=by simpa using e'
  obtain⟨pre,fx,post,hf,ox⟩:=r.get e2 e3;have:=ox.BM o;subst this;have k1:∀a∈f1,a∉fx:=λ a ha hb=>aP.2.2 a ha a (by rw[hf];exact zb5 _ (zac _ hb)) rfl;obtain⟨ah,q1,q2,q3⟩:=Av.put sm r e2 e3 o o' (λ a ha hn=>k a (zac _ ha) hn) aP.2.1 f7 (λ a ha hb=>dj a ha (zac _ hb));refine⟨f1++ah,.cons (h.move sm λ a ha=>k a (zb5 _ ha) (k1 a ha)) q1,zau.mpr ⟨aP.1,q2,λ a ha b hb z=>?_⟩,λ a ha=>?_⟩
  ·subst z;rcases q3 a hb with z|z
   ·exact k1 a ha (dj a z (zb5 _ ha))
   ·exact aP.2.2 a ha a z.1 rfl
  ·rcases zao.mp ha with ha|ha
   ·exact .inr ⟨zb5 _ ha,k1 a ha⟩
   ·rcases q3 a ha with z|z
    ·exact .inl z
    ·exact .inr ⟨zac _ z.1,z.2⟩
def C3.put (sm:Ah (del H P) (del H' P'))(h:C3 K H P v t fp)(s:Kz K H P v t π v1 t1)(o:C3 K H P v1 t1 a5)(o':C3 K H' P' v1 u fu)(k:∀a∈fp,a∉a5->H' a=H a)(nd:fp.Nodup)(f7:fu.Nodup)(dj:∀a∈fu,a∈fp->a∈a5):
 ∃ah,C3 K H' P' v (EO t π u) ah/\ah.Nodup/\∀a∈ah,a∈fu\/(a∈fp/\a∉a5):=by
 induction s generalizing fp with
 |nil =>
  rw[HU];exact⟨fu,o',f7,λ a ha=>.inl ha⟩
 | @cons v t q xs j x s π v1 t1 n hx hs s1 ih =>
  obtain⟨q',fm,fq,rfl,n',r⟩:=h.node (.inl λ z=>by rw[z] at hs;cases hs);obtain⟨rfl,rfl⟩:=n.inj n';have j5:=zau.mp nd;obtain⟨pre,fs,post,hf,ox⟩:=r.get hx hs;have sub:∀a∈fs,a∈fq:=λ a ha=>by rw[hf];exact zb5 _ (zac _ ha)
  have xL:fs.Nodup:=by
   have:=j5.2.1;rw[hf] at this;exact (zau.mp (zau.mp this).1).2.1
  obtain⟨fz,oz,kz,_⟩:=ox.part s1;have:=oz.BM o;subst this;obtain⟨ci,q1,q2,q3⟩:=ih ox o o' (λ a ha hn=>k a (zac _ (sub a ha)) hn) xL (λ a ha hb=>dj a ha (zac _ (sub a hb)));have qf:∀a∈q,a∉fs:=λ a ha hb=>j5.2.2 a ha a (sub a hb) rfl;have kq:∀a∈q,H' a=H a:=λ a ha=>k a (zb5 _ ha) λ z=>qf a ha (kz a z);obtain⟨ah,p1,p2,p3⟩:=r.put sm hx hs ox q1 (λ a ha hn=>k a (zac _ ha) λ z=>hn (kz a z)) j5.2.1 q2 (λ a ha hb=>by
   rcases q3 a ha with z|z
   ·exact kz a (dj a z (zac _ hb))
   ·exact z.1)
  rw[ZI hs];have n2:=(n.move sm kq).kids ((kids t).set j (EO s π u));have o2:=n2.own (fp:=ah) (by rw[SD n];exact p1);refine⟨q++ah,o2,zau.mpr ⟨j5.1,p2,λ a ha b hb z=>?_⟩,λ a ha=>?_⟩
  ·subst z;rcases p3 a hb with z|z
   ·rcases q3 a z with y|y
    ·exact qf a ha (kz a (dj a y (zb5 _ ha)))
    ·exact qf a ha y.1
   ·exact j5.2.2 a ha a z.1 rfl
  ·rcases zao.mp ha with ha|ha
   ·exact .inr ⟨zb5 _ ha,λ z=>qf a ha (kz a z)⟩
   ·rcases p3 a ha with z|z
    ·rcases q3 a z with y|y
     ·exact .inl y
     ·exact .inr ⟨zac _ (sub a y.1),y.2⟩
    ·exact .inr ⟨zac _ z.1,λ y=>z.2 (kz a y)⟩
end
abbrev PU (P:Addr->Prop)(fp:List Addr):Addr->Prop:=λ a=>P a\/a∈fp
def HV:∀a,P a->PU P fp a:=λ a h=>.inl h
def Bs (s:Ah H H')(hn:∀a∈fp,H a=none):Ah (del H P) (del H' (PU P fp)):=λ b o e=>by
 obtain⟨h1,h2⟩:=Ao e;rw[Az λ z=>z.elim h1 λ w=>by rw[hn b w] at h2;cases h2];exact s b o h2
def SE:del H (PU P [])=del H P:=by
 funext b;by_cases h:P b
 ·rw[EJ h,EJ (.inl h)]
 ·rw[Az h,Az λ z=>z.elim h λ w=>by cases w]
def FK {K}(hP:∀a,P a->ED H' a)(o:C3 K H' Q v t fp):∀a,PU P fp a->ED H' a:=λ a h=>h.elim (hP a) (o.BQ a)
def NS {K}(hP:∀a,P a->ED H' a)(o:Av K H' Q v t fp):∀a,PU P fp a->ED H' a:=λ a h=>h.elim (hP a) (o.BQ a)
def An.more {K}(E:An K P0 P H σ ρ)(e:Ah H H')(hs:∀a,P a->P' a)(ht:∀a,P' a->ED H' a)(sm:Ah (del H P) (del H' P')):An K P0 P' H' σ ρ:=by
 have keep:∀(c:Cl) (v:V) (fp:List Addr),D6 K H P c v fp->∀a∈fp,H' a=H a:=λ c v fp o a ha=>by
  obtain⟨xs,q⟩:=o.at a ha;rw[q];exact e _ _ q
 exact⟨λ a h=>hs a (E.sub a h),ht,λ i d h=>let ⟨v,h1,h2⟩:=E.val i d h;⟨v,h1,h2.mono sm⟩,
  λ i c h io=>let ⟨v,fp,h1,h2,h3,h4⟩:=E.ows i c h io;⟨v,fp,h1,h2.move sm (keep c v fp h2),λ a ha=>⟨hs a (h3 a ha).1,(h3 a ha).2⟩,h4⟩,
  λ i j c c' v v' fp ah hi hj si sj h h' ae=>E.fQ sm (λ v fp _ o a ha=>keep _ _ _ o a ha) (λ v fp _ o a ha=>keep _ _ _ o a ha) hi hj si sj h h' ae,E.len,E.pin⟩
abbrev TY (K:za1)(WX:Str->Hp->Prop)(P:Addr->Prop)(H:Hp)(Q:VK):M OT->Prop
 | .ok t=>∀v fp H',Ah H H'->(∀a∈fp,H a=none)->fp.Nodup->C3 K H' (PU P fp) v t fp->Q v H'
 | .ex x=>∀H',Ah H H'->WX x H'
 | .bad=>False
abbrev gNs (K:za1)(WX:Str->Hp->Prop)(P:Addr->Prop)(H:Hp)(Q:List V->Hp->Prop):M (List OT)->Prop
 | .ok t=>∀v fp H',Ah H H'->(∀a∈fp,H a=none)->fp.Nodup->Av K H' (PU P fp) v t fp->Q v H'
 | .ex x=>∀H',Ah H H'->WX x H'
 | .bad=>False
def Ce (s:Ah H H'){a}(h:H' a=none):H a=none:=by
 cases q:H a with
 |none=>rfl
 |some o=>rw[s a o q] at h;cases h
section
variable {K:za1}
def TY.same (h:TY K WX P H Q m)(e:Ah H H'):TY K WX P H' Q m:=by
 cases m with
 |ok d=>exact λ v fp H2 q hn nd o=>h v fp H2 (e.trans q) (λ a ha=>Ce e (hn a ha)) nd o
 |ex x=>exact λ H2 q=>h H2 (e.trans q)
 |bad=>exact h
end
abbrev DN (X:Cx)(WX:Str->Hp->Prop)(e:Expr)(f:Ad->M OT):Prop:=
 ∃t,PE X e t/\∀P0 P σ H Q ρ,An X.K P0 P H σ ρ->TY X.K WX P H Q (f ρ)->t σ H Q
abbrev DNs (X:Cx)(WX:Str->Hp->Prop)(es:List Expr)(f:Ad->M (List OT)):Prop:=
 ∃t,PA X es t/\(∀P0 P σ H Q ρ,An X.K P0 P H σ ρ->gNs X.K WX P H Q (f ρ)->t σ H Q)/\∀ρ ts,f ρ=.ok ts->ts.length=es.length
abbrev shM (d:D):M OT:=.ok (.sh d)
abbrev erM (t:OT):M D:=.ok (er t)
def AR (h:DE X WX true e f):DN X WX e (λ ρ=>(f ρ).bind shM):=by
 obtain⟨t,h1,h2⟩:=h;refine⟨t,h1,λ P0 P σ H Q ρ E g=>h2 P0 P σ H Q ρ E ?_⟩;dsimp only at g;cases q:f ρ with
 |bad|ex x=>rw[q] at g;exact g
 |ok d=>rw[q] at g;exact λ v H' s hv=>g v [] H' s (λ a ha=>by cases ha) zbv (.sh (by rw[SE];exact hv))
def Ai (h:DN X WX e fn):DE X WX c e (λ ρ=>(fn ρ).bind erM):=by
 suffices z:DE X WX true e (λ ρ=>(fn ρ).bind erM) by
  cases c with
  |true=>exact z
  |false=>exact WQ z
 obtain⟨t,h1,h2⟩:=h;refine⟨t,h1,λ P0 P σ H Q ρ E g=>h2 P0 P σ H Q ρ E ?_⟩;dsimp only at g;cases q:fn ρ with
 |bad|ex x=>rw[q] at g;exact g
 |ok d =>
  rw[q] at g;exact λ v fp H' s hn nd o=>g v H' s (o.has HV λ a ha z=>(E.BQ a z).no (hn a ha))
def BK:DNs X WX [] (λ _=>.ok []):=⟨_,CJ,λ P0 P σ H Q ρ E h=>h [] [] H (Ah.refl H) (λ a ha=>by cases ha) zbv .nil,λ ρ ds h=>by cases h;rfl⟩
def Be (he:DN X WX e fn)(hr:DNs X WX es fs)(hs: ~~~(starEach (e::es) X.env=(false,eval e X.env)::starEach es X.env)):
 DNs X WX (e::es) (λ ρ=>(fn ρ).bind λ d=>(fs ρ).bind λ ds=>.ok (d::ds)):=by
 obtain⟨te,e1,e2⟩:=he;obtain⟨tr,r1,r2,r3⟩:=hr;refine⟨_,Bm e1 r1 hs,λ P0 P σ H Q ρ E h=>?_,λ ρ ds h=>?_⟩
 rotate_left
 ·dsimp only at h;cases q:fn ρ with
  |bad|ex x=>rw[q] at h;cases h
  |ok x =>
   rw[q] at h;cases q2:fs ρ with
   |bad|ex x=>rw[q2] at h;cases h
   |ok xs =>
    rw[q2] at h;cases h;rw[zaa,zaa,r3 ρ xs q2]
 dsimp only at h;refine e2 P0 P σ H _ ρ E ?_;cases q:fn ρ with
 |bad|ex x=>rw[q] at h;exact h
 |ok x =>
  rw[q] at h;intro v fp H1 s1 n1 gz o1;have E1:An X.K P0 (PU P fp) H1 σ ρ:=E.more s1 HV (FK (E.same s1).BQ o1) (Bs s1 n1);refine r2 P0 (PU P fp) σ H1 _ ρ E1 ?_;cases q2:fs ρ with
  |bad=>rw[q2] at h;exact h
  |ex y=>rw[q2] at h;exact λ H' s=>h H' (s1.trans s)
  |ok ds =>
   rw[q2] at h;intro vs fq H2 s2 n2 aP o2;have dj:∀a∈fp,a∉fq:=λ a ha hb=>(o1.BQ a ha).no (n2 a hb);have eP:PU (PU P fp) fq=PU P (fp++fq):=by
    funext a;simp only[PU,zao,or_assoc]
   have sm:Ah (del H1 (PU P fp)) (del H2 (PU P (fp++fq))):=by rw[<-eP];exact Bs s2 n2
   refine h _ (fp++fq) H2 (s1.trans s2) (λ a ha=>?_) (zau.mpr ⟨gz,aP,λ a ha b hb z=>dj a ha (by rw[z];exact hb)⟩) (.cons (o1.move sm λ a ha=>?_) (by rw[<-eP];exact o2))
   ·rcases zao.mp ha with ha|ha
    ·exact n1 a ha
    ·exact Ce s1 (n2 a ha)
   ·obtain⟨o,z,_⟩:=o1.BQ a ha;rw[z];exact s2 _ _ z
def gN (hn:H p=none)(hP:∀a,PU P fp a->ED H a):Ah (del H (PU P fp)) (del (upd H p o) (PU P (p::fp))):=λ b u e=>by
 obtain⟨h1,h2⟩:=Ao e;have hb:b≠p:=AQ h2 hn;rw[Az λ z=>z.elim (λ z=>h1 (.inl z)) λ w=>(zab.mp w).elim hb λ w=>h1 (.inr w),Ag hb];exact h2
def EQ (ha:DNs X WX es fs)(hz:es.length<=1000:=by decide):DN X WX (.List es pos) (λ ρ=>(fs ρ).bind λ ts=>.ok (.lst ts)):=by
 obtain⟨ta,a1,a2,a3⟩:=ha;refine⟨_,WE a1,λ P0 P σ H Q ρ E h=>?_⟩;dsimp only at h;refine a2 P0 P σ H _ ρ E ?_;cases q:fs ρ with
 |bad|ex y=>rw[q] at h;exact h
 |ok ts =>
  rw[q] at h;simp only[M.Aa] at h;intro vs fp H1 s1 n1 gz o1;have hP:=NS (E.same s1).BQ o1;refine⟨zbs (AA (by rw[o1.len,a3 ρ ts q];exact hz)),λ p hp=>?_⟩;have ae:∀a∈fp,a≠p:=λ a ha z=>(o1.BQ a ha).no (by rw[z];exact hp);exact h _ (p::fp) _ (s1.trans (AJ hp _)) (λ a ha=>(zab.mp ha).elim (λ z=>by rw[z];exact Ce s1 hp) (n1 a)) (zb8.mpr ⟨λ z=>ae p z rfl,gz⟩) (.lst Am (o1.move (gN hp hP) λ a ha=>Ag (ae a ha)))
def Yn (hn:H p=none)(hP:∀a,PU P fp a->ED H a):Ah (del H (PU P fp)) (del (upd H p o) (PU P fp)):=λ b u e=>by
 obtain⟨h1,h2⟩:=Ao e;have hb:b≠p:=AQ h2 hn;rw[Az h1,Ag hb];exact h2
def LY {x1}(ha:DNs X WX es fs)(hz:es.length<=1000:=by decide):DN X WX (.Tuple es x1 pos) (λ ρ=>(fs ρ).bind λ ts=>.ok (.tup ts)):=by
 obtain⟨ta,a1,a2,a3⟩:=ha;refine⟨_,WD a1,λ P0 P σ H Q ρ E h=>?_⟩;dsimp only at h;refine a2 P0 P σ H _ ρ E ?_;cases q:fs ρ with
 |bad|ex y=>rw[q] at h;exact h
 |ok ts =>
  rw[q] at h;simp only[M.Aa] at h;intro vs fp H1 s1 n1 gz o1;have hP:=NS (E.same s1).BQ o1;refine⟨zbs (AA (by rw[o1.len,a3 ρ ts q];exact hz)),λ p hp=>?_⟩;have ae:∀a∈fp,a≠p:=λ a ha z=>(o1.BQ a ha).no (by rw[z];exact hp);refine h _ fp _ (s1.trans (AJ hp _)) n1 gz (.tup ?_ (o1.move (Yn hp hP) λ a ha=>Ag (ae a ha)));rw[Az λ z=>(hP p z).no hp];exact Am
def Aj.ows {K}:∀ {xs:List V}{ds:List D},Aj K (del H P) xs ds->Av K H P xs (ds.map .sh) []:=by
 intro _ _ x_;cases x_ with
 |nil=>exact .nil
 |cons h t=>exact .cons (.sh h) t.ows
def TY.Jk {K}(h:TY K WX P H Q (.ok (.lst (ds.map .sh))))(s1:Ah H H1)(hx:Aj K (del H1 P) xs ds):∀p,H1 p=none->Q (.ref p) (upd H1 p (.lst xs)):=λ p hp=>by
 have hn:∀a∈[p],H1 a=none:=λ a ha=>by rw[za9.mp ha];exact hp
 exact h _ [p] _ (s1.trans (AJ hp _)) (λ a ha=>Ce s1 (hn a ha)) (by simp) (.lst Am (hx.mono (Bs (AJ hp _) hn)).ows)
def Av.sZ {K}:∀ {xs:List V}{ds:List D}{fp:List Addr},Av K H P xs (ds.map .sh) fp->fp=[]/\Aj K (del H P) xs ds
 |_,[],_,.nil=>⟨rfl,.nil⟩
 |_,d::ds,_,.cons (.sh h) r=>by
  obtain⟨rfl,q⟩:=Av.sZ r;exact⟨rfl,.cons h q⟩
abbrev KA:Cl->Cl
 | .val d=>.val d
 | .own ds=>.val (.lst ds)
 | .ow (.rows C2)=>.val (.lst (C2.map D.lst))
 | .ow (.Ni _ ds)=>.val (.lst ds)
 | .ow (.tree _ t)=>.val (er t)
abbrev Fp (ρ:Ad):Ad:=ρ.map λ o=>o.map KA
@[simp] theorem gO:Fp []=[]:=rfl
@[simp] theorem ZJ (ρ:Ad):Fp (none::ρ)=none::Fp ρ:=rfl
@[simp] theorem ZK (c:Cl) (ρ:Ad):Fp (some c::ρ)=some (KA c)::Fp ρ:=rfl
def An.low {K}(E:An K P0 P H σ ρ):An K P0 P0 H σ (Fp ρ):=by
 have key:∀(i:Nat) (c:Cl),(Fp ρ)[i]?=some (some c)->∃c',ρ[i]?=some (some c')/\c=KA c':=λ i c h=>by
  unfold Fp at h;rw[zap] at h;cases q:ρ[i]? with
  |none=>rw[q] at h;cases h
  |some o =>
   rw[q] at h;cases o with
   |none=>cases h
   |some c'=>cases h;exact⟨c',rfl,rfl⟩
 have rc:∀c,HA (KA c)=false:=λ c=>by
  cases c with
  |val d|own ds=>rfl
  |ow o=>cases o<;>rfl
 have j6:∀c,Rc (KA c)=none:=λ c=>by
  cases c with
  |val d|own ds=>rfl
  |ow o=>cases o<;>rfl
 have ya:∀c v fp,¬ D6 K H P0 (KA c) v fp:=λ c v fp h=>by
  cases c with
  |val d|own ds=>exact h
  |ow o=>cases o<;>exact h
 refine⟨λ _ h=>h,λ a h=>E.BQ a (E.sub a h),λ i d h=>?_,λ i c h io=>?_,λ i j c c' v v' fp ah hi hj si sj h h' ae=>?_,by unfold Fp;rw[za2];exact E.len,λ i c n h hp=>by obtain⟨c',h1,rfl⟩:=key i _ h;rw[j6] at hp;cases hp⟩
 ·obtain⟨c,h1,h2⟩:=key i _ h;cases c with
  |val d' =>
   cases h2;obtain⟨v,q1,q2⟩:=E.val i d h1;exact⟨v,q1,q2.mono (D5 E.sub)⟩
  |own ds =>
   cases h2;obtain⟨p,xs,q1,q2,q3,q4,q5⟩:=E.own i ds h1;exact⟨_,q1,.lst (.of (show del H P0 p=_ by rw[Az q4];exact q2)) (q5.mono (D5 E.sub))⟩
  |ow o =>
   obtain⟨v,fp,q1,q2,q3,q4⟩:=E.ows i _ h1 rfl;cases o with
   |rows C2 =>
    cases h2;obtain⟨p,ps,rfl,rfl,q5,q6⟩:=q2;exact⟨_,q1,.lst (.of (show del H P0 p=_ by rw[Az (q3 p za3).2];exact q5)) (q6.wW E.sub λ a ha=>(q3 a (za4 _ ha)).2)⟩
   |Ni p ds =>
    cases h2;obtain⟨p,xs,rfl,rfl,q5,q6⟩:=q2;exact⟨_,q1,.lst (.of (show del H P0 p=_ by rw[Az (q3 p za3).2];exact q5)) (q6.mono (D5 E.sub))⟩
   |tree p t =>
    cases h2;exact⟨_,q1,C3.has E.sub (λ a ha=>(q3 a ha).2) q2⟩
 ·obtain⟨c',h1,rfl⟩:=key i _ h;rw[rc] at io;cases io
 ·obtain⟨c1,h1,rfl⟩:=key i _ hi;exact (ya _ _ _ h).elim
def xC (h:DE X WX c e f):DE X WX false e (λ ρ=>f (Fp ρ)):=by
 obtain⟨t,h1,h2⟩:=h;refine⟨t,h1,λ P0 P σ H Q ρ E g=>h2 P0 P0 σ H Q (Fp ρ) E.low ?_⟩;have e:Lv c P0 P0=P0:=by cases c<;>rfl
 rw[e];exact g
def LZ (h:DT X WX e ft):DT X WX e (λ ρ=>ft (Fp ρ)):=by
 obtain⟨t,h1,h2⟩:=h;exact⟨t,h1,λ P0 P σ H Q ρ E g=>h2 P0 P0 σ H Q (Fp ρ) E.low g⟩
mutual
noncomputable def KC:OT->Bool
 | .sh d=>Nj d
 | .lst ts| .tup ts| .BR _ _ ts| .ins _ _ ts=>KD ts
noncomputable def KD:List OT->Bool
 |[]=>true
 |t::r=>KC t&&KD r
end
mutual
theorem C3.clean {K:za1}{H:Hp}{P P':Addr->Prop}(ht:∀a,P' a->ED H a):∀ {v:V}{t:OT}{fp:List Addr},KC t=true->C3 K H P v t fp->C3 K H P' v t fp:=by
 intro _ _ _ n x_;cases x_ with
 |sh h=>exact .sh (h.Nj ht (by rw[KC] at n;exact n))
 |lst h r=>exact .lst h (Av.clean ht (by rw[KC] at n;exact n) r)
 |tup h r=>exact .tup (Yk ht h) (Av.clean ht (by rw[KC] at n;exact n) r)
 |dK h r=>exact .dK h (Av.clean ht (by rw[KC] at n;exact n) r)
 |dT h r=>exact .dT h (Av.clean ht (by rw[KC] at n;exact n) r)
 |ins x h r=>exact .ins x h (Av.clean ht (by rw[KC] at n;exact n) r)
theorem Av.clean {K:za1}{H:Hp}{P P':Addr->Prop}(ht:∀a,P' a->ED H a):∀ {v:List V}{t:List OT}{fp:List Addr},KD t=true->Av K H P v t fp->Av K H P' v t fp:=by
 intro _ _ _ n x_;cases x_ with
 |nil=>exact .nil
 |cons h r =>
  rw[KD,zb6] at n;exact .cons (C3.clean ht n.1 h) (Av.clean ht n.2 r)
end
abbrev ZL (m:M OT):M OT:=m.bind λ t=>if KC t=true then .ok t else .bad
def ER (h:DN X WX e fn):DN X WX e (λ ρ=>ZL (fn (Fp ρ))):=by
 obtain⟨t,h1,h2⟩:=h;refine⟨t,h1,λ P0 P σ H Q ρ E g=>h2 P0 P0 σ H Q (Fp ρ) E.low ?_⟩;unfold ZL at g;dsimp only at g;cases q:fn (Fp ρ) with
 |bad|ex x=>rw[q] at g;exact g
 |ok t =>
  rw[q] at g;simp only[M.Aa] at g;by_cases hf:KC t=true
  ·rw[if_pos hf] at g;exact λ v fp H' s hn nd o=>g v fp H' s hn nd (o.clean (FK (E.same s).BQ o) hf)
  ·rw[if_neg hf] at g;exact g.elim
abbrev Jk (d:D):M OT:=match d with
 | .lst ds| .tup ds=>.ok (.lst (ds.map .sh))
 |_=>.bad
def NT (hg:Gl X "list")(hm:X.mg "list" = none)(ha:DE X WX true e f)(hb:bootBuiltins "list" = some (.type "list"):=by decide +kernel)(aF: ~~~(starEach [e] X.env=[(false,eval e X.env)])):
 DN X WX (.Call (.Name "list" p) [e] [] pos) (λ ρ=>(f ρ).bind Jk):=by
 obtain⟨ta,a1,a2⟩:=ha;refine⟨_,LL Si hg hm hb (Bm a1 CJ aF) (he:=aF),λ P0 P σ H Q ρ E h=>?_⟩;dsimp only at h;refine a2 P0 P σ H _ ρ E ?_;refine Yd h λ d h=>?_;intro v H1 s1 hv;unfold Jk at h;split at h
 ·cases hv with
  |lst hs hh=>exact⟨_,_,rfl,.inl hs.Bh,h.Jk s1 hh⟩
 ·cases hv with
  |tup hs hh=>exact⟨_,_,rfl,.inr (FF.of (Ao hs).2),h.Jk s1 hh⟩
 ·exact h.elim
abbrev OpN (K:za1)(WX:Str->Hp->Prop)(r:R2)(aN:D->D->M OT):Prop:=
 ∀(P:Addr->Prop) (H:Hp) (x y:D) (v w:V) (Q:VK),(∀a,P a->ED H a)->BS K (del H P) v x->BS K (del H P) w y->TY K WX P H Q (aN x y)->r v w H Q
def aa6 (ha:∀P0 P σ H Q ρ,An X.K P0 P H σ ρ->gV X.K WX (Lv true P0 P) H Q (f ρ)->ta σ H Q)(hb:∀P0 P σ H Q ρ,An X.K P0 P H σ ρ->gV X.K WX (Lv true P0 P) H Q (g ρ)->tb σ H Q)(hr:OpN X.K WX r aN)(E:An X.K P0 P H σ ρ)(h:TY X.K WX P H Q ((f ρ).bind λ x=>(g ρ).bind λ y=>aN x y)):zT r ta tb σ H Q:=by
 refine ha P0 P σ H _ ρ E ?_;cases e:f ρ with
 |bad|ex x=>rw[e] at h;exact h
 |ok x =>
  rw[e] at h;intro v H1 s1 hv;refine hb P0 P σ H1 _ ρ (E.same s1) ?_;cases e2:g ρ with
  |bad=>rw[e2] at h;exact h
  |ex y=>rw[e2] at h;exact λ H' s=>h H' (s1.trans s)
  |ok y =>
   rw[e2] at h;intro w H2 s2 hw;exact hr _ H2 x y v w Q ((E.same s1).same s2).BQ (hv.mono s2.del) hw ((h.same s1).same s2)
abbrev MA (x y:D):M OT:=match x,y with
 | .lst a,.lst b=>if a.length+b.length<=1000 then .ok (.lst ((a++b).map .sh)) else .bad
 |_,_=>.bad
abbrev spT (K:za1)(n:Nat)(F:List D->M OT):Sp:=λ vs H Q E=>vs.length=n/\∃P ds,(∀a,P a->ED H a)/\Aj K (del H P) vs ds/\TY K (CL K E) P H Q (F ds)
abbrev clT:Cl->M OT
 | .val d=>.ok (.sh d)
 | .own ds=>.ok (.lst (ds.map .sh))
 | .ow (.rows C2)=>.ok (.lst (C2.map λ ds=>.lst (ds.map .sh)))
 | .ow (.Ni _ _)=>.bad
 | .ow (.tree none t)=>.ok t
 | .ow (.tree (some _) _)=>.bad
abbrev UI (m:M Out):M OT:=match m with
 | .ok (.ret d)=>.ok (.sh d)
 | .ok (.CD c)=>clT c
 | .ok (.next _)=>.ok (.sh .AV)
 | .ex x=>.ex x
 |_=>.bad
def BJ.ows {K}:∀ {ps:List Addr}{C2:List (List D)},BJ K H P ps C2->Av K H P (ps.map V.ref) (C2.map λ ds=>.lst (ds.map .sh)) ps:=by
 intro _ _ x_;cases x_ with
 |nil=>exact .nil
 |cons h r t=>exact .cons (.lst h r.ows) t.ows
def D6.tree {K}{c}(h:D6 K H P c v fp)(e:clT c=.ok t):C3 K H P v t fp:=by
 cases c with
 |val d=>exact h.elim
 |own ds =>
  cases e;obtain⟨p,xs,rfl,rfl,h1,h2⟩:=h;exact .lst h1 h2.ows
 |ow o =>
  cases o with
  |rows C2 =>
   cases e;obtain⟨p,ps,rfl,rfl,h1,h2⟩:=h;exact .lst h1 h2.ows
  |Ni p ds=>cases e
  |tree p t' =>
   cases p with
   |none=>cases e;exact h
   |some q=>cases e
section
variable {P:Program}{w:World}{K:za1}
def Yo {P}{c}(h:TY K WX P H Q (clT c))(t:Tr P P H P2 H')(hs:∀a,P a->P2 a)(ho:D6 K H' P2 c v fp)(hp:∀a∈fp,P2 a/\¬ P a)(nd:fp.Nodup):Q v H':=by
 cases q:clT c with
 |bad=>rw[q] at h;exact h.elim
 |ex x=>cases c with
  |val d|own ds=>cases q
  |ow o =>
   cases o with
   |rows C2|Ni p ds=>cases q
   |tree p t'=>cases p<;>cases q
 |ok u =>
  rw[q] at h;have o:=ho.tree q;refine h v fp H' (CI t) (λ a ha=>xA t (hp a ha).1 (hp a ha).2) nd (o.move (D5 λ a ha=>ha.elim (hs a) λ z=>(hp a z).1) λ _ _=>rfl)
def aa8 {st}{f}(F:dR K x qual st f fd)(S:Ab N ps (A2 st))(g:Ad->M Out)(hb:∀(B0:Value) (A:Around) (outer:List Env) (s:Shared) (H:Hp) (E:XK),BE k (A.deeper (envOfC qual (A2 st) s.heap.objs.size f B0))->TX (mU P w K mg base N qual (A2 st) f B0 A outer s H E) (CL K E) (AF st) g):
 D4 P w K mg base (Sv P w base) (k+1) f fd ps (spT K ps.length λ ds=>UI (g (CW N ds))):=by
 obtain⟨oc,od,kV,doc,pm,an,B0,ct,Ud,rfl,lk,aT⟩:=F.ex;refine Uc lk aT S (λ vs H Q E h=>h.1) λ A outer s H vs Q E hr h=>?_;obtain⟨hl,P',ds,ht,hv,hq⟩:=h;obtain⟨t,h1,h2⟩:=hb B0 A outer s H E hr;refine⟨t,h1,h2 ⟨P',λ _=>0⟩ P' _ H _ _ (LQ ht hv) ?_⟩;dsimp only at hq;revert hq;cases g (CW N ds) with
 |bad=>exact λ h=>h.elim
 |ex x=>exact λ h H' P2 t=>h H' (CI t)
 |ok o =>
  cases o with
  |ret d=>exact λ h v H' P2 t hv=>h v [] H' (CI t) (λ a ha=>by cases ha) zbv (.sh (by rw[SE];exact hv))
  |next ρ=>exact λ h σ' H' P2 t E=>h .AV [] H' (CI t) (λ a ha=>by cases ha) zbv (.sh .AV)
  |brk ρ|cont ρ=>exact λ h=>h.elim
  |CD c=>exact λ h v fp H' P2 t hs ht ho hp nd=>Yo h t hs ho hp nd
  |FJ d ρ=>exact λ h=>h.elim
end
structure xD (P:Program)(w:World)(K:za1)(mg:Str->Option Value)(base:Heap)(x:Str)(k n:Nat)(F:List D->M OT):Prop where
 ex:∃fa fd ps,D4 P w K mg base (Sv P w base) k fa fd ps (spT K n F)/\mg x=some (.ref fa)/\zbk K (.ref fa)=true/\Binds K fd ps []
def As {P}{K}{st}(T:Ax K mg x st ps)(S:Ab N ps (A2 st))(g:Ad->M Out)(hb:∀(f:Addr) (B0:Value) (A:Around) (outer:List Env) (s:Shared) (H:Hp) (E:XK),BE k (A.deeper (envOfC x (A2 st) s.heap.objs.size f B0))->TX (mU P w K mg base N x (A2 st) f B0 A outer s H E) (CL K E) (AF st) g)(hn: ~~~(ps.length=n)):
 xD P w K mg base x (k+1) n (λ ds=>UI (g (CW N ds))):=by
 obtain⟨f,fd,F,hm,hB⟩:=T.ex;subst hn;exact⟨⟨f,fd,ps,aa8 F S g (hb f),hm,F.kp,hB⟩⟩
section
variable {fs:Ad->M (List D)}
def A8 (xo:Hl X E)(G:xD X.prog X.w X.K X.mg X.base x k n F)(hr:BE k X.A)(hg:Gl X x)(ha:DA X (CL X.K E) true (e::es) fs)(hn:(e::es).length=n)(be:(x==("__debug__" : Str))=false:=by decide)(he: ~~~(starEach (e::es) X.env=(false,eval e X.env)::starEach es X.env))(hpl: ~~~((backTo pos (starEach es X.env)).any (·.1)=false)):
 DN X (CL X.K E) (.Call (.Name x p) (e::es) [] pos) (λ ρ=>(fs ρ).bind F):=by
 obtain⟨fa,fd,ps,hF,hm,hk,hb⟩:=G.ex;obtain⟨ta,a1,a2,a3⟩:=ha;refine⟨_,Y1 hF hr hg hm hk hb .nil xo.call a1 be he hpl,λ P0 P σ H Q ρ E h=>?_⟩;dsimp only at h;refine a2 P0 P σ H _ ρ E ?_;cases q:fs ρ with
 |bad|ex x=>rw[q] at h;exact h
 |ok ds =>
  rw[q] at h;simp only[M.Aa] at h;intro vs H1 s1 a6;rw[zb1];exact⟨by rw[a6.length,a3 ρ ds q];exact hn,P,ds,(E.same s1).BQ,a6,h.same s1⟩
def Bj (h:DN X WX e fn):DN X (λ _ _=>False) e fn:=by
 obtain⟨t,h1,h2⟩:=h;refine⟨t,h1,λ P0 P σ H Q ρ E g=>h2 P0 P σ H Q ρ E ?_⟩;cases q:fn ρ with
 |bad=>rw[q] at g;exact g
 |ex x=>rw[q] at g;exact (g H (Ah.refl H)).elim
 |ok t=>rw[q] at g;exact g
abbrev ZM (t:OT):M Out:=match t with
 | .sh d=>.ok (.ret d)
 |t=>.ok (.CD (.ow (.tree none t)))
end
def An.zW {K}(E:An K P0 P H σ ρ)(s:Ah H H')(hn:∀a∈fp,H a=none):Tr P0 P H (PU P fp) H':=
 ⟨Bs s hn,λ a ha=>by obtain⟨o,q,_⟩:=E.BQ a (E.sub a ha);rw[q];exact s _ _ q⟩
def Ae (ha:DN X WX e fn):DS X WX (.Return (some e) pos) (λ ρ=>(fn ρ).bind ZM):=by
 obtain⟨ta,a1,a2⟩:=ha;refine⟨_,Sa a1,λ P0 P σ H Z ρ E h=>?_⟩;dsimp only at h;refine a2 P0 P σ H _ ρ E ?_;refine mT h E λ t h=>?_;intro v fp H' s hn nd o;have key:gS X.K WX P0 P H Z (.ok (.CD (.ow (.tree none t))))->Z.rt v H':=λ h =>
  h v fp H' (PU P fp) (E.zW s hn) (λ a ha=>.inl (E.sub a ha)) (FK (E.same s).BQ o) o (λ a ha=>⟨.inr ha,λ z=>(E.BQ a (E.sub a z)).no (hn a ha)⟩) nd
 cases t with
 |sh d =>
  cases o with
  |sh hv=>exact h v H' P (E.tr s) (hv.mono (D5 λ a ha=>.inl (E.sub a ha)))
 |lst ts|tup ts|BR b ks ts|ins x ns ts=>exact key h
abbrev Et:List OT->Option (List D)
 |[]=>some []
 | .sh d::r=>(Et r).map (d::·)
 |_::_=>none
def D1:∀ds:List D,Et (ds.map .sh)=some ds
 |[]=>rfl
 |d::r=>by rw[za6,Et,D1 r];rfl
def CM:∀ {ts:List OT}{ds:List D},Et ts=some ds->ts=ds.map .sh
 |[],ds,h=>by cases h;rfl
 | .sh d::r,ds,h=>by
  rw[Et] at h;cases q:Et r with
  |none=>rw[q] at h;cases h
  |some es=>rw[q] at h;cases h;rw[za6,<-CM q]
 | .lst _::r,ds,h| .tup _::r,ds,h| .BR _ _ _::r,ds,h| .ins _ _ _::r,ds,h=>by cases h
abbrev toCl (p:Option Nat)(t:OT):Cl:=match t with
 | .lst ts=>(match Et ts with
  |some ds=>(match p with|none=>.own ds|some q=>.ow (.Ni q ds))
  |none=>.ow (.tree p (.lst ts)))
 |t=>.ow (.tree p t)
@[simp] theorem toCl_list (ds:List D):toCl none (.lst (ds.map .sh))=.own ds:=by unfold toCl;simp only[D1]
@[simp] theorem toCl_listP (q:Nat) (ds:List D):toCl (some q) (.lst (ds.map .sh))=.ow (.Ni q ds):=by unfold toCl;simp only[D1]
@[simp] theorem toCl_dct (p:Option Nat) (b:Bool) (ks:List D) (ts:List OT):toCl p (.BR b ks ts)=.ow (.tree p (.BR b ks ts)):=rfl
abbrev treeOf:Cl->Option (Option Nat×OT)
 | .own ds=>some (none,.lst (ds.map .sh))
 | .ow (.Ni p ds)=>some (some p,.lst (ds.map .sh))
 | .ow (.rows C2)=>some (none,.lst (C2.map λ ds=>.lst (ds.map .sh)))
 | .ow (.tree p t)=>some (p,t)
 | .val _=>none
def D6.toT {K}{c}(h:D6 K H P c v fp)(e:treeOf c=some (p,t)):C3 K H P v t fp:=by
 cases c with
 |val d=>exact h.elim
 |own ds =>
  cases e;obtain⟨p,xs,rfl,rfl,h1,h2⟩:=h;exact .lst h1 h2.ows
 |ow o =>
  cases o with
  |rows C2 =>
   cases e;obtain⟨p,ps,rfl,rfl,h1,h2⟩:=h;exact .lst h1 h2.ows
  |Ni p ds =>
   cases e;obtain⟨p,xs,rfl,rfl,h1,h2⟩:=h;exact .lst h1 h2.ows
  |tree p t'=>cases e;exact h
def D6.toCl {K:za1}{H:Hp}{P:Addr->Prop}{v:V}{fp:List Addr}{p:Option Nat}{t:OT}(h:C3 K H P v t fp):D6 K H P (toCl p t) v fp:=by
 unfold L2.toCl;split
 ·rename_i ts;cases q:Et ts with
  |none=>exact h
  |some ds =>
   have e:=CM q;subst e;cases h with
   |lst h1 h2 =>
    obtain⟨rfl,h3⟩:=h2.sZ;cases p with
    |none|some q=>exact⟨_,_,rfl,rfl,h1,h3⟩
 ·exact h
def Gy (p:Option Nat)(t:OT):Rc (toCl p t)=p:=by
 unfold toCl;split
 ·rename_i ts;cases q:Et ts with
  |none|some ds=>cases p<;>rfl
 ·cases p<;>rfl
def JY {c}(h:treeOf c=some (p,t)):Rc c=p:=by
 cases c with
 |val d=>cases h
 |own ds=>cases h;rfl
 |ow o =>
  cases o with
  |rows C2|Ni p ds=>cases h;rfl
  |tree p t=>cases h;cases p<;>rfl
abbrev SF (i:Nat)(ρ:Ad)(t:OT):M Out:=match t with
 | .sh d=>.ok (.next (ρ.set i (some (.val d))))
 |t=>.ok (.next (ρ.set i (some (toCl none t))))
def tD {K}(E:An K P0 P H σ ρ)(s:Ah H H')(hn:∀a∈fp,H a=none)(nd:fp.Nodup)(o:C3 K H' (PU P fp) v t fp)(h:gS K WX P0 P H Z (SF i ρ t)):Z.nx (σ.set i (some v)) H':=by
 have key:gS K WX P0 P H Z (.ok (.next (ρ.set i (some (toCl none t)))))->Z.nx (σ.set i (some v)) H':=λ h=>by
  refine h _ H' (PU P fp) (E.zW s hn) (E.Zv HV (FK (E.same s).BQ o) (Bs s hn) (λ j c' v' ah ae g1 g2 g3 a ha=>?_) (D6.toCl o) (λ a ha=>⟨.inr ha,λ z=>(E.BQ a (E.sub a z)).no (hn a ha)⟩) nd (λ n z=>by rw[Gy] at z;cases z));obtain⟨xs,z⟩:=g3.at a ha;exact⟨by rw[z];exact s _ _ z,λ w=>by rw[hn a w] at z;cases z⟩
 cases t with
 |sh d =>
  cases o with
  |sh hv=>exact h _ H' P (E.tr s) ((E.same s).WV (by rw[SE] at hv;exact hv))
 |lst ts|tup ts|BR b ks ts|ins x ns ts=>exact key h
def C5 (i:Nat)(hN:X.N.Nodup)(hi:X.N[i]?=some x)(hx:Loc X.env.scope x)(ha:DN X WX e fn)(hs: ~~~(swapsWith e (some (.Name x pos')) pos.line X.env=pure false))(hf:X.fn x=true\/X.env.scope.names.lookup x=some .local:=by first | exact .inl rfl | exact .inr rfl | assumption):
 DS X WX (.Assign [.Name x pos'] e pos) (λ ρ=>(fn ρ).bind (SF i ρ)):=by
 obtain⟨ta,a1,a2⟩:=ha;refine⟨_,Wt hN hi hx a1 hs hf,λ P0 P σ H Z ρ E h=>?_⟩;dsimp only at h;refine a2 P0 P σ H _ ρ E ?_;cases q:fn ρ with
 |bad=>rw[q] at h;exact h
 |ex x=>rw[q] at h;exact λ H' s=>h H' P (E.tr s)
 |ok t =>
  rw[q] at h;exact λ v fp H' s hn nd o=>tD E s hn nd o h
abbrev X6 (i:Nat)(ρ:Ad):M Out:=match ρ[i]? with
 |some (some (.val d))=>.ok (.ret d)
 |some (some c)=>.ok (.CD c)
 |_=>.bad
def DR (i:Nat)(hv:PE X (.Name x p1) (O5 i)):DS X WX (.Return (some (.Name x p1)) pos) (X6 i):=by
 refine⟨_,Sa hv,λ P0 P σ H Z ρ E h=>?_⟩;unfold X6 at h;split at h
 ·rename_i d e1;obtain⟨v,h1,h2⟩:=E.val i d e1;exact⟨v,h1,h v H P Tr.refl (h2.mono (D5 E.sub))⟩
 ·rename_i c hc e1;have io:HA c=true:=by
   cases c with
   |val d=>exact (hc d rfl).elim
   |own ds|ow o=>rfl
  obtain⟨v,fp,h1,h2,h3,h4⟩:=E.ows i _ e1 io;exact⟨v,h1,h v fp H P Tr.refl E.sub E.BQ h2 h3 h4⟩
 ·exact h.elim
def Gz:∀ds:List D,QA (ds.map .sh)=ds
 |[]=>rfl
 |d::r=>by rw[za6,QA,er,Gz r]
def ZN {c}(e:treeOf c=some (p,t)):KA c=.val (er t):=by
 cases c with
 |val d=>cases e
 |own ds=>cases e;rw[er,Gz];rfl
 |ow o =>
  cases o with
  |rows C2 =>
   cases e;rw[er,Ss,zbf];have:(er ∘ λ ds:List D=>OT.lst (ds.map .sh))=D.lst:=by funext ds;rw[Function.comp,er,Gz]
   rw[this];rfl
  |Ni p ds=>cases e;rw[er,Gz];rfl
  |tree p t'=>cases e;rfl
abbrev gQ (i:Nat)(ρ:Ad):Ad:=match ρ[i]? with
 |some (some c)=>ρ.set i (some (KA c))
 |_=>ρ
section
variable {K:za1}
def CZ.same (e:Ah H H')(h:CZ K H P v t q xs):CZ K H' P v t q xs:=by
 cases t with
 |sh d=>exact h.elim
 |lst ts=>obtain⟨p,rfl,rfl,h⟩:=h;exact⟨p,rfl,rfl,e _ _ h⟩
 |tup ts=>obtain⟨p,rfl,rfl,h⟩:=h;exact⟨p,rfl,rfl,e.del _ _ h⟩
 |BR b ks ts =>
  cases b with
  |false|true=>obtain⟨p,kvs,rfl,rfl,h,rfl,rfl⟩:=h;exact⟨p,kvs,rfl,rfl,e _ _ h,rfl,rfl⟩
 |ins x ns ts=>obtain⟨p,C,dx,fs,rfl,rfl,n,h,rfl,rfl⟩:=h;exact⟨p,C,dx,fs,rfl,rfl,n,e _ _ h,rfl,rfl⟩
def Kz.same (e:Ah H H')(h:Kz K H P v t π v1 t1):Kz K H' P v t π v1 t1:=by
 induction h with
 |nil=>exact .nil
 |cons n hx hs _ ih=>exact .cons (n.same e) hx hs ih
def CZ.more (sm:Ah (del H P) (del H' P'))(e:Ah H H')(h:CZ K H P v t q xs):CZ K H' P' v t q xs:=by
 cases t with
 |sh d=>exact h.elim
 |lst ts=>obtain⟨p,rfl,rfl,h⟩:=h;exact⟨p,rfl,rfl,e _ _ h⟩
 |tup ts=>obtain⟨p,rfl,rfl,h⟩:=h;exact⟨p,rfl,rfl,sm _ _ h⟩
 |BR b ks ts =>
  cases b with
  |false|true=>obtain⟨p,kvs,rfl,rfl,h,rfl,rfl⟩:=h;exact⟨p,kvs,rfl,rfl,e _ _ h,rfl,rfl⟩
 |ins x ns ts=>obtain⟨p,C,dx,fs,rfl,rfl,n,h,rfl,rfl⟩:=h;exact⟨p,C,dx,fs,rfl,rfl,n,e _ _ h,rfl,rfl⟩
def Kz.more (sm:Ah (del H P) (del H' P'))(e:Ah H H')(h:Kz K H P v t π v1 t1):Kz K H' P' v t π v1 t1:=by
 induction h with
 |nil=>exact .nil
 |cons n hx hs _ ih=>exact .cons (n.more sm e) hx hs ih
end
abbrev Wm (i:Nat)(ρ:Ad)(π:List Nat):Option OT:=match ρ[i]? with
 |some (some c)=>(match treeOf c with|some (_,t)=>LX t π|none=>none)
 |_=>none
structure Bt (K:za1)(P:Addr->Prop)(H:Hp)(σ:St)(ρ:Ad)(i:Nat)(π:List Nat)(v:V)(t1:OT):Prop where
 ex:∃v0 c p t,ρ[i]?=some (some c)/\treeOf c=some (p,t)/\σ[i]?=some (some v0)/\Kz K H P v0 t π v t1
def Bt.at {K}(h:Bt K P H σ ρ i π v t1):Wm i ρ π=some t1:=by
 obtain⟨v0,c,p,t,h1,h2,h3,h4⟩:=h.ex;unfold Wm;simp only[h1,h2];exact h4.sub
def Bt.same {K}(e:Ah H H')(h:Bt K P H σ ρ i π v t1):Bt K P H' σ ρ i π v t1:=by
 obtain⟨v0,c,p,t,h1,h2,h3,h4⟩:=h.ex;exact⟨v0,c,p,t,h1,h2,h3,h4.same e⟩
def Bt.more {K}(sm:Ah (del H P) (del H' P'))(e:Ah H H')(h:Bt K P H σ ρ i π v t1):Bt K P' H' σ ρ i π v t1:=by
 obtain⟨v0,c,p,t,h1,h2,h3,h4⟩:=h.ex;exact⟨v0,c,p,t,h1,h2,h3,h4.more sm e⟩
def Bt.own {K}(h:Bt K P H σ ρ i π v t1)(E:An K P0 P H σ ρ):∃a5,C3 K H P v t1 a5/\(∀a∈a5,P a/\¬ P0 a)/\a5.Nodup:=by
 obtain⟨v0,c,p,t,h1,h2,h3,h4⟩:=h.ex;have io:HA c=true:=by cases c<;>first|rfl|cases h2
 obtain⟨w,fp,k1,k2,k3,k4⟩:=E.ows i c h1 io;rw[h3] at k1;cases k1;obtain⟨a5,o1,hk,kn⟩:=(k2.toT h2).part h4;exact⟨a5,o1,λ a ha=>k3 a (hk a ha),kn k4⟩
abbrev gP (K:za1)(WX:Str->Hp->Prop)(P:Addr->Prop)(H:Hp)(σ:St)(ρ:Ad)(i:Nat)(Q:VK):M (List Nat)->Prop
 | .ok π=>∀v t1 H',Ah H H'->Bt K P H' σ ρ i π v t1->Q v H'
 | .ex x=>∀H',Ah H H'->WX x H'
 | .bad=>False
abbrev DP (X:Cx)(WX:Str->Hp->Prop)(e:Expr)(i:Nat)(f:Ad->M (List Nat)):Prop:=
 ∃t,PE X e t/\∀P0 P σ H Q ρ,An X.K P0 P H σ ρ->gP X.K WX P H σ ρ i Q (f ρ)->t σ H Q
section
variable {fp:Ad->M (List Nat)}{i:Nat}
abbrev QB (i:Nat)(ρ:Ad):M (List Nat):=match Wm i ρ [] with | some _=>.ok [] | none=>.bad
def BL (i:Nat)(hv:PE X (.Name x p1) (O5 i)):DP X WX (.Name x p1) i (QB i):=by
 refine⟨_,hv,λ P0 P σ H Q ρ E h=>?_⟩;unfold QB at h;split at h
 ·rename_i t e;unfold Wm at e;split at e
  ·rename_i cl e1;split at e
   ·rename_i p t0 e2;have io:HA cl=true:=by cases cl<;>first|rfl|cases e2
    obtain⟨v,fp,h1,h2,h3,h4⟩:=E.ows i cl e1 io;exact⟨v,h1,h v t0 H (Ah.refl H) ⟨v,cl,p,t0,e1,e2,h1,.nil⟩⟩
   ·cases e
  ·cases e
 ·exact h.elim
abbrev acX (i:Nat)(ρ:Ad)(π:List Nat):M D:=match Wm i ρ π with
 |some (.sh d)=>.ok d
 |_=>.bad
def An.aa9 {K}(E:An K P0 P H σ ρ)(pl:Bt K P H σ ρ i π v1 t1)(o:C3 K H P v1 t1 a5)(hs:∀a,P a->P' a)(ht:∀a,P' a->ED H' a)(sm:Ah (del H P) (del H' P'))(keep:∀a,P a->a∉a5->H' a=H a)(o':C3 K H' P' v1 u fu)(nd:fu.Nodup)(hf:∀a∈fu,a∈a5\/(P' a/\¬ P0 a/\∀(j:Nat) c v fp,ρ[j]?=some (some c)->σ[j]?=some (some v)->D6 K H P c v fp->a∉fp)):
 ∃c p t,ρ[i]?=some (some c)/\treeOf c=some (p,t)/\An K P0 P' H' σ (ρ.set i (some (toCl p (EO t π u))))/\Tr P0 P H P' H':=by
 obtain⟨v0,c,p,t,h1,h2,h3,h4⟩:=pl.ex;have io:HA c=true:=by cases c<;>first|rfl|cases h2
 obtain⟨w,fp,k1,k2,k3,k4⟩:=E.ows i c h1 io;rw[h3] at k1;cases k1;have ot:=k2.toT h2;obtain⟨fz,oz,kz,_⟩:=ot.part h4;have:=oz.BM o;subst this;obtain⟨ah,q1,q2,q3⟩:=ot.put sm h4 o o' (λ a ha hn=>keep a (k3 a ha).1 hn) k4 nd (λ a ha hb=>(hf a ha).elim id λ z=>(z.2.2 i c v0 fp h1 h3 k2 hb).elim);refine⟨c,p,t,h1,h2,?_,sm,λ a ha=>keep a (E.sub a ha) λ z=>(k3 a (kz a z)).2 ha⟩;have key:=E.Zv (P':=P') (H':=H') (i:=i) (v:=v0) (c:=toCl p (EO t π u)) (fp:=ah) hs ht sm (λ j c' v' fq ae g1 g2 g3 a ha=>?_) (D6.toCl q1) (λ a ha=>?_) q2 (λ n z=>by rw[Gy] at z;subst z;have:=E.pin i c n h1 (JY h2);rw[h3] at this;cases this;rfl)
 ·rw[Oo h3] at key;exact key
 ·have re:a∉fp:=E.apart j i c' c v' v0 fq fp g1 h1 g2 h3 g3 k2 (zbn ae) a ha;have j7:HA c'=true:=by cases c'<;>first|rfl|exact g3.elim
  obtain⟨w',fr,m1,m2,m3,m4⟩:=E.ows j c' g1 j7;rw[g2] at m1;cases m1;have:=m2.BM g3;subst this;refine⟨keep a (m3 a ha).1 λ z=>re (kz a z),λ z=>?_⟩;rcases q3 a z with y|y
  ·rcases hf a y with x|x
   ·exact re (kz a x)
   ·exact x.2.2 j c' v' fr g1 g2 g3 ha
  ·exact re y.1
 ·rcases q3 a ha with y|y
  ·rcases hf a y with x|x
   ·exact⟨hs a (k3 a (kz a x)).1,(k3 a (kz a x)).2⟩
   ·exact⟨x.1,x.2.1⟩
  ·exact⟨hs a (k3 a y.1).1,(k3 a y.1).2⟩
def An.xE {K}(E:An K P0 P H σ ρ)(pl:Bt K P H σ ρ i π (.ref l) (.lst ts))(hH:H l=some (.lst xs))(o:Av K H P xs ts fq)(o':Av K H P ys us fu)(nd:fu.Nodup)(hl:l∉fu)(hf:∀a∈fu,a∈fq\/(P a/\¬ P0 a/\∀(j:Nat) c v fp,ρ[j]?=some (some c)->σ[j]?=some (some v)->D6 K H P c v fp->a∉fp)):
 ∃c p t,ρ[i]?=some (some c)/\treeOf c=some (p,t)/\An K P0 P (upd H l (.lst ys)) σ (ρ.set i (some (toCl p (EO t π (.lst us)))))/\Tr P0 P H P (upd H l (.lst ys)):=by
 have ot:C3 K H P (.ref l) (.lst ts) (l::fq):=.lst hH o;obtain⟨a5,o1,hp,_⟩:=pl.own E;have:=o1.BM ot;subst this;have pP:P l:=(hp l za3).1;have sd:del (upd H l (.lst ys)) P=del H P:=by
  funext b;by_cases hb:P b
  ·rw[EJ hb,EJ hb]
  ·rw[Az hb,Az hb,Ag (λ z=>hb (by rw[z];exact pP))]
 have sm:Ah (del H P) (del (upd H l (.lst ys)) P):=by rw[sd];exact Ah.refl _
 refine E.aa9 pl ot (λ _ h=>h) (λ a h=>?_) sm (λ a ha hn=>Ag λ z=>hn (by rw[z];exact za3)) (.lst Am (o'.move sm λ a ha=>Ag λ z=>hl (by rw[<-z];exact ha))) (zb8.mpr ⟨hl,nd⟩) (λ a ha=>?_)
 ·by_cases ha:a=l
  ·subst ha;exact ED.lst Am
  ·unfold ED;rw[Ag ha];exact E.BQ a h
 ·rcases zab.mp ha with z|z
  ·exact .inl (by rw[z];exact za3)
  ·rcases hf a z with y|y
   ·exact .inl (za4 _ y)
   ·exact .inr y
end
abbrev kd:D->Option Key
 | .int i=>some (.inl i)
 | .str x=>some (.inr x)
 |_=>none
abbrev zX:List D->Option (List Key)
 |[]=>some []
 |d::r=>match kd d,zX r with|some k,some ks=>some (k::ks)|_,_=>none
def tE (h:kd d=some k):d=CB k:=by
 cases d<;>simp[kd] at h<;>subst h<;>rfl
def gR:∀ {ds:List D}{ks:List Key},zX ds=some ks->ds=ks.map CB
 |[],ks,h=>by cases h;rfl
 |d::r,ks,h=>by
  rw[zX] at h;cases q:kd d with
  |none=>rw[q] at h;cases h
  |some k =>
   cases q2:zX r with
   |none=>rw[q,q2] at h;cases h
   |some yb =>
    rw[q,q2] at h;cases h;rw[za6,<-tE q,<-gR q2]
inductive pF:Bool->D->Prop
 |k (κ:Key):pF false (CB κ)
 |t (κ:List Key):pF true (.tup (κ.map CB))
abbrev keyOk (b:Bool)(d:D):Bool:=match b,d with
 |false,d=>(kd d).isSome
 |true,.tup ds=>(zX ds).isSome
 |_,_=>false
def E5 {b}(h:keyOk b d=true):pF b d:=by
 cases b with
 |false =>
  obtain⟨k,hk⟩:=zbq.mp (show (kd d).isSome=true from h);rw[tE hk];exact .k k
 |true =>
  cases d with
  |tup ds =>
   obtain⟨k,hk⟩:=zbq.mp (show (zX ds).isSome=true from h);rw[gR hk];exact .t k
  |_=>cases h
def HW (a b:Key):By (CB a) (CB b)=decide (a=b):=by
 cases a with
 |inl i =>
  cases b with
  |inl j=>simp only[CB,By];rw[zd9];simp
  |inr y=>simp[CB,By]
 |inr x =>
  cases b with
  |inl j=>simp[CB,By]
  |inr y=>simp only[CB,By];rw[zd9];simp
def NU:∀a b:List Key,Cw (a.map CB) (b.map CB)=decide (a=b)
 |[],[]|[],_::_|_::_,[]=>by simp[Cw]
 |a::r,b::t=>by
  rw[za6,za6,Cw,HW,NU r t,zd9];simp
abbrev Fq {α:Type}:List D->List α->D->Option α
 |k::ks,v::vs,y=>if By k y=true then some v else Fq ks vs y
 |_,_,_=>none
abbrev Nk {α:Type}:List D->List α->D->α->List α
 |k::ks,v::vs,y,z=>(if By k y=true then z else v)::Nk ks vs y z
 |_,vs,_,_=>vs
abbrev SG (ks:List D)(y:D):Bool:=ks.any λ k=>By k y
section
variable {κ:Type} [DecidableEq κ] {fk:κ->D}(hf:∀a b,By (fk a) (fk b)=decide (a=b))
include hf
def OC {α:Type}:∀(kvs:List (κ×α)) (k:κ),Fq (kvs.map λ kv=>fk kv.1) (kvs.map zbx) (fk k)=(kvs.find? λ kv=>decide (kv.1=k)).map (·.2)
 |[],k=>rfl
 |p::r,k=>by
  rw[za6,za6,Fq,hf,zd7];by_cases e:p.1=k
  ·rw[decide_eq_true e];rfl
  ·rw[decide_eq_false e];simp only[zaz,if_false];exact OC r k
def KG {α:Type}(kvs:List (κ×α))(k:κ):SG (kvs.map λ kv=>fk kv.1) (fk k)=kvs.any λ kv=>decide (kv.1=k):=by
 unfold SG;rw[List.any_map];congr 1;funext kv;exact hf _ _
def HX (k:κ)(v:V):∀(kvs:List (κ×V)),Nk (kvs.map λ kv=>fk kv.1) (kvs.map zbx) (fk k) v=(kvs.map λ kv=>if kv.1=k then (kv.1,v) else kv).map zbx
 |[]=>rfl
 |p::r=>by
  rw[za6,za6,Nk,hf,za6,za6,HX k v r];by_cases e:p.1=k
  ·rw[decide_eq_true e,if_pos e];rfl
  ·rw[decide_eq_false e,if_neg e];rfl
def HY (k:κ)(v:V):∀(kvs:List (κ×V)),(kvs.map λ kv=>if kv.1=k then (kv.1,v) else kv).map (λ kv=>fk kv.1)=kvs.map λ kv=>fk kv.1
 |[]=>rfl
 |p::r=>by
  rw[za6,za6,za6,HY k v r];by_cases e:p.1=k
  ·rw[if_pos e]
  ·rw[if_neg e]
end
def KH {K:za1}{H:Hp}:∀ {ks:List D}{xs:List V}{ds:List D}{y d:D},Aj K H xs ds->Fq ks ds y=some d->∃x,Fq ks xs y=some x/\BS K H x d
 |[],_,_,_,_,_,e|_::_,_,_,_,_,.nil,e=>by simp[Fq] at e
 |k::ks,_,_,y,d,.cons h t,e=>by
  rw[Fq] at e ⊢;by_cases q:By k y=true
  ·rw[if_pos q] at e ⊢;cases e;exact⟨_,rfl,h⟩
  ·rw[if_neg q] at e ⊢;exact KH t e
def EE {α:Type}:∀ {ks:List D}{xs:List α}{y:D},xs.length=ks.length->SG ks y=(Fq ks xs y).isSome
 |[],[],y,_=>rfl
 |k::ks,x::xs,y,h=>by
  unfold SG;rw[zch,Fq];cases q:By k y with
  |true=>rfl
  |false =>
   simp only[Bool.false_or,zaz,if_false];exact EE (by simpa using h)
 |[],_::_,_,h|_::_,[],_,h=>by cases h
def HZ {K}(hv:BS K (del H P) v d):∀ {ks:List D}{xs:List V}{ds:List D},Aj K (del H P) xs ds->Aj K (del H P) (Nk ks xs y v) (Nk ks ds y d)
 |[],_,_,h=>by simp only[Nk];exact h
 |_::_,_,_,.nil=>by simp only[Nk];exact .nil
 |k::ks,_,_,.cons h t=>by
  rw[Nk,Nk];refine .cons ?_ (HZ hv t);by_cases q:By k y=true
  ·rw[if_pos q,if_pos q];exact hv
  ·rw[if_neg q,if_neg q];exact h
section
variable {K:za1}
def Aj.keys:∀ {xs:List V}(κ:List Key),Aj K H xs (κ.map CB)->xs=κ.map kV
 |_,[],.nil=>rfl
 |_,k::r,.cons h t=>by
  rw[za6,<-Aj.keys r t];congr 1;cases k with
  |inl i=>exact h.int_inv
  |inr x=>cases h;rfl
def BS.pG (h:BS K H y (CB κ)):y=kV κ:=by
 cases κ with
 |inl i=>exact h.int_inv
 |inr x=>cases h;rfl
def NV {b}(hv:BS K (del H P) v (.BR b ks vs))(hy:BS K (del H P) y k)(hk:pF b k):∃a xs,v=.ref a/\Oe H a y (Fq ks xs k)/\Aj K (del H P) xs vs/\xs.length=ks.length:=by
 cases hv with
 |TU hh hl =>
  cases hk with
  |k κ =>
   refine⟨_,_,rfl,?_,hl,by simp⟩;rw[hy.pG,OC HW];exact .inl ⟨_,κ,hh.Bh,rfl,rfl⟩
 |Ur hh hl =>
  cases hk with
  |t κ =>
   cases hy with
   |tup ht ao =>
    have e:=Aj.keys κ ao;subst e;refine⟨_,_,rfl,?_,hl,by simp⟩;rw[OC (fk:=λ κ:List Key=>D.tup (κ.map CB)) (λ a b=>by simp only[By];exact NU a b)];exact .inr ⟨_,κ,_,hh.Bh,rfl,(Ao ht).2,rfl⟩
end
section
variable {fp:Ad->M (List Nat)}{i:Nat}
abbrev aba:R2:=λ x y H Q=>∃a v,x=.ref a/\Oe H a y (some v)/\Q v H
def pH (hu:X.A.units+1<cLine):nV X aba:=by
 intro value slice pins s σ H x y v u Q I rx ry h hs;obtain⟨a,z,rfl,g,q⟩:=h;cases rx;have hT:=Uk I g;have h₂:wpAny (model X.prog X.w) X.A (getItem (.ref a) u) (EP X pins σ Q) X.xe s:=Zn hu I g ry λ w' s3 I3 bf=>⟨z,H,I3,bf,q⟩;unfold subscriptTail;refine wpAny_bind ?_;rw[getitemInPython_of_ne hT.not_modules];refine wpAny_bind (wpAny_specialOf hT PySem.F.slot_dict_getitem.lookup ?_);have fin:wpAny (model X.prog X.w) X.A (subscripted slice false (.ref a) u) (λ r s₃=>wpAny (model X.prog X.w) X.A (letTemporaryGo value (.ref a) r >>= λ _=>pure r) (EP X pins σ Q) X.xe s₃) X.xe s:=by
  rw[hs];exact wpAny_operating (wpAny_mono h₂ (λ r s₃ h₃=>wpAny_bind (wpAny_letTemporaryGo (wpAny_pure h₃))) λ _ _ x=>x)
 first
  |exact wpAny_pure (wpAny_bind fin)
  |exact wpAny_bind (wpAny_pure (wpAny_bind fin))
  |exact wpAny_bind fin
abbrev AG (x y:D):M D:=match x with
 | .BR b ks vs=>if keyOk b y=true then (match Fq ks vs y with|some d=>.ok d|none=>.bad) else .bad
 |x=>oQ x y
def pI:Ye X.K WX (λ x y H Q=>(vS X.K x y H Q\/vT X.K x y H Q)\/aba x y H Q) AG:=by
 intro P H x y v w Q ht hx hy h;cases x with
 |BR b ks vs =>
  simp only[AG] at h;by_cases hk:keyOk b y=true
  ·rw[if_pos hk] at h;obtain⟨a,xs,rfl,g,hl,_⟩:=NV hx hy (E5 hk);split at h
   ·rename_i d e;obtain⟨u,e1,e2⟩:=KH hl e;rw[e1] at g;exact .inr ⟨a,u,rfl,g,h _ H (Ah.refl H) e2⟩
   ·exact h.elim
  ·rw[if_neg hk] at h;exact h.elim
 |AV|bl b|int b|str b|tup b|lst b|Gm b|ins b _ _=>exact .inl (HQ P H _ y v w Q ht hx hy h)
def A9 (hu:X.A.units+n<cLine)(ha:DE X WX c a f)(hb:DE X WX c b g)(hs:J9 b:=by exact λ _ _=>rfl)(hn:1<=n:=by decide):DE X WX c (.Subscript a b pos) (λ ρ=>(f ρ).bind λ x=>(g ρ).bind λ y=>AG x y):=aaT ((NM.or vU).or (pH (by omega))) pI ha hb hs
abbrev xF (neg:Bool):R2:=λ y x H Q=>∃a o,x=.ref a/\Oe H a y o/\Q (.bl (if neg=true then !o.isSome else o.isSome)) H
def X7 (hu:X.A.units+1<cLine):HI X (compareOp .In) (xF false):=by
 intro pins s σ H x y v u Q I rx ry h;obtain⟨a,o,rfl,g,q⟩:=h;cases ry;exact acN hu I g rx λ s3 I3=>⟨.bl o.isSome,H,I3,rfl,q⟩
def QC (hu:X.A.units+1<cLine):HI X (compareOp .NotIn) (xF true):=by
 intro pins s σ H x y v u Q I rx ry h;obtain⟨a,o,rfl,g,q⟩:=h;cases ry;exact oC hu I g rx λ s3 I3=>⟨.bl (!o.isSome),H,I3,rfl,q⟩
abbrev Nl (neg:Bool)(y x:D):M D:=match x with
 | .BR b ks vs=>if keyOk b y=true then .ok (.bl (if neg=true then !SG ks y else SG ks y)) else .bad
 |x=>dIn neg y x
def Yp:Ye X.K WX (λ x y H Q=>rIn X.K neg x y H Q\/xF neg x y H Q) (Nl neg):=by
 intro P H x y v w Q ht hx hy h;cases y with
 |BR b ks vs =>
  simp only[Nl] at h;by_cases hk:keyOk b x=true
  ·rw[if_pos hk] at h;obtain⟨a,xs,rfl,g,hl,hn⟩:=NV hy hx (E5 hk);rw[EE (xs:=xs) hn] at h;exact .inr ⟨a,_,rfl,g,h _ H (Ah.refl H) (.bl _)⟩
  ·rw[if_neg hk] at h;exact h.elim
 |AV|bl b|int b|str b|tup b|lst b|Gm b|ins b _ _=>exact .inl (HR P H x _ v w Q ht hx hy h)
def OD (hu:X.A.units+n<cLine)(ha:DE X WX c a f)(hb:DE X WX c b g)(hm: ~~~(behindInMarks .In b=false))(hn:1<=n:=by decide):DT X WX (.Compare a [.In] [b] pos) (λ ρ=>((f ρ).bind λ x=>(g ρ).bind λ y=>Nl false x y).bind Uv):=Gs (Zi.or (X7 (by omega))) Yp ha hb hm
def SH (hu:X.A.units+n<cLine)(ha:DE X WX c a f)(hb:DE X WX c b g)(hm: ~~~(behindInMarks .NotIn b=false))(hn:1<=n:=by decide):DT X WX (.Compare a [.NotIn] [b] pos) (λ ρ=>((f ρ).bind λ x=>(g ρ).bind λ y=>Nl true x y).bind Uv):=Gs (Sg.or (QC (by omega))) Yp ha hb hm
abbrev I9:D->M Bool
 | .AV=>.ok false
 | .bl b=>.ok b
 | .int i=>.ok (i != 0)
 | .tup ds| .lst ds=>.ok (!ds.isEmpty)
 |_=>.bad
def KI {K}(h:Aj K H xs ds):(!ds.isEmpty) = !xs.isEmpty:=by cases h<;>rfl
def BV (h:DE X WX c e f)(he:∀whole,isTrue e X.env whole=(do let v <-whole;standAt e.pos;holding [v] (truthy v)):=by intro _;rfl):DT X WX e (λ ρ=>(f ρ).bind I9):=by
 obtain⟨t,h1,h2⟩:=h;refine⟨_,eN h1 he,λ P0 P σ H Q ρ E h=>h2 P0 P σ H _ ρ E ?_⟩;dsimp only at h;refine Yd h λ d h=>?_;intro v H' s hv;cases hv with
 |AV=>exact⟨false,rfl,h H' s⟩
 |bl b=>exact⟨b,rfl,h H' s⟩
 |int i=>exact⟨_,rfl,h H' s⟩
 |tup hs hl=>exact⟨_,.inr (.inl ⟨_,FF.of (Ao hs).2,rfl⟩),by rw[<-KI hl];exact h H' s⟩
 |lst hs hl=>exact⟨_,.inl ⟨_,hs.Bh,rfl⟩,by rw[<-KI hl];exact h H' s⟩
 |_=>exact h.elim
end
abbrev KJ (m:M (List D)):M OT:=match m with | .ok ys=>.ok (.lst (ys.map .sh)) | _=>.bad
section
variable {tg iter:Expr}{fi:Ad->M (List D)}{fs:Ad->M (List D)}
def gU (i2:∀P0 P σ H R ρ,An X.K P0 P H σ ρ->(match fi ρ with | .ok ds=>∀J H',Ah H H'->Ux X.K J P H' ds->R J H' | .ex x=>∀H',Ah H H'->WX x H' | .bad=>False)->wi σ H R)(g2:∀P0 P σ H Q ρ v d,An X.K P0 P H σ ρ->BS X.K (del H P) v d->gG X.K P0 P H Q (gt d ρ)->gg v σ H Q)(t2:∀s H' C ex P0 P σ H Q ρ,An X.K P0 P H σ ρ->gT (λ _ _=>False) H Q (ft ρ)->tc s H' C ex σ H Q)(e2:∀s H' C ex P0 P σ H Q ρ,An X.K P0 P H σ ρ->gV X.K (λ _ _=>False) (Lv true P0 P) H Q (fe ρ)->te s H' C ex σ H Q)(E:An X.K P0 P H σ ρ)(h:TY X.K WX P H Q ((fi ρ).bind λ ds=>if ds.length<=1000 then KJ (B7 gt ft fe ds (AZ μ ρ)) else .bad)):R9 wi μ gg tc te σ H Q:=by
 refine i2 P0 P σ H _ ρ E ?_;cases q:fi ρ with
 |bad|ex x=>rw[q] at h;exact h
 |ok ds =>
  rw[q] at h;simp only[M.Aa] at h;by_cases hd:¬ ds.length<=1000
  ·rw[if_neg hd] at h;exact h.elim
  have hd:ds.length<=1000:=by omega
  rw[if_pos hd] at h;intro J H1 s1 ok s C ex;cases qc:B7 gt ft fe ds (AZ μ ρ) with
  |bad|ex x=>rw[qc] at h;exact h.elim
  |ok total =>
   rw[qc] at h;unfold KJ at h;dsimp only at h;have E1:=E.same s1;refine⟨λ i m ys H2=>m=ds.length-i/\i<=ds.length/\ys.length<=i/\Ah H1 H2/\∃es rest,Aj X.K (del H2 P) ys es/\B7 gt ft fe (ds.drop i) (AZ μ ρ)=.ok rest/\es++rest=total,
    ⟨ds.length,by simp,zbe _,zaf _,Ah.refl _,[],total,.nil,by rw[List.drop_zero];exact qc,rfl⟩,?_⟩
   rintro i m ys H2 ⟨rfl,hi,hy,s2,es,rest,bj,af,aw⟩;by_cases ag:i<ds.length
   ·refine .inr ⟨ok.go i P H2 s2.del ag,Nat.lt_of_le_of_lt hy (AA (by omega)),λ aG H'=>i+1<=ds.length/\aG.length<=i+1/\Ah H1 H'/\∃es rest,Aj X.K (del H' P) aG es/\B7 gt ft fe (ds.drop (i+1)) (AZ μ ρ)=.ok rest/\es++rest=total,λ aG H' hq=>⟨ds.length-(i+1),by omega,rfl,hq.1,hq.2.1,hq.2.2.1,hq.2.2.2⟩,λ v H3 y=>?_⟩;have E2:=E1.same s2;obtain⟨s3,hv⟩:=ok.mQ i P H2 v H3 ds[i] s2.del E2.BQ (za7 ag) y;rw[G5 ag,B7] at af;have E3:=(E2.same s3).block μ;refine g2 P0 P _ H3 _ (AZ μ ρ) v ds[i] E3 hv ?_;cases q1:gt ds[i] (AZ μ ρ) with
    |bad|ex x=>rw[q1] at af;cases af
    |ok ρ1 =>
     rw[q1] at af;dsimp only at af;intro σ4 E4;refine t2 s H1 C ex P0 P σ4 H3 _ ρ1 E4 ?_;cases q2:ft ρ1 with
     |bad|ex x=>rw[q2] at af;cases af
     |ok k =>
      rw[q2] at af;dsimp only at af;intro H5 s5;cases k with
      |false =>
       simp only[zaz,if_false] at af ⊢;exact⟨ag,by omega,(s2.trans s3).trans s5,es,rest,(bj.mono s3.del).mono s5.del,af,aw⟩
      |true =>
       simp only[if_true] at af ⊢;refine e2 s H1 C ex P0 P σ4 H5 _ ρ1 (E4.same s5) ?_;cases q3:fe ρ1 with
       |bad|ex x=>rw[q3] at af;cases af
       |ok y' =>
        rw[q3] at af;dsimp only at af;cases q4:B7 gt ft fe (ds.drop (i+1)) (AZ μ ρ) with
        |bad|ex x=>rw[q4] at af;cases af
        |ok gu =>
         rw[q4] at af;cases af;intro w H6 s6 hw;refine⟨ag,by rw[zal,zbd];omega,((s2.trans s3).trans s5).trans s6,es++[y'],gu,(((bj.mono s3.del).mono s5.del).mono s6.del).snoc hw,rfl,?_⟩;rw[zb3];exact aw
   ·have e:i=ds.length:=by omega
    subst e;rw[zcx,B7] at af;cases af;rw[zb1] at aw;subst aw;exact .inl ⟨ok.stop _ P H2 s2.del (zaf _),λ D0 hn=>h.Jk (s1.trans s2) bj D0 hn⟩
def C6 (μ:List (Option Nat))(hc:X.calm=true)(hi:DI X WX tg iter fi)(av:FZ scope X.env.scope=true)(aM:Nh X.N NB scope μ=true)(hg:sV X scope NB μ tg gt)(ht:∀s H C ex,sW (blockOf X s H scope C NB ex) ifs ft)(he:∀s H C ex,DE (blockOf X s H scope C NB ex) (λ _ _=>False) true elt fe)(hs:∀x,foldedSetIterable iter X.env x=pure x:=by intro _;rfl):
 DN X WX (.ListComp elt [⟨tg,iter,ifs,0⟩] scope pos) (λ ρ=>(fi ρ).bind λ ds=>if ds.length<=1000 then KJ (B7 gt ft fe ds (AZ μ ρ)) else .bad):=by
 obtain⟨wi,i1,i2⟩:=hi;obtain⟨gg,g1,gk,g2⟩:=hg;refine⟨_,Sn hc i1 av aM gk (λ s H C ex=>⟨g1 s H C ex,(za0 (ht s H C ex)).1,(za0 (he s H C ex)).1⟩) hs,λ P0 P σ H Q ρ E h=>?_⟩;exact gU i2 g2 (λ s H' C ex P0 P σ H Q ρ E h=>(za0 (ht s H' C ex)).2 P0 P σ H Q ρ E h) (λ s H' C ex P0 P σ H Q ρ E h=>(za0 (he s H' C ex)).2 P0 P σ H Q ρ E h) E h
def gW (i:Nat)(μ:List (Option Nat))(hN:X.N.Nodup)(gn:X.N[i]?=some x)(hx:Loc X.env.scope x)(hc:X.calm=true)(hi:DI X WX tg iter fi)(av:FZ scope X.env.scope=true)(aM:Nh X.N NB scope μ=true)(hg:sV X scope NB μ tg gt)(ht:∀s H C ex,sW (blockOf X s H scope C NB ex) ifs ft)(he:∀s H C ex,DE (blockOf X s H scope C NB ex) (λ _ _=>False) true elt fe)(bw: ~~~(swapsWith (.ListComp elt [⟨tg,iter,ifs,0⟩] scope pos) (some (.Name x px)) ak.line X.env=pure true))(hs:∀x,foldedSetIterable iter X.env x=pure x:=by intro _;rfl)(hf:X.fn x=true\/X.env.scope.names.lookup x=some .local:=by first|exact .inl rfl|exact .inr rfl|assumption):
 DS X WX (.Assign [.Name x px] (.ListComp elt [⟨tg,iter,ifs,0⟩] scope pos) ak) (λ ρ=>(ZL ((fi (Fp ρ)).bind λ ds=>if ds.length<=1000 then KJ (B7 gt ft fe ds (AZ μ (Fp ρ))) else .bad)).bind (SF i ρ)):=by
 obtain⟨wi,i1,i2⟩:=hi;obtain⟨gg,g1,gk,g2⟩:=hg;refine⟨_,So hN gn hx hc i1 av aM gk (λ s H C ex=>⟨g1 s H C ex,(za0 (ht s H C ex)).1,(za0 (he s H C ex)).1⟩) bw hs hf,λ P0 P σ H Z ρ E h=>?_⟩;refine gU (P0:=P0) (P:=P0) i2 g2 (λ s H' C ex P0 P σ H Q ρ E h=>(za0 (ht s H' C ex)).2 P0 P σ H Q ρ E h) (λ s H' C ex P0 P σ H Q ρ E h=>(za0 (he s H' C ex)).2 P0 P σ H Q ρ E h) E.low ?_;dsimp only at h;revert h;cases ((fi (Fp ρ)).bind λ ds=>if ds.length<=1000 then KJ (B7 gt ft fe ds (AZ μ (Fp ρ))) else .bad) with
 |bad=>exact λ h=>h
 |ex y=>exact λ h H' s=>h H' P (E.tr s)
 |ok t =>
  unfold ZL;simp only[M.Aa];by_cases hf:KC t=true
  ·rw[if_pos hf];exact λ h v fp H' s hn nd o=>tD E s hn nd (o.clean (FK (E.same s).BQ o) hf) h
  ·rw[if_neg hf];exact λ h=>h.elim
end
abbrev acY (K:za1)(WX:Str->Hp->Prop)(P:Addr->Prop)(p:Addr)(fp:List Addr)(H:Hp)(Q:VK):M (OT×OT)->Prop
 | .ok (t,r)=>∀v H' P' ah fr,(∀a,P a->a∉fp->P' a/\H' a=H a)->(∀a,P' a->ED H' a)->Ah (del H P) (del H' P')->C3 K H' P' (.ref p) t ah->ah.Nodup->C3 K H' P' v r fr->fr.Nodup->(∀a∈fr,a∉ah)->
  (∀a∈ah,P' a/\(P a->a∈fp))->(∀a∈fr,P' a/\(P a->a∈fp))->Q v H'
 | .ex _| .bad=>False
abbrev Rq (K:za1)(n:Nat)(F:OT->List D->M (OT×OT)):Sp:=λ vs H Q E=>vs.length=n/\∃P p t fp rest ax,vs=.ref p::rest/\(∀a,P a->ED H a)/\(∀a∈fp,P a)/\fp.Nodup/\C3 K H P (.ref p) t fp/\Aj K (del H P) rest ax/\acY K (CL K E) P p fp H Q (F t ax)
abbrev D9 (N:List Str)(t:OT)(ax:List D):Ad:=some (toCl (some 0) t)::(ax.map (λ d=>some (.val d))++zag (N.length-(ax.length+1)) none)
abbrev Ia (ρ:Ad):Option OT:=match ρ[0]? with
 |some (some c)=>(match treeOf c with|some (some 0,t)=>some t|_=>none)
 |_=>none
abbrev ES (m:M Out):M (OT×OT):=match m with
 | .ok (.next ρ)=>(match Ia ρ with|some t=>.ok (t,.sh .AV)|none=>.bad)
 | .ok (.FJ r ρ)=>(match Ia ρ with|some t=>.ok (t,r)|none=>.bad)
 |_=>.bad
def UJ (p:Option Nat)(t:OT):treeOf (toCl p t)=some (p,t):=by
 unfold toCl;split
 ·rename_i ts;cases q:Et ts with
  |none=>rfl
  |some ds =>
   have e:=CM q;subst e;cases p<;>rfl
 ·rfl
def ZO (p:Option Nat)(t:OT):HA (toCl p t)=true:=by
 unfold toCl;split
 ·rename_i ts;cases q:Et ts with
  |none=>rfl
  |some ds=>cases p<;>rfl
 ·rfl
def KL {K}{rest}(ht:∀a,P a->ED H a)(hp:∀a∈fp,P a)(nd:fp.Nodup)(o:C3 K H P (.ref p) t fp)(h:Aj K (del H P) rest ax):
 An K ⟨λ a=>P a/\a∉fp,λ _=>p⟩ P H (start N (.ref p::rest)) (D9 N t ax):=by
 have hl:=h.length;have key:∀(i:Nat) (c:Cl),(ax.map (λ d=>some (Cl.val d))++zag (N.length-(ax.length+1)) none)[i]?=some (some c)->∃d,ax[i]?=some d/\c=.val d:=λ i c e=>by
  by_cases hi:i<ax.length
  ·rw[zc2 (by simpa using hi),zap] at e;cases q:ax[i]? with
   |none=>rw[q] at e;cases e
   |some d=>rw[q] at e;cases e;exact⟨d,rfl,rfl⟩
  ·rw[zcn (by simpa using hi),zcg] at e;split at e<;>cases e
 have vj:(start N (.ref p::rest))[0]?=some (some (.ref p)):=by unfold start;rfl
 refine⟨λ a h=>h.1,ht,λ i d e=>?_,λ i c e io=>?_,λ i j c c' v v' fp ah e1 e2 _ _ o1 o2 ae=>?_,?_,λ i c n e yc=>?_⟩
 rotate_left 4
 ·cases i with
  |zero=>exact vj
  |succ i =>
   obtain⟨d',q,z⟩:=key i _ (by unfold D9 at e;simpa using e);cases z;cases yc
 ·cases i with
  |zero =>
   have e':some (toCl (some 0) t)=some (.val d):=by simpa [D9] using e
   have:=ZO (some 0) t;rw[zb0 e'] at this;cases this
  |succ i =>
   obtain⟨d',q,z⟩:=key i _ (by unfold D9 at e;simpa using e);cases z;obtain⟨v,hv,hd⟩:=h.get q;refine⟨v,?_,hd⟩;unfold start;rw[za6,zco,zba,zc2 (by rw[za2];exact (zam.mp hv).1),zap,hv];rfl
 ·cases i with
  |zero =>
   have e':toCl (some 0) t=c:=by simpa [D9] using e
   subst e';exact⟨_,fp,vj,D6.toCl o,λ a ha=>⟨hp a ha,λ z=>z.2 ha⟩,nd⟩
  |succ i =>
   obtain⟨d',q,z⟩:=key i _ (by unfold D9 at e;simpa using e);cases z;cases io
 ·cases i with
  |zero =>
   cases j with
   |zero=>exact (ae rfl).elim
   |succ j =>
    obtain⟨d',q,z⟩:=key j _ (by unfold D9 at e2;simpa using e2);cases z;exact o2.elim
  |succ i =>
   obtain⟨d',q,z⟩:=key i _ (by unfold D9 at e1;simpa using e1);cases z;exact o1.elim
 ·unfold start D9;simp[hl]
section
variable {P:Program}{w:World}{K:za1}
def NW (E:An K P0 P' H' σ' ρ)(h:Ia ρ=some t):∃c ah,ρ[0]?=some (some c)/\σ'[0]?=some (some (.ref (P0.g 0)))/\D6 K H' P' c (.ref (P0.g 0)) ah/\C3 K H' P' (.ref (P0.g 0)) t ah/\ah.Nodup/\∀a∈ah,P' a/\¬ P0 a:=by
 unfold Ia at h;split at h
 ·rename_i c e;split at h
  ·rename_i t' e2;cases h;have io:HA c=true:=by cases c<;>first|rfl|cases e2
   obtain⟨v,fp,k1,k2,k3,k4⟩:=E.ows 0 c e io;have:=E.pin 0 c 0 e (JY e2);rw[k1] at this;cases this;exact⟨c,fp,e,k1,k2,k2.toT e2,k4,k3⟩
  ·cases h
 ·cases h
def xG {st}{f}(F:dR K x qual st f fd)(S:Ab N ps (A2 st))(g:Ad->M Out)(hb:∀(B0:Value) (A:Around) (outer:List Env) (s:Shared) (H:Hp) (E:XK),BE k (A.deeper (envOfC qual (A2 st) s.heap.objs.size f B0))->TX (mU P w K mg base N qual (A2 st) f B0 A outer s H E) (CL K E) (AF st) g):
 D4 P w K mg base (Sv P w base) (k+1) f fd ps (Rq K ps.length λ t ax=>ES (g (D9 N t ax))):=by
 obtain⟨oc,od,kV,doc,pm,an,B0,ct,Ud,rfl,lk,aT⟩:=F.ex;refine Uc lk aT S (λ vs H Q E h=>h.1) λ A outer s H vs Q E hr h=>?_;obtain⟨hl,P',p,t,fp,rest,ax,rfl,ht,hp,nd,ho,hv,hq⟩:=h;obtain⟨tt,h1,h2⟩:=hb B0 A outer s H E hr;refine⟨tt,h1,h2 ⟨λ a=>P' a/\a∉fp,λ _=>p⟩ P' _ H _ _ (KL ht hp nd ho hv) ?_⟩;dsimp only at hq;revert hq;cases g (D9 N t ax) with
 |bad|ex x=>exact λ h=>h.elim
 |ok o =>
  have sub:∀ {P2:Addr->Prop} {H2:Hp} {σ2:St} {ρ:Ad},An K ⟨λ a=>P' a/\a∉fp,λ _=>p⟩ P2 H2 σ2 ρ->∀a,P2 a/\¬ (P' a/\a∉fp)->P2 a/\(P' a->a∈fp):=λ E a ha=>⟨ha.1,λ z=>zcm λ w=>ha.2 ⟨z,w⟩⟩;cases o with
  |ret d|CD d=>exact λ h=>h.elim
  |next ρ =>
   intro hq σ' H' P2 t2 E2;unfold ES at hq;dsimp only at hq;split at hq
   ·rename_i t' e;obtain⟨c,ah,k1,k2,k3,k4,k5,k6⟩:=NW E2 e;exact hq .AV H' P2 ah [] (λ a ha hn=>⟨E2.sub a ⟨ha,hn⟩,t2.2 a ⟨ha,hn⟩⟩) E2.BQ t2.1 k4 k5 (.sh .AV) zbv (λ a ha=>by cases ha) (λ a ha=>sub E2 a (k6 a ha)) (λ a ha=>by cases ha)
   ·exact hq.elim
  |FJ r ρ =>
   intro hq v fr σ' H' P2 t2 E2 o2 aP hf;unfold ES at hq;dsimp only at hq;split at hq
   ·rename_i t' e;obtain⟨c,ah,k1,k2,k3,k4,k5,k6⟩:=NW E2 e;exact hq v H' P2 ah fr (λ a ha hn=>⟨E2.sub a ⟨ha,hn⟩,t2.2 a ⟨ha,hn⟩⟩) E2.BQ t2.1 k4 k5 o2 aP (λ a ha=>(hf a ha).2.2 0 c _ ah k1 k2 k3) (λ a ha=>sub E2 a (k6 a ha)) (λ a ha=>sub E2 a ⟨(hf a ha).1,(hf a ha).2.1⟩)
   ·exact hq.elim
  |brk ρ|cont ρ=>exact λ h=>h.elim
end
structure Rr (P:Program)(w:World)(K:za1)(mg:Str->Option Value)(base:Heap)(x:Str)(k n:Nat)(F:OT->List D->M (OT×OT)):Prop where
 ex:∃fa fd ps,D4 P w K mg base (Sv P w base) k fa fd ps (Rq K n F)/\mg x=some (.ref fa)/\zbk K (.ref fa)=true/\Binds K fd ps []
def UK {P}{K}{st}(T:Ax K mg x st ps)(S:Ab N ps (A2 st))(g:Ad->M Out)(hb:∀(f:Addr) (B0:Value) (A:Around) (outer:List Env) (s:Shared) (H:Hp) (E:XK),BE k (A.deeper (envOfC x (A2 st) s.heap.objs.size f B0))->TX (mU P w K mg base N x (A2 st) f B0 A outer s H E) (CL K E) (AF st) g)(hn: ~~~(ps.length=n)):
 Rr P w K mg base x (k+1) n (λ t ax=>ES (g (D9 N t ax))):=by
 obtain⟨f,fd,F,hm,hB⟩:=T.ex;subst hn;exact⟨⟨f,fd,ps,xG F S g (hb f),hm,F.kp,hB⟩⟩
section
variable {fp:Ad->M (List Nat)}{i:Nat}{fs:Ad->M (List D)}
def An.new {K:za1}{P':Addr->Prop}{H':Hp}(E:An K P0 P H σ ρ)(s:Ah H H')(sm:Ah (del H P) (del H' P')){a:Addr}(hn:H a=none):∀(j:Nat) c v fq,ρ[j]?=some (some c)->σ[j]?=some (some v)->D6 K H' P' c v fq->a∉fq:=λ j c v fq h1 h2 h3 ha=>by
 have io:HA c=true:=by cases c<;>first|rfl|exact h3.elim
 obtain⟨w,fr,k1,k2,k3,k4⟩:=E.ows j c h1 io;rw[h2] at k1;cases k1;have m:=k2.move sm λ b hb=>by obtain⟨o,q⟩:=k2.at b hb;rw[q];exact s _ _ q
 rw[h3.BM m] at ha;obtain⟨o,q⟩:=k2.at a ha;rw[hn] at q;cases q
def An.abb {K}(E:An K P0 P H σ ρ)(pl:Bt K P H σ ρ i π v1 t1)(o:C3 K H P v1 t1 a5)(hs:∀a,P a->a∉a5->P' a/\H' a=H a)(ht:∀a,P' a->ED H' a)(sm:Ah (del H P) (del H' P'))(o':C3 K H' P' v1 u fu)(nd:fu.Nodup)(hf:∀a∈fu,P' a/\(P a->a∈a5))(or:C3 K H' P' v2 r fr)(ndr:fr.Nodup)(hr:∀a∈fr,P' a/\(P a->a∈a5))(dj:∀a∈fr,a∉fu):
 ∃c p t,ρ[i]?=some (some c)/\treeOf c=some (p,t)/\An K P0 P' H' σ (ρ.set i (some (toCl p (EO t π u))))/\Tr P0 P H P' H'/\
  ∀a∈fr,P' a/\¬ P0 a/\∀(j:Nat) c' v fq,(ρ.set i (some (toCl p (EO t π u))))[j]?=some (some c')->σ[j]?=some (some v)->D6 K H' P' c' v fq->a∉fq:=by
 obtain⟨v0,c,p,t,h1,h2,h3,h4⟩:=pl.ex;have io:HA c=true:=by cases c<;>first|rfl|cases h2
 obtain⟨w,fp,k1,k2,k3,k4⟩:=E.ows i c h1 io;rw[h3] at k1;cases k1;have ot:=k2.toT h2;obtain⟨fz,oz,kz,_⟩:=ot.part h4;have:=oz.BM o;subst this;obtain⟨ah,q1,q2,q3⟩:=ot.put sm h4 o o' (λ a ha hn=>(hs a (k3 a ha).1 hn).2) k4 nd (λ a ha hb=>(hf a ha).2 (k3 a hb).1);have vn:∀(j:Nat) c' v' fq,i≠j->ρ[j]?=some (some c')->σ[j]?=some (some v')->D6 K H P c' v' fq->∀a∈fq,P a/\a∉fp:=λ j c' v' fq ae g1 g2 g3 a ha=>by
  have j7:HA c'=true:=by cases c'<;>first|rfl|exact g3.elim
  obtain⟨w',rf,m1,m2,m3,m4⟩:=E.ows j c' g1 j7;rw[g2] at m1;cases m1;have:=m2.BM g3;subst this;exact⟨(m3 a ha).1,E.apart j i c' c v' v0 rf fp g1 h1 g2 h3 g3 k2 (zbn ae) a ha⟩
 have key:=E.aa0 (P':=P') (H':=H') (i:=i) (v:=v0) (c:=toCl p (EO t π u)) (fp:=ah) (λ a ha=>(hs a (E.sub a ha) λ z=>(k3 a (kz a z)).2 ha).1) ht sm (λ j c' v' fq ae g1 g2 g3 a ha=>?_) (D6.toCl q1) (λ a ha=>?_) q2 (λ n z=>by rw[Gy] at z;subst z;have:=E.pin i c n h1 (JY h2);rw[h3] at this;cases this;rfl)
 ·rw[Oo h3] at key;refine⟨c,p,t,h1,h2,key,⟨sm,λ a ha=>(hs a (E.sub a ha) λ z=>(k3 a (kz a z)).2 ha).2⟩,λ a ha=>⟨(hr a ha).1,λ z=>(k3 a (kz a ((hr a ha).2 (E.sub a z)))).2 z,λ j c' v fq g1 g2 g3 hb=>?_⟩⟩;rcases get_set g1 with ⟨rfl,hl,z⟩|⟨ae,g1⟩
  ·cases z;rw[h3] at g2;cases g2;rw[g3.BM (D6.toCl q1)] at hb;rcases q3 a hb with y|y
   ·exact dj a ha y
   ·exact y.2 ((hr a ha).2 (k3 a y.1).1)
  ·have j7:HA c'=true:=by cases c'<;>first|rfl|exact g3.elim
   obtain⟨w',rf,m1,m2,m3,m4⟩:=E.ows j c' g1 j7;rw[g2] at m1;cases m1;have o2:=vn j c' v rf ae g1 g2 m2;have mv:=m2.move sm λ b aH=>(hs b (o2 b aH).1 λ z=>(o2 b aH).2 (kz b z)).2;rw[g3.BM mv] at hb;exact (o2 a hb).2 (kz a ((hr a ha).2 (o2 a hb).1))
 ·have o2:=vn j c' v' fq ae g1 g2 g3 a ha;have hk:=hs a o2.1 λ z=>o2.2 (kz a z);refine⟨hk.2,λ z=>?_,hk.1⟩;rcases q3 a z with y|y
  ·exact o2.2 (kz a ((hf a y).2 o2.1))
  ·exact o2.2 y.1
 ·rcases q3 a ha with y|y
  ·exact⟨(hf a y).1,λ z=>(k3 a (kz a ((hf a y).2 (E.sub a z)))).2 z⟩
  ·exact⟨(hs a (k3 a y.1).1 y.2).1,(k3 a y.1).2⟩
end
abbrev Ib (i:Nat)(ρ:Ad)(π:List Nat)(u:OT):M Out:=match ρ[i]? with
 |some (some c)=>(match treeOf c with|some (p,t)=>.ok (.next (ρ.set i (some (toCl p (EO t π u)))))|none=>.bad)
 |_=>.bad
abbrev ET (i:Nat)(ρ:Ad)(π:List Nat):M (List OT):=match Wm i ρ π with | some (.lst ts)=>.ok ts | _=>.bad
def KN {c}(h:ρ[i]?=some (some c))(ht:treeOf c=some (p,t)):Ib i ρ π u=.ok (.next (ρ.set i (some (toCl p (EO t π u))))):=by
 unfold Ib;simp only[h,ht]
def Av.append {K:za1}{H:Hp}{P:Addr->Prop}:∀ {xs ys:List V}{ts us:List OT}{fp fq:List Addr},Av K H P xs ts fp->Av K H P ys us fq->Av K H P (xs++ys) (ts++us) (fp++fq):=by
 intro _ _ _ _ _ _ x_ h;cases x_ with
 |nil=>exact h
 |cons a t=>rw[zb3];exact .cons a (t.append h)
section
variable {fp:Ad->M (List Nat)}{i:Nat}{fs:Ad->M (List D)}
def Bt.lst {K}(pl:Bt K P H σ ρ i π v t1)(E:An K P0 P H σ ρ)(h:ET i ρ π=.ok ts):t1=.lst ts/\∃l xs fq,v=.ref l/\H l=some (.lst xs)/\Av K H P xs ts fq/\l∉fq/\fq.Nodup:=by
 unfold ET at h;rw[pl.at] at h;split at h
 ·rename_i rh e;cases e;cases h;obtain⟨a5,o1,hp,nd⟩:=pl.own E;cases o1 with
  |lst hh hr=>exact⟨rfl,_,_,_,rfl,hh,hr,(zb8.mp nd).1,(zb8.mp nd).2⟩
 ·cases h
def gY (ha:DP X WX a i fp)(he:DN X WX e fn){ad}(hs: ~~~(starEach [e] X.env=[(false,eval e X.env)]))(bw: ~~~(swapsWith (.Call (.Attribute a "append" apos) [e] [] ad) none pos.line X.env=pure false))(al: ~~~(attributeBase a "append" X.env (eval a X.env)=eval a X.env))(aW: ~~~(((backTo ad (starEach [e] X.env)).all (λ x => !x.1)&&(backToKw ad (keywordEach [] X.env)).all (λ x=>x.1.isSome)&&decide (([e]:List Expr).length+([]:List Keyword).length+(if ([]:List Keyword).isEmpty then 0 else 1)<30))=true))(am: ~~~((apos.endLine==ad.line)=true))(au: ~~~((backTo ad (starEach [] X.env)).any (·.1)=false)):
 DS X WX (.Expr (.Call (.Attribute a "append" apos) [e] [] ad) pos) (λ ρ=>(fp ρ).bind λ π=>(ET i ρ π).bind λ ts=>(fn ρ).bind λ t=>if ts.length<1000 then Ib i ρ π (.lst (ts++[t])) else .bad):=by
 obtain⟨ta,a1,a2⟩:=ha;obtain⟨te,e1,e2⟩:=he;refine⟨_,J8 (Y5 zcu PySem.F.slot_list_append PySem.F.type_list_append R6 a1 (Bm e1 CJ hs) al aW am hs au) bw,λ P0 P σ H Z ρ E h=>?_⟩;dsimp only at h;refine a2 P0 P σ H _ ρ E ?_;refine mT h E λ π h=>?_;intro v t1 H1 s1 pl;have E1:=E.same s1;cases q1:ET i ρ π with
 |bad=>rw[q1] at h;exact h.elim
 |ex x=>unfold ET at q1;split at q1<;>cases q1
 |ok ts =>
  rw[q1] at h;simp only[M.Aa] at h;obtain⟨rfl,l,xs,fq,rfl,hl,ol,nl,yd⟩:=pl.lst E1 q1;refine⟨.inl ⟨rfl,xs,.of hl⟩,e2 P0 P σ H1 _ ρ E1 ?_⟩;cases q2:fn ρ with
  |bad=>rw[q2] at h;exact h
  |ex y=>rw[q2] at h;exact λ H' s=>h H' P ((E.tr s1).trans (E1.tr s))
  |ok t =>
   rw[q2] at h;simp only[M.Aa] at h;by_cases hz:ts.length<1000
   ·rw[if_pos hz] at h;intro w fw H2 s2 n2 aP o2;have sm:=Bs (P:=P) s2 n2;have E2:An X.K P0 (PU P fw) H2 σ ρ:=E1.more s2 HV (FK (E1.same s2).BQ o2) sm;have keep:∀b∈fq,H2 b=H1 b:=λ b hb=>by obtain⟨o,z,_⟩:=ol.BQ b hb;rw[z];exact s2 _ _ z
    have j8:=ol.move sm keep;have ao:=s2 _ _ hl;have dj:∀b∈fq,b∉fw:=λ b hb hc=>(ol.BQ b hb).no (n2 b hc);obtain⟨c,p,t0,g1,g2,E3,t3⟩:=E2.xE (pl.more sm s2) ao j8 (us:=ts++[t]) (ys:=xs++[w]) (j8.append (.cons o2 .nil)) (by rw[zb1];exact zau.mpr ⟨yd,aP,λ b hb d hd z=>dj b hb (by rw[z];exact hd)⟩) (by
     rw[zb1];intro z;rcases zao.mp z with z|z
     ·exact nl z
     ·rw[n2 l z] at hl;cases hl) (by
     intro b hb;rw[zb1] at hb;rcases zao.mp hb with z|z
     ·exact .inl z
     ·exact .inr ⟨.inr z,λ y=>(E1.BQ b (E1.sub b y)).no (n2 b z),E1.new s2 sm (n2 b z)⟩)
    rw[KN g1 g2] at h;exact⟨l,xs,w,rfl,rfl,ao,AA (by rw[ol.len];exact zbs hz),h _ _ _ (((E.tr s1).trans (E1.zW s2 n2)).trans t3) E3⟩
   ·rw[if_neg hz] at h;exact h.elim
abbrev pJ {α:Type}(o:Option α):M α:=match o with | some x=>.ok x | none=>.bad
abbrev Wn (i:Nat)(ρ:Ad)(π:List Nat):M (List D):=match Wm i ρ π with | some (.lst ts)=>(match Et ts with | some ds=>.ok ds | none=>.bad) | _=>.bad
def Bt.shl {K}(pl:Bt K P H σ ρ i π v t1)(E:An K P0 P H σ ρ)(h:Wn i ρ π=.ok ds):t1=.lst (ds.map .sh)/\∃l xs,v=.ref l/\H l=some (.lst xs)/\Aj K (del H P) xs ds:=by
 unfold Wn at h;rw[pl.at] at h;split at h
 ·rename_i rh e;split at h
  ·rename_i j4 e';cases e;cases h;have z:=CM e';subst z;obtain⟨a5,o1,hp,nd⟩:=pl.own E;cases o1 with
   |lst hh hr=>exact⟨rfl,_,_,rfl,hh,hr.sZ.2⟩
  ·cases h
 ·cases h
def gZ (h:Wn i ρ π=.ex x):False:=by
 unfold Wn at h;split at h
 ·split at h<;>cases h
 ·cases h
def An.acZ {K}{es}(E:An K P0 P H σ ρ)(pl:Bt K P H σ ρ i π (.ref l) (.lst (ds.map .sh)))(hH:H l=some (.lst xs))(o:Aj K (del H P) xs ds)(o':Aj K (del H P) ys es):
 ∃c p t,ρ[i]?=some (some c)/\treeOf c=some (p,t)/\An K P0 P (upd H l (.lst ys)) σ (ρ.set i (some (toCl p (EO t π (.lst (es.map .sh))))))/\Tr P0 P H P (upd H l (.lst ys)):=
 E.xE pl hH o.ows o'.ows zbv (λ z=>by cases z) (λ a ha=>by cases ha)
abbrev pK (t:OT):M (List D):=match t with | .lst us=>pJ (Et us) | _=>.bad
def hV (ha:DP X WX a i fp)(he:DN X WX e fn){ad}(hs: ~~~(starEach [e] X.env=[(false,eval e X.env)]))(bw: ~~~(swapsWith (.Call (.Attribute a "extend" apos) [e] [] ad) none pos.line X.env=pure false))(al: ~~~(attributeBase a "extend" X.env (eval a X.env)=eval a X.env))(aW: ~~~(((backTo ad (starEach [e] X.env)).all (λ x => !x.1)&&(backToKw ad (keywordEach [] X.env)).all (λ x=>x.1.isSome)&&decide (([e]:List Expr).length+([]:List Keyword).length+(if ([]:List Keyword).isEmpty then 0 else 1)<30))=true))(am: ~~~((apos.endLine==ad.line)=true))(au: ~~~((backTo ad (starEach [] X.env)).any (·.1)=false)):
 DS X WX (.Expr (.Call (.Attribute a "extend" apos) [e] [] ad) pos) (λ ρ=>(fp ρ).bind λ π=>(Wn i ρ π).bind λ ds=>((fn ρ).bind pK).bind λ es=>if ds.length+es.length<=1000 then Ib i ρ π (.lst ((ds++es).map .sh)) else .bad):=by
 obtain⟨ta,a1,a2⟩:=ha;obtain⟨te,e1,e2⟩:=he;refine⟨_,J8 (Y5 zcu PySem.F.slot_list_extend PySem.F.type_list_extend Zk a1 (Bm e1 CJ hs) al aW am hs au) bw,λ P0 P σ H Z ρ E h=>?_⟩;dsimp only at h;refine a2 P0 P σ H _ ρ E ?_;refine mT h E λ π h=>?_;intro v t1 H1 s1 pl;have E1:=E.same s1;cases q1:Wn i ρ π with
 |bad=>rw[q1] at h;exact h.elim
 |ex x=>exact (gZ q1).elim
 |ok ds =>
  rw[q1] at h;simp only[M.Aa] at h;obtain⟨rfl,l,xs,rfl,hl,ol⟩:=pl.shl E1 q1;refine⟨.inl ⟨rfl,xs,.of hl⟩,e2 P0 P σ H1 _ ρ E1 ?_⟩;cases q2:fn ρ with
  |bad=>rw[q2] at h;exact h
  |ex y=>rw[q2] at h;exact λ H' s=>h H' P ((E.tr s1).trans (E1.tr s))
  |ok t =>
   rw[q2] at h;simp only[M.Aa] at h;intro w fw H2 s2 n2 aP o2;have sm:=Bs (P:=P) s2 n2;have E2:An X.K P0 (PU P fw) H2 σ ρ:=E1.more s2 HV (FK (E1.same s2).BQ o2) sm;cases t with
   |lst us =>
    simp only[pK] at h;cases q3:Et us with
    |none=>rw[q3] at h;exact h.elim
    |some es =>
     rw[q3] at h;simp only[pJ,M.Aa] at h;have z:=CM q3;subst z;cases o2 with
     |lst hb hr =>
      by_cases hz:ds.length+es.length<=1000
      ·rw[if_pos hz] at h;have he:=hr.sZ.2;have j8:=ol.mono sm;have ao:=s2 _ _ hl;obtain⟨c,p,t0,g1,g2,E3,t3⟩:=E2.acZ (pl.more sm s2) ao j8 (j8.append he);rw[KN g1 g2] at h;exact⟨l,_,xs,_,rfl,rfl,ao,hb,zbs (AA (by rw[ol.length,he.length];exact hz)),h _ _ _ (((E.tr s1).trans (E1.zW s2 n2)).trans t3) E3⟩
      ·rw[if_neg hz] at h;exact h.elim
   |_=>exact h.elim
end
abbrev gX (K:za1)(WX:Str->Hp->Prop)(P0:Ef)(P:Addr->Prop)(H:Hp)(σ:St)(Q:VK):M (Ad×OT)->Prop
 | .ok (ρ,t)=>∀v fp H' P',Tr P0 P H P' H'->An K P0 P' H' σ ρ->C3 K H' P' v t fp->fp.Nodup->(∀a∈fp,P' a/\¬ P0 a/\∀(j:Nat) c v' fq,ρ[j]?=some (some c)->σ[j]?=some (some v')->D6 K H' P' c v' fq->a∉fq)->Q v H'
 | .ex x=>∀H' P',Tr P0 P H P' H'->WX x H'
 | .bad=>False
abbrev DX (X:Cx)(WX:Str->Hp->Prop)(e:Expr)(f:Ad->M (Ad×OT)):Prop:=
 ∃t,PE X e t/\∀P0 P σ H Q ρ,An X.K P0 P H σ ρ->gX X.K WX P0 P H σ Q (f ρ)->t σ H Q
abbrev hX:OT->Bool
 | .sh _=>false
 |_=>true
abbrev UL (i:Nat)(F:OT->List D->M (OT×OT))(ρ:Ad)(π:List Nat)(ax:List D):M (Ad×OT):=match ρ[i]? with
 |some (some c)=>(match treeOf c with
  |some (p,t)=>(match LX t π with
   |some t1=>if hX t1=true then (match F t1 ax with | .ok (t2,r)=>.ok (ρ.set i (some (toCl p (EO t π t2))),r)|_=>.bad) else .bad
   |none=>.bad)
  |none=>.bad)
 |_=>.bad
section
variable {fp:Ad->M (List Nat)}{i:Nat}{fs:Ad->M (List D)}
def hZ {c}(h:ρ[i]?=some (some c))(ht:treeOf c=some (p,t))(hs:LX t π=some t1)(hN:hX t1=true)(hF:F t1 ax=.ok (t2,r)):UL i F ρ π ax=.ok (ρ.set i (some (toCl p (EO t π t2))),r):=by
 unfold UL;simp only[h,ht,hs,hN,if_true,hF]
def iA (xo:Hl X E)(G:Rr X.prog X.w X.K X.mg X.base x k n F)(hr:BE k X.A)(hg:Gl X x)(hp:DP X (CL X.K E) a i fp)(ha:DA X (CL X.K E) true es fs)(hn:es.length+1=n)(be:(x==("__debug__" : Str))=false:=by decide)(he: ~~~(starEach (a::es) X.env=(false,eval a X.env)::starEach es X.env))(hpl: ~~~((backTo pos (starEach es X.env)).any (·.1)=false)):
 DX X (CL X.K E) (.Call (.Name x p) (a::es) [] pos) (λ ρ=>(fp ρ).bind λ π=>(fs ρ).bind λ ax=>UL i F ρ π ax):=by
 obtain⟨fa,fd,ps,hF,hm,hk,hb⟩:=G.ex;obtain⟨tp,p1,p2⟩:=hp;obtain⟨ta,a1,a2,a3⟩:=ha;refine⟨_,Y1 hF hr hg hm hk hb .nil xo.call (Bm p1 a1 he) be he hpl,λ P0 P σ H Q ρ Ev h=>?_⟩;dsimp only at h;refine p2 P0 P σ H _ ρ Ev ?_;cases q:fp ρ with
 |bad=>rw[q] at h;exact h
 |ex x=>rw[q] at h;exact λ H' s=>h H' P (Ev.tr s)
 |ok π =>
  rw[q] at h;simp only[M.Aa] at h;intro v t1 H1 s1 pl;have E1:=Ev.same s1;refine a2 P0 P σ H1 _ ρ E1 ?_;cases q2:fs ρ with
  |bad=>rw[q2] at h;exact h
  |ex y=>rw[q2] at h;exact λ H' s=>h H' P ((Ev.tr s1).trans (E1.tr s))
  |ok ax =>
   rw[q2] at h;simp only[M.Aa] at h;intro vs H2 s2 a6;have E2:=E1.same s2;have g7:=pl.same s2;show Rq X.K n F ((v::vs)++[]) H2 Q E;rw[zb1];obtain⟨v0,c,pp,t,g1,g2,g3,g4⟩:=g7.ex;unfold UL at h;simp only[g1,g2,g4.sub] at h;by_cases hx:hX t1=true
   ·rw[if_pos hx] at h;obtain⟨a5,o1,ye,gz⟩:=g7.own E2;have c4:∃l,v=.ref l:=by
     cases o1 with
     |sh hv=>exact absurd hx (by simp[hX])
     |lst _ _|tup _ _|dK _ _|dT _ _|ins _ _ _=>exact⟨_,rfl⟩
    obtain⟨l,rfl⟩:=c4;refine⟨by rw[zaa,a6.length,a3 ρ ax q2];exact hn,P,l,t1,a5,vs,ax,rfl,E2.BQ,λ b hb=>(ye b hb).1,gz,o1,a6,?_⟩;cases qF:F t1 ax with
    |bad|ex x=>rw[qF] at h;exact h.elim
    |ok z =>
    obtain⟨t2,r⟩:=z;rw[qF] at h;intro w H' P' fu fr k1 k2 k3 k4 k5 k6 k7 k8 k9 vo;obtain⟨c',p',t',m1,m2,m3,m4,m5⟩:=E2.abb g7 o1 k1 k2 k3 k4 k5 k9 k6 k7 vo k8;rw[g1] at m1;cases m1;rw[g2] at m2;cases m2;exact h w fr H' P' (((Ev.tr s1).trans (E1.tr s2)).trans m4) m3 k6 k7 m5
   ·rw[if_neg hx] at h;exact h.elim
def OE (he:DX X WX e fx)(hs: ~~~(swapsWith e none pos.line X.env=pure false)):DS X WX (.Expr e pos) (λ ρ=>(fx ρ).bind λ z=>.ok (.next z.1)):=by
 obtain⟨te,e1,e2⟩:=he;refine⟨_,J8 e1 hs,λ P0 P σ H Z ρ E h=>?_⟩;dsimp only at h;refine e2 P0 P σ H _ ρ E ?_;cases q:fx ρ with
 |bad|ex x=>rw[q] at h;exact h
 |ok z=>rw[q] at h;exact λ v fp H' P' t E' o nd hf=>h σ H' P' t E'
def pL (j:Nat)(hN:X.N.Nodup)(hi:X.N[j]?=some x)(hx:Loc X.env.scope x)(he:DX X WX e fx)(hs: ~~~(swapsWith e (some (.Name x pos')) pos.line X.env=pure false))(hf:X.fn x=true\/X.env.scope.names.lookup x=some .local:=by first | exact .inl rfl | exact .inr rfl | assumption):
 DS X WX (.Assign [.Name x pos'] e pos) (λ ρ=>(fx ρ).bind λ z=>SF j z.1 z.2):=by
 obtain⟨te,e1,e2⟩:=he;refine⟨_,Wt hN hi hx e1 hs hf,λ P0 P σ H Z ρ E h=>?_⟩;dsimp only at h;refine e2 P0 P σ H _ ρ E ?_;refine Yd h λ z h=>?_;intro v fp H' P' tr E' o nd hf;have h':=h.tr tr;have key:gS X.K WX P0 P' H' Z (.ok (.next (z.1.set j (some (toCl none z.2)))))->Z.nx (σ.set j (some v)) H':=λ h=>by
  refine h _ H' P' Tr.refl (E'.Zv (λ _ h=>h) E'.BQ (Ah.refl _) (λ k c' v' ah ae g1 g2 g3 b hb=>⟨rfl,λ w=>(hf b w).2.2 k c' v' ah g1 g2 g3 hb⟩) (D6.toCl o) (λ b hb=>⟨(hf b hb).1,(hf b hb).2.1⟩) nd (λ n z=>by rw[Gy] at z;cases z))
 obtain⟨ρ1,u⟩:=z;cases u with
 |sh d =>
  cases o with
  |sh hv=>exact h' _ H' P' Tr.refl (E'.WV hv)
 |lst ts|tup ts|BR b ks ts|ins x ns ts=>exact key h'
end
abbrev Hm (i:Nat)(ρ:Ad)(π:List Nat):M (Bool×List D×List D):=match Wm i ρ π with
 |some (.BR b ks ts)=>(match Et ts with|some vs=>.ok (b,ks,vs)|none=>.bad)
 |_=>.bad
abbrev putD (ks vs:List D)(k v:D):List D×List D:=if SG ks k=true then (ks,Nk ks vs k v) else (ks++[k],vs++[v])
section
variable {fp:Ad->M (List Nat)}{i:Nat}{fs:Ad->M (List D)}
def Bt.BR {K}(pl:Bt K P H σ ρ i π v t1)(E:An K P0 P H σ ρ)(h:Hm i ρ π=.ok (bl,ks,vs)):t1=.BR bl ks (vs.map .sh)/\∃l xs,v=.ref l/\P l/\Aj K (del H P) xs vs/\C3 K H P (.ref l) (.BR bl ks (vs.map .sh)) [l]/\
 ((bl=false/\∃kvs,H l=some (.dK kvs)/\ks=(kvs.map λ kv=>CB kv.1)/\xs=kvs.map zbx)\/(bl=true/\∃kvs,H l=some (.dT kvs)/\ks=(kvs.map λ kv=>.tup (kv.1.map CB))/\xs=kvs.map zbx)):=by
 unfold Hm at h;rw[pl.at] at h;split at h
 ·rename_i b' yb rh e;split at h
  ·rename_i aB e';cases e;cases h;have z:=CM e';subst z;obtain⟨a5,o1,hp,nd⟩:=pl.own E;generalize ht:OT.BR bl ks (vs.map .sh)=t at o1;cases o1 with
   |dK hh hr =>
    injection ht with h1 h2 h3
    subst h1 h2 h3;obtain⟨rfl,hs⟩:=hr.sZ;exact⟨rfl,_,_,rfl,(hp _ za3).1,hs,.dK hh hr,.inl ⟨rfl,_,hh,rfl,rfl⟩⟩
   |dT hh hr =>
    injection ht with h1 h2 h3
    subst h1 h2 h3;obtain⟨rfl,hs⟩:=hr.sZ;exact⟨rfl,_,_,rfl,(hp _ za3).1,hs,.dT hh hr,.inr ⟨rfl,_,hh,rfl,rfl⟩⟩
   |_=>cases ht
  ·cases h
 ·cases h
def iB (h:Hm i ρ π=.ex x):False:=by
 unfold Hm at h;split at h
 ·split at h<;>cases h
 ·cases h
def An.xH {K}(E:An K P0 P H σ ρ)(pl:Bt K P H σ ρ i π (.ref l) t1)(ot:C3 K H P (.ref l) t1 [l])(hn:∀xs,o'≠.tup xs/\∀z,o'≠.Hg z (.tup xs))(new:Ah (del H P) (del (upd H l o') P)->C3 K (upd H l o') P (.ref l) u [l]):
 ∃c p t,ρ[i]?=some (some c)/\treeOf c=some (p,t)/\An K P0 P (upd H l o') σ (ρ.set i (some (toCl p (EO t π u))))/\Tr P0 P H P (upd H l o'):=by
 obtain⟨a5,o1,hp,_⟩:=pl.own E;have:=o1.BM ot;subst this;have pP:P l:=(hp l za3).1;have sd:del (upd H l o') P=del H P:=by
  funext b;by_cases hb:P b
  ·rw[EJ hb,EJ hb]
  ·rw[Az hb,Az hb,Ag (λ z=>hb (by rw[z];exact pP))]
 have sm:Ah (del H P) (del (upd H l o') P):=by rw[sd];exact Ah.refl _
 refine E.aa9 pl ot (λ _ h=>h) (λ a h=>?_) sm (λ a ha hn=>Ag λ z=>hn (by rw[z];exact za3)) (new sm) (by simp) (λ a ha=>.inl ha);by_cases ha:a=l
 ·subst ha;exact⟨_,Am,hn⟩
 ·unfold ED;rw[Ag ha];exact E.BQ a h
def Yq (hu:X.A.units+n<cLine)(ha:DP X WX a i fp)(hk:DE X WX true b g)(hv:DE X WX true e f)(hs: ~~~(swapsWith e (some (.Subscript a b pos')) pos.line X.env=pure false))(hn:1<=n:=by decide):
 DS X WX (.Assign [.Subscript a b pos'] e pos) (λ ρ=>(f ρ).bind λ v=>(fp ρ).bind λ π=>(g ρ).bind λ k=>(Hm i ρ π).bind λ z=>if keyOk z.1 k=true/\z.2.1.length<1000 then Ib i ρ π (.BR z.1 (putD z.2.1 z.2.2 k v).1 ((putD z.2.1 z.2.2 k v).2.map .sh)) else .bad):=by
 obtain⟨ta,a1,a2⟩:=ha;obtain⟨tk,k1,k2⟩:=hk;obtain⟨tv,v1,v2⟩:=hv;refine⟨_,oE (by omega) a1 k1 v1 hs,λ P0 P σ H Z ρ E h=>?_⟩;dsimp only at h;refine v2 P0 P σ H _ ρ E ?_;refine mT h E λ d h=>?_;intro w H0 s0 hw;have E0:=E.same s0;refine a2 P0 P σ H0 _ ρ E0 ?_;cases q:fp ρ with
 |bad=>rw[q] at h;exact h
 |ex x=>rw[q] at h;exact λ H' s=>h H' P ((E.tr s0).trans (E0.tr s))
 |ok π =>
  rw[q] at h;simp only[M.Aa] at h;intro v t1 H1 s1 pl;have E1:=E0.same s1;refine k2 P0 P σ H1 _ ρ E1 ?_;cases q2:g ρ with
  |bad=>rw[q2] at h;exact h
  |ex y=>rw[q2] at h;exact λ H' s=>h H' P (((E.tr s0).trans (E0.tr s1)).trans (E1.tr s))
  |ok k =>
   rw[q2] at h;simp only[M.Aa] at h;intro y H2 s2 hy;have E2:=E1.same s2;have g7:=pl.same s2;have nq:=(hw.mono s1.del).mono s2.del;have vp:=((E.tr s0).trans (E0.tr s1)).trans (E1.tr s2);cases q3:Hm i ρ π with
   |bad=>rw[q3] at h;exact h.elim
   |ex x=>exact (iB q3).elim
   |ok z =>
    obtain⟨bb,ks,vs⟩:=z;rw[q3] at h;simp only[M.Aa] at h;by_cases hc:keyOk bb k=true/\ks.length<1000
    ·rw[if_pos hc] at h;obtain⟨rfl,l,xs,rfl,hP,dh,ot,j9⟩:=g7.BR E2 q3;have hK:=E5 hc.1;rcases j9 with ⟨rfl,kvs,hH,rfl,rfl⟩|⟨rfl,kvs,hH,rfl,rfl⟩
     ·cases hK with
      |k κ =>
       have ey:=hy.pG;refine⟨l,_,rfl,.inl ⟨kvs,κ,hH,ey,AA (by have:=hc.2;rw[za2] at this;omega),rfl⟩,?_⟩;have aX:∃aB,(putD (kvs.map λ kv=>CB kv.1) vs (CB κ) d)=((putK kvs κ w).map (λ kv=>CB kv.1),aB)/\Aj X.K (del H2 P) ((putK kvs κ w).map zbx) aB:=by
        unfold putD putK;rw[KG HW];by_cases hh:(kvs.any λ kv=>decide (kv.1=κ))=true
        ·rw[if_pos hh,if_pos hh];refine⟨_,by rw[HY (fk:=CB) HW],?_⟩;rw[<-HX (fk:=CB) HW];exact HZ nq dh
        ·rw[if_neg hh,if_neg hh];refine⟨_,by rw[zav];rfl,?_⟩;rw[zav];exact dh.snoc nq
       obtain⟨aB,e1,e2⟩:=aX;obtain⟨c,p,t0,g1,g2,E3,t3⟩:=E2.xH (o':=.dK (putK kvs κ w)) (u:=.BR false ((putK kvs κ w).map λ kv=>CB kv.1) (aB.map .sh)) g7 ot (λ _=>⟨λ z=>(by cases z),λ _ z=>by cases z⟩) (λ mv=>.dK Am (e2.mono mv).ows);rw[e1,KN g1 g2] at h;exact h _ _ _ (vp.trans t3) E3
     ·cases hK with
      |t κ =>
       cases hy with
       |tup ht ao =>
        have ey:=Aj.keys κ ao;subst ey;refine⟨l,_,rfl,.inr ⟨kvs,κ,_,hH,rfl,(Ao ht).2,AA (by have:=hc.2;rw[za2] at this;omega),rfl⟩,?_⟩;have hf:∀a b:List Key,By (.tup (a.map CB)) (.tup (b.map CB))=decide (a=b):=λ a b=>by simp only[By];exact NU a b
        have aX:∃aB,(putD (kvs.map λ kv=>.tup (kv.1.map CB)) vs (.tup (κ.map CB)) d)=((putK kvs κ w).map (λ kv=>.tup (kv.1.map CB)),aB)/\Aj X.K (del H2 P) ((putK kvs κ w).map zbx) aB:=by
         unfold putD putK;rw[KG (fk:=λ κ:List Key=>D.tup (κ.map CB)) hf];by_cases hh:(kvs.any λ kv=>decide (kv.1=κ))=true
         ·rw[if_pos hh,if_pos hh];refine⟨_,by rw[HY (fk:=λ κ:List Key=>D.tup (κ.map CB)) hf],?_⟩;rw[<-HX (fk:=λ κ:List Key=>D.tup (κ.map CB)) hf];exact HZ nq dh
         ·rw[if_neg hh,if_neg hh];refine⟨_,by rw[zav];rfl,?_⟩;rw[zav];exact dh.snoc nq
        obtain⟨aB,e1,e2⟩:=aX;obtain⟨c,p,t0,g1,g2,E3,t3⟩:=E2.xH (o':=.dT (putK kvs κ w)) (u:=.BR true ((putK kvs κ w).map λ kv=>.tup (kv.1.map CB)) (aB.map .sh)) g7 ot (λ _=>⟨λ z=>(by cases z),λ _ z=>by cases z⟩) (λ mv=>.dT Am (e2.mono mv).ows);rw[e1,KN g1 g2] at h;exact h _ _ _ (vp.trans t3) E3
    ·rw[if_neg hc] at h;exact h.elim
def UM (tk:Bool):DN X WX (.Dict [] [] pos) (λ _=>.ok (.BR tk [] [])):=by
 cases tk with
 |false =>
  refine⟨_,fD,λ P0 P σ H Q ρ E h p hp=>?_⟩;exact h _ [p] _ (AJ hp _) (λ a ha=>by rw[za9.mp ha];exact hp) (by simp) (.dK (kvs:=[]) Am .nil)
 |true =>
  refine⟨_,fE,λ P0 P σ H Q ρ E h p hp=>?_⟩;exact h _ [p] _ (AJ hp _) (λ a ha=>by rw[za9.mp ha];exact hp) (by simp) (.dT (kvs:=[]) Am .nil)
end
section
variable {te:TE}
abbrev abc (ds:List D):M D:=match ds with
 |[.lst xs]=>(match DZ xs with|some ns=>.ok (.int ns.sum)|none=>.bad)
 |_=>.bad
abbrev ac0 (te:TE):TE:=λ σ H Q=>te σ H λ x H1=>∃n:Nat,x=.int (n:Int)/\n<=1000/\∀r,H1 r=none->Q (.ref r) (upd H1 r (.lst ((zaj n).map λ i:Nat=>V.int (i:Int))))
def ZP (h:ItemsOf (λ i v=>∃t,v=Value.int (0+(i:Int)*1) t) acc n):Vals ((zaj n).map λ i:Nat=>V.int (i:Int)) acc.toList:=by
 obtain⟨h1,h2⟩:=h;have key:∀(l:List Value) (k:Nat),(∀i v,l[i]?=some v->∃t,v=Value.int ((k+i:Nat):Int) t)->Vals ((List.range' k l.length).map λ i:Nat=>V.int (i:Int)) l:=by
  intro l;induction l with
  |nil=>intro k _;exact .nil
  |cons v r ih =>
   intro k hk;rw[zaa,List.range'_succ,za6];refine .cons (by obtain⟨t,e⟩:=hk 0 v rfl;exact⟨t,by simpa using e⟩) (ih (k+1) λ i w hw=>?_);obtain⟨t,e⟩:=hk (i+1) w (by simpa using hw);exact⟨t,by rw[e];congr 1;omega⟩
 have:=key acc.toList 0 (λ i v hv=>by
  obtain⟨t,e⟩:=h2 i v (by rw[<-Array.getElem?_toList];exact hv);exact⟨t,by rw[e];congr 1;omega⟩)
 rw[zdj,h1] at this;rw[List.range_eq_range'];exact this
def SI (hc:X.calm=true)(hg:Gl X "list")(hm:X.mg "list" = none)(j3:Gl X "range")(aO:X.mg "range" = none)(he:PE X e te)(hv:bootBuiltins "list" = some (.type "list"):=by decide +kernel)(hs: ~~~(starEach [.Call (.Name "range" p2) [e] [] bz] X.env=[(false,eval (.Call (.Name "range" p2) [e] [] bz) X.env)]))(a9: ~~~(starEach [e] X.env=[(false,eval e X.env)])):
 PE X (.Call (.Name "list" p) [.Call (.Name "range" p2) [e] [] bz] [] pos) (ac0 te):=by
 intro pins s σ H Q I h;refine wpAny_Call_Name_kw (Eg I hg hm hv ?_);refine zbo ?_ hs;rw[hs];refine zc5 ?_;refine wpAny_Call_Name_kw (Eg I j3 aO boot_range ?_);refine zbo ?_ a9;rw[a9];refine zc5 (Bl (he pins s σ H _ I h) λ u s1 zz=>?_);obtain⟨x,H1,I1,r1,q1⟩:=zz;obtain⟨n,rfl,hn,q⟩:=q1;obtain⟨t,rfl⟩:=r1;refine zci ?_;refine call_range_1 ?_;refine zci ?_;have h4:((n:Nat):Int)<2^62:=by omega
 refine call_list_range (n:=n) (I1.ok.hd hc) (IsRange.new ..) (small_one (by omega) (by omega) (by omega) h4) (by rw[rangeSize_one];split<;>omega) (by omega) λ h' tk rj c' hk bh d9=>?_;have kp:∀b o,s1.heap.get? b=some o->h'.get? b=some o:=λ b o e=>hk b o (zah _ e);have rv:=ZP d9;have bq:∀o:Obj,s1.heap.objs.size<=(s1.heap.push o).objs.size:=λ o=>by simp[Heap.push]
 refine⟨.ref _,_,I1.laid (t':=tk) (o:=.lst ((zaj n).map λ i:Nat=>V.int (i:Int))) kp (bq _) ⟨?_,rj.toList,c',rv,by simpa using bh⟩,rfl,q _ (I1.Aw.fresh (bq _))⟩;rw[za2,zc1];exact zbs (AA hn)
abbrev lrM (d:D):M OT:=match d with
 | .int j=>@ite _ (0<=j/\j<=1000) (zdi _) (.ok (.lst ((CK 0 j.toNat).map .sh))) .bad
 |_=>.bad
def SJ {n:Nat}(h:n<=1000):lrM (.int (n:Int))=.ok (.lst (((zaj n).map λ i:Nat=>D.int (i:Int)).map .sh)):=by
 unfold lrM;dsimp only;rw[if_pos ⟨by omega,by omega⟩,zbr,EN]
def KO (hc:X.calm=true)(hg:Gl X "list")(hm:X.mg "list" = none)(j3:Gl X "range")(aO:X.mg "range" = none)(he:DE X WX true e f)(hv:bootBuiltins "list" = some (.type "list"):=by decide +kernel)(hs: ~~~(starEach [.Call (.Name "range" p2) [e] [] bz] X.env=[(false,eval (.Call (.Name "range" p2) [e] [] bz) X.env)]))(a9: ~~~(starEach [e] X.env=[(false,eval e X.env)])):
 DN X WX (.Call (.Name "list" p) [.Call (.Name "range" p2) [e] [] bz] [] pos) (λ ρ=>(f ρ).bind lrM):=by
 obtain⟨te,e1,e2⟩:=he;refine⟨_,SI hc hg hm j3 aO e1 hv hs a9,λ P0 P σ H Q ρ E h=>?_⟩;refine e2 P0 P σ H _ ρ E ?_;dsimp only at h;refine Yd h λ d h=>?_;intro v H1 s1 hv;cases d with
 |int j =>
  by_cases hj:0<=j/\j<=1000
  ·obtain⟨n,rfl⟩:∃n:Nat,j=n:=⟨j.toNat,by omega⟩;rw[SJ (by omega)] at h;refine⟨n,hv.int_inv,by omega,λ r hr=>h.Jk s1 (xs:=(zaj n).map λ i:Nat=>V.int (i:Int)) ?_ r hr⟩;have:∀l:List Nat,Aj X.K (del H1 P) (l.map λ i:Nat=>V.int (i:Int)) (l.map λ i:Nat=>D.int (i:Int)):=λ l=>by
    induction l with
    |nil=>exact .nil
    |cons x r ih=>exact .cons (.int _) ih
   exact this _
  ·have e:lrM (.int j)=.bad:=if_neg hj;rw[e] at h;exact h.elim
 |_=>exact h.elim
abbrev pM (lo hi:Option Int)(d:D):M OT:=match d with
 | .lst ds=>.ok (.lst (((ds.drop (HT.Ob ds.length 0 lo)).take (HT.Ob ds.length ds.length hi-HT.Ob ds.length 0 lo)).map .sh))
 |_=>.bad
def OF {lo}(ha:DE X WX true e f)(hl:DO X WX true lo rn)(hh:DO X WX true hi fh):DN X WX (.Subscript e (.Slice lo hi none p2) pos) (λ ρ=>(f ρ).bind λ d=>(rn ρ).bind λ l=>(fh ρ).bind λ u=>pM l u d):=by
 obtain⟨ta,a1,a2⟩:=ha;obtain⟨tl,l1,l2⟩:=hl;obtain⟨th,h1,h2⟩:=hh;refine⟨_,eX nW a1 l1 h1,λ P0 P σ H Q ρ E h=>?_⟩;dsimp only at h;refine a2 P0 P σ H _ ρ E ?_;cases q:f ρ with
 |bad|ex x=>rw[q] at h;exact h
 |ok d =>
  rw[q] at h;intro v H1 s1 hv;refine l2 P0 P σ H1 _ ρ (E.same s1) ?_;cases q2:rn ρ with
  |bad=>rw[q2] at h;exact h
  |ex y=>rw[q2] at h;exact λ H' s=>h H' (s1.trans s)
  |ok l =>
   rw[q2] at h;intro H2 s2;refine h2 P0 P σ H2 _ ρ ((E.same s1).same s2) ?_;cases q3:fh ρ with
   |bad=>rw[q3] at h;exact h
   |ex y=>rw[q3] at h;exact λ H' s=>h H' ((s1.trans s2).trans s)
   |ok u =>
    rw[q3] at h;simp only[M.Aa] at h;intro H3 s3;unfold pM at h;split at h
    ·cases hv with
     |lst hs hl =>
      refine⟨_,_,rfl,(s3.seq (s2.seq hs.Bh)),λ p hp=>h.Jk ((s1.trans s2).trans s3) ?_ p hp⟩;unfold eY;rw[hl.length];exact ((((hl.drop _).take _).mono s2.del).mono s3.del)
    ·exact h.elim
def iC:OpN X.K WX (sX X.K) MA:=by
 intro P H x y v w Q ht hx hy h;unfold MA at h;split at h
 ·rename_i ds es;by_cases hl:ds.length+es.length<=1000
  ·rw[if_pos hl] at h;cases hx with
   |lst h1 h2 =>
    cases hy with
    |lst h3 h4=>exact⟨_,_,_,_,rfl,rfl,h1.Bh,h3.Bh,zbs (AA (by rw[h2.length,h4.length];exact hl)),h.Jk (Ah.refl _) (h2.app h4)⟩
  ·rw[if_neg hl] at h;exact h.elim
 ·exact h.elim
def NX (ha:DE X WX true a f)(hb:DE X WX true b g):DN X WX (.BinOp a .Add b pos) (λ ρ=>(f ρ).bind λ x=>(g ρ).bind λ y=>MA x y):=by
 obtain⟨ta,a1,a2⟩:=ha;obtain⟨tb,b1,b2⟩:=hb;exact⟨_,eJ oU a1 b1,λ P0 P σ H Q ρ E h=>aa6 a2 b2 iC E h⟩
abbrev GK (μ:List (Option Nat))(g:TG):Prop:=∀σ0 σ x H Q,(∀(j:Nat) v,(FH μ σ0)[j]?=some (some v)->σ[j]?=some (some v))->g x σ H Q->g x σ H λ σ' H'=>Q σ' H'/\∀(j:Nat) v,(FH μ σ0)[j]?=some (some v)->σ'[j]?=some (some v)
abbrev GKs (μ:List (Option Nat))(g:dQ):Prop:=∀σ0 σ x H Q,(∀(j:Nat) v,(FH μ σ0)[j]?=some (some v)->σ[j]?=some (some v))->g x σ H Q->g x σ H λ σ' H'=>Q σ' H'/\∀(j:Nat) v,(FH μ σ0)[j]?=some (some v)->σ'[j]?=some (some v)
def GK.keeps {g}(h:GK μ g):LN μ g:=λ σ x H Q q=>h σ (FH μ σ) x H Q (λ _ _ z=>z) q
def pN (h:μ[i]?=some none):GK μ (QW i):=λ σ0 σ x H Q hk q=>by
 refine⟨q,λ j v hj=>?_⟩;have ae:i≠j:=λ z=>by
  subst z;unfold FH at hj;rw[zap,h] at hj;cases hj
 rw[zbm ae];exact hk j v hj
def pO:GKs μ uX:=λ σ0 σ x H Q hk q=>⟨q.1,q.2,hk⟩
def iD (mono:∀v σ H Q Q',(∀σ' H',Q σ' H'->Q' σ' H')->t v σ H Q->t v σ H Q')(ht:GK μ t)(hu:GKs μ u):GKs μ (eC t u):=λ σ0 σ x H Q hk q=>by
 obtain⟨v,r,rfl,q⟩:=q;exact⟨v,r,rfl,mono _ _ _ _ _ (λ σ' H' z=>hu σ0 σ' r H' Q z.2 z.1) (ht σ0 σ v H _ hk q)⟩
def xI {K}(h:GKs μ t):GK μ (uY K n t):=λ σ0 σ x H Q hk q=>by
 obtain⟨a,xs,rfl,h1,h2,q⟩:=q;exact⟨a,xs,rfl,h1,h2,h σ0 σ xs H Q hk q⟩
variable {d8:List D->Ad->M Ad}
abbrev pQ (X:Cx)(scope:Scope)(NB:List Str)(μ:List (Option Nat))(es:List Expr)(gt:List D->Ad->M Ad):Prop:=
 ∃g:dQ,(∀s H C ex,zS (blockOf X s H scope C NB ex) es g)/\GKs μ g/\∀P0 P σ H Q ρ vs ds,An X.K P0 P H σ ρ->Aj X.K (del H P) vs ds->gG X.K P0 P H Q (gt ds ρ)->g vs σ H Q
def EU:pQ X scope NB μ [] (λ ds ρ=>match ds with | []=>.ok ρ | _=>.bad):=
 ⟨uX,λ s H C ex=>XZ,pO,λ P0 P σ H Q ρ vs ds E hv h=>by
  cases hv with
  |nil=>exact⟨rfl,h σ E⟩
  |cons _ _=>exact h.elim⟩
def Bn (i:Nat)(hN:NB.Nodup)(hi:NB[i]?=some x)(hx:(relabel scope X.env).names.lookup x=some .local)(hm:μ[i]?=some none)(hr:pQ X scope NB μ es d8)(hs:∀s H C ex,(assignEach (.Name x px::es) (blockOf X s H scope C NB ex).env).map (·.2)=assign (.Name x px) (blockOf X s H scope C NB ex).env::(assignEach es (blockOf X s H scope C NB ex).env).map (·.2):=by intro _ _ _ _;rfl):
 pQ X scope NB μ (.Name x px::es) (λ ds ρ=>match ds with|d::r=>d8 r (ρ.set i (some (.val d)))|[]=>.bad):=by
 obtain⟨gr,r1,r2,r3⟩:=hr;refine⟨eC (QW i) gr,λ s H C ex=>U7 (Sb (X:=blockOf X s H scope C NB ex) hN hi (.inl hx) (.inr hx)) (r1 s H C ex) (hs s H C ex),iD (λ v σ H Q Q' hq h=>hq _ _ h) (pN hm) r2,λ P0 P σ H Q ρ vs ds E hv h=>?_⟩;cases hv with
 |nil=>exact h.elim
 |cons h1 h2=>exact⟨_,_,rfl,r3 P0 P _ H Q _ _ _ (E.WV h1) h2 h⟩
def GA (hc:X.calm=true)(h:pQ X scope NB μ es d8)(hn:∀s H C ex,(assignEach es (blockOf X s H scope C NB ex).env).length=n:=by intro _ _ _ _;rfl)(aF:∀s H C ex,(assignEach es (blockOf X s H scope C NB ex).env).findIdx? (·.1)=none:=by intro _ _ _ _;rfl):
 sV X scope NB μ (.Tuple es k pt) (λ d ρ=>match d with | .tup ds=>if ds.length=n then d8 ds ρ else .bad|_=>.bad):=by
 obtain⟨t,a1,a2,a3⟩:=h;refine⟨uY X.K n t,λ s H C ex=>eE (X:=blockOf X s H scope C NB ex) hc (a1 s H C ex) (hn s H C ex) (aF s H C ex),(xI a2).keeps,λ P0 P σ H Q ρ v d E hv h=>?_⟩;cases hv with
 | @tup a xs ds hs hl =>
  dsimp only at h;by_cases hd:ds.length=n
  ·rw[if_pos hd] at h;exact⟨a,xs,rfl,FF.of (Ao hs).2,by rw[hl.length];exact hd,a3 P0 P σ H Q ρ xs ds E hl h⟩
  ·rw[if_neg hd] at h;exact h.elim
 |_=>exact h.elim
end
section
variable {fp:Ad->M (List Nat)}{i:Nat}{te:TE}
def pR:Mx X.K WX (λ xs H Q=>∃i j,xs=[.int i,.int j]/\Q (.int (if j<i then j else i)) H) (λ ds=>match ds with | [.int i,.int j]=>.ok (.int (if j<i then j else i)) | _=>.bad):=by
 intro P H ds vs Q ht hl h;dsimp only at h;split at h
 ·obtain⟨v,w,rfl,h1,h2⟩:=hl.two;exact⟨_,_,by rw[h1.int_inv,h2.int_inv],h _ H (Ah.refl H) (.int _)⟩
 ·exact h.elim
def pS (hc:X.calm=true)(hg:Gl X "min")(hm:X.mg "min" = none)(ha:DE X WX c a f)(kc:DE X WX c b g)(hb:bootBuiltins "min" = some (.builtin "min"):=by decide +kernel)(hs: ~~~(starEach [a,b] X.env=(false,eval a X.env)::starEach [b] X.env))(a9: ~~~(starEach [b] X.env=[(false,eval b X.env)]))(hpl: ~~~((backTo pos (starEach [b] X.env)).any (·.1)=false)):
 DE X WX c (.Call (.Name "min" p) [a,b] [] pos) (λ ρ=>((f ρ).bind λ d=>((g ρ).bind λ d2=>(M.ok []).bind λ ds=>.ok (d2::ds)).bind λ ds=>.ok (d::ds)).bind (λ ds=>match ds with|[.int i,.int j]=>.ok (.int (if j<i then j else i))|_=>.bad)):=
 Ks (Ze hc) pR hg hm hb (A1 ha (A1 kc A5 a9) hs) (he:=hs) (hpl:=hpl)
end
abbrev WP (m:M Out)(nx:Ad->Prop)(rt:Out->Prop)(ex:Str->Prop):Prop:=match m with
 | .ok (.next ρ)=>nx ρ
 | .ok o=>rt o
 | .ex x=>ex x
 | .bad=>False
section
variable {nx:Ad->Prop}{rt:Out->Prop}{ex:Str->Prop}{m:M Out}{k:Ad->M Out}
def Bg (h:m=.ok (.next ρ'))(hn:nx ρ'):WP m nx rt ex:=by rw[h];exact hn
def WP.mono (h:WP m nx rt ex)(h1:∀ρ,nx ρ->vq ρ)(h2:∀o,rt o->vt o)(h3:∀x,ex x->o7 x):WP m vq vt o7:=by
 cases m with
 |bad=>exact h
 |ex x=>exact h3 x h
 |ok o =>
  cases o with
  |next ρ=>exact h1 ρ h
  |ret d|brk d|cont d|CD d|FJ d ρ=>exact h2 _ h
def wp_seq (h:WP m (λ ρ=>WP (k ρ) nx rt ex) rt ex):WP (WU m k) nx rt ex:=by
 cases m with
 |bad|ex x=>exact h
 |ok o =>
  cases o with
  |next ρ|ret d|brk d|cont d|CD d|FJ d ρ=>exact h
def wp_step (h:m=.ok (.next ρ'))(hk:WP (k ρ') nx rt ex):WP (WU m k) nx rt ex:=by rw[h];exact hk
def Cs (h:WP m I rt ex)(hk:∀ρ,I ρ->WP (k ρ) nx rt ex):WP (WU m k) nx rt ex:=wp_seq (h.mono hk (λ _ h=>h) λ _ h=>h)
abbrev inLoop (I:Ad->Prop)(nx:Ad->Prop)(rt:Out->Prop)(o:Out):Prop:=match o with
 | .cont ρ=>I ρ
 | .brk ρ=>nx ρ
 |o=>rt o
def BW (I:Nat->Ad->Prop)(h0:I 0 ρ)(step:∀i d ρ,ds[i]?=some d->I i ρ->∃ρ1,gt d ρ=.ok ρ1/\WP (gb ρ1) (I (i+1)) (inLoop (I (i+1)) nx rt) ex)(done:∀ρ,I ds.length ρ->nx ρ):WP (forM gt gb ds ρ) nx rt ex:=by
 have key:∀(n i:Nat) (ρ:Ad),i+n=ds.length->I i ρ->WP (forM gt gb (ds.drop i) ρ) nx rt ex:=by
  intro n;induction n with
  |zero =>
   intro i ρ hi h;have e:i=ds.length:=by omega
   subst e;rw[zcx,forM];exact done ρ h
  |succ n ih =>
   intro i ρ hi h;have ag:i<ds.length:=by omega
   obtain⟨ρ1,h1,h2⟩:=step i ds[i] ρ (za7 ag) h;rw[G5 ag,forM,h1];dsimp only;cases q:gb ρ1 with
   |bad|ex x=>rw[q] at h2;exact h2
   |ok o =>
    rw[q] at h2;cases o with
    |next ρ2=>exact ih (i+1) ρ2 (by omega) h2
    |ret d|CD d|FJ d ρ2=>exact h2
    |cont ρ2=>exact ih (i+1) ρ2 (by omega) h2
    |brk ρ2=>exact h2
 have:=key ds.length 0 ρ (by omega) h0;rw[List.drop_zero] at this;exact this
def OG {α:Type}{c}{b}{lt}(J:α->Ad->Prop){x}(hx:Acc lt x)(h0:J x ρ)(step:∀x ρ,J x ρ->(c ρ=.ok false/\nx ρ)\/(c ρ=.ok true/\WP (b ρ) (λ ρ2=>∃y,lt y x/\J y ρ2) (inLoop (λ ρ2=>∃y,lt y x/\J y ρ2) nx rt) ex)):WP (Mz c b ρ) nx rt ex:=by
 have key:∀x,Acc lt x->∀ρ,J x ρ->∃n,AE c b n ρ≠.bad/\WP (AE c b n ρ) nx rt ex:=by
  intro x hx;induction hx with
  |intro x _ ih =>
   intro ρ h;rcases step x ρ h with ⟨h1,h2⟩|⟨h1,h2⟩
   ·refine⟨1,?_,?_⟩
    ·rw[AE,h1];intro z;cases z
    ·rw[AE,h1];exact h2
   ·cases q:b ρ with
    |bad=>rw[q] at h2;exact h2.elim
    |ex y =>
     rw[q] at h2;refine⟨1,?_,?_⟩
     ·rw[AE,h1];dsimp only;rw[q];intro z;cases z
     ·rw[AE,h1];dsimp only;rw[q];exact h2
    |ok o =>
     rw[q] at h2;have go:∀ρ2,(∃y,lt y x/\J y ρ2)->(∀n,AE c b (n+1) ρ=AE c b n ρ2)->∃n,AE c b n ρ≠.bad/\WP (AE c b n ρ) nx rt ex:=by
      rintro ρ2 ⟨y,hy,hJ⟩ e;obtain⟨n,h3,h4⟩:=ih y hy ρ2 hJ;exact⟨n+1,by rw[e];exact h3,by rw[e];exact h4⟩
     cases o with
     |next ρ2|cont ρ2=>exact go ρ2 h2 λ n=>by rw[AE,h1];dsimp only;rw[q]
     |brk ρ2 =>
      refine⟨1,?_,?_⟩
      ·rw[AE,h1];dsimp only;rw[q];intro z;cases z
      ·rw[AE,h1];dsimp only;rw[q];exact h2
     |ret d =>
      refine⟨1,?_,?_⟩
      ·rw[AE,h1];dsimp only;rw[q];intro z;cases z
      ·rw[AE,h1];dsimp only;rw[q];exact h2
     |CD d =>
      refine⟨1,?_,?_⟩
      ·rw[AE,h1];dsimp only;rw[q];intro z;cases z
      ·rw[AE,h1];dsimp only;rw[q];exact h2
     |FJ d ρ2 =>
      refine⟨1,?_,?_⟩
      ·rw[AE,h1];dsimp only;rw[q];intro z;cases z
      ·rw[AE,h1];dsimp only;rw[q];exact h2
 obtain⟨n,h1,h2⟩:=key x hx ρ h0;unfold Mz;have hx:∃n,AE c b n ρ≠.bad:=⟨n,h1⟩;rw[dif_pos hx];have e:AE c b (za5 hx) ρ=AE c b n ρ:=by
  have a:=CY (za0 hx) n;have b':=CY h1 (za5 hx);rw[Nat.add_comm] at b';rw[<-a,<-b']
 rw[e];exact h2
abbrev rtT (Q:OT->Prop)(o:Out):Prop:=match o with
 | .ret d=>Q (.sh d)
 | .CD c=>∃t,clT c=.ok t/\Q t
 |_=>False
def KQ (h:WP m (λ _=>Q (.sh .AV)) (rtT Q) (λ _=>False)):∃t,UI m=.ok t/\Q t:=by
 cases m with
 |bad|ex x=>exact h.elim
 |ok o =>
  cases o with
  |next ρ|ret d=>exact⟨_,rfl,h⟩
  |CD c=>exact h
  |FJ c ρ|brk ρ|cont ρ=>exact h.elim
def AS (h:WP m (λ _=>OT.sh .AV=t) (rtT (·=t)) (λ _=>False)):UI m=.ok t:=by
 obtain⟨u,h1,h2⟩:=KQ (Q:=(·=t)) h;rw[h1,h2]
abbrev rtD (Q:D->Prop)(o:Out):Prop:=match o with
 | .ret d=>Q d
 | .CD c=>∃t,clD c=.ok t/\Q t
 |_=>False
def abf (h:WP m (λ _=>Q .AV) (rtD Q) (λ _=>False)):∃t,fin m=.ok t/\Q t:=by
 cases m with
 |bad|ex x=>exact h.elim
 |ok o =>
  cases o with
  |next ρ|ret d=>exact⟨_,rfl,h⟩
  |CD c=>exact h
  |FJ c ρ|brk ρ|cont ρ=>exact h.elim
def abg (h:WP m (λ _=>D.AV=d) (rtD (·=d)) (λ _=>False)):fin m=.ok d:=by
 obtain⟨u,h1,h2⟩:=abf (Q:=(·=d)) h;rw[h1,h2]
end
section
variable {d:D}{ds es:List D}{o:Option Cl}{i n:Nat}{p:Option Nat}{t u:OT}{π:List Nat}{b:Bool}{ks vs:List D}{ts:List OT}{m:M D}
def rv0:rv 0 (some (.val d)::ρ)=.ok d:=rfl
def rvS:rv (i+1) (o::ρ)=rv i ρ:=rfl
abbrev UN (f:Ad->Ad)(m:M Out):M Out:=match m with
 | .ok (.next ρ)=>.ok (.next (f ρ))
 |m=>m
def iE {f}:UN f (.ok (.next ρ))=.ok (.next (f ρ)):=rfl
def iF:QB 0 (some (.own ds)::ρ)=.ok []:=rfl
def iG:QB 0 (some (.ow (.Ni n ds))::ρ)=.ok []:=rfl
def ZQ:QB 0 (some (.ow (.tree p t))::ρ)=.ok []:=by unfold QB Wm;simp[treeOf]
def abh:QB (i+1) (o::ρ)=QB i ρ:=rfl
def Yr:Wm 0 (some (.own ds)::ρ) π=LX (.lst (ds.map .sh)) π:=rfl
def Ys:Wm 0 (some (.ow (.Ni n ds))::ρ) π=LX (.lst (ds.map .sh)) π:=rfl
def OH:Wm 0 (some (.ow (.tree p t))::ρ) π=LX t π:=rfl
def pT:Wn 0 (some (.own ds)::ρ) []=.ok ds:=by unfold Wn;simp[Yr,D1]
def pU:Wn 0 (some (.ow (.Ni n ds))::ρ) []=.ok ds:=by unfold Wn;simp[Ys,D1]
def iH:Wn 0 (some (.ow (.tree p (.lst (ds.map .sh))))::ρ) []=.ok ds:=by unfold Wn;simp[OH,D1]
def ac1:Wn (i+1) (o::ρ) π=Wn i ρ π:=rfl
def ZR:ET 0 (some (.own ds)::ρ) []=.ok (ds.map .sh):=by unfold ET;simp[Yr]
def ZS:ET 0 (some (.ow (.Ni n ds))::ρ) []=.ok (ds.map .sh):=by unfold ET;simp[Ys]
def X8:ET 0 (some (.ow (.tree p (.lst ts)))::ρ) []=.ok ts:=by unfold ET;simp[OH]
def xJ:ET (i+1) (o::ρ) π=ET i ρ π:=rfl
def JZ:Hm 0 (some (.ow (.tree p (.BR b ks (vs.map .sh))))::ρ) []=.ok (b,ks,vs):=by unfold Hm;simp[OH,D1]
def xK:Hm (i+1) (o::ρ) π=Hm i ρ π:=rfl
def iI:Ib 0 (some (.own ds)::ρ) [] u=.ok (.next (some (toCl none u)::ρ)):=by unfold Ib;simp[treeOf]
def iJ:Ib 0 (some (.ow (.Ni n ds))::ρ) [] u=.ok (.next (some (toCl (some n) u)::ρ)):=by unfold Ib;simp[treeOf]
def ZT:Ib 0 (some (.ow (.tree p t))::ρ) π u=.ok (.next (some (toCl p (EO t π u))::ρ)):=by unfold Ib;simp[treeOf]
def abi:Ib (i+1) (o::ρ) π u=UN (o::·) (Ib i ρ π u):=by
 unfold Ib UN;simp only[zba,za8];split
 ·rename_i c e;split<;>simp_all
 ·simp_all
def iK:Zw 0 (some (.own ds)::ρ) (.ok d)=if ds.length<1000 then .ok (.next (some (.own (ds++[d]))::ρ)) else .bad:=rfl
def abj:Zw (i+1) (o::ρ) m=UN (o::·) (Zw i ρ m):=by
 unfold Zw;rw[zba];cases q:ρ[i]? with
 |none=>rfl
 |some oo =>
  cases oo with
  |none=>rfl
  |some c =>
   cases c with
   |own ds =>
    cases m with
    |ok d =>
     simp only[M.Aa,za8];by_cases h:ds.length<1000
     ·rw[if_pos h,if_pos h];rfl
     ·rw[if_neg h,if_neg h];rfl
    |ex x|bad=>rfl
   |val d|ow w=>rfl
def iL:ZF 0 (some (.own ds)::ρ) (.ok (.int j)) (.ok d)=if 0<=j/\j.toNat<=ds.length/\ds.length<1000 then .ok (.next (some (.own (ds.take j.toNat++d::ds.drop j.toNat))::ρ)) else .bad:=rfl
def abk:ZF (i+1) (o::ρ) m m2=UN (o::·) (ZF i ρ m m2):=by
 unfold ZF;rw[zba];cases q:ρ[i]? with
 |none=>rfl
 |some oo =>
  cases oo with
  |none=>rfl
  |some c =>
   cases c with
   |own ds =>
    cases m with
    |ok d =>
     cases m2 with
     |ok d2 =>
      simp only[M.Aa,za8];cases d with
      |int j =>
       dsimp only;by_cases h:0<=j/\j.toNat<=ds.length/\ds.length<1000
       ·rw[if_pos h,if_pos h];rfl
       ·rw[if_neg h,if_neg h];rfl
      |_=>rfl
     |ex x|bad=>rfl
    |ex x|bad=>rfl
   |val d|ow w=>rfl
def iM:X6 0 (some (.val d)::ρ)=.ok (.ret d):=rfl
def iN:X6 0 (some (.own ds)::ρ)=.ok (.CD (.own ds)):=rfl
def pV:X6 0 (some (.ow w)::ρ)=.ok (.CD (.ow w)):=rfl
def abl:X6 (i+1) (o::ρ)=X6 i ρ:=rfl
def adR:acX i ρ π=match Wm i ρ π with | some (.sh d)=>.ok d | _=>.bad:=rfl
def ac2:gQ (i+1) (o::ρ)=o::gQ i ρ:=by
 unfold gQ;simp only[zba,za8];split<;>simp_all
def ac3 {c}:gQ 0 (some c::ρ)=some (KA c)::ρ:=rfl
def iO:KA (.val d)=.val d:=rfl
def iP:KA (.own ds)=.val (.lst ds):=rfl
def iQ:KA (.ow (.Ni n ds))=.val (.lst ds):=rfl
def pW:KA (.ow (.tree p t))=.val (er t):=rfl
def SK:er (.BR b ks (vs.map .sh))=.BR b ks vs:=by rw[er,Gz]
def Eh:er (.lst (ds.map .sh))=.lst ds:=by rw[er,Gz]
def MB:er (.sh d)=d:=rfl
def muC:AZ (none::l) ρ=none::AZ l ρ:=rfl
def muN:AZ [] ρ=[]:=rfl
def ac4:AZ (some i::l) ρ=(match ρ[i]? with | some (some (.val d))=>some (.val d) | _=>none)::AZ l ρ:=rfl
def ac5 {α:Type}{x:α}{y}:(if ([]:List D).length<=1000 then x else y)=x:=if_pos (by show 0<=1000;decide)
def ac6 {α:Type}{x:α}{y}{a:D}:(if [a].length<=1000 then x else y)=x:=if_pos (by show 1<=1000;decide)
def ac7 {α:Type}{x y:α}{a b:D}:(if [a,b].length<=1000 then x else y)=x:=if_pos (by show 2<=1000;decide)
def ac8 {α:Type}{x y:α}{a b c:D}:(if [a,b,c].length<=1000 then x else y)=x:=if_pos (by show 3<=1000;decide)
def ac9 {α:Type}{x:α}{y}{a b c}:(if [a,b,c,d].length<=1000 then x else y)=x:=if_pos (by show 4<=1000;decide)
def toCl_nil:toCl none (.lst [])=.own []:=rfl
def Ct {α:Type}{gt:D->Ad->M Ad}{ft:Ad->M Bool}{fe:Ad->M D}{g:α->D}(p:α->Bool)(f:α->D):∀ {l:List α},(∀x∈l,∃ρ1,gt (g x) ρ=.ok ρ1/\ft ρ1=.ok (p x)/\(p x=true->fe ρ1=.ok (f x)))->B7 gt ft fe (l.map g) ρ=.ok ((l.filter p).map f)
 |[],_=>rfl
 |x::r,h=>by
  obtain⟨ρ1,h1,h2,h3⟩:=h x za3;have ih:=Ct (gt:=gt) (ft:=ft) (fe:=fe) (g:=g) p f (l:=r) λ y hy=>h y (za4 _ hy);rw[za6,B7,h1];dsimp only;rw[h2];dsimp only;rw[List.filter_cons];cases hp:p x with
  |true =>
   rw[if_pos rfl,h3 hp];dsimp only;rw[ih];simp
  |false=>simp[ih]
def Bf {α:Type}{g}(f:α->D){l:List α}(h:∀x∈l,∃ρ1,gt (g x) ρ=.ok ρ1/\ft ρ1=.ok true/\fe ρ1=.ok (f x)):B7 gt ft fe (l.map g) ρ=.ok (l.map f):=by
 have:=Ct (gt:=gt) (ft:=ft) (fe:=fe) (ρ:=ρ) (g:=g) (λ _=>true) f (l:=l) λ x hx=>by
  obtain⟨ρ1,h1,h2,h3⟩:=h x hx;exact⟨ρ1,h1,h2,λ _=>h3⟩
 rw[this,List.filter_eq_self.mpr (λ _ _=>rfl)]
def Ca {α:Type}{g}{l:List α}(h:(l.map g)[i]?=some d):∃x,l[i]?=some x/\d=g x:=by
 rw[zap] at h;cases q:l[i]? with
 |none=>rw[q] at h;cases h
 |some x=>rw[q] at h;cases h;exact⟨x,rfl,rfl⟩
def xM:pK (.lst (ds.map .sh))=.ok ds:=by unfold pK;simp[D1,pJ]
def ZU {α:Type}{x:α}:pJ (some x)=.ok x:=rfl
def pX:SF i ρ (.sh d)=.ok (.next (ρ.set i (some (.val d)))):=rfl
def iR:SF i ρ (.lst ts)=.ok (.next (ρ.set i (some (toCl none (.lst ts))))):=rfl
def iS:SF i ρ (.tup ts)=.ok (.next (ρ.set i (some (.ow (.tree none (.tup ts)))))):=rfl
def iT:SF i ρ (.BR b ks ts)=.ok (.next (ρ.set i (some (.ow (.tree none (.BR b ks ts)))))):=rfl
def iU:SF i ρ (.ins x ns ts)=.ok (.next (ρ.set i (some (.ow (.tree none (.ins x ns ts)))))):=rfl
def pY:ZM (.sh d)=.ok (.ret d):=rfl
def iV:ZM (.lst ts)=.ok (.CD (.ow (.tree none (.lst ts)))):=rfl
def iW:ZM (.tup ts)=.ok (.CD (.ow (.tree none (.tup ts)))):=rfl
def iX:ZM (.BR b ks ts)=.ok (.CD (.ow (.tree none (.BR b ks ts)))):=rfl
def iY:I9 (.lst ds)=.ok (!ds.isEmpty):=rfl
def xN {a:Int}{m}(h0:0<=a)(h1:a<m)(s0:1<=s)(s1:s<m):(a+s)%m≠a:=by
 by_cases h:a+s<m
 ·rw[Int.emod_eq_of_lt (by omega) h];omega
 ·have e:(a+s)%m=(a+s-m)%m:=by rw[Int.sub_emod_right]
  rw[e,Int.emod_eq_of_lt (by omega) (by omega)];omega
def pZ (i j:Int):mS k (.int i) (.int j)=.ok (.bl (decide (i=j))):=by
 rw[Sy (Dw _) (Dw _)];simp only[By,Bool.beq_eq_decide_eq]
def qA (i j:Int):sT k (.int i) (.int j)=.ok (.bl (!decide (i=j))):=by
 rw[X3 (Dw _) (Dw _)];simp only[By,Bool.beq_eq_decide_eq]
def iZ {i}:wN (.int i) (.int j)=.ok (.int (i+j)):=rfl
def jA {i}:aaU (.int i) (.int j)=.ok (.int (i-j)):=rfl
def qB {i}:dLt (.int i) (.int j)=.ok (.bl (decide (i<j))):=rfl
def qC {i}:dLe (.int i) (.int j)=.ok (.bl (decide (i<=j))):=rfl
def qD {i}:dGt (.int i) (.int j)=.ok (.bl (decide (j<i))):=rfl
def qE {i}:dGe (.int i) (.int j)=.ok (.bl (decide (j<=i))):=rfl
def qG {i}:asI (.int i)=.ok (some i):=rfl
def jB:fW [.lst ds]=.ok (.int ds.length):=rfl
def jC:fW [.tup ds]=.ok (.int ds.length):=rfl
def ite_tt {α:Type}{x:α}{y}:(if true=true then x else y)=x:=rfl
def ite_ff {α:Type}{x:α}{y}:(if false=true then x else y)=y:=rfl
def jD {lo}(h:zV lo hi x=.ok (.lst ds)):pM lo hi x=.ok (.lst (ds.map .sh)):=by
 unfold zV at h;unfold pM;cases x with
 |lst xs=>dsimp only at h ⊢;injection h with h;injection h with h;rw[h]
 |_=>cases h
def UO (xs:List D)(k:Nat):pM (some (k:Int)) none (.lst xs)=.ok (.lst ((xs.drop k).map .sh)):=jD (gE xs k)
def qH (xs:List D)(a b:Nat):pM (some (a:Int)) (some (b:Int)) (.lst xs)=.ok (.lst (((xs.drop a).take (b-a)).map .sh)):=jD (oV xs a b)
def jE:Jk (.lst ds)=.ok (.lst (ds.map .sh)):=rfl
def jF:Jk (.tup ds)=.ok (.lst (ds.map .sh)):=rfl
def ZV {ns:List Int}:abc [.lst (ns.map D.int)]=.ok (.int ns.sum):=by unfold abc;dsimp only;rw[LU]
def ZW:Kt T (.lst ds)=.ok (.bl (Fo T (.lst ds))):=rfl
def ZX:Kt T (.tup ds)=.ok (.bl (Fo T (.tup ds))):=rfl
def ZY:Kt T (.int k)=.ok (.bl (Fo T (.int k))):=rfl
def ZZ:Kt T .AV=.ok (.bl (Fo T .AV)):=rfl
def jG:Kt T (.bl k)=.ok (.bl (Fo T (.bl k))):=rfl
def bH:Kt T (.str k)=.ok (.bl (Fo T (.str k))):=rfl
def bI:Kt T (.BR b ks vs)=.ok (.bl (Fo T (.BR b ks vs))):=rfl
def abm:Fo "list" (.lst ds)=true:=rfl
def abn:Fo "tuple" (.tup ds)=true:=rfl
def abo:Fo "int" (.int k)=true:=rfl
def abp:Fo "bool" (.int k)=false:=rfl
def abq:Fo "dict" (.BR b ks vs)=true:=rfl
def bJ {ns:List Int}:Nl neg (.int k) (.lst (ns.map D.int))=.ok (.bl (if neg then !ns.contains k else ns.contains k)):=by
 unfold Nl dIn;dsimp only;rw[LU]
abbrev vO (s:Option D):Option Cl:=s.map .val
def qI:Fp (vO s::ρ)=vO s::Fp ρ:=by cases s<;>rfl
end
abbrev X9 (x:Int):List Int->List Int
 |[]=>[x]
 |y::r=>if x<=y then x::y::r else y::X9 x r
abbrev Ic:List Int->List Int
 |[]=>[]
 |x::r=>X9 x (Ic r)
def M3 (x:Int):∀l:List Int,(X9 x l).Perm (x::l)
 |[]=>.refl _
 |y::r=>by
  unfold X9;split
  ·exact .refl _
  ·exact ((M3 x r).cons y).trans (.swap x y r)
def EV:∀l:List Int,(Ic l).Perm l
 |[]=>.refl _
 |x::r=>(M3 x (Ic r)).trans ((EV r).cons x)
def MC (x:Int):∀l:List Int,l.Pairwise (·<=·)->(X9 x l).Pairwise (·<=·)
 |[],_=>by simp[X9]
 |y::r,h=>by
  unfold X9;have hy:=List.pairwise_cons.mp h;split
  ·rename_i c5;exact List.pairwise_cons.mpr ⟨λ z hz=>by
    rcases zab.mp hz with rfl|hz
    ·exact c5
    ·exact Int.le_trans c5 (hy.1 z hz),h⟩
  ·rename_i c5;exact List.pairwise_cons.mpr ⟨λ z hz=>by
    rcases zab.mp ((M3 x r).mem_iff.mp hz) with rfl|hz
    ·omega
    ·exact hy.1 z hz,MC x r hy.2⟩
def GB:∀l:List Int,(Ic l).Pairwise (·<=·)
 |[]=>.nil
 |x::r=>MC x _ (GB r)
def Ie:∀ {a b:List Int},a.Perm b->a.Pairwise (·<=·)->b.Pairwise (·<=·)->a=b
 |[],b,hp,_,_=>(List.nil_perm.mp hp).symm
 |x::r,[],hp,_,_=>by have:=hp.length_eq;simp at this
 |x::r,y::t,hp,ha,hb=>by
  have bK:=List.pairwise_cons.mp ha;have aH:=List.pairwise_cons.mp hb;have e:x=y:=by
   have h1:x∈y::t:=hp.mem_iff.mp (za3 ..);have h2:y∈x::r:=hp.mem_iff.mpr (za3 ..);rcases zab.mp h1 with e|h1
   ·exact e
   rcases zab.mp h2 with e|h2
   ·exact e.symm
   have:=bK.1 _ h2;have:=aH.1 _ h1;omega
  subst e;rw[Ie (List.Perm.cons_inv hp) bK.2 aH.2]
def KR:∀ {us:List Value}{ns:List Int},IntsAre us ns->Vals (ns.map V.int) us:=by
 intro _ _ x_;cases x_ with
 |nil=>exact .nil
 |cons n t h=>exact .cons ⟨t,rfl⟩ (KR h)
def OI {K}:∀l:List Int,Aj K H (l.map V.int) (l.map D.int)
 |[]=>.nil
 |x::r=>.cons (.int _) (OI r)
section
variable {te:TE}
abbrev ada (X:Cx)(te:TE):TE:=λ σ H Q=>te σ H λ x H1=>∃p ns,x=.ref p/\Ds X.K H1 p (List.map V.int ns)/\ns.length<64/\∀r,H1 r=none->Q (.ref r) (upd H1 r (.lst ((Ic ns).map V.int)))
def bL (hc:X.calm=true)(hg:Gl X "sorted")(hm:X.mg "sorted" = none)(he:PE X e te)(hv:bootBuiltins "sorted" = some (.builtin "sorted"):=by decide +kernel)(hs: ~~~(starEach [e] X.env=[(false,eval e X.env)])):
 PE X (.Call (.Name "sorted" p) [e] [] pos) (ada X te):=by
 intro pins s σ H Q I h;refine wpAny_Call_Name_kw (Eg I hg hm hv ?_);refine PyProof.Rows.callWith_builtin1 ?_ hs;rw[hs];refine zc5 (Bl (he pins s σ H _ I h) λ u s1 zz=>?_);obtain⟨x,H1,I1,r1,q1⟩:=zz;obtain⟨q,ns,rfl,hq,yf,h⟩:=q1;cases r1;refine zci ?_;obtain⟨aa,r',pl,hz⟩:=I1.list hq;have hi:=intsAre_of r';have nr:=r'.length;rw[za2] at nr;refine sorted_ints pl.isList hi (by omega) λ out du b1 b2 b3=>?_;obtain⟨c',bh⟩:=sortedAll_at s1.heap aa out;have e:du=Ic ns:=Ie (b2.trans (EV ns).symm) b3 (GB ns);subst e;refine⟨.ref _,_,I1.laid (t':=s1.toks) (o:=.lst ((Ic ns).map V.int)) (λ b o e=>sortedAll_old e) (Nat.le_succ _) ⟨?_,out.toList,c',KR b1,by simpa using bh⟩,rfl,h _ (I1.Aw.fresh (Nat.le_succ _))⟩;rw[za2,(EV ns).length_eq];exact zbs (AA (by omega))
abbrev qJ (d:D):M OT:=match d with
 | .lst xs=>(match DZ xs with|some ns=>if ns.length<64 then .ok (.lst (((Ic ns).map .int).map .sh)) else .bad|none=>.bad)
 |_=>.bad
def bM (h:ns.length<64):qJ (.lst (ns.map .int))=.ok (.lst (((Ic ns).map .int).map .sh)):=by
 unfold qJ;dsimp only;rw[LU];dsimp only;rw[if_pos h]
def bN (hc:X.calm=true)(hg:Gl X "sorted")(hm:X.mg "sorted" = none)(he:DE X WX true e f)(hv:bootBuiltins "sorted" = some (.builtin "sorted"):=by decide +kernel)(hs: ~~~(starEach [e] X.env=[(false,eval e X.env)])):
 DN X WX (.Call (.Name "sorted" p) [e] [] pos) (λ ρ=>(f ρ).bind qJ):=by
 obtain⟨te,e1,e2⟩:=he;refine⟨_,bL hc hg hm e1 hv hs,λ P0 P σ H Q ρ E h=>?_⟩;refine e2 P0 P σ H _ ρ E ?_;dsimp only at h;refine Yd h λ d h=>?_;intro v H1 s1 hv;unfold qJ at h;split at h
 ·rename_i xs;split at h
  ·rename_i ns eb;have:=Jd eb;subst this;split at h
   ·rename_i hl;cases hv with
    |lst hs hh =>
     have:=Gx hh;subst this;exact⟨_,ns,rfl,hs.Bh,hl,h.Jk s1 (OI _)⟩
   ·exact h.elim
  ·exact h.elim
 ·exact h.elim
abbrev qK (d k:D):M OT:=match k with
 | .int j=>if 0<=j/\j.toNat<=1000 then .ok (.lst ((zag j.toNat d).map .sh)) else .bad
 |_=>.bad
def OJ {n:Nat}(h:n<=1000):qK d (.int (n:Int))=.ok (.lst ((zag n d).map .sh)):=by
 unfold qK;dsimp only;rw[if_pos ⟨by omega,by omega⟩,zbr]
def Xa (ha:DE X WX true a f)(hb:DE X WX true b g)(aF: ~~~(starEach [a] X.env=[(false,eval a X.env)])):
 DN X WX (.BinOp (.List [a] rq) .Mult b pos) (λ ρ=>(f ρ).bind λ d=>(g ρ).bind λ k=>qK d k):=by
 obtain⟨ta,a1,a2⟩:=ha;obtain⟨tb,b1,b2⟩:=hb;refine⟨_,eJ vZ (WE (Bm a1 CJ aF)) b1,λ P0 P σ H Q ρ E h=>?_⟩;dsimp only at h;refine a2 P0 P σ H _ ρ E ?_;refine Yd h λ d h=>?_;intro v H1 s1 hv;have E1:=E.same s1;refine⟨zbs (AA (by simp)),λ p hp=>?_⟩;have s2:Ah H1 (upd H1 p (.lst [v])):=AJ hp _;have E2:=E1.same s2;refine b2 P0 P σ _ _ ρ E2 ?_;cases q2:g ρ with
 |bad=>rw[q2] at h;exact h
 |ex x=>rw[q2] at h;exact λ H' s3=>h H' ((s1.trans s2).trans s3)
 |ok k =>
  rw[q2] at h;simp only[M.Aa] at h;unfold qK at h;intro w H3 s3 hw;cases k with
  |int j =>
   dsimp only at h;by_cases hj:0<=j/\j.toNat<=1000
   ·rw[if_pos hj] at h;cases hw;refine⟨p,j,[v],rfl,rfl,s3 _ _ Am,by omega,by omega,zbs (AA (by simp;omega)),?_⟩;rw[Rk];exact h.Jk ((s1.trans s2).trans s3) (UB ((hv.mono s2.del).mono s3.del) j.toNat)
   ·rw[if_neg hj] at h;exact h.elim
  |_=>exact h.elim
end
abbrev qL (f:Str):List Str->List D->Option D
 |n::ns,d::ds=>if f==n then some d else qL f ns ds
 |_,_=>none
def UP {K:za1}{H:Hp}{f:Str}:∀ {fs:List (Str×V)}{ds:List D}{d:D},Aj K H (fs.map zbx) ds->qL f (fs.map zay) ds=some d->∃v,fs.lookup f=some v/\BS K H v d
 |[],ds,d,_,h=>by simp[qL] at h
 |(n,v)::fs,_,d,.cons hv ht,h=>by
  rw[za6,qL] at h;rw[zc8];cases q:f==n with
  |true=>rw[q,if_pos rfl] at h;cases h;exact⟨v,rfl,hv⟩
  |false=>rw[q,if_neg (by simp)] at h;exact UP ht h
def KS {K:za1}{H:Hp}{f:Str}:∀ {fs:List (Str×V)}{ds:List D},Aj K H (fs.map zbx) ds->qL f (fs.map zay) ds=none->fs.lookup f=none
 |[],ds,_,h=>rfl
 |(n,v)::fs,_,.cons hv ht,h=>by
  rw[za6,qL] at h;rw[zc8];cases q:f==n with
  |true=>rw[q,if_pos rfl] at h;cases h
  |false=>rw[q,if_neg (by simp)] at h;exact KS ht h
structure G6 (K:za1)(x f:Str):Prop where
 ex:∃C,zas K mainGlobals x=some (some (.ref C))/\U9 K C/\JP K C f
abbrev Ig (cs:List Str)(f:Str)(d:D):M D:=match d with
 | .ins x ns ds=>if x∈cs then (match qL f ns ds with|some e=>.ok e|none=>.bad) else .bad
 |_=>.bad
section
variable {fs:Ad->M (List D)}{te:TE}
def BO (cs:List Str){fl}(i8:∀x∈cs,G6 X.K x fl)(ha:DE X WX c a f)(hb: ~~~(attributeBase a fl X.env (eval a X.env)=eval a X.env)):DE X WX c (.Attribute a fl pos) (λ ρ=>(f ρ).bind (Ig cs fl)):=by
 obtain⟨ta,a1,a2⟩:=ha;refine⟨_,vL a1 hb,λ P0 P σ H Q ρ E h=>?_⟩;dsimp only at h;refine a2 P0 P σ H _ ρ E ?_;cases e:f ρ with
 |bad|ex x=>rw[e] at h;exact h
 |ok d =>
  rw[e] at h;simp only[M.Aa] at h;intro v H1 s1 hv;unfold Ig at h;split at h
  ·rename_i x ns ds;split at h
   ·rename_i hx;split at h
    ·rename_i d' el;cases hv with
     |ins hn ha hl =>
      obtain⟨C,aU,hc,c6⟩:=(i8 x hx).ex;rw[hn] at aU;cases aU;obtain⟨v',l1,l2⟩:=UP hl el;exact⟨_,_,_,_,v',rfl,(Ao ha).2,hc,c6,l1,h v' H1 s1 l2⟩
    ·exact h.elim
   ·exact h.elim
  ·exact h.elim
structure MD (K:za1)(x m qual:Str)(st:Stmt)(ps:List Str):Prop where
 ex:∃C f fd,zas K mainGlobals x=some (some (.ref C))/\U9 K C/\Meth K C m f/\dR K m qual st f fd/\Binds K fd ps []
structure GC (P:Program)(w:World)(K:za1)(mg:Str->Option Value)(base:Heap)(x m:Str)(k n:Nat)(F:List D->M OT):Prop where
 ex:∃C fa fd ps,zas K mainGlobals x=some (some (.ref C))/\U9 K C/\Meth K C m fa/\D4 P w K mg base (Sv P w base) k fa fd ps (spT K n F)/\Binds K fd ps []
def Je {P}{K}{st}(T:MD K x m qual st ps)(S:Ab N ps (A2 st))(g:Ad->M Out)(hb:∀(f:Addr) (B0:Value) (A:Around) (outer:List Env) (s:Shared) (H:Hp) (E:XK),BE k (A.deeper (envOfC qual (A2 st) s.heap.objs.size f B0))->TX (mU P w K mg base N qual (A2 st) f B0 A outer s H E) (CL K E) (AF st) g)(hn: ~~~(ps.length=n)):
 GC P w K mg base x m (k+1) n (λ ds=>UI (g (CW N ds))):=by
 obtain⟨C,f,fd,h1,h2,h3,F,hB⟩:=T.ex;subst hn;exact⟨⟨C,f,fd,ps,h1,h2,h3,aa8 F S g (hb f),hB⟩⟩
abbrev lkF (x:Str):List (Str×(List D->M OT))->Option (List D->M OT)
 |[]=>none
 |(y,F)::r=>if x=y then some F else lkF x r
def Yt:∀ {ms:List (Str×(List D->M OT))},lkF x ms=some F->(x,F)∈ms
 |[],h=>by cases h
 |(y,G)::r,h=>by
  unfold lkF at h;split at h
  ·rename_i e;cases h;subst e;exact za3
  ·exact za4 _ (Yt h)
abbrev E6 (ms:List (Str×(List D->M OT)))(m:Str)(d:D):M (List D->M OT):=match d with
 | .ins x ns es=>(match lkF x ms with
  |some F=>(match qL m ns es with|none=>.ok F|some _=>.bad)
  |none=>.bad)
 |_=>.bad
def OK (h:E6 ms m d=.ok F):∃x ns es,d=.ins x ns es/\(x,F)∈ms/\qL m ns es=none:=by
 unfold E6 at h;split at h
 ·rename_i x ns es;split at h
  ·rename_i G e;split at h
   ·rename_i e2;cases h;exact⟨x,ns,es,rfl,Yt e,e2⟩
   ·cases h
  ·cases h
 ·cases h
def M4:E6 ms m d≠.ex x:=λ h=>by
 unfold E6 at h;split at h
 ·split at h
  ·split at h<;>cases h
  ·cases h
 ·cases h
abbrev jH (X:Cx)(m:Str)(k:Nat)(E:XK)(ta:TE)(t:TA):TE:=λ σ H Q=>ta σ H λ x H1=>∃a C dx fs f fd ps n F,x=.ref a/\H1 a=some (.ins C dx fs)/\fs.lookup m=none/\U9 X.K C/\Meth X.K C m f/\D4 X.prog X.w X.K X.mg X.base (Sv X.prog X.w X.base) k f fd ps (spT X.K n F)/\Binds X.K fd ps []/\
 t σ H1 λ vs H2=>spT X.K n F (x::vs) H2 Q E
def jI (he:PE X o ta)(hr:BE k X.A)(hx:Gp (Sv X.prog X.w X.base) X E)(ha:PA X (e::es) t)(aF: ~~~(starEach (e::es) X.env=(false,eval e X.env)::starEach es X.env))(hpl: ~~~((backTo pos (starEach es X.env)).any (·.1)=false))(ht: ~~~(eval (.Call (.Attribute o m apos) (e::es) [] pos) X.env=(do
  let ov <-eval o X.env
  standAt apos.atName
  let (f,first) <-holding [ov] (getMethod ov m pl)
  callWith pos f first (backTo pos (starEach (e::es) X.env)) (backToKw pos (keywordEach [] X.env))))):
 PE X (.Call (.Attribute o m apos) (e::es) [] pos) (jH X m k E ta t):=by
 intro pins s σ H Q I h;refine PySem.W.methodCall_KW (pl:=pl) (Bl (he pins s σ H _ I h) λ u s1 zz=>?_) ht;obtain⟨x,H1,I1,rx,a,C,dx,fs,f,fd,ps,n,F,ex,ea,l,c,hm,hF,hb,q⟩:=zz;subst ex;obtain rfl:u=zbl a:=rx;refine JQ I1 ea c hm l ?_;refine PySem.W.callWith_K (first:=[.ref a]) (h₀:=X.base) I.ok.mod.Wl hm.kp (Bl (ha pos pins s1 σ H1 _ I1 q) λ us s2 ⟨vs,H2,I2,r,q2⟩=>⟨I2.NL,?_⟩) aF hpl;exact O7 (us:=.ref a::us) (vs:=.ref a::vs) hF hr hb .nil hx I2 (.cons rfl r) (by rw[zb1];exact q2)
def bO (he:PE X o ta)(hr:BE k X.A)(hx:Gp (Sv X.prog X.w X.base) X E)(ht: ~~~(eval (.Call (.Attribute o m apos) [] [] pos) X.env=(do
  let ov <-eval o X.env
  standAt apos.atName
  let (f,first) <-holding [ov] (getMethod ov m pl)
  callWith pos f first (backTo pos (starEach [] X.env)) (backToKw pos (keywordEach [] X.env))))):
 PE X (.Call (.Attribute o m apos) [] [] pos) (jH X m k E ta vN):=by
 intro pins s σ H Q I h;refine PySem.W.methodCall_KW (pl:=pl) (Bl (he pins s σ H _ I h) λ u s1 zz=>?_) ht;obtain⟨x,H1,I1,rx,a,C,dx,fs,f,fd,ps,n,F,ex,ea,l,c,hm,hF,hb,q⟩:=zz;subst ex;obtain rfl:u=zbl a:=rx;refine JQ I1 ea c hm l ?_;exact PySem.W.callWith_K0 (first:=[.ref a]) I1.NL hm.kp (O7 (us:=[.ref a]) (vs:=[.ref a]) hF hr hb .nil hx I1 (.cons rfl .nil) q)
def Yu {P}{K}{f}(h:k<=k')(F:D4 P w K mg base CX k f fd ps sp):D4 P w K mg base CX k' f fd ps sp:=
 ⟨F.len,λ A stack s H args us vs Q E hr=>F.run A stack s H args us vs Q E (hr.mono h)⟩
def Jf (ms:List (Str×(List D->M OT)))(xo:Hl X E)(i9:∀p∈ms,∃k',k'<=k/\GC X.prog X.w X.K X.mg X.base p.1 m k' n p.2)(hr:BE k X.A)(ho:DE X (CL X.K E) true o fo)(ha:DA X (CL X.K E) true (e::es) fs)(aE:(e::es).length+1=n)(aF: ~~~(starEach (e::es) X.env=(false,eval e X.env)::starEach es X.env))(hpl: ~~~((backTo pos (starEach es X.env)).any (·.1)=false))(ht: ~~~(eval (.Call (.Attribute o m apos) (e::es) [] pos) X.env=(do
  let ov <-eval o X.env
  standAt apos.atName
  let (f,first) <-holding [ov] (getMethod ov m pl)
  callWith pos f first (backTo pos (starEach (e::es) X.env)) (backToKw pos (keywordEach [] X.env))))):
 DN X (CL X.K E) (.Call (.Attribute o m apos) (e::es) [] pos) (λ ρ=>(fo ρ).bind λ d=>(E6 ms m d).bind λ F=>(fs ρ).bind λ ds=>F (d::ds)):=by
 obtain⟨ta,a1,a2⟩:=ho;obtain⟨tb,b1,b2,b3⟩:=ha;refine⟨_,jI (pl:=pl) a1 hr xo.call b1 aF hpl ht,λ P0 P σ H Q ρ Ev h=>?_⟩;dsimp only at h;refine a2 P0 P σ H _ ρ Ev ?_;refine Yd h λ d h=>?_;intro v H1 s1 hv;cases q2:E6 ms m d with
 |bad=>rw[q2] at h;exact h.elim
 |ex y=>exact (M4 q2).elim
 |ok F =>
  rw[q2] at h;simp only[M.Aa] at h;obtain⟨x,ns,vw,rfl,bn,ke⟩:=OK q2;obtain⟨k',gp,M0⟩:=i9 _ bn;obtain⟨C,fa,fd,ps,h1,h2,h3,h4,h5⟩:=M0.ex;cases hv with
  |ins hn hH hl =>
   rw[hn] at h1;cases h1;refine⟨_,_,_,_,fa,fd,ps,n,F,rfl,(Ao hH).2,KS hl ke,h2,h3,Yu gp h4,h5,?_⟩;refine b2 P0 P σ H1 _ ρ (Ev.same s1) ?_;cases q3:fs ρ with
   |bad=>rw[q3] at h;exact h
   |ex y=>rw[q3] at h;exact λ H' s=>h H' (s1.trans s)
   |ok ds =>
    rw[q3] at h;simp only[M.Aa] at h;intro vs H2 s2 a6;have c7:=(BS.ins hn hH hl).mono s2.del;exact⟨by rw[zaa,a6.length,b3 ρ ds q3];exact aE,P,_,((Ev.same s1).same s2).BQ,.cons c7 a6,h.same (s1.trans s2)⟩
def Dc (ms:List (Str×(List D->M OT)))(xo:Hl X E)(i9:∀p∈ms,∃k',k'<=k/\GC X.prog X.w X.K X.mg X.base p.1 m k' 1 p.2)(hr:BE k X.A)(ho:DE X (CL X.K E) true o fo)(ht: ~~~(eval (.Call (.Attribute o m apos) [] [] pos) X.env=(do
  let ov <-eval o X.env
  standAt apos.atName
  let (f,first) <-holding [ov] (getMethod ov m pl)
  callWith pos f first (backTo pos (starEach [] X.env)) (backToKw pos (keywordEach [] X.env))))):
 DN X (CL X.K E) (.Call (.Attribute o m apos) [] [] pos) (λ ρ=>(fo ρ).bind λ d=>(E6 ms m d).bind λ F=>F [d]):=by
 obtain⟨ta,a1,a2⟩:=ho;refine⟨_,bO (pl:=pl) a1 hr xo.call ht,λ P0 P σ H Q ρ Ev h=>?_⟩;dsimp only at h;refine a2 P0 P σ H _ ρ Ev ?_;refine Yd h λ d h=>?_;intro v H1 s1 hv;cases q2:E6 ms m d with
 |bad=>rw[q2] at h;exact h.elim
 |ex y=>exact (M4 q2).elim
 |ok F =>
  rw[q2] at h;simp only[M.Aa] at h;obtain⟨x,ns,vw,rfl,bn,ke⟩:=OK q2;obtain⟨k',gp,M0⟩:=i9 _ bn;obtain⟨C,fa,fd,ps,h1,h2,h3,h4,h5⟩:=M0.ex;cases hv with
  |ins hn hH hl =>
   rw[hn] at h1;cases h1;refine⟨_,_,_,_,fa,fd,ps,1,F,rfl,(Ao hH).2,KS hl ke,h2,h3,Yu gp h4,h5,?_⟩;exact⟨rfl,P,_,(Ev.same s1).BQ,.cons (BS.ins hn hH hl) .nil,h.same s1⟩
end
section
variable {fs:Ad->M (List D)}{te:TE}
structure xO (K:za1)(mg:Str->Option Value)(x:Str)(C:Addr):Prop where
 ns:zas K mainGlobals x=some (some (.ref C))
 mg':mg x=some (.ref C)
def bP (hp:H p=none)(hd:H dx=none):Ah H (upd (upd H dx (.own p)) p (.ins C dx [])):=λ b u q=>by
 rw[Ag (AQ q hp),Ag (AQ q hd)];exact q
structure abr (P:Program)(w:World)(K:za1)(mg:Str->Option Value)(base:Heap)(x:Str)(k n:Nat)(F:OT->List D->M (OT×OT)):Prop where
 ex:∃C fa fd ps,xO K mg x C/\Mk K C fa/\D4 P w K mg base (Sv P w base) k fa fd ps (Rq K n F)/\Binds K fd ps []
abbrev UQ (m:M (OT×OT)):M OT:=match m with
 | .ok (t,.sh .AV)=>.ok t
 |_=>.bad
def SM (xo:Hl X E)(G:abr X.prog X.w X.K X.mg X.base x k n F)(hr:BE (k+1) X.A)(hg:Gl X x)(ha:DA X (CL X.K E) true (e::es) fs)(aE:(e::es).length+1=n)(be:(x==("__debug__" : Str))=false:=by decide)(he: ~~~(starEach (e::es) X.env=(false,eval e X.env)::starEach es X.env))(hpl: ~~~((backTo pos (starEach es X.env)).any (·.1)=false)):
 DN X (CL X.K E) (.Call (.Name x p) (e::es) [] pos) (λ ρ=>(fs ρ).bind λ ds=>UQ (F (.ins x [] []) ds)):=by
 obtain⟨C,fa,fd,ps,hT,hM,hF,hb⟩:=G.ex;obtain⟨ta,a1,a2,a3⟩:=ha;refine⟨_,nQ hM hF hr hg hT.mg' hb .nil xo.call a1 be he hpl,λ P0 P σ H Q ρ Ev h=>?_⟩;dsimp only at h;refine a2 P0 P σ H _ ρ Ev ?_;cases q:fs ρ with
 |bad|ex x=>rw[q] at h;exact h
 |ok ds =>
  rw[q] at h;simp only[M.Aa] at h;intro vs H1 s1 a6 y dx hy hd ae;rw[zb1];have E1:=Ev.same s1;have sm:=bP (C:=C) hy hd;have cx:∀a∈[y],H1 a=none:=λ a ha=>by rw[za9.mp ha];exact hy
  refine⟨by rw[zaa,a6.length,a3 ρ ds q];exact aE,PU P [y],y,.ins x [] [],[y],vs,ds,rfl,λ a ha=>?_,λ a ha=>.inr ha,by simp,C3.ins (fs:=[]) hT.ns Am .nil,a6.mono (Bs sm cx),?_⟩
  ·rcases ha with ha|ha
   ·exact (E1.BQ a ha).same sm
   ·rw[za9.mp ha];exact⟨_,Am,λ xs=>⟨(λ z=>by cases z),(λ z w=>by cases w)⟩⟩
  ·cases q2:F (.ins x [] []) ds with
   |bad|ex z=>rw[q2] at h;exact h
   |ok tr =>
    obtain⟨t,r⟩:=tr;rw[q2] at h;simp only[UQ] at h;intro v H' P' ah fr k1 k2 k3 k4 k5 k6 k7 k8 k9 vo;cases r with
    |sh d =>
     cases d with
     |AV =>
      cases k6 with
      |sh hv =>
       cases hv;refine⟨rfl,h _ ah H' ?_ ?_ k5 ?_⟩
       ·intro b u eb;have e1:=s1 b u eb;have ja:b≠y:=λ z=>by rw[z,hy] at e1;cases e1
        have e2:=sm b u e1;by_cases hP:P b
        ·exact (k1 b (.inl hP) (by simp[ja])).2.trans e2
        ·exact (Ao (k3 b u (by rw[Az λ z=>z.elim hP λ w=>ja (za9.mp w)];exact e2))).2
       ·intro b vx;cases eb:H b with
        |none=>rfl
        |some u =>
         exfalso;have e1:=s1 b u eb;have ja:b≠y:=λ z=>by rw[z,hy] at e1;cases e1
         have e2:=sm b u e1;have hn:=λ z=>ja (za9.mp ((k9 b vx).2 z));exact (Ao (k3 b u (by rw[Az hn];exact e2))).1 (k9 b vx).1
       ·refine k4.move (λ b u eb=>?_) λ _ _=>rfl;obtain⟨g1,g2⟩:=Ao eb;rw[Az]
        ·exact g2
        ·rintro (z|z)
         ·have ja:b≠y:=λ w=>by
           obtain⟨o,e1,_⟩:=E1.BQ b z;rw[w,hy] at e1;cases e1
          exact g1 (k1 b (.inl z) (by simp[ja])).1
         ·exact g1 (k9 b z).1
     |_=>exact h.elim
    |_=>exact h.elim
end
abbrev Rt (i:Nat)(ρ:Ad)(π:List Nat):M (Str×List Str×List D):=match Wm i ρ π with
 |some (.ins x ns ts)=>(match Et ts with|some vs=>.ok (x,ns,vs)|none=>.bad)
 |_=>.bad
def jJ (h:Rt i ρ π=.ex x):False:=by
 unfold Rt at h;split at h
 ·split at h<;>cases h
 ·cases h
abbrev jK (f:Str):List Str->List Str
 |[]=>[f]
 |g::r=>if g=f then g::r else g::jK f r
abbrev jL (f:Str)(d:D):List Str->List D->List D
 |[],_=>[d]
 |g::r,e::t=>if g=f then d::t else e::jL f d r t
 |_::_,[]=>[]
def UR (f:Str)(v:V):∀fs:List (Str×V),(EI f v fs).map zay=jK f (fs.map zay)
 |[]=>rfl
 |(g,x)::r=>by
  rw[za6,jK,EI];split
  ·rfl
  ·rw[za6,UR f v r]
def US {K}{f}(hv:BS K H v d):∀ {fs:List (Str×V)}{ds:List D},Aj K H (fs.map zbx) ds->Aj K H ((EI f v fs).map zbx) (jL f d (fs.map zay) ds)
 |[],_,.nil=>.cons hv .nil
 |(g,x)::r,_,.cons hx ht=>by
  rw[za6,jL,EI];split
  ·exact .cons hv ht
  ·exact .cons hx (US hv ht)
section
variable {fp:Ad->M (List Nat)}{i:Nat}{fs:Ad->M (List D)}
def Bt.ins {K}(pl:Bt K P H σ ρ i π v t1)(E:An K P0 P H σ ρ)(h:Rt i ρ π=.ok (x,ns,vs)):
 t1=.ins x ns (vs.map .sh)/\∃l C dx fs,v=.ref l/\Aj K (del H P) (fs.map zbx) vs/\C3 K H P (.ref l) (.ins x ns (vs.map .sh)) [l]/\zas K mainGlobals x=some (some (.ref C))/\H l=some (.ins C dx fs)/\ns=fs.map zay:=by
 unfold Rt at h;rw[pl.at] at h;split at h
 ·rename_i x' du rh e;split at h
  ·rename_i aB e';cases e;cases h;have z:=CM e';subst z;obtain⟨a5,o1,hp,nd⟩:=pl.own E;generalize ht:OT.ins x ns (vs.map .sh)=t at o1;cases o1 with
   |ins hn hh hr =>
    injection ht with h1 h2 h3
    subst h1 h2 h3;obtain⟨rfl,hs⟩:=hr.sZ;exact⟨rfl,_,_,_,_,rfl,hs,.ins hn hh hr,hn,hh,rfl⟩
   |_=>cases ht
  ·cases h
 ·cases h
def GD (cs:List Str){fl}(i8:∀x∈cs,G6 X.K x fl)(ha:DP X WX a i fp)(hv:DE X WX true e f)(hs: ~~~(swapsWith e (some (.Attribute a fl pos')) pos.line X.env=pure false)):
 DS X WX (.Assign [.Attribute a fl pos'] e pos) (λ ρ=>(f ρ).bind λ v=>(fp ρ).bind λ π=>(Rt i ρ π).bind λ z=>if z.1∈cs/\z.2.1.length<1000 then Ib i ρ π (.ins z.1 (jK fl z.2.1) ((jL fl v z.2.1 z.2.2).map .sh)) else .bad):=by
 obtain⟨ta,a1,a2⟩:=ha;obtain⟨tv,v1,v2⟩:=hv;refine⟨_,vM a1 v1 hs,λ P0 P σ H Z ρ E h=>?_⟩;dsimp only at h;refine v2 P0 P σ H _ ρ E ?_;refine mT h E λ d h=>?_;intro w H0 s0 hw;have E0:=E.same s0;refine a2 P0 P σ H0 _ ρ E0 ?_;cases q:fp ρ with
 |bad=>rw[q] at h;exact h
 |ex x=>rw[q] at h;exact λ H' s=>h H' P ((E.tr s0).trans (E0.tr s))
 |ok π =>
  rw[q] at h;simp only[M.Aa] at h;intro v t1 H1 s1 pl;have E1:=E0.same s1;have yg:=(E.tr s0).trans (E0.tr s1);cases q3:Rt i ρ π with
  |bad=>rw[q3] at h;exact h.elim
  |ex x=>exact (jJ q3).elim
  |ok z =>
   obtain⟨x,ns,vs⟩:=z;rw[q3] at h;simp only[M.Aa] at h;by_cases hc:x∈cs/\ns.length<1000
   ·rw[if_pos hc] at h;obtain⟨rfl,l,C,dx,fs,rfl,dh,ot,hn,hH,rfl⟩:=pl.ins E1 q3;obtain⟨C',aU,jv,c6⟩:=(i8 x hc.1).ex;rw[hn] at aU;cases aU;have yh:=hw.mono s1.del;obtain⟨c,p,t0,g1,g2,E3,t3⟩:=E1.xH (o':=.ins C dx (EI fl w fs)) (u:=.ins x (jK fl (fs.map zay)) ((jL fl d (fs.map zay) vs).map .sh)) pl ot (λ _=>⟨λ z=>(by cases z),λ _ z=>by cases z⟩) (λ mv=>by
     have:=C3.ins (K:=X.K) (H:=upd H1 l (.ins C dx (EI fl w fs))) (P:=P) (p:=l) (fs:=EI fl w fs) (x:=x) hn Am (((US yh dh).mono mv).ows);rw[UR] at this;exact this)
    rw[KN g1 g2] at h;exact⟨l,C,dx,fs,rfl,hH,jv,c6,by have:=hc.2;rw[za2] at this;exact this,h _ _ _ (yg.trans t3) E3⟩
   ·rw[if_neg hc] at h;exact h.elim
end
section
variable {fp:Ad->M (List Nat)}{i:Nat}{fs:Ad->M (List D)}
abbrev jM (i:Nat)(ρ:Ad)(π:List Nat)(ds:List D):M (Ad×OT):=match ds[ds.length-1]? with
 |some d=>(match ρ[i]? with
  |some (some c)=>(match treeOf c with|some (p,t)=>.ok (ρ.set i (some (toCl p (EO t π (.lst (ds.dropLast.map .sh))))),.sh d)|none=>.bad)
  |_=>.bad)
 |none=>.bad
def Yv {c}(h:ρ[i]?=some (some c))(ht:treeOf c=some (p,t))(hd:ds[ds.length-1]?=some d):jM i ρ π ds=.ok (ρ.set i (some (toCl p (EO t π (.lst (ds.dropLast.map .sh))))),.sh d):=by
 unfold jM;simp only[h,ht,hd]
def QD {K}(h:Aj K H vs ds):Aj K H vs.dropLast ds.dropLast:=by
 rw[List.dropLast_eq_take,List.dropLast_eq_take,h.length];exact LW _ h
def xP (ha:DP X WX a i fp){ad}(al: ~~~(attributeBase a "pop" X.env (eval a X.env)=eval a X.env))(am: ~~~((apos.endLine==ad.line)=true)):
 DX X WX (.Call (.Attribute a "pop" apos) [] [] ad) (λ ρ=>(fp ρ).bind λ π=>(Wn i ρ π).bind λ ds=>jM i ρ π ds):=by
 obtain⟨ta,a1,a2⟩:=ha;refine⟨_,vX zcu PySem.F.slot_list_pop PySem.F.type_list_pop vY a1 al am,λ P0 P σ H Q ρ E h=>?_⟩;dsimp only at h;refine a2 P0 P σ H _ ρ E ?_;cases q:fp ρ with
 |bad=>rw[q] at h;exact h
 |ex x=>rw[q] at h;exact λ H' s=>h H' P (E.tr s)
 |ok π =>
  rw[q] at h;simp only[M.Aa] at h;intro v t1 H1 s1 pl;have E1:=E.same s1;cases q1:Wn i ρ π with
  |bad=>rw[q1] at h;exact h.elim
  |ex x=>exact (gZ q1).elim
  |ok ds =>
   rw[q1] at h;simp only[M.Aa] at h;obtain⟨rfl,l,xs,rfl,hl,ol⟩:=pl.shl E1 q1;refine⟨.inl ⟨rfl,xs,.of hl⟩,?_⟩;cases hd:ds[ds.length-1]? with
   |none=>unfold jM at h;rw[hd] at h;exact h.elim
   |some d =>
    obtain⟨y,hy,nu⟩:=ol.get hd;obtain⟨c,p,t0,g1,g2,E3,t3⟩:=E1.xE pl hl ol.ows (us:=ds.dropLast.map .sh) (ys:=xs.dropLast) (QD ol).ows (by simp) (by simp) (by simp);rw[Yv g1 g2 hd] at h;refine⟨l,xs,y,rfl,rfl,hl,by rw[ol.length];exact hy,?_⟩;have sd:Ah (del H1 P) (del (upd H1 l (.lst xs.dropLast)) P):=t3.1;exact h y [] _ _ ((E.tr s1).trans t3) E3 (.sh (nu.mono sd)) (by simp) (by simp)
end
def AX {K}{f}:∀y∈([]:List Str),G6 K y f:=λ y h=>by cases h
def AB {K}{f}(h:G6 K x f)(t:∀y∈xs,G6 K y f):∀y∈x::xs,G6 K y f:=λ y hy=>by
 rcases zab.mp hy with rfl|hy
 ·exact h
 ·exact t y hy
def C7 {P}{K}:∀p∈([]:List (Str×(List D->M OT))),∃k',k'<=k/\GC P w K mg base p.1 m k' n p.2:=λ p h=>by cases h
def BA {P}{K}(hk:k'<=k)(h:GC P w K mg base x m k' n F)(t:∀p∈ms,∃k',k'<=k/\GC P w K mg base p.1 m k' n p.2):
 ∀p∈(x,F)::ms,∃k',k'<=k/\GC P w K mg base p.1 m k' n p.2:=λ p hp=>by
 rcases zab.mp hp with rfl|hp
 ·exact⟨k',hk,h⟩
 ·exact t p hp
end L2
set_option maxRecDepth 1000000
set_option autoImplicit true
set_option relaxedAutoImplicit true
set_option maxHeartbeats 0
namespace L2
open PySem
def Ru:entryFor table "dict.update.loop" = some Builtin.«dict.update.loop»:=by unfold entryFor;rfl
open PySem PySem.Spec PySem.Calls PyProof.Rows PySem.W PySem.Builtin PySem.Builtin.ObjectAttr
variable {prog:Program}{E:Value->Shared->Prop}{X:Cx}{WX:Str->Hp->Prop}{P0:Ef}{σ:St}{ρ:Ad}{e tg iter:Expr}{fn:Ad->M OT}{pos:Pos}{mg:Str->Option Value}{base:Heap}{rk:Int->Nat}{L:List Int}{ft:Ad->M Bool}{gt:D->Ad->M Ad}{fi:Ad->M (List D)}{es:List Expr}
section
variable {w:World}{A:Around}{s:Shared}
def call_meets {id}{rest}{Sp}(SL:Slot T nm id)(hB:entryFor table id=some B)(ht:s.TypeIs self T)(ha:argsOk id ⟨self::rest,[]⟩)(m:Meets (B ⟨self::rest,[]⟩) Sp)(h:Sp A (λ r s'=>match r with | .ok (.ret v)=>Q v s' | .ok _=>False | .error e=>E e s') s):wpAny (model prog w) A (call (.builtin id) (self::rest)) Q E s:=
 wpAny_call (codeAny_call_builtin SL.plain hB (SL.check _ _ _ _ _ _ _ _ ht ha (m prog w A _ s h)))
def UT (hh:A.handled=none)(hl:s.heap.get? l=some {cls:=.type "list",data:=.seq xs k,slots:=sl})(h:∀h' tk,(∀b o,s.heap.get? b=some o->h'.get? b=some o)->Q none {s with heap:=h',toks:=tk}):wpAny (model prog w) A (getAttr? (.ref l) "keys") Q E s:=by
 have miss:typeLookup (.type "list") "keys" = pure none:=am_miss_of_fast (by decide +kernel);have T0:∀hp:Heap,hp.get? l=some {cls:=.type "list",data:=.seq xs k,slots:=sl}->Looks (model prog w) hp (typeOf (.ref l)) (.type "list"):=λ hp e=>(Looks.ld e).andThen .now;have SL:=PySem.F.slot_list_getattribute;have aA:(onTheHeap (Value.type "list")&&Value.builtin "list.__getattribute__" == Value.builtin "object.__getattribute__")=false:=rfl;have r6:(false&&onTheHeap (Value.builtin "list.__getattribute__"))=false:=rfl;unfold getAttr? getAttrBy?;refine wpAny_bind (wpAny_mkText (wpAny_bind (wpAny_attempt ?_)));unfold getAttrBy;refine wpAny_holding (wpAny_bind ((T0 _ hl).at (wpAny_bind ?_)));rw[SL.lookup];refine wpAny_pure ?_;dsimp only;rw[aA,if_neg zaw];unfold getAttrByItsOwn hookBefore;rw[if_neg (show ¬ onTheHeap (Value.type "list")=true from zaw)];refine wpAny_bind (wpAny_pure (wpAny_bind (wpAny_attempt (wpAny_holding ?_))));unfold callGetattribute;rw[r6,if_neg zaw];unfold boundAndCalled;rw[SL.bind];refine wpAny_bind (wpAny_pure ?_);dsimp only;refine call_meets SL am_entry_list_getattribute ⟨_,hl,rfl⟩ (PySem.F.args_list_getattribute_2 _ _) (meets_getattribute_miss_list l xs k sl "keys" s.toks miss rfl (by decide)) ⟨hl,hh,λ h' tk e ne=>?_⟩;dsimp only;obtain⟨kp,nw,t,u,he⟩:=ne;have T1:Looks (model prog w) h' (typeOf (.ref e)) (.type "AttributeError"):=(Looks.ld he).andThen .now;unfold getattributeRaised isInstance;refine wpAny_bind (wpAny_bind (T1.at ?_));rw[sub_AttributeError];refine wpAny_pure ?_;rw[if_pos rfl];unfold hookBehind;rw[if_neg (show ¬ onTheHeap (Value.type "list")=true from zaw),am_list_getattr_none];refine wpAny_bind (wpAny_pure ?_);unfold hookOrError attributeErrorLeaves;dsimp only;rw[if_pos (show (!false)=true from rfl)];refine wpAny_bind (wpAny_throw ?_);refine wpAny_bind (wpAny_bind (T1.at ?_));rw[sub_AttributeError];refine wpAny_pure ?_;rw[if_pos rfl];exact wpAny_pure (h h' tk kp)
def bQ (ht:IsTup s.heap t aa)(h:Q aa.toList s):wpAny (model prog w) A (Dict.pairItems (.ref t)) Q E s:=by
 obtain⟨o,h1,h2,n,h3⟩:=ht;have T0:Looks (model prog w) s.heap (typeOf (.ref t)) (.type "tuple"):=h2▸(Looks.ld h1).andThen .now;unfold Dict.pairItems;refine wpAny_bind (T0.at ?_);have hx:(Value.type "tuple" == Value.type "list" || Value.type "tuple" == Value.type "tuple")=true:=by decide
 rw[if_pos hx];exact wpAny_bind (wpAny_seqItems h1 h3 (wpAny_pure h))
def Jg:plainId "dict.update.loop" = true:=by decide +kernel
def Xb {K:Type}[DecidableEq K]{knd:KeyKind prog w K}{h h':Heap}{d I l:Addr}{i:Nat}{xs:List (List K×Addr×Value)}(hd:h.DictOfH (tupleKind knd) d xs)(hit:h.IsListIter I l i)(sb:∀b o,b≠I->h.get? b=some o->h'.get? b=some o):
 h'.DictOfH (tupleKind knd) d xs:=by
 obtain⟨o,es,ep,h1,h2,h3,h4,h5,h6⟩:=hd;obtain⟨oi,i1,i2,i3⟩:=hit;refine⟨o,es,ep,sb d o (λ z=>?_) h1,h2,h3,h4,λ x hx=>?_,h6⟩
 ·subst z;rw[i1] at h1;cases h1;rw[i3] at h3;cases h3
 ·obtain⟨ok,aa,n,k1,k2,k3,k4⟩:=h5 x hx;refine⟨ok,aa,n,sb _ _ (λ z=>?_) k1,k2,k3,k4⟩;rw[z,i1] at k1;cases k1;rw[i3] at k3;cases k3
structure DKd (prog:Program)(w:World)(A:Around){κ ξ:Type}(DD:Heap->Addr->List ξ->Prop)(Is:Heap->κ->Value->Prop)(put:List ξ->κ->Value->Value->List ξ):Prop where
 it:∀ {h h':Heap} {d I l:Addr} {i:Nat} {xs:List ξ},DD h d xs->h.IsListIter I l i->(∀b o,b≠I->h.get? b=some o->h'.get? b=some o)->DD h' d xs
 is:∀ {h h':Heap} {k:κ} {v:Value},Is h k v->(∀b o,h.get? b=some o->o.cls=.type "tuple" -> h'.get? b=some o)->Is h' k v
 set:∀ {s:Shared} {d:Addr} {k:κ} {v x:Value} {xs:List ξ} {Q:Unit->Shared->Prop} {E:Value->Shared->Prop},Is s.heap k v->DD s.heap d xs->xs.length+1<=sizeLine->(∀h3 tk,DD h3 d (put xs k v x)->zd8 d s.heap h3->Q () {s with heap:=h3,toks:=tk})->wpAny (model prog w) A.in1 (dictSet d v x) Q E s
 len:∀xs k v x,(put xs k v x).length<=xs.length+1
 nil:∀ {h:Heap} {d:Addr},h.get? d=some {cls:=.type "dict",data:=.dict #[]}->DD h d []
section
variable {κ ξ:Type}{DD:Heap->Addr->List ξ->Prop}{Is:Heap->κ->Value->Prop}{put:List ξ->κ->Value->Value->List ξ}
def bR (G:DKd prog w A DD Is put){R:Result->Shared->Prop}{d I l:Addr}{items:Array Value}{h0:Heap}(ps:List (κ×Value×Value))(hh:A.handled=none)(nj:l≠I)(yi:d≠I)(kg:l≠d)
 (nv:ps.length=items.size) (hsz:items.size+1<=sizeLine) (hl:h0.IsList l items)
 (hp:∀(j:Nat) p,ps[j]?=some p->Is h0 p.1 p.2.1/\∃t,items[j]?=some (.ref t)/\IsTup h0 t #[p.2.1,p.2.2]):
 ∀(m i:Nat) (xs:List ξ) (s:Shared),items.size-i=m->i<=items.size->xs.length<=i->s.heap.IsListIter I l i->DD s.heap d xs->(∀b o,b≠d->b≠I->h0.get? b=some o->s.heap.get? b=some o)->(∀b o,h0.get? b=some o->b≠d/\b≠I)->
  (∀h' tk,DD h' d ((ps.drop i).foldl (λ acc p=>put acc p.1 p.2.1 p.2.2) xs)->(∀b o,b≠d->b≠I->h0.get? b=some o->h'.get? b=some o)->R (.ok (.ret .none)) {s with heap:=h',toks:=tk})->
  codeAny (model prog w) A (.builtin "dict.update.loop" ⟨[.ref d,.ref I,rawInt i,.none],[]⟩) R s:=by
 intro m;induction m with
 |zero =>
  intro i xs s hm hi yj hit hd hf ho h;have bF:i=items.size:=by omega
  refine codeAny_builtin Ru ?_;rw[Around.under_plainId Jg _];show wpAny _ A.in1 (pyNext (.ref I) >>= _) _ _ s;refine wpAny_bind (wpAny_pyNext_list_end (A:=A.in1) hh hit (hl.at λ o e=>hf l o kg nj e) (by simp[bF]) λ h' eb=>?_);have hd2:=G.it hd hit λ b o hb e=>eb b o hb e;show wpAny _ A.in1 (Dict.addKeywords d [] >>= _) _ _ _;unfold Dict.addKeywords;refine wpAny_bind (wpAny_bind ?_);refine wpAny_pure (wpAny_pure (wpAny_pure ?_));have ed:ps.drop i=[]:=by rw[List.drop_eq_nil_iff];omega
  rw[ed] at h;exact h h' s.toks hd2 λ b o h1 h2 e=>eb b o h2 (hf b o h1 h2 e)
 |succ m ih =>
  intro i xs s hm hi yj hit hd hf ho h;have ag:i<items.size:=by omega
  obtain⟨p,kh⟩:∃p,ps[i]?=some p:=⟨ps[i]'(by omega),za7 _⟩;obtain⟨p3,t,ht,t3⟩:=hp i p kh;refine codeAny_builtin Ru ?_;rw[Around.under_plainId Jg _];show wpAny _ A.in1 (pyNext (.ref I) >>= _) _ _ s;refine wpAny_bind (wpAny_pyNext_list_item (A:=A.in1) hit (hl.at λ o e=>hf l o kg nj e) ht λ h' cu sb=>?_);have hd2:=G.it hd hit λ b o hb e=>(sb.2 b hb).trans e;have r9:∀b o,h0.get? b=some o->h'.get? b=some o:=λ b o e=>(sb.2 b (ho b o e).2).trans (hf b o (ho b o e).1 (ho b o e).2 e);have t4:IsTup h' t #[p.2.1,p.2.2]:=let ⟨o,e1,e2⟩:=t3;⟨o,r9 t o e1,e2⟩;dsimp only;refine wpAny_bind (wpAny_holding (wpAny_bind (wpAny_tryCatch (bQ t4 ?_))));show wpAny _ A.in1 (holding [p.2.1,p.2.2] (dictSet d p.2.1 p.2.2)) _ _ _;refine wpAny_holding (G.set (G.is p3 λ b o e _=>r9 b o e) hd2 (by omega) λ h3 tk ko jb=>?_);refine wpAny_pure ⟨plainId_quiet Jg _,?_⟩;have se:h3.IsListIter I l (i+1):=let ⟨o,e1,e2⟩:=cu;⟨o,(jb.2 I (zbn yi)).trans e1,e2⟩;have ed:ps.drop i=p::ps.drop (i+1):=by
   rw[zde (by omega:i<ps.length)];rw[za7 (by omega:i<ps.length)] at kh;rw[zb0 kh]
  rw[ed,zb4] at h;have nr:=G.len xs p.1 p.2.1 p.2.2;exact ih (i+1) _ {s with heap:=h3,toks:=tk} (by omega) (by omega) (by omega) se ko (λ b o h1 h2 e=>(jb.2 b h1).trans (r9 b o e)) ho h
def OL (G:DKd prog w A.in1 DD Is put)(ps:List (κ×Value×Value))(hh:A.handled=none)(nv:ps.length=items.size)(hsz:items.size+1<=sizeLine)(hl:s.heap.get? l=some {cls:=.type "list",data:=.seq items n,slots:=sl})(hp:∀(j:Nat) p,ps[j]?=some p->Is s.heap p.1 p.2.1/\∃t,items[j]?=some (.ref t)/\IsTup s.heap t #[p.2.1,p.2.2])(h:∀h' tk,DD h' s.heap.objs.size (ps.foldl (λ acc p=>put acc p.1 p.2.1 p.2.2) [])->(∀b o,s.heap.get? b=some o->h'.get? b=some o)->Q (.ref s.heap.objs.size) {s with heap:=h',toks:=tk}):
 wpAny (model prog w) A (call (.type "dict") [.ref l]) Q E s:=by
 refine callType_codes (Q₁:=λ obj s₁=>obj=.ref s.heap.objs.size/\s₁={s with heap:=s.heap.push {cls:=.type "dict",data:=.dict #[]} }) PySem.F.kt_called_dict (PySem.F.kt_typeCall_dict_1 _) PySem.F.entry_dict_init
  (kt_code_dict_new _ ⟨rfl,rfl⟩) λ obj s₁ h₁=>?_
 obtain⟨rfl,rfl⟩:=h₁;have hS:(s.heap.push {cls:=.type "dict",data:=.dict #[]}).get? s.heap.objs.size=some {cls:=.type "dict",data:=.dict #[]}:=zat _ rfl;have ll:l<s.heap.objs.size:=zak hl;have dL:(s.heap.push {cls:=.type "dict",data:=.dict #[]}).get? l=some {cls:=.type "list",data:=.seq items n,slots:=sl}:=zah _ hl;refine⟨⟨_,hS,rfl⟩,PySem.F.args_dict_init_2 _ _,?_⟩;have TD:Looks (model prog w) (s.heap.push {cls:=.type "dict",data:=.dict #[]}) (typeOf (.ref s.heap.objs.size)) (.type "dict"):=(Looks.ld hS).andThen .now;have TL:Looks (model prog w) (s.heap.push {cls:=.type "dict",data:=.dict #[]}) (typeOf (.ref l)) (.type "list"):=(Looks.ld dL).andThen .now;unfold Builtin.«dict.__init__» Dict.selfAndRest Dict.notOrdered;dsimp only;rw[if_pos (by decide)];refine wpAny_bind (wpAny_bind (wpAny_bind (TD.at ?_)));rw[if_neg (by decide)];refine wpAny_pure ?_;unfold Dict.addrOf;refine wpAny_bind (wpAny_pure (wpAny_pure ?_));unfold Dict.updateCommon Dict.updateFrom;dsimp only;refine wpAny_bind (TL.at ?_);rw[if_pos (by decide)];refine wpAny_bind (UT (A:=A.in1.in1) hh dL λ h2 tk2 sf=>?_);rw[if_pos (show (none:Option Value).isNone=true from rfl)];refine wpAny_bind (wpAny_rule ?_);have ao:h2.IsList l items:=⟨_,sf _ _ dL,rfl,n,rfl⟩;have vy:=sf _ _ hS;refine wpAny_bind (wpAny_pyIter_list ao ?_);refine wpAny_pure ⟨plainId_quiet Jg _,?_⟩;have lz:s.heap.objs.size<h2.objs.size:=zak vy;have yk:∀b o,s.heap.get? b=some o->(h2.push {cls:=.type "list_iterator",data:=.fields #[.ref l,.int 0 0]}).get? b=some o:=λ b o e=>zah _ (sf _ _ (zah _ e));have ag:∀b o,s.heap.get? b=some o->b≠s.heap.objs.size/\b≠h2.objs.size:=λ b o e=>by
  have:=zak e;exact⟨zax this,zax (Nat.lt_trans this lz)⟩
 refine bR (A:=A.in1) G (l:=l) (h0:=s.heap) ps hh (zax (Nat.lt_trans ll lz)) (zax lz) (zax ll) nv hsz ⟨_,hl,rfl,n,rfl⟩ hp items.size 0 [] _ (by omega) (by omega) (by simp) ⟨_,zat _ rfl,rfl,rfl⟩ (G.nil (zah _ vy)) (λ b o h1 i7 e=>yk b o e) ag λ h' tk bp yl=>?_;exact⟨rfl,h h' tk bp λ b o e=>yl b o (ag _ _ e).1 (ag _ _ e).2 e⟩
end
abbrev rfA:Value->Addr
 | .ref a=>a
 |_=>0
def abt {K:Type}[DecidableEq K]{knd:KeyKind prog w K}(bS:A.in1.units<cLine):DKd prog w A (λ h d (xs:List (List K×Addr×Value))=>h.DictOfH (tupleKind knd) d xs) (λ h k v=>∃a,v=.ref a/\(tupleKind knd).is h k a) (λ xs k v x=>storedH xs k (rfA v) x) where
 it:=Xb
 is:=λ⟨a,e,o,aa,n,e1,e2⟩ kp=>⟨a,e,o,aa,n,kp _ o e1 e2.1,e2⟩
 set:=λ⟨a,e,hi⟩ hd hz hq=>by
  subst e;exact wpAny_dictSet_heap (knd:=tupleKind knd) (hsz:=Nat.le_of_succ_le hz) bS hi hd λ h3 ko jb=>hq h3 _ ko jb
 len:=λ xs k v x=>by
  unfold storedH;split
  ·rw[za2];omega
  ·rw[zal,zbd];omega
 nil:=λ e=>⟨_,#[],0,e,⟨rfl,rfl,rfl⟩,rfl,rfl,λ x hx=>absurd hx List.not_mem_nil,zbv⟩
def Nm {K:Type}[DecidableEq K]{knd:KeyKind prog w K}{Q:Value->Shared->Prop}{l:Addr}{items:Array Value}{n:Nat}{sl:Array (Option Value)}(ps:List (List K×Addr×Value))(hh:A.handled=none)(bS:A.units+2<cLine)
 (nv:ps.length=items.size) (hsz:items.size+1<=sizeLine) (hl:s.heap.get? l=some {cls:=.type "list",data:=.seq items n,slots:=sl})
 (hp:∀(j:Nat) p,ps[j]?=some p->(tupleKind knd).is s.heap p.1 p.2.1/\∃t,items[j]?=some (.ref t)/\IsTup s.heap t #[.ref p.2.1,p.2.2])
 (h:∀h' tk,h'.DictOfH (tupleKind knd) s.heap.objs.size (ps.foldl (λ acc p=>storedH acc p.1 p.2.1 p.2.2) [])->(∀b o,s.heap.get? b=some o->h'.get? b=some o)->Q (.ref s.heap.objs.size) {s with heap:=h',toks:=tk}):
 wpAny (model prog w) A (call (.type "dict") [.ref l]) Q E s:=by
 refine OL (abt (knd:=knd) bS) (ps.map λ p=>(p.1,.ref p.2.1,p.2.2)) hh (by rw[za2];exact nv) hsz hl (λ j p hj=>?_) λ h' tk hd kp=>h h' tk (by rw[List.foldl_map] at hd;exact hd) kp;rw[zap] at hj;obtain⟨q,hq,rfl⟩:=zbp.mp hj;obtain⟨q1,q2⟩:=hp j q hq;exact⟨⟨_,rfl,q1⟩,q2⟩
end
structure bT where
 (t:Addr) (κ:List Key) (b:Addr) (v:V)
abbrev qM (H:Hp)(p:bT):Prop:=H p.t=some (.tup [.ref p.b,p.v])/\H p.b=some (.tup (p.κ.map kV))
abbrev mkK (ps:List bT):List (List Key×V):=ps.foldl (λ acc p=>putK acc p.κ p.v) []
abbrev tDP (X:Cx)(te:TE):TE:=λ σ H Q=>te σ H λ x H1=>∃(l:Addr) (ps:List bT),x=.ref l/\Ds X.K H1 l (ps.map λ p=>V.ref p.t)/\(∀p∈ps,qM H1 p)/\ps.length<=1000/\∀r,H1 r=none->Q (.ref r) (upd H1 r (.dT (mkK ps)))
def UU:∀ {ps:List bT}{us:List Value},Vals (ps.map λ p=>V.ref p.t) us->us=ps.map λ p=>zbl p.t
 |[],_,.nil=>rfl
 |p::ps,_,.cons h t=>by
  cases h;rw[za6,<-UU t]
def tF {H:Hp}:∀ {ps:List bT}{qs:List (List Key×Addr×Value)}{kvs:List (List Key×V)}{xs:List (List Key×Addr×Value)},(∀p∈ps,qM H p)->Paired (λ(p:bT) (q:List Key×Addr×Value)=>p.κ=q.1/\p.b=q.2.1/\RelV p.v q.2.2) ps qs->KT H kvs xs->KT H (ps.foldl (λ acc p=>putK acc p.κ p.v) kvs) (qs.foldl (λ acc p=>storedH acc p.1 p.2.1 p.2.2) xs)
 |[],_,_,_,_,.nil,h=>h
 |p::ps,_,_,_,ho,.cons (b:=q) hq t,h=>by
  obtain⟨q1,q2,q3⟩:=q;obtain⟨e1,e2,e3⟩:=hq;dsimp only at e1 e2 e3;subst e1 e2;have r:=tF (ps:=ps) (λ p' hp=>ho p' (za4 _ hp)) t (h.put p.κ (ho p za3).2 e3);exact r
def jN:∀(ps:List bT) (kvs:List (List Key×V)),(ps.foldl (λ acc p=>putK acc p.κ p.v) kvs).length<=kvs.length+ps.length
 |[],kvs=>zaf _
 |p::ps,kvs=>by
  have h1:=jN ps (putK kvs p.κ p.v);have h2:=DY kvs p.κ p.v;rw[zb4,zaa];omega
def Yw (ok:Hh P w H h):∀ {ps:List bT},(∀p∈ps,qM H p)->∃qs:List (List Key×Addr×Value),Paired (λ(p:bT) (q:List Key×Addr×Value)=>p.κ=q.1/\p.b=q.2.1/\RelV p.v q.2.2) ps qs/\
 ∀(j:Nat) q,qs[j]?=some q->(tupleKind (AM P w)).is h q.1 q.2.1/\∃t,(ps.map λ p=>zbl p.t)[j]?=some (.ref t)/\IsTup h t #[.ref q.2.1,q.2.2]
 |[],_=>⟨[],.nil,λ j q e=>by simp at e⟩
 |p::ps,ho=>by
  obtain⟨qs,h1,h2⟩:=Yw ok λ p hp=>ho p (za4 _ hp);obtain⟨o1,o2⟩:=ho p za3;obtain⟨_,aa,r,it⟩:=(show Br P w H h p.t (.tup [.ref p.b,p.v]) from ok p.t _ o1);obtain⟨u,v,rfl,ru,rv⟩:=r.two;cases ru;refine⟨(p.κ,p.b,v)::qs,.cons ⟨rfl,rfl,rv⟩ h1,λ j q e=>?_⟩;cases j with
  |zero =>
   rw[zc6] at e;cases e;exact⟨HK ok o2,p.t,by simp,it⟩
  |succ j =>
   rw[zba] at e;obtain⟨a1,t,a2,a3⟩:=h2 j q e;exact⟨a1,t,by simpa using a2,a3⟩
section
variable {c:Bool}{P:Addr->Prop}{H:Hp}{a b:Expr}{f g:Ad->M D}{te:TE}
def jO (hc:X.calm=true)(hu:X.A.units+n<cLine)(hg:Gl X "dict")(hm:X.mg "dict" = none)(he:PE X e te)(hv:bootBuiltins "dict" = some (.type "dict"):=by decide +kernel)(hs: ~~~(starEach [e] X.env=[(false,eval e X.env)]))(hn:2<=n:=by decide):
 PE X (.Call (.Name "dict" p) [e] [] pos) (tDP X te):=by
 intro pins s σ H Q I h;refine wpAny_Call_Name_kw (Eg I hg hm hv ?_);refine zbo ?_ hs;rw[hs];refine zc5 (Bl (he pins s σ H _ I h) λ u s1 zz=>?_);obtain⟨x,H1,I1,r1,q1⟩:=zz;obtain⟨l,ps,rfl,hq,ho,hlen,q⟩:=q1;cases r1;refine zci ?_;obtain⟨aa,r',pl,hz⟩:=I1.list hq;have hits:=UU r';subst hits;obtain⟨⟨sg,kr,kt,g8⟩,n0,o1,o2,o3,o4⟩:=pl;dsimp only at o2 o3 o4;subst o2 o3 o4;obtain⟨qs,h1,h2⟩:=Yw I1.Aw ho;refine Nm (knd:=AM X.prog X.w) qs (I1.ok.hd hc) (by omega) (by rw[zad,za2,<-h1.length]) (AA (by rw[zad,za2];omega)) o1 (λ j p hj=>?_) λ h' tk hd kp=>?_
 ·obtain⟨a1,t,a2,a3⟩:=h2 j p hj;exact⟨a1,t,by rw[List.getElem?_toArray];exact a2,a3⟩
 ·have sn:=tF ho h1 (show KT H1 [] [] from .nil);have bq:s1.heap.objs.size<=s1.heap.objs.size:=zaf _;have bB:=I1.Aw.fresh bq;have ny:=jN ps [];obtain⟨o,es,ep,g1,g2,g3,g4,g5,g6⟩:=hd;refine⟨.ref _,_,I1.laid (t':=tk) (o:=.dT (mkK ps)) kp bq ⟨zbs (AA (by unfold mkK;simp at ny;omega)),beq_eq_false_iff_ne.mpr (zbn (zax I1.big)),_,sn.keeps (λ b ys eb=>by rw[Ag (λ z=>by rw[z,bB] at eb;cases eb)];exact eb),o,es,ep,g1,g2,g3,g4,g6⟩,rfl,q _ bB⟩
abbrev SN:List D->Option (List (D×D))
 |[]=>some []
 | .tup [k,v]::r=>(SN r).map ((k,v)::·)
 |_=>none
abbrev tG (l:List (D×D)):List D×List D:=l.foldl (λ z kv=>putD z.1 z.2 kv.1 kv.2) ([],[])
abbrev qN (d:D):M OT:=match d with
 | .lst xs=>(match SN xs with|some l=>if l.length<=1000/\(l.all λ kv=>keyOk true kv.1)=true then .ok (.BR true (tG l).1 ((tG l).2.map .sh)) else .bad|none=>.bad)
 |_=>.bad
def Yx {K:za1}{H:Hp}{P:Addr->Prop}:∀ {xs:List V}{ds:List D}{l:List (D×D)},Aj K (del H P) xs ds->SN ds=some l->(l.all λ kv=>keyOk true kv.1)=true->
 ∃ps:List bT,xs=ps.map (λ p=>V.ref p.t)/\(∀p∈ps,qM H p)/\Paired (λ(p:bT) (kv:D×D)=>kv.1=.tup (p.κ.map CB)/\BS K (del H P) p.v kv.2) ps l
 |_,[],l,.nil,e,_=>by cases e;exact⟨[],rfl,λ p hp=>(by cases hp),.nil⟩
 |_,d::ds,l,.cons hd ht,e,hk=>by
  unfold SN at e;split at e
  ·rename_i bi;cases bi
  ·rename_i k v r bi;cases bi;obtain⟨l',e1,e2⟩:=zbp.mp e;subst e2;rw[List.all_cons,zb6] at hk;obtain⟨ps,q1,q2,q3⟩:=Yx ht e1 hk.2;have hK:=E5 hk.1;cases hK with
   |t κ =>
    cases hd with
    |tup h1 h2 =>
     obtain⟨x,y,rfl,hx,hy⟩:=h2.two;cases hx with
     |tup g1 g2 =>
      rename_i tt bb fm;have ey:=Aj.keys κ g2;subst ey;refine⟨⟨tt,κ,bb,y⟩::ps,by rw[za6,q1],λ p hp=>?_,.cons ⟨rfl,hy⟩ q3⟩;rcases zab.mp hp with rfl|hp
      ·exact⟨(Ao h1).2,(Ao g1).2⟩
      ·exact q2 p hp
  ·cases e
def jP {K:za1}{H:Hp}{P:Addr->Prop}:∀ {ps:List bT}{l:List (D×D)}{kvs:List (List Key×V)}{vs:List D},Paired (λ(p:bT) (kv:D×D)=>kv.1=.tup (p.κ.map CB)/\BS K (del H P) p.v kv.2) ps l->Aj K (del H P) (kvs.map zbx) vs->
 ∃aB,l.foldl (λ z kv=>putD z.1 z.2 kv.1 kv.2) (kvs.map (λ kv=>D.tup (kv.1.map CB)),vs)=((ps.foldl (λ acc p=>putK acc p.κ p.v) kvs).map (λ kv=>D.tup (kv.1.map CB)),aB)/\Aj K (del H P) ((ps.foldl (λ acc p=>putK acc p.κ p.v) kvs).map zbx) aB
 |[],_,kvs,vs,.nil,h=>⟨vs,rfl,h⟩
 |p::ps,_,kvs,vs,.cons (b:=kv) hq t,h=>by
  obtain⟨k,d⟩:=kv;obtain⟨e1,e2⟩:=hq;dsimp only at e1 e2;subst e1;have hf:∀a b:List Key,By (.tup (a.map CB)) (.tup (b.map CB))=decide (a=b):=λ a b=>by simp only[By];exact NU a b
  have aX:∃aB,(putD (kvs.map λ kv=>.tup (kv.1.map CB)) vs (.tup (p.κ.map CB)) d)=((putK kvs p.κ p.v).map (λ kv=>.tup (kv.1.map CB)),aB)/\Aj K (del H P) ((putK kvs p.κ p.v).map zbx) aB:=by
   unfold putD putK;rw[KG (fk:=λ κ:List Key=>D.tup (κ.map CB)) hf];by_cases hh:(kvs.any λ kv=>decide (kv.1=p.κ))=true
   ·rw[if_pos hh,if_pos hh];refine⟨_,by rw[HY (fk:=λ κ:List Key=>D.tup (κ.map CB)) hf],?_⟩;rw[<-HX (fk:=λ κ:List Key=>D.tup (κ.map CB)) hf];exact HZ e2 h
   ·rw[if_neg hh,if_neg hh];refine⟨_,by rw[zav];rfl,?_⟩;rw[zav];exact h.snoc e2
  obtain⟨ym,g1,g2⟩:=aX;obtain⟨so,g3,g4⟩:=jP t g2;refine⟨so,?_,g4⟩;rw[zb4];dsimp only;rw[g1];exact g3
def UW (hc:X.calm=true)(hu:X.A.units+n<cLine)(hg:Gl X "dict")(hm:X.mg "dict" = none)(he:DE X WX true e f)(hv:bootBuiltins "dict" = some (.type "dict"):=by decide +kernel)(hs: ~~~(starEach [e] X.env=[(false,eval e X.env)]))(hn:2<=n:=by decide):
 DN X WX (.Call (.Name "dict" p) [e] [] pos) (λ ρ=>(f ρ).bind qN):=by
 obtain⟨te,e1,e2⟩:=he;refine⟨_,jO hc hu hg hm e1 hv hs hn,λ P0 P σ H Q ρ E h=>?_⟩;refine e2 P0 P σ H _ ρ E ?_;dsimp only at h;refine Yd h λ d h=>?_;intro v H1 s1 hv;unfold qN at h;split at h
 ·rename_i xs;split at h
  ·rename_i l eb;split at h
   ·rename_i hl;cases hv with
    |lst hs hh =>
     obtain⟨ps,q1,q2,q3⟩:=Yx hh eb hl.2;subst q1;obtain⟨aB,g1,g2⟩:=jP (kvs:=[]) q3 .nil;refine⟨_,ps,rfl,hs.Bh,q2,by rw[q3.length];exact hl.1,λ r hr=>?_⟩;have e3:tG l=((mkK ps).map (λ kv=>D.tup (kv.1.map CB)),aB):=g1;rw[e3] at h;have aU:∀a∈[r],H1 a=none:=λ a ha=>by rw[za9.mp ha];exact hr
     exact h _ [r] _ (s1.trans (AJ hr _)) (λ a ha=>Ce s1 (aU a ha)) (by simp) (.dT Am (g2.mono (Bs (AJ hr _) aU)).ows)
   ·exact h.elim
  ·exact h.elim
 ·exact h.elim
end
open PySem PySem.Spec PyProof.Rows
section
variable {c:Bool}{P:Addr->Prop}{H:Hp}{a b:Expr}{f g:Ad->M D}{te:TE}
abbrev qO (x y:D):M D:=match x,y with
 | .tup xs,.tup ys=>(match DZ xs,DZ ys with|some ns,some ms=>.ok (.bl (HT.lexLt ns ms))|_,_=>.bad)
 |_,_=>.bad
def qP:Ye X.K WX (aaG X.K) qO:=by
 intro P H x y v w Q ht hx hy h;unfold qO at h;split at h
 ·rename_i xs ys;split at h
  ·rename_i ns ms e1 e2;have:=Jd e1;subst this;have:=Jd e2;subst this;cases hx with
   |tup h1 h2 =>
    cases hy with
    |tup h3 h4 =>
     have:=Gx h2;subst this;have:=Gx h4;subst this;exact⟨_,_,ns,ms,rfl,rfl,FF.of (Ao h1).2,FF.of (Ao h3).2,h _ H (Ah.refl H) (.bl _)⟩
  ·exact h.elim
 ·exact h.elim
def Xc (hu:X.A.units+n<cLine)(ha:DE X WX c a f)(hb:DE X WX c b g):DT X WX (.Compare a [.Lt] [b] pos) (λ ρ=>((f ρ).bind λ x=>(g ρ).bind λ y=>qO x y).bind Uv):=Gs (vR (by omega)) qP ha hb (LI _)
def jQ (hk:DE X WX true a f)(hv:DE X WX true b g):DN X WX (.Dict [some a] [b] pos) (λ ρ=>(f ρ).bind λ k=>(g ρ).bind λ v=>if keyOk false k=true then .ok (.BR false [k] [.sh v]) else .bad):=by
 obtain⟨tk,k1,k2⟩:=hk;obtain⟨tv,v1,v2⟩:=hv;refine⟨_,oG (fF k1 v1 oF) rfl rfl (by simp) (by simp),λ P0 P σ H Q ρ E h p hp=>?_⟩;dsimp only at h;have hn:∀a∈[p],H a=none:=λ a ha=>by rw[za9.mp ha];exact hp
 have s0:Ah H (upd H p (.dK [])):=AJ hp _;have E1:An X.K P0 (PU P [p]) (upd H p (.dK [])) σ ρ:=E.more s0 HV (λ a ha=>ha.elim (λ z=>(E.BQ a z).same s0) λ z=>by
  rw[za9.mp z];exact⟨_,Am,λ _=>⟨λ z=>(by cases z),λ _ z=>by cases z⟩⟩) (Bs s0 hn)
 refine k2 P0 (PU P [p]) σ _ _ ρ E1 ?_;cases q:f ρ with
 |bad=>rw[q] at h;exact h
 |ex x=>rw[q] at h;exact λ H' s=>h H' (s0.trans s)
 |ok k =>
  rw[q] at h;simp only[M.Aa] at h;intro y H2 s2 hy;have E2:=E1.same s2;refine v2 P0 (PU P [p]) σ H2 _ ρ E2 ?_;cases q2:g ρ with
  |bad=>rw[q2] at h;exact h
  |ex x=>rw[q2] at h;exact λ H' s=>h H' ((s0.trans s2).trans s)
  |ok d =>
   rw[q2] at h;simp only[M.Aa] at h;intro w H3 s3 hw;by_cases hc:keyOk false k=true
   ·rw[if_pos hc] at h;have hK:=E5 hc;cases hK with
    |k κ =>
     have ey:=hy.pG;subst ey;refine⟨s3 _ _ (s2 _ _ Am),[(κ,w)],rfl,by simp,?_⟩;have s4:Ah H (upd H3 p (.dK (HL [] [(κ,w)]))):=λ a o ha=>by
      rw[Ag (λ z=>by rw[z,hp] at ha;cases ha)];exact s3 _ _ (s2 _ _ (s0 _ _ ha))
     have s5:Ah (del H3 (PU P [p])) (del (upd H3 p (.dK (HL [] [(κ,w)]))) (PU P [p])):=λ a o ha=>by
      obtain⟨n1,n2⟩:=Ao ha;rw[Az n1,Ag (λ z=>n1 (.inr (by rw[z];exact za9.mpr rfl)))];exact n2
     refine h _ [p] _ s4 hn (by simp) ?_;have e1:HL [] [(κ,w)]=[(κ,w)]:=rfl;rw[e1] at s5 ⊢;exact .dK (kvs:=[(κ,w)]) Am (.cons (.sh (hw.mono s5)) .nil)
   ·rw[if_neg hc] at h;exact h.elim
abbrev Rv (x:D)(m:M D):M D:=match x with
 | .BR b ks vs=>m.bind λ y=>if keyOk b y=true then .ok ((Fq ks vs y).getD .AV) else .bad
 |_=>.bad
def Yy {K}(h:BS K (del H P) v (.BR bb ks vs)):∃a,v=.ref a/\IsD H a:=by
 cases h with
 |TU h1 h2=>exact⟨_,rfl,.inl ⟨_,h1.Bh⟩⟩
 |Ur h1 h2=>exact⟨_,rfl,.inr ⟨_,h1.Bh⟩⟩
def OM {ad}(hu:X.A.units+n<cLine)(ha:DE X WX c o f)(hb:DE X WX c k g)(m:M1 X o "get" apos k ad:=by exact⟨rfl,rfl,rfl,rfl⟩)(hn:1<=n:=by decide):
 DE X WX c (.Call (.Attribute o "get" apos) [k] [] ad) (λ ρ=>(f ρ).bind λ x=>Rv x (g ρ)):=by
 obtain⟨ta,a1,a2⟩:=ha;obtain⟨tb,b1,b2⟩:=hb;refine⟨_,fH (by omega) a1 b1 m,λ P0 P σ H Q ρ E h=>?_⟩;dsimp only at h;refine a2 P0 P σ H _ ρ E ?_;refine Yd h λ x h=>?_;intro v H1 s1 hv;unfold Rv at h;split at h
 ·rename_i bb ks vs;obtain⟨a,rfl,hD⟩:=Yy hv;refine⟨a,rfl,hD,b2 P0 P σ H1 _ ρ (E.same s1) ?_⟩;cases e2:g ρ with
  |bad=>rw[e2] at h;exact h
  |ex y=>rw[e2] at h;exact gV.same (m:=.ex y) h s1
  |ok y =>
   rw[e2] at h;simp only[M.Aa] at h;intro w H2 s2 hw;by_cases hk:keyOk bb y=true
   ·rw[if_pos hk] at h;obtain⟨a',xs,ea,g',hl,aU⟩:=NV (hv.mono s2.del) hw (E5 hk);cases ea;refine⟨_,g',?_⟩;refine gV.same (gV.same h s1) s2 _ H2 (Ah.refl _) ?_;cases eg:Fq ks vs y with
    |none =>
     have:Fq ks xs y=none:=by
      cases sq:Fq ks xs y with
      |none=>rfl
      |some z =>
       have h1:=EE (xs:=xs) (y:=y) aU;have h2:=EE (ks:=ks) (xs:=vs) (y:=y) (by rw[<-hl.length,aU]);rw[h1,sq,eg] at h2;cases h2
     rw[this];exact .AV
    |some d =>
     obtain⟨x,e3,e4⟩:=KH hl eg;rw[e3];exact e4
   ·rw[if_neg hk] at h;exact h.elim
 ·exact h.elim
end
abbrev Itv (K:za1)(a:Addr)(n:Nat):It:=
 ⟨λ i H=>∃xs x,Ds K H a xs/\xs.length=n/\i<n/\xs[n-1-i]?=some x,λ i H x H'=>H'=H/\∀xs,Ds K H a xs->xs[n-1-i]?=some x,λ i H=>∃xs,Ds K H a xs/\xs.length=n/\n<=i⟩
def jR {h:Heap}(h1:h.IsRevIter it a i)(h2:h.IsList a xs):a≠it:=λ z=>by
 subst z;obtain⟨o,e1,e2,_⟩:=h1;obtain⟨o2,e3,e4,_⟩:=h2;rw[e1] at e3;cases e3;rw[e2] at e4;exact absurd (Value.type.inj e4) (by decide)
def jS {K}(a it:Addr)(n:Nat):Turn P w K tg (Itv K a n) [it] it (λ i h=>i<=n/\h.IsRevIter it a ((n:Int)-1-i)) where
 mem:=by simp
 obj:=λ i h st b hb=>by
  have e:b=it:=by simpa using hb
  subst e;obtain⟨_,o,e,c,d⟩:=st;exact⟨o,e,λ v z=>by rw[d] at z;cases z⟩
 keep:=λ i h h' st k=>⟨st.1,st.2.at λ o e=>k it (by simp) o e⟩
 item:=by
  intro X hP hw hK hc i pins s σ H E I hf st hg;subst hP hw hK;obtain⟨xs,x,hq,sr,bF,hx⟩:=hg;obtain⟨aa,rv,p,hz⟩:=I.list hq;obtain⟨u,hu,ru⟩:=rv.get hx;obtain⟨f0,f1,f2,f3,f4,f5⟩:=hf it (by simp);have hl:=rv.length;have sv:aa.toArray.size=n:=by rw[zad,<-hl,sr]
  have W:=Walks.listRev (prog:=X.prog) (w:=X.w) (A:=X.A) (I.ok.hd hc) it a (jR st.2 p.isList) aa.toArray;rw[sv] at W;refine W.item i s _ _ bF ⟨st.1,st.2,p.isList⟩ λ v h' tk hv bd kp=>?_;have ev:v=u:=by
   rw[List.getElem?_toArray,hu] at hv;exact (zb0 hv).symm
  subst ev;have I1:Inv X pins σ H {s with heap:=h',toks:=tk}:=I.turned (t':=tk) (λ b o hb e=>kp b o (by simpa using hb) e) f0 f1 f3 f4 f5;obtain⟨o,e,c,d⟩:=id bd.2.1;exact⟨v,rfl,U8 (s:={s with heap:=h',toks:=tk}) e c d (by decide) ⟨x,H,I1,ru,⟨rfl,λ ys hy=>by rw[I.HG hy hq];exact hx⟩,⟨bd.1,bd.2.1⟩,λ b hb=>(hf b hb).1⟩⟩
 done:=by
  intro X hP hw hK hc i pins s σ H E I hf st hg;subst hP hw hK;obtain⟨xs,hq,sr,bF⟩:=hg;obtain⟨aa,rv,p,hz⟩:=I.list hq;obtain⟨f0,f1,f2,f3,f4,f5⟩:=hf it (by simp);have hl:=rv.length;have sv:aa.toArray.size=n:=by rw[zad,<-hl,sr]
  have W:=Walks.listRev (prog:=X.prog) (w:=X.w) (A:=X.A) (I.ok.hd hc) it a (jR st.2 p.isList) aa.toArray;rw[sv] at W;have sw:i=n:=Nat.le_antisymm st.1 bF;subst sw;exact W.done s _ _ ⟨st.1,st.2,p.isList⟩ λ h' tk kp=>⟨rfl,I.turned (t':=tk) (λ b o hb e=>kp b o (by simpa using hb) e) f0 f1 f3 f4 f5⟩
 self:=λ _ _ _ _ _ st h=>wpAny_pyIter_revIter st.2 h
section
variable {a:Expr}{f:Ad->M D}{p:Pos}{te:TE}
abbrev adb (K:za1)(ta:TA):TI:=λ σ H R=>ta σ H λ vs H1=>∃a xs,vs=[.ref a]/\Ds K H1 a xs/\R (Itv K a xs.length) H1
def xQ (hg:Gl X "reversed")(hm:X.mg "reversed" = none)(ha:PA X [a] ta)(hb:bootBuiltins "reversed" = some (.type "reversed"):=by decide +kernel)(hs: ~~~(starEach [a] X.env=[(false,eval a X.env)])):
 PI X tg (.Call (.Name "reversed" p) [a] [] pos) (adb X.K ta):=by
 intro pins s σ H R I h;refine Call_ (Eg I hg hm hb (zbo (Bl (ha pos pins s σ H _ I h) λ us s1 zz=>?_) hs rfl));obtain⟨vs,H1,I1,r1,q1⟩:=zz;obtain⟨j,xs,e,hq,q⟩:=q1;subst e;cases r1 with
 |cons r rr =>
  cases rr;cases r;obtain⟨aa,rv,p,hz⟩:=I1.list hq;have hl:=rv.length;refine call_reversed_list p.isList ?_;have hit:(s1.heap.push (revObj j ((aa.toArray.size:Int)-1))).IsRevIter s1.heap.objs.size j ((xs.length:Int)-1-(0:Nat)):=by
   rw[zad,<-hl];exact⟨_,zat _ rfl,rfl,by simp[revObj]⟩
  refine wpAny_pyIter_revIter (s:={s1 with heap:=s1.heap.push (revObj j ((aa.toArray.size:Int)-1))}) hit ?_;refine⟨s1.heap.objs.size,[s1.heap.objs.size],_,_,H1,rfl,I1.kept (t':=s1.toks) λ b o e=>zah _ e,jS j _ xs.length,⟨zbe _,hit⟩,λ b hb=>?_,q⟩;have e:b=s1.heap.objs.size:=by simpa using hb
  subst e;exact I1.Wu (zaf _) (I1.Aw.fresh (zaf _))
def jT (hg:Gl X "reversed")(hm:X.mg "reversed" = none)(ha:DE X WX true a f)(hb:bootBuiltins "reversed" = some (.type "reversed"):=by decide +kernel)(hs: ~~~(starEach [a] X.env=[(false,eval a X.env)])):
 DI X WX tg (.Call (.Name "reversed" p) [a] [] pos) (λ ρ=>(f ρ).bind λ d=>match d with | .lst ds=>.ok ds.reverse|_=>.bad):=by
 obtain⟨ta,a1,a2⟩:=ha;refine⟨_,xQ hg hm (Bm a1 CJ hs) hb hs,λ P0 P σ H R ρ E h=>?_⟩;dsimp only at h;refine a2 P0 P σ H _ ρ E ?_;cases q:f ρ with
 |bad|ex x=>rw[q] at h;exact h
 |ok d =>
  rw[q] at h;cases d with
  |lst ds =>
   intro v H1 s1 hv;cases hv with
   | @lst a xs _ hs hl =>
    have hlen:=hl.length;refine⟨a,xs,rfl,hs.Bh,h _ H1 s1 ⟨λ i P' H' s hi=>?_,λ i P' H' s hi=>?_,λ i P' H' v d6 d s ht hd y=>?_⟩⟩
    ·rw[zbi] at hi;obtain⟨x,hx,_⟩:=hl.get (za7 (show xs.length-1-i<ds.length by omega));exact⟨xs,x,(s.seq hs).Bh,rfl,by omega,hx⟩
    ·rw[zbi] at hi;exact⟨xs,(s.seq hs).Bh,rfl,by omega⟩
    ·obtain⟨rfl,y⟩:=y;have ag:=(zam.mp hd).1;rw[zbi] at ag;rw[List.getElem?_reverse ag] at hd;obtain⟨x,hx,bp⟩:=hl.get hd;have e:=y xs (s.seq hs).Bh;rw[hlen,hx] at e;cases e;exact⟨Ah.refl _,bp.mono s⟩
  |_=>exact h.elim
end
structure jU (K:za1)(x qual:Str)(st:Stmt)(f:Addr)(fd:FuncData):Prop where
 ex:∃(oc:Value) (od:Option Addr) (dV kV doc pm:Value) (an:Option Addr) (B0 ct:Value) (Ud:Array (Option Value)),
  fd=zbb x qual (B8 st) (AF st) (A2 st) dV kV doc pm an B0 ct/\K.lookup f=some ⟨oc,od,.func fd,Ud⟩/\zca K B0 qual=true
 kp:zbk K (.ref f)=true
section
variable {P:Program}{w:World}{K:za1}
def qQ {st}(F:jU K x qual st f fd)(S:Ab N ps (A2 st))(g:Ad->M Out)(hb:∀(B0:Value) (A:Around) (outer:List Env) (s:Shared) (H:Hp) (E:XK),BE k (A.deeper (envOfC qual (A2 st) s.heap.objs.size f B0))->TX (mU P w K mg base N qual (A2 st) f B0 A outer s H E) (CL K E) (AF st) g):
 D4 P w K mg base (Sv P w base) (k+1) f fd ps (Rq K ps.length λ t ax=>ES (g (D9 N t ax))):=by
 obtain⟨oc,od,dV,kV,doc,pm,an,B0,ct,Ud,rfl,lk,aT⟩:=F.ex;refine Uc lk aT S (λ vs H Q E h=>h.1) λ A outer s H vs Q E hr h=>?_;obtain⟨hl,P',p,t,fp,rest,ax,rfl,ht,hp,nd,ho,hv,hq⟩:=h;obtain⟨tt,h1,h2⟩:=hb B0 A outer s H E hr;refine⟨tt,h1,h2 ⟨λ a=>P' a/\a∉fp,λ _=>p⟩ P' _ H _ _ (KL ht hp nd ho hv) ?_⟩;dsimp only at hq;revert hq;cases g (D9 N t ax) with
 |bad|ex x=>exact λ h=>h.elim
 |ok o =>
  have sub:∀ {P2:Addr->Prop} {H2:Hp} {σ2:St} {ρ:Ad},An K ⟨λ a=>P' a/\a∉fp,λ _=>p⟩ P2 H2 σ2 ρ->∀a,P2 a/\¬ (P' a/\a∉fp)->P2 a/\(P' a->a∈fp):=λ E a ha=>⟨ha.1,λ z=>zcm λ w=>ha.2 ⟨z,w⟩⟩;cases o with
  |ret d|CD d=>exact λ h=>h.elim
  |next ρ =>
   intro hq σ' H' P2 t2 E2;unfold ES at hq;dsimp only at hq;split at hq
   ·rename_i t' e;obtain⟨c,ah,k1,k2,k3,k4,k5,k6⟩:=NW E2 e;exact hq .AV H' P2 ah [] (λ a ha hn=>⟨E2.sub a ⟨ha,hn⟩,t2.2 a ⟨ha,hn⟩⟩) E2.BQ t2.1 k4 k5 (.sh .AV) zbv (λ a ha=>by cases ha) (λ a ha=>sub E2 a (k6 a ha)) (λ a ha=>by cases ha)
   ·exact hq.elim
  |FJ r ρ =>
   intro hq v fr σ' H' P2 t2 E2 o2 aP hf;unfold ES at hq;dsimp only at hq;split at hq
   ·rename_i t' e;obtain⟨c,ah,k1,k2,k3,k4,k5,k6⟩:=NW E2 e;exact hq v H' P2 ah fr (λ a ha hn=>⟨E2.sub a ⟨ha,hn⟩,t2.2 a ⟨ha,hn⟩⟩) E2.BQ t2.1 k4 k5 o2 aP (λ a ha=>(hf a ha).2.2 0 c _ ah k1 k2 k3) (λ a ha=>sub E2 a (k6 a ha)) (λ a ha=>sub E2 a ⟨(hf a ha).1,(hf a ha).2.1⟩)
   ·exact hq.elim
  |brk ρ|cont ρ=>exact λ h=>h.elim
end
def SO {K}{st}{kV}(l:K.lookup f=some ⟨oc,od,.func (zbb x qual (B8 st) (AF st) (A2 st) dV kV doc pm an B0 ct),Ud⟩)(c:zca K B0 qual=true)(k:zbk K (.ref f)=true):jU K x qual st f (zbb x qual (B8 st) (AF st) (A2 st) dV kV doc pm an B0 ct):=⟨⟨oc,od,dV,kV,doc,pm,an,B0,ct,Ud,rfl,l,c⟩,k⟩
structure ON (P:Program)(w:World)(K:za1)(mg:Str->Option Value)(base:Heap)(x:Str)(k n:Nat)(F:OT->List D->M (OT×OT)):Prop where
 ex:∃C fa fd ps,xO K mg x C/\Mk K C fa/\D4 P w K mg base (Sv P w base) k fa fd ps (Rq K n F)/\Binds K fd ps []/\Binds K fd ps [.none]
def ON.ini {K}(G:ON P w K mg base x k n F):abr P w K mg base x k n F:=by
 obtain⟨C,fa,fd,ps,h1,h2,h3,h4,_⟩:=G.ex;exact⟨⟨C,fa,fd,ps,h1,h2,h3,h4⟩⟩
structure OO (K:za1)(mg:Str->Option Value)(x qual:Str)(st:Stmt)(ps:List Str):Prop where
 ex:∃C f fd,xO K mg x C/\Mk K C f/\jU K "__init__" qual st f fd/\Binds K fd ps []/\Binds K fd ps [.none]
def UX {K}{st}(T:OO K mg x qual st ps)(S:Ab N ps (A2 st))(g:Ad->M Out)(hb:∀(f:Addr) (B0:Value) (A:Around) (outer:List Env) (s:Shared) (H:Hp) (E:XK),BE k (A.deeper (envOfC qual (A2 st) s.heap.objs.size f B0))->TX (mU P w K mg base N qual (A2 st) f B0 A outer s H E) (CL K E) (AF st) g)(hn: ~~~(ps.length=n)):
 ON P w K mg base x (k+1) n (λ t ax=>ES (g (D9 N t ax))):=by
 obtain⟨C,f,fd,h1,h2,F,hB⟩:=T.ex;subst hn;exact⟨⟨C,f,fd,ps,h1,h2,qQ F S g (hb f),hB⟩⟩
def ln0 {P:List Value->Prop}(h:P [])(us:List Value)(hl:us.length=0):P us:=by
 cases us with
 |nil=>exact h
 |cons _ _=>cases hl
def ln1 {P:List Value->Prop}(h:∀a,P [a])(us:List Value)(hl:us.length=1):P us:=by
 cases us with
 |nil=>cases hl
 |cons a us=>exact ln0 (P:=λ l=>P (a::l)) (h a) us (Nat.succ.inj hl)
def ln2 {P:List Value->Prop}(h:∀a b,P [a,b])(us:List Value)(hl:us.length=2):P us:=by
 cases us with
 |nil=>cases hl
 |cons a us=>exact ln1 (P:=λ l=>P (a::l)) (λ b=>h a b) us (Nat.succ.inj hl)
def ln3 {P:List Value->Prop}(h:∀a b c,P [a,b,c])(us:List Value)(hl:us.length=3):P us:=by
 cases us with
 |nil=>cases hl
 |cons a us=>exact ln2 (P:=λ l=>P (a::l)) (λ b c=>h a b c) us (Nat.succ.inj hl)
def ln4 {P:List Value->Prop}(h:∀a b c d,P [a,b,c,d])(us:List Value)(hl:us.length=4):P us:=by
 cases us with
 |nil=>cases hl
 |cons a us=>exact ln3 (P:=λ l=>P (a::l)) (λ b c d=>h a b c d) us (Nat.succ.inj hl)
def AD {K}{st}(X:K.In h)(G:h.Ns mainGlobals mg)(p:FP K x st)(hb:∀(kV dc pm:Value) (an:Option Addr) (cd ct:Value) (us:List Value),us.length=ps.length->bindArgs (zbb x x (B8 st) (AF st) (A2 st) .none kV dc pm an cd ct) ⟨us,[]⟩=pure (ps.zip us):=by first | exact (λ _ _ _ _ _ _=>ln1 λ _=>rfl) | exact (λ _ _ _ _ _ _=>ln2 λ _ _=>rfl) | exact (λ _ _ _ _ _ _=>ln3 λ _ _ _=>rfl) | exact (λ _ _ _ _ _ _=>ln4 λ _ _ _ _=>rfl)):Ax K mg x st ps:=by
 obtain⟨f,oc,od,an,sl,kV,dc,pm,cd,ct,a,l,c,k⟩:=p.ex;have F:=WK (st:=st) l c k;exact⟨⟨_,_,F,zd4 X G a,F.binds hb⟩⟩
def Rw {K}{st}(aC:zas K mainGlobals x=some (some (.ref C)))(cl:U9 K C)(p:MP K C m qual st)(hb:∀(kV dc pm:Value) (an:Option Addr) (cd ct:Value) (us:List Value),us.length=ps.length->bindArgs (zbb m qual (B8 st) (AF st) (A2 st) .none kV dc pm an cd ct) ⟨us,[]⟩=pure (ps.zip us):=by first | exact (λ _ _ _ _ _ _=>ln1 λ _=>rfl) | exact (λ _ _ _ _ _ _=>ln2 λ _ _=>rfl) | exact (λ _ _ _ _ _ _=>ln3 λ _ _ _=>rfl) | exact (λ _ _ _ _ _ _=>ln4 λ _ _ _ _=>rfl)):MD K x m qual st ps:=by
 obtain⟨f,oc,od,an,sl,kV,dc,pm,cd,ct,a,i,l,c,k⟩:=p.ex;have F:=WK (st:=st) l c k;exact⟨⟨_,_,_,aC,cl,⟨a,i,k⟩,F,F.binds hb⟩⟩
open PySem PySem.W PySem.Calls PyProof.Rows
abbrev R0:Rn:=⟨topRun,Heap.nsMap,importEnds,fenceModules?,PySem.start,treeTable⟩
def xR:R0=R1:=by
 unfold R0 R1;rw[PySem.W.Fast.te14082659384304107361,PySem.W.Fast.te8920871248978507458,PySem.W.Fast.te10274390034422433532,PySem.W.Fast.te14289696077712309145,PySem.W.Fast.te1435165496053646825,PySem.W.Fast.te14364793385576792824]
def Yz (p:Program)(w:World)(N:Nat):openEnds treeTable p w N=XW R0 p w N:=by
 unfold openEnds fencedOpening XW;rfl
def OP:∀ {as:List Addr},(frO h as).lookup a=some o->h.get? a=some o
 |[],e=>by cases e
 |b::r,e=>by
  unfold frO at e;rw[zbj] at e;cases q:h.get? b with
  |none=>rw[q] at e;exact OP (as:=r) e
  |some u =>
   rw[q] at e;dsimp only [zck] at e;rw[zc8] at e;cases c:a==b with
   |true=>rw[c] at e;cases e;rw[eq_of_beq c];exact q
   |false=>rw[c] at e;exact OP (as:=r) e
abbrev abu (h h':Heap):Prop:=∀(b:Addr) (o:Obj),h.get? b=some o->h'.get? b=some o
def xS (s:abu h h'):(frO h as).In h':=λ a o e=>s a o (OP e)
def qR {lo}(h:∀w:World,(openEnds treeTable p w N).map (λ s=>openSeen q lo (importedModules p.main.body) Xt true s)=some (openGood q lo)):LeftO p q lo Xt (λ s=>s.heap) (λ w=>dU R0 p w N) N:=λ w=>by
 have e:=h w;unfold dU;dsimp only;rw[<-Yz];cases q':openEnds treeTable p w N with
 |none=>rw[q'] at e;cases e
 |some s =>
  rw[q'] at e;rw[zck] at e ⊢;dsimp only;rw[zb0 e]
def abv {l:PySem.W.OpenLaw}{K:World->za1}{CX:World->Y0}{sp:World->Sp}(hn:l.most=some n)(a7:n<=sizeLine)(gx:d.params.defaults=[])(hr:BE k callerA)(hY:∀(w:World) (h:Heap),YP w h->(K w).In h)(F:∀(w:World) (mg:Str->Option Value) (fa:Addr) (h:Heap),(K w).In h->h.Ns mainGlobals mg->mg d.name=some (.ref fa)->∃fd:FuncData,(∀(s:Shared) (u:Value),BindsTo s fd ⟨[u],[]⟩ [(x,u)])/\
  ∀base:Heap,(K w).In base->base.Ns mainGlobals mg->D4 l.prog w (K w) mg base (CX w) k fa fd [x] (sp w))(bD:∀(w:World) (H:Hp) (a:Addr) (ns:List Int),(∀n∈ns,Sm n)->ns.length<=n->oA H->Ds (K w) H a (ns.map V.int)->sp w [.ref a] H (λ v _=>v=.bl true) λ _ _ _=>False)(ju:∀(w:World) (H:Hp) (s:Shared) (e:Value) (s':Shared),CX w [] H s (λ _ _ _=>False) e s'->False):PySem.W.WalkO q loose XP YP l.row.toRowW d [] (λ f vs=>PySem.call f vs):=by
 refine HT.Rl hn gx λ w s₀ s₁ mg mb fa o pm cd doc a vs ns bc G Y ho hd aT gy cz bm hlen hg=>?_;have KX:=hY w _ Y;obtain⟨fd,hb,hF⟩:=F w mg fa _ KX G.T.g gy;exact Ui KX G.T.g G.T.b G.T.builtins G.T.nolimit hg cz bm (zc4 hlen a7) hr hF hb (λ H hO hS=>bD w H a ns bc hlen hO hS) λ H e s'=>ju w H s₁ e s'
abbrev cst:Option (Int×Int)->D
 |none=>.AV
 |some p=>.tup [.int p.1,.int p.2]
abbrev Ak:Option (Int×Int)->Option (Int×Int)->Option (Int×Int)
 |some p,some q=>some (p.1+q.1,p.2+q.2)
 |_,_=>none
abbrev jV (p q:Int×Int):Int×Int:=if p.1<q.1\/(p.1=q.1/\p.2<=q.2) then p else q
abbrev DU:Option (Int×Int)->Option (Int×Int)->Option (Int×Int)
 |none,b=>b
 |some p,none=>some p
 |some p,some q=>some (jV p q)
abbrev HB (cs:List (Option (Int×Int))):Option (Int×Int):=cs.foldl DU none
def ME (cs:List (Option (Int×Int))):B7 (λ d ρ=>.ok (ρ.set 0 (some (.val d)))) (λ ρ=>(rv 0 ρ).bind λ x=>.ok (!Bi x)) (rv 0) (cs.map cst) [none]=.ok ((cs.filterMap id).map λ p=>cst (some p)):=by
 induction cs with
 |nil=>rfl
 |cons c r ih =>
  rw[za6,B7];cases c with
  |none =>
   show B7 _ _ _ (r.map cst) [none]=_;rw[ih];rfl
  |some p =>
   show (match B7 _ _ _ (r.map cst) [none] with | .ok ys=>M.ok (cst (some p)::ys)|_=>.bad)=_;rw[ih];rfl
def bU (ps:List (Int×Int)):My (ps.map λ p=>cst (some p))=some (ps.map λ p=>(cst (some p),[p.1,p.2])):=by
 induction ps with
 |nil=>rfl
 |cons p r ih=>rw[za6,My,ih];rfl
def jW (cs:List (Option (Int×Int))):Cm ((cs.filterMap id).map λ p=>(cst (some p),[p.1,p.2]))=(HB cs).map λ p=>(cst (some p),[p.1,p.2]):=by
 have key:∀(cs:List (Option (Int×Int))) (z:Option (Int×Int)),((cs.filterMap id).map λ p=>(cst (some p),[p.1,p.2])).foldl G0 (z.map λ p=>(cst (some p),[p.1,p.2]))=(cs.foldl DU z).map λ p=>(cst (some p),[p.1,p.2]):=by
  intro cs;induction cs with
  |nil=>intro z;rfl
  |cons c r ih =>
   intro z;cases c with
   |none =>
    rw[show List.filterMap id (none::r)=List.filterMap id r from rfl,zb4,ih z];cases z<;>rfl
   |some q =>
    rw[show List.filterMap id (some q::r)=q::List.filterMap id r from rfl,za6,zb4,zb4,<-ih (DU z (some q))];congr 1;cases z with
    |none=>rfl
    |some p =>
     simp only[zck,G0,HT.Gq,HT.FG,DU,jV];by_cases h1:q.1=p.1
     ·by_cases h2:q.2=p.2
      ·rw[if_pos (show p.1<q.1\/(p.1=q.1/\p.2<=q.2) by omega)];simp[h1,h2]
      ·by_cases h3:q.2<p.2
       ·rw[if_neg (show ¬ (p.1<q.1\/(p.1=q.1/\p.2<=q.2)) by omega)];simp[h1,h2,h3]
       ·rw[if_pos (show p.1<q.1\/(p.1=q.1/\p.2<=q.2) by omega)];simp[h1,h2,h3]
     ·by_cases h3:q.1<p.1
      ·rw[if_neg (show ¬ (p.1<q.1\/(p.1=q.1/\p.2<=q.2)) by omega)];simp[h1,h3]
      ·rw[if_pos (show p.1<q.1\/(p.1=q.1/\p.2<=q.2) by omega)];simp[h1,h3]
 exact key cs none
def qS (cs:List (Option (Int×Int))):Yi (.lst ((cs.filterMap id).map λ p=>cst (some p))) .AV=.ok (cst (HB cs)):=by
 simp only[Yi,bU,jW];cases HB cs<;>rfl
def jX (cs:List (Option (Int×Int))):Ri (B7 (λ d ρ=>.ok (ρ.set 0 (some (.val d)))) (λ ρ=>(rv 0 ρ).bind λ x=>.ok (!Bi x)) (rv 0) (cs.map cst) [none])=.ok (.lst ((cs.filterMap id).map λ p=>cst (some p))):=by
 rw[ME];rfl
noncomputable abbrev Co:=Option (Int×Int)
variable {Cf:Int->Int->Co}
abbrev Bz:Co->Co->Prop
 |_,none=>True
 |none,some _=>False
 |some p,some q=>p.1<q.1\/(p.1=q.1/\p.2<=q.2)
def Cb:∀a:Co,Bz a a
 |none=>trivial
 |some p=>.inr ⟨rfl,Int.le_refl _⟩
def Ap:∀ {a b c:Co},Bz a b->Bz b c->Bz a c
 |_,_,none,_,_=>trivial
 |none,none,some _,_,h|some _,none,some _,_,h|none,some _,some _,h,_=>h.elim
 |some p,some q,some r,h1,h2=>by simp only[Bz] at *;omega
def KU:∀ {a b:Co},Bz a b->Bz b a->a=b
 |none,none,_,_=>rfl
 |none,some _,h,_|some _,none,_,h=>h.elim
 |some p,some q,h1,h2=>by
  obtain⟨p1,p2⟩:=p;obtain⟨q1,q2⟩:=q;simp only[Bz] at h1 h2;have e1:p1=q1:=by omega
  have e2:p2=q2:=by omega
  rw[e1,e2]
def BH:∀a b:Co,(DU a b=a/\Bz a b)\/(DU a b=b/\Bz b a/\a≠b)
 |none,none=>.inl ⟨rfl,trivial⟩
 |none,some q=>.inr ⟨rfl,trivial,λ h=>by cases h⟩
 |some p,none=>.inl ⟨rfl,trivial⟩
 |some p,some q=>by
  unfold DU jV;by_cases h:p.1<q.1\/(p.1=q.1/\p.2<=q.2)
  ·dsimp only;rw[if_pos h];exact .inl ⟨rfl,h⟩
  ·dsimp only;rw[if_neg h];refine .inr ⟨rfl,?_,λ e=>?_⟩
   ·simp only[Bz];omega
   ·cases e;exact h (.inr ⟨rfl,Int.le_refl _⟩)
def DV (a b:Co):Bz (DU a b) a:=by
 rcases BH a b with ⟨e,h⟩|⟨e,h,_⟩
 ·rw[e];exact Cb a
 ·rw[e];exact h
def Ex (a b:Co):Bz (DU a b) b:=by
 rcases BH a b with ⟨e,h⟩|⟨e,h,_⟩
 ·rw[e];exact h
 ·rw[e];exact Cb b
def UY (cs:List Co):∀z:Co,Bz (cs.foldl DU z) z/\(∀x∈cs,Bz (cs.foldl DU z) x)/\(cs.foldl DU z=z\/cs.foldl DU z∈cs):=by
 induction cs with
 |nil=>intro z;exact⟨Cb z,(λ x h=>by cases h),.inl rfl⟩
 |cons c r ih =>
  intro z;obtain⟨h1,h2,h3⟩:=ih (DU z c);rw[zb4];refine⟨Ap h1 (DV z c),λ x hx=>?_,?_⟩
  ·rcases zab.mp hx with rfl|hx
   ·exact Ap h1 (Ex z x)
   ·exact h2 x hx
  ·rcases h3 with h3|h3
   ·rw[h3];rcases BH z c with ⟨e,_⟩|⟨e,_⟩
    ·exact .inl e
    ·rw[e];exact .inr za3
   ·exact .inr (za4 _ h3)
def NY (h:x∈cs):Bz (HB cs) x:=(UY cs none).2.1 x h
def KW (cs:List Co):HB cs=none\/HB cs∈cs:=(UY cs none).2.2
def YA (h1:∀x∈cs,Bz v x)(h2:v≠none->∃x∈cs,Bz x v):HB cs=v:=by
 refine KU ?_ ?_
 ·cases v with
  |none=>cases HB cs<;>exact trivial
  |some p =>
   obtain⟨x,hx,hl⟩:=h2 (by intro z;cases z);exact Ap (NY hx) hl
 ·rcases KW cs with h|h
  ·rw[h];cases v<;>exact trivial
  ·exact h1 _ h
def Bo:∀a b:Co,Ak a b=Ak b a
 |none,none=>rfl
 |none,some _|some _,none=>rfl
 |some p,some q=>by simp only[Ak];rw[Int.add_comm,Int.add_comm p.2]
def Cg:∀ {a b:Co}(c:Co),Bz a b->Bz (Ak a c) (Ak b c)
 |_,none,c,_=>by cases c<;>exact trivial
 |none,some _,c,h=>h.elim
 |some p,some q,none,h=>trivial
 |some p,some q,some r,h=>by simp only[Ak,Bz] at *;omega
abbrev NN:Co->Prop
 |none=>True
 |some p=>0<=p.1/\0<=p.2
def OQ:∀ {a b:Co},NN a->NN b->NN (Ak a b)
 |none,none,_,_=>trivial
 |none,some _,_,_|some _,none,_,_=>trivial
 |some p,some q,h1,h2=>by simp only[Ak,NN] at *;omega
def jY (h1:NN a)(h2:NN b):NN (DU a b):=by
 rcases BH a b with ⟨e,_⟩|⟨e,_⟩
 ·rw[e];exact h1
 ·rw[e];exact h2
abbrev ltN (a b:Co):Prop:=NN a/\Bz a b/\a≠b
def bV (a b c:Co)(h1:ltN a b)(h2:ltN b c):ltN a c:=
 ⟨h1.1,Ap h1.2.1 h2.2.1,λ e=>by subst e;exact h1.2.2 (KU h1.2.1 h2.2.1)⟩
abbrev rank:Co->Nat×Nat×Nat
 |none=>(1,0,0)
 |some p=>(0,p.1.toNat,p.2.toNat)
def xT:∀a:Co,NN a->Acc ltN a:=by
 have wf:WellFounded (InvImage (Prod.Lex (· < ·) (Prod.Lex (· < ·) (· < ·))) rank):=InvImage.wf rank (Prod.lex Nat.lt_wfRel (Prod.lex Nat.lt_wfRel Nat.lt_wfRel)).wf;intro a;induction a using wf.induction with
 |h a ih =>
  intro ha;refine .intro _ λ b ⟨hb,hl,ae⟩=>ih b ?_ hb;cases b with
  |none=>cases a with
   |none=>exact (ae rfl).elim
   |some p=>exact hl.elim
  |some q=>cases a with
   |none=>exact Prod.Lex.left _ _ (by decide)
   |some p =>
    obtain⟨p1,p2⟩:=p;obtain⟨q1,q2⟩:=q;simp only[Bz,NN] at hl ha hb;show Prod.Lex _ _ (0,q1.toNat,q2.toNat) (0,p1.toNat,p2.toNat);refine Prod.Lex.right _ ?_;by_cases h:q1<p1
    ·exact Prod.Lex.left _ _ (by omega)
    ·have e:q1=p1:=by omega
     subst e;have h2:q2≠p2:=λ e=>ae (by rw[e]);exact Prod.Lex.right _ (by omega)
def qT (a:Co):Acc ltN a:=.intro _ λ b h=>xT b h.1
def bW (cs:List Co):Acc (Qp ltN) cs:=OA ltN qT cs.length cs rfl
structure Road where
 a:Int
 b:Int
 l:Option Int
 w:Int
variable {rs:List Road}
abbrev CN:Option Int->D
 |none=>.AV
 |some i=>.int i
abbrev Bw (r:Road):D:=.tup [.int r.a,.int r.b,CN r.l,.int r.w]
abbrev Al (m:Int)(rs:List Road):D:=.tup [.int m,.lst (rs.map Bw)]
abbrev Cn (r:Road):Co:=match r.l with | none=>none | some l=>some (l,1)
structure Jl (m:Nat)(r:Road):Prop where
 a0:0<=r.a
 a1:r.a<m
 b0:0<=r.b
 b1:r.b<m
 l0:∀l,r.l=some l->0<=l
abbrev Dm (r:Road):Road:=⟨r.b,r.a,r.l,r.w⟩
def Jl.turn (h:Jl m r):Jl m (Dm r):=⟨h.b0,h.b1,h.a0,h.a1,h.l0⟩
def YB (h:Jl m r):NN (Cn r):=by
 unfold Cn;split
 ·trivial
 ·rename_i l e;exact⟨h.l0 l e,by show (0:Int)<=1;decide⟩
abbrev atC (cs:List Co)(i:Int):Co:=cs.getD i.toNat none
def Dd (h0:0<=i)(h1:i<cs.length):cs[i.toNat]?=some (atC cs i):=by
 unfold atC;rw[zai,za7 (show i.toNat<cs.length by omega)];rfl
def set_same {α:Type}:∀ {l:List α}{i:Nat}{x:α},l[i]?=some x->l.set i x=l
 |[],_,_,h=>by cases h
 |y::r,0,x,h=>by cases h;rfl
 |y::r,i+1,x,h=>by rw[za8,set_same (by simpa using h)]
abbrev Dx (r:Road)(cs:List Co):List Co:=cs.set r.b.toNat (DU (atC cs r.b) (Ak (atC cs r.a) (Cn r)))
def Jh (hi:0<=i)(hj:0<=j)(h1:i<cs.length):atC (cs.set i.toNat v) j=if j=i then v else atC cs j:=by
 unfold atC;rw[zai,zai];by_cases h:j=i
 ·subst h;rw[if_pos rfl,zb2 (by omega)];rfl
 ·rw[if_neg h,zbm (by omega)]
structure Good (m s:Nat)(rs:List Road)(cs:List Co):Prop where
 len:cs.length=m
 st:atC cs s=some (0,0)
 nn:∀c∈cs,NN c
 sup:∀p:Int,0<=p->p<m->p≠s->atC cs p≠none->∃r∈rs,r.b=p/\Bz (Ak (atC cs r.a) (Cn r)) (atC cs p)
def Good.tH (g:Good m s rs cs){i:Int}(h0:0<=i)(h1:i<m):NN (atC cs i):=
 g.nn _ (zan (Dd h0 (by rw[g.len];exact h1)))
def bX (g:Good m s rs cs)(hr:r∈rs)(Aw:∀r∈rs,Jl m r):
 Good m s rs (Dx r cs)/\(∀i:Int,0<=i->Bz (atC (Dx r cs) i) (atC cs i))/\(DU (atC cs r.b) (Ak (atC cs r.a) (Cn r))=atC cs r.b->Dx r cs=cs)/\
 (DU (atC cs r.b) (Ak (atC cs r.a) (Cn r))≠atC cs r.b->Qp ltN (Dx r cs) cs):=by
 have ok:=Aw r hr;have c8:r.b<cs.length:=by rw[g.len];exact ok.b1
 have hx:NN (Ak (atC cs r.a) (Cn r)):=OQ (g.tH ok.a0 ok.a1) (YB ok);have hv:NN (DU (atC cs r.b) (Ak (atC cs r.a) (Cn r))):=jY (g.tH ok.b0 ok.b1) hx;have aY:∀i:Int,0<=i->atC (Dx r cs) i=if i=r.b then DU (atC cs r.b) (Ak (atC cs r.a) (Cn r)) else atC cs i:=λ i hi=>Jh ok.b0 hi c8
 have le:∀i:Int,0<=i->Bz (atC (Dx r cs) i) (atC cs i):=λ i hi=>by
  rw[aY i hi];by_cases h:i=r.b
  ·rw[if_pos h,h];exact DV _ _
  ·rw[if_neg h];exact Cb _
 refine⟨⟨by unfold Dx;rw[zbu];exact g.len,?_,λ c hc=>?_,λ p h0 h1 hp hn=>?_⟩,le,λ h=>?_,λ h=>?_⟩
 ·rw[aY s (by omega)];by_cases h:(s:Int)=r.b
  ·rw[if_pos h,<-h,g.st];cases q:Ak (atC cs r.a) (Cn r) with
   |none=>rfl
   |some x =>
    rw[q] at hx;unfold DU jV;dsimp only;rw[if_pos (by simp only[NN] at hx;omega)]
  ·rw[if_neg h];exact g.st
 ·unfold Dx at hc;rcases zdd hc with h|h
  ·exact g.nn c h
  ·rw[h];exact hv
 ·rw[aY p h0] at hn ⊢;by_cases h:p=r.b
  ·rw[if_pos h] at hn ⊢;rcases BH (atC cs r.b) (Ak (atC cs r.a) (Cn r)) with ⟨e,_⟩|⟨e,_⟩
   ·rw[e] at hn ⊢;subst h;obtain⟨r',h2,h3,h4⟩:=g.sup r.b h0 h1 hp hn;exact⟨r',h2,h3,Ap (Cg _ (le r'.a (Aw r' h2).a0)) h4⟩
   ·rw[e];exact⟨r,hr,h.symm,Cg _ (le r.a ok.a0)⟩
  ·rw[if_neg h] at hn ⊢;obtain⟨r',h2,h3,h4⟩:=g.sup p h0 h1 hp hn;exact⟨r',h2,h3,Ap (Cg _ (le r'.a (Aw r' h2).a0)) h4⟩
 ·unfold Dx;rw[h];exact set_same (Dd ok.b0 c8)
 ·unfold Dx;exact Yl ltN (Dd ok.b0 c8) ⟨hv,DV _ _,h⟩
abbrev Right (m s:Nat)(rs:List Road)(cs:List Co):Prop:=
 cs.length=m/\atC cs s=some (0,0)/\(∀c∈cs,NN c)/\∀p:Int,0<=p->p<m->p≠s->atC cs p=HB ((rs.filter λ r=>decide (r.b=p)).map λ r=>Ak (Cn r) (atC cs r.a))
def right_of (g:Good m s rs cs)(h:∀r∈rs,DU (atC cs r.b) (Ak (atC cs r.a) (Cn r))=atC cs r.b):Right m s rs cs:=by
 refine⟨g.len,g.st,g.nn,λ p h0 h1 hp=>?_⟩;symm;refine YA (λ x hx=>?_) λ hn=>?_
 ·obtain⟨r,hr,rfl⟩:=zar.mp hx;obtain⟨h2,h3⟩:=zbc.mp hr;have e:r.b=p:=by simpa using h3
  have:=Ex (atC cs r.b) (Ak (atC cs r.a) (Cn r));rw[h r h2,e] at this;rw[Bo];exact this
 ·obtain⟨r,h2,h3,h4⟩:=g.sup p h0 h1 hp hn;refine⟨_,zar.mpr ⟨r,zbc.mpr ⟨h2,by simpa using h3⟩,rfl⟩,?_⟩;rw[Bo];exact h4
def OR (rs:List Road)(h:s<m):Good m s rs ((zag m none).set s (some (0,0))):=by
 have hl:(zag m (none:Co)).length=m:=zd6;have aY:∀i:Int,0<=i->atC ((zag m none).set s (some (0,0))) i=if i=s then some (0,0) else none:=λ i hi=>by
  have:=Jh (cs:=zag m none) (i:=(s:Int)) (j:=i) (v:=some (0,0)) (by omega) hi (by rw[hl];omega);rw[zbr] at this;rw[this];by_cases h:i=s
  ·rw[if_pos h,if_pos h]
  ·rw[if_neg h,if_neg h];unfold atC;rw[zai,zcg];split<;>rfl
 refine⟨by rw[zbu,hl],?_,λ c hc=>?_,λ p h0 h1 hp hn=>?_⟩
 ·rw[aY s (by omega),if_pos rfl]
 ·rcases zdd hc with h|h
  ·rw[List.eq_of_mem_replicate h];trivial
  ·rw[h];exact⟨Int.le_refl _,Int.le_refl _⟩
 ·rw[aY p h0,if_neg hp] at hn;exact (hn rfl).elim
def xU {α:Type}{l:List α}{n:Int}(h:0<=n/\n<l.length):R5 l n=l[n.toNat]? :=by
 unfold R5 Qw;obtain⟨h1,h2⟩:=h;simp[h1,h2]
def KY {n:Nat}{j:Int}(h:0<=j/\j<n):Qw n j=some j.toNat:=by
 unfold Qw;obtain⟨h1,h2⟩:=h;simp[h1,h2]
def Ft {α:Type}{f}{l:List α}{x}(h0:0<=n)(h:l[n.toNat]?=some x):oQ (.lst (l.map f)) (.int n)=.ok (f x):=by
 have h1:=(zam.mp h).1;unfold oQ;dsimp only;rw[xU (by rw[za2];omega),zap,h];rfl
def BX (h0:0<=i)(h1:i<cs.length):oQ (.lst (cs.map cst)) (.int i)=.ok (cst (atC cs i)):=Ft h0 (Dd h0 h1)
def SQ (c:Co):Pl (n+1) (cst c):=by
 cases c with
 |none=>exact gF
 |some p=>exact X0 (Fs (Dw _) (Fs (Dw _) X2))
def YC (a b:Co):By (cst a) (cst b)=decide (a=b):=by
 rcases a with _|⟨a1,a2⟩<;>rcases b with _|⟨b1,b2⟩
 ·simp[cst,By]
 ·simp[cst,By]
 ·simp[cst,By]
 ·rw[zd9];simp[cst,By,Cw]
def qU (a b:Co):sT 16 (cst a) (cst b)=.ok (.bl (!decide (a=b))):=by rw[X3 (SQ (n:=15) a) (SQ (n:=15) b),YC]
def KZ (a b:Co):mS 16 (cst a) (cst b)=.ok (.bl (decide (a=b))):=by rw[Sy (SQ (n:=15) a) (SQ (n:=15) b),YC]
def YD (c:Co):Nj (cst c)=true:=by
 cases c<;>simp[cst,Nj,ZD]
def jZ (c:Co):dp (.ok (cst c))=.ok (cst c):=by
 unfold dp;rw[M.Aa,if_pos (YD c)]
def xV (l:Option Int):Pl n (CN l):=by
 cases l with
 |none=>exact gF
 |some i=>exact Dw i
def abw (r:Road):Pl 1 (Bw r):=X0 (Fs (Dw _) (Fs (Dw _) (Fs (xV r.l) (Fs (Dw _) X2))))
def BY (h:0<b):HP (.int a) (.int b)=.ok (.int (a%b)):=by
 unfold HP BF;dsimp only;rw[if_pos h]
def Cy (h:eK a b):Hj (.int a) (.int b)=.ok (.int (a / b)):=by
 unfold Hj BF;dsimp only;rw[if_pos h]
inductive Wk (rs:List Road):Int->Int->Int×Int->Prop
 |nil (u:Int):Wk rs u u (0,0)
 |cons {r:Road} {l:Int} {w:Int} {c:Int×Int}:r∈rs->r.l=some l->Wk rs r.b w c->Wk rs r.a w (l+c.1,1+c.2)
def Wk.trans (h:Wk rs u v c)(k:Wk rs v w d):Wk rs u w (c.1+d.1,c.2+d.2):=by
 induction h with
 |nil u=>simpa using k
 |cons hr hl _ ih =>
  have:=Wk.cons hr hl (ih k);simpa [zcq] using this
def Wk.one (hr:r∈rs)(hl:r.l=some l):Wk rs r.a r.b (l,1):=by
 have:=Wk.cons hr hl (Wk.nil (rs:=rs) r.b);simpa using this
abbrev B9 (rs:List Road)(u w:Int)(x:Co):Prop:=(∀c,Wk rs u w c->Bz x (some c))/\∀p,x=some p->Wk rs u w p
def B9.BM (h:B9 rs u w x)(k:B9 rs u w y):x=y:=by
 refine KU ?_ ?_
 ·cases y with
  |none=>cases x<;>exact trivial
  |some q=>exact h.1 q (k.2 q rfl)
 ·cases x with
  |none=>cases y<;>exact trivial
  |some q=>exact k.1 q (h.2 q rfl)
def Ih (h:Cn r=some c):∃l,r.l=some l/\c=(l,1):=by
 unfold Cn at h;split at h
 ·cases h
 ·rename_i l e;cases h;exact⟨l,e,rfl⟩
def D2 (h:Ak a b=some c):∃p q,a=some p/\b=some q/\c=(p.1+q.1,p.2+q.2):=by
 cases a with
 |none=>cases h
 |some p=>cases b with
  |none=>cases h
  |some q=>cases h;exact⟨p,q,rfl,rfl,rfl⟩
def Right.min_le (h:Right m s rs cs)(hr:r∈rs)(Aw:Jl m r):Bz (atC cs r.b) (Ak (Cn r) (atC cs r.a)):=by
 obtain⟨h1,h2,h3,h4⟩:=h;by_cases hs:r.b=s
 ·rw[hs,h2];have hn:NN (Ak (Cn r) (atC cs r.a)):=OQ (YB Aw) (h3 _ (zan (Dd Aw.a0 (by rw[h1];exact Aw.a1))));cases q:Ak (Cn r) (atC cs r.a) with
  |none=>exact trivial
  |some p=>rw[q] at hn;simp only[NN] at hn;simp only[Bz];omega
 ·rw[h4 r.b Aw.b0 Aw.b1 hs];exact NY (zar.mpr ⟨r,zbc.mpr ⟨hr,by simp⟩,rfl⟩)
def bY (h:Right m s rs cs)(Aw:∀r∈rs,Jl m r)(k:Wk rs u w c):Bz (atC cs w) (Ak (atC cs u) (some c)):=by
 induction k with
 |nil u =>
  cases atC cs u with
  |none=>exact trivial
  |some p=>simp only[Ak,Bz];omega
 | @cons r l w c hr hl _ ih =>
  refine Ap ih ?_;have h1:=h.min_le hr (Aw r hr);have e:Cn r=some (l,1):=by unfold Cn;rw[hl]
  rw[e] at h1;cases q:atC cs r.a with
  |none=>exact trivial
  |some p =>
   rw[q] at h1;cases q2:atC cs r.b with
   |none=>rw[q2] at h1;exact h1.elim
   |some p2=>rw[q2] at h1;simp only[Ak,Bz] at *;omega
def bZ {m s:Nat}{rs:List Road}{cs:List Co}(h:Right m s rs cs)(Aw:∀r∈rs,Jl m r):∀(n:Nat) (w:Int) (p:Int×Int),0<=w->w<m->atC cs w=some p->p.2.toNat=n->Wk rs s w p:=by
 obtain⟨h1,h2,h3,h4⟩:=h;intro n;induction n with
 |zero =>
  intro w p h0 hw hp hn;by_cases hs:w=s
  ·rw[hs,h2] at hp;cases hp;rw[hs];exact .nil _
  ·exfalso;have e:=h4 w h0 hw hs;rw[hp] at e;rcases KW ((rs.filter λ r=>decide (r.b=w)).map λ r=>Ak (Cn r) (atC cs r.a)) with z|z
   ·rw[z] at e;cases e
   ·rw[<-e] at z;obtain⟨r,hr,e2⟩:=zar.mp z;have bS:=(zbc.mp hr).1;obtain⟨p1,p2,e3,e4,e5⟩:=D2 e2;obtain⟨l,hl,rfl⟩:=Ih e3;have ok:=Aw r bS;have nn:=h3 _ (zan (Dd ok.a0 (by rw[h1];exact ok.a1)));rw[e4] at nn;simp only[NN] at nn;rw[e5] at hn;simp only at hn;omega
 |succ n ih =>
  intro w p h0 hw hp hn;by_cases hs:w=s
  ·rw[hs,h2] at hp;cases hp;rw[hs];exact .nil _
  ·have e:=h4 w h0 hw hs;rw[hp] at e;rcases KW ((rs.filter λ r=>decide (r.b=w)).map λ r=>Ak (Cn r) (atC cs r.a)) with z|z
   ·rw[z] at e;cases e
   ·rw[<-e] at z;obtain⟨r,hr,e2⟩:=zar.mp z;obtain⟨bS,sx⟩:=zbc.mp hr;have sx:r.b=w:=by simpa using sx
    obtain⟨p1,p2,e3,e4,e5⟩:=D2 e2;obtain⟨l,hl,rfl⟩:=Ih e3;have ok:=Aw r bS;have nn:=h3 _ (zan (Dd ok.a0 (by rw[h1];exact ok.a1)));rw[e4] at nn;simp only[NN] at nn;subst e5;simp only at hn;have w1:=ih r.a p2 ok.a0 ok.a1 e4 (by omega);have w2:=w1.trans (Wk.one bS hl);rw[sx] at w2;have e6:((l+p2.1,1+p2.2):Int×Int)=(p2.1+l,p2.2+1):=by rw[Int.add_comm l,Int.add_comm 1]
    show Wk rs s w (l+p2.1,1+p2.2);rw[e6];exact w2
def Right.UZ (h:Right m s rs cs)(Aw:∀r∈rs,Jl m r){w:Int}(h0:0<=w)(hw:w<m):B9 rs s w (atC cs w):=by
 refine⟨λ c k=>?_,λ p hp=>bZ h Aw _ w p h0 hw hp rfl⟩;have:=bY h Aw k;rw[h.2.1] at this;have e:Ak (some (0,0)) (some c)=some c:=by simp[Ak]
 rw[e] at this;exact this
def Xd (h:Bz a b)(k:Bz c d):Bz (Ak a c) (Ak b d):=by
 refine Ap (Cg c h) ?_;rw[Bo b c,Bo b d];exact Cg b k
def Dy:∀a b c:Co,Ak (Ak a b) c=Ak a (Ak b c)
 |none,b,c=>by cases b<;>cases c<;>rfl
 |some p,none,c=>by cases c<;>rfl
 |some p,some q,none=>rfl
 |some p,some q,some r=>by simp only[Ak];rw[zcq,zcq]
def Rx:∀a:Co,Ak a (some (0,0))=a
 |none=>rfl
 |some p=>by simp[Ak]
def Ry (a:Co):Ak (some (0,0)) a=a:=by rw[Bo];exact Rx a
def V0 (a:Co):DU a a=a:=by rcases BH a a with ⟨e,_⟩ | ⟨e,_⟩<;>exact e
def kA (h:NN b):Bz a (Ak a b):=by
 cases a with
 |none=>exact trivial
 |some p=>cases b with
  |none=>exact trivial
  |some q=>simp only[NN] at h;simp only[Ak,Bz];omega
structure FW (m k:Nat)(rs:List Road)(A:Int->Int->Co):Prop where
 dg:∀x:Int,0<=x->x<m->A x x=some (0,0)
 nn:∀x y:Int,0<=x->x<m->0<=y->y<m->NN (A x y)
 sd:∀x y:Int,0<=x->x<m->0<=y->y<m->∀p,A x y=some p->Wk rs x y p
 ed:∀r∈rs,Bz (A r.a r.b) (Cn r)
 tr:∀v x y:Int,0<=v->v<k->0<=x->x<m->0<=y->y<m->Bz (A x y) (Ak (A x v) (A v y))
abbrev over (k:Int)(A:Int->Int->Co):Int->Int->Co:=λ x y=>DU (A x y) (Ak (A x k) (A k y))
def V3 (F:FW m k rs A)(hk:k<m)(x:Int):over k A x k=A x k:=by
 unfold over;rw[F.dg k (by omega) (by omega),Rx,V0]
def V4 (F:FW m k rs A)(hk:k<m)(y:Int):over k A k y=A k y:=by
 unfold over;rw[F.dg k (by omega) (by omega),Ry,V0]
def kB (F:FW m k rs A)(hk:k<m):FW m (k+1) rs (over k A):=by
 have k0:(0:Int)<=k:=by omega
 have k1:(k:Int)<m:=by omega
 refine⟨λ x h0 h1=>?_,λ x y h0 h1 h2 h3=>jY (F.nn x y h0 h1 h2 h3) (OQ (F.nn x k h0 h1 k0 k1) (F.nn k y k0 k1 h2 h3)),λ x y h0 h1 h2 h3 p hp=>?_,λ r hr=>Ap (DV _ _) (F.ed r hr),λ v x y v0 v1 h0 h1 h2 h3=>?_⟩
 ·unfold over;rw[F.dg x h0 h1];have hn:NN (Ak (A x k) (A k x)):=OQ (F.nn x k h0 h1 k0 k1) (F.nn k x k0 k1 h0 h1);cases q:Ak (A x k) (A k x) with
  |none=>rfl
  |some z =>
   rw[q] at hn;simp only[NN] at hn;unfold DU jV;dsimp only;rw[if_pos (by omega)]
 ·unfold over at hp;rcases BH (A x y) (Ak (A x k) (A k y)) with ⟨e,_⟩|⟨e,_⟩
  ·rw[e] at hp;exact F.sd x y h0 h1 h2 h3 p hp
  ·rw[e] at hp;obtain⟨p1,p2,e1,e2,rfl⟩:=D2 hp;exact (F.sd x k h0 h1 k0 k1 p1 e1).trans (F.sd k y k0 k1 h2 h3 p2 e2)
 ·by_cases hv:v=k
  ·subst hv;rw[V3 F hk,V4 F hk];exact Ex _ _
  ·have vk:v<k:=by omega
   have vm:v<m:=by omega
   have yn:=F.tr v x y v0 vk h0 h1 h2 h3;have yo:=F.tr v k y v0 vk k0 k1 h2 h3;have yp:=F.tr v x k v0 vk h0 h1 k0 k1;have g1:Bz (over k A x y) (A x y):=DV _ _;have g2:Bz (over k A x y) (Ak (A x k) (A k y)):=Ex _ _;have yq:=F.nn k v k0 k1 v0 vm;have yr:=F.nn v k v0 vm k0 k1;have e1:over k A x v=DU (A x v) (Ak (A x k) (A k v)):=rfl;have e2:over k A v y=DU (A v y) (Ak (A v k) (A k y)):=rfl;rw[e1,e2];rcases BH (A x v) (Ak (A x k) (A k v)) with ⟨e,_⟩|⟨e,_⟩<;>rcases BH (A v y) (Ak (A v k) (A k y)) with ⟨e',_⟩|⟨e',_⟩<;>rw[e,e']
   ·exact Ap g1 yn
   ·refine Ap g2 ?_;rw[<-Dy];exact Cg _ yp
   ·refine Ap g2 ?_;rw[Dy,Bo (A x k),Bo (A x k)];exact Cg _ yo
   ·refine Ap g2 ?_;have e3:Ak (Ak (A x k) (A k v)) (Ak (A v k) (A k y))=Ak (Ak (A x k) (A k y)) (Ak (A k v) (A v k)):=by
     rw[Dy,Dy,<-Dy (A k v),Bo (Ak (A k v) (A v k))]
    rw[e3];exact kA (OQ yq yr)
def xW (F:FW m m rs A)(Aw:∀r∈rs,Jl m r){x y:Int}(h0:0<=x)(h1:x<m)(h2:0<=y)(h3:y<m):B9 rs x y (A x y):=by
 refine⟨λ c k=>?_,F.sd x y h0 h1 h2 h3⟩;induction k with
 |nil u=>rw[F.dg u h0 h1];exact Cb _
 | @cons r l w c hr hl k' ih =>
  have ok:=Aw r hr;have i1:=ih ok.b0 ok.b1 h2 h3;have t:=F.tr r.b r.a w ok.b0 (by have:=ok.b1;omega) h0 h1 h2 h3;have e:=F.ed r hr;have e':Cn r=some (l,1):=by unfold Cn;rw[hl]
  rw[e'] at e;refine Ap t (Ap (Xd e i1) ?_);exact Cb _
structure QE (m:Nat)(rs:List Road)(u:Int)(n:Nat)(R:List Co):Prop where
 len:R.length=m
 st:atC R u=some (0,0)
 nn:∀c∈R,NN c
 sd:∀y:Int,0<=y->y<m->∀p,atC R y=some p->Wk rs u y p
 ed:∀r∈rs.take n,r.a=u->Bz (atC R r.b) (Cn r)
def cB (rs:List Road)(h:u<m):QE m rs u 0 ((zag m none).set u (some (0,0))):=by
 have g:=OR (m:=m) (s:=u) rs h;refine⟨g.len,g.st,g.nn,λ y h0 h1 p hp=>?_,λ r hr=>by rw[List.take_zero] at hr;cases hr⟩;by_cases hy:y=u
 ·rw[hy,g.st] at hp;cases hp;rw[hy];exact .nil _
 ·have:=Jh (cs:=zag m none) (i:=(u:Int)) (j:=y) (v:=some (0,0)) (by omega) h0 (by rw[zd6];omega);rw[zbr,if_neg hy] at this;rw[this] at hp;unfold atC at hp;rw[zai,zcg] at hp;split at hp<;>cases hp
def V5 (g:QE m rs u n R)(hr:rs[n]?=some r)(hu:r.a≠u):QE m rs u (n+1) R:=
 ⟨g.len,g.st,g.nn,g.sd,λ r' aZ aj=>by
  rw[zc0,hr] at aZ;rcases zao.mp aZ with h|h
  ·exact g.ed r' h aj
  ·have:r'=r:=by simpa using h
   rw[this] at aj;exact (hu aj).elim⟩
def V6 (g:QE m rs u n R)(hr:rs[n]?=some r)(hu:r.a=u)(Aw:∀r∈rs,Jl m r):QE m rs u (n+1) (R.set r.b.toNat (DU (atC R r.b) (Cn r))):=by
 have hm:=zan hr;have ok:=Aw r hm;have c8:r.b<R.length:=by rw[g.len];exact ok.b1
 have aY:∀i:Int,0<=i->atC (R.set r.b.toNat (DU (atC R r.b) (Cn r))) i=if i=r.b then DU (atC R r.b) (Cn r) else atC R i:=λ i hi=>Jh ok.b0 hi c8
 have nb:NN (atC R r.b):=g.nn _ (zan (Dd ok.b0 c8));refine⟨by rw[zbu];exact g.len,?_,λ c hc=>?_,λ y h0 h1 p hp=>?_,λ r' aZ aj=>?_⟩
 ·rw[aY u (by rw[<-hu];exact ok.a0)];by_cases h:u=r.b
  ·rw[if_pos h,<-h,g.st];have hx:=YB ok;cases q:Cn r with
   |none=>rfl
   |some z =>
    rw[q] at hx;simp only[NN] at hx;unfold DU jV;dsimp only;rw[if_pos (by omega)]
  ·rw[if_neg h];exact g.st
 ·rcases zdd hc with h|h
  ·exact g.nn c h
  ·rw[h];exact jY nb (YB ok)
 ·rw[aY y h0] at hp;by_cases h:y=r.b
  ·rw[if_pos h] at hp;rcases BH (atC R r.b) (Cn r) with ⟨e,_⟩|⟨e,_⟩
   ·rw[e] at hp;rw[h];exact g.sd r.b ok.b0 ok.b1 p hp
   ·rw[e] at hp;obtain⟨l,hl,rfl⟩:=Ih hp;rw[h,<-hu];exact Wk.one hm hl
  ·rw[if_neg h] at hp;exact g.sd y h0 h1 p hp
 ·have sy:r'∈rs:=zc7 aZ;rw[aY r'.b (Aw r' sy).b0];rw[zc0,hr] at aZ;rcases zao.mp aZ with h|h
  ·by_cases hb:r'.b=r.b
   ·rw[if_pos hb];have:=g.ed r' h aj;rw[hb] at this;exact Ap (DV _ _) this
   ·rw[if_neg hb];exact g.ed r' h aj
  ·have e:r'=r:=by simpa using h
   rw[e,if_pos rfl];exact Ex _ _
abbrev at2 (ac:List (List Co))(x y:Int):Co:=atC (ac.getD x.toNat []) y
abbrev AU (ac:List (List Co)):List (List D):=ac.map λ R=>R.map cst
structure OS (m:Nat)(ac:List (List Co)):Prop where
 len:ac.length=m
 row:∀R∈ac,R.length=m
def OS.get (h:OS m ac){x:Int}(h0:0<=x)(h1:x<m):ac[x.toNat]?=some (ac.getD x.toNat [])/\(ac.getD x.toNat []).length=m:=by
 have hl:x.toNat<ac.length:=by rw[h.len];omega
 have e:ac[x.toNat]?=some (ac.getD x.toNat []):=by rw[zai,za7 hl];rfl
 exact⟨e,h.row _ (zan e)⟩
abbrev put2 (ac:List (List Co))(x y:Int)(v:Co):List (List Co):=ac.set x.toNat ((ac.getD x.toNat []).set y.toNat v)
def OS.put (h:OS m ac){x y:Int}(h0:0<=x)(h1:x<m)(h2:0<=y)(h3:y<m)(v:Co):OS m (put2 ac x y v)/\∀x' y':Int,0<=x'->0<=y'->at2 (put2 ac x y v) x' y'=if x'=x/\y'=y then v else at2 ac x' y':=by
 obtain⟨e,hl⟩:=h.get h0 h1;refine⟨⟨by unfold put2;rw[zbu];exact h.len,λ R hR=>?_⟩,λ x' y' hx hy=>?_⟩
 ·unfold put2 at hR;rcases zdd hR with z|z
  ·exact h.row R z
  ·rw[z,zbu];exact hl
 ·unfold at2 put2;by_cases vz:x'=x
  ·subst vz;have e2:(ac.set x'.toNat ((ac.getD x'.toNat []).set y.toNat v)).getD x'.toNat []=(ac.getD x'.toNat []).set y.toNat v:=by
    rw[zai (l:=ac.set _ _),zb2 (by rw[h.len];omega)];rfl
   rw[e2,Jh h2 hy (by rw[hl];exact h3)];by_cases nz:y'=y
   ·rw[if_pos nz,if_pos ⟨rfl,nz⟩]
   ·rw[if_neg nz,if_neg (λ z=>nz z.2)]
  ·have e2:(ac.set x.toNat ((ac.getD x.toNat []).set y.toNat v)).getD x'.toNat []=ac.getD x'.toNat []:=by
    rw[zai,zbm (by omega),zai]
   rw[e2,if_neg (λ z=>vz z.1)]
def V7 (h:OS m ac){x:Int}(h0:0<=x)(h1:x<m):rowAt (AU ac) (.int x)=.ok ((ac.getD x.toNat []).map cst):=by
 obtain⟨e,hl⟩:=h.get h0 h1;have e1:Qw (AU ac).length x=some x.toNat:=KY ⟨h0,by unfold AU;rw[za2,h.len];exact h1⟩;have e2:(AU ac)[x.toNat]?=some ((ac.getD x.toNat []).map cst):=by unfold AU;rw[zap,e];rfl
 unfold rowAt;simp only[e1,e2]
def qV (h:OS m ac){x y:Int}(h0:0<=x)(h1:x<m)(h2:0<=y)(h3:y<m):oQ (.lst ((ac.getD x.toNat []).map cst)) (.int y)=.ok (cst (at2 ac x y)):=
 BX h2 (by rw[(h.get h0 h1).2];exact h3)
def qW (h:OS m ac){x y:Int}(h0:0<=x)(h1:x<m)(h2:0<=y)(h3:y<m)(i:Nat)(ρ:Ad)(v:Co):pB i ρ (AU ac) (cst v) (.int x) ((ac.getD x.toNat []).map cst) (.int y)=.ok (.next (ρ.set i (some (.ow (.rows (AU (put2 ac x y v))))))):=by
 have e1:Qw (AU ac).length x=some x.toNat:=KY ⟨h0,by unfold AU;rw[za2,h.len];exact h1⟩;have e2:Qw ((ac.getD x.toNat []).map cst).length y=some y.toNat:=KY ⟨h2,by rw[za2,(h.get h0 h1).2];exact h3⟩;unfold pB;simp only[e1,e2];unfold AU put2;rw[List.map_set,List.map_set]
def FW.congr (F:FW m k rs A)(hk:k<=m)(Aw:∀r∈rs,Jl m r)(h:∀x y:Int,0<=x->x<m->0<=y->y<m->B x y=A x y):FW m k rs B:=by
 refine⟨λ x h0 h1=>?_,λ x y h0 h1 h2 h3=>?_,λ x y h0 h1 h2 h3 p hp=>?_,λ r hr=>?_,λ v x y v0 v1 h0 h1 h2 h3=>?_⟩
 ·rw[h x x h0 h1 h0 h1];exact F.dg x h0 h1
 ·rw[h x y h0 h1 h2 h3];exact F.nn x y h0 h1 h2 h3
 ·rw[h x y h0 h1 h2 h3] at hp;exact F.sd x y h0 h1 h2 h3 p hp
 ·have ok:=Aw r hr;rw[h r.a r.b ok.a0 ok.a1 ok.b0 ok.b1];exact F.ed r hr
 ·rw[h x y h0 h1 h2 h3,h x v h0 h1 v0 (by omega),h v y v0 (by omega) h2 h3];exact F.tr v x y v0 v1 h0 h1 h2 h3
def kC (hM:OS m ac)(Aw:∀r∈rs,Jl m r)(h:∀u:Nat,u<m->QE m rs u rs.length (ac.getD u [])):FW m 0 rs (at2 ac):=by
 have key:∀x:Int,0<=x->x<m->QE m rs x rs.length (ac.getD x.toNat []):=λ x h0 h1=>by
  have:=h x.toNat (by omega);rw[Int.toNat_of_nonneg h0] at this;exact this
 refine⟨λ x h0 h1=>(key x h0 h1).st,λ x y h0 h1 h2 h3=>(key x h0 h1).nn _ (zan (Dd h2 (by rw[(key x h0 h1).len];exact h3))),λ x y h0 h1 h2 h3 p hp=>(key x h0 h1).sd y h2 h3 p hp,λ r hr=>?_,λ v x y v0 v1=>by omega⟩;have ok:=Aw r hr;exact (key r.a ok.a0 ok.a1).ed r (by rw[zby];exact hr) rfl
def Wk.nn (Aw:∀r∈rs,Jl m r)(h:Wk rs u w c):0<=c.1/\0<=c.2:=by
 induction h with
 |nil=>exact⟨Int.le_refl _,Int.le_refl _⟩
 |cons hr hl _ ih =>
  have:=(Aw _ hr).l0 _ hl;simp only;omega
abbrev pD (p:Int×Int):D:=.tup [.int p.1,.int p.2]
def Ii (p q:Int×Int):By (pD p) (pD q)=decide (p=q):=by
 obtain⟨a,b⟩:=p;obtain⟨c,d⟩:=q;unfold pD;simp only[By,Cw,Bool.and_true];rw[zd9];simp
def Ij (p:Int×Int):keyOk true (pD p)=true:=rfl
def G7 {α:Type}[DecidableEq α]:∀ {l u:List α},l.Nodup->(∀x∈l,x∈u)->l.length<=u.length
 |[],_,_,_=>zbe _
 |x::r,u,nd,h=>by
  have aP:=zb8.mp nd;have hx:=h x za3;have ih:=G7 (l:=r) (u:=u.erase x) aP.2 λ y hy=>(List.mem_erase_of_ne (λ z=>aP.1 (by rw[<-z];exact hy))).mpr (h y (za4 _ hy));have e:=List.length_erase_of_mem hx;have:0<u.length:=List.length_pos_of_mem hx;rw[zaa];omega
def xX (p:Int×Int):Nj (pD p)=true:=by simp[pD,Nj,ZD]
abbrev Bu (m:Nat):List Int:=(zaj m).map λ i:Nat=>(i:Int)
def V8 (m:Nat):((zaj m).map λ i:Nat=>D.int (i:Int))=(Bu m).map D.int:=by unfold Bu;rw[zbf];rfl
def G8 (m:Nat):(Bu m).length=m:=by unfold Bu;simp
def Ik:p∈Bu m↔0<=p/\p<m:=by
 unfold Bu;constructor
 ·intro h;obtain⟨i,hi,rfl⟩:=zar.mp h;have:=zbz.mp hi;omega
 ·rintro ⟨h0,h1⟩;exact zar.mpr ⟨p.toNat,zbz.mpr (by omega),by omega⟩
abbrev xY (B:List (Int×Int)):Prop:=∀x,(x,x)∉B
structure OU (m:Nat)(B:List (Int×Int)):Prop where
 nd:B.Nodup
 no:xY B
 inn:∀p∈B,(0<=p.1/\p.1<m)/\(0<=p.2/\p.2<m)
def OU.len (h:OU m B)(hm:m<=20):B.length<1000:=by
 have key:=G7 (l:=B) (u:=(zaj m).flatMap λ i:Nat=>(zaj m).map λ j:Nat=>((i:Int),(j:Int))) h.nd λ p hp=>by
  obtain⟨h1,h2⟩:=h.inn p hp;refine List.mem_flatMap.mpr ⟨p.1.toNat,zbz.mpr (by omega),zar.mpr ⟨p.2.toNat,zbz.mpr (by omega),?_⟩⟩;rw[Int.toNat_of_nonneg h1.1,Int.toNat_of_nonneg h2.1]
 have e:((zaj m).flatMap λ i:Nat=>(zaj m).map λ j:Nat=>((i:Int),(j:Int))).length=m*m:=by
  rw[List.length_flatMap];simp[List.map_const',List.sum_replicate_nat]
 rw[e] at key;have:m*m<=20*20:=Nat.mul_le_mul hm hm;omega
def xZ (a b c d:Int):HT.lexLt [a,b] [c,d]=decide (a<c\/(a=c/\b<d)):=by
 rw[HT.Gq,HT.Gq,HT.FG,zd9];by_cases h1:a=c
 ·subst h1;by_cases h2:b=d
  ·subst h2;simp
  ·simp[h2]
 ·simp[h1]
def RB:BF f (.int a) (.int b)=f a b:=rfl
def V9 {bs:List Bool}:ZA [.lst (bs.map D.bl)]=.ok (.bl (bs.all id)):=by unfold ZA;dsimp only;rw[Ox]
def kD {bs:List Bool}:gM [.lst (bs.map D.bl)]=.ok (.bl (bs.any id)):=by unfold gM;dsimp only;rw[Ox]
def NZ (h:a.length+b.length<=1000):MA (.lst a) (.lst b)=.ok (.lst ((a++b).map .sh)):=if_pos h
def Va (m:Nat):(Bu m).Pairwise (·<=·):=by
 unfold Bu;rw[List.pairwise_map];exact (List.pairwise_lt_range (n:=m)).imp λ h=>by omega
def OV (m:Nat):(Bu m).Nodup:=by
 unfold Bu List.Nodup;rw[List.pairwise_map];exact (List.pairwise_lt_range (n:=m)).imp λ h=>by omega
def cC:Ic L=Bu m↔L.Perm (Bu m):=
 ⟨λ h=>by rw[<-h];exact (EV L).symm,λ h=>Ie ((EV L).trans h) (GB L) (Va m)⟩
def EW (h:L.Perm (Bu m)):L.length=m:=by rw[h.length_eq,G8]
def AK (h:L.Perm (Bu m)):p∈L↔0<=p/\p<m:=by rw[h.mem_iff,Ik]
def EX (h:L.Perm (Bu m)):L.Nodup:=h.nodup_iff.mpr (OV m)
def RC:∀ {a b:List Int},Cw (a.map D.int) (b.map D.int)=decide (a=b)
 |[],[]=>by simp[Cw]
 |[],y::t=>by simp[Cw]
 |x::r,[]=>by simp[Cw]
 |x::r,y::t=>by
  rw[za6,za6,Cw,RC,By];by_cases h:x=y<;>by_cases k:r=t<;>simp[h,k]
def kE {a:List Int}:By (.lst (a.map D.int)) (.lst (b.map D.int))=decide (a=b):=by rw[By];exact RC
def kF {a:List Int}:mS 16 (.lst (a.map D.int)) (.lst (b.map D.int))=.ok (.bl (decide (a=b))):=by rw[Sy (Yj (n:=15) a) (Yj (n:=15) b),kE]
def cD (h:L.Perm (Bu i))(n:Nat):(L.take n++(i:Int)::L.drop n).Perm (Bu (i+1)):=by
 have e:Bu (i+1)=Bu i++[(i:Int)]:=by unfold Bu;rw[List.range_succ,zav];rfl
 rw[e];refine List.perm_middle.trans ?_;rw[zcp];exact ((h.cons _).trans (List.perm_append_singleton _ _).symm)
def SR (hi:ρ[i]?=some (some (.own ds)))(h0:0<=p)(h1:p<ds.length):oW i ρ (.ok (.int p)) d=.ok (.next (ρ.set i (some (.own (ds.set p.toNat d))))):=by
 unfold oW;rw[hi];dsimp only;rw[M.Aa];unfold wY;dsimp only;rw[KY ⟨h0,h1⟩]
def adg:gQ 0 (none::ρ)=none::ρ:=rfl
def kG:∃T Q:Int,Zs (.int 10) (.int 60)=.ok (.int T)/\Zs (.int 982451653) (.int 7)=.ok (.int Q)/\1000000<T/\T.natAbs<2^200/\0<Q/\Q.natAbs<2^250:=⟨10^60,982451653^7,rfl,rfl,by decide,by decide,by decide,by decide⟩
abbrev RD:Int:=za5 kG
def tI:∃Q:Int,Zs (.int 10) (.int 60)=.ok (.int RD)/\Zs (.int 982451653) (.int 7)=.ok (.int Q)/\1000000<RD/\RD.natAbs<2^200/\0<Q/\Q.natAbs<2^250:=za0 kG
def tJ:Zs (.int 10) (.int 60)=.ok (.int RD):=(za0 tI).1
def Xe:1000000<RD:=(za0 tI).2.2.1
def qX:HP (.int i) (.int RD)=.ok (.int (i%RD)):=BY (by have:=Xe;omega)
abbrev cl:Nat->D->Prop
 |0,d=>isX d=false
 |n+1,d=>isX d=false/\∀ds,(d=.tup ds\/d=.lst ds)->∀e∈ds,cl n e
structure Jm (m:Nat)(r:Road):Prop where
 a0:0<=r.a
 a1:r.a<m
 b0:0<=r.b
 b1:r.b<m
 ab:r.a≠r.b
 l0:∀l,r.l=some l->0<=l/\l<RD
 w0:0<=r.w
 w1:r.w<RD
def kH (h:0<S.length)(h0:0<=q):HP (.int q) (.int (S.length:Int))=.ok (.int (q%S.length))/\∃y,y∈S/\AG (.lst S) (.int (q%(S.length:Int)))=.ok y:=by
 have bD:(0:Int)<(S.length:Int):=by omega
 have b0:0<=q%(S.length:Int):=zcd _ (by omega);have b1:q%(S.length:Int)<S.length:=zcf _ bD;refine⟨BY bD,S[(q%(S.length:Int)).toNat]'(by omega),List.getElem_mem _,?_⟩;have:=Ft (f:=λ d:D=>d) (l:=S) b0 (za7 (by omega));rw[List.map_id'] at this;exact this
def L0:er (.tup [a,b])=.tup [er a,er b]:=by simp[er,QA]
section
variable {α β:Type}{a b c d e f g:α}{x y:β}
def adh:(if [a,b,c,d,e].length<=1000 then x else y)=x:=rfl
def adi:(if [a,b,c,d,e,f].length<=1000 then x else y)=x:=rfl
def adj:(if [a,b,c,d,e,f,g].length<=1000 then x else y)=x:=rfl
def qY:er (.BR t [] [])=.BR t [] []:=by simp[er,QA]
end
structure Wo (m:Nat)(rs:List Road)(rk:Int->Nat)(Af:Int->Int->Co):Prop where
 snd:∀x y c,Af x y=some c->Wk rs x y c/\x≠y/\(0<=x/\x<m)/\0<=y/\y<m
 road:∀r∈rs,Bz (Af r.a r.b) (Cn r)
 tri:∀p x y,x≠y->rk p<rk x->rk p<rk y->Bz (Af x y) (Ak (Af x p) (Af p y))
 inj:∀x y:Int,0<=x->x<m->0<=y->y<m->rk x=rk y->x=y
 nn:∀x y c,Wk rs x y c->0<=c.1/\0<=c.2
inductive L1 (Af:Int->Int->Co) (rk:Int->Nat) (s:Int):Int->Int×Int->Prop
 |nil:L1 Af rk s s (0,0)
 |snoc {x y:Int} {c d:Int×Int}:L1 Af rk s x c->rk x<rk y->Af x y=some d->L1 Af rk s y (c.1+d.1,c.2+d.2)
inductive SS (Af:Int->Int->Co) (rk:Int->Nat) (t:Int):Nat->Int->Int×Int->Prop
 |nil:SS Af rk t 0 t (0,0)
 |snoc {n:Nat} {x y:Int} {c d:Int×Int}:SS Af rk t n x c->rk y<rk x->Af x y=some d->SS Af rk t (n+1) y (c.1+d.1,c.2+d.2)
abbrev O0 (p q:Int×Int):Prop:=p.1<q.1\/(p.1=q.1/\p.2<=q.2)
def OW (h:Bz a (some q)):∃p,a=some p/\O0 p q:=by
 cases a with
 |none=>exact h.elim
 |some p=>exact⟨p,rfl,h⟩
abbrev UD (Af:Int->Int->Co)(rk:Int->Nat)(s w:Int)(c:Int×Int):Prop:=∃t n c1 c2,L1 Af rk s t c1/\SS Af rk t n w c2/\O0 (c1.1+c2.1,c1.2+c2.2) c
section
variable {m:Nat}{Af:Int->Int->Co}{s w:Int}
def L1.walk (L:Wo m rs rk Af)(h:L1 Af rk s t c):Wk rs s t c:=by
 induction h with
 |nil=>exact .nil s
 |snoc _ _ ha ih=>exact ih.trans (L.snd _ _ _ ha).1
def SS.walk (L:Wo m rs rk Af)(h:SS Af rk t n x c):Wk rs t x c:=by
 induction h with
 |nil=>exact .nil t
 |snoc _ _ ha ih=>exact ih.trans (L.snd _ _ _ ha).1
def yA (L:Wo m rs rk Af):∀(n:Nat){t x y:Int}{c1 c2 d:Int×Int},L1 Af rk s t c1->SS Af rk t n x c2->Af x y=some d->UD Af rk s y (c1.1+c2.1+d.1,c1.2+c2.2+d.2):=by
 intro n;induction n with
 |zero =>
  intro t x y c1 c2 d hu hd ha;obtain⟨_,ae,hx,hy⟩:=L.snd _ _ _ ha;cases hd with
  |nil =>
   by_cases h:rk y<rk t
   ·exact⟨t,1,c1,_,hu,.snoc .nil h ha,by simp only[O0];omega⟩
   ·have h2:rk t<rk y:=by
     have hq:rk t≠rk y:=λ e=>ae (L.inj t y hx.1 hx.2 hy.1 hy.2 e);omega
    exact⟨y,0,_,_,.snoc hu h2 ha,.nil,by simp only[O0];omega⟩
 |succ n ih =>
  intro t x y c1 c2 d hu hd ha;obtain⟨hw,ae,hx,hy⟩:=L.snd _ _ _ ha;by_cases h:rk y<rk x
  ·exact⟨t,n+2,c1,_,hu,.snoc hd h ha,by simp only[O0];omega⟩
  ·have h2:rk x<rk y:=by
    have hq:rk x≠rk y:=λ e=>ae (L.inj x y hx.1 hx.2 hy.1 hy.2 e);omega
   cases hd with
   | @snoc _ z _ c e bp hr bK =>
    have n1:=L.nn _ _ _ hw;have n2:=L.nn _ _ _ (L.snd _ _ _ bK).1;by_cases hz:z=y
    ·subst hz;exact⟨t,n,c1,c,hu,bp,by simp only[O0];omega⟩
    ·have q:=L.tri x z y hz hr h2;rw[bK,ha] at q;obtain⟨f,hf,hle⟩:=OW q;obtain⟨t',n',sB,sK,g1,g2,g3⟩:=ih hu bp hf;refine⟨t',n',sB,sK,g1,g2,?_⟩;simp only[O0] at *;omega
def qZ (L:Wo m rs rk Af)(h:Wk rs u w c):∀ {c0:Int×Int},UD Af rk s u c0->UD Af rk s w (c0.1+c.1,c0.2+c.2):=by
 induction h with
 |nil u =>
  intro c0 h;simpa using h
 | @cons r l w c hr hl _ ih =>
  intro c0 h0;obtain⟨t,n,c1,c2,g1,g2,g3⟩:=h0;have q:=L.road r hr;unfold Cn at q;rw[hl] at q;obtain⟨d,hd,hle⟩:=OW q;obtain⟨t',n',sB,sK,k1,k2,k3⟩:=yA L n g1 g2 hd;have r1:=@ih (c0.1+l,c0.2+1) ⟨t',n',sB,sK,k1,k2,by simp only[O0] at *;omega⟩;simpa [zcq] using r1
abbrev Kept (rs:List Road)(Af Cf:Int->Int->Co):Prop:=∀x y c,Cf x y=some c↔(Af x y=some c/\B9 rs x y (some c))
def rA (L:Wo m rs rk Af)(K:Kept rs Af Cf){t:Int}{c1:Int×Int}(h:L1 Af rk s t c1):∀ {c2:Int×Int},Wk rs t w c2->(∀c,Wk rs s w c->O0 (c1.1+c2.1,c1.2+c2.2) c)->L1 Cf rk s t c1:=by
 induction h with
 |nil=>exact λ _ _=>.nil
 | @snoc x y c d hu hr ha ih =>
  intro c2 hw hm;have bK:=(L.snd _ _ _ ha).1;refine .snoc (ih (c2:=(d.1+c2.1,d.2+c2.2)) (bK.trans hw) λ c' bC=>?_) hr ((K x y d).mpr ⟨ha,λ e he=>?_,λ p hp=>by cases hp;exact bK⟩)
  ·have:=hm c' bC;simp only[O0] at *;omega
  ·have:=hm _ (((hu.walk L).trans he).trans hw);simp only[O0,Bz] at *;omega
def rB (L:Wo m rs rk Af)(K:Kept rs Af Cf)(hs:Wk rs s t c1)(h:SS Af rk t n x c2):(∀c,Wk rs s x c->O0 (c1.1+c2.1,c1.2+c2.2) c)->SS Cf rk t n x c2:=by
 induction h with
 |nil=>exact λ _=>.nil
 | @snoc n x y c d hd hr ha ih =>
  intro hm;have bK:=(L.snd _ _ _ ha).1;refine .snoc (ih λ c' bC=>?_) hr ((K x y d).mpr ⟨ha,λ e he=>?_,λ p hp=>by cases hp;exact bK⟩)
  ·have:=hm _ (bC.trans bK);simp only[O0] at *;omega
  ·have:=hm _ ((hs.trans (hd.walk L)).trans he);simp only[O0,Bz] at *;omega
def Vb (L:Wo m rs rk Af)(K:Kept rs Af Cf)(h:B9 rs s w (some c)):∃t n c1 c2,L1 Cf rk s t c1/\SS Cf rk t n w c2/\c=(c1.1+c2.1,c1.2+c2.2):=by
 obtain⟨t,n,c1,c2,g1,g2,g3⟩:=qZ L (h.2 c rfl) (c0:=(0,0)) ⟨s,0,_,_,.nil,.nil,by simp[O0]⟩;have hw:=(g1.walk L).trans (g2.walk L);have q:=h.1 _ hw;have e:c=(c1.1+c2.1,c1.2+c2.2):=by
  obtain⟨a,b⟩:=c;simp only[O0,Bz] at *;refine Prod.ext ?_ ?_<;>dsimp only<;>omega
 refine⟨t,n,c1,c2,rA L K g1 (g2.walk L) λ c' bC=>?_,rB L K (g1.walk L) g2 λ c' bC=>?_,e⟩
 ·have:=h.1 _ bC;rw[e] at this;exact this
 ·have:=h.1 _ bC;rw[e] at this;exact this
structure UpC (rk:Int->Nat)(Cf:Int->Int->Co)(s:Int)(R:Int->Co):Prop where
 st:Bz (R s) (some (0,0))
 cl:∀x y,rk x<rk y->Bz (R y) (Ak (R x) (Cf x y))
 sd:∀x c,R x=some c->L1 Cf rk s x c
def UpC.le (h:UpC rk Cf s R)(u:L1 Cf rk s t c):Bz (R t) (some c):=by
 induction u with
 |nil=>exact h.st
 | @snoc x y c d hu hr ha ih =>
  refine Ap (h.cl x y hr) ?_;rw[ha];exact Cg (some d) ih
structure SwC (rk:Int->Nat)(Cf:Int->Int->Co)(s:Int)(R T:Int->Co)(m:Nat):Prop where
 top:∀x:Int,0<=x->x<m->Bz (T x) (R x)
 cl:∀x y:Int,0<=x->x<m->0<=y->y<m->rk y<rk x->Bz (T y) (Ak (T x) (Cf x y))
 sd:∀x c,T x=some c->∃t n c1 c2,L1 Cf rk s t c1/\SS Cf rk t n x c2/\c=(c1.1+c2.1,c1.2+c2.2)
def Kept.cE (K:Kept rs Af Cf)(h:Cf x y=some c):Af x y=some c:=((K x y c).mp h).1
def L1.of_kept (K:Kept rs Af Cf)(h:L1 Cf rk s t c):L1 Af rk s t c:=by
 induction h with
 |nil=>exact .nil
 |snoc _ hr ha ih=>exact .snoc ih hr (K.cE ha)
def SS.of_kept (K:Kept rs Af Cf)(h:SS Cf rk t n x c):SS Af rk t n x c:=by
 induction h with
 |nil=>exact .nil
 |snoc _ hr ha ih=>exact .snoc ih hr (K.cE ha)
def aby (L:Wo m rs rk Af)(K:Kept rs Af Cf)(h:SS Cf rk t n x c)(ht:0<=t/\t<m):0<=x/\x<m:=by
 cases h with
 |nil=>exact ht
 |snoc _ hr ha=>exact (L.snd _ _ _ (K.cE ha)).2.2.2
def abz (L:Wo m rs rk Af)(K:Kept rs Af Cf)(h:L1 Cf rk s t c)(ht:0<=s/\s<m):0<=t/\t<m:=by
 cases h with
 |nil=>exact ht
 |snoc _ hr ha=>exact (L.snd _ _ _ (K.cE ha)).2.2.2
def SwC.le (L:Wo m rs rk Af)(K:Kept rs Af Cf)(h:SwC rk Cf s R T m){t:Int}(ht:0<=t/\t<m)(hT:Bz (T t) (some c1))(u:SS Cf rk t n x c2):Bz (T x) (some (c1.1+c2.1,c1.2+c2.2)):=by
 induction u with
 |nil=>simpa using hT
 | @snoc n x y c d hd hr ha ih =>
  have hx:=aby L K hd ht;have hy:=(L.snd _ _ _ (K.cE ha)).2.2.2;refine Ap (h.cl x y hx.1 hx.2 hy.1 hy.2 hr) ?_;rw[ha];have:=Cg (some d) ih;simp only[Ak,zcq] at this;exact this
def RE (L:Wo m rs rk Af)(K:Kept rs Af Cf)(hs:0<=s/\s<m)(hR:UpC rk Cf s R)(hT:SwC rk Cf s R T m)(hx:B9 rs s w x):B9 rs s w (T w):=by
 have key:Bz (T w) x:=by
  cases x with
  |none=>cases T w<;>exact trivial
  |some c =>
   obtain⟨t,n,c1,c2,g1,g2,e⟩:=Vb L K hx;have ht:=abz L K g1 hs;rw[e];exact hT.le L K ht (Ap (hT.top t ht.1 ht.2) (hR.le g1)) g2
 refine⟨λ c hc=>Ap key (hx.1 c hc),λ p hp=>?_⟩;obtain⟨t,n,c1,c2,g1,g2,rfl⟩:=hT.sd w p hp;exact ((g1.of_kept K).walk L).trans ((g2.of_kept K).walk L)
end
def Wk.turn (h:Wk rs u w c):Wk (rs.map Dm) w u c:=by
 induction h with
 |nil u=>exact .nil u
 | @cons r l w c hr hl _ ih =>
  have h1:Wk (rs.map Dm) (Dm r).a (Dm r).b (l,1):=Wk.one (zar.mpr ⟨r,hr,rfl⟩) hl;have:=ih.trans h1;have e:(c.1+l,c.2+1)=(l+c.1,1+c.2):=by rw[Int.add_comm,Int.add_comm c.2]
  rw[<-e];exact this
def EF (rs:List Road):(rs.map Dm).map Dm=rs:=by
 rw[zbf];exact (zcc λ r _=>rfl).trans (List.map_id rs)
def B9.turn (h:B9 rs u w x):B9 (rs.map Dm) w u x:=by
 refine⟨λ c hc=>h.1 c ?_,λ p hp=>(h.2 p hp).turn⟩;have:=hc.turn;rw[EF] at this;exact this
def Wo.turn (L:Wo m rs rk Af):Wo m (rs.map Dm) rk (λ x y=>Af y x):=by
 refine⟨λ x y c h=>?_,λ r hr=>?_,λ p x y ae h1 h2=>?_,L.inj,λ x y c h=>?_⟩
 ·obtain⟨a,b,c,d⟩:=L.snd _ _ _ h;exact⟨a.turn,zbn b,d,c⟩
 ·obtain⟨r',aZ,rfl⟩:=zar.mp hr;exact L.road r' aZ
 ·rw[Bo];exact L.tri p y x (zbn ae) h2 h1
 ·have:=h.turn;rw[EF] at this;exact L.nn _ _ _ this
def Kept.turn (K:Kept rs Af Cf):Kept (rs.map Dm) (λ x y=>Af y x) (λ x y=>Cf y x):=λ x y c=>by
 refine (K y x c).trans ⟨λ h=>⟨h.1,h.2.turn⟩,λ h=>⟨h.1,?_⟩⟩;have:=h.2.turn;rw[EF] at this;exact this
section
variable {κ β:Type} [DecidableEq κ]
abbrev Aq:List (κ×β)->κ->Option β
 |[],_=>none
 |(k,v)::r,x=>if k=x then some v else Aq r x
abbrev Dz (A:List (κ×β))(k:κ)(v:β):List (κ×β):=if (Aq A k).isSome=true then A.map λ kv=>if kv.1=k then (kv.1,v) else kv else A++[(k,v)]
def SU (k j:κ)(v:β):∀A:List (κ×β),Aq (A.map λ kv=>if kv.1=k then (kv.1,v) else kv) j=if j=k then (Aq A j).map λ _=>v else Aq A j
 |[]=>by simp[Aq]
 |(k',v')::r=>by
  rw[za6];by_cases h1:k'=k
  ·rw[if_pos h1];subst h1;simp only[Aq];by_cases h2:k'=j
   ·subst h2;simp
   ·rw[if_neg h2,if_neg h2,SU k' j v r]
  ·rw[if_neg h1];simp only[Aq];by_cases h2:k'=j
   ·subst h2;rw[if_pos rfl,if_pos rfl,if_neg h1]
   ·rw[if_neg h2,if_neg h2,SU k j v r]
def Vc (k j:κ)(v:β):∀A:List (κ×β),Aq A k=none->Aq (A++[(k,v)]) j=if j=k then some v else Aq A j
 |[],_=>by
  simp only[List.nil_append,Aq];by_cases h:k=j
  ·subst h;simp
  ·rw[if_neg h,if_neg (zbn h)]
 |(k',v')::r,h=>by
  simp only[Aq] at h;by_cases h1:k'=k
  ·rw[if_pos h1] at h;cases h
  ·rw[if_neg h1] at h;rw[zco];simp only[Aq];rw[Vc k j v r h];by_cases h2:k'=j
   ·subst h2;rw[if_pos rfl,if_pos rfl,if_neg h1]
   ·rw[if_neg h2,if_neg h2]
def Fu (A:List (κ×β))(k j:κ)(v:β):Aq (Dz A k v) j=if j=k then some v else Aq A j:=by
 unfold Dz;by_cases h:(Aq A k).isSome=true
 ·rw[if_pos h,SU];by_cases hj:j=k
  ·subst hj;rw[if_pos rfl,if_pos rfl];obtain⟨x,hx⟩:=zbq.mp h;rw[hx];rfl
  ·rw[if_neg hj,if_neg hj]
 ·rw[if_neg h];exact Vc k j v A (by cases e:Aq A k with|none=>rfl|some x=>rw[e] at h;exact (h rfl).elim)
def GF:∀ {A:List (κ×β)}{k:κ},(Aq A k).isSome=true↔k∈A.map zay
 |[],k=>by simp[Aq]
 |(k',v')::r,k=>by
  simp only[Aq,za6,zab];by_cases h:k'=k
  ·rw[if_pos h];simp[h]
  ·rw[if_neg h,GF];simp[zbn h]
def Vd {A:List (κ×β)}{k:κ}:Aq A k=none↔k∉A.map zay:=by
 rw[<-GF];cases Aq A k<;>simp
def Ve (A:List (κ×β))(k:κ)(v:β):(Dz A k v).map zay=if (Aq A k).isSome=true then A.map zay else A.map zay++[k]:=by
 unfold Dz;split
 ·rw[zbf];refine zcc λ kv _=>?_;dsimp only [Function.comp];split<;>rfl
 ·rw[zav];rfl
def M5 {A:List (κ×β)}{k:κ}{v:β}(h:(A.map zay).Nodup):((Dz A k v).map zay).Nodup:=by
 rw[Ve];split
 ·exact h
 ·rename_i hn;rw[GF] at hn;rw[zau];exact⟨h,by simp,λ x hx y hy=>by rw[za9.mp hy];exact λ e=>hn (e▸hx)⟩
def OX {A:List (κ×β)}{k x:κ}{v:β}(h:x∈(Dz A k v).map zay):x∈A.map zay\/x=k:=by
 rw[Ve] at h;split at h
 ·exact .inl h
 ·rcases zao.mp h with h|h
  ·exact .inl h
  ·exact .inr (za9.mp h)
def M6:∀ {A:List (κ×β)}{k:κ}{v:β},Aq A k=some v->(k,v)∈A
 |(k',v')::r,k,v,h=>by
  simp only[Aq] at h;split at h
  ·rename_i e;cases h;subst e;exact za3
  ·exact za4 _ (M6 h)
def SV:∀ {A:List (κ×β)}{k:κ}{v:β},(A.map zay).Nodup->(k,v)∈A->Aq A k=some v
 |(k',v')::r,k,v,hn,h=>by
  rw[za6,zb8] at hn;simp only[Aq];rcases zab.mp h with e|h
  ·cases e;rw[if_pos rfl]
  ·have:k'≠k:=λ e=>hn.1 (e▸zar.mpr ⟨_,h,rfl⟩);rw[if_neg this];exact SV hn.2 h
variable {kf:κ->D}{vf:β->D}(he:∀a b,By (kf a) (kf b)=decide (a=b))
include he
def L3 (A:List (κ×β))(k:κ):SG (A.map λ kv=>kf kv.1) (kf k)=(Aq A k).isSome:=by
 induction A with
 |nil=>rfl
 |cons kv r ih =>
  obtain⟨k',v'⟩:=kv;unfold SG at ih ⊢;rw[za6,zch,ih,he];simp only[Aq];by_cases h:k'=k
  ·rw[if_pos h,decide_eq_true h];rfl
  ·rw[if_neg h,decide_eq_false h];rfl
def Il (A:List (κ×β))(k:κ):Fq (A.map λ kv=>kf kv.1) (A.map λ kv=>vf kv.2) (kf k)=(Aq A k).map vf:=by
 induction A with
 |nil=>rfl
 |cons kv r ih =>
  obtain⟨k',v'⟩:=kv;rw[za6,za6,Fq,he,ih];simp only[Aq];by_cases h:k'=k
  ·rw[decide_eq_true h,if_pos rfl,if_pos h];rfl
  ·rw[decide_eq_false h,if_neg zaw,if_neg h]
def kI (k:κ)(v:β)(A:List (κ×β)):Nk (A.map λ kv=>kf kv.1) (A.map λ kv=>vf kv.2) (kf k) (vf v)=(A.map λ kv=>if kv.1=k then (kv.1,v) else kv).map λ kv=>vf kv.2:=by
 induction A with
 |nil=>rfl
 |cons kv r ih =>
  obtain⟨k',v'⟩:=kv;rw[za6,za6,Nk,he,ih,za6,za6];by_cases h:k'=k
  ·rw[decide_eq_true h,if_pos rfl,if_pos h]
  ·rw[decide_eq_false h,if_neg zaw,if_neg h]
def L4 (A:List (κ×β))(k:κ)(v:β):putD (A.map λ kv=>kf kv.1) (A.map λ kv=>vf kv.2) (kf k) (vf v)=((Dz A k v).map (λ kv=>kf kv.1),(Dz A k v).map λ kv=>vf kv.2):=by
 unfold putD Dz;rw[L3 he];by_cases h:(Aq A k).isSome=true
 ·rw[if_pos h,if_pos h,kI he];refine Prod.ext ?_ rfl;dsimp only;rw[zbf];refine zcc λ kv _=>?_;dsimp only [Function.comp];split<;>rfl
 ·rw[if_neg h,if_neg h,zav,zav];rfl
end
def Im (a b:Int):By (.int a) (.int b)=decide (a=b):=by
 simp only[By];by_cases h:a=b
 ·subst h;simp
 ·simp[h]
noncomputable abbrev LA:=List ((Int×Int)×((Int×Int)×Option Int))
abbrev Xf (v:(Int×Int)×Option Int):D:=.tup [cst (some v.1),CN v.2]
abbrev QF (A:LA):D:=.BR true (A.map λ kv=>pD kv.1) (A.map λ kv=>Xf kv.2)
abbrev Np (A:LA):OT:=.BR true (A.map λ kv=>pD kv.1) ((A.map λ kv=>Xf kv.2).map .sh)
abbrev Ac (A:LA)(p:Int×Int):Co:=(Aq A p).map zay
abbrev layA (A:LA)(p:Int×Int)(c:Co)(mid:Option Int):LA:=match c with
 |none=>A
 |some c=>(match Aq A p with
  |none=>Dz A p (c,mid)
  |some z=>if c.1<z.1.1\/(c.1=z.1.1/\c.2<z.1.2) then Dz A p (c,mid) else A)
def Io (A:LA)(p q:Int×Int)(c:Co)(mid:Option Int):Ac (layA A p c mid) q=if q=p then DU (Ac A p) c else Ac A q:=by
 unfold layA Ac;cases c with
 |none =>
  by_cases h:q=p
  ·subst h;rw[if_pos rfl];cases Aq A q<;>rfl
  ·rw[if_neg h]
 |some c =>
  cases e:Aq A p with
  |none =>
   dsimp only;rw[Fu];by_cases h:q=p
   ·rw[if_pos h,if_pos h];rfl
   ·rw[if_neg h,if_neg h]
  |some z =>
   dsimp only;by_cases hc:c.1<z.1.1\/(c.1=z.1.1/\c.2<z.1.2)
   ·rw[if_pos hc,Fu];by_cases h:q=p
    ·rw[if_pos h,if_pos h];simp only[zck,DU,jV];rw[if_neg (by omega)]
    ·rw[if_neg h,if_neg h]
   ·rw[if_neg hc];by_cases h:q=p
    ·subst h;rw[if_pos rfl,e];simp only[zck,DU,jV];rw[if_pos (by omega)]
    ·rw[if_neg h]
def Xg (A:LA)(p q:Int×Int)(c:Co)(mid:Option Int):Bz (Ac (layA A p c mid) q) (Ac A q):=by
 rw[Io];split
 ·rename_i h;subst h;exact DV _ _
 ·exact Cb _
def kJ (h:x∈(layA A p c mid).map zay):x∈A.map zay\/x=p:=by
 unfold layA at h;split at h
 ·exact .inl h
 ·split at h
  ·exact OX h
  ·split at h
   ·exact OX h
   ·exact .inl h
def cF (h:(A.map zay).Nodup):((layA A p c mid).map zay).Nodup:=by
 unfold layA;split
 ·exact h
 ·split
  ·exact M5 h
  ·split
   ·exact M5 h
   ·exact h
abbrev O1 (p u:Int)(A:LA)(w:Int):LA:=if u=w then A else layA A (u,w) (Ak (Ac A (u,p)) (Ac A (p,w))) (some p)
abbrev cG (p:Int)(H:List Int)(A:LA)(u:Int):LA:=H.foldl (O1 p u) A
abbrev rC (A:LA)(p:Int)(H:List Int):LA:=H.foldl (cG p H) A
abbrev Qq:LA->List Int->LA
 |A,[]=>A
 |A,p::r=>Qq (rC A p r) r
abbrev lay0 (rs:List Road):LA:=rs.foldl (λ A r=>layA A (r.a,r.b) (Cn r) none) []
abbrev BB (rs:List Road)(L:List Int):LA:=Qq (lay0 rs) L
structure HC (m:Nat)(A:LA):Prop where
 nd:(A.map zay).Nodup
 rg:∀p∈A.map zay,p.1≠p.2/\(0<=p.1/\p.1<m)/\0<=p.2/\p.2<m
def HC.lay {m:Nat}{A:LA}(h:HC m A){p:Int×Int}{c:Co}{mid:Option Int}(hp:p.1≠p.2/\(0<=p.1/\p.1<m)/\0<=p.2/\p.2<m):HC m (layA A p c mid):=
 ⟨cF h.nd,λ q hq=>(kJ hq).elim (h.rg q) λ e=>e▸hp⟩
def HC.len (h:HC m A)(hm:m<=20):A.length<1000:=by
 have:=OU.len (B:=A.map zay) (m:=m) ⟨h.nd,λ x hx=>(h.rg _ hx).1 rfl,λ q hq=>⟨(h.rg q hq).2.1,(h.rg q hq).2.2⟩⟩ hm;rwa[za2] at this
def G9 {α β:Type}{f:β->α->β}(P:List α->β->Prop):∀ {L pre:List α}{b:β},P pre b->(∀a∈L,∀pre b,P pre b->P (pre++[a]) (f b a))->P (pre++L) (L.foldl f b)
 |[],pre,b,h,_=>by rw[zb1];exact h
 |a::L,pre,b,h,hs=>by
  have:=G9 P (L:=L) (hs a za3 pre b h) λ x hx=>hs x (za4 _ hx);rw[zb3] at this;exact this
abbrev rD (rs:List Road)(A:LA):Prop:=∀x y c,Ac A (x,y)=some c->Wk rs x y c
def rD.lay (h:rD rs A)(hc:∀p,c=some p->Wk rs x y p):rD rs (layA A (x,y) c mid):=λ u w d hd=>by
 rw[Io] at hd;split at hd
 ·rename_i e;cases e;rcases BH (Ac A (x,y)) c with ⟨e,_⟩|⟨e,_⟩
  ·rw[e] at hd;exact h _ _ _ hd
  ·rw[e] at hd;exact hc d hd
 ·exact h _ _ _ hd
structure Over (m:Nat)(rs:List Road)(p:Int)(H:List Int)(A0 A:LA):Prop where
 ok:HC m A
 sd:rD rs A
 le:∀q,Bz (Ac A q) (Ac A0 q)
 sm:∀x y,(x∉H\/y∉H)->Ac A (x,y)=Ac A0 (x,y)
def cH {m:Nat}{H:List Int}(hp:p∉H)(hH:∀x∈H,0<=x/\x<m)(h:Over m rs p H A0 A)(hu:u∈H)(hw:w∈H):Over m rs p H A0 (O1 p u A w)/\(u≠w->Bz (Ac (O1 p u A w) (u,w)) (Ak (Ac A0 (u,p)) (Ac A0 (p,w)))):=by
 unfold O1;by_cases e:u=w
 ·rw[if_pos e];exact⟨h,λ z=>(z e).elim⟩
 ·rw[if_neg e];have e1:=h.sm u p (.inr hp);have e2:=h.sm p w (.inl hp);refine⟨⟨h.ok.lay ⟨e,hH u hu,hH w hw⟩,h.sd.lay λ c hc=>?_,λ q=>Ap (Xg _ _ _ _ _) (h.le q),λ x y c5=>?_⟩,λ _=>?_⟩
  ·obtain⟨a,b,ha,hb,rfl⟩:=D2 hc;exact (h.sd _ _ _ ha).trans (h.sd _ _ _ hb)
  ·rw[Io,if_neg (λ z=>by cases z;exact c5.elim (λ q=>q hu) λ q=>q hw)];exact h.sm x y c5
  ·rw[Io,if_pos rfl,e1,e2];exact Ex _ _
def tK (q:Int×Int):Bz (Ac (O1 p u A w) q) (Ac A q):=by
 unfold O1;split
 ·exact Cb _
 ·exact Xg _ _ _ _ _
def tL (q:Int×Int):∀(H:List Int) (A:LA),Bz (Ac (H.foldl (O1 p u) A) q) (Ac A q)
 |[],A=>Cb _
 |w::H,A=>Ap (tL q H (O1 p u A w)) (tK q)
def yB {m:Nat}{H:List Int}(hp:p∉H)(hH:∀x∈H,0<=x/\x<m)(h:Over m rs p H A0 A)(hu:u∈H):Over m rs p H A0 (cG p H A u)/\∀w∈H,u≠w->Bz (Ac (cG p H A u) (u,w)) (Ak (Ac A0 (u,p)) (Ac A0 (p,w))):=by
 unfold cG;have:=G9 (L:=H) (pre:=[]) (f:=O1 p u) (b:=A) (λ W A=>Over m rs p H A0 A/\∀w∈W,u≠w->Bz (Ac A (u,w)) (Ak (Ac A0 (u,p)) (Ac A0 (p,w)))) ⟨h,λ w hw=>by cases hw⟩ λ w hw W B hB=>by
  obtain⟨b1,b2⟩:=hB;obtain⟨c1,c2⟩:=cH hp hH b1 hu hw;refine⟨c1,λ x hx ae=>?_⟩;rcases zao.mp hx with hx|hx
  ·exact Ap (tK _) (b2 x hx ae)
  ·rw[za9.mp hx] at ae ⊢;exact c2 ae
 exact this
def kK {m:Nat}{H:List Int}(hp:p∉H)(hH:∀x∈H,0<=x/\x<m)(h1:HC m A)(h2:rD rs A):Over m rs p H A (rC A p H)/\∀u∈H,∀w∈H,u≠w->Bz (Ac (rC A p H) (u,w)) (Ak (Ac A (u,p)) (Ac A (p,w))):=by
 unfold rC;have:=G9 (L:=H) (pre:=[]) (f:=cG p H) (b:=A) (λ U B=>Over m rs p H A B/\∀u∈U,∀w∈H,u≠w->Bz (Ac B (u,w)) (Ak (Ac A (u,p)) (Ac A (p,w)))) ⟨⟨h1,h2,λ q=>Cb _,λ x y _=>rfl⟩,λ u hu=>by cases hu⟩ λ u hu U B hB=>by
  obtain⟨b1,b2⟩:=hB;obtain⟨c1,c2⟩:=yB hp hH b1 hu;refine⟨c1,λ x hx w hw ae=>?_⟩;rcases zao.mp hx with hx|hx
  ·exact Ap (tL _ H B) (b2 x hx w hw ae)
  ·rw[za9.mp hx] at ae ⊢;exact c2 w hw ae
 exact this
def SW (Aw:∀r∈rs,Jl m r/\r.a≠r.b):HC m (lay0 rs)/\rD rs (lay0 rs)/\∀r∈rs,Bz (Ac (lay0 rs) (r.a,r.b)) (Cn r):=by
 unfold lay0;have:=G9 (L:=rs) (pre:=[]) (f:=λ A r=>layA A (r.a,r.b) (Cn r) none) (b:=[]) (λ W A=>HC m A/\rD rs A/\∀r∈W,Bz (Ac A (r.a,r.b)) (Cn r)) ⟨⟨by simp,λ p hp=>by cases hp⟩,⟨(λ _ _ _ h=>by cases h),λ r hr=>by cases hr⟩⟩ λ r hr W B hB=>by
  obtain⟨b1,b2,b3⟩:=hB;obtain⟨o1,o2⟩:=Aw r hr;refine⟨b1.lay ⟨o2,⟨o1.a0,o1.a1⟩,o1.b0,o1.b1⟩,b2.lay λ c hc=>?_,λ x hx=>?_⟩
  ·obtain⟨l,hl,rfl⟩:=Ih hc;exact Wk.one hr hl
  ·rcases zao.mp hx with hx|hx
   ·exact Ap (Xg _ _ _ _ _) (b3 x hx)
   ·rw[za9.mp hx,Io,if_pos rfl];exact Ex _ _
 exact this
abbrev C8:List Int->Int->Nat
 |[],_=>0
 |a::l,x=>if a=x then 0 else C8 l x+1
def YE:∀ {pre post:List Int}{p:Int},p∉pre->C8 (pre++p::post) p=pre.length
 |[],post,p,_=>by simp[C8]
 |a::pre,post,p,h=>by
  rw[zab,not_or] at h;rw[zco,C8,if_neg (zbn h.1),YE h.2];rfl
def Xh:∀ {pre post:List Int}{x:Int},x∈pre->C8 (pre++post) x<pre.length
 |a::pre,post,x,h=>by
  rw[zco,C8];by_cases e:a=x
  ·rw[if_pos e];simp
  ·rw[if_neg e,zaa];have:=Xh (post:=post) ((zab.mp h).resolve_left (zbn e));omega
def SX:∀ {pre post:List Int}{x:Int},x∉pre->pre.length<=C8 (pre++post) x
 |[],post,x,_=>zbe _
 |a::pre,post,x,h=>by
  rw[zab,not_or] at h;rw[zco,C8,if_neg (zbn h.1),zaa];have:=SX (post:=post) h.2;omega
def SY:∀ {L:List Int}{x y:Int},x∈L->y∈L->C8 L x=C8 L y->x=y
 |a::l,x,y,hx,hy,e=>by
  rw[C8,C8] at e;by_cases h1:a=x
  ·by_cases h2:a=y
   ·rw[<-h1,<-h2]
   ·rw[if_pos h1,if_neg h2] at e;omega
  ·by_cases h2:a=y
   ·rw[if_neg h1,if_pos h2] at e;omega
   ·rw[if_neg h1,if_neg h2] at e;exact SY ((zab.mp hx).resolve_left (zbn h1)) ((zab.mp hy).resolve_left (zbn h2)) (by omega)
def Xi (h:C8 L x<L.length):x∈L:=by
 refine zcm λ hn=>?_;have:=SX (pre:=L) (post:=[]) hn;rw[zb1] at this;omega
def kL:∀(L:List Int) (x:Int),C8 L x<=L.length
 |[],_=>zaf _
 |a::l,x=>by
  rw[C8,zaa];split
  ·omega
  ·have:=kL l x;omega
def MF:∀ {L:List Int}{p:Int},p∈L->∃pre post,L=pre++p::post/\p∉pre
 |a::l,p,h=>by
  by_cases ha:a=p
  ·subst ha;exact⟨[],l,rfl,by simp⟩
  ·obtain⟨pre,post,e2,hn⟩:=MF ((zab.mp h).resolve_left (zbn ha));exact⟨a::pre,post,by rw[zco,<-e2],by simp[zbn ha,hn]⟩
def kM (h:C8 L p<L.length):∃pre post,L=pre++p::post/\p∉pre/\∀x,C8 L p<C8 L x->x∈L->x∈post:=by
 obtain⟨pre,post,e,hn⟩:=MF (Xi h);refine⟨pre,post,e,hn,λ x hr hx=>?_⟩;subst e;rw[YE hn] at hr;rcases zao.mp hx with hx|hx
 ·have:=Xh (post:=p::post) hx;omega
 ·rcases zab.mp hx with rfl|hx
  ·rw[YE hn] at hr;omega
  ·exact hx
def yC {m:Nat}{rs:List Road}{L:List Int}(hL:L.Nodup)(hr:∀x∈L,0<=x/\x<m):∀(post pre:List Int) (A:LA),L=pre++post->HC m A->rD rs A->(∀r∈rs,Bz (Ac A (r.a,r.b)) (Cn r))->
 (∀pa p pb,L=pa++p::pb->pa.length<pre.length->∀x∈pb,∀y∈pb,x≠y->Bz (Ac A (x,y)) (Ak (Ac A (x,p)) (Ac A (p,y))))->
 HC m (Qq A post)/\rD rs (Qq A post)/\(∀r∈rs,Bz (Ac (Qq A post) (r.a,r.b)) (Cn r))/\∀pa p pb,L=pa++p::pb->∀x∈pb,∀y∈pb,x≠y->Bz (Ac (Qq A post) (x,y)) (Ak (Ac (Qq A post) (x,p)) (Ac (Qq A post) (p,y))):=by
 intro post;induction post with
 |nil =>
  intro pre A e h1 h2 h3 h4;rw[zb1] at e;refine⟨h1,h2,h3,λ pa p pb e2=>h4 pa p pb e2 ?_⟩;rw[<-e,e2,zal,zaa];omega
 |cons p post ih =>
  intro pre A e h1 h2 h3 h4;rw[Qq];have hn:(pre++p::post).Nodup:=e▸hL;rw[zau,zb8] at hn;have bF:∀x∈post,0<=x/\x<m:=λ x hx=>hr x (by rw[e];simp[hx]);obtain⟨o,ov⟩:=kK (p:=p) hn.2.1.1 bF h1 h2;refine ih (pre++[p]) (rC A p post) (by rw[e];simp) o.ok o.sd (λ r aZ=>Ap (o.le _) (h3 r aZ)) λ pa q pb e2 ag x hx y hy ae=>?_;rw[zal,zbd] at ag;by_cases hq:pa.length<pre.length
  ·-- an n4 one
   have v3:q∉post:=λ gf=>by
    have e3:pre++p::post=pa++q::pb:=by rw[<-e,e2]
    have q1:q∈pre:=by
     have:=congrArg (λ l=>l[pa.length]?) e3;rw[zc2 hq,zcn (zaf _),Nat.sub_self] at this;exact zan this
    exact hn.2.2 q q1 q (za4 _ gf) rfl
   rw[o.sm x q (.inr v3),o.sm q y (.inl v3)];exact Ap (o.le _) (h4 pa q pb e2 hq x hx y hy ae)
  ·have hpl:pa.length=pre.length:=by omega
   have e3:pa++q::pb=pre++p::post:=by rw[<-e2,e]
   obtain⟨rfl,e4⟩:=List.append_inj e3 hpl;cases e4;rw[o.sm x p (.inr hn.2.1.1),o.sm p y (.inl hn.2.1.1)];exact ov x hx y hy ae
def L5 (hL:L.Perm (Bu m))(Aw:∀r∈rs,Jl m r/\r.a≠r.b):HC m (BB rs L)/\Wo m rs (C8 L) (λ x y=>Ac (BB rs L) (x,y)):=by
 have c4:L.Nodup:=EX hL;obtain⟨a1,a2,a3⟩:=SW Aw;obtain⟨b1,b2,b3,b4⟩:=yC c4 (λ x hx=>(AK hL).mp hx) L [] (lay0 rs) rfl a1 a2 a3 (λ pa p pb _ h=>by simp at h);refine⟨b1,λ x y c h=>?_,b3,λ p x y ae h1 h2=>?_,λ x y x0 x1 y0 y1 e=>SY ((AK hL).mpr ⟨x0,x1⟩) ((AK hL).mpr ⟨y0,y1⟩) e,λ x y c h=>Wk.nn (λ r hr=>(Aw r hr).1) h⟩
 ·have hm:(x,y)∈(Qq (lay0 rs) L).map zay:=by
   rw[<-GF];unfold Ac at h;cases q:Aq (BB rs L) (x,y) with
   |none=>rw[q] at h;cases h
   |some z=>unfold BB at q;rw[q];rfl
  have:=b1.rg _ hm;exact⟨b2 _ _ _ h,this.1,this.2.1,this.2.2⟩
 ·have bn:∀ {x y:Int} {c:Int×Int},Ac (BB rs L) (x,y)=some c->x∈L/\y∈L:=fun {x y c} h=>by
   have hm:(x,y)∈(Qq (lay0 rs) L).map zay:=by
    rw[<-GF];unfold Ac at h;cases q:Aq (BB rs L) (x,y) with
    |none=>rw[q] at h;cases h
    |some z=>unfold BB at q;rw[q];rfl
   have:=b1.rg _ hm;exact⟨(AK hL).mpr this.2.1,(AK hL).mpr this.2.2⟩
  have hpl:C8 L p<L.length:=zaq h1 (kL L x);obtain⟨pre,post,e,hn,f8⟩:=kM hpl;cases q1:Ac (BB rs L) (x,p) with
  |none=>cases Ac (BB rs L) (x,y)<;>exact trivial
  |some c1 =>
   cases q2:Ac (BB rs L) (p,y) with
   |none=>cases Ac (BB rs L) (x,y)<;>exact trivial
   |some c2 =>
    have r:=b4 pre p post e x (f8 x h1 (bn q1).1) y (f8 y h2 (bn q2).2) ae;rw[<-q1,<-q2];exact r
noncomputable abbrev CA:=List ((Int×Int)×(Int×Int))
abbrev TZ (C:CA):D:=.BR true (C.map λ kv=>pD kv.1) (C.map λ kv=>cst (some kv.2))
abbrev ccT (C:CA):OT:=.BR true (C.map λ kv=>pD kv.1) ((C.map λ kv=>cst (some kv.2)).map .sh)
noncomputable abbrev RA:=List (Int×(Int×Int))
abbrev T4 (R:RA):D:=.BR false (R.map λ kv=>D.int kv.1) (R.map λ kv=>cst (some kv.2))
abbrev Wq (R:RA):OT:=.BR false (R.map λ kv=>D.int kv.1) ((R.map λ kv=>cst (some kv.2)).map .sh)
def yD (A:LA):er (Np A)=QF A:=SK
def yE (C:CA):er (ccT C)=TZ C:=SK
def yF (R:RA):er (Wq R)=T4 R:=SK
def M7 (i:Int):keyOk false (.int i)=true:=rfl
def T5 (A:LA)(p:Int×Int)(neg:Bool):Nl neg (pD p) (QF A)=.ok (.bl (if neg=true then !(Aq A p).isSome else (Aq A p).isSome)):=by
 unfold QF Nl;dsimp only;rw[if_pos (Ij p),L3 Ii]
def OY (h:Aq A p=some v):AG (QF A) (pD p)=.ok (Xf v):=by
 unfold QF AG;dsimp only;rw[if_pos (Ij p),Il Ii,h];rfl
def yG (C:CA)(p:Int×Int)(neg:Bool):Nl neg (pD p) (TZ C)=.ok (.bl (if neg=true then !(Aq C p).isSome else (Aq C p).isSome)):=by
 unfold TZ Nl;dsimp only;rw[if_pos (Ij p),L3 Ii]
def yH (h:Aq C p=some c):AG (TZ C) (pD p)=.ok (cst (some c)):=by
 unfold TZ AG;dsimp only;rw[if_pos (Ij p),Il (vf:=λ c=>cst (some c)) Ii,h];rfl
def yI (C:CA)(p:Int×Int):Rv (TZ C) (.ok (pD p))=.ok (cst (Aq C p)):=by
 unfold TZ Rv;simp only[M.Aa];rw[if_pos (Ij p),Il (vf:=λ c=>cst (some c)) Ii];cases Aq C p<;>rfl
def Xj (R:RA)(p:Int)(neg:Bool):Nl neg (.int p) (T4 R)=.ok (.bl (if neg=true then !(Aq R p).isSome else (Aq R p).isSome)):=by
 unfold T4 Nl;dsimp only;rw[if_pos (M7 p),L3 (kf:=D.int) Im]
def T6 (h:Aq R p=some c):AG (T4 R) (.int p)=.ok (cst (some c)):=by
 unfold T4 AG;dsimp only;rw[if_pos (M7 p),Il (kf:=D.int) (vf:=λ c=>cst (some c)) Im,h];rfl
def kN (R:RA)(p:Int):Rv (T4 R) (.ok (.int p))=.ok (cst (Aq R p)):=by
 unfold T4 Rv;simp only[M.Aa];rw[if_pos (M7 p),Il (kf:=D.int) (vf:=λ c=>cst (some c)) Im];cases Aq R p<;>rfl
def kO (A:LA)(p:Int×Int)(v:(Int×Int)×Option Int):putD (A.map λ kv=>pD kv.1) (A.map λ kv=>Xf kv.2) (pD p) (Xf v)=((Dz A p v).map (λ kv=>pD kv.1),(Dz A p v).map λ kv=>Xf kv.2):=L4 Ii A p v
def yJ (R:RA)(p:Int)(c:Int×Int):putD (R.map λ kv=>D.int kv.1) (R.map λ kv=>cst (some kv.2)) (.int p) (cst (some c))=((Dz R p c).map (λ kv=>D.int kv.1),(Dz R p c).map λ kv=>cst (some kv.2)):=L4 (kf:=D.int) (vf:=λ c=>cst (some c)) Im R p c
def T7 {α:Type}(k v:α->D):∀l:List α,SN (l.map λ x=>.tup [k x,v x])=some (l.map λ x=>(k x,v x))
 |[]=>rfl
 |x::l=>by rw[za6,SN,T7 k v l];rfl
def tM:∀(C C0:CA),((C0++C).map zay).Nodup->(C.map λ kv=>(pD kv.1,cst (some kv.2))).foldl (λ z kv=>putD z.1 z.2 kv.1 kv.2) (C0.map (λ kv=>pD kv.1),C0.map λ kv=>cst (some kv.2))=((C0++C).map (λ kv=>pD kv.1),(C0++C).map λ kv=>cst (some kv.2))
 |[],C0,_=>by simp
 |kv::C,C0,hn=>by
  obtain⟨p,c⟩:=kv;rw[za6,zb4];dsimp only;have h0:Aq C0 p=none:=by
   rw[Vd];intro hm;rw[zav,zau] at hn;exact hn.2.2 p hm p (by simp) rfl
  have e:Dz C0 p c=C0++[(p,c)]:=by unfold Dz;rw[h0];rfl
  rw[L4 (vf:=λ c=>cst (some c)) Ii,e,tM C (C0++[(p,c)]) (by rw[zb3];exact hn),zb3];rfl
def kQ (hn:(C.map zay).Nodup)(hl:C.length<=1000):qN (.lst (C.map λ kv=>.tup [pD kv.1,cst (some kv.2)]))=.ok (ccT C):=by
 unfold qN;dsimp only;rw[T7 (λ kv:(Int×Int)×(Int×Int)=>pD kv.1) (λ kv=>cst (some kv.2))];dsimp only;have e:=tM C [] hn;rw[if_pos ⟨by rw[za2];exact hl,by rw[List.all_map];exact List.all_eq_true.mpr λ x _=>rfl⟩];have e2:tG (C.map λ kv=>(pD kv.1,cst (some kv.2)))=(C.map (λ kv=>pD kv.1),C.map λ kv=>cst (some kv.2)):=e;rw[e2];rfl
abbrev AL (m:Nat)(rs:List Road)(L:List Int)(A:LA)(K:List (Int×Int)):D:=.ins "Ladder" ["own_map","own_order","laid","kept_ones"] [Al m rs,.lst (L.map D.int),QF A,.lst (K.map pD)]
structure B4 (m:Nat)(rs:List Road)(L:List Int)(A:LA)(K:List (Int×Int)):Prop where
 m1:1<=m
 m2:m<=16
 rl:rs.length<=60
 ok:∀r∈rs,Jl m r/\r.a≠r.b
 pm:L.Perm (Bu m)
 la:A=BB rs L
 kn:K.Nodup
 km:∀p,p∈K↔∃c,Ac A p=some c/\B9 rs p.1 p.2 (some c)
def B4.aok {K}(h:B4 m rs L A K):HC m A:=by
 rw[h.la];exact (L5 h.pm h.ok).1
def B4.cE {K}(h:B4 m rs L A K):Wo m rs (C8 L) (λ x y=>Ac A (x,y)):=by
 rw[h.la];exact (L5 h.pm h.ok).2
def EY (h:Ac A p=some c):p∈A.map zay:=by
 rw[<-GF];unfold Ac at h;cases q:Aq A p with
 |none=>rw[q] at h;cases h
 |some z=>rfl
def B4.Wl {K}(h:B4 m rs L A K)(hp:p∈K):p.1≠p.2/\(0<=p.1/\p.1<m)/\0<=p.2/\p.2<m:=by
 obtain⟨c,hc,_⟩:=(h.km p).mp hp;exact h.aok.rg p (EY hc)
def B4.kl {K}(h:B4 m rs L A K):K.length<1000:=
 OU.len (m:=m) ⟨h.kn,λ x hx=>(h.Wl hx).1 rfl,λ q hq=>⟨(h.Wl hq).2.1,(h.Wl hq).2.2⟩⟩ (by have:=h.m2;omega)
abbrev Ga (A:LA)(K:List (Int×Int)):CA:=K.map λ p=>(p,(Ac A p).getD (0,0))
def OZ (A:LA)(K:List (Int×Int)):(Ga A K).map zay=K:=by
 unfold Ga;rw[zbf];exact (zcc λ p _=>rfl).trans (List.map_id K)
def B4.kept {K}(h:B4 m rs L A K):Kept rs (λ x y=>Ac A (x,y)) (λ x y=>Aq (Ga A K) (x,y)):=λ x y c=>by
 have hn:((Ga A K).map zay).Nodup:=by rw[OZ];exact h.kn
 constructor
 ·intro hf;have hm:=M6 hf;unfold Ga at hm;obtain⟨p,hp,e⟩:=zar.mp hm;obtain⟨c',hc,aI⟩:=(h.km p).mp hp;rw[hc] at e;cases e;exact⟨hc,aI⟩
 ·rintro ⟨h1,h2⟩;refine SV hn ?_;unfold Ga;exact zar.mpr ⟨(x,y),(h.km (x,y)).mpr ⟨c,h1,h2⟩,by rw[show Ac A (x,y)=some c from h1];rfl⟩
abbrev QG (C:CA):CA:=C.map λ kv=>((kv.1.2,kv.1.1),kv.2)
def cI (h:(C.map zay).Nodup):((QG C).map zay).Nodup:=by
 have e:(QG C).map zay=(C.map zay).map λ p=>(p.2,p.1):=by
  unfold QG;rw[zbf,zbf];rfl
 rw[e];exact (List.pairwise_map.mpr (h.imp fun {a b} ku e=>ku (by cases a;cases b;cases e;rfl)))
def L6 (x y:Int):∀C:CA,Aq (QG C) (x,y)=Aq C (y,x)
 |[]=>rfl
 |((a,b),c)::C=>by
  unfold QG;rw[za6,Aq,Aq];have:=L6 x y C;unfold QG at this;rw[this];by_cases h:a=y/\b=x
  ·rw[if_pos (by rw[h.1,h.2]),if_pos (by rw[h.1,h.2])]
  ·rw[if_neg (λ e=>h (by cases e;exact⟨rfl,rfl⟩)),if_neg (λ e=>h (by cases e;exact⟨rfl,rfl⟩))]
def yK (p q:Int×Int):qO (cst (some p)) (cst (some q))=.ok (.bl (decide (p.1<q.1\/(p.1=q.1/\p.2<q.2)))):=by
 rw[<-xZ];rfl
def T8 (h:WP m (λ ρ=>Ia ρ=some t/\OT.sh .AV=r) (λ o=>match o with | .FJ r' ρ=>Ia ρ=some t/\r'=r | _=>False) (λ _=>False)):ES m=.ok (t,r):=by
 cases m with
 |bad|ex x=>exact h.elim
 |ok o =>
  cases o with
  |next ρ=>obtain⟨h1,h2⟩:=(show Ia ρ=some t/\OT.sh .AV=r from h);unfold ES;dsimp only;rw[h1,<-h2]
  |FJ r' ρ=>obtain⟨h1,h2⟩:=(show Ia ρ=some t/\r'=r from h);unfold ES;dsimp only;rw[h1,<-h2]
  |ret d|CD d|brk d|cont d=>exact h.elim
def M8 (h:ρ[i]?=some (some (.ow (.tree p t))))(hN:hX t=true)(hF:F t ax=.ok (t2,r)):UL i F ρ [] ax=.ok (ρ.set i (some (toCl p t2)),r):=by
 rw[hZ h rfl rfl hN hF,HU]
def M9:Hm 0 (some (.ow (.tree p (Np A)))::ρ) []=.ok (true,A.map (λ kv=>pD kv.1),A.map λ kv=>Xf kv.2):=JZ
def cJ:Hm 0 (some (.ow (.tree p (Wq R)))::ρ) []=.ok (false,R.map (λ kv=>D.int kv.1),R.map λ kv=>cst (some kv.2)):=JZ
def HC.ov (h:HC m A){u w:Int}(hu:0<=u/\u<m)(hw:0<=w/\w<m):HC m (O1 p u A w):=by
 unfold O1;split
 ·exact h
 ·rename_i e;exact h.lay ⟨e,hu,hw⟩
def HC.ou {m:Nat}{p u:Int}(hu:0<=u/\u<m):∀ {H:List Int}{A:LA},HC m A->(∀x∈H,0<=x/\x<m)->HC m (H.foldl (O1 p u) A)
 |[],A,h,_=>h
 |w::H,A,h,hH=>by
  have r:=HC.ou (A:=O1 p u A w) (H:=H) (p:=p) hu (h.ov hu (hH w za3)) λ x hx=>hH x (za4 _ hx);exact r
def EZ {α β:Type}{f}{l:List α}{x}{b:β}(h:l[i]?=some x):(l.take (i+1)).foldl f b=f ((l.take i).foldl f b) x:=by
 rw[zc0,h,Option.toList_some,List.foldl_append];rfl
def HC.lo {m:Nat}{p:Int}{H0:List Int}(h0:∀x∈H0,0<=x/\x<m):∀ {H:List Int}{A:LA},HC m A->(∀x∈H,0<=x/\x<m)->HC m (H.foldl (cG p H0) A)
 |[],A,h,_=>h
 |w::H,A,h,hH=>by
  have r:=HC.lo (p:=p) (A:=cG p H0 A w) (H:=H) h0 (HC.ou (hH w za3) h h0) λ x hx=>hH x (za4 _ hx);exact r
def rE (c:Co):ZL (.ok (.sh (cst c)))=.ok (.sh (cst c)):=by
 cases c<;>rfl
abbrev Rcb (a b:List Co×Bool):Prop:=b.2=true/\(a.2=false\/(a.2=true/\Qp ltN a.1 b.1))
def yL (x:List Co):Acc Rcb (x,false):=.intro _ λ y h=>by cases h.1
def yM (x:List Co):Acc Rcb (x,true):=by
 have:=bW x;induction this with
 |intro x _ ih =>
  refine .intro _ λ y h=>?_;obtain⟨y,b⟩:=y;rcases h.2 with e|⟨e,h2⟩
  ·dsimp only at e;subst e;exact yL y
  ·dsimp only at e;subst e;exact ih y h2
def Xk (n:Nat):CK 0 n=(Bu n).map D.int:=by rw[EN,V8]
def Jm.okR (h:Jm m r):Jl m r/\r.a≠r.b:=⟨⟨h.a0,h.a1,h.b0,h.b1,λ l hl=>(h.l0 l hl).1⟩,h.ab⟩
abbrev KP (rs:List Road)(A:LA)(p:Int×Int):Prop:=∃c,Ac A p=some c/\B9 rs p.1 p.2 (some c)
abbrev pkA (A:LA)(cs:List Co)(u w:Int):Bool:=match Ac A (u,w) with
 |none=>false
 |some c=>decide (some c=atC cs w)
def kR (hR:Right m s rs cs)(Aw:∀r∈rs,Jl m r){w:Int}(h0:0<=w)(h1:w<m):pkA A cs s w=true↔KP rs A (s,w):=by
 have hm:=hR.UZ Aw h0 h1;unfold pkA KP;cases q:Ac A ((s:Int),w) with
 |none=>simp
 |some c =>
  dsimp only;constructor
  ·intro h;have e:=of_decide_eq_true h;exact⟨c,rfl,e▸hm⟩
  ·rintro ⟨c',e,h⟩;cases e;exact decide_eq_true (h.BM hm)
def yN {K:List (Int×Int)}(hA:HC m A)(hm:m<=20)(hn:K.Nodup)(hK:∀p∈K,KP rs A p):K.length<1000:=by
 have hr:∀p∈K,p.1≠p.2/\(0<=p.1/\p.1<m)/\0<=p.2/\p.2<m:=λ p hp=>by
  obtain⟨c,hc,_⟩:=hK p hp;exact hA.rg p (EY hc)
 exact OU.len (m:=m) ⟨hn,λ x hx=>(hr _ hx).1 rfl,λ q hq=>⟨(hr q hq).2.1,(hr q hq).2.2⟩⟩ hm
def Ma:∀ds:List D,(∀d∈ds,Nj d=true)->KD (ds.map .sh)=true
 |[],_=>rfl
 |d::ds,h=>by
  rw[za6,KD,KC,h d za3,Ma ds λ x hx=>h x (za4 _ hx)];rfl
def L7 {ds:List D}(h:∀d∈ds,Nj d=true):ZL (.ok (.lst (ds.map .sh)))=.ok (.lst (ds.map .sh)):=by
 unfold ZL;simp only[M.Aa];rw[KC,Ma ds h];rfl
def Vf (L:List Int):ZL (.ok (.lst ((L.map D.int).map .sh)))=.ok (.lst ((L.map D.int).map .sh)):=L7 λ d hd=>by
 obtain⟨x,_,rfl⟩:=zar.mp hd;rfl
def rF (K:List (Int×Int)):ZL (.ok (.lst ((K.map pD).map .sh)))=.ok (.lst ((K.map pD).map .sh)):=L7 λ d hd=>by
 obtain⟨x,_,rfl⟩:=zar.mp hd;exact xX x
def Vg (cs:List Co):ZL (.ok (.lst ((cs.map cst).map .sh)))=.ok (.lst ((cs.map cst).map .sh)):=L7 λ d hd=>by
 obtain⟨x,_,rfl⟩:=zar.mp hd;exact YD x
def yO (v:(Int×Int)×Option Int):Nj (Xf v)=true:=by
 obtain⟨c,l⟩:=v;cases l<;>rfl
def rG (A:LA):ZL (.ok (Np A))=.ok (Np A):=by
 unfold ZL Np;simp only[M.Aa];rw[KC,Ma _ λ d hd=>by
  obtain⟨x,_,rfl⟩:=zar.mp hd;exact yO x.2]
 rfl
def P5 (hn:L.Nodup)(h:L[i]?=some x):C8 L x=i:=by
 have ag:=(zam.mp h).1;have e:L=L.take i++x::L.drop (i+1):=by
  have h2:L.drop i=x::L.drop (i+1):=by
   rw[zde ag];rw[za7 ag] at h;rw[zb0 h]
  rw[<-h2,zcp]
 have hx:x∉L.take i:=λ hm=>by
  rw[e,zau] at hn;exact hn.2.2 x hm x za3 rfl
 rw[e,YE hx,zbt];omega
def YF (hn:L.Nodup)(h:y∈L.drop i):i<=C8 L y:=by
 have hy:y∉L.take i:=λ hm=>by
  rw[<-zcp i L,zau] at hn;exact hn.2.2 y hm y h rfl
 have h1:=SX (pre:=L.take i) (post:=L.drop i) hy;rw[zcp,zbt] at h1;have h2:L.drop i≠[]:=λ e=>by rw[e] at h;cases h
 have h3:i<L.length:=by
  rw[Ne,List.drop_eq_nil_iff] at h2;omega
 omega
def rH (h:y∈L)(hr:i<=C8 L y):y∈L.drop i:=by
 rw[<-zcp i L] at h;rcases zao.mp h with h|h
 ·have h1:=Xh (post:=L.drop i) h;rw[zcp,zbt] at h1;omega
 ·exact h
structure Qr (L:List Int)(C:CA)(s:Int)(i:Nat)(R:RA):Prop where
 nd:(R.map zay).Nodup
 rg:∀k∈R.map zay,k∈L
 st:Bz (Aq R s) (some (0,0))
 sd:∀y c,Aq R y=some c->L1 (λ x y=>Aq C (x,y)) (C8 L) s y c
 cl:∀x y,C8 L x<i->C8 L x<C8 L y->Bz (Aq R y) (Ak (Aq R x) (Aq C (x,y)))
def Qr.len (h:Qr L C s i R):R.length<=L.length:=by
 have:=G7 h.nd h.rg;rwa[za2] at this
structure tN (L:List Int)(C:CA)(s:Int)(i:Nat)(x:Int)(c0:Int×Int)(W:List Int)(R0 R:RA):Prop where
 nd:(R.map zay).Nodup
 rg:∀k∈R.map zay,k∈L
 sd:∀y c,Aq R y=some c->L1 (λ x y=>Aq C (x,y)) (C8 L) s y c
 le:∀y,Bz (Aq R y) (Aq R0 y)
 sm:∀y,C8 L y<=i->Aq R y=Aq R0 y
 cw:∀y∈W,Bz (Aq R y) (Ak (some c0) (Aq C (x,y)))
def tN.put {R0}(h:tN L C s i x c0 W R0 R)(hy:y∈L)(hr:i<C8 L y)(hx:C8 L x=i)(r6:Aq R0 x=some c0)(hd:Aq C (x,y)=some d)(hv:DU (Aq R y) (some (c0.1+d.1,c0.2+d.2))=some v):tN L C s i x c0 (W++[y]) R0 (Dz R y v):=by
 have hle:Bz (some v) (Aq R y):=hv▸DV _ _;refine⟨M5 h.nd,λ k hk=>(OX hk).elim (h.rg k) λ e=>e▸hy,λ z c hz=>?_,λ z=>?_,λ z hz=>?_,λ z hz=>?_⟩
 ·rw[Fu] at hz;split at hz
  ·rename_i e;subst e;cases hz;rcases BH (Aq R z) (some (c0.1+d.1,c0.2+d.2)) with ⟨e,_⟩|⟨e,_⟩
   ·rw[hv] at e;exact h.sd z _ e.symm
   ·rw[hv] at e;cases e;have aA:=h.sd x c0 (by rw[h.sm x (by omega)];exact r6);exact .snoc aA (by omega) hd
  ·exact h.sd z c hz
 ·rw[Fu];split
  ·rename_i e;subst e;exact Ap hle (h.le z)
  ·exact h.le z
 ·rw[Fu,if_neg (λ e=>by subst e;omega)];exact h.sm z hz
 ·rw[Fu];split
  ·rename_i e;subst e;rw[hd];exact hv▸Ex _ _
  ·rename_i e;rcases zao.mp hz with hz|hz
   ·exact h.cw z hz
   ·exact (e (za9.mp hz)).elim
def tN.skip {R0}(h:tN L C s i x c0 W R0 R)(hd:Aq C (x,y)=none):tN L C s i x c0 (W++[y]) R0 R:=
 ⟨h.nd,h.rg,h.sd,h.le,h.sm,λ z hz=>by
  rcases zao.mp hz with hz|hz
  ·exact h.cw z hz
  ·rw[za9.mp hz,hd];cases Aq R y<;>exact trivial⟩
def Qr.go {R0}(hC:∀p c,Aq C p=some c->p.2∈L)(h0:Qr L C s i R0)(hx:L[i]?=some x)(hn:L.Nodup)(hc:Aq R0 x=some c0)(h:tN L C s i x c0 (L.drop (i+1)) R0 R):Qr L C s (i+1) R:=by
 have tf:=P5 hn hx;refine⟨h.nd,h.rg,Ap (h.le s) h0.st,h.sd,λ u y hu hy=>?_⟩;by_cases e:C8 L u<i
 ·rw[h.sm u (by omega)];exact Ap (h.le y) (h0.cl u y e hy)
 ·have e2:C8 L u=i:=by omega
  have hi:=(zam.mp hx).1;have tj:u∈L:=Xi (by omega);have eu:u=x:=SY tj (zan hx) (by omega);subst eu;rw[h.sm u (by omega),hc];cases q:Aq C (u,y) with
  |none=>cases Aq R y<;>exact trivial
  |some d =>
   have:=h.cw y (rH (hC _ _ q) (by omega));rw[q] at this;exact this
def Qr.skip (h0:Qr L C s i R)(hx:L[i]?=some x)(hn:L.Nodup)(hc:Aq R x=none):Qr L C s (i+1) R:=by
 have tf:=P5 hn hx;refine⟨h0.nd,h0.rg,h0.st,h0.sd,λ u y hu hy=>?_⟩;by_cases e:C8 L u<i
 ·exact h0.cl u y e hy
 ·have hi:=(zam.mp hx).1;have eu:u=x:=SY (Xi (by omega)) (zan hx) (by omega);subst eu;rw[hc];cases Aq C (u,y)<;>cases Aq R y<;>exact trivial
def Qr.start (hs:s∈L):Qr L C s 0 [(s,(0,0))]:=by
 refine⟨by simp,λ k hk=>by simp at hk;rw[hk];exact hs,by simp[Aq,Bz],λ y c h=>?_,λ x y h=>by omega⟩;simp only[Aq] at h;split at h
 ·rename_i e;subst e;cases h;exact .nil
 ·cases h
def Qr.upC {m:Nat}(h:Qr L C s L.length R)(hC:∀p c,Aq C p=some c->p.1∈L/\p.2∈L):UpC (C8 L) (λ x y=>Aq C (x,y)) s (Aq R):=by
 refine⟨h.st,λ x y hr=>?_,h.sd⟩;cases q:Aq C (x,y) with
 |none=>cases Aq R x<;>cases Aq R y<;>exact trivial
 |some d =>
  have hx:C8 L x<L.length:=zaq hr (kL L y);have:=h.cl x y hx hr;rw[q] at this;exact this
structure mV (m:Nat)(L:List Int)(C:CA)(s:Int)(R:RA)(W:List Int)(T:List Co):Prop where
 len:T.length=m
 no:∀x:Int,0<=x->x<m->x∉W->atC T x=none
 top:∀x∈W,Bz (atC T x) (Aq R x)
 cl:∀x∈W,∀y∈W,C8 L y<C8 L x->Bz (atC T y) (Ak (atC T x) (Aq C (x,y)))
 sd:∀(x:Int) c,0<=x->x<m->atC T x=some c->∃t n c1 c2,L1 (λ x y=>Aq C (x,y)) (C8 L) s t c1/\SS (λ x y=>Aq C (x,y)) (C8 L) t n x c2/\c=(c1.1+c2.1,c1.2+c2.2)
def mV.step (hR:∀y c,Aq R y=some c->L1 (λ x y=>Aq C (x,y)) (C8 L) s y c)(h:mV m L C s R W T){y:Int}(tu:0<=y)(yt:y<m)(tw:y∉W)(hW:∀x∈W,(0<=x/\x<m)/\C8 L y<C8 L x):
 mV m L C s R (W++[y]) (T.set y.toNat (HB (Aq R y::W.map λ x=>Ak (atC T x) (Aq C (x,y))))):=by
 obtain⟨v,hv⟩:∃v,v=HB (Aq R y::W.map λ x=>Ak (atC T x) (Aq C (x,y))):=⟨_,rfl⟩;rw[<-hv];have aY:∀i:Int,0<=i->atC (T.set y.toNat v) i=if i=y then v else atC T i:=λ i hi=>Jh tu hi (by rw[h.len];exact yt)
 have c5:∀x∈W,x≠y:=λ x hx e=>tw (e▸hx);refine⟨by rw[zbu];exact h.len,λ x h0 h1 hx=>?_,λ x hx=>?_,λ x hx z hz hr=>?_,λ x c h0 h1 hx=>?_⟩
 ·rw[zao,not_or] at hx;rw[aY x h0,if_neg (λ e=>hx.2 (za9.mpr e))];exact h.no x h0 h1 hx.1
 ·rcases zao.mp hx with hx|hx
  ·rw[aY x (hW x hx).1.1,if_neg (c5 x hx)];exact h.top x hx
  ·have e:=za9.mp hx;subst e;rw[aY x tu,if_pos rfl,hv];exact NY za3
 ·rcases zao.mp hx with aA|aA
  ·rcases zao.mp hz with cy|cy
   ·rw[aY x (hW x aA).1.1,if_neg (c5 x aA),aY z (hW z cy).1.1,if_neg (c5 z cy)];exact h.cl x aA z cy hr
   ·have e:=za9.mp cy;rw[e] at hr ⊢;rw[aY x (hW x aA).1.1,if_neg (c5 x aA),aY y tu,if_pos rfl,hv];exact NY (za4 _ (zar.mpr ⟨x,aA,rfl⟩))
  ·have e:=za9.mp aA;rw[e] at hr;rcases zao.mp hz with cy|cy
   ·have:=(hW z cy).2;omega
   ·rw[za9.mp cy] at hr;omega
 ·rw[aY x h0] at hx;split at hx
  ·rename_i e;subst e;rw[hv] at hx;rcases KW (Aq R x::W.map λ z=>Ak (atC T z) (Aq C (z,x))) with e|e
   ·rw[e] at hx;cases hx
   ·rw[hx] at e;rcases zab.mp e with e|e
    ·exact⟨x,0,c,(0,0),hR x c e.symm,.nil,by simp⟩
    ·obtain⟨z,hz,e⟩:=zar.mp e;obtain⟨p,q,e1,e2,rfl⟩:=D2 e;obtain⟨t,n,c1,c2,g1,g2,rfl⟩:=h.sd z p (hW z hz).1.1 (hW z hz).1.2 e1;exact⟨t,n+1,c1,_,g1,.snoc g2 (hW z hz).2 e2,by simp only[zcq]⟩
  ·exact h.sd x c h0 h1 hx
def mV.start:mV m L C s R [] (zag m none):=by
 have c6:∀x:Int,atC (zag m none) x=none:=λ x=>by
  unfold atC;rw[zai,zcg];split<;>rfl
 exact⟨by simp,λ x _ _ _=>c6 x,(λ x hx=>by cases hx),(λ x hx=>by cases hx),λ x c _ _ h=>by rw[c6] at h;cases h⟩
noncomputable abbrev Ar:=Option ((Int×Int)×Option Int)
abbrev K0 (v:Ar)(c:Co)(mid:Option Int):Ar:=match c with
 |none=>v
 |some c=>(match v with
  |none=>some (c,mid)
  |some z=>if c.1<z.1.1\/(c.1=z.1.1/\c.2<z.1.2) then some (c,mid) else v)
def YG (A:LA)(p q:Int×Int)(c:Co)(mid:Option Int):Aq (layA A p c mid) q=if q=p then K0 (Aq A p) c mid else Aq A q:=by
 unfold layA K0;cases c with
 |none =>
  dsimp only;by_cases h:q=p
  ·rw[if_pos h,h]
  ·rw[if_neg h]
 |some c =>
  cases e:Aq A p with
  |none=>dsimp only;rw[Fu]
  |some z =>
   dsimp only;by_cases hc:c.1<z.1.1\/(c.1=z.1.1/\c.2<z.1.2)
   ·rw[if_pos hc,if_pos hc,Fu]
   ·rw[if_neg hc,if_neg hc];by_cases h:q=p
    ·rw[if_pos h,h,e]
    ·rw[if_neg h]
def Xl (p u w:Int)(A:LA)(x y:Int):Aq (O1 p u A w) (x,y)=if x=u/\y=w/\x≠y then K0 (Aq A (x,y)) (Ak (Ac A (x,p)) (Ac A (p,y))) (some p) else Aq A (x,y):=by
 unfold O1;by_cases e:u=w
 ·rw[if_pos e,if_neg (λ h=>h.2.2 (h.1.trans (e.trans h.2.1.symm)))]
 ·rw[if_neg e,YG];by_cases h:(x,y)=(u,w)
  ·cases h;rw[if_pos rfl,if_pos ⟨rfl,rfl,e⟩]
  ·rw[if_neg h,if_neg (λ z=>h (by rw[z.1,z.2.1]))]
def kS {p u:Int}(hu:u≠p)(x y:Int):∀ {H:List Int}{A:LA},H.Nodup->p∉H->Aq (H.foldl (O1 p u) A) (x,y)=if x=u/\y∈H/\x≠y then K0 (Aq A (x,y)) (Ak (Ac A (x,p)) (Ac A (p,y))) (some p) else Aq A (x,y)
 |[],A,_,_=>by rw[List.foldl_nil,if_neg (λ h=>by cases h.2.1)]
 |w::H,A,hn,hp=>by
  rw[zb8] at hn;have tz:p≠w:=λ e=>hp (by rw[e];exact za3);have yu:p∉H:=λ e=>hp (za4 _ e);have c1:Ac (O1 p u A w) (x,p)=Ac A (x,p):=by unfold Ac;rw[Xl,if_neg (λ h=>tz h.2.1)]
  have c2:Ac (O1 p u A w) (p,y)=Ac A (p,y):=by unfold Ac;rw[Xl,if_neg (λ h=>hu h.1.symm)]
  rw[zb4,kS hu x y hn.2 yu,c1,c2,Xl];by_cases h1:x=u
  ·by_cases h2:x=y
   ·rw[if_neg (λ h=>h.2.2 h2),if_neg (λ h=>h.2.2 h2),if_neg (λ h=>h.2.2 h2)]
   ·by_cases h3:y=w
    ·have h4:y∉H:=by rw[h3];exact hn.1
     rw[if_neg (λ h=>h4 h.2.1),if_pos ⟨h1,h3,h2⟩,if_pos ⟨h1,by rw[h3];exact za3,h2⟩]
    ·by_cases h4:y∈H
     ·rw[if_pos ⟨h1,h4,h2⟩,if_neg (λ h=>h3 h.2.1),if_pos ⟨h1,za4 _ h4,h2⟩]
     ·rw[if_neg (λ h=>h4 h.2.1),if_neg (λ h=>h3 h.2.1),if_neg (λ h=>by rcases zab.mp h.2.1 with z|z;exact h3 z;exact h4 z)]
  ·rw[if_neg (λ h=>h1 h.1),if_neg (λ h=>h1 h.1),if_neg (λ h=>h1 h.1)]
def Vh {p:Int}{H:List Int}(hn:H.Nodup)(hp:p∉H)(x y:Int):∀ {U:List Int}{A:LA},U.Nodup->p∉U->Aq (U.foldl (cG p H) A) (x,y)=if x∈U/\y∈H/\x≠y then K0 (Aq A (x,y)) (Ak (Ac A (x,p)) (Ac A (p,y))) (some p) else Aq A (x,y)
 |[],A,_,_=>by rw[List.foldl_nil,if_neg (λ h=>by cases h.1)]
 |u::U,A,hU,v4=>by
  rw[zb8] at hU;have v5:u≠p:=λ e=>v4 (by rw[e];exact za3);have yv:p∉U:=λ e=>v4 (za4 _ e);have at':∀x y,Aq (cG p H A u) (x,y)=if x=u/\y∈H/\x≠y then K0 (Aq A (x,y)) (Ak (Ac A (x,p)) (Ac A (p,y))) (some p) else Aq A (x,y):=λ x y=>kS v5 x y hn hp
  have c1:Ac (cG p H A u) (x,p)=Ac A (x,p):=by unfold Ac;rw[at',if_neg (λ h=>hp h.2.1)]
  have c2:Ac (cG p H A u) (p,y)=Ac A (p,y):=by unfold Ac;rw[at',if_neg (λ h=>v5 h.1.symm)]
  rw[zb4,Vh hn hp x y hU.2 yv,c1,c2,at'];by_cases h2:y∈H/\x≠y
  ·by_cases h1:x=u
   ·have h3:x∉U:=by rw[h1];exact hU.1
    rw[if_neg (λ h=>h3 h.1),if_pos ⟨h1,h2⟩,if_pos ⟨by rw[h1];exact za3,h2⟩]
   ·by_cases h3:x∈U
    ·rw[if_pos ⟨h3,h2⟩,if_neg (λ h=>h1 h.1),if_pos ⟨za4 _ h3,h2⟩]
    ·rw[if_neg (λ h=>h3 h.1),if_neg (λ h=>h1 h.1),if_neg (λ h=>by rcases zab.mp h.1 with z|z;exact h1 z;exact h3 z)]
  ·rw[if_neg (λ h=>h2 h.2),if_neg (λ h=>h2 h.2),if_neg (λ h=>h2 h.2)]
def Mb (hn:H.Nodup)(hp:p∉H)(A:LA)(x y:Int):Aq (rC A p H) (x,y)=if x∈H/\y∈H/\x≠y then K0 (Aq A (x,y)) (Ak (Ac A (x,p)) (Ac A (p,y))) (some p) else Aq A (x,y):=Vh hn hp x y hn hp
abbrev rJ (A:LA)(x y:Int)(W:List Int)(v:Ar):Ar:=W.foldl (λ v p=>K0 v (Ak (Ac A (x,p)) (Ac A (p,y))) (some p)) v
def P6 {x y:Int}:∀ {L:List Int}{A:LA},L.Nodup->(x∉L\/y∉L)->Aq (Qq A L) (x,y)=Aq A (x,y)
 |[],A,_,_=>rfl
 |p::r,A,hn,h=>by
  rw[zb8] at hn;have h':x∉r\/y∉r:=h.imp (λ z w=>z (za4 _ w)) λ z w=>z (za4 _ w);rw[Qq,P6 hn.2 h',Mb hn.2 hn.1,if_neg (λ z=>h'.elim (λ w=>w z.1) λ w=>w z.2.1)]
def YH {x y:Int}(ae:x≠y):∀ {L:List Int}{A:LA},L.Nodup->x∈L->y∈L->Aq (Qq A L) (x,y)=rJ (Qq A L) x y (L.take (min (C8 L x) (C8 L y))) (Aq A (x,y))
 |[],A,_,h,_=>by cases h
 |p::r,A,hn,hx,hy=>by
  rw[zb8] at hn;have v6:∀z,z≠p->C8 (p::r) z=C8 r z+1:=λ z hz=>by show (if p=z then 0 else C8 r z+1)=_;rw[if_neg (zbn hz)]
  have v7:C8 (p::r) p=0:=by show (if p=p then 0 else C8 r p+1)=_;rw[if_pos rfl]
  rw[Qq];by_cases h1:x=p
  ·rw[P6 hn.2 (.inl (by rw[h1];exact hn.1)),Mb hn.2 hn.1,if_neg (λ z=>hn.1 (by rw[<-h1];exact z.1)),h1,v7,Nat.zero_min];rfl
  by_cases h2:y=p
  ·rw[P6 hn.2 (.inr (by rw[h2];exact hn.1)),Mb hn.2 hn.1,if_neg (λ z=>hn.1 (by rw[<-h2];exact z.2.1)),h2,v7,Nat.min_zero];rfl
  have v8:x∈r:=(zab.mp hx).resolve_left h1;have m8:y∈r:=(zab.mp hy).resolve_left h2;have e1:Ac (Qq (rC A p r) r) (x,p)=Ac A (x,p):=by unfold Ac;rw[P6 hn.2 (.inr hn.1),Mb hn.2 hn.1,if_neg (λ z=>hn.1 z.2.1)]
  have e2:Ac (Qq (rC A p r) r) (p,y)=Ac A (p,y):=by unfold Ac;rw[P6 hn.2 (.inl hn.1),Mb hn.2 hn.1,if_neg (λ z=>hn.1 z.1)]
  have et:(p::r).take (min (C8 (p::r) x) (C8 (p::r) y))=p::r.take (min (C8 r x) (C8 r y)):=by
   rw[v6 x h1,v6 y h2,Nat.add_min_add_right,List.take_succ_cons]
  rw[et,YH ae hn.2 v8 m8,Mb hn.2 hn.1,if_pos ⟨v8,m8,ae⟩];unfold rJ;rw[zb4,e1,e2]
def cK (hn:L.Nodup)(hx:x∈L)(hy:y∈L)(ae:x≠y):Aq (BB rs L) (x,y)=rJ (BB rs L) x y (L.take (min (C8 L x) (C8 L y))) (Aq (lay0 rs) (x,y)):=YH ae hn hx hy
def YI (rs:List Road):∀x y c mid,Aq (lay0 rs) (x,y)=some (c,mid)->mid=none/\∃r∈rs,r.a=x/\r.b=y/\Cn r=some c:=by
 unfold lay0;have:=G9 (L:=rs) (pre:=[]) (f:=λ A r=>layA A (r.a,r.b) (Cn r) none) (b:=[]) (λ _ A=>∀x y c mid,Aq A (x,y)=some (c,mid)->mid=none/\∃r∈rs,r.a=x/\r.b=y/\Cn r=some c) (λ _ _ _ _ h=>by cases h) λ r hr W B hB x y c mid h=>by
  rw[YG] at h;by_cases e:(x,y)=(r.a,r.b)
  ·cases e;rw[if_pos rfl] at h;unfold K0 at h;cases q:Cn r with
   |none=>rw[q] at h;exact hB _ _ _ _ h
   |some d =>
    rw[q] at h;dsimp only at h;split at h
    ·cases h;exact⟨rfl,r,hr,rfl,rfl,q⟩
    ·rename_i z hz;split at h
     ·cases h;exact⟨rfl,r,hr,rfl,rfl,q⟩
     ·exact hB _ _ _ _ h
  ·rw[if_neg e] at h;exact hB _ _ _ _ h
 exact this
abbrev kT (v:Ar):Co:=v.map zay
def rK (v:Ar)(c:Co)(mid:Option Int):kT (K0 v c mid)=DU (kT v) c:=by
 unfold K0 kT;cases c with
 |none=>cases v<;>rfl
 |some c =>
  cases v with
  |none=>rfl
  |some z =>
   dsimp only;simp only[zck,DU,jV];by_cases hc:c.1<z.1.1\/(c.1=z.1.1/\c.2<z.1.2)
   ·rw[if_pos hc,if_neg (by omega)];rfl
   ·rw[if_neg hc,if_pos (by omega)];rfl
structure Fd (cd:Int->Co)(v0:Ar)(W:List Int)(v:Ar):Prop where
 le0:Bz (kT v) (kT v0)
 lec:∀p∈W,Bz (kT v) (cd p)
 AV:∀c,v=some (c,none)->v0=some (c,none)
 mid:∀c p,v=some (c,some p)->(∃W1 W2,W=W1++p::W2/\cd p=some c/\∀q∈W1,cd q≠some c)/\kT v0≠some c
def yP (h0:∀c p,v0≠some (c,some p))(W:List Int):Fd cd v0 W (W.foldl (λ v p=>K0 v (cd p) (some p)) v0):=by
 have:=G9 (L:=W) (pre:=[]) (f:=λ v p=>K0 v (cd p) (some p)) (b:=v0) (λ W v=>Fd cd v0 W v) ⟨Cb _,(λ p hp=>by cases hp),λ c h=>h,λ c p h=>absurd h (h0 c p)⟩ λ p hp W v hv=>by
  have kx:=rK v (cd p) (some p);refine⟨?_,λ q hq=>?_,λ c h=>?_,λ c q h=>?_⟩
  ·rw[kx];exact Ap (DV _ _) hv.le0
  ·rw[kx];rcases zao.mp hq with hq|hq
   ·exact Ap (DV _ _) (hv.lec q hq)
   ·rw[za9.mp hq];exact Ex _ _
  ·unfold K0 at h;split at h
   ·exact hv.AV c h
   ·split at h
    ·cases h
    ·rename_i z;split at h
     ·cases h
     ·exact hv.AV c h
  ·have keep:v=some (c,some q)->(∃W1 W2,W++[p]=W1++q::W2/\cd q=some c/\∀q∈W1,cd q≠some c)/\kT v0≠some c:=λ h=>by
    obtain⟨⟨W1,W2,e1,e2,e3⟩,e4⟩:=hv.mid c q h;exact⟨⟨W1,W2++[p],by rw[e1];simp,e2,e3⟩,e4⟩
   have new:∀d:Int×Int,cd p=some d->(∀z,kT v=some z->d.1<z.1\/(d.1=z.1/\d.2<z.2))->(∃W1 W2,W++[p]=W1++p::W2/\cd p=some d/\∀q∈W1,cd q≠some d)/\kT v0≠some d:=λ d hd ag=>by
    have no:∀o:Co,Bz (kT v) o->o≠some d:=λ o ho e=>by
     subst e;obtain⟨z,hz,hle⟩:=OW ho;have:=ag z hz;simp only[O0] at hle;omega
    exact⟨⟨W,[],rfl,hd,λ q hq=>no _ (hv.lec q hq)⟩,no _ hv.le0⟩
   unfold K0 at h;split at h
   ·exact keep h
   ·rename_i c' hd;split at h
    ·cases h;exact new _ hd λ z hz=>by cases hz
    ·rename_i z;split at h
     ·rename_i hc;cases h;exact new _ hd λ z' hz=>by cases hz;exact hc
     ·exact keep h
 exact this
section
variable {m:Nat}
def Vi (hn:L.Nodup)(h:x∈L.take k):x∈L/\C8 L x<k:=by
 obtain⟨i,hi⟩:=List.mem_iff_getElem?.mp h;rw[List.getElem?_take] at hi;split at hi
 ·rename_i hk;exact⟨zan hi,by rw[P5 hn hi];exact hk⟩
 ·cases hi
end
def yQ (ha:0<=a/\a<RD)(hb:0<=b/\b<RD)(h0:0<=i)(h1:i<2):∃w:Int,AG (.lst [.int a,.int b]) (.int i)=.ok (.int w)/\0<=w/\w<RD:=by
 have hi:i=0\/i=1:=by omega
 rcases hi with rfl|rfl
 ·exact⟨a,rfl,ha⟩
 ·exact⟨b,rfl,hb⟩
def adl {α:Type}{a b c d e f g h:D}{x y:α}:(if [a,b,c,d,e,f,g,h].length<=1000 then x else y)=x:=if_pos (by simp)
def abC (r:Road):dp (.ok (Bw r))=.ok (Bw r):=by
 obtain⟨a,b,l,w⟩:=r;cases l<;>rfl
def yR (i:Int):dp (.ok (.int i))=.ok (.int i):=rfl
def T9 {x y:Int}(h:ρ[i]?=some (some (.ow (.rows (AU ac)))))(hM:OS m ac)(h0:0<=x)(h1:x<m)(h2:0<=y)(h3:y<m):pA i ρ (.ok (.int x)) (.ok (.int y))=.ok (cst (at2 ac x y)):=by
 unfold pA;rw[h];simp only[M.Aa];rw[V7 hM h0 h1];exact qV hM h0 h1 h2 h3
def Ta {x y:Int}(h:ρ[i]?=some (some (.ow (.rows (AU ac)))))(hM:OS m ac)(h0:0<=x)(h1:x<m)(h2:0<=y)(h3:y<m):UC i ρ (.ok (.int x)) (.ok (.int y)) (cst v)=.ok (.next (ρ.set i (some (.ow (.rows (AU (put2 ac x y v))))))):=by
 unfold UC;rw[h];simp only[M.Aa];rw[V7 hM h0 h1];exact qW hM h0 h1 h2 h3 i ρ v
abbrev De (gt:D->Ad->M Ad)(ft:Ad->M Bool)(fn:Ad->M OT):List D->Ad->M (List OT)
 |[],_=>.ok []
 |d::r,ρ=>match gt d ρ with
  | .ok ρ1=>(match ft ρ1 with
   | .ok true=>(match fn ρ1 with
    | .ok t=>(match De gt ft fn r ρ with
     | .ok ts=>.ok (t::ts)
     |_=>.bad)
    |_=>.bad)
   | .ok false=>De gt ft fn r ρ
   |_=>.bad)
  |_=>.bad
abbrev Mc (m:M (List OT)):M OT:=match m with | .ok ts=>.ok (.lst ts) | _=>.bad
def Av.snoc {K:za1}{H:Hp}{P:Addr->Prop}:∀ {xs:List V}{ts:List OT}{fp fq:List Addr}{v:V}{t:OT},Av K H P xs ts fp->C3 K H P v t fq->Av K H P (xs++[v]) (ts++[t]) (fp++fq):=by
 intro _ _ _ fq v t x_ o;cases x_ with
 |nil =>
  have z:Av K H P [v] [t] (fq++[]):=.cons o .nil;rw[zb1] at z;exact z
 |cons a r =>
  rw[zb3];exact .cons a (Av.snoc r o)
def TY.adm {K}(h:TY K WX P H Q (.ok (.lst ts)))(s1:Ah H H1)(n1:∀a∈fp,H a=none)(nd:fp.Nodup)(hP:∀a,P a->ED H1 a)(o1:Av K H1 (PU P fp) xs ts fp):∀p,H1 p=none->Q (.ref p) (upd H1 p (.lst xs)):=λ p hp=>by
 have ae:∀a∈fp,a≠p:=λ a ha z=>(o1.BQ a ha).no (by rw[z];exact hp);exact h _ (p::fp) _ (s1.trans (AJ hp _)) (λ a ha=>(zab.mp ha).elim (λ z=>by rw[z];exact Ce s1 hp) (n1 a)) (zb8.mpr ⟨λ z=>ae p z rfl,nd⟩) (.lst Am (o1.move (gN hp (NS hP o1)) λ a ha=>Ag (ae a ha)))
def Ip {α:Type}{g}(f:α->OT):∀ {l:List α},(∀x∈l,∃ρ1,gt (g x) ρ=.ok ρ1/\ft ρ1=.ok true/\fn ρ1=.ok (f x))->De gt ft fn (l.map g) ρ=.ok (l.map f)
 |[],_=>rfl
 |x::r,h=>by
  obtain⟨ρ1,h1,h2,h3⟩:=h x (.head _);rw[za6,De,h1];dsimp only;rw[h2];dsimp only;rw[h3];dsimp only;rw[Ip f λ y hy=>h y (.tail _ hy)];rfl
section
variable {c:Bool}{P:Addr->Prop}{H:Hp}{a b:Expr}{f g:Ad->M D}
def YJ (i2:∀P0 P σ H R ρ,An X.K P0 P H σ ρ->(match fi ρ with | .ok ds=>∀J H',Ah H H'->Ux X.K J P H' ds->R J H' | .ex x=>∀H',Ah H H'->WX x H' | .bad=>False)->wi σ H R)(g2:∀P0 P σ H Q ρ v d,An X.K P0 P H σ ρ->BS X.K (del H P) v d->gG X.K P0 P H Q (gt d ρ)->gg v σ H Q)(t2:∀s H' C ex P0 P σ H Q ρ,An X.K P0 P H σ ρ->gT (λ _ _=>False) H Q (ft ρ)->tc s H' C ex σ H Q)(e2:∀s H' C ex P0 P σ H Q ρ,An X.K P0 P H σ ρ->TY X.K (λ _ _=>False) P H Q (fn ρ)->te s H' C ex σ H Q)(E:An X.K P0 P H σ ρ)(h:TY X.K WX P H Q ((fi ρ).bind λ ds=>if ds.length<=1000 then Mc (De gt ft fn ds (AZ μ ρ)) else .bad)):R9 wi μ gg tc te σ H Q:=by
 refine i2 P0 P σ H _ ρ E ?_;cases q:fi ρ with
 |bad|ex x=>rw[q] at h;exact h
 |ok ds =>
  rw[q] at h;simp only[M.Aa] at h;by_cases hd:¬ ds.length<=1000
  ·rw[if_neg hd] at h;exact h.elim
  have hd:ds.length<=1000:=by omega
  rw[if_pos hd] at h;intro J H1 s1 ok s C ex;cases qc:De gt ft fn ds (AZ μ ρ) with
  |bad|ex x=>rw[qc] at h;exact h.elim
  |ok total =>
   rw[qc] at h;unfold Mc at h;dsimp only at h;have E1:=E.same s1;refine⟨λ i m ys H2=>m=ds.length-i/\i<=ds.length/\ys.length<=i/\Ah H1 H2/\∃ts fp rest,Av X.K H2 (PU P fp) ys ts fp/\(∀a∈fp,H1 a=none)/\fp.Nodup/\De gt ft fn (ds.drop i) (AZ μ ρ)=.ok rest/\ts++rest=total,
    ⟨ds.length,by simp,zbe _,zaf _,Ah.refl _,[],[],total,.nil,(λ a ha=>by cases ha),zbv,by rw[List.drop_zero];exact qc,rfl⟩,?_⟩
   rintro i m ys H2 ⟨rfl,hi,hy,s2,ts,fp,rest,bj,bq,c4,af,aw⟩;have v9:An X.K P0 (PU P fp) H2 σ ρ:=E1.more s2 HV (NS (E1.same s2).BQ bj) (Bs s2 bq);by_cases ag:i<ds.length
   ·refine .inr ⟨ok.go i (PU P fp) H2 (Bs s2 bq) ag,Nat.lt_of_le_of_lt hy (AA (by omega)),λ aG H'=>i+1<=ds.length/\aG.length<=i+1/\Ah H1 H'/\∃ts fp rest,Av X.K H' (PU P fp) aG ts fp/\(∀a∈fp,H1 a=none)/\fp.Nodup/\De gt ft fn (ds.drop (i+1)) (AZ μ ρ)=.ok rest/\ts++rest=total,λ aG H' hq=>⟨ds.length-(i+1),by omega,rfl,hq.1,hq.2.1,hq.2.2.1,hq.2.2.2⟩,λ v H3 y=>?_⟩;obtain⟨s3,hv⟩:=ok.mQ i (PU P fp) H2 v H3 ds[i] (Bs s2 bq) v9.BQ (za7 ag) y;rw[G5 ag,De] at af;have E3:=(v9.same s3).block μ;have mv:∀ {Ha Hb:Hp},Ah Ha Hb->Av X.K Ha (PU P fp) ys ts fp->Av X.K Hb (PU P fp) ys ts fp:=fun {Ha Hb} wa o=>o.move wa.del λ a ha=>by
     obtain⟨o',z,_⟩:=o.BQ a ha;rw[z];exact wa _ _ z
    refine g2 P0 (PU P fp) _ H3 _ (AZ μ ρ) v ds[i] E3 hv ?_;cases q1:gt ds[i] (AZ μ ρ) with
    |bad|ex x=>rw[q1] at af;cases af
    |ok ρ1 =>
     rw[q1] at af;dsimp only at af;intro σ4 E4;refine t2 s H1 C ex P0 (PU P fp) σ4 H3 _ ρ1 E4 ?_;cases q2:ft ρ1 with
     |bad|ex x=>rw[q2] at af;cases af
     |ok k =>
      rw[q2] at af;intro H5 s5;cases k with
      |false =>
       dsimp only at af;simp only[zaz,if_false];exact⟨ag,by omega,(s2.trans s3).trans s5,ts,fp,rest,mv s5 (mv s3 bj),bq,c4,af,aw⟩
      |true =>
       dsimp only at af;simp only[if_true];refine e2 s H1 C ex P0 (PU P fp) σ4 H5 _ ρ1 (E4.same s5) ?_;cases q3:fn ρ1 with
       |bad|ex x=>rw[q3] at af;cases af
       |ok y' =>
        rw[q3] at af;dsimp only at af;cases q4:De gt ft fn (ds.drop (i+1)) (AZ μ ρ) with
        |bad|ex x=>rw[q4] at af;cases af
        |ok gu =>
         rw[q4] at af;cases af;intro w fq H6 s6 n6 yw o6;have hs:=mv s5 (mv s3 bj);have dj:∀a∈fp,a∉fq:=λ a ha hb=>(hs.BQ a ha).no (n6 a hb);have eP:PU (PU P fp) fq=PU P (fp++fq):=by
          funext a;simp only[PU,zao,or_assoc]
         have sm:Ah (del H5 (PU P fp)) (del H6 (PU P (fp++fq))):=by rw[<-eP];exact Bs s6 n6
         refine⟨ag,by rw[zal,zbd];omega,((s2.trans s3).trans s5).trans s6,ts++[y'],fp++fq,gu,(hs.move sm λ a ha=>?_).snoc (by rw[<-eP];exact o6),λ a ha=>?_,zau.mpr ⟨c4,yw,λ a ha b hb z=>dj a ha (by rw[z];exact hb)⟩,rfl,?_⟩
         ·obtain⟨o',z,_⟩:=hs.BQ a ha;rw[z];exact s6 _ _ z
         ·rcases zao.mp ha with ha|ha
          ·exact bq a ha
          ·exact Ce ((s2.trans s3).trans s5) (n6 a ha)
         ·rw[zb3];exact aw
   ·have e:i=ds.length:=by omega
    subst e;rw[zcx,De] at af;cases af;rw[zb1] at aw;subst aw;exact .inl ⟨ok.stop _ (PU P fp) H2 (Bs s2 bq) (zaf _),λ D0 hn=>h.adm (s1.trans s2) (λ a ha=>Ce s1 (bq a ha)) c4 (E1.same s2).BQ bj D0 hn⟩
def kU (μ:List (Option Nat))(hc:X.calm=true)(hi:DI X WX tg iter fi)(av:FZ scope X.env.scope=true)(aM:Nh X.N NB scope μ=true)(hg:sV X scope NB μ tg gt)(ht:∀s H C ex,sW (blockOf X s H scope C NB ex) ifs ft)(he:∀s H C ex,DN (blockOf X s H scope C NB ex) (λ _ _=>False) elt fn)(hs:∀x,foldedSetIterable iter X.env x=pure x:=by intro _;rfl):
 DN X WX (.ListComp elt [⟨tg,iter,ifs,0⟩] scope pos) (λ ρ=>(fi ρ).bind λ ds=>if ds.length<=1000 then Mc (De gt ft fn ds (AZ μ ρ)) else .bad):=by
 obtain⟨wi,i1,i2⟩:=hi;obtain⟨gg,g1,gk,g2⟩:=hg;refine⟨_,Sn hc i1 av aM gk (λ s H C ex=>⟨g1 s H C ex,(za0 (ht s H C ex)).1,(za0 (he s H C ex)).1⟩) hs,λ P0 P σ H Q ρ E h=>?_⟩;exact YJ i2 g2 (λ s H' C ex P0 P σ H Q ρ E h=>(za0 (ht s H' C ex)).2 P0 P σ H Q ρ E h) (λ s H' C ex P0 P σ H Q ρ E h=>(za0 (he s H' C ex)).2 P0 P σ H Q ρ E h) E h
end
def Inv.freeze (I:Inv X pins σ H s)(e:H a=some (.dK kvs)):
 ∃o,s.heap.get? a=some o/\Inv X pins σ (upd H a (.Hg o (.dK kvs))) s:=by
 obtain⟨z,y,vs,r,o,es,ep,ho,c⟩:=(show Br X.prog X.w H s.heap a (.dK kvs) from I.Aw a _ e);have ne:∀b u,H b=some u->u≠.dK kvs->b≠a:=λ b u q n hb=>n (by rw[hb,e] at q;exact (zb0 q).symm);have Aw:Hh X.prog X.w (upd H a (.Hg o (.dK kvs))) s.heap:=λ b u q=>by
  by_cases hb:b=a
  ·subst hb;rw[Am] at q;cases q;exact⟨ho,⟨z,y,vs,r,o,es,ep,ho,c⟩⟩
  ·rw[Ag hb] at q;exact (I.Aw b u q).Nc (λ _ _ _ w=>w) (λ d w=>by rw[Ag (ne d _ w (λ z=>by cases z))];exact w) λ d xs w=>by rw[Ag (ne d _ w (λ z=>by cases z))];exact w
 refine⟨o,ho,?_⟩;have:=I.step (g':=s.gens) (d':=s.drawn) (t':=s.toks) (ch:=[]) (h':=s.heap) (H':=upd H a (.Hg o (.dK kvs))) (λ b hb=>by cases hb) (λ _ _ _ _ _ q _=>q) (λ b o _ _ _ q _=>⟨o.slots,q⟩) (λ b o _ _ n=>by rw[Ag (λ z=>by rw[z,e] at n;cases n)];exact n)
  (λ b o _ q=>⟨o,q⟩) (λ b xs q=>by rw[Ag (ne b _ q (λ z=>by cases z))];exact q) (λ b o u q=>by rw[Ag (ne b _ q (λ z=>by cases z))];exact q) (λ b ps q=>⟨#[],by rw[Ag (ne b _ q (λ z=>by cases z)),q];simp⟩) (λ _ q=>q) Aw I.bare
 exact this
def Inv.abD (I:Inv X pins σ H s)(e:H a=some (.dK kvs)):∀o u,X.H₀ a≠some (.Hg o u):=λ o u q=>by
 rw[I.base.Nd a o u q] at e;cases e
def Inv.kW (I:Inv X pins σ H s)(e:H a=some (.Hg o (.dK kvs)))(n0:∀o u,X.H₀ a≠some (.Hg o u)):Inv X pins σ (upd H a (.dK kvs)) s:=by
 have ne:∀b u,H b=some u->u≠.Hg o (.dK kvs)->b≠a:=λ b u q n hb=>n (by rw[hb,e] at q;exact (zb0 q).symm);have nn:∀b,H b=none->b≠a:=λ b q hb=>by rw[hb,e] at q;cases q
 refine⟨I.ok,I.os,I.bare,⟨I.base.keep,I.base.slot,λ b ob q n hx=>?_,I.base.there,λ b xs q=>?_,λ b ob u q=>?_,λ b ps q=>?_⟩,I.loc,I.cell,?_,λ x c h=>?_,λ p hp=>?_,λ b u q=>?_,I.len⟩
 ·have:=I.base.free b ob q n hx;rw[Ag (nn b this)];exact this
 ·have:=I.base.Qs b xs q;rw[Ag (ne b _ this (λ z=>by cases z))];exact this
 ·by_cases hb:b=a
  ·subst hb;exact absurd q (n0 ob u)
  ·rw[Ag hb];exact I.base.Nd b ob u q
 ·obtain⟨m,h⟩:=I.base.Qt b ps q;exact⟨m,by rw[Ag (ne b _ h (λ z=>by cases z))];exact h⟩
 ·rw[Ag (nn _ I.free)];exact I.free
 ·rw[Ag (nn _ (I.FX x c h))];exact I.FX x c h
 ·obtain⟨h1,h2,h3⟩:=I.pin p hp;exact⟨h1,by rw[Ag (nn _ h2)];exact h2,h3⟩
 ·by_cases hb:b=a
  ·subst hb;rw[Am] at q;cases q;obtain⟨h1,z,y,vs,r,ob,es,ep,ho,c⟩:=(show Br X.prog X.w H s.heap b (.Hg o (.dK kvs)) from I.Aw b _ e);exact⟨z,y,vs,r,ob,es,ep,ho,c⟩
  ·rw[Ag hb] at q;exact (I.Aw b u q).Nc (λ _ _ _ w=>w) (λ d w=>by rw[Ag (ne d _ w (λ z=>by cases z))];exact w) λ d xs w=>by rw[Ag (ne d _ w (λ z=>by cases z))];exact w
def cL:∀ {k:Key}{u:Value},O4 k u=true->RelV (kV k) u
 | .inl i,u,h=>by
  obtain⟨t,e⟩:=Value.isInt_shape (k:=i) (v:=u) h;exact⟨t,e⟩
 | .inr x,u,h=>by
  obtain⟨t,e⟩:=Value.isStrOf_shape (x:=x) (v:=u) h;exact⟨t,e⟩
def KV.get (r:KV kvs vs){i:Nat}{k:Key}(h:vs[i]?=some (k,x)):∃v,kvs[i]?=some (k,v):=by
 induction r generalizing i with
 |nil=>cases h
 | @cons p q ps qs hd tl ih =>
  cases i with
  |zero =>
   rw[zc6] at h;cases h;have ep:p=(k,p.2):=Prod.ext hd.1 rfl;exact⟨p.2,by rw[zc6,<-ep]⟩
  |succ i=>rw[zba] at h ⊢;exact ih h
abbrev Itd (a:Addr)(o:Obj)(kvs:List (Key×V)):It:=
 ⟨λ i H=>H a=some (.Hg o (.dK kvs))/\i<kvs.length,λ i H v H'=>H'=H/\∃kv,kvs[i]?=some kv/\v=kV kv.1,λ i H=>H a=some (.Hg o (.dK kvs))/\kvs.length<=i⟩
def cM {K}(a it:Addr)(o:Obj)(kvs:List (Key×V))(vs:List (Key×Value))(ep:Nat)(hD:∀h:Heap,h.get? a=some o->h.DictAt (AM P w) a vs ep)(ky:KV kvs vs)(ae:a≠it):
 Turn P w K tg (Itd a o kvs) [it] it (λ i h=>i<=kvs.length/\h.IsKeyIter it a i kvs.length ep) where
 mem:=by simp
 obj:=λ i h st b hb=>by
  have e:b=it:=by simpa using hb
  subst e;obtain⟨_,o,e,c,d⟩:=st;exact⟨o,e,λ v z=>by rw[d] at z;cases z⟩
 keep:=λ i h h' st k=>⟨st.1,st.2.at λ o e=>k it (by simp) o e⟩
 item:=by
  intro X hP hw hK hc i pins s σ H E I hf st hg;subst hP hw hK;obtain⟨he,hi⟩:=hg;have hlen:kvs.length=vs.length:=zd5 ky;have g9:s.heap.get? a=some o:=(show Br X.prog X.w H s.heap a (.Hg o (.dK kvs)) from I.Aw a _ he).1;obtain⟨f0,f1,f2,f3,f4,f5⟩:=hf it (by simp);have W:=Walks.dictKeys (prog:=X.prog) (w:=X.w) (knd:=AM X.prog X.w) (A:=X.A) (I.ok.hd hc) it a ae vs ep;refine W.item i s _ _ (by omega) ⟨by rw[<-hlen];exact st.2,hD _ g9⟩ λ v h' tk hv bd kp=>?_;obtain⟨k,x,hk,yx⟩:=hv;obtain⟨v',jk⟩:=ky.get hk;have I1:Inv X pins σ H {s with heap:=h',toks:=tk}:=I.turned (t':=tk) (λ b o hb e=>kp b o (by simpa using hb) e) f0 f1 f3 f4 f5;obtain⟨ob,e,c,d⟩:=id bd.1;exact⟨v,rfl,U8 (s:={s with heap:=h',toks:=tk}) e c d (by decide) ⟨kV k,H,I1,cL yx,⟨rfl,_,jk,rfl⟩,⟨hi,by rw[hlen];exact bd.1⟩,λ b hb=>(hf b hb).1⟩⟩
 done:=by
  intro X hP hw hK hc i pins s σ H E I hf st hg;subst hP hw hK;obtain⟨he,hi⟩:=hg;have hlen:kvs.length=vs.length:=zd5 ky;have g9:s.heap.get? a=some o:=(show Br X.prog X.w H s.heap a (.Hg o (.dK kvs)) from I.Aw a _ he).1;obtain⟨f0,f1,f2,f3,f4,f5⟩:=hf it (by simp);have W:=Walks.dictKeys (prog:=X.prog) (w:=X.w) (knd:=AM X.prog X.w) (A:=X.A) (I.ok.hd hc) it a ae vs ep;have sw:i=vs.length:=by have:=st.1;omega
  subst sw;exact W.done s _ _ ⟨by rw[<-hlen];rw[<-hlen] at st;exact st.2,hD _ g9⟩ λ h' tk kp=>⟨rfl,I.turned (t':=tk) (λ b o hb e=>kp b o (by simpa using hb) e) f0 f1 f3 f4 f5⟩
 self:=λ _ _ _ _ _ st h=>wpAny_pyIter_keyiter st.2 h
section
variable {f g:Ad->M D}{p:Pos}{te:TE}
abbrev abF (H0:Hp)(te:TE):TI:=λ σ H R=>te σ H λ v H1=>∃a kvs,v=.ref a/\((H1 a=some (.dK kvs)/\∀o,(∀o u,H0 a≠some (.Hg o u))->R (Itd a o kvs) (upd H1 a (.Hg o (.dK kvs))))\/∃o,H1 a=some (.Hg o (.dK kvs))/\R (Itd a o kvs) H1)
def rL (ha:PE X e te):PI X tg e (abF X.H₀ te):=by
 intro pins s σ H R I h;refine Bl (ha pins s σ H _ I h) λ v s1 zz=>?_;obtain⟨x,H1,I1,r1,q1⟩:=zz;obtain⟨a,kvs,rfl,q⟩:=q1;cases r1;have fin:∀(H2:Hp) (o:Obj),Inv X pins σ H2 s1->H2 a=some (.Hg o (.dK kvs))->R (Itd a o kvs) H2->wpAny (model X.prog X.w) X.A (pyIter (.ref a)) (PIE X pins σ tg R) X.xe s1:=λ H2 o I2 e2 q2=>by
  obtain⟨g9,z,y,vs,r,ob,es,ep,ho,c⟩:=(show Br X.prog X.w H2 s1.heap a (.Hg o (.dK kvs)) from I2.Aw a _ e2);have eo:o=ob:=zb0 (g9.symm.trans ho);subst eo;have hD:∀h:Heap,h.get? a=some o->h.DictAt (AM X.prog X.w) a vs ep:=λ h q=>⟨o,es,q,c⟩;have hlen:kvs.length=vs.length:=zd5 r;refine wpAny_pyIter_dict y (hD _ g9) ?_;refine⟨s1.heap.objs.size,[s1.heap.objs.size],_,_,H2,rfl,I2.kept (t':=s1.toks) λ b o e=>zah _ e,cM a _ o kvs vs ep hD r (zax (zak g9)),⟨zbe _,_,zat _ rfl,rfl,by rw[hlen];rfl⟩,λ b hb=>?_,q2⟩;have e:b=s1.heap.objs.size:=by simpa using hb
  subst e;exact I2.Wu (zaf _) (I2.Aw.fresh (zaf _))
 rcases q with ⟨e1,q⟩|⟨o,e1,q⟩
 ·obtain⟨o,ho,I2⟩:=I1.freeze e1;exact fin _ o I2 Am (q o (I1.abD e1))
 ·exact fin H1 o I1 e1 q
end
abbrev Rz (H H':Hp):Prop:=∀b u,H b=some u->H' b=some u\/(∃o kvs,u=.Hg o (.dK kvs)/\H' b=some (.dK kvs))\/∃o kvs,u=.dK kvs/\H' b=some (.Hg o (.dK kvs))
def Rz.tup (e:Rz H H')(h:H a=some (.tup xs)):H' a=some (.tup xs):=by
 rcases e _ _ h with q|⟨o,k,q,_⟩|⟨o,k,q,_⟩
 ·exact q
 ·cases q
 ·cases q
def Rz.dT (e:Rz H H')(h:Rd H a (.dT kvs)):Rd H' a (.dT kvs):=by
 rcases h with h|⟨o,h⟩
 ·rcases e _ _ h with q|⟨o,k,q,_⟩|⟨o,k,q,_⟩
  ·exact .inl q
  ·cases q
  ·cases q
 ·rcases e _ _ h with q|⟨o,k,q,_⟩|⟨o,k,q,_⟩
  ·exact .inr ⟨_,q⟩
  ·cases q
  ·cases q
def Rz.dK (e:Rz H H')(h:Rd H a (.dK kvs)):Rd H' a (.dK kvs):=by
 rcases h with h|⟨o,h⟩
 ·rcases e _ _ h with q|⟨o,k,q,_⟩|⟨o,k,q,r⟩
  ·exact .inl q
  ·cases q
  ·cases q;exact .inr ⟨_,r⟩
 ·rcases e _ _ h with q|⟨o,k,q,r⟩|⟨o,k,q,_⟩
  ·exact .inr ⟨_,q⟩
  ·cases q;exact .inl r
  ·cases q
def Rz.ins (e:Rz H H')(h:H a=some (.ins C dx fs)):H' a=some (.ins C dx fs):=by
 rcases e _ _ h with q|⟨o,k,q,_⟩|⟨o,k,q,_⟩
 ·exact q
 ·cases q
 ·cases q
def Rz.seq {K}(e:Rz H H')(h:Ds K H a xs):Ds K H' a xs:=by
 rcases h with (h|⟨o,h⟩)|h
 ·rcases e _ _ h with q|⟨o,k,q,_⟩|⟨o,k,q,_⟩
  ·exact .inl (.inl q)
  ·cases q
  ·cases q
 ·rcases e _ _ h with q|⟨o,k,q,_⟩|⟨o,k,q,_⟩
  ·exact .inl (.inr ⟨_,q⟩)
  ·cases q
  ·cases q
 ·exact .inr h
mutual
theorem BS.rz {K:za1}{H H':Hp}(e:Rz H H'):∀ {v:V}{d:D},BS K H v d->BS K H' v d:=by
 intro _ _ x_;cases x_ with
 |AV=>exact .AV
 |bl b=>exact .bl b
 |int i=>exact .int i
 |str x=>exact .str x
 |tup h r=>exact .tup (e.tup h) (Aj.rz e r)
 |lst h r=>exact .lst (e.seq h) (Aj.rz e r)
 |TU h r=>exact .TU (e.dK h) (Aj.rz e r)
 |Ur h r=>exact .Ur (e.dT h) (Aj.rz e r)
 |ins n h r=>exact .ins n (e.ins h) (Aj.rz e r)
 |Gm h r=>exact .Gm h r
theorem Aj.rz {K:za1}{H H':Hp}(e:Rz H H'):∀ {vs:List V}{ds:List D},Aj K H vs ds->Aj K H' vs ds:=by
 intro _ _ x_;cases x_ with
 |nil=>exact .nil
 |cons h t=>exact .cons (BS.rz e h) (Aj.rz e t)
end
mutual
theorem C3.rz {K:za1}{H H':Hp}{P P':Addr->Prop}(sm:Rz (del H P) (del H' P')):∀ {v:V}{t:OT}{fp:List Addr},(∀a∈fp,H' a=H a)->C3 K H P v t fp->C3 K H' P' v t fp:=by
 intro _ _ _ k x_;cases x_ with
 |sh h=>exact .sh (h.rz sm)
 |lst h r=>exact .lst ((k _ za3).trans h) (Av.rz sm (λ a ha=>k a (za4 _ ha)) r)
 |tup h r=>exact .tup (sm.tup h) (Av.rz sm k r)
 |dK h r=>exact .dK ((k _ za3).trans h) (Av.rz sm (λ a ha=>k a (za4 _ ha)) r)
 |dT h r=>exact .dT ((k _ za3).trans h) (Av.rz sm (λ a ha=>k a (za4 _ ha)) r)
 |ins n h r=>exact .ins n ((k _ za3).trans h) (Av.rz sm (λ a ha=>k a (za4 _ ha)) r)
theorem Av.rz {K:za1}{H H':Hp}{P P':Addr->Prop}(sm:Rz (del H P) (del H' P')):∀ {v:List V}{t:List OT}{fp:List Addr},(∀a∈fp,H' a=H a)->Av K H P v t fp->Av K H' P' v t fp:=by
 intro _ _ _ k x_;cases x_ with
 |nil=>exact .nil
 |cons h r=>exact .cons (C3.rz sm (λ a ha=>k a (zb5 _ ha)) h) (Av.rz sm (λ a ha=>k a (zac _ ha)) r)
end
def BJ.rz {K:za1}{H H':Hp}{P P':Addr->Prop}(sm:Rz (del H P) (del H' P')):∀ {ps:List Addr}{C2:List (List D)},(∀a∈ps,H' a=H a)->BJ K H P ps C2->BJ K H' P' ps C2:=by
 intro _ _ k x_;cases x_ with
 |nil=>exact .nil
 |cons h r t=>exact .cons ((k _ za3).trans h) (r.rz sm) (BJ.rz sm (λ a ha=>k a (za4 _ ha)) t)
def D6.rz {K}(sm:Rz (del H P) (del H' P'))(k:∀a∈fp,H' a=H a)(h:D6 K H P c v fp):D6 K H' P' c v fp:=by
 cases c with
 |val d=>exact h
 |own ds =>
  obtain⟨p,xs,rfl,rfl,h1,h2⟩:=h;exact⟨p,xs,rfl,rfl,(k p za3).trans h1,h2.rz sm⟩
 |ow o =>
  cases o with
  |rows C2 =>
   obtain⟨p,ps,rfl,rfl,h1,h2⟩:=h;exact⟨p,ps,rfl,rfl,(k p za3).trans h1,h2.rz sm λ a ha=>k a (za4 _ ha)⟩
  |Ni p ds =>
   obtain⟨p,xs,rfl,rfl,h1,h2⟩:=h;exact⟨p,xs,rfl,rfl,(k p za3).trans h1,h2.rz sm⟩
  |tree p t=>exact C3.rz sm k h
def An.rz {K}(E:An K P0 P H σ ρ)(k:∀a,P a->H' a=H a)(sm:Rz (del H P) (del H' P)):An K P0 P H' σ ρ:=by
 have key:∀(j:Nat) (d:Cl) (w:V) (fq:List Addr),ρ[j]?=some (some d)->σ[j]?=some (some w)->D6 K H' P d w fq->D6 K H P d w fq:=λ j d w fq hk sk ho=>by
  have io:HA d=true:=by cases d<;>first|rfl|exact ho.elim
  obtain⟨w',bG,s2,o2,h3,_⟩:=E.ows j d hk io;rw[sk] at s2;cases s2;have o3:=o2.rz sm λ a ha=>k a (h3 a ha).1;rw[ho.BM o3];exact o2
 exact⟨E.sub,λ a h=>by obtain⟨o,z,y⟩:=E.BQ a h;exact⟨o,(k a h).trans z,y⟩,λ i d h=>let ⟨v,h1,h2⟩:=E.val i d h;⟨v,h1,h2.rz sm⟩,
  λ i c h io=>let ⟨v,fp,h1,h2,h3,h4⟩:=E.ows i c h io;⟨v,fp,h1,h2.rz sm λ a ha=>k a (h3 a ha).1,h3,h4⟩,
  λ i j c c' v v' fp ah hi hj si sj h h' ae=>E.apart i j c c' v v' fp ah hi hj si sj (key i c v fp hi si h) (key j c' v' ah hj sj h') ae,E.len,E.pin⟩
abbrev Fz (H0:Hp)(H H':Hp):Prop:=H'=H\/∃a o kvs,H a=some (.dK kvs)/\H'=upd H a (.Hg o (.dK kvs))/\∀o u,H0 a≠some (.Hg o u)
abbrev Uz (H0:Hp)(H H':Hp):Prop:=H'=H\/∃a o kvs,H a=some (.Hg o (.dK kvs))/\H'=upd H a (.dK kvs)/\∀o u,H0 a≠some (.Hg o u)
def Inv.uz (I:Inv X pins σ H s)(u:Uz X.H₀ H H'):Inv X pins σ H' s:=by
 rcases u with rfl|⟨a,o,kvs,e,rfl,n0⟩
 ·exact I
 ·exact I.kW e n0
abbrev tUz (H0:Hp)(t:TE):TE:=λ σ H Q=>t σ H λ v H2=>∃H3,Uz H0 H2 H3/\Q v H3
def abG (h:PE X e t):PE X e (tUz X.H₀ t):=by
 intro pins s σ H Q I q;refine Bl (h pins s σ H _ I q) λ v s1 zz=>?_;obtain⟨x,H1,I1,r1,q1⟩:=zz;obtain⟨H3,u,q⟩:=q1;exact⟨x,H3,I1.uz u,r1,q⟩
abbrev DIK (X:Cx)(WX:Str->Hp->Prop)(tg iter:Expr)(f:Ad->M (List D)):Prop:=
 ∃wi,PI X tg iter wi/\∀P0 P σ H R ρ,An X.K P0 P H σ ρ->(match f ρ with | .ok ds=>∀J H1 H',Ah H H1->Fz X.H₀ H1 H'->(∀b,P b->H' b=H1 b)->Rz (del H1 P) (del H' P)->Ux X.K J P H' ds->R J H' | .ex x=>∀H',Ah H H'->WX x H' | .bad=>False)->wi σ H R
abbrev yS (d:D):M (List D):=match d with | .BR false ks _=>.ok ks | _=>.bad
def rM {K}:∀k:Key,BS K H (kV k) (CB k)
 | .inl i=>.int i
 | .inr x=>.str x
def kX {K}(nP:¬ P a)(e:H a=some (.Hg o (.dK kvs))):Ux K (Itd a o kvs) P H (kvs.map λ kv=>CB kv.1):=by
 have at':∀ {P':Addr->Prop} {H':Hp},Ah (del H P) (del H' P')->H' a=some (.Hg o (.dK kvs)):=λ s=>(Ao (s a _ (by rw[Az nP];exact e))).2;refine⟨λ i P' H' s hi=>⟨at' s,by rw[za2] at hi;exact hi⟩,λ i P' H' s hi=>⟨at' s,by rw[za2] at hi;exact hi⟩,λ i P' H' v d6 d s ht hd y=>?_⟩;obtain⟨rfl,kv,hk,rfl⟩:=y;rw[zap,hk] at hd;cases hd;exact⟨Ah.refl _,rM _⟩
section
variable {c:Bool}{P:Addr->Prop}{H:Hp}{a b:Expr}{f g:Ad->M D}{fs:Ad->M (List D)}
def rN (ha:DE X WX true e f):DIK X WX tg e (λ ρ=>(f ρ).bind yS):=by
 obtain⟨ta,a1,a2⟩:=ha;refine⟨_,rL a1,λ P0 P σ H R ρ E h=>?_⟩;dsimp only at h;refine a2 P0 P σ H _ ρ E ?_;cases q:f ρ with
 |bad|ex x=>rw[q] at h;exact h
 |ok d =>
  rw[q] at h;simp only[M.Aa] at h;unfold yS at h;cases d with
  |BR t ks vs =>
   intro v H1 s1 hv;cases hv with
   | @TU a kvs _ hh hl =>
    rcases hh with hh|⟨o,hh⟩
    ·obtain⟨nP,ea⟩:=Ao hh;refine⟨a,kvs,rfl,.inl ⟨ea,λ o n0=>h _ H1 _ s1 (.inr ⟨a,o,kvs,ea,rfl,n0⟩) (λ b hb=>Ag λ z=>nP (by rw[<-z];exact hb)) (λ b u q=>?_) (kX nP Am)⟩⟩;obtain⟨n,q'⟩:=Ao q;by_cases hb:b=a
     ·subst hb;rw[ea] at q';cases q';exact .inr (.inr ⟨o,kvs,rfl,by rw[Az n];exact Am⟩)
     ·exact .inl (by rw[Az n,Ag hb];exact q')
    ·obtain⟨nP,ea⟩:=Ao hh;exact⟨a,kvs,rfl,.inr ⟨o,ea,h _ H1 H1 s1 (.inl rfl) (λ _ _=>rfl) (λ _ _ q=>.inl q) (kX nP ea)⟩⟩
   |Ur _ _=>exact h.elim
  |_=>exact h.elim
def rO (i2:∀P0 P σ H R ρ,An X.K P0 P H σ ρ->(match fi ρ with | .ok ds=>∀J H1 H',Ah H H1->Fz X.H₀ H1 H'->(∀b,P b->H' b=H1 b)->Rz (del H1 P) (del H' P)->Ux X.K J P H' ds->R J H' | .ex x=>∀H',Ah H H'->WX x H' | .bad=>False)->wi σ H R)(g2:∀P0 P σ H Q ρ v d,An X.K P0 P H σ ρ->BS X.K (del H P) v d->gG X.K P0 P H Q (gt d ρ)->gg v σ H Q)(t2:∀s H' C ex P0 P σ H Q ρ,An X.K P0 P H σ ρ->gT (λ _ _=>False) H Q (ft ρ)->tc s H' C ex σ H Q)(e2:∀s H' C ex P0 P σ H Q ρ,An X.K P0 P H σ ρ->gV X.K (λ _ _=>False) (Lv true P0 P) H Q (fe ρ)->te s H' C ex σ H Q)(E:An X.K P0 P H σ ρ)(h:TY X.K WX P H Q ((fi ρ).bind λ ds=>if ds.length<=1000 then KJ (B7 gt ft fe ds (AZ μ ρ)) else .bad)):tUz X.H₀ (R9 wi μ gg tc te) σ H Q:=by
 unfold tUz;refine i2 P0 P σ H _ ρ E ?_;cases q:fi ρ with
 |bad|ex x=>rw[q] at h;exact h
 |ok ds =>
  rw[q] at h;simp only[M.Aa] at h;by_cases hd:¬ ds.length<=1000
  ·rw[if_neg hd] at h;exact h.elim
  have hd:ds.length<=1000:=by omega
  rw[if_pos hd] at h;intro J H0 H1 s0 fz kP rz ok s C ex;cases qc:B7 gt ft fe ds (AZ μ ρ) with
  |bad|ex x=>rw[qc] at h;exact h.elim
  |ok total =>
   rw[qc] at h;unfold KJ at h;dsimp only at h;have E1:An X.K P0 P H1 σ ρ:=(E.same s0).rz kP rz;refine⟨λ i m ys H2=>m=ds.length-i/\i<=ds.length/\ys.length<=i/\Ah H1 H2/\∃es rest,Aj X.K (del H2 P) ys es/\B7 gt ft fe (ds.drop i) (AZ μ ρ)=.ok rest/\es++rest=total,
    ⟨ds.length,by simp,zbe _,zaf _,Ah.refl _,[],total,.nil,by rw[List.drop_zero];exact qc,rfl⟩,?_⟩
   rintro i m ys H2 ⟨rfl,hi,hy,s2,es,rest,bj,af,aw⟩;by_cases ag:i<ds.length
   ·refine .inr ⟨ok.go i P H2 s2.del ag,Nat.lt_of_le_of_lt hy (AA (by omega)),λ aG H'=>i+1<=ds.length/\aG.length<=i+1/\Ah H1 H'/\∃es rest,Aj X.K (del H' P) aG es/\B7 gt ft fe (ds.drop (i+1)) (AZ μ ρ)=.ok rest/\es++rest=total,λ aG H' hq=>⟨ds.length-(i+1),by omega,rfl,hq.1,hq.2.1,hq.2.2.1,hq.2.2.2⟩,λ v H3 y=>?_⟩;have E2:=E1.same s2;obtain⟨s3,hv⟩:=ok.mQ i P H2 v H3 ds[i] s2.del E2.BQ (za7 ag) y;rw[G5 ag,B7] at af;have E3:=(E2.same s3).block μ;refine g2 P0 P _ H3 _ (AZ μ ρ) v ds[i] E3 hv ?_;cases q1:gt ds[i] (AZ μ ρ) with
    |bad|ex x=>rw[q1] at af;cases af
    |ok ρ1 =>
     rw[q1] at af;dsimp only at af;intro σ4 E4;refine t2 s H1 C ex P0 P σ4 H3 _ ρ1 E4 ?_;cases q2:ft ρ1 with
     |bad|ex x=>rw[q2] at af;cases af
     |ok k =>
      rw[q2] at af;dsimp only at af;intro H5 s5;cases k with
      |false =>
       simp only[zaz,if_false] at af ⊢;exact⟨ag,by omega,(s2.trans s3).trans s5,es,rest,(bj.mono s3.del).mono s5.del,af,aw⟩
      |true =>
       simp only[if_true] at af ⊢;refine e2 s H1 C ex P0 P σ4 H5 _ ρ1 (E4.same s5) ?_;cases q3:fe ρ1 with
       |bad|ex x=>rw[q3] at af;cases af
       |ok y' =>
        rw[q3] at af;dsimp only at af;cases q4:B7 gt ft fe (ds.drop (i+1)) (AZ μ ρ) with
        |bad|ex x=>rw[q4] at af;cases af
        |ok gu =>
         rw[q4] at af;cases af;intro w H6 s6 hw;refine⟨ag,by rw[zal,zbd];omega,((s2.trans s3).trans s5).trans s6,es++[y'],gu,(((bj.mono s3.del).mono s5.del).mono s6.del).snoc hw,rfl,?_⟩;rw[zb3];exact aw
   ·have e:i=ds.length:=by omega
    subst e;rw[zcx,B7] at af;cases af;rw[zb1] at aw;subst aw;refine .inl ⟨ok.stop _ P H2 s2.del (zaf _),λ D0 hn=>?_⟩;rcases fz with rfl|⟨a,o,kvs,ea,rfl,n0⟩
    ·exact⟨_,.inl rfl,h.Jk (s0.trans s2) bj D0 hn⟩
    ·have e2:H2 a=some (.Hg o (.dK kvs)):=s2 a _ Am;have nP:¬ P a:=λ z=>by
      have:=kP a z;rw[Am,ea] at this;cases this
     have ae:a≠D0:=λ z=>by rw[<-z,e2] at hn;cases hn
     have ec:upd (upd H2 D0 (.lst ys)) a (.dK kvs)=upd (upd H2 a (.dK kvs)) D0 (.lst ys):=by
      funext b;by_cases hb:b=a
      ·subst hb;rw[Am,Ag ae,Am]
      ·rw[Ag hb];by_cases hd:b=D0
       ·subst hd;rw[Am,Am]
       ·rw[Ag hd,Ag hd,Ag hb]
     refine⟨upd (upd H2 D0 (.lst ys)) a (.dK kvs),.inr ⟨a,o,kvs,by rw[Ag ae];exact e2,rfl,n0⟩,?_⟩;rw[ec];have su:Ah H (upd H2 a (.dK kvs)):=s0.trans λ b u q=>by
      by_cases hb:b=a
      ·subst hb;rw[ea] at q;cases q;exact Am
      ·rw[Ag hb];exact s2 b u (by rw[Ag hb];exact q)
     refine h.Jk su (bj.rz λ b u q=>?_) D0 (by rw[Ag (zbn ae)];exact hn);by_cases hb:b=a
     ·subst hb;rw[Az nP,e2] at q;cases q;exact .inr (.inl ⟨o,kvs,rfl,by rw[Az nP];exact Am⟩)
     ·refine .inl ?_;obtain⟨n,q'⟩:=Ao q;rw[Az n,Ag hb];exact q'
def kY (μ:List (Option Nat))(hc:X.calm=true)(hi:DIK X WX tg iter fi)(av:FZ scope X.env.scope=true)(aM:Nh X.N NB scope μ=true)(hg:sV X scope NB μ tg gt)(ht:∀s H C ex,sW (blockOf X s H scope C NB ex) ifs ft)(he:∀s H C ex,DE (blockOf X s H scope C NB ex) (λ _ _=>False) true elt fe)(hs:∀x,foldedSetIterable iter X.env x=pure x:=by intro _;rfl):
 DN X WX (.ListComp elt [⟨tg,iter,ifs,0⟩] scope pos) (λ ρ=>(fi ρ).bind λ ds=>if ds.length<=1000 then KJ (B7 gt ft fe ds (AZ μ ρ)) else .bad):=by
 obtain⟨wi,i1,i2⟩:=hi;obtain⟨gg,g1,gk,g2⟩:=hg;refine⟨_,abG (Sn hc i1 av aM gk (λ s H C ex=>⟨g1 s H C ex,(za0 (ht s H C ex)).1,(za0 (he s H C ex)).1⟩) hs),λ P0 P σ H Q ρ E h=>?_⟩;exact rO i2 g2 (λ s H' C ex P0 P σ H Q ρ E h=>(za0 (ht s H' C ex)).2 P0 P σ H Q ρ E h) (λ s H' C ex P0 P σ H Q ρ E h=>(za0 (he s H' C ex)).2 P0 P σ H Q ρ E h) E h
end
def YK:∀ {kvs:List (Key×V)}{vs:List (Key×Value)},KV kvs vs->∀us:List Value,us.length=vs.length->(∀(j:Nat) (v:Value),us[j]?=some v->∃k,vs[j]?=some (k,v))->Vals (kvs.map zbx) us
 |_,_,.nil,[],_,_=>.nil
 |_,_,.nil,_::_,h,_|_,_,.cons _ _,[],h,_=>by cases h
 |_,_,.cons hd tl,u::us,h,g=>by
  obtain⟨k,e⟩:=g 0 u rfl;rw[zc6] at e;cases e;exact .cons hd.2 (YK tl us (by simpa using h) λ j v e=>by
   obtain⟨k,q⟩:=g (j+1) v (by rw[zba];exact e);rw[zba] at q;exact⟨k,q⟩)
section
variable {c:Bool}{o:Expr}{f:Ad->M D}{p apos ad:Pos}{to:TE}
abbrev abH (to:TE):TE:=λ σ H Q=>to σ H λ x H1=>∃a kvs,x=.ref a/\Rd H1 a (.dK kvs)/\∀p,H1 p=none->Q (.ref p) (upd H1 p (.ext λ h=>h.IsValuesView p a))
def cN (ho:PE X o to)(al: ~~~(attributeBase o "values" X.env (eval o X.env)=eval o X.env))(am: ~~~((apos.endLine==ad.line)=true)):PE X (.Call (.Attribute o "values" apos) [] [] ad) (abH to):=by
 intro pins s0 σ H Q I0 h;refine wpAny_Call_method0_late al am (Bl (ho pins s0 σ H _ I0 h) λ v s zz=>?_);obtain⟨x,H1,I,r,q⟩:=zz;obtain⟨a,kvs,rfl,ha,q⟩:=q;cases r;obtain⟨z,hd,vs,rel,dd⟩:=Jo I.Aw ha;obtain⟨ob,es,ep,ba,hx,fg⟩:=id dd;refine⟨"dict","dict.values",PySem.F.plainAttrs_dict,PySem.F.slot_dict_values,PySem.F.type_dict_values,dd.typeIs,λ b e=>?_,zcz rfl (PySem.evalArgs_none ?_)⟩
 ·cases e;exact⟨ob,ba,hx.2.1⟩
 refine call_meetsIn PySem.F.slot_dict_values dd.typeIs PySem.F.entry_dict_values (PySem.F.args_dict_values_1 _) (meets_dict_values (AM X.prog X.w) a hd) ⟨⟨vs,dd⟩,?_⟩;refine⟨.ref s.heap.objs.size,_,I.laid (a:=s.heap.objs.size) (o:=.ext λ h=>h.IsValuesView s.heap.objs.size a) (t':=s.toks) (λ b ob e=>zah _ e) (zaf _) ⟨⟨_,zat _ rfl,rfl,rfl⟩,⟨_,zat _ rfl⟩,λ h1 h2 ⟨ob,e,cc⟩ k=>⟨ob,k ob e,cc⟩⟩,rfl,q _ (I.Aw.fresh (zaf _))⟩
def Xm:Hi X (.type "list") (λ xs H Q=>∃p a kvs,xs=[.ref p]/\H p=some (.ext λ h=>h.IsValuesView p a)/\Rd H a (.dK kvs)/\X.calm=true/\∀l,H l=none->Q (.ref l) (upd H l (.lst (kvs.map zbx)))):=by
 intro pins s σ H xs us Q I r h;obtain⟨p,a,kvs,rfl,hp,ha,hc,q⟩:=h;obtain⟨u,rfl,rx⟩:=vals1 r;cases rx;obtain⟨z,hd,vs,rel,dd⟩:=Jo I.Aw ha;obtain⟨ep,dat⟩:=dd.dictAt;have hv:s.heap.IsValuesView p a:=(show Br X.prog X.w H s.heap p (.ext λ h=>h.IsValuesView p a) from I.Aw p _ hp).1;have hlen:kvs.length=vs.length:=zd5 rel;refine PySem.W.kdl_call (PySem.W.kdl_values (knd:=AM X.prog X.w) (kvs:=vs) (ep:=ep)) (I.ok.hd hc) ⟨hv,dat⟩ (by rw[<-hlen];exact z) λ h' tk acc c' hk hS d9=>?_;have lb:Vals (kvs.map zbx) acc.toList:=YK rel acc.toList (by rw[zdj];exact d9.1) λ j v e=>d9.2 j v (by rw[<-Array.getElem?_toList];exact e);exact⟨.ref s.heap.objs.size,_,I.laid (t':=tk) hk (zaf _) (show Br X.prog X.w _ h' _ (.lst (kvs.map zbx)) from ⟨by rw[za2];exact z,acc.toList,c',lb,by rw[Array.toArray_toList];exact hS⟩),rfl,q _ (I.Aw.fresh (zaf _))⟩
abbrev kZ (d:D):M OT:=match d with | .BR false _ vs=>.ok (.lst (vs.map .sh)) | _=>.bad
def Vj (hc:X.calm=true)(hg:Gl X "list")(hm:X.mg "list" = none)(ha:DE X WX true o f)(hb:bootBuiltins "list" = some (.type "list"):=by decide +kernel)(al: ~~~(attributeBase o "values" X.env (eval o X.env)=eval o X.env))(am: ~~~((apos.endLine==ad.line)=true))(aF: ~~~(starEach [.Call (.Attribute o "values" apos) [] [] ad] X.env=[(false,eval (.Call (.Attribute o "values" apos) [] [] ad) X.env)])):
 DN X WX (.Call (.Name "list" p) [.Call (.Attribute o "values" apos) [] [] ad] [] pos) (λ ρ=>(f ρ).bind kZ):=by
 obtain⟨ta,a1,a2⟩:=ha;refine⟨_,LL Xm hg hm hb (Bm (cN a1 al am) CJ aF) (he:=aF),λ P0 P σ H Q ρ E h=>?_⟩;dsimp only at h;refine a2 P0 P σ H _ ρ E ?_;refine Yd h λ d h=>?_;intro v H1 s1 hv;unfold kZ at h;split at h
 ·cases hv with
  | @TU a kvs _ hh hl =>
   have hr:=hh.Bh;refine⟨a,kvs,rfl,hr,λ p hp=>?_⟩;have sp:Ah H1 (upd H1 p (.ext λ h=>h.IsValuesView p a)):=AJ hp _;exact⟨p,a,kvs,rfl,Am,hr.same sp,hc,h.Jk (s1.trans sp) (hl.mono sp.del)⟩
 ·exact h.elim
end
abbrev cO:List OT->Option (List D)
 |[]=>some []
 | .sh d::r=>(cO r).map (d::·)
 |_::_=>none
def YL:∀ {ts:List OT}{ds:List D},cO ts=some ds->ts=ds.map .sh
 |[],ds,h=>by cases h;rfl
 | .sh d::r,ds,h=>by
  unfold cO at h;obtain⟨es,h1,rfl⟩:=zbp.mp h;rw[YL h1];rfl
 | .lst _::_,ds,h| .tup _::_,ds,h| .BR _ _ _::_,ds,h| .ins _ _ _::_,ds,h=>by cases h
def Vk:∀ds:List D,cO (ds.map .sh)=some ds
 |[]=>rfl
 |d::r=>by rw[za6,cO,Vk r];rfl
abbrev RF:List OT->Option (List (List D))
 |[]=>some []
 | .lst ts::r=>(cO ts).bind λ ds=>(RF r).map (ds::·)
 |_::_=>none
def RG:∀C2:List (List D),RF (C2.map λ ds=>.lst (ds.map .sh))=some C2
 |[]=>rfl
 |ds::r=>by rw[za6,RF,Vk,Option.bind_some,RG r];rfl
abbrev lA:OT->Option (List (List D))
 | .lst ts=>RF ts
 |_=>none
def rQ {K:za1}{H:Hp}{P:Addr->Prop}{ts:List OT}:∀ {C2:List (List D)}{xs:List V}{fp:List Addr},RF ts=some C2->Av K H P xs ts fp->xs=fp.map V.ref/\BJ K H P fp C2:=by
 induction ts with
 |nil=>intro C2 xs fp h o;cases h;cases o;exact⟨rfl,.nil⟩
 |cons t r ih =>
  intro C2 xs fp h o;cases t with
  |lst rs =>
   cases o with
   |cons o t =>
    cases o with
    |lst ha hr =>
     unfold RF at h;obtain⟨ds,h1,h2⟩:=Option.bind_eq_some_iff.mp h;obtain⟨es,h3,rfl⟩:=zbp.mp h2;rw[YL h1] at hr;obtain⟨rfl,hl⟩:=Av.sZ hr;obtain⟨rfl,ht⟩:=ih h3 t;exact⟨rfl,.cons ha hl ht⟩
  |_=>cases h
abbrev rR (i:Nat)(ρ:Ad)(t:OT):M Out:=match lA t with
 |some C2=>.ok (.next (ρ.set i (some (.ow (.rows C2)))))
 |none=>.bad
section
variable {c:Bool}{P:Addr->Prop}{H:Hp}{a b:Expr}{f g:Ad->M D}
def abI {K}(E:An K P0 P H σ ρ)(s:Ah H H')(hn:∀a∈fp,H a=none)(nd:fp.Nodup)(o:C3 K H' (PU P fp) v t fp)(h:gS K WX P0 P H Z (rR i ρ t)):Z.nx (σ.set i (some v)) H':=by
 unfold rR at h;cases q:lA t with
 |none=>rw[q] at h;exact h.elim
 |some C2 =>
  rw[q] at h;have BQ:=FK (E.same s).BQ o;cases t with
  |lst ts =>
   cases o with
   | @lst a xs _ fq ha hr =>
    obtain⟨rfl,ay⟩:=rQ q hr;refine h _ H' (PU P (a::fq)) (E.zW s hn) (E.Zv HV BQ (Bs s hn) (λ j c' v' ah ae g1 g2 g3 b hb=>?_) ⟨a,fq,rfl,rfl,ha,ay⟩ (λ b hb=>⟨.inr hb,λ z=>(E.BQ b (E.sub b z)).no (hn b hb)⟩) nd (λ n z=>by cases z));obtain⟨ys,z⟩:=g3.at b hb;exact⟨by rw[z];exact s _ _ z,λ w=>by rw[hn b w] at z;cases z⟩
  |_=>cases q
def lB (i:Nat)(μ:List (Option Nat))(hN:X.N.Nodup)(gn:X.N[i]?=some x)(hx:Loc X.env.scope x)(hc:X.calm=true)(hi:DI X WX tg iter fi)(av:FZ scope X.env.scope=true)(aM:Nh X.N NB scope μ=true)(hg:sV X scope NB μ tg gt)(ht:∀s H C ex,sW (blockOf X s H scope C NB ex) ifs ft)(he:∀s H C ex,DN (blockOf X s H scope C NB ex) (λ _ _=>False) elt fn)(bw: ~~~(swapsWith (.ListComp elt [⟨tg,iter,ifs,0⟩] scope pos) (some (.Name x px)) ak.line X.env=pure true))(hs:∀x,foldedSetIterable iter X.env x=pure x:=by intro _;rfl)(hf:X.fn x=true\/X.env.scope.names.lookup x=some .local:=by first|exact .inl rfl|exact .inr rfl|assumption):
 DS X WX (.Assign [.Name x px] (.ListComp elt [⟨tg,iter,ifs,0⟩] scope pos) ak) (λ ρ=>((fi ρ).bind λ ds=>if ds.length<=1000 then Mc (De gt ft fn ds (AZ μ ρ)) else .bad).bind (rR i ρ)):=by
 obtain⟨wi,i1,i2⟩:=hi;obtain⟨gg,g1,gk,g2⟩:=hg;refine⟨_,So hN gn hx hc i1 av aM gk (λ s H C ex=>⟨g1 s H C ex,(za0 (ht s H C ex)).1,(za0 (he s H C ex)).1⟩) bw hs hf,λ P0 P σ H Z ρ E h=>?_⟩;refine YJ i2 g2 (λ s H' C ex P0 P σ H Q ρ E h=>(za0 (ht s H' C ex)).2 P0 P σ H Q ρ E h) (λ s H' C ex P0 P σ H Q ρ E h=>(za0 (he s H' C ex)).2 P0 P σ H Q ρ E h) E ?_;dsimp only at h;revert h;cases ((fi ρ).bind λ ds=>if ds.length<=1000 then Mc (De gt ft fn ds (AZ μ ρ)) else .bad) with
 |bad=>exact λ h=>h
 |ex y=>exact λ h H' s=>h H' P (E.tr s)
 |ok t=>exact λ h v fp H' s hn nd o=>abI E s hn nd o h
def yT (ha:DE X WX true e f):DI X WX tg e (λ ρ=>(f ρ).bind λ d=>match d with | .tup ds=>.ok ds | _=>.bad):=by
 obtain⟨ta,a1,a2⟩:=ha;refine⟨_,vA a1,λ P0 P σ H R ρ E h=>?_⟩;dsimp only at h;refine a2 P0 P σ H _ ρ E ?_;cases q:f ρ with
 |bad|ex x=>rw[q] at h;exact h
 |ok d =>
  rw[q] at h;cases d with
  |tup ds =>
   intro v H1 s1 hv;cases hv with
   | @tup a xs _ hh hl =>
    have at':∀ {P':Addr->Prop} {H':Hp},Ah (del H1 P) (del H' P')->FF X.K H' a xs:=λ s=>.inl (.inl (Ao (s a _ hh)).2);refine⟨a,rfl,⟨xs,.inl (.inl (Ao hh).2)⟩,h _ H1 s1 ⟨λ i P' H' s hi=>?_,λ i P' H' s hi=>?_,λ i P' H' v d6 d s ht hd y=>?_⟩⟩
    ·obtain⟨x,hx,_⟩:=hl.get (za7 hi);exact⟨xs,x,at' s,hx⟩
    ·exact⟨xs,at' s,by rw[hl.length];exact hi⟩
    ·obtain⟨rfl,y⟩:=y;obtain⟨x,hx,bp⟩:=hl.get hd;have e:=y xs (at' s);rw[hx] at e;cases e;exact⟨Ah.refl _,bp.mono s⟩
  |_=>exact h.elim
end
section
variable {w:World}{A:Around}{s:Shared}
def cP {K:Type}[DecidableEq K]{knd:KeyKind prog w K}{h h':Heap}{d I l:Addr}{i:Nat}{xs:List (K×Value)}(hd:h.DictOf knd d xs)(hit:h.IsListIter I l i)(sb:∀b o,b≠I->h.get? b=some o->h'.get? b=some o):h'.DictOf knd d xs:=by
 obtain⟨o,es,ep,h1,h2,h3,h4⟩:=hd;obtain⟨oi,i1,i2,i3⟩:=hit;refine⟨o,es,ep,sb d o (λ z=>?_) h1,h2,h3,h4⟩;subst z;rw[i1] at h1;cases h1;rw[i3] at h3;cases h3
def abJ {K:Type}[DecidableEq K]{knd:KeyKind prog w K}:DKd prog w A (λ h d (xs:List (K×Value))=>h.DictOf knd d xs) (λ _ k v=>knd.is k v=true) (λ xs k _ x=>stored xs k x) where
 it:=cP
 is:=λ h _=>h
 set:=λ hi hd hz hq=>wpAny_dictSet_pairs (knd:=knd) (hsz:=Nat.le_of_succ_le hz) hi hd λ h3 ko jb=>hq h3 _ ko jb
 len:=λ xs k v x=>by
  unfold stored;split
  ·rw[za2];omega
  ·rw[zal,zbd];omega
 nil:=λ e=>⟨_,#[],0,e,⟨rfl,rfl,rfl⟩,rfl,(by intro e he;simp at he),.nil,zbv⟩
end
structure cQ where
 (t:Addr) (κ:Key) (v:V)
abbrev yU (H:Hp)(p:cQ):Prop:=H p.t=some (.tup [kV p.κ,p.v])
abbrev rS (ps:List cQ):List (Key×V):=ps.foldl (λ acc p=>putK acc p.κ p.v) []
abbrev tDK (X:Cx)(te:TE):TE:=λ σ H Q=>te σ H λ x H1=>∃(l:Addr) (ps:List cQ),x=.ref l/\Ds X.K H1 l (ps.map λ p=>V.ref p.t)/\(∀p∈ps,yU H1 p)/\ps.length<=1000/\∀r,H1 r=none->Q (.ref r) (upd H1 r (.dK (rS ps)))
def Vl:∀ {ps:List cQ}{us:List Value},Vals (ps.map λ p=>V.ref p.t) us->us=ps.map λ p=>zbl p.t
 |[],_,.nil=>rfl
 |p::ps,_,.cons h t=>by
  cases h;rw[za6,<-Vl t]
def tO:∀ {ps:List cQ}{qs:List (Key×Value×Value)}{kvs:List (Key×V)}{xs:List (Key×Value)},Paired (λ(p:cQ) (q:Key×Value×Value)=>p.κ=q.1/\RelV p.v q.2.2) ps qs->KV kvs xs->KV (ps.foldl (λ acc p=>putK acc p.κ p.v) kvs) (qs.foldl (λ acc p=>stored acc p.1 p.2.2) xs)
 |[],_,_,_,.nil,h=>h
 |p::ps,_,_,_,.cons (b:=q) hq t,h=>by
  obtain⟨q1,q2,q3⟩:=q;obtain⟨e1,e3⟩:=hq;dsimp only at e1 e3;subst e1;have r:=tO (ps:=ps) t (h.put p.κ e3);exact r
def YM:∀(ps:List cQ) (kvs:List (Key×V)),(ps.foldl (λ acc p=>putK acc p.κ p.v) kvs).length<=kvs.length+ps.length
 |[],kvs=>zaf _
 |p::ps,kvs=>by
  have h1:=YM ps (putK kvs p.κ p.v);have h2:=DY kvs p.κ p.v;rw[zb4,zaa];omega
def YN (ok:Hh P w H h):∀ {ps:List cQ},(∀p∈ps,yU H p)->∃qs:List (Key×Value×Value),Paired (λ(p:cQ) (q:Key×Value×Value)=>p.κ=q.1/\RelV p.v q.2.2) ps qs/\
 ∀(j:Nat) q,qs[j]?=some q->(AM P w).is q.1 q.2.1=true/\∃t,(ps.map λ p=>zbl p.t)[j]?=some (.ref t)/\IsTup h t #[q.2.1,q.2.2]
 |[],_=>⟨[],.nil,λ j q e=>by simp at e⟩
 |p::ps,ho=>by
  obtain⟨qs,h1,h2⟩:=YN ok λ p hp=>ho p (za4 _ hp);have o1:=ho p za3;obtain⟨_,aa,r,it⟩:=(show Br P w H h p.t (.tup [kV p.κ,p.v]) from ok p.t _ o1);obtain⟨u,v,rfl,ru,rv⟩:=r.two;refine⟨(p.κ,u,v)::qs,.cons ⟨rfl,rv⟩ h1,λ j q e=>?_⟩;cases j with
  |zero =>
   rw[zc6] at e;cases e;exact⟨Kk ru,p.t,by simp,it⟩
  |succ j =>
   rw[zba] at e;obtain⟨a1,t,a2,a3⟩:=h2 j q e;exact⟨a1,t,by simpa using a2,a3⟩
section
variable {c:Bool}{P:Addr->Prop}{H:Hp}{a b:Expr}{f g:Ad->M D}{te:TE}
def lC (hc:X.calm=true)(hg:Gl X "dict")(hm:X.mg "dict" = none)(he:PE X e te)(hv:bootBuiltins "dict" = some (.type "dict"):=by decide +kernel)(hs: ~~~(starEach [e] X.env=[(false,eval e X.env)])):
 PE X (.Call (.Name "dict" p) [e] [] pos) (tDK X te):=by
 intro pins s σ H Q I h;refine wpAny_Call_Name_kw (Eg I hg hm hv ?_);refine zbo ?_ hs;rw[hs];refine zc5 (Bl (he pins s σ H _ I h) λ u s1 zz=>?_);obtain⟨x,H1,I1,r1,q1⟩:=zz;obtain⟨l,ps,rfl,hq,ho,hlen,q⟩:=q1;cases r1;refine zci ?_;obtain⟨aa,r',pl,hz⟩:=I1.list hq;have hits:=Vl r';subst hits;obtain⟨⟨sg,kr,kt,g8⟩,n0,o1,o2,o3,o4⟩:=pl;dsimp only at o2 o3 o4;subst o2 o3 o4;obtain⟨qs,h1,h2⟩:=YN I1.Aw ho;refine OL (abJ (knd:=AM X.prog X.w)) qs (I1.ok.hd hc) (by rw[zad,za2,<-h1.length]) (AA (by rw[zad,za2];omega)) o1 (λ j p hj=>?_) λ h' tk hd kp=>?_
 ·obtain⟨a1,t,a2,a3⟩:=h2 j p hj;exact⟨a1,t,by rw[List.getElem?_toArray];exact a2,a3⟩
 ·have sn:=tO h1 (show KV [] [] from .nil);have bq:s1.heap.objs.size<=s1.heap.objs.size:=zaf _;have bB:=I1.Aw.fresh bq;have ny:=YM ps [];exact⟨.ref _,_,I1.laid (t':=tk) (o:=.dK (rS ps)) kp bq ⟨zbs (AA (by unfold rS;simp at ny;omega)),beq_eq_false_iff_ne.mpr (zbn (zax I1.big)),_,sn,hd⟩,rfl,q _ bB⟩
abbrev lD (d:D):M OT:=match d with
 | .lst xs=>(match SN xs with|some l=>if l.length<=1000/\(l.all λ kv=>keyOk false kv.1)=true then .ok (.BR false (tG l).1 ((tG l).2.map .sh)) else .bad|none=>.bad)
 |_=>.bad
def YO {K:za1}{H:Hp}{P:Addr->Prop}:∀ {xs:List V}{ds:List D}{l:List (D×D)},Aj K (del H P) xs ds->SN ds=some l->(l.all λ kv=>keyOk false kv.1)=true->
 ∃ps:List cQ,xs=ps.map (λ p=>V.ref p.t)/\(∀p∈ps,yU H p)/\Paired (λ(p:cQ) (kv:D×D)=>kv.1=CB p.κ/\BS K (del H P) p.v kv.2) ps l
 |_,[],l,.nil,e,_=>by cases e;exact⟨[],rfl,λ p hp=>(by cases hp),.nil⟩
 |_,d::ds,l,.cons hd ht,e,hk=>by
  unfold SN at e;split at e
  ·rename_i bi;cases bi
  ·rename_i k v r bi;cases bi;obtain⟨l',e1,e2⟩:=zbp.mp e;subst e2;rw[List.all_cons,zb6] at hk;obtain⟨ps,q1,q2,q3⟩:=YO ht e1 hk.2;have hK:=E5 hk.1;cases hK with
   |k κ =>
    cases hd with
    | @tup tt _ _ h1 h2 =>
     obtain⟨x,y,rfl,hx,hy⟩:=h2.two;have ex:=hx.pG;subst ex;refine⟨⟨tt,κ,y⟩::ps,by rw[za6,q1],λ p hp=>?_,.cons ⟨rfl,hy⟩ q3⟩;rcases zab.mp hp with rfl|hp
     ·exact (Ao h1).2
     ·exact q2 p hp
  ·cases e
def YQ {K:za1}{H:Hp}{P:Addr->Prop}:∀ {ps:List cQ}{l:List (D×D)}{kvs:List (Key×V)}{vs:List D},Paired (λ(p:cQ) (kv:D×D)=>kv.1=CB p.κ/\BS K (del H P) p.v kv.2) ps l->Aj K (del H P) (kvs.map zbx) vs->
 ∃aB,l.foldl (λ z kv=>putD z.1 z.2 kv.1 kv.2) (kvs.map (λ kv=>CB kv.1),vs)=((ps.foldl (λ acc p=>putK acc p.κ p.v) kvs).map (λ kv=>CB kv.1),aB)/\Aj K (del H P) ((ps.foldl (λ acc p=>putK acc p.κ p.v) kvs).map zbx) aB
 |[],_,kvs,vs,.nil,h=>⟨vs,rfl,h⟩
 |p::ps,_,kvs,vs,.cons (b:=kv) hq t,h=>by
  obtain⟨k,d⟩:=kv;obtain⟨e1,e2⟩:=hq;dsimp only at e1 e2;subst e1;have aX:∃aB,(putD (kvs.map λ kv=>CB kv.1) vs (CB p.κ) d)=((putK kvs p.κ p.v).map (λ kv=>CB kv.1),aB)/\Aj K (del H P) ((putK kvs p.κ p.v).map zbx) aB:=by
   unfold putD putK;rw[KG (fk:=CB) HW];by_cases hh:(kvs.any λ kv=>decide (kv.1=p.κ))=true
   ·rw[if_pos hh,if_pos hh];refine⟨_,by rw[HY (fk:=CB) HW],?_⟩;rw[<-HX (fk:=CB) HW];exact HZ e2 h
   ·rw[if_neg hh,if_neg hh];refine⟨_,by rw[zav];rfl,?_⟩;rw[zav];exact h.snoc e2
  obtain⟨ym,g1,g2⟩:=aX;obtain⟨so,g3,g4⟩:=YQ t g2;refine⟨so,?_,g4⟩;rw[zb4];dsimp only;rw[g1];exact g3
def Vm (hc:X.calm=true)(hg:Gl X "dict")(hm:X.mg "dict" = none)(he:DE X WX true e f)(hv:bootBuiltins "dict" = some (.type "dict"):=by decide +kernel)(hs: ~~~(starEach [e] X.env=[(false,eval e X.env)])):
 DN X WX (.Call (.Name "dict" p) [e] [] pos) (λ ρ=>(f ρ).bind lD):=by
 obtain⟨te,e1,e2⟩:=he;refine⟨_,lC hc hg hm e1 hv hs,λ P0 P σ H Q ρ E h=>?_⟩;refine e2 P0 P σ H _ ρ E ?_;dsimp only at h;refine Yd h λ d h=>?_;intro v H1 s1 hv;unfold lD at h;split at h
 ·rename_i xs;split at h
  ·rename_i l eb;split at h
   ·rename_i hl;cases hv with
    |lst hs hh =>
     obtain⟨ps,q1,q2,q3⟩:=YO hh eb hl.2;subst q1;obtain⟨aB,g1,g2⟩:=YQ (kvs:=[]) q3 .nil;refine⟨_,ps,rfl,hs.Bh,q2,by rw[q3.length];exact hl.1,λ r hr=>?_⟩;have e3:tG l=((rS ps).map (λ kv=>CB kv.1),aB):=g1;rw[e3] at h;have aU:∀a∈[r],H1 a=none:=λ a ha=>by rw[za9.mp ha];exact hr
     exact h _ [r] _ (s1.trans (AJ hr _)) (λ a ha=>Ce s1 (aU a ha)) (by simp) (.dK Am (g2.mono (Bs (AJ hr _) aU)).ows)
   ·exact h.elim
  ·exact h.elim
 ·exact h.elim
end
def B4.yV {K}(ok:B4 m rs L A K):∀p c,Aq (Ga A K) p=some c->p.1∈L/\p.2∈L:=λ p c h=>by
 have hm:=M6 h;unfold Ga at hm;obtain⟨q,hq,e⟩:=zar.mp hm;cases e;have:=ok.Wl hq;exact⟨(AK ok.pm).mpr this.2.1,(AK ok.pm).mpr this.2.2⟩
def B4.abK {K}(ok:B4 m rs L A K):∀p c,Aq (QG (Ga A K)) p=some c->p.1∈L/\p.2∈L:=λ p c h=>by
 rw[show p=(p.1,p.2) from rfl,L6] at h;have:=ok.yV _ _ h;exact⟨this.2,this.1⟩
def rT (R:RA):yS (T4 R)=.ok (R.map λ kv=>D.int kv.1):=rfl
def rV (R:RA):kZ (T4 R)=.ok (.lst ((R.map λ kv=>cst (some kv.2)).map .sh)):=rfl
def yW (ha:0<=a/\a<RD)(hb:0<=b/\b<RD)(hg:0<=g/\g<RD)(h0:0<=i)(h1:i<8):∃l:Option Int,AG (.lst [.AV,.int 0,.int 0,.int 1,.int a,.int a,.int b,.int g]) (.int i)=.ok (CN l)/\∀z,l=some z->0<=z/\z<RD:=by
 have ht:=Xe;have hi:i=0\/i=1\/i=2\/i=3\/i=4\/i=5\/i=6\/i=7:=by omega
 rcases hi with rfl|rfl|rfl|rfl|rfl|rfl|rfl|rfl
 ·exact⟨none,rfl,λ z e=>by cases e⟩
 ·exact⟨some 0,rfl,λ z e=>by cases e;omega⟩
 ·exact⟨some 0,rfl,λ z e=>by cases e;omega⟩
 ·exact⟨some 1,rfl,λ z e=>by cases e;omega⟩
 ·exact⟨some a,rfl,λ z e=>by cases e;exact ha⟩
 ·exact⟨some a,rfl,λ z e=>by cases e;exact ha⟩
 ·exact⟨some b,rfl,λ z e=>by cases e;exact hb⟩
 ·exact⟨some g,rfl,λ z e=>by cases e;exact hg⟩
def Xn (cs:List Int):Hk 0 (cs.map D.int)=(zaj cs.length).map λ i:Nat=>D.tup [.int (i:Int),.int (cs.getD i 0)]:=by
 apply zdb;intro i;rw[zap];by_cases hi:i<cs.length
 ·obtain⟨e,he⟩:∃e,(Hk 0 (cs.map D.int))[i]?=some e:=⟨_,za7 (by rw[CV,za2];exact hi)⟩;obtain⟨d,hd,rfl⟩:=G4 he;rw[he,zc3 hi];rw[zap,za7 hi] at hd;cases hd;rw[zck,zai,Nat.zero_add,za7 hi];rfl
 ·rw[zbh (by rw[CV,za2];omega),zbh (by rw[zc1];omega)];rfl
def Vn (rs:List Road):sT 16 (.lst (rs.map Bw)) (.lst [])=.ok (.bl (decide (rs≠[]))):=by
 have h1:Pl 16 (.lst (rs.map Bw)):=(X1 (n:=1) λ d hd=>by
  obtain⟨r,_,rfl⟩:=zar.mp hd;exact abw r).le (by decide)
 have h2:Pl 16 (.lst ([]:List D)):=(X1 (n:=1) λ d hd=>by cases hd).le (by decide);rw[X3 h1 h2];cases rs with
 |nil=>rfl
 |cons r q=>simp[By,Cw]
def Vo (h:OS m ac){x:Int}(h0:0<=x)(h1:x<m)(v:Co)(u:Nat):(put2 ac x y v).getD u []=if (u:Int)=x then (ac.getD x.toNat []).set y.toNat v else ac.getD u []:=by
 unfold put2;have hl:x.toNat<ac.length:=by rw[h.len];omega
 by_cases hu:(u:Int)=x
 ·have e:u=x.toNat:=by omega
  rw[if_pos hu,e,zai,zb2 hl];rfl
 ·rw[if_neg hu,zai,zbm (by omega),zai]
def rW {R:List Co}(h0:0<=y):R.set y.toNat (atC R y)=R:=by
 apply zdb;intro i;by_cases hi:i=y.toNat
 ·subst hi;by_cases hl:y.toNat<R.length
  ·rw[zb2 hl,Dd h0 (by omega)]
  ·rw[zbh (by rw[zbu];omega),zbh (by omega)]
 ·rw[zbm (zbn hi)]
def lE (a:Co):DU a none=a:=by cases a<;>rfl
def lF (m:Nat):lA (.lst ((zaj m).map λ _=>OT.lst ((zag m D.AV).map .sh)))=some (AU ((zaj m).map λ _=>zag m none)):=by
 have e:((zaj m).map λ _=>OT.lst ((zag m D.AV).map .sh))=((zaj m).map λ _=>zag m D.AV).map λ ds=>OT.lst (ds.map .sh):=by rw[zbf];rfl
 have e2:AU ((zaj m).map λ _=>zag m none)=(zaj m).map λ _=>zag m D.AV:=by
  unfold AU;rw[zbf];refine zcc λ _ _=>?_;dsimp only [Function.comp];rw[List.map_replicate];rfl
 rw[e,e2];exact RG _
def rX (m:Nat):OS m ((zaj m).map λ _=>zag m (none:Co)):=⟨by rw[za2,zc1],λ R hR=>by
 obtain⟨_,_,rfl⟩:=zar.mp hR;rw[zd6]⟩
def rY (h:u<m):((zaj m).map λ _=>zag m (none:Co)).getD u []=zag m none:=by
 rw[zai,zap,zc3 h];rfl
abbrev CF (R1 R2:RA):RA:=R1.filterMap λ kv=>(Aq R2 kv.1).map λ c=>(kv.1,(kv.2.1+c.1,kv.2.2+c.2))
def DB (R2:RA):∀R1:RA,((CF R1 R2).map zay).Sublist (R1.map zay)
 |[]=>.slnil
 |kv::r=>by
  unfold CF;rw[zbj];cases Aq R2 kv.1 with
  |none=>exact (DB R2 r).cons _
  |some c=>exact (DB R2 r).cons₂ _
def P7 {R2:RA}{p:Int}:∀ {R1:RA},(R1.map zay).Nodup->Aq (CF R1 R2) p=Ak (Aq R1 p) (Aq R2 p)
 |[],_=>by simp only[CF,List.filterMap_nil,Aq];rfl
 |(k,v)::r,hn=>by
  rw[za6,zb8] at hn;have ih:=P7 (R2:=R2) (p:=p) hn.2;by_cases hk:k=p
  ·subst hk;have n1:Aq (CF r R2) k=none:=by
    cases q:Aq (CF r R2) k with
    |none=>rfl
    |some c=>exact absurd ((DB R2 r).subset (GF.mp (by rw[q];rfl))) hn.1
   have e2:Aq ((k,v)::r) k=some v:=by simp[Aq]
   rw[e2];unfold CF;rw[zbj];cases q:Aq R2 k with
   |none=>exact n1
   |some c=>simp[Aq,Ak]
  ·have e2:Aq ((k,v)::r) p=Aq r p:=by simp[Aq,hk]
   rw[e2,<-ih];unfold CF;rw[zbj];cases q:Aq R2 k with
   |none=>rfl
   |some c=>simp[Aq,hk]
def RH (R2:RA):∀R1:RA,((R1.filter λ kv=>(Aq R2 kv.1).isSome).map λ kv=>D.tup [.int kv.1,cst (Ak (some kv.2) (Aq R2 kv.1))])=(CF R1 R2).map λ kv=>D.tup [.int kv.1,cst (some kv.2)]
 |[]=>rfl
 |kv::r=>by
  have ih:=RH R2 r;unfold CF at ih ⊢;rw[zbj];cases q:Aq R2 kv.1 with
  |none=>rw[zcw (by rw[q];simp)];exact ih
  |some c=>rw[zcv (by rw[q];rfl),za6,ih,q];rfl
def tP:∀(C C0:RA),((C0++C).map zay).Nodup->(C.map λ kv=>(D.int kv.1,cst (some kv.2))).foldl (λ z kv=>putD z.1 z.2 kv.1 kv.2) (C0.map (λ kv=>D.int kv.1),C0.map λ kv=>cst (some kv.2))=((C0++C).map (λ kv=>D.int kv.1),(C0++C).map λ kv=>cst (some kv.2))
 |[],C0,_=>by simp
 |kv::C,C0,hn=>by
  obtain⟨p,c⟩:=kv;rw[za6,zb4];dsimp only;have h0:Aq C0 p=none:=by
   rw[Vd];intro hm;rw[zav,zau] at hn;exact hn.2.2 p hm p (by simp) rfl
  have e:Dz C0 p c=C0++[(p,c)]:=by unfold Dz;rw[h0];rfl
  rw[L4 (vf:=λ c=>cst (some c)) Im,e,tP C (C0++[(p,c)]) (by rw[zb3];exact hn),zb3];rfl
def lG (hn:(C.map zay).Nodup)(hl:C.length<=1000):lD (.lst (C.map λ kv=>.tup [.int kv.1,cst (some kv.2)]))=.ok (Wq C):=by
 unfold lD;dsimp only;rw[T7 (λ kv:Int×(Int×Int)=>D.int kv.1) (λ kv=>cst (some kv.2))];dsimp only;have e:=tP C [] hn;rw[if_pos ⟨by rw[za2];exact hl,by rw[List.all_map];exact List.all_eq_true.mpr λ x _=>rfl⟩];have e2:tG (C.map λ kv=>(D.int kv.1,cst (some kv.2)))=(C.map (λ kv=>D.int kv.1),C.map λ kv=>cst (some kv.2)):=e;rw[e2];rfl
def L1.front (hr:rk s<rk y)(ha:Cf s y=some d)(u:L1 Cf rk y t c):L1 Cf rk s t (d.1+c.1,d.2+c.2):=by
 induction u with
 |nil =>
  have:=L1.snoc (L1.nil (Af:=Cf) (rk:=rk) (s:=s)) hr ha;simpa using this
 | @snoc x z c e hu aZ bK ih =>
  have:=L1.snoc ih aZ bK;rwa[zcq,zcq] at this
def SS.up (h:SS Cf rk t n x c):L1 (λ a b=>Cf b a) rk x t c:=by
 induction h with
 |nil=>exact .nil
 | @snoc n x y c d hd hr ha ih =>
  have:=L1.front (Cf:=λ a b=>Cf b a) hr ha ih;rwa[Int.add_comm d.1,Int.add_comm d.2] at this
def rZ (h:O0 a c)(k:O0 b d):O0 (a.1+b.1,a.2+b.2) (c.1+d.1,c.2+d.2):=by
 unfold O0 at *;simp only;omega
def P8:Bz a (some q)↔∃p,a=some p/\O0 p q:=by
 constructor
 ·exact OW
 ·rintro ⟨p,rfl,h⟩;unfold O0 at h;unfold Bz;simp only;omega
def lH {K}{s g:Int}{R1 R2}(ok:B4 m rs L A K)(hs:0<=s/\s<m)(hg:0<=g/\g<m)(h1:Qr L (Ga A K) s L.length R1)(h2:Qr L (QG (Ga A K)) g L.length R2)(hx:B9 rs s g x):
 HB ((CF R1 R2).map λ kv=>some kv.2)=x:=by
 have u1:=h1.upC (m:=m) ok.yV;have u2:=h2.upC (m:=m) ok.abK;have ef:(λ x y=>Aq (QG (Ga A K)) (x,y))=λ x y=>Aq (Ga A K) (y,x):=by funext x y;exact L6 x y _
 rw[ef] at u2;have mem:∀p c,Aq (CF R1 R2) p=some c->some c∈(CF R1 R2).map λ kv=>some kv.2:=λ p c h=>zar.mpr ⟨_,M6 h,rfl⟩;have walk:∀p c,Aq (CF R1 R2) p=some c->Wk rs s g c:=λ p c h=>by
  rw[P7 h1.nd] at h;cases q1:Aq R1 p with
  |none=>rw[q1] at h;cases h
  |some a =>
   cases q2:Aq R2 p with
   |none=>rw[q1,q2] at h;cases h
   |some b =>
    rw[q1,q2] at h;cases h;have w1:=((u1.sd p a q1).of_kept ok.kept).walk ok.cE;have w2:=(((u2.sd p b q2).of_kept ok.kept.turn).walk ok.cE.turn).turn;rw[EF] at w2;exact w1.trans w2
 have c4:((CF R1 R2).map zay).Nodup:=(DB R2 R1).nodup h1.nd;have walk2:∀v∈(CF R1 R2).map (λ kv=>some kv.2),Bz x v:=λ v hv=>by
  obtain⟨kv,hk,rfl⟩:=zar.mp hv;exact hx.1 _ (walk kv.1 kv.2 (SV c4 hk))
 refine YA walk2 λ ae=>?_;cases x with
 |none=>exact absurd rfl ae
 |some c =>
  obtain⟨t,n,c1,c2,g1,g2,e⟩:=Vb ok.cE ok.kept hx;obtain⟨p1,q1,l1⟩:=P8.mp (u1.le g1);obtain⟨p2,q2,l2⟩:=P8.mp (u2.le g2.up);have hf:Aq (CF R1 R2) t=some (p1.1+p2.1,p1.2+p2.2):=by rw[P7 h1.nd,q1,q2];rfl
  exact⟨_,mem t _ hf,P8.mpr ⟨_,rfl,by rw[e];exact rZ l1 l2⟩⟩
def tQ (p:Int×Int):Pl (n+1) (pD p):=X0 (Fs (Dw _) (Fs (Dw _) X2))
def yX (p q:Int×Int):mS 16 (pD p) (pD q)=.ok (.bl (decide (p=q))):=by rw[Sy (tQ (n:=15) p) (tQ (n:=15) q),Ii]
abbrev lI (rs:List Road)(p c:Int×Int)(i:Nat):Bool:=match rs[i]? with
 |some r=>decide (r.a=p.1/\r.b=p.2/\Cn r=some c)
 |none=>false
abbrev P9 (rs:List Road)(p c:Int×Int):Nat:=((zaj rs.length).filter (lI rs p c)).headD 0
def YR (h:∃r∈rs,r.a=p.1/\r.b=p.2/\Cn r=some c):∃(r:Road) (t:List Nat),(zaj rs.length).filter (lI rs p c)=P9 rs p c::t/\rs[P9 rs p c]?=some r/\r.a=p.1/\r.b=p.2/\Cn r=some c:=by
 obtain⟨r,hr,h1⟩:=h;obtain⟨i,hi⟩:=List.mem_iff_getElem?.mp hr;have hm:i∈(zaj rs.length).filter (lI rs p c):=zbc.mpr ⟨zbz.mpr (zam.mp hi).1,by unfold lI;rw[hi];exact decide_eq_true h1⟩;unfold P9;cases q:(zaj rs.length).filter (lI rs p c) with
 |nil=>rw[q] at hm;cases hm
 |cons n t =>
  have hn:n∈(zaj rs.length).filter (lI rs p c):=by rw[q];exact za3
  have hb:=(zbc.mp hn).2;unfold lI at hb;cases z:rs[n]? with
  |none=>rw[z] at hb;cases hb
  |some r' =>
   rw[z] at hb;have aH:r'.a=p.1/\r'.b=p.2/\Cn r'=some c:=by simpa using hb
   exact⟨r',t,rfl,z,aH⟩
abbrev tR (rs:List Road)(A:LA):Nat->Int×Int->List Nat
 |0,_=>[]
 |k+1,p=>match Aq A p with
  |none=>[]
  |some (c,none)=>[P9 rs p c]
  |some (_,some q)=>tR rs A k (p.1,q)++tR rs A k (q,p.2)
abbrev Vp (L:List Int)(p:Int×Int):Nat:=min (C8 L p.1) (C8 L p.2)
inductive U0 (rs:List Road):Int->List Nat->Int->Int->Prop
 |nil (x:Int):U0 rs x [] x 0
 |cons {x y l s:Int} {n:Nat} {N:List Nat} {r:Road}:rs[n]?=some r->r.a=x->r.l=some l->U0 rs r.b N y s->U0 rs x (n::N) y (l+s)
def U0.app {M}(h:U0 rs x N q s)(k:U0 rs q M y t):U0 rs x (N++M) y (s+t):=by
 induction h with
 |nil x=>simpa using k
 |cons h1 h2 h3 _ ih =>
  have:=U0.cons h1 h2 h3 (ih k);simpa [zcq] using this
def U0.inv (h:U0 rs x (n::N) y s):∃r l t,rs[n]?=some r/\r.a=x/\r.l=some l/\U0 rs r.b N y t/\s=l+t:=by
 cases h with
 |cons h1 h2 h3 h4=>exact⟨_,_,_,h1,h2,h3,h4,rfl⟩
section
variable {m:Nat}{A:LA}{K:List (Int×Int)}
def Ji (ok:B4 m rs L A K)(h:Aq A p=some (c,mid)):(p.1∈L/\p.2∈L/\p.1≠p.2)/\(mid=none->∃r∈rs,r.a=p.1/\r.b=p.2/\Cn r=some c)/\∀q,mid=some q->C8 L q<Vp L p/\q∈L/\∃a b ma mb,Aq A (p.1,q)=some (a,ma)/\Aq A (q,p.2)=some (b,mb)/\c=(a.1+b.1,a.2+b.2):=by
 obtain⟨x,y⟩:=p;have hn:=EX ok.pm;rw[ok.la] at h;have kx:Ac (BB rs L) (x,y)=some c:=by unfold Ac;rw[h];rfl
 obtain⟨_,ae,n5,aQ⟩:=(L5 ok.pm ok.ok).2.snd x y c kx;have hx:=(AK ok.pm).mpr n5;have hy:=(AK ok.pm).mpr aQ;have hf:=cK (rs:=rs) hn hx hy ae;have h0:∀c p,Aq (lay0 rs) (x,y)≠some (c,some p):=λ c p h=>by cases (YI rs x y c _ h).1
 have hF:=yP (cd:=λ p=>Ak (Ac (BB rs L) (x,p)) (Ac (BB rs L) (p,y))) h0 (L.take (min (C8 L x) (C8 L y)));unfold rJ at hf;rw[<-hf] at hF;refine⟨⟨hx,hy,ae⟩,λ e=>?_,λ q e=>?_⟩
 ·subst e;exact (YI rs x y c none (hF.AV c h)).2
 ·subst e;obtain⟨⟨W1,W2,e1,e2,_⟩,_⟩:=hF.mid c q h;have hq:q∈L.take (min (C8 L x) (C8 L y)):=by rw[e1];simp
  obtain⟨q1,q2⟩:=Vi hn hq;obtain⟨a,b,ha,hb,rfl⟩:=D2 e2;have ex:∀ {z:Int×Int} {d:Int×Int},Ac (BB rs L) z=some d->∃md,Aq A z=some (d,md):=fun {z d} hd=>by
   rw[ok.la];unfold Ac at hd;cases w:Aq (BB rs L) z with
   |none=>rw[w] at hd;cases hd
   |some v=>rw[w] at hd;cases hd;exact⟨v.2,rfl⟩
  obtain⟨ma,h1⟩:=ex ha;obtain⟨mb,h2⟩:=ex hb;exact⟨q2,q1,a,b,ma,mb,h1,h2,rfl⟩
def lJ (h:C8 L q<Vp L p):Vp L (p.1,q)=C8 L q/\Vp L (q,p.2)=C8 L q:=by
 unfold Vp at *;dsimp only;omega
def L8 (ok:B4 m rs L A K):∀(k k':Nat) (p:Int×Int),Vp L p<k->Vp L p<k'->tR rs A k p=tR rs A k' p
 |0,_,_,h,_|_+1,0,_,_,h=>absurd h (Nat.not_lt_zero _)
 |k+1,k'+1,p,h,h'=>by
  unfold tR;cases q:Aq A p with
  |none=>rfl
  |some z =>
   obtain⟨c,mid⟩:=z;cases mid with
   |none=>rfl
   |some v =>
    obtain⟨_,_,h3⟩:=Ji ok q;obtain⟨hv,_,_⟩:=h3 v rfl;obtain⟨e1,e2⟩:=lJ hv;dsimp only;rw[L8 ok k k' (p.1,v) (by omega) (by omega),L8 ok k k' (v,p.2) (by omega) (by omega)]
abbrev CO (rs:List Road)(L:List Int)(A:LA)(p:Int×Int):List Nat:=tR rs A (Vp L p+1) p
def Vq (ok:B4 m rs L A K)(h:Aq A p=some (c,some v)):CO rs L A p=CO rs L A (p.1,v)++CO rs L A (v,p.2):=by
 obtain⟨_,_,h3⟩:=Ji ok h;obtain⟨hv,_,_⟩:=h3 v rfl;obtain⟨e1,e2⟩:=lJ hv
 conv=>lhs;unfold CO tR;rw[h]
 dsimp only;unfold CO;rw[L8 ok (Vp L p) (Vp L (p.1,v)+1) (p.1,v) (by omega) (by omega),L8 ok (Vp L p) (Vp L (v,p.2)+1) (v,p.2) (by omega) (by omega)]
def RI (h:Aq A p=some (c,none)):CO rs L A p=[P9 rs p c]:=by
 unfold CO tR;rw[h]
structure abL (rs:List Road)(L:List Int)(p c:Int×Int)(N:List Nat):Prop where
 ch:U0 rs p.1 N p.2 c.1
 ln:(N.length:Int)=c.2
 ne:1<=N.length
 up:N.length<=2^Vp L p
 lo:∀n∈N.tail,∀r,rs[n]?=some r->C8 L r.a<Vp L p
def Md (ok:B4 m rs L A K):∀(k:Nat){p c:Int×Int}{mid:Option Int},Vp L p=k->Aq A p=some (c,mid)->abL rs L p c (CO rs L A p):=by
 intro k;induction k using Nat.strongRecOn with
 |ind k ih =>
  intro p c mid hk h;obtain⟨_,h2,h3⟩:=Ji ok h;cases mid with
  |none =>
   rw[RI h];obtain⟨r,t,_,hr,ha,hb,hc⟩:=YR (h2 rfl);obtain⟨l,hl,rfl⟩:=Ih hc;refine⟨?_,rfl,zaf _,Nat.one_le_two_pow,λ n hn=>by cases hn⟩;have:=U0.cons hr ha hl (.nil r.b);rw[hb] at this;simpa using this
  |some v =>
   obtain⟨hv,_,a,b,ma,mb,f1,f2,rfl⟩:=h3 v rfl;obtain⟨e1,e2⟩:=lJ hv;have u1:=ih (C8 L v) (by omega) e1 f1;have u2:=ih (C8 L v) (by omega) e2 f2;rw[Vq ok h];have p2:2^(C8 L v)+2^(C8 L v)<=2^Vp L p:=by
    have:2^(C8 L v+1)<=2^Vp L p:=Nat.pow_le_pow_right (by decide) (by omega);rw[Nat.pow_succ] at this;omega
   have l1:=u1.up;have l2:=u2.up;rw[e1] at l1;rw[e2] at l2;refine⟨u1.ch.app u2.ch,?_,?_,?_,λ n hn r hr=>?_⟩
   ·rw[zal,Int.natCast_add,u1.ln,u2.ln]
   ·rw[zal];have:=u1.ne;omega
   ·rw[zal];omega
   ·have n1:=u1.ne;rcases zao.mp (by
     have:(CO rs L A (p.1,v)++CO rs L A (v,p.2)).tail=(CO rs L A (p.1,v)).tail++CO rs L A (v,p.2):=by
      cases q:CO rs L A (p.1,v) with
      |nil=>rw[q] at n1;cases n1
      |cons x xs=>rfl
     rw[this] at hn;exact hn) with hn|hn
    ·have:=u1.lo n hn r hr;omega
    ·cases q:CO rs L A (v,p.2) with
     |nil=>rw[q] at hn;cases hn
     |cons x xs =>
      rw[q] at hn;rcases zab.mp hn with rfl|hn
      ·have ch:=u2.ch;rw[q] at ch;obtain⟨r',_,_,g1,g2,_⟩:=ch.inv;rw[g1] at hr;cases hr;rw[g2];exact hv
      ·have:=u2.lo n (by rw[q];exact hn) r hr;omega
end
def RJ (rs:List Road):Hk 0 (rs.map Bw)=(zaj rs.length).map λ i:Nat=>D.tup [.int (i:Int),Bw (rs.getD i ⟨0,0,none,0⟩)]:=by
 apply zdb;intro i;rw[zap];by_cases hi:i<rs.length
 ·obtain⟨e,he⟩:∃e,(Hk 0 (rs.map Bw))[i]?=some e:=⟨_,za7 (by rw[CV,za2];exact hi)⟩;obtain⟨d,hd,rfl⟩:=G4 he;obtain⟨r,hr,rfl⟩:=Ca hd;rw[he,zc3 hi,zck,zai,hr,Nat.zero_add];rfl
 ·rw[zbh (by rw[CV,za2];omega),zbh (by rw[zc1];omega)];rfl
def cR (h:ρ[i]?=some (some (.own (xs++[d])))):jM i ρ [] (xs++[d])=.ok (ρ.set i (some (.own xs)),.sh d):=by
 rw[Yv h (p:=none) (t:=.lst ((xs++[d]).map .sh)) rfl (d:=d) (by simp)];rw[HU,List.dropLast_concat,toCl_list]
abbrev Vr (rs:List Road)(L:List Int)(A:LA)(W:List (Int×Int)):List Nat:=W.flatMap (CO rs L A)
abbrev tS (rs:List Road)(L:List Int)(A:LA):List (Int×Int)->Nat
 |[]=>0
 |p::W=>2*(CO rs L A p).length-1+tS rs L A W
def Tb {K}(ok:B4 m rs L A K):∀ {W:List (Int×Int)},(∀p∈W,(Aq A p).isSome=true)->W.length<=(Vr rs L A W).length
 |[],_=>zaf _
 |p::W,h=>by
  obtain⟨z,hz⟩:=zbq.mp (h p za3);have:=(Md ok _ (c:=z.1) (mid:=z.2) rfl hz).ne;have ih:=Tb ok λ q hq=>h q (za4 _ hq);show W.length+1<=(CO rs L A p++Vr rs L A W).length;rw[zal];omega
def abM {α:Type}(l:List α):ZA [.lst (l.map λ _=>D.bl true)]=.ok (.bl true):=by
 have e:(l.map λ _=>D.bl true)=(l.map λ _=>true).map D.bl:=by rw[zbf];rfl
 rw[e,V9];simp
def ado (n:Str)(N:List Str)(d:D)(ds:List D):CW (n::N) (d::ds)=some (.val d)::CW N ds:=by
 unfold CW;rw[zaa,zaa,Nat.add_sub_add_right];rfl
def adp (n:Str)(N:List Str):CW (n::N) []=none::CW N []:=rfl
def adq:CW [] []=[]:=rfl
def Pa (hr:r∈rs)(hl:r.l=some l)(w:Wk rs r.b g c)(h:B9 rs r.a g (some (l+c.1,1+c.2))):B9 rs r.b g (some c):=by
 refine⟨λ d hd=>?_,λ p hp=>by cases hp;exact w⟩;have:=h.1 _ (.cons hr hl hd);simp only[Bz] at this ⊢;omega
def Tc (Aw:∀r∈rs,Jl m r/\r.a≠r.b)(h:Wk rs u g c)(hu:0<=u/\u<m):B9 rs u g (some c)->∃V:List Int,V.Nodup/\(V.length:Int)=c.2+1/\∀v∈V,(0<=v/\v<m)/\∃d,B9 rs v g (some d)/\d.2<=c.2:=by
 induction h with
 |nil u=>exact λ hm=>⟨[u],by simp,rfl,λ v hv=>by rw[za9.mp hv];exact⟨hu,_,hm,Int.le_refl _⟩⟩
 | @cons r l g c hr hl w ih =>
  intro hm;have ok:=(Aw r hr).1;obtain⟨V,h1,h2,h3⟩:=ih ⟨ok.b0,ok.b1⟩ (Pa hr hl w hm);refine⟨r.a::V,zb8.mpr ⟨λ z=>?_,h1⟩,by rw[zaa];omega,λ v hv=>?_⟩
  ·obtain⟨_,d,hd,ao⟩:=h3 _ z;have:=hd.BM hm;cases this;omega
  ·rcases zab.mp hv with rfl|hv
   ·exact⟨hu,_,hm,Int.le_refl _⟩
   ·obtain⟨a,d,hd,ao⟩:=h3 _ hv;exact⟨a,d,hd,by omega⟩
def MG (Aw:∀r∈rs,Jl m r/\r.a≠r.b){u:Int}(hu:0<=u/\u<m)(h:B9 rs u g (some c)):c.2<m:=by
 obtain⟨V,h1,h2,h3⟩:=Tc Aw (h.2 c rfl) hu h;have:=G7 h1 (u:=Bu m) λ v hv=>by
  obtain⟨⟨a,b⟩,_⟩:=h3 v hv;exact zar.mpr ⟨v.toNat,zbz.mpr (by omega),by omega⟩
 rw[G8] at this;omega
section
variable {m:Nat}{A:LA}{K:List (Int×Int)}
abbrev cS (A:LA)(T:List Co)(p:Int)(q:Int×Int):Bool:=decide (Ak (Ac A q) (atC T q.2)=atC T p)
abbrev MH (A:LA)(K:List (Int×Int))(T:List Co)(p:Int):List (Int×Int):=(K.filter λ q=>decide (q.1=p)).filter (cS A T p)
def cT (ok:B4 m rs L A K){p:Int}(hT:∀w:Int,0<=w->w<m->B9 rs w g (atC T w))(hp:0<=p/\p<m)(ae:p≠g)(hc:atC T p=some cp):∃q r,MH A K T p=q::r:=by
 have hm:=hT p hp.1 hp.2;rw[hc] at hm;have w:=hm.2 cp rfl
 suffices ∃q,q∈MH A K T p by
  obtain⟨q,hq⟩:=this;cases e:MH A K T p with
  |nil=>rw[e] at hq;cases hq
  |cons a r=>exact⟨a,r,rfl⟩
 cases w with
 |nil=>exact (ae rfl).elim
 | @cons r l _ c' hr hl w' =>
  have wb:=ok.ok r hr;have hb:=Pa hr hl w' hm;have eb:atC T r.b=some c':=(hT r.b wb.1.b0 wb.1.b1).BM hb;have e1:Cn r=some (l,1):=by unfold Cn;rw[hl]
  have hle:=ok.cE.road r hr;rw[e1] at hle;obtain⟨d,hd,kg⟩:=OW hle;have wd:=(ok.cE.snd _ _ _ hd).1;have h2:=hm.1 _ (wd.trans w');have ed:d=(l,1):=by
   simp only[Bz] at h2;unfold O0 at kg;dsimp only at kg;exact Prod.ext (by omega) (by omega)
  subst ed;have aI:B9 rs r.a r.b (some (l,1)):=⟨λ e he=>by
   have:=hm.1 _ (he.trans w');simp only[Bz] at this ⊢;omega,λ p hp=>by cases hp;exact wd⟩
  have hK:(r.a,r.b)∈K:=(ok.km _).mpr ⟨_,hd,aI⟩;refine⟨(r.a,r.b),zbc.mpr ⟨zbc.mpr ⟨hK,by simp⟩,?_⟩⟩;unfold cS;dsimp only;rw[hc,eb,hd];simp[Ak]
structure ads (m:Nat)(rs:List Road)(A:LA)(T:List Co)(p:Int)(cp:Int×Int)(q ca cq:Int×Int):Prop where
 a:q.1=p
 r:0<=q.2/\q.2<m
 c:Ac A q=some ca
 t:atC T q.2=some cq
 s:cp=(ca.1+cq.1,ca.2+cq.2)
def yY (ok:B4 m rs L A K)(hc:atC T p=some cp)(h:MH A K T p=q::r):∃ca cq,ads m rs A T p cp q ca cq:=by
 have hq:q∈MH A K T p:=by rw[h];exact za3
 obtain⟨h1,h2⟩:=zbc.mp hq;obtain⟨h3,h4⟩:=zbc.mp h1;have e4:q.1=p:=by simpa using h4
 have e2:Ak (Ac A q) (atC T q.2)=some cp:=by
  unfold cS at h2;rw[hc] at h2;simpa using h2
 obtain⟨a,b,ha,hb,e⟩:=D2 e2;exact⟨a,b,e4,(ok.Wl h3).2.2,ha,hb,e⟩
end
abbrev tT (N:List Nat):D:=.lst (N.map λ n:Nat=>D.int (n:Int))
abbrev yZ (x:Co)(N:List Nat)(T:List Co):D:=match x with | none=>.AV | some c=>.tup [cst (some c),tT N,.lst (T.map cst)]
section
variable {m:Nat}{A:LA}{K:List (Int×Int)}
def sA (ok:B4 m rs L A K)(h:MH A K T p=q::r):∃c,Ac A q=some c/\B9 rs q.1 q.2 (some c):=by
 have hq:q∈MH A K T p:=by rw[h];exact za3
 obtain⟨h1,_⟩:=zbc.mp hq;obtain⟨h3,_⟩:=zbc.mp h1;exact (ok.km q).mp h3
end
abbrev tU (i:Nat)(ρ:Ad)(d:D)(t:OT):M Out:=match ρ[i]? with
 |some (some c)=>(match treeOf c with|some (_,u)=>.ok (.CD (.ow (.tree none (.tup [.sh d,t,u]))))|none=>.bad)
 |_=>.bad
section
variable {a b:Expr}{f:Ad->M D}{aV:Pos}
def sC (i:Nat){k}(hv:PE X (.Name x p1) (O5 i))(ha:DE X WX true a f)(hb:DN X WX b fn)(h1: ~~~(starEach [a,b,.Name x p1] X.env=(false,eval a X.env)::starEach [b,.Name x p1] X.env))(h2: ~~~(starEach [b,.Name x p1] X.env=(false,eval b X.env)::starEach [.Name x p1] X.env))(h3: ~~~(starEach [.Name x p1] X.env=(false,eval (.Name x p1) X.env)::starEach [] X.env)):
 DS X WX (.Return (some (.Tuple [a,b,.Name x p1] k aV)) pos) (λ ρ=>(f ρ).bind λ d=>(fn ρ).bind λ t=>tU i ρ d t):=by
 obtain⟨ta,a1,a2⟩:=ha;obtain⟨tb,b1,b2⟩:=hb;refine⟨_,Sa (WD (Bm a1 (Bm b1 (Bm hv CJ h3) h2) h1)),λ P0 P σ H Z ρ E h=>?_⟩;dsimp only at h;refine a2 P0 P σ H _ ρ E ?_;cases q:f ρ with
 |bad=>rw[q] at h;exact h
 |ex x=>rw[q] at h;exact λ H' s=>h H' P (E.tr s)
 |ok d =>
  rw[q] at h;simp only[M.Aa] at h;intro v H1 s1 yy;refine b2 P0 P σ H1 _ ρ (E.same s1) ?_;cases q2:fn ρ with
  |bad=>rw[q2] at h;exact h
  |ex x=>rw[q2] at h;exact λ H' s=>h H' P (E.tr (s1.trans s))
  |ok t =>
   rw[q2] at h;simp only[M.Aa] at h;intro w fp H2 s2 n2 aP o2;unfold tU at h;split at h
   ·rename_i c e1;split at h
    ·rename_i p0 u e2;have io:HA c=true:=by
      cases c with
      |val d=>cases e2
      |own ds|ow o=>rfl
     obtain⟨vi,fpi,g1,g2,g3,g4⟩:=E.ows i c e1 io;have ou:=g2.toT e2;refine⟨vi,g1,zbs (AA (by simp)),λ p hp=>?_⟩;have c6:∀a∈fp,H a=none:=λ a ha=>Ce s1 (n2 a ha);have wc:=s1.trans s2;have S3:=wc.trans (AJ hp (.tup [v,w,vi]));have we:=FK (E.same wc).BQ o2;have ae:∀a∈fp,a≠p:=λ a ha z=>(o2.BQ a ha).no (by rw[z];exact hp);have wg:=o2.move (Yn (o:=.tup [v,w,vi]) hp we) λ a ha=>Ag (ae a ha);have yz:=ou.move (Bs S3 c6) λ a ha=>by
      obtain⟨o,qo,_⟩:=E.BQ a (g3 a ha).1;rw[qo];exact S3 _ _ qo
     have jk:=yy.mono (Bs (s2.trans (AJ hp (.tup [v,w,vi]))) n2);refine h _ _ _ (PU P fp) (E.zW S3 c6) (λ a ha=>.inl (E.sub a ha)) (FK (E.same S3).BQ wg) (show C3 X.K _ (PU P fp) (.ref p) (.tup [.sh d,t,u]) _ from .tup (xs:=[v,w,vi]) ?_ (.cons (.sh jk) (.cons wg (.cons yz .nil)))) (λ a ha=>?_) ?_
     ·rw[Az λ z=>(we p z).no hp];exact Am
     ·rw[List.nil_append,zb1] at ha;rcases zao.mp ha with ha|ha
      ·exact⟨.inr ha,λ z=>(E.BQ a (E.sub a z)).no (c6 a ha)⟩
      ·exact⟨.inl (g3 a ha).1,(g3 a ha).2⟩
     ·rw[List.nil_append,zb1,zau];exact⟨aP,g4,λ a ha b hb e=>(E.BQ b (g3 b hb).1).no (by rw[<-e];exact c6 a ha)⟩
    ·exact h.elim
   ·exact h.elim
end
abbrev lK (x:Co)(N:List Nat)(T:List Co):OT:=match x with
 |none=>.sh .AV
 |some c=>.tup [.sh (cst (some c)),.lst ((N.map λ n:Nat=>D.int (n:Int)).map .sh),.lst ((T.map cst).map .sh)]
def sD (x:Co)(N:List Nat)(T:List Co):er (lK x N T)=yZ x N T:=by
 cases x with
 |none=>rfl
 |some c =>
  unfold lK yZ tT;simp only[er,QA,Gz]
structure cU (K:za1)(mg:Str->Option Value)(x:Str):Prop where
 ex:∃f,zas K mainGlobals x=some (some (.ref f))/\mg x=some (.ref f)
def tV {K}{st}(X:K.In h)(G:h.Ns mainGlobals mg)(p:FP K x st):cU K mg x:=by
 obtain⟨f,_,_,_,_,_,_,_,_,_,a,_⟩:=p.ex;exact⟨f,a,zd4 X G a⟩
abbrev lL (x1:Str)(F1:List D->M OT)(x2:Str)(F2:List D->M OT)(m:M (List D))(d:D):M OT:=match d with
 | .Gm x=>if x=x1 then m.bind F1 else if x=x2 then m.bind F2 else .bad
 |_=>.bad
section
variable {E:XK}{c:Bool}{fs:Ad->M (List D)}{f:Ad->M D}
def lM (G:cU X.K X.mg x)(hg:Gl X x)(hd:(x==("__debug__" : Str))=false:=by decide):DE X WX c (.Name x pos) (λ _=>.ok (.Gm x)):=by
 obtain⟨f,a,b⟩:=G.ex;exact⟨_,nA (v:=.ref f) hg b rfl hd,λ P0 P σ H Q ρ E h=>h _ H (Ah.refl H) (.Gm a trivial)⟩
abbrev zA (X:Cx)(E:XK)(tc:TE)(t:TA):TE:=λ σ H Q=>tc σ H λ v H1=>∃fa fd ps k sp,v=.ref fa/\D4 X.prog X.w X.K X.mg X.base (Sv X.prog X.w X.base) k fa fd ps sp/\BE k X.A/\zbk X.K (.ref fa)=true/\Binds X.K fd ps []/\t σ H1 λ vs H2=>sp (vs++[]) H2 Q E
def lN (hx:Gp (Sv X.prog X.w X.base) X E)(hc:PE X (.Name y p) tc)(ha:PA X (e::es) t)(he: ~~~(starEach (e::es) X.env=(false,eval e X.env)::starEach es X.env))(hpl: ~~~((backTo pos (starEach es X.env)).any (·.1)=false)):
 PE X (.Call (.Name y p) (e::es) [] pos) (zA X E tc t):=by
 intro pins s σ H Q I h;refine wpAny_Call_Name_kw (Bl (hc pins s σ H _ I h) λ u s1 zz=>?_);obtain⟨v,H1,I1,r,fa,fd,ps,k,sp,ev,F,hr,hk,hb,q⟩:=zz;subst ev;obtain rfl:u=zbl fa:=r;refine PySem.W.callWith_K (h₀:=X.base) I1.ok.mod.Wl hk (Bl (ha pos pins s1 σ H1 _ I1 q) λ us s2 zz=>?_) he hpl;obtain⟨vs,H2,I2,r2,q2⟩:=zz;exact⟨I2.NL,O7 F hr hb .nil hx I2 r2 q2⟩
def Vs (xo:Hl X E)(V1:cU X.K X.mg x1)(G1:xD X.prog X.w X.K X.mg X.base x1 k1 n F1)(h1:BE k1 X.A)(V2:cU X.K X.mg x2)(G2:xD X.prog X.w X.K X.mg X.base x2 k2 n F2)(h2:BE k2 X.A)(hv:DE X (CL X.K E) true (.Name y p) f)(ha:DA X (CL X.K E) true (e::es) fs)(hn:(e::es).length=n)(he: ~~~(starEach (e::es) X.env=(false,eval e X.env)::starEach es X.env))(hpl: ~~~((backTo pos (starEach es X.env)).any (·.1)=false)):
 DN X (CL X.K E) (.Call (.Name y p) (e::es) [] pos) (λ ρ=>(f ρ).bind (lL x1 F1 x2 F2 (fs ρ))):=by
 obtain⟨f1,n1,m1⟩:=V1.ex;obtain⟨f2,n2,m2⟩:=V2.ex;obtain⟨fa1,y2,y3,cf,aJ,wj,c8⟩:=G1.ex;obtain⟨fa2,y4,y6,lc,aO,t5,kc⟩:=G2.ex;rw[m1] at aJ;rw[m2] at aO;cases aJ;cases aO;obtain⟨tc,c1,c2⟩:=hv;obtain⟨ta,a1,a2,a3⟩:=ha;refine⟨_,lN xo.call c1 a1 he hpl,λ P0 P σ H Q ρ V h=>?_⟩;dsimp only at h;refine c2 P0 P σ H _ ρ V ?_;cases q:f ρ with
 |bad|ex x=>rw[q] at h;exact h
 |ok d =>
  rw[q] at h;simp only[M.Aa] at h;intro v H1 s1 hv;have fin:∀ds,fs ρ=.ok ds->∀ {F:List D->M OT},TY X.K (CL X.K E) P H Q (F ds)->∀vs H2,Ah H1 H2->Aj X.K (del H2 P) vs ds->spT X.K n F (vs++[]) H2 Q E:=λ ds qs F h vs H2 s2 a6=>by
   rw[zb1];exact⟨by rw[a6.length,a3 ρ ds qs];exact hn,P,ds,((V.same s1).same s2).BQ,a6,(h.same s1).same s2⟩
  have go:∀ {F:List D->M OT},TY X.K (CL X.K E) P H Q ((fs ρ).bind F)->ta σ H1 λ vs H2=>spT X.K n F (vs++[]) H2 Q E:=fun {F} h=>by
   refine a2 P0 P σ H1 _ ρ (V.same s1) ?_;cases qs:fs ρ with
   |bad=>rw[qs] at h;exact h
   |ex x=>rw[qs] at h;exact λ H' s'=>h H' (s1.trans s')
   |ok ds =>
    rw[qs] at h;exact λ vs H2 s2 a6=>fin ds qs h vs H2 s2 a6
  cases hv with
  | @Gm a x hx _ =>
   by_cases e1:x=x1
   ·subst e1;rw[n1] at hx;cases hx;refine⟨_,y2,y3,k1,_,rfl,cf,h1,wj,c8,go ?_⟩;simpa [lL] using h
   ·by_cases e2:x=x2
    ·subst e2;rw[n2] at hx;cases hx;refine⟨_,y4,y6,k2,_,rfl,lc,h2,t5,kc,go ?_⟩;simpa [lL,e1] using h
    ·simp only[lL,if_neg e1,if_neg e2] at h;exact h.elim
  |_=>exact h.elim
end
abbrev KwB (K:za1)(fd:FuncData)(ps:List Str)(key:Str):Prop:=∀(s:Shared) (us:List Value) (w:Value),K.In s.heap->us.length+1=ps.length->BindsTo s fd ⟨us,[(key,w)]⟩ (ps.zip (us++[w]))
section
variable {P:Program}{w:World}{K:za1}
def abN {st}(F:jU K x qual st f fd)(S:Ab N ps (A2 st))(g:Ad->M Out)(hb:∀(B0:Value) (A:Around) (outer:List Env) (s:Shared) (H:Hp) (E:XK),BE k (A.deeper (envOfC qual (A2 st) s.heap.objs.size f B0))->TX (mU P w K mg base N qual (A2 st) f B0 A outer s H E) (CL K E) (AF st) g):
 D4 P w K mg base (Sv P w base) (k+1) f fd ps (spT K ps.length λ ds=>UI (g (CW N ds))):=by
 obtain⟨oc,od,dV,kV,doc,pm,an,B0,ct,Ud,rfl,lk,aT⟩:=F.ex;refine Uc lk aT S (λ vs H Q E h=>h.1) λ A outer s H vs Q E hr h=>?_;obtain⟨hl,P',ds,ht,hv,hq⟩:=h;obtain⟨t,h1,h2⟩:=hb B0 A outer s H E hr;refine⟨t,h1,h2 ⟨P',λ _=>0⟩ P' _ H _ _ (LQ ht hv) ?_⟩;dsimp only at hq;revert hq;cases g (CW N ds) with
 |bad=>exact λ h=>h.elim
 |ex x=>exact λ h H' P2 t=>h H' (CI t)
 |ok o =>
  cases o with
  |ret d=>exact λ h v H' P2 t hv=>h v [] H' (CI t) (λ a ha=>by cases ha) zbv (.sh (by rw[SE];exact hv))
  |next ρ=>exact λ h σ' H' P2 t E=>h .AV [] H' (CI t) (λ a ha=>by cases ha) zbv (.sh .AV)
  |brk ρ|cont ρ=>exact λ h=>h.elim
  |CD c=>exact λ h v fp H' P2 t hs ht ho hp nd=>Yo h t hs ho hp nd
  |FJ d ρ=>exact λ h=>h.elim
structure Xo (K:za1)(x m qual key:Str)(st:Stmt)(ps:List Str):Prop where
 ex:∃C f fd,zas K mainGlobals x=some (some (.ref C))/\U9 K C/\Meth K C m f/\jU K m qual st f fd/\(Binds K fd ps []/\Binds K fd ps [.none])/\KwB K fd ps key
structure YS (P:Program)(w:World)(K:za1)(mg:Str->Option Value)(base:Heap)(x m key:Str)(k n:Nat)(F:List D->M OT):Prop where
 ex:∃C fa fd ps,zas K mainGlobals x=some (some (.ref C))/\U9 K C/\Meth K C m fa/\D4 P w K mg base (Sv P w base) k fa fd ps (spT K n F)/\(Binds K fd ps []/\Binds K fd ps [.none])/\KwB K fd ps key
def lO {st}(T:Xo K x m qual key st ps)(S:Ab N ps (A2 st))(g:Ad->M Out)(hb:∀(f:Addr) (B0:Value) (A:Around) (outer:List Env) (s:Shared) (H:Hp) (E:XK),BE k (A.deeper (envOfC qual (A2 st) s.heap.objs.size f B0))->TX (mU P w K mg base N qual (A2 st) f B0 A outer s H E) (CL K E) (AF st) g)(hn: ~~~(ps.length=n)):
 YS P w K mg base x m key (k+1) n (λ ds=>UI (g (CW N ds))):=by
 obtain⟨C,f,fd,h1,h2,h3,F,hB⟩:=T.ex;subst hn;exact⟨⟨C,f,fd,ps,h1,h2,h3,abN F S g (hb f),hB⟩⟩
def zB (e:mg y=mg x)(G:xD P w K mg base x k n F):xD P w K mg base y k n F:=by
 obtain⟨fa,fd,ps,h1,h2,h3⟩:=G.ex;exact⟨⟨fa,fd,ps,h1,e.trans h2,h3⟩⟩
def abO {st}(X:K.In h)(G:h.Ns mainGlobals mg)(e:zas K mainGlobals y=zas K mainGlobals x)(p:FP K x st):mg y=mg x:=by
 obtain⟨f,_,_,_,_,_,_,_,_,_,a,_⟩:=p.ex;rw[zd4 X G a,zd4 X G (e.trans a)]
end
section
variable {E:XK}{ek:Expr}{fs:Ad->M (List D)}{fk:Ad->M D}{jm:Pos}
abbrev zC (X:Cx)(m:Str)(k:Nat)(E:XK)(ta:TE)(t:TA):TE:=λ σ H Q=>ta σ H λ x H1=>∃a C dx fs f fd ps n F,x=.ref a/\H1 a=some (.ins C dx fs)/\fs.lookup m=none/\U9 X.K C/\Meth X.K C m f/\D4 X.prog X.w X.K X.mg X.base (Sv X.prog X.w X.base) k f fd ps (spT X.K n F)/\Binds X.K fd ps [.none]/\
 t σ H1 λ vs H2=>spT X.K n F (x::(vs++[.AV])) H2 Q E
def lP (he:PE X o ta)(hr:BE k X.A)(hx:Gp (Sv X.prog X.w X.base) X E)(ha:PA X (e::es) t)(aF: ~~~(starEach (e::es) X.env=(false,eval e X.env)::starEach es X.env))(hpl: ~~~((backTo pos (starEach es X.env)).any (·.1)=false))(ht: ~~~(eval (.Call (.Attribute o m apos) (e::es) [] pos) X.env=(do
  let ov <-eval o X.env
  standAt apos.atName
  let (f,first) <-holding [ov] (getMethod ov m pl)
  callWith pos f first (backTo pos (starEach (e::es) X.env)) (backToKw pos (keywordEach [] X.env))))):
 PE X (.Call (.Attribute o m apos) (e::es) [] pos) (zC X m k E ta t):=by
 intro pins s σ H Q I h;refine PySem.W.methodCall_KW (pl:=pl) (Bl (he pins s σ H _ I h) λ u s1 zz=>?_) ht;obtain⟨x,H1,I1,rx,a,C,dx,fs,f,fd,ps,n,F,ex,ea,l,c,hm,hF,hb,q⟩:=zz;subst ex;obtain rfl:u=zbl a:=rx;refine JQ I1 ea c hm l ?_;refine PySem.W.callWith_K (first:=[.ref a]) (h₀:=X.base) I.ok.mod.Wl hm.kp (Bl (ha pos pins s1 σ H1 _ I1 q) λ us s2 ⟨vs,H2,I2,r,q2⟩=>⟨I2.NL,?_⟩) aF hpl;exact O7 (us:=.ref a::us) (vs:=.ref a::vs) hF hr hb (.cons (show RelV .AV .none from rfl) .nil) hx I2 (.cons rfl r) q2
def lQ (xo:Hl X E)(M0:YS X.prog X.w X.K X.mg X.base x m key k n F)(hr:BE k X.A)(ho:DE X (CL X.K E) true o fo)(ha:DA X (CL X.K E) true (e::es) fs)(aE:(e::es).length+2=n)(aF: ~~~(starEach (e::es) X.env=(false,eval e X.env)::starEach es X.env))(hpl: ~~~((backTo pos (starEach es X.env)).any (·.1)=false))(ht: ~~~(eval (.Call (.Attribute o m apos) (e::es) [] pos) X.env=(do
  let ov <-eval o X.env
  standAt apos.atName
  let (f,first) <-holding [ov] (getMethod ov m pl)
  callWith pos f first (backTo pos (starEach (e::es) X.env)) (backToKw pos (keywordEach [] X.env))))):
 DN X (CL X.K E) (.Call (.Attribute o m apos) (e::es) [] pos) (λ ρ=>(fo ρ).bind λ d=>(E6 [(x,F)] m d).bind λ F=>(fs ρ).bind λ ds=>F (d::(ds++[.AV]))):=by
 obtain⟨ta,a1,a2⟩:=ho;obtain⟨tb,b1,b2,b3⟩:=ha;refine⟨_,lP (pl:=pl) a1 hr xo.call b1 aF hpl ht,λ P0 P σ H Q ρ Ev h=>?_⟩;dsimp only at h;refine a2 P0 P σ H _ ρ Ev ?_;cases q:fo ρ with
 |bad|ex x=>rw[q] at h;exact h
 |ok d =>
  rw[q] at h;simp only[M.Aa] at h;intro v H1 s1 hv;cases q2:E6 [(x,F)] m d with
  |bad=>rw[q2] at h;exact h.elim
  |ex y=>exact (M4 q2).elim
  |ok G =>
   rw[q2] at h;simp only[M.Aa] at h;obtain⟨x',ns,vw,rfl,bn,ke⟩:=OK q2;cases za9.mp bn;obtain⟨C,fa,fd,ps,h1,h2,h3,h4,h5,_⟩:=M0.ex;cases hv with
   |ins hn hH hl =>
    rw[hn] at h1;cases h1;refine⟨_,_,_,_,fa,fd,ps,n,F,rfl,(Ao hH).2,KS hl ke,h2,h3,h4,h5.2,?_⟩;refine b2 P0 P σ H1 _ ρ (Ev.same s1) ?_;cases q3:fs ρ with
    |bad=>rw[q3] at h;exact h
    |ex y=>rw[q3] at h;exact λ H' s=>h H' (s1.trans s)
    |ok ds =>
     rw[q3] at h;simp only[M.Aa] at h;intro vs H2 s2 a6;have c7:=(BS.ins hn hH hl).mono s2.del;exact⟨by rw[zaa,zal,a6.length,b3 ρ ds q3];exact aE,P,_,((Ev.same s1).same s2).BQ,.cons c7 (a6.append (.cons .AV .nil)),h.same (s1.trans s2)⟩
end
abbrev YT (x:D)(m m2:M D):M D:=match x with
 | .BR b ks vs=>m.bind λ y=>m2.bind λ z=>if keyOk b y=true then .ok ((Fq ks vs y).getD z) else .bad
 |_=>.bad
section
variable {c:Bool}{f g g2:Ad->M D}
def lR {ad}(hu:X.A.units+n<cLine)(ha:DE X WX c o f)(hb:DE X WX c k g)(kc:DE X WX c e g2)(m:M2 X o "get" apos k e ad:=by exact⟨rfl,rfl,rfl,rfl⟩)(hn:1<=n:=by decide):
 DE X WX c (.Call (.Attribute o "get" apos) [k,e] [] ad) (λ ρ=>(f ρ).bind λ x=>YT x (g ρ) (g2 ρ)):=by
 obtain⟨ta,a1,a2⟩:=ha;obtain⟨tb,b1,b2⟩:=hb;obtain⟨tc,c1,c2⟩:=kc;refine⟨_,fI (by omega) a1 b1 c1 m,λ P0 P σ H Q ρ E h=>?_⟩;dsimp only at h;refine a2 P0 P σ H _ ρ E ?_;cases q:f ρ with
 |bad|ex x=>rw[q] at h;exact h
 |ok x =>
  rw[q] at h;simp only[M.Aa] at h;intro v H1 s1 hv;unfold YT at h;split at h
  ·rename_i bb ks vs;obtain⟨a,rfl,hD⟩:=Yy hv;refine⟨a,rfl,hD,b2 P0 P σ H1 _ ρ (E.same s1) ?_⟩;cases e2:g ρ with
   |bad=>rw[e2] at h;exact h
   |ex y=>rw[e2] at h;exact gV.same (m:=.ex y) h s1
   |ok y =>
    rw[e2] at h;simp only[M.Aa] at h;intro w H2 s2 hw;refine c2 P0 P σ H2 _ ρ ((E.same s1).same s2) ?_;cases e3:g2 ρ with
    |bad=>rw[e3] at h;exact h
    |ex y=>rw[e3] at h;exact gV.same (m:=.ex y) (gV.same (m:=.ex y) h s1) s2
    |ok z =>
     rw[e3] at h;simp only[M.Aa] at h;intro u H3 s3 y7;by_cases hk:keyOk bb y=true
     ·rw[if_pos hk] at h;obtain⟨a',xs,ea,g',hl,aU⟩:=NV ((hv.mono s2.del).mono s3.del) (hw.mono s3.del) (E5 hk);cases ea;refine⟨_,g',?_⟩;refine gV.same (gV.same (gV.same h s1) s2) s3 _ H3 (Ah.refl _) ?_;cases eg:Fq ks vs y with
      |none =>
       have:Fq ks xs y=none:=by
        cases sq:Fq ks xs y with
        |none=>rfl
        |some z =>
         have h1:=EE (xs:=xs) (y:=y) aU;have h2:=EE (ks:=ks) (xs:=vs) (y:=y) (by rw[<-hl.length,aU]);rw[h1,sq,eg] at h2;cases h2
       rw[this];exact y7
      |some d =>
       obtain⟨x,e3,e4⟩:=KH hl eg;rw[e3];exact e4
     ·rw[if_neg hk] at h;exact h.elim
  ·exact h.elim
end
abbrev HE (m:Nat)(rs:List Road)(L:List Int):D:=.ins "House" ["own_map","own_order","done"] [Al m rs,.lst (L.map D.int),.lst []]
abbrev aek (r:Road):Road:=⟨r.a,r.b,none,r.w⟩
abbrev Hn (c:Int->Int->Co)(p:Int)(D:List Int)(h:Int):Bool:=decide (c p h≠none) && !(D.any λ x=>decide (Ak (c p x) (c x h)=c p h))
abbrev Bk (c:Int->Int->Co)(p:Int)(D:List Int):List Int:=(zaj D.length).filterMap λ i=>if Hn c p (D.take i) (D.getD i 0)=true then some (D.getD i 0) else none
def EG (c:Int->Int->Co)(p:Int)(D:List Int)(h:Int):Bk c p (D++[h])=Bk c p D++(if Hn c p D h=true then [h] else []):=by
 unfold Bk;rw[zal,zbd,List.range_succ,List.filterMap_append];congr 1
 ·have cg:∀(l:List Nat) (f g:Nat->Option Int),(∀i∈l,f i=g i)->l.filterMap f=l.filterMap g:=by
   intro l f g;induction l with
   |nil=>intro _;rfl
   |cons a r ih=>intro h;rw[zbj,zbj,h a za3,ih λ i hi=>h i (za4 _ hi)]
  refine cg _ _ _ λ i hi=>?_;have hi:=zbz.mp hi;rw[List.take_append_of_le_length (by omega),zai,zai,zc2 hi]
 ·have e1:(D++[h]).take D.length=D:=by rw[List.take_append_of_le_length (zaf _),zby]
  have e2:(D++[h]).getD D.length 0=h:=by rw[zai,zcn (zaf _)];simp
  rw[zbj,List.filterMap_nil,e1,e2];by_cases q:Hn c p D h=true
  ·rw[if_pos q,if_pos q]
  ·rw[if_neg q,if_neg q]
def Gb (c:Int->Int->Co)(p:Int)(D:List Int):∀x∈Bk c p D,x∈D:=by
 intro x hx;obtain⟨i,hi,e⟩:=zd2.mp hx;have hi:=zbz.mp hi;split at e
 ·cases e;rw[zai,za7 hi];exact List.getElem_mem hi
 ·cases e
abbrev lS (m:Nat)(c:Int->Int->Co):Prop:=∀x y z:Int,(0<=x/\x<m)->(0<=y/\y<m)->(0<=z/\z<m)->Bz (c x z) (Ak (c x y) (c y z))
def lS.turn (h:lS m c):lS m λ x y=>c y x:=λ x y z a b d=>by rw[Bo];exact h z y x d b a
def Vt (T:lS m c){p y x h:Int}(hp:0<=p/\p<m)(hy:0<=y/\y<m)(hx:0<=x/\x<m)(hh:0<=h/\h<m)(h1:Ak (c p y) (c y x)=c p x)(h2:Ak (c p x) (c x h)=c p h):Ak (c p y) (c y h)=c p h:=by
 refine KU ?_ (T p y h hp hy hh);rw[<-h2,<-h1,Dy,Bo (c p y),Bo (c p y)];exact Cg _ (T y x h hy hx hh)
def cV (T:lS m c){p h:Int}(hp:0<=p/\p<m)(hh:0<=h/\h<m){D}(hD:∀x∈D,0<=x/\x<(m:Int))(hn:c p h≠none):(Bk c p D).any (λ x=>decide (Ak (c p x) (c x h)=c p h))=D.any λ x=>decide (Ak (c p x) (c x h)=c p h):=by
 have key:∀n:Nat,n<=D.length->((D.take n).any (λ x=>decide (Ak (c p x) (c x h)=c p h))=true->(Bk c p (D.take n)).any (λ x=>decide (Ak (c p x) (c x h)=c p h))=true):=by
  intro n;induction n with
  |zero=>intro _ q;simp at q
  |succ n ih =>
   intro hl q;have ag:n<D.length:=by omega
   have e:D.take (n+1)=D.take n++[D[n]]:=by rw[zc0,za7 ag];rfl
   rw[e,List.any_append,Bool.or_eq_true] at q;rw[e,EG,List.any_append,Bool.or_eq_true];by_cases z:(D.take n).any (λ x=>decide (Ak (c p x) (c x h)=c p h))=true
   ·exact .inl (ih (by omega) z)
   ·right;have q2:Ak (c p D[n]) (c D[n] h)=c p h:=by
     rcases q with q|q
     ·exact absurd q z
     ·simpa using q
    have y8:Hn c p (D.take n) D[n]=true:=by
     unfold Hn;rw[zb6];refine⟨decide_eq_true λ w=>hn ?_,?_⟩
     ·rw[<-q2,w];rfl
     ·rw[Bool.not_eq_true',Bool.eq_false_iff];intro w;apply z;obtain⟨y,hy,w⟩:=List.any_eq_true.mp w;exact List.any_eq_true.mpr ⟨y,hy,decide_eq_true (Vt T hp (hD y (zc7 hy)) (hD _ (List.getElem_mem ag)) hh (of_decide_eq_true w) q2)⟩
    rw[if_pos y8,zch,decide_eq_true q2];rfl
 have k2:=key D.length (zaf _);rw[zby] at k2;cases q:D.any λ x=>decide (Ak (c p x) (c x h)=c p h) with
 |true=>exact k2 q
 |false =>
  rw[Bool.eq_false_iff];intro w;obtain⟨x,hx,w⟩:=List.any_eq_true.mp w;rw[Bool.eq_false_iff] at q;exact q (List.any_eq_true.mpr ⟨x,Gb c p D x hx,w⟩)
abbrev sE (k:Int×List Co):OT:=.tup [.sh (.int k.1),.lst ((k.2.map cst).map .sh)]
abbrev zD (k:Int×List Co):D:=.tup [.int k.1,.lst (k.2.map cst)]
abbrev zY (K:List (Int×List Co)):OT:=.lst (K.map sE)
abbrev cW (K:List (Int×List Co)):Cl:=toCl none (zY K)
def zE (k:Int×List Co):er (sE k)=zD k:=by
 have e:=Eh (ds:=k.2.map cst);unfold sE zD;rw[er,QA,QA,QA,e,MB]
def lT:∀K:List (Int×List Co),QA (K.map sE)=K.map zD
 |[]=>by simp[QA]
 |k::r=>by rw[za6,QA,lT r,zE,za6]
def zF (K:List (Int×List Co)):er (zY K)=.lst (K.map zD):=by unfold zY;rw[er,lT]
def Me (K:List (Int×List Co)):treeOf (cW K)=some (none,zY K):=UJ _ _
def Td (K:List (Int×List Co)):KA (cW K)=.val (.lst (K.map zD)):=by rw[ZN (Me K),zF]
section
variable {K:List (Int×List Co)}{k:Int×List Co}
def lU:Wm 0 (some (cW K)::ρ) []=some (zY K):=by
 unfold Wm;simp only[zc6,Me,UH]
def sF:QB 0 (some (cW K)::ρ)=.ok []:=by unfold QB;rw[lU]
def lV:ET 0 (some (cW K)::ρ) []=.ok (K.map sE):=by unfold ET;rw[lU];rfl
def sG:Ib 0 (some (cW K)::ρ) [] (.lst (K.map sE++[sE k]))=.ok (.next (some (cW (K++[k]))::ρ)):=by
 unfold Ib;simp only[zc6,Me,HU,zae];unfold cW zY;rw[zav];rfl
end
def zG {α:Type}{l:List α}{f g}(h:∀x∈l,f x=g x):l.any f=l.any g:=by
 induction l with
 |nil=>rfl
 |cons a r ih=>rw[zch,zch,h a za3,ih λ x hx=>h x (za4 _ hx)]
abbrev DC (c:Int->Int->Co)(p h:Int):D:=.tup [.int h,cst (c p h)]
def Pb (c:Int->Int->Co)(p:Int)(D:List Int):(Bk c p D).length<=D.length:=by
 unfold Bk;refine zc4 (List.length_filterMap_le _ _) ?_;rw[zc1];exact zaf _
def Pc {D}(hn:c p h≠none):Hn c p D h = !(D.any λ x=>decide (Ak (c p x) (c x h)=c p h)):=by unfold Hn;rw[decide_eq_true hn,Bool.true_and]
def Xp {D}(hn:c p h=none):Hn c p D h=false:=by unfold Hn;rw[decide_eq_false (λ z=>z hn),Bool.false_and]
def Te {m:Nat}(h:∀x y:Int,0<=x->x<m->0<=y->y<m->B9 rs x y (c x y)):lS m c:=λ x y z hx hy hz=>by
 cases e1:c x y with
 |none=>cases c x z<;>exact trivial
 |some p =>
  cases e2:c y z with
  |none=>cases c x z<;>exact trivial
  |some q =>
   have w1:=(h x y hx.1 hx.2 hy.1 hy.2).2 p e1;have w2:=(h y z hy.1 hy.2 hz.1 hz.2).2 q e2;exact (h x z hx.1 hx.2 hz.1 hz.2).1 _ (w1.trans w2)
def EH {D}:∀x∈Bk c p D,∃q,c p x=some q:=by
 intro x hx;obtain⟨i,hi,e⟩:=zd2.mp hx;split at e
 ·rename_i h;cases e;unfold Hn at h;rw[zb6] at h;exact Option.ne_none_iff_exists'.mp (of_decide_eq_true h.1)
 ·cases e
def min_self (Aw:∀r∈rs,Jl m r)(u:Int):B9 rs u u (some (0,0)):=
 ⟨λ c h=>by have:=h.nn Aw;show (0:Int)<c.1\/_;simp only;omega,λ p e=>by cases e;exact .nil u⟩
abbrev Vu (kv:Int×(Int×Int)):D:=.tup [.int kv.1,cst (some kv.2)]
abbrev Cu (R1 R2:RA):List ((Int×Int)×Int):=R1.filterMap λ kv=>(Aq R2 kv.1).map λ c=>((kv.2.1+c.1,kv.2.2+c.2),kv.1)
abbrev tW (x:(Int×Int)×Int):D:=.tup [cst (some x.1),.int x.2]
def Pd (R2:RA):∀R1:RA,((R1.filter λ kv=>(Aq R2 kv.1).isSome).map λ kv=>D.tup [cst (Ak (some kv.2) (Aq R2 kv.1)),.int kv.1])=(Cu R1 R2).map tW
 |[]=>rfl
 |kv::r=>by
  have ih:=Pd R2 r;unfold Cu at ih ⊢;rw[zbj];cases q:Aq R2 kv.1 with
  |none=>rw[zcw (by rw[q];simp)];exact ih
  |some c=>rw[zcv (by rw[q];rfl),za6,ih,q];rfl
def cX (R1 R2:RA):(Cu R1 R2).length<=R1.length:=List.length_filterMap_le _ _
abbrev YU (b:Option ((Int×Int)×Int))(x:(Int×Int)×Int):Option ((Int×Int)×Int):=match b with
 |none=>some x
 |some y=>if x.1.1<y.1.1\/(x.1.1=y.1.1/\x.1.2<y.1.2) then some x else some y
abbrev Tf:Option ((Int×Int)×Int)->D
 |none=>.AV
 |some x=>tW x
def cY {c:Int×Int}{h:Int}:∀ {l:List ((Int×Int)×Int)}{b:Option ((Int×Int)×Int)},(∀y,b=some y->Bz (some c) (some y.1)/\y.1≠c)->(∀x∈l,Bz (some c) (some x.1))->(∃l1 l2,l=l1++(c,h)::l2/\∀x∈l1,x.1≠c)->l.foldl YU b=some (c,h):=by
 have Nc:∀ {l:List ((Int×Int)×Int)},(∀x∈l,Bz (some c) (some x.1))->l.foldl YU (some (c,h))=some (c,h):=by
  intro l;induction l with
  |nil=>intro _;rfl
  |cons x r ih =>
   intro hl;have hx:=hl x za3;have e:YU (some (c,h)) x=some (c,h):=by
    unfold YU;dsimp only;rw[if_neg];simp only[Bz] at hx;omega
   rw[zb4,e];exact ih λ x hx=>hl x (za4 _ hx)
 intro l;induction l with
 |nil=>rintro b _ _ ⟨l1,l2,e,_⟩;cases l1<;>cases e
 |cons x r ih =>
  rintro b hb hl ⟨l1,l2,e,ae⟩;rw[zb4];cases l1 with
  |nil =>
   rw[List.nil_append] at e;cases e;have e2:YU b (c,h)=some (c,h):=by
    cases b with
    |none=>rfl
    |some y =>
     obtain⟨g1,g2⟩:=hb y rfl;unfold YU;dsimp only;rw[if_pos];simp only[Bz] at g1;by_cases q:c.1=y.1.1/\c.2=y.1.2
     ·exact absurd (Prod.ext q.1.symm q.2.symm) g2
     ·omega
   rw[e2];exact Nc λ x hx=>hl x (za4 _ hx)
  |cons z l1 =>
   rw[zco] at e;cases e;refine ih (λ y hy=>?_) (λ x hx=>hl x (za4 _ hx)) ⟨l1,l2,rfl,λ x hx=>ae x (za4 _ hx)⟩;have hx:Bz (some c) (some x.1)/\x.1≠c:=⟨hl x za3,ae x za3⟩;unfold YU at hy;split at hy
   ·cases hy;exact hx
   ·split at hy
    ·cases hy;exact hx
    ·cases hy;exact hb _ rfl
abbrev Ey (C:Int->Int->Co)(p:Int)(W:List Int):RA:=W.map λ h=>(h,(C p h).getD (0,0))
def YV (hW:∀x∈W,∃q,C p x=some q):W.map (DC C p)=(Ey C p W).map Vu:=by
 unfold Ey;rw[zbf];refine zcc λ h hh=>?_;obtain⟨q,e⟩:=hW h hh;show DC C p h=D.tup [.int h,cst (some ((C p h).getD (0,0)))];unfold DC;rw[e];rfl
def L9 {C:Int->Int->Co}{p h:Int}:∀ {W:List Int},Aq (Ey C p W) h=if h∈W then some ((C p h).getD (0,0)) else none
 |[]=>rfl
 |x::r=>by
  have ih:=L9 (C:=C) (p:=p) (h:=h) (W:=r);unfold Ey at ih ⊢;rw[za6,Aq,ih];by_cases e:x=h
  ·subst e;rw[if_pos rfl,if_pos za3]
  ·rw[if_neg e];by_cases hm:h∈r
   ·rw[if_pos hm,if_pos (za4 _ hm)]
   ·rw[if_neg hm,if_neg λ z=>(zab.mp z).elim (λ w=>e w.symm) hm]
def Iq (c:Int->Int->Co)(p:Int):∀(E D:List Int),∃Z,Bk c p (D++E)=Bk c p D++Z
 |[],D=>⟨[],by rw[zb1,zb1]⟩
 |e::E,D=>by
  obtain⟨Z,h⟩:=Iq c p E (D++[e]);rw[zb3,List.singleton_append,EG,zb3] at h;exact⟨_,h⟩
def lW {α:Type}{B:α->Prop}:∀ {R:List α},(∃x∈R,B x)->∃D h E,R=D++h::E/\B h/\∀x∈D,¬ B x:=by
 classical
 intro R;induction R with
 |nil=>rintro ⟨x,hx,_⟩;cases hx
 |cons a r ih =>
  intro hx;by_cases ha:B a
  ·exact⟨[],a,r,rfl,ha,λ x hx=>by cases hx⟩
  ·obtain⟨D,h,E,e,hb,hn⟩:=ih (by
    obtain⟨x,hx,hb⟩:=hx;rcases zab.mp hx with rfl|hx
    ·exact absurd hb ha
    ·exact⟨x,hx,hb⟩)
   exact⟨a::D,h,E,by rw[e];rfl,hb,λ x hx=>by
    rcases zab.mp hx with rfl|hx
    ·exact ha
    ·exact hn x hx⟩
def YW (T:lS m C){s g h:Int}{D}(hs:0<=s/\s<m)(hg:0<=g/\g<m)(hh:0<=h/\h<m)(hD:∀x∈D,0<=x/\x<(m:Int))(hc:C s g≠none)(hb:Ak (C s h) (C h g)=C s g)(hn:∀x∈D,Ak (C s x) (C x g)≠C s g):Hn C s D h=true:=by
 rw[Pc λ z=>hc (by rw[<-hb,z];rfl),Bool.not_eq_true',Bool.eq_false_iff];intro w;obtain⟨y,hy,w⟩:=List.any_eq_true.mp w;exact hn y hy (Vt T hs (hD y hy) hh hg (of_decide_eq_true w) hb)
def cZ (T:lS m C){s g:Int}{D E}(hs:0<=s/\s<m)(hg:0<=g/\g<m)(hR:∀x∈D++h::E,0<=x/\x<(m:Int))(hc:C s g=some c)(hb:Ak (C s h) (C h g)=C s g)(hn:∀x∈D,Ak (C s x) (C x g)≠C s g):
 (Cu (Ey C s (Bk C s (D++h::E))) (Ey (λ x y=>C y x) g (Bk (λ x y=>C y x) g (D++h::E)))).foldl YU none=some (c,h):=by
 have hh:=hR h (by simp);have hD:∀x∈D,0<=x/\x<(m:Int):=λ x hx=>hR x (by simp[hx]);have bC:C s g≠none:=by rw[hc];exact λ z=>by cases z
 have k1:=YW T hs hg hh hD bC hb hn;have k2:Hn (λ x y=>C y x) g D h=true:=YW T.turn hg hs hh hD bC (by rw[Bo];exact hb) λ x hx=>by rw[Bo];exact hn x hx
 obtain⟨Z1,e1⟩:=Iq C s E (D++[h]);obtain⟨Z2,e2⟩:=Iq (λ x y=>C y x) g E (D++[h]);rw[zb3,List.singleton_append,EG,if_pos k1,zb3] at e1;rw[zb3,List.singleton_append,EG,if_pos k2,zb3] at e2;obtain⟨p,q,hp,hq,kh⟩:=D2 (hb.trans hc);have sum:∀x∈Cu (Ey C s (Bk C s (D++h::E))) (Ey (λ x y=>C y x) g (Bk (λ x y=>C y x) g (D++h::E))),x.2∈Bk C s (D++h::E)/\some x.1=Ak (C s x.2) (C x.2 g):=λ x hx=>by
  obtain⟨kv,hk,ex⟩:=zd2.mp hx;obtain⟨y,hy,rfl⟩:=zar.mp hk;rw[L9] at ex;obtain⟨b,eb,rfl⟩:=zbp.mp ex;split at eb
  ·rename_i hm;cases eb;obtain⟨a1,f1⟩:=EH y hy;obtain⟨a2,f2⟩:=EH y hm;refine⟨hy,?_⟩;dsimp only at f2 ⊢;rw[f1,f2];rfl
  ·cases eb
 refine cY (λ y hy=>by cases hy) (λ x hx=>?_) ?_
 ·obtain⟨g1,g2⟩:=sum x hx;rw[g2,<-hc];exact T s x.2 g hs (hR _ (Gb _ _ _ _ g1)) hg
 ·have aO:h∈Bk (λ x y=>C y x) g (D++h::E):=by rw[e2];simp
  have es:Cu (Ey C s (Bk C s (D++h::E))) (Ey (λ x y=>C y x) g (Bk (λ x y=>C y x) g (D++h::E)))=Cu (Ey C s (Bk C s D)) (Ey (λ x y=>C y x) g (Bk (λ x y=>C y x) g (D++h::E)))++(c,h)::Cu (Ey C s Z1) (Ey (λ x y=>C y x) g (Bk (λ x y=>C y x) g (D++h::E))):=by
   rw[e1];unfold Cu Ey;rw[zav,zav,List.filterMap_append,List.filterMap_append,List.map_singleton];congr 1;rw[zbj];have ef:=L9 (C:=λ x y=>C y x) (p:=g) (h:=h) (W:=Bk (λ x y=>C y x) g (D++h::E));rw[if_pos aO] at ef;unfold Ey at ef;dsimp only at ef ⊢;rw[ef,hp,hq,kh];rfl
  refine⟨_,_,es,λ x hx z=>?_⟩;have ap:=sum x (by rw[es];exact zb5 _ hx);obtain⟨kv,hk,ex⟩:=zd2.mp hx;obtain⟨y,hy,rfl⟩:=zar.mp hk;obtain⟨b,eb,rfl⟩:=zbp.mp ex;exact hn y (Gb _ _ _ _ hy) (by rw[<-ap.2,z,hc])
def dA (T:lS m C){s g:Int}(hs:0<=s/\s<m)(hg:0<=g/\g<m)(hR:∀x∈R,0<=x/\x<(m:Int))(hc:C s g=none):
 Cu (Ey C s (Bk C s R)) (Ey (λ x y=>C y x) g (Bk (λ x y=>C y x) g R))=[]:=by
 unfold Cu;refine List.filterMap_eq_nil_iff.mpr λ kv hk=>?_;obtain⟨y,hy,rfl⟩:=zar.mp hk;rw[L9];by_cases hm:y∈Bk (λ x y=>C y x) g R
 ·exfalso;obtain⟨a1,f1⟩:=EH y hy;obtain⟨a2,f2⟩:=EH y hm;have:=T s y g hs (hR y (Gb _ _ _ _ hy)) hg;have f2:C y g=some a2:=f2;rw[hc,f1,f2] at this;exact this
 ·rw[if_neg hm];rfl
def dB (C:Int->Int->Co)(p:Int)(W:List Int):(Ey C p W).map zay=W:=by unfold Ey;rw[zbf];exact List.map_id'' (λ _=>rfl) W
def Xq {D}(h:D.Nodup):(Bk c p D).Nodup:=by
 have key:∀n:Nat,n<=D.length->(Bk c p (D.take n)).Nodup:=by
  intro n;induction n with
  |zero=>intro _;rw[List.take_zero];exact zbv
  |succ n ih =>
   intro hl;have ag:n<D.length:=by omega
   have e:D.take (n+1)=D.take n++[D[n]]:=by rw[zc0,za7 ag];rfl
   rw[e,EG];split
   ·refine zau.mpr ⟨ih (by omega),by simp,λ a ha b hb z=>?_⟩;have wk:=Gb _ _ _ _ ha;rw[z,za9.mp hb] at wk;obtain⟨j,hj,ej⟩:=List.getElem_of_mem wk;rw[zbt] at hj;rw[List.getElem_take] at ej;exact List.pairwise_iff_getElem.mp h j n (by omega) ag (by omega) ej
   ·rw[zb1];exact ih (by omega)
 have:=key D.length (zaf _);rwa[zby] at this
abbrev Dn (f:Int->Co)(m:Nat):D:=.lst ((zaj m).map λ i:Nat=>cst (f i))
def O2 {m:Nat}{f:Int->Co}(hl:T.length=m)(h:∀i:Int,0<=i->i<m->atC T i=f i):T.map cst=(zaj m).map λ i:Nat=>cst (f i):=by
 apply zdb;intro i;rw[zap,zap];by_cases hi:i<m
 ·rw[zc3 hi];have e:=Dd (cs:=T) (i:=(i:Int)) (by omega) (by rw[hl];omega);rw[zbr] at e;rw[e,h i (by omega) (by omega)];rfl
 ·rw[zbh (by omega),zbh (by simp;omega)];rfl
def lX {f:Int->Co}:(Bu m).map (λ g=>cst (f g))=(zaj m).map λ i:Nat=>cst (f i):=by
 unfold Bu;rw[zbf];rfl
def lY (h:j<m):AG (Dn f m) (.int (j:Int))=.ok (cst (f j)):=Ft (by omega) (by rw[zbr,zc3 h])
def zH:AG (.tup (x::r)) (.int 0)=.ok x:=by
 have e:Qw (x::r).length 0=some 0:=KY ⟨by omega,by rw[zaa];omega⟩;have h:R5 (x::r) 0=some x:=by unfold R5;rw[e];rfl
 show (match R5 (x::r) 0 with|some d=>M.ok d|none=>.bad)=_;rw[h]
def lZ (i:Int)(z:D):YT (.BR false [] []) (.ok (.int i)) (.ok z)=.ok z:=by
 unfold YT;simp only[M.Aa];rw[if_pos (show keyOk false (.int i)=true from rfl)];rfl
def mB (rs:List Road):((zaj rs.length).map λ i:Nat=>Bw (rs.getD i ⟨0,0,none,0⟩))=rs.map Bw:=by
 apply zdb;intro i;rw[zap,zap];by_cases hi:i<rs.length
 ·rw[zc3 hi,za7 hi];simp[zai,hi]
 ·rw[zbh (by simp;omega),zbh (by omega)];rfl
end L2
set_option maxHeartbeats 4000000
namespace dq
open PySem L2
abbrev top (i:Nat):Stmt:=zP0.main.body.getD i (.Pass ⟨0,0,0,0⟩)
noncomputable abbrev Gd:Stmt:=top 9
def La:Ab ["thing","bound"] ["thing","bound"] (A2 Gd):=nofun
noncomputable abbrev Lb:Stmt:=top 10
def QH:Ab ["thing"] ["thing"] (A2 Lb):=nofun
noncomputable abbrev RK:Stmt:=top 11
def Xr:Ab ["thing","many"] ["thing","many"] (A2 RK):=nofun
noncomputable abbrev Vv:Stmt:=top 12
def Mf:Ab ["thing","many","roads"] ["thing"] (A2 Vv):=nofun
noncomputable abbrev RL:Stmt:=top 13
def Xs:Ab ["thing"] ["thing"] (A2 RL):=nofun
noncomputable abbrev YX:Stmt:=top 14
def mC:Ab ["one","other"] ["one","other"] (A2 YX):=nofun
noncomputable abbrev YY:Stmt:=top 15
def mD:Ab ["some"] ["some"] (A2 YY):=nofun
noncomputable abbrev MI:Stmt:=top 16
def Tg:Ab ["road"] ["road"] (A2 MI):=nofun
noncomputable abbrev Vw:Stmt:=top 17
def dC:Ab ["net"] ["net"] (A2 Vw):=nofun
noncomputable abbrev Lc:Stmt:=top 19
def QI:Ab ["ladder"] ["ladder"] (A2 Lc):=nofun
noncomputable abbrev Eu:Stmt:=top 20
def Ir:Ab ["ladder"] ["ladder"] (A2 Eu):=nofun
noncomputable abbrev RM:Stmt:=top 21
def DF:Ab ["order","costs","place","reached","rank","lower","higher","cost"] ["order","costs","place"] (A2 RM):=nofun
noncomputable abbrev Iv:Stmt:=top 22
def Nq:Ab ["ladder","start"] ["ladder","start"] (A2 Iv):=nofun
noncomputable abbrev Jr:Stmt:=top 23
def Pe:Ab ["ladder","goal"] ["ladder","goal"] (A2 Jr):=nofun
noncomputable abbrev Iw:Stmt:=top 24
def Ei:Ab ["ladder","start","goal","ahead","behind"] ["ladder","start","goal"] (A2 Iw):=nofun
noncomputable abbrev YZ:Stmt:=top 26
def Ge:Ab ["order","costs","place","reached","told","higher","lower","over"] ["order","costs","place"] (A2 YZ):=nofun
noncomputable abbrev MJ:Stmt:=top 27
def Th:Ab ["ladder","start"] ["ladder","start"] (A2 MJ):=nofun
noncomputable abbrev Pf:Stmt:=top 28
def Vx:Ab ["ladder","goal"] ["ladder","goal"] (A2 Pf):=nofun
noncomputable abbrev Pg:Stmt:=top 29
def Vy:Ab ["costs","places"] ["costs","places"] (A2 Pg):=nofun
noncomputable abbrev Z0:Stmt:=top 30
def mE:Ab ["ladder","starts","goals"] ["ladder","starts","goals"] (A2 Z0):=nofun
noncomputable abbrev Iy:Stmt:=top 32
def Nr:Ab ["ladder","start","goal"] ["ladder","start","goal"] (A2 Iy):=nofun
noncomputable abbrev Gf:Stmt:=top 33
def Fv:Ab ["ladder","prices","place","kept"] ["ladder","prices","place"] (A2 Gf):=nofun
noncomputable abbrev Ho:Stmt:=top 34
def BZ:Ab ["ladder","prices","start","goal","roads","place","arc"] ["ladder","prices","start","goal"] (A2 Ho):=nofun
noncomputable abbrev tX:Stmt:=top 35
def Xu:Ab ["ladder","start","goal","cost","prices"] ["ladder","start","goal"] (A2 tX):=nofun
noncomputable abbrev Js:Stmt:=top 38
def Ph:Ab ["laid","pair"] ["laid","pair"] (A2 Js):=nofun
noncomputable abbrev tY:Stmt:=top 39
def zI:Ab ["laid","pair","cost","middle"] ["laid","pair","cost","middle"] (A2 tY):=nofun
noncomputable abbrev Pj:Stmt:=top 40
def Fw:Ab ["laid","place","higher","u","w","cost"] ["laid","place","higher"] (A2 Pj):=nofun
noncomputable abbrev MK:Stmt:=top 41
def Df:Ab ["net","order","laid","road","rank","place"] ["net","order"] (A2 MK):=nofun
noncomputable abbrev Pk:Stmt:=top 43
def Vz:Ab ["net","thing"] ["net","thing"] (A2 Pk):=nofun
noncomputable abbrev Hq:Stmt:=top 44
def Mg:Ab ["net","thing"] ["net","thing"] (A2 Hq):=nofun
noncomputable abbrev Ld:Stmt:=top 50
def BP:Ab ["net","start","costs","changed","road","cost"] ["net","start"] (A2 Ld):=nofun
noncomputable abbrev Pm:Stmt:=top 51
def VA:Ab ["net","goal"] ["net","goal"] (A2 Pm):=nofun
noncomputable abbrev Fx:Stmt:=top 53
def K1:Ab ["net","order"] ["net","order"] (A2 Fx):=nofun
noncomputable abbrev ML:Stmt:=top 54
def Ez:Ab ["net","laid","kept","u","costs"] ["net","laid"] (A2 ML):=nofun
noncomputable abbrev Le:Stmt:=top 55
def Jt:Ab ["net","arc","cost","numbers"] ["net","arc","cost"] (A2 Le):=nofun
noncomputable abbrev AI:Stmt:=inClass (top 56) 0
def K2:Ab ["self","net","order"] ["self","net","order"] (A2 AI):=nofun
noncomputable abbrev Iz:Stmt:=inClass (top 56) 2
def Nt:Ab ["self"] ["self"] (A2 Iz):=nofun
noncomputable abbrev E7:Stmt:=inClass (top 56) 4
def Dp:Ab ["self","u","w","many"] ["self","u","w"] (A2 E7):=nofun
noncomputable abbrev Ju:Stmt:=inClass (top 56) 5
def Pn:Ab ["self","u","w"] ["self","u","w"] (A2 Ju):=nofun
noncomputable abbrev Fy:Stmt:=inClass (top 56) 7
def BC:Ab ["self","u","w","roads","waiting","arc","middle"] ["self","u","w"] (A2 Fy):=nofun
noncomputable abbrev Jv:Stmt:=inClass (top 56) 8
def Po:Ab ["self"] ["self"] (A2 Jv):=nofun
noncomputable abbrev Jw:Stmt:=top 58
def Pp:Ab ["road","length"] ["road","length"] (A2 Jw):=nofun
noncomputable abbrev Hr:Stmt:=top 60
def Mh:Ab ["net","thing"] ["net","thing"] (A2 Hr):=nofun
noncomputable abbrev IA:Stmt:=top 62
def Nu:Ab ["net","lengths"] ["net","lengths"] (A2 IA):=nofun
noncomputable abbrev IB:Stmt:=top 63
def Nv:Ab ["net","shut"] ["net","shut"] (A2 IB):=nofun
noncomputable abbrev AN:Stmt:=inClass (top 64) 0
def Lf:Ab ["self","net","order"] ["self","net","order"] (A2 AN):=nofun
noncomputable abbrev IC:Stmt:=inClass (top 64) 3
def Nw:Ab ["self"] ["self"] (A2 IC):=nofun
noncomputable abbrev B5:Stmt:=inClass (top 64) 9
def Lg:Ab ["self","start","goal","shut","net"] ["self","start","goal","shut"] (A2 B5):=nofun
noncomputable abbrev MM:Stmt:=top 66
def Ti:Ab ["costs","known","hub"] ["costs","known","hub"] (A2 MM):=nofun
noncomputable abbrev Pq:Stmt:=top 67
def E8:Ab ["ladder","place","costs_of","costs","label","known","hub"] ["ladder","place","costs_of"] (A2 Pq):=nofun
noncomputable abbrev MN:Stmt:=top 68
def Tj:Ab ["ladder","place"] ["ladder","place"] (A2 MN):=nofun
noncomputable abbrev Lh:Stmt:=top 69
def QJ:Ab ["ladder","place"] ["ladder","place"] (A2 Lh):=nofun
noncomputable abbrev tZ:Stmt:=top 70
def K3:Ab ["out","into","costs","sums","best","cost","hub"] ["out","into"] (A2 tZ):=nofun
noncomputable abbrev Jx:Stmt:=top 72
def Pr:Ab ["_law_script","_law_k"] ["_law_script","_law_k"] (A2 Jx):=nofun
noncomputable abbrev MO:Stmt:=top 73
def GG:Ab ["_law_cell","_law_k","_law_number"] ["_law_cell","_law_k"] (A2 MO):=nofun
noncomputable abbrev Pt:Stmt:=top 74
def D3:Ab ["_law_cell","_law_many","_law_k","_law_x","_law_one","_law_other","_law_length"] ["_law_cell","_law_many","_law_k"] (A2 Pt):=nofun
noncomputable abbrev RN:Stmt:=top 75
def DH:Ab ["_law_script","_law_places","_law_most","_law_cells","_law_x","_law_many","_law_roads"] ["_law_script","_law_places","_law_most"] (A2 RN):=nofun
noncomputable abbrev MQ:Stmt:=top 76
def GH:Ab ["_law_cell","_law_many","_law_k","_law_order_here","_law_place"] ["_law_cell","_law_many","_law_k"] (A2 MQ):=nofun
noncomputable abbrev Pu:Stmt:=top 77
def VB:Ab ["_law_one","_law_other"] ["_law_one","_law_other"] (A2 Pu):=nofun
noncomputable abbrev MR:Stmt:=top 78
def Tn:Ab ["_law_one","_law_other"] ["_law_one","_law_other"] (A2 MR):=nofun
noncomputable abbrev RO:Stmt:=top 79
def Bp:Ab ["_law_net","_law_many","_law_roads","_law_found","_law_k","_law_u","_law_w","_law_length","_law_width","_law_v"] ["_law_net"] (A2 RO):=nofun
noncomputable abbrev Pw:Stmt:=top 80
def MS:Ab ["_law_found","_law_due","_law_part"] ["_law_found","_law_due"] (A2 Pw):=nofun
noncomputable abbrev Px:Stmt:=top 81
def VC:Ab ["_law_net"] ["_law_net"] (A2 Px):=nofun
noncomputable abbrev MT:Stmt:=top 82
def To:Ab ["_law_told"] ["_law_told"] (A2 MT):=nofun
noncomputable abbrev Py:Stmt:=top 83
def VD:Ab ["_law_net","_law_ladder","_law_start"] ["_law_net","_law_ladder","_law_start"] (A2 Py):=nofun
noncomputable abbrev Jy:Stmt:=top 84
def Pz:Ab ["_law_net","_law_ladder","_law_goal"] ["_law_net","_law_ladder","_law_goal"] (A2 Jy):=nofun
noncomputable abbrev RP:Stmt:=top 85
def Dg:Ab ["_law_script","_law_net","_law_order_here","_law_house","_law_ladder","_law_costs","_law_columns_here","_law_into","_law_start","_law_rows_here","_law_out","_law_goal","_law_told"] ["_law_script"] (A2 RP):=nofun
structure Txt (K:za1)(mg:Str->Option Value):Prop where
 Mi:Ax K mg "is_whole_below" Gd ["thing","bound"]
 Tp:Ax K mg "is_measure" Lb ["thing"]
 dD:Ax K mg "is_road" RK ["thing","many"]
 mF:Ax K mg "is_map" Vv ["thing"]
 dE:Ax K mg "checked" RL ["thing"]
 sH:Ax K mg "added" YX ["one","other"]
 sI:Ax K mg "least" YY ["some"]
 VE:Ax K mg "road_cost" MI ["road"]
 mG:Ax K mg "turned" Vw ["net"]
 Tq:Ax K mg "kept_costs" Lc ["ladder"]
 Jn:Ax K mg "kept_costs_turned" Eu ["ladder"]
 dG:Ax K mg "climbed" RM ["order","costs","place"]
 PB:Ax K mg "climbed_from" Iv ["ladder","start"]
 QK:Ax K mg "climbing_to" Jr ["ladder","goal"]
 PD:Ax K mg "sums_at_tops" Iw ["ladder","start","goal"]
 sJ:Ax K mg "swept" YZ ["order","costs","place"]
 VF:Ax K mg "costs_out" MJ ["ladder","start"]
 Xv:Ax K mg "costs_in" Pf ["ladder","goal"]
 Xw:Ax K mg "costs_at" Pg ["costs","places"]
 sL:Ax K mg "table" Z0 ["ladder","starts","goals"]
 PF:Ax K mg "cost_between" Iy ["ladder","start","goal"]
 Mj:Ax K mg "arcs_by_prices" Gf ["ladder","prices","place"]
 Nx:Ax K mg "way_by_prices" Ho ["ladder","prices","start","goal"]
 abP:Ax K mg "ask" tX ["ladder","start","goal"]
 QL:Ax K mg "cost_so_far" Js ["laid","pair"]
 abQ:Ax K mg "lay" tY ["laid","pair","cost","middle"]
 Xx:Ax K mg "lay_over" Pj ["laid","place","higher"]
 VG:Ax K mg "laid_arcs" MK ["net","order"]
 Xy:Ax K mg "is_order" Pk ["net","thing"]
 Ny:Ax K mg "checked_order" Hq ["net","thing"]
 Ts:Ax K mg "costs_from" Ld ["net","start"]
 Xz:Ax K mg "costs_to" Pm ["net","goal"]
 Li:Ax K mg "order_or_ranked" Fx ["net","order"]
 VH:Ax K mg "kept_arcs" ML ["net","laid"]
 Tt:Ax K mg "road_under" Le ["net","arc","cost"]
 Lj:OO K mg "Ladder" "Ladder.__init__" AI ["self","net","order"]
 PH:MD K "Ladder" "order" "Ladder.order" Iz ["self"]
 ID:MD K "Ladder" "checked_arc" "Ladder.checked_arc" E7 ["self","u","w"]
 QM:MD K "Ladder" "cost" "Ladder.cost" Ju ["self","u","w"]
 Lk:MD K "Ladder" "unpacked" "Ladder.unpacked" Fy ["self","u","w"]
 QN:MD K "Ladder" "kept" "Ladder.kept" Jv ["self"]
 QO:Ax K mg "with_length" Jw ["road","length"]
 Nz:Ax K mg "checked_place" Hr ["net","thing"]
 PJ:Ax K mg "with_lengths" IA ["net","lengths"]
 PL:Ax K mg "shut_lengths" IB ["net","shut"]
 Ml:OO K mg "House" "House.__init__" AN ["self","net","order"]
 PM:MD K "House" "ladder" "House.ladder" IC ["self"]
 VI:Xo K "House" "ask" "House.ask" "shut" B5 ["self","start","goal","shut"]
 VJ:Ax K mg "lies_over" MM ["costs","known","hub"]
 XA:Ax K mg "label_by" Pq ["ladder","place","costs_of"]
 VL:Ax K mg "label_out" MN ["ladder","place"]
 Tu:Ax K mg "label_into" Lh ["ladder","place"]
 abR:Ax K mg "met" tZ ["out","into"]
 QP:Ax K mg "_law_cell_at" Jx ["_law_script","_law_k"]
 VM:Ax K mg "_law_mixed" MO ["_law_cell","_law_k"]
 XB:Ax K mg "_law_road" Pt ["_law_cell","_law_many","_law_k"]
 dH:Ax K mg "_law_map" RN ["_law_script","_law_places","_law_most"]
 VN:Ax K mg "_law_order" MQ ["_law_cell","_law_many","_law_k"]
 XC:Ax K mg "_law_plus" Pu ["_law_one","_law_other"]
 VO:Ax K mg "_law_least" MR ["_law_one","_law_other"]
 dI:Ax K mg "_law_all" RO ["_law_net"]
 XD:Ax K mg "_law_cost" Pw ["_law_found","_law_due"]
 XE:Ax K mg "_law_copy" Px ["_law_net"]
 VP:Ax K mg "_law_first" MT ["_law_told"]
 XF:Ax K mg "_law_rows" Py ["_law_net","_law_ladder","_law_start"]
 QQ:Ax K mg "_law_columns" Jy ["_law_net","_law_ladder","_law_goal"]
 adZ:Ax K mg "law" RP ["_law_script"]
 mH:mg "all" = none
 abS:mg "any" = none
 mI:mg "bool" = none
 Tv:mg "dict" = none
 E9:mg "enumerate" = none
 uA:mg "int" = none
 Bv:mg "isinstance" = none
 Ll:mg "len" = none
 GI:mg "list" = none
 uB:mg "min" = none
 Cp:mg "range" = none
 PN:mg "reversed" = none
 mJ:mg "sorted" = none
 O3:mg "tuple" = none
 K4:cU K mg "costs_in"
 IE:cU K mg "costs_out"
 XG:mg "ask_asks" = mg "ask"
 Tw:G6 K "House" "done"
 Bq:G6 K "House" "own_map"
 Dh:G6 K "House" "own_order"
 F0:G6 K "Ladder" "kept_ones"
 Ci:G6 K "Ladder" "laid"
 Bx:G6 K "Ladder" "own_map"
 CP:G6 K "Ladder" "own_order"
local macro_rules | `(tactic| rfl')=>`(tactic| simp only [ado,adp,adq])
local macro_rules | `(‹$t›)=>`(some (Cl.val $t))
local macro_rules | `(!$n:num)=>`(wL $n (pv $n))
local macro_rules | `(!$h:ident)=>`(huR $h 16 (by decide))
local macro_rules | `(-$h:ident)=>`(($h).mono (by decide))
local macro_rules|`(tactic|simp_arith[$xs,*])=>do `(tactic|simp only[$[$(("rv0 rvS qI List.set_cons_zero List.set_cons_succ M.Aa ZK ZJ gO iO iP iQ pW SK Eh MB iF iG ZQ abh pT pU iH ac1 ZR ZS X8 xJ JZ xK iI iJ ZT abi iE HU toCl_list toCl_listP toCl_dct pX iR iS iT iU pY iV iW iX erM shM iK abj iL abk iM iN pV abl muC muN ac4 ac5 ac6 ac7 ac8 ac9 toCl_nil Ri KJ Uv xM ZU pZ qA iZ jA qB qC qD qE qG jB jC jE jF ZV ZW ZX ZY ZZ jG bH bI abm abn abo abp abq bJ ite_tt ite_ff Bool.not_true Bool.not_false List.getElem?_cons_zero List.getElem?_cons_succ RB V9 kD ac3 adg ac2 adh adi adj qY yD yE yF M9 cJ rE jZ adl abC yR".splitOn " ").toArray.map λ x=>Lean.mkIdent x.toName):term],*,$xs,*])
abbrev FT (nm:Str)(lv n:Nat)(F:List D->M OT):Prop:=∀ {P w K mg base},Txt K mg->xD P w K mg base nm lv n F
variable {P:Program}{w:World}{K:za1}{mg:Str->Option Value}{base:Heap}
abbrev Gg (F:List D->M OT):Prop:=∀i n:Int,0<=i->i<n->F [.int i,.int n]=.ok (.sh (.bl true))
def Di:∃F,FT "is_whole_below" 1 2 F/\Gg F:=by
 refine⟨_,λ T=>As (k:=0) T.Mi La _ (λ f B0 A outer s H E hr=>(A4 (Ae (AR (WS (Gv (Uw _) rfl T.Bv rfl T.uA (by decide +kernel) (!0)) (WS (wR (Gv (Rh _) rfl T.Bv rfl T.mI (by decide +kernel) (!0))) (WR (Zt aax sN A6 (!0) (!1))))))))),?_⟩;intro i n h0 h1;rfl';refine AS ?_;have a:=decide_eq_true h0;have b:=decide_eq_true h1;simp_arith[RB,a,b,I9];rfl
abbrev Hs:=za5 Di
def B1:FT "is_whole_below" 1 2 Hs:=(za0 Di).1
def B2:Gg Hs:=(za0 Di).2
abbrev Lm (F:List D->M OT):Prop:=∀i:Int,0<=i->i<RD->F [.int i]=.ok (.sh (.bl true))
def FL:∃F,FT "is_measure" 2 1 F/\Lm F:=by
 refine⟨_,λ T=>As (k:=1) T.Tp QH _ (λ f B0 A outer s H E hr=>(A4 (Ae (A8 A7.toXCall (B1 T) (-hr) rfl (A1 (!0) (A1 (fR A6 A6) A5)) rfl)))),?_⟩;intro i h0 h1;rfl';have h:=B2 i RD h0 h1;refine AS ?_;simp_arith[tJ,h];rfl
abbrev MU:=za5 FL
def Jz:FT "is_measure" 2 1 MU:=(za0 FL).1
def JA:Lm MU:=(za0 FL).2
abbrev RQ (F:List D->M OT):Prop:=∀(m:Nat) (r:Road),Jm m r->F [Bw r,.int m]=.ok (.sh (.bl true))
def K5:∃F,FT "is_road" 3 2 F/\RQ F:=by
 refine⟨_,λ T=>As (k:=2) T.dD Xr _ (λ f B0 A outer s H E hr=>(A3 (Bc (DW.dt (EM (Cr (BV (c:=true) (Gv (JU _) rfl T.Bv rfl T.O3 (by decide +kernel) (!0)))) (D8 (Mw (c:=true) (!hr) (Gu rfl T.Ll (!0)) A6)))) (A4 (Ae (AR EL))) Ay) (A3 (Bc (DW.dt (EM (Cr (BV (c:=true) (Ai (A8 A7.toXCall (B1 T) (-hr) rfl (A1 (A9 (!hr) (!0) A6) (A1 (!1) A5)) rfl)))) (D8 (Cr (BV (c:=true) (Ai (A8 A7.toXCall (B1 T) (-hr) rfl (A1 (A9 (!hr) (!0) A6) (A1 (!1) A5)) rfl))))))) (A4 (Ae (AR EL))) Ay) (A3 (Bc (Kq (c:=true) (!hr) (A9 (!hr) (!0) A6) (A9 (!hr) (!0) A6)) (A4 (Ae (AR EL))) Ay) (A4 (Ae (AR (WS (aaY (fU (A9 (!hr) (!0) A6)) (WR (Ai (A8 A7.toXCall (Jz T) (-hr) rfl (A1 (A9 (!hr) (!0) A6) A5) rfl)))) (WR (Ai (A8 A7.toXCall (Jz T) (-hr) rfl (A1 (A9 (!hr) (!0) A6) A5) rfl))))))))))),?_⟩;intro m r ok;rfl';refine AS ?_;have i0:AG (Bw r) (.int 0)=.ok (.int r.a):=rfl;have i1:AG (Bw r) (.int 1)=.ok (.int r.b):=rfl;have i2:AG (Bw r) (.int 2)=.ok (CN r.l):=rfl;have i3:AG (Bw r) (.int 3)=.ok (.int r.w):=rfl;have ha:=B2 r.a m ok.a0 ok.a1;have hb:=B2 r.b m ok.b0 ok.b1;have hw:=JA r.w ok.w0 ok.w1;apply wp_step
 ·rfl
 apply wp_step
 ·simp_arith[i0,i1,ha,hb,I9];rfl
 apply wp_step
 ·simp_arith[i0,i1,decide_eq_false ok.ab];rfl
 simp_arith[i2,i3,hw];cases q:r.l with
 |none=>rfl
 |some z =>
  have hl:=JA z (ok.l0 z q).1 (ok.l0 z q).2;have e:CN (some z)=.int z:=rfl;simp_arith[e,hl];rfl
abbrev VQ:=za5 K5
def XH:FT "is_road" 3 2 VQ:=(za0 K5).1
def XI:RQ VQ:=(za0 K5).2
abbrev VR (F:List D->M OT):Prop:=∀(m:Nat) (rs:List Road),1<=m->m<=16->rs.length<=60->(∀r∈rs,Jm m r)->F [Al m rs]=.ok (.sh (.bl true))
def Mm:∃F,FT "is_map" 4 1 F/\VR F:=by
 refine⟨_,λ T=>As (k:=3) T.mF Mf _ (λ f B0 A outer s H E hr=>(A3 (Bc (DW.dt (EM (Cr (BV (c:=true) (Gv (JU _) rfl T.Bv rfl T.O3 (by decide +kernel) (!0)))) (D8 (Mw (c:=true) (!hr) (Gu rfl T.Ll (!0)) A6)))) (A4 (Ae (AR EL))) Ay) (A3 (AH 1 Mf.nd rfl (Or.inr rfl) (A9 (!hr) (!0) A6)) (A3 (AH 2 Mf.nd rfl (zb9 rfl) (A9 (!hr) (!0) A6)) (A3 (Bc (DW.dt (EM (Cr (BV (c:=true) (Ai (A8 A7.toXCall (B1 T) (-hr) rfl (A1 (!1) (A1 A6 A5)) rfl)))) (D8 (Kq (c:=true) (!hr) (!1) A6)))) (A4 (Ae (AR EL))) Ay) (A3 (Bc (DW.dt (EM (Cr (BV (c:=true) (Gv (Rg _) rfl T.Bv rfl T.GI (by decide +kernel) (!2)))) (D8 (aaX (c:=true) (Gu rfl T.Ll (!2)) A6)))) (A4 (Ae (AR EL))) Ay) (A4 (Ae (AR (X5 rfl rfl T.mH (Ai (C6 (NB:=["road","many"]) [none,some 1] rfl (B6 (!2)) rfl rfl (Bd 0 (by decide) rfl rfl rfl) (λ _ _ _ _=>BD) (λ _ _ _ _=>(Ai (Bj (A8 (B3 rfl).toXCall (XH T) (-hr) rfl (A1 (!0) (A1 (!1) A5)) rfl)))))))))))))))),?_⟩;intro m rs h1 h2 hl Aw;rfl';refine AS ?_;have i0:AG (Al m rs) (.int 0)=.ok (.int m):=rfl;have i1:AG (Al m rs) (.int 1)=.ok (.lst (rs.map Bw)):=rfl;have hn:=B2 m 17 (by omega) (by omega);have hm:decide ((m:Int)=0)=false:=decide_eq_false (by omega);have dL:decide ((60:Int)<((rs.map Bw).length:Int))=false:=decide_eq_false (by rw[za2];omega);have ao:(rs.map Bw).length<=1000:=by rw[za2];omega
 apply wp_step
 ·rfl
 apply wp_step
 ·simp_arith[i0];rfl
 apply wp_step
 ·simp_arith[i1];rfl
 apply wp_step
 ·simp_arith[hn,hm,I9];rfl
 apply wp_step
 ·simp_arith[dL,I9];rfl
 simp_arith[if_pos ao];rw[Bf (λ _:Road=>D.bl true) (λ r hr=>⟨_,rfl,rfl,by
  have:=XI m r (Aw r hr);simp_arith[this]⟩)]
 simp_arith[abM];rfl
abbrev Z3:=za5 Mm
def dJ:FT "is_map" 4 1 Z3:=(za0 Mm).1
def dM:VR Z3:=(za0 Mm).2
abbrev RS (F:List D->M OT):Prop:=∀(m:Nat) (rs:List Road),1<=m->m<=16->rs.length<=60->(∀r∈rs,Jm m r)->F [Al m rs]=.ok (.tup [.sh (.int m),.lst ((rs.map Bw).map .sh)])
def K6:∃F,FT "checked" 5 1 F/\RS F:=by
 refine⟨_,λ T=>As (k:=4) T.dE Xs _ (λ f B0 A outer s H E hr=>(A3 (Bc (Cr (BV (c:=true) (Ai (A8 A7.toXCall (dJ T) (-hr) rfl (A1 (!0) A5) rfl)))) (A4 LS) Ay) (A4 (Ae (LY (Be (AR (A9 (!hr) (!0) A6)) (Be (C6 (NB:=["road"]) [none] rfl (B6 (A9 (!hr) (!0) A6)) rfl rfl (Bd 0 (by decide) rfl rfl rfl) (λ _ _ _ _=>BD) (λ _ _ _ _=>(fY rfl T.O3 (!0)))) BK))))))),?_⟩;intro m rs h1 h2 hl Aw;rfl';have h1:=dM m rs h1 h2 hl Aw;have n0:AG (Al m rs) (.int 0)=.ok (.int m):=rfl;have n1:AG (Al m rs) (.int 1)=.ok (.lst (rs.map Bw)):=rfl;have ao:(rs.map Bw).length<=1000:=by rw[za2];omega
 refine AS ?_;apply wp_step
 ·simp_arith[h1,I9];rfl
 simp_arith[n0,n1,if_pos ao];rw[Bf Bw (λ r hr=>⟨_,rfl,rfl,rfl⟩)];simp_arith[];exact⟨_,rfl,rfl⟩
abbrev VS:=za5 K6
def PP:FT "checked" 5 1 VS:=(za0 K6).1
def PQ:RS VS:=(za0 K6).2
abbrev Z4 (F:List D->M OT):Prop:=∀a b:Co,F [cst a,cst b]=.ok (.sh (cst (Ak a b)))
def PR:∃F,FT "added" 1 2 F/\Z4 F:=by
 refine⟨_,λ T=>As (k:=0) T.sH mC _ (λ f B0 A outer s H E hr=>(A3 (Bc (DW.dt (EM (Dv (c:=true) (!0)) (D8 (Dv (c:=true) (!1))))) (A4 (Ae (AR Du))) Ay) (A4 (Ae (AR (AY (A1 (Cq (A9 (!hr) (!0) A6) (A9 (!hr) (!1) A6)) (A1 (Cq (A9 (!hr) (!0) A6) (A9 (!hr) (!1) A6)) A5)))))))),?_⟩;intro a b;dsimp only;rcases a with _|⟨a1,a2⟩<;>rcases b with _|⟨b1,b2⟩<;>rfl
abbrev mK:=za5 PR
def Ea:FT "added" 1 2 mK:=(za0 PR).1
def Eb:Z4 mK:=(za0 PR).2
abbrev Z5 (F:List D->M OT):Prop:=∀cs:List Co,cs.length<=1000->F [.lst (cs.map cst)]=.ok (.sh (cst (HB cs)))
def PV:∃F,FT "least" 1 1 F/\Z5 F:=by
 refine⟨_,λ T=>As (k:=0) T.sI mD _ (λ f B0 A outer s H E hr=>(A4 (Ae (AR (oT rfl (huR hr 1 (by decide)) rfl T.uB (Ai (C6 (NB:=["cost"]) [none] rfl (B6 (!0)) rfl rfl (Bd 0 (by decide) rfl rfl rfl) (λ _ _ _ _=>Gw (Kr (c:=true) (!0))) (λ _ _ _ _=>(!0)))) Du))))),?_⟩;intro cs hc;dsimp only;have e0:∀x:D,CW ["some"] [x]=[‹x›]:=λ x=>rfl;rw[e0];refine AS ?_;have hl:(cs.map cst).length<=1000:=by rw[za2];exact hc
 have kx:=jX cs;have y9:=qS cs;simp_arith[if_pos hl];rw[ME];simp_arith[y9];rfl
abbrev PX:=za5 PV
def Ln:FT "least" 1 1 PX:=(za0 PV).1
def Lo:Z5 PX:=(za0 PV).2
abbrev MV (F:List D->M OT):Prop:=∀r:Road,F [Bw r]=.ok (.sh (cst (Cn r)))
def GJ:∃F,FT "road_cost" 1 1 F/\MV F:=by
 refine⟨_,λ T=>As (k:=0) T.VE Tg _ (λ f B0 A outer s H E hr=>(A3 (Bc (Dv (c:=true) (A9 (!hr) (!0) A6)) (A4 (Ae (AR Du))) Ay) (A4 (Ae (AR (AY (A1 (A9 (!hr) (!0) A6) (A1 A6 A5)))))))),?_⟩;intro r;dsimp only;obtain⟨a,b,l,w⟩:=r;cases l<;>rfl
abbrev PY:=za5 GJ
def GL:FT "road_cost" 1 1 PY:=(za0 GJ).1
def GN:MV PY:=(za0 GJ).2
abbrev VT (F:List D->M OT):Prop:=∀(m:Nat) (rs:List Road),rs.length<=900->F [Al m rs]=.ok (.tup [.sh (.int m),.lst (((rs.map Dm).map Bw).map .sh)])
def Mn:∃F,FT "turned" 1 1 F/\VT F:=by
 refine⟨_,λ T=>As (k:=0) T.mG dC _ (λ f B0 A outer s H E hr=>(A4 (Ae (LY (Be (AR (A9 (!hr) (!0) A6)) (Be (C6 (NB:=["road"]) [none] rfl (B6 (A9 (!hr) (!0) A6)) rfl rfl (Bd 0 (by decide) rfl rfl rfl) (λ _ _ _ _=>BD) (λ _ _ _ _=>(AY (A1 (A9 (!hr) (!0) A6) (A1 (A9 (!hr) (!0) A6) (A1 (A9 (!hr) (!0) A6) (A1 (A9 (!hr) (!0) A6) A5))))))) BK)))))),?_⟩;intro m rs hl;rfl';refine AS ?_;have n0:AG (Al m rs) (.int 0)=.ok (.int m):=rfl;have n1:AG (Al m rs) (.int 1)=.ok (.lst (rs.map Bw)):=rfl;have ao:(rs.map Bw).length<=1000:=by rw[za2];omega
 simp_arith[n0,n1,if_pos ao];rw[Bf (λ r:Road=>Bw (Dm r)) (λ r hr=>⟨_,rfl,rfl,by
  have r0:AG (Bw r) (.int 0)=.ok (.int r.a):=rfl;have r1:AG (Bw r) (.int 1)=.ok (.int r.b):=rfl;have r2:AG (Bw r) (.int 2)=.ok (CN r.l):=rfl;have r3:AG (Bw r) (.int 3)=.ok (.int r.w):=rfl;simp_arith[r0,r1,r2,r3];try rfl⟩)]
 have e:rs.map (λ r=>Bw (Dm r))=(rs.map Dm).map Bw:=by rw[zbf];rfl
 rw[e];simp_arith[];exact⟨_,rfl,rfl⟩
abbrev Z6:=za5 Mn
def dN:FT "turned" 1 1 Z6:=(za0 Mn).1
def dO:VT Z6:=(za0 Mn).2
abbrev Ec (F:List D->M OT):Prop:=∀(m:Nat) (rs:List Road) (L:List Int) (A:LA) (K:List (Int×Int)) (u w:Int),0<=u->u<m->0<=w->w<m->(Aq A (u,w)).isSome=true->F [AL m rs L A K,.int u,.int w]=.ok (.sh (pD (u,w)))
def Ck:∃F:List D->M OT,(∀ {P w K mg base},Txt K mg->GC P w K mg base "Ladder" "checked_arc" 2 3 F)/\Ec F:=by
 refine⟨_,λ T=>Je (k:=1) T.ID Dp _ (λ f B0 A outer s H E hr=>(A3 (AH 3 Dp.nd rfl (zb9 rfl) (A9 (!hr) (BO ["Ladder"] (AB T.Bx AX) (!0)) A6)) (A3 (Bc (DW.dt (EM (Cr (BV (c:=true) (Ai (A8 A7.toXCall (B1 T) (-hr) rfl (A1 (!1) (A1 (!3) A5)) rfl)))) (EM (Cr (BV (c:=true) (Ai (A8 A7.toXCall (B1 T) (-hr) rfl (A1 (!2) (A1 (!3) A5)) rfl)))) (D8 (SH (c:=true) (!hr) (AY (A1 (!1) (A1 (!2) A5))) (BO ["Ladder"] (AB T.Ci AX) (!0))))))) (A4 LS) Ay) (A4 (Ae (AR (AY (A1 (!1) (A1 (!2) A5))))))))),?_⟩;intro m rs L A K u w u0 u1 w0 w1 hf;rfl';refine AS ?_;have f1:Ig ["Ladder"] "own_map" (AL m rs L A K)=.ok (Al m rs):=rfl;have f2:Ig ["Ladder"] "laid" (AL m rs L A K)=.ok (QF A):=rfl;have n0:AG (Al m rs) (.int 0)=.ok (.int m):=rfl;have h1:=B2 u m u0 u1;have h2:=B2 w m w0 w1;have hp:D.tup [.int u,.int w]=pD (u,w):=rfl;have hm:=T5 A (u,w) true;rw[hf] at hm;apply wp_step
 ·simp_arith[f1,n0];rfl
 apply wp_step
 ·simp_arith[h1,h2,f2,hp,hm,I9];rfl
 rfl
abbrev AO:=za5 Ck
def Dq:Txt K mg->GC P w K mg base "Ladder" "checked_arc" 2 3 AO:=(za0 Ck).1
def Dr:Ec AO:=(za0 Ck).2
abbrev JB (F:List D->M OT):Prop:=∀(m:Nat) (rs:List Road) (L:List Int) (A:LA) (K:List (Int×Int)) (u w:Int) (c:Int×Int),HC m A->Ac A (u,w)=some c->F [AL m rs L A K,.int u,.int w]=.ok (.sh (cst (some c)))
def F3:∃F:List D->M OT,(∀ {P w K mg base},Txt K mg->GC P w K mg base "Ladder" "cost" 3 3 F)/\JB F:=by
 refine⟨_,λ T=>Je (k:=2) T.QM Pn _ (λ f B0 A outer s H E hr=>(A4 (Ae (AR (A9 (!hr) (A9 (!hr) (BO ["Ladder"] (AB T.Ci AX) (!0)) (Ai (Jf (k:=2) [("Ladder",AO)] A7.toXCall (BA (by decide) (Dq T) C7) (-hr) (!0) (A1 (!1) (A1 (!2) A5)) rfl))) A6))))),?_⟩;intro m rs L A K u w c hA hc;rfl';refine AS ?_;have f2:Ig ["Ladder"] "laid" (AL m rs L A K)=.ok (QF A):=rfl;have hk:=hA.rg _ (EY hc);obtain⟨v,hv⟩:∃v,Aq A (u,w)=some (c,v):=by
  unfold Ac at hc;cases q:Aq A (u,w) with
  |none=>rw[q] at hc;cases hc
  |some z=>rw[q] at hc;obtain⟨z1,z2⟩:=z;cases hc;exact⟨z2,rfl⟩
 have h1:=Dr m rs L A K u w hk.2.1.1 hk.2.1.2 hk.2.2.1 hk.2.2.2 (by rw[hv];rfl);have hi:=OY hv;have h0:AG (Xf (c,v)) (.int 0)=.ok (cst (some c)):=rfl;have hs:E6 [("Ladder",AO)] "checked_arc" (AL m rs L A K)=.ok AO:=rfl;simp_arith[f2,hs,h1,hi,h0];rfl
abbrev Ba:=za5 F3
def F4:Txt K mg->GC P w K mg base "Ladder" "cost" 3 3 Ba:=(za0 F3).1
def F5:JB Ba:=(za0 F3).2
abbrev JC (F:List D->M OT):Prop:=∀(m:Nat) (rs:List Road) (L:List Int) (A:LA) (K:List (Int×Int)),F [AL m rs L A K]=.ok (.lst ((K.map pD).map .sh))
def F6:∃F:List D->M OT,(∀ {P w K mg base},Txt K mg->GC P w K mg base "Ladder" "kept" 1 1 F)/\JC F:=by
 refine⟨_,λ T=>Je (k:=0) T.QN Po _ (λ f B0 A outer s H E hr=>(A4 (Ae (NT rfl T.GI (BO ["Ladder"] (AB T.F0 AX) (!0)))))),?_⟩;intro m rs L A K;dsimp only;rfl
abbrev Bb:=za5 F6
def F7:Txt K mg->GC P w K mg base "Ladder" "kept" 1 1 Bb:=(za0 F6).1
def F8:JC Bb:=(za0 F6).2
abbrev Lp (F:List D->M OT):Prop:=∀(m:Nat) (rs:List Road) (L:List Int) (A:LA) (K:List (Int×Int)),B4 m rs L A K->F [AL m rs L A K]=.ok (ccT (Ga A K))
def FN:∃F,FT "kept_costs" 4 1 F/\Lp F:=by
 refine⟨_,λ T=>As (k:=3) T.Tq QI _ (λ f B0 A outer s H E hr=>(A4 (Ae (UW rfl (!hr) rfl T.Tv (Ai (C6 (NB:=["u","w","ladder"]) [none,none,some 0] rfl (B6 (Ai (Dc (k:=1) [("Ladder",Bb)] A7.toXCall (BA (by decide) (F7 T) C7) (-hr) (!0)))) rfl rfl (GA (n:=2) rfl (Bn 0 (by decide) rfl rfl rfl (Bn 1 (by decide) rfl rfl rfl EU))) (λ _ _ _ _=>BD) (λ _ _ _ _=>(AY (A1 (AY (A1 (!0) (A1 (!1) A5))) (A1 (Ai (Bj (Jf (k:=3) [("Ladder",Ba)] (B3 rfl).toXCall (BA (by decide) (F4 T) C7) (-hr) (!2) (A1 (!0) (A1 (!1) A5)) rfl))) A5)))))))))),?_⟩;intro m rs L A K ok;rfl';refine AS ?_;have hs:E6 [("Ladder",Bb)] "kept" (AL m rs L A K)=.ok Bb:=rfl;have a9:E6 [("Ladder",Ba)] "cost" (AL m rs L A K)=.ok Ba:=rfl;have hk:=F8 m rs L A K;have hl:(K.map pD).length<=1000:=by rw[za2];have:=ok.kl;omega
 have hn:((Ga A K).map zay).Nodup:=by rw[OZ];exact ok.kn
 have hd:=kQ (C:=Ga A K) hn (by simp only[Ga,za2];have:=ok.kl;omega);simp_arith[hs,hk,if_pos hl];rw[Bf (λ p=>D.tup [pD p,cst (some ((Ac A p).getD (0,0)))]) (λ p hp=>⟨_,rfl,rfl,by
  obtain⟨c,hc,_⟩:=(ok.km p).mp hp;have h1:=F5 m rs L A K p.1 p.2 c ok.aok hc;simp_arith[a9,h1];rw[hc];rfl⟩)]
 have e1:(K.map λ p=>D.tup [pD p,cst (some ((Ac A p).getD (0,0)))])=(Ga A K).map λ kv=>D.tup [pD kv.1,cst (some kv.2)]:=by
  simp only[QG,Ga,zbf];rfl
 rw[e1];simp_arith[hd];exact⟨_,rfl,rfl⟩
abbrev MW:=za5 FN
def JD:FT "kept_costs" 4 1 MW:=(za0 FN).1
def JE:Lp MW:=(za0 FN).2
abbrev Ew (F:List D->M OT):Prop:=∀(m:Nat) (rs:List Road) (L:List Int) (A:LA) (K:List (Int×Int)),B4 m rs L A K->F [AL m rs L A K]=.ok (ccT (QG (Ga A K)))
def Cv:∃F,FT "kept_costs_turned" 4 1 F/\Ew F:=by
 refine⟨_,λ T=>As (k:=3) T.Jn Ir _ (λ f B0 A outer s H E hr=>(A4 (Ae (UW rfl (!hr) rfl T.Tv (Ai (C6 (NB:=["u","w","ladder"]) [none,none,some 0] rfl (B6 (Ai (Dc (k:=1) [("Ladder",Bb)] A7.toXCall (BA (by decide) (F7 T) C7) (-hr) (!0)))) rfl rfl (GA (n:=2) rfl (Bn 0 (by decide) rfl rfl rfl (Bn 1 (by decide) rfl rfl rfl EU))) (λ _ _ _ _=>BD) (λ _ _ _ _=>(AY (A1 (AY (A1 (!1) (A1 (!0) A5))) (A1 (Ai (Bj (Jf (k:=3) [("Ladder",Ba)] (B3 rfl).toXCall (BA (by decide) (F4 T) C7) (-hr) (!2) (A1 (!0) (A1 (!1) A5)) rfl))) A5)))))))))),?_⟩;intro m rs L A K ok;rfl';refine AS ?_;have hs:E6 [("Ladder",Bb)] "kept" (AL m rs L A K)=.ok Bb:=rfl;have a9:E6 [("Ladder",Ba)] "cost" (AL m rs L A K)=.ok Ba:=rfl;have hk:=F8 m rs L A K;have hl:(K.map pD).length<=1000:=by rw[za2];have:=ok.kl;omega
 have hn:((Ga A K).map zay).Nodup:=by rw[OZ];exact ok.kn
 have hd:=kQ (C:=QG (Ga A K)) (cI hn) (by unfold QG;simp only[Ga,za2];have:=ok.kl;omega);simp_arith[hs,hk,if_pos hl];rw[Bf (λ p=>D.tup [pD (p.2,p.1),cst (some ((Ac A p).getD (0,0)))]) (λ p hp=>⟨_,rfl,rfl,by
  obtain⟨c,hc,_⟩:=(ok.km p).mp hp;have h1:=F5 m rs L A K p.1 p.2 c ok.aok hc;simp_arith[a9,h1];rw[hc];rfl⟩)]
 have e1:(K.map λ p=>D.tup [pD (p.2,p.1),cst (some ((Ac A p).getD (0,0)))])=(QG (Ga A K)).map λ kv=>D.tup [pD kv.1,cst (some kv.2)]:=by
  simp only[QG,Ga,zbf];rfl
 rw[e1];simp_arith[hd];exact⟨_,rfl,rfl⟩
abbrev F9:=za5 Cv
def Ed:FT "kept_costs_turned" 4 1 F9:=(za0 Cv).1
def Ee:Ew F9:=(za0 Cv).2
abbrev RT (F:List D->M OT):Prop:=∀(m:Nat) (L:List Int) (C:CA) (s:Int),m<=20->L.Perm (Bu m)->s∈L->(∀p c,Aq C p=some c->p.1∈L/\p.2∈L)->∃R:RA,F [.lst (L.map D.int),TZ C,.int s]=.ok (Wq R)/\Qr L C s L.length R
def K7:∃F,FT "climbed" 2 3 F/\RT F:=by
 refine⟨_,λ T=>As (k:=1) T.dG DF _ (λ f B0 A outer s H E hr=>(A3 (C5 3 DF.nd rfl (zb9 rfl) (jQ (!2) (AY (A1 A6 (A1 A6 A5))))) (A3 (BU A7.toXCall.own rfl (Kw rfl T.E9 (!0)) (Oq (n:=2) rfl (C9 (AW 4 DF.nd rfl (zb9 rfl)) (C9 (AW 5 DF.nd rfl (zb9 rfl)) Ku))) (A4 (Bc (LZ (OD (c:=true) (!hr) (!5) (!3))) (A4 (BU A7.toXCall.own rfl (B6 (Ai (OF (!0) (NP (Cq (!4) A6)) Yg))) (AW 6 DF.nd rfl (zb9 rfl)) (A4 (Bc (OD (c:=true) (!hr) (AY (A1 (!5) (A1 (!6) A5))) (!1)) (A3 (AH 7 DF.nd rfl (zb9 rfl) (Ai (ER (A8 A7.toXCall (Ea T) (-hr) rfl (A1 (A9 (!hr) (!3) (!5)) (A1 (A9 (!hr) (!1) (AY (A1 (!5) (A1 (!6) A5)))) A5)) rfl)))) (A4 (Yq (!hr) (BL 3 (pv 3)) (!6) (Ai (ER (A8 A7.toXCall (Ln T) (-hr) rfl (A1 (FI (A1 (OM (!hr) (!3) (!6)) (A1 (!7) A5))) A5) rfl)))))) Ay)))) Ay))) (A4 (DR 3 (pv 3)))))),?_⟩;intro m L C s hm hL hs hC;have hn:=EX hL;have hlen:=EW hL;rfl';refine (λ h:∃t,_/\∃R:RA,t=Wq R/\Qr L C s L.length R=>by
  obtain⟨t,h1,R,rfl,h2⟩:=h;exact⟨R,h1,h2⟩) (KQ ?_)
 refine wp_step (ρ':=[‹.lst (L.map D.int)›,‹TZ C›,‹.int s›,some (.ow (.tree none (Wq [(s,(0,0))]))),none,none,none,none]) (by rfl) ?_;refine Cs (I:=λ ρ=>∃(R:RA) (s4 s5 s6 s7:Option Cl),ρ=[‹.lst (L.map D.int)›,‹TZ C›,‹.int s›,some (.ow (.tree none (Wq R))),s4,s5,s6,s7]/\Qr L C s L.length R) ?_ ?_
 ·simp_arith[];refine BW (λ i ρ=>i<=L.length/\∃(R:RA) (s4 s5 s6 s7:Option Cl),ρ=[‹.lst (L.map D.int)›,‹TZ C›,‹.int s›,some (.ow (.tree none (Wq R))),s4,s5,s6,s7]/\Qr L C s i R) ⟨zbe _,_,none,none,none,none,rfl,Qr.start hs⟩ ?_ ?_
  ·rintro i d ρ hd ⟨hi,R,s4,s5,s6,s7,rfl,hR⟩;obtain⟨d',aD,rfl⟩:=G4 hd;obtain⟨x,hx,rfl⟩:=Ca aD;have ag:=(zam.mp hx).1;rw[Nat.zero_add];refine⟨_,rfl,?_⟩;have ee:=Xj R x false;have tf:=P5 hn hx;cases q:Aq R x with
   |none =>
    rw[q] at ee;refine Bg (ρ':=_) (by simp_arith[ee];rfl) ⟨ag,R,_,_,_,_,rfl,hR.skip hx hn q⟩
   |some c0 =>
    rw[q] at ee;have sl:pM (some ((i:Int)+1)) none (.lst (L.map D.int))=.ok (.lst (((L.drop (i+1)).map D.int).map .sh)):=by rw[List.map_drop];exact UO _ (i+1)
    simp_arith[ee,sl,if_true,Option.isSome_some,zaz,if_false];refine BW (λ j ρ=>j<=(L.drop (i+1)).length/\∃(R':RA) (s6 s7:Option Cl),ρ=[‹.lst (L.map D.int)›,‹TZ C›,‹.int s›,some (.ow (.tree none (Wq R'))),‹.int i›,‹.int x›,s6,s7]/\tN L C s i x c0 ((L.drop (i+1)).take j) R R') ⟨zbe _,R,s6,s7,rfl,hR.nd,hR.rg,hR.sd,λ y=>Cb _,λ y _=>rfl,λ y hy=>by rw[List.take_zero] at hy;cases hy⟩ ?_ ?_
    ·rintro j d ρ hd ⟨hj,R',s6,s7,rfl,hI⟩;obtain⟨y,hy,rfl⟩:=Ca hd;have lf:=(zam.mp hy).1;have nu:=zan hy;have za:y∈L:=List.mem_of_mem_drop nu;have aQ:i<C8 L y:=YF hn nu;have et:(L.drop (i+1)).take (j+1)=(L.drop (i+1)).take j++[y]:=by rw[zc0,hy];rfl
     refine⟨_,rfl,?_⟩;rw[et];have t1:∀a b:Int,D.tup [.int a,.int b]=pD (a,b):=λ a b=>rfl;have n9:=yG C (x,y) false;cases q2:Aq C (x,y) with
     |none =>
      rw[q2] at n9;refine Bg (ρ':=_) (by simp_arith[t1,n9];rfl) ⟨lf,R',_,_,rfl,hI.skip q2⟩
     |some dd =>
      rw[q2] at n9;have aA:Aq R' x=some c0:=by rw[hI.sm x (by omega)];exact q
      have i1:=T6 aA;have i2:=yH q2;have h1:=Eb (some c0) (some dd);have g1:=kN R' y;obtain⟨v,hv⟩:∃v,DU (Aq R' y) (some (c0.1+dd.1,c0.2+dd.2))=some v:=by
       cases Aq R' y with
       |none|some z=>exact⟨_,rfl⟩
      have h2:PX [.lst [cst (Aq R' y),cst (some (c0.1+dd.1,c0.2+dd.2))]]=.ok (.sh (cst (DU (Aq R' y) (some (c0.1+dd.1,c0.2+dd.2))))):=Lo [Aq R' y,some (c0.1+dd.1,c0.2+dd.2)] (by simp);rw[hv] at h2;have aR:=hI.put za aQ tf q q2 hv;have hl:(R'.map λ kv=>D.int kv.1).length<1000:=by
       have:=G7 hI.nd hI.rg;rw[za2] at this ⊢;omega
      have jc:∀z:Int,keyOk false (.int z)=true:=λ z=>rfl;have ha:Ak (some c0) (some dd)=some (c0.1+dd.1,c0.2+dd.2):=rfl;rw[ha] at h1;simp_arith[t1,n9,if_true,Option.isSome_some,zaz,if_false];apply wp_step
      ·simp_arith[t1,i1,i2,h1];rfl
      refine Bg (ρ':=[‹.lst (L.map D.int)›,‹TZ C›,‹.int s›,some (.ow (.tree none (Wq (Dz R' y v)))),‹.int i›,‹.int x›,‹.int y›,‹cst (some (c0.1+dd.1,c0.2+dd.2))›]) (by
       simp_arith[g1,h2,jc,hl,and_self,if_true,yJ];rfl) ⟨lf,_,_,_,rfl,aR⟩
    ·rintro ρ ⟨_,R',s6,s7,rfl,hI⟩;rw[za2,zby] at hI;exact⟨ag,R',_,_,s6,s7,rfl,hR.go (λ p c h=>(hC p c h).2) hx hn q hI⟩
  ·rintro ρ ⟨_,R,s4,s5,s6,s7,rfl,hR⟩;rw[CV,za2] at hR;exact⟨R,s4,s5,s6,s7,rfl,hR⟩
 ·rintro ρ ⟨R,s4,s5,s6,s7,rfl,hR⟩;exact⟨_,rfl,R,rfl,hR⟩
abbrev VU:=za5 K7
def K8:FT "climbed" 2 3 VU:=(za0 K7).1
def K9:RT VU:=(za0 K7).2
abbrev IF (F:List D->M OT):Prop:=∀(m:Nat) (rs:List Road) (L:List Int) (A:LA) (K:List (Int×Int)),F [AL m rs L A K]=.ok (.lst ((L.map D.int).map .sh))
def Ej:∃F:List D->M OT,(∀ {P w K mg base},Txt K mg->GC P w K mg base "Ladder" "order" 1 1 F)/\IF F:=by
 refine⟨_,λ T=>Je (k:=0) T.PH Nt _ (λ f B0 A outer s H E hr=>(A4 (Ae (NT rfl T.GI (BO ["Ladder"] (AB T.CP AX) (!0)))))),?_⟩;intro m rs L A K;dsimp only;rfl
abbrev Au:=za5 Ej
def Cc:Txt K mg->GC P w K mg base "Ladder" "order" 1 1 Au:=(za0 Ej).1
def Cd:IF Au:=(za0 Ej).2
abbrev IG (F:List D->M OT):Prop:=∀(m:Nat) (rs:List Road) (L:List Int) (A:LA) (K:List (Int×Int)) (s:Nat),B4 m rs L A K->s<m->∃R:RA,F [AL m rs L A K,.int s]=.ok (Wq R)/\Qr L (Ga A K) s L.length R
def Ek:∃F,FT "climbed_from" 5 2 F/\IG F:=by
 refine⟨_,λ T=>As (k:=4) T.PB Nq _ (λ f B0 A outer s H E hr=>(A4 (Ae (A8 A7.toXCall (K8 T) (-hr) rfl (A1 (Ai (Dc (k:=1) [("Ladder",Au)] A7.toXCall (BA (by decide) (Cc T) C7) (-hr) (!0))) (A1 (Ai (A8 A7.toXCall (JD T) (-hr) rfl (A1 (!0) A5) rfl)) (A1 (!1) A5))) rfl)))),?_⟩;intro m rs L A K s ok hs;have hm:=ok.m2;rfl';have h1:=JE m rs L A K ok;have h2:=Cd m rs L A K;have b5:E6 [("Ladder",Au)] "order" (AL m rs L A K)=.ok Au:=rfl;have h7:(s:Int)∈L:=(AK ok.pm).mpr ⟨by omega,by omega⟩;obtain⟨R,hF,hR⟩:=K9 m L (Ga A K) s (by omega) ok.pm h7 ok.yV;refine⟨R,AS ?_,hR⟩;simp_arith[b5,h2,h1,hF];exact⟨_,rfl,rfl⟩
abbrev FO:=za5 Ek
def NA:FT "climbed_from" 5 2 FO:=(za0 Ek).1
def NC:IG FO:=(za0 Ek).2
abbrev JF (F:List D->M OT):Prop:=∀(m:Nat) (rs:List Road) (L:List Int) (A:LA) (K:List (Int×Int)) (s:Nat),B4 m rs L A K->s<m->∃R:RA,F [AL m rs L A K,.int s]=.ok (Wq R)/\Qr L (QG (Ga A K)) s L.length R
def Fb:∃F,FT "climbing_to" 5 2 F/\JF F:=by
 refine⟨_,λ T=>As (k:=4) T.QK Pe _ (λ f B0 A outer s H E hr=>(A4 (Ae (A8 A7.toXCall (K8 T) (-hr) rfl (A1 (Ai (Dc (k:=1) [("Ladder",Au)] A7.toXCall (BA (by decide) (Cc T) C7) (-hr) (!0))) (A1 (Ai (A8 A7.toXCall (Ed T) (-hr) rfl (A1 (!0) A5) rfl)) (A1 (!1) A5))) rfl)))),?_⟩;intro m rs L A K s ok hs;have hm:=ok.m2;rfl';have h1:=Ee m rs L A K ok;have h2:=Cd m rs L A K;have b5:E6 [("Ladder",Au)] "order" (AL m rs L A K)=.ok Au:=rfl;have h7:(s:Int)∈L:=(AK ok.pm).mpr ⟨by omega,by omega⟩;obtain⟨R,hF,hR⟩:=K9 m L (QG (Ga A K)) s (by omega) ok.pm h7 ok.abK;refine⟨R,AS ?_,hR⟩;simp_arith[b5,h2,h1,hF];exact⟨_,rfl,rfl⟩
abbrev GO:=za5 Fb
def PZ:FT "climbing_to" 5 2 GO:=(za0 Fb).1
def Q0:JF GO:=(za0 Fb).2
abbrev IH (F:List D->M OT):Prop:=∀(m:Nat) (rs:List Road) (L:List Int) (A:LA) (K:List (Int×Int)) (s g:Nat) (R1 R2:RA),B4 m rs L A K->(FO) [AL m rs L A K,.int s]=.ok (Wq R1)->(GO) [AL m rs L A K,.int g]=.ok (Wq R2)->(R1.map zay).Nodup->R1.length<=900->F [AL m rs L A K,.int s,.int g]=.ok (Wq (CF R1 R2))
def Em:∃F,FT "sums_at_tops" 6 3 F/\IH F:=by
 refine⟨_,λ T=>As (k:=5) T.PD Ei _ (λ f B0 A outer s H E hr=>(A3 (AH 3 Ei.nd rfl (Or.inr rfl) (Ai (A8 A7.toXCall (NA T) (-hr) rfl (A1 (!0) (A1 (!1) A5)) rfl))) (A3 (AH 4 Ei.nd rfl (Or.inr rfl) (Ai (A8 A7.toXCall (PZ T) (-hr) rfl (A1 (!0) (A1 (!2) A5)) rfl))) (A4 (Ae (Vm rfl rfl T.Tv (Ai (kY (NB:=["place","ahead","behind"]) [none,some 3,some 4] rfl (rN (!3)) rfl rfl (Bd 0 (by decide) rfl rfl rfl) (λ _ _ _ _=>Gw (OD (c:=true) (!hr) (!0) (!2))) (λ _ _ _ _=>(AY (A1 (!0) (A1 (Ai (Bj (A8 (B3 rfl).toXCall (Ea T) (-hr) rfl (A1 (A9 (!hr) (!1) (!0)) (A1 (A9 (!hr) (!2) (!0)) A5)) rfl))) A5)))))))))))),?_⟩;intro m rs L A K s g R1 R2 ok cf lc hn hl;rfl';refine AS ?_;apply wp_step
 ·simp_arith[cf];rfl
 try simp only[zae,za8]
 apply wp_step
 ·simp_arith[lc];rfl
 try simp only[zae,za8]
 have ao:(R1.map λ kv=>D.int kv.1).length<=1000:=by rw[za2];omega
 simp_arith[rT,if_pos ao];rw[Ct (λ kv:Int×(Int×Int)=>(Aq R2 kv.1).isSome) (λ kv=>D.tup [.int kv.1,cst (Ak (some kv.2) (Aq R2 kv.1))]) (λ kv ky=>⟨_,rfl,by
  have h1:=Xj R2 kv.1 false;simp_arith[h1];try rfl,λ hp=>by
  have f1:Aq R1 kv.1=some kv.2:=SV hn ky;obtain⟨c,hc⟩:=zbq.mp hp;have i1:=T6 f1;have i2:=T6 hc;have c9:=Eb (some kv.2) (some c);rw[hc];simp_arith[i1,i2,c9];try rfl⟩)]
 rw[RH];have hd:=lG (C:=CF R1 R2) ((DB R2 R1).nodup hn) (by
  have:=(DB R2 R1).length_le;rw[za2,za2] at this;omega)
 simp_arith[hd];exact⟨_,rfl,rfl⟩
abbrev JG:=za5 Em
def ND:FT "sums_at_tops" 6 3 JG:=(za0 Em).1
def NE:IH JG:=(za0 Em).2
abbrev Z7 (F:List D->M OT):Prop:=∀(m:Nat) (L:List Int) (C:CA) (s:Int),m<=20->L.Perm (Bu m)->s∈L->(∀p c,Aq C p=some c->p.1∈L/\p.2∈L)->∃(R:RA) (T:List Co),F [.lst (L.map D.int),TZ C,.int s]=.ok (.lst ((T.map cst).map .sh))/\Qr L C s L.length R/\mV m L C s R L.reverse T
def Q1:∃F,FT "swept" 3 3 F/\Z7 F:=by
 refine⟨_,λ T=>As (k:=2) T.sJ Ge _ (λ f B0 A outer s H E hr=>(A3 (AH 3 Ge.nd rfl (zb9 rfl) (Ai (A8 A7.toXCall (K8 T) (-hr) rfl (A1 (!0) (A1 (!1) (A1 (!2) A5))) rfl))) (A3 (C5 4 Ge.nd rfl (Or.inr rfl) (Xa Du (Gu rfl T.Ll (!0)))) (A3 (C5 5 Ge.nd rfl (zb9 rfl) (EQ BK)) (A3 (BU A7.toXCall.own rfl (jT rfl T.PN (!0)) (AW 6 Ge.nd rfl (Or.inr rfl)) (A3 (gW (NB:=["high","told","costs","lower"]) 7 [none,some 4,some 1,some 6] Ge.nd rfl (zb9 rfl) rfl (B6 (!5)) rfl rfl (Bd 0 (by decide) rfl rfl rfl) (λ _ _ _ _=>BD) (λ _ _ _ _=>(Ai (Bj (A8 (B3 rfl).toXCall (Ea T) (-hr) rfl (A1 (A9 (!hr) (!1) (!0)) (A1 (OM (!hr) (!2) (AY (A1 (!0) (A1 (!3) A5)))) A5)) rfl))))) (A3 (X4 4 (pv 4) (Ai (ER (A8 A7.toXCall (Ln T) (-hr) rfl (A1 (Ai (NX (FI (A1 (OM (!hr) (!3) (!6)) A5)) (!7))) A5) rfl))) (!6)) (A4 (G3 5 (pv 5) (!6)))))) (A4 (DR 4 (pv 4)))))))),?_⟩;intro m L C s hm hL hs hC;have hn:=EX hL;have hlen:=EW hL;obtain⟨R,hF,hR⟩:=K9 m L C s hm hL hs hC;rfl';refine (λ h:∃t,_/\∃T:List Co,t=.lst ((T.map cst).map .sh)/\mV m L C s R L.reverse T=>by
  obtain⟨t,h1,T,rfl,h2⟩:=h;exact⟨R,T,h1,hR,h2⟩) (KQ ?_)
 have oe:((L.map D.int).length:Int)=(m:Int):=by rw[za2,hlen]
 have b6:=OJ (d:=.AV) (n:=m) (by omega);have h8:zag m D.AV=(zag m (none:Co)).map cst:=by rw[List.map_replicate];rfl
 rw[h8] at b6;apply wp_step
 ·simp_arith[hF];rfl
 try simp only[zae,za8]
 apply wp_step
 ·simp_arith[oe,b6];rfl
 try simp only[zae,za8]
 apply wp_step
 ·rfl
 try simp only[zae,za8]
 refine Cs (I:=λ ρ=>∃(T:List Co) (s5 s6 s7:Option Cl),ρ=[‹.lst (L.map D.int)›,‹TZ C›,‹.int s›,‹T4 R›,some (.own (T.map cst)),s5,s6,s7]/\mV m L C s R L.reverse T) ?_ ?_
 ·have da:(L.map D.int).reverse=L.reverse.map D.int:=by rw[List.map_reverse]
  simp_arith[da];refine BW (λ i ρ=>i<=L.reverse.length/\∃(T:List Co) (s6 s7:Option Cl),ρ=[‹.lst (L.map D.int)›,‹TZ C›,‹.int s›,‹T4 R›,some (.own (T.map cst)),some (.own ((L.reverse.take i).map D.int)),s6,s7]/\mV m L C s R (L.reverse.take i) T) ⟨zbe _,_,none,none,rfl,mV.start⟩ ?_ ?_
  ·rintro i d ρ hd ⟨hi,T,s6,s7,rfl,hT⟩;obtain⟨y,hy,rfl⟩:=Ca hd;have ag:=(zam.mp hy).1;have aQ:=(AK hL).mp (zce.mp (zan hy));have et:L.reverse.take (i+1)=L.reverse.take i++[y]:=by rw[zc0,hy];rfl
   rw[zbi] at ag;have zb:L[L.length-1-i]?=some y:=by rw[List.getElem?_reverse ag] at hy;exact hy
   have hrk:=P5 hn zb;have t6:∀x∈L.reverse.take i,(0<=x/\x<m)/\C8 L y<C8 L x:=λ x hx=>by
    have zc:=zce.mp (zc7 hx);refine⟨(AK hL).mp zc,?_⟩;rw[List.take_reverse,zce] at hx;have:=YF hn hx;omega
   have tw:y∉L.reverse.take i:=λ hx=>by have:=(t6 y hx).2;omega
   have og:=hT.len;refine⟨_,rfl,?_⟩;have dL:((L.reverse.take i).map D.int).length<=1000:=by rw[za2,zbt,zbi];omega
   have t1:∀a b:Int,D.tup [.int a,.int b]=pD (a,b):=λ a b=>rfl;have g1:=kN R y;obtain⟨vs,a6⟩:∃vs:List Co,vs=(L.reverse.take i).map λ x=>Ak (atC T x) (Aq C (x,y)):=⟨_,rfl⟩;apply wp_step
   ·simp_arith[if_pos dL];rw[Bf (λ x=>cst (Ak (atC T x) (Aq C (x,y)))) (λ x hx=>⟨_,rfl,rfl,by
     have n5:=(t6 x hx).1;have x1:AG (.lst (T.map cst)) (.int x)=.ok (cst (atC T x)):=BX n5.1 (by rw[og];exact n5.2);have g2:=yI C (x,y);have h1:=Eb (atC T x) (Aq C (x,y));simp_arith[t1,x1,g2,h1]⟩)]
    have ev:(L.reverse.take i).map (λ x=>cst (Ak (atC T x) (Aq C (x,y))))=vs.map cst:=by rw[a6,zbf];rfl
    rw[ev];have dv:=Vg vs;simp_arith[dv];rfl
   try simp only[zae,za8]
   have hpl:MA (.lst [cst (Aq R y)]) (.lst (vs.map cst))=.ok (.lst (((Aq R y::vs).map cst).map .sh)):=NZ (by rw[a6,za2,za2,zbt,zbi,zbd];omega);have h3:=Lo (Aq R y::vs) (by rw[a6,zaa,za2,zbt,zbi];omega);have aR:=SR (i:=4) (ρ:=[‹.lst (L.map D.int)›,‹TZ C›,‹.int s›,‹T4 R›,some (.own (T.map cst)),some (.own ((L.reverse.take i).map D.int)),‹.int y›,some (.own (vs.map cst))]) (d:=cst (HB (Aq R y::vs))) (p:=y) rfl aQ.1 (by rw[za2,og];exact aQ.2);have db:(T.map cst).set y.toNat (cst (HB (Aq R y::vs)))=(T.set y.toNat (HB (Aq R y::vs))).map cst:=by rw[List.map_set]
   rw[db] at aR;apply wp_step
   ·simp_arith[g1,hpl,h3,aR];rfl
   try simp only[zae,za8]
   have zd:((L.reverse.take i).map D.int).length<1000:=by rw[za2,zbt,zbi];omega
   refine Bg (ρ':=[‹.lst (L.map D.int)›,‹TZ C›,‹.int s›,‹T4 R›,some (.own ((T.set y.toNat (HB (Aq R y::vs))).map cst)),some (.own ((L.reverse.take (i+1)).map D.int)),‹.int y›,some (.own (vs.map cst))]) (by simp_arith[if_pos zd,et,zav,za6,List.map_nil]) ⟨by rw[zbi];exact ag,_,_,_,rfl,?_⟩;rw[et,a6];exact hT.step hR.sd aQ.1 aQ.2 tw t6
  ·rintro ρ ⟨_,T,s6,s7,rfl,hT⟩;rw[za2,zby] at hT;exact⟨T,_,s6,s7,rfl,hT⟩
 ·rintro ρ ⟨T,s5,s6,s7,rfl,hT⟩;exact⟨_,rfl,T,rfl,hT⟩
abbrev mL:=za5 Q1
def VW:FT "swept" 3 3 mL:=(za0 Q1).1
def VX:Z7 mL:=(za0 Q1).2
abbrev Lq (F:List D->M OT):Prop:=∀(m s:Nat) (rs:List Road),s<m->m<=900->(∀r∈rs,Jl m r)->∃cs:List Co,Right m s rs cs/\F [Al m rs,.int s]=.ok (.lst ((cs.map cst).map .sh))
def FQ:∃F,FT "costs_from" 2 2 F/\Lq F:=by
 refine⟨_,λ T=>As (k:=1) T.Ts BP _ (λ f B0 A outer s H E hr=>(A3 (C5 2 BP.nd rfl (zb9 rfl) (Xa Du (A9 (!hr) (!0) A6))) (A3 (X4 2 (pv 2) (AY (A1 A6 (A1 A6 A5))) (!1)) (A3 (AH 3 BP.nd rfl (zb9 rfl) EL) (A3 (Ov A7.toXCall.own (BV (c:=true) (!3)) (A3 (AH 3 BP.nd rfl (zb9 rfl) EL) (A4 (BU A7.toXCall.own rfl (B6 (A9 (!hr) (!0) A6)) (AW 4 BP.nd rfl (zb9 rfl)) (A3 (AH 5 BP.nd rfl (zb9 rfl) (Ai (ER (A8 A7.toXCall (Ln T) (-hr) rfl (A1 (FI (A1 (A9 (!hr) (!2) (A9 (!hr) (!4) A6)) (A1 (Ai (A8 A7.toXCall (Ea T) (-hr) rfl (A1 (A9 (!hr) (!2) (A9 (!hr) (!4) A6)) (A1 (Ai (A8 A7.toXCall (GL T) (-hr) rfl (A1 (!4) A5) rfl)) A5)) rfl)) A5))) A5) rfl)))) (A4 (Bc (LZ (Mw (c:=true) (!hr) (!5) (A9 (!hr) (!2) (A9 (!hr) (!4) A6)))) (A3 (X4 2 (pv 2) (!5) (A9 (!hr) (!4) A6)) (A4 (AH 3 BP.nd rfl (zb9 rfl) EL))) Ay))))))) (A4 (DR 2 (pv 2)))))))),?_⟩;intro m s rs hs hm Aw;rfl';refine (λ h:∃t,_/\∃cs:List Co,Right m s rs cs/\t=.lst ((cs.map cst).map .sh)=>by
  obtain⟨t,h1,cs,h2,rfl⟩:=h;exact⟨cs,h2,h1⟩) (KQ ?_)
 have n0:AG (Al m rs) (.int 0)=.ok (.int m):=rfl;have n1:AG (Al m rs) (.int 1)=.ok (.lst (rs.map Bw)):=rfl;have b6:=OJ (d:=.AV) (n:=m) (by omega);have h8:zag m D.AV=(zag m (none:Co)).map cst:=by rw[List.map_replicate];rfl
 rw[h8] at b6;apply wp_step
 ·simp_arith[n0,b6];rfl
 try simp only[zae,za8]
 have aR:=SR (i:=2) (ρ:=[‹Al m rs›,‹.int s›,some (.own ((zag m (none:Co)).map cst)),none,none,none]) (d:=.tup [.int 0,.int 0]) (p:=(s:Int)) rfl (by omega) (by rw[za2,zd6];omega);have db:((zag m (none:Co)).map cst).set (s:Int).toNat (.tup [.int 0,.int 0])=((zag m none).set s (some (0,0))).map cst:=by rw[zbr,List.map_set];rfl
 rw[db] at aR;apply wp_step
 ·simp_arith[aR];rfl
 try simp only[zae,za8]
 apply wp_step
 ·rfl
 try simp only[zae,za8]
 refine Cs (I:=λ ρ=>∃(cs:List Co) (s3 s4 s5:Option Cl),ρ=[‹Al m rs›,‹.int s›,some (.own (cs.map cst)),s3,s4,s5]/\Right m s rs cs) ?_ ?_
 ·refine OG (lt:=Rcb) (λ z ρ=>∃(s4 s5:Option Cl),ρ=[‹Al m rs›,‹.int s›,some (.own (z.1.map cst)),‹.bl z.2›,s4,s5]/\Good m s rs z.1/\(z.2=false->Right m s rs z.1)) (yM _) ⟨none,none,rfl,OR rs hs,λ e=>by cases e⟩ ?_;rintro ⟨cs,b⟩ ρ ⟨s4,s5,rfl,g,hR⟩;cases b with
  |false=>exact .inl ⟨rfl,cs,_,s4,s5,rfl,hR rfl⟩
  |true =>
   refine .inr ⟨rfl,?_⟩;apply wp_step
   ·rfl
   try simp only[zae,za8]
   simp_arith[n1];refine BW (λ i ρ=>∃(a4:List Co) (ch:Bool) (s4 s5:Option Cl),ρ=[‹Al m rs›,‹.int s›,some (.own (a4.map cst)),‹.bl ch›,s4,s5]/\Good m s rs a4/\(ch=true->Qp ltN a4 cs)/\(ch=false->a4=cs/\∀r∈rs.take i,DU (atC cs r.b) (Ak (atC cs r.a) (Cn r))=atC cs r.b)) ⟨cs,false,s4,s5,rfl,g,(λ h=>by cases h),λ _=>⟨rfl,λ r hr=>by rw[List.take_zero] at hr;cases hr⟩⟩ ?_ ?_
   ·rintro i d ρ hd ⟨a4,ch,s4,s5,rfl,g1,h1,h2⟩;obtain⟨r,hq,rfl⟩:=Ca hd;have hr:=zan hq;have ok:=Aw r hr;obtain⟨g2,_,g4,g5⟩:=bX g1 hr Aw;have c8:r.b<a4.length:=by rw[g1.len];exact ok.b1
    have ze:r.a<a4.length:=by rw[g1.len];exact ok.a1
    have r0:AG (Bw r) (.int 0)=.ok (.int r.a):=rfl;have r1:AG (Bw r) (.int 1)=.ok (.int r.b):=rfl;have x0:AG (.lst (a4.map cst)) (.int r.a)=.ok (cst (atC a4 r.a)):=BX ok.a0 ze;have x1:AG (.lst (a4.map cst)) (.int r.b)=.ok (cst (atC a4 r.b)):=BX ok.b0 c8;have t7:=GN r;have c9:=Eb (atC a4 r.a) (Cn r);have hle:PX [.lst [cst (atC a4 r.b),cst (Ak (atC a4 r.a) (Cn r))]]=.ok (.sh (cst (DU (atC a4 r.b) (Ak (atC a4 r.a) (Cn r))))):=Lo [atC a4 r.b,Ak (atC a4 r.a) (Cn r)] (by simp);have ae:=qU (DU (atC a4 r.b) (Ak (atC a4 r.a) (Cn r))) (atC a4 r.b);refine⟨_,rfl,?_⟩;apply wp_step
    ·simp_arith[r0,r1,x0,x1,t7,c9,hle];rfl
    try simp only[zae,za8]
    by_cases hc:DU (atC a4 r.b) (Ak (atC a4 r.a) (Cn r))=atC a4 r.b
    ·rw[decide_eq_true hc] at ae;refine Bg (ρ':=_) (by simp_arith[r1,x1,ae];rfl) ⟨a4,ch,_,_,rfl,g1,h1,λ hf=>?_⟩;obtain⟨e1,e2⟩:=h2 hf;subst e1;refine⟨rfl,λ r' aZ=>?_⟩;rw[zc0,hq] at aZ;rcases zao.mp aZ with aZ|aZ
     ·exact e2 r' aZ
     ·have:r'=r:=by simpa using aZ
      rw[this];exact hc
    ·rw[decide_eq_false hc] at ae;have aR:=SR (i:=2) (ρ:=[‹Al m rs›,‹.int s›,some (.own (a4.map cst)),‹.bl ch›,‹Bw r›,‹cst (DU (atC a4 r.b) (Ak (atC a4 r.a) (Cn r)))›]) (d:=cst (DU (atC a4 r.b) (Ak (atC a4 r.a) (Cn r)))) (p:=r.b) rfl ok.b0 (by rw[za2];exact c8);have db:(a4.map cst).set r.b.toNat (cst (DU (atC a4 r.b) (Ak (atC a4 r.a) (Cn r))))=(Dx r a4).map cst:=by unfold Dx;rw[List.map_set]
     rw[db] at aR;simp_arith[r1,x1,ae,if_true];apply wp_step
     ·simp_arith[r1,aR];rfl
     refine Bg (ρ':=_) rfl ⟨Dx r a4,true,_,_,rfl,g2,λ _=>?_,λ hf=>by cases hf⟩;cases ch with
     |false=>obtain⟨e1,_⟩:=h2 rfl;subst e1;exact g5 hc
     |true=>exact Qp.trans ltN bV (g5 hc) (h1 rfl)
   ·rintro ρ' ⟨a4,ch,s4,s5,rfl,g1,h1,h2⟩;cases ch with
    |true=>exact⟨(a4,true),⟨rfl,.inr ⟨rfl,h1 rfl⟩⟩,s4,s5,rfl,g1,λ e=>by cases e⟩
    |false =>
     obtain⟨e1,e2⟩:=h2 rfl;subst e1;rw[za2,zby] at e2;exact⟨(a4,false),⟨rfl,.inl rfl⟩,s4,s5,rfl,g1,λ _=>right_of g1 e2⟩
 ·rintro ρ' ⟨cs,s3,s4,s5,rfl,hR⟩;exact⟨_,rfl,cs,hR,rfl⟩
abbrev MX:=za5 FQ
def FR:FT "costs_from" 2 2 MX:=(za0 FQ).1
def CG:Lq MX:=(za0 FQ).2
abbrev MY (F:List D->M OT):Prop:=∀(m:Nat) (rs:List Road) (L:List Int) (A:LA) (K:List (Int×Int)) (s:Nat),B4 m rs L A K->s<m->∃T:List Co,F [AL m rs L A K,.int s]=.ok (.lst ((T.map cst).map .sh))/\T.length=m/\∀w:Int,0<=w->w<m->B9 rs s w (atC T w)
def GP:∃F,FT "costs_out" 5 2 F/\MY F:=by
 refine⟨_,λ T=>As (k:=4) T.VF Th _ (λ f B0 A outer s H E hr=>(A4 (Ae (A8 A7.toXCall (VW T) (-hr) rfl (A1 (Ai (Dc (k:=1) [("Ladder",Au)] A7.toXCall (BA (by decide) (Cc T) C7) (-hr) (!0))) (A1 (Ai (A8 A7.toXCall (JD T) (-hr) rfl (A1 (!0) A5) rfl)) (A1 (!1) A5))) rfl)))),?_⟩;intro m rs L A K s ok hs;have hm:=ok.m2;rfl';have h1:=JE m rs L A K ok;have h2:=Cd m rs L A K;have b5:E6 [("Ladder",Au)] "order" (AL m rs L A K)=.ok Au:=rfl;have h7:(s:Int)∈L:=(AK ok.pm).mpr ⟨by omega,by omega⟩;have cb:∀p c,Aq (Ga A K) p=some c->p.1∈L/\p.2∈L:=λ p c h=>by
  have hm:=M6 h;unfold Ga at hm;obtain⟨q,hq,e⟩:=zar.mp hm;cases e;have:=ok.Wl hq;exact⟨(AK ok.pm).mpr this.2.1,(AK ok.pm).mpr this.2.2⟩
 have hC:∀p c,Aq (Ga A K) p=some c->p.1∈L/\p.2∈L:=λ p c h=>by
  exact cb p c h
 obtain⟨R,T,hF,hR,hT⟩:=VX m L (Ga A K) s (by omega) ok.pm h7 hC;refine⟨T,AS ?_,hT.len,λ w h0 h1=>?_⟩
 ·simp_arith[b5,h2,h1,hF];exact⟨_,rfl,rfl⟩
 ·have hU:=hR.upC (m:=m) hC;have a8:∀x:Int,0<=x->x<m->x∈L.reverse:=λ x a b=>zce.mpr ((AK ok.pm).mpr ⟨a,b⟩);obtain⟨T',lg⟩:∃T':Int->Co,T'=λ x:Int=>if 0<=x/\x<(m:Int) then atC T x else none:=⟨_,rfl⟩
  have de:∀x:Int,0<=x->x<m->T' x=atC T x:=λ x a b=>by rw[lg];exact if_pos ⟨a,b⟩
  have hS:SwC (C8 L) (λ x y=>Aq (Ga A K) (x,y)) s (Aq R) T' m:=⟨λ x a b=>by rw[de x a b];exact hT.top x (a8 x a b),λ x y a b c d hr=>by rw[de x a b,de y c d];exact hT.cl x (a8 x a b) y (a8 y c d) hr,λ x c hx=>by
   have ap:0<=x/\x<m:=by
    refine zcm λ hn=>?_;rw[lg] at hx;dsimp only at hx;rw[if_neg hn] at hx;cases hx
   rw[de x ap.1 ap.2] at hx;exact hT.sd x c ap.1 ap.2 hx⟩
  obtain⟨cs,t8,_⟩:=CG m s rs hs (by omega) (λ r hr=>(ok.ok r hr).1);have aI:=t8.UZ (λ r hr=>(ok.ok r hr).1) h0 h1;have q:=RE (s:=(s:Int)) (w:=w) ok.cE ok.kept ⟨by omega,by omega⟩ hU hS aI;rw[de w h0 h1] at q;exact q
abbrev Ka:=za5 GP
def EA:FT "costs_out" 5 2 Ka:=(za0 GP).1
def GQ:MY Ka:=(za0 GP).2
abbrev Q2 (F:List D->M OT):Prop:=∀(m:Nat) (rs:List Road) (L:List Int) (A:LA) (K:List (Int×Int)) (s:Nat),B4 m rs L A K->s<m->∃T:List Co,F [AL m rs L A K,.int s]=.ok (.lst ((T.map cst).map .sh))/\T.length=m/\∀w:Int,0<=w->w<m->B9 rs w s (atC T w)
def II:∃F,FT "costs_in" 5 2 F/\Q2 F:=by
 refine⟨_,λ T=>As (k:=4) T.Xv Vx _ (λ f B0 A outer s H E hr=>(A4 (Ae (A8 A7.toXCall (VW T) (-hr) rfl (A1 (Ai (Dc (k:=1) [("Ladder",Au)] A7.toXCall (BA (by decide) (Cc T) C7) (-hr) (!0))) (A1 (Ai (A8 A7.toXCall (Ed T) (-hr) rfl (A1 (!0) A5) rfl)) (A1 (!1) A5))) rfl)))),?_⟩;intro m rs L A K s ok hs;have hm:=ok.m2;rfl';have h1:=Ee m rs L A K ok;have h2:=Cd m rs L A K;have b5:E6 [("Ladder",Au)] "order" (AL m rs L A K)=.ok Au:=rfl;have h7:(s:Int)∈L:=(AK ok.pm).mpr ⟨by omega,by omega⟩;have cb:∀p c,Aq (Ga A K) p=some c->p.1∈L/\p.2∈L:=λ p c h=>by
  have hm:=M6 h;unfold Ga at hm;obtain⟨q,hq,e⟩:=zar.mp hm;cases e;have:=ok.Wl hq;exact⟨(AK ok.pm).mpr this.2.1,(AK ok.pm).mpr this.2.2⟩
 have hC:∀p c,Aq (QG (Ga A K)) p=some c->p.1∈L/\p.2∈L:=λ p c h=>by
  rw[show p=(p.1,p.2) from rfl,L6] at h;have:=cb _ _ h;exact⟨this.2,this.1⟩
 obtain⟨R,T,hF,hR,hT⟩:=VX m L (QG (Ga A K)) s (by omega) ok.pm h7 hC;refine⟨T,AS ?_,hT.len,λ w h0 h1=>?_⟩
 ·simp_arith[b5,h2,h1,hF];exact⟨_,rfl,rfl⟩
 ·have hU:=hR.upC (m:=m) hC;have a8:∀x:Int,0<=x->x<m->x∈L.reverse:=λ x a b=>zce.mpr ((AK ok.pm).mpr ⟨a,b⟩);obtain⟨T',lg⟩:∃T':Int->Co,T'=λ x:Int=>if 0<=x/\x<(m:Int) then atC T x else none:=⟨_,rfl⟩
  have de:∀x:Int,0<=x->x<m->T' x=atC T x:=λ x a b=>by rw[lg];exact if_pos ⟨a,b⟩
  have hS:SwC (C8 L) (λ x y=>Aq (QG (Ga A K)) (x,y)) s (Aq R) T' m:=⟨λ x a b=>by rw[de x a b];exact hT.top x (a8 x a b),λ x y a b c d hr=>by rw[de x a b,de y c d];exact hT.cl x (a8 x a b) y (a8 y c d) hr,λ x c hx=>by
   have ap:0<=x/\x<m:=by
    refine zcm λ hn=>?_;rw[lg] at hx;dsimp only at hx;rw[if_neg hn] at hx;cases hx
   rw[de x ap.1 ap.2] at hx;exact hT.sd x c ap.1 ap.2 hx⟩
  have zf:(λ x y=>Aq (QG (Ga A K)) (x,y))=λ x y=>Aq (Ga A K) (y,x):=by funext x y;exact L6 x y _
  rw[zf] at hU hS;obtain⟨cs,t8,_⟩:=CG m w.toNat rs (by omega) (by omega) (λ r hr=>(ok.ok r hr).1);have aI:=t8.UZ (λ r hr=>(ok.ok r hr).1) (w:=(s:Int)) (by omega) (by omega);have ew:((w.toNat:Nat):Int)=w:=by omega
  rw[ew] at aI;have q:=(RE (s:=(s:Int)) (w:=w) ok.cE.turn ok.kept.turn ⟨by omega,by omega⟩ hU hS aI.turn).turn;rw[EF,de w h0 h1] at q;exact q
abbrev Mo:=za5 II
def FA:FT "costs_in" 5 2 Mo:=(za0 II).1
def IJ:Q2 Mo:=(za0 II).2
abbrev Q3 (F:List D->M OT):Prop:=∀(T:List Co) (gs:List Int),gs.length<=900->(∀g∈gs,0<=g/\g<T.length)->F [.lst (T.map cst),.lst (gs.map D.int)]=.ok (.lst ((gs.map λ g=>cst (atC T g)).map .sh))
def IK:∃F,FT "costs_at" 1 2 F/\Q3 F:=by
 refine⟨_,λ T=>As (k:=0) T.Xw Vy _ (λ f B0 A outer s H E hr=>(A4 (Ae (C6 (NB:=["place","costs"]) [none,some 0] rfl (B6 (!1)) rfl rfl (Bd 0 (by decide) rfl rfl rfl) (λ _ _ _ _=>BD) (λ _ _ _ _=>(A9 (!hr) (!1) (!0))))))),?_⟩;intro T gs hl hg;rfl';refine AS ?_;have ao:(gs.map D.int).length<=1000:=by rw[za2];omega
 simp_arith[if_pos ao];rw[Bf (λ g=>cst (atC T g)) (λ g di=>⟨_,rfl,rfl,by
  have x1:AG (.lst (T.map cst)) (.int g)=.ok (cst (atC T g)):=BX (hg g di).1 (hg g di).2;simp_arith[x1]⟩)]
 exact⟨_,rfl,rfl⟩
abbrev RU:=za5 IK
def VY:FT "costs_at" 1 2 RU:=(za0 IK).1
def VZ:Q3 RU:=(za0 IK).2
abbrev Z8 (F:List D->M OT):Prop:=∀(m:Nat) (rs:List Road) (L:List Int) (A:LA) (K:List (Int×Int)) (C:Int->Int->Co) (ss gs:List Int),B4 m rs L A K->(∀x y:Int,0<=x->x<m->0<=y->y<m->B9 rs x y (C x y))->ss.length<=900->gs.length<=900->(∀s∈ss,0<=s/\s<m)->(∀g∈gs,0<=g/\g<m)->F [AL m rs L A K,.lst (ss.map D.int),.lst (gs.map D.int)]=.ok (.lst (ss.map λ s=>.lst ((gs.map λ g=>cst (C s g)).map .sh)))
def Q4:∃F,FT "table" 6 3 F/\Z8 F:=by
 refine⟨_,λ T=>As (k:=5) T.sL mE _ (λ f B0 A outer s H E hr=>(A4 (Ae (kU (NB:=["start","goals","ladder"]) [none,some 2,some 0] rfl (B6 (!1)) rfl rfl (Bd 0 (by decide) rfl rfl rfl) (λ _ _ _ _=>BD) (λ _ _ _ _=>(Bj (A8 (B3 rfl).toXCall (VY T) (-hr) rfl (A1 (Ai (A8 (B3 rfl).toXCall (EA T) (-hr) rfl (A1 (!2) (A1 (!0) A5)) rfl)) (A1 (!1) A5)) rfl))))))),?_⟩;intro m rs L A K C ss gs ok hC hls zg hs hg;rfl';refine AS ?_;have ao:(ss.map D.int).length<=1000:=by rw[za2];omega
 simp_arith[if_pos ao];rw[Ip (λ s=>OT.lst ((gs.map λ g=>cst (C s g)).map .sh)) (λ s bc=>⟨_,rfl,rfl,by
  obtain⟨s',rfl⟩:∃s':Nat,(s':Int)=s:=⟨s.toNat,by have:=hs s bc;omega⟩;obtain⟨T,g1,l1,t1⟩:=GQ m rs L A K s' ok (by have:=hs _ bc;omega);have h2:=VZ T gs zg λ g di=>⟨(hg g di).1,by rw[l1];exact (hg g di).2⟩;have e:gs.map (λ g=>cst (atC T g))=gs.map λ g=>cst (C s' g):=zcc λ g di=>by rw[(t1 g (hg g di).1 (hg g di).2).BM (hC s' g (by omega) (by have:=hs _ bc;omega) (hg g di).1 (hg g di).2)]
  rw[e] at h2;simp_arith[g1,h2]⟩)]
 exact⟨_,rfl,rfl⟩
abbrev XJ:=za5 Q4
def table_at:FT "table" 6 3 XJ:=(za0 Q4).1
def mM:Z8 XJ:=(za0 Q4).2
abbrev IL (F:List D->M OT):Prop:=∀(m:Nat) (rs:List Road) (L:List Int) (A:LA) (K:List (Int×Int)) (s g:Nat) (x:Co),B4 m rs L A K->s<m->g<m->B9 rs s g x->F [AL m rs L A K,.int s,.int g]=.ok (.sh (cst x))
def En:∃F,FT "cost_between" 7 3 F/\IL F:=by
 refine⟨_,λ T=>As (k:=6) T.PF Nr _ (λ f B0 A outer s H E hr=>(A4 (Ae (A8 A7.toXCall (Ln T) (-hr) rfl (A1 (Ai (Vj rfl rfl T.GI (Ai (A8 A7.toXCall (ND T) (-hr) rfl (A1 (!0) (A1 (!1) (A1 (!2) A5))) rfl)))) A5) rfl)))),?_⟩;intro m rs L A K s g x ok hs hg hx;dsimp only;have hm:=ok.m2;obtain⟨R1,cf,t9⟩:=NC m rs L A K s ok hs;obtain⟨R2,lc,zh⟩:=Q0 m rs L A K g ok hg;have hRl:R1.length<=m:=by have:=t9.len;rw[EW ok.pm] at this;exact this
 have hS:=NE m rs L A K s g R1 R2 ok cf lc t9.nd (by omega);have aI:=lH ok (s:=(s:Int)) (g:=(g:Int)) ⟨by omega,by omega⟩ ⟨by omega,by omega⟩ t9 zh hx;have hl:(CF R1 R2).length<=900:=by
  have:=(DB R2 R1).length_le;rw[za2,za2] at this;omega
 obtain⟨S,zi⟩:∃S,S=CF R1 R2:=⟨_,rfl⟩;rw[<-zi] at hS hl aI;rw[<-aI];rfl';refine AS ?_;have hle:=Lo (S.map λ kv=>some kv.2) (by rw[za2];omega);rw[zbf] at hle;have h9:PX [.lst (S.map λ kv=>cst (some kv.2))]=.ok (.sh (cst (HB (S.map λ kv=>some kv.2)))):=hle;simp_arith[hS,rV,h9];rfl
abbrev JH:=za5 En
def Ht:FT "cost_between" 7 3 JH:=(za0 En).1
def Hu:IL JH:=(za0 En).2
abbrev Gh (F:List D->M OT):Prop:=∀(m:Nat) (rs:List Road) (L:List Int) (A:LA) (K:List (Int×Int)) (T:List Co) (p:Int),B4 m rs L A K->T.length=m->0<=p->p<m->F [AL m rs L A K,.lst (T.map cst),.int p]=.ok (.lst (((MH A K T p).map pD).map .sh))
def Dj:∃F,FT "arcs_by_prices" 4 3 F/\Gh F:=by
 refine⟨_,λ T=>As (k:=3) T.Mj Fv _ (λ f B0 A outer s H E hr=>(A3 (Jc (NB:=["arc","place"]) 3 [none,some 2] Fv.nd rfl (zb9 rfl) rfl (B6 (Ai (Dc (k:=1) [("Ladder",Bb)] A7.toXCall (BA (by decide) (F7 T) C7) (-hr) (!0)))) rfl rfl (Bd 0 (by decide) rfl rfl rfl) (λ _ _ _ _=>Gw (Kq (c:=true) (!hr) (A9 (!hr) (!0) A6) (!1))) (λ _ _ _ _=>(!0))) (A4 (Ae (C6 (NB:=["arc","prices","place","ladder"]) [none,some 1,some 2,some 0] rfl (B6 (!3)) rfl rfl (Bd 0 (by decide) rfl rfl rfl) (λ _ _ _ _=>Gw (Kq (c:=true) (!hr) (Ai (Bj (A8 (B3 rfl).toXCall (Ea T) (-hr) rfl (A1 (Ai (Jf (k:=3) [("Ladder",Ba)] (B3 rfl).toXCall (BA (by decide) (F4 T) C7) (-hr) (!3) (A1 (!2) (A1 (A9 (!hr) (!0) A6) A5)) rfl)) (A1 (A9 (!hr) (!1) (A9 (!hr) (!0) A6)) A5)) rfl))) (A9 (!hr) (!1) (!2)))) (λ _ _ _ _=>(!0))))))),?_⟩;intro m rs L A K T p ok hT h0 h1;rfl';refine AS ?_;have hs:E6 [("Ladder",Bb)] "kept" (AL m rs L A K)=.ok Bb:=rfl;have a9:E6 [("Ladder",Ba)] "cost" (AL m rs L A K)=.ok Ba:=rfl;have hk:=F8 m rs L A K;have ny:=ok.kl;have dL:(K.map pD).length<=1000:=by rw[za2];omega
 refine wp_step (ρ':=[‹AL m rs L A K›,‹.lst (T.map cst)›,‹.int p›,‹.lst ((K.filter λ q=>decide (q.1=p)).map pD)›]) (by
  simp_arith[hs,hk,if_pos dL];rw[Ct (λ q:Int×Int=>decide (q.1=p)) pD (λ q hq=>⟨_,rfl,by
   have p0:AG (pD q) (.int 0)=.ok (.int q.1):=rfl;simp_arith[p0];try rfl,λ _=>by simp_arith[]⟩)]
  try rfl) ?_
 have ao:((K.filter λ q=>decide (q.1=p)).map pD).length<=1000:=by
  have:=List.length_filter_le (λ q:Int×Int=>decide (q.1=p)) K;rw[za2];omega
 have x2:AG (.lst (T.map cst)) (.int p)=.ok (cst (atC T p)):=BX h0 (by omega);simp_arith[if_pos ao];rw[Ct (cS A T p) pD (λ q hq=>⟨_,rfl,by
  obtain⟨q1,q2⟩:=zbc.mp hq;have e:q.1=p:=by simpa using q2
  have cb:=ok.Wl q1;obtain⟨c,hc,_⟩:=(ok.km q).mp q1;obtain⟨qa,qb⟩:=q;dsimp only at e cb;subst e;have p1:AG (pD (qa,qb)) (.int 1)=.ok (.int qb):=rfl;have h2:=F5 m rs L A K qa qb c ok.aok hc;have x1:AG (.lst (T.map cst)) (.int qb)=.ok (cst (atC T qb)):=BX cb.2.2.1 (by omega);have c9:=Eb (some c) (atC T qb);have dk:=KZ (Ak (some c) (atC T qb)) (atC T qa);have eb:cS A T qa (qa,qb)=decide (Ak (some c) (atC T qb)=atC T qa):=by unfold cS;rw[hc]
  rw[eb];simp_arith[a9,p1,h2,x1,x2,c9,dk];try rfl,λ _=>by simp_arith[]⟩)]
 exact⟨_,rfl,rfl⟩
abbrev Hv:=za5 Dj
def Lr:FT "arcs_by_prices" 4 3 Hv:=(za0 Dj).1
def Ls:Gh Hv:=(za0 Dj).2
abbrev Lu (F:List D->M OT):Prop:=∀(m:Nat) (rs:List Road) (p c:Int×Int),rs.length<=900->(∃r∈rs,r.a=p.1/\r.b=p.2/\Cn r=some c)->F [Al m rs,pD p,cst (some c)]=.ok (.sh (.int (P9 rs p c:Nat)))
def FU:∃F,FT "road_under" 2 3 F/\Lu F:=by
 refine⟨_,λ T=>As (k:=1) T.Tt Jt _ (λ f B0 A outer s H E hr=>(A3 (Jc (NB:=["number","road","arc","cost"]) 3 [none,none,some 1,some 2] Jt.nd rfl (zb9 rfl) rfl (Kw rfl T.E9 (A9 (!hr) (!0) A6)) rfl rfl (GA (n:=2) rfl (Bn 0 (by decide) rfl rfl rfl (Bn 1 (by decide) rfl rfl rfl EU))) (λ _ _ _ _=>Gw (DW.dt (LP (Kq (c:=true) (!hr) (AY (A1 (A9 (!hr) (!1) A6) (A1 (A9 (!hr) (!1) A6) A5))) (!2)) (Ja (Kq (c:=true) (!hr) (Ai (Bj (A8 (B3 rfl).toXCall (GL T) (-hr) rfl (A1 (!1) A5) rfl))) (!3)))))) (λ _ _ _ _=>(!0))) (A4 (Ae (AR (A9 (!hr) (!3) A6)))))),?_⟩;intro m rs p c hl hr;rfl';refine AS ?_;obtain⟨r,t,hq,_⟩:=YR hr;have n1:AG (Al m rs) (.int 1)=.ok (.lst (rs.map Bw)):=rfl;have ao:((zaj rs.length).map λ i:Nat=>D.tup [.int (i:Int),Bw (rs.getD i ⟨0,0,none,0⟩)]).length<=1000:=by rw[za2,zc1];omega
 refine wp_step (ρ':=[‹Al m rs›,‹pD p›,‹cst (some c)›,‹.lst (((zaj rs.length).filter (lI rs p c)).map λ i:Nat=>D.int (i:Int))›]) (by
  simp_arith[n1,RJ,if_pos ao];rw[Ct (lI rs p c) (λ i:Nat=>D.int (i:Int)) (λ i hi=>⟨_,rfl,by
   have zj:=zbz.mp hi;obtain⟨r,hr⟩:∃r,rs[i]?=some r:=⟨_,za7 zj⟩;have eg:rs.getD i ⟨0,0,none,0⟩=r:=by rw[zai,hr];rfl
   have r0:AG (Bw r) (.int 0)=.ok (.int r.a):=rfl;have r1:AG (Bw r) (.int 1)=.ok (.int r.b):=rfl;have t1:D.tup [.int r.a,.int r.b]=pD (r.a,r.b):=rfl;have dk:=yX (r.a,r.b) p;have t7:=GN r;have hd2:=KZ (Cn r) (some c);have eb:lI rs p c i=(decide ((r.a,r.b)=p)&&decide (Cn r=some c)):=by
    unfold lI;rw[hr];dsimp only;by_cases e1:(r.a,r.b)=p
    ·subst e1;simp
    ·have:¬ (r.a=p.1/\r.b=p.2/\Cn r=some c):=λ h=>e1 (Prod.ext h.1 h.2.1);rw[decide_eq_false this,decide_eq_false e1];rfl
   rw[eb,eg];by_cases e1:(r.a,r.b)=p
   ·rw[decide_eq_true e1] at dk ⊢;simp_arith[r0,r1,t1,dk,t7,hd2,Bool.true_and];try rfl
   ·rw[decide_eq_false e1] at dk ⊢;simp_arith[r0,r1,t1,dk];try rfl,λ _=>by simp_arith[]⟩)]
  try rfl) ?_
 rw[hq];have hx:AG (.lst ((P9 rs p c::t).map λ i:Nat=>D.int (i:Int))) (.int 0)=.ok (.int (P9 rs p c:Nat)):=Ft (by decide) rfl;simp_arith[hx];rfl
abbrev MZ:=za5 FU
def QR:FT "road_under" 2 3 MZ:=(za0 FU).1
def QS:Lu MZ:=(za0 FU).2
abbrev FC (F:List D->M OT):Prop:=∀(m:Nat) (rs:List Road) (L:List Int) (A:LA) (K:List (Int×Int)) (u w:Int),B4 m rs L A K->(Aq A (u,w)).isSome=true->(∀c,Ac A (u,w)=some c->c.2<=256)->F [AL m rs L A K,.int u,.int w]=.ok (.lst (((CO rs L A (u,w)).map λ n:Nat=>D.int (n:Int)).map .sh))
def CQ:∃F:List D->M OT,(∀ {P w K mg base},Txt K mg->GC P w K mg base "Ladder" "unpacked" 3 3 F)/\FC F:=by
 refine⟨_,λ T=>Je (k:=2) T.Lk BC _ (λ f B0 A outer s H E hr=>(A3 (C5 3 BC.nd rfl (zb9 rfl) (EQ BK)) (A3 (C5 4 BC.nd rfl (zb9 rfl) (EQ (Be (Jf (k:=2) [("Ladder",AO)] A7.toXCall (BA (by decide) (Dq T) C7) (-hr) (!0) (A1 (!1) (A1 (!2) A5)) rfl) BK))) (A3 (Ov A7.toXCall.own (LZ (BV (c:=true) (!4))) (A3 (pL 5 BC.nd rfl (zb9 rfl) (xP (BL 4 (pv 4)))) (A3 (AH 6 BC.nd rfl (zb9 rfl) (A9 (!hr) (A9 (!hr) (BO ["Ladder"] (AB T.Ci AX) (!0)) (!5)) A6)) (A4 (Bc (Dv (c:=true) (!6)) (A4 (gY (BL 3 (pv 3)) (A8 A7.toXCall (QR T) (-hr) rfl (A1 (BO ["Ladder"] (AB T.Bx AX) (!0)) (A1 (!5) (A1 (A9 (!hr) (A9 (!hr) (BO ["Ladder"] (AB T.Ci AX) (!0)) (!5)) A6) A5))) rfl))) (A3 (G3 4 (pv 4) (AY (A1 (!6) (A1 (A9 (!hr) (!5) A6) A5)))) (A4 (G3 4 (pv 4) (AY (A1 (A9 (!hr) (!5) A6) (A1 (!6) A5))))))))))) (A4 (DR 3 (pv 3))))))),?_⟩;intro m rs L A K u w ok hf oh;rfl';refine AS ?_;have hA:=ok.aok;obtain⟨z0,ub⟩:=zbq.mp hf;have wl:Ac A (u,w)=some z0.1:=by unfold Ac;rw[ub];rfl
 have hk:=hA.rg _ (EY wl);have br:=Dr m rs L A K u w hk.2.1.1 hk.2.1.2 hk.2.2.1 hk.2.2.2 hf;have av:E6 [("Ladder",AO)] "checked_arc" (AL m rs L A K)=.ok AO:=rfl;have f1:Ig ["Ladder"] "own_map" (AL m rs L A K)=.ok (Al m rs):=rfl;have f2:Ig ["Ladder"] "laid" (AL m rs L A K)=.ok (QF A):=rfl;have zk:=Md ok _ (c:=z0.1) (mid:=z0.2) rfl ub;have zl:(CO rs L A (u,w)).length<=256:=by
  have:=zk.ln;have:=oh _ wl;omega
 refine wp_step (ρ':=[‹AL m rs L A K›,‹.int u›,‹.int w›,some (.own []),none,none,none]) (by simp_arith[];try rfl) ?_;refine wp_step (ρ':=[‹AL m rs L A K›,‹.int u›,‹.int w›,some (.own []),some (.own [pD (u,w)]),none,none]) (by simp_arith[av,br];try rfl) ?_;refine Cs (I:=λ ρ=>∃s4 s5 s6:Option Cl,ρ=[‹AL m rs L A K›,‹.int u›,‹.int w›,some (.own ((CO rs L A (u,w)).map λ n:Nat=>D.int (n:Int))),s4,s5,s6]) ?_ ?_
 ·refine OG (lt:=λ a b:Nat=>a<b) (λ n ρ=>∃(N:List Nat) (W:List (Int×Int)) (o5 o6:Option D),ρ=[‹AL m rs L A K›,‹.int u›,‹.int w›,some (.own (N.map λ n:Nat=>D.int (n:Int))),some (.own ((W.map pD).reverse)),vO o5,vO o6]/\tS rs L A W=n/\(∀p∈W,(Aq A p).isSome=true)/\N++Vr rs L A W=CO rs L A (u,w)) (Nat.lt_wfRel.wf.apply (tS rs L A [(u,w)])) ⟨[],[(u,w)],none,none,rfl,rfl,(λ p hp=>by rw[za9.mp hp];exact hf),by unfold Vr;simp⟩ ?_;rintro n ρ ⟨N,W,o5,o6,rfl,hn,hW,hE⟩;have hlen:=congrArg List.length hE;rw[zal] at hlen;have iy:=Tb ok hW;cases W with
  |nil =>
   left;refine⟨rfl,some (.own []),vO o5,vO o6,?_⟩;have:N=CO rs L A (u,w):=by rw[<-hE];unfold Vr;simp
   rw[this];rfl
  |cons p W =>
   have uc:I9 (.lst (((p::W).map pD).reverse))=.ok true:=by
    rw[iY];simp
   obtain⟨z,hz⟩:=zbq.mp (hW p za3);obtain⟨c,mid⟩:=z;obtain⟨_,m2,m3⟩:=Ji ok hz;have zm:=Md ok _ rfl hz;have da:((p::W).map pD).reverse=(W.map pD).reverse++[pD p]:=by rw[za6,List.reverse_cons]
   have hi:=OY hz;have l0:AG (Xf (c,mid)) (.int 0)=.ok (cst (some c)):=rfl;have l1:AG (Xf (c,mid)) (.int 1)=.ok (CN mid):=rfl;have p0:AG (pD p) (.int 0)=.ok (.int p.1):=rfl;have p1:AG (pD p) (.int 1)=.ok (.int p.2):=rfl;have wm:Vr rs L A (p::W)=CO rs L A p++Vr rs L A W:=rfl;rw[wm,zal] at hlen;rw[wm] at hE;have zn:tS rs L A (p::W)=2*(CO rs L A p).length-1+tS rs L A W:=rfl;rw[zn] at hn;have zo:=Tb ok λ q hq=>hW q (za4 _ hq);right;constructor
   ·simp_arith[uc];try rfl
   rw[da];have hp:=cR (ρ:=[‹AL m rs L A K›,‹.int u›,‹.int w›,some (.own (N.map λ n:Nat=>D.int (n:Int))),some (.own ((W.map pD).reverse++[pD p])),vO o5,vO o6]) (i:=4) (xs:=(W.map pD).reverse) (d:=pD p) rfl;apply wp_step
   ·simp_arith[hp];rfl
   try simp only[zae,za8]
   refine wp_step (ρ':=[‹AL m rs L A K›,‹.int u›,‹.int w›,some (.own (N.map λ n:Nat=>D.int (n:Int))),some (.own ((W.map pD).reverse)),‹pD p›,‹CN mid›]) (by simp_arith[f2,hi,l1];try rfl) ?_;cases mid with
   |none =>
    have aE:Bi (CN none)=true:=rfl;have zp:=QS m rs p c (by have:=ok.rl;omega) (m2 rfl);rw[RI hz] at hE hlen hn;have bo:((N.map λ n:Nat=>D.int (n:Int)).map OT.sh).length<1000:=by rw[za2,za2];omega
    have ea:(N.map λ n:Nat=>D.int (n:Int)).map OT.sh++[OT.sh (.int (P9 rs p c:Nat))]=((N++[P9 rs p c]).map λ n:Nat=>D.int (n:Int)).map OT.sh:=by rw[zav,zav];rfl
    refine Bg (ρ':=[‹AL m rs L A K›,‹.int u›,‹.int w›,some (.own ((N++[P9 rs p c]).map λ n:Nat=>D.int (n:Int))),some (.own ((W.map pD).reverse)),vO (some (pD p)),vO (some (CN none))]) (by
     simp_arith[aE,f1,f2,hi,l0,zp,if_true,if_pos bo,ea];rfl) ⟨tS rs L A W,?_,_,W,_,_,rfl,rfl,λ q hq=>hW q (za4 _ hq),by rw[zb3];exact hE⟩
    rw[zbd] at hn;omega
   |some v =>
    obtain⟨_,_,a,b,ma,mb,g1,g2,_⟩:=m3 v rfl;have aE:Bi (CN (some v))=false:=rfl;have lv:CN (some v)=.int v:=rfl;have lh:=Vq ok hz;have u1:=(Md ok _ rfl g1).ne;have u2:=(Md ok _ rfl g2).ne;have bo:((W.map pD).reverse).length<1000:=by rw[zbi,za2];omega
    have b7:((W.map pD).reverse++[pD (v,p.2)]).length<1000:=by
     rw[zal,zbi,za2,zbd];have:=zm.ne;omega
    have zq:(((p.1,v)::(v,p.2)::W).map pD).reverse=(W.map pD).reverse++[pD (v,p.2)]++[pD (p.1,v)]:=by rw[za6,za6,List.reverse_cons,List.reverse_cons]
    have ue:Bi (.int v)=false:=rfl;simp_arith[lv,ue,zaz,if_false];apply wp_step
    ·simp_arith[p1,if_pos bo];rfl
    try simp only[zae,za8]
    have t1:D.tup [.int v,.int p.2]=pD (v,p.2):=rfl;refine Bg (ρ':=[‹AL m rs L A K›,‹.int u›,‹.int w›,some (.own (N.map λ n:Nat=>D.int (n:Int))),some (.own ((((p.1,v)::(v,p.2)::W).map pD).reverse)),vO (some (pD p)),vO (some (.int v))]) (by
     rw[zq];simp_arith[p0,t1,if_pos b7];try rfl) ⟨tS rs L A ((p.1,v)::(v,p.2)::W),?_,N,_,_,_,rfl,rfl,λ q hq=>?_,?_⟩
    ·rw[lh,zal] at hn;show 2*(CO rs L A (p.1,v)).length-1+(2*(CO rs L A (v,p.2)).length-1+tS rs L A W)<n;omega
    ·rcases zab.mp hq with rfl|hq
     ·rw[g1];rfl
     ·rcases zab.mp hq with rfl|hq
      ·rw[g2];rfl
      ·exact hW q (za4 _ hq)
    ·rw[lh] at hE;show N++(CO rs L A (p.1,v)++(CO rs L A (v,p.2)++Vr rs L A W))=_;rw[<-zb3 (CO rs L A (p.1,v))];exact hE
 ·rintro ρ ⟨s4,s5,s6,rfl⟩;exact⟨_,rfl,rfl⟩
abbrev C1:=za5 CQ
def Kb:Txt K mg->GC P w K mg base "Ladder" "unpacked" 3 3 C1:=(za0 CQ).1
def Kc:FC C1:=(za0 CQ).2
abbrev Hw (F:List D->M OT):Prop:=∀(m:Nat) (rs:List Road) (L:List Int) (A:LA) (K:List (Int×Int)) (T:List Co) (s g:Nat) (c:Int×Int),B4 m rs L A K->T.length=m->(∀w:Int,0<=w->w<m->B9 rs w g (atC T w))->s<m->g<m->atC T s=some c->∃N:List Nat,F [AL m rs L A K,.lst (T.map cst),.int s,.int g]=.ok (.lst ((N.map λ n:Nat=>D.int (n:Int)).map .sh))/\U0 rs s N g c.1/\(N.length:Int)=c.2
def DJ:∃F,FT "way_by_prices" 5 4 F/\Hw F:=by
 refine⟨_,λ T=>As (k:=4) T.Nx BZ _ (λ f B0 A outer s H E hr=>(A3 (C5 4 BZ.nd rfl (zb9 rfl) (EQ BK)) (A3 (AH 5 BZ.nd rfl (zb9 rfl) (!2)) (A3 (Ov A7.toXCall.own (Mw (c:=true) (!hr) (!5) (!3)) (A3 (AH 6 BZ.nd rfl (zb9 rfl) (A9 (!hr) (Ai (A8 A7.toXCall (Lr T) (-hr) rfl (A1 (!0) (A1 (!1) (A1 (!5) A5))) rfl)) A6)) (A3 (hV (BL 4 (pv 4)) (by exact (Jf (k:=3) [("Ladder",C1)] A7.toXCall (BA (by decide) (Kb T) C7) (-hr) (!0) (A1 (A9 (!hr) (!6) A6) (A1 (A9 (!hr) (!6) A6) A5)) rfl))) (A4 (AH 5 BZ.nd rfl (zb9 rfl) (A9 (!hr) (!6) A6)))))) (A4 (DR 4 (pv 4))))))),?_⟩;intro m rs L A K T s g c ok og hT hs hg hc;rfl';refine (λ h:∃t,_/\∃N:List Nat,t=.lst ((N.map λ n:Nat=>D.int (n:Int)).map .sh)/\U0 rs s N g c.1/\(N.length:Int)=c.2=>by
  obtain⟨t,h1,N,rfl,h2⟩:=h;exact⟨N,h1,h2⟩) (KQ ?_)
 have li:∀r∈rs,Jl m r:=λ r hr=>(ok.ok r hr).1;have af:=hT s (by omega) (by omega);rw[hc] at af;have hm:=ok.m2;have zr:=MG ok.ok ⟨by omega,by omega⟩ af;have zt:E6 [("Ladder",C1)] "unpacked" (AL m rs L A K)=.ok C1:=rfl;refine wp_step (ρ':=[‹AL m rs L A K›,‹.lst (T.map cst)›,‹.int s›,‹.int g›,some (.own []),none,none]) (by simp_arith[];try rfl) ?_;refine wp_step (ρ':=[‹AL m rs L A K›,‹.lst (T.map cst)›,‹.int s›,‹.int g›,some (.own []),‹.int s›,none]) (by simp_arith[];try rfl) ?_;refine Cs (I:=λ ρ=>∃(N:List Nat) (s5 s6:Option Cl),ρ=[‹AL m rs L A K›,‹.lst (T.map cst)›,‹.int s›,‹.int g›,some (.own (N.map λ n:Nat=>D.int (n:Int))),s5,s6]/\U0 rs s N g c.1/\(N.length:Int)=c.2) ?_ ?_
 ·refine OG (lt:=λ a b:Nat=>a<b) (λ n ρ=>∃(N:List Nat) (p t:Int) (cp:Int×Int) (s6:Option Cl),ρ=[‹AL m rs L A K›,‹.lst (T.map cst)›,‹.int s›,‹.int g›,some (.own (N.map λ n:Nat=>D.int (n:Int))),‹.int p›,s6]/\(0<=p/\p<m)/\atC T p=some cp/\U0 rs s N p t/\t+cp.1=c.1/\(N.length:Int)+cp.2=c.2/\cp.2.toNat=n) (Nat.lt_wfRel.wf.apply c.2.toNat) ⟨[],s,0,c,none,rfl,⟨by omega,by omega⟩,hc,.nil _,by omega,by simp,rfl⟩ ?_;rintro n ρ ⟨N,p,t,cp,s6,rfl,hp,lj,br,h1,h2,h3⟩;have uf:=hT p hp.1 hp.2;rw[lj] at uf;have oh:=(uf.2 cp rfl).nn li;by_cases e:p=g
  ·left;subst e;refine⟨by simp_arith[decide_true,Bool.not_true];try rfl,N,_,s6,rfl,?_⟩;have hz:=uf.1 _ (.nil _);simp only[Bz] at hz;have e1:cp.1=0:=by omega
   have e2:cp.2=0:=by omega
   exact⟨by rw[<-h1,e1,Int.add_zero];exact br,by omega⟩
  ·right;refine⟨by simp_arith[decide_eq_false e,Bool.not_false];try rfl,?_⟩;obtain⟨q,r,hq⟩:=cT ok hT hp e lj;obtain⟨ca,cq,a1⟩:=yY ok lj hq;have wn:=Ls m rs L A K T p ok og hp.1 hp.2;rw[hq] at wn;obtain⟨z,hz⟩:∃z,Aq A q=some z:=by
    have:=a1.c;unfold Ac at this;cases hf:Aq A q with
    |none=>rw[hf] at this;cases this
    |some z=>exact⟨z,rfl⟩
   have ez:z.1=ca:=by have:=a1.c;unfold Ac at this;rw[hz] at this;cases this;rfl
   have wo:=Kc m rs L A K q.1 q.2 ok (by rw[hz];rfl) (λ c hc=>by
    obtain⟨c',e1,e2⟩:=sA ok hq;have e3:some c=some c':=hc.symm.trans e1;cases e3;have:=MG ok.ok (by rw[a1.a];exact hp) e2;omega)
   have lm:=Md ok _ (p:=q) (c:=z.1) (mid:=z.2) rfl hz;rw[ez] at lm;have p0:AG (pD q) (.int 0)=.ok (.int q.1):=rfl;have p1:AG (pD q) (.int 1)=.ok (.int q.2):=rfl;have hx:AG (.lst ((q::r).map pD)) (.int 0)=.ok (pD q):=Ft (by decide) rfl;have hcq:=((hT q.2 a1.r.1 a1.r.2).2 cq a1.t).nn li;have a9:=a1.s;have nr:=lm.ln;have ae:=lm.ne;obtain⟨U,hU⟩:∃U,U=CO rs L A q:=⟨_,rfl⟩;have eU:CO rs L A (q.1,q.2)=U:=by rw[hU]
   rw[eU] at wo;rw[<-hU] at nr ae lm;have hb:(N.map λ n:Nat=>D.int (n:Int)).length+(U.map λ n:Nat=>D.int (n:Int)).length<=1000:=by
    rw[za2,za2];rw[a9] at h2 oh;dsimp only at h2 oh;omega
   refine wp_step (ρ':=[‹AL m rs L A K›,‹.lst (T.map cst)›,‹.int s›,‹.int g›,some (.own (N.map λ n:Nat=>D.int (n:Int))),‹.int p›,‹pD q›]) (by simp_arith[wn,hx];try rfl) ?_;refine wp_step (ρ':=[‹AL m rs L A K›,‹.lst (T.map cst)›,‹.int s›,‹.int g›,some (.own ((N++U).map λ n:Nat=>D.int (n:Int))),‹.int p›,‹pD q›]) (by
    rw[zav];simp_arith[p0,p1,zt,wo,if_pos hb];try rfl) ?_
   refine Bg (ρ':=[‹AL m rs L A K›,‹.lst (T.map cst)›,‹.int s›,‹.int g›,some (.own ((N++U).map λ n:Nat=>D.int (n:Int))),‹.int q.2›,‹pD q›]) (by simp_arith[p1];try rfl) ⟨cq.2.toNat,?_,N++U,q.2,t+ca.1,cq,_,rfl,a1.r,a1.t,?_,?_,?_,rfl⟩
   ·rw[a9] at h3;dsimp only at h3;omega
   ·have:=lm.ch;rw[a1.a] at this;exact br.app this
   ·rw[a9] at h1;dsimp only at h1;omega
   ·rw[a9] at h2;dsimp only at h2;rw[zal];omega
 ·rintro ρ ⟨N,s5,s6,rfl,h1,h2⟩;exact⟨_,rfl,N,rfl,h1,h2⟩
abbrev IM:=za5 DJ
def Mp:FT "way_by_prices" 5 4 IM:=(za0 DJ).1
def Mq:Hw IM:=(za0 DJ).2
abbrev uC (F:List D->M OT):Prop:=∀(m:Nat) (rs:List Road) (L:List Int) (A:LA) (K:List (Int×Int)) (s g:Nat),B4 m rs L A K->s<m->g<m->∃(T:List Co) (N:List Nat),T.length=m/\(∀w:Int,0<=w->w<m->B9 rs w g (atC T w))/\(∀c,atC T s=some c->U0 rs s N g c.1/\(N.length:Int)=c.2)/\F [AL m rs L A K,.int s,.int g]=.ok (lK (atC T s) N T)
def XM:∃F,FT "ask" 8 3 F/\uC F:=by
 refine⟨_,λ T=>As (k:=7) T.abP Xu _ (λ f B0 A outer s H E hr=>(A3 (AH 3 Xu.nd rfl (zb9 rfl) (Ai (A8 A7.toXCall (Ht T) (-hr) rfl (A1 (!0) (A1 (!1) (A1 (!2) A5))) rfl))) (A3 (Bc (Dv (c:=true) (!3)) (A4 (Ae (AR Du))) Ay) (A3 (C5 4 Xu.nd rfl (zb9 rfl) (A8 A7.toXCall (FA T) (-hr) rfl (A1 (!0) (A1 (!2) A5)) rfl)) (A4 (sC 4 (pv 4) (oZ (xC (c:=true) (!3))) (ER (A8 A7.toXCall (Mp T) (-hr) rfl (A1 (!0) (A1 (!4) (A1 (!1) (A1 (!2) A5)))) rfl)))))))),?_⟩;intro m rs L A K s g ok hs hg;obtain⟨T,g1,l1,t1⟩:=IJ m rs L A K g ok hg;have jd:=Hu m rs L A K s g (atC T s) ok hs hg (t1 s (by omega) (by omega));rfl';cases hc:atC T s with
 |none =>
  rw[hc] at jd;refine⟨T,[],l1,t1,λ c h=>(by rw[hc] at h;cases h),?_⟩;rw[hc];refine AS ?_;refine wp_step (ρ':=[‹AL m rs L A K›,‹.int s›,‹.int g›,‹cst none›,none]) (by simp_arith[jd];try rfl) ?_;have aE:Bi (cst none)=true:=rfl;simp_arith[aE];rfl
 |some c =>
  rw[hc] at jd;obtain⟨N,hF,n1,n2⟩:=Mq m rs L A K T s g c ok l1 t1 hs hg hc;refine⟨T,N,l1,t1,λ c' h=>(by rw[hc] at h;cases h;exact⟨n1,n2⟩),?_⟩;rw[hc];refine AS ?_;refine wp_step (ρ':=[‹AL m rs L A K›,‹.int s›,‹.int g›,‹cst (some c)›,none]) (by simp_arith[jd];try rfl) ?_;have aE:Bi (cst (some c))=false:=rfl;apply wp_step
  ·simp_arith[aE];rfl
  refine wp_step (ρ':=[‹AL m rs L A K›,‹.int s›,‹.int g›,‹cst (some c)›,some (.own (T.map cst))]) (by simp_arith[g1];try rfl) ?_;have zu:=L7 (ds:=N.map λ n:Nat=>D.int (n:Int)) λ d hd=>by
   obtain⟨n,_,rfl⟩:=zar.mp hd;rfl
  have zv:=jZ (some c);simp_arith[hF,zu,zv];exact⟨_,rfl,rfl⟩
abbrev abT:=za5 XM
def zJ:FT "ask" 8 3 abT:=(za0 XM).1
def zK:uC abT:=(za0 XM).2
abbrev JI (F:List D->M OT):Prop:=∀(A:LA) (p:Int×Int),F [QF A,pD p]=.ok (.sh (cst (Ac A p)))
def Fc:∃F,FT "cost_so_far" 1 2 F/\JI F:=by
 refine⟨_,λ T=>As (k:=0) T.QL Ph _ (λ f B0 A outer s H E hr=>(A3 (Bc (SH (c:=true) (!hr) (!1) (!0)) (A4 (Ae (AR Du))) Ay) (A4 (Ae (AR (A9 (!hr) (A9 (!hr) (!0) (!1)) A6)))))),?_⟩;intro A p;rfl';refine AS ?_;have hm:=T5 A p true;unfold Ac;cases q:Aq A p with
 |none =>
  rw[q] at hm;simp_arith[hm,I9];rfl
 |some v =>
  rw[q] at hm;have hi:=OY q;have h0:AG (Xf v) (.int 0)=.ok (cst (some v.1)):=rfl;apply wp_step
  ·simp_arith[hm,I9];rfl
  simp_arith[hi,h0];rfl
abbrev Lw:=za5 Fc
def IQ:FT "cost_so_far" 1 2 Lw:=(za0 Fc).1
def IR:JI Lw:=(za0 Fc).2
abbrev uD (F:OT->List D->M (OT×OT)):Prop:=∀(A:LA) (p:Int×Int) (c:Co) (mid:Option Int),A.length<1000->F (Np A) [pD p,cst c,CN mid]=.ok (Np (layA A p c mid),.sh .AV)
def XN:∃F:OT->List D->M (OT×OT),(∀ {P w K mg base},Txt K mg->Rr P w K mg base "lay" 1 4 F)/\uD F:=by
 refine⟨_,λ T=>UK (k:=0) T.abQ zI _ (λ f B0 A outer s H E hr=>(A4 (Bc (LZ (DW.dt (LP (Kr (c:=true) (!2)) (Ja (DW.dt (EM (SH (c:=true) (!hr) (!1) (!0)) (D8 (Xc (c:=true) (!hr) (!2) (A9 (!hr) (A9 (!hr) (!0) (!1)) A6))))))))) (A4 (Yq (!hr) (BL 0 (pv 0)) (!1) (AY (A1 (!2) (A1 (!3) A5))))) Ay))),?_⟩;intro A p c mid hA;dsimp only;have e0:D9 ["laid","pair","cost","middle"] (Np A) [pD p,cst c,CN mid]=[some (.ow (.tree (some 0) (Np A))),‹pD p›,‹cst c›,‹CN mid›]:=rfl;rw[e0];refine T8 ?_;have hm:=T5 A p true;have wp:∀c:Int×Int,D.tup [cst (some c),CN mid]=Xf (c,mid):=λ c=>rfl;have hl:(A.map λ kv=>pD kv.1).length<1000:=by rw[za2];exact hA
 have jc:keyOk true (pD p)=true:=rfl;have ag:∀v,(List.map (λ kv=>pD kv.1) (Dz A p v))=(List.map (λ kv=>pD kv.1) (Dz A p v)):=λ _=>rfl;cases c with
 |none =>
  refine Bg (ρ':=_) (by simp_arith[cst,Bi];rfl) ⟨rfl,rfl⟩
 |some c =>
  have aE:Bi (cst (some c))=false:=rfl;cases q:Aq A p with
  |none =>
   rw[q] at hm;have el:layA A p (some c) mid=Dz A p (c,mid):=by unfold layA;dsimp only;rw[q]
   rw[el];refine Bg (ρ':=[some (.ow (.tree (some 0) (Np (Dz A p (c,mid))))),‹pD p›,‹cst (some c)›,‹CN mid›]) (by
    simp_arith[aE,hm,I9,M9,wp,if_pos (And.intro jc hl),kO,jc,hl,and_self,if_true];rfl) ⟨rfl,rfl⟩
  |some z =>
   rw[q] at hm;have hi:=OY q;have h0:AG (Xf z) (.int 0)=.ok (cst (some z.1)):=rfl;have hx:=yK c z.1;by_cases hc:c.1<z.1.1\/(c.1=z.1.1/\c.2<z.1.2)
   ·have el:layA A p (some c) mid=Dz A p (c,mid):=by unfold layA;dsimp only;rw[q];dsimp only;rw[if_pos hc]
    rw[decide_eq_true hc] at hx;rw[el];refine Bg (ρ':=[some (.ow (.tree (some 0) (Np (Dz A p (c,mid))))),‹pD p›,‹cst (some c)›,‹CN mid›]) (by
     simp_arith[aE,hm,hi,h0,hx,I9,M9,wp,if_pos (And.intro jc hl),kO,jc,hl,and_self,if_true];rfl) ⟨rfl,rfl⟩
   ·have el:layA A p (some c) mid=A:=by unfold layA;dsimp only;rw[q];dsimp only;rw[if_neg hc]
    rw[decide_eq_false hc] at hx;rw[el];refine Bg (ρ':=_) (by simp_arith[aE,hm,hi,h0,hx,I9];rfl) ⟨rfl,rfl⟩
abbrev abU:=za5 XN
def mN:Txt K mg->Rr P w K mg base "lay" 1 4 abU:=(za0 XN).1
def mO:uD abU:=(za0 XN).2
abbrev Q5 (F:OT->List D->M (OT×OT)):Prop:=∀(m:Nat) (A:LA) (p:Int) (H:List Int),m<=20->HC m A->(∀x∈H,0<=x/\x<m)->F (Np A) [.int p,.lst (H.map D.int)]=.ok (Np (rC A p H),.sh .AV)
def IS:∃F:OT->List D->M (OT×OT),(∀ {P w K mg base},Txt K mg->Rr P w K mg base "lay_over" 2 3 F)/\Q5 F:=by
 refine⟨_,λ T=>UK (k:=1) T.Xx Fw _ (λ f B0 A outer s H E hr=>(A4 (BU A7.toXCall.own rfl (B6 (!2)) (AW 3 Fw.nd rfl (zb9 rfl)) (A4 (BU A7.toXCall.own rfl (B6 (!2)) (AW 4 Fw.nd rfl (zb9 rfl)) (A4 (Bc (Mw (c:=true) (!hr) (!3) (!4)) (A3 (AH 5 Fw.nd rfl (zb9 rfl) (Ai (ER (A8 A7.toXCall (Ea T) (-hr) rfl (A1 (Ai (A8 A7.toXCall (IQ T) (-hr) rfl (A1 (!0) (A1 (AY (A1 (!3) (A1 (!1) A5))) A5)) rfl)) (A1 (Ai (A8 A7.toXCall (IQ T) (-hr) rfl (A1 (!0) (A1 (AY (A1 (!1) (A1 (!4) A5))) A5)) rfl)) A5)) rfl)))) (A4 (OE (iA A7.toXCall (mN T) (-hr) rfl (BL 0 (pv 0)) (A1 (AY (A1 (!3) (A1 (!4) A5))) (A1 (!5) (A1 (!1) A5))) rfl)))) Ay))))))),?_⟩;intro m A p H hm hA hH;dsimp only;have e0:D9 ["laid","place","higher","u","w","cost"] (Np A) [.int p,.lst (H.map D.int)]=[some (.ow (.tree (some 0) (Np A))),‹.int p›,‹.lst (H.map D.int)›,none,none,none]:=rfl;rw[e0];refine T8 ?_;simp_arith[];refine BW (λ i ρ=>∃s3 s4 s5:Option Cl,ρ=[some (.ow (.tree (some 0) (Np ((H.take i).foldl (cG p H) A)))),‹.int p›,‹.lst (H.map D.int)›,s3,s4,s5]) ⟨none,none,none,rfl⟩ ?_ ?_
 ·rintro i d ρ hd ⟨s3,s4,s5,rfl⟩;obtain⟨u,hu,rfl⟩:=Ca hd;have tj:=hH u (zan hu);refine⟨_,rfl,?_⟩;obtain⟨B,hB⟩:∃B,B=(H.take i).foldl (cG p H) A:=⟨_,rfl⟩;have ia:HC m B:=by rw[hB];exact HC.lo hH hA λ x hx=>hH x (zc7 hx)
  rw[<-hB,EZ hu,<-hB];simp_arith[];refine BW (λ j ρ=>∃s4 s5:Option Cl,ρ=[some (.ow (.tree (some 0) (Np ((H.take j).foldl (O1 p u) B)))),‹.int p›,‹.lst (H.map D.int)›,‹.int u›,s4,s5]) ⟨s4,s5,rfl⟩ ?_ ?_
  ·rintro j d ρ hd ⟨s4,s5,rfl⟩;obtain⟨w,hw,rfl⟩:=Ca hd;have hwm:=hH w (zan hw);refine⟨_,rfl,?_⟩;obtain⟨C,hC⟩:∃C,C=(H.take j).foldl (O1 p u) B:=⟨_,rfl⟩;have ug:HC m C:=by rw[hC];exact HC.ou tj ia λ x hx=>hH x (zc7 hx)
   rw[EZ hw,<-hC];by_cases e:u=w
   ·have ev:O1 p u C w=C:=by unfold O1;rw[if_pos e]
    rw[ev];refine Bg (ρ':=_) (by simp_arith[decide_eq_true e];rfl) ⟨_,_,rfl⟩
   ·have ev:O1 p u C w=layA C (u,w) (Ak (Ac C (u,p)) (Ac C (p,w))) (some p):=by unfold O1;rw[if_neg e]
    rw[ev];have h1:=IR C (u,p);have h2:=IR C (p,w);have h3:=Eb (Ac C (u,p)) (Ac C (p,w));have h4:=mO C (u,w) (Ak (Ac C (u,p)) (Ac C (p,w))) (some p) (ug.len hm);have t1:∀a b:Int,D.tup [.int a,.int b]=pD (a,b):=λ a b=>rfl;have t2:CN (some p)=.int p:=rfl;rw[t2] at h4;have h5:=M8 (ρ:=[some (.ow (.tree (some 0) (Np C))),‹.int p›,‹.lst (H.map D.int)›,‹.int u›,‹.int w›,‹cst (Ak (Ac C (u,p)) (Ac C (p,w)))›]) (i:=0) rfl rfl h4;simp_arith[decide_eq_false e,if_true];apply wp_step
    ·simp_arith[t1,h1,h2,h3];rfl
    refine Bg (ρ':=_) (by simp_arith[t1,h5];rfl) ⟨_,_,rfl⟩
  ·rintro ρ ⟨s4,s5,rfl⟩;rw[za2,zby];exact⟨_,s4,s5,rfl⟩
 ·rintro ρ ⟨s3,s4,s5,rfl⟩;rw[za2,zby];exact⟨rfl,trivial⟩
abbrev RV:=za5 IS
def W0:Txt K mg->Rr P w K mg base "lay_over" 2 3 RV:=(za0 IS).1
def W3:Q5 RV:=(za0 IS).2
abbrev N0 (F:List D->M OT):Prop:=∀(m:Nat) (rs:List Road) (L:List Int),m<=20->L.Perm (Bu m)->(∀r∈rs,Jl m r/\r.a≠r.b)->F [Al m rs,.lst (L.map D.int)]=.ok (Np (BB rs L))
def GR:∃F,FT "laid_arcs" 3 2 F/\N0 F:=by
 refine⟨_,λ T=>As (k:=2) T.VG Df _ (λ f B0 A outer s H E hr=>(A3 (C5 2 Df.nd rfl (zb9 rfl) (UM true)) (A3 (BU A7.toXCall.own rfl (B6 (A9 (!hr) (!0) A6)) (AW 3 Df.nd rfl (zb9 rfl)) (A4 (OE (iA A7.toXCall (mN T) (-hr) rfl (BL 2 (pv 2)) (A1 (AY (A1 (A9 (!hr) (!3) A6) (A1 (A9 (!hr) (!3) A6) A5))) (A1 (Ai (A8 A7.toXCall (GL T) (-hr) rfl (A1 (!3) A5) rfl)) (A1 Du A5))) rfl)))) (A3 (BU A7.toXCall.own rfl (Kw rfl T.E9 (!1)) (Oq (n:=2) rfl (C9 (AW 4 Df.nd rfl (zb9 rfl)) (C9 (AW 5 Df.nd rfl (zb9 rfl)) Ku))) (A4 (OE (iA A7.toXCall (W0 T) (-hr) rfl (BL 2 (pv 2)) (A1 (!5) (A1 (Ai (OF (!1) (NP (Cq (!4) A6)) Yg)) A5)) rfl)))) (A4 (DR 2 (pv 2))))))),?_⟩;intro m rs L hm hL Aw;rfl';refine AS ?_;have n1:AG (Al m rs) (.int 1)=.ok (.lst (rs.map Bw)):=rfl;apply wp_step
 ·rfl
 try simp only[zae,za8]
 have ib:∀i,i<=rs.length->HC m ((rs.take i).foldl (λ A r=>layA A (r.a,r.b) (Cn r) none) []):=λ i hi=>by
  have:=(SW (m:=m) (rs:=rs.take i) λ r hr=>Aw r (zc7 hr)).1;exact this
 refine Cs (I:=λ ρ=>∃s3 s4 s5:Option Cl,ρ=[‹Al m rs›,‹.lst (L.map D.int)›,some (.ow (.tree none (Np (lay0 rs)))),s3,s4,s5]) ?_ ?_
 ·simp_arith[n1];refine BW (λ i ρ=>i<=rs.length/\∃s3 s4 s5:Option Cl,ρ=[‹Al m rs›,‹.lst (L.map D.int)›,some (.ow (.tree none (Np ((rs.take i).foldl (λ A r=>layA A (r.a,r.b) (Cn r) none) [])))),s3,s4,s5]) ⟨zbe _,none,none,none,rfl⟩ ?_ ?_
  ·rintro i d ρ hd ⟨hi,s3,s4,s5,rfl⟩;obtain⟨r,hr,rfl⟩:=Ca hd;have ag:=(zam.mp hr).1;refine⟨_,rfl,?_⟩;rw[EZ hr];obtain⟨B,hB⟩:∃B,B=(rs.take i).foldl (λ A r=>layA A (r.a,r.b) (Cn r) none) []:=⟨_,rfl⟩;have ia:HC m B:=by rw[hB];exact ib i hi
   rw[<-hB];have i0:AG (Bw r) (.int 0)=.ok (.int r.a):=rfl;have i1:AG (Bw r) (.int 1)=.ok (.int r.b):=rfl;have h1:=GN r;have h2:=mO B (r.a,r.b) (Cn r) none (ia.len hm);have t1:∀a b:Int,D.tup [.int a,.int b]=pD (a,b):=λ a b=>rfl;have t2:CN none=.AV:=rfl;rw[t2] at h2;have h5:=M8 (ρ:=[‹Al m rs›,‹.lst (L.map D.int)›,some (.ow (.tree none (Np B))),‹Bw r›,s4,s5]) (i:=2) rfl rfl h2;refine Bg (ρ':=_) (by simp_arith[i0,i1,h1,t1,h5];rfl) ⟨ag,_,_,_,rfl⟩
  ·rintro ρ ⟨_,s3,s4,s5,rfl⟩;rw[za2,zby];exact⟨s3,s4,s5,rfl⟩
 ·rintro ρ ⟨s3,s4,s5,rfl⟩;have oe:=SW Aw;refine Cs (I:=λ ρ=>∃s3 s4 s5:Option Cl,ρ=[‹Al m rs›,‹.lst (L.map D.int)›,some (.ow (.tree none (Np (BB rs L)))),s3,s4,s5]) ?_ ?_
  ·simp_arith[];refine BW (λ i ρ=>i<=L.length/\∃(G:LA) (s3 s4 s5:Option Cl),ρ=[‹Al m rs›,‹.lst (L.map D.int)›,some (.ow (.tree none (Np G))),s3,s4,s5]/\HC m G/\Qq G (L.drop i)=Qq (lay0 rs) L) ⟨zbe _,lay0 rs,s3,s4,s5,rfl,oe.1,rfl⟩ ?_ ?_
   ·rintro i d ρ hd ⟨hi,G,s3,s4,s5,rfl,hG,lp⟩;obtain⟨d',aD,rfl⟩:=G4 hd;obtain⟨p,hp,rfl⟩:=Ca aD;have ag:=(zam.mp hp).1;rw[Nat.zero_add];refine⟨_,rfl,?_⟩;have bF:∀x∈L.drop (i+1),0<=x/\x<m:=λ x hx=>(AK hL).mp (List.mem_of_mem_drop hx);have ed:L.drop i=p::L.drop (i+1):=by
     rw[zde ag];rw[za7 ag] at hp;rw[zb0 hp]
    rw[ed,Qq] at lp;have h2:=W3 m G p (L.drop (i+1)) hm hG bF;have sl:pM (some ((i:Int)+1)) none (.lst (L.map D.int))=.ok (.lst (((L.drop (i+1)).map D.int).map .sh)):=by rw[List.map_drop];exact UO _ (i+1)
    have h5:=M8 (ρ:=[‹Al m rs›,‹.lst (L.map D.int)›,some (.ow (.tree none (Np G))),s3,‹.int i›,‹.int p›]) (i:=2) rfl rfl h2;refine Bg (ρ':=_) (by simp_arith[sl,h5];rfl) ⟨ag,_,_,_,_,rfl,HC.lo bF hG bF,lp⟩
   ·rintro ρ ⟨_,G,s3,s4,s5,rfl,hG,lp⟩;rw[CV,za2,zcx,Qq] at lp;exact⟨s3,s4,s5,by rw[lp];rfl⟩
  ·rintro ρ ⟨s3,s4,s5,rfl⟩;exact⟨_,rfl,rfl⟩
abbrev Q6:=za5 GR
def Tx:FT "laid_arcs" 3 2 Q6:=(za0 GR).1
def Tz:N0 Q6:=(za0 GR).2
abbrev Q7 (F:List D->M OT):Prop:=∀(m:Nat) (x:D) (L:List Int),m<=60->L.Perm (Bu m)->F [.tup [.int m,x],.lst (L.map .int)]=.ok (.sh (.bl true))
def IT:∃F,FT "is_order" 2 2 F/\Q7 F:=by
 refine⟨_,λ T=>As (k:=1) T.Xy Vz _ (λ f B0 A outer s H E hr=>(A3 (Bc (DW.dt (EM (Cr (BV (c:=true) (Gv (Rg _) rfl T.Bv rfl T.GI (by decide +kernel) (!1)))) (D8 (Mw (c:=true) (!hr) (Gu rfl T.Ll (!1)) (A9 (!hr) (!0) A6))))) (A4 (Ae (AR EL))) Ay) (A3 (Bc (Cr (BV (c:=true) (X5 rfl rfl T.mH (Ai (C6 (NB:=["place","net"]) [none,some 0] rfl (B6 (!1)) rfl rfl (Bd 0 (by decide) rfl rfl rfl) (λ _ _ _ _=>BD) (λ _ _ _ _=>(Ai (Bj (A8 (B3 rfl).toXCall (B1 T) (-hr) rfl (A1 (!0) (A1 (A9 (!hr) (!1) A6) A5)) rfl))))))))) (A4 (Ae (AR EL))) Ay) (A4 (Ae (AR (fT (!hr) (Ai (bN rfl rfl T.mJ (!1))) (Ai (KO rfl rfl T.GI rfl T.Cp (A9 (!hr) (!0) A6)))))))))),?_⟩;intro m x L hm hL;rfl';have n0:AG (.tup [.int m,x]) (.int 0)=.ok (.int m):=rfl;refine AS ?_;have hlen:=EW hL;have h1:decide (((L.map D.int).length:Int)=(m:Int))=true:=decide_eq_true (by rw[za2];omega);have hl:(L.map D.int).length<=1000:=by rw[za2];omega
 have hs:=bM (ns:=L) (by omega);have h3:=SJ (n:=m) (by omega);rw[V8] at h3;have e:decide (Ic L=Bu m)=true:=decide_eq_true (cC.mpr hL);apply wp_step
 ·simp_arith[n0,h1];rfl
 apply wp_step
 ·simp_arith[if_pos hl];rw[Bf (λ _:Int=>D.bl true) (λ j hj=>⟨_,rfl,rfl,by
   have hj2:=Ik.mp (hL.mem_iff.mp hj);have:=B2 j m (by omega) (by omega);simp_arith[n0,this]⟩)]
  simp_arith[abM];rfl
 simp_arith[n0,hs,h3,kF,e];rfl
abbrev RW:=za5 IT
def W4:FT "is_order" 2 2 RW:=(za0 IT).1
def W5:Q7 RW:=(za0 IT).2
abbrev Hx (F:List D->M OT):Prop:=∀(m:Nat) (x:D) (L:List Int),m<=60->L.Perm (Bu m)->F [.tup [.int m,x],.lst (L.map .int)]=.ok (.lst ((L.map D.int).map .sh))
def DK:∃F,FT "checked_order" 3 2 F/\Hx F:=by
 refine⟨_,λ T=>As (k:=2) T.Ny Mg _ (λ f B0 A outer s H E hr=>(A3 (Bc (Cr (BV (c:=true) (Ai (A8 A7.toXCall (W4 T) (-hr) rfl (A1 (!0) (A1 (!1) A5)) rfl)))) (A4 LS) Ay) (A4 (Ae (NT rfl T.GI (!1)))))),?_⟩;intro m x L hm hL;rfl';have h1:=W5 m x L hm hL;refine AS ?_;apply wp_step
 ·simp_arith[h1];rfl
 simp_arith[];exact⟨_,rfl,rfl⟩
abbrev Fe:=za5 DK
def Mr:FT "checked_order" 3 2 Fe:=(za0 DK).1
def Ms:Hx Fe:=(za0 DK).2
abbrev Q8 (F:List D->M OT):Prop:=∀(m:Nat) (rs:List Road) (C:Int->Int->Co) (g:Nat),m<=900->rs.length<=900->(∀r∈rs,Jl m r)->g<m->(∀x y:Int,0<=x->x<m->0<=y->y<m->B9 rs x y (C x y))->∃t,F [Al m rs,.int g]=.ok t/\er t=Dn (λ x=>C x g) m
def IU:∃F,FT "costs_to" 3 2 F/\Q8 F:=by
 refine⟨_,λ T=>As (k:=2) T.Xz VA _ (λ f B0 A outer s H E hr=>(A4 (Ae (A8 A7.toXCall (FR T) (-hr) rfl (A1 (Ai (A8 A7.toXCall (dN T) (-hr) rfl (A1 (!0) A5) rfl)) (A1 (!1) A5)) rfl)))),?_⟩;intro m rs C g hm hl Aw hg hC;dsimp only;have ht:=dO m rs hl;have d5:∀r∈rs.map Dm,Jl m r:=λ r hr=>by
  obtain⟨q,hq,rfl⟩:=zar.mp hr;exact (Aw q hq).turn
 obtain⟨cs,hR,hF⟩:=CG m g (rs.map Dm) hg hm d5;have e1:er (.tup [.sh (.int m),.lst (((rs.map Dm).map Bw).map .sh)])=Al m (rs.map Dm):=by rw[L0,MB,Eh];rfl
 have ec:cs.map cst=(zaj m).map λ i:Nat=>cst (C i g):=O2 (f:=λ x=>C x g) hR.1 λ i a b=>by
  have h:=(hR.UZ d5 a b).turn;rw[EF] at h;exact h.BM (hC i g a b (by omega) (by omega))
 refine⟨.lst ((cs.map cst).map .sh),?_,by rw[Eh,ec];rfl⟩;rfl';refine AS ?_;simp_arith[ht,e1,hF];exact⟨_,rfl,rfl⟩
abbrev RX:=za5 IU
def W6:FT "costs_to" 3 2 RX:=(za0 IU).1
def W7:Q8 RX:=(za0 IU).2
abbrev FD (F:List D->M OT):Prop:=∀(m:Nat) (rs:List Road) (L:List Int),m<=20->L.Perm (Bu m)->F [Al m rs,.lst (L.map .int)]=.ok (.lst ((L.map D.int).map .sh))
def CS:∃F,FT "order_or_ranked" 4 2 F/\FD F:=by
 refine⟨_,λ T=>As (k:=3) T.Li K1 _ (λ f B0 A outer s H E hr=>(A3 (Bc (Dv (c:=true) (!1)) (A4 LS) Ay) (A4 (Ae (A8 A7.toXCall (Mr T) (-hr) rfl (A1 (!0) (A1 (!1) A5)) rfl))))),?_⟩;intro m rs L hm hL;have h2:Fe [Al m rs,.lst (L.map .int)]=.ok (.lst ((L.map D.int).map .sh)):=Ms m (.lst (rs.map Bw)) L (by omega) hL;rfl';refine AS ?_;apply wp_step
 ·rfl
 simp_arith[h2];exact⟨_,rfl,rfl⟩
abbrev DL:=za5 CS
def Ff:FT "order_or_ranked" 4 2 DL:=(za0 CS).1
def Fg:FD DL:=(za0 CS).2
abbrev N1 (F:List D->M OT):Prop:=∀(m:Nat) (rs:List Road) (A:LA),m<=20->(∀r∈rs,Jl m r)->HC m A->∃K:List (Int×Int),F [Al m rs,QF A]=.ok (.lst ((K.map pD).map .sh))/\K.Nodup/\∀p,p∈K↔KP rs A p
def GS:∃F,FT "kept_arcs" 3 2 F/\N1 F:=by
 refine⟨_,λ T=>As (k:=2) T.VH Ez _ (λ f B0 A outer s H E hr=>(A3 (C5 2 Ez.nd rfl (zb9 rfl) (EQ BK)) (A3 (BU A7.toXCall.own rfl (BG (c:=true) rfl T.Cp (A9 (!hr) (!0) A6)) (AW 3 Ez.nd rfl (Or.inr rfl)) (A3 (AH 4 Ez.nd rfl (Or.inr rfl) (Ai (A8 A7.toXCall (FR T) (-hr) rfl (A1 (!0) (A1 (!3) A5)) rfl))) (A4 (hV (BL 2 (pv 2)) (by exact (C6 (NB:=["w","u","laid","costs"]) [none,some 3,some 1,some 4] rfl (BG (c:=true) rfl T.Cp (A9 (!hr) (!0) A6)) rfl rfl (Bd 0 (by decide) rfl rfl rfl) (λ _ _ _ _=>Gw (DW.dt (LP (OD (c:=true) (!hr) (AY (A1 (!1) (A1 (!0) A5))) (!2)) (Ja (Kq (c:=true) (!hr) (A9 (!hr) (A9 (!hr) (!2) (AY (A1 (!1) (A1 (!0) A5)))) A6) (A9 (!hr) (!3) (!0))))))) (λ _ _ _ _=>(AY (A1 (!1) (A1 (!0) A5)))))))))) (A4 (DR 2 (pv 2)))))),?_⟩;intro m rs A hm Aw hA;rfl';refine (λ h:∃t,_/\∃K:List (Int×Int),t=.lst ((K.map pD).map .sh)/\K.Nodup/\∀p,p∈K↔KP rs A p=>by
  obtain⟨t,h1,K,rfl,h2⟩:=h;exact⟨K,h1,h2⟩) (KQ ?_)
 have n0:AG (Al m rs) (.int 0)=.ok (.int m):=rfl;have hr:Zx (.int (m:Int))=.ok ((Bu m).map D.int):=by rw[Kv (by omega),Xk]
 have hl:((Bu m).map D.int).length<=1000:=by rw[za2,G8];omega
 apply wp_step
 ·rfl
 try simp only[zae,za8]
 refine Cs (I:=λ ρ=>∃(K:List (Int×Int)) (s3 s4:Option Cl),ρ=[‹Al m rs›,‹QF A›,some (.own (K.map pD)),s3,s4]/\K.Nodup/\∀p,p∈K↔KP rs A p) ?_ ?_
 ·simp_arith[n0,hr];refine BW (λ i ρ=>i<=m/\∃(K:List (Int×Int)) (s3 s4:Option Cl),ρ=[‹Al m rs›,‹QF A›,some (.own (K.map pD)),s3,s4]/\K.Nodup/\∀p,p∈K↔(p.1<i/\KP rs A p)) ⟨zbe _,[],none,none,rfl,zbv,λ p=>⟨(λ h=>by cases h),λ h=>by
   obtain⟨c,hc,_⟩:=h.2;have:=(hA.rg p (EY hc)).2.1;omega⟩⟩ ?_ ?_
  ·rintro i d ρ hd ⟨hi,K,s3,s4,rfl,hn,hK⟩;obtain⟨u,hu,rfl⟩:=Ca hd;have ag:i<m:=by have:=(zam.mp hu).1;rw[G8] at this;exact this
   have eu:u=(i:Int):=by
    unfold Bu at hu;rw[zap,zc3 ag] at hu;exact (zb0 hu).symm
   subst eu;obtain⟨cs,hR,hF⟩:=CG m i rs ag (by omega) Aw;refine⟨_,rfl,?_⟩;apply wp_step
   ·simp_arith[hF];rfl
   try simp only[zae,za8]
   obtain⟨W,hW⟩:∃W,W=(Bu m).filter λ w=>pkA A cs i w:=⟨_,rfl⟩;have wq:∀w,w∈W↔KP rs A ((i:Int),w):=λ w=>by
    rw[hW,zbc,Ik];constructor
    ·rintro ⟨hw,h⟩;exact (kR hR Aw hw.1 hw.2).mp h
    ·intro h;obtain⟨c,hc,_⟩:=id h;have:=(hA.rg _ (EY hc)).2.2;exact⟨this,(kR hR Aw this.1 this.2).mpr h⟩
   have zw:W.Nodup:=by rw[hW];exact (OV m).filter _
   have a7:(K++W.map λ w=>((i:Int),w)).Nodup:=by
    rw[zau];refine⟨hn,List.pairwise_map.mpr (zw.imp fun {a b} ku e=>ku (by cases e;rfl)),λ x hx y hy e=>?_⟩;subst e;obtain⟨w,_,rfl⟩:=zar.mp hy;have:=(hK _).mp hx;simp at this
   have wr:∀p,p∈K++W.map (λ w=>((i:Int),w))↔(p.1<((i+1:Nat):Int)/\KP rs A p):=λ p=>by
    rw[zao,hK];constructor
    ·rintro (h|h)
     ·exact⟨by have:=h.1;omega,h.2⟩
     ·obtain⟨w,hw,rfl⟩:=zar.mp h;exact⟨by dsimp only;omega,(wq w).mp hw⟩
    ·rintro ⟨h1,h2⟩;by_cases e:p.1<(i:Int)
     ·exact .inl ⟨e,h2⟩
     ·have e2:p.1=(i:Int):=by omega
      obtain⟨p1,p2⟩:=p;dsimp only at e2;subst e2;exact .inr (zar.mpr ⟨p2,(wq p2).mpr h2,rfl⟩)
   have hlen:=yN hA hm a7 λ p hp=>((wr p).mp hp).2;have hb:(K.map pD).length+((W.map λ w=>((i:Int),w)).map pD).length<=1000:=by
    rw[zal] at hlen;rw[za2,za2];omega
   refine Bg (ρ':=[‹Al m rs›,‹QF A›,some (.own ((K++W.map λ w=>((i:Int),w)).map pD)),‹.int i›,‹.lst (cs.map cst)›]) ?_ ⟨ag,_,_,_,rfl,a7,wr⟩;have t1:∀a b:Int,D.tup [.int a,.int b]=pD (a,b):=λ a b=>rfl;simp_arith[n0,hr,if_pos hl];rw[Ct (λ w=>pkA A cs i w) (λ w=>pD ((i:Int),w)) (λ w hw=>⟨_,rfl,by
    have wt:=Ik.mp hw;have x1:AG (.lst (cs.map cst)) (.int w)=.ok (cst (atC cs w)):=BX wt.1 (by rw[hR.1];exact wt.2);have ee:=T5 A ((i:Int),w) false;unfold pkA Ac;cases q:Aq A ((i:Int),w) with
    |none =>
     rw[q] at ee;simp_arith[t1,ee];rfl
    |some v =>
     rw[q] at ee;have hit:=OY q;have h0:AG (Xf v) (.int 0)=.ok (cst (some v.1)):=rfl;have he:=KZ (some v.1) (atC cs w);simp_arith[t1,ee,hit,h0,x1,he];rfl,λ _=>by simp_arith[t1]⟩)]
   rw[<-hW];have ew:W.map (λ w=>pD ((i:Int),w))=(W.map λ w=>((i:Int),w)).map pD:=by rw[zbf];rfl
   rw[ew];simp_arith[if_pos hb];rw[<-zav]
  ·rintro ρ ⟨_,K,s3,s4,rfl,hn,hK⟩;refine⟨K,s3,s4,rfl,hn,λ p=>(hK p).trans ⟨λ h=>h.2,λ h=>⟨?_,h⟩⟩⟩;obtain⟨c,hc,_⟩:=h;have:=(hA.rg p (EY hc)).2.1;rw[za2,G8];omega
 ·rintro ρ ⟨K,s3,s4,rfl,hn,hK⟩;exact⟨_,rfl,K,rfl,hn,hK⟩
abbrev Q9:=za5 GS
def TB:FT "kept_arcs" 3 2 Q9:=(za0 GS).1
def TC:N1 Q9:=(za0 GS).2
abbrev FE (F:OT->List D->M (OT×OT)):Prop:=∀(m:Nat) (rs:List Road) (o:D) (L:List Int),1<=m->m<=16->rs.length<=60->(∀r∈rs,Jm m r)->L.Perm (Bu m)->o=.lst (L.map D.int)->∃(A:LA) (K:List (Int×Int)),B4 m rs L A K/\∃t,F (.ins "Ladder" [] []) [Al m rs,o]=.ok (t,.sh .AV)/\er t=AL m rs L A K
def CT:∃F:OT->List D->M (OT×OT),(∀ {P w K mg base},Txt K mg->ON P w K mg base "Ladder" 6 3 F)/\FE F:=by
 refine⟨_,λ T=>UX (k:=5) T.Lj K2 _ (λ f B0 A outer s H E hr=>(A3 (GD ["Ladder"] (AB T.Bx AX) (BL 0 (pv 0)) (Ai (A8 A7.toXCall (PP T) (-hr) rfl (A1 (!1) A5) rfl))) (A3 (GD ["Ladder"] (AB T.CP AX) (BL 0 (pv 0)) (Ai (ER (A8 A7.toXCall (Ff T) (-hr) rfl (A1 (BO ["Ladder"] (AB T.Bx AX) (!0)) (A1 (!2) A5)) rfl)))) (A3 (GD ["Ladder"] (AB T.Ci AX) (BL 0 (pv 0)) (Ai (ER (A8 A7.toXCall (Tx T) (-hr) rfl (A1 (BO ["Ladder"] (AB T.Bx AX) (!0)) (A1 (BO ["Ladder"] (AB T.CP AX) (!0)) A5)) rfl)))) (A4 (GD ["Ladder"] (AB T.F0 AX) (BL 0 (pv 0)) (Ai (ER (A8 A7.toXCall (TB T) (-hr) rfl (A1 (BO ["Ladder"] (AB T.Bx AX) (!0)) (A1 (BO ["Ladder"] (AB T.Ci AX) (!0)) A5)) rfl))))))))),?_⟩;intro m rs o L aJ aO dl bA hL ho;dsimp only;have Aw:∀r∈rs,Jl m r/\r.a≠r.b:=λ r hr=>(bA r hr).okR;have h1:=PQ m rs aJ aO dl bA;have h2:DL [Al m rs,o]=.ok (.lst ((L.map D.int).map .sh)):=by
  subst ho;exact Fg m rs L (by omega) hL
 have h3:=Tz m rs L (by omega) hL Aw;have hA:=(L5 hL Aw).1;obtain⟨K,h4,hn,hK⟩:=TC m rs (BB rs L) (by omega) (λ r hr=>(Aw r hr).1) hA;refine⟨BB rs L,K,⟨aJ,aO,dl,Aw,hL,rfl,hn,hK⟩,.ins "Ladder" ["own_map","own_order","laid","kept_ones"] [.sh (Al m rs),.sh (.lst (L.map D.int)),.sh (QF (BB rs L)),.sh (.lst (K.map pD))],?_,rfl⟩;have e0:D9 ["self","net","order"] (.ins "Ladder" [] []) [Al m rs,o]=[some (.ow (.tree (some 0) (.ins "Ladder" [] []))),‹Al m rs›,‹o›]:=rfl;rw[e0];refine T8 ?_;have e1:er (.tup [.sh (.int m),.lst ((rs.map Bw).map .sh)])=Al m rs:=by rw[L0,MB,Eh];rfl
 have T:∀(ns:List Str) (ds:List D),er (.ins "Ladder" ns (ds.map .sh))=.ins "Ladder" ns ds:=λ ns ds=>by rw[er,Gz]
 have T1:=T ["own_map"] [Al m rs];have T2:=T ["own_map","own_order"] [Al m rs,.lst (L.map D.int)];have T3:=T ["own_map","own_order","laid"] [Al m rs,.lst (L.map D.int),QF (BB rs L)];simp only[za6,List.map_nil] at T1 T2 T3;have d1:=Vf L;have d2:=rG (BB rs L);have d3:=rF K;have f1:Ig ["Ladder"] "own_map" (.ins "Ladder" ["own_map"] [Al m rs])=.ok (Al m rs):=rfl;have f2:Ig ["Ladder"] "own_map" (.ins "Ladder" ["own_map","own_order"] [Al m rs,.lst (L.map D.int)])=.ok (Al m rs):=rfl;have f3:Ig ["Ladder"] "own_order" (.ins "Ladder" ["own_map","own_order"] [Al m rs,.lst (L.map D.int)])=.ok (.lst (L.map D.int)):=rfl;have f4:Ig ["Ladder"] "own_map" (.ins "Ladder" ["own_map","own_order","laid"] [Al m rs,.lst (L.map D.int),QF (BB rs L)])=.ok (Al m rs):=rfl;have f5:Ig ["Ladder"] "laid" (.ins "Ladder" ["own_map","own_order","laid"] [Al m rs,.lst (L.map D.int),QF (BB rs L)])=.ok (QF (BB rs L)):=rfl;refine wp_step (ρ':=[some (.ow (.tree (some 0) (.ins "Ladder" ["own_map"] [.sh (Al m rs)]))),‹Al m rs›,‹o›]) (by simp_arith[h1,e1];rfl) ?_;refine wp_step (ρ':=[some (.ow (.tree (some 0) (.ins "Ladder" ["own_map","own_order"] [.sh (Al m rs),.sh (.lst (L.map D.int))]))),‹Al m rs›,‹o›]) (by simp_arith[T1,f1,h2,d1];rfl) ?_;refine wp_step (ρ':=[some (.ow (.tree (some 0) (.ins "Ladder" ["own_map","own_order","laid"] [.sh (Al m rs),.sh (.lst (L.map D.int)),.sh (QF (BB rs L))]))),‹Al m rs›,‹o›]) (by simp_arith[T2,f2,f3,h3,d2];rfl) ?_;refine Bg (ρ':=[some (.ow (.tree (some 0) (.ins "Ladder" ["own_map","own_order","laid","kept_ones"] [.sh (Al m rs),.sh (.lst (L.map D.int)),.sh (QF (BB rs L)),.sh (.lst (K.map pD))]))),‹Al m rs›,‹o›]) (by simp_arith[T3,f4,f5,h4,d3];rfl) ⟨rfl,rfl⟩
abbrev Cz:=za5 CT
def Fh:Txt K mg->ON P w K mg base "Ladder" 6 3 Cz:=(za0 CT).1
def Fi:FE Cz:=(za0 CT).2
abbrev JJ (F:List D->M OT):Prop:=∀(r:Road) (l:Option Int),F [Bw r,CN l]=.ok (.sh (Bw ⟨r.a,r.b,l,r.w⟩))
def Fj:∃F,FT "with_length" 1 2 F/\JJ F:=by
 refine⟨_,λ T=>As (k:=0) T.QO Pp _ (λ f B0 A outer s H E hr=>(A4 (Ae (AR (AY (A1 (A9 (!hr) (!0) A6) (A1 (A9 (!hr) (!0) A6) (A1 (!1) (A1 (A9 (!hr) (!0) A6) A5))))))))),?_⟩;intro r l;dsimp only;rfl
abbrev Lx:=za5 Fj
def Qa:FT "with_length" 1 2 Lx:=(za0 Fj).1
def Qb:JJ Lx:=(za0 Fj).2
abbrev Hy (F:List D->M OT):Prop:=∀(m:Nat) (rs:List Road) (i:Nat),i<m->F [Al m rs,.int i]=.ok (.sh (.int i))
def DM:∃F,FT "checked_place" 2 2 F/\Hy F:=by
 refine⟨_,λ T=>As (k:=1) T.Nz Mh _ (λ f B0 A outer s H E hr=>(A3 (Bc (Cr (BV (c:=true) (Ai (A8 A7.toXCall (B1 T) (-hr) rfl (A1 (!1) (A1 (A9 (!hr) (!0) A6) A5)) rfl)))) (A4 LS) Ay) (A4 (Ae (AR (!1)))))),?_⟩;intro m rs i hi;rfl';refine AS ?_;have n0:AG (Al m rs) (.int 0)=.ok (.int m):=rfl;have n1:AG (Al m rs) (.int 1)=.ok (.lst (rs.map Bw)):=rfl;have h:=B2 i m (by omega) (by omega);apply wp_step
 ·simp_arith[n0,h,I9];rfl
 rfl
abbrev IV:=za5 DM
def Gi:FT "checked_place" 2 2 IV:=(za0 DM).1
def Gj:Hy IV:=(za0 DM).2
abbrev IW (F:List D->M OT):Prop:=∀(m:Nat) (rs:List Road),rs.length<=900->F [Al m rs,.BR false [] []]=.ok (.tup [.sh (.int m),.lst ((rs.map Bw).map .sh)])
def Eo:∃F,FT "with_lengths" 2 2 F/\IW F:=by
 refine⟨_,λ T=>As (k:=1) T.PJ Nu _ (λ f B0 A outer s H E hr=>(A4 (Ae (LY (Be (AR (A9 (!hr) (!0) A6)) (Be (C6 (NB:=["number","road","lengths"]) [none,none,some 1] rfl (Kw rfl T.E9 (A9 (!hr) (!0) A6)) rfl rfl (GA (n:=2) rfl (Bn 0 (by decide) rfl rfl rfl (Bn 1 (by decide) rfl rfl rfl EU))) (λ _ _ _ _=>BD) (λ _ _ _ _=>(Ai (Bj (A8 (B3 rfl).toXCall (Qa T) (-hr) rfl (A1 (!1) (A1 (lR (!hr) (!2) (!0) (A9 (!hr) (!1) A6)) A5)) rfl))))) BK)))))),?_⟩;intro m rs hl;rfl';refine AS ?_;have n0:AG (Al m rs) (.int 0)=.ok (.int m):=rfl;have n1:AG (Al m rs) (.int 1)=.ok (.lst (rs.map Bw)):=rfl;have ao:((zaj rs.length).map λ i:Nat=>D.tup [.int (i:Int),Bw (rs.getD i ⟨0,0,none,0⟩)]).length<=1000:=by rw[za2,zc1];omega
 simp_arith[n0,n1,RJ,if_pos ao];rw[Bf (λ i:Nat=>Bw (rs.getD i ⟨0,0,none,0⟩)) (λ i hi=>⟨_,rfl,rfl,by
  have r2:AG (Bw (rs.getD i ⟨0,0,none,0⟩)) (.int 2)=.ok (CN (rs.getD i ⟨0,0,none,0⟩).l):=rfl;have hg:=lZ (i:Int) (CN (rs.getD i ⟨0,0,none,0⟩).l);have hw:=Qb (rs.getD i ⟨0,0,none,0⟩) (rs.getD i ⟨0,0,none,0⟩).l;simp_arith[r2,hg,hw]⟩)]
 have e:((zaj rs.length).map λ i:Nat=>Bw (rs.getD i ⟨0,0,none,0⟩))=rs.map Bw:=mB rs;rw[e];simp_arith[];exact⟨_,rfl,rfl⟩
abbrev JK:=za5 Eo
def NF:FT "with_lengths" 2 2 JK:=(za0 Eo).1
def NG:IW JK:=(za0 Eo).2
abbrev IX (F:List D->M OT):Prop:=∀(m:Nat) (rs:List Road),F [Al m rs,.AV]=.ok (.BR false [] [])
def Ep:∃F,FT "shut_lengths" 1 2 F/\IX F:=by
 refine⟨_,λ T=>As (k:=0) T.PL Nv _ (λ f B0 A outer s H E hr=>(A3 (Bc (Dv (c:=true) (!1)) (A4 (Ae (UM false))) Ay) (A4 LS))),?_⟩;intro m rs;rfl';refine AS ?_;exact⟨_,rfl,rfl⟩
abbrev JL:=za5 Ep
def NH:FT "shut_lengths" 1 2 JL:=(za0 Ep).1
def NI:IX JL:=(za0 Ep).2
abbrev Gk (F:OT->List D->M (OT×OT)):Prop:=∀(m:Nat) (rs:List Road) (L:List Int),1<=m->m<=16->rs.length<=60->(∀r∈rs,Jm m r)->L.Perm (Bu m)->∃t,F (.ins "House" [] []) [Al m rs,.lst (L.map D.int)]=.ok (t,.sh .AV)/\er t=HE m rs L
def Dk:∃F:OT->List D->M (OT×OT),(∀ {P w K mg base},Txt K mg->ON P w K mg base "House" 6 3 F)/\Gk F:=by
 refine⟨_,λ T=>UX (k:=5) T.Ml Lf _ (λ f B0 A outer s H E hr=>(A3 (GD ["House"] (AB T.Bq AX) (BL 0 (pv 0)) (Ai (A8 A7.toXCall (PP T) (-hr) rfl (A1 (!1) A5) rfl))) (A3 (GD ["House"] (AB T.Dh AX) (BL 0 (pv 0)) (Ai (ER (A8 A7.toXCall (Ff T) (-hr) rfl (A1 (BO ["House"] (AB T.Bq AX) (!0)) (A1 (!2) A5)) rfl)))) (A4 (GD ["House"] (AB T.Tw AX) (BL 0 (pv 0)) (FI A5)))))),?_⟩;intro m rs L aJ aO dl bA hL;dsimp only;have h1:=PQ m rs aJ aO dl bA;have h2:=Fg m rs L (by omega) hL;have e0:D9 ["self","net","order"] (.ins "House" [] []) [Al m rs,.lst (L.map D.int)]=[some (.ow (.tree (some 0) (.ins "House" [] []))),‹Al m rs›,‹.lst (L.map D.int)›]:=rfl;refine⟨.ins "House" ["own_map","own_order","done"] [.sh (Al m rs),.sh (.lst (L.map D.int)),.sh (.lst [])],?_,rfl⟩;rw[e0];refine T8 ?_;have e1:er (.tup [.sh (.int m),.lst ((rs.map Bw).map .sh)])=Al m rs:=by rw[L0,MB,Eh];rfl
 have T:∀(ns:List Str) (ds:List D),er (.ins "House" ns (ds.map .sh))=.ins "House" ns ds:=λ ns ds=>by rw[er,Gz]
 have T1:=T ["own_map"] [Al m rs];simp only[za6,List.map_nil] at T1;have d1:=Vf L;have f1:Ig ["House"] "own_map" (.ins "House" ["own_map"] [Al m rs])=.ok (Al m rs):=rfl;refine wp_step (ρ':=[some (.ow (.tree (some 0) (.ins "House" ["own_map"] [.sh (Al m rs)]))),‹Al m rs›,‹.lst (L.map D.int)›]) (by simp_arith[h1,e1];rfl) ?_;refine wp_step (ρ':=[some (.ow (.tree (some 0) (.ins "House" ["own_map","own_order"] [.sh (Al m rs),.sh (.lst (L.map D.int))]))),‹Al m rs›,‹.lst (L.map D.int)›]) (by simp_arith[T1,f1,h2,d1];rfl) ?_;exact Bg (ρ':=[some (.ow (.tree (some 0) (.ins "House" ["own_map","own_order","done"] [.sh (Al m rs),.sh (.lst (L.map D.int)),.sh (.lst [])]))),‹Al m rs›,‹.lst (L.map D.int)›]) (by simp_arith[];rfl) ⟨rfl,rfl⟩
abbrev Er:=za5 Dk
def Ly:Txt K mg->ON P w K mg base "House" 6 3 Er:=(za0 Dk).1
def Lz:Gk Er:=(za0 Dk).2
abbrev IY (F:List D->M OT):Prop:=∀(m:Nat) (rs:List Road) (L:List Int),1<=m->m<=16->rs.length<=60->(∀r∈rs,Jm m r)->L.Perm (Bu m)->∃(A:LA) (K:List (Int×Int)),B4 m rs L A K/\∃t,F [HE m rs L]=.ok t/\er t=AL m rs L A K
def Es:∃F:List D->M OT,(∀ {P w K mg base},Txt K mg->GC P w K mg base "House" "ladder" 8 1 F)/\IY F:=by
 refine⟨_,λ T=>Je (k:=7) T.PM Nw _ (λ f B0 A outer s H E hr=>(A4 (Ae (SM A7.toXCall (Fh T).ini (-hr) rfl (A1 (BO ["House"] (AB T.Bq AX) (!0)) (A1 (BO ["House"] (AB T.Dh AX) (!0)) A5)) rfl)))),?_⟩;intro m rs L aJ aO dl bA hL;obtain⟨A,K,ok,t,hI,hE⟩:=Fi m rs (.lst (L.map D.int)) L aJ aO dl bA hL rfl;refine⟨A,K,ok,t,?_,hE⟩;rfl';refine AS ?_;have f1:Ig ["House"] "own_map" (HE m rs L)=.ok (Al m rs):=rfl;have f2:Ig ["House"] "own_order" (HE m rs L)=.ok (.lst (L.map D.int)):=rfl;have uh:UQ ((Cz) (.ins "Ladder" [] []) [Al m rs,.lst (L.map D.int)])=.ok t:=by rw[hI];rfl
 simp_arith[f1,f2,uh];cases t with
 |sh d=>rfl
 |lst ts|tup ts|BR b ks ts|ins x ns ts=>exact⟨_,rfl,rfl⟩
abbrev CH:=za5 Es
def NJ:Txt K mg->GC P w K mg base "House" "ladder" 8 1 CH:=(za0 Es).1
def NK:IY CH:=(za0 Es).2
abbrev N2 (F:List D->M OT):Prop:=∀(m:Nat) (rs:List Road) (L:List Int) (s g:Nat),1<=m->m<=16->rs.length<=60->(∀r∈rs,Jm m r)->L.Perm (Bu m)->s<m->g<m->∃(T:List Co) (N:List Nat),(∀w:Int,0<=w->w<m->B9 rs w g (atC T w))/\F [HE m rs L,.int s,.int g,.AV]=.ok (lK (atC T s) N T)
def GU:∃F:List D->M OT,(∀ {P w K mg base},Txt K mg->YS P w K mg base "House" "ask" "shut" 9 4 F)/\N2 F:=by
 refine⟨_,λ T=>lO (k:=8) T.VI Lg _ (λ f B0 A outer s H E hr=>(A3 (Yh (c:=true) (Ai (A8 A7.toXCall (Gi T) (-hr) rfl (A1 (BO ["House"] (AB T.Bq AX) (!0)) (A1 (!1) A5)) rfl))) (A3 (Yh (c:=true) (Ai (A8 A7.toXCall (Gi T) (-hr) rfl (A1 (BO ["House"] (AB T.Bq AX) (!0)) (A1 (!2) A5)) rfl))) (A3 (AH 4 Lg.nd rfl (zb9 rfl) (Ai (A8 A7.toXCall (NF T) (-hr) rfl (A1 (BO ["House"] (AB T.Bq AX) (!0)) (A1 (Ai (A8 A7.toXCall (NH T) (-hr) rfl (A1 (BO ["House"] (AB T.Bq AX) (!0)) (A1 (!3) A5)) rfl)) A5)) rfl))) (A4 (Ae (A8 A7.toXCall (zB T.XG (zJ T)) (-hr) rfl (A1 (Ai (SM A7.toXCall (Fh T).ini (-hr) rfl (A1 (!4) (A1 (BO ["House"] (AB T.Dh AX) (!0)) A5)) rfl)) (A1 (!1) (A1 (!2) A5))) rfl))))))),?_⟩;intro m rs L s g aJ aO dl bA hL hs hg;obtain⟨A,K,ok,t,hI,hE⟩:=Fi m rs (.lst (L.map D.int)) L aJ aO dl bA hL rfl;obtain⟨T,N,h1,h2,h3,h4⟩:=zK m rs L A K s g ok hs hg;refine⟨T,N,h2,?_⟩;rfl';refine AS ?_;have f1:Ig ["House"] "own_map" (HE m rs L)=.ok (Al m rs):=rfl;have f2:Ig ["House"] "own_order" (HE m rs L)=.ok (.lst (L.map D.int)):=rfl;have p1:=Gj m rs s hs;have p2:=Gj m rs g hg;have oj:=NI m rs;have iy:=NG m rs (by omega);have uh:UQ ((Cz) (.ins "Ladder" [] []) [Al m rs,.lst (L.map D.int)])=.ok t:=by rw[hI];rfl
 have e1:er (.tup [.sh (.int m),.lst ((rs.map Bw).map .sh)])=Al m rs:=by rw[L0,MB,Eh];rfl
 have e3:er (.BR false [] [])=.BR false [] []:=rfl;apply wp_step
 ·simp_arith[f1,p1];rfl
 apply wp_step
 ·simp_arith[f1,p2];rfl
 refine wp_step (ρ':=[‹HE m rs L›,‹.int s›,‹.int g›,‹.AV›,‹Al m rs›]) (by simp_arith[f1,oj,e3,iy,e1];try rfl) ?_;simp_arith[f2,uh,hE,h4];cases atC T s with
 |none=>rfl
 |some c=>exact⟨_,rfl,rfl⟩
abbrev Fl:=za5 GU
def TF:Txt K mg->YS P w K mg base "House" "ask" "shut" 9 4 Fl:=(za0 GU).1
def TH:N2 Fl:=(za0 GU).2
abbrev N3 (F:List D->M OT):Prop:=∀(m:Nat) (T:List Co) (W:List (Int×List Co)) (h:Int),m<=20->T.length=m->W.length<=900->(∀k∈W,(0<=k.1/\k.1<m)/\k.2.length=m)->0<=h->h<m->F [.lst (T.map cst),.lst (W.map zD),.int h]=.ok (.sh (.bl (W.any λ k=>decide (Ak (atC T k.1) (atC k.2 h)=atC T h))))
def GV:∃F,FT "lies_over" 2 3 F/\N3 F:=by
 refine⟨_,λ T=>As (k:=1) T.VJ Ti _ (λ f B0 A outer s H E hr=>(A4 (Ae (AR (pE rfl rfl T.abS (Ai (C6 (NB:=["higher","row","costs","hub"]) [none,none,some 0,some 2] rfl (B6 (!1)) rfl rfl (GA (n:=2) rfl (Bn 0 (by decide) rfl rfl rfl (Bn 1 (by decide) rfl rfl rfl EU))) (λ _ _ _ _=>BD) (λ _ _ _ _=>(fT (!hr) (Ai (Bj (A8 (B3 rfl).toXCall (Ea T) (-hr) rfl (A1 (A9 (!hr) (!2) (!0)) (A1 (A9 (!hr) (!1) (!3)) A5)) rfl))) (A9 (!hr) (!2) (!3))))))))))),?_⟩;intro m T W h hm hT hW hk h0 h1;rfl';refine AS ?_;have x1:AG (.lst (T.map cst)) (.int h)=.ok (cst (atC T h)):=BX h0 (by omega);have hl:(W.map zD).length<=1000:=by rw[za2];omega
 simp_arith[if_pos hl];rw[Bf (λ k:Int×List Co=>D.bl (decide (Ak (atC T k.1) (atC k.2 h)=atC T h))) (λ k gp=>⟨_,rfl,rfl,by
  obtain⟨⟨k0,k1⟩,k2⟩:=hk k gp;have x2:AG (.lst (T.map cst)) (.int k.1)=.ok (cst (atC T k.1)):=BX k0 (by omega);have x3:AG (.lst (k.2.map cst)) (.int h)=.ok (cst (atC k.2 h)):=BX h0 (by omega);have c9:=Eb (atC T k.1) (atC k.2 h);have dk:=KZ (Ak (atC T k.1) (atC k.2 h)) (atC T h);simp_arith[x1,x2,x3,c9,dk]⟩)]
 have e1:(W.map λ k=>D.bl (decide (Ak (atC T k.1) (atC k.2 h)=atC T h)))=(W.map λ k=>decide (Ak (atC T k.1) (atC k.2 h)=atC T h)).map D.bl:=by rw[zbf];rfl
 simp_arith[e1];rw[List.any_map];rfl
abbrev Qc:=za5 GV
def TJ:FT "lies_over" 2 3 Qc:=(za0 GV).1
def TK:N3 Qc:=(za0 GV).2
abbrev Qd (F:List D->M OT):Prop:=∀(m:Nat) (rs:List Road) (L:List Int) (A:LA) (K:List (Int×Int)) (C:Int->Int->Co) (p:Nat) (x:Str),B4 m rs L A K->lS m C->p<m->(∀s:Int,0<=s->s<m->∃T:List Co,(lL) "costs_out" (Ka) "costs_in" (Mo) (.ok [AL m rs L A K,.int s]) (.Gm x)=.ok (.lst ((T.map cst).map .sh))/\T.length=m/\∀w:Int,0<=w->w<m->atC T w=C s w)->F [AL m rs L A K,.int p,.Gm x]=.ok (.lst (((Bk C p L.reverse).map (DC C p)).map .sh))
def IZ:∃F,FT "label_by" 6 3 F/\Qd F:=by
 refine⟨_,λ T=>As (k:=5) T.XA E8 _ (λ f B0 A outer s H E hr=>(A3 (AH 3 E8.nd rfl (zb9 rfl) (Ai (Vs A7.toXCall T.IE (EA T) (-hr) T.K4 (FA T) (-hr) (!2) (A1 (!0) (A1 (!1) A5)) rfl))) (A3 (C5 4 E8.nd rfl (zb9 rfl) (EQ BK)) (A3 (C5 5 E8.nd rfl (zb9 rfl) (EQ BK)) (A3 (BU A7.toXCall.own rfl (jT rfl T.PN (Ai (Dc (k:=1) [("Ladder",Au)] A7.toXCall (BA (by decide) (Cc T) C7) (-hr) (!0)))) (AW 6 E8.nd rfl (zb9 rfl)) (A4 (Bc (LZ (DW.dt (LP (Kr (c:=true) (A9 (!hr) (!3) (!6))) (Ja (Cr (BV (c:=true) (Ai (A8 A7.toXCall (TJ T) (-hr) rfl (A1 (!3) (A1 (!5) (A1 (!6) A5))) rfl)))))))) (A3 (G3 4 (pv 4) (AY (A1 (!6) (A1 (A9 (!hr) (!3) (!6)) A5)))) (A4 (gY (BL 5 (pv 5)) (LY (Be (AR (!6)) (Be (Vs A7.toXCall T.IE (EA T) (-hr) T.K4 (FA T) (-hr) (!2) (A1 (!0) (A1 (!6) A5)) rfl) BK)))))) Ay))) (A4 (DR 4 (pv 4)))))))),?_⟩;intro m rs L A K C p x ok hC hp hG;have hm:=ok.m2;have hL:=ok.pm;have hlen:=EW hL;obtain⟨T,g1,l1,t1⟩:=hG p (by omega) (by omega);rfl';refine AS ?_;have hs:E6 [("Ladder",Au)] "order" (AL m rs L A K)=.ok Au:=rfl;have ho:=Cd m rs L A K;apply wp_step
 ·simp_arith[g1];rfl
 try simp only[zae,za8]
 apply wp_step
 ·rfl
 try simp only[zae,za8]
 refine wp_step (ρ':=[‹AL m rs L A K›,‹.int p›,‹.Gm x›,‹.lst (T.map cst)›,some (.own []),some (cW []),none]) (by simp_arith[];try rfl) ?_;refine Cs (I:=λ ρ=>∃(s5 s6:Option Cl),ρ=[‹AL m rs L A K›,‹.int p›,‹.Gm x›,‹.lst (T.map cst)›,some (.own ((Bk C p L.reverse).map (DC C p))),s5,s6]) ?_ ?_
 ·have da:(L.map D.int).reverse=L.reverse.map D.int:=by rw[List.map_reverse]
  simp_arith[hs,ho,da];refine BW (λ i ρ=>∃(W:List (Int×List Co)) (s6:Option Cl),ρ=[‹AL m rs L A K›,‹.int p›,‹.Gm x›,‹.lst (T.map cst)›,some (.own ((Bk C p (L.reverse.take i)).map (DC C p))),some (cW W),s6]/\W.map zay=Bk C p (L.reverse.take i)/\∀k∈W,k.2.length=m/\∀w:Int,0<=w->w<m->atC k.2 w=C k.1 w) ⟨[],none,rfl,rfl,λ k hk=>by cases hk⟩ ?_ ?_
  ·rintro i d ρ hd ⟨W,s6,rfl,hW,hk⟩;obtain⟨y,hy,rfl⟩:=Ca hd;have aQ:=(AK hL).mp (zce.mp (zan hy));have et:L.reverse.take (i+1)=L.reverse.take i++[y]:=by rw[zc0,hy];rfl
   have hD:∀z∈L.reverse.take i,0<=z/\z<(m:Int):=λ z hz=>(AK hL).mp (zce.mp (zc7 hz));have ve:=Pb C p (L.reverse.take i);rw[zbt,zbi] at ve;have hWl:W.length<=20:=by
    have:=congrArg List.length hW;rw[za2] at this;omega
   have wu:∀k∈W,(0<=k.1/\k.1<m)/\k.2.length=m:=λ k h=>⟨hD _ (Gb C p _ _ (by rw[<-hW];exact List.mem_map_of_mem h)),(hk k h).1⟩;refine⟨_,rfl,?_⟩;have x1:AG (.lst (T.map cst)) (.int y)=.ok (cst (C p y)):=by rw[<-t1 y aQ.1 aQ.2];exact BX aQ.1 (by omega)
   rw[et,EG];cases hc:C p y with
   |none =>
    rw[hc] at x1;have aE:Bi (cst none)=true:=rfl;rw[Xp hc,if_neg (by decide),zb1];exact Bg (ρ':=[‹AL m rs L A K›,‹.int p›,‹.Gm x›,‹.lst (T.map cst)›,some (.own ((Bk C p (L.reverse.take i)).map (DC C p))),some (cW W),‹.int y›]) (by simp_arith[Td,x1,aE];try rfl) ⟨W,_,rfl,hW,hk⟩
   |some c =>
    have ae:C p y≠none:=by rw[hc];exact λ z=>by cases z
    rw[hc] at x1;have aE:Bi (cst (some c))=false:=rfl;have f6:=TK m T W y (by omega) l1 (by omega) wu aQ.1 aQ.2;have zx:(W.any λ k=>decide (Ak (atC T k.1) (atC k.2 y)=atC T y))=(L.reverse.take i).any λ z=>decide (Ak (C p z) (C z y)=C p y):=by
     rw[<-cV hC ⟨by omega,by omega⟩ aQ hD ae,<-hW,List.any_map];refine zG λ k h=>?_;obtain⟨⟨a,b⟩,_⟩:=wu k h;rw[Function.comp,t1 k.1 a b,t1 y aQ.1 aQ.2,(hk k h).2 y aQ.1 aQ.2]
    rw[zx] at f6;rw[Pc ae];cases hz:(L.reverse.take i).any λ z=>decide (Ak (C p z) (C z y)=C p y) with
    |true =>
     rw[hz] at f6;rw[Bool.not_true,if_neg (by decide),zb1];exact Bg (ρ':=[‹AL m rs L A K›,‹.int p›,‹.Gm x›,‹.lst (T.map cst)›,some (.own ((Bk C p (L.reverse.take i)).map (DC C p))),some (cW W),‹.int y›]) (by simp_arith[Td,x1,aE,f6,I9];try rfl) ⟨W,_,rfl,hW,hk⟩
    |false =>
     rw[hz] at f6;rw[Bool.not_false,if_pos rfl];obtain⟨U,g2,l2,t2⟩:=hG y aQ.1 aQ.2;have bo:((Bk C p (L.reverse.take i)).map (DC C p)).length<1000:=by rw[za2];omega
     have b7:(W.map sE).length<1000:=by rw[za2];omega
     have eh:DC C p y=.tup [.int y,cst (some c)]:=by unfold DC;rw[hc]
     have ek:OT.tup [.sh (.int y),.lst ((U.map cst).map .sh)]=sE (y,U):=rfl;refine Bg (ρ':=[‹AL m rs L A K›,‹.int p›,‹.Gm x›,‹.lst (T.map cst)›,some (.own ((Bk C p (L.reverse.take i)++[y]).map (DC C p))),some (cW (W++[(y,U)])),‹.int y›]) (by
      rw[zav,List.map_singleton,eh];simp_arith[Td,x1,aE,f6,I9,if_pos bo,if_true,WU];simp_arith[sF,lV,g2,ek,if_pos b7,sG];try rfl) ⟨_,_,rfl,by rw[zav,hW];rfl,λ k h=>?_⟩
     rcases zao.mp h with h|h
     ·exact hk k h
     ·rw[za9.mp h];exact⟨l2,t2⟩
  ·rintro ρ ⟨W,s6,rfl,_,_⟩;have e:L.reverse.take (L.reverse.map D.int).length=L.reverse:=by rw[za2,zby]
   rw[e];exact⟨_,_,rfl⟩
 ·rintro ρ ⟨s5,s6,rfl⟩;exact⟨_,rfl,rfl⟩
abbrev RY:=za5 IZ
def N4:FT "label_by" 6 3 RY:=(za0 IZ).1
def N5:Qd RY:=(za0 IZ).2
abbrev N6 (F:List D->M OT):Prop:=∀(m:Nat) (rs:List Road) (L:List Int) (A:LA) (K:List (Int×Int)) (c:Int->Int->Co) (p:Nat),B4 m rs L A K->(∀x y:Int,0<=x->x<m->0<=y->y<m->B9 rs x y (c x y))->p<m->F [AL m rs L A K,.int p]=.ok (.lst (((Bk c p L.reverse).map (DC c p)).map .sh))
def GW:∃F,FT "label_out" 7 2 F/\N6 F:=by
 refine⟨_,λ T=>As (k:=6) T.VL Tj _ (λ f B0 A outer s H E hr=>(A4 (Ae (A8 A7.toXCall (N4 T) (-hr) rfl (A1 (!0) (A1 (!1) (A1 (lM T.IE rfl) A5))) rfl)))),?_⟩;intro m rs L A K c p ok hA hp;have h:=N5 m rs L A K c p "costs_out" ok (Te hA) hp λ s h0 h1=>by
  obtain⟨s',rfl⟩:∃s':Nat,(s':Int)=s:=⟨s.toNat,by omega⟩;obtain⟨T,g1,l1,t1⟩:=GQ m rs L A K s' ok (by omega);exact⟨T,g1,l1,λ w a b=>(t1 w a b).BM (hA _ _ h0 h1 a b)⟩
 rfl';refine AS ?_;simp_arith[h];exact⟨_,rfl,rfl⟩
abbrev Qe:=za5 GW
def TM:FT "label_out" 7 2 Qe:=(za0 GW).1
def TN:N6 Qe:=(za0 GW).2
abbrev LB (F:List D->M OT):Prop:=∀(m:Nat) (rs:List Road) (L:List Int) (A:LA) (K:List (Int×Int)) (c:Int->Int->Co) (p:Nat),B4 m rs L A K->(∀x y:Int,0<=x->x<m->0<=y->y<m->B9 rs x y (c x y))->p<m->F [AL m rs L A K,.int p]=.ok (.lst (((Bk (λ x y=>c y x) p L.reverse).map (DC (λ x y=>c y x) p)).map .sh))
def FV:∃F,FT "label_into" 7 2 F/\LB F:=by
 refine⟨_,λ T=>As (k:=6) T.Tu QJ _ (λ f B0 A outer s H E hr=>(A4 (Ae (A8 A7.toXCall (N4 T) (-hr) rfl (A1 (!0) (A1 (!1) (A1 (lM T.K4 rfl) A5))) rfl)))),?_⟩;intro m rs L A K c p ok hA hp;have h:=N5 m rs L A K (λ x y=>c y x) p "costs_in" ok (Te hA).turn hp λ s h0 h1=>by
  obtain⟨s',rfl⟩:∃s':Nat,(s':Int)=s:=⟨s.toNat,by omega⟩;obtain⟨T,g1,l1,t1⟩:=IJ m rs L A K s' ok (by omega);exact⟨T,g1,l1,λ w a b=>(t1 w a b).BM (hA _ _ a b h0 h1)⟩
 rfl';refine AS ?_;simp_arith[h];exact⟨_,rfl,rfl⟩
abbrev N7:=za5 FV
def QT:FT "label_into" 7 2 N7:=(za0 FV).1
def QU:LB N7:=(za0 FV).2
abbrev uE (F:List D->M OT):Prop:=∀(R1 R2:RA),(R2.map zay).Nodup->R1.length<=900->R2.length<=900->F [.lst (R1.map Vu),.lst (R2.map Vu)]=.ok (.sh (Tf ((Cu R1 R2).foldl YU none)))
def XO:∃F,FT "met" 2 2 F/\uE F:=by
 refine⟨_,λ T=>As (k:=1) T.abR K3 _ (λ f B0 A outer s H E hr=>(A3 (AH 2 K3.nd rfl (Or.inr rfl) (Ai (Vm rfl rfl T.Tv (!1)))) (A3 (Jc (NB:=["hub","cost","costs"]) 3 [none,none,some 2] K3.nd rfl (zb9 rfl) rfl (B6 (!0)) rfl rfl (GA (n:=2) rfl (Bn 0 (by decide) rfl rfl rfl (Bn 1 (by decide) rfl rfl rfl EU))) (λ _ _ _ _=>Gw (OD (c:=true) (!hr) (!0) (!2))) (λ _ _ _ _=>(AY (A1 (Ai (Bj (A8 (B3 rfl).toXCall (Ea T) (-hr) rfl (A1 (!1) (A1 (A9 (!hr) (!2) (!0)) A5)) rfl))) (A1 (!0) A5))))) (A3 (AH 4 K3.nd rfl (zb9 rfl) Du) (A3 (BU A7.toXCall.own rfl (B6 (!3)) (Oq (n:=2) rfl (C9 (AW 5 K3.nd rfl (zb9 rfl)) (C9 (AW 6 K3.nd rfl (zb9 rfl)) Ku))) (A4 (Bc (DW.dt (EM (Dv (c:=true) (!4)) (D8 (Xc (c:=true) (!hr) (!5) (A9 (!hr) (!4) A6))))) (A4 (AH 4 K3.nd rfl (zb9 rfl) (AY (A1 (!5) (A1 (!6) A5))))) Ay))) (A4 (Ae (AR (!4))))))))),?_⟩;intro R1 R2 hn h1 h2;rfl';refine AS ?_;have hd:lD (.lst (R2.map Vu))=.ok (Wq R2):=lG hn (by omega);have hl:(R1.map Vu).length<=1000:=by rw[za2];omega
 have oj:=cX R1 R2;apply wp_step
 ·simp_arith[hd];rfl
 try simp only[zae,za8]
 refine wp_step (ρ':=[‹.lst (R1.map Vu)›,‹.lst (R2.map Vu)›,‹T4 R2›,‹.lst ((Cu R1 R2).map tW)›,none,none,none]) (by
  simp_arith[if_pos hl];rw[Ct (λ kv:Int×(Int×Int)=>(Aq R2 kv.1).isSome) (λ kv=>D.tup [cst (Ak (some kv.2) (Aq R2 kv.1)),.int kv.1]) (λ kv hk=>⟨_,rfl,by
   have hm:=Xj R2 kv.1 false;simp_arith[hm];try rfl,λ hs=>by
   obtain⟨c,hc⟩:=zbq.mp hs;have hi:=T6 hc;have c9:=Eb (some kv.2) (some c);rw[hc];simp_arith[hi,c9]⟩),Pd]
  simp_arith[];try rfl) ?_
 apply wp_step
 ·rfl
 try simp only[zae,za8]
 refine Cs (I:=λ ρ=>∃s5 s6:Option Cl,ρ=[‹.lst (R1.map Vu)›,‹.lst (R2.map Vu)›,‹T4 R2›,‹.lst ((Cu R1 R2).map tW)›,‹Tf ((Cu R1 R2).foldl YU none)›,s5,s6]) ?_ ?_
 ·simp_arith[];refine BW (λ i ρ=>∃s5 s6:Option Cl,ρ=[‹.lst (R1.map Vu)›,‹.lst (R2.map Vu)›,‹T4 R2›,‹.lst ((Cu R1 R2).map tW)›,‹Tf (((Cu R1 R2).take i).foldl YU none)›,s5,s6]) ⟨none,none,rfl⟩ ?_ ?_
  ·rintro i d ρ hd ⟨s5,s6,rfl⟩;rw[zap] at hd;obtain⟨x,hx,rfl⟩:=zbp.mp hd;have et:(Cu R1 R2).take (i+1)=(Cu R1 R2).take i++[x]:=by rw[zc0,hx];rfl
   refine⟨_,rfl,?_⟩;rw[et,List.foldl_append,zb4,List.foldl_nil];obtain⟨b,hb⟩:∃b,b=((Cu R1 R2).take i).foldl YU none:=⟨_,rfl⟩;rw[<-hb];cases b with
   |none =>
    have aE:Bi (Tf none)=true:=rfl;exact Bg (ρ':=[‹.lst (R1.map Vu)›,‹.lst (R2.map Vu)›,‹T4 R2›,‹.lst ((Cu R1 R2).map tW)›,‹Tf (some x)›,‹cst (some x.1)›,‹.int x.2›]) (by simp_arith[aE];try rfl) ⟨_,_,rfl⟩
   |some y =>
    have aE:Bi (Tf (some y))=false:=rfl;have h0:AG (Tf (some y)) (.int 0)=.ok (cst (some y.1)):=rfl;have hx:=yK x.1 y.1;by_cases hc:x.1.1<y.1.1\/(x.1.1=y.1.1/\x.1.2<y.1.2)
    ·have e:YU (some y) x=some x:=if_pos hc;rw[decide_eq_true hc] at hx;rw[e];exact Bg (ρ':=[‹.lst (R1.map Vu)›,‹.lst (R2.map Vu)›,‹T4 R2›,‹.lst ((Cu R1 R2).map tW)›,‹Tf (some x)›,‹cst (some x.1)›,‹.int x.2›]) (by simp_arith[aE,h0,hx];try rfl) ⟨_,_,rfl⟩
    ·have e:YU (some y) x=some y:=if_neg hc;rw[decide_eq_false hc] at hx;rw[e];exact Bg (ρ':=[‹.lst (R1.map Vu)›,‹.lst (R2.map Vu)›,‹T4 R2›,‹.lst ((Cu R1 R2).map tW)›,‹Tf (some y)›,‹cst (some x.1)›,‹.int x.2›]) (by simp_arith[aE,h0,hx];try rfl) ⟨_,_,rfl⟩
  ·rintro ρ ⟨s5,s6,rfl⟩;rw[zd0 (by rw[za2];exact zaf _)];exact⟨_,_,rfl⟩
 ·rintro ρ ⟨s5,s6,rfl⟩;rfl
abbrev zL:=za5 XO
def zM:FT "met" 2 2 zL:=(za0 XO).1
def zN:uE zL:=(za0 XO).2
abbrev JM (F:List D->M OT):Prop:=∀(ns:List Int) (k:Nat),(∀n∈ns,Sm n)->∃v:Int,Sm v/\F [.lst (ns.map D.int),.int k]=.ok (.sh (.int v))
def Fm:∃F,FT "_law_cell_at" 1 2 F/\JM F:=by
 refine⟨_,λ T=>As (k:=0) T.QP Pr _ (λ f B0 A outer s H E hr=>(A3 (Bc (aaW (c:=true) (!1) (Gu rfl T.Ll (!0))) (A4 (Ae (AR (A9 (!hr) (!0) (!1))))) Ay) (A4 (Ae (AR A6))))),?_⟩;intro ns k bc;rfl';by_cases hk:(k:Int)<((ns.map D.int).length:Int)
 ·have t5:=hk;rw[za2] at t5;have i1:AG (.lst (ns.map D.int)) (.int k)=.ok (.int (ns[k]'(by omega))):=Ft (by omega) (by rw[zbr];exact za7 _);refine⟨ns[k]'(by omega),bc _ (List.getElem_mem _),AS ?_⟩;simp_arith[decide_eq_true hk,i1];rfl
 ·refine⟨0,by unfold Sm;decide,AS ?_⟩;simp_arith[decide_eq_false hk];rfl
abbrev EB:=za5 Fm
def J0:FT "_law_cell_at" 1 2 EB:=(za0 Fm).1
def J1:JM EB:=(za0 Fm).2
abbrev N8 (F:List D->M OT):Prop:=∀c k:Int,0<=k->k<=1000->∃v:Int,0<=v/\F [.int c,.int k]=.ok (.sh (.int v))
def GX:∃F,FT "_law_mixed" 1 2 F/\N8 F:=by
 refine⟨_,λ T=>As (k:=0) T.VM GG _ (λ f B0 A outer s H E hr=>(A3 (AH 2 GG.nd rfl (zb9 rfl) (Cj (Cq (Cj (!0) A6) (NQ A6 (Cq (!1) A6))) A6)) (A3 (AH 2 GG.nd rfl (zb9 rfl) (Cj (Cq (Cq (NQ (!2) (!2)) (NQ A6 (!1))) A6) A6)) (A4 (Ae (AR (Cj (NQ (!2) (!2)) A6))))))),?_⟩;intro c k h0 h1;rfl';have m1:Oz (.int 48271) (.int (k+1))=.ok (.int (48271*(k+1))):=Ky (.inr (.inr (.inr ⟨by omega,by omega⟩)));obtain⟨x,hx⟩:∃x,x=(c%2147483629+48271*(k+1))%2147483647:=⟨_,rfl⟩;have x0:0<=x:=by omega
 have x1:x<2147483647:=by omega
 have m2:Oz (.int x) (.int x)=.ok (.int (x*x)):=Ky (.inr (.inr (.inr ⟨by omega,by omega⟩)));have m3:Oz (.int 69621) (.int k)=.ok (.int (69621*k)):=Ky (.inr (.inr (.inr ⟨by omega,by omega⟩)));obtain⟨y,hy⟩:∃y,y=(x*x+69621*k+7)%2147483587:=⟨_,rfl⟩;have y0:0<=y:=by rw[hy];exact zcd _ (by decide)
 have y1:y<2147483587:=by rw[hy];exact zcf _ (by decide)
 have m4:Oz (.int y) (.int y)=.ok (.int (y*y)):=Ky (.inr (.inr (.inr ⟨by omega,by omega⟩)));refine⟨y*y%2147483579,zcd _ (by decide),?_⟩;simp[rv0,rvS,m1,wN,HP,BF,<-hx,m2,m3,<-hy,m4,UI,WU,shM,ZM]
abbrev Qf:=za5 GX
def GY:FT "_law_mixed" 1 2 Qf:=(za0 GX).1
def GZ:N8 Qf:=(za0 GX).2
abbrev Qg (F:List D->M OT):Prop:=∀(c k:Int) (m:Nat),2<=m->m<=16->0<=k->k<=100->∃r:Road,Jm m r/\F [.int c,.int m,.int k]=.ok (.sh (Bw r))
def J2:∃F,FT "_law_road" 2 3 F/\Qg F:=by
 refine⟨_,λ T=>As (k:=1) T.XB D3 _ (λ f B0 A outer s H E hr=>(A3 (AH 0 D3.nd rfl (zb9 rfl) (Cj (!0) (fR A6 A6))) (A3 (AH 3 D3.nd rfl (zb9 rfl) (Ai (A8 A7.toXCall (GY T) (-hr) rfl (A1 (!0) (A1 (!2) A5)) rfl))) (A3 (AH 4 D3.nd rfl (zb9 rfl) (Cj (!3) (!1))) (A3 (AH 5 D3.nd rfl (zb9 rfl) (Cj (Cq (Cq (!4) A6) (Cj (D7 (!3) A6) (wO (!1) A6))) (!1))) (A3 (AH 6 D3.nd rfl (zb9 rfl) (A9 (!hr) (FI (A1 Du (A1 A6 (A1 A6 (A1 A6 (A1 (Cj (D7 (!3) A6) A6) (A1 (Cj (D7 (!3) A6) A6) (A1 (Cj (D7 (!3) A6) A6) (A1 (!0) A5))))))))) (Cj (D7 (!3) A6) A6))) (A4 (Ae (AR (AY (A1 (!4) (A1 (!5) (A1 (!6) (A1 (A9 (!hr) (FI (A1 (Cj (D7 (!3) A6) A6) (A1 (D7 (!0) A6) A5))) (Cj (D7 (!3) A6) A6)) A5)))))))))))))),?_⟩;intro c k m aJ aO h0 h1;have ht:=Xe;rfl';obtain⟨g,hg⟩:∃g,g=c%RD:=⟨_,rfl⟩;have g0:0<=g:=by rw[hg];exact zcd _ (by omega)
 have g1:g<RD:=by rw[hg];exact zcf _ (by omega)
 obtain⟨v,v0,hv⟩:=GZ g k h0 (by omega);have om:(0:Int)<(m:Int):=by omega
 have lq:(0:Int)<(m:Int)-1:=by omega
 obtain⟨o,ho⟩:∃o,o=v%(m:Int):=⟨_,rfl⟩;obtain⟨o',ba⟩:∃o',o'=(o+1+v / 16%((m:Int)-1))%(m:Int):=⟨_,rfl⟩;have o0:0<=o:=by rw[ho];exact zcd _ (by omega)
 have o1:o<m:=by rw[ho];exact zcf _ om
 have p0:0<=o':=by rw[ba];exact zcd _ (by omega)
 have p1:o'<m:=by rw[ba];exact zcf _ om
 have s0:0<=v / 16%((m:Int)-1):=zcd _ (by omega);have s1:v / 16%((m:Int)-1)<(m:Int)-1:=zcf _ lq;have ku:o≠o':=by
  have:=xN (a:=o) (s:=1+v / 16%((m:Int)-1)) (m:=m) o0 o1 (by omega) (by omega);rw[ba,zcq];exact λ z=>this z.symm
 have lr:Hj (.int v) (.int 16)=.ok (.int (v / 16)):=Cy ⟨by decide,by decide⟩;have ls:Hj (.int v) (.int 2048)=.ok (.int (v / 2048)):=Cy ⟨by decide,by decide⟩;have ui:Hj (.int v) (.int 256)=.ok (.int (v / 256)):=Cy ⟨by decide,by decide⟩;have lu:Hj (.int v) (.int 4096)=.ok (.int (v / 4096)):=Cy ⟨by decide,by decide⟩;have zy:Hj (.int v) (.int 32)=.ok (.int (v / 32)):=Cy ⟨by decide,by decide⟩;have d7:Hj (.int g) (.int 7)=.ok (.int (g / 7)):=Cy ⟨by decide,by decide⟩;have q1:HP (.int v) (.int (m:Int))=.ok (.int o):=by rw[ho];exact BY om
 have q2:HP (.int (v / 16)) (.int ((m:Int)-1))=.ok (.int (v / 16%((m:Int)-1))):=BY lq;have q3:HP (.int (o+1+v / 16%((m:Int)-1))) (.int (m:Int))=.ok (.int o'):=by rw[ba];exact BY om
 have q4:HP (.int (v / 2048)) (.int 4)=.ok (.int (v / 2048%4)):=BY (by decide);have q5:HP (.int (v / 2048)) (.int 100)=.ok (.int (v / 2048%100)):=BY (by decide);have q6:HP (.int (v / 256)) (.int 8)=.ok (.int (v / 256%8)):=BY (by decide);have q8:HP (.int (v / 4096)) (.int 5)=.ok (.int (v / 4096%5)):=BY (by decide);have q9:HP (.int (v / 32)) (.int 2)=.ok (.int (v / 32%2)):=BY (by decide);obtain⟨l,hpl,l0⟩:=yW (a:=v / 2048%4) (b:=v / 2048%100) (g:=g) (i:=v / 256%8) (by omega) (by omega) ⟨g0,g1⟩ (by omega) (by omega);obtain⟨w,tz,w0⟩:=yQ (a:=v / 4096%5) (b:=g / 7) (i:=v / 32%2) (by omega) (by omega) (by omega) (by omega);have z3:D.tup [.int o,.int o',CN l,.int w]=Bw ⟨o,o',l,w⟩:=rfl;refine⟨⟨o,o',l,w⟩,⟨o0,o1,p0,p1,ku,l0,w0.1,w0.2⟩,AS ?_⟩;apply wp_step
 ·simp_arith[tJ,qX];rw[<-hg]
 try simp only[zae,za8]
 apply wp_step
 ·simp_arith[hv];rfl
 try simp only[zae,za8]
 apply wp_step
 ·simp_arith[q1];rfl
 try simp only[zae,za8]
 apply wp_step
 ·simp_arith[lr,q2,q3];rfl
 try simp only[zae,za8]
 apply wp_step
 ·simp_arith[ls,q4,q5,ui,q6,hpl];rfl
 try simp only[zae,za8]
 simp_arith[lu,q8,d7,zy,q9,tz,z3];rfl
abbrev Jj:=za5 J2
def W8:FT "_law_road" 2 3 Jj:=(za0 J2).1
def W9:Qg Jj:=(za0 J2).2
abbrev RZ (F:List D->M OT):Prop:=∀ns:List Int,ns.length<=63->(∀n∈ns,Sm n)->∃(m:Nat) (rs:List Road),1<=m/\m<=5/\rs.length<=59/\(∀r∈rs,Jm m r)/\∃t,F [.lst (ns.map D.int),.int 5,.int 58]=.ok t/\er t=Al m rs
def Kd:∃F,FT "_law_map" 3 3 F/\RZ F:=by
 refine⟨_,λ T=>As (k:=2) T.dH DH _ (λ f B0 A outer s H E hr=>(A3 (AH 3 DH.nd rfl (zb9 rfl) (Ai (OF (!0) (NP A6) (NP (Cq A6 (!2)))))) (A3 (AH 4 DH.nd rfl (zb9 rfl) (Ai (A8 A7.toXCall (GY T) (-hr) rfl (A1 (Ai (A8 A7.toXCall (J0 T) (-hr) rfl (A1 (!0) (A1 A6 A5)) rfl)) (A1 A6 A5)) rfl))) (A3 (AH 5 DH.nd rfl (Or.inr rfl) (Cq A6 (Cj (!4) (pS rfl rfl T.uB (!1) (Cq A6 (D7 (Gu rfl T.Ll (!3)) A6)))))) (A3 (Bc (Kq (c:=true) (!hr) (!5) A6) (A4 (Ae (LY (Be (AR A6) (Be (EQ BK) BK))))) Ay) (A3 (Jc (NB:=["_law_k","_law_cell","_law_many"]) 6 [none,none,some 5] DH.nd rfl (zb9 rfl) rfl (Kw rfl T.E9 (!3)) rfl rfl (GA (n:=2) rfl (Bn 0 (by decide) rfl rfl rfl (Bn 1 (by decide) rfl rfl rfl EU))) (λ _ _ _ _=>BD) (λ _ _ _ _=>(Ai (Bj (A8 (B3 rfl).toXCall (W8 T) (-hr) rfl (A1 (!1) (A1 (!2) (A1 (!0) A5))) rfl))))) (A3 (Bc (DW.dt (LP (Kq (c:=true) (!hr) (Cj (D7 (!4) A6) A6) A6) (Ja (Mw (c:=true) (!hr) (!6) (FI A5))))) (A4 (AH 6 DH.nd rfl (zb9 rfl) (Ai (NX (!6) (FI (A1 (A9 (!hr) (!6) (Cj (D7 (!4) A6) (Gu rfl T.Ll (!6)))) A5)))))) Ay) (A4 (Ae (AR (AY (A1 (!5) (A1 (!6) A5))))))))))))),?_⟩;intro ns js bc;rfl';refine (λ h:∃t,_/\∃(m:Nat) (rs:List Road),1<=m/\m<=5/\rs.length<=59/\(∀r∈rs,Jm m r)/\er t=Al m rs=>by
  obtain⟨t,h1,m,rs,h2,h3,h4,h5,h6⟩:=h;exact⟨m,rs,h2,h3,h4,h5,t,h1,h6⟩) (KQ ?_)
 obtain⟨cs,i8⟩:∃cs,cs=(ns.drop 2).take 58:=⟨_,rfl⟩;have jv:cs.length<=58:=by rw[i8,zbt];omega
 have sl:pM (some 2) (some (2+58)) (.lst (ns.map D.int))=.ok (.lst ((cs.map D.int).map .sh)):=by rw[i8,List.map_take,List.map_drop];exact qH _ 2 60
 obtain⟨z0,ub,lw⟩:=J1 ns 0 bc;have uj:EB [.lst (ns.map D.int),.int 0]=.ok (.sh (.int z0)):=lw;obtain⟨v,v0,hv⟩:=GZ z0 40 (by decide) (by decide);apply wp_step
 ·simp_arith[sl];rfl
 try simp only[zae,za8]
 apply wp_step
 ·simp_arith[uj,hv];rfl
 try simp only[zae,za8]
 have d2:Hj (.int ((cs.map D.int).length:Int)) (.int 2)=.ok (.int ((cs.map D.int).length / 2)):=Cy ⟨by decide,by decide⟩;obtain⟨n,hn⟩:∃n:Int,n=(if 2+((cs.map D.int).length:Int) / 2<5 then 2+((cs.map D.int).length:Int) / 2 else 5):=⟨_,rfl⟩;have a7:2<=n/\n<=5:=by rw[hn];split<;>omega
 have q1:HP (.int v) (.int n)=.ok (.int (v%n)):=BY (by omega);obtain⟨m,hm⟩:∃m:Nat,(m:Int)=1+v%n:=⟨(1+v%n).toNat,by have:=zcd v (b:=n) (by omega);omega⟩;have on:1<=m/\m<=5:=by
  have:=zcd v (b:=n) (by omega);have:=zcf v (b:=n) (by omega);omega
 refine wp_step (ρ':=[‹.lst (ns.map D.int)›,‹.int 5›,‹.int 58›,‹.lst (cs.map D.int)›,‹.int v›,‹.int m›,none]) (by
  simp_arith[d2];rw[<-hn,q1];simp_arith[];rw[<-hm]) ?_
 by_cases aJ:(m:Int)=1
 ·simp_arith[decide_eq_true aJ];refine⟨_,rfl,m,[],on.1,on.2,by simp,(λ r hr=>by cases hr),?_⟩;have:m=1:=by omega
  subst this;rfl
 apply wp_step
 ·simp_arith[decide_eq_false aJ];rfl
 have f9:∀i:Nat,i<cs.length->∃r:Road,Jm m r/\Jj [.int (cs.getD i 0),.int m,.int i]=.ok (.sh (Bw r)):=λ i hi=>W9 (cs.getD i 0) i m (by omega) (by omega) (by omega) (by omega);obtain⟨f,hf⟩:∃f:Nat->Road,∀i:Nat,i<cs.length->Jm m (f i)/\Jj [.int (cs.getD i 0),.int m,.int i]=.ok (.sh (Bw (f i))):=⟨λ i=>if h:i<cs.length then za5 (f9 i h) else ⟨0,0,none,0⟩,λ i hi=>by
  dsimp only;rw[dif_pos hi];exact za0 (f9 i hi)⟩
 have ao:((zaj cs.length).map λ i:Nat=>D.tup [.int (i:Int),.int (cs.getD i 0)]).length<=1000:=by rw[za2,zc1];omega
 simp_arith[Xn,if_pos ao];rw[Bf (λ i:Nat=>Bw (f i)) (λ i hi=>⟨_,rfl,rfl,by
  have h1:=(hf i (zbz.mp hi)).2;simp_arith[h1]⟩)]
 simp_arith[];have HD:∀S:List D,S=S:=λ _=>rfl;refine wp_step (ρ':=[‹.lst (ns.map D.int)›,‹.int 5›,‹.int 58›,‹.lst (cs.map D.int)›,‹.int v›,‹.int m›,‹.lst (((zaj cs.length).map f).map Bw)›]) (by rw[zbf];rfl) ?_;obtain⟨ce,ic⟩:∃ce,ce=(zaj cs.length).map f:=⟨_,rfl⟩;have e7:∀r∈ce,Jm m r:=λ r hr=>by
  rw[ic] at hr;obtain⟨i,hi,rfl⟩:=zar.mp hr;exact (hf i (zbz.mp hi)).1
 have oe:ce.length<=58:=by rw[ic,za2,zc1];exact jv
 rw[<-ic];refine Cs (I:=λ ρ=>∃rs:List Road,ρ=[‹.lst (ns.map D.int)›,‹.int 5›,‹.int 58›,‹.lst (cs.map D.int)›,‹.int v›,‹.int m›,‹.lst (rs.map Bw)›]/\rs.length<=59/\∀r∈rs,Jm m r) ?_ ?_
 ·have lr:Hj (.int v) (.int 16)=.ok (.int (v / 16)):=Cy ⟨by decide,by decide⟩;have q3:HP (.int (v / 16)) (.int 3)=.ok (.int (v / 16%3)):=BY (by decide);have z4:Hj (.int v) (.int 64)=.ok (.int (v / 64)):=Cy ⟨by decide,by decide⟩;have ae:=Vn ce;by_cases c1:v / 16%3=1
  ·by_cases c2:ce=[]
   ·rw[decide_eq_false (by simp[c2])] at ae;refine Bg (ρ':=_) (by simp_arith[lr,q3,decide_eq_true c1,ae];rfl) ⟨ce,rfl,by omega,e7⟩
   ·rw[decide_eq_true c2] at ae;have uk:0<(ce.map Bw).length:=by rw[za2];exact List.length_pos_iff.mpr c2
    obtain⟨p1,y,hy,p2⟩:=kH uk (show 0<=v / 64 by omega);obtain⟨r,hr,rfl⟩:=zar.mp hy;have hpl:MA (.lst (ce.map Bw)) (.lst [Bw r])=.ok (.lst (((ce++[r]).map Bw).map .sh)):=by rw[zav];exact NZ (by rw[za2];simp;omega)
    refine Bg (ρ':=[‹.lst (ns.map D.int)›,‹.int 5›,‹.int 58›,‹.lst (cs.map D.int)›,‹.int v›,‹.int m›,‹.lst ((ce++[r]).map Bw)›]) (by
     simp_arith[lr,q3,decide_eq_true c1,ae,z4,p1,p2,hpl];rfl) ⟨ce++[r],rfl,by rw[zal];simp;omega,λ r2 h2=>by
     rcases zao.mp h2 with h|h
     ·exact e7 r2 h
     ·rw[za9.mp h];exact e7 r hr⟩
  ·refine Bg (ρ':=_) (by simp_arith[lr,q3,decide_eq_false c1];try rfl) ⟨ce,rfl,by omega,e7⟩
 ·rintro ρ ⟨rs,rfl,hl,Aw⟩;simp_arith[];exact⟨m,rs,on.1,on.2,hl,Aw,rfl⟩
abbrev Wa:=za5 Kd
def XQ:FT "_law_map" 3 3 Wa:=(za0 Kd).1
def XR:RZ Wa:=(za0 Kd).2
abbrev N9 (F:List D->M OT):Prop:=∀(c:Int) (m:Nat) (k:Int),m<=60->0<=k->k<=100->∃L:List Int,L.Perm (Bu m)/\F [.int c,.int m,.int k]=.ok (.lst ((L.map D.int).map .sh))
def H9:∃F,FT "_law_order" 2 3 F/\N9 F:=by
 refine⟨_,λ T=>As (k:=1) T.VN GH _ (λ f B0 A outer s H E hr=>(A3 (C5 3 GH.nd rfl (zb9 rfl) (EQ BK)) (A3 (BU A7.toXCall.own rfl (BG (c:=true) rfl T.Cp (!1)) (AW 4 GH.nd rfl (zb9 rfl)) (A4 (ZG 3 (pv 3) (Cj (Ai (A8 A7.toXCall (GY T) (-hr) rfl (A1 (!0) (A1 (Cq (!2) (!4)) A5)) rfl)) (Cq (!4) A6)) (!4)))) (A4 (DR 3 (pv 3)))))),?_⟩;intro c m k hm hk0 wj;rfl';refine (λ h:∃t,_/\∃L:List Int,t=OT.lst ((L.map D.int).map .sh)/\L.Perm (Bu m)=>by
  obtain⟨t,h1,L,rfl,h2⟩:=h;exact⟨L,h2,h1⟩) (KQ ?_)
 have hr:=Kv (n:=m) (by omega);apply wp_step
 ·rfl
 try simp only[zae,za8]
 refine Cs (I:=λ ρ=>∃(L:List Int) (s3:Option Cl),ρ=[‹.int c›,‹.int m›,‹.int k›,some (.own (L.map D.int)),s3]/\L.Perm (Bu m)) ?_ ?_
 ·simp_arith[hr];refine BW (λ i ρ=>i<=m/\∃(L:List Int) (s3:Option Cl),ρ=[‹.int c›,‹.int m›,‹.int k›,some (.own (L.map D.int)),s3]/\L.Perm (Bu i)) ⟨zbe _,[],none,rfl,.refl _⟩ ?_ ?_
  ·rintro i d ρ hd ⟨_,L,s3,rfl,hL⟩;obtain⟨aD,hi⟩:=C4 hd;rw[Int.zero_add] at aD;subst aD;have hlen:=EW hL;refine⟨_,rfl,?_⟩;obtain⟨v,v0,hv⟩:=GZ c (k+i) (by omega) (by omega);have aJ:HP (.int v) (.int ((i:Int)+1))=.ok (.int (v%((i:Int)+1))):=BY (by omega);have b0:0<=v%((i:Int)+1):=zcd _ (by omega);have b1:v%((i:Int)+1)<(i:Int)+1:=zcf _ (by omega);refine Bg (ρ':=[‹.int c›,‹.int m›,‹.int k›,some (.own ((L.take (v%((i:Int)+1)).toNat++(i:Int)::L.drop (v%((i:Int)+1)).toNat).map D.int)),‹.int i›]) ?_ ⟨by omega,_,_,rfl,cD hL _⟩;simp_arith[hv,aJ];rw[if_pos ⟨b0,by rw[za2];omega,by rw[za2];omega⟩];simp only[zav,za6,List.map_take,List.map_drop];rfl
  ·rintro ρ ⟨_,L,s3,rfl,hL⟩;exact⟨L,s3,rfl,by rw[BN] at hL;exact hL⟩
 ·rintro ρ ⟨L,s3,rfl,hL⟩;exact⟨_,rfl,L,rfl,hL⟩
abbrev Qh:=za5 H9
def TQ:FT "_law_order" 2 3 Qh:=(za0 H9).1
def TR:N9 Qh:=(za0 H9).2
abbrev Qi (F:List D->M OT):Prop:=∀a b:Co,F [cst a,cst b]=.ok (.sh (cst (Ak a b)))
def J3:∃F,FT "_law_plus" 1 2 F/\Qi F:=by
 refine⟨_,λ T=>As (k:=0) T.XC VB _ (λ f B0 A outer s H E hr=>(A3 (Bc (DW.dt (EM (Dv (c:=true) (!0)) (D8 (Dv (c:=true) (!1))))) (A4 (Ae (AR Du))) Ay) (A4 (Ae (AR (AY (A1 (Cq (A9 (!hr) (!0) A6) (A9 (!hr) (!1) A6)) (A1 (Cq (A9 (!hr) (!0) A6) (A9 (!hr) (!1) A6)) A5)))))))),?_⟩;intro a b;dsimp only;rcases a with _|⟨a1,a2⟩<;>rcases b with _|⟨b1,b2⟩<;>rfl
abbrev S0:=za5 J3
def Wb:FT "_law_plus" 1 2 S0:=(za0 J3).1
def Wc:Qi S0:=(za0 J3).2
abbrev Na (F:List D->M OT):Prop:=∀a b:Co,F [cst a,cst b]=.ok (.sh (cst (DU a b)))
def Hc:∃F,FT "_law_least" 1 2 F/\Na F:=by
 refine⟨_,λ T=>As (k:=0) T.VO Tn _ (λ f B0 A outer s H E hr=>(A3 (Bc (DW.dt (EM (Dv (c:=true) (!0)) (D8 (DW.dt (LP (Kr (c:=true) (!1)) (Ja (Xc (c:=true) (!hr) (!1) (!0)))))))) (A4 (Ae (AR (!1)))) Ay) (A4 (Ae (AR (!0)))))),?_⟩;intro a b;rfl';refine AS ?_;cases a with
 |none =>
  have hn:Bi (cst none)=true:=rfl;have el:DU none b=b:=by cases b<;>rfl
  rw[el];simp_arith[hn];rfl
 |some p =>
  have hn:Bi (cst (some p))=false:=rfl;cases b with
  |none =>
   have a7:Bi (cst none)=true:=rfl;have el:DU (some p) none=some p:=rfl;rw[el];simp_arith[hn,a7];rfl
  |some q =>
   have a7:Bi (cst (some q))=false:=rfl;have hx:=yK q p;have hl:DU (some p) (some q)=some (jV p q):=rfl;rw[hl];unfold jV;by_cases hc:q.1<p.1\/(q.1=p.1/\q.2<p.2)
   ·rw[decide_eq_true hc] at hx;rw[if_neg (by omega)];simp_arith[hn,a7,hx];rfl
   ·rw[decide_eq_false hc] at hx;rw[if_pos (by omega)];apply wp_step
    ·simp_arith[hn,a7,hx];rfl
    simp_arith[];rfl
abbrev Hd:=za5 Hc
def LC:FT "_law_least" 1 2 Hd:=(za0 Hc).1
def LD:Na Hd:=(za0 Hc).2
abbrev S1 (F:List D->M OT):Prop:=∀(m:Nat) (rs:List Road),1<=m->m<=900->rs.length<=900->(∀r∈rs,Jl m r)->∃ac:List (List Co),OS m ac/\(∀x y:Int,0<=x->x<m->0<=y->y<m->B9 rs x y (at2 ac x y))/\∃t,F [Al m rs]=.ok t/\er t=.lst ((AU ac).map D.lst)
def Ke:∃F,FT "_law_all" 2 1 F/\S1 F:=by
 refine⟨_,λ T=>As (k:=1) T.dI Bp _ (λ f B0 A outer s H E hr=>(A3 (wV (!0) (Oq (n:=2) rfl (C9 (AW 1 Bp.nd rfl (Or.inr rfl)) (C9 (AW 2 Bp.nd rfl (zb9 rfl)) Ku)))) (A3 (lB (NB:=["_law_k","_law_many"]) 3 [none,some 1] Bp.nd rfl (zb9 rfl) rfl (BG (c:=true) rfl T.Cp (!1)) rfl rfl (Bd 0 (by decide) rfl rfl rfl) (λ _ _ _ _=>BD) (λ _ _ _ _=>(Xa Du (!1)))) (A3 (BU A7.toXCall.own rfl (BG (c:=true) rfl T.Cp (!1)) (AW 4 Bp.nd rfl (zb9 rfl)) (A4 (SA 3 (pv 3) (AY (A1 A6 (A1 A6 A5))) (!4) (!4)))) (A3 (BU A7.toXCall.own rfl (B6 (!2)) (Oq (n:=4) rfl (C9 (AW 5 Bp.nd rfl (zb9 rfl)) (C9 (AW 6 Bp.nd rfl (zb9 rfl)) (C9 (AW 7 Bp.nd rfl (zb9 rfl)) (C9 (AW 8 Bp.nd rfl (zb9 rfl)) Ku))))) (A4 (Bc (Kr (c:=true) (!7)) (A4 (SA 3 (pv 3) (Ai (A8 A7.toXCall (LC T) (-hr) rfl (A1 (Sz 3 (pv 3) (!5) (!6)) (A1 (AY (A1 (!7) (A1 A6 A5))) A5)) rfl)) (!5) (!6))) Ay))) (A3 (BU A7.toXCall.own rfl (BG (c:=true) rfl T.Cp (!1)) (AW 9 Bp.nd rfl (zb9 rfl)) (A4 (BU A7.toXCall.own rfl (BG (c:=true) rfl T.Cp (!1)) (AW 5 Bp.nd rfl (zb9 rfl)) (A4 (BU A7.toXCall.own rfl (BG (c:=true) rfl T.Cp (!1)) (AW 6 Bp.nd rfl (zb9 rfl)) (A4 (SA 3 (pv 3) (Ai (A8 A7.toXCall (LC T) (-hr) rfl (A1 (Sz 3 (pv 3) (!5) (!6)) (A1 (Ai (A8 A7.toXCall (Wb T) (-hr) rfl (A1 (Sz 3 (pv 3) (!5) (!9)) (A1 (Sz 3 (pv 3) (!9) (!6)) A5)) rfl)) A5)) rfl)) (!5) (!6)))))))) (A4 (DR 3 (pv 3))))))))),?_⟩;intro m rs aJ hm dl Aw;rfl';refine (λ h:∃t,_/\∃ac:List (List Co),OS m ac/\(∀x y:Int,0<=x->x<m->0<=y->y<m->B9 rs x y (at2 ac x y))/\er t=.lst ((AU ac).map D.lst)=>by
  obtain⟨t,h1,ac,h2,h3,h4⟩:=h;exact⟨ac,h2,h3,t,h1,h4⟩) (KQ ?_)
 have df:=Kv (n:=m) (by omega);have b6:=OJ (d:=.AV) (n:=m) (by omega);refine wp_step (ρ':=[‹Al m rs›,‹.int m›,‹.lst (rs.map Bw)›,none,none,none,none,none,none,none]) rfl ?_;have ao:((zaj m).map λ j:Nat=>D.int (j:Int)).length<=1000:=by rw[za2,zc1];omega
 refine wp_step (ρ':=[‹Al m rs›,‹.int m›,‹.lst (rs.map Bw)›,some (.ow (.rows (AU ((zaj m).map λ _=>zag m none)))),none,none,none,none,none,none]) (by
  simp_arith[df,EN,if_pos ao];rw[Ip (λ _:Nat=>OT.lst ((zag m D.AV).map .sh)) (λ j hj=>⟨_,rfl,rfl,by simp_arith[b6]⟩)];unfold Mc rR;simp_arith[lF]) ?_
 refine Cs (I:=λ ρ=>∃(ac:List (List Co)) (s4:Option Cl),ρ=[‹Al m rs›,‹.int m›,‹.lst (rs.map Bw)›,some (.ow (.rows (AU ac))),s4,none,none,none,none,none]/\OS m ac/\∀u:Nat,u<m->QE m rs u 0 (ac.getD u [])) ?_ ?_
 ·simp_arith[df];refine BW (λ i ρ=>∃(ac:List (List Co)) (s4:Option Cl),ρ=[‹Al m rs›,‹.int m›,‹.lst (rs.map Bw)›,some (.ow (.rows (AU ac))),s4,none,none,none,none,none]/\OS m ac/\∀u:Nat,u<m->ac.getD u []=if u<i then (zag m none).set u (some (0,0)) else zag m none) ⟨_,none,rfl,rX m,λ u hu=>by rw[if_neg (by omega)];exact rY hu⟩ ?_ ?_
  ·rintro i d ρ hd ⟨ac,s4,rfl,hM,ay⟩;obtain⟨aD,hi⟩:=C4 hd;rw[Int.zero_add] at aD;subst aD;refine⟨_,rfl,?_⟩;have pj:=Ta (ρ:=[‹Al m rs›,‹.int m›,‹.lst (rs.map Bw)›,some (.ow (.rows (AU ac))),‹.int i›,none,none,none,none,none]) (i:=3) (v:=some (0,0)) rfl hM (show (0:Int)<=i by omega) (show (i:Int)<m by omega) (show (0:Int)<=i by omega) (show (i:Int)<m by omega);have z5:UC 3 [‹Al m rs›,‹.int m›,‹.lst (rs.map Bw)›,some (.ow (.rows (AU ac))),‹.int i›,none,none,none,none,none] (.ok (.int i)) (.ok (.int i)) (.tup [.int 0,.int 0])=_:=pj;refine Bg (ρ':=[‹Al m rs›,‹.int m›,‹.lst (rs.map Bw)›,some (.ow (.rows (AU (put2 ac i i (some (0,0)))))),‹.int i›,none,none,none,none,none]) (by simp_arith[z5];try rfl) ⟨_,_,rfl,(hM.put (by omega) (by omega) (by omega) (by omega) _).1,λ u hu=>?_⟩;rw[Vo hM (by omega) (by omega)];by_cases e:(u:Int)=i
   ·have e2:u=i:=by omega
    subst e2;rw[if_pos rfl,if_pos (by omega),zbr,ay u hu,if_neg (by omega)]
   ·rw[if_neg e,ay u hu];by_cases e3:u<i
    ·rw[if_pos e3,if_pos (by omega)]
    ·rw[if_neg e3,if_neg (by omega)]
  ·rintro ρ ⟨ac,s4,rfl,hM,ay⟩;rw[BN] at ay;exact⟨ac,s4,rfl,hM,λ u hu=>by rw[ay u hu,if_pos hu];exact cB rs hu⟩
 rintro ρ ⟨az,s4,rfl,ul,lx⟩;refine Cs (I:=λ ρ=>∃(ac:List (List Co)) (s5 s6 s7 s8:Option Cl),ρ=[‹Al m rs›,‹.int m›,‹.lst (rs.map Bw)›,some (.ow (.rows (AU ac))),s4,s5,s6,s7,s8,none]/\OS m ac/\∀u:Nat,u<m->QE m rs u rs.length (ac.getD u [])) ?_ ?_
 ·simp_arith[];refine BW (λ j ρ=>∃(ac:List (List Co)) (s5 s6 s7 s8:Option Cl),ρ=[‹Al m rs›,‹.int m›,‹.lst (rs.map Bw)›,some (.ow (.rows (AU ac))),s4,s5,s6,s7,s8,none]/\OS m ac/\∀u:Nat,u<m->QE m rs u j (ac.getD u [])) ⟨az,none,none,none,none,rfl,ul,lx⟩ ?_ ?_
  ·rintro j d ρ hd ⟨ac,s5,s6,s7,s8,rfl,hM,ay⟩;obtain⟨r,hq,rfl⟩:=Ca hd;have hr:=zan hq;have ok:=Aw r hr;have ea:((r.a.toNat:Nat):Int)=r.a:=by have:=ok.a0;omega
   refine⟨[‹Al m rs›,‹.int m›,‹.lst (rs.map Bw)›,some (.ow (.rows (AU ac))),s4,‹.int r.a›,‹.int r.b›,‹CN r.l›,‹.int r.w›,none],rfl,?_⟩;cases hl:r.l with
   |none =>
    have hn:Bi (CN none)=true:=rfl;refine Bg (ρ':=_) (by simp_arith[hn];try rfl) ⟨ac,_,_,_,_,rfl,hM,λ u hu=>?_⟩;by_cases e:r.a=(u:Int)
    ·have g:=V6 (ay u hu) hq e Aw;have e2:Cn r=none:=by unfold Cn;rw[hl]
     rw[e2,lE,rW ok.b0] at g;exact g
    ·exact V5 (ay u hu) hq e
   |some z =>
    have hn:Bi (CN (some z))=false:=rfl;have e2:Cn r=some (z,1):=by unfold Cn;rw[hl]
    have c1:=T9 (ρ:=[‹Al m rs›,‹.int m›,‹.lst (rs.map Bw)›,some (.ow (.rows (AU ac))),s4,‹.int r.a›,‹.int r.b›,‹CN (some z)›,‹.int r.w›,none]) (i:=3) rfl hM ok.a0 ok.a1 ok.b0 ok.b1;have hle:=LD (at2 ac r.a r.b) (some (z,1));have h9:Hd [cst (at2 ac r.a r.b),.tup [.int z,.int 1]]=.ok (.sh (cst (DU (at2 ac r.a r.b) (some (z,1))))):=hle;have ez:CN (some z)=.int z:=rfl;have pj:=Ta (ρ:=[‹Al m rs›,‹.int m›,‹.lst (rs.map Bw)›,some (.ow (.rows (AU ac))),s4,‹.int r.a›,‹.int r.b›,‹CN (some z)›,‹.int r.w›,none]) (i:=3) (v:=DU (at2 ac r.a r.b) (some (z,1))) rfl hM ok.a0 ok.a1 ok.b0 ok.b1;rw[ez] at c1 pj hn ⊢;refine Bg (ρ':=[‹Al m rs›,‹.int m›,‹.lst (rs.map Bw)›,some (.ow (.rows (AU (put2 ac r.a r.b (DU (at2 ac r.a r.b) (some (z,1))))))),s4,‹.int r.a›,‹.int r.b›,‹.int z›,‹.int r.w›,none]) (by simp_arith[hn,c1,h9,pj];try rfl) ⟨_,_,_,_,_,rfl,(hM.put ok.a0 ok.a1 ok.b0 ok.b1 _).1,λ u hu=>?_⟩;rw[Vo hM ok.a0 ok.a1];by_cases e:r.a=(u:Int)
    ·have g:=V6 (ay u hu) hq e Aw;rw[if_pos e.symm];have e3:r.a.toNat=u:=by omega
     rw[e3];rw[e2] at g;have e4:at2 ac r.a r.b=atC (ac.getD u []) r.b:=by unfold at2;rw[e3]
     rw[e4];exact g
    ·rw[if_neg (λ z=>e z.symm)];exact V5 (ay u hu) hq e
  ·rintro ρ ⟨ac,s5,s6,s7,s8,rfl,hM,ay⟩;rw[za2] at ay;exact⟨ac,s5,s6,s7,s8,rfl,hM,ay⟩
 rintro ρ ⟨ac,s5,s6,k7,k8,rfl,hM,ay⟩;have hF:=kC hM Aw ay;refine Cs (I:=λ ρ=>∃(ac:List (List Co)) (s5 s6 s9:Option Cl),ρ=[‹Al m rs›,‹.int m›,‹.lst (rs.map Bw)›,some (.ow (.rows (AU ac))),s4,s5,s6,k7,k8,s9]/\OS m ac/\FW m m rs (at2 ac)) ?_ ?_
 ·simp_arith[df];refine BW (λ k ρ=>∃(ac:List (List Co)) (s5 s6 s9:Option Cl),ρ=[‹Al m rs›,‹.int m›,‹.lst (rs.map Bw)›,some (.ow (.rows (AU ac))),s4,s5,s6,k7,k8,s9]/\OS m ac/\FW m k rs (at2 ac)) ⟨ac,s5,s6,none,rfl,hM,hF⟩ ?_ ?_
  ·rintro k d ρ hd ⟨az,s5,s6,s9,rfl,ul,lw⟩;obtain⟨aD,hk⟩:=C4 hd;rw[Int.zero_add] at aD;subst aD;refine⟨_,rfl,?_⟩;have k0:(0:Int)<=k:=by omega
   have k1:(k:Int)<m:=by omega
   have oc:=V3 lw hk;have orr:=V4 lw hk;simp_arith[df];refine BW (λ u ρ=>∃(ac:List (List Co)) (s5 s6:Option Cl),ρ=[‹Al m rs›,‹.int m›,‹.lst (rs.map Bw)›,some (.ow (.rows (AU ac))),s4,s5,s6,k7,k8,‹.int k›]/\OS m ac/\∀x y:Int,0<=x->x<m->0<=y->y<m->at2 ac x y=if x<u then over k (at2 az) x y else at2 az x y) ⟨az,s5,s6,rfl,ul,λ x y h0 h1 h2 h3=>by rw[if_neg (by omega)]⟩ ?_ ?_
   ·rintro u d ρ hd ⟨b8,s5,s6,rfl,ie,oq⟩;obtain⟨aD,hu⟩:=C4 hd;rw[Int.zero_add] at aD;subst aD;have u0:(0:Int)<=u:=by omega
    have u1:(u:Int)<m:=by omega
    refine⟨_,rfl,?_⟩;simp_arith[df];refine BW (λ w ρ=>∃(ac:List (List Co)) (s6:Option Cl),ρ=[‹Al m rs›,‹.int m›,‹.lst (rs.map Bw)›,some (.ow (.rows (AU ac))),s4,‹.int u›,s6,k7,k8,‹.int k›]/\OS m ac/\∀x y:Int,0<=x->x<m->0<=y->y<m->at2 ac x y=if x<u\/(x=u/\y<w) then over k (at2 az) x y else at2 az x y) ⟨b8,s6,rfl,ie,λ x y h0 h1 h2 h3=>by
     rw[oq x y h0 h1 h2 h3];by_cases h:x<u
     ·rw[if_pos h,if_pos (.inl h)]
     ·rw[if_neg h,if_neg (by omega)]⟩ ?_ ?_
    ·rintro w d ρ hd ⟨aS,s6,rfl,ig,ii⟩;obtain⟨aD,hw⟩:=C4 hd;rw[Int.zero_add] at aD;subst aD;have w0:(0:Int)<=w:=by omega
     have w1:(w:Int)<m:=by omega
     have a1:at2 aS u w=at2 az u w:=by rw[ii u w u0 u1 w0 w1,if_neg (by omega)]
     have a2:at2 aS u k=at2 az u k:=by
      rw[ii u k u0 u1 k0 k1];split
      ·exact oc u
      ·rfl
     have a3:at2 aS k w=at2 az k w:=by
      rw[ii k w k0 k1 w0 w1];split
      ·exact orr w
      ·rfl
     obtain⟨z6,hP⟩:=ig.put u0 u1 w0 w1 (over k (at2 az) u w);have c1:=T9 (ρ:=[‹Al m rs›,‹.int m›,‹.lst (rs.map Bw)›,some (.ow (.rows (AU aS))),s4,‹.int u›,‹.int w›,k7,k8,‹.int k›]) (i:=3) rfl ig u0 u1 w0 w1;have c2:=T9 (ρ:=[‹Al m rs›,‹.int m›,‹.lst (rs.map Bw)›,some (.ow (.rows (AU aS))),s4,‹.int u›,‹.int w›,k7,k8,‹.int k›]) (i:=3) rfl ig u0 u1 k0 k1;have c3:=T9 (ρ:=[‹Al m rs›,‹.int m›,‹.lst (rs.map Bw)›,some (.ow (.rows (AU aS))),s4,‹.int u›,‹.int w›,k7,k8,‹.int k›]) (i:=3) rfl ig k0 k1 w0 w1;rw[a1] at c1;rw[a2] at c2;rw[a3] at c3;have c9:=Wc (at2 az u k) (at2 az k w);have hle:Hd [cst (at2 az u w),cst (Ak (at2 az u k) (at2 az k w))]=.ok (.sh (cst (over k (at2 az) u w))):=LD _ _;have pj:=Ta (ρ:=[‹Al m rs›,‹.int m›,‹.lst (rs.map Bw)›,some (.ow (.rows (AU aS))),s4,‹.int u›,‹.int w›,k7,k8,‹.int k›]) (i:=3) (v:=over k (at2 az) u w) rfl ig u0 u1 w0 w1;refine⟨_,rfl,?_⟩;refine Bg (ρ':=[‹Al m rs›,‹.int m›,‹.lst (rs.map Bw)›,some (.ow (.rows (AU (put2 aS u w (over k (at2 az) u w))))),s4,‹.int u›,‹.int w›,k7,k8,‹.int k›]) (by simp_arith[c1,c2,c3,c9,hle,pj]) ⟨_,_,rfl,z6,λ x y h0 h1 h2 h3=>?_⟩;rw[hP x y h0 h2];by_cases h:x=u/\y=w
     ·rw[if_pos h,if_pos (by omega),h.1,h.2]
     ·rw[if_neg h,ii x y h0 h1 h2 h3];by_cases h':x<u\/(x=u/\y<w)
      ·rw[if_pos h',if_pos (by omega)]
      ·rw[if_neg h',if_neg (by omega)]
    ·rintro ρ ⟨aS,s6,rfl,ig,ii⟩;rw[BN] at ii;refine⟨aS,_,_,rfl,ig,λ x y h0 h1 h2 h3=>?_⟩;rw[ii x y h0 h1 h2 h3];by_cases h:x<u\/(x=u/\y<m)
     ·rw[if_pos h,if_pos (by omega)]
     ·rw[if_neg h,if_neg (by omega)]
   ·rintro ρ ⟨b8,s5,s6,rfl,ie,oq⟩;rw[BN] at oq;refine⟨b8,_,_,_,rfl,ie,(kB lw hk).congr (by omega) Aw λ x y h0 h1 h2 h3=>?_⟩;rw[oq x y h0 h1 h2 h3,if_pos h1]
  ·rintro ρ ⟨b8,s5,s6,s9,rfl,ie,cf⟩;rw[BN] at cf;exact⟨b8,s5,s6,s9,rfl,ie,cf⟩
 ·rintro ρ ⟨b8,s5,s6,s9,rfl,ie,cf⟩;refine⟨_,rfl,b8,ie,λ x y h0 h1 h2 h3=>xW cf Aw h0 h1 h2 h3,?_⟩;rw[er,Ss,zbf];congr 1;refine zcc λ R _=>?_;dsimp only [Function.comp];rw[Eh]
abbrev Wd:=za5 Ke
def XS:FT "_law_all" 2 1 Wd:=(za0 Ke).1
def XT:S1 Wd:=(za0 Ke).2
abbrev Qj (F:List D->M OT):Prop:=∀c:Co,F [cst c,cst c]=.ok (.sh (.bl true))
def J4:∃F,FT "_law_cost" 1 2 F/\Qj F:=by
 refine⟨_,λ T=>As (k:=0) T.XD MS _ (λ f B0 A outer s H E hr=>(A3 (Bc (Dv (c:=true) (!1)) (A4 (Ae (AR (fU (!0))))) Ay) (A3 (Bc (DW.dt (EM (Cr (BV (c:=true) (Gv (JU _) rfl T.Bv rfl T.O3 (by decide +kernel) (!0)))) (D8 (Mw (c:=true) (!hr) (Gu rfl T.Ll (!0)) A6)))) (A4 (Ae (AR EL))) Ay) (A3 (BU A7.toXCall.own rfl (yT (!0)) (AW 2 MS.nd rfl (zb9 rfl)) (A4 (Bc (DW.dt (EM (Cr (BV (c:=true) (Gv (Uw _) rfl T.Bv rfl T.uA (by decide +kernel) (!2)))) (D8 (BV (c:=true) (Gv (Rh _) rfl T.Bv rfl T.mI (by decide +kernel) (!2)))))) (A4 (Ae (AR EL))) Ay))) (A4 (Ae (AR (fT (!hr) (!0) (!1))))))))),?_⟩;intro c;rfl';refine AS ?_;cases c with
 |none=>rfl
 |some p =>
  have hn:Bi (cst (some p))=false:=rfl;have ht:cst (some p)=.tup [.int p.1,.int p.2]:=rfl;have dk:=KZ (some p) (some p);apply wp_step
  ·simp_arith[hn];rfl
  apply wp_step
  ·simp_arith[ht];rfl
  refine Cs (I:=λ ρ=>∃s,ρ=[‹cst (some p)›,‹cst (some p)›,s]) ?_ ?_
  ·simp_arith[ht];refine BW (λ i ρ=>∃s,ρ=[‹cst (some p)›,‹cst (some p)›,s]) ⟨none,rfl⟩ ?_ ?_
   ·rintro i d ρ hd ⟨s,rfl⟩;obtain⟨x,rfl⟩:∃x,d=D.int x:=by
     rcases i with _|_|i
     ·cases hd;exact⟨_,rfl⟩
     ·cases hd;exact⟨_,rfl⟩
     ·cases hd
    refine⟨_,rfl,?_⟩;refine Bg (ρ':=_) (by simp_arith[];rfl) ⟨_,rfl⟩
   ·rintro ρ ⟨s,rfl⟩;exact⟨s,rfl⟩
  ·rintro ρ ⟨s,rfl⟩;simp_arith[dk,decide_true];rfl
abbrev S2:=za5 J4
def We:FT "_law_cost" 1 2 S2:=(za0 J4).1
def Wf:Qj S2:=(za0 J4).2
abbrev Qk (F:List D->M OT):Prop:=∀(m:Nat) (rs:List Road),F [Al m rs]=.ok (.tup [.sh (.int m),.lst ((rs.map Bw).map .sh)])
def J5:∃F,FT "_law_copy" 1 1 F/\Qk F:=by
 refine⟨_,λ T=>As (k:=0) T.XE VC _ (λ f B0 A outer s H E hr=>(A4 (Ae (LY (Be (AR (A9 (!hr) (!0) A6)) (Be (NT rfl T.GI (A9 (!hr) (!0) A6)) BK)))))),?_⟩;intro m rs;rfl';refine AS ?_;have i0:AG (Al m rs) (.int 0)=.ok (.int m):=rfl;have i1:AG (Al m rs) (.int 1)=.ok (.lst (rs.map Bw)):=rfl;simp_arith[i0,i1];exact⟨_,rfl,rfl⟩
abbrev S4:=za5 J5
def Wg:FT "_law_copy" 1 1 S4:=(za0 J5).1
def Wh:Qk S4:=(za0 J5).2
abbrev Nb (F:List D->M OT):Prop:=F [.AV]=.ok (.sh (cst none))/\∀(c:Int×Int) (r:List D),F [.tup (cst (some c)::r)]=.ok (.sh (cst (some c)))
def He:∃F,FT "_law_first" 1 1 F/\Nb F:=by
 refine⟨_,λ T=>As (k:=0) T.VP To _ (λ f B0 A outer s H E hr=>(A3 (Bc (Dv (c:=true) (!0)) (A4 (Ae (AR Du))) Ay) (A4 (Ae (AR (A9 (!hr) (!0) A6)))))),?_⟩;refine⟨rfl,λ c r=>?_⟩;have x0:AG (.tup (cst (some c)::r)) (.int 0)=.ok (cst (some c)):=zH;have x1:Bi (.tup (cst (some c)::r))=false:=rfl;rfl';refine AS ?_;simp_arith[x1,WU,x0];try rfl
abbrev Hf:=za5 He
def LF:FT "_law_first" 1 1 Hf:=(za0 He).1
def EC:Nb Hf:=(za0 He).2
abbrev Ql (F:List D->M OT):Prop:=∀(m:Nat) (rs:List Road) (L:List Int) (A:LA) (K:List (Int×Int)) (C:Int->Int->Co) (s:Nat),B4 m rs L A K->(∀r∈rs,Jl m r)->s<m->(∀x y:Int,0<=x->x<m->0<=y->y<m->B9 rs x y (C x y))->∃t,F [Al m rs,AL m rs L A K,.int s]=.ok t/\er t=.lst [Dn (C s) m,Dn (C s) m,Dn (C s) m]
def J6:∃F,FT "_law_rows" 7 3 F/\Ql F:=by
 refine⟨_,λ T=>As (k:=6) T.XF VD _ (λ f B0 A outer s H E hr=>(A4 (Ae (EQ (Be (A8 A7.toXCall (FR T) (-hr) rfl (A1 (!0) (A1 (!2) A5)) rfl) (Be (A8 A7.toXCall (EA T) (-hr) rfl (A1 (!1) (A1 (!2) A5)) rfl) (Be (AR (A9 (!hr) (Ai (A8 A7.toXCall (table_at T) (-hr) rfl (A1 (!1) (A1 (FI (A1 (!2) A5)) (A1 (Ai (KO rfl rfl T.GI rfl T.Cp (A9 (!hr) (!0) A6))) A5))) rfl)) A6)) BK))))))),?_⟩;intro m rs L A K C s ok Aw hs hC;dsimp only;have hm:=ok.m2;obtain⟨cs,hR,hF⟩:=CG m s rs hs (by omega) Aw;obtain⟨T,g1,l1,t1⟩:=GQ m rs L A K s ok hs;have ec:cs.map cst=(zaj m).map λ i:Nat=>cst (C s i):=O2 hR.1 λ i a b=>(hR.UZ Aw a b).BM (hC s i (by omega) (by omega) a b);have et:T.map cst=(zaj m).map λ i:Nat=>cst (C s i):=O2 l1 λ i a b=>(t1 i a b).BM (hC s i (by omega) (by omega) a b);have hT:=mM m rs L A K C [(s:Int)] (Bu m) ok hC (by simp) (by rw[G8];omega) (λ x hx=>by cases za9.mp hx;omega) λ g hg=>Ik.mp hg;have n0:AG (Al m rs) (.int 0)=.ok (.int m):=rfl;have z7:lrM (.int (m:Int))=.ok (.lst (((Bu m).map D.int).map .sh)):=by rw[SJ (by omega)];unfold Bu;simp only[zbf];rfl
 rw[ec] at hF;rw[et] at g1;have um:XJ [AL m rs L A K,.lst [.int (s:Int)],.lst ((Bu m).map D.int)]=.ok (.lst [.lst (((zaj m).map λ i:Nat=>cst (C s i)).map .sh)]):=by rw[<-lX];exact hT
 refine⟨.lst [.lst (((zaj m).map λ i:Nat=>cst (C s i)).map .sh),.lst (((zaj m).map λ i:Nat=>cst (C s i)).map .sh),.sh (Dn (C s) m)],?_,?_⟩
 ·rfl';refine AS ?_;have x0:AG (er (.lst [.lst (((zaj m).map λ i:Nat=>cst (C s i)).map .sh)])) (.int 0)=.ok (Dn (C s) m):=by
   have:er (.lst [.lst (((zaj m).map λ i:Nat=>cst (C s i)).map .sh)])=.lst [Dn (C s) m]:=by
    show D.lst [er _]=_;rw[Eh];rfl
   rw[this];rfl
  simp_arith[hF,g1,n0,z7,um,x0];exact⟨_,rfl,rfl⟩
 ·show D.lst [er _,er _,er _]=_;rw[Eh,MB];rfl
abbrev S5:=za5 J6
def Wi:FT "_law_rows" 7 3 S5:=(za0 J6).1
def Wj:Ql S5:=(za0 J6).2
abbrev JN (F:List D->M OT):Prop:=∀(m:Nat) (rs:List Road) (L:List Int) (A:LA) (K:List (Int×Int)) (C:Int->Int->Co) (g:Nat),B4 m rs L A K->rs.length<=900->(∀r∈rs,Jl m r)->g<m->(∀x y:Int,0<=x->x<m->0<=y->y<m->B9 rs x y (C x y))->∃t,F [Al m rs,AL m rs L A K,.int g]=.ok t/\er t=.lst [Dn (λ x=>C x g) m,Dn (λ x=>C x g) m]
def Fn:∃F,FT "_law_columns" 6 3 F/\JN F:=by
 refine⟨_,λ T=>As (k:=5) T.QQ Pz _ (λ f B0 A outer s H E hr=>(A4 (Ae (EQ (Be (A8 A7.toXCall (W6 T) (-hr) rfl (A1 (!0) (A1 (!2) A5)) rfl) (Be (A8 A7.toXCall (FA T) (-hr) rfl (A1 (!1) (A1 (!2) A5)) rfl) BK)))))),?_⟩;intro m rs L A K C g ok hl Aw hg hC;dsimp only;have hm:=ok.m2;obtain⟨t1,h1,e1⟩:=W7 m rs C g (by omega) hl Aw hg hC;obtain⟨T,g1,l1,t2⟩:=IJ m rs L A K g ok hg;have et:T.map cst=(zaj m).map λ i:Nat=>cst (C i g):=O2 (f:=λ x=>C x g) l1 λ i a b=>(t2 i a b).BM (hC i g a b (by omega) (by omega));rw[et] at g1;refine⟨.lst [t1,.lst (((zaj m).map λ i:Nat=>cst (C i g)).map .sh)],?_,?_⟩
 ·rfl';refine AS ?_;simp_arith[h1,g1];exact⟨_,rfl,rfl⟩
 ·show D.lst [er _,er _]=_;rw[e1,Eh];rfl
abbrev LG:=za5 Fn
def Qm:FT "_law_columns" 6 3 LG:=(za0 Fn).1
def Qn:JN LG:=(za0 Fn).2
def XU:∃F:List D->M D,(∀ {P w K mg base f fd},Txt K mg->dR K "law" "law" RP f fd->D4 P w K mg base oB 10 f fd ["_law_script"] (WY K 1 F))/\(∀ns:List Int,ns.length<=63->(∀n∈ns,Sm n)->F [.lst (ns.map D.int)]=.ok (.bl true)):=by
 refine⟨_,fun {P w K mg base f fd} T F=>aa1 (k:=9) F Dg _ (λ B0 A outer s H E hr=>(A3 (AH 1 Dg.nd rfl (Or.inr rfl) (Ai (Bj (A8 (B3 rfl).toXCall (XQ T) (-hr) rfl (A1 (!0) (A1 A6 (A1 A6 A5))) rfl)))) (A3 (AH 2 Dg.nd rfl (zb9 rfl) (Ai (Bj (A8 (B3 rfl).toXCall (TQ T) (-hr) rfl (A1 (Ai (A8 (B3 rfl).toXCall (J0 T) (-hr) rfl (A1 (!0) (A1 A6 A5)) rfl)) (A1 (A9 (!hr) (!1) A6) (A1 A6 A5))) rfl)))) (A3 (AH 3 Dg.nd rfl (zb9 rfl) (Ai (Bj (SM (B3 rfl).toXCall (Ly T).ini (-hr) rfl (A1 (Ai (A8 (B3 rfl).toXCall (Wg T) (-hr) rfl (A1 (!1) A5) rfl)) (A1 (!2) A5)) rfl)))) (A3 (AH 4 Dg.nd rfl (Or.inr rfl) (Ai (Bj (Dc (k:=8) [("House",CH)] (B3 rfl).toXCall (BA (by decide) (NJ T) C7) (-hr) (!3))))) (A3 (AH 5 Dg.nd rfl (Or.inr rfl) (Ai (Bj (A8 (B3 rfl).toXCall (XS T) (-hr) rfl (A1 (!1) A5) rfl)))) (A3 (Jc (NB:=["_law_goal","_law_net","_law_ladder"]) 6 [none,some 1,some 4] Dg.nd rfl (zb9 rfl) rfl (BG (c:=true) rfl T.Cp (A9 (!hr) (!1) A6)) rfl rfl (Bd 0 (by decide) rfl rfl rfl) (λ _ _ _ _=>BD) (λ _ _ _ _=>(Ai (Bj (A8 (B3 rfl).toXCall (Qm T) (-hr) rfl (A1 (!1) (A1 (!2) (A1 (!0) A5))) rfl))))) (A3 (Jc (NB:=["_law_goal","_law_ladder"]) 7 [none,some 4] Dg.nd rfl (zb9 rfl) rfl (BG (c:=true) rfl T.Cp (A9 (!hr) (!1) A6)) rfl rfl (Bd 0 (by decide) rfl rfl rfl) (λ _ _ _ _=>BD) (λ _ _ _ _=>(Ai (Bj (A8 (B3 rfl).toXCall (QT T) (-hr) rfl (A1 (!1) (A1 (!0) A5)) rfl))))) (A3 (BU PassesOwn.never rfl (BG (c:=true) rfl T.Cp (A9 (!hr) (!1) A6)) (AW 8 Dg.nd rfl (Or.inr rfl)) (A3 (AH 9 Dg.nd rfl (zb9 rfl) (Ai (Bj (A8 (B3 rfl).toXCall (Wi T) (-hr) rfl (A1 (!1) (A1 (!4) (A1 (!8) A5))) rfl)))) (A3 (AH 10 Dg.nd rfl (zb9 rfl) (Ai (Bj (A8 (B3 rfl).toXCall (TM T) (-hr) rfl (A1 (!4) (A1 (!8) A5)) rfl)))) (A4 (BU PassesOwn.never rfl (BG (c:=true) rfl T.Cp (A9 (!hr) (!1) A6)) (AW 11 Dg.nd rfl (Or.inr rfl)) (A3 (C5 12 Dg.nd rfl (zb9 rfl) (NX (Ai (C6 (NB:=["_law_row","_law_goal"]) [none,some 11] rfl (B6 (!9)) rfl rfl (Bd 0 (by decide) rfl rfl rfl) (λ _ _ _ _=>BD) (λ _ _ _ _=>(A9 (!hr) (!0) (!1))))) (Ai (C6 (NB:=["_law_column","_law_start"]) [none,some 8] rfl (B6 (A9 (!hr) (!6) (!11))) rfl rfl (Bd 0 (by decide) rfl rfl rfl) (λ _ _ _ _=>BD) (λ _ _ _ _=>(A9 (!hr) (!0) (!1))))))) (A3 (C5 12 Dg.nd rfl (zb9 rfl) (ER (NX (!12) (FI (A1 (Ai (Bj (A8 (B3 rfl).toXCall (Ht T) (-hr) rfl (A1 (!4) (A1 (!8) (A1 (!11) A5))) rfl))) (A1 (Ai (Bj (A8 (B3 rfl).toXCall (LF T) (-hr) rfl (A1 (Ai (A8 (B3 rfl).toXCall (zM T) (-hr) rfl (A1 (!10) (A1 (A9 (!hr) (!7) (!11)) A5)) rfl)) A5) rfl))) A5)))))) (A3 (G3 12 (pv 12) (Ai (Bj (A8 (B3 rfl).toXCall (LF T) (-hr) rfl (A1 (Ai (lQ (B3 rfl).toXCall (TF T) (-hr) (!3) (A1 (!8) (A1 (!11) A5)) rfl)) A5) rfl)))) (A4 (Bc (LZ (Cr (BV (c:=true) (X5 rfl rfl T.mH (Ai (C6 (NB:=["_law_one","_law_goal","_law_costs","_law_start"]) [none,some 11,some 5,some 8] rfl (B6 (!12)) rfl rfl (Bd 0 (by decide) rfl rfl rfl) (λ _ _ _ _=>BD) (λ _ _ _ _=>(Ai (Bj (A8 (B3 rfl).toXCall (We T) (-hr) rfl (A1 (!0) (A1 (A9 (!hr) (A9 (!hr) (!2) (!3)) (!1)) A5)) rfl)))))))))) (A4 (gC (WQ EL))) Ay)))))))))) (A4 (gC (WQ EL)))))))))))),?_⟩;intro ns js bc;rfl';refine abg ?_;obtain⟨z1,cy,cf⟩:=J1 ns 1 bc;have uo:EB [.lst (ns.map D.int),.int 1]=.ok (.sh (.int z1)):=cf;obtain⟨m,rs,aJ,aO,dl,bA,tm,z8,z9⟩:=XR ns js bc;have n0:AG (Al m rs) (.int 0)=.ok (.int m):=rfl;have e8:∀r∈rs,Jl m r:=λ r hr=>(bA r hr).okR.1;have lj:=Wh m rs;have e2:er (.tup [.sh (.int m),.lst ((rs.map Bw).map .sh)])=Al m rs:=by rw[L0,MB,Eh];rfl
 obtain⟨L,hL,hFo⟩:=TR z1 m 0 (by omega) (by decide) (by decide);obtain⟨th,hI,hE⟩:=Lz m rs L aJ (by omega) (by omega) bA hL;have hI':UQ (Er (.ins "House" [] []) [Al m rs,.lst (L.map D.int)])=.ok th:=by rw[hI];rfl
 obtain⟨A,K,ok,tl,hFl,hEl⟩:=NK m rs L aJ (by omega) (by omega) bA hL;obtain⟨ac,hM,hA,tc,hFc,hEc⟩:=XT m rs aJ (by omega) (by omega) e8;have oj:E6 [("House",CH)] "ladder" (HE m rs L)=.ok CH:=rfl;apply wp_step
 ·simp_arith[z8,z9];rfl
 try simp only[zae,za8]
 apply wp_step
 ·simp_arith[uo,n0,hFo];rfl
 try simp only[zae,za8]
 apply wp_step
 ·simp_arith[lj,e2,hI',hE];rfl
 try simp only[zae,za8]
 apply wp_step
 ·simp_arith[oj,hFl,hEl];rfl
 try simp only[zae,za8]
 apply wp_step
 ·simp_arith[hFc,hEc];rfl
 try simp only[zae,za8]
 have bS:Zx (.int (m:Int))=.ok (CK 0 m):=Kv (by omega);have wv:((zaj m).map λ i:Nat=>D.int (i:Int)).length<=1000:=by rw[za2,zc1];omega
 have ww:∀(f:Nat->D) (j:Nat),j<m->AG (.lst ((zaj m).map f)) (.int (j:Int))=.ok (f j):=λ f j hj=>Ft (by omega) (by rw[zbr,zc3 hj]);refine wp_step (ρ':=[‹.lst (ns.map D.int)›,‹Al m rs›,‹.lst (L.map D.int)›,‹HE m rs L›,‹AL m rs L A K›,‹.lst ((AU ac).map D.lst)›,‹.lst ((zaj m).map λ g:Nat=>D.lst [Dn (λ x=>at2 ac x g) m,Dn (λ x=>at2 ac x g) m])›,none,none,none,none,none,none]) (by
  simp_arith[n0,bS,EN,if_pos wv];rw[Bf (λ g:Nat=>D.lst [Dn (λ x=>at2 ac x g) m,Dn (λ x=>at2 ac x g) m]) (λ g hg=>⟨_,rfl,rfl,by
   obtain⟨t,h1,h2⟩:=Qn m rs L A K (at2 ac) g ok (by omega) e8 (zbz.mp hg) hA;simp_arith[h1,h2]⟩)]
  simp_arith[];try rfl) ?_
 refine wp_step (ρ':=[‹.lst (ns.map D.int)›,‹Al m rs›,‹.lst (L.map D.int)›,‹HE m rs L›,‹AL m rs L A K›,‹.lst ((AU ac).map D.lst)›,‹.lst ((zaj m).map λ g:Nat=>D.lst [Dn (λ x=>at2 ac x g) m,Dn (λ x=>at2 ac x g) m])›,‹.lst ((zaj m).map λ i:Nat=>D.lst ((Bk (λ x y=>at2 ac y x) i L.reverse).map (DC (λ x y=>at2 ac y x) i)))›,none,none,none,none,none]) (by
  simp_arith[n0,bS,EN,if_pos wv];rw[Bf (λ i:Nat=>D.lst ((Bk (λ x y=>at2 ac y x) i L.reverse).map (DC (λ x y=>at2 ac y x) i))) (λ i hi=>⟨_,rfl,rfl,by
   have:=QU m rs L A K (at2 ac) i ok hA (zbz.mp hi);simp_arith[this]⟩)]
  simp_arith[];try rfl) ?_
 have hT:lS m (at2 ac):=Te hA;have c4:L.reverse.Nodup:=(List.reverse_perm L).nodup_iff.mpr (EX hL);have hlen:=EW hL;have wx:∀x∈L.reverse,0<=x/\x<(m:Int):=λ x hx=>(AK hL).mp (zce.mp hx);have iii:=ww λ i:Nat=>D.lst ((Bk (λ x y=>at2 ac y x) i L.reverse).map (DC (λ x y=>at2 ac y x) i));have icc:=ww λ g:Nat=>D.lst [Dn (λ x=>at2 ac x g) m,Dn (λ x=>at2 ac x g) m];have ay:∀s:Int,0<=s->s<m->AG (.lst ((AU ac).map D.lst)) (.int s)=.ok (.lst ((ac.getD s.toNat []).map cst)):=λ s h0 h1=>by
  have e:=(hM.get h0 h1).1;have e2:(AU ac)[s.toNat]?=some ((ac.getD s.toNat []).map cst):=by unfold AU;rw[zap,e];rfl
  exact Ft h0 e2
 have hix:∀x y:Int,0<=x->x<m->0<=y->y<m->AG (.lst ((ac.getD x.toNat []).map cst)) (.int y)=.ok (cst (at2 ac x y)):=λ x y a b c d=>BX c (by rw[(hM.get a b).2];exact d);have uq:∀s g:Nat,s<m->g<m->∃d,zL [.lst ((Bk (at2 ac) s L.reverse).map (DC (at2 ac) s)),.lst ((Bk (λ x y=>at2 ac y x) g L.reverse).map (DC (λ x y=>at2 ac y x) g))]=.ok (.sh d)/\Hf [d]=.ok (.sh (cst (at2 ac s g))):=λ s g hs hg=>by
  have ur:(0:Int)<=(s:Int)/\(s:Int)<(m:Int):=⟨by omega,by omega⟩;have wy:(0:Int)<=(g:Int)/\(g:Int)<(m:Int):=⟨by omega,by omega⟩;have ll1:=Pb (at2 ac) s L.reverse;have ll2:=Pb (λ x y=>at2 ac y x) g L.reverse;rw[zbi] at ll1 ll2;have wz:=zN (Ey (at2 ac) s (Bk (at2 ac) s L.reverse)) (Ey (λ x y=>at2 ac y x) g (Bk (λ x y=>at2 ac y x) g L.reverse)) (by rw[dB];exact Xq c4) (by unfold Ey;rw[za2];omega) (by unfold Ey;rw[za2];omega);rw[<-YV EH,<-YV EH] at wz;refine⟨_,wz,?_⟩;cases hc:at2 ac s g with
  |none =>
   rw[dA hT ur wy wx hc];exact EC.1
  |some c =>
   have h00:at2 ac s s=some (0,0):=(hA s s (by omega) (by omega) (by omega) (by omega)).BM (min_self e8 s);obtain⟨Dl,h,El,eR,hb,hn⟩:=lW (B:=λ x=>Ak (at2 ac s x) (at2 ac x g)=at2 ac s g) (R:=L.reverse) ⟨s,zce.mpr ((AK hL).mpr ur),by rw[h00,Ry]⟩;have i9:=cZ (D:=Dl) (E:=El) (h:=h) hT ur wy (by rw[<-eR];exact wx) hc hb hn;rw[<-eR] at i9;rw[i9];exact EC.2 c _
 refine Cs (I:=λ ρ=>∃s8 s9 je dn aK:Option Cl,ρ=[‹.lst (ns.map D.int)›,‹Al m rs›,‹.lst (L.map D.int)›,‹HE m rs L›,‹AL m rs L A K›,‹.lst ((AU ac).map D.lst)›,‹.lst ((zaj m).map λ g:Nat=>D.lst [Dn (λ x=>at2 ac x g) m,Dn (λ x=>at2 ac x g) m])›,‹.lst ((zaj m).map λ i:Nat=>D.lst ((Bk (λ x y=>at2 ac y x) i L.reverse).map (DC (λ x y=>at2 ac y x) i)))›,s8,s9,je,dn,aK]) ?_ ?_
 ·simp_arith[n0,bS];refine BW (λ _ ρ=>∃s8 s9 je dn aK:Option Cl,ρ=[‹.lst (ns.map D.int)›,‹Al m rs›,‹.lst (L.map D.int)›,‹HE m rs L›,‹AL m rs L A K›,‹.lst ((AU ac).map D.lst)›,‹.lst ((zaj m).map λ g:Nat=>D.lst [Dn (λ x=>at2 ac x g) m,Dn (λ x=>at2 ac x g) m])›,‹.lst ((zaj m).map λ i:Nat=>D.lst ((Bk (λ x y=>at2 ac y x) i L.reverse).map (DC (λ x y=>at2 ac y x) i)))›,s8,s9,je,dn,aK]) ⟨_,_,_,_,_,rfl⟩ ?_ ?_
  ·rintro s d ρ hd ⟨s8,s9,je,dn,aK,rfl⟩;obtain⟨aD,hs⟩:=C4 hd;rw[Int.zero_add] at aD;subst aD;refine⟨_,rfl,?_⟩;obtain⟨tr,hFr,hEr⟩:=Wj m rs L A K (at2 ac) s ok e8 hs hA;have f6:=TN m rs L A K (at2 ac) s ok hA hs;apply wp_step
   ·simp_arith[hFr,hEr];rfl
   try simp only[zae,za8]
   apply wp_step
   ·simp_arith[f6];rfl
   try simp only[zae,za8]
   simp_arith[n0,bS];refine BW (λ _ ρ=>∃dn aK:Option Cl,ρ=[‹.lst (ns.map D.int)›,‹Al m rs›,‹.lst (L.map D.int)›,‹HE m rs L›,‹AL m rs L A K›,‹.lst ((AU ac).map D.lst)›,‹.lst ((zaj m).map λ g:Nat=>D.lst [Dn (λ x=>at2 ac x g) m,Dn (λ x=>at2 ac x g) m])›,‹.lst ((zaj m).map λ i:Nat=>D.lst ((Bk (λ x y=>at2 ac y x) i L.reverse).map (DC (λ x y=>at2 ac y x) i)))›,‹.int (s:Int)›,‹.lst [Dn (at2 ac s) m,Dn (at2 ac s) m,Dn (at2 ac s) m]›,‹.lst ((Bk (at2 ac) s L.reverse).map (DC (at2 ac) s))›,dn,aK]) ⟨_,_,rfl⟩ ?_ ?_
   ·rintro g d ρ hd ⟨dn,aK,rfl⟩;obtain⟨aD,hg⟩:=C4 hd;rw[Int.zero_add] at aD;subst aD;refine⟨_,rfl,?_⟩;obtain⟨c,hc⟩:∃c,c=at2 ac s g:=⟨_,rfl⟩;have i1:AG (Dn (at2 ac s) m) (.int (g:Int))=.ok (cst c):=by rw[hc];exact lY hg
    have i2:AG (Dn (λ x=>at2 ac x g) m) (.int (s:Int))=.ok (cst c):=by rw[hc];exact lY (f:=λ x=>at2 ac x g) hs
    have i3:=icc g hg;have i4:=iii g hg;have i5:=ay s (by omega) (by omega);have i6:=hix s g (by omega) (by omega) (by omega) (by omega);rw[<-hc] at i6;have jd:=Hu m rs L A K s g c ok hs hg (by rw[hc];exact hA s g (by omega) (by omega) (by omega) (by omega));obtain⟨dm,hm3,w4⟩:=uq s g hs hg;rw[<-hc] at w4;obtain⟨T,Nn,um,w5⟩:=TH m rs L s g aJ (by omega) (by omega) bA hL hs hg;have hTs:atC T s=c:=by rw[hc];exact (um s (by omega) (by omega)).BM (hA s g (by omega) (by omega) (by omega) (by omega))
    rw[hTs] at w5;have hsa:E6 [("House",Fl)] "ask" (HE m rs L)=.ok Fl:=rfl;have hT5:Fl (HE m rs L::([D.int (s:Int),.int (g:Int)]++[.AV]))=.ok (lK c Nn T):=w5;have ut:Hf [yZ c Nn T]=.ok (.sh (cst c)):=by
     cases c with
     |none=>exact EC.1
     |some c=>exact EC.2 c _
    have hlc:=Wf c;have l3:[Dn (at2 ac s) m,Dn (at2 ac s) m,Dn (at2 ac s) m].length<=1000:=by simp
    have l2:[Dn (λ x=>at2 ac x g) m,Dn (λ x=>at2 ac x g) m].length<=1000:=by simp
    have l8:[cst c,cst c,cst c,cst c,cst c,cst c,cst c,cst c].length<=1000:=by simp
    have l5:MA (.lst [cst c,cst c,cst c]) (.lst [cst c,cst c])=.ok (.lst ([cst c,cst c,cst c,cst c,cst c].map .sh)):=NZ (by simp);have l7:MA (.lst [cst c,cst c,cst c,cst c,cst c]) (.lst [cst c,cst c])=.ok (.lst ([cst c,cst c,cst c,cst c,cst c,cst c,cst c].map .sh)):=NZ (by simp);have d7:ZL (.ok (.lst ([cst c,cst c,cst c,cst c,cst c,cst c,cst c].map .sh)))=.ok (.lst ([cst c,cst c,cst c,cst c,cst c,cst c,cst c].map .sh)):=Vg [c,c,c,c,c,c,c];refine wp_step (ρ':=[‹.lst (ns.map D.int)›,‹Al m rs›,‹.lst (L.map D.int)›,‹HE m rs L›,‹AL m rs L A K›,‹.lst ((AU ac).map D.lst)›,‹.lst ((zaj m).map λ g:Nat=>D.lst [Dn (λ x=>at2 ac x g) m,Dn (λ x=>at2 ac x g) m])›,‹.lst ((zaj m).map λ i:Nat=>D.lst ((Bk (λ x y=>at2 ac y x) i L.reverse).map (DC (λ x y=>at2 ac y x) i)))›,‹.int (s:Int)›,‹.lst [Dn (at2 ac s) m,Dn (at2 ac s) m,Dn (at2 ac s) m]›,‹.lst ((Bk (at2 ac) s L.reverse).map (DC (at2 ac) s))›,‹.int (g:Int)›,some (.own [cst c,cst c,cst c,cst c,cst c])]) (by
     simp_arith[i3,if_pos l3,if_pos l2];rw[LV (λ _=>cst c) [Dn (at2 ac s) m,Dn (at2 ac s) m,Dn (at2 ac s) m] (λ d hd=>by
      have e:d=Dn (at2 ac s) m:=by simpa using hd
      subst e;exact⟨_,rfl,rfl,by simp_arith[i1]⟩),LV (λ _=>cst c) [Dn (λ x=>at2 ac x g) m,Dn (λ x=>at2 ac x g) m] (λ d hd=>by
      have e:d=Dn (λ x=>at2 ac x g) m:=by simpa using hd
      subst e;exact⟨_,rfl,rfl,by simp_arith[i2]⟩)]
     rw[show ([Dn (at2 ac s) m,Dn (at2 ac s) m,Dn (at2 ac s) m].map λ _=>cst c)=[cst c,cst c,cst c] from rfl,show ([Dn (λ x=>at2 ac x g) m,Dn (λ x=>at2 ac x g) m].map λ _=>cst c)=[cst c,cst c] from rfl];simp_arith[l5];try rfl) ?_
    apply wp_step
    ·simp_arith[i4,jd,hm3,w4,l7,d7];rfl
    try simp only[zae,za8]
    apply wp_step
    ·simp_arith[hsa,hT5,sD,ut];rfl
    try simp only[zae,za8]
    refine Bg (ρ':=[‹.lst (ns.map D.int)›,‹Al m rs›,‹.lst (L.map D.int)›,‹HE m rs L›,‹AL m rs L A K›,‹.lst ((AU ac).map D.lst)›,‹.lst ((zaj m).map λ g:Nat=>D.lst [Dn (λ x=>at2 ac x g) m,Dn (λ x=>at2 ac x g) m])›,‹.lst ((zaj m).map λ i:Nat=>D.lst ((Bk (λ x y=>at2 ac y x) i L.reverse).map (DC (λ x y=>at2 ac y x) i)))›,‹.int (s:Int)›,‹.lst [Dn (at2 ac s) m,Dn (at2 ac s) m,Dn (at2 ac s) m]›,‹.lst ((Bk (at2 ac) s L.reverse).map (DC (at2 ac) s))›,‹.int (g:Int)›,some (.own [cst c,cst c,cst c,cst c,cst c,cst c,cst c,cst c])]) (by
     simp_arith[if_pos l8,zco,List.nil_append];rw[LV (λ _=>.bl true) [cst c,cst c,cst c,cst c,cst c,cst c,cst c,cst c] (λ d hd=>by
      have e:d=cst c:=by simpa using hd
      subst e;exact⟨_,rfl,rfl,by simp_arith[i5,i6,hlc]⟩)]
     rfl) ⟨_,_,rfl⟩
   ·rintro ρ ⟨dn,aK,rfl⟩;exact⟨_,_,_,_,_,rfl⟩
  ·rintro ρ ⟨s8,s9,je,dn,aK,rfl⟩;exact⟨_,_,_,_,_,rfl⟩
 rintro ρ ⟨s8,s9,je,dn,aK,rfl⟩;simp_arith[];rfl
abbrev mP:List D->M D:=za5 XU
def zO {P w K mg base f fd}:Txt K mg->dR K "law" "law" RP f fd->D4 P w K mg base oB 10 f fd ["_law_script"] (WY K 1 mP):=(za0 XU).1
def zP:∀ns:List Int,ns.length<=63->(∀n∈ns,Sm n)->mP [.lst (ns.map D.int)]=.ok (.bl true):=(za0 XU).2
set_option maxHeartbeats 0 in
def left (w:World):(PySem.W.openEnds treeTable zP0 w 10500).map (λ s=>PySem.W.openSeen (Kf zP0) (dS zP0) (importedModules zP0.main.body) (λ s=>PySem.W.xlAt (Kf zP0) [] s&&PySem.W.recOk [] s) true s)=some (PySem.W.openGood (Kf zP0) (dS zP0)):=by
 rw[Yz,xR,PySem.W.Fast.te4187177175401517315,PySem.W.Fast.te5923862056798008813];exact (aac w)
set_option maxHeartbeats 0 in
def zQ (w:World):S6 (Kp R0 zP0 w) zP0:=by
 rw[xR];exact mW w
set_option maxHeartbeats 0 in
def zR (w:World):S7 (Kp R0 zP0 w) zP0:=by
 rw[xR];exact mX w
def all_mk {l:PySem.W.OpenLaw}(X:K.In h)(G:h.Ns mainGlobals mg)(ut:mg "law" = some (.ref fa))(u0:S6 K zP0)(u1:S7 K zP0):
 ∃fd:FuncData,(∀(s:Shared) (v:Value),BindsTo s fd ⟨[v],[]⟩ [("_law_script",v)])/\∀base:Heap,K.In base->base.Ns mainGlobals mg->D4 l.prog w K mg base oB 10 fa fd ["_law_script"] (WY K 1 mP):=by
 have ai:U9 K _:=⟨u0.1.1.1.1.1.2,u0.1.1.1.1.2.1,u0.1.1.1.1.2.2,u0.1.1.1.2.1.1⟩;have ar:U9 K _:=⟨u0.1.1.2.1.1.2,u0.1.1.2.1.2,u0.1.1.2.2.1.1,u0.1.1.2.2.1.2⟩;obtain⟨f36,ly,ad7,to36,ad8,l6,ae0,ae1,ae2,ae3,l9,me,mf,mh,mi,a36,i36,l36,c36,k36,ml⟩:=u1.2.2.2.1.2.ex;have F36:=SO (st:=AI) l36 c36 k36;have B36:Binds K (zbb "__init__" "Ladder.__init__" (B8 AI) (AF AI) (A2 AI) (.ref ly) l9 me mf l6 mh mi) ["self","net","order"] []:=λ s us hK hl=>by
  have ao:us.length=3:=by simpa using hl
  rcases us with _|⟨_,_|⟨_,_|⟨_,_|⟨_,us⟩⟩⟩⟩<;>first|exact zd1 hK rfl ml rfl rfl rfl|(simp at ao)
 have D36:Binds K (zbb "__init__" "Ladder.__init__" (B8 AI) (AF AI) (A2 AI) (.ref ly) l9 me mf l6 mh mi) ["self","net","order"] [.none]:=λ s us hK hl=>by
  have ao:us.length=2:=by simpa using hl
  rcases us with _|⟨_,_|⟨_,_|⟨_,_|⟨_,us⟩⟩⟩⟩<;>first|exact zd1 hK rfl ml rfl rfl rfl|(simp at ao)
 have T36:OO K mg "Ladder" "Ladder.__init__" AI ["self","net","order"]:=⟨_,_,_,⟨u0.1.1.1.1.1.1,zd4 X G u0.1.1.1.1.1.1⟩,⟨u0.1.1.1.2.1.2,a36,i36,u0.1.1.1.2.2⟩,F36,B36,D36⟩;obtain⟨f46,mn,af3,to46,af4,mo,af5,af6,af7,af8,mq,mr,mt,mw,mx,a46,i46,l46,c46,k46,my⟩:=u1.2.2.2.2.1.1.ex;have F46:=SO (st:=AN) l46 c46 k46;have B46:Binds K (zbb "__init__" "House.__init__" (B8 AN) (AF AN) (A2 AN) (.ref mn) mq mr mt mo mw mx) ["self","net","order"] []:=λ s us hK hl=>by
  have ao:us.length=3:=by simpa using hl
  rcases us with _|⟨_,_|⟨_,_|⟨_,_|⟨_,us⟩⟩⟩⟩<;>first|exact zd1 hK rfl my rfl rfl rfl|(simp at ao)
 have D46:Binds K (zbb "__init__" "House.__init__" (B8 AN) (AF AN) (A2 AN) (.ref mn) mq mr mt mo mw mx) ["self","net","order"] [.none]:=λ s us hK hl=>by
  have ao:us.length=2:=by simpa using hl
  rcases us with _|⟨_,_|⟨_,_|⟨_,_|⟨_,us⟩⟩⟩⟩<;>first|exact zd1 hK rfl my rfl rfl rfl|(simp at ao)
 have T46:OO K mg "House" "House.__init__" AN ["self","net","order"]:=⟨_,_,_,⟨u0.1.1.2.1.1.1,zd4 X G u0.1.1.2.1.1.1⟩,⟨u0.1.1.2.2.2,a46,i46,u0.1.2.1.1.1.1⟩,F46,B46,D46⟩;obtain⟨f48,ij,ag8,to48,ag9,ik,ah0,ah1,ah2,ah3,il,im,ip,iq,ir,a48,i48,l48,c48,w6,iu⟩:=u1.2.2.2.2.1.2.ex;have F48:=SO (st:=B5) l48 c48 w6;have B48:Binds K (zbb "ask" "House.ask" (B8 B5) (AF B5) (A2 B5) (.ref ij) il im ip ik iq ir) ["self","start","goal","shut"] []:=λ s us hK hl=>by
  have ao:us.length=4:=by simpa using hl
  rcases us with _|⟨_,_|⟨_,_|⟨_,_|⟨_,_|⟨_,us⟩⟩⟩⟩⟩<;>first|exact zd1 hK rfl iu rfl rfl rfl|(simp at ao)
 have D48:Binds K (zbb "ask" "House.ask" (B8 B5) (AF B5) (A2 B5) (.ref ij) il im ip ik iq ir) ["self","start","goal","shut"] [.none]:=λ s us hK hl=>by
  have ao:us.length=3:=by simpa using hl
  rcases us with _|⟨_,_|⟨_,_|⟨_,_|⟨_,_|⟨_,us⟩⟩⟩⟩⟩<;>first|exact zd1 hK rfl iu rfl rfl rfl|(simp at ao)
 have W48:KwB K (zbb "ask" "House.ask" (B8 B5) (AF B5) (A2 B5) (.ref ij) il im ip ik iq ir) ["self","start","goal","shut"] "shut" := λ s us u hK hl=>by
  have ao:us.length=3:=by simpa using hl
  rcases us with _|⟨_,_|⟨_,_|⟨_,_|⟨_,_|⟨_,us⟩⟩⟩⟩⟩<;>first|exact zd1 hK rfl iu rfl rfl rfl|(simp at ao)
 have T48:Xo K "House" "ask" "House.ask" "shut" B5 ["self","start","goal","shut"]:=⟨_,_,_,u0.1.1.2.1.1.1,ar,⟨a48,i48,w6⟩,F48,⟨B48,D48⟩,W48⟩;obtain⟨f67,ai3,ai4,ai5,ai6,ai7,ai8,ai9,aj0,aj1,w9,l67,c67,k67⟩:=u1.2.2.2.2.2.ex;cases ut.symm.trans (zd4 X G w9);have uu:=WK (st:=RP) l67 c67 k67;have T67:Ax K mg "law" RP ["_law_script"]:=⟨_,_,uu,zd4 X G w9,uu.binds (λ _ _ _ _ _ _=>ln1 λ _=>rfl)⟩;have T:Txt K mg:=⟨AD X G u0.1.2.1.1.1.2,AD X G u0.1.2.1.1.2.1,AD X G u0.1.2.1.1.2.2,AD X G u0.1.2.1.2.1.1,AD X G u0.1.2.1.2.1.2,AD X G u0.1.2.1.2.2,AD X G u0.1.2.2.1.1.1,AD X G u0.1.2.2.1.1.2,AD X G u0.1.2.2.1.2,AD X G u0.1.2.2.2.1.1,AD X G u0.1.2.2.2.1.2,AD X G u0.1.2.2.2.2,AD X G u0.2.1.1.1.1.1,AD X G u0.2.1.1.1.1.2,AD X G u0.2.1.1.1.2.1,AD X G u0.2.1.1.1.2.2,AD X G u0.2.1.1.2.1.1,AD X G u0.2.1.1.2.1.2,AD X G u0.2.1.1.2.2,AD X G u0.2.1.2.1.1.1,AD X G u0.2.1.2.1.1.2,AD X G u0.2.1.2.1.2,AD X G u0.2.1.2.2.1.1,AD X G u0.2.1.2.2.1.2,AD X G u0.2.1.2.2.2,AD X G u0.2.2.1.1.1.1,AD X G u0.2.2.1.1.1.2,AD X G u0.2.2.1.1.2.1,AD X G u0.2.2.1.1.2.2,AD X G u0.2.2.1.2.1.1,AD X G u0.2.2.1.2.1.2,AD X G u0.2.2.1.2.2,AD X G u0.2.2.2.1.1.1,AD X G u0.2.2.2.1.1.2,AD X G u0.2.2.2.1.2,T36,Rw u0.1.1.1.1.1.1 ai u0.2.2.2.2.1.1,Rw u0.1.1.1.1.1.1 ai u0.2.2.2.2.1.2,Rw u0.1.1.1.1.1.1 ai u0.2.2.2.2.2,Rw u0.1.1.1.1.1.1 ai u1.1.1.1.1.1.1,Rw u0.1.1.1.1.1.1 ai u1.1.1.1.1.1.2,AD X G u1.1.1.1.1.2.1,AD X G u1.1.1.1.1.2.2,AD X G u1.1.1.1.2.1.1,AD X G u1.1.1.1.2.1.2,T46,Rw u0.1.1.2.1.1.1 ar u1.1.1.1.2.2,T48,AD X G u1.1.1.2.1.1.1,AD X G u1.1.1.2.1.1.2,AD X G u1.1.1.2.1.2,AD X G u1.1.1.2.2.1.1,AD X G u1.1.1.2.2.1.2,AD X G u1.1.1.2.2.2,AD X G u1.1.2.1.1.1.1,AD X G u1.1.2.1.1.1.2,AD X G u1.1.2.1.1.2.1,AD X G u1.1.2.1.1.2.2,AD X G u1.1.2.1.2.1.1,AD X G u1.1.2.1.2.1.2,AD X G u1.1.2.1.2.2,AD X G u1.1.2.2.1.1.1,AD X G u1.1.2.2.1.1.2,AD X G u1.1.2.2.1.2,AD X G u1.1.2.2.2.1.1,AD X G u1.1.2.2.2.1.2,T67,zbg X G u1.1.2.2.2.2,zbg X G u1.2.1.1.1.1.1,zbg X G u1.2.1.1.1.1.2,zbg X G u1.2.1.1.1.2.1,zbg X G u1.2.1.1.1.2.2,zbg X G u1.2.1.1.2.1.1,zbg X G u1.2.1.1.2.1.2,zbg X G u1.2.1.1.2.2,zbg X G u1.2.1.2.1.1.1,zbg X G u1.2.1.2.1.1.2,zbg X G u1.2.1.2.1.2,zbg X G u1.2.1.2.2.1.1,zbg X G u1.2.1.2.2.1.2,zbg X G u1.2.1.2.2.2,tV X G u0.2.1.1.2.1.2,tV X G u0.2.1.1.2.1.1,abO X G u1.2.2.1.1.1.1 u0.2.1.2.2.1.2,⟨_,u0.1.1.2.1.1.1,ar,u1.2.2.1.1.1.2⟩,⟨_,u0.1.1.2.1.1.1,ar,u1.2.2.1.1.2⟩,⟨_,u0.1.1.2.1.1.1,ar,u1.2.2.1.2.1.1⟩,⟨_,u0.1.1.1.1.1.1,ai,u1.2.2.1.2.1.2⟩,⟨_,u0.1.1.1.1.1.1,ai,u1.2.2.1.2.2⟩,⟨_,u0.1.1.1.1.1.1,ai,u1.2.2.2.1.1.1⟩,⟨_,u0.1.1.1.1.1.1,ai,u1.2.2.2.1.1.2⟩⟩;refine⟨_,?_,λ base _ _=>zO T uu⟩;exact λ s v=>.of_eq rfl
def walk {l:PySem.W.OpenLaw}{K:World->za1}(hn:l.most=some 63)(gx:d.params.defaults=[])(hY:∀(w:World) (h:Heap),YP w h->(K w).In h)(F:∀(w:World) (mg:Str->Option Value) (fa:Addr) (h:Heap),(K w).In h->h.Ns mainGlobals mg->mg d.name=some (.ref fa)->
  ∃fd:FuncData,(∀(s:Shared) (u:Value),BindsTo s fd ⟨[u],[]⟩ [("_law_script",u)])/\∀base:Heap,(K w).In base->base.Ns mainGlobals mg->D4 l.prog w (K w) mg base oB 10 fa fd ["_law_script"] (WY (K w) 1 mP)):
 PySem.W.WalkO q loose XP YP l.row.toRowW d [] (λ f vs=>PySem.call f vs):=
 L2.abv (n:=63) (k:=10) (x := "_law_script") (CX:=λ _=>oB) (sp:=λ w=>WY (K w) 1 mP) hn (by decide) gx ⟨rfl,by decide,by decide⟩ hY F (λ w H a ns bc hl _ hS=>oX zP (K w) H a ns bc hl hS) λ _ _ _ _ _ z=>z
end dq
open PySem PySem.W PyProof.Rows L2
set_option maxRecDepth 100000 in
set_option autoImplicit true
set_option relaxedAutoImplicit true
set_option maxHeartbeats 0 in
theorem PySem.Challenge.cw_nodeladder_k92_whole_all_tell_alike_holds : PySem.Challenge.rw_nodeladder_k92_whole_all_tell_alike.Holds := by
 w_on;o_law
 refine holds_open (q:=Kf zP0) (loose:=(dS zP0)) (Xt:=λ s=>xlAt (Kf zP0) [] s&&recOk [] s) (XP:=XL (Kf zP0) []) (Yf:=λ s=>s.heap) (Ya:=λ w=>dU R0 zP0 w 10500) (YP:=λ w h=>abu (dU R0 zP0 w 10500) h) (N:=10500) (qR dq.left) (λ w s e b o q=>by rw[<-e] at q;exact q) (λ w h h' a b c o q=>b c o (a c o q)) (λ s e=>xl_of s (Bool.and_eq_true_iff.mp e).1) XL.keeps (by rfl) (by rfl) (by rfl) (λ s e=>recFacts_of (Bool.and_eq_true_iff.mp e).2) (by rfl) (by first|assumption|decide +kernel) (by decide +kernel) ⟨rfl,rfl,rfl,rfl,rfl,by decide +kernel⟩ ?hw ?hc;case hw=>w_witness2
 case hc =>
  refine dq.walk (l:=PySem.Challenge.rw_nodeladder_k92_whole_all_tell_alike) (K:=dq.Kp R0 zP0) rfl rfl (λ w h Y=>xS Y) ?F;intro w mg fa h KX G gy;exact dq.all_mk KX G gy (dq.zQ w) (dq.zR w)
